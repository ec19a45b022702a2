/- A record, a slice of records that is handed in, read; and read again behind the call. -/
import Derived.Test.YtjleggnkacmbbaaLtb
import Derived.ChangeOld
import Derived.Below
import Derived.Deep.Slices
import Derived.Test.YtjleggnkacmbbaaRows
import Derived.ProofKit
import Derived.OpenShut
import Derived.Laws.IdiomArrays
import Derived.Deep.Strs
namespace Go.Proofs.Ytjleggnkacmbbaa
open Go.ChangeShapes Go.WideShapes Go.ChangeAt Go.RowKit

theorem cellsI : Try.prog.cellsOf 3 = 1 := by kernel_rfl
theorem cellsR : Try.prog.cellsOf 36 = 3 := by kernel_rfl
theorem list3 {α : Type} (l : List α) (h : (⟨l⟩ : Array α).size = 3) : ∃ a b c, l = [a, b, c] := by
  match l, h with
  | [a, b, c], _ => exact ⟨a, b, c, rfl⟩
def rcD (H : Type) (o t k : Int) : DataW H := .agg [.lit (.int .i64 o), .lit (.int .i64 t), .lit (.int .i64 k)]
set_option maxRecDepth 100000 in
theorem open_rec {H : Type} {enc : TypeId × Value → H} {W : World} {base : Nat} {v : Value} {d : DataW H} {p : List MemPlace} (hval : Value.okWide Try.prog W .any base 36 v)
    (h : DataW.Trod enc Try.prog W 0 (fun _ => true) true 36 v d p) : ∃ o t k, v = rV ⟨o, t, k⟩ ∧ d = rcD H o t k ∧ p = [] ∧ (Lit.int .i64 o).wf = true ∧ (Lit.int .i64 t).wf = true ∧ (Lit.int .i64 k).wf = true := by
  obtain ⟨cs, rfl, hsz, _⟩ : ∃ cs, v = .agg cs ∧ cs.size = Try.prog.cellsOf 36 ∧ Row.okWide Try.prog W .any base 36 cs := by
    simpa [Value.okWide, Try.underlying36] using hval
  rw [cellsR] at hsz
  obtain ⟨l⟩ := cs
  obtain ⟨c0, c1, c2, rfl⟩ := list3 l hsz
  obtain ⟨fuel, hf⟩ := h
  obtain ⟨y0, y1, y2, m, hx, _, hy0, hy1, hy2⟩ := Deep.trod_struct3 Try.underlying36 hf
  obtain ⟨x0, e0, rfl, w0⟩ := DataW.trod_int Try.underlying3 hy0
  obtain ⟨x1, e1, rfl, w1⟩ := DataW.trod_int Try.underlying3 hy1
  obtain ⟨x2, e2, rfl, w2⟩ := DataW.trod_int Try.underlying3 hy2
  simp [cellsI, Value.cells] at e0 e1 e2
  subst e0 e1 e2
  simp only [Prod.mk.injEq] at hx
  obtain ⟨rfl, rfl⟩ := hx
  exact ⟨x0, x1, x2, rfl, rfl, rfl, w0, w1, w2⟩
theorem shut_rec {H : Type} {enc : TypeId × Value → H} {W : World} {base : Nat} {sp : Nat → Bool} {held : Bool} {o t k : Int} (w0 : (Lit.int .i64 o).wf = true) (w1 : (Lit.int .i64 t).wf = true) (w2 : (Lit.int .i64 k).wf = true) : DataW.Trod enc Try.prog W base sp held 36 (rV ⟨o, t, k⟩) (rcD H o t k) [] := by
  exact ⟨2, by simp [rV, rcD, DataW.trod, Value.cells, Try.underlying36, Try.underlying3, cellsR, cellsI, w0, w1, w2]⟩
end Go.Proofs.Ytjleggnkacmbbaa
