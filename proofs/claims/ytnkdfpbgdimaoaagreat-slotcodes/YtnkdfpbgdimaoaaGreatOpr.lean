/- A record, a slice of records that is handed in, read; and read again behind the call. -/
import Derived.Test.YtnkdfpbgdimaoaaGreatLtb
import Derived.ChangeOld
import Derived.Below
import Derived.Deep.Slices
import Derived.Test.YtnkdfpbgdimaoaaGreatRows
import Derived.ProofKit
import Derived.OpenShut
import Derived.Laws.IdiomArrays
import Derived.Deep.Strs
namespace Go.Proofs.YtnkdfpbgdimaoaaGreat
open Go.ChangeShapes Go.WideShapes Go.ChangeAt Go.RowKit

theorem cellsI : Tryz.prog.cellsOf 3 = 1 := by kernel_rfl
theorem cellsR : Tryz.prog.cellsOf 23 = 3 := by kernel_rfl
theorem list3 {α : Type} (l : List α) (h : (⟨l⟩ : Array α).size = 3) : ∃ a b c, l = [a, b, c] := by
  match l, h with
  | [a, b, c], _ => exact ⟨a, b, c, rfl⟩
def rcD (H : Type) (o t k : Int) : DataW H := .agg [.lit (.int .i64 o), .lit (.int .i64 t), .lit (.int .i64 k)]
set_option maxRecDepth 100000 in
theorem open_rec {H : Type} {enc : TypeId × Value → H} {W : World} {base : Nat} {v : Value} {d : DataW H} {p : List MemPlace} (hval : Value.okWide Tryz.prog W .any base 23 v)
    (h : DataW.Trod enc Tryz.prog W 0 (fun _ => true) true 23 v d p) : ∃ o t k, v = rV ⟨o, t, k⟩ ∧ d = rcD H o t k ∧ p = [] ∧ (Lit.int .i64 o).wf = true ∧ (Lit.int .i64 t).wf = true ∧ (Lit.int .i64 k).wf = true := by
  obtain ⟨cs, rfl, hsz, _⟩ : ∃ cs, v = .agg cs ∧ cs.size = Tryz.prog.cellsOf 23 ∧ Row.okWide Tryz.prog W .any base 23 cs := by
    simpa [Value.okWide, Tryz.underlying23] using hval
  rw [cellsR] at hsz
  obtain ⟨l⟩ := cs
  obtain ⟨c0, c1, c2, rfl⟩ := list3 l hsz
  obtain ⟨fuel, hf⟩ := h
  obtain ⟨y0, y1, y2, m, hx, _, hy0, hy1, hy2⟩ := Deep.trod_struct3 Tryz.underlying23 hf
  obtain ⟨x0, e0, rfl, w0⟩ := DataW.trod_int Tryz.underlying3 hy0
  obtain ⟨x1, e1, rfl, w1⟩ := DataW.trod_int Tryz.underlying3 hy1
  obtain ⟨x2, e2, rfl, w2⟩ := DataW.trod_int Tryz.underlying3 hy2
  simp [cellsI, Value.cells] at e0 e1 e2
  subst e0 e1 e2
  simp only [Prod.mk.injEq] at hx
  obtain ⟨rfl, rfl⟩ := hx
  exact ⟨x0, x1, x2, rfl, rfl, rfl, w0, w1, w2⟩
theorem shut_rec {H : Type} {enc : TypeId × Value → H} {W : World} {base : Nat} {sp : Nat → Bool} {held : Bool} {o t k : Int} (w0 : (Lit.int .i64 o).wf = true) (w1 : (Lit.int .i64 t).wf = true) (w2 : (Lit.int .i64 k).wf = true) : DataW.Trod enc Tryz.prog W base sp held 23 (rV ⟨o, t, k⟩) (rcD H o t k) [] := by
  exact ⟨2, by simp [rV, rcD, DataW.trod, Value.cells, Tryz.underlying23, Tryz.underlying3, cellsR, cellsI, w0, w1, w2]⟩
end Go.Proofs.YtnkdfpbgdimaoaaGreat
