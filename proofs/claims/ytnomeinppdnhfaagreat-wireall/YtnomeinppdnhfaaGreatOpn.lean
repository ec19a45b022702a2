/- A set that is handed in, read as a number; and read again behind the call. -/
import Derived.Test.YtnomeinppdnhfaaGreatAlv
import Derived.Test.YtnomeinppdnhfaaGreatRows
import Derived.ProofKit
import Derived.OpenShut
import Derived.Laws.IdiomArrays
namespace Go.Proofs.YtnomeinppdnhfaaGreat
open Go.ChangeShapes Go.WideShapes Go.ChangeAt Go.RowKit

theorem cellsW : Tryz.prog.cellsOf 39 = 1 := by kernel_rfl
theorem cellsS : Tryz.prog.cellsOf 41 = 4 := by kernel_rfl
theorem list4 {α : Type} (l : List α) (h : (⟨l⟩ : Array α).size = 4) : ∃ a b c d, l = [a, b, c, d] := by
  match l, h with
  | [a, b, c, d], _ => exact ⟨a, b, c, d, rfl⟩
def setD (H : Type) (N : Nat) : DataW H := .agg [.lit (.int .u32 (wd N 0 : Nat)), .lit (.int .u32 (wd N 1 : Nat)), .lit (.int .u32 (wd N 2 : Nat)), .lit (.int .u32 (wd N 3 : Nat))]
theorem nat_of_u32 {x : Int} (h : (Lit.int .u32 x).wf = true) : ∃ n : Nat, x = (n : Int) ∧ n < 4294967296 := by
  have := bounds_u32 h
  exact ⟨x.toNat, by omega, by omega⟩
theorem wf_u32 (n : Nat) (h : n < 4294967296) : (Lit.int .u32 (n : Int)).wf = true := by
  simp [Lit.wf, IntKind.min, IntKind.max, IntKind.signed, IntKind.bits]
  omega
set_option maxRecDepth 100000 in
theorem open_set {H : Type} {enc : TypeId × Value → H} {W : World} {base : Nat} {v : Value} {d : DataW H} {p : List MemPlace} (hval : Value.okWide Tryz.prog W .any base 41 v)
    (h : DataW.Trod enc Tryz.prog W 0 (fun _ => true) true 41 v d p) : ∃ N, N < S128 ∧ v = sv N ∧ d = setD H N ∧ p = [] := by
  obtain ⟨cs, rfl, hsz, _⟩ : ∃ cs, v = .agg cs ∧ cs.size = Tryz.prog.cellsOf 41 ∧ Row.okWide Tryz.prog W .any base 41 cs := by
    simpa [Value.okWide, Tryz.underlying41] using hval
  rw [cellsS] at hsz
  obtain ⟨l⟩ := cs
  obtain ⟨c0, c1, c2, c3, rfl⟩ := list4 l hsz
  obtain ⟨fuel, hf⟩ := h
  obtain ⟨y0, y1, y2, y3, m, hx, hy0, hy1, hy2, hy3⟩ := trod_array4 Tryz.underlying41 cellsW hf
  obtain ⟨x0, e0, rfl, w0⟩ := DataW.trod_int Tryz.underlying39 hy0
  obtain ⟨x1, e1, rfl, w1⟩ := DataW.trod_int Tryz.underlying39 hy1
  obtain ⟨x2, e2, rfl, w2⟩ := DataW.trod_int Tryz.underlying39 hy2
  obtain ⟨x3, e3, rfl, w3⟩ := DataW.trod_int Tryz.underlying39 hy3
  simp at e0 e1 e2 e3
  subst e0 e1 e2 e3
  simp only [Prod.mk.injEq] at hx
  obtain ⟨rfl, rfl⟩ := hx
  obtain ⟨n0, rfl, b0⟩ := nat_of_u32 w0
  obtain ⟨n1, rfl, b1⟩ := nat_of_u32 w1
  obtain ⟨n2, rfl, b2⟩ := nat_of_u32 w2
  obtain ⟨n3, rfl, b3⟩ := nat_of_u32 w3
  refine ⟨joinW n0 n1 n2 n3, join_lt _ _ _ _ b0 b1 b2 b3, ?_, ?_, rfl⟩
  · rw [sv, wd_join0 _ _ _ _ b0, wd_join1 _ _ _ _ b0 b1, wd_join2 _ _ _ _ b0 b1 b2, wd_join3 _ _ _ _ b0 b1 b2 b3]
  · rw [setD, wd_join0 _ _ _ _ b0, wd_join1 _ _ _ _ b0 b1, wd_join2 _ _ _ _ b0 b1 b2, wd_join3 _ _ _ _ b0 b1 b2 b3]
theorem shut_set {H : Type} {enc : TypeId × Value → H} {W : World} {base : Nat} {sp : Nat → Bool} {held : Bool} (N : Nat) : DataW.Trod enc Tryz.prog W base sp held 41 (sv N) (setD H N) [] := by
  have w0 := wf_u32 _ (wd_lt N 0)
  have w1 := wf_u32 _ (wd_lt N 1)
  have w2 := wf_u32 _ (wd_lt N 2)
  have w3 := wf_u32 _ (wd_lt N 3)
  exact ⟨2, by simp [sv, setD, DataW.trod, Value.cells, Tryz.underlying41, Tryz.underlying39, cellsS, cellsW, w0, w1, w2, w3, show List.range 4 = [0, 1, 2, 3] from rfl]⟩
end Go.Proofs.YtnomeinppdnhfaaGreat
