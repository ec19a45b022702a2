/- A notice as a result. -/
import Derived.Test.YtnomeinppdnhfaaGreatNtc
import Derived.Laws.ResultCell
import Derived.Laws.Rows
namespace Go.Proofs.YtnomeinppdnhfaaGreat
open Go.RowKit Go.Shelf
theorem retN {f : Func} {p : Tmp} {R : Ending → World → Prop} {a : Act} {w : World} {b : Nat} {o t k : Int} (hres : f.results = #[.cell p 80]) (hp : a.tmps.getD p undef = .pointer (some ⟨b, 0, none⟩)) (hd : a.defers = []) (h : NB w b o t k) (hR : R (.returned (nt o t k)) w) : bodyPost Tryz.prog f R .ret a w := by
  refine bodyPost_ret (v := nt o t k) ?_ hd hR
  have hp' : a.tmps[p]?.getD undef = .pointer (some ⟨b, 0, none⟩) := by simpa using hp
  have c0 := h.c0
  have c1 := h.c1
  have c2 := h.c2
  simp [results, hres, hp', asAddr]
  unfold nt
  go_simp
theorem retNt {f : Func} {p q : Tmp} {R : Ending → World → Prop} {a : Act} {w : World} {b : Nat} {o t k : Int} {x : Value} (hres : f.results = #[.cell p 80, .tmp q]) (hp : a.tmps.getD p undef = .pointer (some ⟨b, 0, none⟩)) (hq : a.tmps.getD q undef = x) (hd : a.defers = []) (h : NB w b o t k) (hR : R (.returned (.tuple #[nt o t k, x])) w) : bodyPost Tryz.prog f R .ret a w := by
  refine bodyPost_ret (v := .tuple #[nt o t k, x]) ?_ hd hR
  have hp' : a.tmps[p]?.getD undef = .pointer (some ⟨b, 0, none⟩) := by simpa using hp
  have hq' : a.tmps[q]?.getD undef = x := by simpa using hq
  have c0 := h.c0
  have c1 := h.c1
  have c2 := h.c2
  simp [results, hres, hp', hq', asAddr]
  unfold nt
  go_simp
theorem NB.at {W : World} {B : Nat} (o t k : Int) (h : B = W.heap.size) : NB (W.alloc (.cells #[.int .i64 o, .int .i64 t, .int .i64 k] 80)) B o t k := new_at h
/-- A notice put into a box. -/
def W3 (W : World) (B : Nat) (o t k : Int) : World := ((W.setCell ⟨B, 0, none⟩ (.int .i64 o)).setCell ⟨B, 1, none⟩ (.int .i64 t)).setCell ⟨B, 2, none⟩ (.int .i64 k)
theorem NB.thaw {W : World} {B : Nat} {o t k : Int} (h : NB W B o t k) (j : Nat) : W.frozen? ⟨B, j, none⟩ = false := thaw_at h j
theorem NB.set {W : World} {B : Nat} {o t k : Int} (h : NB W B o t k) (a b c : Int) : NB (W3 W B a b c) B a b c := by
  unfold NB W3
  have h0 := heap_setCell_same _ _ 0 _ _ (.int .i64 a) h
  have h1 := heap_setCell_same _ _ 1 _ _ (.int .i64 b) h0
  have h2 := heap_setCell_same _ _ 2 _ _ (.int .i64 c) h1
  simpa using h2
theorem below3 {w0 w : World} {n B : Nat} (hb : Below n w0 w) (hB : n ≤ B) (a b c : Int) : Below n w0 (W3 w B a b c) := ((hb.setCell hB _).setCell hB _).setCell hB _
theorem other3 {w : World} {B k : Nat} (h : k ≠ B) (a b c : Int) : (W3 w B a b c).heap[k]? = w.heap[k]? := by
  unfold W3
  rw [Below.heap_setCell _ _ _ _ h, Below.heap_setCell _ _ _ _ h, Below.heap_setCell _ _ _ _ h]
theorem store_nt {W : World} {B : Nat} {o t k : Int} (h : NB W B o t k) (a b c : Int) : (Instr.storeAt 80 (.pointer (some ⟨B, 0, none⟩)) (nt a b c)).run Tryz.prog W = .ok () (W3 W B a b c) := by
  have c0 := h.c0
  have c1 := h.c1
  have c2 := h.c2
  have z0 := h.thaw 0
  have z1 := h.thaw 1
  have z2 := h.thaw 2
  unfold nt W3
  go_simp
end Go.Proofs.YtnomeinppdnhfaaGreat
