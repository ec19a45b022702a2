/- The document's own answers on sets, by rows of bools: what they answer, at every input. -/
import Derived.Test.YtoplegfibdmjeaaDoorRow
namespace Go.Proofs.YtoplegfibdmjeaaDoor
open Go.RowKit Go.Shelf Go.Lib

theorem stepB_alloc {ops : Array Oper} {Q : Exit → Act → World → Prop} {i : Nat} {o : Oper} {a : Act} {w : World} {K : Act → World → Prop} (hi : ops[i]? = some o) (hg : o.guard = none) (ho : o.op = .alloc 55)
    (hK : K (a.put o.dst (.pointer (some ⟨w.heap.size, 0, none⟩))) (w.alloc (.cells (bC (fun _ => false)) 55))) : wpOp Tryd.prog ops Q i K a w := by
  have hz := zeroB
  have hr : (Instr.alloc 55 true (.tuple #[])).run Tryd.prog w = .ok (.pointer (some ⟨w.heap.size, 0, none⟩)) (w.alloc (.cells (bC (fun _ => false)) 55)) := by
    go_simp
  unfold wpOp
  rw [hi]
  simp only [Region.wanted, hg, if_true]
  refine .inl ?_
  unfold Oper.wp execOp
  simp only [ho, Sem.run_bind, hr, Result.andThen_ok, Sem.run_pure, Oper.upon_value]
  exact hK
/-- What lies where, while two rows are made. -/
structure JR (w0 : World) (A B : Nat) (p q : Nat → Bool) (ba bb : Nat) (g : Nat × Nat) (x4 x5 x6 x7 : Bool) (W : World) : Prop where
  a : Holds4 W ba (wd A)
  b : Holds4 W bb (wd B)
  la : ba < w0.heap.size
  lb : bb < w0.heap.size
  below : Below w0.heap.size w0 W
  u : x4 = true → w0.heap.size ≤ g.1 ∧ HoldsB W g.1 (if x6 = true then p else fun _ => false)
  m : x5 = true → w0.heap.size ≤ g.2 ∧ HoldsB W g.2 (if x7 = true then q else fun _ => false)
  ne : x4 = true → x5 = true → g.1 ≠ g.2
theorem JR.carry {w0 : World} {A B : Nat} {p q : Nat → Bool} {ba bb : Nat} {g : Nat × Nat} {x4 x5 x6 x7 : Bool} {W W' : World} (h : JR w0 A B p q ba bb g x4 x5 x6 x7 W) (hb : Below W.heap.size W W') : JR w0 A B p q ba bb g x4 x5 x6 x7 W' :=
  ⟨h.a.carry hb, h.b.carry hb, h.la, h.lb, bcarry h.below (Nat.le_refl _) hb, fun e => ⟨(h.u e).1, (h.u e).2.carry hb⟩, fun e => ⟨(h.m e).1, (h.m e).2.carry hb⟩, h.ne⟩
theorem runB_store {w : World} {b : Nat} {p : Nat → Bool} (h : HoldsB w b p) (q : Nat → Bool) : (Instr.storeAt 55 (.pointer (some ⟨b, 0, none⟩)) (.agg (bC q))).run Tryd.prog w = .ok () (w.setRow b (bC q)) := by
  have := h.store q
  simp only [Instr.storeAt, Instr.sureAddr, Sem.run_bind, Sem.run_pure, Result.andThen_ok, this]
set_option maxHeartbeats 1000000 in
theorem rClean_any (N : Nat) (w : World) : Calls Tryd.prog 10 #[sv N] w fun e w' => e = .returned (sv (cln N)) ∧ Below w.heap.size w w' := by
  have hr := row_any N
  have hm := make_any N.testBit
  rw [mkN_cln] at hm
  generalize cln N = M at *
  simp only [sv] at hr hm ⊢
  go_enter Tryd.func10, Tryd.ntmps10
  go_wp2_with (first | (go_at_call 14; refine (hr _).mono ?_; rintro e w1 ⟨rfl, hb1⟩) | (go_at_call 17; refine (hm _).mono ?_; rintro e w2 ⟨rfl, hb2⟩; have q : Hid (Holds4 w2 (w.heap.size + 1) (fun _ => 0)) := (hb2.block _ (by have := hb1.size; simp at this; omega)).trans ((hb1.block _ (by simp)).trans (get_new (by simp))); obtain ⟨y0, y1, y2, y3, z0, z1, z2, z3⟩ := q.out.facts))
  exact ret4 rfl rfl rfl (fin4 q.out _) ⟨rfl, below4 (bcarry (bcarry (((Below.refl _ w).alloc (by simp) _).alloc (by simp) _) (Nat.le_refl _) hb1) (Nat.le_refl _) hb2) (by omega) _⟩
end Go.Proofs.YtoplegfibdmjeaaDoor
