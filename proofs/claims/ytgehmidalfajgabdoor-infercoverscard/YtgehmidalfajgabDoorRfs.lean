/- The document's own answers on sets, by rows of bools: what they answer, at every input. -/
import Derived.Test.YtgehmidalfajgabDoorRow
namespace Go.Proofs.YtgehmidalfajgabDoor
open Go.RowKit Go.Shelf Go.Lib

theorem stepB_alloc {ops : Array Oper} {Q : Exit → Act → World → Prop} {i : Nat} {o : Oper} {a : Act} {w : World} {K : Act → World → Prop} (hi : ops[i]? = some o) (hg : o.guard = none) (ho : o.op = .alloc 67)
    (hK : K (a.put o.dst (.pointer (some ⟨w.heap.size, 0, none⟩))) (w.alloc (.cells (bC (fun _ => false)) 67))) : wpOp Tryd.prog ops Q i K a w := by
  have hz := zeroB
  have hr : (Instr.alloc 67 true (.tuple #[])).run Tryd.prog w = .ok (.pointer (some ⟨w.heap.size, 0, none⟩)) (w.alloc (.cells (bC (fun _ => false)) 67)) := by
    go_simp
  unfold wpOp
  rw [hi]
  simp only [Region.wanted, hg, if_true]
  refine .inl ?_
  unfold Oper.wp execOp
  simp only [ho, Sem.run_bind, hr, Result.andThen_ok, Sem.run_pure, Oper.upon_value]
  exact hK
/-- What lies where, while two rows are made. -/
structure JR (w0 : World) (A B : Nat) (p q : Nat → Bool) (ba bb : Nat) (g : Nat × Nat) (x4 x5 x6 x7 : Bool) (W : World) : Prop where
  a : Holds4 W ba (wd A)
  b : Holds4 W bb (wd B)
  la : ba < w0.heap.size
  lb : bb < w0.heap.size
  below : Below w0.heap.size w0 W
  u : x4 = true → w0.heap.size ≤ g.1 ∧ HoldsB W g.1 (if x6 = true then p else fun _ => false)
  m : x5 = true → w0.heap.size ≤ g.2 ∧ HoldsB W g.2 (if x7 = true then q else fun _ => false)
  ne : x4 = true → x5 = true → g.1 ≠ g.2
theorem JR.carry {w0 : World} {A B : Nat} {p q : Nat → Bool} {ba bb : Nat} {g : Nat × Nat} {x4 x5 x6 x7 : Bool} {W W' : World} (h : JR w0 A B p q ba bb g x4 x5 x6 x7 W) (hb : Below W.heap.size W W') : JR w0 A B p q ba bb g x4 x5 x6 x7 W' :=
  ⟨h.a.carry hb, h.b.carry hb, h.la, h.lb, bcarry h.below (Nat.le_refl _) hb, fun e => ⟨(h.u e).1, (h.u e).2.carry hb⟩, fun e => ⟨(h.m e).1, (h.m e).2.carry hb⟩, h.ne⟩
theorem runB_store {w : World} {b : Nat} {p : Nat → Bool} (h : HoldsB w b p) (q : Nat → Bool) : (Instr.storeAt 67 (.pointer (some ⟨b, 0, none⟩)) (.agg (bC q))).run Tryd.prog w = .ok () (w.setRow b (bC q)) := by
  have := h.store q
  simp only [Instr.storeAt, Instr.sureAddr, Sem.run_bind, Sem.run_pure, Result.andThen_ok, this]
end Go.Proofs.YtgehmidalfajgabDoor
