/- What is known behind a reply: mathematics. -/
import Derived.Test.YtgehmidalfajgaaDoorInb
namespace Go.Proofs.YtgehmidalfajgaaDoor
open Go.RowKit Go.Shelf

theorem fate_5 {t : Tl} {f r : Int} {N : Nat} : fate t f r N = 5 ↔ isN f t.n = true ∧ wthB N t.n = true ∧ r = t.ro ∧ wthN t.reps f ≠ t.reps ∧ rdy t = false := by
  unfold fate
  by_cases h1 : isN f t.n = false
  · simp [h1]
  by_cases h2 : wthB N t.n = false
  · simp [h1, h2]
  by_cases h3 : r = t.ro
  · by_cases h4 : wthN t.reps f = t.reps
    · simp_all
    · cases h5 : rdy t <;> simp_all
  · simp_all
theorem isN_id {f n : Int} (h : isN f n = true) (hn : n ≤ 100) : 0 ≤ f ∧ f < 100 := by
  simp [isN] at h
  omega
theorem wthN_in {N : Nat} {f : Int} (h : 0 ≤ f ∧ f < 100) (hN : N < S100) : wthN N f = N ||| 2 ^ f.toNat := by
  unfold wthN
  rw [if_pos h, cln_id hN]
theorem wthN_twice {N : Nat} {f : Int} (h : 0 ≤ f ∧ f < 100) (hN : N < S100) : wthN (wthN N f) f = wthN N f := by
  rw [wthN_in h (wthN_lt _ _), wthN_in h hN, Nat.or_assoc, Nat.or_self]
theorem wthN_bit {N : Nat} {f : Int} (h : 0 ≤ f ∧ f < 100) (hN : N < S100) : wthN N f = N ↔ hasB N f = true := by
  rw [wthN_in h hN]
  unfold hasB
  simp only [h, and_self, decide_true, Bool.true_and]
  constructor
  · intro e
    rw [← e, Nat.testBit_or, Nat.testBit_two_pow_self, Bool.or_true]
  · intro e
    apply Nat.eq_of_testBit_eq
    intro i
    rw [Nat.testBit_or]
    by_cases q : f.toNat = i
    · subst q
      rw [e, Bool.true_or]
    · rw [Nat.testBit_two_pow_of_ne q, Bool.or_false]
theorem bit_S100 {N i : Nat} (hN : N < S100) (h : N.testBit i = true) : i < 100 := by
  rcases Nat.lt_or_ge i 100 with q | q
  · exact q
  · have hx : N < 2 ^ i := Nat.lt_of_lt_of_le (show N < 2 ^ 100 from hN) (Nat.pow_le_pow_right (by decide) q)
    rw [Nat.testBit_lt_two_pow hx] at h
    cases h
theorem wthB_bit {N : Nat} {n : Int} (h : wthB N n = true) {i : Nat} (hi : N.testBit i = true) : (i : Int) < n ∧ i < 100 := by
  have e : N = N % 2 ^ topW n := by simpa [wthB] using h
  rw [e, Nat.testBit_mod_two_pow] at hi
  simp only [Bool.and_eq_true, decide_eq_true_eq] at hi
  exact (topW_lt n i).1 hi.1
theorem kn_bit {t : Tl} (h : Tv t) (i : Nat) : (kn t).testBit i = (t.reps.testBit i || (decide (i < 100) && t.hs.any (fun x => x.testBit i))) := unis_bit h.reps _ _
theorem wthN_test {N : Nat} {f : Int} (h : 0 ≤ f ∧ f < 100) (hN : N < S100) (i : Nat) : (wthN N f).testBit i = (N.testBit i || decide (f.toNat = i)) := by
  rw [wthN_in h hN, Nat.testBit_or, Nat.testBit_two_pow]
/-- What is known, behind a reply that counts. -/
theorem kn_cnt {t : Tl} (h : Tv t) {f r : Int} {N : Nat} (hN : N < S128) (h5 : fate t f r N = 5) : kn (cntT t f N) = cln (cln (kn t ||| N)) ||| 2 ^ f.toNat := by
  have h5' := fate_5.1 h5
  have hf := isN_id h5'.1 h.n1
  apply Nat.eq_of_testBit_eq
  intro i
  have e1 := kn_bit (h.count hN h5) i
  have e2 := kn_bit h i
  rw [e1]
  show ((wthN t.reps f).testBit i || (decide (i < 100) && (t.hs ++ [N]).any (fun x => x.testBit i))) = _
  rw [wthN_test hf h.reps, Nat.testBit_or, testBit_cln, testBit_cln, Nat.testBit_or, e2, Nat.testBit_two_pow, List.any_append]
  have hr : t.reps.testBit i = true → i < 100 := bit_S100 h.reps
  cases h1 : t.reps.testBit i <;> cases h2 : decide (i < 100) <;> cases h3 : decide (f.toNat = i) <;> simp_all
theorem kn_new {n f self ro : Int} {N : Nat} (hN : N < S128) (h : nwE n f self ro N = 0) : kn (nwT n f self ro N) = cln (cln (N ||| 0)) ||| 2 ^ self.toNat := by
  have hv := Tv.new hN h
  obtain ⟨h1, h2, h3, h4, h5, _⟩ := nw_ok h
  have hf := isN_id h5 h2
  apply Nat.eq_of_testBit_eq
  intro i
  rw [kn_bit hv i]
  show ((wthN 0 self).testBit i || (decide (i < 100) && ([] ++ [N]).any (fun x => x.testBit i))) = _
  rw [wthN_test hf (by decide), Nat.testBit_or, testBit_cln, testBit_cln, Nat.or_zero, Nat.testBit_two_pow]
  cases h2 : decide (i < 100) <;> cases h3 : decide (self.toNat = i) <;> simp_all
/-- All that is known is below n. -/
def Kin (t : Tl) : Prop := ∀ i, (kn t).testBit i = true → (i : Int) < t.n
theorem Kin.new {n f self ro : Int} {N : Nat} (hN : N < S128) (h : nwE n f self ro N = 0) : Kin (nwT n f self ro N) := by
  intro i hi
  obtain ⟨h1, h2, h3, h4, h5, _, _, h8⟩ := nw_ok h
  rw [kn_new hN h, Nat.testBit_or, testBit_cln, testBit_cln, Nat.or_zero, Nat.testBit_two_pow] at hi
  show (i : Int) < n
  simp only [Bool.or_eq_true, Bool.and_eq_true, decide_eq_true_eq] at hi
  simp only [isN, decide_eq_true_eq] at h5
  rcases hi with hi | hi
  · exact (wthB_bit h8 hi.2.2).1
  · omega
theorem Kin.step {t : Tl} (hk : Kin t) (h : Tv t) {f r : Int} {N : Nat} (hN : N < S128) : Kin (tk t f r N) := by
  unfold tk
  split
  · next h5 =>
    intro i hi
    have h5' := fate_5.1 h5
    rw [kn_cnt h hN h5, Nat.testBit_or, testBit_cln, testBit_cln, Nat.testBit_or, Nat.testBit_two_pow] at hi
    show (i : Int) < t.n
    have h6 := h5'.1
    simp only [Bool.or_eq_true, Bool.and_eq_true, decide_eq_true_eq] at hi
    simp only [isN, decide_eq_true_eq] at h6
    rcases hi with ⟨_, _, hi | hi⟩ | hi
    · exact hk i hi
    · exact (wthB_bit h5'.2.1 hi).1
    · omega
  · exact hk
theorem full_bit (n i : Nat) : (fullN n).testBit i = decide (i < n) := by
  unfold fullN
  exact Nat.testBit_two_pow_sub_one n i
/-- What is missing, and what is known. -/
theorem ms_union {t : Tl} (hk : Kin t) (h : Tv t) (h1 : 1 ≤ t.n) : cln (cln (dif (fullN t.n.toNat) (kn t)) ||| kn t) = fullN t.n.toNat := by
  have hn := h.n1
  apply Nat.eq_of_testBit_eq
  intro i
  rw [testBit_cln, Nat.testBit_or, testBit_cln, testBit_dif, full_bit]
  have hki := hk i
  cases h2 : (kn t).testBit i
  · by_cases h3 : i < t.n.toNat
    · simp [h3, show i < 100 by omega]
    · simp [h3]
  · have := hki h2
    have h3 : i < t.n.toNat := by omega
    simp [h3, show i < 100 by omega]
theorem ms_meet {t : Tl} : cln (cln (dif (fullN t.n.toNat) (kn t)) &&& kn t) = 0 := by
  apply Nat.eq_of_testBit_eq
  intro i
  rw [testBit_cln, Nat.testBit_and, testBit_cln, testBit_dif, Nat.zero_testBit]
  cases (kn t).testBit i <;> simp
theorem msN_lt (n : Int) (r : Bool) (K : Nat) : msN n r K < S100 := by
  unfold msN
  split
  · exact cln_lt _
  · decide
section
variable {W V : World} {B q : Nat} {ad ad' : Option Addr} {cap : Nat} {t : Tl}
/-- A box of one's own abides while a reply is taken. -/
theorem tn_box {bs : Nat} {c : Nat → Nat} (hT : Ta W B q ad cap t) (hn : Tn q (ob ad) (ob ad') W V) (h : Holds4 W bs c) (hne : ob ad ≠ some bs) : Holds4 V bs c ∧ ob ad' ≠ some bs := by
  refine ⟨(hn.block bs h.lt (fun e => ?_) (fun e => hne e.symm)).trans h, fun e => ?_⟩
  · subst e
    have h1 : W.heap[bs]? = some (.cells (cells4 c) 27 (0, 0)) := h
    have := h1.symm.trans hT.obj
    simp only [Option.some.injEq, Obj.cells.injEq] at this
    exact absurd this.2.1 (by decide)
  · rcases hn.own with k | k
    · exact hne (k.symm.trans e)
    · have h1 := k bs e
      have h2 := h.lt
      omega
end
section
variable {P : Program} {md : Region.Mode} {ops : Array Oper} {Q : Exit → Act → World → Prop} {X0 : Array Value} {val : Nat → Value} {J : World → Prop} {i : Nat} {o : Oper}
theorem step_bld0 (hi : ops[i]? = some o) (hg : GOk md ops X0 val i o) (t : TypeId) (ho : o.op = .build t #[]) (hr : ∀ w, J w → (Instr.build t #[]).run P w = .ok (val i) w) : StepAt P md ops Q X0 val J J i o :=
  step_of hi hg fun a w hJ hS => by
    unfold Oper.wp execOp
    simp only [ho, List.map_toArray, List.map_nil, Sem.run_bind, hr w hJ, Result.andThen_ok, Sem.run_pure, Oper.upon_value]
    exact ⟨trivial, hJ⟩
end
theorem bld0_set (w : World) : (Instr.build 27 #[]).run Tryd.prog w = .ok (sv 0) w := by
  have e0 : sv 0 = .agg #[.int .u32 0, .int .u32 0, .int .u32 0, .int .u32 0] := by kernel_rfl
  rw [e0]
  go_simp
end Go.Proofs.YtgehmidalfajgaaDoor
