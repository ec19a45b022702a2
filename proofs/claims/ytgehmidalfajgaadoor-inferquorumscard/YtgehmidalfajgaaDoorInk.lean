/- Quorums, as mathematics. -/
import Derived.Test.YtgehmidalfajgaaDoorIni
namespace Go.Proofs.YtgehmidalfajgaaDoor
open Go.RowKit Go.Shelf Go.Lib

theorem cnt_with {N : Nat} {f : Int} (h : 0 ≤ f ∧ f < 100) (hN : N < S100) (hne : wthN N f ≠ N) : cnt (wthN N f) = cnt N + 1 := by
  have hb : N.testBit f.toNat = false := by
    cases q : N.testBit f.toNat
    · rfl
    · refine absurd ((wthN_bit h hN).2 ?_) hne
      unfold hasB
      simp [h, q]
  rw [wthN_in h hN]
  refine popAux_flip 128 _ _ f.toNat (by omega) (fun i _ hi => ?_) hb ?_
  · rw [Nat.testBit_or, Nat.testBit_two_pow_of_ne (fun e => hi e.symm), Bool.or_false]
  · rw [Nat.testBit_or, Nat.testBit_two_pow_self, Bool.or_true]
theorem count_apart {α : Type} (p q : α → Bool) : ∀ l : List α, (∀ x ∈ l, p x = true → q x = false) → l.countP p + l.countP q ≤ l.length
  | [], _ => by simp
  | x :: l, h => by
    have ih := count_apart p q l (fun y hy => h y (by simp [hy]))
    have hx := h x (by simp)
    rw [List.countP_cons, List.countP_cons, List.length_cons]
    cases h1 : p x
    · cases h2 : q x <;> simp <;> omega
    · rw [hx h1]
      simp
      omega
theorem tms_range (H : List Nat) (x : Nat) : tms H x = (List.range H.length).countP (fun i => (H.getD i 0).testBit x) := by
  have e : H = (List.range H.length).map (fun i => H.getD i 0) := by
    apply List.ext_getElem?
    intro i
    rw [List.getElem?_map]
    by_cases h : i < H.length
    · rw [List.getElem?_range h, List.getElem?_eq_getElem h]
      simp [List.getD_eq_getElem?_getD, List.getElem?_eq_getElem h]
    · rw [List.getElem?_eq_none (by omega), List.getElem?_eq_none (by simp; omega)]
      rfl
  unfold tms
  rw [show (H.countP fun x_1 => x_1.testBit x) = ((List.range H.length).map (fun i => H.getD i 0)).countP (fun y => y.testBit x) from congrArg (List.countP fun y => y.testBit x) e, List.countP_map]
  rfl
theorem cnt_range {R n : Nat} (hR : ∀ i, R.testBit i = true → i < n) (hn : n ≤ 128) : cnt R = (List.range n).countP R.testBit := by
  have e : idsTo R (n + (128 - n)) = idsTo R n := idsTo_gap R n (128 - n) (fun i h1 _ => by
    cases q : R.testBit i
    · rfl
    · have := hR i q
      omega)
  rw [show n + (128 - n) = 128 by omega] at e
  rw [show cnt R = popAux 128 R from rfl, ← idsTo_length, e, idsTo, List.countP_eq_length_filter]
/-- So many that have replied, and so many that have heard x: one is among both. -/
theorem both {R n x : Nat} {H : List Nat} (hR : ∀ i, R.testBit i = true → i < n) (hn : n ≤ 128) (hH : H.length = n) (hs : n < cnt R + tms H x) : ∃ i, R.testBit i = true ∧ (H.getD i 0).testBit x = true := by
  by_cases h : ∃ i, R.testBit i = true ∧ (H.getD i 0).testBit x = true
  · exact h
  · exfalso
    have h1 := count_apart R.testBit (fun i => (H.getD i 0).testBit x) (List.range n) (fun i _ hi => by
      cases q : (H.getD i 0).testBit x
      · rfl
      · exact absurd ⟨i, hi, q⟩ h)
    rw [cnt_range hR hn, tms_range, hH] at hs
    rw [List.length_range] at h1
    omega
structure Qi (n f : Int) (H : List Nat) (t : Tl) : Prop where
  hn : t.n = n
  nd : t.need = n - f
  ro : t.ro = 1
  cn : cnt t.reps = t.hs.length
  lt : ∀ i, t.reps.testBit i = true → i < H.length
  kw : ∀ i x, t.reps.testBit i = true → (H.getD i 0).testBit x = true → (kn t).testBit x = true
section
variable {n f : Int} {H : List Nat} {t : Tl}
theorem Qi.new {self : Int} {N : Nat} (hN : N < S128) (h : nwE n f self 1 N = 0) (hlen : (H.length : Int) = n) (hg : H.getD self.toNat 0 = N) : Qi n f H (nwT n f self 1 N) := by
  obtain ⟨h1, h2, h3, h4, h5, _, _, h8⟩ := nw_ok h
  have hs := isN_id h5 h2
  have h5' : 0 ≤ self ∧ self < n := by simpa [isN] using h5
  have hbit : ∀ i, (wthN 0 self).testBit i = decide (self.toNat = i) := fun i => by rw [wthN_test hs (by decide)]; simp
  refine ⟨rfl, rfl, rfl, ?_, fun i hi => ?_, fun i x hi hx => ?_⟩
  · show cnt (wthN 0 self) = 1
    rw [cnt_with hs (by decide) (fun e => ?_), cnt_zero]
    have := hbit self.toNat
    rw [e] at this
    simp at this
  · have := hbit i
    rw [show (wthN 0 self).testBit i = true from hi] at this
    have q : self.toNat = i := by simpa using this.symm
    omega
  · have := hbit i
    rw [show (wthN 0 self).testBit i = true from hi] at this
    have q : self.toNat = i := by simpa using this.symm
    subst q
    rw [hg] at hx
    have hx100 := (wthB_bit h8 hx).2
    rw [kn_new hN h, Nat.testBit_or, testBit_cln, testBit_cln, Nat.or_zero, hx]
    simp [hx100]
theorem Qi.step (h : Qi n f H t) (hv : Tv t) {i : Int} {N : Nat} (hN : N < S128) (hlen : (H.length : Int) = n) (hg : H.getD i.toNat 0 = N) : Qi n f H (tk t i 1 N) := by
  unfold tk
  split
  · next h5 =>
    have h5' := fate_5.1 h5
    have hi := isN_id h5'.1 hv.n1
    have hin : 0 ≤ i ∧ i < t.n := by simpa [isN] using h5'.1
    have hkc := kn_cnt hv hN h5
    have hbit : ∀ j, (wthN t.reps i).testBit j = (t.reps.testBit j || decide (i.toNat = j)) := wthN_test hi hv.reps
    refine ⟨h.hn, h.nd, h.ro, ?_, fun j hj => ?_, fun j x hj hx => ?_⟩
    · show cnt (wthN t.reps i) = (t.hs ++ [N]).length
      rw [cnt_with hi hv.reps h5'.2.2.2.1, h.cn]
      simp
    · have hj' : (wthN t.reps i).testBit j = true := hj
      rw [hbit j, Bool.or_eq_true] at hj'
      rcases hj' with q | q
      · exact h.lt j q
      · have : i.toNat = j := by simpa using q
        have := h.hn
        omega
    · have hj' : (wthN t.reps i).testBit j = true := hj
      rw [hbit j, Bool.or_eq_true] at hj'
      rw [hkc, Nat.testBit_or, testBit_cln, testBit_cln, Nat.testBit_or]
      rcases hj' with q | q
      · have hk := h.kw j x q hx
        have hk100 := bit_S100 (kn_lt hv) hk
        simp [hk, hk100]
      · have q' : i.toNat = j := by simpa using q
        subst q'
        rw [hg] at hx
        have hx100 := (wthB_bit h5'.2.1 hx).2
        simp [hx, hx100]
  · exact h
/-- It has replied, or the round is ready. -/
def Dn (t : Tl) (i : Nat) : Prop := t.reps.testBit i = true ∨ rdy t = true
theorem Dn.keep {i : Nat} (h : Dn t i) (hv : Tv t) (j r : Int) (N : Nat) : Dn (tk t j r N) i := by
  unfold tk
  split
  · next h5 =>
    have h5' := fate_5.1 h5
    rcases h with q | q
    · refine .inl ?_
      show (wthN t.reps j).testBit i = true
      rw [wthN_test (isN_id h5'.1 hv.n1) hv.reps, q, Bool.true_or]
    · rw [h5'.2.2.2.2] at q
      cases q
  · exact h
theorem Dn.now (h : Qi n f H t) (hv : Tv t) {i : Nat} {N : Nat} (hi : (i : Int) < n) (hw : wthB N n = true) : Dn (tk t (i : Int) 1 N) i := by
  have hi1 : isN (i : Int) t.n = true := by rw [h.hn]; simp [isN, hi]
  have hid := isN_id hi1 hv.n1
  unfold tk
  by_cases h5 : fate t (i : Int) 1 N = 5
  · rw [if_pos h5]
    refine .inl ?_
    show (wthN t.reps (i : Int)).testBit i = true
    rw [wthN_test hid hv.reps]
    simp
  · rw [if_neg h5]
    have hw' : wthB N t.n = true := by rw [h.hn]; exact hw
    by_cases q : wthN t.reps (i : Int) = t.reps
    · refine .inl ?_
      have := (wthN_bit hid hv.reps).1 q
      unfold hasB at this
      simpa using (Bool.and_eq_true _ _ ▸ this).2
    · refine .inr ?_
      cases hr : rdy t
      · exact absurd (fate_5.2 ⟨hi1, hw', h.ro.symm, q, hr⟩) h5
      · rfl
theorem Qi.ready (h : Qi n f H t) (hv : Tv t) (hf : 0 ≤ f) (hn : 1 ≤ n) (hlen : (H.length : Int) = n) (hd : ∀ i : Nat, (i : Int) < n → Dn t i) : rdy t = true := by
  cases hr : rdy t
  · exfalso
    have hall : ∀ i, i < H.length → t.reps.testBit i = true := fun i hi => by
      rcases hd i (by omega) with q | q
      · exact q
      · rw [hr] at q
        cases q
    have hc := cnt_range (n := H.length) (R := t.reps) h.lt (by have := hv.n1; have := h.hn; omega)
    have e : (List.range H.length).countP t.reps.testBit = H.length := by
      rw [List.countP_eq_length.2 (fun i hi => hall i (List.mem_range.1 hi)), List.length_range]
    have h1 := hv.len
    have h2 := h.cn
    have h3 := h.nd
    have h4 := hv.d2
    have h5 := h.hn
    have : rdy t = true := by
      unfold rdy
      rw [decide_eq_true_eq]
      omega
    rw [hr] at this
    cases this
  · rfl
theorem Qi.cover (h : Qi n f H t) (hv : Tv t) (hlen : (H.length : Int) = n) (hr : rdy t = true) {m x : Nat} (hm : (covTo H f m).testBit x = true) : (kn t).testBit x = true := by
  rw [covTo_bit, Bool.and_eq_true, decide_eq_true_eq, decide_eq_true_eq] at hm
  unfold rdy at hr
  rw [decide_eq_true_eq] at hr
  have h1 := h.cn
  have h2 := h.nd
  have h3 := h.hn
  have h4 := hv.n1
  obtain ⟨i, hi, hx⟩ := both (R := t.reps) (n := H.length) (x := x) (H := H) h.lt (by omega) rfl (by omega)
  exact h.kw i x hi hx
theorem cov_meet {m K : Nat} (hs : ∀ x, (covTo H f m).testBit x = true → K.testBit x = true) (F : Nat) : cln (cln (dif F K) &&& covTo H f m) = 0 := by
  apply Nat.eq_of_testBit_eq
  intro i
  rw [testBit_cln, Nat.testBit_and, testBit_cln, testBit_dif, Nat.zero_testBit]
  cases q : (covTo H f m).testBit i
  · simp
  · rw [hs i q]
    simp
theorem cov_sub {m K : Nat} (hs : ∀ x, (covTo H f m).testBit x = true → K.testBit x = true) : cln (dif (covTo H f m) K) = 0 := by
  apply Nat.eq_of_testBit_eq
  intro i
  rw [testBit_cln, testBit_dif, Nat.zero_testBit]
  cases q : (covTo H f m).testBit i
  · simp
  · rw [hs i q]
    simp
end
end Go.Proofs.YtgehmidalfajgaaDoor
