/- Ids gone round by one place: mathematics. -/
import Derived.Test.YtcdefcaoocnlbaaDoorTyi
import Derived.Test.YtcdefcaoocnlbaaDoorIdm
namespace Go.Proofs.YtcdefcaoocnlbaaDoor

def rt (n x : Int) : Int := if x + 1 = n then 0 else x + 1
theorem rt_in {n x : Int} (h0 : 0 ≤ x) (h1 : x < n) : 0 ≤ rt n x ∧ rt n x < n := by
  unfold rt
  split <;> omega
theorem rt_tmod {n x : Int} (h0 : 0 ≤ x) (h1 : x < n) : (x + 1).tmod n = rt n x := by
  unfold rt
  split
  · next e => rw [e, Int.tmod_self]
  · rw [Int.tmod_eq_of_lt (by omega) (by omega)]
theorem rt_inj {n x y : Int} (hx : 0 ≤ x ∧ x < n) (hy : 0 ≤ y ∧ y < n) (h : rt n x = rt n y) : x = y := by
  unfold rt at h
  split at h <;> split at h <;> omega
theorem rt_onto {n j : Int} (h0 : 0 ≤ j) (h1 : j < n) : ∃ x, 0 ≤ x ∧ x < n ∧ rt n x = j := by
  by_cases q : j = 0
  · exact ⟨n - 1, by omega, by omega, by unfold rt; rw [if_pos (by omega), q]⟩
  · exact ⟨j - 1, by omega, by omega, by unfold rt; rw [if_neg (by omega)]; omega⟩
/-- One tally is the other, with the ids gone round. -/
structure Ro (t u : Tl) : Prop where
  n : u.n = t.n
  need : u.need = t.need
  ro : u.ro = t.ro
  ln : u.hs.length = t.hs.length
  bits : ∀ x, 0 ≤ x → x < t.n → u.reps.testBit (rt t.n x).toNat = t.reps.testBit x.toNat
  out : ∀ i : Nat, t.n ≤ (i : Int) → t.reps.testBit i = false ∧ u.reps.testBit i = false
theorem wthN_test {N : Nat} {f : Int} (h : 0 ≤ f ∧ f < 100) (hN : N < S100) (i : Nat) : (wthN N f).testBit i = (N.testBit i || decide (f.toNat = i)) := by
  rw [wthN_in h hN, Nat.testBit_or]
  by_cases q : f.toNat = i
  · subst q
    rw [Nat.testBit_two_pow_self]
    simp
  · rw [Nat.testBit_two_pow_of_ne q]
    simp [q]
theorem Ro.has {t u : Tl} (h : Ro t u) (ht : Tv t) (hu : Tv u) {f : Int} (h0 : 0 ≤ f) (h1 : f < t.n) : (wthN u.reps (rt t.n f) = u.reps) ↔ (wthN t.reps f = t.reps) := by
  have hn := ht.n1
  have hr := rt_in h0 h1
  rw [wthN_bit ⟨hr.1, by omega⟩ hu.reps, wthN_bit ⟨h0, by omega⟩ ht.reps]
  unfold hasB
  rw [decide_eq_true (show 0 ≤ rt t.n f ∧ rt t.n f < 100 by omega), decide_eq_true (show 0 ≤ f ∧ f < 100 by omega), h.bits f h0 h1]
theorem Ro.fate {t u : Tl} (h : Ro t u) (ht : Tv t) (hu : Tv u) {f r : Int} (h0 : 0 ≤ f) (h1 : f < t.n) : fate u (rt t.n f) r 0 = fate t f r 0 := by
  have hr := rt_in h0 h1
  have e1 : isN (rt t.n f) t.n = true := by simp [isN]; omega
  have e2 : isN f t.n = true := by simp [isN]; omega
  have e3 : rdy u = rdy t := by unfold rdy; rw [h.need, h.ln]
  unfold Go.Proofs.YtcdefcaoocnlbaaDoor.fate
  rw [h.n, h.ro, e1, e2, e3]
  by_cases q : wthN t.reps f = t.reps
  · rw [if_pos ((h.has ht hu h0 h1).2 q), if_pos q]
  · rw [if_neg (fun e => q ((h.has ht hu h0 h1).1 e)), if_neg q]
theorem Ro.step {t u : Tl} (h : Ro t u) (ht : Tv t) (hu : Tv u) {f r : Int} (h0 : 0 ≤ f) (h1 : f < t.n) : Ro (tk t f r 0) (tk u (rt t.n f) r 0) := by
  have hf := h.fate ht hu (r := r) h0 h1
  have hr := rt_in h0 h1
  have hn := ht.n1
  unfold tk
  rw [hf]
  split
  · refine ⟨h.n, h.need, h.ro, by simp [cntT, h.ln], fun x hx0 hx1 => ?_, fun i hi => ?_⟩
    · show (wthN u.reps (rt t.n f)).testBit (rt t.n x).toNat = (wthN t.reps f).testBit x.toNat
      have hx1' : x < t.n := hx1
      have hrx := rt_in hx0 hx1'
      rw [wthN_test (by omega) hu.reps, wthN_test (by omega) ht.reps, h.bits x hx0 hx1]
      congr 1
      refine decide_eq_decide.2 ⟨fun e => ?_, fun e => ?_⟩
      · have : f = x := rt_inj ⟨h0, h1⟩ ⟨hx0, hx1'⟩ (by omega)
        rw [this]
      · have : f = x := by omega
        rw [this]
    · have hi' : t.n ≤ (i : Int) := hi
      obtain ⟨a, b⟩ := h.out i hi'
      refine ⟨?_, ?_⟩
      · show (wthN t.reps f).testBit i = false
        rw [wthN_test (by omega) ht.reps, a, decide_eq_false (by omega)]
        rfl
      · show (wthN u.reps (rt t.n f)).testBit i = false
        rw [wthN_test (by omega) hu.reps, b, decide_eq_false (by omega)]
        rfl
  · exact h
theorem Ro.new {n f self ro : Int} (h : nwE n f self ro 0 = 0) : nwE n f (rt n self) ro 0 = 0 ∧ Ro (nwT n f self ro 0) (nwT n f (rt n self) ro 0) := by
  obtain ⟨h1, h2, h3, h4, h5, h6, h7, h8⟩ := nw_ok h
  have hs : 0 ≤ self ∧ self < n := by simpa [isN] using h5
  have hr := rt_in hs.1 hs.2
  refine ⟨?_, rfl, rfl, rfl, rfl, fun x hx0 hx1 => ?_, fun i hi => ?_⟩
  · unfold nwE
    rw [if_neg (by omega), if_neg (by simp [isN]; omega), if_neg (by omega), if_neg (by simp [h8])]
  · have hx1' : x < n := hx1
    have hrx := rt_in hx0 hx1'
    show (wthN 0 (rt n self)).testBit (rt n x).toNat = (wthN 0 self).testBit x.toNat
    rw [wthN_test (by omega) (by decide), wthN_test (by omega) (by decide)]
    simp only [Nat.zero_testBit, Bool.false_or]
    refine decide_eq_decide.2 ⟨fun e => ?_, fun e => ?_⟩
    · have : self = x := rt_inj hs ⟨hx0, hx1'⟩ (by omega)
      rw [this]
    · have : self = x := by omega
      rw [this]
  · have hi' : n ≤ (i : Int) := hi
    refine ⟨?_, ?_⟩
    · show (wthN 0 self).testBit i = false
      rw [wthN_test (by omega) (by decide), decide_eq_false (by omega)]
      simp
    · show (wthN 0 (rt n self)).testBit i = false
      rw [wthN_test (by omega) (by decide), decide_eq_false (by omega)]
      simp
theorem ofN_ok : ∀ (l : List Int) (N : Nat), (∀ x ∈ l, 0 ≤ x ∧ x < 100) → ∃ M, ofN l N = some M
  | [], N, _ => ⟨N, rfl⟩
  | j :: l, N, h => by
    obtain ⟨M, hM⟩ := ofN_ok l (N ||| 2 ^ j.toNat) (fun x hx => h x (by simp [hx]))
    exact ⟨M, by simp [ofN, h j (by simp), hM]⟩
theorem ofN_bit : ∀ (l : List Int) (N M : Nat), ofN l N = some M → ∀ i : Nat, M.testBit i = (N.testBit i || decide ((i : Int) ∈ l))
  | [], N, M, h, i => by
    simp [ofN] at h
    subst h
    simp
  | j :: l, N, M, h, i => by
    have hj : 0 ≤ j ∧ j < 100 := by
      by_cases q : 0 ≤ j ∧ j < 100
      · exact q
      · simp [ofN, q] at h
    have h' : ofN l (N ||| 2 ^ j.toNat) = some M := by simpa [ofN, hj] using h
    rw [ofN_bit l _ M h' i, Nat.testBit_or]
    by_cases q : j.toNat = i
    · subst q
      rw [Nat.testBit_two_pow_self, Int.toNat_of_nonneg hj.1]
      simp
    · rw [Nat.testBit_two_pow_of_ne q]
      have e : ((i : Int) = j) = False := by
        apply eq_false
        omega
      simp [e]
/-- The ids, gone round. -/
def trn (n : Int) (l : List Nat) : List Int := l.map fun (i : Nat) => rt n (i : Int)
theorem Ro.turned {t u : Tl} (h : Ro t u) (ht : Tv t) : ofN (trn t.n (idsTo (cln t.reps) 128)) 0 = some u.reps := by
  have hn1 := ht.n1
  have hcl : cln t.reps = t.reps := cln_id ht.reps
  rw [hcl]
  have hmem : ∀ i : Nat, i ∈ idsTo t.reps 128 ↔ i < 128 ∧ t.reps.testBit i = true := fun i => by simp [idsTo]
  have hin : ∀ i : Nat, t.reps.testBit i = true → (i : Int) < t.n := fun i hi => by
    rcases Int.lt_or_le (i : Int) t.n with q | q
    · exact q
    · rw [(h.out i q).1] at hi
      cases hi
  have hall : ∀ x ∈ trn t.n (idsTo t.reps 128), 0 ≤ x ∧ x < 100 := fun x hx => by
    simp only [trn, List.mem_map] at hx
    obtain ⟨i, hi, rfl⟩ := hx
    have := rt_in (n := t.n) (x := (i : Int)) (by omega) (hin i ((hmem i).1 hi).2)
    omega
  obtain ⟨M, hM⟩ := ofN_ok _ 0 hall
  rw [hM]
  congr 1
  apply Nat.eq_of_testBit_eq
  intro j
  rw [ofN_bit _ 0 M hM j, Nat.zero_testBit, Bool.false_or]
  rcases Int.lt_or_le (j : Int) t.n with q | q
  · obtain ⟨x, hx0, hx1, hxj⟩ := rt_onto (n := t.n) (j := (j : Int)) (by omega) q
    have hb := h.bits x hx0 hx1
    rw [hxj, Int.toNat_natCast] at hb
    rw [hb]
    cases hx : t.reps.testBit x.toNat
    · refine decide_eq_false (fun hm => ?_)
      simp only [trn, List.mem_map] at hm
      obtain ⟨i, hi, e⟩ := hm
      have hi2 := ((hmem i).1 hi).2
      have : (i : Int) = x := rt_inj ⟨by omega, hin i hi2⟩ ⟨hx0, hx1⟩ (by rw [e, hxj])
      rw [show i = x.toNat by omega, hx] at hi2
      cases hi2
    · refine decide_eq_true ?_
      simp only [trn, List.mem_map]
      exact ⟨x.toNat, (hmem _).2 ⟨by omega, hx⟩, by rw [Int.toNat_of_nonneg hx0]; exact hxj⟩
  · rw [(h.out j q).2]
    refine decide_eq_false (fun hm => ?_)
    simp only [trn, List.mem_map] at hm
    obtain ⟨i, hi, e⟩ := hm
    have := rt_in (n := t.n) (x := (i : Int)) (by omega) (hin i ((hmem i).1 hi).2)
    omega
end Go.Proofs.YtcdefcaoocnlbaaDoor
