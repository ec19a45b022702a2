/- What Nth and Cut of the document answer, and that glyph.Cut answers the same: at every text of at most 2^20 bytes. -/
import Derived.Test.YtgihafldphpncabRefL
import Derived.Test.YtgihafldphpncabCut
namespace Go.Proofs.Ytgihafldphpncab
open Go.RowKit Go.Shelf

theorem next_from (s : ByteArray) : ∀ (f q k p : Nat), s.size ≤ q + f → q ≤ s.size → (startsFrom s f q)[k]? = some p →
    (startsFrom s f q)[k + 1]? = some (p + wd s p) ∨ ((startsFrom s f q).length = k + 1 ∧ p + wd s p = s.size)
  | 0, q, k, p, _, _, h => by simp [startsFrom] at h
  | f + 1, q, k, p, hf, hq, h => by
    by_cases hp : q < s.size
    · rw [startsFrom_step s f q hp] at h ⊢
      have h1 := wd_pos s q
      have h2 := wd_le s q hp
      cases k with
      | zero =>
        simp at h; subst h
        by_cases hn : q + wd s q < s.size
        · left
          obtain ⟨g, rfl⟩ : ∃ g, f = g + 1 := ⟨f - 1, by omega⟩
          rw [startsFrom_step s g _ hn]
          rfl
        · right
          rw [startsFrom_end s f _ hn]
          exact ⟨rfl, by omega⟩
      | succ k =>
        have := next_from s f (q + wd s q) k p (by omega) h2 (by simpa using h)
        simpa using this
    · rw [startsFrom_end s _ q hp] at h; simp at h
theorem begV_next (s : ByteArray) (k p : Nat) (h : (starts s)[k]? = some p) : begV s ((k : Int) + 1) = ((p + wd s p : Nat) : Int) := by
  have hk : k < (starts s).length := (List.getElem?_eq_some_iff.1 h).1
  have e : ((k : Int) + 1).toNat = k + 1 := by omega
  unfold begV nthO
  rw [if_neg (by omega), e]
  rcases next_from s s.size 0 k p (by omega) (by omega) h with h1 | ⟨h1, h2⟩
  · rw [show (starts s)[k + 1]? = _ from h1]
  · have h3 : (starts s).length = k + 1 := h1
    rw [List.getElem?_eq_none (by omega)]
    dsimp only
    rw [if_pos (by omega), h2]
theorem begV_at (s : ByteArray) (k p : Nat) (h : (starts s)[k]? = some p) : begV s (k : Int) = (p : Int) := by
  unfold begV nthO
  rw [if_neg (by omega), Int.toNat_natCast, h]
theorem begV_step (s : ByteArray) (k : Nat) (h : k < (starts s).length) : begV s (k : Int) < begV s ((k : Int) + 1) := by
  have hg := List.getElem?_eq_getElem h
  have := wd_pos s (starts s)[k]
  rw [begV_at s k _ hg, begV_next s k _ hg]
  omega
theorem begV_lt (s : ByteArray) : ∀ (d k : Nat), k + d + 1 ≤ (starts s).length → begV s (k : Int) < begV s ((k : Int) + d + 1)
  | 0, k, h => by have := begV_step s k (by omega); simpa using this
  | d + 1, k, h => by
    have h1 := begV_lt s d k (by omega)
    have h2 := begV_step s (k + d + 1) (by omega)
    have e : (((k + d + 1 : Nat) : Int)) = (k : Int) + d + 1 := by omega
    rw [e] at h2
    have e2 : (k : Int) + ((d + 1 : Nat) : Int) + 1 = (k : Int) + d + 1 + 1 := by omega
    rw [e2]
    omega
theorem begV_mono (s : ByteArray) (i k : Int) (h0 : 0 ≤ i) (h1 : i < k) (h2 : k ≤ (starts s).length) : begV s i < begV s k := by
  obtain ⟨a, rfl⟩ := Int.eq_ofNat_of_zero_le h0
  have := begV_lt s (k - a - 1).toNat a (by omega)
  have e : (a : Int) + ((k - a - 1).toNat : Int) + 1 = k := by omega
  rw [e] at this
  exact this

/-- What Cut tells. -/
def cutV (s : ByteArray) (i k : Int) : Value :=
  if 0 ≤ i ∧ i ≤ k ∧ k ≤ (starts s).length then .tuple #[.string (s.extract (begV s i).toNat (begV s k).toNat), .int .i64 0] else .tuple #[.string ⟨#[]⟩, .int .i64 3]

theorem cut_any (s : ByteArray) (hs : s.size ≤ 140737488355328) (i k : Int) (w : World) :
    Calls Try.prog 22 #[.string s, .int .i64 i, .int .i64 k] w fun x w' => x = .returned (cutV s i k) ∧ Below w.heap.size w w' := by
  by_cases h : 0 ≤ i ∧ i ≤ k ∧ k ≤ (starts s).length
  · unfold cutV
    rw [if_pos h]
    have h1 := begV_in s i h.1 (by omega)
    have h2 := begV_in s k (by omega) h.2.2
    have h3 := begV_hi s k
    have h4 : begV s i ≤ begV s k := by
      by_cases e : i = k
      · rw [e]; omega
      · have := begV_mono s i k h.1 (by omega) h.2.2; omega
    exact cut_ok s hs i k _ _ (by omega) (by omega) (by omega) (by omega) w
  · unfold cutV
    rw [if_neg h]
    refine cut_bad s (by unfold maxLen; omega) i k ?_ w
    by_cases h1 : i < 0 ∨ ((starts s).length : Int) < i
    · left; rw [begV_out s i h1]; omega
    · right
      have h2 := begV_in s i (by omega) (by omega)
      by_cases h3 : k < 0 ∨ ((starts s).length : Int) < k
      · rw [begV_out s k h3]; omega
      · exact begV_mono s k i (by omega) (by omega) (by omega)

/-- A block of four cells, written over. -/
def put4 (W : World) (B : Nat) (a b c d : Value) : World := (((W.setCell ⟨B, 0, none⟩ a).setCell ⟨B, 1, none⟩ b).setCell ⟨B, 2, none⟩ c).setCell ⟨B, 3, none⟩ d
theorem put4_one {W : World} {B : Nat} {a b c d a0 b0 c0 d0 : Value} {t : TypeId} (h : W.heap[B]? = some (.cells #[a0, b0, c0, d0] t)) : (put4 W B a b c d).heap[B]? = some (.cells #[a, b, c, d] t) :=
  set_get 3 d (set_get 2 c (set_get 1 b (set_get 0 a h)))
theorem put4_below {W w : World} {B n : Nat} {a b c d : Value} (h : Below n w W) (hB : n ≤ B) : Below n w (put4 W B a b c d) :=
  (((h.setCell (p := ⟨B, 0, none⟩) hB a).setCell (p := ⟨B, 1, none⟩) hB b).setCell (p := ⟨B, 2, none⟩) hB c).setCell (p := ⟨B, 3, none⟩) hB d
/-- What Nth of the document hands back. -/
theorem refNth_end (W : World) (tmps : Array Value) (B : Nat) (a b c d e : Value) (h4 : tmps[4]? = some (.pointer (some ⟨B, 0, none⟩))) (h5 : tmps[5]? = some e)
    (h1 : W.heap[B]? = some (.cells #[a, b, c, d] 32)) (R : Ending → World → Prop) (h : R (.returned (.tuple #[.agg #[a, b, c, d], e])) W) :
    bodyPost Try.prog Try.f21 R .ret { tmps := tmps, defers := [] } W := by
  have c0 : W.cell? ⟨B, 0, none⟩ = some a := cell_of h1 0
  have c1 : W.cell? ⟨B, 1, none⟩ = some b := cell_of h1 1
  have c2 : W.cell? ⟨B, 2, none⟩ = some c := cell_of h1 2
  have c3 : W.cell? ⟨B, 3, none⟩ = some d := cell_of h1 3
  refine bodyPost_ret (v := .tuple #[.agg #[a, b, c, d], e]) ?_ rfl h
  simp [results, Try.results21, go_sem, c0, c1, c2, c3, h4, h5]

set_option maxHeartbeats 1000000 in
theorem refNth_any (s : ByteArray) (hs : s.size ≤ 1048576) (i : Int) (w : World) :
    Calls Try.prog 21 #[.string s, .int .i64 i] w fun e w' => e = .returned (nthV s i) ∧ Below w.heap.size w w' := by
  have hlen := starts_length s
  by_cases h : 0 ≤ i ∧ i < ((starts s).length : Int)
  · obtain ⟨k, rfl⟩ := Int.eq_ofNat_of_zero_le h.1
    have hk : k < (starts s).length := by omega
    have hg := List.getElem?_eq_getElem hk
    have HV : Hid (nthV s (k : Int) = .tuple #[.agg (chC s (starts s)[k]), .int .i64 0]) := by
      show nthV s _ = _
      unfold nthV nthO
      rw [if_neg (by omega), Int.toNat_natCast, hg]
    have hki : (k : Int) < ((starts s).length : Int) := h.2
    clear h
    go_enter Try.func21, Try.ntmps21
    go_wp2_with fail
    refine (list_any s hs _).mono ?_
    rintro e w1 ⟨v, rfl, hrow, hb1⟩
    obtain ⟨ad, cap, rfl, hform⟩ := ownsRow_form hrow
    obtain ⟨g, rfl, hg1, hg2, hg3, hcells⟩ := hform (by omega)
    have hcell : ∀ j u, (chC s (starts s)[k])[j]? = some u → j < 4 → w1.cell? ⟨g, k * 4 + j, none⟩ = some u := fun j u hj hlt => hcells _ _ ((flat_get s _ _ j _ hg hlt).trans hj)
    have c0 : w1.cell? ⟨g, k * 4, none⟩ = some (.int .i32 (rn s (starts s)[k])) := hcell 0 _ rfl (by omega)
    have c1 : w1.cell? ⟨g, k * 4 + 1, none⟩ = some (.int .i64 (starts s)[k]) := hcell 1 _ rfl (by omega)
    have c2 : w1.cell? ⟨g, k * 4 + 2, none⟩ = some (.int .i64 (wd s (starts s)[k])) := hcell 2 _ rfl (by omega)
    have c3 : w1.cell? ⟨g, k * 4 + 3, none⟩ = some (.bool (looseB s (starts s)[k])) := hcell 3 _ rfl (by omega)
    have hr : w1.heap[w.heap.size]? = some (.cells noC 32) := (hb1.block _ (by simp)).trans (get_new rfl)
    have f0 := frozen_of hr 0
    have f1 := frozen_of hr 1
    have f2 := frozen_of hr 2
    have f3 := frozen_of hr 3
    have r0 : w1.cell? ⟨w.heap.size, 0, none⟩ = some (.int .i32 0) := cell_of hr 0
    have r1 : w1.cell? ⟨w.heap.size, 1, none⟩ = some (.int .i64 0) := cell_of hr 1
    have r2 : w1.cell? ⟨w.heap.size, 2, none⟩ = some (.int .i64 0) := cell_of hr 2
    have r3 : w1.cell? ⟨w.heap.size, 3, none⟩ = some (.bool false) := cell_of hr 3
    have hbw : Below w.heap.size w w1 := ((Below.refl _ w).alloc (Nat.le_refl _) _).trans (hb1.mono (by simp))
    clear hcell hcells hform hrow hg
    generalize (starts s)[k] = p at *
    go_wp2
    refine refNth_end _ _ w.heap.size _ _ _ _ _ rfl rfl (put4_one hr) _ ⟨?_, put4_below hbw (Nat.le_refl _)⟩
    rw [HV.out]
    rfl
  · have HV : Hid (nthV s i = .tuple #[.agg noC, .int .i64 3]) := by
      show nthV s i = _
      unfold nthV
      rw [nthO_miss h]
    by_cases h0 : i < 0
    · clear h
      go_enter Try.func21, Try.ntmps21
      go_wp2_with fail
      refine (list_any s hs _).mono ?_
      rintro e w1 ⟨v, rfl, hrow, hb1⟩
      obtain ⟨ad, cap, rfl, _⟩ := ownsRow_form hrow
      have hr : w1.heap[w.heap.size]? = some (.cells noC 32) := (hb1.block _ (by simp)).trans (get_new rfl)
      have f0 := frozen_of hr 0
      have f1 := frozen_of hr 1
      have f2 := frozen_of hr 2
      have f3 := frozen_of hr 3
      have r0 : w1.cell? ⟨w.heap.size, 0, none⟩ = some (.int .i32 0) := cell_of hr 0
      have r1 : w1.cell? ⟨w.heap.size, 1, none⟩ = some (.int .i64 0) := cell_of hr 1
      have r2 : w1.cell? ⟨w.heap.size, 2, none⟩ = some (.int .i64 0) := cell_of hr 2
      have r3 : w1.cell? ⟨w.heap.size, 3, none⟩ = some (.bool false) := cell_of hr 3
      have hbw : Below w.heap.size w w1 := ((Below.refl _ w).alloc (Nat.le_refl _) _).trans (hb1.mono (by simp))
      clear hrow
      go_wp2
      refine refNth_end _ _ w.heap.size _ _ _ _ _ rfl rfl (put4_one hr) _ ⟨?_, put4_below hbw (Nat.le_refl _)⟩
      rw [HV.out]
      rfl
    · have h1 : ((starts s).length : Int) ≤ i := by omega
      clear h
      go_enter Try.func21, Try.ntmps21
      go_wp2_with fail
      refine (list_any s hs _).mono ?_
      rintro e w1 ⟨v, rfl, hrow, hb1⟩
      obtain ⟨ad, cap, rfl, _⟩ := ownsRow_form hrow
      have hr : w1.heap[w.heap.size]? = some (.cells noC 32) := (hb1.block _ (by simp)).trans (get_new rfl)
      have f0 := frozen_of hr 0
      have f1 := frozen_of hr 1
      have f2 := frozen_of hr 2
      have f3 := frozen_of hr 3
      have r0 : w1.cell? ⟨w.heap.size, 0, none⟩ = some (.int .i32 0) := cell_of hr 0
      have r1 : w1.cell? ⟨w.heap.size, 1, none⟩ = some (.int .i64 0) := cell_of hr 1
      have r2 : w1.cell? ⟨w.heap.size, 2, none⟩ = some (.int .i64 0) := cell_of hr 2
      have r3 : w1.cell? ⟨w.heap.size, 3, none⟩ = some (.bool false) := cell_of hr 3
      have hbw : Below w.heap.size w w1 := ((Below.refl _ w).alloc (Nat.le_refl _) _).trans (hb1.mono (by simp))
      clear hrow
      go_wp2
      refine refNth_end _ _ w.heap.size _ _ _ _ _ rfl rfl (put4_one hr) _ ⟨?_, put4_below hbw (Nat.le_refl _)⟩
      rw [HV.out]
      rfl

set_option maxHeartbeats 1000000 in
theorem refCut_any (s : ByteArray) (hs : s.size ≤ 1048576) (i k : Int) (w : World) :
    Calls Try.prog 23 #[.string s, .int .i64 i, .int .i64 k] w fun e w' => e = .returned (cutV s i k) ∧ Below w.heap.size w w' := by
  have hlen := starts_length s
  by_cases h : 0 ≤ i ∧ i ≤ k ∧ k ≤ (starts s).length
  · by_cases he : i = k
    · have HV : Hid (cutV s i k = .tuple #[.string ⟨#[]⟩, .int .i64 0]) := by
        show cutV s i k = _
        unfold cutV
        rw [if_pos h, he]
        have : s.extract (begV s k).toNat (begV s k).toNat = ⟨#[]⟩ := by apply ByteArray.ext; simp
        rw [this]
      subst he
      obtain ⟨h0, _, h2⟩ := h
      go_enter Try.func23, Try.ntmps23
      go_wp2_with fail
      refine (list_any s hs _).mono ?_
      rintro e w1 ⟨v, rfl, hrow, hb1⟩
      obtain ⟨ad, cap, rfl, _⟩ := ownsRow_form hrow
      clear hrow
      go_wp2
      go_ret2
      rw [HV.out]
      exact ⟨rfl, hb1⟩
    · obtain ⟨a, rfl⟩ := Int.eq_ofNat_of_zero_le h.1
      obtain ⟨b, hb⟩ : ∃ b : Nat, k = (b : Int) + 1 := ⟨(k - 1).toNat, by omega⟩
      subst hb
      have ha : a < (starts s).length := by omega
      have hbl : b < (starts s).length := by omega
      have hga := List.getElem?_eq_getElem ha
      have hgb := List.getElem?_eq_getElem hbl
      have e1 := begV_at s a _ hga
      have e2 := begV_next s b _ hgb
      have hq := starts_lt s _ (List.getElem_mem hbl)
      have hw := wd_le s _ hq
      have hle : (starts s)[a] ≤ (starts s)[b] := by
        have e3 := begV_at s b _ hgb
        by_cases hab : a = b
        · subst hab; exact Nat.le_refl _
        · have := begV_mono s a b (by omega) (by omega) (by omega); omega
      have HV : Hid (cutV s a ((b : Int) + 1) = .tuple #[.string (s.extract (starts s)[a] ((starts s)[b] + wd s (starts s)[b])), .int .i64 0]) := by
        show cutV s _ _ = _
        unfold cutV
        rw [if_pos h, e1, e2]
        rfl
      have ca : ∀ (w1 : World) (g : Nat), (∀ j u, (flat s (starts s))[j]? = some u → w1.cell? ⟨g, j, none⟩ = some u) → w1.cell? ⟨g, a * 4 + 1, none⟩ = some (.int .i64 (starts s)[a]) := fun w1 g hc => hc _ _ (flat_get s _ a 1 _ hga (by omega))
      have cb : ∀ (w1 : World) (g : Nat), (∀ j u, (flat s (starts s))[j]? = some u → w1.cell? ⟨g, j, none⟩ = some u) → ∀ j u, (chC s (starts s)[b])[j]? = some u → j < 4 → w1.cell? ⟨g, b * 4 + j, none⟩ = some u := fun w1 g hc j u hj hlt => hc _ _ ((flat_get s _ b j _ hgb hlt).trans hj)
      have hai : (a : Int) < ((starts s).length : Int) := by omega
      have hbi : (b : Int) < ((starts s).length : Int) := by omega
      have hki : (b : Int) + 1 ≤ ((starts s).length : Int) := by omega
      have hab : (a : Int) < (b : Int) + 1 := by omega
      clear e1 e2 hga hgb h he
      generalize (starts s)[a] = p at *
      generalize (starts s)[b] = q at *
      have hqw : ((q : Int) + (wd s q : Int)) ≤ (s.size : Int) := by omega
      have hpq : (p : Int) ≤ (q : Int) + (wd s q : Int) := by omega
      go_enter Try.func23, Try.ntmps23
      go_wp2_with fail
      refine (list_any s hs _).mono ?_
      rintro e w1 ⟨v, rfl, hrow, hb1⟩
      obtain ⟨ad, cap, rfl, hform⟩ := ownsRow_form hrow
      obtain ⟨g, rfl, hg1, hg2, hg3, hcells⟩ := hform (by omega)
      have c1 : ∀ o, (w1.alloc o).cell? ⟨g, a * 4 + 1, none⟩ = some (.int .i64 p) := fun o => (((Below.refl _ w1).alloc (Nat.le_refl _) o).cell (p := ⟨g, a * 4 + 1, none⟩) hg2).trans (ca w1 g hcells)
      have d0 : w1.cell? ⟨g, b * 4, none⟩ = some (.int .i32 (rn s q)) := cb w1 g hcells 0 _ rfl (by omega)
      have d1 : w1.cell? ⟨g, b * 4 + 1, none⟩ = some (.int .i64 q) := cb w1 g hcells 1 _ rfl (by omega)
      have d2 : w1.cell? ⟨g, b * 4 + 2, none⟩ = some (.int .i64 (wd s q)) := cb w1 g hcells 2 _ rfl (by omega)
      have d3 : w1.cell? ⟨g, b * 4 + 3, none⟩ = some (.bool (looseB s q)) := cb w1 g hcells 3 _ rfl (by omega)
      clear hform hcells hrow ca cb
      go_wp2_with fail
      go_quiet (fail)
      go_wp2
      go_ret2
      rw [HV.out]
      exact ⟨rfl, (hb1.alloc hb1.size _).trans ⟨rfl, rfl, rfl, Nat.le_refl _, fun _ _ => rfl⟩⟩
  · have HV : Hid (cutV s i k = .tuple #[.string ⟨#[]⟩, .int .i64 3]) := by
      show cutV s i k = _
      unfold cutV
      rw [if_neg h]
    by_cases h0 : i < 0
    · clear h
      go_enter Try.func23, Try.ntmps23
      go_wp2_with fail
      refine (list_any s hs _).mono ?_
      rintro e w1 ⟨v, rfl, hrow, hb1⟩
      obtain ⟨ad, cap, rfl, _⟩ := ownsRow_form hrow
      clear hrow
      go_wp2
      go_ret2
      rw [HV.out]
      exact ⟨rfl, hb1⟩
    · by_cases h1 : k < i
      · clear h
        go_enter Try.func23, Try.ntmps23
        go_wp2_with fail
        refine (list_any s hs _).mono ?_
        rintro e w1 ⟨v, rfl, hrow, hb1⟩
        obtain ⟨ad, cap, rfl, _⟩ := ownsRow_form hrow
        clear hrow
        go_wp2
        go_ret2
        rw [HV.out]
        exact ⟨rfl, hb1⟩
      · have h2 : ((starts s).length : Int) < k := by omega
        clear h
        go_enter Try.func23, Try.ntmps23
        go_wp2_with fail
        refine (list_any s hs _).mono ?_
        rintro e w1 ⟨v, rfl, hrow, hb1⟩
        obtain ⟨ad, cap, rfl, _⟩ := ownsRow_form hrow
        clear hrow
        go_wp2
        go_ret2
        rw [HV.out]
        exact ⟨rfl, hb1⟩
end Go.Proofs.Ytgihafldphpncab
