/- Characters of a text that is cut behind one of them: plain mathematics. -/
import Derived.Test.YtngjjcmoekeciaaGreatDoorJnJ12
namespace Go.Proofs.YtngjjcmoekeciaaGreatDoor
open Go.RowKit Go.Shelf

set_option maxRecDepth 100000 in
set_option maxHeartbeats 2000000 in
theorem dec_short (N M b0 b1 b2 b3 c1 c2 c3 : Nat) (hle : M ≤ N) (e1 : 1 < M → c1 = b1) (e2 : 2 < M → c2 = b2) (e3 : 3 < M → c3 = b3) (hw : (Lib.decodeN N b0 b1 b2 b3).2 ≤ M) : Lib.decodeN M b0 c1 c2 c3 = Lib.decodeN N b0 b1 b2 b3 := by
  by_cases h1 : 1 < M
  · obtain rfl := e1 h1
    have n1 : 1 < N := by omega
    by_cases h2 : 2 < M
    · obtain rfl := e2 h2
      have n2 : 2 < N := by omega
      by_cases h3 : 3 < M
      · obtain rfl := e3 h3
        have n3 : 3 < N := by omega
        simp only [Lib.decodeN, h1, h2, h3, n1, n2, n3]
      · unfold Lib.decodeN at hw ⊢
        simp only [h1, h2, h3, n1, n2, true_and, false_and, and_false, if_false] at hw ⊢
        repeat' split
        all_goals first | rfl | (simp_all; done) | (simp_all; omega)
    · unfold Lib.decodeN at hw ⊢
      have h3 : ¬ 3 < M := by omega
      simp only [h1, h2, h3, n1, true_and, false_and, and_false, if_false] at hw ⊢
      repeat' split
      all_goals first | rfl | (simp_all; done) | (simp_all; omega)
  · have h2 : ¬ 2 < M := by omega
    have h3 : ¬ 3 < M := by omega
    unfold Lib.decodeN at hw ⊢
    simp only [h1, h2, h3, false_and, and_false, if_false] at hw ⊢
    repeat' split
    all_goals first | rfl | (simp_all; done) | (simp_all; omega)
theorem dec_pre (x : ByteArray) (p q : Nat) (hp : p < x.size) (hq : p + wd x p ≤ q) (hqs : q ≤ x.size) : Utf8.decode (x.extract 0 q) p = Utf8.decode x p := by
  have hsz : (x.extract 0 q).size = q := by simp; omega
  have hw := wd_pos x p
  have hb : ∀ k, k < q → ((x.extract 0 q).get! k).toNat = (x.get! k).toNat := fun k hk => by
    have h := byt_ext x 0 q k (by omega) hk
    rw [Nat.zero_add, Nat.zero_add] at h
    rw [get_byt _ k (by omega), get_byt x k (by omega), h]
  have hwd : (Lib.decodeN (x.size - p) (x.get! p).toNat (x.get! (p + 1)).toNat (x.get! (p + 2)).toNat (x.get! (p + 3)).toNat).2 = wd x p := by rw [← shape]; rfl
  rw [shape, shape, hsz, hb p (by omega)]
  exact dec_short _ _ _ _ _ _ _ _ _ (by omega) (fun h => hb (p + 1) (by omega)) (fun h => hb (p + 2) (by omega)) (fun h => hb (p + 3) (by omega)) (by rw [hwd]; omega)
theorem wd_pre (x : ByteArray) (p q : Nat) (hp : p < x.size) (hq : p + wd x p ≤ q) (hqs : q ≤ x.size) : wd (x.extract 0 q) p = wd x p := by
  unfold wd
  rw [dec_pre x p q hp hq hqs]
theorem chAt_pre {x : ByteArray} {p c : Nat} (h : ChAt x p c) : ∀ q, p ≤ q → q ≤ x.size → ChAt (x.extract 0 q) p c := by
  induction h with
  | zero => exact fun q _ _ => .zero
  | @step p c h hp ih =>
    intro q hq hqs
    have hw := wd_pos x p
    have hsz : (x.extract 0 q).size = q := by simp; omega
    have e := wd_pre x p q hp hq hqs
    have := ChAt.step (ih q (by omega) hqs) (by omega)
    rw [e] at this
    exact this
/-- How many characters lie ahead of one of them. -/
theorem chAt_cnt {x : ByteArray} {p c : Nat} (h : ChAt x p c) : cnt x 0 p = c := by
  have hp := chAt_le h
  have hsz : (x.extract 0 p).size = p := by simp; omega
  have h1 := chAt_count (chAt_pre h p (Nat.le_refl _) hp)
  rw [startsFrom_end _ _ p (by omega)] at h1
  simpa [cnt] using h1.symm
theorem cq_cells4 : ∀ l : List Fou, cells4 l = l.flatMap (fun x => [.int .i64 x.1, .string x.2.1, .int .i64 x.2.2.1, .int .i64 x.2.2.2])
  | [] => rfl
  | (k, t, l, c) :: r => by rw [cells4, cq_cells4 r]; rfl
end Go.Proofs.YtngjjcmoekeciaaGreatDoor
namespace Go.Proofs.YtngjjcmoekeciaaGreatDoor
open Go.RowKit Go.Shelf

theorem dec_asc (s : ByteArray) (p : Nat) (hp : p < s.size) (h : byt s p < 128) : Utf8.decode s p = (byt s p, 1) := by
  rw [shape, get_byt s p hp, Lib.decodeN, if_pos h]
theorem rn_asc (s : ByteArray) (p : Nat) (hp : p < s.size) (h : byt s p < 128) : rn s p = byt s p ∧ wd s p = 1 := by
  unfold rn wd
  rw [dec_asc s p hp h]
  exact ⟨rfl, rfl⟩
theorem ext_ext (s : ByteArray) (b m p q : Nat) (hq : q ≤ m) : (s.extract b (b + m)).extract p q = s.extract (b + p) (b + q) := by
  rw [ByteArray.extract_extract]
  congr 1
  omega
theorem loose_cls (s : ByteArray) (p : Nat) (h : cls (rn s p : Int) = 3 ∨ cls (rn s p : Int) = 4) : looseB s p = false := by
  unfold looseB
  rw [decide_eq_false_iff_not]
  rintro ⟨e, _⟩
  rw [e] at h
  revert h
  decide
theorem run_eq (s : ByteArray) (b m : Nat) (h : b + m ≤ s.size) (hend : b + m = s.size ∨ byt s (b + m) = 10) : ∀ (f F q n c : Nat), q ≤ m → m < q + f → s.size ≤ b + q + F → ChAt (s.extract b (b + m)) q c → runD s F (b + q) = b + (runAt (s.extract b (b + m)) f q n).1 ∧ n ≤ (runAt (s.extract b (b + m)) f q n).2 ∧ ChAt (s.extract b (b + m)) (runAt (s.extract b (b + m)) f q n).1 (c + ((runAt (s.extract b (b + m)) f q n).2 - n))
  | 0, F, q, n, c, hq, hf, _, _ => by omega
  | f + 1, F, q, n, c, hq, hf, hF, hc => by
    have hsz : (s.extract b (b + m)).size = m := by simp; omega
    have hend' : b + m = s.size ∨ byt s (b + m) < 128 := by omega
    by_cases hqm : q < m
    · have hd := dec_line s b m q h hqm hend'
      have hr : rn (s.extract b (b + m)) q = rn s (b + q) := by unfold rn; rw [hd]
      have hw : wd (s.extract b (b + m)) q = wd s (b + q) := by unfold wd; rw [hd]
      have hwp := wd_pos s (b + q)
      have hwl := wd_le (s.extract b (b + m)) q (by omega)
      rw [runAt, if_neg (by omega)]
      by_cases hk : cls (rn s (b + q) : Int) = 3 ∨ cls (rn s (b + q) : Int) = 4
      · rw [if_pos (by rw [hr]; exact hk.symm)]
        obtain ⟨G, rfl⟩ : ∃ G, F = G + 1 := ⟨F - 1, by omega⟩
        rw [runD_on s G (b + q) (by omega) (loose_cls s _ hk) hk]
        have ih := run_eq s b m h hend f G (q + wd (s.extract b (b + m)) q) (n + 1) (c + 1) (by omega) (by omega) (by omega) (hc.step (by omega))
        rw [hw] at ih ⊢
        rw [← Nat.add_assoc] at ih
        refine ⟨ih.1, by omega, ?_⟩
        have e : c + 1 + ((runAt (s.extract b (b + m)) f (q + wd s (b + q)) (n + 1)).2 - (n + 1)) = c + ((runAt (s.extract b (b + m)) f (q + wd s (b + q)) (n + 1)).2 - n) := by omega
        rw [← e]
        exact ih.2.2
      · rw [if_neg (by rw [hr]; exact fun e => hk e.symm)]
        refine ⟨runD_end s F _ (fun e => hk e.2.2), Nat.le_refl _, ?_⟩
        simpa using hc
    · obtain rfl : q = m := by omega
      rw [runAt, if_pos (by omega), hsz]
      refine ⟨runD_end s F _ (fun e => ?_), Nat.le_refl _, by simpa using hc⟩
      rcases hend with q1 | q1
      · omega
      · have := (rn_asc s (b + q) e.1 (by omega)).1
        rw [this, q1] at e
        revert e
        rintro ⟨_, _, e | e⟩ <;> simp [cls] at e
/-- A run of the rest of a line: its end, and its characters. -/
theorem runR_eq (s : ByteArray) (b m : Nat) (h : b + m ≤ s.size) (hend : b + m = s.size ∨ byt s (b + m) = 10) : runD s s.size b = b + (runR (s.extract b (b + m))).1 ∧ (runR (s.extract b (b + m))).2 = cnt s b (b + (runR (s.extract b (b + m))).1) := by
  have hsz : (s.extract b (b + m)).size = m := by simp; omega
  have hh := run_eq s b m h hend (m + 1) s.size 0 0 0 (Nat.zero_le _) (by omega) (by omega) .zero
  unfold runR
  rw [hsz]
  refine ⟨hh.1, ?_⟩
  have h3 := hh.2.2
  have hle := chAt_le h3
  have h4 := chAt_cnt h3
  unfold cnt at h4 ⊢
  rw [ext_ext s b m 0 _ (by omega), Nat.add_zero] at h4
  rw [h4]
  omega
end Go.Proofs.YtngjjcmoekeciaaGreatDoor
namespace Go.Proofs.YtngjjcmoekeciaaGreatDoor
open Go.RowKit Go.Shelf

theorem byt_tail (X : ByteArray) (a m k : Nat) (h : a + m = X.size) : byt (X.extract a (a + m)) k = byt X (a + k) := by
  have hsz : (X.extract a (a + m)).size = m := by simp; omega
  by_cases hk : k < m
  · exact byt_ext X a m k (by omega) hk
  · rw [byt, dif_neg (by omega), byt, dif_neg (by omega)]
theorem lead_shift (X : ByteArray) (a m : Nat) (h : a + m = X.size) : ∀ (f g q : Nat) (acc : List UInt8), m ≤ q + f → m ≤ q + g → (lead X g (a + q) acc).1 = (lead (X.extract a (a + m)) f q acc).1 ∧ (lead X g (a + q) acc).2.1 = a + (lead (X.extract a (a + m)) f q acc).2.1 ∧ (lead X g (a + q) acc).2.2 = (lead (X.extract a (a + m)) f q acc).2.2
  | f, g, q, acc, hf, hg => by
    have hsz : (X.extract a (a + m)).size = m := by simp; omega
    by_cases hq : q < m
    case neg =>
      rw [lead_end _ f q acc (by omega), lead_end X g (a + q) acc (by omega), hsz, ← h]
      exact ⟨rfl, rfl, rfl⟩
    obtain ⟨f, rfl⟩ : ∃ f', f = f' + 1 := ⟨f - 1, by omega⟩
    obtain ⟨g, rfl⟩ : ∃ g', g = g' + 1 := ⟨g - 1, by omega⟩
    have hd := dec_line X a m q (by omega) hq (.inl h)
    have hr : rn (X.extract a (a + m)) q = rn X (a + q) := by unfold rn; rw [hd]
    have hw : wd (X.extract a (a + m)) q = wd X (a + q) := by unfold wd; rw [hd]
    have hl : looseB (X.extract a (a + m)) q = looseB X (a + q) := by unfold looseB; rw [hr, hw]
    have hb := byt_tail X a m q h
    have he : esc (fun k => byt (X.extract a (a + m)) (q + k)) = esc (fun k => byt X (a + q + k)) := by
      congr 1
      funext k
      rw [byt_tail X a m (q + k) h, Nat.add_assoc]
    by_cases c1 : byt X (a + q) = 34
    · rw [lead_quote X g (a + q) acc (by omega) c1, lead_quote _ f q acc (by omega) (by rw [hb]; exact c1)]
      exact ⟨rfl, by dsimp only; omega, rfl⟩
    by_cases c2 : byt X (a + q) = 92
    · cases ho : esc (fun k => byt X (a + q + k)) with
      | none =>
        rw [lead_none X g (a + q) acc (by omega) c2 ho, lead_none _ f q acc (by omega) (by rw [hb]; exact c2) (he.trans ho)]
        exact ⟨rfl, rfl, rfl⟩
      | some x =>
        obtain ⟨l, n⟩ := x
        have hn := (esc_ok _ l n ho).1
        rw [lead_some X g (a + q) acc l n (by omega) c2 ho, lead_some _ f q acc l n (by omega) (by rw [hb]; exact c2) (he.trans ho), Nat.add_assoc]
        exact lead_shift X a m h f g (q + n) (acc ++ l) (by omega) (by omega)
    by_cases c3 : ctl (rn X (a + q) : Int) = true ∨ looseB X (a + q) = true
    · rw [lead_bad X g (a + q) acc (by omega) c1 c2 c3, lead_bad _ f q acc (by omega) (by rw [hb]; exact c1) (by rw [hb]; exact c2) (by rw [hr, hl]; exact c3)]
      exact ⟨rfl, rfl, rfl⟩
    · have hwp := wd_pos X (a + q)
      rw [lead_char X g (a + q) acc (by omega) c1 c2 c3, lead_char _ f q acc (by omega) (by rw [hb]; exact c1) (by rw [hb]; exact c2) (by rw [hr, hl]; exact c3), hr, hw, Nat.add_assoc]
      exact lead_shift X a m h f g (q + wd X (a + q)) _ (by omega) (by omega)
termination_by f => f
theorem ch_bytes {y : ByteArray} : ∀ (n q c : Nat), ChAt y q c → (∀ k, k < n → q + k < y.size ∧ byt y (q + k) < 128) → ChAt y (q + n) (c + n)
  | 0, q, c, h, _ => h
  | n + 1, q, c, h, hk => by
    obtain ⟨h1, h2⟩ := hk 0 (by omega)
    rw [Nat.add_zero] at h1 h2
    have e := (rn_asc y q h1 h2).2
    have hs := h.step h1
    rw [e] at hs
    have := ch_bytes n (q + 1) (c + 1) hs (fun k hkn => by have := hk (k + 1) (by omega); rw [show q + 1 + k = q + (k + 1) by omega]; exact this)
    rw [show q + (n + 1) = q + 1 + n by omega, show c + (n + 1) = c + 1 + n by omega]
    exact this
/-- Where a quoted text ends a character ends, or begins. -/
theorem lead_ch (y : ByteArray) : ∀ (f q c : Nat) (acc : List UInt8), ChAt y q c → ∃ c', ChAt y (lead y f q acc).2.1 c'
  | 0, q, c, acc, h => chAt_end y _ q c (Nat.le_refl _) h
  | f + 1, q, c, acc, h => by
    by_cases hq : q < y.size
    case neg =>
      rw [lead_end y _ q acc hq]
      exact chAt_end y _ q c (Nat.le_refl _) h
    by_cases c1 : byt y q = 34
    · rw [lead_quote y f q acc hq c1]
      have hs := h.step hq
      rw [(rn_asc y q hq (by omega)).2] at hs
      exact ⟨_, hs⟩
    by_cases c2 : byt y q = 92
    · cases ho : esc (fun k => byt y (q + k)) with
      | none =>
        rw [lead_none y f q acc hq c2 ho]
        exact ⟨c, h⟩
      | some x =>
        obtain ⟨l, n⟩ := x
        obtain ⟨k1, k2, k3, k4⟩ := esc_ok _ l n ho
        rw [lead_some y f q acc l n hq c2 ho]
        refine lead_ch y f (q + n) (c + n) _ (ch_bytes n q c h (fun k hk => ?_))
        by_cases k0 : k = 0
        · subst k0
          rw [Nat.add_zero]
          exact ⟨hq, by omega⟩
        · have := k4 k (by omega) hk
          exact ⟨byt_in (by omega), this.2⟩
    by_cases c3 : ctl (rn y q : Int) = true ∨ looseB y q = true
    · rw [lead_bad y f q acc hq c1 c2 c3]
      exact ⟨c, h⟩
    · rw [lead_char y f q acc hq c1 c2 c3]
      exact lead_ch y f _ _ _ (h.step hq)
end Go.Proofs.YtngjjcmoekeciaaGreatDoor
