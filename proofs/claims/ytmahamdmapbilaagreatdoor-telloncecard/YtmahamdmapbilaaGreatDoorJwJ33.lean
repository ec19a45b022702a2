import Derived.Test.YtmahamdmapbilaaGreatDoorJwJ32
set_option maxHeartbeats 40000000
set_option maxRecDepth 100000
set_option linter.unusedVariables false
namespace Go.Proofs.YtmahamdmapbilaaGreatDoor
open Go.RowKit Go.Shelf
theorem dec_asc (s : ByteArray) (p : Nat) (hp : p < s.size) (h : byt s p < 128) : Utf8.decode s p = (byt s p, 1) := by
 rw [shape, get_byt s p hp, Lib.decodeN, if_pos h]
theorem rn_asc (s : ByteArray) (p : Nat) (hp : p < s.size) (h : byt s p < 128) : rn s p = byt s p ∧ wdt s p = 1 := by
 unfold rn wdt
 rw [dec_asc s p hp h]
 exact ⟨rfl, rfl⟩
theorem ext_ext (s : ByteArray) (b m p q : Nat) (hq : q ≤ m) : (s.extract b (b + m)).extract p q = s.extract (b + p) (b + q) := by
 rw [ByteArray.extract_extract]
 congr 1
 omega
theorem loose_cls (s : ByteArray) (p : Nat) (h : cls (rn s p : Int) = 3 ∨ cls (rn s p : Int) = 4) : looseB s p = false := by
 unfold looseB
 rw [decide_eq_false_iff_not]
 rintro ⟨e, _⟩
 rw [e] at h
 revert h
 decide
theorem run_eq (s : ByteArray) (b m : Nat) (h : b + m ≤ s.size) (hend : b + m = s.size ∨ byt s (b + m) = 10) : ∀ (f F q n c : Nat), q ≤ m → m < q + f → s.size ≤ b + q + F → ChAt (s.extract b (b + m)) q c → runD s F (b + q) = b + (runAt (s.extract b (b + m)) f q n).1 ∧ n ≤ (runAt (s.extract b (b + m)) f q n).2 ∧ ChAt (s.extract b (b + m)) (runAt (s.extract b (b + m)) f q n).1 (c + ((runAt (s.extract b (b + m)) f q n).2 - n))
 | 0, F, q, n, c, hq, hf, _, _ => by omega
 | f + 1, F, q, n, c, hq, hf, hF, hc => by
  have hsz : (s.extract b (b + m)).size = m := by simp; omega
  have hend' : b + m = s.size ∨ byt s (b + m) < 128 := by omega
  by_cases hqm : q < m
  · have hd := dec_line s b m q h hqm hend'
    have hr : rn (s.extract b (b + m)) q = rn s (b + q) := by unfold rn; rw [hd]
    have hw : wdt (s.extract b (b + m)) q = wdt s (b + q) := by unfold wdt; rw [hd]
    have hwp := wdt_pos s (b + q)
    have hwl := wdt_le (s.extract b (b + m)) q (by omega)
    rw [runAt, if_neg (by omega)]
    by_cases hk : cls (rn s (b + q) : Int) = 3 ∨ cls (rn s (b + q) : Int) = 4
    · rw [if_pos (by rw [hr]; exact hk.symm)]
      obtain ⟨G, rfl⟩ : ∃ G, F = G + 1 := ⟨F - 1, by omega⟩
      rw [runD_on s G (b + q) (by omega) (loose_cls s _ hk) hk]
      have ih := run_eq s b m h hend f G (q + wdt (s.extract b (b + m)) q) (n + 1) (c + 1) (by omega) (by omega) (by omega) (hc.step (by omega))
      rw [hw] at ih ⊢
      rw [← Nat.add_assoc] at ih
      refine ⟨ih.1, by omega, ?_⟩
      have e : c + 1 + ((runAt (s.extract b (b + m)) f (q + wdt s (b + q)) (n + 1)).2 - (n + 1)) = c + ((runAt (s.extract b (b + m)) f (q + wdt s (b + q)) (n + 1)).2 - n) := by omega
      rw [← e]
      exact ih.2.2
    · rw [if_neg (by rw [hr]; exact fun e => hk e.symm)]
      refine ⟨runD_end s F _ (fun e => hk e.2.2), Nat.le_refl _, ?_⟩
      simpa using hc
  · obtain rfl : q = m := by omega
    rw [runAt, if_pos (by omega), hsz]
    refine ⟨runD_end s F _ (fun e => ?_), Nat.le_refl _, by simpa using hc⟩
    rcases hend with q1 | q1
    · omega
    · have := (rn_asc s (b + q) e.1 (by omega)).1
      rw [this, q1] at e
      revert e
      rintro ⟨_, _, e | e⟩ <;> simp [cls] at e
theorem runR_eq (s : ByteArray) (b m : Nat) (h : b + m ≤ s.size) (hend : b + m = s.size ∨ byt s (b + m) = 10) : runD s s.size b = b + (runR (s.extract b (b + m))).1 ∧ (runR (s.extract b (b + m))).2 = cntQ s b (b + (runR (s.extract b (b + m))).1) := by
 have hsz : (s.extract b (b + m)).size = m := by simp; omega
 have hh := run_eq s b m h hend (m + 1) s.size 0 0 0 (Nat.zero_le _) (by omega) (by omega) .zero
 unfold runR
 rw [hsz]
 refine ⟨hh.1, ?_⟩
 have h3 := hh.2.2
 have hle := chAt_le h3
 have h4 := chAt_cnt h3
 unfold cntQ at h4 ⊢
 rw [ext_ext s b m 0 _ (by omega), Nat.add_zero] at h4
 rw [h4]
 omega
theorem byt_tail (X : ByteArray) (a m k : Nat) (h : a + m = X.size) : byt (X.extract a (a + m)) k = byt X (a + k) := by
 have hsz : (X.extract a (a + m)).size = m := by simp; omega
 by_cases hk : k < m
 · exact byt_ext X a m k (by omega) hk
 · rw [byt, dif_neg (by omega), byt, dif_neg (by omega)]
theorem lead_shift (X : ByteArray) (a m : Nat) (h : a + m = X.size) : ∀ (f g q : Nat) (acc : List UInt8), m ≤ q + f → m ≤ q + g → (lead X g (a + q) acc).1 = (lead (X.extract a (a + m)) f q acc).1 ∧ (lead X g (a + q) acc).2.1 = a + (lead (X.extract a (a + m)) f q acc).2.1 ∧ (lead X g (a + q) acc).2.2 = (lead (X.extract a (a + m)) f q acc).2.2
 | f, g, q, acc, hf, hg => by
  have hsz : (X.extract a (a + m)).size = m := by simp; omega
  by_cases hq : q < m
  case neg =>
    rw [lead_end _ f q acc (by omega), lead_end X g (a + q) acc (by omega), hsz, ← h]
    exact ⟨rfl, rfl, rfl⟩
  obtain ⟨f, rfl⟩ : ∃ f', f = f' + 1 := ⟨f - 1, by omega⟩
  obtain ⟨g, rfl⟩ : ∃ g', g = g' + 1 := ⟨g - 1, by omega⟩
  have hd := dec_line X a m q (by omega) hq (.inl h)
  have hr : rn (X.extract a (a + m)) q = rn X (a + q) := by unfold rn; rw [hd]
  have hw : wdt (X.extract a (a + m)) q = wdt X (a + q) := by unfold wdt; rw [hd]
  have hl : looseB (X.extract a (a + m)) q = looseB X (a + q) := by unfold looseB; rw [hr, hw]
  have hb := byt_tail X a m q h
  have he : esc (fun k => byt (X.extract a (a + m)) (q + k)) = esc (fun k => byt X (a + q + k)) := by
    congr 1
    funext k
    rw [byt_tail X a m (q + k) h, Nat.add_assoc]
  by_cases c1 : byt X (a + q) = 34
  · rw [lead_quote X g (a + q) acc (by omega) c1, lead_quote _ f q acc (by omega) (by rw [hb]; exact c1)]
    exact ⟨rfl, by dsimp only; omega, rfl⟩
  by_cases c2 : byt X (a + q) = 92
  · cases ho : esc (fun k => byt X (a + q + k)) with
    | none =>
     rw [lead_none X g (a + q) acc (by omega) c2 ho, lead_none _ f q acc (by omega) (by rw [hb]; exact c2) (he.trans ho)]
     exact ⟨rfl, rfl, rfl⟩
    | some x =>
     obtain ⟨l, n⟩ := x
     have hn := (esc_ok _ l n ho).1
     rw [lead_some X g (a + q) acc l n (by omega) c2 ho, lead_some _ f q acc l n (by omega) (by rw [hb]; exact c2) (he.trans ho), Nat.add_assoc]
     exact lead_shift X a m h f g (q + n) (acc ++ l) (by omega) (by omega)
  by_cases c3 : ctl (rn X (a + q) : Int) = true ∨ looseB X (a + q) = true
  · rw [lead_bad X g (a + q) acc (by omega) c1 c2 c3, lead_bad _ f q acc (by omega) (by rw [hb]; exact c1) (by rw [hb]; exact c2) (by rw [hr, hl]; exact c3)]
    exact ⟨rfl, rfl, rfl⟩
  · have hwp := wdt_pos X (a + q)
    rw [lead_char X g (a + q) acc (by omega) c1 c2 c3, lead_char _ f q acc (by omega) (by rw [hb]; exact c1) (by rw [hb]; exact c2) (by rw [hr, hl]; exact c3), hr, hw, Nat.add_assoc]
    exact lead_shift X a m h f g (q + wdt X (a + q)) _ (by omega) (by omega)
termination_by f => f
theorem ch_bytes {y : ByteArray} : ∀ (n q c : Nat), ChAt y q c → (∀ k, k < n → q + k < y.size ∧ byt y (q + k) < 128) → ChAt y (q + n) (c + n)
 | 0, q, c, h, _ => h
 | n + 1, q, c, h, hk => by
  obtain ⟨h1, h2⟩ := hk 0 (by omega)
  rw [Nat.add_zero] at h1 h2
  have e := (rn_asc y q h1 h2).2
  have hs := h.step h1
  rw [e] at hs
  have := ch_bytes n (q + 1) (c + 1) hs (fun k hkn => by have := hk (k + 1) (by omega); rw [show q + 1 + k = q + (k + 1) by omega]; exact this)
  rw [show q + (n + 1) = q + 1 + n by omega, show c + (n + 1) = c + 1 + n by omega]
  exact this
theorem lead_ch (y : ByteArray) : ∀ (f q c : Nat) (acc : List UInt8), ChAt y q c → ∃ c', ChAt y (lead y f q acc).2.1 c'
 | 0, q, c, acc, h => chAt_end y _ q c (Nat.le_refl _) h
 | f + 1, q, c, acc, h => by
  by_cases hq : q < y.size
  case neg =>
    rw [lead_end y _ q acc hq]
    exact chAt_end y _ q c (Nat.le_refl _) h
  by_cases c1 : byt y q = 34
  · rw [lead_quote y f q acc hq c1]
    have hs := h.step hq
    rw [(rn_asc y q hq (by omega)).2] at hs
    exact ⟨_, hs⟩
  by_cases c2 : byt y q = 92
  · cases ho : esc (fun k => byt y (q + k)) with
    | none =>
     rw [lead_none y f q acc hq c2 ho]
     exact ⟨c, h⟩
    | some x =>
     obtain ⟨l, n⟩ := x
     obtain ⟨k1, k2, k3, k4⟩ := esc_ok _ l n ho
     rw [lead_some y f q acc l n hq c2 ho]
     refine lead_ch y f (q + n) (c + n) _ (ch_bytes n q c h (fun k hk => ?_))
     by_cases k0 : k = 0
     · subst k0
       rw [Nat.add_zero]
       exact ⟨hq, by omega⟩
     · have := k4 k (by omega) hk
       exact ⟨byt_in (by omega), this.2⟩
  by_cases c3 : ctl (rn y q : Int) = true ∨ looseB y q = true
  · rw [lead_bad y f q acc hq c1 c2 c3]
    exact ⟨c, h⟩
  · rw [lead_char y f q acc hq c1 c2 c3]
    exact lead_ch y f _ _ _ (h.step hq)
theorem rn_small (s : ByteArray) (p : Nat) (hp : p < s.size) (h : rn s p < 128) : byt s p = rn s p := by
 by_cases hb : byt s p < 128
 · exact (rn_asc s p hp hb).1.symm
 · exfalso
   unfold rn at h
   rw [shape, get_byt s p hp] at h
   unfold Lib.decodeN at h
   rw [if_neg hb] at h
   revert h
   repeat' split
   all_goals (intro h; dsimp only at h; omega)
def StepE (s : ByteArray) (b m : Nat) : Stp → Prop
 | .gap => byt s b = 9 ∨ byt s b = 13 ∨ byt s b = 32
 | .stop => byt s b = 35
 | .bad e off => ¬ (byt s b = 9 ∨ byt s b = 13 ∨ byt s b = 32) ∧ byt s b ≠ 35 ∧ (nxD s b (b + m)).2.2 = e ∧ e ≠ 0 ∧ ∃ r c, (nxD s b (b + m)).2.1 = b + r ∧ r ≤ m ∧ off = cntQ s b (b + r) ∧ ChAt (s.extract b (b + m)) r c
 | .word k sz => ¬ (byt s b = 9 ∨ byt s b = 13 ∨ byt s b = 32) ∧ byt s b ≠ 35 ∧ ((nxD s b (b + m)).1 : Int) = k ∧ (nxD s b (b + m)).2.1 = b + sz ∧ (nxD s b (b + m)).2.2 = 0 ∧ sz ≤ m ∧ ∃ c, ChAt (s.extract b (b + m)) sz c
theorem cls_1 (r : Int) (h : cls r = 1) : r = 9 ∨ r = 13 ∨ r = 32 := by
 unfold cls at h
 split at h
 · assumption
 · exfalso
   revert h
   repeat' split
   all_goals (intro h; omega)
theorem cls_2 (r : Int) (h : cls r = 2) : r = 10 := by
 unfold cls at h
 revert h
 repeat' split
 all_goals (intro h; omega)
theorem cls_5 (r : Int) (h : cls r = 5) : 33 ≤ r ∧ r ≤ 126 := by
 unfold cls at h
 revert h
 repeat' split
 all_goals (intro h; omega)
theorem cnt_nil (s : ByteArray) (b : Nat) : cntQ s b (b + 0) = 0 := by
 have hl := starts_length (s.extract b (b + 0))
 have hz : (s.extract b (b + 0)).size = 0 := by simp
 unfold cntQ
 omega
theorem step_eq (s : ByteArray) (a M p : Nat) (h : a + M ≤ s.size) (hp : p < M) (hend : a + M = s.size ∨ byt s (a + M) = 10) (hno : byt s (a + p) ≠ 10) : StepE s (a + p) (M - p) (stepR (s.extract a (a + M)) p) := by
 have hsz : (s.extract a (a + M)).size = M := by simp; omega
 have hd := dec_line s a M p h hp (by omega)
 have hr : rn (s.extract a (a + M)) p = rn s (a + p) := by unfold rn; rw [hd]
 have hbm : a + p + (M - p) = a + M := by omega
 have hy : (s.extract a (a + M)).extract p (s.extract a (a + M)).size = s.extract (a + p) (a + p + (M - p)) := by rw [hsz, ext_ext s a M p M (Nat.le_refl _), hbm]
 obtain ⟨hrun, hcn⟩ := runR_eq s (a + p) (M - p) (by omega) (by rw [hbm]; exact hend)
 have hrle := runR_le (s.extract (a + p) (a + p + (M - p)))
 have hysz : (s.extract (a + p) (a + p + (M - p))).size = M - p := by simp; omega
 have hch := (run_eq s (a + p) (M - p) (by omega) (by rw [hbm]; exact hend) (M - p + 1) s.size 0 0 0 (Nat.zero_le _) (by omega) (by omega) .zero).2.2
 have hrun0 : runAt (s.extract (a + p) (a + p + (M - p))) (M - p + 1) 0 0 = runR (s.extract (a + p) (a + p + (M - p))) := by unfold runR; rw [hysz]
 rw [hrun0] at hch
 have hpx : (s.extract a (a + M)).extract p (p + (runR (s.extract (a + p) (a + p + (M - p)))).1) = s.extract (a + p) (a + p + (runR (s.extract (a + p) (a + p + (M - p)))).1) := (ext_ext s a M p _ (by omega)).trans (congrArg (fun z => s.extract (a + p) z) (by omega))
 have hsm : rn s (a + p) < 128 → byt s (a + p) = rn s (a + p) := rn_small s (a + p) (by omega)
 have hasc : byt s (a + p) < 128 → rn s (a + p) = byt s (a + p) := fun q => (rn_asc s (a + p) (by omega) q).1
 have hle1 : (leadR (s.extract (a + p) (a + p + (M - p)))).2.1 ≤ M - p := by have := leadR_le (s.extract (a + p) (a + p + (M - p))); omega
 have hlx : (s.extract a (a + M)).extract p (p + (leadR (s.extract (a + p) (a + p + (M - p)))).2.1) = s.extract (a + p) (a + p + (leadR (s.extract (a + p) (a + p + (M - p)))).2.1) := (ext_ext s a M p _ (by omega)).trans (congrArg (fun z => s.extract (a + p) z) (by omega))
 have hcl : cls (rn s (a + p) : Int) ≠ 2 := fun e => by
   have e1 := cls_2 _ e
   have e2 := hsm (by omega)
   omega
 have hlo : cls (rn s (a + p) : Int) ≠ 6 → looseB s (a + p) = false := fun e => by
   unfold looseB
   rw [decide_eq_false_iff_not]
   rintro ⟨q, _⟩
   rw [q] at e
   exact e (by decide)
 unfold stepR
 rw [hr, hy, hpx, hlx]
 by_cases e34 : (rn s (a + p) : Int) = 34
 · have hk : kindR (rn s (a + p) : Int) = 4 := by rw [kindR, if_pos e34]
   have hc5 : cls (rn s (a + p) : Int) = 5 := by rw [e34]; decide
   have hb34 : byt s (a + p) = 34 := by have := hsm (by omega); omega
   have hb0 : byt (s.extract (a + p) (a + p + (M - p))) 0 = 34 := by rw [byt_ext s (a + p) (M - p) 0 (by omega) (by omega)]; exact hb34
   have hlr : leadR (s.extract (a + p) (a + p + (M - p))) = lead (s.extract (a + p) (a + p + (M - p))) (M - p) 1 [] := by rw [leadR, if_pos hb0, hysz]
   have hXs : (s.extract 0 (a + p + (M - p))).size = a + p + (M - p) := by simp; omega
   have hXe : (s.extract 0 (a + p + (M - p))).extract (a + p) (a + p + (M - p)) = s.extract (a + p) (a + p + (M - p)) := by
     have := ext_ext s 0 (a + p + (M - p)) (a + p) (a + p + (M - p)) (Nat.le_refl _)
     simpa using this
   have hsh := lead_shift (s.extract 0 (a + p + (M - p))) (a + p) (M - p) hXs.symm (M - p) (a + p + (M - p)) 1 [] (by omega) (by omega)
   rw [hXe, ← hlr] at hsh
   have hn : nxD s (a + p) (a + p + (M - p)) = (4, a + p + (leadR (s.extract (a + p) (a + p + (M - p)))).2.1, (leadR (s.extract (a + p) (a + p + (M - p)))).2.2) := by
     unfold nxD
     rw [if_neg (by rw [hlo (by rw [hc5]; decide), hc5]; simp), if_neg (by rw [hc5]; decide), if_neg (by rw [hc5]; decide), if_pos hb34, hsh.2.1, hsh.2.2]
   obtain ⟨c', hc'⟩ := lead_ch (s.extract (a + p) (a + p + (M - p))) (M - p) 1 1 [] (by
     have := (ChAt.zero (x := s.extract (a + p) (a + p + (M - p)))).step (by omega)
     rw [(rn_asc _ 0 (by omega) (by omega)).2] at this
     exact this)
   rw [← hlr] at hc'
   rw [hk, if_neg (by decide), if_neg (by decide), if_neg (by decide), if_neg (by decide), if_pos rfl]
   by_cases he : (leadR (s.extract (a + p) (a + p + (M - p)))).2.2 = 0
   · rw [if_neg (by rw [he]; simp)]
     refine ⟨by omega, by omega, ?_, ?_, ?_, hle1, c', hc'⟩
     · rw [hn]; rfl
     · rw [hn]
     · rw [hn]; exact he
   · rw [if_pos he]
     refine ⟨by omega, by omega, ?_, he, _, c', ?_, hle1, rfl, hc'⟩
     · rw [hn]
     · rw [hn]
 by_cases e35 : (rn s (a + p) : Int) = 35
 · have hk : kindR (rn s (a + p) : Int) = -2 := by rw [kindR, if_neg e34, if_pos e35]
   rw [hk, if_neg (by decide), if_pos rfl]
   have := hsm (by omega)
   show byt s (a + p) = 35
   omega
 have h35 : byt s (a + p) ≠ 35 := fun e => by
   have := hasc (by omega)
   omega
 have hng : cls (rn s (a + p) : Int) ≠ 1 → ¬ (byt s (a + p) = 9 ∨ byt s (a + p) = 13 ∨ byt s (a + p) = 32) := fun hc e => by
   have e1 := hasc (by omega)
   rw [e1] at hc
   rcases e with e | e | e <;> (rw [e] at hc; exact hc (by decide))
 have hb34 : byt s (a + p) ≠ 34 := fun e => by
   have := hasc (by omega)
   omega
 by_cases h1 : cls (rn s (a + p) : Int) = 1
 · have hk : kindR (rn s (a + p) : Int) = -1 := by rw [kindR, if_neg e34, if_neg e35, if_pos h1]
   rw [hk, if_pos rfl]
   have e1 := cls_1 _ h1
   have e2 := hsm (by omega)
   show byt s (a + p) = 9 ∨ byt s (a + p) = 13 ∨ byt s (a + p) = 32
   omega
 by_cases h3 : cls (rn s (a + p) : Int) = 3
 · have hk : kindR (rn s (a + p) : Int) = 3 := by rw [kindR, if_neg e34, if_neg e35, if_neg h1, if_pos h3]
   have hn : nxD s (a + p) (a + p + (M - p)) = (match numR (s.extract (a + p) (a + p + (runR (s.extract (a + p) (a + p + (M - p)))).1)) with | none => (0, a + p, 21) | some _ => (3, a + p + (runR (s.extract (a + p) (a + p + (M - p)))).1, 0)) := by
     unfold nxD
     rw [if_neg (by rw [hlo (by rw [h3]; decide), h3]; simp), if_neg (by rw [h3]; decide), if_pos h3, hrun]
     cases numR (s.extract (a + p) (a + p + (runR (s.extract (a + p) (a + p + (M - p)))).1)) <;> rfl
   rw [hk, if_neg (by decide), if_neg (by decide), if_neg (by decide), if_pos rfl]
   cases hv : numR (s.extract (a + p) (a + p + (runR (s.extract (a + p) (a + p + (M - p)))).1)) with
   | none =>
     rw [hv] at hn
     rw [if_pos rfl]
     exact ⟨hng h1, h35, by rw [hn], by decide, 0, 0, by rw [hn]; rfl, Nat.zero_le _, (cnt_nil s (a + p)).symm, .zero⟩
   | some v =>
     rw [hv] at hn
     rw [if_neg (by simp)]
     exact ⟨hng h1, h35, by rw [hn]; rfl, by rw [hn], by rw [hn], by omega, _, hch⟩
 by_cases h4 : cls (rn s (a + p) : Int) = 4
 · have hk : kindR (rn s (a + p) : Int) = 2 := by rw [kindR, if_neg e34, if_neg e35, if_neg h1, if_neg h3, if_pos h4]
   have hn : nxD s (a + p) (a + p + (M - p)) = (if 128 < (runR (s.extract (a + p) (a + p + (M - p)))).2 then (0, a + p, 22) else (2, a + p + (runR (s.extract (a + p) (a + p + (M - p)))).1, 0)) := by
     unfold nxD
     rw [if_neg (by rw [hlo (by rw [h4]; decide), h4]; simp), if_pos h4, hrun, hcn]
     rfl
   rw [hk, if_neg (by decide), if_neg (by decide), if_pos rfl]
   by_cases hv : 128 < (runR (s.extract (a + p) (a + p + (M - p)))).2
   · rw [if_pos hv] at hn
     rw [if_pos hv]
     exact ⟨hng h1, h35, by rw [hn], by decide, 0, 0, by rw [hn]; rfl, Nat.zero_le _, (cnt_nil s (a + p)).symm, .zero⟩
   · rw [if_neg hv] at hn
     rw [if_neg hv]
     exact ⟨hng h1, h35, by rw [hn]; rfl, by rw [hn], by rw [hn], by omega, _, hch⟩
 by_cases h5 : cls (rn s (a + p) : Int) = 5
 · have hk : kindR (rn s (a + p) : Int) = 5 := by rw [kindR, if_neg e34, if_neg e35, if_neg h1, if_neg h3, if_neg h4, if_pos h5]
   have hr5 := cls_5 _ h5
   have hb5 := hsm (by omega)
   have hw1 := (rn_asc s (a + p) (by omega) (by omega)).2
   have hn : nxD s (a + p) (a + p + (M - p)) = (5, a + p + 1, 0) := by
     unfold nxD
     rw [if_neg (by rw [hlo (by rw [h5]; decide), h5]; simp), if_neg h4, if_neg h3, if_neg hb34, hw1]
   rw [hk, if_neg (by decide), if_neg (by decide), if_neg (by decide), if_neg (by decide), if_neg (by decide), if_pos rfl]
   refine ⟨hng h1, h35, by rw [hn]; rfl, by rw [hn], by rw [hn], by omega, 1, ?_⟩
   have h0 : byt (s.extract (a + p) (a + p + (M - p))) 0 = byt s (a + p) := byt_ext s (a + p) (M - p) 0 (by omega) (by omega)
   have := (ChAt.zero (x := s.extract (a + p) (a + p + (M - p)))).step (by omega)
   rw [(rn_asc _ 0 (by omega) (by omega)).2] at this
   exact this
 have h6 : cls (rn s (a + p) : Int) = 6 := by
   rcases cls_range (rn s (a + p) : Int) with q | q | q | q | q | q <;> omega
 have hk : kindR (rn s (a + p) : Int) = 0 := by rw [kindR, if_neg e34, if_neg e35, if_neg h1, if_neg h3, if_neg h4, if_neg h5]
 have hn : nxD s (a + p) (a + p + (M - p)) = (0, a + p, 20) := by
   unfold nxD
   rw [if_pos (.inr h6)]
 rw [hk, if_neg (by decide), if_neg (by decide), if_neg (by decide), if_neg (by decide), if_neg (by decide), if_neg (by decide)]
 exact ⟨hng h1, h35, by rw [hn], by decide, 0, 0, by rw [hn]; rfl, Nat.zero_le _, (cnt_nil s (a + p)).symm, .zero⟩
def chp (x : ByteArray) : Nat → Nat
 | 0 => 0
 | n + 1 => chp x n + wdt x (chp x n)
theorem chAt_chp {x : ByteArray} {p c : Nat} (h : ChAt x p c) : p = chp x c := by
 induction h with
 | zero => rfl
 | step h hp ih => rw [chp, ← ih]
theorem chp_lt (x : ByteArray) : ∀ (d c : Nat), chp x c + d ≤ chp x (c + d)
 | 0, c => Nat.le_refl _
 | d + 1, c => by
  have ih := chp_lt x d c
  have hw := wdt_pos x (chp x (c + d))
  have e : chp x (c + (d + 1)) = chp x (c + d) + wdt x (chp x (c + d)) := rfl
  omega
theorem chAt_lt2 {x : ByteArray} {p c q d : Nat} (h : ChAt x p c) (h' : ChAt x q d) (hpq : p < q) : c < d ∧ p + wdt x p ≤ q := by
 have e := chAt_chp h
 have e' := chAt_chp h'
 have hcd : c < d := by
  rcases Nat.lt_or_ge c d with k | k
  · exact k
  · have := chp_lt x (c - d) d
    rw [show d + (c - d) = c by omega] at this
    omega
 have := chp_lt x (d - (c + 1)) (c + 1)
 rw [show c + 1 + (d - (c + 1)) = d by omega, chp, ← e] at this
 exact ⟨hcd, by omega⟩
theorem chAt_same {x : ByteArray} {p c d : Nat} (h : ChAt x p c) (h' : ChAt x p d) : c = d := by
 have e := chAt_chp h
 have e' := chAt_chp h'
 rcases Nat.lt_trichotomy c d with k | k | k
 · have := chp_lt x (d - c) c
   rw [show c + (d - c) = d by omega] at this
   omega
 · exact k
 · have := chp_lt x (c - d) d
   rw [show d + (c - d) = c by omega] at this
   omega
theorem chAt_add {s : ByteArray} {a M p c : Nat} (h : a + M ≤ s.size) (hend : a + M = s.size ∨ byt s (a + M) < 128) (hp : p ≤ M) (h1 : ChAt (s.extract a (a + M)) p c) {r d : Nat} (h2 : ChAt (s.extract (a + p) (a + p + (M - p))) r d) : ChAt (s.extract a (a + M)) (p + r) (c + d) := by
 have hbm : a + p + (M - p) = a + M := by omega
 have hsz : (s.extract a (a + M)).size = M := by simp; omega
 have hysz : (s.extract (a + p) (a + p + (M - p))).size = M - p := by simp; omega
 induction h2 with
 | zero => exact h1
 | @step r d h2 hr ih =>
  have e1 := wd_line s a M (p + r) h (by omega) hend
  have e2 := wd_line s (a + p) (M - p) r (by omega) (by omega) (by rw [hbm]; exact hend)
  rw [e2, Nat.add_assoc a p r, ← e1]
  have := ih.step (by omega)
  rw [← Nat.add_assoc, ← Nat.add_assoc]
  exact this
theorem cut_to (x : ByteArray) (nx c : Nat) (acc : List Tok) (hn : ChAt x nx c) : ∀ (f p col : Nat), ChAt x p col → p ≤ nx → x.size < p + f → ∃ g, x.size < nx + g ∧ cutAt x f p nx col acc = cutAt x g nx nx c acc
 | 0, p, col, h, _, hf => by have := chAt_le h; omega
 | f + 1, p, col, h, hpn, hf => by
  by_cases e : p = nx
  · subst e
    obtain rfl := chAt_same h hn
    exact ⟨f + 1, hf, rfl⟩
  · have hlt : p < nx := by omega
    have hns := chAt_le hn
    have h2 := chAt_lt2 h hn hlt
    have hw := wdt_pos x p
    obtain ⟨g, hg, eg⟩ := cut_to x nx c acc hn f (p + wdt x p) (col + 1) (h.step (by omega)) h2.2 (by omega)
    exact ⟨g, hg, by rw [cut_skip x f p nx col acc (by omega) hlt]; exact eg⟩
theorem plc_line (s : ByteArray) (a ln : Nat) (h : plc s a = (ln, a)) : ∀ r, (∀ k, k < r → byt s (a + k) ≠ 10) → plc s (a + r) = (ln, a)
 | 0, _ => h
 | r + 1, hk => by
  rw [← Nat.add_assoc, plc, if_neg (hk r (by omega))]
  exact plc_line s a ln h r (fun k hr => hk k (by omega))
structure Loc (s : ByteArray) (i : Nat) (t : ByteArray) (j n : Nat) : Prop where
 hs : i + n ≤ s.size
 ht : j + n ≤ t.size
 fin : j + n = t.size ∨ byt t (j + n) < 128
 same : s.extract i (i + n) = t.extract j (j + n)
theorem Loc.byt {s t : ByteArray} {i j n : Nat} (h : Loc s i t j n) (q : Nat) (hq : q < n) : byt t (j + q) = byt s (i + q) := by
 have h1 := byt_ext s i n q h.hs hq
 have h2 := byt_ext t j n q h.ht hq
 rw [← h1, h.same, h2]
theorem Loc.dec {s t : ByteArray} {i j n : Nat} (h : Loc s i t j n) (q : Nat) (hq : q < n) (hw : q + wdt s (i + q) ≤ n) : Utf8.decode t (j + q) = Utf8.decode s (i + q) := by
 have hs := h.hs
 have h1 := dec_line t j n q h.ht hq h.fin
 have h2 := dec_pre s (i + q) (i + n) (by omega) (by omega) hs
 have hsz : (s.extract 0 (i + n)).size = i + n := by simp; omega
 have h3 := dec_line (s.extract 0 (i + n)) i n q (by omega) hq (.inl (by omega))
 have e : (s.extract 0 (i + n)).extract i (i + n) = s.extract i (i + n) := by
  rw [ByteArray.extract_extract, Nat.zero_add, Nat.zero_add, Nat.min_self]
 rw [← h1, ← h2, ← h3, e, h.same]
theorem Loc.chr {s t : ByteArray} {i j n : Nat} (h : Loc s i t j n) (q : Nat) (hq : q < n) (hw : q + wdt s (i + q) ≤ n) : rn t (j + q) = rn s (i + q) ∧ wdt t (j + q) = wdt s (i + q) ∧ looseB t (j + q) = looseB s (i + q) := by
 have hd := h.dec q hq hw
 have h1 : rn t (j + q) = rn s (i + q) := by unfold rn; rw [hd]
 have h2 : wdt t (j + q) = wdt s (i + q) := by unfold wdt; rw [hd]
 exact ⟨h1, h2, by unfold looseB; rw [h1, h2]⟩
def Sep (b : Nat) : Prop := b = 13 ∨ b = 32 ∨ b = 10
theorem sep_cls {b : Nat} (h : Sep b) : b < 128 ∧ ¬ (cls (b : Int) = 3 ∨ cls (b : Int) = 4) := by
 rcases h with rfl | rfl | rfl <;> exact ⟨by omega, by decide⟩
theorem run_loc {s t : ByteArray} {i j n : Nat} (h : Loc s i t j n) (hb : Sep (byt t (j + n))) : ∀ (F F' q : Nat), runD s F (i + q) = i + n → q ≤ n → n ≤ q + F' → runD t F' (j + q) = j + n
 | F, F', q, hr, hq, hf => by
  by_cases e : q = n
  · subst e
    refine runD_end t F' (j + q) ?_
    rintro ⟨h1, h2, h3⟩
    obtain ⟨k1, k2⟩ := sep_cls hb
    have := rn_asc t (j + q) h1 k1
    rw [this.1] at h3
    exact k2 h3
  · by_cases hc : i + q < s.size ∧ looseB s (i + q) = false ∧ (cls (rn s (i + q) : Int) = 3 ∨ cls (rn s (i + q) : Int) = 4)
    · cases F with
      | zero => rw [runD] at hr; omega
      | succ F =>
       rw [runD_on s F (i + q) hc.1 hc.2.1 hc.2.2] at hr
       have hwl := wdt_le s (i + q) hc.1
       have hle := (runD_le s F (i + q + wdt s (i + q)) hwl).1
       have hwp := wdt_pos s (i + q)
       obtain ⟨c1, c2, c3⟩ := h.chr q (by omega) (by omega)
       obtain ⟨f, rfl⟩ : ∃ f, F' = f + 1 := ⟨F' - 1, by omega⟩
       have ht := h.ht
       rw [runD_on t f (j + q) (by omega) (by rw [c3]; exact hc.2.1) (by rw [c1]; exact hc.2.2), c2, Nat.add_assoc]
       exact run_loc h hb F f (q + wdt s (i + q)) (by rw [← Nat.add_assoc]; exact hr) (by omega) (by omega)
    · rw [runD_end s F (i + q) hc] at hr
      omega
termination_by F => F
theorem num_loc (b b' : Nat → Nat) : ∀ (r p c : Nat) (x : Nat × Nat), r ≤ 6 → num b r p c = some x → (∀ k, k < x.2 → b' k = b k) → num b' r p c = some x
 | 0, p, c, x, hr, h, hs => by
  unfold num closeN at h ⊢
  by_cases hc : 0 ≠ 6 ∧ b p = 125 ∧ okR c = true
  · rw [if_pos hc] at h
    cases h
    rw [hs p (by dsimp only; omega), if_pos hc]
  · rw [if_neg hc] at h; cases h
 | r + 1, p, c, x, hr, h, hs => by
  have hk := (num_ok b (r + 1) p c x hr h).1
  have hp := hs p (by omega)
  unfold num at h ⊢
  rw [hp]
  by_cases hc : 0 ≤ hexV (b p)
  · rw [if_pos hc] at h ⊢
    exact num_loc b b' r (p + 1) _ x (by omega) h hs
  · rw [if_neg hc] at h ⊢
    unfold closeN at h ⊢
    rw [hp]
    exact h
theorem esc_loc (b b' : Nat → Nat) (l : List UInt8) (n : Nat) (h : esc b = some (l, n)) (hs : ∀ k, k < n → b' k = b k) : esc b' = some (l, n) := by
 have hn := (esc_ok b l n h).1
 have e1 : b' 1 = b 1 := hs 1 (by omega)
 unfold esc at h ⊢
 rw [e1]
 by_cases c1 : b 1 = 34 ∨ b 1 = 92
 · rw [if_pos c1] at h ⊢; exact h
 rw [if_neg c1] at h ⊢
 by_cases c2 : b 1 = 110
 · rw [if_pos c2] at h ⊢; exact h
 rw [if_neg c2] at h ⊢
 by_cases c3 : b 1 = 116
 · rw [if_pos c3] at h ⊢; exact h
 rw [if_neg c3] at h ⊢
 by_cases c4 : b 1 = 114
 · rw [if_pos c4] at h ⊢; exact h
 rw [if_neg c4] at h ⊢
 by_cases c5 : b 1 = 120
 · rw [if_pos c5] at h ⊢
   by_cases d : 0 ≤ hexV (b 2) ∧ 0 ≤ hexV (b 3)
   · rw [if_pos d] at h
     cases h
     rw [hs 2 (by omega), hs 3 (by omega), if_pos d]
   · rw [if_neg d] at h; cases h
 rw [if_neg c5] at h ⊢
 by_cases c6 : b 1 = 117
 · rw [if_pos c6] at h ⊢
   by_cases d : b 2 = 123
   · rw [if_pos d] at h
     cases hx : num b 6 3 0 with
     | none => rw [hx] at h; cases h
     | some x =>
      rw [hx] at h
      have hk := (num_ok b 6 3 0 x (by omega) hx).1
      have e : x.2 = n := by
       rw [Option.map_some] at h
       exact (Prod.mk.inj (Option.some.inj h)).2
      rw [hs 2 (by omega), if_pos d, num_loc b b' 6 3 0 x (by omega) hx (fun k hk => hs k (by omega))]
      exact h
   · rw [if_neg d] at h; cases h
 · rw [if_neg c6] at h; cases h
theorem lead_loc {s t : ByteArray} {i j n : Nat} (h : Loc s i t j n) : ∀ (f f' q : Nat) (acc : List UInt8), (lead s f (i + q) acc).2.2 = 0 → (lead s f (i + q) acc).2.1 = i + n → q ≤ n → n ≤ q + f' → (lead t f' (j + q) acc).2.2 = 0 ∧ (lead t f' (j + q) acc).2.1 = j + n
 | 0, f', q, acc, h1, h2, hq, hf => by rw [lead] at h1; cases h1
 | f + 1, f', q, acc, h1, h2, hq, hf => by
  have hs := h.hs
  have ht := h.ht
  by_cases hp : i + q < s.size
  case neg => rw [lead_end s _ _ acc hp] at h1; cases h1
  have hgt : q < n := by
    by_cases c1 : byt s (i + q) = 34
    · rw [lead_quote s f _ acc hp c1] at h2; dsimp only at h2; omega
    by_cases c2 : byt s (i + q) = 92
    · cases ho : esc (fun k => byt s (i + q + k)) with
      | none => rw [lead_none s f _ acc hp c2 ho] at h1; cases h1
      | some x =>
       obtain ⟨l, m⟩ := x
       have hm := (esc_ok _ l m ho).1
       rw [lead_some s f _ acc l m hp c2 ho] at h1 h2
       have := lead_gt s f _ _ h1
       omega
    by_cases c3 : ctl (rn s (i + q) : Int) = true ∨ looseB s (i + q) = true
    · rw [lead_bad s f _ acc hp c1 c2 c3] at h1; cases h1
    · rw [lead_char s f _ acc hp c1 c2 c3] at h1 h2
      have := lead_gt s f _ _ h1
      have := wdt_pos s (i + q)
      omega
  obtain ⟨f', rfl⟩ : ∃ g, f' = g + 1 := ⟨f' - 1, by omega⟩
  have hb := h.byt q hgt
  by_cases c1 : byt s (i + q) = 34
  · rw [lead_quote s f _ acc hp c1] at h2
    rw [lead_quote t f' _ acc (by omega) (by omega)]
    dsimp only at h2 ⊢
    exact ⟨rfl, by omega⟩
  by_cases c2 : byt s (i + q) = 92
  · cases ho : esc (fun k => byt s (i + q + k)) with
    | none => rw [lead_none s f _ acc hp c2 ho] at h1; cases h1
    | some x =>
      obtain ⟨l, m⟩ := x
      have hm := (esc_ok _ l m ho).1
      rw [lead_some s f _ acc l m hp c2 ho] at h1 h2
      have hg := lead_gt s f _ _ h1
      have hqm : q + m ≤ n := by omega
      have ho' := esc_loc _ (fun k => byt t (j + q + k)) l m ho (fun k hk => by
       have := h.byt (q + k) (by omega)
       rw [← Nat.add_assoc, ← Nat.add_assoc] at this
       exact this)
      rw [lead_some t f' _ acc l m (by omega) (by omega) ho', Nat.add_assoc]
      rw [Nat.add_assoc] at h1 h2
      exact lead_loc h f f' (q + m) _ h1 h2 hqm (by omega)
  by_cases c3 : ctl (rn s (i + q) : Int) = true ∨ looseB s (i + q) = true
  · rw [lead_bad s f _ acc hp c1 c2 c3] at h1; cases h1
  · rw [lead_char s f _ acc hp c1 c2 c3] at h1 h2
    have hg := lead_gt s f _ _ h1
    have hwp := wdt_pos s (i + q)
    have hqm : q + wdt s (i + q) ≤ n := by omega
    obtain ⟨e1, e2, e3⟩ := h.chr q hgt hqm
    rw [lead_char t f' _ acc (by omega) (by omega) (by omega) (by rw [e1, e3]; exact c3), e1, e2, Nat.add_assoc]
    rw [Nat.add_assoc] at h1 h2
    exact lead_loc h f f' (q + wdt s (i + q)) _ h1 h2 hqm (by omega)
theorem le_ge (t : ByteArray) (j n E : Nat) (hE : LEnd t (j + 1) E) (h : j + n < t.size) (hno : ∀ k, k < n → byt t (j + k) ≠ 10) : j + n ≤ E := by
 obtain ⟨a, b, c, d⟩ := hE
 by_cases e : j + n ≤ E
 · exact e
 · exfalso
   rcases d with d | d
   · omega
   · obtain ⟨k, hk⟩ : ∃ k, E = j + k := ⟨E - j, by omega⟩
     rw [hk] at d
     exact hno k (by omega) d
theorem nx_loc (s : ByteArray) (i E : Nat) (hi : i < s.size) (hE : LEnd s (i + 1) E) (h0 : (nxD s i E).2.2 = 0) (n : Nat) (hn : (nxD s i E).2.1 = i + n) (t : ByteArray) (j E' : Nat) (h : Loc s i t j n) (hb : Sep (byt t (j + n))) (hE' : LEnd t (j + 1) E') (htn : j + n < t.size) : nxD t j E' = ((nxD s i E).1, j + n, 0) := by
 have hbd := nx_bounds s i E hi hE h0
 have hn0 : 0 < n := by omega
 have ht := h.ht
 have hb0 := h.byt 0 hn0
 rw [Nat.add_zero, Nat.add_zero] at hb0
 have hsz := hE'.2.1
 unfold nxD at h0 hn ⊢
 by_cases c1 : looseB s i = true ∨ cls (rn s i : Int) = 6
 · rw [if_pos c1] at h0; cases h0
 rw [if_neg c1] at h0 hn ⊢
 have hlo : looseB s i = false := by
   cases e : looseB s i with
   | false => rfl
   | true => exact absurd (.inl e) c1
 have key : wdt s i ≤ n → (looseB t j = looseB s i ∧ rn t j = rn s i ∧ wdt t j = wdt s i) := fun hw => by
   have := h.chr 0 hn0 (by rw [Nat.add_zero]; omega)
   rw [Nat.add_zero, Nat.add_zero] at this
   exact ⟨this.2.2, this.1, this.2.1⟩
 by_cases c2 : cls (rn s i : Int) = 4
 · rw [if_pos c2] at h0 hn ⊢
   by_cases c : 128 < (starts (s.extract i (runD s s.size i))).length
   · rw [if_pos c] at h0; cases h0
   rw [if_neg c] at hn ⊢
   dsimp only at hn ⊢
   have hw : wdt s i ≤ n := by
     obtain ⟨z, hz⟩ : ∃ z, s.size = z + 1 := ⟨s.size - 1, by omega⟩
     rw [hz, runD_on s z i hi hlo (.inr c2)] at hn
     have := (runD_le s z (i + wdt s i) (wdt_le s i hi)).1
     omega
   obtain ⟨k1, k2, k3⟩ := key hw
   have hr := run_loc h hb s.size t.size 0 (by rw [Nat.add_zero]; exact hn) (Nat.zero_le _) (by omega)
   rw [Nat.add_zero] at hr
   rw [hn, h.same] at c
   rw [if_neg (by rw [k1, k2]; exact c1), if_pos (by rw [k2]; exact c2), hr, if_neg c]
 rw [if_neg c2] at h0 hn ⊢
 by_cases c3 : cls (rn s i : Int) = 3
 · rw [if_pos c3] at h0 hn ⊢
   cases hm : numR (s.extract i (runD s s.size i)) with
   | none => rw [hm] at h0; cases h0
   | some v =>
     rw [hm] at hn
     dsimp only at hn ⊢
     have hw : wdt s i ≤ n := by
       obtain ⟨z, hz⟩ : ∃ z, s.size = z + 1 := ⟨s.size - 1, by omega⟩
       rw [hz, runD_on s z i hi hlo (.inl c3)] at hn
       have := (runD_le s z (i + wdt s i) (wdt_le s i hi)).1
       omega
     obtain ⟨k1, k2, k3⟩ := key hw
     have hr := run_loc h hb s.size t.size 0 (by rw [Nat.add_zero]; exact hn) (Nat.zero_le _) (by omega)
     rw [Nat.add_zero] at hr
     rw [hn, h.same] at hm
     rw [if_neg (by rw [k1, k2]; exact c1), if_neg (by rw [k2]; exact c2), if_pos (by rw [k2]; exact c3), hr, hm]
 rw [if_neg c3] at h0 hn ⊢
 by_cases c4 : byt s i = 34
 · rw [if_pos c4] at h0 hn ⊢
   dsimp only at h0 hn ⊢
   have hw1 := (rn_asc s i hi (by omega)).2
   obtain ⟨k1, k2, k3⟩ := key (by omega)
   have hEs := hE.2.1
   have hsE : (s.extract 0 E).size = E := by simp; omega
   have htE : (t.extract 0 E').size = E' := by simp; omega
   have hle := lead_le (s.extract 0 E) E (i + 1) [] (by have := hE.1; omega)
   rw [hn, hsE] at hle
   have hlt : j + n ≤ E' := le_ge t j n E' hE' htn (fun k hk => by
     rw [h.byt k hk]
     by_cases e : k = 0
     · rw [e, Nat.add_zero]; omega
     · exact hE.2.2.1 (i + k) (by omega) (by omega))
   have hL : Loc (s.extract 0 E) i (t.extract 0 E') j n := ⟨by omega, by omega, (by
     by_cases e : j + n = E'
     · exact .inl (by omega)
     · have := byt_ext t 0 E' (j + n) (by omega) (by omega)
       rw [Nat.zero_add, Nat.zero_add] at this
       rw [this]
       exact .inr (sep_cls hb).1), by
     rw [ByteArray.extract_extract, ByteArray.extract_extract, Nat.zero_add, Nat.zero_add, Nat.zero_add, Nat.zero_add, Nat.min_eq_left hle, Nat.min_eq_left (by omega)]
     exact h.same⟩
   obtain ⟨l1, l2⟩ := lead_loc hL E E' 1 [] h0 hn (by omega) (by omega)
   rw [if_neg (by rw [k1, k2]; exact c1), if_neg (by rw [k2]; exact c2), if_neg (by rw [k2]; exact c3), if_pos (by omega), l1, l2]
 · rw [if_neg c4] at h0 hn ⊢
   dsimp only at hn ⊢
   obtain ⟨k1, k2, k3⟩ := key (by omega)
   rw [if_neg (by rw [k1, k2]; exact c1), if_neg (by rw [k2]; exact c2), if_neg (by rw [k2]; exact c3), if_neg (by omega), k3, show wdt s i = n by omega]
end Go.Proofs.YtmahamdmapbilaaGreatDoor
