/- What begins at a place of a line: the program's step, and the document's. -/
import Derived.Test.YtngjjcmoekeciaaGreatDoorJnJ13
namespace Go.Proofs.YtngjjcmoekeciaaGreatDoor
open Go.RowKit Go.Shelf

theorem rn_small (s : ByteArray) (p : Nat) (hp : p < s.size) (h : rn s p < 128) : byt s p = rn s p := by
  by_cases hb : byt s p < 128
  · exact (rn_asc s p hp hb).1.symm
  · exfalso
    unfold rn at h
    rw [shape, get_byt s p hp] at h
    unfold Lib.decodeN at h
    rw [if_neg hb] at h
    revert h
    repeat' split
    all_goals (intro h; dsimp only at h; omega)
/-- What the document says at a place of a line where the program says this. -/
def StepE (s : ByteArray) (b m : Nat) : Stp → Prop
  | .gap => byt s b = 9 ∨ byt s b = 13 ∨ byt s b = 32
  | .stop => byt s b = 35
  | .bad e off => ¬ (byt s b = 9 ∨ byt s b = 13 ∨ byt s b = 32) ∧ byt s b ≠ 35 ∧ (nxD s b (b + m)).2.2 = e ∧ e ≠ 0 ∧ ∃ r c, (nxD s b (b + m)).2.1 = b + r ∧ r ≤ m ∧ off = cnt s b (b + r) ∧ ChAt (s.extract b (b + m)) r c
  | .word k sz => ¬ (byt s b = 9 ∨ byt s b = 13 ∨ byt s b = 32) ∧ byt s b ≠ 35 ∧ ((nxD s b (b + m)).1 : Int) = k ∧ (nxD s b (b + m)).2.1 = b + sz ∧ (nxD s b (b + m)).2.2 = 0 ∧ sz ≤ m ∧ ∃ c, ChAt (s.extract b (b + m)) sz c
theorem cls_1 (r : Int) (h : cls r = 1) : r = 9 ∨ r = 13 ∨ r = 32 := by
  unfold cls at h
  split at h
  · assumption
  · exfalso
    revert h
    repeat' split
    all_goals (intro h; omega)
theorem cls_2 (r : Int) (h : cls r = 2) : r = 10 := by
  unfold cls at h
  revert h
  repeat' split
  all_goals (intro h; omega)
theorem cls_5 (r : Int) (h : cls r = 5) : 33 ≤ r ∧ r ≤ 126 := by
  unfold cls at h
  revert h
  repeat' split
  all_goals (intro h; omega)
theorem cnt_nil (s : ByteArray) (b : Nat) : cnt s b (b + 0) = 0 := by
  have hl := starts_length (s.extract b (b + 0))
  have hz : (s.extract b (b + 0)).size = 0 := by simp
  unfold cnt
  omega
/-- The program's step at the rest of a line, in the text's own words. -/
theorem step_eq (s : ByteArray) (a M p : Nat) (h : a + M ≤ s.size) (hp : p < M) (hend : a + M = s.size ∨ byt s (a + M) = 10) (hno : byt s (a + p) ≠ 10) : StepE s (a + p) (M - p) (stepR (s.extract a (a + M)) p) := by
  have hsz : (s.extract a (a + M)).size = M := by simp; omega
  have hd := dec_line s a M p h hp (by omega)
  have hr : rn (s.extract a (a + M)) p = rn s (a + p) := by unfold rn; rw [hd]
  have hbm : a + p + (M - p) = a + M := by omega
  have hy : (s.extract a (a + M)).extract p (s.extract a (a + M)).size = s.extract (a + p) (a + p + (M - p)) := by rw [hsz, ext_ext s a M p M (Nat.le_refl _), hbm]
  obtain ⟨hrun, hcn⟩ := runR_eq s (a + p) (M - p) (by omega) (by rw [hbm]; exact hend)
  have hrle := runR_le (s.extract (a + p) (a + p + (M - p)))
  have hysz : (s.extract (a + p) (a + p + (M - p))).size = M - p := by simp; omega
  have hch := (run_eq s (a + p) (M - p) (by omega) (by rw [hbm]; exact hend) (M - p + 1) s.size 0 0 0 (Nat.zero_le _) (by omega) (by omega) .zero).2.2
  have hrun0 : runAt (s.extract (a + p) (a + p + (M - p))) (M - p + 1) 0 0 = runR (s.extract (a + p) (a + p + (M - p))) := by unfold runR; rw [hysz]
  rw [hrun0] at hch
  have hpx : (s.extract a (a + M)).extract p (p + (runR (s.extract (a + p) (a + p + (M - p)))).1) = s.extract (a + p) (a + p + (runR (s.extract (a + p) (a + p + (M - p)))).1) := (ext_ext s a M p _ (by omega)).trans (congrArg (fun z => s.extract (a + p) z) (by omega))
  have hsm : rn s (a + p) < 128 → byt s (a + p) = rn s (a + p) := rn_small s (a + p) (by omega)
  have hasc : byt s (a + p) < 128 → rn s (a + p) = byt s (a + p) := fun q => (rn_asc s (a + p) (by omega) q).1
  have hle1 : (leadR (s.extract (a + p) (a + p + (M - p)))).2.1 ≤ M - p := by have := leadR_le (s.extract (a + p) (a + p + (M - p))); omega
  have hlx : (s.extract a (a + M)).extract p (p + (leadR (s.extract (a + p) (a + p + (M - p)))).2.1) = s.extract (a + p) (a + p + (leadR (s.extract (a + p) (a + p + (M - p)))).2.1) := (ext_ext s a M p _ (by omega)).trans (congrArg (fun z => s.extract (a + p) z) (by omega))
  have hcl : cls (rn s (a + p) : Int) ≠ 2 := fun e => by
    have e1 := cls_2 _ e
    have e2 := hsm (by omega)
    omega
  have hlo : cls (rn s (a + p) : Int) ≠ 6 → looseB s (a + p) = false := fun e => by
    unfold looseB
    rw [decide_eq_false_iff_not]
    rintro ⟨q, _⟩
    rw [q] at e
    exact e (by decide)
  unfold stepR
  rw [hr, hy, hpx, hlx]
  by_cases e34 : (rn s (a + p) : Int) = 34
  · have hk : kindR (rn s (a + p) : Int) = 4 := by rw [kindR, if_pos e34]
    have hc5 : cls (rn s (a + p) : Int) = 5 := by rw [e34]; decide
    have hb34 : byt s (a + p) = 34 := by have := hsm (by omega); omega
    have hb0 : byt (s.extract (a + p) (a + p + (M - p))) 0 = 34 := by rw [byt_ext s (a + p) (M - p) 0 (by omega) (by omega)]; exact hb34
    have hlr : leadR (s.extract (a + p) (a + p + (M - p))) = lead (s.extract (a + p) (a + p + (M - p))) (M - p) 1 [] := by rw [leadR, if_pos hb0, hysz]
    have hXs : (s.extract 0 (a + p + (M - p))).size = a + p + (M - p) := by simp; omega
    have hXe : (s.extract 0 (a + p + (M - p))).extract (a + p) (a + p + (M - p)) = s.extract (a + p) (a + p + (M - p)) := by
      have := ext_ext s 0 (a + p + (M - p)) (a + p) (a + p + (M - p)) (Nat.le_refl _)
      simpa using this
    have hsh := lead_shift (s.extract 0 (a + p + (M - p))) (a + p) (M - p) hXs.symm (M - p) (a + p + (M - p)) 1 [] (by omega) (by omega)
    rw [hXe, ← hlr] at hsh
    have hn : nxD s (a + p) (a + p + (M - p)) = (4, a + p + (leadR (s.extract (a + p) (a + p + (M - p)))).2.1, (leadR (s.extract (a + p) (a + p + (M - p)))).2.2) := by
      unfold nxD
      rw [if_neg (by rw [hlo (by rw [hc5]; decide), hc5]; simp), if_neg (by rw [hc5]; decide), if_neg (by rw [hc5]; decide), if_pos hb34, hsh.2.1, hsh.2.2]
    obtain ⟨c', hc'⟩ := lead_ch (s.extract (a + p) (a + p + (M - p))) (M - p) 1 1 [] (by
      have := (ChAt.zero (x := s.extract (a + p) (a + p + (M - p)))).step (by omega)
      rw [(rn_asc _ 0 (by omega) (by omega)).2] at this
      exact this)
    rw [← hlr] at hc'
    rw [hk, if_neg (by decide), if_neg (by decide), if_neg (by decide), if_neg (by decide), if_pos rfl]
    by_cases he : (leadR (s.extract (a + p) (a + p + (M - p)))).2.2 = 0
    · rw [if_neg (by rw [he]; simp)]
      refine ⟨by omega, by omega, ?_, ?_, ?_, hle1, c', hc'⟩
      · rw [hn]; rfl
      · rw [hn]
      · rw [hn]; exact he
    · rw [if_pos he]
      refine ⟨by omega, by omega, ?_, he, _, c', ?_, hle1, rfl, hc'⟩
      · rw [hn]
      · rw [hn]
  by_cases e35 : (rn s (a + p) : Int) = 35
  · have hk : kindR (rn s (a + p) : Int) = -2 := by rw [kindR, if_neg e34, if_pos e35]
    rw [hk, if_neg (by decide), if_pos rfl]
    have := hsm (by omega)
    show byt s (a + p) = 35
    omega
  have h35 : byt s (a + p) ≠ 35 := fun e => by
    have := hasc (by omega)
    omega
  have hng : cls (rn s (a + p) : Int) ≠ 1 → ¬ (byt s (a + p) = 9 ∨ byt s (a + p) = 13 ∨ byt s (a + p) = 32) := fun hc e => by
    have e1 := hasc (by omega)
    rw [e1] at hc
    rcases e with e | e | e <;> (rw [e] at hc; exact hc (by decide))
  have hb34 : byt s (a + p) ≠ 34 := fun e => by
    have := hasc (by omega)
    omega
  by_cases h1 : cls (rn s (a + p) : Int) = 1
  · have hk : kindR (rn s (a + p) : Int) = -1 := by rw [kindR, if_neg e34, if_neg e35, if_pos h1]
    rw [hk, if_pos rfl]
    have e1 := cls_1 _ h1
    have e2 := hsm (by omega)
    show byt s (a + p) = 9 ∨ byt s (a + p) = 13 ∨ byt s (a + p) = 32
    omega
  by_cases h3 : cls (rn s (a + p) : Int) = 3
  · have hk : kindR (rn s (a + p) : Int) = 3 := by rw [kindR, if_neg e34, if_neg e35, if_neg h1, if_pos h3]
    have hn : nxD s (a + p) (a + p + (M - p)) = (match numR (s.extract (a + p) (a + p + (runR (s.extract (a + p) (a + p + (M - p)))).1)) with | none => (0, a + p, 21) | some _ => (3, a + p + (runR (s.extract (a + p) (a + p + (M - p)))).1, 0)) := by
      unfold nxD
      rw [if_neg (by rw [hlo (by rw [h3]; decide), h3]; simp), if_neg (by rw [h3]; decide), if_pos h3, hrun]
      cases numR (s.extract (a + p) (a + p + (runR (s.extract (a + p) (a + p + (M - p)))).1)) <;> rfl
    rw [hk, if_neg (by decide), if_neg (by decide), if_neg (by decide), if_pos rfl]
    cases hv : numR (s.extract (a + p) (a + p + (runR (s.extract (a + p) (a + p + (M - p)))).1)) with
    | none =>
      rw [hv] at hn
      rw [if_pos rfl]
      exact ⟨hng h1, h35, by rw [hn], by decide, 0, 0, by rw [hn]; rfl, Nat.zero_le _, (cnt_nil s (a + p)).symm, .zero⟩
    | some v =>
      rw [hv] at hn
      rw [if_neg (by simp)]
      exact ⟨hng h1, h35, by rw [hn]; rfl, by rw [hn], by rw [hn], by omega, _, hch⟩
  by_cases h4 : cls (rn s (a + p) : Int) = 4
  · have hk : kindR (rn s (a + p) : Int) = 2 := by rw [kindR, if_neg e34, if_neg e35, if_neg h1, if_neg h3, if_pos h4]
    have hn : nxD s (a + p) (a + p + (M - p)) = (if 128 < (runR (s.extract (a + p) (a + p + (M - p)))).2 then (0, a + p, 22) else (2, a + p + (runR (s.extract (a + p) (a + p + (M - p)))).1, 0)) := by
      unfold nxD
      rw [if_neg (by rw [hlo (by rw [h4]; decide), h4]; simp), if_pos h4, hrun, hcn]
      rfl
    rw [hk, if_neg (by decide), if_neg (by decide), if_pos rfl]
    by_cases hv : 128 < (runR (s.extract (a + p) (a + p + (M - p)))).2
    · rw [if_pos hv] at hn
      rw [if_pos hv]
      exact ⟨hng h1, h35, by rw [hn], by decide, 0, 0, by rw [hn]; rfl, Nat.zero_le _, (cnt_nil s (a + p)).symm, .zero⟩
    · rw [if_neg hv] at hn
      rw [if_neg hv]
      exact ⟨hng h1, h35, by rw [hn]; rfl, by rw [hn], by rw [hn], by omega, _, hch⟩
  by_cases h5 : cls (rn s (a + p) : Int) = 5
  · have hk : kindR (rn s (a + p) : Int) = 5 := by rw [kindR, if_neg e34, if_neg e35, if_neg h1, if_neg h3, if_neg h4, if_pos h5]
    have hr5 := cls_5 _ h5
    have hb5 := hsm (by omega)
    have hw1 := (rn_asc s (a + p) (by omega) (by omega)).2
    have hn : nxD s (a + p) (a + p + (M - p)) = (5, a + p + 1, 0) := by
      unfold nxD
      rw [if_neg (by rw [hlo (by rw [h5]; decide), h5]; simp), if_neg h4, if_neg h3, if_neg hb34, hw1]
    rw [hk, if_neg (by decide), if_neg (by decide), if_neg (by decide), if_neg (by decide), if_neg (by decide), if_pos rfl]
    refine ⟨hng h1, h35, by rw [hn]; rfl, by rw [hn], by rw [hn], by omega, 1, ?_⟩
    have h0 : byt (s.extract (a + p) (a + p + (M - p))) 0 = byt s (a + p) := byt_ext s (a + p) (M - p) 0 (by omega) (by omega)
    have := (ChAt.zero (x := s.extract (a + p) (a + p + (M - p)))).step (by omega)
    rw [(rn_asc _ 0 (by omega) (by omega)).2] at this
    exact this
  have h6 : cls (rn s (a + p) : Int) = 6 := by
    rcases cls_range (rn s (a + p) : Int) with q | q | q | q | q | q <;> omega
  have hk : kindR (rn s (a + p) : Int) = 0 := by rw [kindR, if_neg e34, if_neg e35, if_neg h1, if_neg h3, if_neg h4, if_neg h5]
  have hn : nxD s (a + p) (a + p + (M - p)) = (0, a + p, 20) := by
    unfold nxD
    rw [if_pos (.inr h6)]
  rw [hk, if_neg (by decide), if_neg (by decide), if_neg (by decide), if_neg (by decide), if_neg (by decide), if_neg (by decide)]
  exact ⟨hng h1, h35, by rw [hn], by decide, 0, 0, by rw [hn]; rfl, Nat.zero_le _, (cnt_nil s (a + p)).symm, .zero⟩
end Go.Proofs.YtngjjcmoekeciaaGreatDoor
namespace Go.Proofs.YtngjjcmoekeciaaGreatDoor
open Go.RowKit Go.Shelf

def chp (x : ByteArray) : Nat → Nat
  | 0 => 0
  | n + 1 => chp x n + wd x (chp x n)
theorem chAt_chp {x : ByteArray} {p c : Nat} (h : ChAt x p c) : p = chp x c := by
  induction h with
  | zero => rfl
  | step h hp ih => rw [chp, ← ih]
theorem chp_lt (x : ByteArray) : ∀ (d c : Nat), chp x c + d ≤ chp x (c + d)
  | 0, c => Nat.le_refl _
  | d + 1, c => by
    have ih := chp_lt x d c
    have hw := wd_pos x (chp x (c + d))
    have e : chp x (c + (d + 1)) = chp x (c + d) + wd x (chp x (c + d)) := rfl
    omega
theorem chAt_lt2 {x : ByteArray} {p c q d : Nat} (h : ChAt x p c) (h' : ChAt x q d) (hpq : p < q) : c < d ∧ p + wd x p ≤ q := by
  have e := chAt_chp h
  have e' := chAt_chp h'
  have hcd : c < d := by
    rcases Nat.lt_or_ge c d with k | k
    · exact k
    · have := chp_lt x (c - d) d
      rw [show d + (c - d) = c by omega] at this
      omega
  have := chp_lt x (d - (c + 1)) (c + 1)
  rw [show c + 1 + (d - (c + 1)) = d by omega, chp, ← e] at this
  exact ⟨hcd, by omega⟩
theorem chAt_same {x : ByteArray} {p c d : Nat} (h : ChAt x p c) (h' : ChAt x p d) : c = d := by
  have e := chAt_chp h
  have e' := chAt_chp h'
  rcases Nat.lt_trichotomy c d with k | k | k
  · have := chp_lt x (d - c) c
    rw [show c + (d - c) = d by omega] at this
    omega
  · exact k
  · have := chp_lt x (c - d) d
    rw [show d + (c - d) = c by omega] at this
    omega
/-- Characters behind characters. -/
theorem chAt_add {s : ByteArray} {a M p c : Nat} (h : a + M ≤ s.size) (hend : a + M = s.size ∨ byt s (a + M) < 128) (hp : p ≤ M) (h1 : ChAt (s.extract a (a + M)) p c) {r d : Nat} (h2 : ChAt (s.extract (a + p) (a + p + (M - p))) r d) : ChAt (s.extract a (a + M)) (p + r) (c + d) := by
  have hbm : a + p + (M - p) = a + M := by omega
  have hsz : (s.extract a (a + M)).size = M := by simp; omega
  have hysz : (s.extract (a + p) (a + p + (M - p))).size = M - p := by simp; omega
  induction h2 with
  | zero => exact h1
  | @step r d h2 hr ih =>
    have e1 := wd_line s a M (p + r) h (by omega) hend
    have e2 := wd_line s (a + p) (M - p) r (by omega) (by omega) (by rw [hbm]; exact hend)
    rw [e2, Nat.add_assoc a p r, ← e1]
    have := ih.step (by omega)
    rw [← Nat.add_assoc, ← Nat.add_assoc]
    exact this
/-- What lies within a word is skipped. -/
theorem cut_to (x : ByteArray) (nx c : Nat) (acc : List Tok) (hn : ChAt x nx c) : ∀ (f p col : Nat), ChAt x p col → p ≤ nx → x.size < p + f → ∃ g, x.size < nx + g ∧ cutAt x f p nx col acc = cutAt x g nx nx c acc
  | 0, p, col, h, _, hf => by have := chAt_le h; omega
  | f + 1, p, col, h, hpn, hf => by
    by_cases e : p = nx
    · subst e
      obtain rfl := chAt_same h hn
      exact ⟨f + 1, hf, rfl⟩
    · have hlt : p < nx := by omega
      have hns := chAt_le hn
      have h2 := chAt_lt2 h hn hlt
      have hw := wd_pos x p
      obtain ⟨g, hg, eg⟩ := cut_to x nx c acc hn f (p + wd x p) (col + 1) (h.step (by omega)) h2.2 (by omega)
      exact ⟨g, hg, by rw [cut_skip x f p nx col acc (by omega) hlt]; exact eg⟩
/-- Within a line the place's line is the same. -/
theorem plc_line (s : ByteArray) (a ln : Nat) (h : plc s a = (ln, a)) : ∀ r, (∀ k, k < r → byt s (a + k) ≠ 10) → plc s (a + r) = (ln, a)
  | 0, _ => h
  | r + 1, hk => by
    rw [← Nat.add_assoc, plc, if_neg (hk r (by omega))]
    exact plc_line s a ln h r (fun k hr => hk k (by omega))
end Go.Proofs.YtngjjcmoekeciaaGreatDoor
namespace Go.Proofs.YtngjjcmoekeciaaGreatDoor
open Go.RowKit Go.Shelf

def frr (ln : Nat) (t : Tok) : Fou := (t.1, t.2.1, (ln : Int), (t.2.2 : Int))
theorem cnt_ch {s : ByteArray} {a M p c : Nat} (h : ChAt (s.extract a (a + M)) p c) (hp : p ≤ M) : cnt s a (a + p) = c := by
  have h1 := chAt_cnt h
  unfold cnt at h1 ⊢
  rw [ext_ext s a M 0 p hp, Nat.add_zero] at h1
  exact h1
set_option maxHeartbeats 2000000 in
theorem line_eq (s : ByteArray) (a M ln : Nat) (h : a + M ≤ s.size) (hend : a + M = s.size ∨ byt s (a + M) = 10) (hno : ∀ k, k < M → byt s (a + k) ≠ 10) (hpl : plc s a = (ln, a)) : ∀ (n p nx col f F : Nat) (acc : List Tok) (so : Bool) (l : List Fou), M - p ≤ n → p ≤ M → nx ≤ p → ChAt (s.extract a (a + M)) p col → M < p + f → s.size + 1 < a + p + F →
    ∃ tk : List Tok, (cutAt (s.extract a (a + M)) f p nx col acc = (acc ++ tk, 0, 0) ∧ ∃ G, s.size + 1 < a + M + G ∧ scD s F (a + p) ln a so l = scD s G (a + M) ln a (so || decide (tk ≠ [])) (l ++ tk.map (frr ln))) ∨ (∃ e c, cutAt (s.extract a (a + M)) f p nx col acc = (acc ++ tk, e, c) ∧ e ≠ 0 ∧ scD s F (a + p) ln a so l = .inr (e, ln, c)) := by
  intro n
  induction n with
  | zero =>
    intro p nx col f F acc so l hn hp hx hc hf hF
    obtain ⟨f, rfl⟩ : ∃ f', f = f' + 1 := ⟨f - 1, by omega⟩
    have hsz : (s.extract a (a + M)).size = M := by simp; omega
    obtain rfl : p = M := by omega
    exact ⟨[], .inl ⟨by rw [cut_end _ f p nx col acc (by omega)]; simp, F, hF, by simp⟩⟩
  | succ n ih =>
    intro p nx col f F acc so l hn hp hx hc hf hF
    have hsz : (s.extract a (a + M)).size = M := by simp; omega
    obtain ⟨f, rfl⟩ : ∃ f', f = f' + 1 := ⟨f - 1, by omega⟩
    by_cases hpM : p < M
    case neg =>
      obtain rfl : p = M := by omega
      exact ⟨[], .inl ⟨by rw [cut_end _ f p nx col acc (by omega)]; simp, F, hF, by simp⟩⟩
    obtain ⟨F, rfl⟩ : ∃ F', F = F' + 1 := ⟨F - 1, by omega⟩
    have hst := step_eq s a M p h hpM hend (hno p hpM)
    have hb := byt_ext s a M p h hpM
    have hend' : a + M = s.size ∨ byt s (a + M) < 128 := by omega
    have hbm : a + p + (M - p) = a + M := by omega
    have hL : ∀ q, a ≤ q → q ≤ a + M → LEnd s q (a + M) := fun q h1 h2 => ⟨h2, h, fun j j1 j2 => by have := hno (j - a) (by omega); rw [show a + (j - a) = j by omega] at this; exact this, hend⟩
    have hE1 : LE s (a + p + 1) = a + p + (M - p) := by rw [hbm]; exact (le_end s (a + p + 1) (by omega)).uniq (hL _ (by omega) (by omega))
    rw [cut_step _ f p nx col acc (by omega) (by omega)]
    cases hs : stepR (s.extract a (a + M)) p with
    | gap =>
      rw [hs] at hst
      have hg : byt s (a + p) = 9 ∨ byt s (a + p) = 13 ∨ byt s (a + p) = 32 := hst
      have hw := (rn_asc (s.extract a (a + M)) p (by omega) (by omega)).2
      have hc2 := hc.step (by omega)
      rw [hw] at hc2
      dsimp only
      rw [hw, sc_gap s F (a + p) ln a so l (by omega) hg]
      exact ih (p + 1) nx (col + 1) f F acc so l (by omega) (by omega) (by omega) hc2 (by omega) (by omega)
    | stop =>
      rw [hs] at hst
      have h35 : byt s (a + p) = 35 := hst
      refine ⟨[], .inl ⟨by simp, F, by omega, ?_⟩⟩
      rw [sc_rem s F (a + p) ln a so l (by omega) h35, (le_end s (a + p) (by omega)).uniq (hL _ (by omega) (by omega))]
      simp
    | bad e off =>
      rw [hs] at hst
      obtain ⟨ng, n35, he, hne, r, c, hr1, hr2, hoff, hch⟩ := hst
      refine ⟨[], .inr ⟨e, col + 1 + off, by simp, hne, ?_⟩⟩
      rw [sc_err s F (a + p) ln a so l (by omega) (hno p hpM) ng n35 (by rw [hE1, he]; exact hne), hE1, he, hr1]
      have hadd := chAt_add h hend' hp hc hch
      have hcn := cnt_ch hadd (by omega)
      have hof := cnt_ch hch hr2
      have hp2 := plc_line s a ln hpl (p + r) (fun k hk => hno k (by omega))
      rw [← Nat.add_assoc] at hcn hp2
      rw [hp2]
      dsimp only
      rw [hcn, hoff, hof]
      rw [show col + c + 1 = col + 1 + c by omega]
    | word k sz =>
      rw [hs] at hst
      obtain ⟨ng, n35, hk, h21, h22, hszm, c, hch⟩ := hst
      have hadd := chAt_add h hend' hp hc hch
      have hbd := nx_bounds s (a + p) (a + p + (M - p)) (by omega) (by rw [hbm]; exact hL _ (by omega) (by omega)) h22
      have hlt := chAt_lt2 hc hadd (by omega)
      have hw := wd_pos (s.extract a (a + M)) p
      have hcn := cnt_ch hc hp
      have hxe : (s.extract a (a + M)).extract p (p + sz) = s.extract (a + p) (a + p + sz) := (ext_ext s a M p _ (by omega)).trans (congrArg (fun z => s.extract (a + p) z) (by omega))
      dsimp only
      rw [sc_word s F (a + p) ln a so l (by omega) (hno p hpM) ng n35 (by rw [hE1]; exact h22), hE1, h21, hk, hcn, hxe]
      obtain ⟨g, hg, eg⟩ := cut_to (s.extract a (a + M)) (p + sz) (col + c) (acc ++ [(k, s.extract (a + p) (a + p + sz), col + 1)]) hadd f (p + wd (s.extract a (a + M)) p) (col + 1) (hc.step (by omega)) hlt.2 (by omega)
      rw [eg, Nat.add_assoc a p sz]
      obtain ⟨tk, hh⟩ := ih (p + sz) (p + sz) (col + c) g F (acc ++ [(k, s.extract (a + p) (a + (p + sz)), col + 1)]) true (l ++ [(k, s.extract (a + p) (a + (p + sz)), (ln : Int), ((col + 1 : Nat) : Int))]) (by omega) (by omega) (Nat.le_refl _) hadd (by omega) (by omega)
      refine ⟨(k, s.extract (a + p) (a + (p + sz)), col + 1) :: tk, ?_⟩
      rcases hh with ⟨h1, G, h2, h3⟩ | ⟨e, c', h1, h2, h3⟩
      · exact .inl ⟨by rw [h1]; simp, G, h2, by rw [h3]; simp [frr]⟩
      · exact .inr ⟨e, c', by rw [h1]; simp, h2, h3⟩
end Go.Proofs.YtngjjcmoekeciaaGreatDoor
