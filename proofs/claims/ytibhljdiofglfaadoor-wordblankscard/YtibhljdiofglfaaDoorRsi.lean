/- A line: the program's words of it, and the document's. -/
import Derived.Test.YtibhljdiofglfaaDoorRsh
namespace Go.Proofs.YtibhljdiofglfaaDoor
open Go.RowKit Go.Shelf

def frr (ln : Nat) (t : Tok) : Fou := (t.1, t.2.1, (ln : Int), (t.2.2 : Int))
theorem cnt_ch {s : ByteArray} {a M p c : Nat} (h : ChAt (s.extract a (a + M)) p c) (hp : p ≤ M) : cnt s a (a + p) = c := by
  have h1 := chAt_cnt h
  unfold cnt at h1 ⊢
  rw [ext_ext s a M 0 p hp, Nat.add_zero] at h1
  exact h1
set_option maxHeartbeats 2000000 in
theorem line_eq (s : ByteArray) (a M ln : Nat) (h : a + M ≤ s.size) (hend : a + M = s.size ∨ byt s (a + M) = 10) (hno : ∀ k, k < M → byt s (a + k) ≠ 10) (hpl : plc s a = (ln, a)) : ∀ (n p nx col f F : Nat) (acc : List Tok) (so : Bool) (l : List Fou), M - p ≤ n → p ≤ M → nx ≤ p → ChAt (s.extract a (a + M)) p col → M < p + f → s.size + 1 < a + p + F →
    ∃ tk : List Tok, (cutAt (s.extract a (a + M)) f p nx col acc = (acc ++ tk, 0, 0) ∧ ∃ G, s.size + 1 < a + M + G ∧ scD s F (a + p) ln a so l = scD s G (a + M) ln a (so || decide (tk ≠ [])) (l ++ tk.map (frr ln))) ∨ (∃ e c, cutAt (s.extract a (a + M)) f p nx col acc = (acc ++ tk, e, c) ∧ e ≠ 0 ∧ scD s F (a + p) ln a so l = .inr (e, ln, c)) := by
  intro n
  induction n with
  | zero =>
    intro p nx col f F acc so l hn hp hx hc hf hF
    obtain ⟨f, rfl⟩ : ∃ f', f = f' + 1 := ⟨f - 1, by omega⟩
    have hsz : (s.extract a (a + M)).size = M := by simp; omega
    obtain rfl : p = M := by omega
    exact ⟨[], .inl ⟨by rw [cut_end _ f p nx col acc (by omega)]; simp, F, hF, by simp⟩⟩
  | succ n ih =>
    intro p nx col f F acc so l hn hp hx hc hf hF
    have hsz : (s.extract a (a + M)).size = M := by simp; omega
    obtain ⟨f, rfl⟩ : ∃ f', f = f' + 1 := ⟨f - 1, by omega⟩
    by_cases hpM : p < M
    case neg =>
      obtain rfl : p = M := by omega
      exact ⟨[], .inl ⟨by rw [cut_end _ f p nx col acc (by omega)]; simp, F, hF, by simp⟩⟩
    obtain ⟨F, rfl⟩ : ∃ F', F = F' + 1 := ⟨F - 1, by omega⟩
    have hst := step_eq s a M p h hpM hend (hno p hpM)
    have hb := byt_ext s a M p h hpM
    have hend' : a + M = s.size ∨ byt s (a + M) < 128 := by omega
    have hbm : a + p + (M - p) = a + M := by omega
    have hL : ∀ q, a ≤ q → q ≤ a + M → LEnd s q (a + M) := fun q h1 h2 => ⟨h2, h, fun j j1 j2 => by have := hno (j - a) (by omega); rw [show a + (j - a) = j by omega] at this; exact this, hend⟩
    have hE1 : LE s (a + p + 1) = a + p + (M - p) := by rw [hbm]; exact (le_end s (a + p + 1) (by omega)).uniq (hL _ (by omega) (by omega))
    rw [cut_step _ f p nx col acc (by omega) (by omega)]
    cases hs : stepR (s.extract a (a + M)) p with
    | gap =>
      rw [hs] at hst
      have hg : byt s (a + p) = 9 ∨ byt s (a + p) = 13 ∨ byt s (a + p) = 32 := hst
      have hw := (rn_asc (s.extract a (a + M)) p (by omega) (by omega)).2
      have hc2 := hc.step (by omega)
      rw [hw] at hc2
      dsimp only
      rw [hw, sc_gap s F (a + p) ln a so l (by omega) hg]
      exact ih (p + 1) nx (col + 1) f F acc so l (by omega) (by omega) (by omega) hc2 (by omega) (by omega)
    | stop =>
      rw [hs] at hst
      have h35 : byt s (a + p) = 35 := hst
      refine ⟨[], .inl ⟨by simp, F, by omega, ?_⟩⟩
      rw [sc_rem s F (a + p) ln a so l (by omega) h35, (le_end s (a + p) (by omega)).uniq (hL _ (by omega) (by omega))]
      simp
    | bad e off =>
      rw [hs] at hst
      obtain ⟨ng, n35, he, hne, r, c, hr1, hr2, hoff, hch⟩ := hst
      refine ⟨[], .inr ⟨e, col + 1 + off, by simp, hne, ?_⟩⟩
      rw [sc_err s F (a + p) ln a so l (by omega) (hno p hpM) ng n35 (by rw [hE1, he]; exact hne), hE1, he, hr1]
      have hadd := chAt_add h hend' hp hc hch
      have hcn := cnt_ch hadd (by omega)
      have hof := cnt_ch hch hr2
      have hp2 := plc_line s a ln hpl (p + r) (fun k hk => hno k (by omega))
      rw [← Nat.add_assoc] at hcn hp2
      rw [hp2]
      dsimp only
      rw [hcn, hoff, hof]
      rw [show col + c + 1 = col + 1 + c by omega]
    | word k sz =>
      rw [hs] at hst
      obtain ⟨ng, n35, hk, h21, h22, hszm, c, hch⟩ := hst
      have hadd := chAt_add h hend' hp hc hch
      have hbd := nx_bounds s (a + p) (a + p + (M - p)) (by omega) (by rw [hbm]; exact hL _ (by omega) (by omega)) h22
      have hlt := chAt_lt2 hc hadd (by omega)
      have hw := wd_pos (s.extract a (a + M)) p
      have hcn := cnt_ch hc hp
      have hxe : (s.extract a (a + M)).extract p (p + sz) = s.extract (a + p) (a + p + sz) := (ext_ext s a M p _ (by omega)).trans (congrArg (fun z => s.extract (a + p) z) (by omega))
      dsimp only
      rw [sc_word s F (a + p) ln a so l (by omega) (hno p hpM) ng n35 (by rw [hE1]; exact h22), hE1, h21, hk, hcn, hxe]
      obtain ⟨g, hg, eg⟩ := cut_to (s.extract a (a + M)) (p + sz) (col + c) (acc ++ [(k, s.extract (a + p) (a + p + sz), col + 1)]) hadd f (p + wd (s.extract a (a + M)) p) (col + 1) (hc.step (by omega)) hlt.2 (by omega)
      rw [eg, Nat.add_assoc a p sz]
      obtain ⟨tk, hh⟩ := ih (p + sz) (p + sz) (col + c) g F (acc ++ [(k, s.extract (a + p) (a + (p + sz)), col + 1)]) true (l ++ [(k, s.extract (a + p) (a + (p + sz)), (ln : Int), ((col + 1 : Nat) : Int))]) (by omega) (by omega) (Nat.le_refl _) hadd (by omega) (by omega)
      refine ⟨(k, s.extract (a + p) (a + (p + sz)), col + 1) :: tk, ?_⟩
      rcases hh with ⟨h1, G, h2, h3⟩ | ⟨e, c', h1, h2, h3⟩
      · exact .inl ⟨by rw [h1]; simp, G, h2, by rw [h3]; simp [frr]⟩
      · exact .inr ⟨e, c', by rw [h1]; simp, h2, h3⟩
end Go.Proofs.YtibhljdiofglfaaDoor
