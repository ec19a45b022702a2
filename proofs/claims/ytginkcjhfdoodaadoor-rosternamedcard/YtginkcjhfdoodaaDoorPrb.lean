/- What is told by signs is read as it was: plain mathematics. -/
import Derived.Test.YtginkcjhfdoodaaDoorPrm
namespace Go.Proofs.YtginkcjhfdoodaaDoor

theorem testBit_bitsOf (l : List Int) (j : Nat) : ∀ t : List Int, (bitsOf l t).testBit j = true ↔ ∃ c ∈ t, l.idxOf c = j
  | [] => by simp [bitsOf]
  | c :: t => by
    rw [bitsOf, Nat.testBit_or, Bool.or_eq_true, testBit_bitsOf l j t, Nat.testBit_two_pow, decide_eq_true_eq]
    simp
theorem sgs_idx {l : List Int} (hn : l.Nodup) {i : Nat} (hi : i < l.length) : l.getD i 0 = l[i] ∧ l.idxOf l[i] = i ∧ l[i] ∈ l := by
  refine ⟨?_, hn.idxOf_getElem i hi, List.getElem_mem hi⟩
  rw [List.getD_eq_getElem?_getD, List.getElem?_eq_getElem hi]
  rfl
theorem sgs_facts {l : List Int} (hsg : Signs l) {N : Nat} (hw : wthB N l.length = true) :
    (∀ c ∈ sgs l (idsTo N 128), c ∈ l) ∧ (sgs l (idsTo N 128)).Nodup ∧ bitsOf l (sgs l (idsTo N 128)) = N := by
  have hlt : ∀ i ∈ idsTo N 128, i < l.length := fun i hi => (wth_id hw (mem_idsTo.1 hi).2).1
  refine ⟨?_, ?_, ?_⟩
  · intro c hc
    obtain ⟨i, hi, rfl⟩ := List.mem_map.1 hc
    rw [(sgs_idx hsg.nodup (hlt i hi)).1]
    exact List.getElem_mem _
  · have hp : (idsTo N 128).Pairwise (· < ·) := List.Pairwise.filter _ List.pairwise_lt_range
    rw [sgs, List.nodup_iff_pairwise_ne, List.pairwise_map]
    refine hp.imp_of_mem (fun {a b} ha hb hab e => ?_)
    have h1 := sgs_idx hsg.nodup (hlt a ha)
    have h2 := sgs_idx hsg.nodup (hlt b hb)
    rw [h1.1, h2.1] at e
    have := h1.2.1
    rw [e, h2.2.1] at this
    omega
  · apply Nat.eq_of_testBit_eq
    intro j
    rw [Bool.eq_iff_iff, testBit_bitsOf]
    constructor
    · rintro ⟨c, hc, rfl⟩
      obtain ⟨i, hi, rfl⟩ := List.mem_map.1 hc
      have h1 := sgs_idx hsg.nodup (hlt i hi)
      rw [h1.1, h1.2.1]
      exact (mem_idsTo.1 hi).2
    · intro hj
      have h0 := wth_id hw hj
      have hm : j ∈ idsTo N 128 := mem_idsTo.2 ⟨by omega, hj⟩
      exact ⟨l.getD j 0, List.mem_map.2 ⟨j, hm, rfl⟩, by rw [(sgs_idx hsg.nodup h0.1).1]; exact (sgs_idx hsg.nodup h0.1).2.1⟩
theorem wth_zero (n : Int) : wthB 0 n = true := by simp [wthB]
theorem parse_dash (l : List Int) : parseR l dash = (0, 0, 0) := by
  unfold parseR
  rw [if_neg (by decide), if_neg (by decide), if_pos rfl]
/-- Parse of what Print tells. -/
theorem parse_print {l : List Int} (hsg : Signs l) {N : Nat} (h : (prR l N).2 = 0) : parseR l (prR l N).1 = (N, 0, 0) ∧ (prR l N).1.size ≤ 65536 ∧ wthB N l.length = true := by
  unfold prR at h ⊢
  by_cases hw : wthB N l.length = true
  · rw [if_pos hw] at h ⊢
    by_cases hz : N = 0
    · rw [if_pos hz]
      subst hz
      exact ⟨parse_dash l, by decide, hw⟩
    · rw [if_neg hz]
      dsimp only
      obtain ⟨h1, h2, h3⟩ := sgs_facts hsg hw
      have hlet : ∀ c ∈ sgs l (idsTo N 128), cls c = 4 := fun c hc => hsg.letter c (h1 c hc)
      have hch : charsOf (txt (sgs l (idsTo N 128))) = sgs l (idsTo N 128) := chars_txt _ (fun c hc => code_letter (hlet c hc))
      have hne : sgs l (idsTo N 128) ≠ [] := by
        intro e
        rw [e] at h3
        exact hz h3.symm
      have hl : (sgs l (idsTo N 128)).length ≤ 128 := by
        rw [sgs, List.length_map]
        exact Nat.le_trans (List.length_filter_le _ _) (by simp)
      have hs := txt_size (sgs l (idsTo N 128))
      refine ⟨?_, by omega, hw⟩
      unfold parseR
      rw [if_neg (by omega), if_neg, if_neg, hch, psGo_mk l _ _ _ h1 h2 (fun c _ => by simp), h3, Nat.zero_or]
      · intro e
        have h0 : charsOf dash = [45] := by decide +kernel
        rw [e, h0] at hch
        have := hlet 45 (by rw [← hch]; simp)
        exact absurd this (by decide)
      · intro e
        rw [charsOf, charsFrom_end _ _ _ (by omega)] at hch
        exact hne hch.symm
  · rw [if_neg hw] at h
    cases h
theorem print_bad {l : List Int} {N : Nat} (h : (prR l N).2 ≠ 0) : prR l N = (⟨#[]⟩, 30) := by
  unfold prR at h ⊢
  by_cases hw : wthB N l.length = true
  · rw [if_pos hw] at h
    by_cases hz : N = 0
    · rw [if_pos hz] at h; exact absurd rfl h
    · rw [if_neg hz] at h; exact absurd rfl h
  · rw [if_neg hw]
end Go.Proofs.YtginkcjhfdoodaaDoor
