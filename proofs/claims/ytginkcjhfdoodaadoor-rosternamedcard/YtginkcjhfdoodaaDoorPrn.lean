/- A set that is told by two rosters of the same size: plain mathematics. -/
import Derived.Test.YtginkcjhfdoodaaDoorPrb
namespace Go.Proofs.YtginkcjhfdoodaaDoor

theorem print_named {l m : List Int} (h : l.length = m.length) (N : Nat) : (prR l N).2 = (prR m N).2 := by
  unfold prR
  rw [h]
  by_cases hw : wthB N m.length = true
  · rw [if_pos hw, if_pos hw]
    by_cases hz : N = 0
    · rw [if_pos hz, if_pos hz]
    · rw [if_neg hz, if_neg hz]
  · rw [if_neg hw, if_neg hw]
theorem print_count {l : List Int} (hsg : Signs l) {N : Nat} (h : (prR l N).2 = 0) : (charsOf (prR l N).1).length = if N = 0 then 1 else (idsTo N 128).length := by
  have hw := (parse_print hsg h).2.2
  unfold prR
  rw [if_pos hw]
  by_cases hz : N = 0
  · rw [if_pos hz, if_pos hz]
    have h0 : charsOf dash = [45] := by decide +kernel
    rw [h0]
    rfl
  · rw [if_neg hz, if_neg hz]
    obtain ⟨h1, _, _⟩ := sgs_facts hsg hw
    have hch : charsOf (txt (sgs l (idsTo N 128))) = sgs l (idsTo N 128) := chars_txt _ (fun c hc => code_letter (hsg.letter c (h1 c hc)))
    rw [hch, sgs, List.length_map]
end Go.Proofs.YtginkcjhfdoodaaDoor
