/- A note's bytes, as the laws use them. -/
import Derived.Test.YtligjdmbjkppkaaWru
import Derived.Test.YtligjdmbjkppkaaWrq
import Derived.Test.YtligjdmbjkppkaaWrs
namespace Go.Proofs.Ytligjdmbjkppkaa
open Go.RowKit Go.Shelf

theorem RdN.own {W : World} {base : Nat} {a : Option Addr} {c : Nat} {l : List (Int × Int × Int)} (h : W.ownsRow base 90 3 (.slice a l.length c) l.length (fl l)) : RdN W a l := by
  intro hne
  rcases own_form h with ⟨_, e⟩ | ⟨g, cap, e, h1, h2, h3⟩
  · exact absurd (List.length_eq_zero_iff.1 e) hne
  · cases e
    exact ⟨g, 0, rfl, h2, nts_own h rfl⟩
theorem bo_ok {kd fr rd N : Nat} {n : Int} {l : List (Int × Int × Int)} {W W' : World} {e : Ending} (h : BO kd n fr rd N l W e W') (hf : flt kd n fr rd N l = 0) : ∃ b2 c2, e = .returned (.tuple #[.slice b2 (byt7 kd n.toNat fr rd N l).length c2, .int .i64 0]) ∧ W'.ownsRow W.heap.size 5 1 (.slice b2 (byt7 kd n.toNat fr rd N l).length c2) (byt7 kd n.toNat fr rd N l).length (cB (byt7 kd n.toNat fr rd N l)) ∧ RdB W' b2 (byt7 kd n.toNat fr rd N l) ∧ (byt7 kd n.toNat fr rd N l).length ≤ c2 ∧ Below W.heap.size W W' := by
  obtain ⟨b, rfl, ho, hb⟩ := h
  rw [fb7, if_pos hf, Int.toNat_natCast, Int.toNat_natCast] at ho
  have ho2 := ho.out
  obtain ⟨ad, cap, rfl, hr⟩ := RdB.own ho2
  refine ⟨ad, cap, by rw [hf], ho2, hr, ?_, hb⟩
  rcases own_form ho2 with ⟨e1, e2⟩ | ⟨g, c, e1, _, _, h3⟩
  · omega
  · cases e1
    exact h3
theorem bo_no {kd N : Nat} {n fr rd : Int} {l : List (Int × Int × Int)} {W W' : World} {e : Ending} (h : BO kd n fr rd N l W e W') (hf : ¬ flt kd n fr rd N l = 0) : ∃ b2 c2, e = .returned (.tuple #[.slice b2 0 c2, .int .i64 (flt kd n fr rd N l)]) ∧ Below W.heap.size W W' := by
  obtain ⟨b, rfl, ho, hb⟩ := h
  rw [fb7, if_neg hf] at ho
  rcases own_form ho.out with ⟨rfl, _⟩ | ⟨g, c, rfl, _, _, _⟩
  · exact ⟨none, 0, rfl, hb⟩
  · exact ⟨_, c, rfl, hb⟩
end Go.Proofs.Ytligjdmbjkppkaa
