/- Sets written by signs: plain mathematics. -/
import Derived.Test.YtginkcjhfdoodabDoorRos
import Derived.Test.YtginkcjhfdoodabDoorMat
namespace Go.Proofs.YtginkcjhfdoodabDoor

/-- What Parse does with the characters. -/
def psGo (l : List Int) : Nat → Nat → List Int → Nat × Int × Int
  | N, _, [] => (N, 0, 0)
  | N, k, c :: t => if c ∈ l then (if N.testBit (l.idxOf c) then (0, (k : Int), 42) else psGo l (N ||| 2 ^ l.idxOf c) (k + 1) t) else (0, (k : Int), 41)
def dash : ByteArray := ⟨#[45]⟩
def parseR (l : List Int) (s : ByteArray) : Nat × Int × Int := if 65536 < s.size then (0, 0, 2) else if s.size = 0 then (0, 0, 40) else if s = dash then (0, 0, 0) else psGo l 0 0 (charsOf s)
theorem idx_lt {l : List Int} (h : Signs l) {c : Int} (hc : c ∈ l) : l.idxOf c < 100 := by
  have := List.idxOf_lt_length_iff.2 hc
  have := h.short
  omega
theorem or_lt100 {N i : Nat} (hN : N < S100) (hi : i < 100) : N ||| 2 ^ i < S100 := by
  have e : S100 = 2 ^ 100 := by decide
  rw [e] at hN ⊢
  exact Nat.or_lt_two_pow hN (Nat.pow_lt_pow_right (by decide) hi)
theorem psGo_lt {l : List Int} (h : Signs l) : ∀ (t : List Int) (N k : Nat), N < S100 → (psGo l N k t).1 < S100
  | [], N, k, hN => hN
  | c :: t, N, k, hN => by
    unfold psGo
    by_cases h1 : c ∈ l
    · rw [if_pos h1]
      by_cases h2 : N.testBit (l.idxOf c)
      · rw [if_pos h2]; exact (by decide : 0 < S100)
      · rw [if_neg h2]; exact psGo_lt h t _ _ (or_lt100 hN (idx_lt h h1))
    · rw [if_neg h1]; exact (by decide : 0 < S100)
theorem parseR_lt {l : List Int} (h : Signs l) (s : ByteArray) : (parseR l s).1 < S100 := by
  unfold parseR
  split
  · decide
  · split
    · decide
    · split
      · decide
      · exact psGo_lt h _ _ _ (by decide)
theorem cln_self {N : Nat} (h : N < S100) : cln N = N := Nat.mod_eq_of_lt h
theorem s100_128 {N : Nat} (h : N < S100) : N < S128 := Nat.lt_trans h (by decide)
end Go.Proofs.YtginkcjhfdoodabDoor
