/- The runes of a text as a slice: at every text of at most 2^46 bytes. -/
import Derived.Test.YtginkcjhfdoodaaRsc
import Derived.Laws.IdiomStrings
namespace Go.Proofs.Ytginkcjhfdoodaa
open Go.RowKit Go.Shelf Go.Lib

theorem runesFrom_chars (s : ByteArray) : ∀ (f p : Nat) (acc : Array Value), (Conv.runesFrom s f p acc).toList = acc.toList ++ (charsFrom s f p).map (Value.int .i32)
  | 0, p, acc => by simp [Conv.runesFrom, charsFrom, startsFrom]
  | f + 1, p, acc => by
    unfold Conv.runesFrom
    by_cases h : p < s.size
    · rw [if_pos h, charsFrom_step s f p h]
      have := runesFrom_chars s f (p + (Utf8.decode s p).2) (acc.push (.int .i32 (Int.ofNat (Utf8.decode s p).1)))
      dsimp only at this ⊢
      rw [this]
      simp [rn, wdt]
    · rw [if_neg h, charsFrom_end s _ p h]
      simp
theorem conv_runes (s : ByteArray) (hs : s.size ≤ 65536) : ∃ (capf : World → Nat) (cf : World → Array Value), (∀ W : World, (convert 9 22 (.string s)).run Try.prog W = .ok (.slice (some ⟨W.heap.size, 0, none⟩) (charsOf s).length (capf W)) (W.drew.alloc (.cells (cf W) 21))) ∧
    (∀ W, (charsOf s).length ≤ capf W) ∧ ∀ (W : World) (j : Nat) (x : Int), (charsOf s)[j]? = some x → (cf W)[j]? = some (.int .i32 x) := by
  have hl : (Conv.runesFrom s s.size 0 #[]).toList = (charsOf s).map (.int .i32) := by rw [runesFrom_chars]; rfl
  have hz : (Conv.runesFrom s s.size 0 #[]).size = (charsOf s).length := by rw [← Array.length_toList, hl, List.length_map]
  refine ⟨fun W => grownCap W (charsOf s).length 0 21, fun W => Conv.runesFrom s s.size 0 #[] ++ Array.replicate (grownCap W (charsOf s).length 0 21 - (charsOf s).length) (.int .i32 0), fun W => ?_, fun W => grownCap_ge W _ 0 _, fun W j x hx => ?_⟩
  · have h := run_runes_of_string (P := Try.prog) W 9 22 21 s Try.underlying9 Try.underlying22 Try.underlying21 (by have := size_runesFrom s s.size 0 #[]; simp at this; omega)
    rw [hz] at h
    exact h
  · have hj := (List.getElem?_eq_some_iff.1 hx).1
    rw [Array.getElem?_append_left (by omega), ← Array.getElem?_toList, hl, List.getElem?_map, hx]
    rfl
end Go.Proofs.Ytginkcjhfdoodaa
