/- Books beside each other: what turns one leaves the others. -/
import Derived.Test.YtddblfffjhoiaaaBkm
namespace Go.Proofs.Ytddblfffjhoiaaa
open Go.RowKit Go.Shelf

/-- Books that were made from w on, each in blocks of its own. -/
structure Bks (w : World) (L : List (Nat × Nat × List N3)) (W : World) : Prop where
  all : ∀ (i : Nat) (x : Nat × Nat × List N3), L[i]? = some x → Bk W x.1 x.2.1 x.2.2
  new : ∀ (i : Nat) (x : Nat × Nat × List N3), L[i]? = some x → w.heap.size ≤ x.1 ∧ w.heap.size ≤ x.2.1
  apart : ∀ (i j : Nat) (x y : Nat × Nat × List N3), L[i]? = some x → L[j]? = some y → i ≠ j → x.1 ≠ y.2.1 ∧ x.2.1 ≠ y.2.1
  below : Below w.heap.size w W
theorem Bks.nil (w : World) : Bks w [] w := ⟨fun i x h => by simp at h, fun i x h => by simp at h, fun i j x y h => by simp at h, Below.refl _ _⟩
theorem Bks.get {w W : World} {L : List (Nat × Nat × List N3)} (h : Bks w L W) (i : Nat) {p g : Nat} {l : List N3} (hi : L[i]? = some (p, g, l)) : Bk W p g l := h.all i _ hi
theorem Bks.base {w W : World} {L : List (Nat × Nat × List N3)} (h : Bks w L W) (i : Nat) {p g : Nat} {l : List N3} (hi : L[i]? = some (p, g, l)) : w.heap.size ≤ g := (h.new i _ hi).2
theorem Bks.carry {w W V : World} {L : List (Nat × Nat × List N3)} (h : Bks w L W) (hb : Below W.heap.size W V) : Bks w L V := ⟨fun i x hx => (h.all i x hx).carry hb, h.new, h.apart, bel2 h.below hb⟩
theorem Bks.add {w W V : World} {L : List (Nat × Nat × List N3)} (h : Bks w L W) (hb : Below W.heap.size W V) {p g : Nat} {l : List N3} (hk : Bk V p g l) (hp : W.heap.size ≤ p) (hg : W.heap.size ≤ g) : Bks w (L ++ [(p, g, l)]) V := by
  have hz := h.below.size
  have key : ∀ (i : Nat) x, (L ++ [(p, g, l)])[i]? = some x → L[i]? = some x ∨ (i = L.length ∧ x = (p, g, l)) := fun i x hx => by
    by_cases hi : i < L.length
    · rw [List.getElem?_append_left hi] at hx; exact .inl hx
    · rw [List.getElem?_append_right (by omega)] at hx
      have : i - L.length = 0 := by
        have := (List.getElem?_eq_some_iff.1 hx).1
        simp at this
        omega
      rw [this] at hx
      exact .inr ⟨by omega, (Option.some.inj hx).symm⟩
  refine ⟨fun i x hx => ?_, fun i x hx => ?_, fun i j x y hx hy hij => ?_, bel2 h.below hb⟩
  · rcases key i x hx with hx | ⟨_, rfl⟩
    · exact (h.all i x hx).carry hb
    · exact hk
  · rcases key i x hx with hx | ⟨_, rfl⟩
    · exact h.new i x hx
    · exact ⟨by simp only; omega, by simp only; omega⟩
  · rcases key i x hx with hx | ⟨ei, rfl⟩ <;> rcases key j y hy with hy | ⟨ej, rfl⟩
    · exact h.apart i j x y hx hy hij
    · have := (h.all i x hx).plt
      have := (h.all i x hx).glt
      exact ⟨by simp only; omega, by simp only; omega⟩
    · have := (h.all j y hy).plt
      have := (h.all j y hy).glt
      exact ⟨by simp only; omega, by simp only; omega⟩
    · omega
/-- One of them turns. -/
theorem Bks.turn {w W V : World} {L : List (Nat × Nat × List N3)} (h : Bks w L W) (i : Nat) {p g : Nat} {l l' : List N3} (hi : L[i]? = some (p, g, l)) (hk : Bk V p g l') (hg : W.grownBy V (some g)) : Bks w (L.set i (p, g, l')) V := by
  have hil : i < L.length := (List.getElem?_eq_some_iff.1 hi).1
  have hz := h.below.size
  have key : ∀ (j : Nat) x, (L.set i (p, g, l'))[j]? = some x → (j ≠ i ∧ L[j]? = some x) ∨ (j = i ∧ x = (p, g, l')) := fun j x hx => by
    rw [List.getElem?_set] at hx
    by_cases e : i = j
    · subst e
      simp only [hil, if_true] at hx
      exact .inr ⟨rfl, (Option.some.inj hx).symm⟩
    · rw [if_neg e] at hx
      exact .inl ⟨fun q => e q.symm, hx⟩
  have hgw : w.heap.size ≤ g := (h.new i _ hi).2
  refine ⟨fun j x hx => ?_, fun j x hx => ?_, fun j k x y hx hy hjk => ?_, ?_⟩
  · rcases key j x hx with ⟨e, hx⟩ | ⟨_, rfl⟩
    · have := h.apart j i x _ hx hi e
      exact (h.all j x hx).other hg this.1 this.2
    · exact hk
  · rcases key j x hx with ⟨_, hx⟩ | ⟨_, rfl⟩
    · exact h.new j x hx
    · exact h.new i (p, g, l) hi
  · rcases key j x hx with ⟨e, hx⟩ | ⟨e, rfl⟩ <;> rcases key k y hy with ⟨f, hy⟩ | ⟨f, rfl⟩
    · exact h.apart j k x y hx hy hjk
    · exact h.apart j i x (p, g, l) hx hi e
    · exact h.apart i k (p, g, l) y hi hy (fun q => hjk (e.trans q))
    · omega
  · exact h.below.trans ⟨hg.os, hg.tape, hg.output, hg.size, fun k hk => hg.block k (by omega) (by simp only [ne_eq, Option.some.injEq]; omega)⟩
/-- What was handed in lies below every one of them. -/
theorem RdN.ne {w : World} {ad : Option Addr} {m : List N3} (h : RdN w ad m) {g : Nat} (hg : w.heap.size ≤ g) : m ≠ [] → ∀ a, ad = some a → a.block ≠ g := by
  intro hm a ha
  obtain ⟨b, off, e, hb, _⟩ := h hm
  rw [ha] at e
  obtain rfl := Option.some.inj e
  simp only
  omega
theorem take_some {w : World} {p g : Nat} {l : List N3} (h : Bk w p g l) (o t k : Int) : Calls Try.prog 16 #[.pointer (some ⟨p, 0, none⟩), nt o t k] w fun e w' => (∃ (B : Bool) (E : Int), e = .returned (.tuple #[.bool B, .int .i64 E])) ∧ Bk w' p g (tke l (o, t, k)) ∧ w.grownBy w' (some g) := (take_any h o t k).mono fun _ _ hq => ⟨⟨_, _, hq.1⟩, hq.2⟩
theorem merge_some {w : World} {p g : Nat} {l : List N3} (h : Bk w p g l) (ad : Option Addr) (cap : Nat) (m : List N3) (hm : RdN w ad m) (hne : m ≠ [] → ∀ a, ad = some a → a.block ≠ g) (hl : m.length ≤ 6000000000000) : Calls Try.prog 21 #[.pointer (some ⟨p, 0, none⟩), .slice ad m.length cap] w fun e w' => (∃ (N : Nat) (E : Int), e = .returned (.tuple #[.agg #[.int .u32 (wd N 0 : Nat), .int .u32 (wd N 1 : Nat), .int .u32 (wd N 2 : Nat), .int .u32 (wd N 3 : Nat)], .int .i64 E])) ∧ Bk w' p g (mrg l m) ∧ w.grownBy w' (some g) := (merge_any h ad cap m hm hne hl).mono fun _ _ hq => ⟨⟨_, _, hq.1⟩, hq.2⟩
theorem NewV.bad {n self tag : Int} {w w' : World} {e : Ending} (h : NewV n self tag w e w') (hb : ¬ (¬ (n < 1 ∨ 100 < n) ∧ ¬ (self < 0 ∨ n ≤ self) ∧ ¬ (tag < 0 ∨ 1048576 < tag))) : ∃ E : Int, (E != 0) = true ∧ e = .returned (.tuple #[.pointer none, .int .i64 E]) := by
  have := h.2
  by_cases h1 : n < 1 ∨ 100 < n
  · rw [if_pos h1] at this; exact ⟨1, by decide, this⟩
  · rw [if_neg h1] at this
    by_cases h2 : self < 0 ∨ n ≤ self
    · rw [if_pos h2] at this; exact ⟨30, by decide, this⟩
    · rw [if_neg h2] at this
      by_cases h3 : tag < 0 ∨ 1048576 < tag
      · rw [if_pos h3] at this; exact ⟨50, by decide, this⟩
      · exact absurd ⟨h1, h2, h3⟩ hb
end Go.Proofs.Ytddblfffjhoiaaa
