/- Sign, Text; alive: what they answer, at every roster. -/
import Derived.Test.YtebpngapkkdifaaDoorRrd
import Derived.Test.YtebpngapkkdifaaDoorEnl
namespace Go.Proofs.YtebpngapkkdifaaDoor
open Go.RowKit Go.Shelf Go.Lib

/-- What Sign answers. -/
def signV (l : List Int) (i : Int) : Value := match (if i < 0 then none else l[i.toNat]?) with
  | some c => .tuple #[.int .i32 c, .int .i64 0]
  | none => .tuple #[.int .i32 0, .int .i64 30]
set_option maxHeartbeats 400000 in
theorem sign_any {M : Nat} {v : Value} {l : List Int} (w : World) (h : Ros M w v l) (hM : M ≤ w.heap.size) (i : Int) : Calls Tryd.prog 12 #[v, .int .i64 i] w fun e w' => e = .returned (signV l i) ∧ Below w.heap.size w w' := by
  obtain ⟨h0, sl, mp, rfl, ⟨ad, cap, rfl, hf⟩, _⟩ := h
  have hls := h0.short
  have hsz := sizeP_any ad l.length cap mp
  by_cases hi : 0 ≤ i ∧ i < l.length
  · obtain ⟨k, rfl⟩ := Int.eq_ofNat_of_zero_le hi.1
    have hk : k < l.length := by omega
    obtain ⟨g, rfl, g1, g2, g3⟩ := hf (fun e => by subst e; simp at hk)
    have hV : signV l (k : Int) = .tuple #[.int .i32 l[k], .int .i64 0] := by
      unfold signV
      rw [if_neg (by omega), Int.toNat_natCast, List.getElem?_eq_getElem hk]
    have gk := g3 k l[k] (List.getElem?_eq_getElem hk)
    rw [hV]
    generalize l[k] = c at *
    generalize l.length = n at *
    clear hf g3 hV
    have hglt : g < w.heap.size := by omega
    go_enter Tryd.func12, Tryd.ntmps12
    go_wp2_with (go_at_call 11; refine (hsz _).mono ?_; rintro e w1 ⟨rfl, hb1⟩; have hg1 : w1.cell? ⟨g, k, none⟩ = some (.int .i32 c) := (hb1.cell (p := ⟨g, k, none⟩) (by simp; omega)).trans (((Below.refl w.heap.size w).alloc (Nat.le_refl _) _).cell (p := ⟨g, k, none⟩) hglt |>.trans gk); have hs1 := hb1.size; have hv1 : w1.heap[w.heap.size]? = some (.cells #[.slice (some ⟨g, 0, none⟩) n cap, mp] 27 (0, 0)) := (hb1.block _ (by simp)).trans (new_at rfl); have y0 := cell_at hv1 0; have hlt1 := lt_at hv1)
    go_ret2
    exact ⟨rfl, ((Below.refl _ w).alloc (Nat.le_refl _) _).trans (hb1.mono (by simp))⟩
  · have hV : signV l i = .tuple #[.int .i32 0, .int .i64 30] := by
      unfold signV
      by_cases h1 : i < 0
      · rw [if_pos h1]
      · rw [if_neg h1, List.getElem?_eq_none (by omega)]
    rw [hV]
    by_cases h1 : i < 0
    · clear hi hf hV
      go_enter Tryd.func12, Tryd.ntmps12
      go_wp2
      go_ret2
      exact ⟨rfl, (Below.refl _ w).alloc (Nat.le_refl _) _⟩
    · have h2 : (l.length : Int) ≤ i := by omega
      have h3 : 0 ≤ i := by omega
      clear hi hf hV
      go_enter Tryd.func12, Tryd.ntmps12
      go_wp2_with (go_at_call 11; refine (hsz _).mono ?_; rintro e w1 ⟨rfl, hb1⟩)
      go_ret2
      exact ⟨rfl, ((Below.refl _ w).alloc (Nat.le_refl _) _).trans (hb1.mono (by simp))⟩

/-- The text that is read first. -/
def T0 : ByteArray := ⟨#[206, 177, 206, 178, 206, 179, 240, 159, 166, 137]⟩
theorem T0_read : readR T0 = ([945, 946, 947, 129417], 0, 0) := by decide +kernel
end Go.Proofs.YtebpngapkkdifaaDoor
