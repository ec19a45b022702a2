/- Sign, Text; alive: what they answer, at every roster. -/
import Derived.Test.YtginkcjhfdoodaaRrd
import Derived.Test.YtginkcjhfdoodaaEnl
namespace Go.Proofs.Ytginkcjhfdoodaa
open Go.RowKit Go.Shelf Go.Lib

/-- What Sign answers. -/
def signV (l : List Int) (i : Int) : Value := match (if i < 0 then none else l[i.toNat]?) with
  | some c => .tuple #[.int .i32 c, .int .i64 0]
  | none => .tuple #[.int .i32 0, .int .i64 30]
set_option maxHeartbeats 400000 in
theorem sign_any {M : Nat} {v : Value} {l : List Int} (w : World) (h : Ros M w v l) (hM : M ≤ w.heap.size) (i : Int) : Calls Try.prog 12 #[v, .int .i64 i] w fun e w' => e = .returned (signV l i) ∧ Below w.heap.size w w' := by
  obtain ⟨h0, sl, mp, rfl, ⟨ad, cap, rfl, hf⟩, _⟩ := h
  have hls := h0.short
  have hsz := sizeP_any ad l.length cap mp
  by_cases hi : 0 ≤ i ∧ i < l.length
  · obtain ⟨k, rfl⟩ := Int.eq_ofNat_of_zero_le hi.1
    have hk : k < l.length := by omega
    obtain ⟨g, rfl, g1, g2, g3⟩ := hf (fun e => by subst e; simp at hk)
    have hV : signV l (k : Int) = .tuple #[.int .i32 l[k], .int .i64 0] := by
      unfold signV
      rw [if_neg (by omega), Int.toNat_natCast, List.getElem?_eq_getElem hk]
    have gk := g3 k l[k] (List.getElem?_eq_getElem hk)
    rw [hV]
    generalize l[k] = c at *
    generalize l.length = n at *
    clear hf g3 hV
    have hglt : g < w.heap.size := by omega
    go_enter Try.func12, Try.ntmps12
    go_wp2_with (go_at_call 10; refine (hsz _).mono ?_; rintro e w1 ⟨rfl, hb1⟩; have hg1 : w1.cell? ⟨g, k, none⟩ = some (.int .i32 c) := (hb1.cell (p := ⟨g, k, none⟩) (by simp; omega)).trans (((Below.refl w.heap.size w).alloc (Nat.le_refl _) _).cell (p := ⟨g, k, none⟩) hglt |>.trans gk); have hs1 := hb1.size; have hv1 : w1.heap[w.heap.size]? = some (.cells #[.slice (some ⟨g, 0, none⟩) n cap, mp] 25 (0, 0)) := (hb1.block _ (by simp)).trans (new_at rfl); have y0 := cell_at hv1 0; have hlt1 := lt_at hv1)
    go_ret2
    exact ⟨rfl, ((Below.refl _ w).alloc (Nat.le_refl _) _).trans (hb1.mono (by simp))⟩
  · have hV : signV l i = .tuple #[.int .i32 0, .int .i64 30] := by
      unfold signV
      by_cases h1 : i < 0
      · rw [if_pos h1]
      · rw [if_neg h1, List.getElem?_eq_none (by omega)]
    rw [hV]
    by_cases h1 : i < 0
    · clear hi hf hV
      go_enter Try.func12, Try.ntmps12
      go_wp2
      go_ret2
      exact ⟨rfl, (Below.refl _ w).alloc (Nat.le_refl _) _⟩
    · have h2 : (l.length : Int) ≤ i := by omega
      have h3 : 0 ≤ i := by omega
      clear hi hf hV
      go_enter Try.func12, Try.ntmps12
      go_wp2_with (go_at_call 10; refine (hsz _).mono ?_; rintro e w1 ⟨rfl, hb1⟩)
      go_ret2
      exact ⟨rfl, ((Below.refl _ w).alloc (Nat.le_refl _) _).trans (hb1.mono (by simp))⟩
set_option maxHeartbeats 400000 in
theorem text_any {M : Nat} {v : Value} {l : List Int} (w : World) (h : Ros M w v l) (hM : M ≤ w.heap.size) : Calls Try.prog 11 #[v] w fun e w' => e = .returned (.string (txt l)) ∧ Below w.heap.size w w' := by
  obtain ⟨h0, sl, mp, rfl, hS, _⟩ := h
  have hS2 := hS.below (((Below.refl _ w).alloc (Nat.le_refl _) (.cells #[sl, mp] 25)).mono hM)
  have hcv : (convert 22 9 sl).run Try.prog (w.alloc (.cells #[sl, mp] 25)) = .ok (.string (txt l)) (w.alloc (.cells #[sl, mp] 25)) := by
    generalize w.alloc (.cells #[sl, mp] 25) = W at *
    obtain ⟨ad, cap, rfl, hf⟩ := hS2
    rw [← runesBytes_txt]
    by_cases hl : l = []
    · subst hl
      cases ad with
      | none => exact run_convert_runes_nil W _ _ _ _ _ Try.underlying22 Try.underlying21 Try.underlying9
      | some a => exact run_convert_runes W _ _ _ a 0 cap [] (Nat.le_refl _) Try.underlying22 Try.underlying21 Try.underlying9 (fun j hj => by simp at hj)
    · obtain ⟨g, rfl, g1, g2, g3⟩ := hf hl
      have h := run_convert_runes W 22 9 21 ⟨g, 0, none⟩ l.length cap l (Nat.le_refl _) Try.underlying22 Try.underlying21 Try.underlying9 (fun j hj => by
        have ha : (⟨g, 0, none⟩ : Addr).add j = ⟨g, j, none⟩ := by unfold Addr.add; split <;> simp_all
        rw [ha, List.getD_eq_getElem?_getD, List.getElem?_eq_getElem hj]
        exact g3 j _ (List.getElem?_eq_getElem hj))
      rw [List.take_length] at h
      exact h
  obtain ⟨ad, cap, rfl, _⟩ := hS
  generalize txt l = t at *
  clear hS2
  go_enter Try.func11, Try.ntmps11
  go_wp2
  go_ret
  exact ⟨rfl, (Below.refl _ w).alloc (Nat.le_refl _) _⟩

/-- The text that is read first. -/
def T0 : ByteArray := ⟨#[206, 177, 206, 178, 206, 179, 240, 159, 166, 137]⟩
theorem T0_read : readR T0 = ([945, 946, 947, 129417], 0, 0) := by decide +kernel
set_option maxHeartbeats 1000000 in
set_option maxRecDepth 100000 in
theorem alive_any (w : World) : Calls Try.prog 9 #[] w fun e w' => e = .returned (.bool true) ∧ Below w.heap.size w w' := by
  have hrd := read_any T0 (by decide) w
  unfold RdV at hrd
  rw [T0_read] at hrd
  have hid : idV [945, 946, 947, 129417] 947 = .tuple #[.int .i64 2, .int .i64 0] := rfl
  go_enter Try.func9, Try.ntmps9
  go_wp2_with (first | (go_at_call 7; refine hrd.mono ?_; rintro e w1 ⟨⟨v, rfl, hv⟩, hb1⟩; obtain ⟨ad, cap, mb, rfl⟩ := hv.form; have hz1 := hb1.size) | (go_at_call 13; refine (id_any _ (hv.alloc (Nat.le_refl _) _) (by simp) (by decide) (by decide)).mono ?_; rintro e w2 ⟨rfl, hb2⟩; rw [hid]; have hz2 := hb2.size; have hv2 : w2.heap[w1.heap.size]? = some (.cells #[.slice ad 4 cap, .map mb] 25 (0, 0)) := (hb2.block _ (by simp)).trans (new_at rfl); have y0 := cell_at hv2 0; have y1 := cell_at hv2 1; have hlt2 := lt_at hv2) | (go_at_call 10; refine (sizeP_any ad 4 cap (.map mb) _).mono ?_; rintro e w3 ⟨rfl, hb3⟩))
  go_ret
  exact ⟨rfl, (((hb1.alloc hz1 _).trans (hb2.mono (by simp; omega))).trans (hb3.mono (by omega)))⟩
end Go.Proofs.Ytginkcjhfdoodaa
