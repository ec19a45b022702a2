/- Sign, Text; alive: what they answer, at every roster. -/
import Derived.Test.YtginkcjhfdoodabDoorRrd
import Derived.Test.YtginkcjhfdoodabDoorEnl
namespace Go.Proofs.YtginkcjhfdoodabDoor
open Go.RowKit Go.Shelf Go.Lib

set_option maxHeartbeats 400000 in
theorem text_any {M : Nat} {v : Value} {l : List Int} (w : World) (h : Ros M w v l) (hM : M ≤ w.heap.size) : Calls Tryd.prog 12 #[v] w fun e w' => e = .returned (.string (txt l)) ∧ Below w.heap.size w w' := by
  obtain ⟨h0, sl, mp, rfl, hS, _⟩ := h
  have hS2 := hS.below (((Below.refl _ w).alloc (Nat.le_refl _) (.cells #[sl, mp] 28)).mono hM)
  have hcv : (convert 25 9 sl).run Tryd.prog (w.alloc (.cells #[sl, mp] 28)) = .ok (.string (txt l)) (w.alloc (.cells #[sl, mp] 28)) := by
    generalize w.alloc (.cells #[sl, mp] 28) = W at *
    obtain ⟨ad, cap, rfl, hf⟩ := hS2
    rw [← runesBytes_txt]
    by_cases hl : l = []
    · subst hl
      cases ad with
      | none => exact run_convert_runes_nil W _ _ _ _ _ Tryd.underlying25 Tryd.underlying21 Tryd.underlying9
      | some a => exact run_convert_runes W _ _ _ a 0 cap [] (Nat.le_refl _) Tryd.underlying25 Tryd.underlying21 Tryd.underlying9 (fun j hj => by simp at hj)
    · obtain ⟨g, rfl, g1, g2, g3⟩ := hf hl
      have h := run_convert_runes W 25 9 21 ⟨g, 0, none⟩ l.length cap l (Nat.le_refl _) Tryd.underlying25 Tryd.underlying21 Tryd.underlying9 (fun j hj => by
        have ha : (⟨g, 0, none⟩ : Addr).add j = ⟨g, j, none⟩ := by unfold Addr.add; split <;> simp_all
        rw [ha, List.getD_eq_getElem?_getD, List.getElem?_eq_getElem hj]
        exact g3 j _ (List.getElem?_eq_getElem hj))
      rw [List.take_length] at h
      exact h
  obtain ⟨ad, cap, rfl, _⟩ := hS
  generalize txt l = t at *
  clear hS2
  go_enter Tryd.func12, Tryd.ntmps12
  go_wp2
  go_ret
  exact ⟨rfl, (Below.refl _ w).alloc (Nat.le_refl _) _⟩

/-- The text that is read first. -/
def T0 : ByteArray := ⟨#[206, 177, 206, 178, 206, 179, 240, 159, 166, 137]⟩
theorem T0_read : readR T0 = ([945, 946, 947, 129417], 0, 0) := by decide +kernel
set_option maxHeartbeats 1000000 in
set_option maxRecDepth 100000 in
theorem alive_any (w : World) : Calls Tryd.prog 9 #[] w fun e w' => e = .returned (.bool true) ∧ Below w.heap.size w w' := by
  have hrd := read_any T0 (by decide) w
  unfold RdV at hrd
  rw [T0_read] at hrd
  have hid : idV [945, 946, 947, 129417] 947 = .tuple #[.int .i64 2, .int .i64 0] := rfl
  go_enter Tryd.func9, Tryd.ntmps9
  go_wp2_with (first | (go_at_call 5; refine hrd.mono ?_; rintro e w1 ⟨⟨v, rfl, hv⟩, hb1⟩; obtain ⟨ad, cap, mb, rfl⟩ := hv.form; have hz1 := hb1.size) | (go_at_call 27; refine (id_any _ (hv.alloc (Nat.le_refl _) _) (by simp) (by decide) (by decide)).mono ?_; rintro e w2 ⟨rfl, hb2⟩; rw [hid]; have hz2 := hb2.size; have hv2 : w2.heap[w1.heap.size]? = some (.cells #[.slice ad 4 cap, .map mb] 28 (0, 0)) := (hb2.block _ (by simp)).trans (new_at rfl); have y0 := cell_at hv2 0; have y1 := cell_at hv2 1; have hlt2 := lt_at hv2) | (go_at_call 20; refine (sizeP_any ad 4 cap (.map mb) _).mono ?_; rintro e w3 ⟨rfl, hb3⟩))
  go_ret
  exact ⟨rfl, (((hb1.alloc hz1 _).trans (hb2.mono (by simp; omega))).trans (hb3.mono (by omega)))⟩
end Go.Proofs.YtginkcjhfdoodabDoor
