/- Sign, Text; alive: what they answer, at every roster. -/
import Derived.Test.YtginkcjhfdoodaaDoorRrd
import Derived.Test.YtginkcjhfdoodaaDoorEnl
namespace Go.Proofs.YtginkcjhfdoodaaDoor
open Go.RowKit Go.Shelf Go.Lib


/-- The text that is read first. -/
def T0 : ByteArray := ⟨#[206, 177, 206, 178, 206, 179, 240, 159, 166, 137]⟩
theorem T0_read : readR T0 = ([945, 946, 947, 129417], 0, 0) := by decide +kernel
set_option maxHeartbeats 1000000 in
set_option maxRecDepth 100000 in
theorem alive_any (w : World) : Calls Tryd.prog 7 #[] w fun e w' => e = .returned (.bool true) ∧ Below w.heap.size w w' := by
  have hrd := read_any T0 (by decide) w
  unfold RdV at hrd
  rw [T0_read] at hrd
  have hid : idV [945, 946, 947, 129417] 947 = .tuple #[.int .i64 2, .int .i64 0] := rfl
  go_enter Tryd.func7, Tryd.ntmps7
  go_wp2_with (first | (go_at_call 5; refine hrd.mono ?_; rintro e w1 ⟨⟨v, rfl, hv⟩, hb1⟩; obtain ⟨ad, cap, mb, rfl⟩ := hv.form; have hz1 := hb1.size) | (go_at_call 16; refine (id_any _ (hv.alloc (Nat.le_refl _) _) (by simp) (by decide) (by decide)).mono ?_; rintro e w2 ⟨rfl, hb2⟩; rw [hid]; have hz2 := hb2.size; have hv2 : w2.heap[w1.heap.size]? = some (.cells #[.slice ad 4 cap, .map mb] 28 (0, 0)) := (hb2.block _ (by simp)).trans (new_at rfl); have y0 := cell_at hv2 0; have y1 := cell_at hv2 1; have hlt2 := lt_at hv2) | (go_at_call 9; refine (sizeP_any ad 4 cap (.map mb) _).mono ?_; rintro e w3 ⟨rfl, hb3⟩))
  go_ret
  exact ⟨rfl, (((hb1.alloc hz1 _).trans (hb2.mono (by simp; omega))).trans (hb3.mono (by omega)))⟩
end Go.Proofs.YtginkcjhfdoodaaDoor
