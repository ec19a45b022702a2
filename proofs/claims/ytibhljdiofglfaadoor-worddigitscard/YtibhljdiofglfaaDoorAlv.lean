/- That the first call of the statements of chapter 2 answers true. -/
import Derived.Test.YtibhljdiofglfaaDoorScn
namespace Go.Proofs.YtibhljdiofglfaaDoor
open Go.RowKit Go.Shelf

/-- The text that is scanned first. -/
def T0 : ByteArray := ⟨#[206, 177, 206, 178, 32, 49, 50]⟩
theorem T0_cut : cutR T0 = ([(2, ⟨#[206, 177, 206, 178]⟩, 1), (3, ⟨#[49, 50]⟩, 4)], 0, 0) := by kernel_rfl
theorem T0_nl : nlAt T0 = -1 := by kernel_rfl
theorem T0_starts : (starts T0).length = 5 := by kernel_rfl
theorem scan_T0 (w : World) : Calls Tryd.prog 9 #[.string T0] w fun e w' => ∃ ad cap g, ad = some ⟨g, 0, none⟩ ∧ e = .returned (.tuple #[.slice ad 3 cap, .int .i64 0, .int .i64 0, .int .i64 0]) ∧ w'.cell? ⟨g, 1, none⟩ = some (.string ⟨#[206, 177, 206, 178]⟩) ∧ w'.cell? ⟨g, 7, none⟩ = some (.int .i64 4) ∧ Below w.heap.size w w' := by
  have h := callsIn_wide.1 (scan_one T0 (by decide) T0_nl (by rw [T0_cut]) (by rw [T0_cut]; decide) (by rw [T0_cut]; decide) w)
  refine h.mono ?_
  rintro e w' ⟨v, rfl, hrow, hb⟩
  unfold kkS xxS at hrow
  rw [T0_cut, T0_starts] at hrow
  obtain ⟨ad, cap, rfl, hc⟩ := ownsRow_form hrow
  obtain ⟨g, rfl, _, _, _, hcell⟩ := hc (by simp)
  exact ⟨_, cap, g, rfl, rfl, hcell 1 _ rfl, hcell 7 _ rfl, hb⟩
set_option maxHeartbeats 1000000 in
set_option maxRecDepth 100000 in
theorem alive_any (w : World) : Calls Tryd.prog 10 #[] w fun e w' => e = .returned (.bool true) ∧ Below w.heap.size w w' := by
  go_enter Tryd.func10, Tryd.ntmps10
  go_wp2_with (go_at_call 9; refine (scan_T0 _).mono ?_; rintro e w1 ⟨ad, cap, g, rfl, rfl, c1, c7, hb⟩)
  go_ret
  exact ⟨rfl, hb⟩
end Go.Proofs.YtibhljdiofglfaaDoor
