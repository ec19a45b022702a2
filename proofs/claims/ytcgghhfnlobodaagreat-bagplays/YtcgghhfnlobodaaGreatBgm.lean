/- The statements' alive. -/
import Derived.Test.YtcgghhfnlobodaaGreatBgl
import Derived.Lib.SlBytesConst
namespace Go.Proofs.YtcgghhfnlobodaaGreat
open Go.RowKit Go.Shelf

theorem bs1B (W : World) (x : Int) : (Instr.buildSlice 55 1 #[(0, .int .u8 x)]).run Tryz.prog W = .ok (.slice (some ⟨W.heap.size, 0, none⟩) 1 1) (W.alloc (.cells #[.int .u8 x] 5)) := by go_simp
theorem conv_x {W : World} {g c : Nat} (h : W.cell? ⟨g, 0, none⟩ = some (.int .u8 120)) : (convert 55 9 (.slice (some ⟨g, 0, none⟩) 1 c)).run Tryz.prog W = .ok (.string ⟨#[120]⟩) W :=
  run_convert_bytes_back W 55 9 5 ⟨g, 0, none⟩ c [120] Tryz.underlying55 Tryz.underlying5 Tryz.underlying9 (fun j hj => by
    have : j = 0 := by simp at hj; omega
    subst this
    rw [add_pl]
    exact h)
set_option maxHeartbeats 4000000 in
set_option maxRecDepth 100000 in
theorem alive_any (w : World) : Calls Tryz.prog 6 #[] w fun e w' => e = .returned (.bool true) ∧ Below w.heap.size w w' := by
  have hne := new_ok (σ := fun _ => False) 3 w (by decide) (by decide) (fun _ q => q.elim)
  have hcv := fun (w : World) (C : Array Value) (n c : Nat) => Lib.run_convert_bytes_const (P := Tryz.prog) w 55 5 C n c Tryz.underlying55 Tryz.underlying5
  have hbs := bs1B
  go_enter Tryz.func6, Tryz.ntmps6
  go_wp2_with (first | (go_at_call 7; (with_reducible refine hne.mono ?_); rintro e u1 ⟨rfl, hB1, hb1⟩; obtain ⟨v1, hv1⟩ : ∃ v1, u1.alloc (.cells #[.int .u8 120] 5 (1, 2)) = v1 := ⟨_, rfl⟩; have hbv : Below u1.heap.size u1 v1 := (by rw [← hv1]; exact al1' _ _); have hBv := hB1.carry hbv; have hc1 : v1.heap[u1.heap.size]? = some (.cells #[.int .u8 120] 5 (1, 2)) := (by rw [← hv1]; exact new_at rfl); have hse := send_any hBv 0 1 (some ⟨u1.heap.size, 0, none⟩) 1 [120] (fun _ => ⟨_, 0, rfl, lt_at hc1, fun k x hk => by match k, hk with | 0, hk => cases hk; exact cell_at hc1 0⟩) (fun _ a e => by cases e; have := hB1.plt; show u1.heap.size ≠ w.heap.size; omega) (by intro x hx; simp at hx; omega) (by decide) (by decide); have hse : Calls Tryz.prog 11 #[.pointer (some ⟨w.heap.size, 0, none⟩), .int .i64 0, .int .i64 1, .slice (some ⟨u1.heap.size, 0, none⟩) 1 1] v1 fun e w' => e = .returned (.tuple #[.int .i64 1, .int .i64 0]) ∧ ∃ ad' cap' ps', Bg (fun _ => False) w' w.heap.size w.heap.size ad' cap' 3 1 ps' [(1, 0, 1, [120])] ∧ Tn w.heap.size (ob none) (ob ad') v1 w' := hse) | (go_at_call 11; (with_reducible refine hse.mono ?_); rintro e u2 ⟨rfl, ad2, cap2, ps2, hB2, hT2⟩; have hat : Calls Tryz.prog 12 #[.pointer (some ⟨w.heap.size, 0, none⟩), .int .i64 0] u2 fun e w' => ∃ a c, e = .returned (.tuple #[.agg #[.int .i64 1, .int .i64 0, .int .i64 1, .slice a 1 c], .int .i64 0]) ∧ w'.ownsRow u2.heap.size 5 1 (.slice a 1 c) 1 (cB [120]) ∧ Below u2.heap.size u2 w' := at_any hB2 0) | (go_at_call 12; (with_reducible refine hat.mono ?_); rintro e u3 ⟨a3, c3, rfl, ho3, hb3⟩; obtain ⟨g3, c3', e3, _⟩ := own_some ho3 (by decide); simp only [Value.slice.injEq] at e3; obtain ⟨rfl, _, rfl⟩ := e3; obtain ⟨u4, hu4⟩ : ∃ u4, u3.alloc (.cells #[.int .i64 1, .int .i64 0, .int .i64 1, .slice (some ⟨g3, 0, none⟩) 1 c3] 62) = u4 := ⟨_, rfl⟩; have hb4 : Below u3.heap.size u3 u4 := (by rw [← hu4]; exact al1' _ _); have hG4 : GB u4 u3.heap.size 1 0 1 (.slice (some ⟨g3, 0, none⟩) 1 c3) := (by rw [← hu4]; exact new_at rfl); have k0 := hG4.c0; have k3 := hG4.c3; have hcx := conv_x (c := c3) (((row_below ho3 hb4).cellAt 0 (by decide)).trans rfl : u4.cell? ⟨g3, 0, none⟩ = some (.int .u8 120)); have hro : Calls Tryz.prog 13 #[.pointer (some ⟨w.heap.size, 0, none⟩)] u4 fun e w' => e = .returned (.int .i64 2) ∧ Below u4.heap.size u4 w' := broom_any ((hB2.carry hb3).carry hb4)) | (go_at_call 13; (with_reducible refine hro.mono ?_); rintro e u5 ⟨rfl, hb5⟩))
  go_ret
  refine ⟨rfl, ?_⟩
  have hT : Below w.heap.size w u2 := (bel2 hb1 hbv).trans (hBv.below hT2)
  exact bel2 (bel2 (bel2 hT hb3) hb4) hb5
end Go.Proofs.YtcgghhfnlobodaaGreat
