/- The statements' alive. -/
import Derived.Test.YtnkdfpbgdimaoaaGreatLtj
namespace Go.Proofs.YtnkdfpbgdimaoaaGreat
open Go.RowKit Go.Shelf Go.Lib

def rX : Rec := ⟨1, 16, 4⟩
theorem mayX : May rX := by decide
def dX : Dst := ⟨put2 d0.l 0 (slB rX 1), false, false, 0, 2⟩
theorem svX : Sv dX.l 1 rX := (Sv.zero rX).step mayX (by omega)
theorem saveX : dSv d0 rX = (0, dX) := by
  rw [(Sv.zero rX).save rfl mayX (by omega), dW2_ok rfl (by omega) (slB_len _ _) (fun h => by cases h)]
  rfl
theorem nt0 : nwT d0 = ⟨rec0, 0, 0, 40⟩ := by rw [(Sv.zero rX).nt rfl, if_pos rfl]
theorem ntX : nwT dX = ⟨rX, 1, 0, 0⟩ := by
  rw [svX.nt rfl, if_neg (by omega)]
  rfl
theorem fz0 : Fz d0 := fun h => by cases h
set_option maxHeartbeats 4000000 in
set_option maxRecDepth 100000 in
theorem alive_any (w : World) : Calls Tryz.prog 4 #[] w fun e w' => e = .returned (.bool true) ∧ Below w.heap.size w w' := by
  have hn := dnew_any w
  have hl0 : ∀ V, Dk V w.heap.size d0 → Calls Tryz.prog 15 #[.pointer (some ⟨w.heap.size, 0, none⟩)] V fun e w' => e = .returned (.tuple #[.agg #[.int .i64 0, .int .i64 0, .int .i64 0], .int .i64 0, .int .i64 40]) ∧ Below V.heap.size V w' := fun V hV => by
    have := load_any hV
    rw [nt0] at this
    exact this
  have hl1 : ∀ V, Dk V w.heap.size dX → Calls Tryz.prog 15 #[.pointer (some ⟨w.heap.size, 0, none⟩)] V fun e w' => e = .returned (.tuple #[.agg #[.int .i64 1, .int .i64 16, .int .i64 4], .int .i64 1, .int .i64 0]) ∧ Below V.heap.size V w' := fun V hV => by
    have := load_any hV
    rw [ntX] at this
    exact this
  have hsv : ∀ V, Dk V w.heap.size d0 → Calls Tryz.prog 16 #[.pointer (some ⟨w.heap.size, 0, none⟩), .agg #[.int .i64 1, .int .i64 16, .int .i64 4]] V fun e w' => e = .returned (.int .i64 0) ∧ Dk w' w.heap.size dX ∧ Tp w.heap.size V w' := fun V hV => by
    have := save_any hV rX fz0 (by decide) (by decide)
    rw [saveX] at this
    exact this
  have hwr : ∀ V, Dk V w.heap.size dX → Calls Tryz.prog 17 #[.pointer (some ⟨w.heap.size, 0, none⟩)] V fun e w' => e = .returned (.int .i64 2) ∧ w' = V := fun V hV => writes_any hV
  go_enter Tryz.func4, Tryz.ntmps4
  go_wp2_with (first | (go_at_call 14; (with_reducible refine hn.mono ?_); rintro e u1 ⟨rfl, h1, hlt, hu1⟩; have ha := hl0 _ h1) | (go_at_call 15; (with_reducible refine ha.mono ?_); rintro e u2 ⟨rfl, hu2⟩; clear ha; obtain ⟨u3, hu3⟩ : ∃ u3, u2.alloc (.cells #[.int .i64 0, .int .i64 0, .int .i64 0] 23) = u3 := ⟨_, rfl⟩; have h3 := (h1.carry hu2).carry (al1' u2 (.cells #[.int .i64 0, .int .i64 0, .int .i64 0] 23)); have hb3 := bel2 (bel2 hu1 hu2) (al1' u2 (.cells #[.int .i64 0, .int .i64 0, .int .i64 0] 23)); clear hu3; have hb := hsv _ h3) | (go_at_call 16; (with_reducible refine hb.mono ?_); rintro e u4 ⟨rfl, h4, ht4⟩; have hc := hl1 _ h4; have hb4 := hb3.trans (ht4.below (Nat.le_refl _) hb3.size)) | (go_at_call 15; (with_reducible refine hc.mono ?_); rintro e u5 ⟨rfl, hu5⟩; have h6 := (h4.carry hu5).carry (al1' u5 (.cells #[.int .i64 1, .int .i64 16, .int .i64 4] 23)); have hb6 := bel2 (bel2 hb4 hu5) (al1' u5 (.cells #[.int .i64 1, .int .i64 16, .int .i64 4] 23)); have hd := hwr _ h6) | (go_at_call 17; (with_reducible refine hd.mono ?_); rintro e u7 ⟨rfl, hu7⟩; obtain rfl := hu7.symm))
  go_ret
  exact ⟨rfl, hb6⟩
end Go.Proofs.YtnkdfpbgdimaoaaGreat
