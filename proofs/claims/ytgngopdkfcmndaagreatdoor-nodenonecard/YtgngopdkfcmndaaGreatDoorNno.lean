/- The walk of NodeNone. -/
import Derived.WalkKit
import Derived.ProofKit
import Derived.OpenShut
import Derived.Test.YtgngopdkfcmndaaGreatDoorJnJ35
namespace Go.Proofs.YtgngopdkfcmndaaGreatDoor
open Go.ChangeShapes Go.WideShapes Go.ChangeAt Go.RowKit Go.Shelf Go.Lib
set_option linter.unusedVariables false
theorem sz_cells {W : World} {b : Nat} (h : W.heap[b]? = some (.cells siZ 36 (0, 0))) : W.cell? ⟨b, 0, none⟩ = some (.bool false) ∧ W.cell? ⟨b, 1, none⟩ = some (.int .i64 0) ∧ W.cell? ⟨b, 2, none⟩ = some (.int .i64 0) ∧ W.cell? ⟨b, 3, none⟩ = some (.int .i64 0) ∧ W.cell? ⟨b, 4, none⟩ = some (.int .u32 0) ∧ W.cell? ⟨b, 5, none⟩ = some (.int .u32 0) ∧ W.cell? ⟨b, 6, none⟩ = some (.int .u32 0) ∧ W.cell? ⟨b, 7, none⟩ = some (.int .u32 0) ∧ W.cell? ⟨b, 8, none⟩ = some (.int .u32 0) ∧ W.cell? ⟨b, 9, none⟩ = some (.int .u32 0) ∧ W.cell? ⟨b, 10, none⟩ = some (.int .u32 0) ∧ W.cell? ⟨b, 11, none⟩ = some (.int .u32 0) ∧ W.cell? ⟨b, 12, none⟩ = some (.int .u32 0) ∧ W.cell? ⟨b, 13, none⟩ = some (.int .u32 0) ∧ W.cell? ⟨b, 14, none⟩ = some (.int .u32 0) ∧ W.cell? ⟨b, 15, none⟩ = some (.int .u32 0) ∧ W.cell? ⟨b, 16, none⟩ = some (.slice none 0 0) := by
  exact ⟨(cell_at h 0).trans rfl, (cell_at h 1).trans rfl, (cell_at h 2).trans rfl, (cell_at h 3).trans rfl, (cell_at h 4).trans rfl, (cell_at h 5).trans rfl, (cell_at h 6).trans rfl, (cell_at h 7).trans rfl, (cell_at h 8).trans rfl, (cell_at h 9).trans rfl, (cell_at h 10).trans rfl, (cell_at h 11).trans rfl, (cell_at h 12).trans rfl, (cell_at h 13).trans rfl, (cell_at h 14).trans rfl, (cell_at h 15).trans rfl, (cell_at h 16).trans rfl⟩
theorem up0 {w : World} {x : Nat} (h : Nb w x none 0 0 0 none 0 none (.slice none 0 0)) : Calls Tryz.prog 17 #[.pointer (some ⟨x, 0, none⟩)] w fun r w' => r = .returned (.bool false) ∧ w' = w := (up_any h).mono (by rintro r w' ⟨rfl, rfl⟩; exact ⟨rfl, rfl⟩)
theorem ss0 (w : World) : Calls Tryz.prog 19 #[.agg #[.bool false, .int .i64 0, .int .i64 0, .int .i64 0, .int .u32 0, .int .u32 0, .int .u32 0, .int .u32 0, .int .u32 0, .int .u32 0, .int .u32 0, .int .u32 0, .int .u32 0, .int .u32 0, .int .u32 0, .int .u32 0, .slice none 0 0], .agg #[.bool false, .int .i64 0, .int .i64 0, .int .i64 0, .int .u32 0, .int .u32 0, .int .u32 0, .int .u32 0, .int .u32 0, .int .u32 0, .int .u32 0, .int .u32 0, .int .u32 0, .int .u32 0, .int .u32 0, .int .u32 0, .slice none 0 0]] w fun e w' => e = .returned (.bool true) ∧ Below w.heap.size w w' := sameSight0 w
set_option maxHeartbeats 40000000 in
set_option maxRecDepth 100000 in
theorem none_in (w : World) (ad0 : Option Addr) (cap0 n0 : Nat) (a1 a2 a3 : Int) :
    Calls Tryz.prog 4 #[.slice ad0 n0 cap0, .int .i64 a1, .int .i64 a2, .int .i64 a3] w fun e w' => e = .returned (.bool true) ∧ Below w.heap.size w w' := by
  by_cases hl : (n0 : Int) > 2000
  · go_enter Tryz.func4, Tryz.ntmps4
    go_wp2_with (go_at_call 8; (with_reducible refine (nalive_any _).mono ?_); rintro r u4 ⟨rfl, hu4⟩)
    go_ret
    exact ⟨rfl, hu4⟩
  obtain ⟨w1, hw1⟩ : ∃ w1, w.alloc (.cells #[.pointer none, .int .i64 0, .int .i64 0, .int .i64 0, .pointer none, .int .u32 0, .int .u32 0, .int .u32 0, .int .u32 0, .pointer none, .slice none 0 0] 54) = w1 := ⟨_, rfl⟩
  have B1 : Below w.heap.size w w1 := by rw [← hw1]; exact al1' _ _
  have N1 : Nb w1 w.heap.size none 0 0 0 none 0 none (.slice none 0 0) := by rw [← hw1]; exact new_at rfl
  have hup1 := up0 N1
  go_enter Tryz.func4, Tryz.ntmps4
  go_wp2_with (first
      | (have m := st5; go_at_call 15; (with_reducible refine (halt_any N1).mono ?_); rintro r u6 ⟨rfl, N6, T6⟩; have B6 : Below w.heap.size w u6 := TpZ.young B1 T6 (Nat.le_refl _))
      | (have m := st4; go_at_call 15; (with_reducible refine (halt_nil _).mono ?_); rintro r y5 ⟨rfl, hy5⟩; obtain rfl := hy5.symm; have st5 := True.intro)
      | (have m := st3; go_at_call 14; (with_reducible refine (hear_dn _ _ hup1).mono ?_); rintro r y4 ⟨rfl, hy4⟩; obtain rfl := hy4.symm; have st4 := True.intro)
      | (have m := st2; go_at_call 14; (with_reducible refine (hear_dn none _ (up_nil _)).mono ?_); rintro r y3 ⟨rfl, hy3⟩; obtain rfl := hy3.symm; have st3 := True.intro)
      | (have m := st1; go_at_call 13; (with_reducible refine (poll_dn _ hup1).mono ?_); rintro r y2 ⟨rfl, hy2⟩; obtain rfl := hy2.symm; have st2 := True.intro)
      | (go_at_call 13; (with_reducible refine (poll_dn none (up_nil _)).mono ?_); rintro r y1 ⟨rfl, hy1⟩; obtain rfl := hy1.symm; have st1 := True.intro))
  (try clear hup1); (try clear hw1); (try clear N1); (try clear T6); (try clear st1); (try clear st2); (try clear st3); (try clear st4); (try clear st5); (try clear B1)
  as_aux_lemma =>
    go_wp2_with (first
        | (have m := g9; refine wpList_store_row rfl 71 (.tmp 21) (.tmp 71) rfl u8.heap.size nZ rfl rfl 71 _ g9 infoRN rfl (by simp [nZ, Value.oneCell']) ?_; obtain ⟨v9, hv9⟩ : ∃ V, x9.setRow u8.heap.size nZ = V := ⟨_, rfl⟩; have Y8 : Below u6.heap.size u6 v9 := (by rw [← hv9]; exact below_setRow (bel2 Y7 B99) Y7.size _); rw [hv9])
        | (have m := O8; go_at_call 16; (with_reducible refine (rnopen_off a1 a2 a3 O8).mono ?_); rintro r u8 ⟨rfl, B9⟩; have Y7 : Below u6.heap.size u6 u8 := bel2 (bel2 B7 B8) B9; obtain ⟨x9, hx9⟩ : ∃ V, u8.alloc (.cells nZ 71) = V := ⟨_, rfl⟩; have B99 : Below u8.heap.size u8 x9 := (by rw [← hx9]; exact al1' _ _); have g9 : x9.heap[u8.heap.size]? = some (.cells nZ 71 (0, 0)) := (by rw [← hx9]; exact new_at rfl); unfold nZ at hx9 ⊢)
        | (have m := N6; go_at_call 5; (with_reducible refine (nopen_n a1 a2 a3 _).mono ?_); rintro r u7 ⟨rfl, B7⟩; obtain ⟨x8, hx8⟩ : ∃ V, u7.alloc (.cells #[.slice none 0 0, .bool true, .int .i64 (-1), .int .i64 0] 75) = V := ⟨_, rfl⟩; have B8 : Below u7.heap.size u7 x8 := (by rw [← hx8]; exact al1' _ _); have O8 : Of0 x8 u7.heap.size := (by rw [← hx8]; exact new_at rfl)))
    (try clear B7); (try clear B8); (try clear B9); (try clear O8); (try clear hx8); (try clear hx9); (try clear B99); (try clear g9); (try clear hv9); (try clear Y7)
    as_aux_lemma =>
      go_wp2_with (first
          | (have m := e1; refine wpList_store_row rfl 36 (.tmp 24) (.tmp 76) rfl x11.heap.size siZ rfl rfl 36 _ e2 infoSi rfl (by simp [siZ, Value.oneCell']) ?_; obtain ⟨v2, hv2⟩ : ∃ V, v1.setRow x11.heap.size siZ = V := ⟨_, rfl⟩; have e3 : v2.heap[x11.heap.size]? = some (.cells siZ 36 (0, 0)) := (by rw [← hv2]; exact setRow_heap _ _ _ _ _ _ e2); have e4 : v2.heap[u10.heap.size]? = some (.cells siZ 36 (0, 0)) := (by rw [← hv2]; exact (setRow_other _ _ _ _ n12).trans e1); have Z2 : Below u6.heap.size u6 v2 := (by rw [← hv2]; exact below_setRow Z1 n11 _); rw [hv2])
          | (have m := g12; refine wpList_store_row rfl 36 (.tmp 23) (.tmp 74) rfl u10.heap.size siZ rfl rfl 36 _ g13 infoSi rfl (by simp [siZ, Value.oneCell']) ?_; obtain ⟨v1, hv1⟩ : ∃ V, x12.setRow u10.heap.size siZ = V := ⟨_, rfl⟩; have e1 : v1.heap[u10.heap.size]? = some (.cells siZ 36 (0, 0)) := (by rw [← hv1]; exact setRow_heap _ _ _ _ _ _ g13); have e2 : v1.heap[x11.heap.size]? = some (.cells siZ 36 (0, 0)) := (by rw [← hv1]; exact (setRow_other _ _ _ _ (Ne.symm n12)).trans g12); have Z1 : Below u6.heap.size u6 v1 := (by rw [← hv1]; exact below_setRow Y12 n10 _); rw [hv1])
          | (have m := Y9; go_at_call 9; (with_reducible refine (sight_dn _ (fun W hW => (up_any (N9.carry hW)).mono (by rintro r w' ⟨rfl, rfl⟩; exact ⟨rfl, rfl⟩))).mono ?_); rintro r u10 ⟨rfl, B11⟩; obtain ⟨x11, hx11⟩ : ∃ V, u10.alloc (.cells siZ 36) = V := ⟨_, rfl⟩; have D11 : Below u10.heap.size u10 x11 := (by rw [← hx11]; exact al1' _ _); have g11 : x11.heap[u10.heap.size]? = some (.cells siZ 36 (0, 0)) := (by rw [← hx11]; exact new_at rfl); obtain ⟨x12, hx12⟩ : ∃ V, x11.alloc (.cells siZ 36) = V := ⟨_, rfl⟩; have D12 : Below x11.heap.size x11 x12 := (by rw [← hx12]; exact al1' _ _); have g12 : x12.heap[x11.heap.size]? = some (.cells siZ 36 (0, 0)) := (by rw [← hx12]; exact new_at rfl); have g13 := (D12.block _ (lt_at g11)).trans g11; have Y12 : Below u6.heap.size u6 x12 := bel2 (bel2 (bel2 Y9 B11) D11) D12; have n12 : u10.heap.size ≠ x11.heap.size := (by have := lt_at g11; omega); have n10 : u6.heap.size ≤ u10.heap.size := (bel2 Y9 B11).size; have n11 : u6.heap.size ≤ x11.heap.size := (bel2 (bel2 Y9 B11) D11).size; unfold siZ at hx11 hx12 ⊢)
          | (have m := Y8; go_at_call 9; (with_reducible refine (sight_dn none (fun W _ => up_nil W)).mono ?_); rintro r u9 ⟨rfl, B10⟩; have Y9 : Below u6.heap.size u6 u9 := bel2 Y8 B10; have N9 := N6.carry Y9; unfold siZ))
      (try clear Y8); (try clear N9); (try clear Y9); (try clear B10); (try clear B11); (try clear hx11); (try clear hx12); (try clear D11); (try clear D12); (try clear g11); (try clear g12); (try clear g13); (try clear Y12); (try clear e1); (try clear e2); (try clear Z1); (try clear hv1); (try clear hv2)
      as_aux_lemma =>
        go_wp2_with (first
            | (have m := e3; go_at_call 8; (with_reducible refine (nalive_any _).mono ?_); rintro r u13 ⟨rfl, B13⟩; have Y13 : Below u6.heap.size u6 u13 := bel2 Z2 B13; have f1 := (B13.block _ (lt_at e4)).trans e4; have f2 := (B13.block _ (lt_at e3)).trans e3; have N13 := N6.carry Y13; have hup13 := up0 N13))
        as_aux_lemma =>
          go_wp2_with (first
              | (have m := st6; go_at_call 17; (with_reducible refine (hup13).mono ?_); rintro r y7 ⟨rfl, hy7⟩; obtain rfl := hy7.symm; have st7 := True.intro)
              | (have m := f1; go_at_call 17; (with_reducible refine (up_nil _).mono ?_); rintro r y6 ⟨rfl, hy6⟩; obtain rfl := hy6.symm; have st6 := True.intro))
          (try clear st6); (try clear hup13)
          as_aux_lemma =>
            go_wp2_with (first
                | (have m := st8; go_at_call 18; (with_reducible refine (past_zero N13).mono ?_); rintro r u14 ⟨rfl, B14⟩; have f3 := (B14.block _ (lt_at f1)).trans f1; have f4 := (B14.block _ (lt_at f2)).trans f2; obtain ⟨c0, c1, c2, c3, c4, c5, c6, c7, c8, c9, c10, c11, c12, c13, c14, c15, c16⟩ := sz_cells f3)
                | (have m := st7; go_at_call 18; (with_reducible refine (past_nil _).mono ?_); rintro r y8 ⟨rfl, hy8⟩; obtain rfl := hy8.symm; have st8 := True.intro))
            (try clear st7); (try clear st8)
            as_aux_lemma =>
              go_wp2_with (first
                  | (have m := f5; go_at_call 19; (with_reducible refine (ss0 _).mono ?_); rintro r u16 ⟨rfl, B16⟩)
                  | (have m := f3; go_at_call 19; (with_reducible refine (ss0 _).mono ?_); rintro r u15 ⟨rfl, B15⟩; have f5 := (B15.block _ (lt_at f4)).trans f4; obtain ⟨d0, d1, d2, d3, d4, d5, d6, d7, d8, d9, d10, d11, d12, d13, d14, d15, d16⟩ := sz_cells f5))
              go_ret
              exact ⟨rfl, bel2 B6 (bel2 (bel2 Y13 B14) (bel2 B15 B16))⟩
end Go.Proofs.YtgngopdkfcmndaaGreatDoor
