/- TellNamed: at every two texts of signs and every note: with other signs the words are others, and the note is the same; no condition but the tie of the card. -/
import Derived.Test.YtnkpohkodkjkfaaGreatDoorRows
import Derived.WalkKit
import Derived.ProofKit
import Derived.OpenShut
import Derived.ChangeMaps5
import Derived.Stop.Joined
import Derived.Lay
import Derived.SevenTiedAt
import Derived.SizedLaws
import Derived.LaidMore
import Derived.Test.YtnkpohkodkjkfaaGreatDoorTie
import Derived.Test.YtnkpohkodkjkfaaGreatDoorCards
import Derived.Test.YtnkpohkodkjkfaaGreatDoorJoJ43
namespace Go.Proofs.YtnkpohkodkjkfaaGreatDoor
open Go.ChangeShapes Go.WideShapes Go.ChangeAt Go.RowKit Go.ChangeMaps
set_option linter.unusedVariables false

theorem laidOut : laidOutB Tryz.prog = true := by kernel_rfl
theorem own : ownKnob Tryz.prog.godebug = none := by kernel_rfl
open Go.Shelf Go.Lib
set_option maxHeartbeats 16000000 in
set_option maxRecDepth 100000 in
theorem walk (w : World) (s0 : ByteArray) (w0 : s0.size ≤ maxLen) (s1 : ByteArray) (w1 : s1.size ≤ maxLen) (k2 f2 g2 : Int) (N2 : Nat) (ad2 : Option Addr) (cap2 : Nat) (l2 : List (Int × Int × Int)) (hN2 : N2 < S128) (wk2 : (Lit.int .i64 k2).wf = true) (wf2 : (Lit.int .i64 f2).wf = true) (wr2 : (Lit.int .i64 g2).wf = true) (w2 : RdN w ad2 l2) (hc2 : ad2 = none → cap2 = 0) (hq2 : l2.length ≤ cap2) (hL : laidMetH Tryz.prog Rows.tellNamedRow.laid w) :
    Calls Tryz.prog 5 #[.string s0, .string s1, rnv k2 f2 g2 N2 (.slice ad2 l2.length cap2)] w fun e w' => e = .returned (.bool true) ∧ Below w.heap.size w w' := by
  have hTB := tabs_of (W := w) (L := Rows.tellNamedRow.laid) (by rw [← MakeChecks.laidMetH_plain _ _ _ (by kernel_rfl)]; exact hL) (by simp [Rows.tellNamedRow]) (by simp [Rows.tellNamedRow]) (by simp [Rows.tellNamedRow]) rfl
  obtain ⟨hP, hU, hT⟩ := hTB
  have HP : Hid (Pow w) := hP
  have HU : Hid (Ut w) := hU
  have HT : Hid (Tab w) := hT
  obtain ⟨hk, hk3, hk2, hN⟩ := kd_f k2 g2 N2 hN2
  obtain ⟨hr0, hr1⟩ := krN_lo k2 g2 wr2
  have hki := kind8_any k2 f2 g2 N2 ad2 l2.length cap2
  obtain ⟨kd, hkd⟩ : ∃ x, kdN k2 = x := ⟨_, rfl⟩
  obtain ⟨rd, hrd⟩ : ∃ x, krN k2 g2 = x := ⟨_, rfl⟩
  obtain ⟨N, hNN⟩ : ∃ x, kNN k2 N2 = x := ⟨_, rfl⟩
  rw [hkd, hrd, hNN] at hki
  rw [hkd] at hk hk3 hk2
  rw [hrd] at hk3 hr0 hr1
  rw [hNN] at hk2 hN
  obtain ⟨W0, hW0⟩ : ∃ W0, w.alloc (.cells (nC8 k2 f2 g2 N2 (.slice ad2 l2.length cap2)) 27) = W0 := ⟨_, rfl⟩
  have hb0 : Below w.heap.size w W0 := by rw [← hW0]; exact al1t _ _
  have hB0 : Nb8 W0 w.heap.size k2 f2 g2 N2 (.slice ad2 l2.length cap2) := by unfold Nb8; rw [← hW0]; exact new_at rfl
  have hAL : Hid (∀ V, Below w.heap.size w V → Calls Tryz.prog 8 #[] V fun e w' => e = .returned (.bool true) ∧ Below V.heap.size V w') := fun V hV => alive_any V (HP.out.carry hV) (HU.out.carry hV)
  have HR1 : Hid (RdN w ad2 l2) := w2
  obtain ⟨c0, c1, c2, c3, c4, c5, c6, c7⟩ := hB0.cells
  clear hkd hrd hNN hP hU hT
  unfold nC8 at hW0
  unfold rnv at hki ⊢
  have hmx : Tryz.prog.follows .mixedOrders = true := by kernel_rfl
  have hrd1 := read_any s0 w0
  have hrd2 := read_any s1 w1
  unfold RdV at hrd1 hrd2
  generalize readR s0 = R at hrd1
  generalize readR s1 = R' at hrd2
  obtain ⟨L, x0, y0⟩ := R
  obtain ⟨L', x1, y1⟩ := R'
  dsimp only at hrd1 hrd2
  go_enter Tryz.func5, Tryz.ntmps5
  go_wp2_with (first | (go_at_call 9; (with_reducible refine (hrd2 _).mono ?_); rintro e u4 ⟨⟨v, rfl, hv4⟩, hu4⟩; obtain ⟨ad', n', cap', mb', rfl⟩ : ∃ ad n cap mb, v = .agg #[.slice ad n cap, .map mb] := (by obtain ⟨ad, cap, mb, e⟩ := hv4.form; exact ⟨_, _, _, _, e⟩); obtain ⟨V4, hV4⟩ : ∃ V4, u4.alloc (.cells #[.slice ad' n' cap', .map mb'] 33) = V4 := ⟨_, rfl⟩; (have hb4 : Below u4.heap.size u4 V4 := by rw [← hV4]; exact al1t _ _); (have g4 : V4.heap[u4.heap.size]? = some (.cells #[.slice ad' n' cap', .map mb'] 33 (0, 0)) := by rw [← hV4]; exact new_at rfl); (have hRo4 := hv4.below hb4); (have hJ4 : JN8 w w.heap.size u2.heap.size u4.heap.size (kd : Int) f2 rd N (.slice ad2 l2.length cap2) (.slice ad n cap) (.map mb) (.slice ad' n' cap') (.map mb') V4 := ⟨bel3 (bel3 hJ2.be hu4) hb4, (hJ2.bn.carry hu4).carry hb4, ((hb4.block _ (lt_at ((hu4.block _ (lt_at hJ2.bx)).trans hJ2.bx))).trans ((hu4.block _ (lt_at hJ2.bx)).trans hJ2.bx)), g4⟩); (have hRo2 := (hRo.below (hu4.mono hb2.size)).below (hb4.mono (Nat.le_trans hb2.size hu4.size)))) | (go_at_call 9; (with_reducible refine (hrd1 _).mono ?_); rintro e u2 ⟨⟨v, rfl, hv⟩, hu2⟩; obtain ⟨ad, n, cap, mb, rfl⟩ : ∃ ad n cap mb, v = .agg #[.slice ad n cap, .map mb] := (by obtain ⟨ad, cap, mb, e⟩ := hv.form; exact ⟨_, _, _, _, e⟩); obtain ⟨V2, hV2⟩ : ∃ V2, u2.alloc (.cells #[.slice ad n cap, .map mb] 33) = V2 := ⟨_, rfl⟩; (have hb2 : Below u2.heap.size u2 V2 := by rw [← hV2]; exact al1t _ _); (have g2 : V2.heap[u2.heap.size]? = some (.cells #[.slice ad n cap, .map mb] 33 (0, 0)) := by rw [← hV2]; exact new_at rfl); (have hRo := hv.below hb2); (have hJ2 : JB8 w w.heap.size u2.heap.size (kd : Int) f2 rd N (.slice ad2 l2.length cap2) (.slice ad n cap) (.map mb) V2 := ⟨bel3 (bel3 hbV hu2) hb2, (hBV.carry hu2).carry hb2, g2⟩)) | (refine wpList_store_row rfl 27 (.tmp 5) (.tmp 27) rfl w.heap.size (nC8 (kd : Int) f2 rd N (.slice ad2 l2.length cap2)) rfl rfl 27 _ hB1 info8 rfl (nC8_all _ _ _ _ _ _ _) ?_; rw [hV1]) | (go_at_call 7; (with_reducible refine (hki _).mono ?_); rintro e u1 ⟨rfl, hu1⟩; (have hB1 := hB0.carry hu1); obtain ⟨V1, hV1, hBV, hbV, hsV⟩ := nb8_set (k' := (kd : Int)) (f' := f2) (r' := rd) (N' := N) (v' := .slice ad2 l2.length cap2) hB1 (bel3 hb0 hu1) (Nat.le_refl _); obtain ⟨e0, e1, e2, e3, e4, e5, e6, e7⟩ := hBV.cells))
  have HJ : Hid (JN8 w w.heap.size u2.heap.size u4.heap.size (kd : Int) f2 rd N (.slice ad2 l2.length cap2) (.slice ad n cap) (.map mb) (.slice ad' n' cap') (.map mb') V4) := hJ4
  have HZ1 : Hid (∀ V, Below V4.heap.size V4 V → Calls Tryz.prog 15 #[.agg #[.slice ad n cap, .map mb]] V fun e w' => e = .returned (.int .i64 (L.length : Int)) ∧ Below V.heap.size V w') := fun V hV => size_any V (hRo2.below (hV.mono (Nat.le_trans (Nat.le_trans hb2.size hu4.size) hb4.size)))
  have HZ2 : Hid (∀ V, Below V4.heap.size V4 V → Calls Tryz.prog 15 #[.agg #[.slice ad' n' cap', .map mb']] V fun e w' => e = .returned (.int .i64 (L'.length : Int)) ∧ Below V.heap.size V w') := fun V hV => size_any V (hRo4.below (hV.mono hb4.size))
  rename_i hK
  by_cases hA : y0 = 0
  case neg =>
    refine wp_region_any hmx ?_
    refine wpAny_pure (fun i__ => ([(.int .i64 y0), (.bool true), (.bool true), undef, undef, (.bool true), (.bool true), undef, undef, undef, undef, undef, (.bool true), (.bool true), undef, undef, undef, undef, (.bool true)] : List Value).getD i__ undef) (fun V => JN8 w w.heap.size u2.heap.size u4.heap.size (kd : Int) f2 rd N (.slice ad2 l2.length cap2) (.slice ad n cap) (.map mb) (.slice ad' n' cap') (.map mb') V ∧ Below V4.heap.size V4 V) (by kernel_rfl) (⟨HJ.out.carry (Below.refl _ _).drew, (Below.refl _ _).drew⟩) ?_ ?_
    · refine (stepsFrom_cons ?_ (stepsFrom_cons ?_ (stepsFrom_cons ?_ (stepsFrom_cons ?_ (stepsFrom_cons ?_ (stepsFrom_cons ?_ (stepsFrom_cons ?_ (stepsFrom_cons ?_ (stepsFrom_cons ?_ (stepsFrom_cons ?_ (stepsFrom_cons ?_ (stepsFrom_cons ?_ (stepsFrom_cons ?_ (stepsFrom_cons ?_ (stepsFrom_cons ?_ (stepsFrom_cons ?_ (stepsFrom_cons ?_ (stepsFrom_cons ?_ (stepsFrom_cons ?_ trivial)))))))))))))))))))
      · exact step_move rfl trivial _ rfl (by kernel_rfl)
      · exact step_binOp rfl trivial _ _ _ _ _ _ _ rfl rfl rfl (fun v hw => nq_t _ _ _ hA)
      · exact step_move rfl trivial _ rfl (by kernel_rfl)
      · exact step_skip rfl 2 false 42 (.bool true) rfl rfl (by kernel_rfl) (by intro h; cases h) rfl
      · exact step_skip rfl 2 false 42 (.bool true) rfl rfl (by kernel_rfl) (by intro h; cases h) rfl
      · exact step_pick rfl trivial _ _ _ true rfl (by kernel_rfl) (by kernel_rfl)
      · exact step_move rfl trivial _ rfl (by kernel_rfl)
      · exact step_skip rfl 6 false 46 (.bool true) rfl rfl (by kernel_rfl) (by intro h; cases h) rfl
      · exact step_skip rfl 6 false 46 (.bool true) rfl rfl (by kernel_rfl) (by intro h; cases h) rfl
      · exact step_skip rfl 6 false 46 (.bool true) rfl rfl (by kernel_rfl) (by intro h; cases h) rfl
      · exact step_skip rfl 6 false 46 (.bool true) rfl rfl (by kernel_rfl) (by intro h; cases h) rfl
      · exact step_skip rfl 6 false 46 (.bool true) rfl rfl (by kernel_rfl) (by intro h; cases h) rfl
      · exact step_pick rfl trivial _ _ _ true rfl (by kernel_rfl) (by kernel_rfl)
      · exact step_move rfl trivial _ rfl (by kernel_rfl)
      · exact step_skip rfl 13 false 53 (.bool true) rfl rfl (by kernel_rfl) (by intro h; cases h) rfl
      · exact step_skip rfl 13 false 53 (.bool true) rfl rfl (by kernel_rfl) (by intro h; cases h) rfl
      · exact step_skip rfl 13 false 53 (.bool true) rfl rfl (by kernel_rfl) (by intro h; cases h) rfl
      · exact step_skip rfl 13 false 53 (.bool true) rfl rfl (by kernel_rfl) (by intro h; cases h) rfl
      · exact step_pick rfl trivial _ _ _ true rfl (by kernel_rfl) (by kernel_rfl)
    intro W hW
    first | refine hK _ _ ?_ | refine (‹∀ (a : Act) (w : World), Code.wp Tryz.prog _ _ a w → _›) _ _ ?_ | skip
    simp only [finL, List.getD_cons_zero, List.getD_cons_succ, Nat.zero_add, Nat.reduceAdd, List.setIfInBounds_toArray, List.set_cons_zero, List.set_cons_succ]
    have hbe := hW.1.be
    go_wp2_with ((go_at_call 8; (with_reducible refine (hAL.out _ hbe).mono ?_); rintro e u9 ⟨rfl, hu9⟩))
    go_ret
    exact ⟨rfl, bel3 hbe hu9⟩
  by_cases hB : y1 = 0
  case neg =>
    refine wp_region_any hmx ?_
    refine wpAny_pure (fun i__ => ([(.int .i64 y0), (.bool false), (.bool false), (.int .i64 y1), (.bool true), (.bool true), (.bool true), undef, undef, undef, undef, undef, (.bool true), (.bool true), undef, undef, undef, undef, (.bool true)] : List Value).getD i__ undef) (fun V => JN8 w w.heap.size u2.heap.size u4.heap.size (kd : Int) f2 rd N (.slice ad2 l2.length cap2) (.slice ad n cap) (.map mb) (.slice ad' n' cap') (.map mb') V ∧ Below V4.heap.size V4 V) (by kernel_rfl) (⟨HJ.out.carry (Below.refl _ _).drew, (Below.refl _ _).drew⟩) ?_ ?_
    · refine (stepsFrom_cons ?_ (stepsFrom_cons ?_ (stepsFrom_cons ?_ (stepsFrom_cons ?_ (stepsFrom_cons ?_ (stepsFrom_cons ?_ (stepsFrom_cons ?_ (stepsFrom_cons ?_ (stepsFrom_cons ?_ (stepsFrom_cons ?_ (stepsFrom_cons ?_ (stepsFrom_cons ?_ (stepsFrom_cons ?_ (stepsFrom_cons ?_ (stepsFrom_cons ?_ (stepsFrom_cons ?_ (stepsFrom_cons ?_ (stepsFrom_cons ?_ (stepsFrom_cons ?_ trivial)))))))))))))))))))
      · exact step_move rfl trivial _ rfl (by kernel_rfl)
      · exact step_binOp rfl trivial _ _ _ _ _ _ _ rfl rfl rfl (fun v hw => nq_f _ _ _ hA)
      · exact step_move rfl trivial _ rfl (by kernel_rfl)
      · exact step_move rfl (by exact ⟨_, rfl, by kernel_rfl⟩) _ rfl (by kernel_rfl)
      · exact step_binOp rfl (by exact ⟨_, rfl, by kernel_rfl⟩) _ _ _ _ _ _ _ rfl rfl rfl (fun v hw => nq_t _ _ _ hB)
      · exact step_pick rfl trivial _ _ _ false rfl (by kernel_rfl) (by kernel_rfl)
      · exact step_move rfl trivial _ rfl (by kernel_rfl)
      · exact step_skip rfl 6 false 46 (.bool true) rfl rfl (by kernel_rfl) (by intro h; cases h) rfl
      · exact step_skip rfl 6 false 46 (.bool true) rfl rfl (by kernel_rfl) (by intro h; cases h) rfl
      · exact step_skip rfl 6 false 46 (.bool true) rfl rfl (by kernel_rfl) (by intro h; cases h) rfl
      · exact step_skip rfl 6 false 46 (.bool true) rfl rfl (by kernel_rfl) (by intro h; cases h) rfl
      · exact step_skip rfl 6 false 46 (.bool true) rfl rfl (by kernel_rfl) (by intro h; cases h) rfl
      · exact step_pick rfl trivial _ _ _ true rfl (by kernel_rfl) (by kernel_rfl)
      · exact step_move rfl trivial _ rfl (by kernel_rfl)
      · exact step_skip rfl 13 false 53 (.bool true) rfl rfl (by kernel_rfl) (by intro h; cases h) rfl
      · exact step_skip rfl 13 false 53 (.bool true) rfl rfl (by kernel_rfl) (by intro h; cases h) rfl
      · exact step_skip rfl 13 false 53 (.bool true) rfl rfl (by kernel_rfl) (by intro h; cases h) rfl
      · exact step_skip rfl 13 false 53 (.bool true) rfl rfl (by kernel_rfl) (by intro h; cases h) rfl
      · exact step_pick rfl trivial _ _ _ true rfl (by kernel_rfl) (by kernel_rfl)
    intro W hW
    first | refine hK _ _ ?_ | refine (‹∀ (a : Act) (w : World), Code.wp Tryz.prog _ _ a w → _›) _ _ ?_ | skip
    simp only [finL, List.getD_cons_zero, List.getD_cons_succ, Nat.zero_add, Nat.reduceAdd, List.setIfInBounds_toArray, List.set_cons_zero, List.set_cons_succ]
    have hbe := hW.1.be
    go_wp2_with ((go_at_call 8; (with_reducible refine (hAL.out _ hbe).mono ?_); rintro e u9 ⟨rfl, hu9⟩))
    go_ret
    exact ⟨rfl, bel3 hbe hu9⟩
  by_cases hC : (L.length : Int) = (L'.length : Int)
  case neg =>
    refine wp_region_any hmx ?_
    refine wpAny_pure (fun i__ => ([(.int .i64 y0), (.bool false), (.bool false), (.int .i64 y1), (.bool false), (.bool false), (.bool false), (.agg #[.slice ad n cap, .map mb]), (.int .i64 (L.length : Int)), (.agg #[.slice ad' n' cap', .map mb']), (.int .i64 (L'.length : Int)), (.bool true), (.bool true), (.bool true), undef, undef, undef, undef, (.bool true)] : List Value).getD i__ undef) (fun V => JN8 w w.heap.size u2.heap.size u4.heap.size (kd : Int) f2 rd N (.slice ad2 l2.length cap2) (.slice ad n cap) (.map mb) (.slice ad' n' cap') (.map mb') V ∧ Below V4.heap.size V4 V) (by kernel_rfl) (⟨HJ.out.carry (Below.refl _ _).drew, (Below.refl _ _).drew⟩) ?_ ?_
    · refine (stepsFrom_cons ?_ (stepsFrom_cons ?_ (stepsFrom_cons ?_ (stepsFrom_cons ?_ (stepsFrom_cons ?_ (stepsFrom_cons ?_ (stepsFrom_cons ?_ (stepsFrom_cons ?_ (stepsFrom_cons ?_ (stepsFrom_cons ?_ (stepsFrom_cons ?_ (stepsFrom_cons ?_ (stepsFrom_cons ?_ (stepsFrom_cons ?_ (stepsFrom_cons ?_ (stepsFrom_cons ?_ (stepsFrom_cons ?_ (stepsFrom_cons ?_ (stepsFrom_cons ?_ trivial)))))))))))))))))))
      · exact step_move rfl trivial _ rfl (by kernel_rfl)
      · exact step_binOp rfl trivial _ _ _ _ _ _ _ rfl rfl rfl (fun v hw => nq_f _ _ _ hA)
      · exact step_move rfl trivial _ rfl (by kernel_rfl)
      · exact step_move rfl (by exact ⟨_, rfl, by kernel_rfl⟩) _ rfl (by kernel_rfl)
      · exact step_binOp rfl (by exact ⟨_, rfl, by kernel_rfl⟩) _ _ _ _ _ _ _ rfl rfl rfl (fun v hw => nq_f _ _ _ hB)
      · exact step_pick rfl trivial _ _ _ false rfl (by kernel_rfl) (by kernel_rfl)
      · exact step_move rfl trivial _ rfl (by kernel_rfl)
      · exact step_load rfl (by exact ⟨_, rfl, by kernel_rfl⟩) _ _ _ rfl rfl (fun v hw => load_ros3 hw.1.bx)
      · exact step_call rfl (by exact ⟨_, rfl, by kernel_rfl⟩) 15 _ _ [(.agg #[.slice ad n cap, .map mb])] rfl (by kernel_rfl) (enters_of Tryz.func15 (by kernel_rfl) rfl) (fun V hw => (HZ1.out V hw.2).mono (by rintro e w' ⟨rfl, h⟩; exact ⟨rfl, hw.1.carry h, bel3 hw.2 h⟩))
      · exact step_load rfl (by exact ⟨_, rfl, by kernel_rfl⟩) _ _ _ rfl rfl (fun v hw => load_ros3 hw.1.bz)
      · exact step_call rfl (by exact ⟨_, rfl, by kernel_rfl⟩) 15 _ _ [(.agg #[.slice ad' n' cap', .map mb'])] rfl (by kernel_rfl) (enters_of Tryz.func15 (by kernel_rfl) rfl) (fun V hw => (HZ2.out V hw.2).mono (by rintro e w' ⟨rfl, h⟩; exact ⟨rfl, hw.1.carry h, bel3 hw.2 h⟩))
      · exact step_binOp rfl (by exact ⟨_, rfl, by kernel_rfl⟩) _ _ _ _ _ _ _ rfl rfl rfl (fun v hw => nq_t _ _ _ hC)
      · exact step_pick rfl trivial _ _ _ false rfl (by kernel_rfl) (by kernel_rfl)
      · exact step_move rfl trivial _ rfl (by kernel_rfl)
      · exact step_skip rfl 13 false 53 (.bool true) rfl rfl (by kernel_rfl) (by intro h; cases h) rfl
      · exact step_skip rfl 13 false 53 (.bool true) rfl rfl (by kernel_rfl) (by intro h; cases h) rfl
      · exact step_skip rfl 13 false 53 (.bool true) rfl rfl (by kernel_rfl) (by intro h; cases h) rfl
      · exact step_skip rfl 13 false 53 (.bool true) rfl rfl (by kernel_rfl) (by intro h; cases h) rfl
      · exact step_pick rfl trivial _ _ _ true rfl (by kernel_rfl) (by kernel_rfl)
    intro W hW
    first | refine hK _ _ ?_ | refine (‹∀ (a : Act) (w : World), Code.wp Tryz.prog _ _ a w → _›) _ _ ?_ | skip
    simp only [finL, List.getD_cons_zero, List.getD_cons_succ, Nat.zero_add, Nat.reduceAdd, List.setIfInBounds_toArray, List.set_cons_zero, List.set_cons_succ]
    have hbe := hW.1.be
    go_wp2_with ((go_at_call 8; (with_reducible refine (hAL.out _ hbe).mono ?_); rintro e u9 ⟨rfl, hu9⟩))
    go_ret
    exact ⟨rfl, bel3 hbe hu9⟩
  by_cases hD : (300 : Int) < (l2.length : Int)
  case pos =>
    refine wp_region_any hmx ?_
    refine wpAny_pure (fun i__ => ([(.int .i64 y0), (.bool false), (.bool false), (.int .i64 y1), (.bool false), (.bool false), (.bool false), (.agg #[.slice ad n cap, .map mb]), (.int .i64 (L.length : Int)), (.agg #[.slice ad' n' cap', .map mb']), (.int .i64 (L'.length : Int)), (.bool false), (.bool false), (.bool false), (.pointer (some ⟨w.heap.size, 7, none⟩)), (.slice ad2 l2.length cap2), (.int .i64 (l2.length : Int)), (.bool true), (.bool true)] : List Value).getD i__ undef) (fun V => JN8 w w.heap.size u2.heap.size u4.heap.size (kd : Int) f2 rd N (.slice ad2 l2.length cap2) (.slice ad n cap) (.map mb) (.slice ad' n' cap') (.map mb') V ∧ Below V4.heap.size V4 V) (by kernel_rfl) (⟨HJ.out.carry (Below.refl _ _).drew, (Below.refl _ _).drew⟩) ?_ ?_
    · refine (stepsFrom_cons ?_ (stepsFrom_cons ?_ (stepsFrom_cons ?_ (stepsFrom_cons ?_ (stepsFrom_cons ?_ (stepsFrom_cons ?_ (stepsFrom_cons ?_ (stepsFrom_cons ?_ (stepsFrom_cons ?_ (stepsFrom_cons ?_ (stepsFrom_cons ?_ (stepsFrom_cons ?_ (stepsFrom_cons ?_ (stepsFrom_cons ?_ (stepsFrom_cons ?_ (stepsFrom_cons ?_ (stepsFrom_cons ?_ (stepsFrom_cons ?_ (stepsFrom_cons ?_ trivial)))))))))))))))))))
      · exact step_move rfl trivial _ rfl (by kernel_rfl)
      · exact step_binOp rfl trivial _ _ _ _ _ _ _ rfl rfl rfl (fun v hw => nq_f _ _ _ hA)
      · exact step_move rfl trivial _ rfl (by kernel_rfl)
      · exact step_move rfl (by exact ⟨_, rfl, by kernel_rfl⟩) _ rfl (by kernel_rfl)
      · exact step_binOp rfl (by exact ⟨_, rfl, by kernel_rfl⟩) _ _ _ _ _ _ _ rfl rfl rfl (fun v hw => nq_f _ _ _ hB)
      · exact step_pick rfl trivial _ _ _ false rfl (by kernel_rfl) (by kernel_rfl)
      · exact step_move rfl trivial _ rfl (by kernel_rfl)
      · exact step_load rfl (by exact ⟨_, rfl, by kernel_rfl⟩) _ _ _ rfl rfl (fun v hw => load_ros3 hw.1.bx)
      · exact step_call rfl (by exact ⟨_, rfl, by kernel_rfl⟩) 15 _ _ [(.agg #[.slice ad n cap, .map mb])] rfl (by kernel_rfl) (enters_of Tryz.func15 (by kernel_rfl) rfl) (fun V hw => (HZ1.out V hw.2).mono (by rintro e w' ⟨rfl, h⟩; exact ⟨rfl, hw.1.carry h, bel3 hw.2 h⟩))
      · exact step_load rfl (by exact ⟨_, rfl, by kernel_rfl⟩) _ _ _ rfl rfl (fun v hw => load_ros3 hw.1.bz)
      · exact step_call rfl (by exact ⟨_, rfl, by kernel_rfl⟩) 15 _ _ [(.agg #[.slice ad' n' cap', .map mb'])] rfl (by kernel_rfl) (enters_of Tryz.func15 (by kernel_rfl) rfl) (fun V hw => (HZ2.out V hw.2).mono (by rintro e w' ⟨rfl, h⟩; exact ⟨rfl, hw.1.carry h, bel3 hw.2 h⟩))
      · exact step_binOp rfl (by exact ⟨_, rfl, by kernel_rfl⟩) _ _ _ _ _ _ _ rfl rfl rfl (fun v hw => nq_f _ _ _ hC)
      · exact step_pick rfl trivial _ _ _ false rfl (by kernel_rfl) (by kernel_rfl)
      · exact step_move rfl trivial _ rfl (by kernel_rfl)
      · exact step_fieldAddr rfl (by exact ⟨_, rfl, by kernel_rfl⟩) _ _ _ _ rfl rfl (fun v hw => field_n8 v _)
      · exact step_load rfl (by exact ⟨_, rfl, by kernel_rfl⟩) _ _ _ rfl rfl (fun v hw => ld_n hw.1.bn.cells.2.2.2.2.2.2.2)
      · exact step_bi rfl (by exact ⟨_, rfl, by kernel_rfl⟩) _ _ _ [(.slice ad2 l2.length cap2)] rfl (by kernel_rfl) (fun cs v hw => bi_lenN8 _ cs _ _ _ v)
      · exact step_binOp rfl (by exact ⟨_, rfl, by kernel_rfl⟩) _ _ _ _ _ _ _ rfl rfl rfl (fun v hw => gq_t _ _ _ hD)
      · exact step_pick rfl trivial _ _ _ false rfl (by kernel_rfl) (by kernel_rfl)
    intro W hW
    first | refine hK _ _ ?_ | refine (‹∀ (a : Act) (w : World), Code.wp Tryz.prog _ _ a w → _›) _ _ ?_ | skip
    simp only [finL, List.getD_cons_zero, List.getD_cons_succ, Nat.zero_add, Nat.reduceAdd, List.setIfInBounds_toArray, List.set_cons_zero, List.set_cons_succ]
    have hbe := hW.1.be
    go_wp2_with ((go_at_call 8; (with_reducible refine (hAL.out _ hbe).mono ?_); rintro e u9 ⟨rfl, hu9⟩))
    go_ret
    exact ⟨rfl, bel3 hbe hu9⟩
  have hl : l2.length ≤ 1000 := by omega
  obtain ⟨E, hE⟩ : ∃ E, flt kd (L.length : Int) f2 rd N l2 = E := ⟨_, rfl⟩
  have hE' : flt kd (L'.length : Int) f2 rd N l2 = E := by rw [← hC]; exact hE
  obtain ⟨T1, hT1⟩ : ∃ T1, tlT L kd f2 rd N l2 = T1 := ⟨_, rfl⟩
  obtain ⟨T2, hT2⟩ : ∃ T2, tlT L' kd f2 rd N l2 = T2 := ⟨_, rfl⟩
  have hm1 := Nat.le_trans (Nat.le_trans hb2.size hu4.size) hb4.size
  have HTD1 : Hid (∀ V, JN8 w w.heap.size u2.heap.size u4.heap.size (kd : Int) f2 rd N (.slice ad2 l2.length cap2) (.slice ad n cap) (.map mb) (.slice ad' n' cap') (.map mb') V ∧ Below V4.heap.size V4 V → Calls Tryz.prog 10 #[.agg #[.slice ad n cap, .map mb], .agg #[.int .i64 (kd : Int), .int .i64 f2, .int .i64 rd, .int .u32 (wd N 0 : Nat), .int .u32 (wd N 1 : Nat), .int .u32 (wd N 2 : Nat), .int .u32 (wd N 3 : Nat), .slice ad2 l2.length cap2]] V fun e w' => e = .returned (.tuple #[.string T1, .int .i64 E]) ∧ Below V.heap.size V w') := fun V hV => (told_any (hRo2.below (hV.2.mono hm1)) (Nat.le_trans hm1 hV.2.size) (HP.out.carry hV.1.be) (HT.out.carry hV.1.be) kd hk f2 rd hr0 hr1 N hN hk3 hk2 ad2 cap2 l2 (HR1.out.carry hV.1.be) hl).mono (fun _ _ q => q.form hT1 hE)
  have HTD2 : Hid (∀ V, JN8 w w.heap.size u2.heap.size u4.heap.size (kd : Int) f2 rd N (.slice ad2 l2.length cap2) (.slice ad n cap) (.map mb) (.slice ad' n' cap') (.map mb') V ∧ Below V4.heap.size V4 V → Calls Tryz.prog 10 #[.agg #[.slice ad' n' cap', .map mb'], .agg #[.int .i64 (kd : Int), .int .i64 f2, .int .i64 rd, .int .u32 (wd N 0 : Nat), .int .u32 (wd N 1 : Nat), .int .u32 (wd N 2 : Nat), .int .u32 (wd N 3 : Nat), .slice ad2 l2.length cap2]] V fun e w' => e = .returned (.tuple #[.string T2, .int .i64 E]) ∧ Below V.heap.size V w') := fun V hV => (told_any (hRo4.below (hV.2.mono hb4.size)) (Nat.le_trans hb4.size hV.2.size) (HP.out.carry hV.1.be) (HT.out.carry hV.1.be) kd hk f2 rd hr0 hr1 N hN hk3 hk2 ad2 cap2 l2 (HR1.out.carry hV.1.be) hl).mono (fun _ _ q => q.form hT2 hE')
  have hCn : L.length = L'.length := by omega
  have HS : Hid (E = 0 → ∃ (K1 K2 : List Tk4), K1 ≠ [] ∧ K1.length ≤ 5000 ∧ K1.map kc = K2.map kc ∧ (∀ V, Calls Tryz.prog 16 #[.string T1] V fun e w' => ∃ ad cap, e = .returned (.tuple #[.slice ad K1.length cap, .int .i64 0, .int .i64 0, .int .i64 0]) ∧ RdK w' ad K1 ∧ Below V.heap.size V w') ∧ (∀ V, Calls Tryz.prog 16 #[.string T2] V fun e w' => ∃ ad cap, e = .returned (.tuple #[.slice ad K2.length cap, .int .i64 0, .int .i64 0, .int .i64 0]) ∧ RdK w' ad K2 ∧ Below V.heap.size V w')) := fun hE0 => ⟨_, _, wds_ne _, wds_le _ _ _ _ _ _ hl, wds_sh (sh_note hCn kd f2 rd.toNat N l2), fun V => by rw [← hT1]; exact scan_note hRo2.1 hk3 hl (hE.trans hE0) V, fun V => by rw [← hT2]; exact scan_note hRo4.1 hk3 hl (hE'.trans hE0) V⟩
  refine wp_region_any hmx ?_
  refine wpAny_pure (fun i__ => ([(.int .i64 y0), (.bool false), (.bool false), (.int .i64 y1), (.bool false), (.bool false), (.bool false), (.agg #[.slice ad n cap, .map mb]), (.int .i64 (L.length : Int)), (.agg #[.slice ad' n' cap', .map mb']), (.int .i64 (L'.length : Int)), (.bool false), (.bool false), (.bool false), (.pointer (some ⟨w.heap.size, 7, none⟩)), (.slice ad2 l2.length cap2), (.int .i64 (l2.length : Int)), (.bool false), (.bool false)] : List Value).getD i__ undef) (fun V => JN8 w w.heap.size u2.heap.size u4.heap.size (kd : Int) f2 rd N (.slice ad2 l2.length cap2) (.slice ad n cap) (.map mb) (.slice ad' n' cap') (.map mb') V ∧ Below V4.heap.size V4 V) (by kernel_rfl) (⟨HJ.out.carry (Below.refl _ _).drew, (Below.refl _ _).drew⟩) ?_ ?_
  · refine (stepsFrom_cons ?_ (stepsFrom_cons ?_ (stepsFrom_cons ?_ (stepsFrom_cons ?_ (stepsFrom_cons ?_ (stepsFrom_cons ?_ (stepsFrom_cons ?_ (stepsFrom_cons ?_ (stepsFrom_cons ?_ (stepsFrom_cons ?_ (stepsFrom_cons ?_ (stepsFrom_cons ?_ (stepsFrom_cons ?_ (stepsFrom_cons ?_ (stepsFrom_cons ?_ (stepsFrom_cons ?_ (stepsFrom_cons ?_ (stepsFrom_cons ?_ (stepsFrom_cons ?_ trivial)))))))))))))))))))
    · exact step_move rfl trivial _ rfl (by kernel_rfl)
    · exact step_binOp rfl trivial _ _ _ _ _ _ _ rfl rfl rfl (fun v hw => nq_f _ _ _ hA)
    · exact step_move rfl trivial _ rfl (by kernel_rfl)
    · exact step_move rfl (by exact ⟨_, rfl, by kernel_rfl⟩) _ rfl (by kernel_rfl)
    · exact step_binOp rfl (by exact ⟨_, rfl, by kernel_rfl⟩) _ _ _ _ _ _ _ rfl rfl rfl (fun v hw => nq_f _ _ _ hB)
    · exact step_pick rfl trivial _ _ _ false rfl (by kernel_rfl) (by kernel_rfl)
    · exact step_move rfl trivial _ rfl (by kernel_rfl)
    · exact step_load rfl (by exact ⟨_, rfl, by kernel_rfl⟩) _ _ _ rfl rfl (fun v hw => load_ros3 hw.1.bx)
    · exact step_call rfl (by exact ⟨_, rfl, by kernel_rfl⟩) 15 _ _ [(.agg #[.slice ad n cap, .map mb])] rfl (by kernel_rfl) (enters_of Tryz.func15 (by kernel_rfl) rfl) (fun V hw => (HZ1.out V hw.2).mono (by rintro e w' ⟨rfl, h⟩; exact ⟨rfl, hw.1.carry h, bel3 hw.2 h⟩))
    · exact step_load rfl (by exact ⟨_, rfl, by kernel_rfl⟩) _ _ _ rfl rfl (fun v hw => load_ros3 hw.1.bz)
    · exact step_call rfl (by exact ⟨_, rfl, by kernel_rfl⟩) 15 _ _ [(.agg #[.slice ad' n' cap', .map mb'])] rfl (by kernel_rfl) (enters_of Tryz.func15 (by kernel_rfl) rfl) (fun V hw => (HZ2.out V hw.2).mono (by rintro e w' ⟨rfl, h⟩; exact ⟨rfl, hw.1.carry h, bel3 hw.2 h⟩))
    · exact step_binOp rfl (by exact ⟨_, rfl, by kernel_rfl⟩) _ _ _ _ _ _ _ rfl rfl rfl (fun v hw => nq_f _ _ _ hC)
    · exact step_pick rfl trivial _ _ _ false rfl (by kernel_rfl) (by kernel_rfl)
    · exact step_move rfl trivial _ rfl (by kernel_rfl)
    · exact step_fieldAddr rfl (by exact ⟨_, rfl, by kernel_rfl⟩) _ _ _ _ rfl rfl (fun v hw => field_n8 v _)
    · exact step_load rfl (by exact ⟨_, rfl, by kernel_rfl⟩) _ _ _ rfl rfl (fun v hw => ld_n hw.1.bn.cells.2.2.2.2.2.2.2)
    · exact step_bi rfl (by exact ⟨_, rfl, by kernel_rfl⟩) _ _ _ [(.slice ad2 l2.length cap2)] rfl (by kernel_rfl) (fun cs v hw => bi_lenN8 _ cs _ _ _ v)
    · exact step_binOp rfl (by exact ⟨_, rfl, by kernel_rfl⟩) _ _ _ _ _ _ _ rfl rfl rfl (fun v hw => gq_f _ _ _ hD)
    · exact step_pick rfl trivial _ _ _ false rfl (by kernel_rfl) (by kernel_rfl)
  intro W hW
  first | refine hK _ _ ?_ | refine (‹∀ (a : Act) (w : World), Code.wp Tryz.prog _ _ a w → _›) _ _ ?_ | skip
  simp only [finL, List.getD_cons_zero, List.getD_cons_succ, Nat.zero_add, Nat.reduceAdd, List.setIfInBounds_toArray, List.set_cons_zero, List.set_cons_succ]
  obtain ⟨hW1, hW2⟩ := hW
  have hbe := hW1.be
  clear hK HZ1 HZ2 hE hE' hT1 hT2
  (have b0 : W.cell? ⟨u2.heap.size, 0, none⟩ = some (.slice ad n cap) := (cell_at hW1.bx 0).trans rfl); (have b1 : W.cell? ⟨u2.heap.size, 1, none⟩ = some (.map mb) := (cell_at hW1.bx 1).trans rfl); (have c0 : W.cell? ⟨u4.heap.size, 0, none⟩ = some (.slice ad' n' cap') := (cell_at hW1.bz 0).trans rfl); (have c1 : W.cell? ⟨u4.heap.size, 1, none⟩ = some (.map mb') := (cell_at hW1.bz 1).trans rfl); obtain ⟨p0, p1, p2, p3, p4, p5, p6, p7⟩ := hW1.bn.cells
  by_cases hE0 : E = 0
  case neg =>
    have hE1 : (E == 0) = false := by simpa using hE0
    go_wp2_with (first | (go_at_call 8; (with_reducible refine (hAL.out _ hbe).mono ?_); rintro e u9 ⟨rfl, hu9⟩) | (go_at_call 10; (with_reducible refine (HTD2.out _ ⟨hJ5, hJ6⟩).mono ?_); rintro e u6 ⟨rfl, hu6⟩; (have hbe := bel3 hJ5.be hu6)) | (go_at_call 10; (with_reducible refine (HTD1.out _ ⟨hW1, hW2⟩).mono ?_); rintro e u5 ⟨rfl, hu5⟩; (have hJ5 := hW1.carry hu5); (have hJ6 := bel3 hW2 hu5); (have b0' : u5.cell? ⟨u2.heap.size, 0, none⟩ = some (.slice ad n cap) := (cell_at hJ5.bx 0).trans rfl); (have b1' : u5.cell? ⟨u2.heap.size, 1, none⟩ = some (.map mb) := (cell_at hJ5.bx 1).trans rfl); (have c0' : u5.cell? ⟨u4.heap.size, 0, none⟩ = some (.slice ad' n' cap') := (cell_at hJ5.bz 0).trans rfl); (have c1' : u5.cell? ⟨u4.heap.size, 1, none⟩ = some (.map mb') := (cell_at hJ5.bz 1).trans rfl); obtain ⟨p0', p1', p2', p3', p4', p5', p6', p7'⟩ := hJ5.bn.cells))
    go_ret
    exact ⟨rfl, bel3 hbe hu9⟩
  obtain ⟨K1, K2, hne, hk5, hkk, hs1, hs2⟩ := HS.out hE0
  subst hE0
  have hln : K2.length = K1.length := by
    have := congrArg List.length hkk
    rw [List.length_map, List.length_map] at this
    exact this.symm
  rw [hln] at hs2
  have hpos : 0 < K1.length := List.length_pos_iff.2 hne
  have hne2 : K2 ≠ [] := fun e => by rw [e] at hln; simp at hln; omega
  obtain ⟨m, hm⟩ : ∃ m, K1.length = m := ⟨_, rfl⟩
  rw [hm] at hs1 hs2 hpos hk5
  have HS1 : Hid (∀ V, Calls Tryz.prog 16 #[.string T1] V fun e w' => ∃ ad cap, e = .returned (.tuple #[.slice ad m cap, .int .i64 0, .int .i64 0, .int .i64 0]) ∧ RdK w' ad K1 ∧ Below V.heap.size V w') := hs1
  have HS2 : Hid (∀ V, Calls Tryz.prog 16 #[.string T2] V fun e w' => ∃ ad cap, e = .returned (.tuple #[.slice ad m cap, .int .i64 0, .int .i64 0, .int .i64 0]) ∧ RdK w' ad K2 ∧ Below V.heap.size V w') := hs2
  clear hs1 hs2
  go_wp2_with (first | (go_at_call 16; (with_reducible refine (HS2.out u7).mono ?_); rintro e u8 ⟨ad8, cap8, rfl, hk8, hu8⟩) | (go_at_call 16; (with_reducible refine (HS1.out u6).mono ?_); rintro e u7 ⟨ad7, cap7, rfl, hk7, hu7⟩) | (go_at_call 10; (with_reducible refine (HTD2.out _ ⟨hJ5, hJ6⟩).mono ?_); rintro e u6 ⟨rfl, hu6⟩; (have hbe := bel3 hJ5.be hu6)) | (go_at_call 10; (with_reducible refine (HTD1.out _ ⟨hW1, hW2⟩).mono ?_); rintro e u5 ⟨rfl, hu5⟩; (have hJ5 := hW1.carry hu5); (have hJ6 := bel3 hW2 hu5); (have b0' : u5.cell? ⟨u2.heap.size, 0, none⟩ = some (.slice ad n cap) := (cell_at hJ5.bx 0).trans rfl); (have b1' : u5.cell? ⟨u2.heap.size, 1, none⟩ = some (.map mb) := (cell_at hJ5.bx 1).trans rfl); (have c0' : u5.cell? ⟨u4.heap.size, 0, none⟩ = some (.slice ad' n' cap') := (cell_at hJ5.bz 0).trans rfl); (have c1' : u5.cell? ⟨u4.heap.size, 1, none⟩ = some (.map mb') := (cell_at hJ5.bz 1).trans rfl); obtain ⟨p0', p1', p2', p3', p4', p5', p6', p7'⟩ := hJ5.bn.cells))
  obtain ⟨g7, o7, rfl, hg7, hc7⟩ := (hk7.carry hu8) hne
  obtain ⟨g8, o8, rfl, hg8, hc8⟩ := hk8 hne2
  have hbe8 := bel3 (bel3 hbe hu7) hu8
  go_loopw [25] (fun i wz => ∃ (k : Nat), i = .int .i64 k ∧ k ≤ m ∧ Below u8.heap.size u8 wz) (fun i _ => m - vnatR i)
  case atStart => exact ⟨0, rfl, Nat.zero_le _, Below.refl _ _⟩
  case round =>
    obtain ⟨k, rfl, hkm, hB8⟩ := hrel
    by_cases hlt : k < m
    · have hi : (k : Int) < (m : Int) := by omega
      obtain ⟨x, hx⟩ : ∃ x, K1[k]? = some x := ⟨_, List.getElem?_eq_getElem (by omega)⟩
      obtain ⟨y, hy⟩ : ∃ y, K2[k]? = some y := ⟨_, List.getElem?_eq_getElem (by omega)⟩
      obtain ⟨e1, e3⟩ := kc_at hkk hx hy
      have q0 : ∀ V, Below u8.heap.size u8 V → V.cell? ⟨g7, o7 + k * 4, none⟩ = some (.int .i64 x.1) := fun V hV => (hV.cell (p := ⟨g7, o7 + k * 4, none⟩) hg7).trans (hc7 k x hx 0 _ rfl)
      have q3 : ∀ V, Below u8.heap.size u8 V → V.cell? ⟨g7, o7 + k * 4 + 3, none⟩ = some (.int .i64 x.2.2.2) := fun V hV => (hV.cell (p := ⟨g7, o7 + k * 4 + 3, none⟩) hg7).trans (hc7 k x hx 3 _ rfl)
      have t0 : ∀ V, Below u8.heap.size u8 V → V.cell? ⟨g8, o8 + k * 4, none⟩ = some (.int .i64 x.1) := fun V hV => by rw [e1]; exact (hV.cell (p := ⟨g8, o8 + k * 4, none⟩) hg8).trans (hc8 k y hy 0 _ rfl)
      have t3 : ∀ V, Below u8.heap.size u8 V → V.cell? ⟨g8, o8 + k * 4 + 3, none⟩ = some (.int .i64 x.2.2.2) := fun V hV => by rw [e3]; exact (hV.cell (p := ⟨g8, o8 + k * 4 + 3, none⟩) hg8).trans (hc8 k y hy 3 _ rfl)
      clear hc7 hc8 hkk hx hy e1 e3
      go_wp2
      rename_i hK
      refine wp_region_any hmx ?_
      refine wpAny_pure (fun i__ => ([(.slice (some ⟨g7, o7, none⟩) m cap7), (.int .i64 (k : Int)), (.pointer (some ⟨g7, o7 + k * 4, none⟩)), (.pointer (some ⟨g7, o7 + k * 4, none⟩)), (.int .i64 x.1), (.slice (some ⟨g8, o8, none⟩) m cap8), (.int .i64 (k : Int)), (.pointer (some ⟨g8, o8 + k * 4, none⟩)), (.pointer (some ⟨g8, o8 + k * 4, none⟩)), (.int .i64 x.1), (.bool false), (.bool false), (.slice (some ⟨g7, o7, none⟩) m cap7), (.int .i64 (k : Int)), (.pointer (some ⟨g7, o7 + k * 4, none⟩)), (.pointer (some ⟨g7, o7 + k * 4 + 3, none⟩)), (.int .i64 x.2.2.2), (.slice (some ⟨g8, o8, none⟩) m cap8), (.int .i64 (k : Int)), (.pointer (some ⟨g8, o8 + k * 4, none⟩)), (.pointer (some ⟨g8, o8 + k * 4 + 3, none⟩)), (.int .i64 x.2.2.2), (.bool false), (.bool false)] : List Value).getD i__ undef) (fun V => Below u8.heap.size u8 V) (by kernel_rfl) (hB8.drew) ?_ ?_
      · refine (stepsFrom_cons ?_ (stepsFrom_cons ?_ (stepsFrom_cons ?_ (stepsFrom_cons ?_ (stepsFrom_cons ?_ (stepsFrom_cons ?_ (stepsFrom_cons ?_ (stepsFrom_cons ?_ (stepsFrom_cons ?_ (stepsFrom_cons ?_ (stepsFrom_cons ?_ (stepsFrom_cons ?_ (stepsFrom_cons ?_ (stepsFrom_cons ?_ (stepsFrom_cons ?_ (stepsFrom_cons ?_ (stepsFrom_cons ?_ (stepsFrom_cons ?_ (stepsFrom_cons ?_ (stepsFrom_cons ?_ (stepsFrom_cons ?_ (stepsFrom_cons ?_ (stepsFrom_cons ?_ (stepsFrom_cons ?_ trivial))))))))))))))))))))))))
        · exact step_move rfl trivial _ rfl (by kernel_rfl)
        · exact step_move rfl trivial _ rfl (by kernel_rfl)
        · exact step_indexAddr rfl trivial _ _ _ _ _ rfl rfl rfl (fun v hw => idx_tk _ _ _ _ _ hlt v)
        · exact step_fieldAddr rfl trivial _ _ _ _ rfl rfl (fun v hw => field_t0 v _ _)
        · exact step_load rfl trivial _ _ _ rfl rfl (fun v hw => ld_i (q0 v hw))
        · exact step_move rfl trivial _ rfl (by kernel_rfl)
        · exact step_move rfl trivial _ rfl (by kernel_rfl)
        · exact step_indexAddr rfl trivial _ _ _ _ _ rfl rfl rfl (fun v hw => idx_tk _ _ _ _ _ hlt v)
        · exact step_fieldAddr rfl trivial _ _ _ _ rfl rfl (fun v hw => field_t0 v _ _)
        · exact step_load rfl trivial _ _ _ rfl rfl (fun v hw => ld_i (t0 v hw))
        · exact step_binOp rfl trivial _ _ _ _ _ _ _ rfl rfl rfl (fun v hw => nq_f _ _ _ rfl)
        · exact step_move rfl trivial _ rfl (by kernel_rfl)
        · exact step_move rfl (by exact ⟨_, rfl, by kernel_rfl⟩) _ rfl (by kernel_rfl)
        · exact step_move rfl (by exact ⟨_, rfl, by kernel_rfl⟩) _ rfl (by kernel_rfl)
        · exact step_indexAddr rfl (by exact ⟨_, rfl, by kernel_rfl⟩) _ _ _ _ _ rfl rfl rfl (fun v hw => idx_tk _ _ _ _ _ hlt v)
        · exact step_fieldAddr rfl (by exact ⟨_, rfl, by kernel_rfl⟩) _ _ _ _ rfl rfl (fun v hw => field_t3 v _ _)
        · exact step_load rfl (by exact ⟨_, rfl, by kernel_rfl⟩) _ _ _ rfl rfl (fun v hw => ld_i (q3 v hw))
        · exact step_move rfl (by exact ⟨_, rfl, by kernel_rfl⟩) _ rfl (by kernel_rfl)
        · exact step_move rfl (by exact ⟨_, rfl, by kernel_rfl⟩) _ rfl (by kernel_rfl)
        · exact step_indexAddr rfl (by exact ⟨_, rfl, by kernel_rfl⟩) _ _ _ _ _ rfl rfl rfl (fun v hw => idx_tk _ _ _ _ _ hlt v)
        · exact step_fieldAddr rfl (by exact ⟨_, rfl, by kernel_rfl⟩) _ _ _ _ rfl rfl (fun v hw => field_t3 v _ _)
        · exact step_load rfl (by exact ⟨_, rfl, by kernel_rfl⟩) _ _ _ rfl rfl (fun v hw => ld_i (t3 v hw))
        · exact step_binOp rfl (by exact ⟨_, rfl, by kernel_rfl⟩) _ _ _ _ _ _ _ rfl rfl rfl (fun v hw => nq_f _ _ _ rfl)
        · exact step_pick rfl trivial _ _ _ false rfl (by kernel_rfl) (by kernel_rfl)
      intro W hW
      first | refine hK _ _ ?_ | refine (‹∀ (a : Act) (w : World), Code.wp Tryz.prog _ _ a w → _›) _ _ ?_ | skip
      simp only [finL, List.getD_cons_zero, List.getD_cons_succ, Nat.zero_add, Nat.reduceAdd, List.setIfInBounds_toArray, List.set_cons_zero, List.set_cons_succ]
      have hB9 : Below u8.heap.size u8 W := hW
      clear hW hK q0 q3 t0 t3
      go_wp2
      go_roundw
      case rel => exact ⟨k + 1, by simp, by omega, hB9⟩
      case measure => simp [vnatR]; omega
    · have hmm : k = m := by omega
      subst hmm
      have hbe := bel3 hbe8 hB8
      go_wp2_with ((go_at_call 8; (with_reducible refine (hAL.out _ hbe).mono ?_); rintro e u9 ⟨rfl, hu9⟩))
      go_ret
      exact ⟨rfl, bel3 hbe hu9⟩

set_option maxRecDepth 100000 in
theorem lifted (os : Os) (started : os.Started) (H : Type) (enc : TypeId × Value → H) :
    ReturnsInHanded {} Tryz.checked os 5 .any (fun w args => (Rows.tellNamedSpec.pre enc Tryz.prog Tryz.f5 [] false w args ∧ laidMetH Tryz.prog Rows.tellNamedRow.laid w) ∧ sizedMet enc Tryz.prog Tryz.f5 (OpenSpec.ofChange Rows.tellNamedSpec) false w args)
      (Rows.tellNamedSpec.post enc Tryz.prog Tryz.f5 false true false false) := by
  refine returnsInHanded_of_change_and (C := Tryz.checked) (X := fun w _ => laidMetH Tryz.prog Rows.tellNamedRow.laid w) (fun _ _ _ hh h => h.of_heap hh) own started (by kernel_rfl) Tryz.func5
    (ChangeSpec.witness_shaped (enc := enc) (C := Tryz.checked) (os := os) (X := fun w _ => laidMetH Tryz.prog Rows.tellNamedRow.laid w) false (World.laidAll Tryz.prog os Rows.tellNamedRow.laid) #[.string ByteArray.empty, .string ByteArray.empty, .agg #[.int .i64 0, .int .i64 0, .int .i64 0, .int .u32 0, .int .u32 0, .int .u32 0, .int .u32 0, .slice none 0 0]] 8 (World.laidAll_os _ _ _)
      (World.shaped_of_ZipB (by kernel_rfl) (by kernel_rfl)) (by kernel_rfl) (by kernel_rfl) (by kernel_rfl)
      (by rw [MakeChecks.laidMetH_plain _ _ _ (by kernel_rfl)]; exact laidMet_laidAll _ (by kernel_rfl) (by kernel_rfl))) ?_
  intro W base args ds gs before hval0 hW _ hsz hL _
  have hval : ∀ (j : Nat) t v, Tryz.f5.params[j]? = some t → args[j]? = some v → Value.okWide Tryz.prog W .any base t v := hval0
  have hW' := hW
  obtain ⟨p, q, hA0, hV, rfl, hfz, hnd⟩ := hW
  have hA : DataW.TrodAll enc Tryz.prog W 0 (fun _ => true) true Tryz.f5.params.toList args.toList ds p := hA0
  rw [Tryz.params5] at hA hval
  obtain ⟨v0, vs0, d0, ds0, p0, q0, hargs, rfl, rfl, h0, r0⟩ := trodAll_cons hA
  obtain ⟨v1, vs1, d1, ds1, p1, q1, rfl, rfl, rfl, h1, r1⟩ := trodAll_cons r0
  obtain ⟨v2, vs2, d2, ds2, p2, q2, rfl, rfl, rfl, h2, r2⟩ := trodAll_cons r1
  obtain ⟨rfl, rfl, rfl⟩ := trodAll_nil r2
  obtain rfl : args = #[v0, v1, v2] := by cases args; simp_all
  obtain ⟨rfl, rfl⟩ := trodVars_none hV
  obtain ⟨s0, rfl, rfl, rfl, w0⟩ := open_string Tryz.underlying9 (hval 0 9 v0 rfl rfl) h0
  obtain ⟨s1, rfl, rfl, rfl, w1⟩ := open_string Tryz.underlying9 (hval 1 9 v1 rfl rfl) h1
  have kk2 := h2
  have lt2 : ∀ x ∈ p2, x.block < W.heap.size := by obtain ⟨m, hm⟩ := kk2; exact DataW.trod_lt m _ _ _ hm
  obtain ⟨k2, f2, g2, N2, ad2, cap2, l2, rfl, hN2, wk2, wf2, wr2, w2, hc2, hq2⟩ := open_note (hval 2 27 v2 rfl rfl) h2
  clear hA0 hval0
  refine (walk W s0 w0 s1 w1 k2 f2 g2 N2 ad2 cap2 l2 hN2 wk2 wf2 wr2 w2 hc2 hq2 hL).mono fun e W' ⟨he, hg⟩ => ?_
  subst he
  exact ⟨_, rfl, _, _, _, [], _, [], hW', (trodAll_cons_mk (shut_bool Tryz.underlying4 _) trodAll_mk0), (trodAll_cons_mk (shut_string Tryz.underlying9 w0) (trodAll_cons_mk (shut_string Tryz.underlying9 w1) (trodAll_cons_mk (Below.trod laidOut (by kernel_rfl) (of_decide_eq_true (by kernel_rfl)) kk2 hg lt2) trodAll_mk0))), rfl, hg.frame _, fun h => by cases h⟩

theorem over : Rows.tellNamedRow.holds Tryz.pinned (OpenSpec.ofChange Rows.tellNamedSpec) :=
  OpenClaim.holds_of_wide 5 Tryz.f5 rfl rfl rfl rfl rfl rfl rfl ⟨rfl, rfl, rfl, rfl, rfl⟩ rfl rfl rfl rfl rfl (by kernel_rfl) Tryz.func5 (by kernel_rfl)
    (of_decide_eq_true (by kernel_rfl)) (by unfold Func.isWrapper; first | (rw [if_pos (by decide +kernel)]; kernel_rfl) | (rw [if_neg (by decide +kernel)]; exact ⟨rfl, rfl⟩))
    (fun os started H enc _ => lifted os started H enc)

theorem row_proved : Rows.TellNamedSaid :=
  over
theorem proved : Rows.TellNamedCardSaid :=
  Claim7.holds_tied_plain_at .later [] [.data, .data, .data, .data, .pinned] true (true, "28135959c56a8d2661618a5af8ea8c023547703134b84e54f72eda428b255e1e") true
    row_proved (fun _ h => by cases h) (by kernel_rfl) (fun _ h => by cases h) tellNamed_row_tie rfl ⟨rfl, rfl⟩ (by kernel_rfl) rfl
    (fun f fn hf hfn => by
      obtain rfl : f = 5 := Option.some.inj ((show Tryz.prog.funcNamed "earshot/earshotlaw8.TellNamed" = some 5 by kernel_rfl).symm.trans hf) |>.symm
      obtain rfl : fn = Tryz.f5 := (Option.some.inj (Tryz.func5.symm.trans hfn)).symm
      exact ⟨by kernel_rfl, fun j t ht => by
        rw [Tryz.params5] at ht
        rcases j with _ | j
        · have e : t = 9 := by simpa using ht.symm
          subst e
          exact (show Tryz.prog.wantsStandIn 9 = false by kernel_rfl)
        rcases j with _ | j
        · have e : t = 9 := by simpa using ht.symm
          subst e
          exact (show Tryz.prog.wantsStandIn 9 = false by kernel_rfl)
        rcases j with _ | j
        · have e : t = 27 := by simpa using ht.symm
          subst e
          exact (show Tryz.prog.wantsStandIn 27 = false by kernel_rfl)
        simp at ht⟩)
    (by kernel_rfl)
#print axioms proved
end Go.Proofs.YtnkpohkodkjkfaaGreatDoor
