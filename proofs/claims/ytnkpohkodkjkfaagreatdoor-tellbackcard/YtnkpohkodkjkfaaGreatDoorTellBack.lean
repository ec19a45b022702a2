/- TellBack: at every text of signs and every note: the text that is told of a note is read as that note; no condition but the tie of the card. -/
import Derived.Test.YtnkpohkodkjkfaaGreatDoorRows
import Derived.WalkKit
import Derived.ProofKit
import Derived.OpenShut
import Derived.ChangeMaps5
import Derived.Stop.Joined
import Derived.Lay
import Derived.SevenTiedAt
import Derived.SizedLaws
import Derived.LaidMore
import Derived.Test.YtnkpohkodkjkfaaGreatDoorTie
import Derived.Test.YtnkpohkodkjkfaaGreatDoorCards
import Derived.Test.YtnkpohkodkjkfaaGreatDoorJoJ42
import Derived.Test.YtnkpohkodkjkfaaGreatDoorJoJ43
namespace Go.Proofs.YtnkpohkodkjkfaaGreatDoor
open Go.ChangeShapes Go.WideShapes Go.ChangeAt Go.RowKit Go.ChangeMaps
set_option linter.unusedVariables false

theorem laidOut : laidOutB Tryz.prog = true := by kernel_rfl
theorem own : ownKnob Tryz.prog.godebug = none := by kernel_rfl
open Go.Shelf Go.Lib
set_option maxHeartbeats 16000000 in
set_option maxRecDepth 100000 in
theorem walk (w : World) (s0 : ByteArray) (w0 : s0.size ≤ maxLen) (k1 f1 g1 : Int) (N1 : Nat) (ad1 : Option Addr) (cap1 : Nat) (l1 : List (Int × Int × Int)) (hN1 : N1 < S128) (wk1 : (Lit.int .i64 k1).wf = true) (wf1 : (Lit.int .i64 f1).wf = true) (wr1 : (Lit.int .i64 g1).wf = true) (w1 : RdN w ad1 l1) (hc1 : ad1 = none → cap1 = 0) (hq1 : l1.length ≤ cap1) (hL : laidMetH Tryz.prog Rows.tellBackRow.laid w) :
    Calls Tryz.prog 3 #[.string s0, rnv k1 f1 g1 N1 (.slice ad1 l1.length cap1)] w fun e w' => e = .returned (.bool true) ∧ Below w.heap.size w w' := by
  have hTB := tabs_of (W := w) (L := Rows.tellBackRow.laid) (by rw [← MakeChecks.laidMetH_plain _ _ _ (by kernel_rfl)]; exact hL) (by simp [Rows.tellBackRow]) (by simp [Rows.tellBackRow]) (by simp [Rows.tellBackRow]) rfl
  obtain ⟨hP, hU, hT⟩ := hTB
  have HP : Hid (Pow w) := hP
  have HU : Hid (Ut w) := hU
  have HT : Hid (Tab w) := hT
  obtain ⟨hk, hk3, hk2, hN⟩ := kd_f k1 g1 N1 hN1
  obtain ⟨hr0, hr1⟩ := krN_lo k1 g1 wr1
  have hki := kind8_any k1 f1 g1 N1 ad1 l1.length cap1
  obtain ⟨kd, hkd⟩ : ∃ x, kdN k1 = x := ⟨_, rfl⟩
  obtain ⟨rd, hrd⟩ : ∃ x, krN k1 g1 = x := ⟨_, rfl⟩
  obtain ⟨N, hNN⟩ : ∃ x, kNN k1 N1 = x := ⟨_, rfl⟩
  rw [hkd, hrd, hNN] at hki
  rw [hkd] at hk hk3 hk2
  rw [hrd] at hk3 hr0 hr1
  rw [hNN] at hk2 hN
  obtain ⟨W0, hW0⟩ : ∃ W0, w.alloc (.cells (nC8 k1 f1 g1 N1 (.slice ad1 l1.length cap1)) 27) = W0 := ⟨_, rfl⟩
  have hb0 : Below w.heap.size w W0 := by rw [← hW0]; exact al1t _ _
  have hB0 : Nb8 W0 w.heap.size k1 f1 g1 N1 (.slice ad1 l1.length cap1) := by unfold Nb8; rw [← hW0]; exact new_at rfl
  have hAL : Hid (∀ V, Below w.heap.size w V → Calls Tryz.prog 8 #[] V fun e w' => e = .returned (.bool true) ∧ Below V.heap.size V w') := fun V hV => alive_any V (HP.out.carry hV) (HU.out.carry hV)
  have HR1 : Hid (RdN w ad1 l1) := w1
  obtain ⟨c0, c1, c2, c3, c4, c5, c6, c7⟩ := hB0.cells
  clear hkd hrd hNN hP hU hT
  unfold nC8 at hW0
  unfold rnv at hki ⊢
  by_cases h3 : 300 < l1.length
  · have h3i : (300 : Int) < (l1.length : Int) := by omega
    go_enter Tryz.func3, Tryz.ntmps3
    go_wp2_with (first | (go_at_call 8; (with_reducible refine (hAL.out _ hbV).mono ?_); rintro e u9 ⟨rfl, hu9⟩) | (refine wpList_store_row rfl 27 (.tmp 3) (.tmp 16) rfl w.heap.size (nC8 (kd : Int) f1 rd N (.slice ad1 l1.length cap1)) rfl rfl 27 _ hB1 info8 rfl (nC8_all _ _ _ _ _ _ _) ?_; rw [hV1]) | (go_at_call 7; (with_reducible refine (hki _).mono ?_); rintro e u1 ⟨rfl, hu1⟩; (have hB1 := hB0.carry hu1); obtain ⟨V1, hV1, hBV, hbV, hsV⟩ := nb8_set (k' := (kd : Int)) (f' := f1) (r' := rd) (N' := N) (v' := .slice ad1 l1.length cap1) hB1 (bel3 hb0 hu1) (Nat.le_refl _); obtain ⟨e0, e1, e2, e3, e4, e5, e6, e7⟩ := hBV.cells))
    go_ret
    exact ⟨rfl, bel3 hbV hu9⟩
  have h3i : ¬ (300 : Int) < (l1.length : Int) := by omega
  have hl : l1.length ≤ 1000 := by omega
  have hrd := read_any s0 w0
  unfold RdV at hrd
  generalize readR s0 = R at hrd
  obtain ⟨L, x0, y0⟩ := R
  dsimp only at hrd
  obtain ⟨E, hE⟩ : ∃ E, flt kd (L.length : Int) f1 rd N l1 = E := ⟨_, rfl⟩
  obtain ⟨TT, hTT⟩ : ∃ TT, tlT L kd f1 rd N l1 = TT := ⟨_, rfl⟩
  have HTD : Hid (∀ V p sl mp, Below w.heap.size w V → Ros p V (.agg #[sl, mp]) L → p ≤ V.heap.size → Calls Tryz.prog 10 #[.agg #[sl, mp], .agg #[.int .i64 (kd : Int), .int .i64 f1, .int .i64 rd, .int .u32 (wd N 0 : Nat), .int .u32 (wd N 1 : Nat), .int .u32 (wd N 2 : Nat), .int .u32 (wd N 3 : Nat), .slice ad1 l1.length cap1]] V fun e w' => e = .returned (.tuple #[.string TT, .int .i64 E]) ∧ Below V.heap.size V w') := fun V p sl mp hV hR hp => (told_any hR hp (HP.out.carry hV) (HT.out.carry hV) kd hk f1 rd hr0 hr1 N hN hk3 hk2 ad1 cap1 l1 (HR1.out.carry hV) hl).mono (fun _ _ q => q.form hTT hE)
  by_cases hE0 : E = 0
  · subst hE0
    have HRDN : Hid (∀ V p sl mp, Below w.heap.size w V → Ros p V (.agg #[sl, mp]) L → p ≤ V.heap.size → Calls Tryz.prog 11 #[.agg #[sl, mp], .string TT] V fun e w' => ∃ ad cap, e = .returned (.tuple #[noteV kd f1 rd N (.slice ad l1.length cap), .int .i64 0, .int .i64 0]) ∧ RdN w' ad l1 ∧ Below V.heap.size V w') := fun V p sl mp hV hR hp => by
      rw [← hTT]
      exact read_note hR hp (HU.out.carry hV) kd hk f1 rd N hk3 hk2 l1 hl hE
    have HAS : Hid (∀ ad cap V, Calls Tryz.prog 12 #[noteV kd f1 rd N (.slice ad l1.length cap)] V fun e w' => e = .returned (.tuple #[.agg (nC8 (kd : Int) f1 rd N (.slice ad l1.length cap)), .bool true]) ∧ Below V.heap.size V w') := fun ad cap V => as_any kd hk f1 rd N hk3 hk2 ad l1.length cap V
    have HSM : Hid (∀ ad cap V, Below w.heap.size w V → RdN V ad l1 → Calls Tryz.prog 13 #[.agg (nC8 (kd : Int) f1 rd N (.slice ad l1.length cap)), .agg (nC8 (kd : Int) f1 rd N (.slice ad1 l1.length cap1))] V fun e w' => e = .returned (.bool true) ∧ Below V.heap.size V w') := fun ad cap V hV h => samen_any kd f1 rd N hN ad ad1 cap cap1 l1 V h (HR1.out.carry hV) (by omega)
    unfold nC8 at HAS HSM
    clear hE hTT
    go_enter Tryz.func3, Tryz.ntmps3
    go_wp2_with (first | (go_at_call 13; (with_reducible refine (HSM.out ad2 cap2 u9 hJ9.be hd9).mono ?_); rintro e u10 ⟨rfl, hu10⟩) | (go_at_call 8; (with_reducible refine (hAL.out _ hJ5.be).mono ?_); rintro e u9 ⟨rfl, hu9⟩; (have hJ9 := hJ5.carry hu9); (have hd9 := hd5.carry hu9); obtain ⟨y0, y1, y2, y3, y4, y5, y6, y7⟩ := (hB5.carry hu9).cells; obtain ⟨p0'', p1'', p2'', p3'', p4'', p5'', p6'', p7''⟩ := hJ9.bn.cells) | (go_at_call 12; (with_reducible refine HA.mono ?_); rintro e u5 ⟨rfl, hu5⟩; obtain ⟨V5, hV5⟩ : ∃ V5, u5.alloc (.cells (nC8 (kd : Int) f1 rd N (.slice ad2 l1.length cap2)) 27) = V5 := ⟨_, rfl⟩; (have hb5 : Below u5.heap.size u5 V5 := by rw [← hV5]; exact al1t _ _); (have hB5 : Nb8 V5 u5.heap.size (kd : Int) f1 rd N (.slice ad2 l1.length cap2) := by unfold Nb8; rw [← hV5]; exact new_at rfl); (have hJ5 := (hJ4.carry hu5).carry hb5); (have hd5 := (hd2.carry hu5).carry hb5); obtain ⟨x0, x1, x2, x3, x4, x5, x6, x7⟩ := hB5.cells; unfold nC8 at hV5) | (go_at_call 11; (with_reducible refine (HRDN.out u3 u2.heap.size _ _ hJ3.be hR3 (Nat.le_trans hb2.size hu3.size)).mono ?_); rintro e u4 ⟨ad2, cap2, rfl, hd2, hu4⟩; (have hJ4 := hJ3.carry hu4); (have HA := HAS.out ad2 cap2 u4)) | (go_at_call 10; (with_reducible refine hTD.mono ?_); rintro e u3 ⟨rfl, hu3⟩; (have hJ3 := hJ2.carry hu3); (have hR3 := hRo.below (hu3.mono hb2.size)); (have g3 := hJ3.bx); (have b0' : u3.cell? ⟨u2.heap.size, 0, none⟩ = some (.slice ad n cap) := (cell_at g3 0).trans rfl); (have b1' : u3.cell? ⟨u2.heap.size, 1, none⟩ = some (.map mb) := (cell_at g3 1).trans rfl); obtain ⟨p0', p1', p2', p3', p4', p5', p6', p7'⟩ := hJ3.bn.cells) | (go_at_call 9; (with_reducible refine (hrd _).mono ?_); rintro e u2 ⟨⟨v, rfl, hv⟩, hu2⟩; obtain ⟨ad, n, cap, mb, rfl⟩ : ∃ ad n cap mb, v = .agg #[.slice ad n cap, .map mb] := (by obtain ⟨ad, cap, mb, e⟩ := hv.form; exact ⟨_, _, _, _, e⟩); obtain ⟨V2, hV2⟩ : ∃ V2, u2.alloc (.cells #[.slice ad n cap, .map mb] 33) = V2 := ⟨_, rfl⟩; (have hb2 : Below u2.heap.size u2 V2 := by rw [← hV2]; exact al1t _ _); (have g2 : V2.heap[u2.heap.size]? = some (.cells #[.slice ad n cap, .map mb] 33 (0, 0)) := by rw [← hV2]; exact new_at rfl); (have hRo := hv.below hb2); (have hJ2 : JB8 w w.heap.size u2.heap.size (kd : Int) f1 rd N (.slice ad1 l1.length cap1) (.slice ad n cap) (.map mb) V2 := ⟨bel3 (bel3 hbV hu2) hb2, (hBV.carry hu2).carry hb2, g2⟩); (have b0 : V2.cell? ⟨u2.heap.size, 0, none⟩ = some (.slice ad n cap) := (cell_at g2 0).trans rfl); (have b1 : V2.cell? ⟨u2.heap.size, 1, none⟩ = some (.map mb) := (cell_at g2 1).trans rfl); obtain ⟨p0, p1, p2, p3, p4, p5, p6, p7⟩ := hJ2.bn.cells; (have hTD := HTD.out V2 u2.heap.size _ _ hJ2.be hRo hb2.size)) | (refine wpList_store_row rfl 27 (.tmp 3) (.tmp 16) rfl w.heap.size (nC8 (kd : Int) f1 rd N (.slice ad1 l1.length cap1)) rfl rfl 27 _ hB1 info8 rfl (nC8_all _ _ _ _ _ _ _) ?_; rw [hV1]) | (go_at_call 7; (with_reducible refine (hki _).mono ?_); rintro e u1 ⟨rfl, hu1⟩; (have hB1 := hB0.carry hu1); obtain ⟨V1, hV1, hBV, hbV, hsV⟩ := nb8_set (k' := (kd : Int)) (f' := f1) (r' := rd) (N' := N) (v' := .slice ad1 l1.length cap1) hB1 (bel3 hb0 hu1) (Nat.le_refl _); obtain ⟨e0, e1, e2, e3, e4, e5, e6, e7⟩ := hBV.cells))
    go_ret
    exact ⟨rfl, bel3 hJ9.be hu10⟩
  · have hTn : TT = ⟨#[]⟩ := by
      rw [← hTT]
      exact tlT_no (by rw [hE]; exact hE0)
    subst hTn
    have hE1 : (E == 0) = false := by simpa using hE0
    clear hE hTT
    go_enter Tryz.func3, Tryz.ntmps3
    go_wp2_with (first | (go_at_call 8; (with_reducible refine (hAL.out _ hJ3.be).mono ?_); rintro e u9 ⟨rfl, hu9⟩) | (go_at_call 10; (with_reducible refine hTD.mono ?_); rintro e u3 ⟨rfl, hu3⟩; (have hJ3 := hJ2.carry hu3); (have hR3 := hRo.below (hu3.mono hb2.size)); (have g3 := hJ3.bx); (have b0' : u3.cell? ⟨u2.heap.size, 0, none⟩ = some (.slice ad n cap) := (cell_at g3 0).trans rfl); (have b1' : u3.cell? ⟨u2.heap.size, 1, none⟩ = some (.map mb) := (cell_at g3 1).trans rfl); obtain ⟨p0', p1', p2', p3', p4', p5', p6', p7'⟩ := hJ3.bn.cells) | (go_at_call 9; (with_reducible refine (hrd _).mono ?_); rintro e u2 ⟨⟨v, rfl, hv⟩, hu2⟩; obtain ⟨ad, n, cap, mb, rfl⟩ : ∃ ad n cap mb, v = .agg #[.slice ad n cap, .map mb] := (by obtain ⟨ad, cap, mb, e⟩ := hv.form; exact ⟨_, _, _, _, e⟩); obtain ⟨V2, hV2⟩ : ∃ V2, u2.alloc (.cells #[.slice ad n cap, .map mb] 33) = V2 := ⟨_, rfl⟩; (have hb2 : Below u2.heap.size u2 V2 := by rw [← hV2]; exact al1t _ _); (have g2 : V2.heap[u2.heap.size]? = some (.cells #[.slice ad n cap, .map mb] 33 (0, 0)) := by rw [← hV2]; exact new_at rfl); (have hRo := hv.below hb2); (have hJ2 : JB8 w w.heap.size u2.heap.size (kd : Int) f1 rd N (.slice ad1 l1.length cap1) (.slice ad n cap) (.map mb) V2 := ⟨bel3 (bel3 hbV hu2) hb2, (hBV.carry hu2).carry hb2, g2⟩); (have b0 : V2.cell? ⟨u2.heap.size, 0, none⟩ = some (.slice ad n cap) := (cell_at g2 0).trans rfl); (have b1 : V2.cell? ⟨u2.heap.size, 1, none⟩ = some (.map mb) := (cell_at g2 1).trans rfl); obtain ⟨p0, p1, p2, p3, p4, p5, p6, p7⟩ := hJ2.bn.cells; (have hTD := HTD.out V2 u2.heap.size _ _ hJ2.be hRo hb2.size)) | (refine wpList_store_row rfl 27 (.tmp 3) (.tmp 16) rfl w.heap.size (nC8 (kd : Int) f1 rd N (.slice ad1 l1.length cap1)) rfl rfl 27 _ hB1 info8 rfl (nC8_all _ _ _ _ _ _ _) ?_; rw [hV1]) | (go_at_call 7; (with_reducible refine (hki _).mono ?_); rintro e u1 ⟨rfl, hu1⟩; (have hB1 := hB0.carry hu1); obtain ⟨V1, hV1, hBV, hbV, hsV⟩ := nb8_set (k' := (kd : Int)) (f' := f1) (r' := rd) (N' := N) (v' := .slice ad1 l1.length cap1) hB1 (bel3 hb0 hu1) (Nat.le_refl _); obtain ⟨e0, e1, e2, e3, e4, e5, e6, e7⟩ := hBV.cells))
    go_ret
    exact ⟨rfl, bel3 hJ3.be hu9⟩

set_option maxRecDepth 100000 in
theorem lifted (os : Os) (started : os.Started) (H : Type) (enc : TypeId × Value → H) :
    ReturnsInHanded {} Tryz.checked os 3 .any (fun w args => (Rows.tellBackSpec.pre enc Tryz.prog Tryz.f3 [] false w args ∧ laidMetH Tryz.prog Rows.tellBackRow.laid w) ∧ sizedMet enc Tryz.prog Tryz.f3 (OpenSpec.ofChange Rows.tellBackSpec) false w args)
      (Rows.tellBackSpec.post enc Tryz.prog Tryz.f3 false true false false) := by
  refine returnsInHanded_of_change_and (C := Tryz.checked) (X := fun w _ => laidMetH Tryz.prog Rows.tellBackRow.laid w) (fun _ _ _ hh h => h.of_heap hh) own started (by kernel_rfl) Tryz.func3
    (ChangeSpec.witness_shaped (enc := enc) (C := Tryz.checked) (os := os) (X := fun w _ => laidMetH Tryz.prog Rows.tellBackRow.laid w) false (World.laidAll Tryz.prog os Rows.tellBackRow.laid) #[.string ByteArray.empty, .agg #[.int .i64 0, .int .i64 0, .int .i64 0, .int .u32 0, .int .u32 0, .int .u32 0, .int .u32 0, .slice none 0 0]] 8 (World.laidAll_os _ _ _)
      (World.shaped_of_ZipB (by kernel_rfl) (by kernel_rfl)) (by kernel_rfl) (by kernel_rfl) (by kernel_rfl)
      (by rw [MakeChecks.laidMetH_plain _ _ _ (by kernel_rfl)]; exact laidMet_laidAll _ (by kernel_rfl) (by kernel_rfl))) ?_
  intro W base args ds gs before hval0 hW _ hsz hL _
  have hval : ∀ (j : Nat) t v, Tryz.f3.params[j]? = some t → args[j]? = some v → Value.okWide Tryz.prog W .any base t v := hval0
  have hW' := hW
  obtain ⟨p, q, hA0, hV, rfl, hfz, hnd⟩ := hW
  have hA : DataW.TrodAll enc Tryz.prog W 0 (fun _ => true) true Tryz.f3.params.toList args.toList ds p := hA0
  rw [Tryz.params3] at hA hval
  obtain ⟨v0, vs0, d0, ds0, p0, q0, hargs, rfl, rfl, h0, r0⟩ := trodAll_cons hA
  obtain ⟨v1, vs1, d1, ds1, p1, q1, rfl, rfl, rfl, h1, r1⟩ := trodAll_cons r0
  obtain ⟨rfl, rfl, rfl⟩ := trodAll_nil r1
  obtain rfl : args = #[v0, v1] := by cases args; simp_all
  obtain ⟨rfl, rfl⟩ := trodVars_none hV
  obtain ⟨s0, rfl, rfl, rfl, w0⟩ := open_string Tryz.underlying9 (hval 0 9 v0 rfl rfl) h0
  have kk1 := h1
  have lt1 : ∀ x ∈ p1, x.block < W.heap.size := by obtain ⟨m, hm⟩ := kk1; exact DataW.trod_lt m _ _ _ hm
  obtain ⟨k1, f1, g1, N1, ad1, cap1, l1, rfl, hN1, wk1, wf1, wr1, w1, hc1, hq1⟩ := open_note (hval 1 27 v1 rfl rfl) h1
  clear hA0 hval0
  refine (walk W s0 w0 k1 f1 g1 N1 ad1 cap1 l1 hN1 wk1 wf1 wr1 w1 hc1 hq1 hL).mono fun e W' ⟨he, hg⟩ => ?_
  subst he
  exact ⟨_, rfl, _, _, _, [], _, [], hW', (trodAll_cons_mk (shut_bool Tryz.underlying4 _) trodAll_mk0), (trodAll_cons_mk (shut_string Tryz.underlying9 w0) (trodAll_cons_mk (Below.trod laidOut (by kernel_rfl) (of_decide_eq_true (by kernel_rfl)) kk1 hg lt1) trodAll_mk0)), rfl, hg.frame _, fun h => by cases h⟩

theorem over : Rows.tellBackRow.holds Tryz.pinned (OpenSpec.ofChange Rows.tellBackSpec) :=
  OpenClaim.holds_of_wide 3 Tryz.f3 rfl rfl rfl rfl rfl rfl rfl ⟨rfl, rfl, rfl, rfl, rfl⟩ rfl rfl rfl rfl rfl (by kernel_rfl) Tryz.func3 (by kernel_rfl)
    (of_decide_eq_true (by kernel_rfl)) (by unfold Func.isWrapper; first | (rw [if_pos (by decide +kernel)]; kernel_rfl) | (rw [if_neg (by decide +kernel)]; exact ⟨rfl, rfl⟩))
    (fun os started H enc _ => lifted os started H enc)

theorem row_proved : Rows.TellBackSaid :=
  over
theorem proved : Rows.TellBackCardSaid :=
  Claim7.holds_tied_plain_at .later [] [.data, .data, .data, .data, .pinned] true (true, "28135959c56a8d2661618a5af8ea8c023547703134b84e54f72eda428b255e1e") true
    row_proved (fun _ h => by cases h) (by kernel_rfl) (fun _ h => by cases h) tellBack_row_tie rfl ⟨rfl, rfl⟩ (by kernel_rfl) rfl
    (fun f fn hf hfn => by
      obtain rfl : f = 3 := Option.some.inj ((show Tryz.prog.funcNamed "earshot/earshotlaw8.TellBack" = some 3 by kernel_rfl).symm.trans hf) |>.symm
      obtain rfl : fn = Tryz.f3 := (Option.some.inj (Tryz.func3.symm.trans hfn)).symm
      exact ⟨by kernel_rfl, fun j t ht => by
        rw [Tryz.params3] at ht
        rcases j with _ | j
        · have e : t = 9 := by simpa using ht.symm
          subst e
          exact (show Tryz.prog.wantsStandIn 9 = false by kernel_rfl)
        rcases j with _ | j
        · have e : t = 27 := by simpa using ht.symm
          subst e
          exact (show Tryz.prog.wantsStandIn 27 = false by kernel_rfl)
        simp at ht⟩)
    (by kernel_rfl)
#print axioms proved
end Go.Proofs.YtnkpohkodkjkfaaGreatDoor
