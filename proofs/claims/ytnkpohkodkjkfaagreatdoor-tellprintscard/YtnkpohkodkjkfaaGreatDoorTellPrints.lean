/- TellPrints: at every text of signs and every note: the text that is told is the document's, with the same error, and the notices stay; no condition but the tie of the card. -/
import Derived.Test.YtnkpohkodkjkfaaGreatDoorRows
import Derived.WalkKit
import Derived.ProofKit
import Derived.OpenShut
import Derived.ChangeMaps5
import Derived.Stop.Joined
import Derived.Lay
import Derived.SevenTiedAt
import Derived.SizedLaws
import Derived.LaidMore
import Derived.Test.YtnkpohkodkjkfaaGreatDoorTie
import Derived.Test.YtnkpohkodkjkfaaGreatDoorCards
import Derived.Test.YtnkpohkodkjkfaaGreatDoorJpJ47
import Derived.Test.YtnkpohkodkjkfaaGreatDoorJpJ48
namespace Go.Proofs.YtnkpohkodkjkfaaGreatDoor
open Go.ChangeShapes Go.WideShapes Go.ChangeAt Go.RowKit Go.ChangeMaps
set_option linter.unusedVariables false

theorem laidOut : laidOutB Tryz.prog = true := by kernel_rfl
theorem own : ownKnob Tryz.prog.godebug = none := by kernel_rfl
open Go.Shelf Go.Lib
set_option maxHeartbeats 16000000 in
set_option maxRecDepth 100000 in
theorem walk (w : World) (s0 : ByteArray) (w0 : s0.size ≤ maxLen) (k1 f1 g1 : Int) (N1 : Nat) (ad1 : Option Addr) (cap1 : Nat) (l1 : List (Int × Int × Int)) (hN1 : N1 < S128) (wk1 : (Lit.int .i64 k1).wf = true) (wf1 : (Lit.int .i64 f1).wf = true) (wr1 : (Lit.int .i64 g1).wf = true) (w1 : RdN w ad1 l1) (hc1 : ad1 = none → cap1 = 0) (hq1 : l1.length ≤ cap1) (hL : laidMetH Tryz.prog Rows.tellPrintsRow.laid w) :
    Calls Tryz.prog 6 #[.string s0, rnv k1 f1 g1 N1 (.slice ad1 l1.length cap1)] w fun e w' => e = .returned (.bool true) ∧ Below w.heap.size w w' := by
  have hTB := tabs_of (W := w) (L := Rows.tellPrintsRow.laid) (by rw [← MakeChecks.laidMetH_plain _ _ _ (by kernel_rfl)]; exact hL) (by simp [Rows.tellPrintsRow]) (by simp [Rows.tellPrintsRow]) (by simp [Rows.tellPrintsRow]) rfl
  obtain ⟨hP, hU, hT⟩ := hTB
  have HP : Hid (Pow w) := hP
  have HU : Hid (Ut w) := hU
  have HT : Hid (Tab w) := hT
  obtain ⟨hk, hk3, hk2, hN⟩ := kd_f k1 g1 N1 hN1
  obtain ⟨hr0, hr1⟩ := krN_lo k1 g1 wr1
  have hki := kind8_any k1 f1 g1 N1 ad1 l1.length cap1
  obtain ⟨kd, hkd⟩ : ∃ x, kdN k1 = x := ⟨_, rfl⟩
  obtain ⟨rd, hrd⟩ : ∃ x, krN k1 g1 = x := ⟨_, rfl⟩
  obtain ⟨N, hNN⟩ : ∃ x, kNN k1 N1 = x := ⟨_, rfl⟩
  rw [hkd, hrd, hNN] at hki
  rw [hkd] at hk hk3 hk2
  rw [hrd] at hk3 hr0 hr1
  rw [hNN] at hk2 hN
  obtain ⟨W0, hW0⟩ : ∃ W0, w.alloc (.cells (nC8 k1 f1 g1 N1 (.slice ad1 l1.length cap1)) 27) = W0 := ⟨_, rfl⟩
  have hb0 : Below w.heap.size w W0 := by rw [← hW0]; exact al1t _ _
  have hB0 : Nb8 W0 w.heap.size k1 f1 g1 N1 (.slice ad1 l1.length cap1) := by unfold Nb8; rw [← hW0]; exact new_at rfl
  have hAL : Hid (∀ V, Below w.heap.size w V → Calls Tryz.prog 8 #[] V fun e w' => e = .returned (.bool true) ∧ Below V.heap.size V w') := fun V hV => alive_any V (HP.out.carry hV) (HU.out.carry hV)
  have HR1 : Hid (RdN w ad1 l1) := w1
  obtain ⟨c0, c1, c2, c3, c4, c5, c6, c7⟩ := hB0.cells
  clear hkd hrd hNN hP hU hT
  unfold nC8 at hW0
  unfold rnv at hki ⊢
  by_cases h3 : 300 < l1.length
  · have h3i : (300 : Int) < (l1.length : Int) := by omega
    go_enter Tryz.func6, Tryz.ntmps6
    go_wp2_with (first | (go_at_call 8; (with_reducible refine (hAL.out _ hbV).mono ?_); rintro e u9 ⟨rfl, hu9⟩) | (refine wpList_store_row rfl 27 (.tmp 3) (.tmp 17) rfl w.heap.size (nC8 (kd : Int) f1 rd N (.slice ad1 l1.length cap1)) rfl rfl 27 _ hB1 info8 rfl (nC8_all _ _ _ _ _ _ _) ?_; rw [hV1]) | (go_at_call 7; (with_reducible refine (hki _).mono ?_); rintro e u1 ⟨rfl, hu1⟩; (have hB1 := hB0.carry hu1); obtain ⟨V1, hV1, hBV, hbV, hsV⟩ := nb8_set (k' := (kd : Int)) (f' := f1) (r' := rd) (N' := N) (v' := .slice ad1 l1.length cap1) hB1 (bel3 hb0 hu1) (Nat.le_refl _); obtain ⟨e0, e1, e2, e3, e4, e5, e6, e7⟩ := hBV.cells))
    go_ret
    exact ⟨rfl, bel3 hbV hu9⟩
  have h3i : ¬ (300 : Int) < (l1.length : Int) := by omega
  have hl : l1.length ≤ 1000 := by omega
  have hrd := read_any s0 w0
  have hrr := rRead_any s0 w0
  unfold RdV at hrd
  unfold RdR at hrr
  generalize readR s0 = R at hrd hrr
  obtain ⟨L, x0, y0⟩ := R
  dsimp only at hrd hrr
  obtain ⟨E, hE⟩ : ∃ E, flt kd (L.length : Int) f1 rd N l1 = E := ⟨_, rfl⟩
  obtain ⟨TT, hTT⟩ : ∃ TT, tlT L kd f1 rd N l1 = TT := ⟨_, rfl⟩
  have HTD : Hid (∀ V p sl mp adz capz, Below w.heap.size w V → Ros p V (.agg #[sl, mp]) L → p ≤ V.heap.size → RdN V adz l1 → Calls Tryz.prog 10 #[.agg #[sl, mp], .agg #[.int .i64 (kd : Int), .int .i64 f1, .int .i64 rd, .int .u32 (wd N 0 : Nat), .int .u32 (wd N 1 : Nat), .int .u32 (wd N 2 : Nat), .int .u32 (wd N 3 : Nat), .slice adz l1.length capz]] V fun e w' => e = .returned (.tuple #[.string TT, .int .i64 E]) ∧ Below V.heap.size V w') := fun V p sl mp adz capz hV hR hp hz => (told_any hR hp (HP.out.carry hV) (HT.out.carry hV) kd hk f1 rd hr0 hr1 N hN hk3 hk2 adz capz l1 hz hl).mono (fun _ _ q => q.form hTT hE)
  have HTE : Hid (∀ V p vr, Below w.heap.size w V → RosR p V vr L → p ≤ V.heap.size → Calls Tryz.prog 19 #[vr, .agg #[.int .i64 (kd : Int), .int .i64 f1, .int .i64 rd, .int .u32 (wd N 0 : Nat), .int .u32 (wd N 1 : Nat), .int .u32 (wd N 2 : Nat), .int .u32 (wd N 3 : Nat), .slice ad1 l1.length cap1]] V fun e w' => e = .returned (.tuple #[.string TT, .int .i64 E]) ∧ Below V.heap.size V w') := fun V p vr hV hR hp => (rTell_any hR hp kd hk f1 rd N hN hk3 hk2 ad1 cap1 l1 (HR1.out.carry hV) hl).mono (fun _ _ q => q.form hTT hE)
  clear hE hTT
  go_enter Tryz.func6, Tryz.ntmps6
  go_wp2_with (first | (go_at_call 20; (with_reducible refine (stays_any g ad1 cap5 cap1 l1 u9 hg9 hnt9 hcp (HR1.out.carry hJ9.be) (by omega)).mono ?_); rintro e u10 ⟨rfl, hu10⟩) | (go_at_call 8; (with_reducible refine (hAL.out _ hJ8.be).mono ?_); rintro e u9 ⟨rfl, hu9⟩; (have hJ9 := hJ8.carry hu9); (have hnt9 := hnt8.carry hg8 hu9); (have hg9 := Nat.lt_of_lt_of_le hg8 hu9.size); (have b09 : u9.cell? ⟨u2.heap.size, 0, none⟩ = some (.slice ad n cap) := (cell_at hJ9.bx 0).trans rfl); (have b19 : u9.cell? ⟨u2.heap.size, 1, none⟩ = some (.map mb) := (cell_at hJ9.bx 1).trans rfl); (have c09 : u9.cell? ⟨u3.heap.size, 0, none⟩ = some (.slice ads L.length caps) := (cell_at hJ9.br 0).trans rfl); obtain ⟨p09, p19, p29, p39, p49, p59, p69, p79⟩ := hJ9.bn.cells; obtain ⟨l09, la9, l29, l39, l49, l59, l69, l79⟩ := hJ9.bl.cells) | (go_at_call 19; (with_reducible refine (HTE.out u7 u3.heap.size _ hJ7.be ((hRr.below (hB6.mono (by omega))).below (hu7.mono (by have := hB6.size; omega))) (by have := hB6.size; have := hu7.size; omega)).mono ?_); rintro e u8 ⟨rfl, hu8⟩; (have hJ8 := hJ7.carry hu8); (have hnt8 := hnt7.carry hg7 hu8); (have hg8 := Nat.lt_of_lt_of_le hg7 hu8.size)) | (go_at_call 10; (with_reducible refine (HTD.out V5 u2.heap.size _ _ _ _ hJ6.be (hRo4.below (hB6.mono (by omega))) (by have := hB6.size; omega) (nts_rdn hnt6 hg6)).mono ?_); rintro e u7 ⟨rfl, hu7⟩; (have hJ7 := hJ6.carry hu7); (have hnt7 := hnt6.carry hg6 hu7); (have hg7 := Nat.lt_of_lt_of_le hg6 hu7.size); (have b07 : u7.cell? ⟨u2.heap.size, 0, none⟩ = some (.slice ad n cap) := (cell_at hJ7.bx 0).trans rfl); (have b17 : u7.cell? ⟨u2.heap.size, 1, none⟩ = some (.map mb) := (cell_at hJ7.bx 1).trans rfl); (have c07 : u7.cell? ⟨u3.heap.size, 0, none⟩ = some (.slice ads L.length caps) := (cell_at hJ7.br 0).trans rfl); obtain ⟨p07, p17, p27, p37, p47, p57, p67, p77⟩ := hJ7.bn.cells; obtain ⟨l07, la7, l27, l37, l47, l57, l67, l77⟩ := hJ7.bl.cells) | (go_at_call 18; (with_reducible refine (lent_any ad1 cap1 l1 _ (HR1.out.carry hJ4.be) hc1 (by omega)).mono ?_); rintro e u5 ⟨g, cap5, rfl, hcp, hg5, hnt, hu5, hg0⟩; (have hJ5 := hJ4.carry hu5); (have zz5 : V3.heap.size < V4.heap.size := lt_at hJ4.bl); (have hgn : g ≠ V3.heap.size := by omega); obtain ⟨V5, hV5⟩ : ∃ V5, u5.setCell ⟨V3.heap.size, 7, none⟩ (.slice (some ⟨g, 0, none⟩) l1.length cap5) = V5 := ⟨_, rfl⟩; (have x7 := hJ5.bl.cells.2.2.2.2.2.2.2); (have y7 : u5.frozen? ⟨V3.heap.size, 7, none⟩ = false := thaw_at hJ5.bl 7); (have hJ6 := hJ5.lent (by omega) (by omega) (by omega) (by omega) (.slice (some ⟨g, 0, none⟩) l1.length cap5)); (have hnt6 := nts_set hnt hgn (.slice (some ⟨g, 0, none⟩) l1.length cap5)); (have hg6 : g < V5.heap.size := by rw [← hV5]; simpa [World.setCell] using hg5); (have hB6 : Below V3.heap.size V4 V5 := by rw [← hV5]; exact (hu5.mono (Nat.le_of_lt zz5)).setCell (p := ⟨V3.heap.size, 7, none⟩) (Nat.le_refl _) _); rw [hV5] at hJ6 hnt6; (have b05 : V5.cell? ⟨u2.heap.size, 0, none⟩ = some (.slice ad n cap) := (cell_at hJ6.bx 0).trans rfl); (have b15 : V5.cell? ⟨u2.heap.size, 1, none⟩ = some (.map mb) := (cell_at hJ6.bx 1).trans rfl); (have c05 : V5.cell? ⟨u3.heap.size, 0, none⟩ = some (.slice ads L.length caps) := (cell_at hJ6.br 0).trans rfl); obtain ⟨p05, p15, p25, p35, p45, p55, p65, p75⟩ := hJ6.bn.cells; obtain ⟨l05, la5, l25, l35, l45, l55, l65, l75⟩ := hJ6.bl.cells) | (go_at_call 17; (with_reducible refine (hrr _).mono ?_); rintro e u3 ⟨⟨vr, rfl, hvr⟩, hu3⟩; obtain ⟨ads, caps, rfl⟩ := hvr.form; obtain ⟨V3, hV3⟩ : ∃ V3, u3.alloc (.cells #[.slice ads L.length caps] 60) = V3 := ⟨_, rfl⟩; (have hb3 : Below u3.heap.size u3 V3 := by rw [← hV3]; exact al1t _ _); (have g3 : V3.heap[u3.heap.size]? = some (.cells #[.slice ads L.length caps] 60 (0, 0)) := by rw [← hV3]; exact new_at rfl); obtain ⟨V4, hV4⟩ : ∃ V4, V3.alloc (.cells (nC8 (kd : Int) f1 rd N (.slice ad1 l1.length cap1)) 27) = V4 := ⟨_, rfl⟩; (have hb4 : Below V3.heap.size V3 V4 := by rw [← hV4]; exact al1t _ _); (have g4 : Nb8 V4 V3.heap.size (kd : Int) f1 rd N (.slice ad1 l1.length cap1) := by unfold Nb8; rw [← hV4]; exact new_at rfl); (have hJ3 := (hJ2.carry hu3).carry hb3); obtain ⟨m0, m1, m2, m3, m4, m5, m6, m7⟩ := hJ3.bn.cells; (have hJ4 : JP8 w w.heap.size u2.heap.size u3.heap.size V3.heap.size (kd : Int) f1 rd N (.slice ad1 l1.length cap1) (.slice ad n cap) (.map mb) (.slice ads L.length caps) (.slice ad1 l1.length cap1) V4 := ⟨bel3 hJ3.be hb4, hJ3.bn.carry hb4, (hb4.block _ (lt_at hJ3.bx)).trans hJ3.bx, (hb4.block _ (lt_at g3)).trans g3, g4⟩); (have b0 : V4.cell? ⟨u2.heap.size, 0, none⟩ = some (.slice ad n cap) := (cell_at hJ4.bx 0).trans rfl); (have b1 : V4.cell? ⟨u2.heap.size, 1, none⟩ = some (.map mb) := (cell_at hJ4.bx 1).trans rfl); (have c0 : V4.cell? ⟨u3.heap.size, 0, none⟩ = some (.slice ads L.length caps) := (cell_at hJ4.br 0).trans rfl); obtain ⟨p0, p1, p2, p3, p4, p5, p6, p7⟩ := hJ4.bn.cells; obtain ⟨l0, la, l2, l3, l4, l5, l6, l7⟩ := hJ4.bl.cells; (have hRr : RosR u3.heap.size V4 (.agg #[.slice ads L.length caps]) L := (hvr.below hb3).below (hb4.mono hb3.size)); (have hRo4 := ((hRo.below (hu3.mono hb2.size)).below (hb3.mono (Nat.le_trans hb2.size hu3.size))).below (hb4.mono (Nat.le_trans (Nat.le_trans hb2.size hu3.size) hb3.size))); (have zz1 := lt_at hJ3.bn); (have zz2 := lt_at hJ3.bx); (have zz3 := lt_at g3); (have zz4 := hJ3.be.size); unfold nC8 at hV4) | (go_at_call 9; (with_reducible refine (hrd _).mono ?_); rintro e u2 ⟨⟨v, rfl, hv⟩, hu2⟩; obtain ⟨ad, n, cap, mb, rfl⟩ : ∃ ad n cap mb, v = .agg #[.slice ad n cap, .map mb] := (by obtain ⟨ad, cap, mb, e⟩ := hv.form; exact ⟨_, _, _, _, e⟩); obtain ⟨V2, hV2⟩ : ∃ V2, u2.alloc (.cells #[.slice ad n cap, .map mb] 33) = V2 := ⟨_, rfl⟩; (have hb2 : Below u2.heap.size u2 V2 := by rw [← hV2]; exact al1t _ _); (have g2 : V2.heap[u2.heap.size]? = some (.cells #[.slice ad n cap, .map mb] 33 (0, 0)) := by rw [← hV2]; exact new_at rfl); (have hRo := hv.below hb2); (have hJ2 : JB8 w w.heap.size u2.heap.size (kd : Int) f1 rd N (.slice ad1 l1.length cap1) (.slice ad n cap) (.map mb) V2 := ⟨bel3 (bel3 hbV hu2) hb2, (hBV.carry hu2).carry hb2, g2⟩); (have b0 : V2.cell? ⟨u2.heap.size, 0, none⟩ = some (.slice ad n cap) := (cell_at g2 0).trans rfl); (have b1 : V2.cell? ⟨u2.heap.size, 1, none⟩ = some (.map mb) := (cell_at g2 1).trans rfl)) | (refine wpList_store_row rfl 27 (.tmp 3) (.tmp 17) rfl w.heap.size (nC8 (kd : Int) f1 rd N (.slice ad1 l1.length cap1)) rfl rfl 27 _ hB1 info8 rfl (nC8_all _ _ _ _ _ _ _) ?_; rw [hV1]) | (go_at_call 7; (with_reducible refine (hki _).mono ?_); rintro e u1 ⟨rfl, hu1⟩; (have hB1 := hB0.carry hu1); obtain ⟨V1, hV1, hBV, hbV, hsV⟩ := nb8_set (k' := (kd : Int)) (f' := f1) (r' := rd) (N' := N) (v' := .slice ad1 l1.length cap1) hB1 (bel3 hb0 hu1) (Nat.le_refl _); obtain ⟨e0, e1, e2, e3, e4, e5, e6, e7⟩ := hBV.cells))
  go_ret
  exact ⟨rfl, bel3 hJ9.be hu10⟩

set_option maxRecDepth 100000 in
theorem lifted (os : Os) (started : os.Started) (H : Type) (enc : TypeId × Value → H) :
    ReturnsInHanded {} Tryz.checked os 6 .any (fun w args => (Rows.tellPrintsSpec.pre enc Tryz.prog Tryz.f6 [] false w args ∧ laidMetH Tryz.prog Rows.tellPrintsRow.laid w) ∧ sizedMet enc Tryz.prog Tryz.f6 (OpenSpec.ofChange Rows.tellPrintsSpec) false w args)
      (Rows.tellPrintsSpec.post enc Tryz.prog Tryz.f6 false true false false) := by
  refine returnsInHanded_of_change_and (C := Tryz.checked) (X := fun w _ => laidMetH Tryz.prog Rows.tellPrintsRow.laid w) (fun _ _ _ hh h => h.of_heap hh) own started (by kernel_rfl) Tryz.func6
    (ChangeSpec.witness_shaped (enc := enc) (C := Tryz.checked) (os := os) (X := fun w _ => laidMetH Tryz.prog Rows.tellPrintsRow.laid w) false (World.laidAll Tryz.prog os Rows.tellPrintsRow.laid) #[.string ByteArray.empty, .agg #[.int .i64 0, .int .i64 0, .int .i64 0, .int .u32 0, .int .u32 0, .int .u32 0, .int .u32 0, .slice none 0 0]] 8 (World.laidAll_os _ _ _)
      (World.shaped_of_ZipB (by kernel_rfl) (by kernel_rfl)) (by kernel_rfl) (by kernel_rfl) (by kernel_rfl)
      (by rw [MakeChecks.laidMetH_plain _ _ _ (by kernel_rfl)]; exact laidMet_laidAll _ (by kernel_rfl) (by kernel_rfl))) ?_
  intro W base args ds gs before hval0 hW _ hsz hL _
  have hval : ∀ (j : Nat) t v, Tryz.f6.params[j]? = some t → args[j]? = some v → Value.okWide Tryz.prog W .any base t v := hval0
  have hW' := hW
  obtain ⟨p, q, hA0, hV, rfl, hfz, hnd⟩ := hW
  have hA : DataW.TrodAll enc Tryz.prog W 0 (fun _ => true) true Tryz.f6.params.toList args.toList ds p := hA0
  rw [Tryz.params6] at hA hval
  obtain ⟨v0, vs0, d0, ds0, p0, q0, hargs, rfl, rfl, h0, r0⟩ := trodAll_cons hA
  obtain ⟨v1, vs1, d1, ds1, p1, q1, rfl, rfl, rfl, h1, r1⟩ := trodAll_cons r0
  obtain ⟨rfl, rfl, rfl⟩ := trodAll_nil r1
  obtain rfl : args = #[v0, v1] := by cases args; simp_all
  obtain ⟨rfl, rfl⟩ := trodVars_none hV
  obtain ⟨s0, rfl, rfl, rfl, w0⟩ := open_string Tryz.underlying9 (hval 0 9 v0 rfl rfl) h0
  have kk1 := h1
  have lt1 : ∀ x ∈ p1, x.block < W.heap.size := by obtain ⟨m, hm⟩ := kk1; exact DataW.trod_lt m _ _ _ hm
  obtain ⟨k1, f1, g1, N1, ad1, cap1, l1, rfl, hN1, wk1, wf1, wr1, w1, hc1, hq1⟩ := open_note (hval 1 27 v1 rfl rfl) h1
  clear hA0 hval0
  refine (walk W s0 w0 k1 f1 g1 N1 ad1 cap1 l1 hN1 wk1 wf1 wr1 w1 hc1 hq1 hL).mono fun e W' ⟨he, hg⟩ => ?_
  subst he
  exact ⟨_, rfl, _, _, _, [], _, [], hW', (trodAll_cons_mk (shut_bool Tryz.underlying4 _) trodAll_mk0), (trodAll_cons_mk (shut_string Tryz.underlying9 w0) (trodAll_cons_mk (Below.trod laidOut (by kernel_rfl) (of_decide_eq_true (by kernel_rfl)) kk1 hg lt1) trodAll_mk0)), rfl, hg.frame _, fun h => by cases h⟩

theorem over : Rows.tellPrintsRow.holds Tryz.pinned (OpenSpec.ofChange Rows.tellPrintsSpec) :=
  OpenClaim.holds_of_wide 6 Tryz.f6 rfl rfl rfl rfl rfl rfl rfl ⟨rfl, rfl, rfl, rfl, rfl⟩ rfl rfl rfl rfl rfl (by kernel_rfl) Tryz.func6 (by kernel_rfl)
    (of_decide_eq_true (by kernel_rfl)) (by unfold Func.isWrapper; first | (rw [if_pos (by decide +kernel)]; kernel_rfl) | (rw [if_neg (by decide +kernel)]; exact ⟨rfl, rfl⟩))
    (fun os started H enc _ => lifted os started H enc)

theorem row_proved : Rows.TellPrintsSaid :=
  over
theorem proved : Rows.TellPrintsCardSaid :=
  Claim7.holds_tied_plain_at .later [] [.data, .data, .data, .data, .pinned] true (true, "28135959c56a8d2661618a5af8ea8c023547703134b84e54f72eda428b255e1e") true
    row_proved (fun _ h => by cases h) (by kernel_rfl) (fun _ h => by cases h) tellPrints_row_tie rfl ⟨rfl, rfl⟩ (by kernel_rfl) rfl
    (fun f fn hf hfn => by
      obtain rfl : f = 6 := Option.some.inj ((show Tryz.prog.funcNamed "earshot/earshotlaw8.TellPrints" = some 6 by kernel_rfl).symm.trans hf) |>.symm
      obtain rfl : fn = Tryz.f6 := (Option.some.inj (Tryz.func6.symm.trans hfn)).symm
      exact ⟨by kernel_rfl, fun j t ht => by
        rw [Tryz.params6] at ht
        rcases j with _ | j
        · have e : t = 9 := by simpa using ht.symm
          subst e
          exact (show Tryz.prog.wantsStandIn 9 = false by kernel_rfl)
        rcases j with _ | j
        · have e : t = 27 := by simpa using ht.symm
          subst e
          exact (show Tryz.prog.wantsStandIn 27 = false by kernel_rfl)
        simp at ht⟩)
    (by kernel_rfl)
#print axioms proved
end Go.Proofs.YtnkpohkodkjkfaaGreatDoor
