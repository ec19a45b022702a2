/- RosterPrints: at every text and set: Print answers as the document says. -/
import Derived.Test.YtginkcjhfdoodabDoorRows
import Derived.WalkKit
import Derived.ProofKit
import Derived.OpenShut
import Derived.ChangeMaps5
import Derived.Stop.Joined
import Derived.Lay
import Derived.SevenTiedAt
import Derived.SizedLaws
import Derived.LaidMore
import Derived.Test.YtginkcjhfdoodabDoorTie
import Derived.Test.YtginkcjhfdoodabDoorCards
import Derived.Test.YtginkcjhfdoodabDoorRpn
import Derived.Test.YtginkcjhfdoodabDoorRpq
import Derived.Test.YtginkcjhfdoodabDoorTabl
namespace Go.Proofs.YtginkcjhfdoodabDoor
open Go.ChangeShapes Go.WideShapes Go.ChangeAt Go.RowKit Go.ChangeMaps
set_option linter.unusedVariables false


theorem own : ownKnob Tryd.prog.godebug = none := by kernel_rfl
open Go.Shelf Go.Lib
set_option maxHeartbeats 4000000 in
set_option maxRecDepth 100000 in
theorem walk (s0 : ByteArray) (w0 : s0.size ≤ maxLen) (N1 : Nat) (hN1 : N1 < S128) (w : World) (hL : laidMetH Tryd.prog Rows.rosterPrintsRow.laid w) :
    Calls Tryd.prog 3 #[.string s0, sv N1] w fun e w' => e = .returned (.bool true) ∧ Below w.heap.size w w' := by
  have hT : Tab w := tab_of hL
  have hT0 := hT.lt
  have hrd := read_any s0 w0
  have hrr := rRead_any s0 w0
  have hal := alive_any
  unfold RdV at hrd
  unfold RdR at hrr
  have hsg := readR_signs s0
  generalize readR s0 = R at *
  obtain ⟨l, x, y⟩ := R
  dsimp only at hrd hrr hsg
  have HP : Hid (∀ (M : Nat) (v : Value) (W : World), Ros M W v l → M ≤ W.heap.size → Tab W → Calls Tryd.prog 7 #[v, sv N1] W fun e w' => e = .returned (.tuple #[.string (prR l N1).1, .int .i64 (prR l N1).2]) ∧ Below W.heap.size W w') := fun M v W h hM hT => print_any W h hM N1 hN1 hT
  have HQ : Hid (∀ (M : Nat) (v : Value) (W : World), RosR M W v l → M ≤ W.heap.size → Calls Tryd.prog 8 #[v, sv N1] W fun e w' => e = .returned (.tuple #[.string (prR l N1).1, .int .i64 (prR l N1).2]) ∧ Below W.heap.size W w') := fun M v W h hM => rPrint_any W h hM N1 hN1
  generalize prR l N1 = P at *
  obtain ⟨t, e⟩ := P
  dsimp only at HP HQ
  simp only [sv] at HP HQ ⊢
  go_enter Tryd.func3, Tryd.ntmps3
  go_wp2_with (first | (go_at_call 5; refine (hrd _).mono ?_; rintro e u1 ⟨⟨v, rfl, hv⟩, hb1⟩; obtain ⟨ad, cap, mb, rfl⟩ := hv.form; have hz1 : w.heap.size + 1 ≤ u1.heap.size := (by simpa using hb1.size); have q1 : Holds4 u1 w.heap.size (wd N1) := (hb1.block _ (by simp)).trans (get_new rfl); have B1 : Hid (Below w.heap.size w (u1.alloc (.cells #[.slice ad l.length cap, .map mb] 28))) := (((Below.refl _ w).alloc (Nat.le_refl _) _).trans (hb1.mono (by simp))).alloc (by omega) _; have H1 : Hid (Holds4 (u1.alloc (.cells #[.slice ad l.length cap, .map mb] 28)) w.heap.size (wd N1)) := get_old q1; have hv1 := hv.alloc (Nat.le_refl _) (.cells #[.slice ad l.length cap, .map mb] 28); clear q1) | (go_at_call 6; refine (hrr _).mono ?_; rintro e u2 ⟨⟨v, rfl, hr⟩, hb2⟩; obtain ⟨ar, cr, rfl⟩ := hr.form; have hz2 : u1.heap.size + 1 ≤ u2.heap.size := (by simpa using hb2.size); have hv2 := (hv1.call (by simp) hb2).alloc (by omega) (.cells #[.slice ar l.length cr] 34); have g2 : u2.heap[u1.heap.size]? = some (.cells #[.slice ad l.length cap, .map mb] 28 (0, 0)) := (hb2.block _ (by simp)).trans (new_at rfl); have c0 := cell_at g2 0; have c1 := cell_at g2 1; have hg2 := lt_at g2; have hr2 := hr.alloc (Nat.le_refl _) (.cells #[.slice ar l.length cr] 34); have q2 := H1.out.carry hb2; have hq2 := q2.lt; obtain ⟨y0, y1, y2, y3, _⟩ := q2.facts; have B2 : Hid (Below w.heap.size w (u2.alloc (.cells #[.slice ar l.length cr] 34))) := (B1.out.trans (hb2.mono (by simp; omega))).alloc (by omega) _; have H2 : Hid (Holds4 (u2.alloc (.cells #[.slice ar l.length cr] 34)) w.heap.size (wd N1)) := get_old q2; clear q2) | (go_at_call 7; refine (HP.out _ _ _ hv2 (by simp; omega) (hT.keep B2.out hT0)).mono ?_; rintro e u3 ⟨rfl, hb3⟩; have hz3 : u2.heap.size + 1 ≤ u3.heap.size := (by simpa using hb3.size); have hr3 := hr2.call (by simp) hb3; have k3 : u3.heap[u2.heap.size]? = some (.cells #[.slice ar l.length cr] 34 (0, 0)) := (hb3.block _ (by simp)).trans (new_at rfl); have d2 := cell_at k3 0; have hlt3 := lt_at k3; have q3 := H2.out.carry hb3; have hq3 := q3.lt; obtain ⟨z0, z1, z2, z3, _⟩ := q3.facts; have B3 : Hid (Below w.heap.size w u3) := B2.out.trans (hb3.mono (by simp; omega)); clear q3) | (go_at_call 8; refine (HQ.out _ _ _ hr3 (by omega)).mono ?_; rintro e u4 ⟨rfl, hb4⟩; have B4 : Hid (Below w.heap.size w u4) := bcarry B3.out (Nat.le_refl _) hb4) | (go_at_call 9; refine (hal _).mono ?_; rintro e u5 ⟨rfl, hb5⟩))
  go_ret
  exact ⟨rfl, bcarry B4.out (Nat.le_refl _) hb5⟩

set_option maxRecDepth 100000 in
theorem lifted (os : Os) (started : os.Started) (H : Type) (enc : TypeId × Value → H) :
    ReturnsInHanded {} Tryd.checked os 3 .any (fun w args => (Rows.rosterPrintsSpec.pre enc Tryd.prog Tryd.f3 [] false w args ∧ laidMetH Tryd.prog Rows.rosterPrintsRow.laid w) ∧ sizedMet enc Tryd.prog Tryd.f3 (OpenSpec.ofChange Rows.rosterPrintsSpec) false w args)
      (Rows.rosterPrintsSpec.post enc Tryd.prog Tryd.f3 false true false false) := by
  refine returnsInHanded_of_change_and (C := Tryd.checked) (X := fun w _ => laidMetH Tryd.prog Rows.rosterPrintsRow.laid w) (fun _ _ _ hh h => h.of_heap hh) own started (by kernel_rfl) Tryd.func3
    (ChangeSpec.witness_shaped (enc := enc) (C := Tryd.checked) (os := os) (X := fun w _ => laidMetH Tryd.prog Rows.rosterPrintsRow.laid w) false (World.laidAll Tryd.prog os Rows.rosterPrintsRow.laid) #[.string ByteArray.empty, .agg #[.int .u32 0, .int .u32 0, .int .u32 0, .int .u32 0]] 8 (World.laidAll_os _ _ _)
      (World.shaped_of_ZipB (by kernel_rfl) (by kernel_rfl)) (by kernel_rfl) (by kernel_rfl) (by kernel_rfl)
      (by rw [MakeChecks.laidMetH_plain _ _ _ (by kernel_rfl)]; exact laidMet_laidAll _ (by kernel_rfl) (by kernel_rfl))) ?_
  intro W base args ds gs before hval0 hW _ _ hL hsz
  have hval : ∀ (j : Nat) t v, Tryd.f3.params[j]? = some t → args[j]? = some v → Value.okWide Tryd.prog W .any base t v := hval0
  have hW' := hW
  obtain ⟨p, q, hA0, hV, rfl, hfz, hnd⟩ := hW
  have hA : DataW.TrodAll enc Tryd.prog W 0 (fun _ => true) true Tryd.f3.params.toList args.toList ds p := hA0
  rw [Tryd.params3] at hA hval
  obtain ⟨v0, vs0, d0, ds0, p0, q0, hargs, rfl, rfl, h0, r0⟩ := trodAll_cons hA
  obtain ⟨v1, vs1, d1, ds1, p1, q1, rfl, rfl, rfl, h1, r1⟩ := trodAll_cons r0
  obtain ⟨rfl, rfl, rfl⟩ := trodAll_nil r1
  obtain rfl : args = #[v0, v1] := by cases args; simp_all
  obtain ⟨rfl, rfl⟩ := trodVars_none hV
  obtain ⟨s0, rfl, rfl, rfl, w0⟩ := open_string Tryd.underlying9 (hval 0 9 v0 rfl rfl) h0
  obtain ⟨N1, hN1, rfl, rfl, rfl⟩ := open_set (hval 1 24 v1 rfl rfl) h1
  clear hA0 hval0
  simp only [List.append_nil] at hW'
  refine (walk s0 w0 N1 hN1 W hL).mono fun e W' ⟨he, hg⟩ => ?_
  subst he
  exact ⟨_, rfl, _, _, _, [], _, [], hW', (trodAll_cons_mk (shut_bool Tryd.underlying4 _) trodAll_mk0), (trodAll_cons_mk (shut_string Tryd.underlying9 w0) (trodAll_cons_mk (shut_set N1) trodAll_mk0)), rfl, hg.frame _, fun h => by cases h⟩

theorem over : Rows.rosterPrintsRow.holds Tryd.pinned (OpenSpec.ofChange Rows.rosterPrintsSpec) :=
  OpenClaim.holds_of_wide 3 Tryd.f3 rfl rfl rfl rfl rfl rfl rfl ⟨rfl, rfl, rfl, rfl, rfl⟩ rfl rfl rfl rfl rfl (by kernel_rfl) Tryd.func3 (by kernel_rfl)
    (of_decide_eq_true (by kernel_rfl)) (by unfold Func.isWrapper; first | (rw [if_pos (by decide +kernel)]; kernel_rfl) | (rw [if_neg (by decide +kernel)]; exact ⟨rfl, rfl⟩))
    (fun os started H enc _ => lifted os started H enc)

theorem row_proved : Rows.RosterPrintsSaid :=
  over
theorem proved : Rows.RosterPrintsCardSaid :=
  Claim7.holds_tied_plain_at .later [] [.data] true (true, "7bd91b1182ac18a50a7a858511e38e0045d2ff291220155019981890f04e7769") false
    row_proved (fun _ h => by cases h) (by kernel_rfl) (fun _ h => by cases h) rosterPrints_row_tie rfl ⟨rfl, rfl⟩ (by kernel_rfl) rfl
    (fun f fn hf hfn => by
      obtain rfl : f = 3 := Option.some.inj ((show Tryd.prog.funcNamed "earshot/earshotlaw4.RosterPrints" = some 3 by kernel_rfl).symm.trans hf) |>.symm
      obtain rfl : fn = Tryd.f3 := (Option.some.inj (Tryd.func3.symm.trans hfn)).symm
      exact ⟨by kernel_rfl, fun j t ht => by
        rw [Tryd.params3] at ht
        rcases j with _ | j
        · have e : t = 9 := by simpa using ht.symm
          subst e
          exact (show Tryd.prog.wantsStandIn 9 = false by kernel_rfl)
        rcases j with _ | j
        · have e : t = 24 := by simpa using ht.symm
          subst e
          exact (show Tryd.prog.wantsStandIn 24 = false by kernel_rfl)
        simp at ht⟩)
    (by kernel_rfl)
#print axioms proved
end Go.Proofs.YtginkcjhfdoodabDoor
