/- RefuteNone (promises P1501, P1502): without a book nothing is due, and Defend answers nothing and OK; without a boot Defend of a book that has a suspicion answers ErrArg, and the book is as it was. For every input; nothing is asked of it. -/
import Derived.Test.YtlpmehmoeladjaaDoorRows
import Derived.WalkKit
import Derived.ProofKit
import Derived.OpenShut
import Derived.Stop.Joined
import Derived.Lay
import Derived.SevenTiedAt
import Derived.SizedLaws
import Derived.LaidMore
import Derived.Test.YtlpmehmoeladjaaDoorTie
import Derived.Test.YtlpmehmoeladjaaDoorCards
import Derived.Test.YtlpmehmoeladjaaDoorJnJ22
namespace Go.Proofs.YtlpmehmoeladjaaDoor
open Go.ChangeShapes Go.WideShapes Go.ChangeAt Go.RowKit
set_option linter.unusedVariables false


theorem own : ownKnob Tryd.prog.godebug = none := by kernel_rfl
open Go.Shelf Go.Lib
set_option maxHeartbeats 8000000 in
set_option maxRecDepth 100000 in
theorem walk (a0 : Int) (w0 : (Lit.int .i64 a0).wf = true) (w : World) (hL : laidMetH Tryd.prog Rows.refuteNoneRow.laid w) :
    Calls Tryd.prog 6 #[.int .i64 a0] w fun e w' => e = .returned (.bool true) ∧ Below w.heap.size w w' := by
  obtain ⟨a, hs⟩ := sn_of hL
  have hd0 := eDue_any (w := w) (.inl rfl) a0
  have hD0 : ∀ V, Calls Tryd.prog 13 #[.pointer none, .int .i64 a0, .pointer none] V fun e w' => e = .returned (.tuple #[nt 0 0 0, .bool false, .int .i64 0]) ∧ Below V.heap.size V w' := fun V => defend_no _ _ a0 (.inl rfl) (fun W _ => edue_any (.inl rfl) a0)
  have hnw : ∀ V, Calls Tryd.prog 9 #[.int .i64 2, .int .i64 1, .int .i64 0] V fun e w' => ∃ p g, e = .returned (.tuple #[.pointer (some ⟨p, 0, none⟩), .int .i64 0]) ∧ V.heap.size ≤ p ∧ V.heap.size ≤ g ∧ Bk w' p g (bk0 2 1 0) ∧ Below V.heap.size V w' := fun V =>
    (new_any 2 1 0 V).mono (by
      rintro e w' h
      obtain ⟨p, g, rfl, h1, h2, h3⟩ := h.ok (by decide) (by decide) (by decide)
      exact ⟨p, g, rfl, h1, h2, h3, h.1⟩)
  have htk : ∀ V p g, Bk V p g (bk0 2 1 0) → Calls Tryd.prog 19 #[.pointer (some ⟨p, 0, none⟩), .agg #[.int .i64 1, .int .i64 4, .int .i64 2]] V fun e w' => e = .returned (.tuple #[.bool true, .int .i64 0]) ∧ Bk w' p g (tke (bk0 2 1 0) (1, 4, 2)) ∧ V.grownBy w' (some g) := fun V p g hV => by
    have := take_any hV 1 4 2
    rw [show tkb (bk0 2 1 0) (1, 4, 2) = true by decide, show vlx (bk0 2 1 0).length (1, 4, 2) = true by decide, if_pos rfl] at this
    exact this
  have hbo : Bok (tke (bk0 2 1 0) (1, 4, 2)) := tke_bok (bk0_bok (by decide) (by decide)) _
  have hdf : ∀ V p g, Bk V p g (tke (bk0 2 1 0) (1, 4, 2)) → Calls Tryd.prog 13 #[.pointer (some ⟨p, 0, none⟩), .int .i64 1, .pointer none] V fun e w' => e = .returned (.tuple #[nt 0 0 0, .bool false, .int .i64 1]) ∧ Below V.heap.size V w' := fun V p g k => defendN k hbo 1 (x := (1, 5, 1)) (by decide)
  have hat : ∀ V p g, Bk V p g (tke (bk0 2 1 0) (1, 4, 2)) → Calls Tryd.prog 12 #[.pointer (some ⟨p, 0, none⟩), .int .i64 1] V fun e w' => e = .returned (.tuple #[.agg #[.int .i64 1, .int .i64 4, .int .i64 2], .int .i64 0]) ∧ Below V.heap.size V w' := fun V p g k => by
    have := at_any k ((1 : Nat) : Int)
    rw [atV_in (l := tke (bk0 2 1 0) (1, 4, 2)) (i := 1) (x := (1, 4, 2)) (by decide)] at this
    exact this
  obtain ⟨L0, hL0⟩ : ∃ L, bk0 2 1 0 = L := ⟨_, rfl⟩
  rw [hL0] at hnw htk hdf hat
  obtain ⟨L1, hL1⟩ : ∃ L, tke L0 (1, 4, 2) = L := ⟨_, rfl⟩
  rw [hL1] at htk hdf hat
  unfold dueV at hd0
  unfold nt at hd0 hD0 hdf
  clear hL0 hL1 hbo hL
  go_enter Tryd.func6, Tryd.ntmps6
  go_wp2_with (first
    | (have m := st6; go_at_call 10; (with_reducible refine st6.mono ?_); rintro e u7 ⟨rfl, hu7⟩; have n6' := Nx6.carry hu7; have n5' := n5.carry hu7; have n2' := n2.carry hu7; have ya0 := n6'.c0; have ya1 := n6'.c1; have ya2 := n6'.c2; have yb0 := n5'.c0; have yb1 := n5'.c1; have yb2 := n5'.c2; have yc0 := n2'.c0; have yc1 := n2'.c1; have yc2 := n2'.c2)
    | (have m := st5; go_at_call 12; (with_reducible refine st5.mono ?_); rintro e u6 ⟨rfl, hu6⟩; obtain ⟨x6, hx6⟩ : ∃ x6, u6.alloc (.cells #[.int .i64 1, .int .i64 4, .int .i64 2] 39) = x6 := ⟨_, rfl⟩; have Bx6 : Below u6.heap.size u6 x6 := (by rw [← hx6]; exact al1 _ _); have Nx6 : NB x6 u6.heap.size 1 4 2 := (by rw [← hx6]; exact NB.new _ _ _ _); have z3 : w.heap.size ≤ x2.heap.size := (by have h1 := hu1.size; have h2 := Bx1.size; have h3 := hu2.size; have h4 := Bx2.size; omega); have Y4 : Below w.heap.size w u4 := (bel2 (bel2 (bel2 (bel2 (bel2 hu1 Bx1) hu2) Bx2) hu3) (Below.refl _ _)).trans (grown_low hg4 (by omega) (by have := hu3.size; omega)); have Y6 : Below w.heap.size w x6 := bel2 (bel2 (bel2 (bel2 Y4 hu5) Bx5) hu6) Bx6; have n5 := (Nx5.carry hu6).carry Bx6; have n2 : NB x6 u2.heap.size 0 0 0 := ((((NB.carry (hg4.block _ (lt_at (Nx2.carry hu3)) (by have := Nx2.lt; simp; omega) |>.trans (Nx2.carry hu3)) hu5).carry Bx5).carry hu6).carry Bx6); have st6 := alive_any (hs.carry Y6))
    | (have m := st4; go_at_call 13; (with_reducible refine st4.mono ?_); rintro e u5 ⟨rfl, hu5⟩; obtain ⟨v5, hv5⟩ : ∃ v5, u5.alloc (.cells #[.int .i64 0, .int .i64 0, .int .i64 0] 39) = v5 := ⟨_, rfl⟩; have Bv5 : Below u5.heap.size u5 v5 := (by rw [← hv5]; exact al1 _ _); have Nv5 : NB v5 u5.heap.size 0 0 0 := (by rw [← hv5]; exact NB.new _ _ _ _); have zc0 := Nv5.c0; have zc1 := Nv5.c1; have zc2 := Nv5.c2; have zc3 := Nv5.thaw 0; have zc4 := Nv5.thaw 1; have zc5 := Nv5.thaw 2; obtain ⟨x5, hx5⟩ : ∃ x5, W3 v5 u5.heap.size 0 0 0 = x5 := ⟨_, rfl⟩; have Bx5 : Below u5.heap.size u5 x5 := (by rw [← hx5]; exact below3 Bv5 (Nat.le_refl _) _ _ _); have Nx5 : NB x5 u5.heap.size 0 0 0 := (by rw [← hx5]; exact Nv5.set 0 0 0); unfold W3 at hx5; have K5 := (hK4.carry hu5).carry Bx5; have st5 := hat _ _ _ K5)
    | (have m := st3; go_at_call 19; (with_reducible refine st3.mono ?_); rintro e u4 ⟨rfl, hK4, hg4⟩; have st4 := hdf _ _ _ hK4)
    | (have m := st2; go_at_call 9; (with_reducible refine st2.mono ?_); rintro e u3 ⟨p, g, rfl, hp3, hg3, hK3, hu3⟩; have st3 := htk _ _ _ hK3)
    | (have m := st1; go_at_call 13; (with_reducible refine st1.mono ?_); rintro e u2 ⟨rfl, hu2⟩; obtain ⟨v2, hv2⟩ : ∃ v2, u2.alloc (.cells #[.int .i64 0, .int .i64 0, .int .i64 0] 39) = v2 := ⟨_, rfl⟩; have Bv2 : Below u2.heap.size u2 v2 := (by rw [← hv2]; exact al1 _ _); have Nv2 : NB v2 u2.heap.size 0 0 0 := (by rw [← hv2]; exact NB.new _ _ _ _); have zb0 := Nv2.c0; have zb1 := Nv2.c1; have zb2 := Nv2.c2; have zb3 := Nv2.thaw 0; have zb4 := Nv2.thaw 1; have zb5 := Nv2.thaw 2; obtain ⟨x2, hx2⟩ : ∃ x2, W3 v2 u2.heap.size 0 0 0 = x2 := ⟨_, rfl⟩; have Bx2 : Below u2.heap.size u2 x2 := (by rw [← hx2]; exact below3 Bv2 (Nat.le_refl _) _ _ _); have Nx2 : NB x2 u2.heap.size 0 0 0 := (by rw [← hx2]; exact Nv2.set 0 0 0); unfold W3 at hx2; have st2 := hnw x2)
    | (go_at_call 26; (with_reducible refine hd0.mono ?_); rintro e u1 ⟨rfl, hu1⟩; obtain ⟨v1, hv1⟩ : ∃ v1, u1.alloc (.cells #[.int .i64 0, .int .i64 0, .int .i64 0] 39) = v1 := ⟨_, rfl⟩; have Bv1 : Below u1.heap.size u1 v1 := (by rw [← hv1]; exact al1 _ _); have Nv1 : NB v1 u1.heap.size 0 0 0 := (by rw [← hv1]; exact NB.new _ _ _ _); have za0 := Nv1.c0; have za1 := Nv1.c1; have za2 := Nv1.c2; have za3 := Nv1.thaw 0; have za4 := Nv1.thaw 1; have za5 := Nv1.thaw 2; obtain ⟨x1, hx1⟩ : ∃ x1, W3 v1 u1.heap.size 0 0 0 = x1 := ⟨_, rfl⟩; have Bx1 : Below u1.heap.size u1 x1 := (by rw [← hx1]; exact below3 Bv1 (Nat.le_refl _) _ _ _); have Nx1 : NB x1 u1.heap.size 0 0 0 := (by rw [← hx1]; exact Nv1.set 0 0 0); unfold W3 at hx1; have st1 := hD0 x1))
  go_ret
  exact ⟨rfl, bel2 Y6 hu7⟩

set_option maxRecDepth 100000 in
theorem lifted (os : Os) (started : os.Started) (H : Type) (enc : TypeId × Value → H) :
    ReturnsInHanded {} Tryd.checked os 6 .any (fun w args => (Rows.refuteNoneSpec.pre enc Tryd.prog Tryd.f6 [] false w args ∧ laidMetH Tryd.prog Rows.refuteNoneRow.laid w) ∧ sizedMet enc Tryd.prog Tryd.f6 (OpenSpec.ofChange Rows.refuteNoneSpec) false w args)
      (Rows.refuteNoneSpec.post enc Tryd.prog Tryd.f6 false true false false) := by
  refine returnsInHanded_of_change_and (C := Tryd.checked) (X := fun w _ => laidMetH Tryd.prog Rows.refuteNoneRow.laid w) (fun _ _ _ hh h => h.of_heap hh) own started (by kernel_rfl) Tryd.func6
    (ChangeSpec.witness_shaped (enc := enc) (C := Tryd.checked) (os := os) (X := fun w _ => laidMetH Tryd.prog Rows.refuteNoneRow.laid w) false (World.laidAll Tryd.prog os Rows.refuteNoneRow.laid) #[.int .i64 0] 8 (World.laidAll_os _ _ _)
      (World.shaped_of_ZipB (by kernel_rfl) (by kernel_rfl)) (by kernel_rfl) (by kernel_rfl) (by kernel_rfl)
      (by rw [MakeChecks.laidMetH_plain _ _ _ (by kernel_rfl)]; exact laidMet_laidAll _ (by kernel_rfl) (by kernel_rfl))) ?_
  intro W base args ds gs before hval0 hW _ hsz hL _
  have hval : ∀ (j : Nat) t v, Tryd.f6.params[j]? = some t → args[j]? = some v → Value.okWide Tryd.prog W .any base t v := hval0
  have hW' := hW
  obtain ⟨p, q, hA0, hV, rfl, hfz, hnd⟩ := hW
  have hA : DataW.TrodAll enc Tryd.prog W 0 (fun _ => true) true Tryd.f6.params.toList args.toList ds p := hA0
  rw [Tryd.params6] at hA hval
  obtain ⟨v0, vs0, d0, ds0, p0, q0, hargs, rfl, rfl, h0, r0⟩ := trodAll_cons hA
  obtain ⟨rfl, rfl, rfl⟩ := trodAll_nil r0
  obtain rfl : args = #[v0] := by cases args; simp_all
  obtain ⟨rfl, rfl⟩ := trodVars_none hV
  obtain ⟨a0, rfl, rfl, rfl, w0⟩ := open_int Tryd.underlying3 (hval 0 3 v0 rfl rfl) h0
  clear hA0 hval0
  simp only [List.append_nil] at hW'
  refine (walk a0 w0 W hL).mono fun e W' ⟨he, hg⟩ => ?_
  subst he
  exact ⟨_, rfl, _, _, _, [], _, [], hW', (trodAll_cons_mk (shut_bool Tryd.underlying4 _) trodAll_mk0), (trodAll_cons_mk (shut_int Tryd.underlying3 w0) trodAll_mk0), rfl, hg.frame _, fun h => by cases h⟩

theorem over : Rows.refuteNoneRow.holds Tryd.pinned (OpenSpec.ofChange Rows.refuteNoneSpec) :=
  OpenClaim.holds_of_wide 6 Tryd.f6 rfl rfl rfl rfl rfl rfl rfl ⟨rfl, rfl, rfl, rfl, rfl⟩ rfl rfl rfl rfl rfl (by kernel_rfl) Tryd.func6 (by kernel_rfl)
    (of_decide_eq_true (by kernel_rfl)) (by unfold Func.isWrapper; first | (rw [if_pos (by decide +kernel)]; kernel_rfl) | (rw [if_neg (by decide +kernel)]; exact ⟨rfl, rfl⟩))
    (fun os started H enc _ => lifted os started H enc)

theorem row_proved : Rows.RefuteNoneSaid :=
  over
theorem proved : Rows.RefuteNoneCardSaid :=
  Claim7.holds_tied_plain_at .later [] [.sentinel] true (true, "27a30db777e2e2083e8a5974727a1406e454a355e1787fd83c9a8439e2d84fd0") true
    row_proved (fun _ h => by cases h) (by kernel_rfl) (fun _ h => by cases h) refuteNone_row_tie rfl ⟨rfl, rfl⟩ (by kernel_rfl) rfl
    (fun f fn hf hfn => by
      obtain rfl : f = 6 := Option.some.inj ((show Tryd.prog.funcNamed "earshot/earshotlaw15.RefuteNone" = some 6 by kernel_rfl).symm.trans hf) |>.symm
      obtain rfl : fn = Tryd.f6 := (Option.some.inj (Tryd.func6.symm.trans hfn)).symm
      exact ⟨by kernel_rfl, fun j t ht => by
        rw [Tryd.params6] at ht
        rcases j with _ | j
        · have e : t = 3 := by simpa using ht.symm
          subst e
          exact (show Tryd.prog.wantsStandIn 3 = false by kernel_rfl)
        simp at ht⟩)
    (by kernel_rfl)
#print axioms proved
end Go.Proofs.YtlpmehmoeladjaaDoor
