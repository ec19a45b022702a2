/- NoticePrints: at every text of signs and every notice: Print answers as the document says; no condition but the tie of the card. -/
import Derived.Test.YtebpngapkkdifabDoorRows
import Derived.WalkKit
import Derived.ProofKit
import Derived.OpenShut
import Derived.ChangeMaps5
import Derived.Stop.Joined
import Derived.Lay
import Derived.SevenTiedAt
import Derived.SizedLaws
import Derived.LaidMore
import Derived.Test.YtebpngapkkdifabDoorTie
import Derived.Test.YtebpngapkkdifabDoorCards
import Derived.Test.YtebpngapkkdifabDoorNpr
import Derived.Test.YtebpngapkkdifabDoorOpt
namespace Go.Proofs.YtebpngapkkdifabDoor
open Go.ChangeShapes Go.WideShapes Go.ChangeAt Go.RowKit Go.ChangeMaps
set_option linter.unusedVariables false


theorem own : ownKnob Tryd.prog.godebug = none := by kernel_rfl
open Go.Shelf Go.Lib
set_option maxHeartbeats 4000000 in
set_option maxRecDepth 100000 in
theorem walk (s0 : ByteArray) (w0 : s0.size ≤ maxLen) (o1 t1 k1 : Int) (wo1 : (Lit.int .i64 o1).wf = true) (wt1 : (Lit.int .i64 t1).wf = true) (wk1 : (Lit.int .i64 k1).wf = true) (w : World) (hL : laidMetH Tryd.prog Rows.noticePrintsRow.laid w) :
    Calls Tryd.prog 3 #[.string s0, nt o1 t1 k1] w fun e w' => e = .returned (.bool true) ∧ Below w.heap.size w w' := by
  have hP : Pow w := by
    rw [MakeChecks.laidMetH_plain _ _ _ (by kernel_rfl)] at hL
    exact pow_met hL (by simp [Rows.noticePrintsRow])
  have hP0 : Pow (w.alloc (.cells #[.int .i64 o1, .int .i64 t1, .int .i64 k1] 23)) := hP.carry (al1 _ _)
  have n0 : NB (w.alloc (.cells #[.int .i64 o1, .int .i64 t1, .int .i64 k1] 23)) w.heap.size o1 t1 k1 := NB.new w o1 t1 k1
  have hrd := read_any s0 w0
  have hrr := rRead_any s0 w0
  have hal := alive_any
  unfold RdV at hrd
  unfold RdR at hrr
  have hsg := readR_signs s0
  generalize readR s0 = R at *
  obtain ⟨l, x, y⟩ := R
  dsimp only at hrd hrr hsg
  obtain ⟨S, z, hv⟩ : ∃ S z, prV l o1 t1 k1 = .tuple #[.string S, .int .i64 z] := by
    unfold prV
    split
    · exact ⟨_, _, rfl⟩
    · exact ⟨_, _, rfl⟩
  have HR : Hid (∀ (M : Nat) (v : Value) (W : World), Ros M W v l → M ≤ W.heap.size → Pow W → Calls Tryd.prog 7 #[v, .agg #[.int .i64 o1, .int .i64 t1, .int .i64 k1]] W fun e' w' => e' = .returned (.tuple #[.string S, .int .i64 z]) ∧ Below W.heap.size W w') := fun M v W h hM hT => by
    have := nprint_any W h hM o1 t1 k1 hT
    rw [hv] at this
    exact this
  have HS : Hid (∀ (M : Nat) (v : Value) (W : World), RosR M W v l → M ≤ W.heap.size → Calls Tryd.prog 8 #[v, .agg #[.int .i64 o1, .int .i64 t1, .int .i64 k1]] W fun e' w' => e' = .returned (.tuple #[.string S, .int .i64 z]) ∧ Below W.heap.size W w') := fun M v W h hM => by
    have := rNprint_any W h hM o1 t1 k1
    rw [hv] at this
    exact this
  clear hv hP
  go_enter Tryd.func3, Tryd.ntmps3
  unfold nt
  go_wp2_with (first | (go_at_call 5; refine (hrd _).mono ?_; rintro e1 u1 ⟨⟨v, rfl, hv⟩, hb1⟩; obtain ⟨ad, cap, mb, rfl⟩ := hv.form; have hP1 := (hP0.carry hb1).carry (al1 u1 (.cells #[.slice ad l.length cap, .map mb] 27)); have q1 : (u1.alloc (.cells #[.slice ad l.length cap, .map mb] 27)).heap[u1.heap.size]? = some (.cells #[.slice ad l.length cap, .map mb] 27 (0, 0)) := new_at rfl; have hv1 := hv.alloc (Nat.le_refl _) (.cells #[.slice ad l.length cap, .map mb] 27); have n1 : NB (u1.alloc (.cells #[.slice ad l.length cap, .map mb] 27)) w.heap.size o1 t1 k1 := (n0.carry hb1).old _) | (go_at_call 6; refine (hrr _).mono ?_; rintro e2 u2 ⟨⟨v, rfl, hr⟩, hb2⟩; obtain ⟨ar, cr, rfl⟩ := hr.form; have hz2 : u1.heap.size + 1 ≤ u2.heap.size := (by simpa using hb2.size); have q2 : u2.heap[u1.heap.size]? = some (.cells #[.slice ad l.length cap, .map mb] 27 (0, 0)) := (hb2.block _ (by simp)).trans q1; have y2a := cell_at q2 0; have y2b := cell_at q2 1; have q2l := lt_at q2; have n2 := n1.carry hb2; have n2a := n2.c0; have n2b := n2.c1; have n2c := n2.c2; have n2l := n2.lt; have hv2 := hv1.call (by simp) hb2; have hc3 := HR.out _ _ (u2.alloc (.cells #[.slice ar l.length cr] 33)) (hv2.alloc (by omega) _) (by simp; omega) ((hP1.carry hb2).carry (al1 _ _))) | (go_at_call 7; (with_reducible refine hc3.mono ?_); rintro e3 u3 ⟨rfl, hb3⟩; have q3 : u3.heap[u2.heap.size]? = some (.cells #[.slice ar l.length cr] 33 (0, 0)) := (hb3.block _ (by simp)).trans (new_at rfl); have y3a := cell_at q3 0; have q3l := lt_at q3; have n3 : NB u3 w.heap.size o1 t1 k1 := (n2.old _).carry hb3; have n3a := n3.c0; have n3b := n3.c1; have n3c := n3.c2; have n3l := n3.lt; have hr3 := (hr.alloc (Nat.le_refl _) (.cells #[.slice ar l.length cr] 33)).call (by simp) hb3; have hc4 := HS.out _ _ u3 hr3 (by omega)) | (go_at_call 8; (with_reducible refine hc4.mono ?_); rintro e4 u4 ⟨rfl, hb4⟩) | (go_at_call 9; (with_reducible refine (hal _).mono ?_); rintro e5 u5 ⟨rfl, hb5⟩))
  go_ret
  refine ⟨rfl, ?_⟩
  exact bel2 (bel2 (bel2 (bel2 (bel2 (bel2 (bel2 (al1 w _) hb1) (al1 _ _)) hb2) (al1 _ _)) hb3) hb4) hb5

set_option maxRecDepth 100000 in
theorem lifted (os : Os) (started : os.Started) (H : Type) (enc : TypeId × Value → H) :
    ReturnsInHanded {} Tryd.checked os 3 .any (fun w args => (Rows.noticePrintsSpec.pre enc Tryd.prog Tryd.f3 [] false w args ∧ laidMetH Tryd.prog Rows.noticePrintsRow.laid w) ∧ sizedMet enc Tryd.prog Tryd.f3 (OpenSpec.ofChange Rows.noticePrintsSpec) false w args)
      (Rows.noticePrintsSpec.post enc Tryd.prog Tryd.f3 false true false false) := by
  refine returnsInHanded_of_change_and (C := Tryd.checked) (X := fun w _ => laidMetH Tryd.prog Rows.noticePrintsRow.laid w) (fun _ _ _ hh h => h.of_heap hh) own started (by kernel_rfl) Tryd.func3
    (ChangeSpec.witness_shaped (enc := enc) (C := Tryd.checked) (os := os) (X := fun w _ => laidMetH Tryd.prog Rows.noticePrintsRow.laid w) false (World.laidAll Tryd.prog os Rows.noticePrintsRow.laid) #[.string ByteArray.empty, .agg #[.int .i64 0, .int .i64 0, .int .i64 0]] 8 (World.laidAll_os _ _ _)
      (World.shaped_of_ZipB (by kernel_rfl) (by kernel_rfl)) (by kernel_rfl) (by kernel_rfl) (by kernel_rfl)
      (by rw [MakeChecks.laidMetH_plain _ _ _ (by kernel_rfl)]; exact laidMet_laidAll _ (by kernel_rfl) (by kernel_rfl))) ?_
  intro W base args ds gs before hval0 hW _ _ hL hsz
  have hval : ∀ (j : Nat) t v, Tryd.f3.params[j]? = some t → args[j]? = some v → Value.okWide Tryd.prog W .any base t v := hval0
  have hW' := hW
  obtain ⟨p, q, hA0, hV, rfl, hfz, hnd⟩ := hW
  have hA : DataW.TrodAll enc Tryd.prog W 0 (fun _ => true) true Tryd.f3.params.toList args.toList ds p := hA0
  rw [Tryd.params3] at hA hval
  obtain ⟨v0, vs0, d0, ds0, p0, q0, hargs, rfl, rfl, h0, r0⟩ := trodAll_cons hA
  obtain ⟨v1, vs1, d1, ds1, p1, q1, rfl, rfl, rfl, h1, r1⟩ := trodAll_cons r0
  obtain ⟨rfl, rfl, rfl⟩ := trodAll_nil r1
  obtain rfl : args = #[v0, v1] := by cases args; simp_all
  obtain ⟨rfl, rfl⟩ := trodVars_none hV
  obtain ⟨s0, rfl, rfl, rfl, w0⟩ := open_string Tryd.underlying9 (hval 0 9 v0 rfl rfl) h0
  obtain ⟨o1, t1, k1, rfl, rfl, rfl, wo1, wt1, wk1⟩ := open_nt (hval 1 23 v1 rfl rfl) h1
  clear hA0 hval0
  simp only [List.append_nil] at hW'
  refine (walk s0 w0 o1 t1 k1 wo1 wt1 wk1 W hL).mono fun e W' ⟨he, hg⟩ => ?_
  subst he
  exact ⟨_, rfl, _, _, _, [], _, [], hW', (trodAll_cons_mk (shut_bool Tryd.underlying4 _) trodAll_mk0), (trodAll_cons_mk (shut_string Tryd.underlying9 w0) (trodAll_cons_mk (shut_nt wo1 wt1 wk1) trodAll_mk0)), rfl, hg.frame _, fun h => by cases h⟩

theorem over : Rows.noticePrintsRow.holds Tryd.pinned (OpenSpec.ofChange Rows.noticePrintsSpec) :=
  OpenClaim.holds_of_wide 3 Tryd.f3 rfl rfl rfl rfl rfl rfl rfl ⟨rfl, rfl, rfl, rfl, rfl⟩ rfl rfl rfl rfl rfl (by kernel_rfl) Tryd.func3 (by kernel_rfl)
    (of_decide_eq_true (by kernel_rfl)) (by unfold Func.isWrapper; first | (rw [if_pos (by decide +kernel)]; kernel_rfl) | (rw [if_neg (by decide +kernel)]; exact ⟨rfl, rfl⟩))
    (fun os started H enc _ => lifted os started H enc)

theorem row_proved : Rows.NoticePrintsSaid :=
  over
theorem proved : Rows.NoticePrintsCardSaid :=
  Claim7.holds_tied_plain_at .later [] [.data, .data, .data] true (true, "527e7bd0a86b1deacfe8b10021f13a8c29de85294eca110d0f48adb08199bac2") false
    row_proved (fun _ h => by cases h) (by kernel_rfl) (fun _ h => by cases h) noticePrints_row_tie rfl ⟨rfl, rfl⟩ (by kernel_rfl) rfl
    (fun f fn hf hfn => by
      obtain rfl : f = 3 := Option.some.inj ((show Tryd.prog.funcNamed "earshot/earshotlaw5.NoticePrints" = some 3 by kernel_rfl).symm.trans hf) |>.symm
      obtain rfl : fn = Tryd.f3 := (Option.some.inj (Tryd.func3.symm.trans hfn)).symm
      exact ⟨by kernel_rfl, fun j t ht => by
        rw [Tryd.params3] at ht
        rcases j with _ | j
        · have e : t = 9 := by simpa using ht.symm
          subst e
          exact (show Tryd.prog.wantsStandIn 9 = false by kernel_rfl)
        rcases j with _ | j
        · have e : t = 23 := by simpa using ht.symm
          subst e
          exact (show Tryd.prog.wantsStandIn 23 = false by kernel_rfl)
        simp at ht⟩)
    (by kernel_rfl)
#print axioms proved
end Go.Proofs.YtebpngapkkdifabDoor
