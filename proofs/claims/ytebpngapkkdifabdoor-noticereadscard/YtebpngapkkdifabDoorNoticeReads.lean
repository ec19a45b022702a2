/- NoticeReads: at every text of signs and every text: Read answers as the document says; no condition but the tie of the card. -/
import Derived.Test.YtebpngapkkdifabDoorRows
import Derived.WalkKit
import Derived.ProofKit
import Derived.OpenShut
import Derived.ChangeMaps5
import Derived.Stop.Joined
import Derived.Lay
import Derived.SevenTiedAt
import Derived.SizedLaws
import Derived.LaidMore
import Derived.Test.YtebpngapkkdifabDoorTie
import Derived.Test.YtebpngapkkdifabDoorCards
import Derived.Test.YtebpngapkkdifabDoorNrh
import Derived.Test.YtebpngapkkdifabDoorRfa
namespace Go.Proofs.YtebpngapkkdifabDoor
open Go.ChangeShapes Go.WideShapes Go.ChangeAt Go.RowKit Go.ChangeMaps
set_option linter.unusedVariables false


theorem own : ownKnob Tryd.prog.godebug = none := by kernel_rfl
open Go.Shelf Go.Lib
theorem bin_eqlb {x y : Operand} {w : World} (a : Bool) : binRun Tryd.prog .eql 4 x y (.bool a) (.bool a) w = .ok (.bool true) w := by
  unfold binRun
  cases a <;> go_simp
set_option maxHeartbeats 4000000 in
set_option maxRecDepth 100000 in
theorem walk (s0 : ByteArray) (w0 : s0.size ≤ maxLen) (s1 : ByteArray) (w1 : s1.size ≤ maxLen) (w : World) (hL : laidMetH Tryd.prog Rows.noticeReadsRow.laid w) :
    Calls Tryd.prog 4 #[.string s0, .string s1] w fun e w' => e = .returned (.bool true) ∧ Below w.heap.size w w' := by
  have hT : Ut w := by
    rw [MakeChecks.laidMetH_plain _ _ _ (by kernel_rfl)] at hL
    exact tabs_met hL (by simp [Rows.noticeReadsRow]) (by simp [Rows.noticeReadsRow])
  have hrd := read_any s0 w0
  have hrr := rRead_any s0 w0
  have hal := alive_any
  unfold RdV at hrd
  unfold RdR at hrr
  have hsg := readR_signs s0
  generalize readR s0 = R at *
  obtain ⟨l, x, y⟩ := R
  dsimp only at hrd hrr hsg
  obtain ⟨⟨a, b, c, e⟩, hv⟩ : ∃ r, rdP l s1 = r := ⟨_, rfl⟩
  have HR : Hid (∀ (M : Nat) (v : Value) (W : World), Ros M W v l → M ≤ W.heap.size → Ut W → Calls Tryd.prog 10 #[v, .string s1] W fun e' w' => e' = .returned (.tuple #[.agg #[.int .i64 a, .int .i64 b, .int .i64 c], .int .i64 e]) ∧ Below W.heap.size W w') := fun M v W h hM hT => by
    have := nread_any W h hM s1 w1 hT
    rw [hv] at this
    exact this
  have HS : Hid (∀ (M : Nat) (v : Value) (W : World), RosR M W v l → M ≤ W.heap.size → Calls Tryd.prog 11 #[v, .string s1] W fun e' w' => e' = .returned (.tuple #[.agg #[.int .i64 a, .int .i64 b, .int .i64 c], .int .i64 e]) ∧ Below W.heap.size W w') := fun M v W h hM => by
    have := rNread_any W h hM s1 w1
    rw [← rd_eq hsg, hv] at this
    exact this
  clear hv
  go_enter Tryd.func4, Tryd.ntmps4
  go_wp2_with (first | (go_at_call 5; refine (hrd _).mono ?_; rintro e1 u1 ⟨⟨v, rfl, hv⟩, hb1⟩; obtain ⟨ad, cap, mb, rfl⟩ := hv.form; have hU1 := hT.carry hb1; have q1 : (u1.alloc (.cells #[.slice ad l.length cap, .map mb] 27)).heap[u1.heap.size]? = some (.cells #[.slice ad l.length cap, .map mb] 27 (0, 0)) := new_at rfl; have hv1 := hv.alloc (Nat.le_refl _) (.cells #[.slice ad l.length cap, .map mb] 27); have hU1b := hU1.carry (al1 u1 (.cells #[.slice ad l.length cap, .map mb] 27))) | (go_at_call 6; refine (hrr _).mono ?_; rintro e2 u2 ⟨⟨v, rfl, hr⟩, hb2⟩; obtain ⟨ar, cr, rfl⟩ := hr.form; have hz2 : u1.heap.size + 1 ≤ u2.heap.size := (by simpa using hb2.size); have q2 : u2.heap[u1.heap.size]? = some (.cells #[.slice ad l.length cap, .map mb] 27 (0, 0)) := (hb2.block _ (by simp)).trans q1; have y2a := cell_at q2 0; have y2b := cell_at q2 1; have q2l := lt_at q2; have hv2 := hv1.call (by simp) hb2; have hU2 := hU1b.carry hb2; have hc3 := HR.out _ _ (u2.alloc (.cells #[.slice ar l.length cr] 33)) (hv2.alloc (by omega) _) (by simp; omega) (hU2.carry (al1 _ _))) | (go_at_call 10; (with_reducible refine hc3.mono ?_); rintro e3 u3 ⟨rfl, hb3⟩; have q3 : u3.heap[u2.heap.size]? = some (.cells #[.slice ar l.length cr] 33 (0, 0)) := (hb3.block _ (by simp)).trans (new_at rfl); have y3a := cell_at q3 0; have q3l := lt_at q3; have hr3 := (hr.alloc (Nat.le_refl _) (.cells #[.slice ar l.length cr] 33)).call (by simp) hb3; have hc4 := HS.out _ _ (u3.alloc (.cells #[.int .i64 a, .int .i64 b, .int .i64 c] 23)) (hr3.alloc (by omega) _) (by simp; omega)) | (go_at_call 11; (with_reducible refine hc4.mono ?_); rintro e4 u4 ⟨rfl, hb4⟩; have q4 : NB u4 u3.heap.size a b c := NB.carry (NB.new u3 a b c) hb4; have q4l := q4.lt; have hj4 : NB (u4.alloc (.cells #[.int .i64 a, .int .i64 b, .int .i64 c] 23)) u3.heap.size a b c := q4.old _) | (go_at_call 9; (with_reducible refine (hal _).mono ?_); rintro e5 u5 ⟨rfl, hb5⟩; have q5 : NB u5 u3.heap.size a b c := hj4.carry hb5; have q6 : NB u5 u4.heap.size a b c := NB.carry (NB.new u4 a b c) hb5; have y5a := q5.c0; have y5b := q5.c1; have y5c := q5.c2; have y6a := q6.c0; have y6b := q6.c1; have y6c := q6.c2))
  go_ret
  refine ⟨rfl, ?_⟩
  exact bel2 (bel2 (bel2 (bel2 (bel2 (bel2 (bel2 (bel2 (bel2 (Below.refl _ w) hb1) (al1 _ _)) hb2) (al1 _ _)) hb3) (al1 _ _)) hb4) (al1 _ _)) hb5

set_option maxRecDepth 100000 in
theorem lifted (os : Os) (started : os.Started) (H : Type) (enc : TypeId × Value → H) :
    ReturnsInHanded {} Tryd.checked os 4 .any (fun w args => (Rows.noticeReadsSpec.pre enc Tryd.prog Tryd.f4 [] false w args ∧ laidMetH Tryd.prog Rows.noticeReadsRow.laid w) ∧ sizedMet enc Tryd.prog Tryd.f4 (OpenSpec.ofChange Rows.noticeReadsSpec) false w args)
      (Rows.noticeReadsSpec.post enc Tryd.prog Tryd.f4 false true false false) := by
  refine returnsInHanded_of_change_and (C := Tryd.checked) (X := fun w _ => laidMetH Tryd.prog Rows.noticeReadsRow.laid w) (fun _ _ _ hh h => h.of_heap hh) own started (by kernel_rfl) Tryd.func4
    (ChangeSpec.witness_shaped (enc := enc) (C := Tryd.checked) (os := os) (X := fun w _ => laidMetH Tryd.prog Rows.noticeReadsRow.laid w) false (World.laidAll Tryd.prog os Rows.noticeReadsRow.laid) #[.string ByteArray.empty, .string ByteArray.empty] 8 (World.laidAll_os _ _ _)
      (World.shaped_of_ZipB (by kernel_rfl) (by kernel_rfl)) (by kernel_rfl) (by kernel_rfl) (by kernel_rfl)
      (by rw [MakeChecks.laidMetH_plain _ _ _ (by kernel_rfl)]; exact laidMet_laidAll _ (by kernel_rfl) (by kernel_rfl))) ?_
  intro W base args ds gs before hval0 hW _ _ hL hsz
  have hval : ∀ (j : Nat) t v, Tryd.f4.params[j]? = some t → args[j]? = some v → Value.okWide Tryd.prog W .any base t v := hval0
  have hW' := hW
  obtain ⟨p, q, hA0, hV, rfl, hfz, hnd⟩ := hW
  have hA : DataW.TrodAll enc Tryd.prog W 0 (fun _ => true) true Tryd.f4.params.toList args.toList ds p := hA0
  rw [Tryd.params4] at hA hval
  obtain ⟨v0, vs0, d0, ds0, p0, q0, hargs, rfl, rfl, h0, r0⟩ := trodAll_cons hA
  obtain ⟨v1, vs1, d1, ds1, p1, q1, rfl, rfl, rfl, h1, r1⟩ := trodAll_cons r0
  obtain ⟨rfl, rfl, rfl⟩ := trodAll_nil r1
  obtain rfl : args = #[v0, v1] := by cases args; simp_all
  obtain ⟨rfl, rfl⟩ := trodVars_none hV
  obtain ⟨s0, rfl, rfl, rfl, w0⟩ := open_string Tryd.underlying9 (hval 0 9 v0 rfl rfl) h0
  obtain ⟨s1, rfl, rfl, rfl, w1⟩ := open_string Tryd.underlying9 (hval 1 9 v1 rfl rfl) h1
  clear hA0 hval0
  simp only [List.append_nil] at hW'
  refine (walk s0 w0 s1 w1 W hL).mono fun e W' ⟨he, hg⟩ => ?_
  subst he
  exact ⟨_, rfl, _, _, _, [], _, [], hW', (trodAll_cons_mk (shut_bool Tryd.underlying4 _) trodAll_mk0), (trodAll_cons_mk (shut_string Tryd.underlying9 w0) (trodAll_cons_mk (shut_string Tryd.underlying9 w1) trodAll_mk0)), rfl, hg.frame _, fun h => by cases h⟩

theorem over : Rows.noticeReadsRow.holds Tryd.pinned (OpenSpec.ofChange Rows.noticeReadsSpec) :=
  OpenClaim.holds_of_wide 4 Tryd.f4 rfl rfl rfl rfl rfl rfl rfl ⟨rfl, rfl, rfl, rfl, rfl⟩ rfl rfl rfl rfl rfl (by kernel_rfl) Tryd.func4 (by kernel_rfl)
    (of_decide_eq_true (by kernel_rfl)) (by unfold Func.isWrapper; first | (rw [if_pos (by decide +kernel)]; kernel_rfl) | (rw [if_neg (by decide +kernel)]; exact ⟨rfl, rfl⟩))
    (fun os started H enc _ => lifted os started H enc)

theorem row_proved : Rows.NoticeReadsSaid :=
  over
theorem proved : Rows.NoticeReadsCardSaid :=
  Claim7.holds_tied_plain_at .later [] [.data, .pinned] true (true, "527e7bd0a86b1deacfe8b10021f13a8c29de85294eca110d0f48adb08199bac2") false
    row_proved (fun _ h => by cases h) (by kernel_rfl) (fun _ h => by cases h) noticeReads_row_tie rfl ⟨rfl, rfl⟩ (by kernel_rfl) rfl
    (fun f fn hf hfn => by
      obtain rfl : f = 4 := Option.some.inj ((show Tryd.prog.funcNamed "earshot/earshotlaw5.NoticeReads" = some 4 by kernel_rfl).symm.trans hf) |>.symm
      obtain rfl : fn = Tryd.f4 := (Option.some.inj (Tryd.func4.symm.trans hfn)).symm
      exact ⟨by kernel_rfl, fun j t ht => by
        rw [Tryd.params4] at ht
        rcases j with _ | j
        · have e : t = 9 := by simpa using ht.symm
          subst e
          exact (show Tryd.prog.wantsStandIn 9 = false by kernel_rfl)
        rcases j with _ | j
        · have e : t = 9 := by simpa using ht.symm
          subst e
          exact (show Tryd.prog.wantsStandIn 9 = false by kernel_rfl)
        simp at ht⟩)
    (by kernel_rfl)
#print axioms proved
end Go.Proofs.YtebpngapkkdifabDoor
