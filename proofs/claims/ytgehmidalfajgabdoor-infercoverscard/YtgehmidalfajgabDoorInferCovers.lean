/- InferCovers (promise P1404): of every n, f and every list of at most 300 sets infer.Cover answers what the document's Cover answers. For every input; nothing is asked of it. -/
import Derived.Test.YtgehmidalfajgabDoorRows
import Derived.WalkKit
import Derived.ProofKit
import Derived.OpenShut
import Derived.Stop.Joined
import Derived.Lay
import Derived.SevenTiedAt
import Derived.SizedLaws
import Derived.LaidMore
import Derived.Test.YtgehmidalfajgabDoorTie
import Derived.Test.YtgehmidalfajgabDoorCards
import Derived.Test.YtgehmidalfajgabDoorInj
import Derived.Test.YtgehmidalfajgabDoorOss
import Derived.Test.YtgehmidalfajgabDoorTabl
namespace Go.Proofs.YtgehmidalfajgabDoor
open Go.ChangeShapes Go.WideShapes Go.ChangeAt Go.RowKit
set_option linter.unusedVariables false

theorem laidOut : laidOutB Tryd.prog = true := by kernel_rfl
theorem own : ownKnob Tryd.prog.godebug = none := by kernel_rfl
set_option maxHeartbeats 4000000 in
set_option maxRecDepth 100000 in
theorem walk (w : World) (a0 : Int) (w0 : (Lit.int .i64 a0).wf = true) (a1 : Int) (w1 : (Lit.int .i64 a1).wf = true) (ad2 : Option Addr) (cap2 : Nat) (l2 : List Nat) (w2 : RdS w ad2 l2) (hs2 : ∀ N ∈ l2, N < S128) (hc2 : l2.length ≤ cap2) (hm2 : cap2 ≤ maxLen) (hL : laidMetH Tryd.prog Rows.inferCoversRow.laid w) :
    Calls Tryd.prog 3 #[.int .i64 a0, .int .i64 a1, .slice ad2 l2.length cap2] w fun e w' => e = .returned (.bool true) ∧ Below w.heap.size w w' := by
  by_cases hl : l2.length ≤ 300
  · have hli : ¬ ((l2.length : Int) > 300) := by omega
    have hT := tab_of hL
    have hc := cover_any a0 a1 ad2 cap2 l2 w w2 hs2 hT (by omega)
    have hr := fun V hb => rCover_any a0 a1 ad2 cap2 l2 V (w2.carry (W' := V) hb) hs2 (by omega)
    have hNl := S100_S128 (cvN_lt a0 a1 l2)
    obtain ⟨CE, hCE⟩ : ∃ CE, cvE a0 a1 l2 = CE := ⟨_, rfl⟩
    obtain ⟨CN, hCN⟩ : ∃ CN, cvN a0 a1 l2 = CN := ⟨_, rfl⟩
    rw [hCE, hCN] at hc
    rw [hCN] at hNl
    simp only [hCE, hCN] at hr
    have hq := eqn4 CN CN hNl hNl
    clear hCE hCN
    simp only [sv] at hc hr hq
    go_enter Tryd.func3, Tryd.ntmps3
    go_wp2_with (first
      | (go_at_call 5; (with_reducible refine hc.mono ?_); rintro e v ⟨rfl, hv⟩; obtain ⟨v3, hv3⟩ : ∃ u3, v.alloc (.cells #[.int .u32 0, .int .u32 0, .int .u32 0, .int .u32 0] 26) = u3 := ⟨_, rfl⟩; have k1 : Hid (Holds4 v3 v.heap.size (fun _ => 0)) := (by rw [← hv3]; exact new_at rfl); have k3 : Hid (Below w.heap.size w v3) := (by rw [← hv3]; exact bel2 hv (al1' _ _)))
      | (refine wpList_store_row rfl 26 (.tmp 7) (.tmp 20) rfl v.heap.size (cells4 (wd CN)) rfl rfl 26 _ k1.out infoS rfl (by simp [cells4, Value.oneCell']) ?_; obtain ⟨v4, hv4⟩ : ∃ x, v3.setRow v.heap.size (cells4 (wd CN)) = x := ⟨_, rfl⟩; have j1 : Hid (Holds4 v4 v.heap.size (wd CN)) := (by rw [← hv4]; exact setRow_heap _ _ _ _ _ _ k1.out); have j3 : Hid (Below w.heap.size w v4) := (by rw [← hv4]; exact below_row k3.out hv.size _); rw [hv4])
      | (go_at_call 6; refine (hr _ j3.out).mono ?_; rintro e v5 ⟨rfl, hv5⟩; obtain ⟨v6, hv6⟩ : ∃ u3, v5.alloc (.cells #[.int .u32 0, .int .u32 0, .int .u32 0, .int .u32 0] 26) = u3 := ⟨_, rfl⟩; have q1 : Hid (Holds4 v6 v5.heap.size (fun _ => 0)) := (by rw [← hv6]; exact new_at rfl); have q2 : Hid (Holds4 v6 v.heap.size (wd CN)) := (by rw [← hv6]; exact old_at (j1.out.carry hv5)); have q3 : Hid (Below w.heap.size w v6) := (by rw [← hv6]; exact bel2 (bel2 j3.out hv5) (al1' _ _)); have q4 : v.heap.size < v5.heap.size := Nat.lt_of_lt_of_le j1.out.lt hv5.size; have q5 : w.heap.size ≤ v.heap.size := hv.size)
      | (refine wpList_store_row rfl 26 (.tmp 9) (.tmp 27) rfl v5.heap.size (cells4 (wd CN)) rfl rfl 26 _ q1.out infoS rfl (by simp [cells4, Value.oneCell']) ?_; obtain ⟨v7, hv7⟩ : ∃ x, v6.setRow v5.heap.size (cells4 (wd CN)) = x := ⟨_, rfl⟩; have r1 : Hid (Holds4 v7 v5.heap.size (wd CN)) := (by rw [← hv7]; exact setRow_heap _ _ _ _ _ _ q1.out); have r2 : Hid (Holds4 v7 v.heap.size (wd CN)) := (by rw [← hv7]; exact hold_row q2.out (by omega) _); have r3 : Hid (Below w.heap.size w v7) := (by rw [← hv7]; exact below_row q3.out (by omega) _); rw [hv7])
      | (go_at_call 4; refine (alive_any _).mono ?_; rintro e v8 ⟨rfl, hv8⟩; have r4 := bel2 r3.out hv8; have t1 := r2.out.carry hv8; have t2 := r1.out.carry hv8; obtain ⟨y0, y1, y2, y3, _⟩ := t1.facts; obtain ⟨x0, x1, x2, x3, _⟩ := t2.facts))
    go_ret
    exact ⟨rfl, r4⟩
  · have hli : ((l2.length : Int) > 300) := by omega
    go_enter Tryd.func3, Tryd.ntmps3
    go_wp2_with (go_at_call 4; refine (alive_any _).mono ?_; rintro e u ⟨rfl, hb⟩)
    go_ret
    exact ⟨rfl, hb⟩

set_option maxRecDepth 100000 in
theorem lifted (os : Os) (started : os.Started) (H : Type) (enc : TypeId × Value → H) :
    ReturnsInHanded {} Tryd.checked os 3 .any (fun w args => (Rows.inferCoversSpec.pre enc Tryd.prog Tryd.f3 [] false w args ∧ laidMetH Tryd.prog Rows.inferCoversRow.laid w) ∧ sizedMet enc Tryd.prog Tryd.f3 (OpenSpec.ofChange Rows.inferCoversSpec) false w args)
      (Rows.inferCoversSpec.post enc Tryd.prog Tryd.f3 false true false false) := by
  refine returnsInHanded_of_change_and (C := Tryd.checked) (X := fun w _ => laidMetH Tryd.prog Rows.inferCoversRow.laid w) (fun _ _ _ hh h => h.of_heap hh) own started (by kernel_rfl) Tryd.func3
    (ChangeSpec.witness_shaped (enc := enc) (C := Tryd.checked) (os := os) (X := fun w _ => laidMetH Tryd.prog Rows.inferCoversRow.laid w) false (World.laidAll Tryd.prog os Rows.inferCoversRow.laid) #[.int .i64 0, .int .i64 0, .slice none 0 0] 8 (World.laidAll_os _ _ _)
      (World.shaped_of_ZipB (by kernel_rfl) (by kernel_rfl)) (by kernel_rfl) (by kernel_rfl) (by kernel_rfl)
      (by rw [MakeChecks.laidMetH_plain _ _ _ (by kernel_rfl)]; exact laidMet_laidAll _ (by kernel_rfl) (by kernel_rfl))) ?_
  intro W base args ds gs before hval0 hW _ hsz hL _
  have hval : ∀ (j : Nat) t v, Tryd.f3.params[j]? = some t → args[j]? = some v → Value.okWide Tryd.prog W .any base t v := hval0
  have hW' := hW
  obtain ⟨p, q, hA0, hV, rfl, hfz, hnd⟩ := hW
  have hA : DataW.TrodAll enc Tryd.prog W 0 (fun _ => true) true Tryd.f3.params.toList args.toList ds p := hA0
  rw [Tryd.params3] at hA hval
  obtain ⟨v0, vs0, d0, ds0, p0, q0, hargs, rfl, rfl, h0, r0⟩ := trodAll_cons hA
  obtain ⟨v1, vs1, d1, ds1, p1, q1, rfl, rfl, rfl, h1, r1⟩ := trodAll_cons r0
  obtain ⟨v2, vs2, d2, ds2, p2, q2, rfl, rfl, rfl, h2, r2⟩ := trodAll_cons r1
  obtain ⟨rfl, rfl, rfl⟩ := trodAll_nil r2
  obtain rfl : args = #[v0, v1, v2] := by cases args; simp_all
  obtain ⟨rfl, rfl⟩ := trodVars_none hV
  obtain ⟨a0, rfl, rfl, rfl, w0⟩ := open_int Tryd.underlying3 (hval 0 3 v0 rfl rfl) h0
  obtain ⟨a1, rfl, rfl, rfl, w1⟩ := open_int Tryd.underlying3 (hval 1 3 v1 rfl rfl) h1
  have k2 := h2
  have lt2 : ∀ x ∈ p2, x.block < W.heap.size := by obtain ⟨m, hm⟩ := k2; exact DataW.trod_lt m _ _ _ hm
  obtain ⟨ad2, cap2, l2, rfl, w2, hs2, hc2, hm2⟩ := open_sets (hval 2 22 v2 rfl rfl) h2
  clear hA0 hval0
  refine (walk W a0 w0 a1 w1 ad2 cap2 l2 w2 hs2 hc2 hm2 hL).mono fun e W' ⟨he, hg⟩ => ?_
  subst he
  exact ⟨_, rfl, _, _, _, [], _, [], hW', (trodAll_cons_mk (shut_bool Tryd.underlying4 _) trodAll_mk0), (trodAll_cons_mk (shut_int Tryd.underlying3 w0) (trodAll_cons_mk (shut_int Tryd.underlying3 w1) (trodAll_cons_mk (Below.trod laidOut (by kernel_rfl) (of_decide_eq_true (by kernel_rfl)) k2 hg lt2) trodAll_mk0))), rfl, hg.frame _, fun h => by cases h⟩

theorem over : Rows.inferCoversRow.holds Tryd.pinned (OpenSpec.ofChange Rows.inferCoversSpec) :=
  OpenClaim.holds_of_wide 3 Tryd.f3 rfl rfl rfl rfl rfl rfl rfl ⟨rfl, rfl, rfl, rfl, rfl⟩ rfl rfl rfl rfl rfl (by kernel_rfl) Tryd.func3 (by kernel_rfl)
    (of_decide_eq_true (by kernel_rfl)) (by unfold Func.isWrapper; first | (rw [if_pos (by decide +kernel)]; kernel_rfl) | (rw [if_neg (by decide +kernel)]; exact ⟨rfl, rfl⟩))
    (fun os started H enc _ => lifted os started H enc)

theorem row_proved : Rows.InferCoversSaid :=
  over
theorem proved : Rows.InferCoversCardSaid :=
  Claim7.holds_tied_plain_at .later [] [.data] true (true, "d7cb1d96f08d40f0ca28f1a6028bf5e1dc8c15917a061365ff109b7c7f29f477") false
    row_proved (fun _ h => by cases h) (by kernel_rfl) (fun _ h => by cases h) inferCovers_row_tie rfl ⟨rfl, rfl⟩ (by kernel_rfl) rfl
    (fun f fn hf hfn => by
      obtain rfl : f = 3 := Option.some.inj ((show Tryd.prog.funcNamed "earshot/earshotlaw14.InferCovers" = some 3 by kernel_rfl).symm.trans hf) |>.symm
      obtain rfl : fn = Tryd.f3 := (Option.some.inj (Tryd.func3.symm.trans hfn)).symm
      exact ⟨by kernel_rfl, fun j t ht => by
        rw [Tryd.params3] at ht
        rcases j with _ | j
        · have e : t = 3 := by simpa using ht.symm
          subst e
          exact (show Tryd.prog.wantsStandIn 3 = false by kernel_rfl)
        rcases j with _ | j
        · have e : t = 3 := by simpa using ht.symm
          subst e
          exact (show Tryd.prog.wantsStandIn 3 = false by kernel_rfl)
        rcases j with _ | j
        · have e : t = 22 := by simpa using ht.symm
          subst e
          exact (show Tryd.prog.wantsStandIn 22 = false by kernel_rfl)
        simp at ht⟩)
    (by kernel_rfl)
#print axioms proved
end Go.Proofs.YtgehmidalfajgabDoor
