/- DiskFuse: at every two numbers: with a fuse of k just k writes are done, the next one takes the power and the fuse, and behind Restore writes go on; no condition. -/
import Derived.Test.YtcnkpkdnpjhogaaRows
import Derived.WalkKit
import Derived.ProofKit
import Derived.OpenShut
import Derived.Test.YtcnkpkdnpjhogaaDkh
namespace Go.Proofs.Ytcnkpkdnpjhogaa
open Go.ChangeShapes Go.WideShapes Go.ChangeAt Go.RowKit
set_option linter.unusedVariables false


theorem own : ownKnob Try.prog.godebug = none := by kernel_rfl
open Go.Shelf
theorem rem8 (i : Nat) : ((i % 8 : Nat) : Int) = (i : Int) % 8 := by omega
set_option maxHeartbeats 8000000 in
set_option maxRecDepth 100000 in
theorem walk (a0 : Int) (w0 : (Lit.int .i64 a0).wf = true) (a1 : Int) (w1 : (Lit.int .i64 a1).wf = true) (w : World) :
    Calls Try.prog 3 #[.int .i64 a0, .int .i64 a1] w fun e w' => e = .returned (.bool true) ∧ Below w.heap.size w w' := by
  have hal := alive_any
  by_cases hg : 0 ≤ a0 ∧ a0 ≤ 200 ∧ 0 ≤ a1 ∧ a1 ≤ 200
  case neg =>
    have hg2 : a0 < 0 ∨ (¬ a0 < 0 ∧ a0 > 200) ∨ (¬ a0 < 0 ∧ ¬ a0 > 200 ∧ a1 < 0) ∨ (¬ a0 < 0 ∧ ¬ a0 > 200 ∧ ¬ a1 < 0 ∧ a1 > 200) := by omega
    clear hg
    rcases hg2 with q | ⟨q1, q⟩ | ⟨q1, q2, q⟩ | ⟨q1, q2, q3, q⟩
    all_goals
      go_enter Try.func3, Try.ntmps3
      go_wp2_with (go_at_call 7; (with_reducible refine (hal _).mono ?_); rintro e u2 ⟨rfl, hb2⟩)
      go_ret
      exact ⟨rfl, hb2⟩
  obtain ⟨k, rfl⟩ := Int.eq_ofNat_of_zero_le hg.1
  obtain ⟨n, rfl⟩ := Int.eq_ofNat_of_zero_le hg.2.2.1
  have q1 : ¬ (k : Int) < 0 := by omega
  have q2 : ¬ (k : Int) > 200 := by omega
  have q3 : ¬ (n : Int) < 0 := by omega
  have q4 : ¬ (n : Int) > 200 := by omega
  have hk : k ≤ 200 := by omega
  have hnn : n ≤ 200 := by omega
  clear hg w0 w1
  have hne := dnew_any w
  go_enter Try.func3, Try.ntmps3
  go_wp2_with (first | (go_at_call 8; (with_reducible refine hne.mono ?_); rintro e u1 ⟨rfl, h1, hlt, hb1⟩; have hfu := fuse_any h1 (k : Int)) | (go_at_call 9; (with_reducible refine hfu.mono ?_); rintro e u2 ⟨rfl, h2, t2⟩; have hB2 : Below w.heap.size w u2 := hb1.trans (t2.below (Nat.le_refl _) (Nat.le_of_lt hlt))))
  go_loopw [6, 7] (fun c i wz => ∃ (m : Nat) (d : Dst), c = .int .i64 ((min k m : Nat) : Int) ∧ i = .int .i64 (m : Int) ∧ m ≤ n ∧ Dk wz w.heap.size d ∧ Fb k m d ∧ Below w.heap.size w wz) (fun _ i _ => n - vnat i)
  case atStart => exact ⟨0, _, by simp, rfl, Nat.zero_le _, h2, fb_0 k, hB2⟩
  case round =>
    obtain ⟨m, d, rfl, rfl, hm, hD, hF, hB⟩ := hrel
    by_cases hmn : m < n
    · have hmi : (m : Int) < (n : Int) := by omega
      have hse := sector_any (m : Int) wr
      have hst := fb_step hF ((m % 8 : Nat) : Int) (by omega) (secB (m : Int)) (secB_len _)
      obtain ⟨hF2, hr⟩ := hst
      have hfz := hF.fz hk
      have hwv := hF.w
      have hr8 := rem8 m
      obtain ⟨d2, hd2⟩ : ∃ d2, (dWr d ((m % 8 : Nat) : Int) (secB (m : Int))).2 = d2 := ⟨_, rfl⟩
      have HM8 : Hid ((dWr d ((m % 8 : Nat) : Int) (secB (m : Int))).2 = d2) := hd2
      rw [hd2] at hF2
      by_cases hmk : m < k
      · rw [if_pos hmk] at hr
        have HR : Hid ((dWr d ((m % 8 : Nat) : Int) (secB (m : Int))).1 = 0) := hr
        have e1 : min k m = m := by omega
        have e2 : min k (m + 1) = m + 1 := by omega
        rw [e1] at hwv ⊢
        have HW : Hid (d.writes = ((m : Nat) : Int)) := hwv
        clear hwv hr hd2 hF e1
        go_wp2_with (first | (go_at_call 11; (with_reducible refine hse.mono ?_); rintro e u3 ⟨rfl, hs3, hb3⟩; have hwr := write_any (hD.carry hb3) ((m % 8 : Nat) : Int) (some ⟨wr.heap.size, 0, none⟩) 32 (secB (m : Int)) hs3.rd.rd hs3.byt hfz (by rw [HW.out]; omega) (by rw [HW.out]; omega); rw [HR.out, HM8.out, secB_len, hr8] at hwr) | (go_at_call 10; (with_reducible refine hwr.mono ?_); rintro e u4 ⟨rfl, h4, t4⟩; have hB4 : Below w.heap.size w u4 := (bel2 hB hb3).trans (t4.below (Nat.le_refl _) (Nat.le_trans hB.size hb3.size))))
        go_roundw
        case rel => exact ⟨m + 1, d2, by rw [e2]; simp, by simp, by omega, h4, hF2, hB4⟩
        case measure => simp [vnat]; omega
      · rw [if_neg hmk] at hr
        have HR : Hid ((dWr d ((m % 8 : Nat) : Int) (secB (m : Int))).1 = 100) := hr
        have e1 : min k m = k := by omega
        have e2 : min k (m + 1) = k := by omega
        rw [e1] at hwv ⊢
        have HW : Hid (d.writes = ((k : Nat) : Int)) := hwv
        clear hwv hr hd2 hF e1
        go_wp2_with (first | (go_at_call 11; (with_reducible refine hse.mono ?_); rintro e u3 ⟨rfl, hs3, hb3⟩; have hwr := write_any (hD.carry hb3) ((m % 8 : Nat) : Int) (some ⟨wr.heap.size, 0, none⟩) 32 (secB (m : Int)) hs3.rd.rd hs3.byt hfz (by rw [HW.out]; omega) (by rw [HW.out]; omega); rw [HR.out, HM8.out, secB_len, hr8] at hwr) | (go_at_call 10; (with_reducible refine hwr.mono ?_); rintro e u4 ⟨rfl, h4, t4⟩; have hB4 : Below w.heap.size w u4 := (bel2 hB hb3).trans (t4.below (Nat.le_refl _) (Nat.le_trans hB.size hb3.size))))
        go_roundw
        case rel => exact ⟨m + 1, d2, by rw [e2], by simp, by omega, h4, hF2, hB4⟩
        case measure => simp [vnat]; omega
    · have hmm : m = n := by omega
      subst hmm
      have hw := writes_any hD
      have hon := on_any hD
      have hle := left_any hD
      rw [hF.w] at hw
      rw [hF.o] at hon
      have hfz := hF.fz hk
      have hmi : ¬ ((m : Int) < (m : Int)) := by omega
      rcases Nat.lt_trichotomy m k with hmk | hmk | hmk
      · skip
        obtain ⟨f1, f2⟩ := hF.g (by omega)
        have hl : left d = ((k - m : Nat) : Int) := by rw [left, if_pos f1, f2]
        rw [show ((k - m : Nat) : Int) = (k : Int) - (m : Int) by omega] at hl
        have HL : Hid (left d = (k : Int) - (m : Int)) := hl
        rw [decide_eq_false (show ¬ k < m by omega)] at hon
        have e1 : min k m = m := by omega
        rw [e1] at hw ⊢
        have i1 : (m : Int) ≤ (k : Int) := by omega
        have i4 : ¬ (m : Int) > (k : Int) := by omega
        have i5 : ¬ (k : Int) < (m : Int) := by omega
        clear e1 f1 f2 hF hfz hl hle
        have i6 : (m : Int) < (k : Int) := by omega
        go_wp2_with (first | (go_at_call 12; (with_reducible refine hw.mono ?_); rintro e u5 ⟨rfl, rfl⟩) | (go_at_call 13; (with_reducible refine hon.mono ?_); rintro e u5 ⟨rfl, rfl⟩) | (go_at_call 7; (with_reducible refine (hal _).mono ?_); rintro e u6 ⟨rfl, hb6⟩; have hle := left_any (hD.carry hb6); rw [HL.out] at hle) | (go_at_call 14; (with_reducible refine hle.mono ?_); rintro e u7 ⟨rfl, rfl⟩))
        go_ret
        exact ⟨rfl, bel2 hB hb6⟩
      · skip
        obtain ⟨f1, f2⟩ := hF.g (by omega)
        have hl : left d = ((k - m : Nat) : Int) := by rw [left, if_pos f1, f2]
        rw [show ((k - m : Nat) : Int) = (k : Int) - (m : Int) by omega] at hl
        have HL : Hid (left d = (k : Int) - (m : Int)) := hl
        rw [decide_eq_false (show ¬ k < m by omega)] at hon
        have e1 : min k m = m := by omega
        rw [e1] at hw ⊢
        have i1 : (m : Int) ≤ (k : Int) := by omega
        have i4 : ¬ (m : Int) > (k : Int) := by omega
        have i5 : ¬ (k : Int) < (m : Int) := by omega
        clear e1 f1 f2 hF hfz hl hle
        obtain rfl : m = k := by omega
        go_wp2_with (first | (go_at_call 12; (with_reducible refine hw.mono ?_); rintro e u5 ⟨rfl, rfl⟩) | (go_at_call 13; (with_reducible refine hon.mono ?_); rintro e u5 ⟨rfl, rfl⟩) | (go_at_call 7; (with_reducible refine (hal _).mono ?_); rintro e u6 ⟨rfl, hb6⟩; have hle := left_any (hD.carry hb6); rw [HL.out] at hle) | (go_at_call 14; (with_reducible refine hle.mono ?_); rintro e u7 ⟨rfl, rfl⟩))
        go_ret
        exact ⟨rfl, bel2 hB hb6⟩
      · skip
        have i4 : (m : Int) > (k : Int) := by omega
        have i6 : (k : Int) < (m : Int) := by omega
        have i5 : ¬ (m : Int) < (k : Int) := by omega
        have i7 : ¬ (m : Int) ≤ (k : Int) := by omega
        have i8 : (k : Int) ≤ (m : Int) := by omega
        have f1 := hF.f (by omega)
        have HL : Hid (left d = -1) := by show left d = -1; rw [left, f1]; rfl
        rw [HL.out] at hle
        rw [decide_eq_true (show k < m by omega)] at hon
        have e1 : min k m = k := by omega
        have hwv := hF.w
        rw [e1] at hw hwv ⊢
        have HW : Hid (d.writes = (k : Int)) := hwv
        have hre := restore_any hD
        have hok : dWr { d with off := false } 0 (secB 1) = (0, { dBurn { { d with off := false } with l := putS d.l 0 (secB 1) } with writes := d.writes + 1 }) := dWr_ok rfl ⟨by decide, by decide⟩ (secB_len 1) (by show ¬ left d = 0; rw [HL.out]; decide)
        have HO : Hid (dWr { d with off := false } 0 (secB 1) = (0, { dBurn { { d with off := false } with l := putS d.l 0 (secB 1) } with writes := d.writes + 1 })) := hok
        clear e1 f1 hF hwv hok
        go_wp2_with (first | (go_at_call 12; (with_reducible refine hw.mono ?_); rintro e u5 ⟨rfl, hu⟩; obtain rfl := hu.symm) | (go_at_call 13; (with_reducible refine hon.mono ?_); rintro e u5 ⟨rfl, hu⟩; obtain rfl := hu.symm) | (go_at_call 14; (with_reducible refine hle.mono ?_); rintro e u7 ⟨rfl, hu⟩; obtain rfl := hu.symm) | (go_at_call 15; (with_reducible refine hre.mono ?_); rintro e u8 ⟨rfl, h8, t8⟩; have hB8 : Below w.heap.size w u8 := hB.trans (t8.below (Nat.le_refl _) hB.size); clear hw hon) | (go_at_call 7; (with_reducible refine (hal _).mono ?_); rintro e u6 ⟨rfl, hb6⟩; have h6 := h8.carry hb6; have hB6 := bel2 hB8 hb6; have hon := on_any h6; have hse := sector_any 1 u6) | (go_at_call 11; (with_reducible refine hse.mono ?_); rintro e u9 ⟨rfl, hs9, hb9⟩; have hwr := write_any (h6.carry hb9) 0 (some ⟨u6.heap.size, 0, none⟩) 32 (secB 1) hs9.rd.rd hs9.byt hfz (by show 0 ≤ d.writes; rw [HW.out]; omega) (by show d.writes ≤ _; rw [HW.out]; omega); rw [HO.out, secB_len] at hwr; have hB9 := bel2 hB6 hb9) | (go_at_call 10; (with_reducible refine hwr.mono ?_); rintro e u10 ⟨rfl, h10, t10⟩; have hw := writes_any h10; dsimp only at hw; rw [HW.out] at hw))
        go_ret
        exact ⟨rfl, hB9.trans (t10.below (Nat.le_refl _) hB9.size)⟩

set_option maxRecDepth 100000 in
theorem lifted (os : Os) (started : os.Started) (H : Type) (enc : TypeId × Value → H) :
    ReturnsInHanded {} Try.checked os 3 .any (Rows.diskFuseSpec.pre6 enc Try.prog Try.f3 Rows.diskFuseRow.domain false) (Rows.diskFuseSpec.post enc Try.prog Try.f3 false true false false) := by
  refine returnsInHanded_of_change (C := Try.checked) own started (by kernel_rfl) Try.func3
    (ChangeSpec.witness6 (enc := enc) (C := Try.checked) false ⟨#[], #[.int .i64 0, .int .i64 0], []⟩ 8 (by kernel_rfl) (by kernel_rfl) (by kernel_rfl) (by kernel_rfl)) ?_
  intro W base args ds gs before hval0 hW hcnd _
  have hval : ∀ (j : Nat) t v, Try.f3.params[j]? = some t → args[j]? = some v → Value.okWide Try.prog W .any base t v := hval0
  have hW' := hW
  obtain ⟨p, q, hA0, hV, rfl, hfz, hnd⟩ := hW
  have hA : DataW.TrodAll enc Try.prog W 0 (fun _ => true) true Try.f3.params.toList args.toList ds p := hA0
  rw [Try.params3] at hA hval
  obtain ⟨v0, vs0, d0, ds0, p0, q0, hargs, rfl, rfl, h0, r0⟩ := trodAll_cons hA
  obtain ⟨v1, vs1, d1, ds1, p1, q1, rfl, rfl, rfl, h1, r1⟩ := trodAll_cons r0
  obtain ⟨rfl, rfl, rfl⟩ := trodAll_nil r1
  obtain rfl : args = #[v0, v1] := by cases args; simp_all
  obtain ⟨rfl, rfl⟩ := trodVars_none hV
  obtain ⟨a0, rfl, rfl, rfl, w0⟩ := open_int Try.underlying3 (hval 0 3 v0 rfl rfl) h0
  obtain ⟨a1, rfl, rfl, rfl, w1⟩ := open_int Try.underlying3 (hval 1 3 v1 rfl rfl) h1
  clear hA0 hval0
  simp only [List.append_nil] at hW'
  refine (walk a0 w0 a1 w1 W).mono fun e W' ⟨he, hg⟩ => ?_
  subst he
  exact ⟨_, rfl, _, _, _, [], _, [], hW', (trodAll_cons_mk (shut_bool Try.underlying4 _) trodAll_mk0), (trodAll_cons_mk (shut_int Try.underlying3 w0) (trodAll_cons_mk (shut_int Try.underlying3 w1) trodAll_mk0)), rfl, hg.frame _, fun h => by cases h⟩

theorem over : Rows.diskFuseRow.holds Try.pinned (OpenSpec.ofChange Rows.diskFuseSpec) :=
  OpenClaim.holds_of_wide 3 Try.f3 rfl rfl rfl rfl rfl rfl rfl ⟨rfl, rfl, rfl, rfl, rfl⟩ rfl rfl rfl rfl rfl (by kernel_rfl) Try.func3 (by kernel_rfl)
    (of_decide_eq_true (by kernel_rfl)) (by unfold Func.isWrapper; first | (rw [if_pos (by decide +kernel)]; kernel_rfl) | (rw [if_neg (by decide +kernel)]; exact ⟨rfl, rfl⟩))
    (fun os started H enc _ => lifted os started H enc)

theorem proved : Rows.DiskFuseSaid :=
  over
#print axioms proved
end Go.Proofs.Ytcnkpkdnpjhogaa
