/- SpreadOrder (promise P1603): absorbing is the same in any order, and done twice. For every input; nothing is asked of it. -/
import Derived.Test.YtddblfffjhoiaaaRows
import Derived.WalkKit
import Derived.ProofKit
import Derived.OpenShut
import Derived.Test.YtddblfffjhoiaaaSpk
import Derived.Test.YtddblfffjhoiaaaOpm
namespace Go.Proofs.Ytddblfffjhoiaaa
open Go.ChangeShapes Go.WideShapes Go.ChangeAt Go.RowKit
set_option linter.unusedVariables false

theorem laidOut : laidOutB Try.prog = true := by kernel_rfl
theorem own : ownKnob Try.prog.godebug = none := by kernel_rfl
open Go.Shelf
set_option maxHeartbeats 16000000 in
set_option maxRecDepth 100000 in
theorem walk (w : World) (a0 : Int) (w0 : (Lit.int .i64 a0).wf = true) (a1 : Int) (w1 : (Lit.int .i64 a1).wf = true) (ad2 : Option Addr) (cap2 : Nat) (l2 : List (Int × Int × Int)) (w2 : RdN w ad2 l2) (hc2 : ad2 = none → cap2 = 0) (hq2 : l2.length ≤ cap2) (ad3 : Option Addr) (cap3 : Nat) (l3 : List (Int × Int × Int)) (w3 : RdN w ad3 l3) (hc3 : ad3 = none → cap3 = 0) (hq3 : l3.length ≤ cap3) :
    Calls Try.prog 4 #[.int .i64 a0, .int .i64 a1, .slice ad2 l2.length cap2, .slice ad3 l3.length cap3] w fun e w' => e = .returned (.bool true) ∧ Below w.heap.size w w' := by
  have hal := alive_any
  have hl2 := fun W => light_any W ad2 l2.length cap2
  have hl3 := fun W => light_any W ad3 l3.length cap3
  have hbw : Below w.heap.size w w := Below.refl _ _
  have HW2 : Hid (RdN w ad2 l2) := w2
  have HW3 : Hid (RdN w ad3 l3) := w3
  clear w2 w3
  by_cases hok : 1 ≤ a0 ∧ a0 ≤ 100 ∧ 0 ≤ a1 ∧ a1 < a0 ∧ l2.length ≤ 300 ∧ l3.length ≤ 300
  case neg =>
    go_enter Try.func4, Try.ntmps4
    go_wp2_with (first | (go_at_call 8; (with_reducible refine (hal _).mono ?_); rintro e u ⟨rfl, hb⟩) | (go_at_call 7; first | ((with_reducible refine (hl2 _).mono ?_); rintro e u ⟨rfl, hu⟩; obtain rfl := hu.symm) | ((with_reducible refine (hl3 _).mono ?_); rintro e u ⟨rfl, hu⟩; obtain rfl := hu.symm)))
    all_goals first | (go_ret; exact ⟨rfl, hb⟩) | (exfalso; first | omega | (simp at *; omega))
  obtain ⟨h1, h2, h3, h4, h5, h6⟩ := hok
  obtain ⟨N, rfl⟩ : ∃ N : Nat, a0 = (N : Int) := ⟨a0.toNat, by omega⟩
  obtain ⟨s, rfl⟩ : ∃ s : Nat, a1 = (s : Int) := ⟨a1.toNat, by omega⟩
  rw [decide_eq_true h5] at hl2
  rw [decide_eq_true h6] at hl3
  have HB0 : Hid (Bok (bk0 N s 0)) := bk0_bok (by omega) (by omega)
  have HL0 : Hid ((bk0 N s 0).length = N) := bk0_len _ _ _
  have hmd := fun (W : World) => made0_any W N s (by omega) (by omega) (by omega)
  generalize bk0 N s 0 = L0 at HB0 HL0 hmd
  have HC : Hid (abs (abs L0 (s : Int) l2) (s : Int) l3 = abs (abs L0 (s : Int) l3) (s : Int) l2) := abs_comm HB0.out _ _ _
  have HF : Hid (abs (abs (abs (abs L0 (s : Int) l2) (s : Int) l3) (s : Int) l2) (s : Int) l3 = abs (abs L0 (s : Int) l2) (s : Int) l3) := abs_four HB0.out _ _ _
  have HL2 : Hid (∀ l : List N3, Bok l → l.length = N → (abs l (s : Int) l2).length = N ∧ Bok (abs l (s : Int) l2)) := fun l hb hl => ⟨(abs_len hb _ _).trans hl, abs_bok hb _ _⟩
  have HL3 : Hid (∀ l : List N3, Bok l → l.length = N → (abs l (s : Int) l3).length = N ∧ Bok (abs l (s : Int) l3)) := fun l hb hl => ⟨(abs_len hb _ _).trans hl, abs_bok hb _ _⟩
  have HA2 : Hid (∀ (W : World) (p g : Nat) (l : List N3), Bk W p g l → Below w.heap.size w W → Calls Try.prog 13 #[.pointer (some ⟨p, 0, none⟩), .int .i64 (s : Int), .slice ad2 l2.length cap2] W fun e w' => (∃ (N : Nat) (E : Int), e = .returned (.tuple #[.agg #[.int .u32 (wd N 0 : Nat), .int .u32 (wd N 1 : Nat), .int .u32 (wd N 2 : Nat), .int .u32 (wd N 3 : Nat)], .int .i64 E])) ∧ Bk w' p g (abs l (s : Int) l2) ∧ W.grownBy w' (some g)) := fun W p g l hk hb => absorb_some hk _ ad2 cap2 l2 (HW2.out.carry hb) (by omega)
  have HA3 : Hid (∀ (W : World) (p g : Nat) (l : List N3), Bk W p g l → Below w.heap.size w W → Calls Try.prog 13 #[.pointer (some ⟨p, 0, none⟩), .int .i64 (s : Int), .slice ad3 l3.length cap3] W fun e w' => (∃ (N : Nat) (E : Int), e = .returned (.tuple #[.agg #[.int .u32 (wd N 0 : Nat), .int .u32 (wd N 1 : Nat), .int .u32 (wd N 2 : Nat), .int .u32 (wd N 3 : Nat)], .int .i64 E])) ∧ Bk w' p g (abs l (s : Int) l3) ∧ W.grownBy w' (some g)) := fun W p g l hk hb => absorb_some hk _ ad3 cap3 l3 (HW3.out.carry hb) (by omega)
  have HSA : Hid (∀ (W : World) (p g p2 g2 : Nat) (l l' : List N3), Bk W p g l → Bk W p2 g2 l' → l = l' → l.length = N → Calls Try.prog 14 #[.pointer (some ⟨p, 0, none⟩), .pointer (some ⟨p2, 0, none⟩)] W fun e w' => e = .returned (.bool true) ∧ Below W.heap.size W w') := by
    intro W p g p2 g2 l l' hk hk2 e hN
    have := bsame_any hk hk2 (by rw [hN]; omega)
    rw [decide_eq_true e] at this
    exact this
  have HLA : Hid ((abs L0 (s : Int) l2).length = N ∧ Bok (abs L0 (s : Int) l2)) := HL2.out _ HB0.out HL0.out
  have HLB : Hid ((abs (abs L0 (s : Int) l2) (s : Int) l3).length = N ∧ Bok (abs (abs L0 (s : Int) l2) (s : Int) l3)) := HL3.out _ HLA.out.2 HLA.out.1
  clear HL2 HL3 HLA HB0 HL0
  have h300a : ¬ (300 < l2.length) := by omega
  have h300b : ¬ (300 < l3.length) := by omega
  have hS0 := Bks.nil w
  go_enter Try.func4, Try.ntmps4
  go_wp2_with (first
    | (go_at_call 7; first | ((with_reducible refine (hl2 _).mono ?_); rintro e u ⟨rfl, hu⟩; obtain rfl := hu.symm) | ((with_reducible refine (hl3 _).mono ?_); rintro e u ⟨rfl, hu⟩; obtain rfl := hu.symm))
    | (have m := hS2; go_at_call 9; (with_reducible refine (hmd _).mono ?_); rintro e u2 ⟨p2, g2, rfl, hp, hg, hk, hb⟩; have hS3 : Bks w [(p0, g0, L0), (p1, g1, L0), (p2, g2, L0)] u2 := hS2.add hb hk hp hg; clear m hS2 hp hg hk hb; have k3 := HA2.out u2 p0 g0 L0 (hS3.get 0 rfl) hS3.below)
    | (have m := hS1; go_at_call 9; (with_reducible refine (hmd _).mono ?_); rintro e u1 ⟨p1, g1, rfl, hp, hg, hk, hb⟩; have hS2 : Bks w [(p0, g0, L0), (p1, g1, L0)] u1 := hS1.add hb hk hp hg; clear m hS1 hp hg hk hb)
    | (have m := hS0; go_at_call 9; (with_reducible refine (hmd _).mono ?_); rintro e u0 ⟨p0, g0, rfl, hp, hg, hk, hb⟩; have hS1 : Bks w [(p0, g0, L0)] u0 := hS0.add hb hk hp hg; clear m hS0 hp hg hk hb)
    | (have m := hS3; have m2 := k3; go_at_call 13; (with_reducible refine k3.mono ?_); rintro e v3 ⟨⟨MS, ME, rfl⟩, hk, hg⟩; have hS4 : Bks w [(p0, g0, (abs L0 (s : Int) l2)), (p1, g1, L0), (p2, g2, L0)] v3 := hS3.turn 0 rfl hk hg; clear m m2 hS3 k3 hk hg; have k4 := HA3.out v3 p0 g0 _ (hS4.get 0 rfl) hS4.below)
    | (have m := hS4; have m2 := k4; go_at_call 13; (with_reducible refine k4.mono ?_); rintro e v4 ⟨⟨MS, ME, rfl⟩, hk, hg⟩; have hS5 : Bks w [(p0, g0, (abs (abs L0 (s : Int) l2) (s : Int) l3)), (p1, g1, L0), (p2, g2, L0)] v4 := hS4.turn 0 rfl hk hg; clear m m2 hS4 k4 hk hg; have k5 := HA3.out v4 p1 g1 L0 (hS5.get 1 rfl) hS5.below)
    | (have m := hS5; have m2 := k5; go_at_call 13; (with_reducible refine k5.mono ?_); rintro e v5 ⟨⟨MS, ME, rfl⟩, hk, hg⟩; have hS6 : Bks w [(p0, g0, (abs (abs L0 (s : Int) l2) (s : Int) l3)), (p1, g1, (abs L0 (s : Int) l3)), (p2, g2, L0)] v5 := hS5.turn 1 rfl hk hg; clear m m2 hS5 k5 hk hg; have k6 := HA2.out v5 p1 g1 _ (hS6.get 1 rfl) hS6.below)
    | (have m := hS6; have m2 := k6; go_at_call 13; (with_reducible refine k6.mono ?_); rintro e v6 ⟨⟨MS, ME, rfl⟩, hk, hg⟩; have hS7 : Bks w [(p0, g0, (abs (abs L0 (s : Int) l2) (s : Int) l3)), (p1, g1, (abs (abs L0 (s : Int) l3) (s : Int) l2)), (p2, g2, L0)] v6 := hS6.turn 1 rfl hk hg; clear m m2 hS6 k6 hk hg; have hS77 := hS7))
  clear hmd hl2 hl3 hS77
  go_loopw [12] (fun i wz => ∃ (j : Nat) (c : List N3), i = .int .i64 j ∧ j ≤ 2 ∧ (j = 0 → c = L0) ∧ (j = 1 → c = (abs (abs L0 (s : Int) l2) (s : Int) l3)) ∧ (j = 2 → c = (abs (abs L0 (s : Int) l2) (s : Int) l3)) ∧ Bks w [(p0, g0, (abs (abs L0 (s : Int) l2) (s : Int) l3)), (p1, g1, (abs (abs L0 (s : Int) l3) (s : Int) l2)), (p2, g2, c)] wz) (fun i _ => 2 - vnatR i)
  case atStart => exact ⟨0, L0, rfl, by omega, fun _ => rfl, fun e => (by omega), fun e => (by omega), hS7⟩
  case round =>
    obtain ⟨j, c, rfl, hj2, hc0, hc1, hc2, hS⟩ := hrel
    have HC0 : Hid ((j = 0 → c = L0) ∧ (j = 1 → c = (abs (abs L0 (s : Int) l2) (s : Int) l3)) ∧ (j = 2 → c = (abs (abs L0 (s : Int) l2) (s : Int) l3))) := ⟨hc0, hc1, hc2⟩
    clear hc0 hc1 hc2 hS7
    by_cases hj : j < 2
    · have hji : (j : Int) < 2 := by omega
      have k1 := HA2.out wr p2 g2 c (hS.get 2 rfl) hS.below
      go_wp2_with (first
        | (have m := hT2; go_at_call 13; (with_reducible refine k2.mono ?_); rintro e y2 ⟨⟨MS, ME, rfl⟩, hk, hg⟩; have hT3 : Bks w [(p0, g0, (abs (abs L0 (s : Int) l2) (s : Int) l3)), (p1, g1, (abs (abs L0 (s : Int) l3) (s : Int) l2)), (p2, g2, abs (abs c (s : Int) l2) (s : Int) l3)] y2 := hT2.turn 2 rfl hk hg; clear m hk hg)
        | (go_at_call 13; (with_reducible refine k1.mono ?_); rintro e y1 ⟨⟨MS, ME, rfl⟩, hk, hg⟩; have hT2 : Bks w [(p0, g0, (abs (abs L0 (s : Int) l2) (s : Int) l3)), (p1, g1, (abs (abs L0 (s : Int) l3) (s : Int) l2)), (p2, g2, abs c (s : Int) l2)] y1 := hS.turn 2 rfl hk hg; have k2 := HA3.out y1 p2 g2 _ (hT2.get 2 rfl) hT2.below; clear k1 hk hg))
      go_roundw
      case rel =>
        refine ⟨j + 1, _, by simp, by omega, fun e => (by omega), fun e => ?_, fun e => ?_, hT3⟩
        · obtain rfl : j = 0 := by omega
          rw [HC0.out.1 rfl]
        · obtain rfl : j = 1 := by omega
          rw [HC0.out.2.1 rfl, HF.out]
      case measure => simp [vnatR]; omega
    · obtain rfl : j = 2 := by omega
      obtain rfl := (HC0.out.2.2 rfl).symm
      have k0 := hal wr
      clear HC0
      go_wp2_with (first
        | (have m := q2; go_at_call 14; (with_reducible refine q2.mono ?_); rintro e z3 ⟨rfl, hz3⟩)
        | (have m := q1; go_at_call 14; (with_reducible refine q1.mono ?_); rintro e z2 ⟨rfl, hz2⟩; have q2 := HSA.out z2 p0 g0 p2 g2 _ _ ((hS1.get 0 rfl).carry hz2) ((hS1.get 2 rfl).carry hz2) rfl HLB.out.1; clear m q1)
        | (go_at_call 8; (with_reducible refine k0.mono ?_); rintro e z1 ⟨rfl, hz1⟩; have hS1 := hS.carry hz1; have q1 := HSA.out z1 p0 g0 p1 g1 _ _ (hS1.get 0 rfl) (hS1.get 1 rfl) HC.out HLB.out.1))
      go_ret
      exact ⟨rfl, bel2 (bel2 hS1.below hz2) hz3⟩

set_option maxRecDepth 100000 in
theorem lifted (os : Os) (started : os.Started) (H : Type) (enc : TypeId × Value → H) :
    ReturnsInHanded {} Try.checked os 4 .any (Rows.spreadOrderSpec.pre6 enc Try.prog Try.f4 Rows.spreadOrderRow.domain false) (Rows.spreadOrderSpec.post enc Try.prog Try.f4 false true false false) := by
  refine returnsInHanded_of_change (C := Try.checked) own started (by kernel_rfl) Try.func4
    (ChangeSpec.witness6 (enc := enc) (C := Try.checked) false ⟨#[], #[.int .i64 0, .int .i64 0, .slice none 0 0, .slice none 0 0], []⟩ 8 (by kernel_rfl) (by kernel_rfl) (by kernel_rfl) (by kernel_rfl)) ?_
  intro W base args ds gs before hval0 hW hcnd _
  have hval : ∀ (j : Nat) t v, Try.f4.params[j]? = some t → args[j]? = some v → Value.okWide Try.prog W .any base t v := hval0
  have hW' := hW
  obtain ⟨p, q, hA0, hV, rfl, hfz, hnd⟩ := hW
  have hA : DataW.TrodAll enc Try.prog W 0 (fun _ => true) true Try.f4.params.toList args.toList ds p := hA0
  rw [Try.params4] at hA hval
  obtain ⟨v0, vs0, d0, ds0, p0, q0, hargs, rfl, rfl, h0, r0⟩ := trodAll_cons hA
  obtain ⟨v1, vs1, d1, ds1, p1, q1, rfl, rfl, rfl, h1, r1⟩ := trodAll_cons r0
  obtain ⟨v2, vs2, d2, ds2, p2, q2, rfl, rfl, rfl, h2, r2⟩ := trodAll_cons r1
  obtain ⟨v3, vs3, d3, ds3, p3, q3, rfl, rfl, rfl, h3, r3⟩ := trodAll_cons r2
  obtain ⟨rfl, rfl, rfl⟩ := trodAll_nil r3
  obtain rfl : args = #[v0, v1, v2, v3] := by cases args; simp_all
  obtain ⟨rfl, rfl⟩ := trodVars_none hV
  obtain ⟨a0, rfl, rfl, rfl, w0⟩ := open_int Try.underlying3 (hval 0 3 v0 rfl rfl) h0
  obtain ⟨a1, rfl, rfl, rfl, w1⟩ := open_int Try.underlying3 (hval 1 3 v1 rfl rfl) h1
  have k2 := h2
  have lt2 : ∀ x ∈ p2, x.block < W.heap.size := by obtain ⟨m, hm⟩ := k2; exact DataW.trod_lt m _ _ _ hm
  obtain ⟨ad2, cap2, l2, rfl, w2, hc2, hq2, hd2⟩ := open_nts (hval 2 22 v2 rfl rfl) h2
  have k3 := h3
  have lt3 : ∀ x ∈ p3, x.block < W.heap.size := by obtain ⟨m, hm⟩ := k3; exact DataW.trod_lt m _ _ _ hm
  obtain ⟨ad3, cap3, l3, rfl, w3, hc3, hq3, hd3⟩ := open_nts (hval 3 22 v3 rfl rfl) h3
  clear hA0 hval0
  refine (walk W a0 w0 a1 w1 ad2 cap2 l2 w2 hc2 hq2 ad3 cap3 l3 w3 hc3 hq3).mono fun e W' ⟨he, hg⟩ => ?_
  subst he
  exact ⟨_, rfl, _, _, _, [], _, [], hW', (trodAll_cons_mk (shut_bool Try.underlying4 _) trodAll_mk0), (trodAll_cons_mk (shut_int Try.underlying3 w0) (trodAll_cons_mk (shut_int Try.underlying3 w1) (trodAll_cons_mk (Below.trod laidOut (by kernel_rfl) (of_decide_eq_true (by kernel_rfl)) k2 hg lt2) (trodAll_cons_mk (Below.trod laidOut (by kernel_rfl) (of_decide_eq_true (by kernel_rfl)) k3 hg lt3) trodAll_mk0)))), rfl, hg.frame _, fun h => by cases h⟩

theorem over : Rows.spreadOrderRow.holds Try.pinned (OpenSpec.ofChange Rows.spreadOrderSpec) :=
  OpenClaim.holds_of_wide 4 Try.f4 rfl rfl rfl rfl rfl rfl rfl ⟨rfl, rfl, rfl, rfl, rfl⟩ rfl rfl rfl rfl rfl (by kernel_rfl) Try.func4 (by kernel_rfl)
    (of_decide_eq_true (by kernel_rfl)) (by unfold Func.isWrapper; first | (rw [if_pos (by decide +kernel)]; kernel_rfl) | (rw [if_neg (by decide +kernel)]; exact ⟨rfl, rfl⟩))
    (fun os started H enc _ => lifted os started H enc)

theorem proved : Rows.SpreadOrderSaid :=
  over
#print axioms proved
end Go.Proofs.Ytddblfffjhoiaaa
