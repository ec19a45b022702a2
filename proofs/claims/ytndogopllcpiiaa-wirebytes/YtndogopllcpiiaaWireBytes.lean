/- WireBytes: at every note and every number of nodes: the note's Bytes are the document's, with the same error; its Kind, Sender and Notices are what it has; no condition. -/
import Derived.Test.YtndogopllcpiiaaRows
import Derived.WalkKit
import Derived.ProofKit
import Derived.OpenShut
import Derived.Test.YtndogopllcpiiaaWry
import Derived.Test.YtndogopllcpiiaaWsv
namespace Go.Proofs.Ytndogopllcpiiaa
open Go.ChangeShapes Go.WideShapes Go.ChangeAt Go.RowKit
set_option linter.unusedVariables false

theorem laidOut : laidOutB Try.prog = true := by kernel_rfl
theorem own : ownKnob Try.prog.godebug = none := by kernel_rfl
open Go.Shelf Go.Lib
set_option maxHeartbeats 16000000 in
set_option maxRecDepth 100000 in
theorem walk (w : World) (k0 f0 g0 : Int) (N0 : Nat) (ad0 : Option Addr) (cap0 : Nat) (l0 : List (Int × Int × Int)) (hN0 : N0 < S128) (wk0 : (Lit.int .i64 k0).wf = true) (wf0 : (Lit.int .i64 f0).wf = true) (wr0 : (Lit.int .i64 g0).wf = true) (w0 : RdN w ad0 l0) (hc0 : ad0 = none → cap0 = 0) (hq0 : l0.length ≤ cap0) (a1 : Int) (w1 : (Lit.int .i64 a1).wf = true) :
    Calls Try.prog 5 #[rnv k0 f0 g0 N0 (.slice ad0 l0.length cap0), .int .i64 a1] w fun e w' => e = .returned (.bool true) ∧ Below w.heap.size w w' := by
  have hal := alive_any
  have hb0 := al1' w (.cells #[.int .i64 k0, .int .i64 f0, .int .i64 g0, .int .u32 (wd N0 0 : Nat), .int .u32 (wd N0 1 : Nat), .int .u32 (wd N0 2 : Nat), .int .u32 (wd N0 3 : Nat), .slice ad0 l0.length cap0] 41)
  have hB0 : RB (w.alloc (.cells #[.int .i64 k0, .int .i64 f0, .int .i64 g0, .int .u32 (wd N0 0 : Nat), .int .u32 (wd N0 1 : Nat), .int .u32 (wd N0 2 : Nat), .int .u32 (wd N0 3 : Nat), .slice ad0 l0.length cap0] 41)) w.heap.size k0 f0 g0 N0 (.slice ad0 l0.length cap0) := new_at rfl
  have hki := kind_any k0 f0 g0 N0 ad0 l0.length cap0 (w.alloc (.cells #[.int .i64 k0, .int .i64 f0, .int .i64 g0, .int .u32 (wd N0 0 : Nat), .int .u32 (wd N0 1 : Nat), .int .u32 (wd N0 2 : Nat), .int .u32 (wd N0 3 : Nat), .slice ad0 l0.length cap0] 41))
  obtain ⟨hk, hk3, hk2, hN⟩ := kd_facts k0 g0 N0 hN0
  obtain ⟨kd, hkd⟩ : ∃ x, kdN k0 = x := ⟨_, rfl⟩
  obtain ⟨r, hr⟩ : ∃ x, krN k0 g0 = x := ⟨_, rfl⟩
  obtain ⟨N, hNN⟩ : ∃ x, kNN k0 N0 = x := ⟨_, rfl⟩
  rw [hkd, hr, hNN] at hki
  rw [hkd] at hk hk3 hk2
  rw [hr] at hk3
  rw [hNN] at hk2 hN
  clear hkd hr hNN
  obtain ⟨W0, hW0⟩ : ∃ W0, w.alloc (.cells #[.int .i64 k0, .int .i64 f0, .int .i64 g0, .int .u32 (wd N0 0 : Nat), .int .u32 (wd N0 1 : Nat), .int .u32 (wd N0 2 : Nat), .int .u32 (wd N0 3 : Nat), .slice ad0 l0.length cap0] 41) = W0 := ⟨_, rfl⟩
  rw [hW0] at hb0 hB0 hki
  unfold rnv at hki
  unfold rnv
  obtain ⟨c0, c1, c2, c3, c4, c5, c6, c7⟩ := hB0.cells
  have hmx : Try.prog.follows .mixedOrders = true := by kernel_rfl
  by_cases h3 : 300 < l0.length
  · have h3i : (300 : Int) < (l0.length : Int) := by omega
    go_enter Try.func5, Try.ntmps5
    go_wp2_with (first | (go_at_call 12; (with_reducible refine hki.mono ?_); rintro e u1 ⟨rfl, hbk⟩; have hB1 := hB0.below hbk; obtain ⟨e0, e1, e2, e3, e4, e5, e6, e7⟩ := hB1.cells; obtain ⟨z0, z1, z2, z3, z4, z5, z6, z7⟩ := hB1.thaw; have hBU : RB (((((((((u1.setCell ⟨w.heap.size, 0, none⟩ (.int .i64 (kd : Int))).setCell ⟨w.heap.size, 1, none⟩ (.int .i64 f0)).setCell ⟨w.heap.size, 2, none⟩ (.int .i64 r)).setCell ⟨w.heap.size, 3, none⟩ (.int .u32 (wd N 0 : Nat))).setCell ⟨w.heap.size, 4, none⟩ (.int .u32 (wd N 1 : Nat))).setCell ⟨w.heap.size, 5, none⟩ (.int .u32 (wd N 2 : Nat))).setCell ⟨w.heap.size, 6, none⟩ (.int .u32 (wd N 3 : Nat)))).setCell ⟨w.heap.size, 7, none⟩ (.slice ad0 l0.length cap0)) w.heap.size kd f0 r N (.slice ad0 l0.length cap0) := hB1.set8 kd f0 r N (.slice ad0 l0.length cap0); have hbU : Below w.heap.size w (((((((((u1.setCell ⟨w.heap.size, 0, none⟩ (.int .i64 (kd : Int))).setCell ⟨w.heap.size, 1, none⟩ (.int .i64 f0)).setCell ⟨w.heap.size, 2, none⟩ (.int .i64 r)).setCell ⟨w.heap.size, 3, none⟩ (.int .u32 (wd N 0 : Nat))).setCell ⟨w.heap.size, 4, none⟩ (.int .u32 (wd N 1 : Nat))).setCell ⟨w.heap.size, 5, none⟩ (.int .u32 (wd N 2 : Nat))).setCell ⟨w.heap.size, 6, none⟩ (.int .u32 (wd N 3 : Nat)))).setCell ⟨w.heap.size, 7, none⟩ (.slice ad0 l0.length cap0)) := below8 (bel2 hb0 hbk) kd f0 r N (.slice ad0 l0.length cap0); obtain ⟨U, hU⟩ : ∃ U, ((((((((u1.setCell ⟨w.heap.size, 0, none⟩ (.int .i64 (kd : Int))).setCell ⟨w.heap.size, 1, none⟩ (.int .i64 f0)).setCell ⟨w.heap.size, 2, none⟩ (.int .i64 r)).setCell ⟨w.heap.size, 3, none⟩ (.int .u32 (wd N 0 : Nat))).setCell ⟨w.heap.size, 4, none⟩ (.int .u32 (wd N 1 : Nat))).setCell ⟨w.heap.size, 5, none⟩ (.int .u32 (wd N 2 : Nat))).setCell ⟨w.heap.size, 6, none⟩ (.int .u32 (wd N 3 : Nat)))).setCell ⟨w.heap.size, 7, none⟩ (.slice ad0 l0.length cap0) = U := ⟨_, rfl⟩; rw [hU] at hBU hbU; obtain ⟨d0, d1, d2, d3, d4, d5, d6, d7⟩ := hBU.cells; have hRU := w0.carry hbU) | (go_at_call 8; (with_reducible refine (hal _).mono ?_); rintro e wv ⟨rfl, hbv⟩))
    go_ret
    exact ⟨rfl, bel2 hbU hbv⟩
  have h3i : ¬ (300 : Int) < (l0.length : Int) := by omega
  rcases (show kd = 1 ∨ kd = 2 ∨ kd = 3 by omega) with rfl | rfl | rfl
  · obtain rfl : N = 0 := hk2 (by decide)
    have hlay : ∀ W, Calls Try.prog 13 #[.agg #[.int .i64 1, .int .i64 f0, .int .i64 r, .int .u32 (wd 0 0 : Nat), .int .u32 (wd 0 1 : Nat), .int .u32 (wd 0 2 : Nat), .int .u32 (wd 0 3 : Nat), .slice ad0 l0.length cap0]] W fun e w' => e = .returned (.iface 47 (.agg #[.int .i64 f0, .int .i64 r, .slice ad0 l0.length cap0])) ∧ Below W.heap.size W w' := fun W => lay_any 1 f0 r 0 ad0 l0.length cap0 W
    have i1 := invQ_Bytes
    by_cases hf : flt 1 a1 f0 r 0 l0 = 0
    case neg =>
      have hby : ∀ (W : World) (a : Option Addr) (c : Nat), RdN W a l0 → Calls Try.prog 29 #[.agg #[.int .i64 f0, .int .i64 r, .slice a l0.length c], .int .i64 a1] W fun e W' => ∃ b2 c2, e = .returned (.tuple #[.slice b2 0 c2, .int .i64 (flt 1 a1 f0 r 0 l0)]) ∧ Below W.heap.size W W' := fun W a c hr => (qbytes_any a1 f0 r a c l0 W hr (by omega)).mono (fun e W' q => bo_no q hf)
      have hrb : ∀ W, RdN W ad0 l0 → Calls Try.prog 19 #[.agg #[.int .i64 1, .int .i64 f0, .int .i64 r, .int .u32 (wd 0 0 : Nat), .int .u32 (wd 0 1 : Nat), .int .u32 (wd 0 2 : Nat), .int .u32 (wd 0 3 : Nat), .slice ad0 l0.length cap0], .int .i64 a1] W fun e W' => ∃ b2 c2, e = .returned (.tuple #[.slice b2 0 c2, .int .i64 (flt 1 a1 f0 r 0 l0)]) ∧ Below W.heap.size W W' := fun W hr => (rbytes_any 1 (by decide) a1 f0 r 0 s128_0 (fun e => absurd e (by decide)) (fun _ => rfl) ad0 cap0 l0 W hr (by omega)).mono (fun e W' q => bo_no q hf)
      have hsb : ∀ (W : World) (b2 b3 : Option Addr) (c2 c3 : Nat), RdB W b2 [] → RdB W b3 [] → Calls Try.prog 20 #[.slice b2 0 c2, .slice b3 0 c3] W fun e w' => e = .returned (.bool true) ∧ Below W.heap.size W w' := fun W b2 b3 c2 c3 h1 h2 => sameB_yes b2 b3 c2 c3 [] W h1 h2 (by simp)
      have hfi : (flt 1 a1 f0 r 0 l0 != 0) = true := by simpa using hf
      generalize flt 1 a1 f0 r 0 l0 = FV at *
      clear hf
      have i2 := invQ_Kind
      have i3 := invQ_Sender
      have i4 := invQ_Notices
      have hki2 : ∀ W, Calls Try.prog 32 #[.agg #[.int .i64 f0, .int .i64 r, .slice ad0 l0.length cap0]] W fun e w' => e = .returned (.int .i64 1) ∧ Below W.heap.size W w' := fun W => kindQ_any _ _ _ _ _ W
      have hse : ∀ W, Calls Try.prog 95 #[.agg #[.int .i64 f0, .int .i64 r, .slice ad0 l0.length cap0]] W fun e w' => e = .returned (.int .i64 f0) ∧ Below W.heap.size W w' := fun W => senderQ_any _ _ _ _ _ W
      have hno : ∀ W, RdN W ad0 l0 → Calls Try.prog 50 #[.agg #[.int .i64 f0, .int .i64 r, .slice ad0 l0.length cap0]] W fun e w' => ∃ a c, e = .returned (.slice a l0.length c) ∧ RdN w' a l0 ∧ Below W.heap.size W w' := fun W hW => (noticesQ_any f0 r ad0 cap0 l0 W hW (by omega)).mono (by
        rintro e W' ⟨a, c, q1, q2, q3⟩
        exact ⟨a, c, q1, RdN.own q2, q3⟩)
      have hsn : ∀ (W : World) (a : Option Addr) (c : Nat), RdN W a l0 → RdN W ad0 l0 → Calls Try.prog 21 #[.slice a l0.length c, .slice ad0 l0.length cap0] W fun e w' => e = .returned (.bool true) ∧ Below W.heap.size W w' := fun W a c h1 h2 => same_any a ad0 c cap0 l0 W h1 h2 (by omega)
      clear hk hk3 hk2
      go_enter Try.func5, Try.ntmps5
      go_wp2_with (first | (go_at_call 12; (with_reducible refine hki.mono ?_); rintro e u1 ⟨rfl, hbk⟩; have hB1 := hB0.below hbk; obtain ⟨e0, e1, e2, e3, e4, e5, e6, e7⟩ := hB1.cells; obtain ⟨z0, z1, z2, z3, z4, z5, z6, z7⟩ := hB1.thaw; have hBU : RB (((((((((u1.setCell ⟨w.heap.size, 0, none⟩ (.int .i64 (1 : Int))).setCell ⟨w.heap.size, 1, none⟩ (.int .i64 f0)).setCell ⟨w.heap.size, 2, none⟩ (.int .i64 r)).setCell ⟨w.heap.size, 3, none⟩ (.int .u32 (wd 0 0 : Nat))).setCell ⟨w.heap.size, 4, none⟩ (.int .u32 (wd 0 1 : Nat))).setCell ⟨w.heap.size, 5, none⟩ (.int .u32 (wd 0 2 : Nat))).setCell ⟨w.heap.size, 6, none⟩ (.int .u32 (wd 0 3 : Nat)))).setCell ⟨w.heap.size, 7, none⟩ (.slice ad0 l0.length cap0)) w.heap.size 1 f0 r 0 (.slice ad0 l0.length cap0) := hB1.set8 1 f0 r 0 (.slice ad0 l0.length cap0); have hbU : Below w.heap.size w (((((((((u1.setCell ⟨w.heap.size, 0, none⟩ (.int .i64 (1 : Int))).setCell ⟨w.heap.size, 1, none⟩ (.int .i64 f0)).setCell ⟨w.heap.size, 2, none⟩ (.int .i64 r)).setCell ⟨w.heap.size, 3, none⟩ (.int .u32 (wd 0 0 : Nat))).setCell ⟨w.heap.size, 4, none⟩ (.int .u32 (wd 0 1 : Nat))).setCell ⟨w.heap.size, 5, none⟩ (.int .u32 (wd 0 2 : Nat))).setCell ⟨w.heap.size, 6, none⟩ (.int .u32 (wd 0 3 : Nat)))).setCell ⟨w.heap.size, 7, none⟩ (.slice ad0 l0.length cap0)) := below8 (bel2 hb0 hbk) 1 f0 r 0 (.slice ad0 l0.length cap0); obtain ⟨U, hU⟩ : ∃ U, ((((((((u1.setCell ⟨w.heap.size, 0, none⟩ (.int .i64 (1 : Int))).setCell ⟨w.heap.size, 1, none⟩ (.int .i64 f0)).setCell ⟨w.heap.size, 2, none⟩ (.int .i64 r)).setCell ⟨w.heap.size, 3, none⟩ (.int .u32 (wd 0 0 : Nat))).setCell ⟨w.heap.size, 4, none⟩ (.int .u32 (wd 0 1 : Nat))).setCell ⟨w.heap.size, 5, none⟩ (.int .u32 (wd 0 2 : Nat))).setCell ⟨w.heap.size, 6, none⟩ (.int .u32 (wd 0 3 : Nat)))).setCell ⟨w.heap.size, 7, none⟩ (.slice ad0 l0.length cap0) = U := ⟨_, rfl⟩; rw [hU] at hBU hbU; obtain ⟨d0, d1, d2, d3, d4, d5, d6, d7⟩ := hBU.cells; have hRU := w0.carry hbU) | (go_at_call 13; (with_reducible refine (hlay _).mono ?_); rintro e u2 ⟨rfl, hb2⟩; have hbU2 := bel2 hbU hb2; have hBU2 := hBU.below hb2; have hRU2 := hRU.carry hb2; clear d0 d1 d2 d3 d4 d5 d6 d7; obtain ⟨d0, d1, d2, d3, d4, d5, d6, d7⟩ := hBU2.cells) | (go_at_call 29; (with_reducible refine (hby _ _ _ hRU2).mono ?_); rintro e u3 ⟨b2, c2x, rfl, hb3⟩; have hbU3 := bel2 hbU2 hb3; have hBU3 := hBU2.below hb3; have hRU3 := hRU2.carry hb3; clear d0 d1 d2 d3 d4 d5 d6 d7; obtain ⟨d0, d1, d2, d3, d4, d5, d6, d7⟩ := hBU3.cells) | (go_at_call 19; (with_reducible refine (hrb _ hRU3).mono ?_); rintro e u4 ⟨b4, c4x, rfl, hb4⟩; have hbU4 := bel2 hbU3 hb4; have hBU4 := hBU3.below hb4; have hRU4 := hRU3.carry hb4; have hrx4 : RdB u4 b2 [] := (fun q => absurd rfl q); have hry4 : RdB u4 b4 [] := (fun q => absurd rfl q)))
      refine wp_region_any hmx ?_
      refine wpAny_tabG (G := (Option Addr × Nat)) (fun g i__ => ([(.bool true), (.bool true), (.int .i64 FV), (.int .i64 FV), (.bool true), (.bool true), (.bool true), (.slice b2 0 c2x), (.slice b4 0 c4x), (.bool true), (.bool true), (.bool true), (.iface 47 (.agg #[.int .i64 f0, .int .i64 r, .slice ad0 l0.length cap0])), (.int .i64 1), (.pointer (some ⟨w.heap.size, 0, none⟩)), (.int .i64 1), (.bool true), (.bool true), (.bool true), (.iface 47 (.agg #[.int .i64 f0, .int .i64 r, .slice ad0 l0.length cap0])), (.int .i64 f0), (.pointer (some ⟨w.heap.size, 1, none⟩)), (.int .i64 f0), (.bool true), (.bool true), (.bool true), (.iface 47 (.agg #[.int .i64 f0, .int .i64 r, .slice ad0 l0.length cap0])), (.slice g.1 l0.length g.2), (.pointer (some ⟨w.heap.size, 7, none⟩)), (.slice ad0 l0.length cap0), (.bool true), (.bool true), (.bool true)] : List Value).getD i__ undef) (fun g d W => JNt w 1 f0 r 0 ad0 cap0 l0 b2 b4 [] g (d 27) W) (by kernel_rfl) ((none, 0)) (show JNt w 1 f0 r 0 ad0 cap0 l0 b2 b4 [] (none, 0) false _ from (JNt.mk hbU4 hBU4 hRU4 hrx4 hry4 (fun e => by cases e)).carry (Below.refl _ _).drew) ?step1 ?fin1
      case step1 =>
        intro i o ho
        have hi : i < 33 := getElem?_lt ho
        match i, hi, ho with
        | 0, _, ho =>
          cases ho
          exact stepG_call rfl (fun g => trivial) 8 _ _ (fun _ => []) rfl (fun g => by kernel_rfl) (enters_of Try.func8 (by kernel_rfl) rfl) (fun g d W hJ hun hdep hcl => (hal W).mono (by rintro e w' ⟨rfl, hb'⟩; refine ⟨g, rfl, fun _ _ => rfl, ?_⟩; show JNt w 1 f0 r 0 ad0 cap0 l0 b2 b4 [] g (d 27) w'; exact hJ.carry hb'))
        | 1, _, ho =>
          cases ho
          refine stepG_of (fun g d hdep => ?_)
          exact step_move rfl trivial _ rfl (by kernel_rfl)
        | 2, _, ho =>
          cases ho
          refine stepG_of (fun g d hdep => ?_)
          exact step_move rfl (by exact ⟨_, rfl, by kernel_rfl⟩) _ rfl (by kernel_rfl)
        | 3, _, ho =>
          cases ho
          refine stepG_of (fun g d hdep => ?_)
          exact step_move rfl (by exact ⟨_, rfl, by kernel_rfl⟩) _ rfl (by kernel_rfl)
        | 4, _, ho =>
          cases ho
          refine stepG_of (fun g d hdep => ?_)
          exact step_binOp rfl (by exact ⟨_, rfl, by kernel_rfl⟩) _ _ _ _ _ _ _ rfl rfl rfl (fun w hw => (bin_eql .i64 _ _).trans (by simp))
        | 5, _, ho =>
          cases ho
          refine stepG_of (fun g d hdep => ?_)
          exact step_pick rfl trivial _ _ _ true rfl (by kernel_rfl) (by kernel_rfl)
        | 6, _, ho =>
          cases ho
          refine stepG_of (fun g d hdep => ?_)
          exact step_move rfl trivial _ rfl (by kernel_rfl)
        | 7, _, ho =>
          cases ho
          refine stepG_of (fun g d hdep => ?_)
          exact step_move rfl (by exact ⟨_, rfl, by kernel_rfl⟩) _ rfl (by kernel_rfl)
        | 8, _, ho =>
          cases ho
          refine stepG_of (fun g d hdep => ?_)
          exact step_move rfl (by exact ⟨_, rfl, by kernel_rfl⟩) _ rfl (by kernel_rfl)
        | 9, _, ho =>
          cases ho
          exact stepG_call rfl (fun g => ⟨_, rfl, by kernel_rfl⟩) 20 _ _ (fun _ => [.slice b2 0 c2x, .slice b4 0 c4x]) rfl (fun g => by kernel_rfl) (enters_of Try.func20 (by kernel_rfl) rfl) (fun g d W hJ hun hdep hcl => (hsb W b2 b4 c2x c4x hJ.rx hJ.ry).mono (by rintro e w' ⟨rfl, hb'⟩; refine ⟨g, rfl, fun _ _ => rfl, ?_⟩; show JNt w 1 f0 r 0 ad0 cap0 l0 b2 b4 [] g (d 27) w'; exact hJ.carry hb'))
        | 10, _, ho =>
          cases ho
          refine stepG_of (fun g d hdep => ?_)
          exact step_pick rfl trivial _ _ _ true rfl (by kernel_rfl) (by kernel_rfl)
        | 11, _, ho =>
          cases ho
          refine stepG_of (fun g d hdep => ?_)
          exact step_move rfl trivial _ rfl (by kernel_rfl)
        | 12, _, ho =>
          cases ho
          refine stepG_of (fun g d hdep => ?_)
          exact step_move rfl (by exact ⟨_, rfl, by kernel_rfl⟩) _ rfl (by kernel_rfl)
        | 13, _, ho =>
          cases ho
          exact stepG_invoke rfl (fun g => ⟨_, rfl, by kernel_rfl⟩) 32 _ "Kind" (.iface 47 (.agg #[.int .i64 f0, .int .i64 r, .slice ad0 l0.length cap0])) [.agg #[.int .i64 f0, .int .i64 r, .slice ad0 l0.length cap0]] rfl (fun g => by kernel_rfl) (cmQ_Kind _) (fun g d W hJ hun hdep hcl => (hki2 W).mono (by rintro e w' ⟨rfl, hb'⟩; refine ⟨g, rfl, fun _ _ => rfl, ?_⟩; show JNt w 1 f0 r 0 ad0 cap0 l0 b2 b4 [] g (d 27) w'; exact hJ.carry hb'))
        | 14, _, ho =>
          cases ho
          refine stepG_of (fun g d hdep => ?_)
          exact step_fieldAddr rfl (by exact ⟨_, rfl, by kernel_rfl⟩) _ _ _ _ rfl rfl (fun w hw => field_rb0 _ w)
        | 15, _, ho =>
          cases ho
          refine stepG_of (fun g d hdep => ?_)
          exact step_load rfl (by exact ⟨_, rfl, by kernel_rfl⟩) _ _ _ rfl rfl (fun w hw => load_rb0 hw.rb)
        | 16, _, ho =>
          cases ho
          refine stepG_of (fun g d hdep => ?_)
          exact step_binOp rfl (by exact ⟨_, rfl, by kernel_rfl⟩) _ _ _ _ _ _ _ rfl rfl rfl (fun w hw => (bin_eql .i64 _ _).trans (by simp))
        | 17, _, ho =>
          cases ho
          refine stepG_of (fun g d hdep => ?_)
          exact step_pick rfl trivial _ _ _ true rfl (by kernel_rfl) (by kernel_rfl)
        | 18, _, ho =>
          cases ho
          refine stepG_of (fun g d hdep => ?_)
          exact step_move rfl trivial _ rfl (by kernel_rfl)
        | 19, _, ho =>
          cases ho
          refine stepG_of (fun g d hdep => ?_)
          exact step_move rfl (by exact ⟨_, rfl, by kernel_rfl⟩) _ rfl (by kernel_rfl)
        | 20, _, ho =>
          cases ho
          exact stepG_invoke rfl (fun g => ⟨_, rfl, by kernel_rfl⟩) 95 _ "Sender" (.iface 47 (.agg #[.int .i64 f0, .int .i64 r, .slice ad0 l0.length cap0])) [.agg #[.int .i64 f0, .int .i64 r, .slice ad0 l0.length cap0]] rfl (fun g => by kernel_rfl) (cmQ_Sender _) (fun g d W hJ hun hdep hcl => (hse W).mono (by rintro e w' ⟨rfl, hb'⟩; refine ⟨g, rfl, fun _ _ => rfl, ?_⟩; show JNt w 1 f0 r 0 ad0 cap0 l0 b2 b4 [] g (d 27) w'; exact hJ.carry hb'))
        | 21, _, ho =>
          cases ho
          refine stepG_of (fun g d hdep => ?_)
          exact step_fieldAddr rfl (by exact ⟨_, rfl, by kernel_rfl⟩) _ _ _ _ rfl rfl (fun w hw => field_rb1 _ w)
        | 22, _, ho =>
          cases ho
          refine stepG_of (fun g d hdep => ?_)
          exact step_load rfl (by exact ⟨_, rfl, by kernel_rfl⟩) _ _ _ rfl rfl (fun w hw => load_rb1 hw.rb)
        | 23, _, ho =>
          cases ho
          refine stepG_of (fun g d hdep => ?_)
          exact step_binOp rfl (by exact ⟨_, rfl, by kernel_rfl⟩) _ _ _ _ _ _ _ rfl rfl rfl (fun w hw => (bin_eql .i64 _ _).trans (by simp))
        | 24, _, ho =>
          cases ho
          refine stepG_of (fun g d hdep => ?_)
          exact step_pick rfl trivial _ _ _ true rfl (by kernel_rfl) (by kernel_rfl)
        | 25, _, ho =>
          cases ho
          refine stepG_of (fun g d hdep => ?_)
          exact step_move rfl trivial _ rfl (by kernel_rfl)
        | 26, _, ho =>
          cases ho
          refine stepG_of (fun g d hdep => ?_)
          exact step_move rfl (by exact ⟨_, rfl, by kernel_rfl⟩) _ rfl (by kernel_rfl)
        | 27, _, ho =>
          cases ho
          exact stepG_invoke rfl (fun g => ⟨_, rfl, by kernel_rfl⟩) 50 _ "Notices" (.iface 47 (.agg #[.int .i64 f0, .int .i64 r, .slice ad0 l0.length cap0])) [.agg #[.int .i64 f0, .int .i64 r, .slice ad0 l0.length cap0]] rfl (fun g => by kernel_rfl) (cmQ_Notices _) (fun g d W hJ hun hdep hcl => (hno W hJ.rd).mono (by rintro e w' ⟨a, c, rfl, hr', hb'⟩; refine ⟨(a, c), rfl, (fun j hj => match j, hj with | 27, hj => (by rw [hj] at hun; cases hun)  | 0, _ => rfl | 1, _ => rfl | 2, _ => rfl | 3, _ => rfl | 4, _ => rfl | 5, _ => rfl | 6, _ => rfl | 7, _ => rfl | 8, _ => rfl | 9, _ => rfl | 10, _ => rfl | 11, _ => rfl | 12, _ => rfl | 13, _ => rfl | 14, _ => rfl | 15, _ => rfl | 16, _ => rfl | 17, _ => rfl | 18, _ => rfl | 19, _ => rfl | 20, _ => rfl | 21, _ => rfl | 22, _ => rfl | 23, _ => rfl | 24, _ => rfl | 25, _ => rfl | 26, _ => rfl | 28, _ => rfl | 29, _ => rfl | 30, _ => rfl | 31, _ => rfl | 32, _ => rfl | _ + 33, _ => rfl), ?_⟩; show JNt w 1 f0 r 0 ad0 cap0 l0 b2 b4 [] (a, c) true w'; exact hJ.note hb' hr'))
        | 28, _, ho =>
          cases ho
          refine stepG_of (fun g d hdep => ?_)
          exact step_fieldAddr rfl (by exact ⟨_, rfl, by kernel_rfl⟩) _ _ _ _ rfl rfl (fun w hw => field_rb _ w)
        | 29, _, ho =>
          cases ho
          refine stepG_of (fun g d hdep => ?_)
          exact step_load rfl (by exact ⟨_, rfl, by kernel_rfl⟩) _ _ _ rfl rfl (fun w hw => load_rb hw.rb)
        | 30, _, ho =>
          cases ho
          exact stepG_call rfl (fun g => ⟨_, rfl, by kernel_rfl⟩) 21 _ _ (fun g => [.slice g.1 l0.length g.2, .slice ad0 l0.length cap0]) rfl (fun g => by kernel_rfl) (enters_of Try.func21 (by kernel_rfl) rfl) (fun g d W hJ hun hdep hcl => (hsn W g.1 g.2 (hJ.nn (hdep 27 (by kernel_rfl))) hJ.rd).mono (by rintro e w' ⟨rfl, hb'⟩; refine ⟨g, rfl, fun _ _ => rfl, ?_⟩; show JNt w 1 f0 r 0 ad0 cap0 l0 b2 b4 [] g (d 27) w'; exact hJ.carry hb'))
        | 31, _, ho =>
          cases ho
          refine stepG_of (fun g d hdep => ?_)
          exact step_pick rfl trivial _ _ _ true rfl (by kernel_rfl) (by kernel_rfl)
        | 32, _, ho =>
          cases ho
          refine stepG_of (fun g d hdep => ?_)
          exact step_assign rfl trivial _ rfl (by kernel_rfl) (fun _ h => h)
      intro g d W hall hW
      first | refine hK _ _ ?_ | refine (‹∀ (a : Act) (w : World), Code.wp Try.prog _ _ a w → _›) _ _ ?_ | skip
      simp only [finL, List.getD_cons_zero, List.getD_cons_succ, Nat.zero_add, Nat.reduceAdd, List.setIfInBounds_toArray, List.set_cons_zero, List.set_cons_succ]
      go_wp2
      go_ret
      exact ⟨rfl, hW.be⟩
    obtain ⟨hn, hfr, hrd, _, hri⟩ := flt_0 hf
    obtain ⟨fr, rfl⟩ := Int.eq_ofNat_of_zero_le hfr.1
    obtain ⟨n, rfl⟩ := Int.eq_ofNat_of_zero_le (show 0 ≤ a1 by omega)
    obtain ⟨rd, rfl⟩ := Int.eq_ofNat_of_zero_le (show 0 ≤ r by omega)
    have hdo := dec_of (n := n) (fr := fr) (rd := rd) (N := 0) (l := l0) (show 1 ≤ 1 ∧ 1 ≤ 3 by decide) hf (fun e => absurd e (by decide)) (fun _ => rfl)
    obtain ⟨B, hB⟩ : ∃ B, byt7 1 n fr rd 0 l0 = B := ⟨_, rfl⟩
    have hBB : Byt B := hB ▸ byt7_byt _ _ _ _ _ _
    have hBs : B.length ≤ 1024 := by rw [← hB]; exact byt7_short hf
    have hby : ∀ (W : World) (a : Option Addr) (c : Nat), RdN W a l0 → Calls Try.prog 29 #[.agg #[.int .i64 (fr : Int), .int .i64 (rd : Int), .slice a l0.length c], .int .i64 (n : Int)] W fun e W' => ∃ b2 c2, e = .returned (.tuple #[.slice b2 B.length c2, .int .i64 0]) ∧ RdB W' b2 B ∧ B.length ≤ c2 ∧ W'.ownsRow W.heap.size 5 1 (.slice b2 B.length c2) B.length (cB B) ∧ Below W.heap.size W W' := fun W a c hr => (qbytes_any (n : Int) fr rd a c l0 W hr (by omega)).mono (by
      intro e W' q
      obtain ⟨b2, c2, q1, q5, q2, q4, q3⟩ := bo_ok q hf
      rw [Int.toNat_natCast, hB] at q1 q2 q4 q5
      exact ⟨b2, c2, q1, q2, q4, q5, q3⟩)
    have hrb : ∀ W, RdN W ad0 l0 → Calls Try.prog 19 #[.agg #[.int .i64 1, .int .i64 (fr : Int), .int .i64 (rd : Int), .int .u32 (wd 0 0 : Nat), .int .u32 (wd 0 1 : Nat), .int .u32 (wd 0 2 : Nat), .int .u32 (wd 0 3 : Nat), .slice ad0 l0.length cap0], .int .i64 (n : Int)] W fun e W' => ∃ b2 c2, e = .returned (.tuple #[.slice b2 B.length c2, .int .i64 0]) ∧ RdB W' b2 B ∧ Below W.heap.size W W' := fun W hr => (rbytes_any 1 (by decide) n fr (rd : Int) 0 s128_0 (fun e => absurd e (by decide)) (fun _ => rfl) ad0 cap0 l0 W hr (by omega)).mono (by
      intro e W' q
      obtain ⟨b2, c2, q1, q5, q2, q4, q3⟩ := bo_ok q hf
      rw [Int.toNat_natCast, hB] at q1 q2
      exact ⟨b2, c2, q1, q2, q3⟩)
    have hsb : ∀ (W : World) (b2 b3 : Option Addr) (c2 c3 : Nat), RdB W b2 B → RdB W b3 B → Calls Try.prog 20 #[.slice b2 B.length c2, .slice b3 B.length c3] W fun e w' => e = .returned (.bool true) ∧ Below W.heap.size W w' := fun W b2 b3 c2 c3 h1 h2 => sameB_yes b2 b3 c2 c3 B W h1 h2 (by omega)
    have i2 := invQ_Kind
    have i3 := invQ_Sender
    have i4 := invQ_Notices
    have hki2 : ∀ W, Calls Try.prog 32 #[.agg #[.int .i64 (fr : Int), .int .i64 (rd : Int), .slice ad0 l0.length cap0]] W fun e w' => e = .returned (.int .i64 1) ∧ Below W.heap.size W w' := fun W => kindQ_any _ _ _ _ _ W
    have hse : ∀ W, Calls Try.prog 95 #[.agg #[.int .i64 (fr : Int), .int .i64 (rd : Int), .slice ad0 l0.length cap0]] W fun e w' => e = .returned (.int .i64 (fr : Int)) ∧ Below W.heap.size W w' := fun W => senderQ_any _ _ _ _ _ W
    have hno : ∀ W, RdN W ad0 l0 → Calls Try.prog 50 #[.agg #[.int .i64 (fr : Int), .int .i64 (rd : Int), .slice ad0 l0.length cap0]] W fun e w' => ∃ a c, e = .returned (.slice a l0.length c) ∧ RdN w' a l0 ∧ Below W.heap.size W w' := fun W hW => (noticesQ_any (fr : Int) (rd : Int) ad0 cap0 l0 W hW (by omega)).mono (by
      rintro e W' ⟨a, c, q1, q2, q3⟩
      exact ⟨a, c, q1, RdN.own q2, q3⟩)
    have hsn : ∀ (W : World) (a : Option Addr) (c : Nat), RdN W a l0 → RdN W ad0 l0 → Calls Try.prog 21 #[.slice a l0.length c, .slice ad0 l0.length cap0] W fun e w' => e = .returned (.bool true) ∧ Below W.heap.size W w' := fun W a c h1 h2 => same_any a ad0 c cap0 l0 W h1 h2 (by omega)
    clear hdo hB hf hrd hri hfr hn hBB hk hk3 hk2
    go_enter Try.func5, Try.ntmps5
    go_wp2_with (first | (go_at_call 12; (with_reducible refine hki.mono ?_); rintro e u1 ⟨rfl, hbk⟩; have hB1 := hB0.below hbk; obtain ⟨e0, e1, e2, e3, e4, e5, e6, e7⟩ := hB1.cells; obtain ⟨z0, z1, z2, z3, z4, z5, z6, z7⟩ := hB1.thaw; have hBU : RB (((((((((u1.setCell ⟨w.heap.size, 0, none⟩ (.int .i64 (1 : Int))).setCell ⟨w.heap.size, 1, none⟩ (.int .i64 (fr : Int))).setCell ⟨w.heap.size, 2, none⟩ (.int .i64 (rd : Int))).setCell ⟨w.heap.size, 3, none⟩ (.int .u32 (wd 0 0 : Nat))).setCell ⟨w.heap.size, 4, none⟩ (.int .u32 (wd 0 1 : Nat))).setCell ⟨w.heap.size, 5, none⟩ (.int .u32 (wd 0 2 : Nat))).setCell ⟨w.heap.size, 6, none⟩ (.int .u32 (wd 0 3 : Nat)))).setCell ⟨w.heap.size, 7, none⟩ (.slice ad0 l0.length cap0)) w.heap.size 1 (fr : Int) (rd : Int) 0 (.slice ad0 l0.length cap0) := hB1.set8 1 (fr : Int) (rd : Int) 0 (.slice ad0 l0.length cap0); have hbU : Below w.heap.size w (((((((((u1.setCell ⟨w.heap.size, 0, none⟩ (.int .i64 (1 : Int))).setCell ⟨w.heap.size, 1, none⟩ (.int .i64 (fr : Int))).setCell ⟨w.heap.size, 2, none⟩ (.int .i64 (rd : Int))).setCell ⟨w.heap.size, 3, none⟩ (.int .u32 (wd 0 0 : Nat))).setCell ⟨w.heap.size, 4, none⟩ (.int .u32 (wd 0 1 : Nat))).setCell ⟨w.heap.size, 5, none⟩ (.int .u32 (wd 0 2 : Nat))).setCell ⟨w.heap.size, 6, none⟩ (.int .u32 (wd 0 3 : Nat)))).setCell ⟨w.heap.size, 7, none⟩ (.slice ad0 l0.length cap0)) := below8 (bel2 hb0 hbk) 1 (fr : Int) (rd : Int) 0 (.slice ad0 l0.length cap0); obtain ⟨U, hU⟩ : ∃ U, ((((((((u1.setCell ⟨w.heap.size, 0, none⟩ (.int .i64 (1 : Int))).setCell ⟨w.heap.size, 1, none⟩ (.int .i64 (fr : Int))).setCell ⟨w.heap.size, 2, none⟩ (.int .i64 (rd : Int))).setCell ⟨w.heap.size, 3, none⟩ (.int .u32 (wd 0 0 : Nat))).setCell ⟨w.heap.size, 4, none⟩ (.int .u32 (wd 0 1 : Nat))).setCell ⟨w.heap.size, 5, none⟩ (.int .u32 (wd 0 2 : Nat))).setCell ⟨w.heap.size, 6, none⟩ (.int .u32 (wd 0 3 : Nat)))).setCell ⟨w.heap.size, 7, none⟩ (.slice ad0 l0.length cap0) = U := ⟨_, rfl⟩; rw [hU] at hBU hbU; obtain ⟨d0, d1, d2, d3, d4, d5, d6, d7⟩ := hBU.cells; have hRU := w0.carry hbU) | (go_at_call 13; (with_reducible refine (hlay _).mono ?_); rintro e u2 ⟨rfl, hb2⟩; have hbU2 := bel2 hbU hb2; have hBU2 := hBU.below hb2; have hRU2 := hRU.carry hb2; clear d0 d1 d2 d3 d4 d5 d6 d7; obtain ⟨d0, d1, d2, d3, d4, d5, d6, d7⟩ := hBU2.cells) | (go_at_call 29; (with_reducible refine (hby _ _ _ hRU2).mono ?_); rintro e u3 ⟨b2, c2x, rfl, hr3, hl3, ho3, hb3⟩; have hbU3 := bel2 hbU2 hb3; have hBU3 := hBU2.below hb3; have hRU3 := hRU2.carry hb3; clear d0 d1 d2 d3 d4 d5 d6 d7; obtain ⟨d0, d1, d2, d3, d4, d5, d6, d7⟩ := hBU3.cells) | (go_at_call 19; (with_reducible refine (hrb _ hRU3).mono ?_); rintro e u4 ⟨b4, c4x, rfl, hry4, hb4⟩; have hbU4 := bel2 hbU3 hb4; have hBU4 := hBU3.below hb4; have hRU4 := hRU3.carry hb4; have hrx4 := hr3.carry hb4))
    refine wp_region_any hmx ?_
    refine wpAny_tabG (G := (Option Addr × Nat)) (fun g i__ => ([(.bool true), (.bool true), (.int .i64 0), (.int .i64 0), (.bool true), (.bool true), (.bool true), (.slice b2 B.length c2x), (.slice b4 B.length c4x), (.bool true), (.bool true), (.bool true), (.iface 47 (.agg #[.int .i64 (fr : Int), .int .i64 (rd : Int), .slice ad0 l0.length cap0])), (.int .i64 1), (.pointer (some ⟨w.heap.size, 0, none⟩)), (.int .i64 1), (.bool true), (.bool true), (.bool true), (.iface 47 (.agg #[.int .i64 (fr : Int), .int .i64 (rd : Int), .slice ad0 l0.length cap0])), (.int .i64 (fr : Int)), (.pointer (some ⟨w.heap.size, 1, none⟩)), (.int .i64 (fr : Int)), (.bool true), (.bool true), (.bool true), (.iface 47 (.agg #[.int .i64 (fr : Int), .int .i64 (rd : Int), .slice ad0 l0.length cap0])), (.slice g.1 l0.length g.2), (.pointer (some ⟨w.heap.size, 7, none⟩)), (.slice ad0 l0.length cap0), (.bool true), (.bool true), (.bool true)] : List Value).getD i__ undef) (fun g d W => JNt w 1 (fr : Int) (rd : Int) 0 ad0 cap0 l0 b2 b4 B g (d 27) W) (by kernel_rfl) ((none, 0)) (show JNt w 1 (fr : Int) (rd : Int) 0 ad0 cap0 l0 b2 b4 B (none, 0) false _ from (JNt.mk hbU4 hBU4 hRU4 hrx4 hry4 (fun e => by cases e)).carry (Below.refl _ _).drew) ?step2 ?fin2
    case step2 =>
      intro i o ho
      have hi : i < 33 := getElem?_lt ho
      match i, hi, ho with
      | 0, _, ho =>
        cases ho
        exact stepG_call rfl (fun g => trivial) 8 _ _ (fun _ => []) rfl (fun g => by kernel_rfl) (enters_of Try.func8 (by kernel_rfl) rfl) (fun g d W hJ hun hdep hcl => (hal W).mono (by rintro e w' ⟨rfl, hb'⟩; refine ⟨g, rfl, fun _ _ => rfl, ?_⟩; show JNt w 1 (fr : Int) (rd : Int) 0 ad0 cap0 l0 b2 b4 B g (d 27) w'; exact hJ.carry hb'))
      | 1, _, ho =>
        cases ho
        refine stepG_of (fun g d hdep => ?_)
        exact step_move rfl trivial _ rfl (by kernel_rfl)
      | 2, _, ho =>
        cases ho
        refine stepG_of (fun g d hdep => ?_)
        exact step_move rfl (by exact ⟨_, rfl, by kernel_rfl⟩) _ rfl (by kernel_rfl)
      | 3, _, ho =>
        cases ho
        refine stepG_of (fun g d hdep => ?_)
        exact step_move rfl (by exact ⟨_, rfl, by kernel_rfl⟩) _ rfl (by kernel_rfl)
      | 4, _, ho =>
        cases ho
        refine stepG_of (fun g d hdep => ?_)
        exact step_binOp rfl (by exact ⟨_, rfl, by kernel_rfl⟩) _ _ _ _ _ _ _ rfl rfl rfl (fun w hw => (bin_eql .i64 _ _).trans (by simp))
      | 5, _, ho =>
        cases ho
        refine stepG_of (fun g d hdep => ?_)
        exact step_pick rfl trivial _ _ _ true rfl (by kernel_rfl) (by kernel_rfl)
      | 6, _, ho =>
        cases ho
        refine stepG_of (fun g d hdep => ?_)
        exact step_move rfl trivial _ rfl (by kernel_rfl)
      | 7, _, ho =>
        cases ho
        refine stepG_of (fun g d hdep => ?_)
        exact step_move rfl (by exact ⟨_, rfl, by kernel_rfl⟩) _ rfl (by kernel_rfl)
      | 8, _, ho =>
        cases ho
        refine stepG_of (fun g d hdep => ?_)
        exact step_move rfl (by exact ⟨_, rfl, by kernel_rfl⟩) _ rfl (by kernel_rfl)
      | 9, _, ho =>
        cases ho
        exact stepG_call rfl (fun g => ⟨_, rfl, by kernel_rfl⟩) 20 _ _ (fun _ => [.slice b2 B.length c2x, .slice b4 B.length c4x]) rfl (fun g => by kernel_rfl) (enters_of Try.func20 (by kernel_rfl) rfl) (fun g d W hJ hun hdep hcl => (hsb W b2 b4 c2x c4x hJ.rx hJ.ry).mono (by rintro e w' ⟨rfl, hb'⟩; refine ⟨g, rfl, fun _ _ => rfl, ?_⟩; show JNt w 1 (fr : Int) (rd : Int) 0 ad0 cap0 l0 b2 b4 B g (d 27) w'; exact hJ.carry hb'))
      | 10, _, ho =>
        cases ho
        refine stepG_of (fun g d hdep => ?_)
        exact step_pick rfl trivial _ _ _ true rfl (by kernel_rfl) (by kernel_rfl)
      | 11, _, ho =>
        cases ho
        refine stepG_of (fun g d hdep => ?_)
        exact step_move rfl trivial _ rfl (by kernel_rfl)
      | 12, _, ho =>
        cases ho
        refine stepG_of (fun g d hdep => ?_)
        exact step_move rfl (by exact ⟨_, rfl, by kernel_rfl⟩) _ rfl (by kernel_rfl)
      | 13, _, ho =>
        cases ho
        exact stepG_invoke rfl (fun g => ⟨_, rfl, by kernel_rfl⟩) 32 _ "Kind" (.iface 47 (.agg #[.int .i64 (fr : Int), .int .i64 (rd : Int), .slice ad0 l0.length cap0])) [.agg #[.int .i64 (fr : Int), .int .i64 (rd : Int), .slice ad0 l0.length cap0]] rfl (fun g => by kernel_rfl) (cmQ_Kind _) (fun g d W hJ hun hdep hcl => (hki2 W).mono (by rintro e w' ⟨rfl, hb'⟩; refine ⟨g, rfl, fun _ _ => rfl, ?_⟩; show JNt w 1 (fr : Int) (rd : Int) 0 ad0 cap0 l0 b2 b4 B g (d 27) w'; exact hJ.carry hb'))
      | 14, _, ho =>
        cases ho
        refine stepG_of (fun g d hdep => ?_)
        exact step_fieldAddr rfl (by exact ⟨_, rfl, by kernel_rfl⟩) _ _ _ _ rfl rfl (fun w hw => field_rb0 _ w)
      | 15, _, ho =>
        cases ho
        refine stepG_of (fun g d hdep => ?_)
        exact step_load rfl (by exact ⟨_, rfl, by kernel_rfl⟩) _ _ _ rfl rfl (fun w hw => load_rb0 hw.rb)
      | 16, _, ho =>
        cases ho
        refine stepG_of (fun g d hdep => ?_)
        exact step_binOp rfl (by exact ⟨_, rfl, by kernel_rfl⟩) _ _ _ _ _ _ _ rfl rfl rfl (fun w hw => (bin_eql .i64 _ _).trans (by simp))
      | 17, _, ho =>
        cases ho
        refine stepG_of (fun g d hdep => ?_)
        exact step_pick rfl trivial _ _ _ true rfl (by kernel_rfl) (by kernel_rfl)
      | 18, _, ho =>
        cases ho
        refine stepG_of (fun g d hdep => ?_)
        exact step_move rfl trivial _ rfl (by kernel_rfl)
      | 19, _, ho =>
        cases ho
        refine stepG_of (fun g d hdep => ?_)
        exact step_move rfl (by exact ⟨_, rfl, by kernel_rfl⟩) _ rfl (by kernel_rfl)
      | 20, _, ho =>
        cases ho
        exact stepG_invoke rfl (fun g => ⟨_, rfl, by kernel_rfl⟩) 95 _ "Sender" (.iface 47 (.agg #[.int .i64 (fr : Int), .int .i64 (rd : Int), .slice ad0 l0.length cap0])) [.agg #[.int .i64 (fr : Int), .int .i64 (rd : Int), .slice ad0 l0.length cap0]] rfl (fun g => by kernel_rfl) (cmQ_Sender _) (fun g d W hJ hun hdep hcl => (hse W).mono (by rintro e w' ⟨rfl, hb'⟩; refine ⟨g, rfl, fun _ _ => rfl, ?_⟩; show JNt w 1 (fr : Int) (rd : Int) 0 ad0 cap0 l0 b2 b4 B g (d 27) w'; exact hJ.carry hb'))
      | 21, _, ho =>
        cases ho
        refine stepG_of (fun g d hdep => ?_)
        exact step_fieldAddr rfl (by exact ⟨_, rfl, by kernel_rfl⟩) _ _ _ _ rfl rfl (fun w hw => field_rb1 _ w)
      | 22, _, ho =>
        cases ho
        refine stepG_of (fun g d hdep => ?_)
        exact step_load rfl (by exact ⟨_, rfl, by kernel_rfl⟩) _ _ _ rfl rfl (fun w hw => load_rb1 hw.rb)
      | 23, _, ho =>
        cases ho
        refine stepG_of (fun g d hdep => ?_)
        exact step_binOp rfl (by exact ⟨_, rfl, by kernel_rfl⟩) _ _ _ _ _ _ _ rfl rfl rfl (fun w hw => (bin_eql .i64 _ _).trans (by simp))
      | 24, _, ho =>
        cases ho
        refine stepG_of (fun g d hdep => ?_)
        exact step_pick rfl trivial _ _ _ true rfl (by kernel_rfl) (by kernel_rfl)
      | 25, _, ho =>
        cases ho
        refine stepG_of (fun g d hdep => ?_)
        exact step_move rfl trivial _ rfl (by kernel_rfl)
      | 26, _, ho =>
        cases ho
        refine stepG_of (fun g d hdep => ?_)
        exact step_move rfl (by exact ⟨_, rfl, by kernel_rfl⟩) _ rfl (by kernel_rfl)
      | 27, _, ho =>
        cases ho
        exact stepG_invoke rfl (fun g => ⟨_, rfl, by kernel_rfl⟩) 50 _ "Notices" (.iface 47 (.agg #[.int .i64 (fr : Int), .int .i64 (rd : Int), .slice ad0 l0.length cap0])) [.agg #[.int .i64 (fr : Int), .int .i64 (rd : Int), .slice ad0 l0.length cap0]] rfl (fun g => by kernel_rfl) (cmQ_Notices _) (fun g d W hJ hun hdep hcl => (hno W hJ.rd).mono (by rintro e w' ⟨a, c, rfl, hr', hb'⟩; refine ⟨(a, c), rfl, (fun j hj => match j, hj with | 27, hj => (by rw [hj] at hun; cases hun)  | 0, _ => rfl | 1, _ => rfl | 2, _ => rfl | 3, _ => rfl | 4, _ => rfl | 5, _ => rfl | 6, _ => rfl | 7, _ => rfl | 8, _ => rfl | 9, _ => rfl | 10, _ => rfl | 11, _ => rfl | 12, _ => rfl | 13, _ => rfl | 14, _ => rfl | 15, _ => rfl | 16, _ => rfl | 17, _ => rfl | 18, _ => rfl | 19, _ => rfl | 20, _ => rfl | 21, _ => rfl | 22, _ => rfl | 23, _ => rfl | 24, _ => rfl | 25, _ => rfl | 26, _ => rfl | 28, _ => rfl | 29, _ => rfl | 30, _ => rfl | 31, _ => rfl | 32, _ => rfl | _ + 33, _ => rfl), ?_⟩; show JNt w 1 (fr : Int) (rd : Int) 0 ad0 cap0 l0 b2 b4 B (a, c) true w'; exact hJ.note hb' hr'))
      | 28, _, ho =>
        cases ho
        refine stepG_of (fun g d hdep => ?_)
        exact step_fieldAddr rfl (by exact ⟨_, rfl, by kernel_rfl⟩) _ _ _ _ rfl rfl (fun w hw => field_rb _ w)
      | 29, _, ho =>
        cases ho
        refine stepG_of (fun g d hdep => ?_)
        exact step_load rfl (by exact ⟨_, rfl, by kernel_rfl⟩) _ _ _ rfl rfl (fun w hw => load_rb hw.rb)
      | 30, _, ho =>
        cases ho
        exact stepG_call rfl (fun g => ⟨_, rfl, by kernel_rfl⟩) 21 _ _ (fun g => [.slice g.1 l0.length g.2, .slice ad0 l0.length cap0]) rfl (fun g => by kernel_rfl) (enters_of Try.func21 (by kernel_rfl) rfl) (fun g d W hJ hun hdep hcl => (hsn W g.1 g.2 (hJ.nn (hdep 27 (by kernel_rfl))) hJ.rd).mono (by rintro e w' ⟨rfl, hb'⟩; refine ⟨g, rfl, fun _ _ => rfl, ?_⟩; show JNt w 1 (fr : Int) (rd : Int) 0 ad0 cap0 l0 b2 b4 B g (d 27) w'; exact hJ.carry hb'))
      | 31, _, ho =>
        cases ho
        refine stepG_of (fun g d hdep => ?_)
        exact step_pick rfl trivial _ _ _ true rfl (by kernel_rfl) (by kernel_rfl)
      | 32, _, ho =>
        cases ho
        refine stepG_of (fun g d hdep => ?_)
        exact step_assign rfl trivial _ rfl (by kernel_rfl) (fun _ h => h)
    intro g d W hall hW
    first | refine hK _ _ ?_ | refine (‹∀ (a : Act) (w : World), Code.wp Try.prog _ _ a w → _›) _ _ ?_ | skip
    simp only [finL, List.getD_cons_zero, List.getD_cons_succ, Nat.zero_add, Nat.reduceAdd, List.setIfInBounds_toArray, List.set_cons_zero, List.set_cons_succ]
    go_wp2
    go_ret
    exact ⟨rfl, hW.be⟩
  · have hlay : ∀ W, Calls Try.prog 13 #[.agg #[.int .i64 2, .int .i64 f0, .int .i64 r, .int .u32 (wd N 0 : Nat), .int .u32 (wd N 1 : Nat), .int .u32 (wd N 2 : Nat), .int .u32 (wd N 3 : Nat), .slice ad0 l0.length cap0]] W fun e w' => e = .returned (.iface 50 (.agg #[.int .i64 f0, .int .i64 r, .int .u32 (wd N 0 : Nat), .int .u32 (wd N 1 : Nat), .int .u32 (wd N 2 : Nat), .int .u32 (wd N 3 : Nat), .slice ad0 l0.length cap0])) ∧ Below W.heap.size W w' := fun W => lay_any 2 f0 r N ad0 l0.length cap0 W
    have i1 := invP_Bytes
    by_cases hf : flt 2 a1 f0 r N l0 = 0
    case neg =>
      have hby : ∀ (W : World) (a : Option Addr) (c : Nat), RdN W a l0 → Calls Try.prog 97 #[.agg #[.int .i64 f0, .int .i64 r, .int .u32 (wd N 0 : Nat), .int .u32 (wd N 1 : Nat), .int .u32 (wd N 2 : Nat), .int .u32 (wd N 3 : Nat), .slice a l0.length c], .int .i64 a1] W fun e W' => ∃ b2 c2, e = .returned (.tuple #[.slice b2 0 c2, .int .i64 (flt 2 a1 f0 r N l0)]) ∧ Below W.heap.size W W' := fun W a c hr => (pbytes_any a1 f0 r N hN a c l0 W hr (by omega)).mono (fun e W' q => bo_no q hf)
      have hrb : ∀ W, RdN W ad0 l0 → Calls Try.prog 19 #[.agg #[.int .i64 2, .int .i64 f0, .int .i64 r, .int .u32 (wd N 0 : Nat), .int .u32 (wd N 1 : Nat), .int .u32 (wd N 2 : Nat), .int .u32 (wd N 3 : Nat), .slice ad0 l0.length cap0], .int .i64 a1] W fun e W' => ∃ b2 c2, e = .returned (.tuple #[.slice b2 0 c2, .int .i64 (flt 2 a1 f0 r N l0)]) ∧ Below W.heap.size W W' := fun W hr => (rbytes_any 2 (by decide) a1 f0 r N hN (fun e => absurd e (by decide)) (fun e => absurd rfl e) ad0 cap0 l0 W hr (by omega)).mono (fun e W' q => bo_no q hf)
      have hsb : ∀ (W : World) (b2 b3 : Option Addr) (c2 c3 : Nat), RdB W b2 [] → RdB W b3 [] → Calls Try.prog 20 #[.slice b2 0 c2, .slice b3 0 c3] W fun e w' => e = .returned (.bool true) ∧ Below W.heap.size W w' := fun W b2 b3 c2 c3 h1 h2 => sameB_yes b2 b3 c2 c3 [] W h1 h2 (by simp)
      have hfi : (flt 2 a1 f0 r N l0 != 0) = true := by simpa using hf
      generalize flt 2 a1 f0 r N l0 = FV at *
      clear hf
      have i2 := invP_Kind
      have i3 := invP_Sender
      have i4 := invP_Notices
      have hki2 : ∀ W, Calls Try.prog 33 #[.agg #[.int .i64 f0, .int .i64 r, .int .u32 (wd N 0 : Nat), .int .u32 (wd N 1 : Nat), .int .u32 (wd N 2 : Nat), .int .u32 (wd N 3 : Nat), .slice ad0 l0.length cap0]] W fun e w' => e = .returned (.int .i64 2) ∧ Below W.heap.size W w' := fun W => kindP_any _ _ _ _ _ _ _ _ _ W
      have hse : ∀ W, Calls Try.prog 98 #[.agg #[.int .i64 f0, .int .i64 r, .int .u32 (wd N 0 : Nat), .int .u32 (wd N 1 : Nat), .int .u32 (wd N 2 : Nat), .int .u32 (wd N 3 : Nat), .slice ad0 l0.length cap0]] W fun e w' => e = .returned (.int .i64 f0) ∧ Below W.heap.size W w' := fun W => senderP_any _ _ _ _ _ _ _ _ _ W
      have hno : ∀ W, RdN W ad0 l0 → Calls Try.prog 51 #[.agg #[.int .i64 f0, .int .i64 r, .int .u32 (wd N 0 : Nat), .int .u32 (wd N 1 : Nat), .int .u32 (wd N 2 : Nat), .int .u32 (wd N 3 : Nat), .slice ad0 l0.length cap0]] W fun e w' => ∃ a c, e = .returned (.slice a l0.length c) ∧ RdN w' a l0 ∧ Below W.heap.size W w' := fun W hW => (noticesP_any f0 r (wd N 0 : Nat) (wd N 1 : Nat) (wd N 2 : Nat) (wd N 3 : Nat) ad0 cap0 l0 W hW (by omega)).mono (by
        rintro e W' ⟨a, c, q1, q2, q3⟩
        exact ⟨a, c, q1, RdN.own q2, q3⟩)
      have hsn : ∀ (W : World) (a : Option Addr) (c : Nat), RdN W a l0 → RdN W ad0 l0 → Calls Try.prog 21 #[.slice a l0.length c, .slice ad0 l0.length cap0] W fun e w' => e = .returned (.bool true) ∧ Below W.heap.size W w' := fun W a c h1 h2 => same_any a ad0 c cap0 l0 W h1 h2 (by omega)
      clear hk hk3 hk2
      go_enter Try.func5, Try.ntmps5
      go_wp2_with (first | (go_at_call 12; (with_reducible refine hki.mono ?_); rintro e u1 ⟨rfl, hbk⟩; have hB1 := hB0.below hbk; obtain ⟨e0, e1, e2, e3, e4, e5, e6, e7⟩ := hB1.cells; obtain ⟨z0, z1, z2, z3, z4, z5, z6, z7⟩ := hB1.thaw; have hBU : RB (((((((((u1.setCell ⟨w.heap.size, 0, none⟩ (.int .i64 (2 : Int))).setCell ⟨w.heap.size, 1, none⟩ (.int .i64 f0)).setCell ⟨w.heap.size, 2, none⟩ (.int .i64 r)).setCell ⟨w.heap.size, 3, none⟩ (.int .u32 (wd N 0 : Nat))).setCell ⟨w.heap.size, 4, none⟩ (.int .u32 (wd N 1 : Nat))).setCell ⟨w.heap.size, 5, none⟩ (.int .u32 (wd N 2 : Nat))).setCell ⟨w.heap.size, 6, none⟩ (.int .u32 (wd N 3 : Nat)))).setCell ⟨w.heap.size, 7, none⟩ (.slice ad0 l0.length cap0)) w.heap.size 2 f0 r N (.slice ad0 l0.length cap0) := hB1.set8 2 f0 r N (.slice ad0 l0.length cap0); have hbU : Below w.heap.size w (((((((((u1.setCell ⟨w.heap.size, 0, none⟩ (.int .i64 (2 : Int))).setCell ⟨w.heap.size, 1, none⟩ (.int .i64 f0)).setCell ⟨w.heap.size, 2, none⟩ (.int .i64 r)).setCell ⟨w.heap.size, 3, none⟩ (.int .u32 (wd N 0 : Nat))).setCell ⟨w.heap.size, 4, none⟩ (.int .u32 (wd N 1 : Nat))).setCell ⟨w.heap.size, 5, none⟩ (.int .u32 (wd N 2 : Nat))).setCell ⟨w.heap.size, 6, none⟩ (.int .u32 (wd N 3 : Nat)))).setCell ⟨w.heap.size, 7, none⟩ (.slice ad0 l0.length cap0)) := below8 (bel2 hb0 hbk) 2 f0 r N (.slice ad0 l0.length cap0); obtain ⟨U, hU⟩ : ∃ U, ((((((((u1.setCell ⟨w.heap.size, 0, none⟩ (.int .i64 (2 : Int))).setCell ⟨w.heap.size, 1, none⟩ (.int .i64 f0)).setCell ⟨w.heap.size, 2, none⟩ (.int .i64 r)).setCell ⟨w.heap.size, 3, none⟩ (.int .u32 (wd N 0 : Nat))).setCell ⟨w.heap.size, 4, none⟩ (.int .u32 (wd N 1 : Nat))).setCell ⟨w.heap.size, 5, none⟩ (.int .u32 (wd N 2 : Nat))).setCell ⟨w.heap.size, 6, none⟩ (.int .u32 (wd N 3 : Nat)))).setCell ⟨w.heap.size, 7, none⟩ (.slice ad0 l0.length cap0) = U := ⟨_, rfl⟩; rw [hU] at hBU hbU; obtain ⟨d0, d1, d2, d3, d4, d5, d6, d7⟩ := hBU.cells; have hRU := w0.carry hbU) | (go_at_call 13; (with_reducible refine (hlay _).mono ?_); rintro e u2 ⟨rfl, hb2⟩; have hbU2 := bel2 hbU hb2; have hBU2 := hBU.below hb2; have hRU2 := hRU.carry hb2; clear d0 d1 d2 d3 d4 d5 d6 d7; obtain ⟨d0, d1, d2, d3, d4, d5, d6, d7⟩ := hBU2.cells) | (go_at_call 97; (with_reducible refine (hby _ _ _ hRU2).mono ?_); rintro e u3 ⟨b2, c2x, rfl, hb3⟩; have hbU3 := bel2 hbU2 hb3; have hBU3 := hBU2.below hb3; have hRU3 := hRU2.carry hb3; clear d0 d1 d2 d3 d4 d5 d6 d7; obtain ⟨d0, d1, d2, d3, d4, d5, d6, d7⟩ := hBU3.cells) | (go_at_call 19; (with_reducible refine (hrb _ hRU3).mono ?_); rintro e u4 ⟨b4, c4x, rfl, hb4⟩; have hbU4 := bel2 hbU3 hb4; have hBU4 := hBU3.below hb4; have hRU4 := hRU3.carry hb4; have hrx4 : RdB u4 b2 [] := (fun q => absurd rfl q); have hry4 : RdB u4 b4 [] := (fun q => absurd rfl q)))
      refine wp_region_any hmx ?_
      refine wpAny_tabG (G := (Option Addr × Nat)) (fun g i__ => ([(.bool true), (.bool true), (.int .i64 FV), (.int .i64 FV), (.bool true), (.bool true), (.bool true), (.slice b2 0 c2x), (.slice b4 0 c4x), (.bool true), (.bool true), (.bool true), (.iface 50 (.agg #[.int .i64 f0, .int .i64 r, .int .u32 (wd N 0 : Nat), .int .u32 (wd N 1 : Nat), .int .u32 (wd N 2 : Nat), .int .u32 (wd N 3 : Nat), .slice ad0 l0.length cap0])), (.int .i64 2), (.pointer (some ⟨w.heap.size, 0, none⟩)), (.int .i64 2), (.bool true), (.bool true), (.bool true), (.iface 50 (.agg #[.int .i64 f0, .int .i64 r, .int .u32 (wd N 0 : Nat), .int .u32 (wd N 1 : Nat), .int .u32 (wd N 2 : Nat), .int .u32 (wd N 3 : Nat), .slice ad0 l0.length cap0])), (.int .i64 f0), (.pointer (some ⟨w.heap.size, 1, none⟩)), (.int .i64 f0), (.bool true), (.bool true), (.bool true), (.iface 50 (.agg #[.int .i64 f0, .int .i64 r, .int .u32 (wd N 0 : Nat), .int .u32 (wd N 1 : Nat), .int .u32 (wd N 2 : Nat), .int .u32 (wd N 3 : Nat), .slice ad0 l0.length cap0])), (.slice g.1 l0.length g.2), (.pointer (some ⟨w.heap.size, 7, none⟩)), (.slice ad0 l0.length cap0), (.bool true), (.bool true), (.bool true)] : List Value).getD i__ undef) (fun g d W => JNt w 2 f0 r N ad0 cap0 l0 b2 b4 [] g (d 27) W) (by kernel_rfl) ((none, 0)) (show JNt w 2 f0 r N ad0 cap0 l0 b2 b4 [] (none, 0) false _ from (JNt.mk hbU4 hBU4 hRU4 hrx4 hry4 (fun e => by cases e)).carry (Below.refl _ _).drew) ?step3 ?fin3
      case step3 =>
        intro i o ho
        have hi : i < 33 := getElem?_lt ho
        match i, hi, ho with
        | 0, _, ho =>
          cases ho
          exact stepG_call rfl (fun g => trivial) 8 _ _ (fun _ => []) rfl (fun g => by kernel_rfl) (enters_of Try.func8 (by kernel_rfl) rfl) (fun g d W hJ hun hdep hcl => (hal W).mono (by rintro e w' ⟨rfl, hb'⟩; refine ⟨g, rfl, fun _ _ => rfl, ?_⟩; show JNt w 2 f0 r N ad0 cap0 l0 b2 b4 [] g (d 27) w'; exact hJ.carry hb'))
        | 1, _, ho =>
          cases ho
          refine stepG_of (fun g d hdep => ?_)
          exact step_move rfl trivial _ rfl (by kernel_rfl)
        | 2, _, ho =>
          cases ho
          refine stepG_of (fun g d hdep => ?_)
          exact step_move rfl (by exact ⟨_, rfl, by kernel_rfl⟩) _ rfl (by kernel_rfl)
        | 3, _, ho =>
          cases ho
          refine stepG_of (fun g d hdep => ?_)
          exact step_move rfl (by exact ⟨_, rfl, by kernel_rfl⟩) _ rfl (by kernel_rfl)
        | 4, _, ho =>
          cases ho
          refine stepG_of (fun g d hdep => ?_)
          exact step_binOp rfl (by exact ⟨_, rfl, by kernel_rfl⟩) _ _ _ _ _ _ _ rfl rfl rfl (fun w hw => (bin_eql .i64 _ _).trans (by simp))
        | 5, _, ho =>
          cases ho
          refine stepG_of (fun g d hdep => ?_)
          exact step_pick rfl trivial _ _ _ true rfl (by kernel_rfl) (by kernel_rfl)
        | 6, _, ho =>
          cases ho
          refine stepG_of (fun g d hdep => ?_)
          exact step_move rfl trivial _ rfl (by kernel_rfl)
        | 7, _, ho =>
          cases ho
          refine stepG_of (fun g d hdep => ?_)
          exact step_move rfl (by exact ⟨_, rfl, by kernel_rfl⟩) _ rfl (by kernel_rfl)
        | 8, _, ho =>
          cases ho
          refine stepG_of (fun g d hdep => ?_)
          exact step_move rfl (by exact ⟨_, rfl, by kernel_rfl⟩) _ rfl (by kernel_rfl)
        | 9, _, ho =>
          cases ho
          exact stepG_call rfl (fun g => ⟨_, rfl, by kernel_rfl⟩) 20 _ _ (fun _ => [.slice b2 0 c2x, .slice b4 0 c4x]) rfl (fun g => by kernel_rfl) (enters_of Try.func20 (by kernel_rfl) rfl) (fun g d W hJ hun hdep hcl => (hsb W b2 b4 c2x c4x hJ.rx hJ.ry).mono (by rintro e w' ⟨rfl, hb'⟩; refine ⟨g, rfl, fun _ _ => rfl, ?_⟩; show JNt w 2 f0 r N ad0 cap0 l0 b2 b4 [] g (d 27) w'; exact hJ.carry hb'))
        | 10, _, ho =>
          cases ho
          refine stepG_of (fun g d hdep => ?_)
          exact step_pick rfl trivial _ _ _ true rfl (by kernel_rfl) (by kernel_rfl)
        | 11, _, ho =>
          cases ho
          refine stepG_of (fun g d hdep => ?_)
          exact step_move rfl trivial _ rfl (by kernel_rfl)
        | 12, _, ho =>
          cases ho
          refine stepG_of (fun g d hdep => ?_)
          exact step_move rfl (by exact ⟨_, rfl, by kernel_rfl⟩) _ rfl (by kernel_rfl)
        | 13, _, ho =>
          cases ho
          exact stepG_invoke rfl (fun g => ⟨_, rfl, by kernel_rfl⟩) 33 _ "Kind" (.iface 50 (.agg #[.int .i64 f0, .int .i64 r, .int .u32 (wd N 0 : Nat), .int .u32 (wd N 1 : Nat), .int .u32 (wd N 2 : Nat), .int .u32 (wd N 3 : Nat), .slice ad0 l0.length cap0])) [.agg #[.int .i64 f0, .int .i64 r, .int .u32 (wd N 0 : Nat), .int .u32 (wd N 1 : Nat), .int .u32 (wd N 2 : Nat), .int .u32 (wd N 3 : Nat), .slice ad0 l0.length cap0]] rfl (fun g => by kernel_rfl) (cmP_Kind _) (fun g d W hJ hun hdep hcl => (hki2 W).mono (by rintro e w' ⟨rfl, hb'⟩; refine ⟨g, rfl, fun _ _ => rfl, ?_⟩; show JNt w 2 f0 r N ad0 cap0 l0 b2 b4 [] g (d 27) w'; exact hJ.carry hb'))
        | 14, _, ho =>
          cases ho
          refine stepG_of (fun g d hdep => ?_)
          exact step_fieldAddr rfl (by exact ⟨_, rfl, by kernel_rfl⟩) _ _ _ _ rfl rfl (fun w hw => field_rb0 _ w)
        | 15, _, ho =>
          cases ho
          refine stepG_of (fun g d hdep => ?_)
          exact step_load rfl (by exact ⟨_, rfl, by kernel_rfl⟩) _ _ _ rfl rfl (fun w hw => load_rb0 hw.rb)
        | 16, _, ho =>
          cases ho
          refine stepG_of (fun g d hdep => ?_)
          exact step_binOp rfl (by exact ⟨_, rfl, by kernel_rfl⟩) _ _ _ _ _ _ _ rfl rfl rfl (fun w hw => (bin_eql .i64 _ _).trans (by simp))
        | 17, _, ho =>
          cases ho
          refine stepG_of (fun g d hdep => ?_)
          exact step_pick rfl trivial _ _ _ true rfl (by kernel_rfl) (by kernel_rfl)
        | 18, _, ho =>
          cases ho
          refine stepG_of (fun g d hdep => ?_)
          exact step_move rfl trivial _ rfl (by kernel_rfl)
        | 19, _, ho =>
          cases ho
          refine stepG_of (fun g d hdep => ?_)
          exact step_move rfl (by exact ⟨_, rfl, by kernel_rfl⟩) _ rfl (by kernel_rfl)
        | 20, _, ho =>
          cases ho
          exact stepG_invoke rfl (fun g => ⟨_, rfl, by kernel_rfl⟩) 98 _ "Sender" (.iface 50 (.agg #[.int .i64 f0, .int .i64 r, .int .u32 (wd N 0 : Nat), .int .u32 (wd N 1 : Nat), .int .u32 (wd N 2 : Nat), .int .u32 (wd N 3 : Nat), .slice ad0 l0.length cap0])) [.agg #[.int .i64 f0, .int .i64 r, .int .u32 (wd N 0 : Nat), .int .u32 (wd N 1 : Nat), .int .u32 (wd N 2 : Nat), .int .u32 (wd N 3 : Nat), .slice ad0 l0.length cap0]] rfl (fun g => by kernel_rfl) (cmP_Sender _) (fun g d W hJ hun hdep hcl => (hse W).mono (by rintro e w' ⟨rfl, hb'⟩; refine ⟨g, rfl, fun _ _ => rfl, ?_⟩; show JNt w 2 f0 r N ad0 cap0 l0 b2 b4 [] g (d 27) w'; exact hJ.carry hb'))
        | 21, _, ho =>
          cases ho
          refine stepG_of (fun g d hdep => ?_)
          exact step_fieldAddr rfl (by exact ⟨_, rfl, by kernel_rfl⟩) _ _ _ _ rfl rfl (fun w hw => field_rb1 _ w)
        | 22, _, ho =>
          cases ho
          refine stepG_of (fun g d hdep => ?_)
          exact step_load rfl (by exact ⟨_, rfl, by kernel_rfl⟩) _ _ _ rfl rfl (fun w hw => load_rb1 hw.rb)
        | 23, _, ho =>
          cases ho
          refine stepG_of (fun g d hdep => ?_)
          exact step_binOp rfl (by exact ⟨_, rfl, by kernel_rfl⟩) _ _ _ _ _ _ _ rfl rfl rfl (fun w hw => (bin_eql .i64 _ _).trans (by simp))
        | 24, _, ho =>
          cases ho
          refine stepG_of (fun g d hdep => ?_)
          exact step_pick rfl trivial _ _ _ true rfl (by kernel_rfl) (by kernel_rfl)
        | 25, _, ho =>
          cases ho
          refine stepG_of (fun g d hdep => ?_)
          exact step_move rfl trivial _ rfl (by kernel_rfl)
        | 26, _, ho =>
          cases ho
          refine stepG_of (fun g d hdep => ?_)
          exact step_move rfl (by exact ⟨_, rfl, by kernel_rfl⟩) _ rfl (by kernel_rfl)
        | 27, _, ho =>
          cases ho
          exact stepG_invoke rfl (fun g => ⟨_, rfl, by kernel_rfl⟩) 51 _ "Notices" (.iface 50 (.agg #[.int .i64 f0, .int .i64 r, .int .u32 (wd N 0 : Nat), .int .u32 (wd N 1 : Nat), .int .u32 (wd N 2 : Nat), .int .u32 (wd N 3 : Nat), .slice ad0 l0.length cap0])) [.agg #[.int .i64 f0, .int .i64 r, .int .u32 (wd N 0 : Nat), .int .u32 (wd N 1 : Nat), .int .u32 (wd N 2 : Nat), .int .u32 (wd N 3 : Nat), .slice ad0 l0.length cap0]] rfl (fun g => by kernel_rfl) (cmP_Notices _) (fun g d W hJ hun hdep hcl => (hno W hJ.rd).mono (by rintro e w' ⟨a, c, rfl, hr', hb'⟩; refine ⟨(a, c), rfl, (fun j hj => match j, hj with | 27, hj => (by rw [hj] at hun; cases hun)  | 0, _ => rfl | 1, _ => rfl | 2, _ => rfl | 3, _ => rfl | 4, _ => rfl | 5, _ => rfl | 6, _ => rfl | 7, _ => rfl | 8, _ => rfl | 9, _ => rfl | 10, _ => rfl | 11, _ => rfl | 12, _ => rfl | 13, _ => rfl | 14, _ => rfl | 15, _ => rfl | 16, _ => rfl | 17, _ => rfl | 18, _ => rfl | 19, _ => rfl | 20, _ => rfl | 21, _ => rfl | 22, _ => rfl | 23, _ => rfl | 24, _ => rfl | 25, _ => rfl | 26, _ => rfl | 28, _ => rfl | 29, _ => rfl | 30, _ => rfl | 31, _ => rfl | 32, _ => rfl | _ + 33, _ => rfl), ?_⟩; show JNt w 2 f0 r N ad0 cap0 l0 b2 b4 [] (a, c) true w'; exact hJ.note hb' hr'))
        | 28, _, ho =>
          cases ho
          refine stepG_of (fun g d hdep => ?_)
          exact step_fieldAddr rfl (by exact ⟨_, rfl, by kernel_rfl⟩) _ _ _ _ rfl rfl (fun w hw => field_rb _ w)
        | 29, _, ho =>
          cases ho
          refine stepG_of (fun g d hdep => ?_)
          exact step_load rfl (by exact ⟨_, rfl, by kernel_rfl⟩) _ _ _ rfl rfl (fun w hw => load_rb hw.rb)
        | 30, _, ho =>
          cases ho
          exact stepG_call rfl (fun g => ⟨_, rfl, by kernel_rfl⟩) 21 _ _ (fun g => [.slice g.1 l0.length g.2, .slice ad0 l0.length cap0]) rfl (fun g => by kernel_rfl) (enters_of Try.func21 (by kernel_rfl) rfl) (fun g d W hJ hun hdep hcl => (hsn W g.1 g.2 (hJ.nn (hdep 27 (by kernel_rfl))) hJ.rd).mono (by rintro e w' ⟨rfl, hb'⟩; refine ⟨g, rfl, fun _ _ => rfl, ?_⟩; show JNt w 2 f0 r N ad0 cap0 l0 b2 b4 [] g (d 27) w'; exact hJ.carry hb'))
        | 31, _, ho =>
          cases ho
          refine stepG_of (fun g d hdep => ?_)
          exact step_pick rfl trivial _ _ _ true rfl (by kernel_rfl) (by kernel_rfl)
        | 32, _, ho =>
          cases ho
          refine stepG_of (fun g d hdep => ?_)
          exact step_assign rfl trivial _ rfl (by kernel_rfl) (fun _ h => h)
      intro g d W hall hW
      first | refine hK _ _ ?_ | refine (‹∀ (a : Act) (w : World), Code.wp Try.prog _ _ a w → _›) _ _ ?_ | skip
      simp only [finL, List.getD_cons_zero, List.getD_cons_succ, Nat.zero_add, Nat.reduceAdd, List.setIfInBounds_toArray, List.set_cons_zero, List.set_cons_succ]
      go_wp2
      go_ret
      exact ⟨rfl, hW.be⟩
    obtain ⟨hn, hfr, hrd, _, hri⟩ := flt_0 hf
    obtain ⟨fr, rfl⟩ := Int.eq_ofNat_of_zero_le hfr.1
    obtain ⟨n, rfl⟩ := Int.eq_ofNat_of_zero_le (show 0 ≤ a1 by omega)
    obtain ⟨rd, rfl⟩ := Int.eq_ofNat_of_zero_le (show 0 ≤ r by omega)
    have hdo := dec_of (n := n) (fr := fr) (rd := rd) (N := N) (l := l0) (show 1 ≤ 2 ∧ 2 ≤ 3 by decide) hf (fun e => absurd e (by decide)) (fun e => absurd rfl e)
    obtain ⟨B, hB⟩ : ∃ B, byt7 2 n fr rd N l0 = B := ⟨_, rfl⟩
    have hBB : Byt B := hB ▸ byt7_byt _ _ _ _ _ _
    have hBs : B.length ≤ 1024 := by rw [← hB]; exact byt7_short hf
    have hby : ∀ (W : World) (a : Option Addr) (c : Nat), RdN W a l0 → Calls Try.prog 97 #[.agg #[.int .i64 (fr : Int), .int .i64 (rd : Int), .int .u32 (wd N 0 : Nat), .int .u32 (wd N 1 : Nat), .int .u32 (wd N 2 : Nat), .int .u32 (wd N 3 : Nat), .slice a l0.length c], .int .i64 (n : Int)] W fun e W' => ∃ b2 c2, e = .returned (.tuple #[.slice b2 B.length c2, .int .i64 0]) ∧ RdB W' b2 B ∧ B.length ≤ c2 ∧ W'.ownsRow W.heap.size 5 1 (.slice b2 B.length c2) B.length (cB B) ∧ Below W.heap.size W W' := fun W a c hr => (pbytes_any (n : Int) fr rd N hN a c l0 W hr (by omega)).mono (by
      intro e W' q
      obtain ⟨b2, c2, q1, q5, q2, q4, q3⟩ := bo_ok q hf
      rw [Int.toNat_natCast, hB] at q1 q2 q4 q5
      exact ⟨b2, c2, q1, q2, q4, q5, q3⟩)
    have hrb : ∀ W, RdN W ad0 l0 → Calls Try.prog 19 #[.agg #[.int .i64 2, .int .i64 (fr : Int), .int .i64 (rd : Int), .int .u32 (wd N 0 : Nat), .int .u32 (wd N 1 : Nat), .int .u32 (wd N 2 : Nat), .int .u32 (wd N 3 : Nat), .slice ad0 l0.length cap0], .int .i64 (n : Int)] W fun e W' => ∃ b2 c2, e = .returned (.tuple #[.slice b2 B.length c2, .int .i64 0]) ∧ RdB W' b2 B ∧ Below W.heap.size W W' := fun W hr => (rbytes_any 2 (by decide) n fr (rd : Int) N hN (fun e => absurd e (by decide)) (fun e => absurd rfl e) ad0 cap0 l0 W hr (by omega)).mono (by
      intro e W' q
      obtain ⟨b2, c2, q1, q5, q2, q4, q3⟩ := bo_ok q hf
      rw [Int.toNat_natCast, hB] at q1 q2
      exact ⟨b2, c2, q1, q2, q3⟩)
    have hsb : ∀ (W : World) (b2 b3 : Option Addr) (c2 c3 : Nat), RdB W b2 B → RdB W b3 B → Calls Try.prog 20 #[.slice b2 B.length c2, .slice b3 B.length c3] W fun e w' => e = .returned (.bool true) ∧ Below W.heap.size W w' := fun W b2 b3 c2 c3 h1 h2 => sameB_yes b2 b3 c2 c3 B W h1 h2 (by omega)
    have i2 := invP_Kind
    have i3 := invP_Sender
    have i4 := invP_Notices
    have hki2 : ∀ W, Calls Try.prog 33 #[.agg #[.int .i64 (fr : Int), .int .i64 (rd : Int), .int .u32 (wd N 0 : Nat), .int .u32 (wd N 1 : Nat), .int .u32 (wd N 2 : Nat), .int .u32 (wd N 3 : Nat), .slice ad0 l0.length cap0]] W fun e w' => e = .returned (.int .i64 2) ∧ Below W.heap.size W w' := fun W => kindP_any _ _ _ _ _ _ _ _ _ W
    have hse : ∀ W, Calls Try.prog 98 #[.agg #[.int .i64 (fr : Int), .int .i64 (rd : Int), .int .u32 (wd N 0 : Nat), .int .u32 (wd N 1 : Nat), .int .u32 (wd N 2 : Nat), .int .u32 (wd N 3 : Nat), .slice ad0 l0.length cap0]] W fun e w' => e = .returned (.int .i64 (fr : Int)) ∧ Below W.heap.size W w' := fun W => senderP_any _ _ _ _ _ _ _ _ _ W
    have hno : ∀ W, RdN W ad0 l0 → Calls Try.prog 51 #[.agg #[.int .i64 (fr : Int), .int .i64 (rd : Int), .int .u32 (wd N 0 : Nat), .int .u32 (wd N 1 : Nat), .int .u32 (wd N 2 : Nat), .int .u32 (wd N 3 : Nat), .slice ad0 l0.length cap0]] W fun e w' => ∃ a c, e = .returned (.slice a l0.length c) ∧ RdN w' a l0 ∧ Below W.heap.size W w' := fun W hW => (noticesP_any (fr : Int) (rd : Int) (wd N 0 : Nat) (wd N 1 : Nat) (wd N 2 : Nat) (wd N 3 : Nat) ad0 cap0 l0 W hW (by omega)).mono (by
      rintro e W' ⟨a, c, q1, q2, q3⟩
      exact ⟨a, c, q1, RdN.own q2, q3⟩)
    have hsn : ∀ (W : World) (a : Option Addr) (c : Nat), RdN W a l0 → RdN W ad0 l0 → Calls Try.prog 21 #[.slice a l0.length c, .slice ad0 l0.length cap0] W fun e w' => e = .returned (.bool true) ∧ Below W.heap.size W w' := fun W a c h1 h2 => same_any a ad0 c cap0 l0 W h1 h2 (by omega)
    clear hdo hB hf hrd hri hfr hn hBB hk hk3 hk2
    go_enter Try.func5, Try.ntmps5
    go_wp2_with (first | (go_at_call 12; (with_reducible refine hki.mono ?_); rintro e u1 ⟨rfl, hbk⟩; have hB1 := hB0.below hbk; obtain ⟨e0, e1, e2, e3, e4, e5, e6, e7⟩ := hB1.cells; obtain ⟨z0, z1, z2, z3, z4, z5, z6, z7⟩ := hB1.thaw; have hBU : RB (((((((((u1.setCell ⟨w.heap.size, 0, none⟩ (.int .i64 (2 : Int))).setCell ⟨w.heap.size, 1, none⟩ (.int .i64 (fr : Int))).setCell ⟨w.heap.size, 2, none⟩ (.int .i64 (rd : Int))).setCell ⟨w.heap.size, 3, none⟩ (.int .u32 (wd N 0 : Nat))).setCell ⟨w.heap.size, 4, none⟩ (.int .u32 (wd N 1 : Nat))).setCell ⟨w.heap.size, 5, none⟩ (.int .u32 (wd N 2 : Nat))).setCell ⟨w.heap.size, 6, none⟩ (.int .u32 (wd N 3 : Nat)))).setCell ⟨w.heap.size, 7, none⟩ (.slice ad0 l0.length cap0)) w.heap.size 2 (fr : Int) (rd : Int) N (.slice ad0 l0.length cap0) := hB1.set8 2 (fr : Int) (rd : Int) N (.slice ad0 l0.length cap0); have hbU : Below w.heap.size w (((((((((u1.setCell ⟨w.heap.size, 0, none⟩ (.int .i64 (2 : Int))).setCell ⟨w.heap.size, 1, none⟩ (.int .i64 (fr : Int))).setCell ⟨w.heap.size, 2, none⟩ (.int .i64 (rd : Int))).setCell ⟨w.heap.size, 3, none⟩ (.int .u32 (wd N 0 : Nat))).setCell ⟨w.heap.size, 4, none⟩ (.int .u32 (wd N 1 : Nat))).setCell ⟨w.heap.size, 5, none⟩ (.int .u32 (wd N 2 : Nat))).setCell ⟨w.heap.size, 6, none⟩ (.int .u32 (wd N 3 : Nat)))).setCell ⟨w.heap.size, 7, none⟩ (.slice ad0 l0.length cap0)) := below8 (bel2 hb0 hbk) 2 (fr : Int) (rd : Int) N (.slice ad0 l0.length cap0); obtain ⟨U, hU⟩ : ∃ U, ((((((((u1.setCell ⟨w.heap.size, 0, none⟩ (.int .i64 (2 : Int))).setCell ⟨w.heap.size, 1, none⟩ (.int .i64 (fr : Int))).setCell ⟨w.heap.size, 2, none⟩ (.int .i64 (rd : Int))).setCell ⟨w.heap.size, 3, none⟩ (.int .u32 (wd N 0 : Nat))).setCell ⟨w.heap.size, 4, none⟩ (.int .u32 (wd N 1 : Nat))).setCell ⟨w.heap.size, 5, none⟩ (.int .u32 (wd N 2 : Nat))).setCell ⟨w.heap.size, 6, none⟩ (.int .u32 (wd N 3 : Nat)))).setCell ⟨w.heap.size, 7, none⟩ (.slice ad0 l0.length cap0) = U := ⟨_, rfl⟩; rw [hU] at hBU hbU; obtain ⟨d0, d1, d2, d3, d4, d5, d6, d7⟩ := hBU.cells; have hRU := w0.carry hbU) | (go_at_call 13; (with_reducible refine (hlay _).mono ?_); rintro e u2 ⟨rfl, hb2⟩; have hbU2 := bel2 hbU hb2; have hBU2 := hBU.below hb2; have hRU2 := hRU.carry hb2; clear d0 d1 d2 d3 d4 d5 d6 d7; obtain ⟨d0, d1, d2, d3, d4, d5, d6, d7⟩ := hBU2.cells) | (go_at_call 97; (with_reducible refine (hby _ _ _ hRU2).mono ?_); rintro e u3 ⟨b2, c2x, rfl, hr3, hl3, ho3, hb3⟩; have hbU3 := bel2 hbU2 hb3; have hBU3 := hBU2.below hb3; have hRU3 := hRU2.carry hb3; clear d0 d1 d2 d3 d4 d5 d6 d7; obtain ⟨d0, d1, d2, d3, d4, d5, d6, d7⟩ := hBU3.cells) | (go_at_call 19; (with_reducible refine (hrb _ hRU3).mono ?_); rintro e u4 ⟨b4, c4x, rfl, hry4, hb4⟩; have hbU4 := bel2 hbU3 hb4; have hBU4 := hBU3.below hb4; have hRU4 := hRU3.carry hb4; have hrx4 := hr3.carry hb4))
    refine wp_region_any hmx ?_
    refine wpAny_tabG (G := (Option Addr × Nat)) (fun g i__ => ([(.bool true), (.bool true), (.int .i64 0), (.int .i64 0), (.bool true), (.bool true), (.bool true), (.slice b2 B.length c2x), (.slice b4 B.length c4x), (.bool true), (.bool true), (.bool true), (.iface 50 (.agg #[.int .i64 (fr : Int), .int .i64 (rd : Int), .int .u32 (wd N 0 : Nat), .int .u32 (wd N 1 : Nat), .int .u32 (wd N 2 : Nat), .int .u32 (wd N 3 : Nat), .slice ad0 l0.length cap0])), (.int .i64 2), (.pointer (some ⟨w.heap.size, 0, none⟩)), (.int .i64 2), (.bool true), (.bool true), (.bool true), (.iface 50 (.agg #[.int .i64 (fr : Int), .int .i64 (rd : Int), .int .u32 (wd N 0 : Nat), .int .u32 (wd N 1 : Nat), .int .u32 (wd N 2 : Nat), .int .u32 (wd N 3 : Nat), .slice ad0 l0.length cap0])), (.int .i64 (fr : Int)), (.pointer (some ⟨w.heap.size, 1, none⟩)), (.int .i64 (fr : Int)), (.bool true), (.bool true), (.bool true), (.iface 50 (.agg #[.int .i64 (fr : Int), .int .i64 (rd : Int), .int .u32 (wd N 0 : Nat), .int .u32 (wd N 1 : Nat), .int .u32 (wd N 2 : Nat), .int .u32 (wd N 3 : Nat), .slice ad0 l0.length cap0])), (.slice g.1 l0.length g.2), (.pointer (some ⟨w.heap.size, 7, none⟩)), (.slice ad0 l0.length cap0), (.bool true), (.bool true), (.bool true)] : List Value).getD i__ undef) (fun g d W => JNt w 2 (fr : Int) (rd : Int) N ad0 cap0 l0 b2 b4 B g (d 27) W) (by kernel_rfl) ((none, 0)) (show JNt w 2 (fr : Int) (rd : Int) N ad0 cap0 l0 b2 b4 B (none, 0) false _ from (JNt.mk hbU4 hBU4 hRU4 hrx4 hry4 (fun e => by cases e)).carry (Below.refl _ _).drew) ?step4 ?fin4
    case step4 =>
      intro i o ho
      have hi : i < 33 := getElem?_lt ho
      match i, hi, ho with
      | 0, _, ho =>
        cases ho
        exact stepG_call rfl (fun g => trivial) 8 _ _ (fun _ => []) rfl (fun g => by kernel_rfl) (enters_of Try.func8 (by kernel_rfl) rfl) (fun g d W hJ hun hdep hcl => (hal W).mono (by rintro e w' ⟨rfl, hb'⟩; refine ⟨g, rfl, fun _ _ => rfl, ?_⟩; show JNt w 2 (fr : Int) (rd : Int) N ad0 cap0 l0 b2 b4 B g (d 27) w'; exact hJ.carry hb'))
      | 1, _, ho =>
        cases ho
        refine stepG_of (fun g d hdep => ?_)
        exact step_move rfl trivial _ rfl (by kernel_rfl)
      | 2, _, ho =>
        cases ho
        refine stepG_of (fun g d hdep => ?_)
        exact step_move rfl (by exact ⟨_, rfl, by kernel_rfl⟩) _ rfl (by kernel_rfl)
      | 3, _, ho =>
        cases ho
        refine stepG_of (fun g d hdep => ?_)
        exact step_move rfl (by exact ⟨_, rfl, by kernel_rfl⟩) _ rfl (by kernel_rfl)
      | 4, _, ho =>
        cases ho
        refine stepG_of (fun g d hdep => ?_)
        exact step_binOp rfl (by exact ⟨_, rfl, by kernel_rfl⟩) _ _ _ _ _ _ _ rfl rfl rfl (fun w hw => (bin_eql .i64 _ _).trans (by simp))
      | 5, _, ho =>
        cases ho
        refine stepG_of (fun g d hdep => ?_)
        exact step_pick rfl trivial _ _ _ true rfl (by kernel_rfl) (by kernel_rfl)
      | 6, _, ho =>
        cases ho
        refine stepG_of (fun g d hdep => ?_)
        exact step_move rfl trivial _ rfl (by kernel_rfl)
      | 7, _, ho =>
        cases ho
        refine stepG_of (fun g d hdep => ?_)
        exact step_move rfl (by exact ⟨_, rfl, by kernel_rfl⟩) _ rfl (by kernel_rfl)
      | 8, _, ho =>
        cases ho
        refine stepG_of (fun g d hdep => ?_)
        exact step_move rfl (by exact ⟨_, rfl, by kernel_rfl⟩) _ rfl (by kernel_rfl)
      | 9, _, ho =>
        cases ho
        exact stepG_call rfl (fun g => ⟨_, rfl, by kernel_rfl⟩) 20 _ _ (fun _ => [.slice b2 B.length c2x, .slice b4 B.length c4x]) rfl (fun g => by kernel_rfl) (enters_of Try.func20 (by kernel_rfl) rfl) (fun g d W hJ hun hdep hcl => (hsb W b2 b4 c2x c4x hJ.rx hJ.ry).mono (by rintro e w' ⟨rfl, hb'⟩; refine ⟨g, rfl, fun _ _ => rfl, ?_⟩; show JNt w 2 (fr : Int) (rd : Int) N ad0 cap0 l0 b2 b4 B g (d 27) w'; exact hJ.carry hb'))
      | 10, _, ho =>
        cases ho
        refine stepG_of (fun g d hdep => ?_)
        exact step_pick rfl trivial _ _ _ true rfl (by kernel_rfl) (by kernel_rfl)
      | 11, _, ho =>
        cases ho
        refine stepG_of (fun g d hdep => ?_)
        exact step_move rfl trivial _ rfl (by kernel_rfl)
      | 12, _, ho =>
        cases ho
        refine stepG_of (fun g d hdep => ?_)
        exact step_move rfl (by exact ⟨_, rfl, by kernel_rfl⟩) _ rfl (by kernel_rfl)
      | 13, _, ho =>
        cases ho
        exact stepG_invoke rfl (fun g => ⟨_, rfl, by kernel_rfl⟩) 33 _ "Kind" (.iface 50 (.agg #[.int .i64 (fr : Int), .int .i64 (rd : Int), .int .u32 (wd N 0 : Nat), .int .u32 (wd N 1 : Nat), .int .u32 (wd N 2 : Nat), .int .u32 (wd N 3 : Nat), .slice ad0 l0.length cap0])) [.agg #[.int .i64 (fr : Int), .int .i64 (rd : Int), .int .u32 (wd N 0 : Nat), .int .u32 (wd N 1 : Nat), .int .u32 (wd N 2 : Nat), .int .u32 (wd N 3 : Nat), .slice ad0 l0.length cap0]] rfl (fun g => by kernel_rfl) (cmP_Kind _) (fun g d W hJ hun hdep hcl => (hki2 W).mono (by rintro e w' ⟨rfl, hb'⟩; refine ⟨g, rfl, fun _ _ => rfl, ?_⟩; show JNt w 2 (fr : Int) (rd : Int) N ad0 cap0 l0 b2 b4 B g (d 27) w'; exact hJ.carry hb'))
      | 14, _, ho =>
        cases ho
        refine stepG_of (fun g d hdep => ?_)
        exact step_fieldAddr rfl (by exact ⟨_, rfl, by kernel_rfl⟩) _ _ _ _ rfl rfl (fun w hw => field_rb0 _ w)
      | 15, _, ho =>
        cases ho
        refine stepG_of (fun g d hdep => ?_)
        exact step_load rfl (by exact ⟨_, rfl, by kernel_rfl⟩) _ _ _ rfl rfl (fun w hw => load_rb0 hw.rb)
      | 16, _, ho =>
        cases ho
        refine stepG_of (fun g d hdep => ?_)
        exact step_binOp rfl (by exact ⟨_, rfl, by kernel_rfl⟩) _ _ _ _ _ _ _ rfl rfl rfl (fun w hw => (bin_eql .i64 _ _).trans (by simp))
      | 17, _, ho =>
        cases ho
        refine stepG_of (fun g d hdep => ?_)
        exact step_pick rfl trivial _ _ _ true rfl (by kernel_rfl) (by kernel_rfl)
      | 18, _, ho =>
        cases ho
        refine stepG_of (fun g d hdep => ?_)
        exact step_move rfl trivial _ rfl (by kernel_rfl)
      | 19, _, ho =>
        cases ho
        refine stepG_of (fun g d hdep => ?_)
        exact step_move rfl (by exact ⟨_, rfl, by kernel_rfl⟩) _ rfl (by kernel_rfl)
      | 20, _, ho =>
        cases ho
        exact stepG_invoke rfl (fun g => ⟨_, rfl, by kernel_rfl⟩) 98 _ "Sender" (.iface 50 (.agg #[.int .i64 (fr : Int), .int .i64 (rd : Int), .int .u32 (wd N 0 : Nat), .int .u32 (wd N 1 : Nat), .int .u32 (wd N 2 : Nat), .int .u32 (wd N 3 : Nat), .slice ad0 l0.length cap0])) [.agg #[.int .i64 (fr : Int), .int .i64 (rd : Int), .int .u32 (wd N 0 : Nat), .int .u32 (wd N 1 : Nat), .int .u32 (wd N 2 : Nat), .int .u32 (wd N 3 : Nat), .slice ad0 l0.length cap0]] rfl (fun g => by kernel_rfl) (cmP_Sender _) (fun g d W hJ hun hdep hcl => (hse W).mono (by rintro e w' ⟨rfl, hb'⟩; refine ⟨g, rfl, fun _ _ => rfl, ?_⟩; show JNt w 2 (fr : Int) (rd : Int) N ad0 cap0 l0 b2 b4 B g (d 27) w'; exact hJ.carry hb'))
      | 21, _, ho =>
        cases ho
        refine stepG_of (fun g d hdep => ?_)
        exact step_fieldAddr rfl (by exact ⟨_, rfl, by kernel_rfl⟩) _ _ _ _ rfl rfl (fun w hw => field_rb1 _ w)
      | 22, _, ho =>
        cases ho
        refine stepG_of (fun g d hdep => ?_)
        exact step_load rfl (by exact ⟨_, rfl, by kernel_rfl⟩) _ _ _ rfl rfl (fun w hw => load_rb1 hw.rb)
      | 23, _, ho =>
        cases ho
        refine stepG_of (fun g d hdep => ?_)
        exact step_binOp rfl (by exact ⟨_, rfl, by kernel_rfl⟩) _ _ _ _ _ _ _ rfl rfl rfl (fun w hw => (bin_eql .i64 _ _).trans (by simp))
      | 24, _, ho =>
        cases ho
        refine stepG_of (fun g d hdep => ?_)
        exact step_pick rfl trivial _ _ _ true rfl (by kernel_rfl) (by kernel_rfl)
      | 25, _, ho =>
        cases ho
        refine stepG_of (fun g d hdep => ?_)
        exact step_move rfl trivial _ rfl (by kernel_rfl)
      | 26, _, ho =>
        cases ho
        refine stepG_of (fun g d hdep => ?_)
        exact step_move rfl (by exact ⟨_, rfl, by kernel_rfl⟩) _ rfl (by kernel_rfl)
      | 27, _, ho =>
        cases ho
        exact stepG_invoke rfl (fun g => ⟨_, rfl, by kernel_rfl⟩) 51 _ "Notices" (.iface 50 (.agg #[.int .i64 (fr : Int), .int .i64 (rd : Int), .int .u32 (wd N 0 : Nat), .int .u32 (wd N 1 : Nat), .int .u32 (wd N 2 : Nat), .int .u32 (wd N 3 : Nat), .slice ad0 l0.length cap0])) [.agg #[.int .i64 (fr : Int), .int .i64 (rd : Int), .int .u32 (wd N 0 : Nat), .int .u32 (wd N 1 : Nat), .int .u32 (wd N 2 : Nat), .int .u32 (wd N 3 : Nat), .slice ad0 l0.length cap0]] rfl (fun g => by kernel_rfl) (cmP_Notices _) (fun g d W hJ hun hdep hcl => (hno W hJ.rd).mono (by rintro e w' ⟨a, c, rfl, hr', hb'⟩; refine ⟨(a, c), rfl, (fun j hj => match j, hj with | 27, hj => (by rw [hj] at hun; cases hun)  | 0, _ => rfl | 1, _ => rfl | 2, _ => rfl | 3, _ => rfl | 4, _ => rfl | 5, _ => rfl | 6, _ => rfl | 7, _ => rfl | 8, _ => rfl | 9, _ => rfl | 10, _ => rfl | 11, _ => rfl | 12, _ => rfl | 13, _ => rfl | 14, _ => rfl | 15, _ => rfl | 16, _ => rfl | 17, _ => rfl | 18, _ => rfl | 19, _ => rfl | 20, _ => rfl | 21, _ => rfl | 22, _ => rfl | 23, _ => rfl | 24, _ => rfl | 25, _ => rfl | 26, _ => rfl | 28, _ => rfl | 29, _ => rfl | 30, _ => rfl | 31, _ => rfl | 32, _ => rfl | _ + 33, _ => rfl), ?_⟩; show JNt w 2 (fr : Int) (rd : Int) N ad0 cap0 l0 b2 b4 B (a, c) true w'; exact hJ.note hb' hr'))
      | 28, _, ho =>
        cases ho
        refine stepG_of (fun g d hdep => ?_)
        exact step_fieldAddr rfl (by exact ⟨_, rfl, by kernel_rfl⟩) _ _ _ _ rfl rfl (fun w hw => field_rb _ w)
      | 29, _, ho =>
        cases ho
        refine stepG_of (fun g d hdep => ?_)
        exact step_load rfl (by exact ⟨_, rfl, by kernel_rfl⟩) _ _ _ rfl rfl (fun w hw => load_rb hw.rb)
      | 30, _, ho =>
        cases ho
        exact stepG_call rfl (fun g => ⟨_, rfl, by kernel_rfl⟩) 21 _ _ (fun g => [.slice g.1 l0.length g.2, .slice ad0 l0.length cap0]) rfl (fun g => by kernel_rfl) (enters_of Try.func21 (by kernel_rfl) rfl) (fun g d W hJ hun hdep hcl => (hsn W g.1 g.2 (hJ.nn (hdep 27 (by kernel_rfl))) hJ.rd).mono (by rintro e w' ⟨rfl, hb'⟩; refine ⟨g, rfl, fun _ _ => rfl, ?_⟩; show JNt w 2 (fr : Int) (rd : Int) N ad0 cap0 l0 b2 b4 B g (d 27) w'; exact hJ.carry hb'))
      | 31, _, ho =>
        cases ho
        refine stepG_of (fun g d hdep => ?_)
        exact step_pick rfl trivial _ _ _ true rfl (by kernel_rfl) (by kernel_rfl)
      | 32, _, ho =>
        cases ho
        refine stepG_of (fun g d hdep => ?_)
        exact step_assign rfl trivial _ rfl (by kernel_rfl) (fun _ h => h)
    intro g d W hall hW
    first | refine hK _ _ ?_ | refine (‹∀ (a : Act) (w : World), Code.wp Try.prog _ _ a w → _›) _ _ ?_ | skip
    simp only [finL, List.getD_cons_zero, List.getD_cons_succ, Nat.zero_add, Nat.reduceAdd, List.setIfInBounds_toArray, List.set_cons_zero, List.set_cons_succ]
    go_wp2
    go_ret
    exact ⟨rfl, hW.be⟩
  · obtain rfl : N = 0 := hk2 (by decide)
    obtain rfl : r = 0 := hk3 rfl
    have hlay : ∀ W, Calls Try.prog 13 #[.agg #[.int .i64 3, .int .i64 f0, .int .i64 0, .int .u32 (wd 0 0 : Nat), .int .u32 (wd 0 1 : Nat), .int .u32 (wd 0 2 : Nat), .int .u32 (wd 0 3 : Nat), .slice ad0 l0.length cap0]] W fun e w' => e = .returned (.iface 53 (.agg #[.int .i64 f0, .slice ad0 l0.length cap0])) ∧ Below W.heap.size W w' := fun W => lay_any 3 f0 0 0 ad0 l0.length cap0 W
    have i1 := invU_Bytes
    by_cases hf : flt 3 a1 f0 0 0 l0 = 0
    case neg =>
      have hby : ∀ (W : World) (a : Option Addr) (c : Nat), RdN W a l0 → Calls Try.prog 100 #[.agg #[.int .i64 f0, .slice a l0.length c], .int .i64 a1] W fun e W' => ∃ b2 c2, e = .returned (.tuple #[.slice b2 0 c2, .int .i64 (flt 3 a1 f0 0 0 l0)]) ∧ Below W.heap.size W W' := fun W a c hr => (ubytes_any a1 f0 a c l0 W hr (by omega)).mono (fun e W' q => bo_no q hf)
      have hrb : ∀ W, RdN W ad0 l0 → Calls Try.prog 19 #[.agg #[.int .i64 3, .int .i64 f0, .int .i64 0, .int .u32 (wd 0 0 : Nat), .int .u32 (wd 0 1 : Nat), .int .u32 (wd 0 2 : Nat), .int .u32 (wd 0 3 : Nat), .slice ad0 l0.length cap0], .int .i64 a1] W fun e W' => ∃ b2 c2, e = .returned (.tuple #[.slice b2 0 c2, .int .i64 (flt 3 a1 f0 0 0 l0)]) ∧ Below W.heap.size W W' := fun W hr => (rbytes_any 3 (by decide) a1 f0 0 0 s128_0 (fun _ => rfl) (fun _ => rfl) ad0 cap0 l0 W hr (by omega)).mono (fun e W' q => bo_no q hf)
      have hsb : ∀ (W : World) (b2 b3 : Option Addr) (c2 c3 : Nat), RdB W b2 [] → RdB W b3 [] → Calls Try.prog 20 #[.slice b2 0 c2, .slice b3 0 c3] W fun e w' => e = .returned (.bool true) ∧ Below W.heap.size W w' := fun W b2 b3 c2 c3 h1 h2 => sameB_yes b2 b3 c2 c3 [] W h1 h2 (by simp)
      have hfi : (flt 3 a1 f0 0 0 l0 != 0) = true := by simpa using hf
      generalize flt 3 a1 f0 0 0 l0 = FV at *
      clear hf
      have i2 := invU_Kind
      have i3 := invU_Sender
      have i4 := invU_Notices
      have hki2 : ∀ W, Calls Try.prog 34 #[.agg #[.int .i64 f0, .slice ad0 l0.length cap0]] W fun e w' => e = .returned (.int .i64 3) ∧ Below W.heap.size W w' := fun W => kindU_any _ _ _ _ W
      have hse : ∀ W, Calls Try.prog 101 #[.agg #[.int .i64 f0, .slice ad0 l0.length cap0]] W fun e w' => e = .returned (.int .i64 f0) ∧ Below W.heap.size W w' := fun W => senderU_any _ _ _ _ W
      have hno : ∀ W, RdN W ad0 l0 → Calls Try.prog 52 #[.agg #[.int .i64 f0, .slice ad0 l0.length cap0]] W fun e w' => ∃ a c, e = .returned (.slice a l0.length c) ∧ RdN w' a l0 ∧ Below W.heap.size W w' := fun W hW => (noticesU_any f0 ad0 cap0 l0 W hW (by omega)).mono (by
        rintro e W' ⟨a, c, q1, q2, q3⟩
        exact ⟨a, c, q1, RdN.own q2, q3⟩)
      have hsn : ∀ (W : World) (a : Option Addr) (c : Nat), RdN W a l0 → RdN W ad0 l0 → Calls Try.prog 21 #[.slice a l0.length c, .slice ad0 l0.length cap0] W fun e w' => e = .returned (.bool true) ∧ Below W.heap.size W w' := fun W a c h1 h2 => same_any a ad0 c cap0 l0 W h1 h2 (by omega)
      clear hk hk3 hk2
      go_enter Try.func5, Try.ntmps5
      go_wp2_with (first | (go_at_call 12; (with_reducible refine hki.mono ?_); rintro e u1 ⟨rfl, hbk⟩; have hB1 := hB0.below hbk; obtain ⟨e0, e1, e2, e3, e4, e5, e6, e7⟩ := hB1.cells; obtain ⟨z0, z1, z2, z3, z4, z5, z6, z7⟩ := hB1.thaw; have hBU : RB (((((((((u1.setCell ⟨w.heap.size, 0, none⟩ (.int .i64 (3 : Int))).setCell ⟨w.heap.size, 1, none⟩ (.int .i64 f0)).setCell ⟨w.heap.size, 2, none⟩ (.int .i64 0)).setCell ⟨w.heap.size, 3, none⟩ (.int .u32 (wd 0 0 : Nat))).setCell ⟨w.heap.size, 4, none⟩ (.int .u32 (wd 0 1 : Nat))).setCell ⟨w.heap.size, 5, none⟩ (.int .u32 (wd 0 2 : Nat))).setCell ⟨w.heap.size, 6, none⟩ (.int .u32 (wd 0 3 : Nat)))).setCell ⟨w.heap.size, 7, none⟩ (.slice ad0 l0.length cap0)) w.heap.size 3 f0 0 0 (.slice ad0 l0.length cap0) := hB1.set8 3 f0 0 0 (.slice ad0 l0.length cap0); have hbU : Below w.heap.size w (((((((((u1.setCell ⟨w.heap.size, 0, none⟩ (.int .i64 (3 : Int))).setCell ⟨w.heap.size, 1, none⟩ (.int .i64 f0)).setCell ⟨w.heap.size, 2, none⟩ (.int .i64 0)).setCell ⟨w.heap.size, 3, none⟩ (.int .u32 (wd 0 0 : Nat))).setCell ⟨w.heap.size, 4, none⟩ (.int .u32 (wd 0 1 : Nat))).setCell ⟨w.heap.size, 5, none⟩ (.int .u32 (wd 0 2 : Nat))).setCell ⟨w.heap.size, 6, none⟩ (.int .u32 (wd 0 3 : Nat)))).setCell ⟨w.heap.size, 7, none⟩ (.slice ad0 l0.length cap0)) := below8 (bel2 hb0 hbk) 3 f0 0 0 (.slice ad0 l0.length cap0); obtain ⟨U, hU⟩ : ∃ U, ((((((((u1.setCell ⟨w.heap.size, 0, none⟩ (.int .i64 (3 : Int))).setCell ⟨w.heap.size, 1, none⟩ (.int .i64 f0)).setCell ⟨w.heap.size, 2, none⟩ (.int .i64 0)).setCell ⟨w.heap.size, 3, none⟩ (.int .u32 (wd 0 0 : Nat))).setCell ⟨w.heap.size, 4, none⟩ (.int .u32 (wd 0 1 : Nat))).setCell ⟨w.heap.size, 5, none⟩ (.int .u32 (wd 0 2 : Nat))).setCell ⟨w.heap.size, 6, none⟩ (.int .u32 (wd 0 3 : Nat)))).setCell ⟨w.heap.size, 7, none⟩ (.slice ad0 l0.length cap0) = U := ⟨_, rfl⟩; rw [hU] at hBU hbU; obtain ⟨d0, d1, d2, d3, d4, d5, d6, d7⟩ := hBU.cells; have hRU := w0.carry hbU) | (go_at_call 13; (with_reducible refine (hlay _).mono ?_); rintro e u2 ⟨rfl, hb2⟩; have hbU2 := bel2 hbU hb2; have hBU2 := hBU.below hb2; have hRU2 := hRU.carry hb2; clear d0 d1 d2 d3 d4 d5 d6 d7; obtain ⟨d0, d1, d2, d3, d4, d5, d6, d7⟩ := hBU2.cells) | (go_at_call 100; (with_reducible refine (hby _ _ _ hRU2).mono ?_); rintro e u3 ⟨b2, c2x, rfl, hb3⟩; have hbU3 := bel2 hbU2 hb3; have hBU3 := hBU2.below hb3; have hRU3 := hRU2.carry hb3; clear d0 d1 d2 d3 d4 d5 d6 d7; obtain ⟨d0, d1, d2, d3, d4, d5, d6, d7⟩ := hBU3.cells) | (go_at_call 19; (with_reducible refine (hrb _ hRU3).mono ?_); rintro e u4 ⟨b4, c4x, rfl, hb4⟩; have hbU4 := bel2 hbU3 hb4; have hBU4 := hBU3.below hb4; have hRU4 := hRU3.carry hb4; have hrx4 : RdB u4 b2 [] := (fun q => absurd rfl q); have hry4 : RdB u4 b4 [] := (fun q => absurd rfl q)))
      refine wp_region_any hmx ?_
      refine wpAny_tabG (G := (Option Addr × Nat)) (fun g i__ => ([(.bool true), (.bool true), (.int .i64 FV), (.int .i64 FV), (.bool true), (.bool true), (.bool true), (.slice b2 0 c2x), (.slice b4 0 c4x), (.bool true), (.bool true), (.bool true), (.iface 53 (.agg #[.int .i64 f0, .slice ad0 l0.length cap0])), (.int .i64 3), (.pointer (some ⟨w.heap.size, 0, none⟩)), (.int .i64 3), (.bool true), (.bool true), (.bool true), (.iface 53 (.agg #[.int .i64 f0, .slice ad0 l0.length cap0])), (.int .i64 f0), (.pointer (some ⟨w.heap.size, 1, none⟩)), (.int .i64 f0), (.bool true), (.bool true), (.bool true), (.iface 53 (.agg #[.int .i64 f0, .slice ad0 l0.length cap0])), (.slice g.1 l0.length g.2), (.pointer (some ⟨w.heap.size, 7, none⟩)), (.slice ad0 l0.length cap0), (.bool true), (.bool true), (.bool true)] : List Value).getD i__ undef) (fun g d W => JNt w 3 f0 0 0 ad0 cap0 l0 b2 b4 [] g (d 27) W) (by kernel_rfl) ((none, 0)) (show JNt w 3 f0 0 0 ad0 cap0 l0 b2 b4 [] (none, 0) false _ from (JNt.mk hbU4 hBU4 hRU4 hrx4 hry4 (fun e => by cases e)).carry (Below.refl _ _).drew) ?step5 ?fin5
      case step5 =>
        intro i o ho
        have hi : i < 33 := getElem?_lt ho
        match i, hi, ho with
        | 0, _, ho =>
          cases ho
          exact stepG_call rfl (fun g => trivial) 8 _ _ (fun _ => []) rfl (fun g => by kernel_rfl) (enters_of Try.func8 (by kernel_rfl) rfl) (fun g d W hJ hun hdep hcl => (hal W).mono (by rintro e w' ⟨rfl, hb'⟩; refine ⟨g, rfl, fun _ _ => rfl, ?_⟩; show JNt w 3 f0 0 0 ad0 cap0 l0 b2 b4 [] g (d 27) w'; exact hJ.carry hb'))
        | 1, _, ho =>
          cases ho
          refine stepG_of (fun g d hdep => ?_)
          exact step_move rfl trivial _ rfl (by kernel_rfl)
        | 2, _, ho =>
          cases ho
          refine stepG_of (fun g d hdep => ?_)
          exact step_move rfl (by exact ⟨_, rfl, by kernel_rfl⟩) _ rfl (by kernel_rfl)
        | 3, _, ho =>
          cases ho
          refine stepG_of (fun g d hdep => ?_)
          exact step_move rfl (by exact ⟨_, rfl, by kernel_rfl⟩) _ rfl (by kernel_rfl)
        | 4, _, ho =>
          cases ho
          refine stepG_of (fun g d hdep => ?_)
          exact step_binOp rfl (by exact ⟨_, rfl, by kernel_rfl⟩) _ _ _ _ _ _ _ rfl rfl rfl (fun w hw => (bin_eql .i64 _ _).trans (by simp))
        | 5, _, ho =>
          cases ho
          refine stepG_of (fun g d hdep => ?_)
          exact step_pick rfl trivial _ _ _ true rfl (by kernel_rfl) (by kernel_rfl)
        | 6, _, ho =>
          cases ho
          refine stepG_of (fun g d hdep => ?_)
          exact step_move rfl trivial _ rfl (by kernel_rfl)
        | 7, _, ho =>
          cases ho
          refine stepG_of (fun g d hdep => ?_)
          exact step_move rfl (by exact ⟨_, rfl, by kernel_rfl⟩) _ rfl (by kernel_rfl)
        | 8, _, ho =>
          cases ho
          refine stepG_of (fun g d hdep => ?_)
          exact step_move rfl (by exact ⟨_, rfl, by kernel_rfl⟩) _ rfl (by kernel_rfl)
        | 9, _, ho =>
          cases ho
          exact stepG_call rfl (fun g => ⟨_, rfl, by kernel_rfl⟩) 20 _ _ (fun _ => [.slice b2 0 c2x, .slice b4 0 c4x]) rfl (fun g => by kernel_rfl) (enters_of Try.func20 (by kernel_rfl) rfl) (fun g d W hJ hun hdep hcl => (hsb W b2 b4 c2x c4x hJ.rx hJ.ry).mono (by rintro e w' ⟨rfl, hb'⟩; refine ⟨g, rfl, fun _ _ => rfl, ?_⟩; show JNt w 3 f0 0 0 ad0 cap0 l0 b2 b4 [] g (d 27) w'; exact hJ.carry hb'))
        | 10, _, ho =>
          cases ho
          refine stepG_of (fun g d hdep => ?_)
          exact step_pick rfl trivial _ _ _ true rfl (by kernel_rfl) (by kernel_rfl)
        | 11, _, ho =>
          cases ho
          refine stepG_of (fun g d hdep => ?_)
          exact step_move rfl trivial _ rfl (by kernel_rfl)
        | 12, _, ho =>
          cases ho
          refine stepG_of (fun g d hdep => ?_)
          exact step_move rfl (by exact ⟨_, rfl, by kernel_rfl⟩) _ rfl (by kernel_rfl)
        | 13, _, ho =>
          cases ho
          exact stepG_invoke rfl (fun g => ⟨_, rfl, by kernel_rfl⟩) 34 _ "Kind" (.iface 53 (.agg #[.int .i64 f0, .slice ad0 l0.length cap0])) [.agg #[.int .i64 f0, .slice ad0 l0.length cap0]] rfl (fun g => by kernel_rfl) (cmU_Kind _) (fun g d W hJ hun hdep hcl => (hki2 W).mono (by rintro e w' ⟨rfl, hb'⟩; refine ⟨g, rfl, fun _ _ => rfl, ?_⟩; show JNt w 3 f0 0 0 ad0 cap0 l0 b2 b4 [] g (d 27) w'; exact hJ.carry hb'))
        | 14, _, ho =>
          cases ho
          refine stepG_of (fun g d hdep => ?_)
          exact step_fieldAddr rfl (by exact ⟨_, rfl, by kernel_rfl⟩) _ _ _ _ rfl rfl (fun w hw => field_rb0 _ w)
        | 15, _, ho =>
          cases ho
          refine stepG_of (fun g d hdep => ?_)
          exact step_load rfl (by exact ⟨_, rfl, by kernel_rfl⟩) _ _ _ rfl rfl (fun w hw => load_rb0 hw.rb)
        | 16, _, ho =>
          cases ho
          refine stepG_of (fun g d hdep => ?_)
          exact step_binOp rfl (by exact ⟨_, rfl, by kernel_rfl⟩) _ _ _ _ _ _ _ rfl rfl rfl (fun w hw => (bin_eql .i64 _ _).trans (by simp))
        | 17, _, ho =>
          cases ho
          refine stepG_of (fun g d hdep => ?_)
          exact step_pick rfl trivial _ _ _ true rfl (by kernel_rfl) (by kernel_rfl)
        | 18, _, ho =>
          cases ho
          refine stepG_of (fun g d hdep => ?_)
          exact step_move rfl trivial _ rfl (by kernel_rfl)
        | 19, _, ho =>
          cases ho
          refine stepG_of (fun g d hdep => ?_)
          exact step_move rfl (by exact ⟨_, rfl, by kernel_rfl⟩) _ rfl (by kernel_rfl)
        | 20, _, ho =>
          cases ho
          exact stepG_invoke rfl (fun g => ⟨_, rfl, by kernel_rfl⟩) 101 _ "Sender" (.iface 53 (.agg #[.int .i64 f0, .slice ad0 l0.length cap0])) [.agg #[.int .i64 f0, .slice ad0 l0.length cap0]] rfl (fun g => by kernel_rfl) (cmU_Sender _) (fun g d W hJ hun hdep hcl => (hse W).mono (by rintro e w' ⟨rfl, hb'⟩; refine ⟨g, rfl, fun _ _ => rfl, ?_⟩; show JNt w 3 f0 0 0 ad0 cap0 l0 b2 b4 [] g (d 27) w'; exact hJ.carry hb'))
        | 21, _, ho =>
          cases ho
          refine stepG_of (fun g d hdep => ?_)
          exact step_fieldAddr rfl (by exact ⟨_, rfl, by kernel_rfl⟩) _ _ _ _ rfl rfl (fun w hw => field_rb1 _ w)
        | 22, _, ho =>
          cases ho
          refine stepG_of (fun g d hdep => ?_)
          exact step_load rfl (by exact ⟨_, rfl, by kernel_rfl⟩) _ _ _ rfl rfl (fun w hw => load_rb1 hw.rb)
        | 23, _, ho =>
          cases ho
          refine stepG_of (fun g d hdep => ?_)
          exact step_binOp rfl (by exact ⟨_, rfl, by kernel_rfl⟩) _ _ _ _ _ _ _ rfl rfl rfl (fun w hw => (bin_eql .i64 _ _).trans (by simp))
        | 24, _, ho =>
          cases ho
          refine stepG_of (fun g d hdep => ?_)
          exact step_pick rfl trivial _ _ _ true rfl (by kernel_rfl) (by kernel_rfl)
        | 25, _, ho =>
          cases ho
          refine stepG_of (fun g d hdep => ?_)
          exact step_move rfl trivial _ rfl (by kernel_rfl)
        | 26, _, ho =>
          cases ho
          refine stepG_of (fun g d hdep => ?_)
          exact step_move rfl (by exact ⟨_, rfl, by kernel_rfl⟩) _ rfl (by kernel_rfl)
        | 27, _, ho =>
          cases ho
          exact stepG_invoke rfl (fun g => ⟨_, rfl, by kernel_rfl⟩) 52 _ "Notices" (.iface 53 (.agg #[.int .i64 f0, .slice ad0 l0.length cap0])) [.agg #[.int .i64 f0, .slice ad0 l0.length cap0]] rfl (fun g => by kernel_rfl) (cmU_Notices _) (fun g d W hJ hun hdep hcl => (hno W hJ.rd).mono (by rintro e w' ⟨a, c, rfl, hr', hb'⟩; refine ⟨(a, c), rfl, (fun j hj => match j, hj with | 27, hj => (by rw [hj] at hun; cases hun)  | 0, _ => rfl | 1, _ => rfl | 2, _ => rfl | 3, _ => rfl | 4, _ => rfl | 5, _ => rfl | 6, _ => rfl | 7, _ => rfl | 8, _ => rfl | 9, _ => rfl | 10, _ => rfl | 11, _ => rfl | 12, _ => rfl | 13, _ => rfl | 14, _ => rfl | 15, _ => rfl | 16, _ => rfl | 17, _ => rfl | 18, _ => rfl | 19, _ => rfl | 20, _ => rfl | 21, _ => rfl | 22, _ => rfl | 23, _ => rfl | 24, _ => rfl | 25, _ => rfl | 26, _ => rfl | 28, _ => rfl | 29, _ => rfl | 30, _ => rfl | 31, _ => rfl | 32, _ => rfl | _ + 33, _ => rfl), ?_⟩; show JNt w 3 f0 0 0 ad0 cap0 l0 b2 b4 [] (a, c) true w'; exact hJ.note hb' hr'))
        | 28, _, ho =>
          cases ho
          refine stepG_of (fun g d hdep => ?_)
          exact step_fieldAddr rfl (by exact ⟨_, rfl, by kernel_rfl⟩) _ _ _ _ rfl rfl (fun w hw => field_rb _ w)
        | 29, _, ho =>
          cases ho
          refine stepG_of (fun g d hdep => ?_)
          exact step_load rfl (by exact ⟨_, rfl, by kernel_rfl⟩) _ _ _ rfl rfl (fun w hw => load_rb hw.rb)
        | 30, _, ho =>
          cases ho
          exact stepG_call rfl (fun g => ⟨_, rfl, by kernel_rfl⟩) 21 _ _ (fun g => [.slice g.1 l0.length g.2, .slice ad0 l0.length cap0]) rfl (fun g => by kernel_rfl) (enters_of Try.func21 (by kernel_rfl) rfl) (fun g d W hJ hun hdep hcl => (hsn W g.1 g.2 (hJ.nn (hdep 27 (by kernel_rfl))) hJ.rd).mono (by rintro e w' ⟨rfl, hb'⟩; refine ⟨g, rfl, fun _ _ => rfl, ?_⟩; show JNt w 3 f0 0 0 ad0 cap0 l0 b2 b4 [] g (d 27) w'; exact hJ.carry hb'))
        | 31, _, ho =>
          cases ho
          refine stepG_of (fun g d hdep => ?_)
          exact step_pick rfl trivial _ _ _ true rfl (by kernel_rfl) (by kernel_rfl)
        | 32, _, ho =>
          cases ho
          refine stepG_of (fun g d hdep => ?_)
          exact step_assign rfl trivial _ rfl (by kernel_rfl) (fun _ h => h)
      intro g d W hall hW
      first | refine hK _ _ ?_ | refine (‹∀ (a : Act) (w : World), Code.wp Try.prog _ _ a w → _›) _ _ ?_ | skip
      simp only [finL, List.getD_cons_zero, List.getD_cons_succ, Nat.zero_add, Nat.reduceAdd, List.setIfInBounds_toArray, List.set_cons_zero, List.set_cons_succ]
      go_wp2
      go_ret
      exact ⟨rfl, hW.be⟩
    obtain ⟨hn, hfr, hrd, _, hri⟩ := flt_0 hf
    obtain ⟨fr, rfl⟩ := Int.eq_ofNat_of_zero_le hfr.1
    obtain ⟨n, rfl⟩ := Int.eq_ofNat_of_zero_le (show 0 ≤ a1 by omega)
    have hdo := dec_of (n := n) (fr := fr) (rd := 0) (N := 0) (l := l0) (show 1 ≤ 3 ∧ 3 ≤ 3 by decide) hf (fun _ => rfl) (fun _ => rfl)
    obtain ⟨B, hB⟩ : ∃ B, byt7 3 n fr 0 0 l0 = B := ⟨_, rfl⟩
    have hBB : Byt B := hB ▸ byt7_byt _ _ _ _ _ _
    have hBs : B.length ≤ 1024 := by rw [← hB]; exact byt7_short hf
    have hby : ∀ (W : World) (a : Option Addr) (c : Nat), RdN W a l0 → Calls Try.prog 100 #[.agg #[.int .i64 (fr : Int), .slice a l0.length c], .int .i64 (n : Int)] W fun e W' => ∃ b2 c2, e = .returned (.tuple #[.slice b2 B.length c2, .int .i64 0]) ∧ RdB W' b2 B ∧ B.length ≤ c2 ∧ W'.ownsRow W.heap.size 5 1 (.slice b2 B.length c2) B.length (cB B) ∧ Below W.heap.size W W' := fun W a c hr => (ubytes_any (n : Int) fr a c l0 W hr (by omega)).mono (by
      intro e W' q
      obtain ⟨b2, c2, q1, q5, q2, q4, q3⟩ := bo_ok q hf
      rw [Int.toNat_natCast, hB] at q1 q2 q4 q5
      exact ⟨b2, c2, q1, q2, q4, q5, q3⟩)
    have hrb : ∀ W, RdN W ad0 l0 → Calls Try.prog 19 #[.agg #[.int .i64 3, .int .i64 (fr : Int), .int .i64 0, .int .u32 (wd 0 0 : Nat), .int .u32 (wd 0 1 : Nat), .int .u32 (wd 0 2 : Nat), .int .u32 (wd 0 3 : Nat), .slice ad0 l0.length cap0], .int .i64 (n : Int)] W fun e W' => ∃ b2 c2, e = .returned (.tuple #[.slice b2 B.length c2, .int .i64 0]) ∧ RdB W' b2 B ∧ Below W.heap.size W W' := fun W hr => (rbytes_any 3 (by decide) n fr 0 0 s128_0 (fun _ => rfl) (fun _ => rfl) ad0 cap0 l0 W hr (by omega)).mono (by
      intro e W' q
      obtain ⟨b2, c2, q1, q5, q2, q4, q3⟩ := bo_ok q hf
      rw [Int.toNat_natCast, hB] at q1 q2
      exact ⟨b2, c2, q1, q2, q3⟩)
    have hsb : ∀ (W : World) (b2 b3 : Option Addr) (c2 c3 : Nat), RdB W b2 B → RdB W b3 B → Calls Try.prog 20 #[.slice b2 B.length c2, .slice b3 B.length c3] W fun e w' => e = .returned (.bool true) ∧ Below W.heap.size W w' := fun W b2 b3 c2 c3 h1 h2 => sameB_yes b2 b3 c2 c3 B W h1 h2 (by omega)
    have i2 := invU_Kind
    have i3 := invU_Sender
    have i4 := invU_Notices
    have hki2 : ∀ W, Calls Try.prog 34 #[.agg #[.int .i64 (fr : Int), .slice ad0 l0.length cap0]] W fun e w' => e = .returned (.int .i64 3) ∧ Below W.heap.size W w' := fun W => kindU_any _ _ _ _ W
    have hse : ∀ W, Calls Try.prog 101 #[.agg #[.int .i64 (fr : Int), .slice ad0 l0.length cap0]] W fun e w' => e = .returned (.int .i64 (fr : Int)) ∧ Below W.heap.size W w' := fun W => senderU_any _ _ _ _ W
    have hno : ∀ W, RdN W ad0 l0 → Calls Try.prog 52 #[.agg #[.int .i64 (fr : Int), .slice ad0 l0.length cap0]] W fun e w' => ∃ a c, e = .returned (.slice a l0.length c) ∧ RdN w' a l0 ∧ Below W.heap.size W w' := fun W hW => (noticesU_any (fr : Int) ad0 cap0 l0 W hW (by omega)).mono (by
      rintro e W' ⟨a, c, q1, q2, q3⟩
      exact ⟨a, c, q1, RdN.own q2, q3⟩)
    have hsn : ∀ (W : World) (a : Option Addr) (c : Nat), RdN W a l0 → RdN W ad0 l0 → Calls Try.prog 21 #[.slice a l0.length c, .slice ad0 l0.length cap0] W fun e w' => e = .returned (.bool true) ∧ Below W.heap.size W w' := fun W a c h1 h2 => same_any a ad0 c cap0 l0 W h1 h2 (by omega)
    clear hdo hB hf hrd hri hfr hn hBB hk hk3 hk2
    go_enter Try.func5, Try.ntmps5
    go_wp2_with (first | (go_at_call 12; (with_reducible refine hki.mono ?_); rintro e u1 ⟨rfl, hbk⟩; have hB1 := hB0.below hbk; obtain ⟨e0, e1, e2, e3, e4, e5, e6, e7⟩ := hB1.cells; obtain ⟨z0, z1, z2, z3, z4, z5, z6, z7⟩ := hB1.thaw; have hBU : RB (((((((((u1.setCell ⟨w.heap.size, 0, none⟩ (.int .i64 (3 : Int))).setCell ⟨w.heap.size, 1, none⟩ (.int .i64 (fr : Int))).setCell ⟨w.heap.size, 2, none⟩ (.int .i64 0)).setCell ⟨w.heap.size, 3, none⟩ (.int .u32 (wd 0 0 : Nat))).setCell ⟨w.heap.size, 4, none⟩ (.int .u32 (wd 0 1 : Nat))).setCell ⟨w.heap.size, 5, none⟩ (.int .u32 (wd 0 2 : Nat))).setCell ⟨w.heap.size, 6, none⟩ (.int .u32 (wd 0 3 : Nat)))).setCell ⟨w.heap.size, 7, none⟩ (.slice ad0 l0.length cap0)) w.heap.size 3 (fr : Int) 0 0 (.slice ad0 l0.length cap0) := hB1.set8 3 (fr : Int) 0 0 (.slice ad0 l0.length cap0); have hbU : Below w.heap.size w (((((((((u1.setCell ⟨w.heap.size, 0, none⟩ (.int .i64 (3 : Int))).setCell ⟨w.heap.size, 1, none⟩ (.int .i64 (fr : Int))).setCell ⟨w.heap.size, 2, none⟩ (.int .i64 0)).setCell ⟨w.heap.size, 3, none⟩ (.int .u32 (wd 0 0 : Nat))).setCell ⟨w.heap.size, 4, none⟩ (.int .u32 (wd 0 1 : Nat))).setCell ⟨w.heap.size, 5, none⟩ (.int .u32 (wd 0 2 : Nat))).setCell ⟨w.heap.size, 6, none⟩ (.int .u32 (wd 0 3 : Nat)))).setCell ⟨w.heap.size, 7, none⟩ (.slice ad0 l0.length cap0)) := below8 (bel2 hb0 hbk) 3 (fr : Int) 0 0 (.slice ad0 l0.length cap0); obtain ⟨U, hU⟩ : ∃ U, ((((((((u1.setCell ⟨w.heap.size, 0, none⟩ (.int .i64 (3 : Int))).setCell ⟨w.heap.size, 1, none⟩ (.int .i64 (fr : Int))).setCell ⟨w.heap.size, 2, none⟩ (.int .i64 0)).setCell ⟨w.heap.size, 3, none⟩ (.int .u32 (wd 0 0 : Nat))).setCell ⟨w.heap.size, 4, none⟩ (.int .u32 (wd 0 1 : Nat))).setCell ⟨w.heap.size, 5, none⟩ (.int .u32 (wd 0 2 : Nat))).setCell ⟨w.heap.size, 6, none⟩ (.int .u32 (wd 0 3 : Nat)))).setCell ⟨w.heap.size, 7, none⟩ (.slice ad0 l0.length cap0) = U := ⟨_, rfl⟩; rw [hU] at hBU hbU; obtain ⟨d0, d1, d2, d3, d4, d5, d6, d7⟩ := hBU.cells; have hRU := w0.carry hbU) | (go_at_call 13; (with_reducible refine (hlay _).mono ?_); rintro e u2 ⟨rfl, hb2⟩; have hbU2 := bel2 hbU hb2; have hBU2 := hBU.below hb2; have hRU2 := hRU.carry hb2; clear d0 d1 d2 d3 d4 d5 d6 d7; obtain ⟨d0, d1, d2, d3, d4, d5, d6, d7⟩ := hBU2.cells) | (go_at_call 100; (with_reducible refine (hby _ _ _ hRU2).mono ?_); rintro e u3 ⟨b2, c2x, rfl, hr3, hl3, ho3, hb3⟩; have hbU3 := bel2 hbU2 hb3; have hBU3 := hBU2.below hb3; have hRU3 := hRU2.carry hb3; clear d0 d1 d2 d3 d4 d5 d6 d7; obtain ⟨d0, d1, d2, d3, d4, d5, d6, d7⟩ := hBU3.cells) | (go_at_call 19; (with_reducible refine (hrb _ hRU3).mono ?_); rintro e u4 ⟨b4, c4x, rfl, hry4, hb4⟩; have hbU4 := bel2 hbU3 hb4; have hBU4 := hBU3.below hb4; have hRU4 := hRU3.carry hb4; have hrx4 := hr3.carry hb4))
    refine wp_region_any hmx ?_
    refine wpAny_tabG (G := (Option Addr × Nat)) (fun g i__ => ([(.bool true), (.bool true), (.int .i64 0), (.int .i64 0), (.bool true), (.bool true), (.bool true), (.slice b2 B.length c2x), (.slice b4 B.length c4x), (.bool true), (.bool true), (.bool true), (.iface 53 (.agg #[.int .i64 (fr : Int), .slice ad0 l0.length cap0])), (.int .i64 3), (.pointer (some ⟨w.heap.size, 0, none⟩)), (.int .i64 3), (.bool true), (.bool true), (.bool true), (.iface 53 (.agg #[.int .i64 (fr : Int), .slice ad0 l0.length cap0])), (.int .i64 (fr : Int)), (.pointer (some ⟨w.heap.size, 1, none⟩)), (.int .i64 (fr : Int)), (.bool true), (.bool true), (.bool true), (.iface 53 (.agg #[.int .i64 (fr : Int), .slice ad0 l0.length cap0])), (.slice g.1 l0.length g.2), (.pointer (some ⟨w.heap.size, 7, none⟩)), (.slice ad0 l0.length cap0), (.bool true), (.bool true), (.bool true)] : List Value).getD i__ undef) (fun g d W => JNt w 3 (fr : Int) 0 0 ad0 cap0 l0 b2 b4 B g (d 27) W) (by kernel_rfl) ((none, 0)) (show JNt w 3 (fr : Int) 0 0 ad0 cap0 l0 b2 b4 B (none, 0) false _ from (JNt.mk hbU4 hBU4 hRU4 hrx4 hry4 (fun e => by cases e)).carry (Below.refl _ _).drew) ?step6 ?fin6
    case step6 =>
      intro i o ho
      have hi : i < 33 := getElem?_lt ho
      match i, hi, ho with
      | 0, _, ho =>
        cases ho
        exact stepG_call rfl (fun g => trivial) 8 _ _ (fun _ => []) rfl (fun g => by kernel_rfl) (enters_of Try.func8 (by kernel_rfl) rfl) (fun g d W hJ hun hdep hcl => (hal W).mono (by rintro e w' ⟨rfl, hb'⟩; refine ⟨g, rfl, fun _ _ => rfl, ?_⟩; show JNt w 3 (fr : Int) 0 0 ad0 cap0 l0 b2 b4 B g (d 27) w'; exact hJ.carry hb'))
      | 1, _, ho =>
        cases ho
        refine stepG_of (fun g d hdep => ?_)
        exact step_move rfl trivial _ rfl (by kernel_rfl)
      | 2, _, ho =>
        cases ho
        refine stepG_of (fun g d hdep => ?_)
        exact step_move rfl (by exact ⟨_, rfl, by kernel_rfl⟩) _ rfl (by kernel_rfl)
      | 3, _, ho =>
        cases ho
        refine stepG_of (fun g d hdep => ?_)
        exact step_move rfl (by exact ⟨_, rfl, by kernel_rfl⟩) _ rfl (by kernel_rfl)
      | 4, _, ho =>
        cases ho
        refine stepG_of (fun g d hdep => ?_)
        exact step_binOp rfl (by exact ⟨_, rfl, by kernel_rfl⟩) _ _ _ _ _ _ _ rfl rfl rfl (fun w hw => (bin_eql .i64 _ _).trans (by simp))
      | 5, _, ho =>
        cases ho
        refine stepG_of (fun g d hdep => ?_)
        exact step_pick rfl trivial _ _ _ true rfl (by kernel_rfl) (by kernel_rfl)
      | 6, _, ho =>
        cases ho
        refine stepG_of (fun g d hdep => ?_)
        exact step_move rfl trivial _ rfl (by kernel_rfl)
      | 7, _, ho =>
        cases ho
        refine stepG_of (fun g d hdep => ?_)
        exact step_move rfl (by exact ⟨_, rfl, by kernel_rfl⟩) _ rfl (by kernel_rfl)
      | 8, _, ho =>
        cases ho
        refine stepG_of (fun g d hdep => ?_)
        exact step_move rfl (by exact ⟨_, rfl, by kernel_rfl⟩) _ rfl (by kernel_rfl)
      | 9, _, ho =>
        cases ho
        exact stepG_call rfl (fun g => ⟨_, rfl, by kernel_rfl⟩) 20 _ _ (fun _ => [.slice b2 B.length c2x, .slice b4 B.length c4x]) rfl (fun g => by kernel_rfl) (enters_of Try.func20 (by kernel_rfl) rfl) (fun g d W hJ hun hdep hcl => (hsb W b2 b4 c2x c4x hJ.rx hJ.ry).mono (by rintro e w' ⟨rfl, hb'⟩; refine ⟨g, rfl, fun _ _ => rfl, ?_⟩; show JNt w 3 (fr : Int) 0 0 ad0 cap0 l0 b2 b4 B g (d 27) w'; exact hJ.carry hb'))
      | 10, _, ho =>
        cases ho
        refine stepG_of (fun g d hdep => ?_)
        exact step_pick rfl trivial _ _ _ true rfl (by kernel_rfl) (by kernel_rfl)
      | 11, _, ho =>
        cases ho
        refine stepG_of (fun g d hdep => ?_)
        exact step_move rfl trivial _ rfl (by kernel_rfl)
      | 12, _, ho =>
        cases ho
        refine stepG_of (fun g d hdep => ?_)
        exact step_move rfl (by exact ⟨_, rfl, by kernel_rfl⟩) _ rfl (by kernel_rfl)
      | 13, _, ho =>
        cases ho
        exact stepG_invoke rfl (fun g => ⟨_, rfl, by kernel_rfl⟩) 34 _ "Kind" (.iface 53 (.agg #[.int .i64 (fr : Int), .slice ad0 l0.length cap0])) [.agg #[.int .i64 (fr : Int), .slice ad0 l0.length cap0]] rfl (fun g => by kernel_rfl) (cmU_Kind _) (fun g d W hJ hun hdep hcl => (hki2 W).mono (by rintro e w' ⟨rfl, hb'⟩; refine ⟨g, rfl, fun _ _ => rfl, ?_⟩; show JNt w 3 (fr : Int) 0 0 ad0 cap0 l0 b2 b4 B g (d 27) w'; exact hJ.carry hb'))
      | 14, _, ho =>
        cases ho
        refine stepG_of (fun g d hdep => ?_)
        exact step_fieldAddr rfl (by exact ⟨_, rfl, by kernel_rfl⟩) _ _ _ _ rfl rfl (fun w hw => field_rb0 _ w)
      | 15, _, ho =>
        cases ho
        refine stepG_of (fun g d hdep => ?_)
        exact step_load rfl (by exact ⟨_, rfl, by kernel_rfl⟩) _ _ _ rfl rfl (fun w hw => load_rb0 hw.rb)
      | 16, _, ho =>
        cases ho
        refine stepG_of (fun g d hdep => ?_)
        exact step_binOp rfl (by exact ⟨_, rfl, by kernel_rfl⟩) _ _ _ _ _ _ _ rfl rfl rfl (fun w hw => (bin_eql .i64 _ _).trans (by simp))
      | 17, _, ho =>
        cases ho
        refine stepG_of (fun g d hdep => ?_)
        exact step_pick rfl trivial _ _ _ true rfl (by kernel_rfl) (by kernel_rfl)
      | 18, _, ho =>
        cases ho
        refine stepG_of (fun g d hdep => ?_)
        exact step_move rfl trivial _ rfl (by kernel_rfl)
      | 19, _, ho =>
        cases ho
        refine stepG_of (fun g d hdep => ?_)
        exact step_move rfl (by exact ⟨_, rfl, by kernel_rfl⟩) _ rfl (by kernel_rfl)
      | 20, _, ho =>
        cases ho
        exact stepG_invoke rfl (fun g => ⟨_, rfl, by kernel_rfl⟩) 101 _ "Sender" (.iface 53 (.agg #[.int .i64 (fr : Int), .slice ad0 l0.length cap0])) [.agg #[.int .i64 (fr : Int), .slice ad0 l0.length cap0]] rfl (fun g => by kernel_rfl) (cmU_Sender _) (fun g d W hJ hun hdep hcl => (hse W).mono (by rintro e w' ⟨rfl, hb'⟩; refine ⟨g, rfl, fun _ _ => rfl, ?_⟩; show JNt w 3 (fr : Int) 0 0 ad0 cap0 l0 b2 b4 B g (d 27) w'; exact hJ.carry hb'))
      | 21, _, ho =>
        cases ho
        refine stepG_of (fun g d hdep => ?_)
        exact step_fieldAddr rfl (by exact ⟨_, rfl, by kernel_rfl⟩) _ _ _ _ rfl rfl (fun w hw => field_rb1 _ w)
      | 22, _, ho =>
        cases ho
        refine stepG_of (fun g d hdep => ?_)
        exact step_load rfl (by exact ⟨_, rfl, by kernel_rfl⟩) _ _ _ rfl rfl (fun w hw => load_rb1 hw.rb)
      | 23, _, ho =>
        cases ho
        refine stepG_of (fun g d hdep => ?_)
        exact step_binOp rfl (by exact ⟨_, rfl, by kernel_rfl⟩) _ _ _ _ _ _ _ rfl rfl rfl (fun w hw => (bin_eql .i64 _ _).trans (by simp))
      | 24, _, ho =>
        cases ho
        refine stepG_of (fun g d hdep => ?_)
        exact step_pick rfl trivial _ _ _ true rfl (by kernel_rfl) (by kernel_rfl)
      | 25, _, ho =>
        cases ho
        refine stepG_of (fun g d hdep => ?_)
        exact step_move rfl trivial _ rfl (by kernel_rfl)
      | 26, _, ho =>
        cases ho
        refine stepG_of (fun g d hdep => ?_)
        exact step_move rfl (by exact ⟨_, rfl, by kernel_rfl⟩) _ rfl (by kernel_rfl)
      | 27, _, ho =>
        cases ho
        exact stepG_invoke rfl (fun g => ⟨_, rfl, by kernel_rfl⟩) 52 _ "Notices" (.iface 53 (.agg #[.int .i64 (fr : Int), .slice ad0 l0.length cap0])) [.agg #[.int .i64 (fr : Int), .slice ad0 l0.length cap0]] rfl (fun g => by kernel_rfl) (cmU_Notices _) (fun g d W hJ hun hdep hcl => (hno W hJ.rd).mono (by rintro e w' ⟨a, c, rfl, hr', hb'⟩; refine ⟨(a, c), rfl, (fun j hj => match j, hj with | 27, hj => (by rw [hj] at hun; cases hun)  | 0, _ => rfl | 1, _ => rfl | 2, _ => rfl | 3, _ => rfl | 4, _ => rfl | 5, _ => rfl | 6, _ => rfl | 7, _ => rfl | 8, _ => rfl | 9, _ => rfl | 10, _ => rfl | 11, _ => rfl | 12, _ => rfl | 13, _ => rfl | 14, _ => rfl | 15, _ => rfl | 16, _ => rfl | 17, _ => rfl | 18, _ => rfl | 19, _ => rfl | 20, _ => rfl | 21, _ => rfl | 22, _ => rfl | 23, _ => rfl | 24, _ => rfl | 25, _ => rfl | 26, _ => rfl | 28, _ => rfl | 29, _ => rfl | 30, _ => rfl | 31, _ => rfl | 32, _ => rfl | _ + 33, _ => rfl), ?_⟩; show JNt w 3 (fr : Int) 0 0 ad0 cap0 l0 b2 b4 B (a, c) true w'; exact hJ.note hb' hr'))
      | 28, _, ho =>
        cases ho
        refine stepG_of (fun g d hdep => ?_)
        exact step_fieldAddr rfl (by exact ⟨_, rfl, by kernel_rfl⟩) _ _ _ _ rfl rfl (fun w hw => field_rb _ w)
      | 29, _, ho =>
        cases ho
        refine stepG_of (fun g d hdep => ?_)
        exact step_load rfl (by exact ⟨_, rfl, by kernel_rfl⟩) _ _ _ rfl rfl (fun w hw => load_rb hw.rb)
      | 30, _, ho =>
        cases ho
        exact stepG_call rfl (fun g => ⟨_, rfl, by kernel_rfl⟩) 21 _ _ (fun g => [.slice g.1 l0.length g.2, .slice ad0 l0.length cap0]) rfl (fun g => by kernel_rfl) (enters_of Try.func21 (by kernel_rfl) rfl) (fun g d W hJ hun hdep hcl => (hsn W g.1 g.2 (hJ.nn (hdep 27 (by kernel_rfl))) hJ.rd).mono (by rintro e w' ⟨rfl, hb'⟩; refine ⟨g, rfl, fun _ _ => rfl, ?_⟩; show JNt w 3 (fr : Int) 0 0 ad0 cap0 l0 b2 b4 B g (d 27) w'; exact hJ.carry hb'))
      | 31, _, ho =>
        cases ho
        refine stepG_of (fun g d hdep => ?_)
        exact step_pick rfl trivial _ _ _ true rfl (by kernel_rfl) (by kernel_rfl)
      | 32, _, ho =>
        cases ho
        refine stepG_of (fun g d hdep => ?_)
        exact step_assign rfl trivial _ rfl (by kernel_rfl) (fun _ h => h)
    intro g d W hall hW
    first | refine hK _ _ ?_ | refine (‹∀ (a : Act) (w : World), Code.wp Try.prog _ _ a w → _›) _ _ ?_ | skip
    simp only [finL, List.getD_cons_zero, List.getD_cons_succ, Nat.zero_add, Nat.reduceAdd, List.setIfInBounds_toArray, List.set_cons_zero, List.set_cons_succ]
    go_wp2
    go_ret
    exact ⟨rfl, hW.be⟩

set_option maxRecDepth 100000 in
theorem lifted (os : Os) (started : os.Started) (H : Type) (enc : TypeId × Value → H) :
    ReturnsInHanded {} Try.checked os 5 .any (Rows.wireBytesSpec.pre6 enc Try.prog Try.f5 Rows.wireBytesRow.domain false) (Rows.wireBytesSpec.post enc Try.prog Try.f5 false true false false) := by
  refine returnsInHanded_of_change (C := Try.checked) own started (by kernel_rfl) Try.func5
    (ChangeSpec.witness6 (enc := enc) (C := Try.checked) false ⟨#[], #[.agg #[.int .i64 0, .int .i64 0, .int .i64 0, .int .u32 0, .int .u32 0, .int .u32 0, .int .u32 0, .slice none 0 0], .int .i64 0], []⟩ 8 (by kernel_rfl) (by kernel_rfl) (by kernel_rfl) (by kernel_rfl)) ?_
  intro W base args ds gs before hval0 hW hcnd _
  have hval : ∀ (j : Nat) t v, Try.f5.params[j]? = some t → args[j]? = some v → Value.okWide Try.prog W .any base t v := hval0
  have hW' := hW
  obtain ⟨p, q, hA0, hV, rfl, hfz, hnd⟩ := hW
  have hA : DataW.TrodAll enc Try.prog W 0 (fun _ => true) true Try.f5.params.toList args.toList ds p := hA0
  rw [Try.params5] at hA hval
  obtain ⟨v0, vs0, d0, ds0, p0, q0, hargs, rfl, rfl, h0, r0⟩ := trodAll_cons hA
  obtain ⟨v1, vs1, d1, ds1, p1, q1, rfl, rfl, rfl, h1, r1⟩ := trodAll_cons r0
  obtain ⟨rfl, rfl, rfl⟩ := trodAll_nil r1
  obtain rfl : args = #[v0, v1] := by cases args; simp_all
  obtain ⟨rfl, rfl⟩ := trodVars_none hV
  have kk0 := h0
  have lt0 : ∀ x ∈ p0, x.block < W.heap.size := by obtain ⟨m, hm⟩ := kk0; exact DataW.trod_lt m _ _ _ hm
  obtain ⟨k0, f0, g0, N0, ad0, cap0, l0, rfl, hN0, wk0, wf0, wr0, w0, hc0, hq0⟩ := open_note (hval 0 41 v0 rfl rfl) h0
  obtain ⟨a1, rfl, rfl, rfl, w1⟩ := open_int Try.underlying3 (hval 1 3 v1 rfl rfl) h1
  clear hA0 hval0
  refine (walk W k0 f0 g0 N0 ad0 cap0 l0 hN0 wk0 wf0 wr0 w0 hc0 hq0 a1 w1).mono fun e W' ⟨he, hg⟩ => ?_
  subst he
  exact ⟨_, rfl, _, _, _, [], _, [], hW', (trodAll_cons_mk (shut_bool Try.underlying4 _) trodAll_mk0), (trodAll_cons_mk (Below.trod laidOut (by kernel_rfl) (of_decide_eq_true (by kernel_rfl)) kk0 hg lt0) (trodAll_cons_mk (shut_int Try.underlying3 w1) trodAll_mk0)), rfl, hg.frame _, fun h => by cases h⟩

theorem over : Rows.wireBytesRow.holds Try.pinned (OpenSpec.ofChange Rows.wireBytesSpec) :=
  OpenClaim.holds_of_wide 5 Try.f5 rfl rfl rfl rfl rfl rfl rfl ⟨rfl, rfl, rfl, rfl, rfl⟩ rfl rfl rfl rfl rfl (by kernel_rfl) Try.func5 (by kernel_rfl)
    (of_decide_eq_true (by kernel_rfl)) (by unfold Func.isWrapper; first | (rw [if_pos (by decide +kernel)]; kernel_rfl) | (rw [if_neg (by decide +kernel)]; exact ⟨rfl, rfl⟩))
    (fun os started H enc _ => lifted os started H enc)

theorem proved : Rows.WireBytesSaid :=
  over
#print axioms proved
end Go.Proofs.Ytndogopllcpiiaa
