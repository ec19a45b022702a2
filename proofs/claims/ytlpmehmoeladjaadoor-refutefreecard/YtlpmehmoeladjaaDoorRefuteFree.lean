/- RefuteFree (promise P1503): behind a defence the node is not suspected by its own book; the mistake beats what there was, and is what Reply tells. For every input; nothing is asked of it. -/
import Derived.Test.YtlpmehmoeladjaaDoorRows
import Derived.WalkKit
import Derived.ProofKit
import Derived.OpenShut
import Derived.Stop.Joined
import Derived.Lay
import Derived.SevenTiedAt
import Derived.SizedLaws
import Derived.LaidMore
import Derived.Test.YtlpmehmoeladjaaDoorTie
import Derived.Test.YtlpmehmoeladjaaDoorCards
import Derived.Test.YtlpmehmoeladjaaDoorJnJ22
import Derived.Test.YtlpmehmoeladjaaDoorJnJ24
import Derived.Test.YtlpmehmoeladjaaDoorOpm
namespace Go.Proofs.YtlpmehmoeladjaaDoor
open Go.ChangeShapes Go.WideShapes Go.ChangeAt Go.RowKit
set_option linter.unusedVariables false

theorem laidOut : laidOutB Tryd.prog = true := by kernel_rfl
theorem own : ownKnob Tryd.prog.godebug = none := by kernel_rfl
open Go.Shelf Go.Lib
set_option maxHeartbeats 16000000 in
set_option maxRecDepth 100000 in
theorem walk (w : World) (a0 : Int) (w0 : (Lit.int .i64 a0).wf = true) (a1 : Int) (w1 : (Lit.int .i64 a1).wf = true) (ad2 : Option Addr) (cap2 : Nat) (l2 : List (Int × Int × Int)) (w2 : RdN w ad2 l2) (hc2 : ad2 = none → cap2 = 0) (hq2 : l2.length ≤ cap2) (hL : laidMetH Tryd.prog Rows.refuteFreeRow.laid w) :
    Calls Tryd.prog 3 #[.int .i64 a0, .int .i64 a1, .slice ad2 l2.length cap2] w fun e w' => e = .returned (.bool true) ∧ Below w.heap.size w w' := by
  obtain ⟨sa, hs⟩ := sn_of hL
  clear hL
  have w0' := hs.lt
  have hdn := dnew_any w
  obtain ⟨b1, b2, b3, b4, b5, b6⟩ := op0
  clear b1 b2
  obtain ⟨DD, hDD⟩ : ∃ D, (dOp d0).d = D := ⟨_, rfl⟩
  rw [hDD] at b3 b4 b5 b6
  by_cases hv : ¬ (a0 < 1 ∨ 100 < a0) ∧ ¬ (a1 < 0 ∨ a0 ≤ a1) ∧ ¬ ((0 : Int) < 0 ∨ 1048576 < (0 : Int))
  case neg =>
    obtain ⟨E, hE, hnw⟩ := new_bad hv
    clear b3 b4 b5 b6 hv
    go_enter Tryd.func3, Tryd.ntmps3
    go_wp2_with (first
      | (have m := st3; go_at_call 10; go_loud ((with_reducible refine st3.mono ?_); rintro e u4 ⟨rfl, hu4⟩))
      | (have m := st2; go_at_call 9; go_loud ((with_reducible refine st2.mono ?_); rintro e u3 ⟨rfl, hu3⟩; have Y3 := bel2 Y2 hu3; have st3 := alive_any (hs.carry Y3)))
      | (have m := st1; go_at_call 8; go_loud ((with_reducible refine st1.mono ?_); rintro e u2 ⟨q, rfl, hq, hB2, hD2, hT2⟩; have Y2 : Below w.heap.size w u2 := hu1.trans (hT2.below (Nat.le_refl _) hu1.size); have st2 := hnw u2))
      | (go_at_call 7; go_loud ((with_reducible refine hdn.mono ?_); rintro e u1 ⟨rfl, hD1, hlt, hu1⟩; have st1 := open0_any hD1; rw [hDD] at st1)))
    go_ret
    exact ⟨rfl, bel2 Y3 hu4⟩
  obtain ⟨v1, v2, v3⟩ := hv
  have hnw := new_ok v1 v2 v3
  obtain ⟨L0, hL0⟩ : ∃ L, bk0 a0.toNat a1.toNat 0 = L := ⟨_, rfl⟩
  have hbo0 : Bok L0 := by rw [← hL0]; exact bk0_bok (by omega) (by omega)
  have hlen0 : L0.length = a0.toNat := by rw [← hL0]; exact bk0_len _ _ _
  rw [hL0] at hnw
  clear hL0 v3
  by_cases hl : l2.length ≤ 300
  case neg =>
    have hli : ((l2.length : Int) > 300) := by omega
    clear b3 b4 b5 b6 hbo0 hlen0
    go_enter Tryd.func3, Tryd.ntmps3
    go_wp2_with (first
      | (have m := st3; go_at_call 10; go_loud ((with_reducible refine st3.mono ?_); rintro e u4 ⟨rfl, hu4⟩))
      | (have m := st2; go_at_call 9; go_loud ((with_reducible refine st2.mono ?_); rintro e u3 ⟨p, g, rfl, hp3, hg3, hK3, hu3⟩; have Y3 := bel2 Y2 hu3; have st3 := alive_any (hs.carry Y3)))
      | (have m := st1; go_at_call 8; go_loud ((with_reducible refine st1.mono ?_); rintro e u2 ⟨q, rfl, hq, hB2, hD2, hT2⟩; have Y2 : Below w.heap.size w u2 := hu1.trans (hT2.below (Nat.le_refl _) hu1.size); have st2 := hnw u2))
      | (go_at_call 7; go_loud ((with_reducible refine hdn.mono ?_); rintro e u1 ⟨rfl, hD1, hlt, hu1⟩; have st1 := open0_any hD1; rw [hDD] at st1)))
    go_ret
    exact ⟨rfl, bel2 Y3 hu4⟩
  have hli : ¬ ((l2.length : Int) > 300) := by omega
  obtain ⟨L1, hL1⟩ : ∃ L, mrg L0 l2 = L := ⟨_, rfl⟩
  have hbo1 : Bok L1 := by rw [← hL1]; exact mrg_bok hbo0 _
  have hlen1 : L1.length = a0.toNat := by rw [← hL1, mrg_len hbo0, hlen0]
  have hmg := fun V p g (hK : Bk V p g L0) (hR : RdN V ad2 l2) (hg : l2 ≠ [] → ∀ a, ad2 = some a → a.block ≠ g) => merge_some hK ad2 cap2 l2 hR hg (by omega)
  rw [hL1] at hmg
  clear hL1 hbo0 hlen0
  obtain ⟨i, hi⟩ : ∃ i : Nat, a1 = (i : Int) := ⟨a1.toNat, by omega⟩
  have hil : i < L1.length := by omega
  obtain ⟨t, k, hx, hrk, hk, ht0, ht1⟩ := bok_at hbo1 hil
  have hat : ∀ V p g, Bk V p g L1 → Calls Tryd.prog 12 #[.pointer (some ⟨p, 0, none⟩), .int .i64 a1] V fun e w' => e = .returned (.tuple #[.agg #[.int .i64 a1, .int .i64 t, .int .i64 k], .int .i64 0]) ∧ Below V.heap.size V w' := fun V p g h => by
    have := at_any h a1
    rw [hi, atV_in hx] at this
    rw [hi]
    exact this
  have hdN := dueN_in hx
  dsimp only at hdN
  by_cases hdue : k = 2 ∧ t < 1048576
  case neg =>
    rw [if_neg hdue] at hdN
    have hdf : ∀ V p g q, Bk V p g L1 → Bt V q (some ⟨w.heap.size, 0, none⟩) ⟨⟨1, 16, 4⟩, 0, 0⟩ → Dk V w.heap.size DD → Sn V sa → 0 < g → 0 < q → Calls Tryd.prog 13 #[.pointer (some ⟨p, 0, none⟩), .int .i64 a1, .pointer (some ⟨q, 0, none⟩)] V fun e w' => e = .returned (.tuple #[.agg #[.int .i64 0, .int .i64 0, .int .i64 0], .bool false, .int .i64 0]) ∧ Bk w' p g L1 ∧ Td g q w.heap.size V w' := fun V p g q k1 k2 k3 k4 k5 k6 => by
      have := defend_any k1 hbo1 (by omega) k2 k3 b5.fz (by rw [b3]; decide) (by rw [b3]; decide) k4 k5 k6 w0' a1
      have e : dDf L1 a1 DD ⟨⟨1, 16, 4⟩, 0, 0⟩ = ⟨(0, 0, 0), false, 0, L1, DD, ⟨⟨1, 16, 4⟩, 0, 0⟩⟩ := by unfold dDf; rw [hi, hdN]
      rw [e] at this
      exact this.mono (by rintro e w' ⟨rfl, h1, _, _, h4⟩; exact ⟨rfl, h1, h4⟩)
    have hkt : k = 1 ∨ (k = 2 ∧ t = 1048576) := by omega
    clear hdN hx hdue hk hbo1 hlen1 b3 b4 b5 b6 hi hil hrk v1 v2 ht0 ht1
    obtain ⟨self, hself⟩ : ∃ s, a1 = s := ⟨_, rfl⟩
    subst hself
    rcases hkt with rfl | ⟨rfl, rfl⟩
    · go_enter Tryd.func3, Tryd.ntmps3
      go_wp2_with (first
        | (have m := st7; go_at_call 10; go_loud ((with_reducible refine st7.mono ?_); rintro e u8 ⟨rfl, hu8⟩; have n7 := Nx7.carry hu8; have n5'' := n5'.carry hu8; have yb0 := n7.c0; have yb1 := n7.c1; have yb2 := n7.c2; have yc0 := n5''.c0; have yc1 := n5''.c1; have yc2 := n5''.c2))
        | (have m := st6; go_at_call 12; go_loud ((with_reducible refine st6.mono ?_); rintro e u7 ⟨rfl, hu7⟩; obtain ⟨x7, hx7⟩ : ∃ x7, u7.alloc (.cells #[.int .i64 a1, .int .i64 t, .int .i64 1] 39) = x7 := ⟨_, rfl⟩; have Bx7 : Below u7.heap.size u7 x7 := (by rw [← hx7]; exact al1 _ _); have Nx7 : NB x7 u7.heap.size a1 t 1 := (by rw [← hx7]; exact NB.new _ _ _ _); have Y7 := bel2 (bel2 Y6 hu7) Bx7; have n5' := (n5.carry hu7).carry Bx7; have ya0 := n5'.c0; have ya1 := n5'.c1; have ya2 := n5'.c2; have st7 := alive_any (hs.carry Y7)))
        | (have m := st5; go_at_call 13; go_loud ((with_reducible refine st5.mono ?_); rintro e u6 ⟨rfl, hK6, hT6⟩; obtain ⟨v6, hv6⟩ : ∃ v6, u6.alloc (.cells #[.int .i64 0, .int .i64 0, .int .i64 0] 39) = v6 := ⟨_, rfl⟩; have Bv6 : Below u6.heap.size u6 v6 := (by rw [← hv6]; exact al1 _ _); have Nv6 : NB v6 u6.heap.size 0 0 0 := (by rw [← hv6]; exact NB.new _ _ _ _); have z0 := Nv6.c0; have z1 := Nv6.c1; have z2 := Nv6.c2; have z3 := Nv6.thaw 0; have z4 := Nv6.thaw 1; have z5 := Nv6.thaw 2; obtain ⟨x6, hx6⟩ : ∃ x6, W3 v6 u6.heap.size 0 0 0 = x6 := ⟨_, rfl⟩; have Bx6 : Below u6.heap.size u6 x6 := (by rw [← hx6]; exact below3 Bv6 (Nat.le_refl _) _ _ _); have Nx6 : NB x6 u6.heap.size 0 0 0 := (by rw [← hx6]; exact Nv6.set 0 0 0); unfold W3 at hx6; have s6 := hT6.size; have Y6 : Below w.heap.size w x6 := bel2 (Y5.trans (hT6.below (by omega) (by omega) (by omega) Y5.size)) Bx6; have n5 : NB x6 u5.heap.size a1 t 1 := NB.carry ((hT6.block _ Nx5.lt (by omega) (by omega) (by omega)).trans Nx5) Bx6; have K6 := hK6.carry Bx6; have st6 := hat x6 p g K6))
        | (have m := st4; go_at_call 12; go_loud ((with_reducible refine st4.mono ?_); rintro e u5 ⟨rfl, hu5⟩; obtain ⟨x5, hx5⟩ : ∃ x5, u5.alloc (.cells #[.int .i64 a1, .int .i64 t, .int .i64 1] 39) = x5 := ⟨_, rfl⟩; have Bx5 : Below u5.heap.size u5 x5 := (by rw [← hx5]; exact al1 _ _); have Nx5 : NB x5 u5.heap.size a1 t 1 := (by rw [← hx5]; exact NB.new _ _ _ _); have Y5 := bel2 (bel2 Y4 hu5) Bx5; have K5 := (hK4.carry hu5).carry Bx5; have st5 := hdf x5 p g q K5 ((hB4.carry hu5).carry Bx5) ((hD4.carry hu5).carry Bx5) (hs.carry Y5) g0 q0; have s5 := hu5.size; have s5' := Bx5.size))
        | (have m := st3; go_at_call 11; go_loud ((with_reducible refine st3.mono ?_); rintro e u4 ⟨⟨NN, EE, rfl⟩, hK4, hg4⟩; have Y4 : Below w.heap.size w u4 := Y3.trans (grown_low hg4 (by omega) Y3.size); have hB4 := hB3.gr hK3 hg4; have hD4 := hD3.gr hK3 hg4; have s4 := hg4.size; have st4 := hat u4 p g hK4))
        | (have m := st2; go_at_call 9; go_loud ((with_reducible refine st2.mono ?_); rintro e u3 ⟨p, g, rfl, hp3, hg3, hK3, hu3⟩; have Y3 := bel2 Y2 hu3; have s1 := hu1.size; have s2 := Y2.size; have s3 := hu3.size; have gl := hK3.glt; have ql := lt_at hB2; have hB3 := hB2.carry hu3; have hD3 := hD2.carry hu3; have q0 : 0 < q := (by omega); have g0 : 0 < g := (by omega); have st3 := hmg u3 p g hK3 (w2.carry Y3) (w2.ne (by omega))))
        | (have m := st1; go_at_call 8; go_loud ((with_reducible refine st1.mono ?_); rintro e u2 ⟨q, rfl, hq, hB2, hD2, hT2⟩; have Y2 : Below w.heap.size w u2 := hu1.trans (hT2.below (Nat.le_refl _) hu1.size); have st2 := hnw u2))
        | (go_at_call 7; go_loud ((with_reducible refine hdn.mono ?_); rintro e u1 ⟨rfl, hD1, hlt, hu1⟩; have st1 := open0_any hD1; rw [hDD] at st1)))
      go_ret
      exact ⟨by simp, bel2 Y7 hu8⟩
    · go_enter Tryd.func3, Tryd.ntmps3
      go_wp2_with (first
        | (have m := st7; go_at_call 10; go_loud ((with_reducible refine st7.mono ?_); rintro e u8 ⟨rfl, hu8⟩; have n7 := Nx7.carry hu8; have n5'' := n5'.carry hu8; have yb0 := n7.c0; have yb1 := n7.c1; have yb2 := n7.c2; have yc0 := n5''.c0; have yc1 := n5''.c1; have yc2 := n5''.c2))
        | (have m := st6; go_at_call 12; go_loud ((with_reducible refine st6.mono ?_); rintro e u7 ⟨rfl, hu7⟩; obtain ⟨x7, hx7⟩ : ∃ x7, u7.alloc (.cells #[.int .i64 a1, .int .i64 1048576, .int .i64 2] 39) = x7 := ⟨_, rfl⟩; have Bx7 : Below u7.heap.size u7 x7 := (by rw [← hx7]; exact al1 _ _); have Nx7 : NB x7 u7.heap.size a1 1048576 2 := (by rw [← hx7]; exact NB.new _ _ _ _); have Y7 := bel2 (bel2 Y6 hu7) Bx7; have n5' := (n5.carry hu7).carry Bx7; have ya0 := n5'.c0; have ya1 := n5'.c1; have ya2 := n5'.c2; have st7 := alive_any (hs.carry Y7)))
        | (have m := st5; go_at_call 13; go_loud ((with_reducible refine st5.mono ?_); rintro e u6 ⟨rfl, hK6, hT6⟩; obtain ⟨v6, hv6⟩ : ∃ v6, u6.alloc (.cells #[.int .i64 0, .int .i64 0, .int .i64 0] 39) = v6 := ⟨_, rfl⟩; have Bv6 : Below u6.heap.size u6 v6 := (by rw [← hv6]; exact al1 _ _); have Nv6 : NB v6 u6.heap.size 0 0 0 := (by rw [← hv6]; exact NB.new _ _ _ _); have z0 := Nv6.c0; have z1 := Nv6.c1; have z2 := Nv6.c2; have z3 := Nv6.thaw 0; have z4 := Nv6.thaw 1; have z5 := Nv6.thaw 2; obtain ⟨x6, hx6⟩ : ∃ x6, W3 v6 u6.heap.size 0 0 0 = x6 := ⟨_, rfl⟩; have Bx6 : Below u6.heap.size u6 x6 := (by rw [← hx6]; exact below3 Bv6 (Nat.le_refl _) _ _ _); have Nx6 : NB x6 u6.heap.size 0 0 0 := (by rw [← hx6]; exact Nv6.set 0 0 0); unfold W3 at hx6; have s6 := hT6.size; have Y6 : Below w.heap.size w x6 := bel2 (Y5.trans (hT6.below (by omega) (by omega) (by omega) Y5.size)) Bx6; have n5 : NB x6 u5.heap.size a1 1048576 2 := NB.carry ((hT6.block _ Nx5.lt (by omega) (by omega) (by omega)).trans Nx5) Bx6; have K6 := hK6.carry Bx6; have st6 := hat x6 p g K6))
        | (have m := st4; go_at_call 12; go_loud ((with_reducible refine st4.mono ?_); rintro e u5 ⟨rfl, hu5⟩; obtain ⟨x5, hx5⟩ : ∃ x5, u5.alloc (.cells #[.int .i64 a1, .int .i64 1048576, .int .i64 2] 39) = x5 := ⟨_, rfl⟩; have Bx5 : Below u5.heap.size u5 x5 := (by rw [← hx5]; exact al1 _ _); have Nx5 : NB x5 u5.heap.size a1 1048576 2 := (by rw [← hx5]; exact NB.new _ _ _ _); have Y5 := bel2 (bel2 Y4 hu5) Bx5; have K5 := (hK4.carry hu5).carry Bx5; have st5 := hdf x5 p g q K5 ((hB4.carry hu5).carry Bx5) ((hD4.carry hu5).carry Bx5) (hs.carry Y5) g0 q0; have s5 := hu5.size; have s5' := Bx5.size))
        | (have m := st3; go_at_call 11; go_loud ((with_reducible refine st3.mono ?_); rintro e u4 ⟨⟨NN, EE, rfl⟩, hK4, hg4⟩; have Y4 : Below w.heap.size w u4 := Y3.trans (grown_low hg4 (by omega) Y3.size); have hB4 := hB3.gr hK3 hg4; have hD4 := hD3.gr hK3 hg4; have s4 := hg4.size; have st4 := hat u4 p g hK4))
        | (have m := st2; go_at_call 9; go_loud ((with_reducible refine st2.mono ?_); rintro e u3 ⟨p, g, rfl, hp3, hg3, hK3, hu3⟩; have Y3 := bel2 Y2 hu3; have s1 := hu1.size; have s2 := Y2.size; have s3 := hu3.size; have gl := hK3.glt; have ql := lt_at hB2; have hB3 := hB2.carry hu3; have hD3 := hD2.carry hu3; have q0 : 0 < q := (by omega); have g0 : 0 < g := (by omega); have st3 := hmg u3 p g hK3 (w2.carry Y3) (w2.ne (by omega))))
        | (have m := st1; go_at_call 8; go_loud ((with_reducible refine st1.mono ?_); rintro e u2 ⟨q, rfl, hq, hB2, hD2, hT2⟩; have Y2 : Below w.heap.size w u2 := hu1.trans (hT2.below (Nat.le_refl _) hu1.size); have st2 := hnw u2))
        | (go_at_call 7; go_loud ((with_reducible refine hdn.mono ?_); rintro e u1 ⟨rfl, hD1, hlt, hu1⟩; have st1 := open0_any hD1; rw [hDD] at st1)))
      go_ret
      exact ⟨by simp, bel2 Y7 hu8⟩
  rw [if_pos hdue] at hdN
  obtain ⟨rfl, htm⟩ := hdue
  obtain ⟨t1, ht1'⟩ : ∃ t1, t + 1 = t1 := ⟨_, rfl⟩
  rw [ht1'] at hdN
  obtain ⟨hx2, hbo2, hlen2⟩ := tke_due hbo1 (by omega) hdN
  obtain ⟨n', hn1, hn2, hlv, hw1, hw2, hre⟩ := b5.raised (by omega) (t := t1) (by omega) (by omega)
  have hre0 : (dRa DD ⟨⟨1, 16, 4⟩, 0, 0⟩ t1).e = 0 := by
    rcases hre with h | ⟨_, _, h | h⟩
    · exact h.1
    · rw [b4] at h; cases h
    · rw [b6] at h; cases h
  have edf : dDf L1 a1 DD ⟨⟨1, 16, 4⟩, 0, 0⟩ = ⟨((i : Int), t1, 1), true, 0, tke L1 ((i : Int), t1, 1), (dRa DD ⟨⟨1, 16, 4⟩, 0, 0⟩ t1).d, (dRa DD ⟨⟨1, 16, 4⟩, 0, 0⟩ t1).b⟩ := by
    unfold dDf
    rw [hi, hdN]
    dsimp only
    rw [hre0, if_pos rfl]
  obtain ⟨L2, hL2⟩ : ∃ L, tke L1 ((i : Int), t1, 1) = L := ⟨_, rfl⟩
  obtain ⟨D2, hD2'⟩ : ∃ D, (dRa DD ⟨⟨1, 16, 4⟩, 0, 0⟩ t1).d = D := ⟨_, rfl⟩
  obtain ⟨B2, hB2'⟩ : ∃ B, (dRa DD ⟨⟨1, 16, 4⟩, 0, 0⟩ t1).b = B := ⟨_, rfl⟩
  rw [hL2] at hx2 hbo2 hlen2
  rw [hD2'] at hw1 hw2
  rw [hD2', hB2'] at hlv
  rw [hL2, hD2', hB2'] at edf
  have hdf : ∀ V p g q, Bk V p g L1 → Bt V q (some ⟨w.heap.size, 0, none⟩) ⟨⟨1, 16, 4⟩, 0, 0⟩ → Dk V w.heap.size DD → Sn V sa → 0 < g → 0 < q → Calls Tryd.prog 13 #[.pointer (some ⟨p, 0, none⟩), .int .i64 a1, .pointer (some ⟨q, 0, none⟩)] V fun e w' => e = .returned (.tuple #[.agg #[.int .i64 a1, .int .i64 t1, .int .i64 1], .bool true, .int .i64 0]) ∧ Bk w' p g L2 ∧ Bt w' q (some ⟨w.heap.size, 0, none⟩) B2 ∧ Dk w' w.heap.size D2 ∧ Td g q w.heap.size V w' := fun V p g q k1 k2 k3 k4 k5 k6 => by
    have := defend_any k1 hbo1 (by omega) k2 k3 b5.fz (by rw [b3]; decide) (by rw [b3]; decide) k4 k5 k6 w0' a1
    rw [edf] at this
    exact this.mono (by rintro e w' ⟨rfl, h1, h2, h3, h4⟩; exact ⟨by rw [hi]; rfl, h1, h3, h2, h4⟩)
  have hdN2 : dueN L2 (i : Int) = none := by rw [dueN_in hx2]; exact if_neg (fun e => absurd (show (1 : Int) = 2 from e.1) (by decide))
  have hdf2 : ∀ V p g q, Bk V p g L2 → Bt V q (some ⟨w.heap.size, 0, none⟩) B2 → Dk V w.heap.size D2 → Sn V sa → 0 < g → 0 < q → Calls Tryd.prog 13 #[.pointer (some ⟨p, 0, none⟩), .int .i64 a1, .pointer (some ⟨q, 0, none⟩)] V fun e w' => e = .returned (.tuple #[.agg #[.int .i64 0, .int .i64 0, .int .i64 0], .bool false, .int .i64 0]) ∧ Bk w' p g L2 ∧ Td g q w.heap.size V w' := fun V p g q k1 k2 k3 k4 k5 k6 => by
    have := defend_any k1 hbo2 (by omega) k2 k3 hlv.fz (by omega) (by omega) k4 k5 k6 w0' a1
    have e : dDf L2 a1 D2 B2 = ⟨(0, 0, 0), false, 0, L2, D2, B2⟩ := by unfold dDf; rw [hi, hdN2]
    rw [e] at this
    exact this.mono (by rintro e w' ⟨rfl, h1, _, _, h4⟩; exact ⟨rfl, h1, h4⟩)
  have hat2 : ∀ V p g, Bk V p g L2 → Calls Tryd.prog 12 #[.pointer (some ⟨p, 0, none⟩), .int .i64 a1] V fun e w' => e = .returned (.tuple #[.agg #[.int .i64 a1, .int .i64 t1, .int .i64 1], .int .i64 0]) ∧ Below V.heap.size V w' := fun V p g h => by
    have := at_any h a1
    rw [hi, atV_in hx2] at this
    rw [hi]
    exact this
  have hrp : ∀ V, Calls Tryd.prog 14 #[.agg #[.int .i64 a1, .int .i64 t, .int .i64 2]] V fun e w' => e = .returned (.tuple #[.agg #[.int .i64 a1, .int .i64 t1, .int .i64 1], .int .i64 0]) ∧ Below V.heap.size V w' := fun V => by
    have := reply_any a1 t 2 V
    rw [rpV, if_neg (fun e => e.elim hrk (fun e => e rfl)), if_neg (by omega), ht1'] at this
    exact this
  have hbe : ∀ V, Calls Tryd.prog 15 #[.agg #[.int .i64 a1, .int .i64 t1, .int .i64 1], .agg #[.int .i64 a1, .int .i64 t, .int .i64 2]] V fun e w' => e = .returned (.bool true) ∧ Below V.heap.size V w' := fun V => by
    have := beats_any a1 t1 1 a1 t 2 V
    have e1 : rk t1 1 = 2 * t1 := rk_m (by omega)
    have e2 : rk t 2 = 2 * t + 1 := rk_s (by omega)
    rw [bt, decide_eq_true (show _ by rw [e1, e2]; exact ⟨rfl, by omega, by omega, by omega⟩)] at this
    exact this
  have hsu : ∀ V p g, Bk V p g L2 → Calls Tryd.prog 17 #[.pointer (some ⟨p, 0, none⟩)] V fun e w' => e = .returned (sv (sus L2)) ∧ Below V.heap.size V w' := fun V p g h => sus_any h (by omega) (by omega) hbo2
  have hha : ∀ V, Calls Tryd.prog 16 #[sv (sus L2), .int .i64 a1] V fun e w' => e = .returned (.bool false) ∧ Below V.heap.size V w' := fun V => by
    have := has_any (sus L2) a1 V
    have e : hasB (sus L2) a1 = false := by unfold hasB; rw [hi, Int.toNat_natCast, sus_bit hbo2 hx2, decide_eq_false (show ¬ ((1 : Int) = 2) by decide), Bool.and_false]
    rw [e] at this
    exact this
  generalize sus L2 = SU at hsu hha
  simp only [sv] at hsu hha
  have htne : ¬ t = 1048576 := by omega
  clear hdN hdN2 hx hx2 edf hL2 hD2' hB2' hre hre0 hlv hbo1 hbo2 hlen1 hlen2 b3 b4 b5 b6 hi hil hrk v1 v2 ht0 ht1 hw1 hw2 hn1 hn2 hk htm ht1'
  obtain ⟨self, hself⟩ : ∃ s, a1 = s := ⟨_, rfl⟩
  subst hself
  go_enter Tryd.func3, Tryd.ntmps3
  go_wp2_with (first
    | (have m := st12; go_at_call 16; go_loud ((with_reducible refine st12.mono ?_); rintro e y4 ⟨rfl, hy4⟩))
    | (have m := st11; go_at_call 17; go_loud ((with_reducible refine st11.mono ?_); rintro e y3 ⟨rfl, hy3⟩; have st12 := hha y3))
    | (have m := st10; go_at_call 15; go_loud ((with_reducible refine st10.mono ?_); rintro e y2 ⟨rfl, hy2⟩; have st11 := hsu y2 p g ((K9.carry hy1).carry hy2)))
    | (have m := st9; go_at_call 10; go_loud ((with_reducible refine st9.mono ?_); rintro e y1 ⟨rfl, hy1⟩; have n5c := n5b.carry hy1; have n6c := n6b.carry hy1; have n7c := n7b.carry hy1; have n8c := n8b.carry hy1; have ra0 := n5c.c0; have ra1 := n5c.c1; have ra2 := n5c.c2; have rb0 := n6c.c0; have rb1 := n6c.c1; have rb2 := n6c.c2; have rc0 := n7c.c0; have rc1 := n7c.c1; have rc2 := n7c.c2; have rd0 := n8c.c0; have rd1 := n8c.c1; have rd2 := n8c.c2; have st10 := hbe y1))
    | (have m := st8; go_at_call 13; go_loud ((with_reducible refine st8.mono ?_); rintro e u9 ⟨rfl, hK9, hT9⟩; obtain ⟨v9, hv9⟩ : ∃ v9, u9.alloc (.cells #[.int .i64 0, .int .i64 0, .int .i64 0] 39) = v9 := ⟨_, rfl⟩; have Bv9 : Below u9.heap.size u9 v9 := (by rw [← hv9]; exact al1 _ _); have Nv9 : NB v9 u9.heap.size 0 0 0 := (by rw [← hv9]; exact NB.new _ _ _ _); have z0 := Nv9.c0; have z1 := Nv9.c1; have z2 := Nv9.c2; have z3 := Nv9.thaw 0; have z4 := Nv9.thaw 1; have z5 := Nv9.thaw 2; obtain ⟨x9, hx9⟩ : ∃ x9, W3 v9 u9.heap.size 0 0 0 = x9 := ⟨_, rfl⟩; have Bx9 : Below u9.heap.size u9 x9 := (by rw [← hx9]; exact below3 Bv9 (Nat.le_refl _) _ _ _); have Nx9 : NB x9 u9.heap.size 0 0 0 := (by rw [← hx9]; exact Nv9.set 0 0 0); unfold W3 at hx9; have s9 := hT9.size; have h5 := n5a.lt; have h6 := n6a.lt; have h7 := n7a.lt; have h8 := Nx8.lt; have e5 := n5.lt; have e8 : w.heap.size ≤ u8.heap.size := (bel2 Y7 hu8).size; have e7 : w.heap.size ≤ u7.heap.size := (bel2 Y6 hu7).size; have e6 : x5.heap.size ≤ u6.heap.size := s6; have r8 : x6.heap.size ≤ u8.heap.size := (bel2 (bel2 hu7 Bx7) hu8).size; have r7 : x6.heap.size ≤ u7.heap.size := hu7.size; have Y9 : Below w.heap.size w x9 := bel2 (Y8.trans (hT9.below (by omega) (by omega) (by omega) Y8.size)) Bx9; have n5b := NB.carry ((hT9.block _ h5 (by omega) (by omega) (by omega)).trans n5a) Bx9; have n6b := NB.carry ((hT9.block _ h6 (by omega) (by omega) (by omega)).trans n6a) Bx9; have n7b := NB.carry ((hT9.block _ h7 (by omega) (by omega) (by omega)).trans n7a) Bx9; have n8b := NB.carry ((hT9.block _ h8 (by omega) (by omega) (by omega)).trans Nx8) Bx9; have K9 := hK9.carry Bx9; have st9 := alive_any (hs.carry Y9)))
    | (have m := st7; go_at_call 14; go_loud ((with_reducible refine st7.mono ?_); rintro e u8 ⟨rfl, hu8⟩; obtain ⟨x8, hx8⟩ : ∃ x8, u8.alloc (.cells #[.int .i64 a1, .int .i64 t1, .int .i64 1] 39) = x8 := ⟨_, rfl⟩; have Bx8 : Below u8.heap.size u8 x8 := (by rw [← hx8]; exact al1 _ _); have Nx8 : NB x8 u8.heap.size a1 t1 1 := (by rw [← hx8]; exact NB.new _ _ _ _); have Y8 := bel2 (bel2 Y7 hu8) Bx8; have n5a := (n5'.carry hu8).carry Bx8; have n6a := (n6'.carry hu8).carry Bx8; have n7a := (Nx7.carry hu8).carry Bx8; have K8 := (K7.carry hu8).carry Bx8; have s8 := Y8.size; have st8 := hdf2 x8 p g q K8 ((B7.carry hu8).carry Bx8) ((D7.carry hu8).carry Bx8) (hs.carry Y8) g0 q0))
    | (have m := st6; go_at_call 12; go_loud ((with_reducible refine st6.mono ?_); rintro e u7 ⟨rfl, hu7⟩; obtain ⟨x7, hx7⟩ : ∃ x7, u7.alloc (.cells #[.int .i64 a1, .int .i64 t1, .int .i64 1] 39) = x7 := ⟨_, rfl⟩; have Bx7 : Below u7.heap.size u7 x7 := (by rw [← hx7]; exact al1 _ _); have Nx7 : NB x7 u7.heap.size a1 t1 1 := (by rw [← hx7]; exact NB.new _ _ _ _); have Y7 := bel2 (bel2 Y6 hu7) Bx7; have n5' := (n5.carry hu7).carry Bx7; have n6' := (Nx6.carry hu7).carry Bx7; have ya0 := n5'.c0; have ya1 := n5'.c1; have ya2 := n5'.c2; have K7 := (K6.carry hu7).carry Bx7; have B7 := (B6.carry hu7).carry Bx7; have D7 := (D6.carry hu7).carry Bx7; have st7 := hrp x7))
    | (have m := st5; go_at_call 13; go_loud ((with_reducible refine st5.mono ?_); rintro e u6 ⟨rfl, hK6, hB6, hD6, hT6⟩; obtain ⟨x6, hx6⟩ : ∃ x6, u6.alloc (.cells #[.int .i64 a1, .int .i64 t1, .int .i64 1] 39) = x6 := ⟨_, rfl⟩; have Bx6 : Below u6.heap.size u6 x6 := (by rw [← hx6]; exact al1 _ _); have Nx6 : NB x6 u6.heap.size a1 t1 1 := (by rw [← hx6]; exact NB.new _ _ _ _); have s6 := hT6.size; have Y6 : Below w.heap.size w x6 := bel2 (Y5.trans (hT6.below (by omega) (by omega) (by omega) Y5.size)) Bx6; have n5 : NB x6 u5.heap.size a1 t 2 := NB.carry ((hT6.block _ Nx5.lt (by omega) (by omega) (by omega)).trans Nx5) Bx6; have K6 := hK6.carry Bx6; have B6 := hB6.carry Bx6; have D6 := hD6.carry Bx6; have st6 := hat2 x6 p g K6))
    | (have m := st4; go_at_call 12; go_loud ((with_reducible refine st4.mono ?_); rintro e u5 ⟨rfl, hu5⟩; obtain ⟨x5, hx5⟩ : ∃ x5, u5.alloc (.cells #[.int .i64 a1, .int .i64 t, .int .i64 2] 39) = x5 := ⟨_, rfl⟩; have Bx5 : Below u5.heap.size u5 x5 := (by rw [← hx5]; exact al1 _ _); have Nx5 : NB x5 u5.heap.size a1 t 2 := (by rw [← hx5]; exact NB.new _ _ _ _); have Y5 := bel2 (bel2 Y4 hu5) Bx5; have K5 := (hK4.carry hu5).carry Bx5; have st5 := hdf x5 p g q K5 ((hB4.carry hu5).carry Bx5) ((hD4.carry hu5).carry Bx5) (hs.carry Y5) g0 q0; have s5 := hu5.size; have s5' := Bx5.size))
    | (have m := st3; go_at_call 11; go_loud ((with_reducible refine st3.mono ?_); rintro e u4 ⟨⟨NN, EE, rfl⟩, hK4, hg4⟩; have Y4 : Below w.heap.size w u4 := Y3.trans (grown_low hg4 (by omega) Y3.size); have hB4 := hB3.gr hK3 hg4; have hD4 := hD3.gr hK3 hg4; have s4 := hg4.size; have st4 := hat u4 p g hK4))
    | (have m := st2; go_at_call 9; go_loud ((with_reducible refine st2.mono ?_); rintro e u3 ⟨p, g, rfl, hp3, hg3, hK3, hu3⟩; have Y3 := bel2 Y2 hu3; have s1 := hu1.size; have s2 := Y2.size; have s3 := hu3.size; have gl := hK3.glt; have ql := lt_at hB2; have hB3 := hB2.carry hu3; have hD3 := hD2.carry hu3; have q0 : 0 < q := (by omega); have g0 : 0 < g := (by omega); have st3 := hmg u3 p g hK3 (w2.carry Y3) (w2.ne (by omega))))
    | (have m := st1; go_at_call 8; go_loud ((with_reducible refine st1.mono ?_); rintro e u2 ⟨q, rfl, hq, hB2, hD2, hT2⟩; have Y2 : Below w.heap.size w u2 := hu1.trans (hT2.below (Nat.le_refl _) hu1.size); have st2 := hnw u2))
    | (go_at_call 7; go_loud ((with_reducible refine hdn.mono ?_); rintro e u1 ⟨rfl, hD1, hlt, hu1⟩; have st1 := open0_any hD1; rw [hDD] at st1)))
  go_ret
  exact ⟨by simp, bel2 (bel2 (bel2 (bel2 Y9 hy1) hy2) hy3) hy4⟩

set_option maxRecDepth 100000 in
theorem lifted (os : Os) (started : os.Started) (H : Type) (enc : TypeId × Value → H) :
    ReturnsInHanded {} Tryd.checked os 3 .any (fun w args => (Rows.refuteFreeSpec.pre enc Tryd.prog Tryd.f3 [] false w args ∧ laidMetH Tryd.prog Rows.refuteFreeRow.laid w) ∧ sizedMet enc Tryd.prog Tryd.f3 (OpenSpec.ofChange Rows.refuteFreeSpec) false w args)
      (Rows.refuteFreeSpec.post enc Tryd.prog Tryd.f3 false true false false) := by
  refine returnsInHanded_of_change_and (C := Tryd.checked) (X := fun w _ => laidMetH Tryd.prog Rows.refuteFreeRow.laid w) (fun _ _ _ hh h => h.of_heap hh) own started (by kernel_rfl) Tryd.func3
    (ChangeSpec.witness_shaped (enc := enc) (C := Tryd.checked) (os := os) (X := fun w _ => laidMetH Tryd.prog Rows.refuteFreeRow.laid w) false (World.laidAll Tryd.prog os Rows.refuteFreeRow.laid) #[.int .i64 0, .int .i64 0, .slice none 0 0] 8 (World.laidAll_os _ _ _)
      (World.shaped_of_ZipB (by kernel_rfl) (by kernel_rfl)) (by kernel_rfl) (by kernel_rfl) (by kernel_rfl)
      (by rw [MakeChecks.laidMetH_plain _ _ _ (by kernel_rfl)]; exact laidMet_laidAll _ (by kernel_rfl) (by kernel_rfl))) ?_
  intro W base args ds gs before hval0 hW _ hsz hL _
  have hval : ∀ (j : Nat) t v, Tryd.f3.params[j]? = some t → args[j]? = some v → Value.okWide Tryd.prog W .any base t v := hval0
  have hW' := hW
  obtain ⟨p, q, hA0, hV, rfl, hfz, hnd⟩ := hW
  have hA : DataW.TrodAll enc Tryd.prog W 0 (fun _ => true) true Tryd.f3.params.toList args.toList ds p := hA0
  rw [Tryd.params3] at hA hval
  obtain ⟨v0, vs0, d0, ds0, p0, q0, hargs, rfl, rfl, h0, r0⟩ := trodAll_cons hA
  obtain ⟨v1, vs1, d1, ds1, p1, q1, rfl, rfl, rfl, h1, r1⟩ := trodAll_cons r0
  obtain ⟨v2, vs2, d2, ds2, p2, q2, rfl, rfl, rfl, h2, r2⟩ := trodAll_cons r1
  obtain ⟨rfl, rfl, rfl⟩ := trodAll_nil r2
  obtain rfl : args = #[v0, v1, v2] := by cases args; simp_all
  obtain ⟨rfl, rfl⟩ := trodVars_none hV
  obtain ⟨a0, rfl, rfl, rfl, w0⟩ := open_int Tryd.underlying3 (hval 0 3 v0 rfl rfl) h0
  obtain ⟨a1, rfl, rfl, rfl, w1⟩ := open_int Tryd.underlying3 (hval 1 3 v1 rfl rfl) h1
  have k2 := h2
  have lt2 : ∀ x ∈ p2, x.block < W.heap.size := by obtain ⟨m, hm⟩ := k2; exact DataW.trod_lt m _ _ _ hm
  obtain ⟨ad2, cap2, l2, rfl, w2, hc2, hq2, hd2⟩ := open_nts (hval 2 22 v2 rfl rfl) h2
  clear hA0 hval0
  refine (walk W a0 w0 a1 w1 ad2 cap2 l2 w2 hc2 hq2 hL).mono fun e W' ⟨he, hg⟩ => ?_
  subst he
  exact ⟨_, rfl, _, _, _, [], _, [], hW', (trodAll_cons_mk (shut_bool Tryd.underlying4 _) trodAll_mk0), (trodAll_cons_mk (shut_int Tryd.underlying3 w0) (trodAll_cons_mk (shut_int Tryd.underlying3 w1) (trodAll_cons_mk (Below.trod laidOut (by kernel_rfl) (of_decide_eq_true (by kernel_rfl)) k2 hg lt2) trodAll_mk0))), rfl, hg.frame _, fun h => by cases h⟩

theorem over : Rows.refuteFreeRow.holds Tryd.pinned (OpenSpec.ofChange Rows.refuteFreeSpec) :=
  OpenClaim.holds_of_wide 3 Tryd.f3 rfl rfl rfl rfl rfl rfl rfl ⟨rfl, rfl, rfl, rfl, rfl⟩ rfl rfl rfl rfl rfl (by kernel_rfl) Tryd.func3 (by kernel_rfl)
    (of_decide_eq_true (by kernel_rfl)) (by unfold Func.isWrapper; first | (rw [if_pos (by decide +kernel)]; kernel_rfl) | (rw [if_neg (by decide +kernel)]; exact ⟨rfl, rfl⟩))
    (fun os started H enc _ => lifted os started H enc)

theorem row_proved : Rows.RefuteFreeSaid :=
  over
theorem proved : Rows.RefuteFreeCardSaid :=
  Claim7.holds_tied_plain_at .later [] [.sentinel] true (true, "27a30db777e2e2083e8a5974727a1406e454a355e1787fd83c9a8439e2d84fd0") true
    row_proved (fun _ h => by cases h) (by kernel_rfl) (fun _ h => by cases h) refuteFree_row_tie rfl ⟨rfl, rfl⟩ (by kernel_rfl) rfl
    (fun f fn hf hfn => by
      obtain rfl : f = 3 := Option.some.inj ((show Tryd.prog.funcNamed "earshot/earshotlaw15.RefuteFree" = some 3 by kernel_rfl).symm.trans hf) |>.symm
      obtain rfl : fn = Tryd.f3 := (Option.some.inj (Tryd.func3.symm.trans hfn)).symm
      exact ⟨by kernel_rfl, fun j t ht => by
        rw [Tryd.params3] at ht
        rcases j with _ | j
        · have e : t = 3 := by simpa using ht.symm
          subst e
          exact (show Tryd.prog.wantsStandIn 3 = false by kernel_rfl)
        rcases j with _ | j
        · have e : t = 3 := by simpa using ht.symm
          subst e
          exact (show Tryd.prog.wantsStandIn 3 = false by kernel_rfl)
        rcases j with _ | j
        · have e : t = 22 := by simpa using ht.symm
          subst e
          exact (show Tryd.prog.wantsStandIn 22 = false by kernel_rfl)
        simp at ht⟩)
    (by kernel_rfl)
#print axioms proved
end Go.Proofs.YtlpmehmoeladjaaDoor
