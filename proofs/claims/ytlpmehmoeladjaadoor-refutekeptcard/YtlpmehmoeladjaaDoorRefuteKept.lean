/- RefuteKept (promise P1503, W4): ahead of the mistake the disk has its tag, wherever the power fails: what the book has of the node as a mistake is never above the tag of the record. For every input; nothing is asked of it. -/
import Derived.Test.YtlpmehmoeladjaaDoorRows
import Derived.WalkKit
import Derived.ProofKit
import Derived.OpenShut
import Derived.Stop.Joined
import Derived.Lay
import Derived.SevenTiedAt
import Derived.SizedLaws
import Derived.LaidMore
import Derived.Test.YtlpmehmoeladjaaDoorTie
import Derived.Test.YtlpmehmoeladjaaDoorCards
import Derived.Test.YtlpmehmoeladjaaDoorJnJ22
import Derived.Test.YtlpmehmoeladjaaDoorJnJ25
import Derived.Test.YtlpmehmoeladjaaDoorOpn3
namespace Go.Proofs.YtlpmehmoeladjaaDoor
open Go.ChangeShapes Go.WideShapes Go.ChangeAt Go.RowKit
set_option linter.unusedVariables false

theorem laidOut : laidOutB Tryd.prog = true := by kernel_rfl
theorem own : ownKnob Tryd.prog.godebug = none := by kernel_rfl
open Go.Shelf Go.Lib
theorem Bk.tp2 {W V : World} {p g q : Nat} {l : List N3} {d : Dst} (h : Bk W p g l) (hd : Dk W q d) (ht : Tp q W V) : Bk V p g l := by
  have n1 : p ≠ q := fun e => by
    have := h.obj; rw [e, hd.obj] at this
    injection (Option.some.inj this) with _ e2; exact absurd e2 (by decide)
  have n3 : g ≠ q := fun e => by
    have := h.row; rw [e, hd.obj] at this
    injection (Option.some.inj this) with _ e2; exact absurd e2 (by decide)
  exact ⟨(ht.block _ h.plt n1).trans h.obj, (ht.block _ h.glt n3).trans h.row⟩
set_option maxHeartbeats 40000000 in
set_option maxRecDepth 100000 in
theorem walk (w : World) (a0 : Int) (w0 : (Lit.int .i64 a0).wf = true) (a1 : Int) (w1 : (Lit.int .i64 a1).wf = true) (ad2 : Option Addr) (cap2 : Nat) (l2 : List (List (Int × Int × Int))) (w2 : RdNN w ad2 l2) (a3 : Int) (w3 : (Lit.int .i64 a3).wf = true) (hL : laidMetH Tryd.prog Rows.refuteKeptRow.laid w) :
    Calls Tryd.prog 4 #[.int .i64 a0, .int .i64 a1, .slice ad2 l2.length cap2, .int .i64 a3] w fun e w' => e = .returned (.bool true) ∧ Below w.heap.size w w' := by
  have hmx : Tryd.prog.follows .mixedOrders = true := by kernel_rfl
  obtain ⟨sa, hs⟩ := sn_of hL
  clear hL
  have w0' := hs.lt
  have hdn := dnew_any w
  obtain ⟨b1, b2, b3, b4, b5, b6⟩ := op0
  clear b1 b2
  obtain ⟨DD, hDD⟩ : ∃ D, (dOp d0).d = D := ⟨_, rfl⟩
  rw [hDD] at b3 b4 b5 b6
  by_cases hv : ¬ (a0 < 1 ∨ 100 < a0) ∧ ¬ (a1 < 0 ∨ a0 ≤ a1) ∧ ¬ ((0 : Int) < 0 ∨ 1048576 < (0 : Int))
  case neg =>
    obtain ⟨E, hE, hnw⟩ := new_bad hv
    clear b3 b4 b5 b6 hv w2
    go_enter Tryd.func4, Tryd.ntmps4
    go_wp2_with (first
      | (have m := st3; go_at_call 10; go_loud ((with_reducible refine st3.mono ?_); rintro e u4 ⟨rfl, hu4⟩))
      | (have m := st2; go_at_call 9; go_loud ((with_reducible refine st2.mono ?_); rintro e u3 ⟨rfl, hu3⟩; have Y3 := bel2 Y2 hu3; have st3 := alive_any (hs.carry Y3)))
      | (have m := st1; go_at_call 8; go_loud ((with_reducible refine st1.mono ?_); rintro e u2 ⟨q, rfl, hq, hB2, hD2, hT2⟩; have Y2 : Below w.heap.size w u2 := hu1.trans (hT2.below (Nat.le_refl _) hu1.size); have st2 := hnw u2))
      | (go_at_call 7; go_loud ((with_reducible refine hdn.mono ?_); rintro e u1 ⟨rfl, hD1, hlt, hu1⟩; have st1 := open0_any hD1; rw [hDD] at st1)))
    go_ret
    exact ⟨rfl, bel2 Y3 hu4⟩
  obtain ⟨v1, v2, v3⟩ := hv
  have hnw := new_ok v1 v2 v3
  obtain ⟨L0, hL0⟩ : ∃ L, bk0 a0.toNat a1.toNat 0 = L := ⟨_, rfl⟩
  have hbo0 : Bok L0 := by rw [← hL0]; exact bk0_bok (by omega) (by omega)
  have hlen0 : L0.length = a0.toNat := by rw [← hL0]; exact bk0_len _ _ _
  have hown0 : OwnT L0 a1.toNat 0 := by
    intro x hx
    rw [← hL0, bk0_get 0 (by omega), if_pos rfl] at hx
    obtain rfl := Option.some.inj hx
    exact .inr (Int.le_refl _)
  rw [hL0] at hnw
  clear hL0 v3
  by_cases hl : l2.length ≤ 40
  case neg =>
    have hli : ((l2.length : Int) > 40) := by omega
    clear b3 b4 b5 b6 hbo0 hlen0 hown0 w2
    go_enter Tryd.func4, Tryd.ntmps4
    go_wp2_with (first
      | (have m := st3; go_at_call 10; go_loud ((with_reducible refine st3.mono ?_); rintro e u4 ⟨rfl, hu4⟩))
      | (have m := st2; go_at_call 9; go_loud ((with_reducible refine st2.mono ?_); rintro e u3 ⟨p, g, rfl, hp3, hg3, hK3, hu3⟩; have Y3 := bel2 Y2 hu3; have st3 := alive_any (hs.carry Y3)))
      | (have m := st1; go_at_call 8; go_loud ((with_reducible refine st1.mono ?_); rintro e u2 ⟨q, rfl, hq, hB2, hD2, hT2⟩; have Y2 : Below w.heap.size w u2 := hu1.trans (hT2.below (Nat.le_refl _) hu1.size); have st2 := hnw u2))
      | (go_at_call 7; go_loud ((with_reducible refine hdn.mono ?_); rintro e u1 ⟨rfl, hD1, hlt, hu1⟩; have st1 := open0_any hD1; rw [hDD] at st1)))
    go_ret
    exact ⟨rfl, bel2 Y3 hu4⟩
  have hli : ¬ ((l2.length : Int) > 40) := by omega
  by_cases hk : a3 < 0
  case pos =>
    clear b3 b4 b5 b6 hbo0 hlen0 hown0 w2
    go_enter Tryd.func4, Tryd.ntmps4
    go_wp2_with (first
      | (have m := st3; go_at_call 10; go_loud ((with_reducible refine st3.mono ?_); rintro e u4 ⟨rfl, hu4⟩))
      | (have m := st2; go_at_call 9; go_loud ((with_reducible refine st2.mono ?_); rintro e u3 ⟨p, g, rfl, hp3, hg3, hK3, hu3⟩; have Y3 := bel2 Y2 hu3; have st3 := alive_any (hs.carry Y3)))
      | (have m := st1; go_at_call 8; go_loud ((with_reducible refine st1.mono ?_); rintro e u2 ⟨q, rfl, hq, hB2, hD2, hT2⟩; have Y2 : Below w.heap.size w u2 := hu1.trans (hT2.below (Nat.le_refl _) hu1.size); have st2 := hnw u2))
      | (go_at_call 7; go_loud ((with_reducible refine hdn.mono ?_); rintro e u1 ⟨rfl, hD1, hlt, hu1⟩; have st1 := open0_any hD1; rw [hDD] at st1)))
    go_ret
    exact ⟨rfl, bel2 Y3 hu4⟩
  have hfz : Fz (dFuse DD a3) := by
    intro e
    have e1 : 0 ≤ a3 := of_decide_eq_true e
    have e2 : (dFuse DD a3).fuse = a3 := if_pos e1
    rw [e2]
    refine ⟨e1, ?_⟩
    have := w3
    simp only [Lit.wf, Bool.and_eq_true, decide_eq_true_eq] at this
    have h2 : IntKind.i64.max = 9223372036854775807 := rfl
    omega
  have hM0 : KM a0.toNat a1.toNat L0 (dFuse DD a3) ⟨⟨1, 16, 4⟩, 0, 0⟩ 0 := ⟨hbo0, hlen0, ⟨1, by omega, ⟨b5.ss, b5.n1, hfz, b5.may, b5.ro, b5.ta⟩⟩, by show 0 ≤ DD.writes; omega, by show DD.writes ≤ _; omega, hown0⟩
  have HM0 : Hid (KM a0.toNat a1.toNat L0 (dFuse DD a3) ⟨⟨1, 16, 4⟩, 0, 0⟩ 0) := hM0
  have HW2 : Hid (RdNN w ad2 l2) := w2
  obtain ⟨s, hsi⟩ : ∃ s : Nat, a1 = (s : Int) := ⟨a1.toNat, by omega⟩
  obtain ⟨N, hNi⟩ : ∃ N : Nat, a0.toNat = N := ⟨_, rfl⟩
  have hsn : a1.toNat = s := by omega
  have hsN : s < N := by omega
  have hN100 : N ≤ 100 := by omega
  rw [hNi, hsn] at HM0
  have HSI : Hid (a1 = (s : Int)) := hsi
  clear hsi
  clear hNi hsn hM0 w2 b3 b4 b5 b6 hbo0 hlen0 hown0 hfz v1 v2
  go_enter Tryd.func4, Tryd.ntmps4
  go_wp2_with (first
    | (have m := st3; go_at_call 18; go_loud ((with_reducible refine st3.mono ?_); rintro e u4 ⟨rfl, hD4, hT4⟩; have hKW : KW w p g q L0 (dFuse DD a3) ⟨⟨1, 16, 4⟩, 0, 0⟩ u4 := (by have gl := hK3.glt; have pl := hK3.plt; have ql := lt_at hB3; exact ⟨⟨(hT4.block _ pl (by omega)).trans hK3.obj, (hT4.block _ gl (by omega)).trans hK3.row⟩, (hT4.block _ ql (by omega)).trans hB3, hD4, Y3.trans (hT4.below (Nat.le_refl _) Y3.size)⟩)))
    | (have m := st2; go_at_call 9; go_loud ((with_reducible refine st2.mono ?_); rintro e u3 ⟨p, g, rfl, hp3, hg3, hK3, hu3⟩; have Y3 := bel2 Y2 hu3; have s1 := hu1.size; have s2 := Y2.size; have s3 := hu3.size; have s4 := hT2.size; have hB3 := hB2.carry hu3; have hD3 := hD2.carry hu3; have st3 := fuse_any hD3 a3))
    | (have m := st1; go_at_call 8; go_loud ((with_reducible refine st1.mono ?_); rintro e u2 ⟨q, rfl, hq, hB2, hD2, hT2⟩; have Y2 : Below w.heap.size w u2 := hu1.trans (hT2.below (Nat.le_refl _) hu1.size); have st2 := hnw u2))
    | (go_at_call 7; go_loud ((with_reducible refine hdn.mono ?_); rintro e u1 ⟨rfl, hD1, hlt, hu1⟩; have st1 := open0_any hD1; rw [hDD] at st1)))
  have hgw : w.heap.size ≤ g := by omega
  have hqw : w.heap.size ≤ q := by omega
  have g0 : 0 < g := by omega
  have q0 : 0 < q := by omega
  have HKW : Hid (KW w p g q L0 (dFuse DD a3) ⟨⟨1, 16, 4⟩, 0, 0⟩ u4) := hKW
  clear hKW hdn st1 st2 st3 hnw hD1 hB2 hD2 hT2 hK3 hB3 hD3 hD4 hT4 hu1 hu3 Y2 Y3 hp3 hg3 hq hlt s1 s2 s3 s4 hDD
  generalize dFuse DD a3 = D0 at HM0 HKW
  generalize (⟨⟨1, 16, 4⟩, 0, 0⟩ : Bo) = B0 at HM0 HKW
  go_loopw [14] (fun i wz => ∃ (j : Nat) (L : List N3) (d : Dst) (b : Bo), i = .int .i64 j ∧ j ≤ l2.length ∧ Hid (KM N s L d b j) ∧ Hid (KW w p g q L d b wz)) (fun i _ => l2.length - vnat i)
  case atStart => exact ⟨0, L0, D0, B0, rfl, Nat.zero_le _, HM0, HKW⟩
  case round =>
    clear HM0 HKW
    obtain ⟨j, L, d, b, rfl, hjl, HMM, HWW⟩ := hrel
    by_cases hjn : j < l2.length
    case neg =>
      have hji : ¬ (j : Int) < (l2.length : Int) := by omega
      have HTM : Hid (KM N s L d b j) := HMM
      have HTW : Hid (KW w p g q L d b wr) := HWW
      clear HMM HWW
      obtain ⟨LT, hLT⟩ : ∃ LT, L = LT := ⟨_, rfl⟩
      rw [hLT] at HTM HTW
      obtain ⟨bT, hbT⟩ : ∃ bT, b = bT := ⟨_, rfl⟩
      rw [hbT] at HTM HTW
      obtain ⟨dT, hdT⟩ : ∃ dT, d = dT := ⟨_, rfl⟩
      rw [hdT] at HTM HTW
      have hTW := HTW.out
      have tt0 := restore_any hTW.dk
      obtain ⟨sq, sa', hld, hle⟩ := HTM.out.load
      obtain ⟨TT, KK, hxT, hkT, hoT⟩ := HTM.out.own_at (by omega)
      have htl : ∀ V, Dk V w.heap.size { dT with off := false } → Calls Tryd.prog 23 #[.pointer (some ⟨w.heap.size, 0, none⟩)] V fun e w' => e = .returned (.tuple #[.agg #[.int .i64 bT.r.li, .int .i64 bT.r.ro, .int .i64 bT.r.ta], .int .i64 sq, .int .i64 0]) ∧ Below V.heap.size V w' := fun V hV => by
        have := load_any hV
        rw [hld] at this
        exact this
      have hta : ∀ V, Bk V p g LT → Calls Tryd.prog 12 #[.pointer (some ⟨p, 0, none⟩), .int .i64 a1] V fun e w' => e = .returned (.tuple #[.agg #[.int .i64 a1, .int .i64 TT, .int .i64 KK], .int .i64 0]) ∧ Below V.heap.size V w' := fun V h => by
        have := at_any h a1
        rw [HSI.out, atV_in hxT] at this
        rw [HSI.out]
        exact this
      obtain ⟨RA, hRA⟩ : ∃ RA, bT.r.li = RA := ⟨_, rfl⟩
      obtain ⟨RB, hRB⟩ : ∃ RB, bT.r.ro = RB := ⟨_, rfl⟩
      obtain ⟨RC, hRC⟩ : ∃ RC, bT.r.ta = RC := ⟨_, rfl⟩
      rw [hRA, hRB, hRC] at htl
      have HTK : Hid (KK = 2 ∨ TT ≤ RC) := by rcases hoT with h | h; exact .inl h; exact .inr (by omega)
      clear hLT hbT hdT hld hle hxT hkT hoT hRA hRB hRC
      rcases HTK.out with hk2 | hk2
      · subst hk2
        go_wp2_with (first
          | (have m := tt3; go_at_call 10; go_loud ((with_reducible refine tt3.mono ?_); rintro e y6 ⟨rfl, zu6⟩; have n5 := Ny5.carry zu6; have xa0 := n5.c0; have xa1 := n5.c1; have xa2 := n5.c2; have n3 := (zu6.block _ (lt_at Ny3')).trans Ny3'; have xb := cell_at n3 2; simp at xb))
          | (have m := tt2; go_at_call 12; go_loud ((with_reducible refine tt2.mono ?_); rintro e y4 ⟨rfl, zu4⟩; obtain ⟨y5, hy5⟩ : ∃ y5, y4.alloc (.cells #[.int .i64 a1, .int .i64 TT, .int .i64 2] 39) = y5 := ⟨_, rfl⟩; have By5 : Below y4.heap.size y4 y5 := (by rw [← hy5]; exact al1 _ _); have Ny5 : NB y5 y4.heap.size a1 TT 2 := (by rw [← hy5]; exact NB.new _ _ _ _); have zB5 : Below w.heap.size w y5 := bel2 (bel2 (bel2 (bel2 zB1 zu2) By3) zu4) By5; have Ny3' := (By5.block _ (lt_at ((zu4.block _ (lt_at Ny3)).trans Ny3))).trans ((zu4.block _ (lt_at Ny3)).trans Ny3); have tt3 := alive_any (hs.carry zB5)))
          | (have m := tt1; go_at_call 23; go_loud ((with_reducible refine tt1.mono ?_); rintro e y2 ⟨rfl, zu2⟩; obtain ⟨y3, hy3⟩ : ∃ y3, y2.alloc (.cells #[.int .i64 RA, .int .i64 RB, .int .i64 RC] 55) = y3 := ⟨_, rfl⟩; have By3 : Below y2.heap.size y2 y3 := (by rw [← hy3]; exact al1 _ _); have Ny3 : y3.heap[y2.heap.size]? = some (.cells #[.int .i64 RA, .int .i64 RB, .int .i64 RC] 55 (0, 0)) := (by rw [← hy3]; exact new_at rfl); have tt2 := hta y3 ((zK1.carry zu2).carry By3)))
          | (go_at_call 22; go_loud ((with_reducible refine tt0.mono ?_); rintro e y1 ⟨rfl, zD1, zT1⟩; have zB1 : Below w.heap.size w y1 := hTW.bl.trans (zT1.below (Nat.le_refl _) hTW.bl.size); have zK1 : Bk y1 p g LT := hTW.bk.tp2 hTW.dk zT1; have tt1 := htl y1 zD1)))
        go_ret
        exact ⟨by simp, bel2 zB5 zu6⟩
      by_cases hk3 : KK = 2
      · subst hk3
        go_wp2_with (first
          | (have m := tt3; go_at_call 10; go_loud ((with_reducible refine tt3.mono ?_); rintro e y6 ⟨rfl, zu6⟩; have n5 := Ny5.carry zu6; have xa0 := n5.c0; have xa1 := n5.c1; have xa2 := n5.c2; have n3 := (zu6.block _ (lt_at Ny3')).trans Ny3'; have xb := cell_at n3 2; simp at xb))
          | (have m := tt2; go_at_call 12; go_loud ((with_reducible refine tt2.mono ?_); rintro e y4 ⟨rfl, zu4⟩; obtain ⟨y5, hy5⟩ : ∃ y5, y4.alloc (.cells #[.int .i64 a1, .int .i64 TT, .int .i64 2] 39) = y5 := ⟨_, rfl⟩; have By5 : Below y4.heap.size y4 y5 := (by rw [← hy5]; exact al1 _ _); have Ny5 : NB y5 y4.heap.size a1 TT 2 := (by rw [← hy5]; exact NB.new _ _ _ _); have zB5 : Below w.heap.size w y5 := bel2 (bel2 (bel2 (bel2 zB1 zu2) By3) zu4) By5; have Ny3' := (By5.block _ (lt_at ((zu4.block _ (lt_at Ny3)).trans Ny3))).trans ((zu4.block _ (lt_at Ny3)).trans Ny3); have tt3 := alive_any (hs.carry zB5)))
          | (have m := tt1; go_at_call 23; go_loud ((with_reducible refine tt1.mono ?_); rintro e y2 ⟨rfl, zu2⟩; obtain ⟨y3, hy3⟩ : ∃ y3, y2.alloc (.cells #[.int .i64 RA, .int .i64 RB, .int .i64 RC] 55) = y3 := ⟨_, rfl⟩; have By3 : Below y2.heap.size y2 y3 := (by rw [← hy3]; exact al1 _ _); have Ny3 : y3.heap[y2.heap.size]? = some (.cells #[.int .i64 RA, .int .i64 RB, .int .i64 RC] 55 (0, 0)) := (by rw [← hy3]; exact new_at rfl); have tt2 := hta y3 ((zK1.carry zu2).carry By3)))
          | (go_at_call 22; go_loud ((with_reducible refine tt0.mono ?_); rintro e y1 ⟨rfl, zD1, zT1⟩; have zB1 : Below w.heap.size w y1 := hTW.bl.trans (zT1.below (Nat.le_refl _) hTW.bl.size); have zK1 : Bk y1 p g LT := hTW.bk.tp2 hTW.dk zT1; have tt1 := htl y1 zD1)))
        go_ret
        exact ⟨by simp, bel2 zB5 zu6⟩
      go_wp2_with (first
        | (have m := tt3; go_at_call 10; go_loud ((with_reducible refine tt3.mono ?_); rintro e y6 ⟨rfl, zu6⟩; have n5 := Ny5.carry zu6; have xa0 := n5.c0; have xa1 := n5.c1; have xa2 := n5.c2; have n3 := (zu6.block _ (lt_at Ny3')).trans Ny3'; have xb := cell_at n3 2; simp at xb))
        | (have m := tt2; go_at_call 12; go_loud ((with_reducible refine tt2.mono ?_); rintro e y4 ⟨rfl, zu4⟩; obtain ⟨y5, hy5⟩ : ∃ y5, y4.alloc (.cells #[.int .i64 a1, .int .i64 TT, .int .i64 KK] 39) = y5 := ⟨_, rfl⟩; have By5 : Below y4.heap.size y4 y5 := (by rw [← hy5]; exact al1 _ _); have Ny5 : NB y5 y4.heap.size a1 TT KK := (by rw [← hy5]; exact NB.new _ _ _ _); have zB5 : Below w.heap.size w y5 := bel2 (bel2 (bel2 (bel2 zB1 zu2) By3) zu4) By5; have Ny3' := (By5.block _ (lt_at ((zu4.block _ (lt_at Ny3)).trans Ny3))).trans ((zu4.block _ (lt_at Ny3)).trans Ny3); have tt3 := alive_any (hs.carry zB5)))
        | (have m := tt1; go_at_call 23; go_loud ((with_reducible refine tt1.mono ?_); rintro e y2 ⟨rfl, zu2⟩; obtain ⟨y3, hy3⟩ : ∃ y3, y2.alloc (.cells #[.int .i64 RA, .int .i64 RB, .int .i64 RC] 55) = y3 := ⟨_, rfl⟩; have By3 : Below y2.heap.size y2 y3 := (by rw [← hy3]; exact al1 _ _); have Ny3 : y3.heap[y2.heap.size]? = some (.cells #[.int .i64 RA, .int .i64 RB, .int .i64 RC] 55 (0, 0)) := (by rw [← hy3]; exact new_at rfl); have tt2 := hta y3 ((zK1.carry zu2).carry By3)))
        | (go_at_call 22; go_loud ((with_reducible refine tt0.mono ?_); rintro e y1 ⟨rfl, zD1, zT1⟩; have zB1 : Below w.heap.size w y1 := hTW.bl.trans (zT1.below (Nat.le_refl _) hTW.bl.size); have zK1 : Bk y1 p g LT := hTW.bk.tp2 hTW.dk zT1; have tt1 := htl y1 zD1)))
      go_ret
      exact ⟨by simp, bel2 zB5 zu6⟩
    have hji : (j : Int) < (l2.length : Int) := by omega
    obtain ⟨m, hm⟩ : ∃ m, l2[j]? = some m := ⟨_, List.getElem?_eq_getElem hjn⟩
    obtain ⟨b2, o2, e1, hb2, hat⟩ := HW2.out (fun e => by rw [e] at hjn; simp at hjn)
    subst e1
    obtain ⟨adm, capm, cm, hrm⟩ := hat j m hm
    have HRM : Hid (RdN w adm m) := hrm
    have HCM : Hid (w.cell? ⟨b2, o2 + j, none⟩ = some (.slice adm m.length capm)) := cm
    have cmr : wr.cell? ⟨b2, o2 + j, none⟩ = some (.slice adm m.length capm) := (HWW.out.bl.cell (p := ⟨b2, _, none⟩) hb2).trans cm
    clear hat cm hrm hm
    by_cases h300 : m.length ≤ 300
    case neg =>
      have h3i : ((m.length : Int) > 300) := by omega
      have hbl := HWW.out.bl
      go_wp2
      go_ret
      exact ⟨rfl, hbl⟩
    have h3i : ¬ ((m.length : Int) > 300) := by omega
    go_wp2
    go_loopw [15] (fun i wz => ∃ (k : Nat) (L : List N3), i = .int .i64 k ∧ k ≤ m.length ∧ Hid (KM N s L d b j) ∧ Hid (KW w p g q L d b wz)) (fun i _ => m.length - vnat i)
    case atStart => exact ⟨0, L, rfl, Nat.zero_le _, HMM, HWW⟩
    case round =>
      clear HMM HWW cmr
      obtain ⟨k, L, rfl, hkl, HMM, HWW⟩ := hrel
      have cmr : wr.cell? ⟨b2, o2 + j, none⟩ = some (.slice adm m.length capm) := (HWW.out.bl.cell (p := ⟨b2, _, none⟩) hb2).trans HCM.out
      by_cases hkn : k < m.length
      case pos =>
        have hki : (k : Int) < (m.length : Int) := by omega
        obtain ⟨⟨xo, xt, xk⟩, hx⟩ : ∃ x, m[k]? = some x := ⟨_, List.getElem?_eq_getElem hkn⟩
        obtain ⟨bm, om, rfl, hbm, hatm⟩ := HRM.out (fun e => by rw [e] at hkn; simp at hkn)
        obtain ⟨d0, d1, d2⟩ := (hatm.carry hbm HWW.out.bl) k _ hx
        dsimp only at d0 d1 d2
        have htk := take_any HWW.out.bk xo xt xk
        obtain ⟨TB, hTB⟩ : ∃ TB, tkb L (xo, xt, xk) = TB := ⟨_, rfl⟩
        obtain ⟨TE, hTE⟩ : ∃ TE : Int, (if vlx L.length (xo, xt, xk) = true then (0 : Int) else 50) = TE := ⟨_, rfl⟩
        rw [hTB, hTE] at htk
        unfold nt at htk
        clear hTB hTE hx hatm
        by_cases hxo : xo = a1
        case neg =>
          have hxo' : (xo != a1) = true := by simpa using hxo
          go_wp2_with (go_at_call 19; (with_reducible refine htk.mono ?_); rintro e y1 ⟨rfl, hk1, hg1⟩)
          go_roundw
          case rel => exact ⟨k + 1, _, by simp, by omega, HMM.out.take (x := (xo, xt, xk)) (.inl (by rw [← HSI.out]; exact hxo)), HWW.out.take hk1 hg1 hgw⟩
          case measure => simp [vnat]; omega
        obtain rfl : a1 = xo := hxo.symm
        clear hxo
        by_cases hxk : xk = 2
        case pos =>
          subst hxk
          go_wp2_with (go_at_call 19; (with_reducible refine htk.mono ?_); rintro e y1 ⟨rfl, hk1, hg1⟩)
          go_roundw
          case rel => exact ⟨k + 1, _, by simp, by omega, HMM.out.take (x := (a1, xt, 2)) (.inr rfl), HWW.out.take hk1 hg1 hgw⟩
          case measure => simp [vnat]; omega
        go_wp2
        go_roundw
        case rel => exact ⟨k + 1, L, by simp, by omega, HMM, HWW⟩
        case measure => simp [vnat]; omega
      case neg =>
        have hki : ¬ (k : Int) < (m.length : Int) := by omega
        obtain ⟨T0, K0, hx0, hk0, ho0⟩ := HMM.out.own_at hsN
        have hIW := HWW.out
        have kw0 := hIW.bk
        have kw0q := hIW.bt
        obtain ⟨DF, hDF, HMD, hcase⟩ := HMM.out.defend hN100 (by omega)
        obtain ⟨T1, K1, hx1, hk1, ho1⟩ := HMD.own_at hsN
        have hat0 : ∀ V, Bk V p g L → Calls Tryd.prog 12 #[.pointer (some ⟨p, 0, none⟩), .int .i64 a1] V fun e w' => e = .returned (.tuple #[.agg #[.int .i64 a1, .int .i64 T0, .int .i64 K0], .int .i64 0]) ∧ Below V.heap.size V w' := fun V h => by
          have := at_any h a1
          rw [HSI.out, atV_in hx0] at this
          rw [HSI.out]
          exact this
        have hat2 : ∀ V, Bk V p g DF.l → Calls Tryd.prog 12 #[.pointer (some ⟨p, 0, none⟩), .int .i64 a1] V fun e w' => e = .returned (.tuple #[.agg #[.int .i64 a1, .int .i64 T1, .int .i64 K1], .int .i64 0]) ∧ Below V.heap.size V w' := fun V h => by
          have := at_any h a1
          rw [HSI.out, atV_in hx1] at this
          rw [HSI.out]
          exact this
        have hdf : ∀ V, KW w p g q L d b V → Calls Tryd.prog 13 #[.pointer (some ⟨p, 0, none⟩), .int .i64 a1, .pointer (some ⟨q, 0, none⟩)] V fun e w' => e = .returned (.tuple #[.agg #[.int .i64 DF.x.1, .int .i64 DF.x.2.1, .int .i64 DF.x.2.2], .bool DF.did, .int .i64 DF.e]) ∧ KW w p g q DF.l DF.d DF.b w' ∧ Td g q w.heap.size V w' := fun V h => by
          obtain ⟨n, hn, hlv⟩ := HMM.out.lv
          have e1 := HMM.out.w0
          have e2 := HMM.out.w1
          have := defend_any h.bk HMM.out.bo (by rw [HMM.out.len]; exact hN100) h.bt h.dk hlv.fz e1 (by omega) (hs.carry h.bl) g0 q0 w0' a1
          rw [HSI.out, hDF] at this
          rw [HSI.out]
          exact this.mono (by rintro e w' ⟨rfl, k1, k2, k3, k4⟩; exact ⟨rfl, h.def k1 k2 k3 k4 hgw hqw, k4⟩)
        obtain ⟨⟨xo, xt, xk⟩, xd, xe, xl, xdd, xb⟩ := DF
        dsimp only at hat2 hdf hcase hx1 hk1 ho1 HMD
        have st0 := hat0 wr kw0
        have HMD' : Hid (KM N s xl xdd xb (j + 1)) := HMD
        have HSM : Hid (xl = L → T1 = T0 ∧ K1 = K0) := fun e => by
          subst e
          rw [hx0] at hx1
          have := Option.some.inj hx1
          simp only [Prod.mk.injEq] at this
          exact ⟨this.2.1.symm, this.2.2.symm⟩
        clear hat0 hDF HMD hx0 hx1 hk0 ho0 hk1 ho1
        rcases hcase with ⟨rfl, rfl, hz⟩ | ⟨rfl, rfl, hta, htr⟩ | ⟨rfl, rfl, hz, hll⟩
        · obtain ⟨rfl, rfl, rfl⟩ : xo = 0 ∧ xt = 0 ∧ xk = 0 := by simpa using hz
          clear hz
          go_wp2_with (first
            | (have m := st2; go_at_call 12; go_loud ((with_reducible refine st2.mono ?_); rintro e u3 ⟨rfl, hu3⟩; obtain ⟨x3, hx3⟩ : ∃ x3, u3.alloc (.cells #[.int .i64 a1, .int .i64 T1, .int .i64 K1] 39) = x3 := ⟨_, rfl⟩; have Bx3 : Below u3.heap.size u3 x3 := (by rw [← hx3]; exact al1 _ _); have Nx3 : NB x3 u3.heap.size a1 T1 K1 := (by rw [← hx3]; exact NB.new _ _ _ _); have kw4 := (kw3.carry hu3).carry Bx3; have n1' := (n1.carry hu3).carry Bx3; have xp0 := n1'.c0; have xp1 := n1'.c1; have xp2 := n1'.c2; have n3 := Nx3; have xq0 := n3.c0; have xq1 := n3.c1; have xq2 := n3.c2))
            | (have m := st1; go_at_call 13; go_loud ((with_reducible refine st1.mono ?_); rintro e u2 ⟨rfl, kw2, ht2⟩; obtain ⟨v2, hv2⟩ : ∃ v2, u2.alloc (.cells #[.int .i64 0, .int .i64 0, .int .i64 0] 39) = v2 := ⟨_, rfl⟩; have Bv2 : Below u2.heap.size u2 v2 := (by rw [← hv2]; exact al1 _ _); have Nv2 : NB v2 u2.heap.size 0 0 0 := (by rw [← hv2]; exact NB.new _ _ _ _); have zz0 := Nv2.c0; have zz1 := Nv2.c1; have zz2 := Nv2.c2; have zz3 := Nv2.thaw 0; have zz4 := Nv2.thaw 1; have zz5 := Nv2.thaw 2; obtain ⟨x2, hx2⟩ : ∃ x2, W3 v2 u2.heap.size 0 0 0 = x2 := ⟨_, rfl⟩; have Bx2 : Below u2.heap.size u2 x2 := (by rw [← hx2]; exact below3 Bv2 (Nat.le_refl _) _ _ _); have Nx2 : NB x2 u2.heap.size 0 0 0 := (by rw [← hx2]; exact Nv2.set 0 0 0); unfold W3 at hx2; have kw3 := kw2.carry Bx2; have n1 : NB x2 u1.heap.size a1 T0 K0 := NB.carry ((ht2.block _ Nx1.lt (by have := kw0.glt; have := hu1.size; omega) (by have := lt_at kw0q; have := hu1.size; omega) (by have := hIW.dk.lt; have := hu1.size; omega)).trans Nx1) Bx2; have st2 := hat2 x2 kw3.bk))
            | (have m := st0; go_at_call 12; go_loud ((with_reducible refine st0.mono ?_); rintro e u1 ⟨rfl, hu1⟩; obtain ⟨x1, hx1⟩ : ∃ x1, u1.alloc (.cells #[.int .i64 a1, .int .i64 T0, .int .i64 K0] 39) = x1 := ⟨_, rfl⟩; have Bx1 : Below u1.heap.size u1 x1 := (by rw [← hx1]; exact al1 _ _); have Nx1 : NB x1 u1.heap.size a1 T0 K0 := (by rw [← hx1]; exact NB.new _ _ _ _); have kw1 := (hIW.carry hu1).carry Bx1; have st1 := hdf x1 kw1)))
          rename_i hK
          refine wp_region_any hmx ?_
          refine wpAny_pure (fun i__ => ([(.bool false), (.bool false), undef, undef, undef, undef, undef, undef, undef, undef, undef, undef, undef, undef, undef, (.bool false)] : List Value).getD i__ undef) (fun V => KW w p g q xl xdd xb V) (by kernel_rfl) (kw4.carry (Below.refl _ _).drew) ?_ ?_
          · refine (stepsFrom_cons ?_ (stepsFrom_cons ?_ (stepsFrom_cons ?_ (stepsFrom_cons ?_ (stepsFrom_cons ?_ (stepsFrom_cons ?_ (stepsFrom_cons ?_ (stepsFrom_cons ?_ (stepsFrom_cons ?_ (stepsFrom_cons ?_ (stepsFrom_cons ?_ (stepsFrom_cons ?_ (stepsFrom_cons ?_ (stepsFrom_cons ?_ (stepsFrom_cons ?_ (stepsFrom_cons ?_ trivial))))))))))))))))
            · exact step_move rfl trivial _ rfl (by kernel_rfl)
            · exact step_move rfl trivial _ rfl (by kernel_rfl)
            · exact step_skip rfl 1 true 141 (.bool false) rfl rfl (by kernel_rfl) (by intro h; cases h) rfl
            · exact step_skip rfl 1 true 141 (.bool false) rfl rfl (by kernel_rfl) (by intro h; cases h) rfl
            · exact step_skip rfl 1 true 141 (.bool false) rfl rfl (by kernel_rfl) (by intro h; cases h) rfl
            · exact step_skip rfl 1 true 141 (.bool false) rfl rfl (by kernel_rfl) (by intro h; cases h) rfl
            · exact step_skip rfl 1 true 141 (.bool false) rfl rfl (by kernel_rfl) (by intro h; cases h) rfl
            · exact step_skip rfl 1 true 141 (.bool false) rfl rfl (by kernel_rfl) (by intro h; cases h) rfl
            · exact step_skip rfl 7 false 147 undef rfl rfl (by kernel_rfl) (by intro h; cases h) rfl
            · exact step_skip rfl 7 false 147 undef rfl rfl (by kernel_rfl) (by intro h; cases h) rfl
            · exact step_skip rfl 7 false 147 undef rfl rfl (by kernel_rfl) (by intro h; cases h) rfl
            · exact step_skip rfl 7 false 147 undef rfl rfl (by kernel_rfl) (by intro h; cases h) rfl
            · exact step_skip rfl 7 false 147 undef rfl rfl (by kernel_rfl) (by intro h; cases h) rfl
            · exact step_skip rfl 7 false 147 undef rfl rfl (by kernel_rfl) (by intro h; cases h) rfl
            · exact step_skip rfl 1 true 141 (.bool false) rfl rfl (by kernel_rfl) (by intro h; cases h) rfl
            · exact step_pick rfl trivial _ _ _ false rfl (by kernel_rfl) (by kernel_rfl)
          intro W hW
          first | refine hK _ _ ?_ | refine (‹∀ (a : Act) (w : World), Code.wp Tryd.prog _ _ a w → _›) _ _ ?_
          simp only [finL, List.getD_cons_zero, List.getD_cons_succ, Nat.zero_add, Nat.reduceAdd, List.setIfInBounds_toArray, List.set_cons_zero, List.set_cons_succ]
          clear hK
          go_wp2
          go_roundw
          case rel => exact ⟨j + 1, xl, xdd, xb, by simp, by omega, HMD', hW⟩
          case measure => simp [vnat]; omega
        · go_wp2_with (first
            | (have m := st2; go_at_call 12; go_loud ((with_reducible refine st2.mono ?_); rintro e u3 ⟨rfl, hu3⟩; obtain ⟨x3, hx3⟩ : ∃ x3, u3.alloc (.cells #[.int .i64 a1, .int .i64 T1, .int .i64 K1] 39) = x3 := ⟨_, rfl⟩; have Bx3 : Below u3.heap.size u3 x3 := (by rw [← hx3]; exact al1 _ _); have Nx3 : NB x3 u3.heap.size a1 T1 K1 := (by rw [← hx3]; exact NB.new _ _ _ _); have kw4 := (kw3.carry hu3).carry Bx3; have n2 := (Nx2.carry hu3).carry Bx3))
            | (have m := st1; go_at_call 13; go_loud ((with_reducible refine st1.mono ?_); rintro e u2 ⟨rfl, kw2, ht2⟩; obtain ⟨x2, hx2⟩ : ∃ x2, u2.alloc (.cells #[.int .i64 xo, .int .i64 xt, .int .i64 xk] 39) = x2 := ⟨_, rfl⟩; have Bx2 : Below u2.heap.size u2 x2 := (by rw [← hx2]; exact al1 _ _); have Nx2 : NB x2 u2.heap.size xo xt xk := (by rw [← hx2]; exact NB.new _ _ _ _); have kw3 := kw2.carry Bx2; have st2 := hat2 x2 kw3.bk))
            | (have m := st0; go_at_call 12; go_loud ((with_reducible refine st0.mono ?_); rintro e u1 ⟨rfl, hu1⟩; obtain ⟨x1, hx1⟩ : ∃ x1, u1.alloc (.cells #[.int .i64 a1, .int .i64 T0, .int .i64 K0] 39) = x1 := ⟨_, rfl⟩; have Bx1 : Below u1.heap.size u1 x1 := (by rw [← hx1]; exact al1 _ _); have Nx1 : NB x1 u1.heap.size a1 T0 K0 := (by rw [← hx1]; exact NB.new _ _ _ _); have kw1 := (hIW.carry hu1).carry Bx1; have st1 := hdf x1 kw1)))
          rename_i hK
          refine wp_region_any hmx ?_
          refine wpAny_pure (fun i__ => ([(.bool true), (.bool true), (.pointer (some ⟨q, 0, none⟩)), (.int .i64 xb.ta), (.pointer (some ⟨u2.heap.size, 1, none⟩)), (.int .i64 xt), (.bool false), (.bool false), (.pointer (some ⟨q, 0, none⟩)), (.agg #[.int .i64 xb.r.li, .int .i64 xb.r.ro, .int .i64 xb.r.ta]), (.int .i64 xb.r.ta), (.pointer (some ⟨u2.heap.size, 1, none⟩)), (.int .i64 xt), (.bool false), (.bool false), (.bool false)] : List Value).getD i__ undef) (JTg w p g q u2.heap.size xl xdd xb (xo, xt, xk)) (by kernel_rfl) (show JTg w p g q u2.heap.size xl xdd xb (xo, xt, xk) _ from JTg.carry ⟨kw4, n2⟩ (Below.refl _ _).drew) ?_ ?_
          · refine (stepsFrom_cons ?_ (stepsFrom_cons ?_ (stepsFrom_cons ?_ (stepsFrom_cons ?_ (stepsFrom_cons ?_ (stepsFrom_cons ?_ (stepsFrom_cons ?_ (stepsFrom_cons ?_ (stepsFrom_cons ?_ (stepsFrom_cons ?_ (stepsFrom_cons ?_ (stepsFrom_cons ?_ (stepsFrom_cons ?_ (stepsFrom_cons ?_ (stepsFrom_cons ?_ (stepsFrom_cons ?_ trivial))))))))))))))))
            · exact step_move rfl trivial _ rfl (by kernel_rfl)
            · exact step_move rfl trivial _ rfl (by kernel_rfl)
            · exact step_move rfl (by exact ⟨_, rfl, by kernel_rfl⟩) _ rfl (by kernel_rfl)
            · exact step_call rfl (by exact ⟨_, rfl, by kernel_rfl⟩) 20 _ _ [(.pointer (some ⟨q, 0, none⟩))] rfl (by kernel_rfl) (enters_of Tryd.func20 (by kernel_rfl) rfl) (fun v hw => (btag_any hw.1.bt).mono (by rintro e w' ⟨rfl, rfl⟩; exact ⟨rfl, hw⟩))
            · exact step_fieldAddr rfl (by exact ⟨_, rfl, by kernel_rfl⟩) _ _ _ _ rfl rfl (fun v hw => field_n1 v _)
            · exact step_load rfl (by exact ⟨_, rfl, by kernel_rfl⟩) _ _ _ rfl rfl (fun v hw => load_n1 hw.2)
            · exact step_binOp rfl (by exact ⟨_, rfl, by kernel_rfl⟩) _ _ _ _ _ _ _ rfl rfl rfl (fun v hw => by have e1 : decide (xb.ta < xt) = false := decide_eq_false (by omega); rw [← e1]; exact bin_lss _ _ _)
            · exact step_move rfl (by exact ⟨_, rfl, by kernel_rfl⟩) _ rfl (by kernel_rfl)
            · exact step_move rfl (by exact ⟨_, rfl, by kernel_rfl⟩) _ rfl (by kernel_rfl)
            · exact step_call rfl (by exact ⟨_, rfl, by kernel_rfl⟩) 21 _ _ [(.pointer (some ⟨q, 0, none⟩))] rfl (by kernel_rfl) (enters_of Tryd.func21 (by kernel_rfl) rfl) (fun v hw => (durable_any hw.1.bt).mono (by rintro e w' ⟨rfl, hb⟩; exact ⟨rfl, hw.carry hb⟩))
            · exact step_field rfl (by exact ⟨_, rfl, by kernel_rfl⟩) _ _ _ _ rfl rfl (fun v hw => field_R2 _ _ _ v)
            · exact step_fieldAddr rfl (by exact ⟨_, rfl, by kernel_rfl⟩) _ _ _ _ rfl rfl (fun v hw => field_n1 v _)
            · exact step_load rfl (by exact ⟨_, rfl, by kernel_rfl⟩) _ _ _ rfl rfl (fun v hw => load_n1 hw.2)
            · exact step_binOp rfl (by exact ⟨_, rfl, by kernel_rfl⟩) _ _ _ _ _ _ _ rfl rfl rfl (fun v hw => by have e1 : decide (xb.r.ta < xt) = false := decide_eq_false (by omega); rw [← e1]; exact bin_lss _ _ _)
            · exact step_pick rfl (by exact ⟨_, rfl, by kernel_rfl⟩) _ _ _ false rfl (by kernel_rfl) (by kernel_rfl)
            · exact step_pick rfl trivial _ _ _ true rfl (by kernel_rfl) (by kernel_rfl)
          intro W hW
          first | refine hK _ _ ?_ | refine (‹∀ (a : Act) (w : World), Code.wp Tryd.prog _ _ a w → _›) _ _ ?_
          simp only [finL, List.getD_cons_zero, List.getD_cons_succ, Nat.zero_add, Nat.reduceAdd, List.setIfInBounds_toArray, List.set_cons_zero, List.set_cons_succ]
          clear hK
          go_wp2
          go_roundw
          case rel => exact ⟨j + 1, xl, xdd, xb, by simp, by omega, HMD', hW.1⟩
          case measure => simp [vnat]; omega
        · obtain ⟨rfl, rfl, rfl⟩ : xo = 0 ∧ xt = 0 ∧ xk = 0 := by simpa using hz
          obtain ⟨hs1, hs2⟩ := HSM.out hll
          subst hll hs1 hs2
          clear hz
          go_wp2_with (first
            | (have m := st2; go_at_call 12; go_loud ((with_reducible refine st2.mono ?_); rintro e u3 ⟨rfl, hu3⟩; obtain ⟨x3, hx3⟩ : ∃ x3, u3.alloc (.cells #[.int .i64 a1, .int .i64 T1, .int .i64 K1] 39) = x3 := ⟨_, rfl⟩; have Bx3 : Below u3.heap.size u3 x3 := (by rw [← hx3]; exact al1 _ _); have Nx3 : NB x3 u3.heap.size a1 T1 K1 := (by rw [← hx3]; exact NB.new _ _ _ _); have kw4 := (kw3.carry hu3).carry Bx3; have n1' := (n1.carry hu3).carry Bx3; have xp0 := n1'.c0; have xp1 := n1'.c1; have xp2 := n1'.c2; have n3 := Nx3; have xq0 := n3.c0; have xq1 := n3.c1; have xq2 := n3.c2))
            | (have m := st1; go_at_call 13; go_loud ((with_reducible refine st1.mono ?_); rintro e u2 ⟨rfl, kw2, ht2⟩; obtain ⟨v2, hv2⟩ : ∃ v2, u2.alloc (.cells #[.int .i64 0, .int .i64 0, .int .i64 0] 39) = v2 := ⟨_, rfl⟩; have Bv2 : Below u2.heap.size u2 v2 := (by rw [← hv2]; exact al1 _ _); have Nv2 : NB v2 u2.heap.size 0 0 0 := (by rw [← hv2]; exact NB.new _ _ _ _); have zz0 := Nv2.c0; have zz1 := Nv2.c1; have zz2 := Nv2.c2; have zz3 := Nv2.thaw 0; have zz4 := Nv2.thaw 1; have zz5 := Nv2.thaw 2; obtain ⟨x2, hx2⟩ : ∃ x2, W3 v2 u2.heap.size 0 0 0 = x2 := ⟨_, rfl⟩; have Bx2 : Below u2.heap.size u2 x2 := (by rw [← hx2]; exact below3 Bv2 (Nat.le_refl _) _ _ _); have Nx2 : NB x2 u2.heap.size 0 0 0 := (by rw [← hx2]; exact Nv2.set 0 0 0); unfold W3 at hx2; have kw3 := kw2.carry Bx2; have n1 : NB x2 u1.heap.size a1 T1 K1 := NB.carry ((ht2.block _ Nx1.lt (by have := kw0.glt; have := hu1.size; omega) (by have := lt_at kw0q; have := hu1.size; omega) (by have := hIW.dk.lt; have := hu1.size; omega)).trans Nx1) Bx2; have st2 := hat2 x2 kw3.bk))
            | (have m := st0; go_at_call 12; go_loud ((with_reducible refine st0.mono ?_); rintro e u1 ⟨rfl, hu1⟩; obtain ⟨x1, hx1⟩ : ∃ x1, u1.alloc (.cells #[.int .i64 a1, .int .i64 T1, .int .i64 K1] 39) = x1 := ⟨_, rfl⟩; have Bx1 : Below u1.heap.size u1 x1 := (by rw [← hx1]; exact al1 _ _); have Nx1 : NB x1 u1.heap.size a1 T1 K1 := (by rw [← hx1]; exact NB.new _ _ _ _); have kw1 := (hIW.carry hu1).carry Bx1; have st1 := hdf x1 kw1)))
          have HTM : Hid (KM N s xl xdd xb (j + 1)) := HMD'
          have HTW : Hid (KW w p g q xl xdd xb x3) := kw4
          obtain ⟨LT, hLT⟩ : ∃ LT, xl = LT := ⟨_, rfl⟩
          rw [hLT] at HTM HTW
          obtain ⟨bT, hbT⟩ : ∃ bT, xb = bT := ⟨_, rfl⟩
          rw [hbT] at HTM HTW
          obtain ⟨dT, hdT⟩ : ∃ dT, xdd = dT := ⟨_, rfl⟩
          rw [hdT] at HTM HTW
          have hTW := HTW.out
          have tt0 := restore_any hTW.dk
          obtain ⟨sq, sa', hld, hle⟩ := HTM.out.load
          obtain ⟨TT, KK, hxT, hkT, hoT⟩ := HTM.out.own_at (by omega)
          have htl : ∀ V, Dk V w.heap.size { dT with off := false } → Calls Tryd.prog 23 #[.pointer (some ⟨w.heap.size, 0, none⟩)] V fun e w' => e = .returned (.tuple #[.agg #[.int .i64 bT.r.li, .int .i64 bT.r.ro, .int .i64 bT.r.ta], .int .i64 sq, .int .i64 0]) ∧ Below V.heap.size V w' := fun V hV => by
            have := load_any hV
            rw [hld] at this
            exact this
          have hta : ∀ V, Bk V p g LT → Calls Tryd.prog 12 #[.pointer (some ⟨p, 0, none⟩), .int .i64 a1] V fun e w' => e = .returned (.tuple #[.agg #[.int .i64 a1, .int .i64 TT, .int .i64 KK], .int .i64 0]) ∧ Below V.heap.size V w' := fun V h => by
            have := at_any h a1
            rw [HSI.out, atV_in hxT] at this
            rw [HSI.out]
            exact this
          obtain ⟨RA, hRA⟩ : ∃ RA, bT.r.li = RA := ⟨_, rfl⟩
          obtain ⟨RB, hRB⟩ : ∃ RB, bT.r.ro = RB := ⟨_, rfl⟩
          obtain ⟨RC, hRC⟩ : ∃ RC, bT.r.ta = RC := ⟨_, rfl⟩
          rw [hRA, hRB, hRC] at htl
          have HTK : Hid (KK = 2 ∨ TT ≤ RC) := by rcases hoT with h | h; exact .inl h; exact .inr (by omega)
          clear hLT hbT hdT hld hle hxT hkT hoT hRA hRB hRC
          rcases HTK.out with hk2 | hk2
          · subst hk2
            go_wp2_with (first
              | (have m := tt3; go_at_call 10; go_loud ((with_reducible refine tt3.mono ?_); rintro e y6 ⟨rfl, zu6⟩; have n5 := Ny5.carry zu6; have xa0 := n5.c0; have xa1 := n5.c1; have xa2 := n5.c2; have n3 := (zu6.block _ (lt_at Ny3')).trans Ny3'; have xb := cell_at n3 2; simp at xb))
              | (have m := tt2; go_at_call 12; go_loud ((with_reducible refine tt2.mono ?_); rintro e y4 ⟨rfl, zu4⟩; obtain ⟨y5, hy5⟩ : ∃ y5, y4.alloc (.cells #[.int .i64 a1, .int .i64 TT, .int .i64 2] 39) = y5 := ⟨_, rfl⟩; have By5 : Below y4.heap.size y4 y5 := (by rw [← hy5]; exact al1 _ _); have Ny5 : NB y5 y4.heap.size a1 TT 2 := (by rw [← hy5]; exact NB.new _ _ _ _); have zB5 : Below w.heap.size w y5 := bel2 (bel2 (bel2 (bel2 zB1 zu2) By3) zu4) By5; have Ny3' := (By5.block _ (lt_at ((zu4.block _ (lt_at Ny3)).trans Ny3))).trans ((zu4.block _ (lt_at Ny3)).trans Ny3); have tt3 := alive_any (hs.carry zB5)))
              | (have m := tt1; go_at_call 23; go_loud ((with_reducible refine tt1.mono ?_); rintro e y2 ⟨rfl, zu2⟩; obtain ⟨y3, hy3⟩ : ∃ y3, y2.alloc (.cells #[.int .i64 RA, .int .i64 RB, .int .i64 RC] 55) = y3 := ⟨_, rfl⟩; have By3 : Below y2.heap.size y2 y3 := (by rw [← hy3]; exact al1 _ _); have Ny3 : y3.heap[y2.heap.size]? = some (.cells #[.int .i64 RA, .int .i64 RB, .int .i64 RC] 55 (0, 0)) := (by rw [← hy3]; exact new_at rfl); have tt2 := hta y3 ((zK1.carry zu2).carry By3)))
              | (go_at_call 22; go_loud ((with_reducible refine tt0.mono ?_); rintro e y1 ⟨rfl, zD1, zT1⟩; have zB1 : Below w.heap.size w y1 := hTW.bl.trans (zT1.below (Nat.le_refl _) hTW.bl.size); have zK1 : Bk y1 p g LT := hTW.bk.tp2 hTW.dk zT1; have tt1 := htl y1 zD1)))
            go_ret
            exact ⟨by simp, bel2 zB5 zu6⟩
          by_cases hk3 : KK = 2
          · subst hk3
            go_wp2_with (first
              | (have m := tt3; go_at_call 10; go_loud ((with_reducible refine tt3.mono ?_); rintro e y6 ⟨rfl, zu6⟩; have n5 := Ny5.carry zu6; have xa0 := n5.c0; have xa1 := n5.c1; have xa2 := n5.c2; have n3 := (zu6.block _ (lt_at Ny3')).trans Ny3'; have xb := cell_at n3 2; simp at xb))
              | (have m := tt2; go_at_call 12; go_loud ((with_reducible refine tt2.mono ?_); rintro e y4 ⟨rfl, zu4⟩; obtain ⟨y5, hy5⟩ : ∃ y5, y4.alloc (.cells #[.int .i64 a1, .int .i64 TT, .int .i64 2] 39) = y5 := ⟨_, rfl⟩; have By5 : Below y4.heap.size y4 y5 := (by rw [← hy5]; exact al1 _ _); have Ny5 : NB y5 y4.heap.size a1 TT 2 := (by rw [← hy5]; exact NB.new _ _ _ _); have zB5 : Below w.heap.size w y5 := bel2 (bel2 (bel2 (bel2 zB1 zu2) By3) zu4) By5; have Ny3' := (By5.block _ (lt_at ((zu4.block _ (lt_at Ny3)).trans Ny3))).trans ((zu4.block _ (lt_at Ny3)).trans Ny3); have tt3 := alive_any (hs.carry zB5)))
              | (have m := tt1; go_at_call 23; go_loud ((with_reducible refine tt1.mono ?_); rintro e y2 ⟨rfl, zu2⟩; obtain ⟨y3, hy3⟩ : ∃ y3, y2.alloc (.cells #[.int .i64 RA, .int .i64 RB, .int .i64 RC] 55) = y3 := ⟨_, rfl⟩; have By3 : Below y2.heap.size y2 y3 := (by rw [← hy3]; exact al1 _ _); have Ny3 : y3.heap[y2.heap.size]? = some (.cells #[.int .i64 RA, .int .i64 RB, .int .i64 RC] 55 (0, 0)) := (by rw [← hy3]; exact new_at rfl); have tt2 := hta y3 ((zK1.carry zu2).carry By3)))
              | (go_at_call 22; go_loud ((with_reducible refine tt0.mono ?_); rintro e y1 ⟨rfl, zD1, zT1⟩; have zB1 : Below w.heap.size w y1 := hTW.bl.trans (zT1.below (Nat.le_refl _) hTW.bl.size); have zK1 : Bk y1 p g LT := hTW.bk.tp2 hTW.dk zT1; have tt1 := htl y1 zD1)))
            go_ret
            exact ⟨by simp, bel2 zB5 zu6⟩
          go_wp2_with (first
            | (have m := tt3; go_at_call 10; go_loud ((with_reducible refine tt3.mono ?_); rintro e y6 ⟨rfl, zu6⟩; have n5 := Ny5.carry zu6; have xa0 := n5.c0; have xa1 := n5.c1; have xa2 := n5.c2; have n3 := (zu6.block _ (lt_at Ny3')).trans Ny3'; have xb := cell_at n3 2; simp at xb))
            | (have m := tt2; go_at_call 12; go_loud ((with_reducible refine tt2.mono ?_); rintro e y4 ⟨rfl, zu4⟩; obtain ⟨y5, hy5⟩ : ∃ y5, y4.alloc (.cells #[.int .i64 a1, .int .i64 TT, .int .i64 KK] 39) = y5 := ⟨_, rfl⟩; have By5 : Below y4.heap.size y4 y5 := (by rw [← hy5]; exact al1 _ _); have Ny5 : NB y5 y4.heap.size a1 TT KK := (by rw [← hy5]; exact NB.new _ _ _ _); have zB5 : Below w.heap.size w y5 := bel2 (bel2 (bel2 (bel2 zB1 zu2) By3) zu4) By5; have Ny3' := (By5.block _ (lt_at ((zu4.block _ (lt_at Ny3)).trans Ny3))).trans ((zu4.block _ (lt_at Ny3)).trans Ny3); have tt3 := alive_any (hs.carry zB5)))
            | (have m := tt1; go_at_call 23; go_loud ((with_reducible refine tt1.mono ?_); rintro e y2 ⟨rfl, zu2⟩; obtain ⟨y3, hy3⟩ : ∃ y3, y2.alloc (.cells #[.int .i64 RA, .int .i64 RB, .int .i64 RC] 55) = y3 := ⟨_, rfl⟩; have By3 : Below y2.heap.size y2 y3 := (by rw [← hy3]; exact al1 _ _); have Ny3 : y3.heap[y2.heap.size]? = some (.cells #[.int .i64 RA, .int .i64 RB, .int .i64 RC] 55 (0, 0)) := (by rw [← hy3]; exact new_at rfl); have tt2 := hta y3 ((zK1.carry zu2).carry By3)))
            | (go_at_call 22; go_loud ((with_reducible refine tt0.mono ?_); rintro e y1 ⟨rfl, zD1, zT1⟩; have zB1 : Below w.heap.size w y1 := hTW.bl.trans (zT1.below (Nat.le_refl _) hTW.bl.size); have zK1 : Bk y1 p g LT := hTW.bk.tp2 hTW.dk zT1; have tt1 := htl y1 zD1)))
          go_ret
          exact ⟨by simp, bel2 zB5 zu6⟩

set_option maxRecDepth 100000 in
theorem lifted (os : Os) (started : os.Started) (H : Type) (enc : TypeId × Value → H) :
    ReturnsInHanded {} Tryd.checked os 4 .any (fun w args => (Rows.refuteKeptSpec.pre enc Tryd.prog Tryd.f4 [] false w args ∧ laidMetH Tryd.prog Rows.refuteKeptRow.laid w) ∧ sizedMet enc Tryd.prog Tryd.f4 (OpenSpec.ofChange Rows.refuteKeptSpec) false w args)
      (Rows.refuteKeptSpec.post enc Tryd.prog Tryd.f4 false true false false) := by
  refine returnsInHanded_of_change_and (C := Tryd.checked) (X := fun w _ => laidMetH Tryd.prog Rows.refuteKeptRow.laid w) (fun _ _ _ hh h => h.of_heap hh) own started (by kernel_rfl) Tryd.func4
    (ChangeSpec.witness_shaped (enc := enc) (C := Tryd.checked) (os := os) (X := fun w _ => laidMetH Tryd.prog Rows.refuteKeptRow.laid w) false (World.laidAll Tryd.prog os Rows.refuteKeptRow.laid) #[.int .i64 0, .int .i64 0, .slice none 0 0, .int .i64 0] 8 (World.laidAll_os _ _ _)
      (World.shaped_of_ZipB (by kernel_rfl) (by kernel_rfl)) (by kernel_rfl) (by kernel_rfl) (by kernel_rfl)
      (by rw [MakeChecks.laidMetH_plain _ _ _ (by kernel_rfl)]; exact laidMet_laidAll _ (by kernel_rfl) (by kernel_rfl))) ?_
  intro W base args ds gs before hval0 hW _ hsz hL _
  have hval : ∀ (j : Nat) t v, Tryd.f4.params[j]? = some t → args[j]? = some v → Value.okWide Tryd.prog W .any base t v := hval0
  have hW' := hW
  obtain ⟨p, q, hA0, hV, rfl, hfz, hnd⟩ := hW
  have hA : DataW.TrodAll enc Tryd.prog W 0 (fun _ => true) true Tryd.f4.params.toList args.toList ds p := hA0
  rw [Tryd.params4] at hA hval
  obtain ⟨v0, vs0, d0, ds0, p0, q0, hargs, rfl, rfl, h0, r0⟩ := trodAll_cons hA
  obtain ⟨v1, vs1, d1, ds1, p1, q1, rfl, rfl, rfl, h1, r1⟩ := trodAll_cons r0
  obtain ⟨v2, vs2, d2, ds2, p2, q2, rfl, rfl, rfl, h2, r2⟩ := trodAll_cons r1
  obtain ⟨v3, vs3, d3, ds3, p3, q3, rfl, rfl, rfl, h3, r3⟩ := trodAll_cons r2
  obtain ⟨rfl, rfl, rfl⟩ := trodAll_nil r3
  obtain rfl : args = #[v0, v1, v2, v3] := by cases args; simp_all
  obtain ⟨rfl, rfl⟩ := trodVars_none hV
  obtain ⟨a0, rfl, rfl, rfl, w0⟩ := open_int Tryd.underlying3 (hval 0 3 v0 rfl rfl) h0
  obtain ⟨a1, rfl, rfl, rfl, w1⟩ := open_int Tryd.underlying3 (hval 1 3 v1 rfl rfl) h1
  have k2 := h2
  have lt2 : ∀ x ∈ p2, x.block < W.heap.size := by obtain ⟨m, hm⟩ := k2; exact DataW.trod_lt m _ _ _ hm
  obtain ⟨ad2, cap2, l2, rfl, w2⟩ := open_ntss (hval 2 49 v2 rfl rfl) h2
  obtain ⟨a3, rfl, rfl, rfl, w3⟩ := open_int Tryd.underlying3 (hval 3 3 v3 rfl rfl) h3
  clear hA0 hval0
  refine (walk W a0 w0 a1 w1 ad2 cap2 l2 w2 a3 w3 hL).mono fun e W' ⟨he, hg⟩ => ?_
  subst he
  exact ⟨_, rfl, _, _, _, [], _, [], hW', (trodAll_cons_mk (shut_bool Tryd.underlying4 _) trodAll_mk0), (trodAll_cons_mk (shut_int Tryd.underlying3 w0) (trodAll_cons_mk (shut_int Tryd.underlying3 w1) (trodAll_cons_mk (Below.trod laidOut (by kernel_rfl) (of_decide_eq_true (by kernel_rfl)) k2 hg lt2) (trodAll_cons_mk (shut_int Tryd.underlying3 w3) trodAll_mk0)))), rfl, hg.frame _, fun h => by cases h⟩

theorem over : Rows.refuteKeptRow.holds Tryd.pinned (OpenSpec.ofChange Rows.refuteKeptSpec) :=
  OpenClaim.holds_of_wide 4 Tryd.f4 rfl rfl rfl rfl rfl rfl rfl ⟨rfl, rfl, rfl, rfl, rfl⟩ rfl rfl rfl rfl rfl (by kernel_rfl) Tryd.func4 (by kernel_rfl)
    (of_decide_eq_true (by kernel_rfl)) (by unfold Func.isWrapper; first | (rw [if_pos (by decide +kernel)]; kernel_rfl) | (rw [if_neg (by decide +kernel)]; exact ⟨rfl, rfl⟩))
    (fun os started H enc _ => lifted os started H enc)

theorem row_proved : Rows.RefuteKeptSaid :=
  over
theorem proved : Rows.RefuteKeptCardSaid :=
  Claim7.holds_tied_plain_at .later [] [.sentinel] true (true, "27a30db777e2e2083e8a5974727a1406e454a355e1787fd83c9a8439e2d84fd0") true
    row_proved (fun _ h => by cases h) (by kernel_rfl) (fun _ h => by cases h) refuteKept_row_tie rfl ⟨rfl, rfl⟩ (by kernel_rfl) rfl
    (fun f fn hf hfn => by
      obtain rfl : f = 4 := Option.some.inj ((show Tryd.prog.funcNamed "earshot/earshotlaw15.RefuteKept" = some 4 by kernel_rfl).symm.trans hf) |>.symm
      obtain rfl : fn = Tryd.f4 := (Option.some.inj (Tryd.func4.symm.trans hfn)).symm
      exact ⟨by kernel_rfl, fun j t ht => by
        rw [Tryd.params4] at ht
        rcases j with _ | j
        · have e : t = 3 := by simpa using ht.symm
          subst e
          exact (show Tryd.prog.wantsStandIn 3 = false by kernel_rfl)
        rcases j with _ | j
        · have e : t = 3 := by simpa using ht.symm
          subst e
          exact (show Tryd.prog.wantsStandIn 3 = false by kernel_rfl)
        rcases j with _ | j
        · have e : t = 49 := by simpa using ht.symm
          subst e
          exact (show Tryd.prog.wantsStandIn 49 = false by kernel_rfl)
        rcases j with _ | j
        · have e : t = 3 := by simpa using ht.symm
          subst e
          exact (show Tryd.prog.wantsStandIn 3 = false by kernel_rfl)
        simp at ht⟩)
    (by kernel_rfl)
#print axioms proved
end Go.Proofs.YtlpmehmoeladjaaDoor
