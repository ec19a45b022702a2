/- DiskTwins: at every two numbers and row of places: a twin is alike, and what is done to one is not seen of the other one; Of an image has just its bytes; no condition. -/
import Derived.Test.YtcnkpkdnpjhogaaRows
import Derived.WalkKit
import Derived.ProofKit
import Derived.OpenShut
import Derived.Test.YtcnkpkdnpjhogaaDkj
import Derived.Test.YtcnkpkdnpjhogaaOpd
namespace Go.Proofs.Ytcnkpkdnpjhogaa
open Go.ChangeShapes Go.WideShapes Go.ChangeAt Go.RowKit
set_option linter.unusedVariables false

theorem laidOut : laidOutB Try.prog = true := by kernel_rfl
theorem own : ownKnob Try.prog.godebug = none := by kernel_rfl
open Go.Shelf
theorem tm3 (v : Int) : v.tmod 3 = 0 ∨ ¬ v.tmod 3 = 0 := by omega
/-- What the second half of the law needs: a disk at p, and w the world at the beginning. -/
theorem sameI {V : World} {b b' g g' c c' : Nat} {l : List Nat} (hl : l.length = 256) (h : V.ownsRow b 5 1 (.slice (some ⟨g, 0, none⟩) 256 c) 256 (cB l)) (h' : V.ownsRow b' 5 1 (.slice (some ⟨g', 0, none⟩) 256 c') 256 (cB l)) : Calls Try.prog 17 #[.slice (some ⟨g, 0, none⟩) 256 c, .slice (some ⟨g', 0, none⟩) 256 c'] V fun e w' => e = .returned (.bool true) ∧ Below V.heap.size V w' := by
  have := sameB_yes (some ⟨g, 0, none⟩) (some ⟨g', 0, none⟩) c c' l V (RdY.own (base := b) (c := c) (by rw [hl]; exact h)).rd (RdY.own (base := b') (c := c') (by rw [hl]; exact h')).rd (by omega)
  rw [hl] at this
  exact this
set_option maxHeartbeats 8000000 in
set_option maxRecDepth 100000 in
theorem walk (w : World) (a0 : Int) (w0 : (Lit.int .i64 a0).wf = true) (a1 : Int) (w1 : (Lit.int .i64 a1).wf = true) (ad2 : Option Addr) (cap2 : Nat) (l2 : List Int) (w2 : l2 ≠ [] → ∃ a, ad2 = some a ∧ Ints w a l2) (hl2 : l2.length ≤ maxLen) :
    Calls Try.prog 5 #[.int .i64 a0, .int .i64 a1, .slice ad2 l2.length cap2] w fun e w' => e = .returned (.bool true) ∧ Below w.heap.size w w' := by
  have hal := alive_any
  by_cases hg : l2.length ≤ 60
  case neg =>
    have hgi : (l2.length : Int) > 60 := by omega
    go_enter Try.func5, Try.ntmps5
    go_wp2_with (go_at_call 7; (with_reducible refine (hal _).mono ?_); rintro e u2 ⟨rfl, hb2⟩)
    go_ret
    exact ⟨rfl, hb2⟩
  have hgi : ¬ (l2.length : Int) > 60 := by omega
  have hmx : Try.prog.follows .mixedOrders = true := by kernel_rfl
  have hne := dnew_any w
  have hka := (bounds_i64 w0).2
  clear w0 w1
  go_enter Try.func5, Try.ntmps5
  go_wp2_with (go_at_call 8; (with_reducible refine hne.mono ?_); rintro e u1 ⟨rfl, h1, hlt, hb1⟩)
  have hf0 : Fz d0 := fun q => by cases q
  have hw00 : d0.writes = 0 := rfl
  go_loopw [8] (fun i wz => ∃ (m : Nat) (d : Dst), i = .int .i64 (m : Int) ∧ m ≤ l2.length ∧ Dk wz w.heap.size d ∧ Fz d ∧ 0 ≤ d.writes ∧ d.writes ≤ (m : Int) ∧ d.off = false ∧ d.fused = false ∧ Below w.heap.size w wz) (fun i _ => l2.length - vnat i)
  case atStart => exact ⟨0, _, rfl, Nat.zero_le _, h1, hf0, by rw [hw00]; decide, by rw [hw00]; decide, rfl, rfl, hb1⟩
  case round =>
    obtain ⟨m, dd, rfl, hm, hD, hfz, hw0, hwm, hof, hfd, hB⟩ := hrel
    by_cases hmn : m < l2.length
    · have hmi : (m : Int) < (l2.length : Int) := by omega
      obtain ⟨a, rfl, hI⟩ := w2 (fun e => by subst e; simp at hmn)
      obtain ⟨x, hx⟩ : ∃ x, l2[m]? = some x := ⟨_, List.getElem?_eq_getElem hmn⟩
      obtain ⟨ab, ao, sp⟩ := a
      obtain rfl : sp = none := hI.spot
      have c0 : ∀ V, Below w.heap.size w V → V.cell? ⟨ab, ao + m, none⟩ = some (.int .i64 x) := fun V hV => (hV.cell (p := ⟨ab, ao + m, none⟩) hI.lt).trans (hI.cell m x hx)
      have hfz2 := dWr_fz (s := x) (x := secB (IntKind.i64.wrap (x + a1))) hfz
      have hw2 := dWr_writes (s := x) (x := secB (IntKind.i64.wrap (x + a1))) hw0
      obtain ⟨d2, hd2⟩ : ∃ d2, (dWr dd x (secB (IntKind.i64.wrap (x + a1)))).2 = d2 := ⟨_, rfl⟩
      obtain ⟨r, hr⟩ : ∃ r, (dWr dd x (secB (IntKind.i64.wrap (x + a1)))).1 = r := ⟨_, rfl⟩
      rw [hd2] at hfz2 hw2
      have hof2 := stay_on (s := x) (x := secB (IntKind.i64.wrap (x + a1))) hof hfd
      rw [hd2] at hof2
      obtain ⟨n0, hn0⟩ : ∃ n0, wr.heap.size = n0 := ⟨_, rfl⟩
      obtain ⟨y, hy⟩ : ∃ y, IntKind.i64.wrap (x + a1) = y := ⟨_, rfl⟩
      rw [hy] at hr hd2
      have cal1 : ∀ {f : Nat → Bool} (V : World), JTw w w.heap.size n0 dd d2 (secB y) (f 11) (f 12) V → f 11 = false → f 12 = false → Calls Try.prog 11 #[.int .i64 y] V fun e w' => e = .returned (.slice (some ⟨n0, 0, none⟩) 32 32) ∧ JTw w w.heap.size n0 dd d2 (secB y) true (f 12) w' := by
        intro f V hJ q1 q2
        rw [q1, q2] at hJ
        rw [q2]
        obtain ⟨k1, _, k2⟩ := hJ
        obtain ⟨k3, _, k4⟩ := k2 rfl
        have k5 := k4 rfl
        refine (sector_any y V).mono ?_
        rintro e w' ⟨rfl, hs, hb⟩
        rw [k5] at hs
        exact ⟨by rw [k5], bel2 k1 hb, fun q => absurd q (by decide), fun _ => ⟨k3.carry hb, fun _ => hs, fun q => absurd q (by decide)⟩⟩
      have cal2 : ∀ {f : Nat → Bool} (V : World), JTw w w.heap.size n0 dd d2 (secB y) (f 11) (f 12) V → f 11 = true → f 12 = false → Calls Try.prog 10 #[.pointer (some ⟨w.heap.size, 0, none⟩), .int .i64 x, .slice (some ⟨n0, 0, none⟩) 32 32] V fun e w' => e = .returned (.int .i64 r) ∧ JTw w w.heap.size n0 dd d2 (secB y) (f 11) true w' := by
        intro f V hJ q1 q2
        rw [q1, q2] at hJ
        obtain ⟨k1, _, k2⟩ := hJ
        obtain ⟨k3, k4, _⟩ := k2 rfl
        have k5 := k4 rfl
        have hwr := write_any k3 x (some ⟨n0, 0, none⟩) 32 (secB y) k5.rd.rd k5.byt hfz hw0 (by omega)
        rw [hr, hd2, secB_len] at hwr
        refine hwr.mono ?_
        rintro e w' ⟨rfl, h4, t4⟩
        exact ⟨rfl, k1.trans (t4.below (Nat.le_refl _) k1.size), fun _ => h4, fun q => absurd q (by decide)⟩
      have hix := ix_ints ab ao l2.length cap2 m hmn
      clear hx hd2 hr
      go_wp2
      rename_i Q0 K0 hK
      refine wp_region_any hmx ?_
      refine wpAny_tabG (G := (Unit)) (fun g i__ => ([(.pointer (some ⟨w.heap.size, 0, none⟩)), (.slice (some ⟨ab, ao, none⟩) l2.length cap2), (.int .i64 (m : Int)), (.pointer (some ⟨ab, ao + m, none⟩)), (.int .i64 x), (.slice (some ⟨ab, ao, none⟩) l2.length cap2), (.int .i64 (m : Int)), (.pointer (some ⟨ab, ao + m, none⟩)), (.int .i64 x), (.int .i64 a1), (.int .i64 y), (.slice (some ⟨n0, 0, none⟩) 32 32), (.int .i64 r)] : List Value).getD i__ undef) (fun g f V => JTw w w.heap.size n0 dd d2 (secB y) (f 11) (f 12) V) (by kernel_rfl) (()) ⟨hB.drew, fun q => absurd q (by decide), fun _ => ⟨hD.carry (Below.refl _ _).drew, fun q => absurd q (by decide), fun _ => hn0⟩⟩ ?step1 ?fin1
      case step1 =>
        intro i o ho
        have hi : i < 13 := getElem?_lt ho
        match i, hi, ho with
        | 0, _, ho =>
          cases ho
          refine stepG_of (fun g d hdep => ?_)
          exact step_move rfl trivial _ rfl (by kernel_rfl)
        | 1, _, ho =>
          cases ho
          refine stepG_of (fun g d hdep => ?_)
          exact step_move rfl trivial _ rfl (by kernel_rfl)
        | 2, _, ho =>
          cases ho
          refine stepG_of (fun g d hdep => ?_)
          exact step_move rfl trivial _ rfl (by kernel_rfl)
        | 3, _, ho =>
          cases ho
          refine stepG_of (fun g d hdep => ?_)
          exact step_indexAddr rfl trivial _ _ _ _ _ rfl rfl rfl (fun v hw => hix v)
        | 4, _, ho =>
          cases ho
          refine stepG_of (fun g d hdep => ?_)
          exact step_load rfl trivial _ _ _ rfl rfl (fun v hw => ld_int (c0 v hw.1))
        | 5, _, ho =>
          cases ho
          refine stepG_of (fun g d hdep => ?_)
          exact step_move rfl trivial _ rfl (by kernel_rfl)
        | 6, _, ho =>
          cases ho
          refine stepG_of (fun g d hdep => ?_)
          exact step_move rfl trivial _ rfl (by kernel_rfl)
        | 7, _, ho =>
          cases ho
          refine stepG_of (fun g d hdep => ?_)
          exact step_indexAddr rfl trivial _ _ _ _ _ rfl rfl rfl (fun v hw => hix v)
        | 8, _, ho =>
          cases ho
          refine stepG_of (fun g d hdep => ?_)
          exact step_load rfl trivial _ _ _ rfl rfl (fun v hw => ld_int (c0 v hw.1))
        | 9, _, ho =>
          cases ho
          refine stepG_of (fun g d hdep => ?_)
          exact step_move rfl trivial _ rfl (by kernel_rfl)
        | 10, _, ho =>
          cases ho
          refine stepG_of (fun g d hdep => ?_)
          exact step_binOp rfl trivial _ _ _ _ _ _ _ rfl rfl rfl (fun v hw => bin_add64 _ _ _ hy)
        | 11, _, ho =>
          cases ho
          exact stepG_call rfl (fun g => trivial) 11 _ _ (fun _ => [.int .i64 y]) rfl (fun g => rfl) (enters_of Try.func11 (by kernel_rfl) rfl) (fun g f V hJ hun hdep hcl => (cal1 V hJ hun (by cases h : f 12 with | false => rfl | true => exact absurd (hcl 12 _ rfl h 11 (by kernel_rfl)) (by rw [hun]; simp))).mono (by rintro e w' ⟨rfl, hJ'⟩; exact ⟨g, rfl, fun _ _ => rfl, hJ'⟩))
        | 12, _, ho =>
          cases ho
          exact stepG_call rfl (fun g => trivial) 10 _ _ (fun _ => [.pointer (some ⟨w.heap.size, 0, none⟩), .int .i64 x, .slice (some ⟨n0, 0, none⟩) 32 32]) rfl (fun g => rfl) (enters_of Try.func10 (by kernel_rfl) rfl) (fun g f V hJ hun hdep hcl => (cal2 V hJ (hdep 11 (by kernel_rfl)) hun).mono (by rintro e w' ⟨rfl, hJ'⟩; exact ⟨g, rfl, fun _ _ => rfl, hJ'⟩))
      intro g d W hall hW
      first | refine hK _ _ ?_ | refine (‹∀ (a : Act) (w : World), Code.wp Try.prog _ _ a w → _›) _ _ ?_ | skip
      simp only [finL, List.getD_cons_zero, List.getD_cons_succ, Nat.zero_add, Nat.reduceAdd, List.setIfInBounds_toArray, List.set_cons_zero, List.set_cons_succ]
      have hJ : JTw w w.heap.size n0 dd d2 (secB y) (d 11) (d 12) W := hW
      rw [hall 11 (by decide), hall 12 (by decide)] at hJ
      obtain ⟨hB2, hD2, _⟩ := hJ
      have hD3 := hD2 rfl
      clear hW hK cal1 cal2 hD2
      go_wp2
      go_roundw
      case rel => exact ⟨m + 1, d2, by simp, by omega, hD3, hfz2, hw2.1, by have := hw2.2; omega, hof2.1, hof2.2, hB2⟩
      case measure => simp [vnat]; omega
    · have hmm : m = l2.length := by omega
      subst hmm
      have hmi : ¬ ((l2.length : Int) < (l2.length : Int)) := by omega
      have hP := hD
      clear hD
      have hwb : dd.writes ≤ 4611686018427387904 := by omega
      obtain ⟨r, hr⟩ : ∃ r, a1.tmod 3 = r := ⟨_, rfl⟩
      rcases tm3 a1 with hv | hv
      · skip
        rw [hr] at hv
        subst hv
        go_wp2_with (first | (go_at_call 14; have m29 := st29; have hwr := left_any hO; rw [H8.out.2] at hwr; (with_reducible refine (hwr).mono ?_); rintro e u30 ⟨rfl, hu⟩; obtain rfl := hu.symm; have st30 : True := trivial) | (go_at_call 12; have m28 := st28; have hwr := writes_any hO; rw [H8.out.1] at hwr; (with_reducible refine (hwr).mono ?_); rintro e u29 ⟨rfl, hu⟩; obtain rfl := hu.symm; have st29 : True := trivial) | (go_at_call 13; have m27 := st27; have hwr := on_any hP; rw [HO.out] at hwr; (with_reducible refine (hwr).mono ?_); rintro e u28 ⟨rfl, hu⟩; obtain rfl := hu.symm; have st28 : True := trivial) | (go_at_call 17; have m26 := st26; (with_reducible refine (sameI HLN.out ho7 ho6).mono ?_); rintro e u27 ⟨rfl, hb⟩; replace hB := bel2 hB hb; replace hP := hP.carry hb; replace hT := hT.carry hb; replace hO := hO.carry hb; replace ho6 := row_below ho6 hb; replace ho7 := row_below ho7 hb; have st27 : True := trivial) | (go_at_call 16; have m25 := st25; (with_reducible refine (image_any hP).mono ?_); rintro e u26 ⟨g7, c7, rfl, ho7, hb⟩; replace hB := bel2 hB hb; replace hP := hP.carry hb; replace hT := hT.carry hb; replace hO := hO.carry hb; replace ho6 := row_below ho6 hb; have st26 : True := trivial) | (go_at_call 7; have m24 := st24; (with_reducible refine (hal _).mono ?_); rintro e u25 ⟨rfl, hb⟩; replace hB := bel2 hB hb; replace hP := hP.carry hb; replace hT := hT.carry hb; replace hO := hO.carry hb; replace ho6 := row_below ho6 hb; have st25 : True := trivial) | (go_at_call 10; have m23 := st23; have hwr := write_ex (cap := 32) hO 3 hs2.rd.rd hs2.byt (secB_len _) (fun q => by cases q) (by show (0 : Int) ≤ 0; decide) (by show (0 : Int) ≤ _; decide); (with_reducible refine (hwr).mono ?_); rintro e u24 ⟨r8, d8, rfl, hq8, zn, t⟩; replace hB : Below w.heap.size w u24 := hB.trans (t.below (by omega) hB.size); replace hP := hP.tp t (by omega); replace hT := hT.tp t (by omega); replace ho6 := row_tp ho6 hO t; replace hO := zn; have H8 : Hid (d8.writes = 1 ∧ left d8 = -1) := o_facts hq8 (secB_len _); clear hq8; have st24 : True := trivial) | (go_at_call 11; have m22 := st22; (with_reducible refine (sector_any _ _).mono ?_); rintro e u23 ⟨rfl, hs2, hb⟩; replace hB := bel2 hB hb; replace hP := hP.carry hb; replace hT := hT.carry hb; replace hO := hO.carry hb; replace ho6 := row_below ho6 hb; have st23 : True := trivial) | (go_at_call 10; have m21 := st21; have hwr := write_ex (cap := 32) hT 3 hs.rd.rd hs.byt (secB_len _) (fz_fuse _ (by decide)) (by show 0 ≤ D.writes; rw [HF.out]; exact hw0) (by show D.writes ≤ _; rw [HF.out]; exact hwb); (with_reducible refine (hwr).mono ?_); rintro e u22 ⟨r9, d9, rfl, _, zn, t⟩; replace hB : Below w.heap.size w u22 := hB.trans (t.below (by omega) hB.size); replace hP := hP.tp t (by omega); replace hO := hO.tp t (by omega); replace ho6 := row_tp ho6 hT t; replace hT := zn; have st22 : True := trivial) | (go_at_call 11; have m20 := st20; (with_reducible refine (sector_any _ _).mono ?_); rintro e u21 ⟨rfl, hs, hb⟩; replace hB := bel2 hB hb; replace hP := hP.carry hb; replace hT := hT.carry hb; replace hO := hO.carry hb; replace ho6 := row_below ho6 hb; have st21 : True := trivial) | (go_at_call 9; have m19 := st19; (with_reducible refine (fuse_any hT (-1)).mono ?_); rintro e u20 ⟨rfl, zn, t⟩; replace hB : Below w.heap.size w u20 := hB.trans (t.below (by omega) hB.size); replace hP := hP.tp t (by omega); replace hO := hO.tp t (by omega); replace ho6 := row_tp ho6 hT t; replace hT := zn; have st20 : True := trivial) | (go_at_call 15; have m18 := st18; (with_reducible refine (restore_any hT).mono ?_); rintro e u19 ⟨rfl, zn, t⟩; replace hB : Below w.heap.size w u19 := hB.trans (t.below (by omega) hB.size); replace hP := hP.tp t (by omega); replace hO := hO.tp t (by omega); replace ho6 := row_tp ho6 hT t; replace hT := zn; have st19 : True := trivial) | (go_at_call 16; have m17 := st17; (with_reducible refine (image_any hP).mono ?_); rintro e u18 ⟨g6, c6, rfl, ho6, hb⟩; replace hB := bel2 hB hb; replace hP := hP.carry hb; replace hT := hT.carry hb; replace hO := hO.carry hb; have st18 : True := trivial) | (go_at_call 17; have m16 := st16; (with_reducible refine (sameI HLN.out ho4 ho5).mono ?_); rintro e u17 ⟨rfl, hb⟩; replace hB := bel2 hB hb; replace hP := hP.carry hb; replace hT := hT.carry hb; replace hO := hO.carry hb; replace ho4 := row_below ho4 hb; replace ho5 := row_below ho5 hb; have st17 : True := trivial) | (go_at_call 16; have m15 := st15; (with_reducible refine (image_any hP).mono ?_); rintro e u16 ⟨g5, c5, rfl, ho5, hb⟩; replace hB := bel2 hB hb; replace hP := hP.carry hb; replace hT := hT.carry hb; replace hO := hO.carry hb; replace ho4 := row_below ho4 hb; have st16 : True := trivial) | (go_at_call 16; have m14 := st14; (with_reducible refine (image_any hO).mono ?_); rintro e u15 ⟨g4, c4, rfl, ho4, hb⟩; replace hB := bel2 hB hb; replace hP := hP.carry hb; replace hT := hT.carry hb; replace hO := hO.carry hb; have st15 : True := trivial) | (go_at_call 17; have m13 := st13; (with_reducible refine (sameI HLN.out ho2 ho3).mono ?_); rintro e u14 ⟨rfl, hb⟩; replace hB := bel2 hB hb; replace hP := hP.carry hb; replace hT := hT.carry hb; replace hO := hO.carry hb; replace ho2 := row_below ho2 hb; replace ho3 := row_below ho3 hb; have st14 : True := trivial) | (go_at_call 16; have m12 := st12; (with_reducible refine (image_any hP).mono ?_); rintro e u13 ⟨g3, c3, rfl, ho3, hb⟩; replace hB := bel2 hB hb; replace hP := hP.carry hb; replace hT := hT.carry hb; replace hO := hO.carry hb; replace ho2 := row_below ho2 hb; have st13 : True := trivial) | (go_at_call 16; have m11 := st11; (with_reducible refine (image_any hT).mono ?_); rintro e u12 ⟨g2, c2, rfl, ho2, hb⟩; replace hB := bel2 hB hb; replace hP := hP.carry hb; replace hT := hT.carry hb; replace hO := hO.carry hb; have st12 : True := trivial) | (go_at_call 12; have m10 := st10; (with_reducible refine (writes_any hP).mono ?_); rintro e u11 ⟨rfl, hu⟩; obtain rfl := hu.symm; have st11 : True := trivial) | (go_at_call 12; have m9 := st9; (with_reducible refine (writes_any hT).mono ?_); rintro e u10 ⟨rfl, hu⟩; obtain rfl := hu.symm; have st10 : True := trivial) | (go_at_call 14; have m8 := st8; (with_reducible refine (left_any hP).mono ?_); rintro e u9 ⟨rfl, hu⟩; obtain rfl := hu.symm; have st9 : True := trivial) | (go_at_call 14; have m7 := st7; (with_reducible refine (left_any hT).mono ?_); rintro e u8 ⟨rfl, hu⟩; obtain rfl := hu.symm; have st8 : True := trivial) | (go_at_call 13; have m6 := st6; (with_reducible refine (on_any hP).mono ?_); rintro e u7 ⟨rfl, hu⟩; obtain rfl := hu.symm; have st7 : True := trivial) | (go_at_call 13; have m5 := st5; (with_reducible refine (on_any hT).mono ?_); rintro e u6 ⟨rfl, hu⟩; obtain rfl := hu.symm; have st6 : True := trivial) | (go_at_call 20; have m4 := st4; (with_reducible refine (of_ok g1 0 c1 D.l _ (row_lt ho1) (b_own ho1 HLN.out.symm) HLN.out hP.byt (own_cap ho1)).mono ?_); rintro e u5 ⟨rfl, hO, _, hb⟩; have hpO := hP.lt; have hTO := hT.lt; replace hB := bel2 hB hb; replace hP := hP.carry hb; replace hT := hT.carry hb; replace ho1 := row_below ho1 hb; have st5 : True := trivial) | (go_at_call 16; have m3 := st3; (with_reducible refine (image_any hP).mono ?_); rintro e u4 ⟨g1, c1, rfl, ho1, hb⟩; replace hB := bel2 hB hb; replace hP := hP.carry hb; replace hT := hT.carry hb; have st4 : True := trivial) | (go_at_call 19; have m2 := st2; (with_reducible refine (twin_any hP).mono ?_); rintro e u3 ⟨rfl, hT, hb⟩; have hpT := hP.lt; replace hB := bel2 hB hb; replace hP := hP.carry hb; have st3 : True := trivial) | (go_at_call 18; have m1 := st1; (with_reducible refine (cut_any hP).mono ?_); rintro e u2 ⟨rfl, zn, t⟩; replace hB : Below w.heap.size w u2 := hB.trans (t.below (Nat.le_refl _) hB.size); replace hP := zn; obtain ⟨D, hDe⟩ : ∃ D, { dFuse dd a0 with off := true } = D := ⟨_, rfl⟩; have HO : Hid (D.off = true) := (by rw [← hDe]; exact rfl); have HF : Hid (D.writes = dd.writes) := (by rw [← hDe]; rfl); rw [hDe] at hP; have hlen := hP.len; have HLN : Hid (D.l.length = 256) := hlen; clear hlen hDe; have st2 : True := trivial) | (go_at_call 9; (with_reducible refine (fuse_any hP a0).mono ?_); rintro e u1 ⟨rfl, zn, t⟩; replace hB : Below w.heap.size w u1 := hB.trans (t.below (Nat.le_refl _) hB.size); replace hP := zn; have st1 : True := trivial))
        go_ret
        exact ⟨rfl, hB⟩
      · skip
        rw [hr] at hv
        go_wp2_with (first | (go_at_call 14; have m28 := st28; have hwr := left_any hO; rw [H8.out.2] at hwr; (with_reducible refine (hwr).mono ?_); rintro e u29 ⟨rfl, hu⟩; obtain rfl := hu.symm; have st29 : True := trivial) | (go_at_call 12; have m27 := st27; have hwr := writes_any hO; rw [H8.out.1] at hwr; (with_reducible refine (hwr).mono ?_); rintro e u28 ⟨rfl, hu⟩; obtain rfl := hu.symm; have st28 : True := trivial) | (go_at_call 13; have m26 := st26; have hwr := on_any hP; rw [HO.out] at hwr; (with_reducible refine (hwr).mono ?_); rintro e u27 ⟨rfl, hu⟩; obtain rfl := hu.symm; have st27 : True := trivial) | (go_at_call 17; have m25 := st25; (with_reducible refine (sameI HLN.out ho7 ho6).mono ?_); rintro e u26 ⟨rfl, hb⟩; replace hB := bel2 hB hb; replace hP := hP.carry hb; replace hT := hT.carry hb; replace hO := hO.carry hb; replace ho6 := row_below ho6 hb; replace ho7 := row_below ho7 hb; have st26 : True := trivial) | (go_at_call 16; have m24 := st24; (with_reducible refine (image_any hP).mono ?_); rintro e u25 ⟨g7, c7, rfl, ho7, hb⟩; replace hB := bel2 hB hb; replace hP := hP.carry hb; replace hT := hT.carry hb; replace hO := hO.carry hb; replace ho6 := row_below ho6 hb; have st25 : True := trivial) | (go_at_call 7; have m23 := st23; (with_reducible refine (hal _).mono ?_); rintro e u24 ⟨rfl, hb⟩; replace hB := bel2 hB hb; replace hP := hP.carry hb; replace hT := hT.carry hb; replace hO := hO.carry hb; replace ho6 := row_below ho6 hb; have st24 : True := trivial) | (go_at_call 10; have m22 := st22; have hwr := write_ex (cap := 32) hO 3 hs2.rd.rd hs2.byt (secB_len _) (fun q => by cases q) (by show (0 : Int) ≤ 0; decide) (by show (0 : Int) ≤ _; decide); (with_reducible refine (hwr).mono ?_); rintro e u23 ⟨r8, d8, rfl, hq8, zn, t⟩; replace hB : Below w.heap.size w u23 := hB.trans (t.below (by omega) hB.size); replace hP := hP.tp t (by omega); replace hT := hT.tp t (by omega); replace ho6 := row_tp ho6 hO t; replace hO := zn; have H8 : Hid (d8.writes = 1 ∧ left d8 = -1) := o_facts hq8 (secB_len _); clear hq8; have st23 : True := trivial) | (go_at_call 11; have m21 := st21; (with_reducible refine (sector_any _ _).mono ?_); rintro e u22 ⟨rfl, hs2, hb⟩; replace hB := bel2 hB hb; replace hP := hP.carry hb; replace hT := hT.carry hb; replace hO := hO.carry hb; replace ho6 := row_below ho6 hb; have st22 : True := trivial) | (go_at_call 10; have m20 := st20; have hwr := write_ex (cap := 32) hT 3 hs.rd.rd hs.byt (secB_len _) (fz_fuse _ (by decide)) (by show 0 ≤ D.writes; rw [HF.out]; exact hw0) (by show D.writes ≤ _; rw [HF.out]; exact hwb); (with_reducible refine (hwr).mono ?_); rintro e u21 ⟨r9, d9, rfl, _, zn, t⟩; replace hB : Below w.heap.size w u21 := hB.trans (t.below (by omega) hB.size); replace hP := hP.tp t (by omega); replace hO := hO.tp t (by omega); replace ho6 := row_tp ho6 hT t; replace hT := zn; have st21 : True := trivial) | (go_at_call 11; have m19 := st19; (with_reducible refine (sector_any _ _).mono ?_); rintro e u20 ⟨rfl, hs, hb⟩; replace hB := bel2 hB hb; replace hP := hP.carry hb; replace hT := hT.carry hb; replace hO := hO.carry hb; replace ho6 := row_below ho6 hb; have st20 : True := trivial) | (go_at_call 9; have m18 := st18; (with_reducible refine (fuse_any hT (-1)).mono ?_); rintro e u19 ⟨rfl, zn, t⟩; replace hB : Below w.heap.size w u19 := hB.trans (t.below (by omega) hB.size); replace hP := hP.tp t (by omega); replace hO := hO.tp t (by omega); replace ho6 := row_tp ho6 hT t; replace hT := zn; have st19 : True := trivial) | (go_at_call 15; have m17 := st17; (with_reducible refine (restore_any hT).mono ?_); rintro e u18 ⟨rfl, zn, t⟩; replace hB : Below w.heap.size w u18 := hB.trans (t.below (by omega) hB.size); replace hP := hP.tp t (by omega); replace hO := hO.tp t (by omega); replace ho6 := row_tp ho6 hT t; replace hT := zn; have st18 : True := trivial) | (go_at_call 16; have m16 := st16; (with_reducible refine (image_any hP).mono ?_); rintro e u17 ⟨g6, c6, rfl, ho6, hb⟩; replace hB := bel2 hB hb; replace hP := hP.carry hb; replace hT := hT.carry hb; replace hO := hO.carry hb; have st17 : True := trivial) | (go_at_call 17; have m15 := st15; (with_reducible refine (sameI HLN.out ho4 ho5).mono ?_); rintro e u16 ⟨rfl, hb⟩; replace hB := bel2 hB hb; replace hP := hP.carry hb; replace hT := hT.carry hb; replace hO := hO.carry hb; replace ho4 := row_below ho4 hb; replace ho5 := row_below ho5 hb; have st16 : True := trivial) | (go_at_call 16; have m14 := st14; (with_reducible refine (image_any hP).mono ?_); rintro e u15 ⟨g5, c5, rfl, ho5, hb⟩; replace hB := bel2 hB hb; replace hP := hP.carry hb; replace hT := hT.carry hb; replace hO := hO.carry hb; replace ho4 := row_below ho4 hb; have st15 : True := trivial) | (go_at_call 16; have m13 := st13; (with_reducible refine (image_any hO).mono ?_); rintro e u14 ⟨g4, c4, rfl, ho4, hb⟩; replace hB := bel2 hB hb; replace hP := hP.carry hb; replace hT := hT.carry hb; replace hO := hO.carry hb; have st14 : True := trivial) | (go_at_call 17; have m12 := st12; (with_reducible refine (sameI HLN.out ho2 ho3).mono ?_); rintro e u13 ⟨rfl, hb⟩; replace hB := bel2 hB hb; replace hP := hP.carry hb; replace hT := hT.carry hb; replace hO := hO.carry hb; replace ho2 := row_below ho2 hb; replace ho3 := row_below ho3 hb; have st13 : True := trivial) | (go_at_call 16; have m11 := st11; (with_reducible refine (image_any hP).mono ?_); rintro e u12 ⟨g3, c3, rfl, ho3, hb⟩; replace hB := bel2 hB hb; replace hP := hP.carry hb; replace hT := hT.carry hb; replace hO := hO.carry hb; replace ho2 := row_below ho2 hb; have st12 : True := trivial) | (go_at_call 16; have m10 := st10; (with_reducible refine (image_any hT).mono ?_); rintro e u11 ⟨g2, c2, rfl, ho2, hb⟩; replace hB := bel2 hB hb; replace hP := hP.carry hb; replace hT := hT.carry hb; replace hO := hO.carry hb; have st11 : True := trivial) | (go_at_call 12; have m9 := st9; (with_reducible refine (writes_any hP).mono ?_); rintro e u10 ⟨rfl, hu⟩; obtain rfl := hu.symm; have st10 : True := trivial) | (go_at_call 12; have m8 := st8; (with_reducible refine (writes_any hT).mono ?_); rintro e u9 ⟨rfl, hu⟩; obtain rfl := hu.symm; have st9 : True := trivial) | (go_at_call 14; have m7 := st7; (with_reducible refine (left_any hP).mono ?_); rintro e u8 ⟨rfl, hu⟩; obtain rfl := hu.symm; have st8 : True := trivial) | (go_at_call 14; have m6 := st6; (with_reducible refine (left_any hT).mono ?_); rintro e u7 ⟨rfl, hu⟩; obtain rfl := hu.symm; have st7 : True := trivial) | (go_at_call 13; have m5 := st5; (with_reducible refine (on_any hP).mono ?_); rintro e u6 ⟨rfl, hu⟩; obtain rfl := hu.symm; have st6 : True := trivial) | (go_at_call 13; have m4 := st4; (with_reducible refine (on_any hT).mono ?_); rintro e u5 ⟨rfl, hu⟩; obtain rfl := hu.symm; have st5 : True := trivial) | (go_at_call 20; have m3 := st3; (with_reducible refine (of_ok g1 0 c1 D.l _ (row_lt ho1) (b_own ho1 HLN.out.symm) HLN.out hP.byt (own_cap ho1)).mono ?_); rintro e u4 ⟨rfl, hO, _, hb⟩; have hpO := hP.lt; have hTO := hT.lt; replace hB := bel2 hB hb; replace hP := hP.carry hb; replace hT := hT.carry hb; replace ho1 := row_below ho1 hb; have st4 : True := trivial) | (go_at_call 16; have m2 := st2; (with_reducible refine (image_any hP).mono ?_); rintro e u3 ⟨g1, c1, rfl, ho1, hb⟩; replace hB := bel2 hB hb; replace hP := hP.carry hb; replace hT := hT.carry hb; have st3 : True := trivial) | (go_at_call 19; have m1 := st1; (with_reducible refine (twin_any hP).mono ?_); rintro e u2 ⟨rfl, hT, hb⟩; have hpT := hP.lt; replace hB := bel2 hB hb; replace hP := hP.carry hb; have st2 : True := trivial) | (go_at_call 9; (with_reducible refine (fuse_any hP a0).mono ?_); rintro e u1 ⟨rfl, zn, t⟩; replace hB : Below w.heap.size w u1 := hB.trans (t.below (Nat.le_refl _) hB.size); replace hP := zn; obtain ⟨D, hDe⟩ : ∃ D, dFuse dd a0 = D := ⟨_, rfl⟩; have HO : Hid (D.off = false) := (by rw [← hDe]; exact hof); have HF : Hid (D.writes = dd.writes) := (by rw [← hDe]; rfl); rw [hDe] at hP; have hlen := hP.len; have HLN : Hid (D.l.length = 256) := hlen; clear hlen hDe; have st1 : True := trivial))
        go_ret
        exact ⟨(by show Ending.returned (Value.bool (r != 0)) = _; rw [show (r != 0) = true by simpa using hv]), hB⟩

set_option maxRecDepth 100000 in
theorem lifted (os : Os) (started : os.Started) (H : Type) (enc : TypeId × Value → H) :
    ReturnsInHanded {} Try.checked os 5 .any (Rows.diskTwinsSpec.pre6 enc Try.prog Try.f5 Rows.diskTwinsRow.domain false) (Rows.diskTwinsSpec.post enc Try.prog Try.f5 false true false false) := by
  refine returnsInHanded_of_change (C := Try.checked) own started (by kernel_rfl) Try.func5
    (ChangeSpec.witness6 (enc := enc) (C := Try.checked) false ⟨#[], #[.int .i64 0, .int .i64 0, .slice none 0 0], []⟩ 8 (by kernel_rfl) (by kernel_rfl) (by kernel_rfl) (by kernel_rfl)) ?_
  intro W base args ds gs before hval0 hW hcnd _
  have hval : ∀ (j : Nat) t v, Try.f5.params[j]? = some t → args[j]? = some v → Value.okWide Try.prog W .any base t v := hval0
  have hW' := hW
  obtain ⟨p, q, hA0, hV, rfl, hfz, hnd⟩ := hW
  have hA : DataW.TrodAll enc Try.prog W 0 (fun _ => true) true Try.f5.params.toList args.toList ds p := hA0
  rw [Try.params5] at hA hval
  obtain ⟨v0, vs0, d0, ds0, p0, q0, hargs, rfl, rfl, h0, r0⟩ := trodAll_cons hA
  obtain ⟨v1, vs1, d1, ds1, p1, q1, rfl, rfl, rfl, h1, r1⟩ := trodAll_cons r0
  obtain ⟨v2, vs2, d2, ds2, p2, q2, rfl, rfl, rfl, h2, r2⟩ := trodAll_cons r1
  obtain ⟨rfl, rfl, rfl⟩ := trodAll_nil r2
  obtain rfl : args = #[v0, v1, v2] := by cases args; simp_all
  obtain ⟨rfl, rfl⟩ := trodVars_none hV
  obtain ⟨a0, rfl, rfl, rfl, w0⟩ := open_int Try.underlying3 (hval 0 3 v0 rfl rfl) h0
  obtain ⟨a1, rfl, rfl, rfl, w1⟩ := open_int Try.underlying3 (hval 1 3 v1 rfl rfl) h1
  have k2 := h2
  have lt2 : ∀ x ∈ p2, x.block < W.heap.size := by obtain ⟨m, hm⟩ := k2; exact DataW.trod_lt m _ _ _ hm
  obtain ⟨ad2, cap2, l2, rfl, w2, hl2⟩ := open_list (hval 2 32 v2 rfl rfl) h2
  clear hA0 hval0
  refine (walk W a0 w0 a1 w1 ad2 cap2 l2 w2 hl2).mono fun e W' ⟨he, hg⟩ => ?_
  subst he
  exact ⟨_, rfl, _, _, _, [], _, [], hW', (trodAll_cons_mk (shut_bool Try.underlying4 _) trodAll_mk0), (trodAll_cons_mk (shut_int Try.underlying3 w0) (trodAll_cons_mk (shut_int Try.underlying3 w1) (trodAll_cons_mk (Below.trod laidOut (by kernel_rfl) (of_decide_eq_true (by kernel_rfl)) k2 hg lt2) trodAll_mk0))), rfl, hg.frame _, fun h => by cases h⟩

theorem over : Rows.diskTwinsRow.holds Try.pinned (OpenSpec.ofChange Rows.diskTwinsSpec) :=
  OpenClaim.holds_of_wide 5 Try.f5 rfl rfl rfl rfl rfl rfl rfl ⟨rfl, rfl, rfl, rfl, rfl⟩ rfl rfl rfl rfl rfl (by kernel_rfl) Try.func5 (by kernel_rfl)
    (of_decide_eq_true (by kernel_rfl)) (by unfold Func.isWrapper; first | (rw [if_pos (by decide +kernel)]; kernel_rfl) | (rw [if_neg (by decide +kernel)]; exact ⟨rfl, rfl⟩))
    (fun os started H enc _ => lifted os started H enc)

theorem proved : Rows.DiskTwinsSaid :=
  over
#print axioms proved
end Go.Proofs.Ytcnkpkdnpjhogaa
