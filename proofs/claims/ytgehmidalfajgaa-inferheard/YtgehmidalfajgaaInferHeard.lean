/- InferHeard (promise P1405): whoever replied, and whoever is in a set that came with a reply that counts, is not missing; all others are. For every tally that New makes and every list of at most 300 replies; else alive alone. -/
import Derived.Test.YtgehmidalfajgaaRows
import Derived.WalkKit
import Derived.ProofKit
import Derived.OpenShut
import Derived.Test.YtgehmidalfajgaaTyh
import Derived.Test.YtgehmidalfajgaaIne
namespace Go.Proofs.Ytgehmidalfajgaa
open Go.ChangeShapes Go.WideShapes Go.ChangeAt Go.RowKit
set_option linter.unusedVariables false

theorem laidOut : laidOutB Try.prog = true := by kernel_rfl
theorem own : ownKnob Try.prog.godebug = none := by kernel_rfl
set_option maxHeartbeats 32000000 in
set_option maxRecDepth 100000 in
theorem walk (w : World) (a0 : Int) (w0 : (Lit.int .i64 a0).wf = true) (a1 : Int) (w1 : (Lit.int .i64 a1).wf = true) (a2 : Int) (w2 : (Lit.int .i64 a2).wf = true) (a3 : Int) (w3 : (Lit.int .i64 a3).wf = true) (N4 : Nat) (hN4 : N4 < S128) (ad5 : Option Addr) (cap5 : Nat) (l5 : List Rp) (w5 : RdP w w.heap.size ad5 l5) (hc5 : l5.length ≤ cap5) (hm5 : cap5 ≤ maxLen) :
    Calls Try.prog 3 #[.int .i64 a0, .int .i64 a1, .int .i64 a2, .int .i64 a3, sv N4, .slice ad5 l5.length cap5] w fun e w' => e = .returned (.bool true) ∧ Below w.heap.size w w' := by
  have hmx : Try.prog.follows .mixedOrders = true := by kernel_rfl
  obtain ⟨w1, hw1⟩ : ∃ w1, w.alloc (.cells #[.int .u32 (wd N4 0 : Nat), .int .u32 (wd N4 1 : Nat), .int .u32 (wd N4 2 : Nat), .int .u32 (wd N4 3 : Nat)] 24) = w1 := ⟨_, rfl⟩
  have hb1 : Below w.heap.size w w1 := by rw [← hw1]; exact al1' _ _
  have g1 : Holds4 w1 w.heap.size (wd N4) := by rw [← hw1]; exact new_at rfl
  obtain ⟨y0, y1, y2, y3, _⟩ := g1.facts
  have G1 : Hid (Holds4 w1 w.heap.size (wd N4)) := g1
  clear g1
  by_cases hE : nwE a0 a1 a2 a3 N4 = 0
  case neg =>
    have hn := new_no a0 a1 a2 a3 N4 hN4 hE w1
    obtain ⟨E, hEE⟩ : ∃ E, nwE a0 a1 a2 a3 N4 = E := ⟨_, rfl⟩
    rw [hEE] at hn hE
    have HE : Hid (¬ E = 0) := hE
    simp only [sv] at hn ⊢
    go_enter Try.func3, Try.ntmps3
    go_wp2_with (first
      | (go_at_call 6; (with_reducible refine hn.mono ?_); rintro e u ⟨rfl, hu⟩; have hal := alive_any u)
      | (go_at_call 7; (with_reducible refine hal.mono ?_); rintro e u2 ⟨rfl, hu2⟩))
    go_ret
    exact ⟨rfl, bel2 (bel2 hb1 hu) hu2⟩
  have hn := new_ok a0 a1 a2 a3 N4 hN4 hE w1
  have hv0 := Tv.new hN4 hE
  obtain ⟨t0, ht0⟩ : ∃ t0, nwT a0 a1 a2 a3 N4 = t0 := ⟨_, rfl⟩
  have hro : t0.ro = a3 := by rw [← ht0]; rfl
  rw [ht0] at hn hv0
  by_cases hlong : 300 < (l5.length : Int)
  case pos =>
    simp only [sv] at hn ⊢
    go_enter Try.func3, Try.ntmps3
    go_wp2_with (first
      | (go_at_call 6; (with_reducible refine hn.mono ?_); rintro e u ⟨q, ad, cap, rfl, hT, hu⟩; have hal := alive_any u)
      | (go_at_call 7; (with_reducible refine hal.mono ?_); rintro e u2 ⟨rfl, hu2⟩))
    go_ret
    exact ⟨rfl, bel2 (bel2 hb1 hu) hu2⟩
  have hS : ∀ o ∈ l5, o.N < S128 := fun o ho => by
    obtain ⟨n, hn⟩ := List.mem_iff_getElem?.1 ho
    obtain ⟨_, _, _, _, _, _, _, h⟩ := w5 n o hn
    exact h
  have hSk : ∀ k, Tv (run t0 (l5.take k)) := fun k => hv0.run _ (fun o ho => hS o (List.mem_of_mem_take ho))
  have hl300 : l5.length ≤ 300 := by omega
  have hk0 := kn_new hN4 hE
  have hi0 := Kin.new hN4 hE
  obtain ⟨n1, n2, _, _, n5, _⟩ := nw_ok hE
  have hn0 : t0.n = a0 := by rw [← ht0]; rfl
  rw [ht0] at hk0 hi0
  have hiS := isN_id n5 n2
  have e0 : sv 0 = .agg #[.int .u32 0, .int .u32 0, .int .u32 0, .int .u32 0] := by kernel_rfl
  have hun := union_any N4 0
  have hwi := with_any (cln (N4 ||| 0)) a2
  rw [show withV (cln (N4 ||| 0)) a2 = .tuple #[sv (cln (cln (N4 ||| 0)) ||| 2 ^ a2.toNat), .int .i64 0] from if_pos hiS, ← hk0] at hwi
  rw [e0] at hun
  obtain ⟨S0, hS0⟩ : ∃ S0, cln (N4 ||| 0) = S0 := ⟨_, rfl⟩
  obtain ⟨S1, hS1⟩ : ∃ S1, kn t0 = S1 := ⟨_, rfl⟩
  rw [hS0] at hun hwi
  rw [hS1] at hwi
  have HS1 : Hid (kn t0 = S1) := hS1
  clear hS1 hS0 hk0
  simp only [sv] at hn hun hwi ⊢
  go_enter Try.func3, Try.ntmps3
  go_wp2_with (first
    | (go_at_call 6; (with_reducible refine hn.mono ?_); rintro e u ⟨q, ad, cap, rfl, hT, hu⟩; have G2 : Hid (Holds4 u w.heap.size (wd N4)) := G1.out.carry hu; obtain ⟨x0, x1, x2, x3, _⟩ := G2.out.facts)
    | (go_at_call 8; (with_reducible refine (hun _).mono ?_); rintro e u2 ⟨rfl, hb2⟩; obtain ⟨u3, hu3⟩ : ∃ u3, u2.alloc (.cells #[.int .u32 0, .int .u32 0, .int .u32 0, .int .u32 0] 24) = u3 := ⟨_, rfl⟩; have k1 : Hid (Holds4 u3 u2.heap.size (fun _ => 0)) := (by rw [← hu3]; exact new_at rfl); have k2 : Hid (Ta u3 w1.heap.size q ad cap t0) := (by rw [← hu3]; exact (hT.carry hb2).carry (al1' _ _)); have k4 : Hid (ob ad ≠ some u2.heap.size) := (fun e => by have h1 := (hT.carry hb2).blk e; obtain ⟨_, c, h2⟩ := h1; have h3 := lt_at h2; omega); have k3 : Hid (Below w.heap.size w u3) := (by rw [← hu3]; exact bel2 (bel2 (bel2 hb1 hu) hb2) (al1' _ _)); have k5 : w1.heap.size ≤ u2.heap.size := Nat.le_trans hu.size hb2.size)
    | (refine wpList_store_row rfl 24 (.tmp 15) (.tmp 42) rfl u2.heap.size (cells4 (wd S0)) rfl rfl 24 _ k1.out infoS rfl (by simp [cells4, Value.oneCell']) ?_; obtain ⟨w4, hw4⟩ : ∃ v, u3.setRow u2.heap.size (cells4 (wd S0)) = v := ⟨_, rfl⟩; have j1 : Hid (Holds4 w4 u2.heap.size (wd S0)) := (by rw [← hw4]; exact setRow_heap _ _ _ _ _ _ k1.out); have j2 : Hid (Ta w4 w1.heap.size q ad cap t0) := (by rw [← hw4]; exact ta_row k2.out k1.out k4.out _); have j3 : Hid (Below w.heap.size w w4) := (by rw [← hw4]; exact below_row k3.out (by have := hb1.size; omega) _); rw [hw4])
    | (refine wpList_load_row rfl 24 (.tmp 15) rfl u2.heap.size rfl 24 _ (0, 0) _ j1.out Try.underlying24 rfl infoS ?_)
    | (go_at_call 9; refine (hwi _).mono ?_; rintro e u5 ⟨rfl, hb5⟩; have i1 := j1.out.carry hb5; have i2 := j2.out.carry hb5; have i3 := bel2 j3.out hb5)
    | (refine wpList_store_row rfl 24 (.tmp 15) (.tmp 47) rfl u2.heap.size (cells4 (wd S1)) rfl rfl 24 _ i1 infoS rfl (by simp [cells4, Value.oneCell']) ?_; obtain ⟨w6, hw6⟩ : ∃ v, u5.setRow u2.heap.size (cells4 (wd S1)) = v := ⟨_, rfl⟩; have m1 : Hid (Holds4 w6 u2.heap.size (wd S1)) := (by rw [← hw6]; exact setRow_heap _ _ _ _ _ _ i1); have m2 : Hid (Ta w6 w1.heap.size q ad cap t0) := (by rw [← hw6]; exact ta_row i2 i1 k4.out _); have m3 : Hid (Below w.heap.size w w6) := (by rw [← hw6]; exact below_row i3 (by have := hb1.size; omega) _); rw [hw6]))
  obtain ⟨B, hB⟩ : ∃ B, w1.heap.size = B := ⟨_, rfl⟩
  rw [hB] at m2 k5
  have hwB : w.heap.size ≤ B := by rw [← hB]; exact hb1.size
  obtain ⟨Bs, hBs⟩ : ∃ Bs, u2.heap.size = Bs := ⟨_, rfl⟩
  rw [hBs] at m1 k4 k5
  rw [← HS1.out] at m1
  rw [hBs]
  clear hn y0 y1 y2 y3 x0 x1 x2 x3 G2 hT ht0 k1 k2 k3 j1 j2 j3 i1 i2 i3 hun hwi hw4 hw6 hu3
  go_loopw [16] (fun i wz => ∃ (k : Nat) (ad : Option Addr) (cap : Nat), i = .int .i64 k ∧ k ≤ l5.length ∧ Ta wz B q ad cap (run t0 (l5.take k)) ∧ Holds4 wz Bs (wd (kn (run t0 (l5.take k)))) ∧ ob ad ≠ some Bs ∧ Below w.heap.size w wz) (fun i _ => l5.length - vnat i)
  case atStart => exact ⟨0, ad, cap, rfl, Nat.zero_le _, m2.out, m1.out, k4.out, m3.out⟩
  case round =>
    obtain ⟨k, ad, cap, rfl, hk, hT, hx, hne, hbw⟩ := hrel
    obtain ⟨t, htt⟩ : ∃ t, run t0 (l5.take k) = t := ⟨_, rfl⟩
    have hvt : Tv t := by rw [← htt]; exact hSk k
    rw [htt] at hT hx
    have hlen : t.hs.length ≤ 100 := by have := hvt.len; have := hvt.d1; have := hvt.n1; omega
    by_cases hkl : k < l5.length
    · have hki : (k : Int) < (l5.length : Int) := by omega
      obtain ⟨o, ho⟩ : ∃ o, l5[k]? = some o := ⟨_, List.getElem?_eq_getElem hkl⟩
      obtain ⟨b, off, rfl, hbB, hAt, _, _, hN⟩ := w5 k o ho
      have hat : ∀ V, Jt wr B q ad cap t o false V → RpAt V b (off + k * 6) o := fun V hV => (hAt.carry hbw hbB).carry (show Below wr.heap.size wr V from hV) (Nat.lt_of_lt_of_le hbB hbw.size)
      have hBw : B ≤ wr.heap.size := Nat.le_trans hT.qb (Nat.le_of_lt hT.lt)
      obtain ⟨KD, hKD⟩ : ∃ z, kd (fto t o) = z := ⟨_, rfl⟩
      obtain ⟨KE, hKE⟩ : ∃ z, ke (fto t o) = z := ⟨_, rfl⟩
      have hgo : ∀ V, Jt wr B q ad cap t o false V → Calls Try.prog 10 #[.pointer (some ⟨q, 0, none⟩), .int .i64 o.f, .int .i64 o.r, sv o.N] V fun e w' => e = .returned (.tuple #[.int .i64 KD, .int .i64 KE]) ∧ Jt wr B q ad cap t o true w' := fun V hV => by
        rw [← hKD, ← hKE]
        exact hV.go hT hvt hBw hN
      go_wp2
      refine wp_region_any hmx ?_
      refine wpAny_tabG (G := Unit) (fun g i__ => ([(.pointer (some ⟨q, 0, none⟩)), (.slice (some ⟨b, off, none⟩) l5.length cap5), (.int .i64 (k : Int)), (.pointer (some ⟨b, off + k * 6, none⟩)), (.pointer (some ⟨b, off + k * 6, none⟩)), (.int .i64 o.f), (.slice (some ⟨b, off, none⟩) l5.length cap5), (.int .i64 (k : Int)), (.pointer (some ⟨b, off + k * 6, none⟩)), (.pointer (some ⟨b, off + k * 6 + 1, none⟩)), (.int .i64 o.r), (.slice (some ⟨b, off, none⟩) l5.length cap5), (.int .i64 (k : Int)), (.pointer (some ⟨b, off + k * 6, none⟩)), (.pointer (some ⟨b, off + k * 6 + 2, none⟩)), (sv o.N), (.tuple #[.int .i64 KD, .int .i64 KE]), (.tuple #[.int .i64 KD, .int .i64 KE]), (.int .i64 KD), (.int .i64 KE), (.int .i64 KD), (.int .i64 KE)] : List Value).getD i__ undef) (fun g d V => Jt wr B q ad cap t o (d 16) V) (by kernel_rfl) (()) (show Jt wr B q ad cap _ o false _ from (Below.refl _ _).drew) ?step1 ?fin1
      case step1 =>
        intro i o ho
        have hi : i < 22 := getElem?_lt ho
        match i, hi, ho with
        | 0, _, ho =>
          cases ho
          refine stepG_ofC (fun g d hun hdep hcl => ?_)
          exact step_move rfl trivial _ rfl (by kernel_rfl)
        | 1, _, ho =>
          cases ho
          refine stepG_ofC (fun g d hun hdep hcl => ?_)
          exact step_move rfl trivial _ rfl (by kernel_rfl)
        | 2, _, ho =>
          cases ho
          refine stepG_ofC (fun g d hun hdep hcl => ?_)
          exact step_move rfl trivial _ rfl (by kernel_rfl)
        | 3, _, ho =>
          cases ho
          refine stepG_ofC (fun g d hun hdep hcl => ?_)
          exact step_indexAddr rfl trivial _ _ _ _ _ rfl rfl rfl (fun v hw => idx_rp b off _ _ k hkl v)
        | 4, _, ho =>
          cases ho
          refine stepG_ofC (fun g d hun hdep hcl => ?_)
          exact step_fieldAddr rfl trivial _ _ _ _ rfl rfl (fun v hw => field_rp0 v _ _)
        | 5, _, ho =>
          cases ho
          refine stepG_ofC (fun g d hun hdep hcl => ?_)
          exact step_load rfl trivial _ _ _ rfl rfl (fun v hw => by have h16 : d 16 = false := (by cases h : d 16 with | false => rfl | true => exact absurd (hcl 16 _ rfl h 5 (by kernel_rfl)) (by rw [hun]; simp)); have hw' := hw; rw [h16] at hw'; exact (hat v hw').f0)
        | 6, _, ho =>
          cases ho
          refine stepG_ofC (fun g d hun hdep hcl => ?_)
          exact step_move rfl trivial _ rfl (by kernel_rfl)
        | 7, _, ho =>
          cases ho
          refine stepG_ofC (fun g d hun hdep hcl => ?_)
          exact step_move rfl trivial _ rfl (by kernel_rfl)
        | 8, _, ho =>
          cases ho
          refine stepG_ofC (fun g d hun hdep hcl => ?_)
          exact step_indexAddr rfl trivial _ _ _ _ _ rfl rfl rfl (fun v hw => idx_rp b off _ _ k hkl v)
        | 9, _, ho =>
          cases ho
          refine stepG_ofC (fun g d hun hdep hcl => ?_)
          exact step_fieldAddr rfl trivial _ _ _ _ rfl rfl (fun v hw => field_rp1 v _ _)
        | 10, _, ho =>
          cases ho
          refine stepG_ofC (fun g d hun hdep hcl => ?_)
          exact step_load rfl trivial _ _ _ rfl rfl (fun v hw => by have h16 : d 16 = false := (by cases h : d 16 with | false => rfl | true => exact absurd (hcl 16 _ rfl h 10 (by kernel_rfl)) (by rw [hun]; simp)); have hw' := hw; rw [h16] at hw'; exact (hat v hw').f1)
        | 11, _, ho =>
          cases ho
          refine stepG_ofC (fun g d hun hdep hcl => ?_)
          exact step_move rfl trivial _ rfl (by kernel_rfl)
        | 12, _, ho =>
          cases ho
          refine stepG_ofC (fun g d hun hdep hcl => ?_)
          exact step_move rfl trivial _ rfl (by kernel_rfl)
        | 13, _, ho =>
          cases ho
          refine stepG_ofC (fun g d hun hdep hcl => ?_)
          exact step_indexAddr rfl trivial _ _ _ _ _ rfl rfl rfl (fun v hw => idx_rp b off _ _ k hkl v)
        | 14, _, ho =>
          cases ho
          refine stepG_ofC (fun g d hun hdep hcl => ?_)
          exact step_fieldAddr rfl trivial _ _ _ _ rfl rfl (fun v hw => field_rp2 v _ _)
        | 15, _, ho =>
          cases ho
          refine stepG_ofC (fun g d hun hdep hcl => ?_)
          exact step_load rfl trivial _ _ _ rfl rfl (fun v hw => by have h16 : d 16 = false := (by cases h : d 16 with | false => rfl | true => exact absurd (hcl 16 _ rfl h 15 (by kernel_rfl)) (by rw [hun]; simp)); have hw' := hw; rw [h16] at hw'; exact (hat v hw').f2)
        | 16, _, ho =>
          cases ho
          refine stepG_ofC (fun g d hun hdep hcl => ?_)
          exact step_call rfl trivial 10 _ _ [(.pointer (some ⟨q, 0, none⟩)), (.int .i64 o.f), (.int .i64 o.r), (sv o.N)] rfl (by kernel_rfl) (enters_of Try.func10 (by kernel_rfl) rfl) (fun v hw => by have hw' := hw; rw [hun] at hw'; exact hgo v hw')
        | 17, _, ho =>
          cases ho
          refine stepG_ofC (fun g d hun hdep hcl => ?_)
          exact step_move rfl trivial _ rfl (by kernel_rfl)
        | 18, _, ho =>
          cases ho
          refine stepG_ofC (fun g d hun hdep hcl => ?_)
          exact step_extract rfl trivial _ _ _ rfl rfl (fun v hw => ext2_0 _ _ v)
        | 19, _, ho =>
          cases ho
          refine stepG_ofC (fun g d hun hdep hcl => ?_)
          exact step_extract rfl trivial _ _ _ rfl rfl (fun v hw => ext2_1 _ _ v)
        | 20, _, ho =>
          cases ho
          refine stepG_ofC (fun g d hun hdep hcl => ?_)
          exact step_assign rfl trivial _ rfl (by kernel_rfl) (fun _ h => h)
        | 21, _, ho =>
          cases ho
          refine stepG_ofC (fun g d hun hdep hcl => ?_)
          exact step_assign rfl trivial _ rfl (by kernel_rfl) (fun _ h => h)
      intro g d W hall hW
      first | refine hK _ _ ?_ | refine (‹∀ (a : Act) (w : World), Code.wp Try.prog _ _ a w → _›) _ _ ?_ | skip
      simp only [finL, List.getD_cons_zero, List.getD_cons_succ, Nat.zero_add, Nat.reduceAdd, List.setIfInBounds_toArray, List.set_cons_zero, List.set_cons_succ]
      rw [hall 16 (by decide)] at hW
      obtain ⟨ad', cap', hT', hn', _⟩ := hW
      have hB' : Below w.heap.size w W := hbw.trans ((hT.below hn').mono hwB)
      obtain ⟨hx', hne'⟩ := tn_box hT hn' hx hne
      clear hall hn' hgo hat hT hx hne
      by_cases h5 : fto t o = 5
      · have h5' : fate t o.f o.r o.N = 5 := h5
        have hif := isN_id (fate_5.1 h5').1 hvt.n1
        obtain rfl : KD = 1 := by rw [← hKD, h5]; rfl
        have hkc := kn_cnt hvt hN h5'
        rw [tko_cnt h5] at hT'
        have hat2 : ∀ V, Below W.heap.size W V → RpAt V b (off + k * 6) o := fun V hV => (hAt.carry hB' hbB).carry hV (Nat.lt_of_lt_of_le hbB hB'.size)
        clear hKD hKE
        obtain ⟨S, hS1⟩ : ∃ S, kn t = S := ⟨_, rfl⟩
        rw [hS1] at hx' hkc
        have hwv : ∀ V, Calls Try.prog 9 #[sv (cln (S ||| o.N)), .int .i64 o.f] V fun e w' => e = .returned (.tuple #[sv (kn (cntT t o.f o.N)), .int .i64 0]) ∧ Below V.heap.size V w' := fun V => by
          have := with_any (cln (S ||| o.N)) o.f V
          rw [show withV (cln (S ||| o.N)) o.f = .tuple #[sv (cln (cln (S ||| o.N)) ||| 2 ^ o.f.toNat), .int .i64 0] from if_pos hif, ← hkc] at this
          exact this
        obtain ⟨S2, hS2⟩ : ∃ S2, kn (cntT t o.f o.N) = S2 := ⟨_, rfl⟩
        rw [hS2] at hwv
        have hx3 := hx'
        have hT3 := hT'
        go_wp2
        refine wp_region_any hmx ?_
        refine wpAny_tabG (G := Unit) (fun g i__ => ([(sv S), (.slice (some ⟨b, off, none⟩) l5.length cap5), (.int .i64 (k : Int)), (.pointer (some ⟨b, off + k * 6, none⟩)), (.pointer (some ⟨b, off + k * 6 + 2, none⟩)), (sv o.N), (sv (cln (S ||| o.N))), (.slice (some ⟨b, off, none⟩) l5.length cap5), (.int .i64 (k : Int)), (.pointer (some ⟨b, off + k * 6, none⟩)), (.pointer (some ⟨b, off + k * 6, none⟩)), (.int .i64 o.f), (.tuple #[sv S2, .int .i64 0]), (.tuple #[sv S2, .int .i64 0]), (sv S2), (.int .i64 0), undef] : List Value).getD i__ undef) (fun g d V => Jb W Bs S2 (d 16) V) (by kernel_rfl) (()) (show Jb W Bs S2 false _ from (Below.refl _ _).drew) ?step2 ?fin2
        case step2 =>
          intro i o ho
          have hi : i < 17 := getElem?_lt ho
          match i, hi, ho with
          | 0, _, ho =>
            cases ho
            refine stepG_ofC (fun g d hun hdep hcl => ?_)
            exact step_load rfl trivial _ _ _ rfl rfl (fun v hw => by have h16 : d 16 = false := (by cases h : d 16 with | false => rfl | true => exact absurd (hcl 16 _ rfl h 0 (by kernel_rfl)) (by rw [hun]; simp)); have hw' := hw; rw [h16] at hw'; exact whole4 v _ S (hx3.carry hw'))
          | 1, _, ho =>
            cases ho
            refine stepG_ofC (fun g d hun hdep hcl => ?_)
            exact step_move rfl trivial _ rfl (by kernel_rfl)
          | 2, _, ho =>
            cases ho
            refine stepG_ofC (fun g d hun hdep hcl => ?_)
            exact step_move rfl trivial _ rfl (by kernel_rfl)
          | 3, _, ho =>
            cases ho
            refine stepG_ofC (fun g d hun hdep hcl => ?_)
            exact step_indexAddr rfl trivial _ _ _ _ _ rfl rfl rfl (fun v hw => idx_rp b off _ _ k hkl v)
          | 4, _, ho =>
            cases ho
            refine stepG_ofC (fun g d hun hdep hcl => ?_)
            exact step_fieldAddr rfl trivial _ _ _ _ rfl rfl (fun v hw => field_rp2 v _ _)
          | 5, _, ho =>
            cases ho
            refine stepG_ofC (fun g d hun hdep hcl => ?_)
            exact step_load rfl trivial _ _ _ rfl rfl (fun v hw => by have h16 : d 16 = false := (by cases h : d 16 with | false => rfl | true => exact absurd (hcl 16 _ rfl h 5 (by kernel_rfl)) (by rw [hun]; simp)); have hw' := hw; rw [h16] at hw'; exact (hat2 v hw').f2)
          | 6, _, ho =>
            cases ho
            refine stepG_ofC (fun g d hun hdep hcl => ?_)
            exact step_call rfl trivial 8 _ _ [(sv S), (sv o.N)] rfl (by kernel_rfl) (enters_of Try.func8 (by kernel_rfl) rfl) (fun v hw => by have h16 : d 16 = false := (by cases h : d 16 with | false => rfl | true => exact absurd (hcl 16 _ rfl h 6 (by kernel_rfl)) (by rw [hun]; simp)); have hw' := hw; rw [h16] at hw'; exact (union_any S o.N v).mono (by rintro e w2 ⟨rfl, hb2⟩; exact ⟨rfl, (show Jb W Bs S2 (d 16) w2 from by rw [h16]; exact bel2 hw' hb2)⟩))
          | 7, _, ho =>
            cases ho
            refine stepG_ofC (fun g d hun hdep hcl => ?_)
            exact step_move rfl trivial _ rfl (by kernel_rfl)
          | 8, _, ho =>
            cases ho
            refine stepG_ofC (fun g d hun hdep hcl => ?_)
            exact step_move rfl trivial _ rfl (by kernel_rfl)
          | 9, _, ho =>
            cases ho
            refine stepG_ofC (fun g d hun hdep hcl => ?_)
            exact step_indexAddr rfl trivial _ _ _ _ _ rfl rfl rfl (fun v hw => idx_rp b off _ _ k hkl v)
          | 10, _, ho =>
            cases ho
            refine stepG_ofC (fun g d hun hdep hcl => ?_)
            exact step_fieldAddr rfl trivial _ _ _ _ rfl rfl (fun v hw => field_rp0 v _ _)
          | 11, _, ho =>
            cases ho
            refine stepG_ofC (fun g d hun hdep hcl => ?_)
            exact step_load rfl trivial _ _ _ rfl rfl (fun v hw => by have h16 : d 16 = false := (by cases h : d 16 with | false => rfl | true => exact absurd (hcl 16 _ rfl h 11 (by kernel_rfl)) (by rw [hun]; simp)); have hw' := hw; rw [h16] at hw'; exact (hat2 v hw').f0)
          | 12, _, ho =>
            cases ho
            refine stepG_ofC (fun g d hun hdep hcl => ?_)
            exact step_call rfl trivial 9 _ _ [(sv (cln (S ||| o.N))), (.int .i64 o.f)] rfl (by kernel_rfl) (enters_of Try.func9 (by kernel_rfl) rfl) (fun v hw => by have h16 : d 16 = false := (by cases h : d 16 with | false => rfl | true => exact absurd (hcl 16 _ rfl h 12 (by kernel_rfl)) (by rw [hun]; simp)); have hw' := hw; rw [h16] at hw'; exact (hwv v).mono (by rintro e w2 ⟨rfl, hb2⟩; exact ⟨rfl, (show Jb W Bs S2 (d 16) w2 from by rw [h16]; exact bel2 hw' hb2)⟩))
          | 13, _, ho =>
            cases ho
            refine stepG_ofC (fun g d hun hdep hcl => ?_)
            exact step_move rfl trivial _ rfl (by kernel_rfl)
          | 14, _, ho =>
            cases ho
            refine stepG_ofC (fun g d hun hdep hcl => ?_)
            exact step_extract rfl trivial _ _ _ rfl rfl (fun v hw => ext2_0 _ _ v)
          | 15, _, ho =>
            cases ho
            refine stepG_ofC (fun g d hun hdep hcl => ?_)
            exact step_extract rfl trivial _ _ _ rfl rfl (fun v hw => ext2_1 _ _ v)
          | 16, _, ho =>
            cases ho
            refine stepG_ofC (fun g d hun hdep hcl => ?_)
            exact step_store rfl trivial rfl _ _ _ _ _ rfl rfl rfl (fun v hw => by have hw' := hw; rw [hun] at hw'; exact ⟨set4 v Bs S2, store_s (hx3.carry hw') _, jb_put hx3 hw'⟩)
        intro g d W hall hW
        first | refine hK _ _ ?_ | refine (‹∀ (a : Act) (w : World), Code.wp Try.prog _ _ a w → _›) _ _ ?_ | skip
        simp only [finL, List.getD_cons_zero, List.getD_cons_succ, Nat.zero_add, Nat.reduceAdd, List.setIfInBounds_toArray, List.set_cons_zero, List.set_cons_succ]
        rw [hall 16 (by decide)] at hW
        have hq5 : Holds4 W Bs (wd S2) := hW.1
        have hT5 : Ta W B q ad' cap' (cntT t o.f o.N) := jb_ta hT3 hx3 hne' hW
        have hB5 : Below w.heap.size w W := jb_below hB' (by omega) hB'.size hW
        clear hW hall
        go_wp2
        go_roundw
        case rel => exact ⟨k + 1, ad', cap', by simp, by omega, by rw [run_succ t0 l5 k o ho, htt, tko_cnt h5]; exact hT5, by rw [run_succ t0 l5 k o ho, htt, tko_cnt h5, hS2]; exact hq5, hne', hB5⟩
        case measure => simp [vnat]; omega
      · have hk2 : ¬ KD = 1 := by rw [← hKD]; exact kd_not1 h5 (fate_lt _ _ _ _)
        have hk1 : (KD == 1) = false := by simpa using hk2
        rw [tko_same h5] at hT'
        clear hKD hKE
        go_wp2
        go_roundw
        case rel => exact ⟨k + 1, ad', cap', by simp, by omega, by rw [run_succ t0 l5 k o ho, htt, tko_same h5]; exact hT', by rw [run_succ t0 l5 k o ho, htt, tko_same h5]; exact hx', hne', hB'⟩
        case measure => simp [vnat]; omega
    · have hkk : k = l5.length := by omega
      subst hkk
      have hki : ¬ ((l5.length : Int) < (l5.length : Int)) := by omega
      rw [List.take_length] at htt
      have hnt : t.n = a0 := by rw [← htt, (run_ro l5 t0).2.1, hn0]
      have hkin : Kin t := by rw [← htt]; exact hi0.run hv0 l5 hS
      have hms := missing_any a0 (Pt.of hT (by omega))
      have hrd := fun V hV => ready_any (hT.carry (V := V) hV)
      have hkw := fun V hV => known_any (hT.carry (V := V) hV) (by omega)
      have h1n : 1 ≤ a0 ∧ a0 ≤ 100 := ⟨n1, n2⟩
      have hu := ms_union hkin hvt (by omega)
      have hm := ms_meet (t := t)
      rw [hnt] at hu hm
      have hKlt := S100_S128 (kn_lt hvt)
      have hFlt : fullN a0.toNat < S128 := full_lt a0 n2
      obtain ⟨S, hS⟩ : ∃ S, kn t = S := ⟨_, rfl⟩
      rw [hS] at hms hkw hu hm hx hKlt
      clear hS
      have HT : Hid (Ta wr B q ad cap t) := hT
      clear hT
      cases hr : rdy t with
      | false =>
        rw [hr] at hms hrd
        rw [show msN a0 false S = 0 from if_neg (fun e => by cases e.2.2), show msE a0 false = 170 by unfold msE; rw [if_pos h1n]; rfl, e0] at hms
        go_wp2_with (first
          | (go_at_call 11; (with_reducible refine hms.mono ?_); rintro e v ⟨rfl, hv⟩; obtain ⟨v3, hv3⟩ : ∃ u3, v.alloc (.cells #[.int .u32 0, .int .u32 0, .int .u32 0, .int .u32 0] 24) = u3 := ⟨_, rfl⟩; have k1 : Hid (Holds4 v3 v.heap.size (fun _ => 0)) := (by rw [← hv3]; exact new_at rfl); have k3 : Hid (Below wr.heap.size wr v3) := (by rw [← hv3]; exact bel2 hv (al1' _ _)))
          | (refine wpList_store_row rfl 24 (.tmp 19) (.tmp 97) rfl v.heap.size (cells4 (fun _ => 0)) rfl rfl 24 _ k1.out infoS rfl (by simp [cells4, Value.oneCell']) ?_; obtain ⟨v4, hv4⟩ : ∃ x, v3.setRow v.heap.size (cells4 (fun _ => 0)) = x := ⟨_, rfl⟩; have j1 : Hid (Holds4 v4 v.heap.size (fun _ => 0)) := (by rw [← hv4]; exact setRow_heap _ _ _ _ _ _ k1.out); have j3 : Hid (Below wr.heap.size wr v4) := (by rw [← hv4]; exact below_row k3.out hv.size _); rw [hv4])
          | (go_at_call 12; (with_reducible refine (hrd _ j3.out).mono ?_); rintro e v5 ⟨rfl, hv5⟩; obtain rfl := hv5.symm))
        have hz : Holds4 v4 v.heap.size (wd 0) := by rw [show wd 0 = (fun _ => 0) by funext j; exact wd_zero j]; exact j1.out
        refine wp_region_any hmx ?_
        refine wpAny_pure (fun i__ => ([(.bool true), (.bool true), (.int .i64 170), (.bool true), (.bool true), (.bool true), (sv 0), (sv 0), (.bool true), (.bool true), (.bool true), (.pointer (some ⟨q, 0, none⟩)), (sv S), (sv S), (.bool true), (.bool true), (.bool true)] : List Value).getD i__ undef) (fun V => Below v4.heap.size v4 V) (by kernel_rfl) (Below.refl _ _).drew ?_ ?_
        · refine (stepsFrom_cons ?_ (stepsFrom_cons ?_ (stepsFrom_cons ?_ (stepsFrom_cons ?_ (stepsFrom_cons ?_ (stepsFrom_cons ?_ (stepsFrom_cons ?_ (stepsFrom_cons ?_ (stepsFrom_cons ?_ (stepsFrom_cons ?_ (stepsFrom_cons ?_ (stepsFrom_cons ?_ (stepsFrom_cons ?_ (stepsFrom_cons ?_ (stepsFrom_cons ?_ (stepsFrom_cons ?_ (stepsFrom_cons ?_ trivial)))))))))))))))))
          · exact step_call rfl trivial 7 _ _ [] rfl (by kernel_rfl) (enters_of Try.func7 (by kernel_rfl) rfl) (fun v hw => (alive_any v).mono (by rintro e w2 ⟨rfl, hb⟩; exact ⟨rfl, bel2 hw hb⟩))
          · exact step_move rfl trivial _ rfl (by kernel_rfl)
          · exact step_move rfl (by exact ⟨_, rfl, by kernel_rfl⟩) _ rfl (by kernel_rfl)
          · exact step_binOp rfl (by exact ⟨_, rfl, by kernel_rfl⟩) _ _ _ _ _ _ _ rfl rfl rfl (fun v hw => bin_eql .i64 170 170)
          · exact step_pick rfl trivial _ _ _ true rfl (by kernel_rfl) (by kernel_rfl)
          · exact step_move rfl trivial _ rfl (by kernel_rfl)
          · exact step_load rfl (by exact ⟨_, rfl, by kernel_rfl⟩) _ _ _ rfl rfl (fun v hw => whole4 v _ 0 (hz.carry hw))
          · exact step_bld0 rfl (by exact ⟨_, rfl, by kernel_rfl⟩) _    rfl  (fun v hw => bld0_set v)
          · exact step_binOp rfl (by exact ⟨_, rfl, by kernel_rfl⟩) _ _ _ _ _ _ _ rfl rfl rfl (fun v hw => eqls rfl (by decide) v)
          · exact step_pick rfl trivial _ _ _ true rfl (by kernel_rfl) (by kernel_rfl)
          · exact step_move rfl trivial _ rfl (by kernel_rfl)
          · exact step_move rfl (by exact ⟨_, rfl, by kernel_rfl⟩) _ rfl (by kernel_rfl)
          · exact step_call rfl (by exact ⟨_, rfl, by kernel_rfl⟩) 13 _ _ [(.pointer (some ⟨q, 0, none⟩))] rfl (by kernel_rfl) (enters_of Try.func13 (by kernel_rfl) rfl) (fun v hw => (hkw v (bel2 j3.out hw)).mono (by rintro e w2 ⟨rfl, hb⟩; exact ⟨rfl, bel2 hw hb⟩))
          · exact step_load rfl (by exact ⟨_, rfl, by kernel_rfl⟩) _ _ _ rfl rfl (fun v hw => whole4 v _ S (hx.carry (bel2 j3.out hw)))
          · exact step_binOp rfl (by exact ⟨_, rfl, by kernel_rfl⟩) _ _ _ _ _ _ _ rfl rfl rfl (fun v hw => eqls rfl hKlt v)
          · exact step_pick rfl trivial _ _ _ true rfl (by kernel_rfl) (by kernel_rfl)
          · exact step_assign rfl trivial _ rfl (by kernel_rfl) (fun _ h => h)
        intro W hW
        first | refine hK _ _ ?_ | refine (‹∀ (a : Act) (w : World), Code.wp Try.prog _ _ a w → _›) _ _ ?_
        simp only [finL, List.getD_cons_zero, List.getD_cons_succ, Nat.zero_add, Nat.reduceAdd, List.setIfInBounds_toArray, List.set_cons_zero, List.set_cons_succ]
        go_wp2
        go_ret
        exact ⟨rfl, bel2 hbw (bel2 j3.out hW)⟩
      | true =>
        rw [hr] at hms hrd
        have hfu := full_any a0
        rw [show fullV a0 = .tuple #[sv (fullN a0.toNat), .int .i64 0] from if_pos (by omega)] at hfu
        rw [show msN a0 true S = cln (dif (fullN a0.toNat) S) from if_pos ⟨n1, n2, rfl⟩, show msE a0 true = 0 by unfold msE; rw [if_pos h1n]; rfl] at hms
        obtain ⟨FN, hFN⟩ : ∃ FN, fullN a0.toNat = FN := ⟨_, rfl⟩
        rw [hFN] at hms hfu hu hm hFlt
        obtain ⟨M, hM⟩ : ∃ M, cln (dif FN S) = M := ⟨_, rfl⟩
        rw [hM] at hms hu hm
        clear hFN hM
        have hmv : ∀ V, Calls Try.prog 16 #[sv M, sv S] V fun e w' => e = .returned (sv 0) ∧ Below V.heap.size V w' := fun V => by
          have := meet_any M S V
          rw [hm] at this
          exact this
        have huv : ∀ V, Calls Try.prog 8 #[sv M, sv S] V fun e w' => e = .returned (sv FN) ∧ Below V.heap.size V w' := fun V => by
          have := union_any M S V
          rw [hu] at this
          exact this
        have hcv : ∀ V, Calls Try.prog 15 #[sv 0] V fun e w' => e = .returned (.int .i64 0) ∧ Below V.heap.size V w' := fun V => by
          have := count_any 0 V
          rw [show cnt (cln 0) = 0 by decide] at this
          exact this
        simp only [sv] at hms hfu
        go_wp2_with (first
          | (go_at_call 11; (with_reducible refine hms.mono ?_); rintro e v ⟨rfl, hv⟩; obtain ⟨v3, hv3⟩ : ∃ u3, v.alloc (.cells #[.int .u32 0, .int .u32 0, .int .u32 0, .int .u32 0] 24) = u3 := ⟨_, rfl⟩; have k1 : Hid (Holds4 v3 v.heap.size (fun _ => 0)) := (by rw [← hv3]; exact new_at rfl); have k3 : Hid (Below wr.heap.size wr v3) := (by rw [← hv3]; exact bel2 hv (al1' _ _)))
          | (refine wpList_store_row rfl 24 (.tmp 19) (.tmp 97) rfl v.heap.size (cells4 (wd M)) rfl rfl 24 _ k1.out infoS rfl (by simp [cells4, Value.oneCell']) ?_; obtain ⟨v4, hv4⟩ : ∃ x, v3.setRow v.heap.size (cells4 (wd M)) = x := ⟨_, rfl⟩; have j1 : Hid (Holds4 v4 v.heap.size (wd M)) := (by rw [← hv4]; exact setRow_heap _ _ _ _ _ _ k1.out); have j3 : Hid (Below wr.heap.size wr v4) := (by rw [← hv4]; exact below_row k3.out hv.size _); rw [hv4])
          | (go_at_call 12; (with_reducible refine (hrd _ j3.out).mono ?_); rintro e v5 ⟨rfl, hv5⟩; obtain rfl := hv5.symm)
          | (go_at_call 14; (with_reducible refine (hfu _).mono ?_); rintro e v6 ⟨rfl, hv6⟩; obtain ⟨v7, hv7⟩ : ∃ u3, v6.alloc (.cells #[.int .u32 0, .int .u32 0, .int .u32 0, .int .u32 0] 24) = u3 := ⟨_, rfl⟩; have q1 : Hid (Holds4 v7 v6.heap.size (fun _ => 0)) := (by rw [← hv7]; exact new_at rfl); have q2 : Hid (Holds4 v7 v.heap.size (wd M)) := (by rw [← hv7]; exact old_at (j1.out.carry hv6)); have q3 : Hid (Below wr.heap.size wr v7) := (by rw [← hv7]; exact bel2 (bel2 j3.out hv6) (al1' _ _)); have q4 : v.heap.size < v6.heap.size := Nat.lt_of_lt_of_le j1.out.lt hv6.size; have q5 : wr.heap.size ≤ v.heap.size := hv.size)
          | (refine wpList_store_row rfl 24 (.tmp 21) (.tmp 121) rfl v6.heap.size (cells4 (wd FN)) rfl rfl 24 _ q1.out infoS rfl (by simp [cells4, Value.oneCell']) ?_; obtain ⟨v8, hv8⟩ : ∃ x, v7.setRow v6.heap.size (cells4 (wd FN)) = x := ⟨_, rfl⟩; have r1 : Hid (Holds4 v8 v6.heap.size (wd FN)) := (by rw [← hv8]; exact setRow_heap _ _ _ _ _ _ q1.out); have r2 : Hid (Holds4 v8 v.heap.size (wd M)) := (by rw [← hv8]; exact (setRow_other _ _ _ _ (by omega)).trans q2.out); have r3 : Hid (Below wr.heap.size wr v8) := (by rw [← hv8]; exact below_row q3.out (by omega) _); rw [hv8]))
        refine wp_region_any hmx ?_
        refine wpAny_pure (fun i__ => ([(.bool true), (.bool true), (.int .i64 0), (.bool true), (.bool true), (.bool true), (.pointer (some ⟨q, 0, none⟩)), (sv S), (sv S), (.bool true), (.bool true), (.bool true), (sv M), (sv S), (sv FN), (sv FN), (.bool true), (.bool true), (.bool true), (sv M), (sv S), (sv 0), (.int .i64 0), (.bool true), (.bool true), (.bool true)] : List Value).getD i__ undef) (fun V => Below v8.heap.size v8 V) (by kernel_rfl) (Below.refl _ _).drew ?_ ?_
        · refine (stepsFrom_cons ?_ (stepsFrom_cons ?_ (stepsFrom_cons ?_ (stepsFrom_cons ?_ (stepsFrom_cons ?_ (stepsFrom_cons ?_ (stepsFrom_cons ?_ (stepsFrom_cons ?_ (stepsFrom_cons ?_ (stepsFrom_cons ?_ (stepsFrom_cons ?_ (stepsFrom_cons ?_ (stepsFrom_cons ?_ (stepsFrom_cons ?_ (stepsFrom_cons ?_ (stepsFrom_cons ?_ (stepsFrom_cons ?_ (stepsFrom_cons ?_ (stepsFrom_cons ?_ (stepsFrom_cons ?_ (stepsFrom_cons ?_ (stepsFrom_cons ?_ (stepsFrom_cons ?_ (stepsFrom_cons ?_ (stepsFrom_cons ?_ (stepsFrom_cons ?_ trivial))))))))))))))))))))))))))
          · exact step_call rfl trivial 7 _ _ [] rfl (by kernel_rfl) (enters_of Try.func7 (by kernel_rfl) rfl) (fun v hw => (alive_any v).mono (by rintro e w2 ⟨rfl, hb⟩; exact ⟨rfl, bel2 hw hb⟩))
          · exact step_move rfl trivial _ rfl (by kernel_rfl)
          · exact step_move rfl (by exact ⟨_, rfl, by kernel_rfl⟩) _ rfl (by kernel_rfl)
          · exact step_binOp rfl (by exact ⟨_, rfl, by kernel_rfl⟩) _ _ _ _ _ _ _ rfl rfl rfl (fun v hw => bin_eql .i64 0 0)
          · exact step_pick rfl trivial _ _ _ true rfl (by kernel_rfl) (by kernel_rfl)
          · exact step_move rfl trivial _ rfl (by kernel_rfl)
          · exact step_move rfl (by exact ⟨_, rfl, by kernel_rfl⟩) _ rfl (by kernel_rfl)
          · exact step_call rfl (by exact ⟨_, rfl, by kernel_rfl⟩) 13 _ _ [(.pointer (some ⟨q, 0, none⟩))] rfl (by kernel_rfl) (enters_of Try.func13 (by kernel_rfl) rfl) (fun v hw => (hkw v (bel2 r3.out hw)).mono (by rintro e w2 ⟨rfl, hb⟩; exact ⟨rfl, bel2 hw hb⟩))
          · exact step_load rfl (by exact ⟨_, rfl, by kernel_rfl⟩) _ _ _ rfl rfl (fun v hw => whole4 v _ S (hx.carry (bel2 r3.out hw)))
          · exact step_binOp rfl (by exact ⟨_, rfl, by kernel_rfl⟩) _ _ _ _ _ _ _ rfl rfl rfl (fun v hw => eqls rfl hKlt v)
          · exact step_pick rfl trivial _ _ _ true rfl (by kernel_rfl) (by kernel_rfl)
          · exact step_move rfl trivial _ rfl (by kernel_rfl)
          · exact step_load rfl (by exact ⟨_, rfl, by kernel_rfl⟩) _ _ _ rfl rfl (fun v hw => whole4 v _ M (r2.out.carry hw))
          · exact step_load rfl (by exact ⟨_, rfl, by kernel_rfl⟩) _ _ _ rfl rfl (fun v hw => whole4 v _ S (hx.carry (bel2 r3.out hw)))
          · exact step_call rfl (by exact ⟨_, rfl, by kernel_rfl⟩) 8 _ _ [(sv M), (sv S)] rfl (by kernel_rfl) (enters_of Try.func8 (by kernel_rfl) rfl) (fun v hw => (huv v).mono (by rintro e w2 ⟨rfl, hb⟩; exact ⟨rfl, bel2 hw hb⟩))
          · exact step_load rfl (by exact ⟨_, rfl, by kernel_rfl⟩) _ _ _ rfl rfl (fun v hw => whole4 v _ FN (r1.out.carry hw))
          · exact step_binOp rfl (by exact ⟨_, rfl, by kernel_rfl⟩) _ _ _ _ _ _ _ rfl rfl rfl (fun v hw => eqls rfl hFlt v)
          · exact step_pick rfl trivial _ _ _ true rfl (by kernel_rfl) (by kernel_rfl)
          · exact step_move rfl trivial _ rfl (by kernel_rfl)
          · exact step_load rfl (by exact ⟨_, rfl, by kernel_rfl⟩) _ _ _ rfl rfl (fun v hw => whole4 v _ M (r2.out.carry hw))
          · exact step_load rfl (by exact ⟨_, rfl, by kernel_rfl⟩) _ _ _ rfl rfl (fun v hw => whole4 v _ S (hx.carry (bel2 r3.out hw)))
          · exact step_call rfl (by exact ⟨_, rfl, by kernel_rfl⟩) 16 _ _ [(sv M), (sv S)] rfl (by kernel_rfl) (enters_of Try.func16 (by kernel_rfl) rfl) (fun v hw => (hmv v).mono (by rintro e w2 ⟨rfl, hb⟩; exact ⟨rfl, bel2 hw hb⟩))
          · exact step_call rfl (by exact ⟨_, rfl, by kernel_rfl⟩) 15 _ _ [(sv 0)] rfl (by kernel_rfl) (enters_of Try.func15 (by kernel_rfl) rfl) (fun v hw => (hcv v).mono (by rintro e w2 ⟨rfl, hb⟩; exact ⟨rfl, bel2 hw hb⟩))
          · exact step_binOp rfl (by exact ⟨_, rfl, by kernel_rfl⟩) _ _ _ _ _ _ _ rfl rfl rfl (fun v hw => bin_eql .i64 0 0)
          · exact step_pick rfl trivial _ _ _ true rfl (by kernel_rfl) (by kernel_rfl)
          · exact step_assign rfl trivial _ rfl (by kernel_rfl) (fun _ h => h)
        intro W hW
        first | refine hK _ _ ?_ | refine (‹∀ (a : Act) (w : World), Code.wp Try.prog _ _ a w → _›) _ _ ?_
        simp only [finL, List.getD_cons_zero, List.getD_cons_succ, Nat.zero_add, Nat.reduceAdd, List.setIfInBounds_toArray, List.set_cons_zero, List.set_cons_succ]
        go_wp2
        go_ret
        exact ⟨rfl, bel2 hbw (bel2 r3.out hW)⟩

set_option maxRecDepth 100000 in
theorem lifted (os : Os) (started : os.Started) (H : Type) (enc : TypeId × Value → H) :
    ReturnsInHanded {} Try.checked os 3 .any (Rows.inferHeardSpec.pre6 enc Try.prog Try.f3 Rows.inferHeardRow.domain false) (Rows.inferHeardSpec.post enc Try.prog Try.f3 false true false false) := by
  refine returnsInHanded_of_change (C := Try.checked) own started (by kernel_rfl) Try.func3
    (ChangeSpec.witness6 (enc := enc) (C := Try.checked) false ⟨#[], #[.int .i64 0, .int .i64 0, .int .i64 0, .int .i64 0, .agg #[.int .u32 0, .int .u32 0, .int .u32 0, .int .u32 0], .slice none 0 0], []⟩ 8 (by kernel_rfl) (by kernel_rfl) (by kernel_rfl) (by kernel_rfl)) ?_
  intro W base args ds gs before hval0 hW hcnd _
  have hval : ∀ (j : Nat) t v, Try.f3.params[j]? = some t → args[j]? = some v → Value.okWide Try.prog W .any base t v := hval0
  have hW' := hW
  obtain ⟨p, q, hA0, hV, rfl, hfz, hnd⟩ := hW
  have hA : DataW.TrodAll enc Try.prog W 0 (fun _ => true) true Try.f3.params.toList args.toList ds p := hA0
  rw [Try.params3] at hA hval
  obtain ⟨v0, vs0, d0, ds0, p0, q0, hargs, rfl, rfl, h0, r0⟩ := trodAll_cons hA
  obtain ⟨v1, vs1, d1, ds1, p1, q1, rfl, rfl, rfl, h1, r1⟩ := trodAll_cons r0
  obtain ⟨v2, vs2, d2, ds2, p2, q2, rfl, rfl, rfl, h2, r2⟩ := trodAll_cons r1
  obtain ⟨v3, vs3, d3, ds3, p3, q3, rfl, rfl, rfl, h3, r3⟩ := trodAll_cons r2
  obtain ⟨v4, vs4, d4, ds4, p4, q4, rfl, rfl, rfl, h4, r4⟩ := trodAll_cons r3
  obtain ⟨v5, vs5, d5, ds5, p5, q5, rfl, rfl, rfl, h5, r5⟩ := trodAll_cons r4
  obtain ⟨rfl, rfl, rfl⟩ := trodAll_nil r5
  obtain rfl : args = #[v0, v1, v2, v3, v4, v5] := by cases args; simp_all
  obtain ⟨rfl, rfl⟩ := trodVars_none hV
  obtain ⟨a0, rfl, rfl, rfl, w0⟩ := open_int Try.underlying3 (hval 0 3 v0 rfl rfl) h0
  obtain ⟨a1, rfl, rfl, rfl, w1⟩ := open_int Try.underlying3 (hval 1 3 v1 rfl rfl) h1
  obtain ⟨a2, rfl, rfl, rfl, w2⟩ := open_int Try.underlying3 (hval 2 3 v2 rfl rfl) h2
  obtain ⟨a3, rfl, rfl, rfl, w3⟩ := open_int Try.underlying3 (hval 3 3 v3 rfl rfl) h3
  obtain ⟨N4, hN4, rfl, rfl, rfl⟩ := open_set (hval 4 24 v4 rfl rfl) h4
  have k5 := h5
  have lt5 : ∀ x ∈ p5, x.block < W.heap.size := by obtain ⟨m, hm⟩ := k5; exact DataW.trod_lt m _ _ _ hm
  obtain ⟨ad5, cap5, l5, rfl, w5, hc5, hm5⟩ := open_reps (hval 5 25 v5 rfl rfl) h5
  clear hA0 hval0
  refine (walk W a0 w0 a1 w1 a2 w2 a3 w3 N4 hN4 ad5 cap5 l5 w5 hc5 hm5).mono fun e W' ⟨he, hg⟩ => ?_
  subst he
  exact ⟨_, rfl, _, _, _, [], _, [], hW', (trodAll_cons_mk (shut_bool Try.underlying4 _) trodAll_mk0), (trodAll_cons_mk (shut_int Try.underlying3 w0) (trodAll_cons_mk (shut_int Try.underlying3 w1) (trodAll_cons_mk (shut_int Try.underlying3 w2) (trodAll_cons_mk (shut_int Try.underlying3 w3) (trodAll_cons_mk (shut_set N4) (trodAll_cons_mk (Below.trod laidOut (by kernel_rfl) (of_decide_eq_true (by kernel_rfl)) k5 hg lt5) trodAll_mk0)))))), rfl, hg.frame _, fun h => by cases h⟩

theorem over : Rows.inferHeardRow.holds Try.pinned (OpenSpec.ofChange Rows.inferHeardSpec) :=
  OpenClaim.holds_of_wide 3 Try.f3 rfl rfl rfl rfl rfl rfl rfl ⟨rfl, rfl, rfl, rfl, rfl⟩ rfl rfl rfl rfl rfl (by kernel_rfl) Try.func3 (by kernel_rfl)
    (of_decide_eq_true (by kernel_rfl)) (by unfold Func.isWrapper; first | (rw [if_pos (by decide +kernel)]; kernel_rfl) | (rw [if_neg (by decide +kernel)]; exact ⟨rfl, rfl⟩))
    (fun os started H enc _ => lifted os started H enc)

theorem proved : Rows.InferHeardSaid :=
  over
#print axioms proved
end Go.Proofs.Ytgehmidalfajgaa
