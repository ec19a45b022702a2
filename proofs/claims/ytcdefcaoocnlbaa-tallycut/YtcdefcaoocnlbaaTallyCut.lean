/- TallyCut (promises P1303, P1305): as many have replied as were Counted, and the node itself; never more than n - f; each in the set, with its own set, in their order. For every tally that New makes and every list of at most 300 replies; else alive alone. -/
import Derived.Test.YtcdefcaoocnlbaaRows
import Derived.WalkKit
import Derived.ProofKit
import Derived.OpenShut
import Derived.Test.YtcdefcaoocnlbaaTyj
namespace Go.Proofs.Ytcdefcaoocnlbaa
open Go.ChangeShapes Go.WideShapes Go.ChangeAt Go.RowKit
set_option linter.unusedVariables false

theorem laidOut : laidOutB Try.prog = true := by kernel_rfl
theorem own : ownKnob Try.prog.godebug = none := by kernel_rfl
set_option maxHeartbeats 32000000 in
set_option maxRecDepth 100000 in
theorem walk (w : World) (a0 : Int) (w0 : (Lit.int .i64 a0).wf = true) (a1 : Int) (w1 : (Lit.int .i64 a1).wf = true) (a2 : Int) (w2 : (Lit.int .i64 a2).wf = true) (a3 : Int) (w3 : (Lit.int .i64 a3).wf = true) (N4 : Nat) (hN4 : N4 < S128) (ad5 : Option Addr) (cap5 : Nat) (l5 : List Rp) (w5 : RdP w w.heap.size ad5 l5) (hc5 : l5.length ≤ cap5) (hm5 : cap5 ≤ maxLen) :
    Calls Try.prog 3 #[.int .i64 a0, .int .i64 a1, .int .i64 a2, .int .i64 a3, sv N4, .slice ad5 l5.length cap5] w fun e w' => e = .returned (.bool true) ∧ Below w.heap.size w w' := by
  have hmx : Try.prog.follows .mixedOrders = true := by kernel_rfl
  obtain ⟨w1, hw1⟩ : ∃ w1, w.alloc (.cells #[.int .u32 (wd N4 0 : Nat), .int .u32 (wd N4 1 : Nat), .int .u32 (wd N4 2 : Nat), .int .u32 (wd N4 3 : Nat)] 24) = w1 := ⟨_, rfl⟩
  have hb1 : Below w.heap.size w w1 := by rw [← hw1]; exact al1' _ _
  have g1 : Holds4 w1 w.heap.size (wd N4) := by rw [← hw1]; exact new_at rfl
  obtain ⟨y0, y1, y2, y3, _⟩ := g1.facts
  have G1 : Hid (Holds4 w1 w.heap.size (wd N4)) := g1
  clear g1
  by_cases hE : nwE a0 a1 a2 a3 N4 = 0
  case neg =>
    have hn := new_no a0 a1 a2 a3 N4 hN4 hE w1
    obtain ⟨E, hEE⟩ : ∃ E, nwE a0 a1 a2 a3 N4 = E := ⟨_, rfl⟩
    rw [hEE] at hn hE
    have HE : Hid (¬ E = 0) := hE
    simp only [sv] at hn ⊢
    go_enter Try.func3, Try.ntmps3
    go_wp2_with (first
      | (go_at_call 8; (with_reducible refine hn.mono ?_); rintro e u ⟨rfl, hu⟩; have hal := alive_any u)
      | (go_at_call 9; (with_reducible refine hal.mono ?_); rintro e u2 ⟨rfl, hu2⟩))
    go_ret
    exact ⟨rfl, bel2 (bel2 hb1 hu) hu2⟩
  have hn := new_ok a0 a1 a2 a3 N4 hN4 hE w1
  have hv0 := Tv.new hN4 hE
  obtain ⟨t0, ht0⟩ : ∃ t0, nwT a0 a1 a2 a3 N4 = t0 := ⟨_, rfl⟩
  have hro : t0.ro = a3 := by rw [← ht0]; rfl
  rw [ht0] at hn hv0
  by_cases hlong : 300 < (l5.length : Int)
  case pos =>
    simp only [sv] at hn ⊢
    go_enter Try.func3, Try.ntmps3
    go_wp2_with (first
      | (go_at_call 8; (with_reducible refine hn.mono ?_); rintro e u ⟨q, ad, cap, rfl, hT, hu⟩; have hal := alive_any u)
      | (go_at_call 9; (with_reducible refine hal.mono ?_); rintro e u2 ⟨rfl, hu2⟩))
    go_ret
    exact ⟨rfl, bel2 (bel2 hb1 hu) hu2⟩
  have hS : ∀ o ∈ l5, o.N < S128 := fun o ho => by
    obtain ⟨n, hn⟩ := List.mem_iff_getElem?.1 ho
    obtain ⟨_, _, _, _, _, _, _, h⟩ := w5 n o hn
    exact h
  have hSk : ∀ k, Tv (run t0 (l5.take k)) := fun k => hv0.run _ (fun o ho => hS o (List.mem_of_mem_take ho))
  have hl300 : l5.length ≤ 300 := by omega
  have hc0 := Cw.new hE
  rw [ht0] at hc0
  have hh0 : t0.hs = [N4] := by rw [← ht0]; rfl
  have hneed : t0.need = a0 - a1 := by rw [← ht0]; rfl
  have hn0 : t0.n = a0 := by rw [← ht0]; rfl
  have hok := nw_ok hE
  simp only [sv] at hn ⊢
  go_enter Try.func3, Try.ntmps3
  go_wp2_with (go_at_call 8; (with_reducible refine hn.mono ?_); rintro e u ⟨q, ad, cap, rfl, hT, hu⟩; have G2 : Hid (Holds4 u w.heap.size (wd N4)) := G1.out.carry hu; obtain ⟨x0, x1, x2, x3, _⟩ := G2.out.facts)
  obtain ⟨B, hB⟩ : ∃ B, w1.heap.size = B := ⟨_, rfl⟩
  rw [hB] at hT
  have hwB : w.heap.size ≤ B := by rw [← hB]; exact hb1.size
  have hbu := bel2 hb1 hu
  have hst := Lw.start hT hbu hc0 hh0
  clear hn y0 y1 y2 y3 x0 x1 x2 x3 G2 hT ht0
  go_loopw [15, 16, 17] (fun c h i wz => ∃ k : Nat, i = .int .i64 k ∧ k ≤ l5.length ∧ Lw w B q (run t0 (l5.take k)) c h wz) (fun _ _ i _ => l5.length - vnat i)
  case atStart => exact ⟨0, rfl, Nat.zero_le _, hst⟩
  case round =>
    obtain ⟨k, rfl, hk, hLw⟩ := hrel
    obtain ⟨t, htt⟩ : ∃ t, run t0 (l5.take k) = t := ⟨_, rfl⟩
    have hvt : Tv t := by rw [← htt]; exact hSk k
    rw [htt] at hLw
    obtain ⟨ad, cap, aw, cw, ah, ch, wh, rfl, rfl, hT, hbw, hrw0, hap0, hrh0, hnn, hcw⟩ := hLw
    obtain ⟨nn, hnnn⟩ : ∃ nn, t.hs.length = nn := ⟨_, rfl⟩
    rw [hnnn] at hnn hrw0 hrh0
    have hn100 : nn ≤ 100 := by have := hvt.len; have := hvt.d1; have := hvt.n1; omega
    by_cases hkl : k < l5.length
    · have hki : (k : Int) < (l5.length : Int) := by omega
      obtain ⟨o, ho⟩ : ∃ o, l5[k]? = some o := ⟨_, List.getElem?_eq_getElem hkl⟩
      obtain ⟨b, off, rfl, hbB, hAt, _, _, hN⟩ := w5 k o ho
      have hat : ∀ V, Jt wr B q ad cap t o false V → RpAt V b (off + k * 6) o := fun V hV => (hAt.carry hbw hbB).carry (show Below wr.heap.size wr V from hV) (Nat.lt_of_lt_of_le hbB hbw.size)
      have hBw : B ≤ wr.heap.size := Nat.le_trans hT.qb (Nat.le_of_lt hT.lt)
      obtain ⟨KD, hKD⟩ : ∃ z, kd (fto t o) = z := ⟨_, rfl⟩
      obtain ⟨KE, hKE⟩ : ∃ z, ke (fto t o) = z := ⟨_, rfl⟩
      obtain ⟨RD, hRD⟩ : ∃ z, rdy t = z := ⟨_, rfl⟩
      have hrd := ready_any hT
      rw [hRD] at hrd
      have hgo : ∀ V, Jt wr B q ad cap t o false V → Calls Try.prog 11 #[.pointer (some ⟨q, 0, none⟩), .int .i64 o.f, .int .i64 o.r, sv o.N] V fun e w' => e = .returned (.tuple #[.int .i64 KD, .int .i64 KE]) ∧ Jt wr B q ad cap t o true w' := fun V hV => by
        rw [← hKD, ← hKE]
        exact hV.go hT hvt hBw hN
      rw [hnnn]
      go_wp2_with (go_at_call 10; (with_reducible refine hrd.mono ?_); rintro e v ⟨rfl, hv⟩; obtain rfl := hv.symm)
      refine wp_region_any hmx ?_
      refine wpAny_tabG (G := Unit) (fun g i__ => ([(.pointer (some ⟨q, 0, none⟩)), (.slice (some ⟨b, off, none⟩) l5.length cap5), (.int .i64 (k : Int)), (.pointer (some ⟨b, off + k * 6, none⟩)), (.pointer (some ⟨b, off + k * 6, none⟩)), (.int .i64 o.f), (.slice (some ⟨b, off, none⟩) l5.length cap5), (.int .i64 (k : Int)), (.pointer (some ⟨b, off + k * 6, none⟩)), (.pointer (some ⟨b, off + k * 6 + 1, none⟩)), (.int .i64 o.r), (.slice (some ⟨b, off, none⟩) l5.length cap5), (.int .i64 (k : Int)), (.pointer (some ⟨b, off + k * 6, none⟩)), (.pointer (some ⟨b, off + k * 6 + 2, none⟩)), (sv o.N), (.tuple #[.int .i64 KD, .int .i64 KE]), (.tuple #[.int .i64 KD, .int .i64 KE]), (.int .i64 KD), (.int .i64 KE), (.int .i64 KD), (.int .i64 KE)] : List Value).getD i__ undef) (fun g d V => Jt wr B q ad cap t o (d 16) V) (by kernel_rfl) (()) (show Jt wr B q ad cap _ o false _ from (Below.refl _ _).drew) ?step1 ?fin1
      case step1 =>
        intro i o ho
        have hi : i < 22 := getElem?_lt ho
        match i, hi, ho with
        | 0, _, ho =>
          cases ho
          refine stepG_ofC (fun g d hun hdep hcl => ?_)
          exact step_move rfl trivial _ rfl (by kernel_rfl)
        | 1, _, ho =>
          cases ho
          refine stepG_ofC (fun g d hun hdep hcl => ?_)
          exact step_move rfl trivial _ rfl (by kernel_rfl)
        | 2, _, ho =>
          cases ho
          refine stepG_ofC (fun g d hun hdep hcl => ?_)
          exact step_move rfl trivial _ rfl (by kernel_rfl)
        | 3, _, ho =>
          cases ho
          refine stepG_ofC (fun g d hun hdep hcl => ?_)
          exact step_indexAddr rfl trivial _ _ _ _ _ rfl rfl rfl (fun v hw => idx_rp b off _ _ k hkl v)
        | 4, _, ho =>
          cases ho
          refine stepG_ofC (fun g d hun hdep hcl => ?_)
          exact step_fieldAddr rfl trivial _ _ _ _ rfl rfl (fun v hw => field_rp0 v _ _)
        | 5, _, ho =>
          cases ho
          refine stepG_ofC (fun g d hun hdep hcl => ?_)
          exact step_load rfl trivial _ _ _ rfl rfl (fun v hw => by have h16 : d 16 = false := (by cases h : d 16 with | false => rfl | true => exact absurd (hcl 16 _ rfl h 5 (by kernel_rfl)) (by rw [hun]; simp)); have hw' := hw; rw [h16] at hw'; exact (hat v hw').f0)
        | 6, _, ho =>
          cases ho
          refine stepG_ofC (fun g d hun hdep hcl => ?_)
          exact step_move rfl trivial _ rfl (by kernel_rfl)
        | 7, _, ho =>
          cases ho
          refine stepG_ofC (fun g d hun hdep hcl => ?_)
          exact step_move rfl trivial _ rfl (by kernel_rfl)
        | 8, _, ho =>
          cases ho
          refine stepG_ofC (fun g d hun hdep hcl => ?_)
          exact step_indexAddr rfl trivial _ _ _ _ _ rfl rfl rfl (fun v hw => idx_rp b off _ _ k hkl v)
        | 9, _, ho =>
          cases ho
          refine stepG_ofC (fun g d hun hdep hcl => ?_)
          exact step_fieldAddr rfl trivial _ _ _ _ rfl rfl (fun v hw => field_rp1 v _ _)
        | 10, _, ho =>
          cases ho
          refine stepG_ofC (fun g d hun hdep hcl => ?_)
          exact step_load rfl trivial _ _ _ rfl rfl (fun v hw => by have h16 : d 16 = false := (by cases h : d 16 with | false => rfl | true => exact absurd (hcl 16 _ rfl h 10 (by kernel_rfl)) (by rw [hun]; simp)); have hw' := hw; rw [h16] at hw'; exact (hat v hw').f1)
        | 11, _, ho =>
          cases ho
          refine stepG_ofC (fun g d hun hdep hcl => ?_)
          exact step_move rfl trivial _ rfl (by kernel_rfl)
        | 12, _, ho =>
          cases ho
          refine stepG_ofC (fun g d hun hdep hcl => ?_)
          exact step_move rfl trivial _ rfl (by kernel_rfl)
        | 13, _, ho =>
          cases ho
          refine stepG_ofC (fun g d hun hdep hcl => ?_)
          exact step_indexAddr rfl trivial _ _ _ _ _ rfl rfl rfl (fun v hw => idx_rp b off _ _ k hkl v)
        | 14, _, ho =>
          cases ho
          refine stepG_ofC (fun g d hun hdep hcl => ?_)
          exact step_fieldAddr rfl trivial _ _ _ _ rfl rfl (fun v hw => field_rp2 v _ _)
        | 15, _, ho =>
          cases ho
          refine stepG_ofC (fun g d hun hdep hcl => ?_)
          exact step_load rfl trivial _ _ _ rfl rfl (fun v hw => by have h16 : d 16 = false := (by cases h : d 16 with | false => rfl | true => exact absurd (hcl 16 _ rfl h 15 (by kernel_rfl)) (by rw [hun]; simp)); have hw' := hw; rw [h16] at hw'; exact (hat v hw').f2)
        | 16, _, ho =>
          cases ho
          refine stepG_ofC (fun g d hun hdep hcl => ?_)
          exact step_call rfl trivial 11 _ _ [(.pointer (some ⟨q, 0, none⟩)), (.int .i64 o.f), (.int .i64 o.r), (sv o.N)] rfl (by kernel_rfl) (enters_of Try.func11 (by kernel_rfl) rfl) (fun v hw => by have hw' := hw; rw [hun] at hw'; exact hgo v hw')
        | 17, _, ho =>
          cases ho
          refine stepG_ofC (fun g d hun hdep hcl => ?_)
          exact step_move rfl trivial _ rfl (by kernel_rfl)
        | 18, _, ho =>
          cases ho
          refine stepG_ofC (fun g d hun hdep hcl => ?_)
          exact step_extract rfl trivial _ _ _ rfl rfl (fun v hw => ext2_0 _ _ v)
        | 19, _, ho =>
          cases ho
          refine stepG_ofC (fun g d hun hdep hcl => ?_)
          exact step_extract rfl trivial _ _ _ rfl rfl (fun v hw => ext2_1 _ _ v)
        | 20, _, ho =>
          cases ho
          refine stepG_ofC (fun g d hun hdep hcl => ?_)
          exact step_assign rfl trivial _ rfl (by kernel_rfl) (fun _ h => h)
        | 21, _, ho =>
          cases ho
          refine stepG_ofC (fun g d hun hdep hcl => ?_)
          exact step_assign rfl trivial _ rfl (by kernel_rfl) (fun _ h => h)
      intro g d W hall hW
      first | refine hK _ _ ?_ | refine (‹∀ (a : Act) (w : World), Code.wp Try.prog _ _ a w → _›) _ _ ?_ | skip
      simp only [finL, List.getD_cons_zero, List.getD_cons_succ, Nat.zero_add, Nat.reduceAdd, List.setIfInBounds_toArray, List.set_cons_zero, List.set_cons_succ]
      rw [hall 16 (by decide)] at hW
      obtain ⟨ad', cap', hT', hn', _⟩ := hW
      have hB' : Below w.heap.size w W := hbw.trans ((hT.below hn').mono hwB)
      obtain ⟨hrw, hapw⟩ := tn_row hT hn' hrw0 hap0
      have hrh := tn_rowI hT hn' hrh0
      obtain ⟨hs, hhs0⟩ : ∃ hs, t.hs = hs := ⟨_, rfl⟩
      have hhs : hs.length = nn := by rw [← hhs0]; exact hnnn
      rw [hhs0] at hrw
      clear hall hn' hrw0 hap0 hrh0 hgo hat hrd
      have hi6 : fto t o = 0 ∨ fto t o = 1 ∨ fto t o = 2 ∨ fto t o = 3 ∨ fto t o = 4 ∨ fto t o = 5 := by have := fate_lt t o.f o.r o.N; unfold fto; omega
      rcases hi6 with hi | hi | hi | hi | hi | hi
      · rw [hi] at hKD hKE
        obtain rfl : KD = 5 := hKD.symm
        obtain rfl : KE = 0 := hKE.symm
        clear hKD hKE
        have h5 : fto t o ≠ 5 := by omega
        rw [tko_same h5] at hT'
        have HL : Hid (Lw w B q t (.slice aw nn cw) (.slice ah nn ch) W) := Lw.of hhs0 hhs hT' hB' hrw hapw hrh hnn hcw
        go_wp2
        go_roundw
        case rel => exact ⟨k + 1, by simp, by omega, by rw [run_succ t0 l5 k o ho, htt, tko_same h5]; exact HL.out⟩
        case measure => simp [vnat]; omega
      · rw [hi] at hKD hKE
        obtain rfl : KD = 0 := hKD.symm
        obtain rfl : KE = 74 := hKE.symm
        clear hKD hKE
        have h5 : fto t o ≠ 5 := by omega
        rw [tko_same h5] at hT'
        have HL : Hid (Lw w B q t (.slice aw nn cw) (.slice ah nn ch) W) := Lw.of hhs0 hhs hT' hB' hrw hapw hrh hnn hcw
        go_wp2
        go_roundw
        case rel => exact ⟨k + 1, by simp, by omega, by rw [run_succ t0 l5 k o ho, htt, tko_same h5]; exact HL.out⟩
        case measure => simp [vnat]; omega
      · rw [hi] at hKD hKE
        obtain rfl : KD = 2 := hKD.symm
        obtain rfl : KE = 0 := hKE.symm
        clear hKD hKE
        have h5 : fto t o ≠ 5 := by omega
        rw [tko_same h5] at hT'
        have HL : Hid (Lw w B q t (.slice aw nn cw) (.slice ah nn ch) W) := Lw.of hhs0 hhs hT' hB' hrw hapw hrh hnn hcw
        go_wp2
        go_roundw
        case rel => exact ⟨k + 1, by simp, by omega, by rw [run_succ t0 l5 k o ho, htt, tko_same h5]; exact HL.out⟩
        case measure => simp [vnat]; omega
      · rw [hi] at hKD hKE
        obtain rfl : KD = 3 := hKD.symm
        obtain rfl : KE = 0 := hKE.symm
        clear hKD hKE
        have h5 : fto t o ≠ 5 := by omega
        rw [tko_same h5] at hT'
        have HL : Hid (Lw w B q t (.slice aw nn cw) (.slice ah nn ch) W) := Lw.of hhs0 hhs hT' hB' hrw hapw hrh hnn hcw
        go_wp2
        go_roundw
        case rel => exact ⟨k + 1, by simp, by omega, by rw [run_succ t0 l5 k o ho, htt, tko_same h5]; exact HL.out⟩
        case measure => simp [vnat]; omega
      · rw [hi] at hKD hKE
        obtain rfl : KD = 4 := hKD.symm
        obtain rfl : KE = 0 := hKE.symm
        clear hKD hKE
        have h5 : fto t o ≠ 5 := by omega
        rw [tko_same h5] at hT'
        have HL : Hid (Lw w B q t (.slice aw nn cw) (.slice ah nn ch) W) := Lw.of hhs0 hhs hT' hB' hrw hapw hrh hnn hcw
        obtain rfl : RD = true := by rw [← hRD]; exact fto_4 hi
        go_wp2
        go_roundw
        case rel => exact ⟨k + 1, by simp, by omega, by rw [run_succ t0 l5 k o ho, htt, tko_same h5]; exact HL.out⟩
        case measure => simp [vnat]; omega
      · rw [hi] at hKD hKE
        obtain rfl : KD = 1 := hKD.symm
        obtain rfl : KE = 0 := hKE.symm
        clear hKD hKE
        have h5 : fto t o = 5 := hi
        have h5' := h5
        unfold fto at h5'
        rw [fate_5] at h5'
        obtain rfl : RD = false := by rw [← hRD]; exact h5'.2.2.2.2
        have hro3 : o.r = a3 := by rw [h5'.2.2.1, ← htt, (run_ro _ _).1, hro]
        have hcwS := hcw.step hvt h5
        have hAtW : RpAt W b (off + k * 6) o := hAt.carry hB' hbB
        obtain ⟨_, c1, _⟩ := hAtW
        rw [hro3] at c1
        have hat2 : ∀ V, Below w.heap.size w V → RpAt V b (off + k * 6) o := fun V hV => hAt.carry hV hbB
        rw [tko_cnt h5] at hT'
        obtain ⟨t2, ht2⟩ : ∃ t2, cntT t o.f o.N = t2 := ⟨_, rfl⟩
        have hnn2 : wh.length = nn := hnn
        have hst : Jw w B q ad' cap' t2 aw cw hs ah ch wh o ((0, none, 0), (0, none, 0)) false false false false W := ⟨by rw [← ht2]; exact hT', hB', fun _ => ⟨by rw [hhs]; exact hrw, fun b2 e e2 => hapw b2 e e2⟩, (fun e => by cases e), fun _ => by rw [hnn2]; exact hrh, (fun e => by cases e), (fun e => by cases e), (fun e => by cases e)⟩
        have HST : Hid (Jw w B q ad' cap' t2 aw cw hs ah ch wh o ((0, none, 0), (0, none, 0)) false false false false W) := hst
        clear hst hT'
        go_wp2
        refine wp_region_any hmx ?_
        refine wpAny_tabG (G := ((Nat × Option Addr × Nat) × (Nat × Option Addr × Nat))) (fun g i__ => ([(.slice aw nn cw), (.slice (some ⟨b, off, none⟩) l5.length cap5), (.int .i64 (k : Int)), (.pointer (some ⟨b, off + k * 6, none⟩)), (.pointer (some ⟨b, off + k * 6 + 2, none⟩)), (sv o.N), (.slice (some ⟨g.1.1, 0, none⟩) 1 1), (.slice g.1.2.1 (nn + 1) g.1.2.2), (.slice ah nn ch), (.slice (some ⟨b, off, none⟩) l5.length cap5), (.int .i64 (k : Int)), (.pointer (some ⟨b, off + k * 6, none⟩)), (.pointer (some ⟨b, off + k * 6, none⟩)), (.int .i64 o.f), (.slice (some ⟨g.2.1, 0, none⟩) 1 1), (.slice g.2.2.1 (nn + 1) g.2.2.2), (.slice g.1.2.1 (nn + 1) g.1.2.2), (.slice g.2.2.1 (nn + 1) g.2.2.2)] : List Value).getD i__ undef) (fun g d V => Jw w B q ad' cap' t2 aw cw hs ah ch wh o g (d 6) (d 7) (d 14) (d 15) V) (by kernel_rfl) (((0, none, 0), (0, none, 0))) (show Jw w B q ad' cap' t2 aw cw hs ah ch wh o ((0, none, 0), (0, none, 0)) false false false false _ from HST.out.carry (Below.refl _ _).drew) ?step2 ?fin2
        case step2 =>
          intro i o ho
          have hi : i < 18 := getElem?_lt ho
          match i, hi, ho with
          | 0, _, ho =>
            cases ho
            refine stepG_ofC (fun g d hun hdep hcl => ?_)
            exact step_move rfl trivial _ rfl (by kernel_rfl)
          | 1, _, ho =>
            cases ho
            refine stepG_ofC (fun g d hun hdep hcl => ?_)
            exact step_move rfl trivial _ rfl (by kernel_rfl)
          | 2, _, ho =>
            cases ho
            refine stepG_ofC (fun g d hun hdep hcl => ?_)
            exact step_move rfl trivial _ rfl (by kernel_rfl)
          | 3, _, ho =>
            cases ho
            refine stepG_ofC (fun g d hun hdep hcl => ?_)
            exact step_indexAddr rfl trivial _ _ _ _ _ rfl rfl rfl (fun v hw => idx_rp b off _ _ k hkl v)
          | 4, _, ho =>
            cases ho
            refine stepG_ofC (fun g d hun hdep hcl => ?_)
            exact step_fieldAddr rfl trivial _ _ _ _ rfl rfl (fun v hw => field_rp2 v _ _)
          | 5, _, ho =>
            cases ho
            refine stepG_ofC (fun g d hun hdep hcl => ?_)
            exact step_load rfl trivial _ _ _ rfl rfl (fun v hw => (hat2 v hw.bl).f2)
          | 6, _, ho =>
            cases ho
            exact stepG_buildG rfl rfl _ _ (fun g => sv o.N) rfl (fun g => by kernel_rfl) (fun g d V hJ hun hdep hcl => by have h7 : d 7 = false := (by cases h : d 7 with | false => rfl | true => exact absurd (hcl 7 _ rfl h 6 (by kernel_rfl)) (by rw [hun]; simp)); have hJ' := hJ; rw [hun, h7] at hJ'; refine ⟨((V.heap.size, g.1.2), g.2), _, bs1S V o.N, (fun j hj => match j, hj with | 6, hj => (by rw [hj] at hun; cases hun)  | 0, _ => rfl | 1, _ => rfl | 2, _ => rfl | 3, _ => rfl | 4, _ => rfl | 5, _ => rfl | 7, _ => rfl | 8, _ => rfl | 9, _ => rfl | 10, _ => rfl | 11, _ => rfl | 12, _ => rfl | 13, _ => rfl | 14, _ => rfl | 15, _ => rfl | 16, _ => rfl | 17, _ => rfl | _ + 18, _ => rfl), ?_⟩; show Jw w B q ad' cap' t2 aw cw hs ah ch wh o _ true (d 7) (d 14) (d 15) _; rw [h7]; exact hJ'.bs0)
          | 7, _, ho =>
            cases ho
            exact stepG_append rfl rfl _ _ _ (fun _ => .slice aw nn cw) (fun g => .slice (some ⟨g.1.1, 0, none⟩) 1 1) rfl (fun g => by kernel_rfl) (fun g => by kernel_rfl) (fun g d V hJ hun hdep hcl => by have h6 : d 6 = true := hdep 6 (by kernel_rfl); have hJ' := hJ; rw [h6, hun] at hJ'; obtain ⟨a, c, V', hr, hA⟩ := hJ'.app0 (by omega) 31; rw [hhs] at hr; refine ⟨((g.1.1, a, c), g.2), V', hr, (fun j hj => match j, hj with | 7, hj => (by rw [hj] at hun; cases hun) | 16, hj => absurd ((hcl 16 _ rfl hj 7 (by kernel_rfl))) (by rw [hun]; simp) | 0, _ => rfl | 1, _ => rfl | 2, _ => rfl | 3, _ => rfl | 4, _ => rfl | 5, _ => rfl | 6, _ => rfl | 8, _ => rfl | 9, _ => rfl | 10, _ => rfl | 11, _ => rfl | 12, _ => rfl | 13, _ => rfl | 14, _ => rfl | 15, _ => rfl | 17, _ => rfl | _ + 18, _ => rfl), ?_⟩; show Jw w B q ad' cap' t2 aw cw hs ah ch wh o _ (d 6) true (d 14) (d 15) V'; rw [h6]; exact hA)
          | 8, _, ho =>
            cases ho
            refine stepG_ofC (fun g d hun hdep hcl => ?_)
            exact step_move rfl trivial _ rfl (by kernel_rfl)
          | 9, _, ho =>
            cases ho
            refine stepG_ofC (fun g d hun hdep hcl => ?_)
            exact step_move rfl trivial _ rfl (by kernel_rfl)
          | 10, _, ho =>
            cases ho
            refine stepG_ofC (fun g d hun hdep hcl => ?_)
            exact step_move rfl trivial _ rfl (by kernel_rfl)
          | 11, _, ho =>
            cases ho
            refine stepG_ofC (fun g d hun hdep hcl => ?_)
            exact step_indexAddr rfl trivial _ _ _ _ _ rfl rfl rfl (fun v hw => idx_rp b off _ _ k hkl v)
          | 12, _, ho =>
            cases ho
            refine stepG_ofC (fun g d hun hdep hcl => ?_)
            exact step_fieldAddr rfl trivial _ _ _ _ rfl rfl (fun v hw => field_rp0 v _ _)
          | 13, _, ho =>
            cases ho
            refine stepG_ofC (fun g d hun hdep hcl => ?_)
            exact step_load rfl trivial _ _ _ rfl rfl (fun v hw => (hat2 v hw.bl).f0)
          | 14, _, ho =>
            cases ho
            exact stepG_buildG rfl rfl _ _ (fun g => .int .i64 o.f) rfl (fun g => by kernel_rfl) (fun g d V hJ hun hdep hcl => by have h15 : d 15 = false := (by cases h : d 15 with | false => rfl | true => exact absurd (hcl 15 _ rfl h 14 (by kernel_rfl)) (by rw [hun]; simp)); have hJ' := hJ; rw [hun, h15] at hJ'; refine ⟨(g.1, (V.heap.size, g.2.2)), _, bsI V o.f, (fun j hj => match j, hj with | 14, hj => (by rw [hj] at hun; cases hun)  | 0, _ => rfl | 1, _ => rfl | 2, _ => rfl | 3, _ => rfl | 4, _ => rfl | 5, _ => rfl | 6, _ => rfl | 7, _ => rfl | 8, _ => rfl | 9, _ => rfl | 10, _ => rfl | 11, _ => rfl | 12, _ => rfl | 13, _ => rfl | 15, _ => rfl | 16, _ => rfl | 17, _ => rfl | _ + 18, _ => rfl), ?_⟩; show Jw w B q ad' cap' t2 aw cw hs ah ch wh o _ (d 6) (d 7) true (d 15) _; rw [h15]; exact hJ'.bs1)
          | 15, _, ho =>
            cases ho
            exact stepG_append rfl rfl _ _ _ (fun _ => .slice ah nn ch) (fun g => .slice (some ⟨g.2.1, 0, none⟩) 1 1) rfl (fun g => by kernel_rfl) (fun g => by kernel_rfl) (fun g d V hJ hun hdep hcl => by have h14 : d 14 = true := hdep 14 (by kernel_rfl); have hJ' := hJ; rw [h14, hun] at hJ'; obtain ⟨a, c, V', hr, hA⟩ := hJ'.app1 (by omega) 32; rw [hnn2] at hr; refine ⟨(g.1, (g.2.1, a, c)), V', hr, (fun j hj => match j, hj with | 15, hj => (by rw [hj] at hun; cases hun) | 17, hj => absurd ((hcl 17 _ rfl hj 15 (by kernel_rfl))) (by rw [hun]; simp) | 0, _ => rfl | 1, _ => rfl | 2, _ => rfl | 3, _ => rfl | 4, _ => rfl | 5, _ => rfl | 6, _ => rfl | 7, _ => rfl | 8, _ => rfl | 9, _ => rfl | 10, _ => rfl | 11, _ => rfl | 12, _ => rfl | 13, _ => rfl | 14, _ => rfl | 16, _ => rfl | _ + 18, _ => rfl), ?_⟩; show Jw w B q ad' cap' t2 aw cw hs ah ch wh o _ (d 6) (d 7) (d 14) true V'; rw [h14]; exact hA)
          | 16, _, ho =>
            cases ho
            refine stepG_ofC (fun g d hun hdep hcl => ?_)
            exact step_assign rfl trivial _ rfl (by kernel_rfl) (fun _ h => h)
          | 17, _, ho =>
            cases ho
            refine stepG_ofC (fun g d hun hdep hcl => ?_)
            exact step_assign rfl trivial _ rfl (by kernel_rfl) (fun _ h => h)
        intro g d W hall hW
        first | refine hK _ _ ?_ | refine (‹∀ (a : Act) (w : World), Code.wp Try.prog _ _ a w → _›) _ _ ?_ | skip
        simp only [finL, List.getD_cons_zero, List.getD_cons_succ, Nat.zero_add, Nat.reduceAdd, List.setIfInBounds_toArray, List.set_cons_zero, List.set_cons_succ]
        rw [hall 6 (by decide), hall 7 (by decide), hall 14 (by decide), hall 15 (by decide)] at hW
        have HL : Hid (Lw w B q (run t0 (l5.take (k + 1))) (.slice g.1.2.1 (nn + 1) g.1.2.2) (.slice g.2.2.1 (nn + 1) g.2.2.2) W) := by
          have e1 : run t0 (l5.take (k + 1)) = t2 := by rw [run_succ t0 l5 k o ho, htt, tko_cnt h5, ht2]
          have e2 : t2.hs = hs ++ [o.N] := by rw [← ht2]; simp [cntT, hhs0]
          rw [e1]
          have h1 := hW.r1 rfl
          have h2 := hW.i1 rfl
          rw [hhs] at h1
          rw [hnn2] at h2
          rw [tko_cnt h5, ht2] at hcwS
          exact Lw.of e2 (by simp [hhs]) hW.ta hW.bl h1.1 h1.2 h2 (by simp [hnn2]) hcwS
        clear hW hall
        go_wp2
        go_roundw
        case rel => exact ⟨k + 1, by simp, by omega, HL.out⟩
        case measure => simp [vnat]; omega
    · have hkk : k = l5.length := by omega
      subst hkk
      have hki : ¬ ((l5.length : Int) < (l5.length : Int)) := by omega
      rw [List.take_length] at htt
      have hnd : t.need = a0 - a1 := by rw [← htt, (run_ro l5 t0).2.2, hneed]
      have hrdy : rdy t = decide ((nn : Int) = a0 - a1) := by
        have := hvt.d2
        have h1 : 0 < t.n := by rw [← htt, (run_ro l5 t0).2.1, hn0]; omega
        unfold rdy
        rw [hnnn, hnd]
        exact decide_eq_decide.2 ⟨fun h => h.2, fun h => ⟨by omega, h⟩⟩
      have hle : (nn : Int) ≤ a0 - a1 := by rw [← hnd, ← hnnn]; exact hvt.len
      have hof := of_anyO wh ah ch (by omega) wr (inV_ints (by rw [hnn]; exact hrh0))
      rw [hcw.of, hnn] at hof
      obtain ⟨R, hR⟩ : ∃ R, t.reps = R := ⟨_, rfl⟩
      have hRR : R < S100 := by rw [← hR]; exact hvt.reps
      have hcR : cnt (cln R) = nn := by rw [cln_id hRR, ← hR, hcw.cn, hnn]
      rw [hR] at hof
      simp only [ofV, sv] at hof
      have hrs0 : RdS wr aw t.hs := RdS.own (by rw [hnnn]; exact hrw0)
      have HT : Hid (Ta wr B q ad cap t) := hT
      rw [hnnn]
      clear hT hrw0 hrh0
      go_wp2_with (first
        | (go_at_call 12; (with_reducible refine hof.mono ?_); rintro e u2 ⟨rfl, hbw2⟩; obtain ⟨u3, hu3⟩ : ∃ u3, u2.alloc (.cells #[.int .u32 0, .int .u32 0, .int .u32 0, .int .u32 0] 24) = u3 := ⟨_, rfl⟩; have G3 : Hid (Holds4 u3 u2.heap.size (fun _ => 0)) := (by rw [← hu3]; exact new_at rfl); have hbw3 : Below wr.heap.size wr u3 := (by rw [← hu3]; exact bel2 hbw2 (al1' _ _)))
        | (refine wpList_store_row rfl 24 (.tmp 21) (.tmp 113) rfl u2.heap.size (cells4 (wd R)) rfl rfl 24 _ G3.out infoS rfl (by simp [cells4, Value.oneCell']) ?_; obtain ⟨u4, hu4⟩ : ∃ v, u3.setRow u2.heap.size (cells4 (wd R)) = v := ⟨_, rfl⟩; have G4 : Hid (Holds4 u4 u2.heap.size (wd R)) := (by rw [← hu4]; exact setRow_heap _ _ _ _ _ _ G3.out); have hbw4 : Below wr.heap.size wr u4 := (by rw [← hu4]; exact below_row hbw3 hbw2.size _); rw [hu4]))
      have hT4 := HT.out.carry hbw4
      have hrs4 := hrs0.carry hbw4
      have hb04 : Below w.heap.size w u4 := bel2 hbw hbw4
      have hwh : ∀ V, Below u4.heap.size u4 V → Holds4 V u2.heap.size (wd R) := fun V hV => G4.out.carry hV
      have hsy : ∀ V g, Below u4.heap.size u4 V → RdS V g t.hs → ∀ c, Calls Try.prog 16 #[.slice g nn c, .slice aw nn cw] V fun e w' => e = .returned (.bool true) ∧ Below V.heap.size V w' := fun V g hV hg c => by
        rw [← hnnn]
        exact sets_yes g aw c cw t.hs V hg (hrs4.carry hV) (by omega) hvt.each
      have hhe : ∀ V, Below u4.heap.size u4 V → Calls Try.prog 17 #[.pointer (some ⟨q, 0, none⟩)] V fun e w' => ∃ a c, e = .returned (.slice a nn c) ∧ RdS w' a t.hs ∧ Below V.heap.size V w' := fun V hV => by
        rw [← hnnn]
        refine (heards_any (hT4.carry hV) (by omega)).mono ?_
        rintro e w' ⟨a, c, rfl, h1, h2⟩
        exact ⟨a, c, rfl, RdS.own h1, h2⟩
      have hre : ∀ V, Below u4.heap.size u4 V → Calls Try.prog 13 #[.pointer (some ⟨q, 0, none⟩)] V fun e w' => e = .returned (sv R) ∧ Below V.heap.size V w' := fun V hV => by
        rw [← hR]
        exact reps_any (hT4.carry hV)
      have hha : ∀ V, Below u4.heap.size u4 V → Calls Try.prog 15 #[.pointer (some ⟨q, 0, none⟩)] V fun e w' => e = .returned (.int .i64 (nn : Int)) ∧ w' = V := fun V hV => by
        rw [← hnnn]
        exact have_any (hT4.carry hV)
      have hrd : ∀ V, Below u4.heap.size u4 V → Calls Try.prog 10 #[.pointer (some ⟨q, 0, none⟩)] V fun e w' => e = .returned (.bool (decide ((nn : Int) = a0 - a1))) ∧ w' = V := fun V hV => by
        rw [← hrdy]
        exact ready_any (hT4.carry hV)
      have hsub := i64_id (a0 - a1) (by omega) (by omega)
      refine wp_region_any hmx ?_
      refine wpAny_tabG (G := (Option Addr × Nat)) (fun g i__ => ([(.bool true), (.bool true), (.int .i64 0), (.bool true), (.bool true), (.bool true), (.pointer (some ⟨q, 0, none⟩)), (sv R), (sv R), (.bool true), (.bool true), (.bool true), (sv R), (.int .i64 (nn : Int)), (.slice ah nn ch), (.int .i64 (nn : Int)), (.bool true), (.bool true), (.bool true), (.pointer (some ⟨q, 0, none⟩)), (.int .i64 (nn : Int)), (.slice ah nn ch), (.int .i64 (nn : Int)), (.bool true), (.bool true), (.bool true), (.slice ah nn ch), (.int .i64 (nn : Int)), (.int .i64 a0), (.int .i64 a1), (.int .i64 (a0 - a1)), (.bool true), (.bool true), (.bool true), (.pointer (some ⟨q, 0, none⟩)), (.bool (decide ((nn : Int) = a0 - a1))), (.slice ah nn ch), (.int .i64 (nn : Int)), (.int .i64 a0), (.int .i64 a1), (.int .i64 (a0 - a1)), (.bool (decide ((nn : Int) = a0 - a1))), (.bool true), (.bool true), (.bool true), (.pointer (some ⟨q, 0, none⟩)), (.slice g.1 nn g.2), (.slice aw nn cw), (.bool true), (.bool true), (.bool true)] : List Value).getD i__ undef) (fun g d V => Jh u4 t.hs g (d 46) V) (by kernel_rfl) ((none, 0)) (show Jh u4 t.hs (none, 0) false _ from ⟨(Below.refl _ _).drew, fun e => by cases e⟩) ?step3 ?fin3
      case step3 =>
        intro i o ho
        have hi : i < 51 := getElem?_lt ho
        match i, hi, ho with
        | 0, _, ho =>
          cases ho
          refine stepG_of (fun g d hdep => ?_)
          exact step_call rfl trivial 9 _ _ [] rfl (by kernel_rfl) (enters_of Try.func9 (by kernel_rfl) rfl) (fun v hw => (alive_any v).mono (by rintro e w2 ⟨rfl, hb⟩; exact ⟨rfl, hw.carry hb⟩))
        | 1, _, ho =>
          cases ho
          refine stepG_of (fun g d hdep => ?_)
          exact step_move rfl trivial _ rfl (by kernel_rfl)
        | 2, _, ho =>
          cases ho
          refine stepG_of (fun g d hdep => ?_)
          exact step_move rfl (by exact ⟨_, rfl, by kernel_rfl⟩) _ rfl (by kernel_rfl)
        | 3, _, ho =>
          cases ho
          refine stepG_of (fun g d hdep => ?_)
          exact step_binOp rfl (by exact ⟨_, rfl, by kernel_rfl⟩) _ _ _ _ _ _ _ rfl rfl rfl (fun v hw => bin_eql .i64 0 0)
        | 4, _, ho =>
          cases ho
          refine stepG_of (fun g d hdep => ?_)
          exact step_pick rfl trivial _ _ _ true rfl (by kernel_rfl) (by kernel_rfl)
        | 5, _, ho =>
          cases ho
          refine stepG_of (fun g d hdep => ?_)
          exact step_move rfl trivial _ rfl (by kernel_rfl)
        | 6, _, ho =>
          cases ho
          refine stepG_of (fun g d hdep => ?_)
          exact step_move rfl (by exact ⟨_, rfl, by kernel_rfl⟩) _ rfl (by kernel_rfl)
        | 7, _, ho =>
          cases ho
          refine stepG_of (fun g d hdep => ?_)
          exact step_call rfl (by exact ⟨_, rfl, by kernel_rfl⟩) 13 _ _ [(.pointer (some ⟨q, 0, none⟩))] rfl (by kernel_rfl) (enters_of Try.func13 (by kernel_rfl) rfl) (fun v hw => (hre v hw.1).mono (by rintro e w2 ⟨rfl, hb⟩; exact ⟨rfl, hw.carry hb⟩))
        | 8, _, ho =>
          cases ho
          refine stepG_of (fun g d hdep => ?_)
          exact step_load rfl (by exact ⟨_, rfl, by kernel_rfl⟩) _ _ _ rfl rfl (fun v hw => whole4 v _ R (hwh v hw.1))
        | 9, _, ho =>
          cases ho
          refine stepG_of (fun g d hdep => ?_)
          exact step_binOp rfl (by exact ⟨_, rfl, by kernel_rfl⟩) _ _ _ _ _ _ _ rfl rfl rfl (fun v hw => eqls rfl (S100_S128 hRR) v)
        | 10, _, ho =>
          cases ho
          refine stepG_of (fun g d hdep => ?_)
          exact step_pick rfl trivial _ _ _ true rfl (by kernel_rfl) (by kernel_rfl)
        | 11, _, ho =>
          cases ho
          refine stepG_of (fun g d hdep => ?_)
          exact step_move rfl trivial _ rfl (by kernel_rfl)
        | 12, _, ho =>
          cases ho
          refine stepG_of (fun g d hdep => ?_)
          exact step_load rfl (by exact ⟨_, rfl, by kernel_rfl⟩) _ _ _ rfl rfl (fun v hw => whole4 v _ R (hwh v hw.1))
        | 13, _, ho =>
          cases ho
          refine stepG_of (fun g d hdep => ?_)
          exact step_call rfl (by exact ⟨_, rfl, by kernel_rfl⟩) 14 _ _ [(sv R)] rfl (by kernel_rfl) (enters_of Try.func14 (by kernel_rfl) rfl) (fun v hw => by have q := count_any R v; rw [hcR] at q; exact q.mono (by rintro e w2 ⟨rfl, hb⟩; exact ⟨rfl, hw.carry hb⟩))
        | 14, _, ho =>
          cases ho
          refine stepG_of (fun g d hdep => ?_)
          exact step_move rfl (by exact ⟨_, rfl, by kernel_rfl⟩) _ rfl (by kernel_rfl)
        | 15, _, ho =>
          cases ho
          refine stepG_of (fun g d hdep => ?_)
          exact step_bi rfl (by exact ⟨_, rfl, by kernel_rfl⟩) _ _ _ [(.slice ah nn ch)] rfl (by kernel_rfl) (fun cs v hw => bi_lenI _ cs _ _ _ v)
        | 16, _, ho =>
          cases ho
          refine stepG_of (fun g d hdep => ?_)
          exact step_binOp rfl (by exact ⟨_, rfl, by kernel_rfl⟩) _ _ _ _ _ _ _ rfl rfl rfl (fun v hw => (bin_eql .i64 _ _).trans (by simp))
        | 17, _, ho =>
          cases ho
          refine stepG_of (fun g d hdep => ?_)
          exact step_pick rfl trivial _ _ _ true rfl (by kernel_rfl) (by kernel_rfl)
        | 18, _, ho =>
          cases ho
          refine stepG_of (fun g d hdep => ?_)
          exact step_move rfl trivial _ rfl (by kernel_rfl)
        | 19, _, ho =>
          cases ho
          refine stepG_of (fun g d hdep => ?_)
          exact step_move rfl (by exact ⟨_, rfl, by kernel_rfl⟩) _ rfl (by kernel_rfl)
        | 20, _, ho =>
          cases ho
          refine stepG_of (fun g d hdep => ?_)
          exact step_call rfl (by exact ⟨_, rfl, by kernel_rfl⟩) 15 _ _ [(.pointer (some ⟨q, 0, none⟩))] rfl (by kernel_rfl) (enters_of Try.func15 (by kernel_rfl) rfl) (fun v hw => (hha v hw.1).mono (by rintro e w2 ⟨rfl, rfl⟩; exact ⟨rfl, hw⟩))
        | 21, _, ho =>
          cases ho
          refine stepG_of (fun g d hdep => ?_)
          exact step_move rfl (by exact ⟨_, rfl, by kernel_rfl⟩) _ rfl (by kernel_rfl)
        | 22, _, ho =>
          cases ho
          refine stepG_of (fun g d hdep => ?_)
          exact step_bi rfl (by exact ⟨_, rfl, by kernel_rfl⟩) _ _ _ [(.slice ah nn ch)] rfl (by kernel_rfl) (fun cs v hw => bi_lenI _ cs _ _ _ v)
        | 23, _, ho =>
          cases ho
          refine stepG_of (fun g d hdep => ?_)
          exact step_binOp rfl (by exact ⟨_, rfl, by kernel_rfl⟩) _ _ _ _ _ _ _ rfl rfl rfl (fun v hw => (bin_eql .i64 _ _).trans (by simp))
        | 24, _, ho =>
          cases ho
          refine stepG_of (fun g d hdep => ?_)
          exact step_pick rfl trivial _ _ _ true rfl (by kernel_rfl) (by kernel_rfl)
        | 25, _, ho =>
          cases ho
          refine stepG_of (fun g d hdep => ?_)
          exact step_move rfl trivial _ rfl (by kernel_rfl)
        | 26, _, ho =>
          cases ho
          refine stepG_of (fun g d hdep => ?_)
          exact step_move rfl (by exact ⟨_, rfl, by kernel_rfl⟩) _ rfl (by kernel_rfl)
        | 27, _, ho =>
          cases ho
          refine stepG_of (fun g d hdep => ?_)
          exact step_bi rfl (by exact ⟨_, rfl, by kernel_rfl⟩) _ _ _ [(.slice ah nn ch)] rfl (by kernel_rfl) (fun cs v hw => bi_lenI _ cs _ _ _ v)
        | 28, _, ho =>
          cases ho
          refine stepG_of (fun g d hdep => ?_)
          exact step_move rfl (by exact ⟨_, rfl, by kernel_rfl⟩) _ rfl (by kernel_rfl)
        | 29, _, ho =>
          cases ho
          refine stepG_of (fun g d hdep => ?_)
          exact step_move rfl (by exact ⟨_, rfl, by kernel_rfl⟩) _ rfl (by kernel_rfl)
        | 30, _, ho =>
          cases ho
          refine stepG_of (fun g d hdep => ?_)
          exact step_binOp rfl (by exact ⟨_, rfl, by kernel_rfl⟩) _ _ _ _ _ _ _ rfl rfl rfl (fun v hw => bin_sub64 _ _ _ hsub)
        | 31, _, ho =>
          cases ho
          refine stepG_of (fun g d hdep => ?_)
          exact step_binOp rfl (by exact ⟨_, rfl, by kernel_rfl⟩) _ _ _ _ _ _ _ rfl rfl rfl (fun v hw => (bin_leq .i64 _ _).trans (by simp [hle]))
        | 32, _, ho =>
          cases ho
          refine stepG_of (fun g d hdep => ?_)
          exact step_pick rfl trivial _ _ _ true rfl (by kernel_rfl) (by kernel_rfl)
        | 33, _, ho =>
          cases ho
          refine stepG_of (fun g d hdep => ?_)
          exact step_move rfl trivial _ rfl (by kernel_rfl)
        | 34, _, ho =>
          cases ho
          refine stepG_of (fun g d hdep => ?_)
          exact step_move rfl (by exact ⟨_, rfl, by kernel_rfl⟩) _ rfl (by kernel_rfl)
        | 35, _, ho =>
          cases ho
          refine stepG_of (fun g d hdep => ?_)
          exact step_call rfl (by exact ⟨_, rfl, by kernel_rfl⟩) 10 _ _ [(.pointer (some ⟨q, 0, none⟩))] rfl (by kernel_rfl) (enters_of Try.func10 (by kernel_rfl) rfl) (fun v hw => (hrd v hw.1).mono (by rintro e w2 ⟨rfl, rfl⟩; exact ⟨rfl, hw⟩))
        | 36, _, ho =>
          cases ho
          refine stepG_of (fun g d hdep => ?_)
          exact step_move rfl (by exact ⟨_, rfl, by kernel_rfl⟩) _ rfl (by kernel_rfl)
        | 37, _, ho =>
          cases ho
          refine stepG_of (fun g d hdep => ?_)
          exact step_bi rfl (by exact ⟨_, rfl, by kernel_rfl⟩) _ _ _ [(.slice ah nn ch)] rfl (by kernel_rfl) (fun cs v hw => bi_lenI _ cs _ _ _ v)
        | 38, _, ho =>
          cases ho
          refine stepG_of (fun g d hdep => ?_)
          exact step_move rfl (by exact ⟨_, rfl, by kernel_rfl⟩) _ rfl (by kernel_rfl)
        | 39, _, ho =>
          cases ho
          refine stepG_of (fun g d hdep => ?_)
          exact step_move rfl (by exact ⟨_, rfl, by kernel_rfl⟩) _ rfl (by kernel_rfl)
        | 40, _, ho =>
          cases ho
          refine stepG_of (fun g d hdep => ?_)
          exact step_binOp rfl (by exact ⟨_, rfl, by kernel_rfl⟩) _ _ _ _ _ _ _ rfl rfl rfl (fun v hw => bin_sub64 _ _ _ hsub)
        | 41, _, ho =>
          cases ho
          refine stepG_of (fun g d hdep => ?_)
          exact step_binOp rfl (by exact ⟨_, rfl, by kernel_rfl⟩) _ _ _ _ _ _ _ rfl rfl rfl (fun v hw => bin_eql .i64 _ _)
        | 42, _, ho =>
          cases ho
          refine stepG_of (fun g d hdep => ?_)
          exact step_binOp rfl (by exact ⟨_, rfl, by kernel_rfl⟩) _ _ _ _ _ _ _ rfl rfl rfl (fun v hw => eqB_t _ _ v _)
        | 43, _, ho =>
          cases ho
          refine stepG_of (fun g d hdep => ?_)
          exact step_pick rfl trivial _ _ _ true rfl (by kernel_rfl) (by kernel_rfl)
        | 44, _, ho =>
          cases ho
          refine stepG_of (fun g d hdep => ?_)
          exact step_move rfl trivial _ rfl (by kernel_rfl)
        | 45, _, ho =>
          cases ho
          refine stepG_of (fun g d hdep => ?_)
          exact step_move rfl (by exact ⟨_, rfl, by kernel_rfl⟩) _ rfl (by kernel_rfl)
        | 46, _, ho =>
          cases ho
          exact stepG_call rfl (fun _ => ⟨_, rfl, by kernel_rfl⟩) 17 _ _ (fun _ => [.pointer (some ⟨q, 0, none⟩)]) rfl (fun g => by kernel_rfl) (enters_of Try.func17 (by kernel_rfl) rfl) (fun g d V hJ hun hdep hcl => (hhe V hJ.1).mono (by rintro e V' ⟨a, c, rfl, h1, h2⟩; refine ⟨(a, c), rfl, (fun j hj => match j, hj with | 46, hj => (by rw [hj] at hun; cases hun) | 48, hj => absurd ((hcl 48 _ rfl hj 46 (by kernel_rfl))) (by rw [hun]; simp) | 0, _ => rfl | 1, _ => rfl | 2, _ => rfl | 3, _ => rfl | 4, _ => rfl | 5, _ => rfl | 6, _ => rfl | 7, _ => rfl | 8, _ => rfl | 9, _ => rfl | 10, _ => rfl | 11, _ => rfl | 12, _ => rfl | 13, _ => rfl | 14, _ => rfl | 15, _ => rfl | 16, _ => rfl | 17, _ => rfl | 18, _ => rfl | 19, _ => rfl | 20, _ => rfl | 21, _ => rfl | 22, _ => rfl | 23, _ => rfl | 24, _ => rfl | 25, _ => rfl | 26, _ => rfl | 27, _ => rfl | 28, _ => rfl | 29, _ => rfl | 30, _ => rfl | 31, _ => rfl | 32, _ => rfl | 33, _ => rfl | 34, _ => rfl | 35, _ => rfl | 36, _ => rfl | 37, _ => rfl | 38, _ => rfl | 39, _ => rfl | 40, _ => rfl | 41, _ => rfl | 42, _ => rfl | 43, _ => rfl | 44, _ => rfl | 45, _ => rfl | 47, _ => rfl | 49, _ => rfl | 50, _ => rfl | _ + 51, _ => rfl), ?_⟩; exact ⟨bel2 hJ.1 h2, fun _ => h1⟩))
        | 47, _, ho =>
          cases ho
          refine stepG_of (fun g d hdep => ?_)
          exact step_move rfl (by exact ⟨_, rfl, by kernel_rfl⟩) _ rfl (by kernel_rfl)
        | 48, _, ho =>
          cases ho
          refine stepG_of (fun g d hdep => ?_)
          exact step_call rfl (by exact ⟨_, rfl, by kernel_rfl⟩) 16 _ _ [(.slice g.1 nn g.2), (.slice aw nn cw)] rfl (by kernel_rfl) (enters_of Try.func16 (by kernel_rfl) rfl) (fun v hw => (hsy v g.1 hw.1 (hw.2 (hdep 46 (by kernel_rfl))) g.2).mono (by rintro e w2 ⟨rfl, hb⟩; exact ⟨rfl, hw.carry hb⟩))
        | 49, _, ho =>
          cases ho
          refine stepG_of (fun g d hdep => ?_)
          exact step_pick rfl trivial _ _ _ true rfl (by kernel_rfl) (by kernel_rfl)
        | 50, _, ho =>
          cases ho
          refine stepG_of (fun g d hdep => ?_)
          exact step_assign rfl trivial _ rfl (by kernel_rfl) (fun _ h => h)
      intro g d W hall hW
      first | refine hK _ _ ?_ | refine (‹∀ (a : Act) (w : World), Code.wp Try.prog _ _ a w → _›) _ _ ?_ | skip
      simp only [finL, List.getD_cons_zero, List.getD_cons_succ, Nat.zero_add, Nat.reduceAdd, List.setIfInBounds_toArray, List.set_cons_zero, List.set_cons_succ]
      go_wp2
      go_ret
      exact ⟨rfl, bel2 hb04 hW.1⟩

set_option maxRecDepth 100000 in
theorem lifted (os : Os) (started : os.Started) (H : Type) (enc : TypeId × Value → H) :
    ReturnsInHanded {} Try.checked os 3 .any (Rows.tallyCutSpec.pre6 enc Try.prog Try.f3 Rows.tallyCutRow.domain false) (Rows.tallyCutSpec.post enc Try.prog Try.f3 false true false false) := by
  refine returnsInHanded_of_change (C := Try.checked) own started (by kernel_rfl) Try.func3
    (ChangeSpec.witness6 (enc := enc) (C := Try.checked) false ⟨#[], #[.int .i64 0, .int .i64 0, .int .i64 0, .int .i64 0, .agg #[.int .u32 0, .int .u32 0, .int .u32 0, .int .u32 0], .slice none 0 0], []⟩ 8 (by kernel_rfl) (by kernel_rfl) (by kernel_rfl) (by kernel_rfl)) ?_
  intro W base args ds gs before hval0 hW hcnd _
  have hval : ∀ (j : Nat) t v, Try.f3.params[j]? = some t → args[j]? = some v → Value.okWide Try.prog W .any base t v := hval0
  have hW' := hW
  obtain ⟨p, q, hA0, hV, rfl, hfz, hnd⟩ := hW
  have hA : DataW.TrodAll enc Try.prog W 0 (fun _ => true) true Try.f3.params.toList args.toList ds p := hA0
  rw [Try.params3] at hA hval
  obtain ⟨v0, vs0, d0, ds0, p0, q0, hargs, rfl, rfl, h0, r0⟩ := trodAll_cons hA
  obtain ⟨v1, vs1, d1, ds1, p1, q1, rfl, rfl, rfl, h1, r1⟩ := trodAll_cons r0
  obtain ⟨v2, vs2, d2, ds2, p2, q2, rfl, rfl, rfl, h2, r2⟩ := trodAll_cons r1
  obtain ⟨v3, vs3, d3, ds3, p3, q3, rfl, rfl, rfl, h3, r3⟩ := trodAll_cons r2
  obtain ⟨v4, vs4, d4, ds4, p4, q4, rfl, rfl, rfl, h4, r4⟩ := trodAll_cons r3
  obtain ⟨v5, vs5, d5, ds5, p5, q5, rfl, rfl, rfl, h5, r5⟩ := trodAll_cons r4
  obtain ⟨rfl, rfl, rfl⟩ := trodAll_nil r5
  obtain rfl : args = #[v0, v1, v2, v3, v4, v5] := by cases args; simp_all
  obtain ⟨rfl, rfl⟩ := trodVars_none hV
  obtain ⟨a0, rfl, rfl, rfl, w0⟩ := open_int Try.underlying3 (hval 0 3 v0 rfl rfl) h0
  obtain ⟨a1, rfl, rfl, rfl, w1⟩ := open_int Try.underlying3 (hval 1 3 v1 rfl rfl) h1
  obtain ⟨a2, rfl, rfl, rfl, w2⟩ := open_int Try.underlying3 (hval 2 3 v2 rfl rfl) h2
  obtain ⟨a3, rfl, rfl, rfl, w3⟩ := open_int Try.underlying3 (hval 3 3 v3 rfl rfl) h3
  obtain ⟨N4, hN4, rfl, rfl, rfl⟩ := open_set (hval 4 24 v4 rfl rfl) h4
  have k5 := h5
  have lt5 : ∀ x ∈ p5, x.block < W.heap.size := by obtain ⟨m, hm⟩ := k5; exact DataW.trod_lt m _ _ _ hm
  obtain ⟨ad5, cap5, l5, rfl, w5, hc5, hm5⟩ := open_reps (hval 5 25 v5 rfl rfl) h5
  clear hA0 hval0
  refine (walk W a0 w0 a1 w1 a2 w2 a3 w3 N4 hN4 ad5 cap5 l5 w5 hc5 hm5).mono fun e W' ⟨he, hg⟩ => ?_
  subst he
  exact ⟨_, rfl, _, _, _, [], _, [], hW', (trodAll_cons_mk (shut_bool Try.underlying4 _) trodAll_mk0), (trodAll_cons_mk (shut_int Try.underlying3 w0) (trodAll_cons_mk (shut_int Try.underlying3 w1) (trodAll_cons_mk (shut_int Try.underlying3 w2) (trodAll_cons_mk (shut_int Try.underlying3 w3) (trodAll_cons_mk (shut_set N4) (trodAll_cons_mk (Below.trod laidOut (by kernel_rfl) (of_decide_eq_true (by kernel_rfl)) k5 hg lt5) trodAll_mk0)))))), rfl, hg.frame _, fun h => by cases h⟩

theorem over : Rows.tallyCutRow.holds Try.pinned (OpenSpec.ofChange Rows.tallyCutSpec) :=
  OpenClaim.holds_of_wide 3 Try.f3 rfl rfl rfl rfl rfl rfl rfl ⟨rfl, rfl, rfl, rfl, rfl⟩ rfl rfl rfl rfl rfl (by kernel_rfl) Try.func3 (by kernel_rfl)
    (of_decide_eq_true (by kernel_rfl)) (by unfold Func.isWrapper; first | (rw [if_pos (by decide +kernel)]; kernel_rfl) | (rw [if_neg (by decide +kernel)]; exact ⟨rfl, rfl⟩))
    (fun os started H enc _ => lifted os started H enc)

theorem proved : Rows.TallyCutSaid :=
  over
#print axioms proved
end Go.Proofs.Ytcdefcaoocnlbaa
