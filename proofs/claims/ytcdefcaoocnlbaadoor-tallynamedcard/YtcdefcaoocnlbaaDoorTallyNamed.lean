/- TallyNamed (W12): with the ids gone round by one place, everywhere, all is the same, gone round; under the row's own word that math/bits.deBruijn32tab is laid as its text says. For every tally that New makes and every list of at most 300 replies; else alive alone. -/
import Derived.Test.YtcdefcaoocnlbaaDoorRows
import Derived.WalkKit
import Derived.ProofKit
import Derived.OpenShut
import Derived.Stop.Joined
import Derived.Lay
import Derived.SevenTiedAt
import Derived.SizedLaws
import Derived.LaidMore
import Derived.Test.YtcdefcaoocnlbaaDoorTie
import Derived.Test.YtcdefcaoocnlbaaDoorCards
import Derived.Test.YtcdefcaoocnlbaaDoorTys
import Derived.Test.YtcdefcaoocnlbaaDoorIds
import Derived.Test.YtcdefcaoocnlbaaDoorTabl
namespace Go.Proofs.YtcdefcaoocnlbaaDoor
open Go.ChangeShapes Go.WideShapes Go.ChangeAt Go.RowKit
set_option linter.unusedVariables false

theorem laidOut : laidOutB Tryd.prog = true := by kernel_rfl
theorem own : ownKnob Tryd.prog.godebug = none := by kernel_rfl
set_option maxHeartbeats 32000000 in
set_option maxRecDepth 100000 in
theorem walk (w : World) (a0 : Int) (w0 : (Lit.int .i64 a0).wf = true) (a1 : Int) (w1 : (Lit.int .i64 a1).wf = true) (a2 : Int) (w2 : (Lit.int .i64 a2).wf = true) (a3 : Int) (w3 : (Lit.int .i64 a3).wf = true) (ad4 : Option Addr) (cap4 : Nat) (l4 : List Rp) (w4 : RdP w w.heap.size ad4 l4) (hc4 : l4.length ≤ cap4) (hm4 : cap4 ≤ maxLen) (hL : laidMetH Tryd.prog Rows.tallyNamedRow.laid w) :
    Calls Tryd.prog 3 #[.int .i64 a0, .int .i64 a1, .int .i64 a2, .int .i64 a3, .slice ad4 l4.length cap4] w fun e w' => e = .returned (.bool true) ∧ Below w.heap.size w w' := by
  have hmx : Tryd.prog.follows .mixedOrders = true := by kernel_rfl
  have hTab := tab_of hL
  have e0 : sv 0 = .agg #[.int .u32 0, .int .u32 0, .int .u32 0, .int .u32 0] := by kernel_rfl
  have h0S : (0 : Nat) < S128 := by decide
  by_cases hE : nwE a0 a1 a2 a3 0 = 0
  case neg =>
    have hn := new_no a0 a1 a2 a3 0 h0S hE w
    obtain ⟨E, hEE⟩ : ∃ E, nwE a0 a1 a2 a3 0 = E := ⟨_, rfl⟩
    rw [hEE] at hn hE
    have HE : Hid (¬ E = 0) := hE
    rw [e0] at hn
    clear hTab hL
    go_enter Tryd.func3, Tryd.ntmps3
    go_wp2_with (first
      | (go_at_call 4; (with_reducible refine hn.mono ?_); rintro e u ⟨rfl, hu⟩; have hal := alive_any u)
      | (go_at_call 5; (with_reducible refine hal.mono ?_); rintro e u2 ⟨rfl, hu2⟩))
    go_ret
    exact ⟨rfl, bel2 hu hu2⟩
  have hn := new_ok a0 a1 a2 a3 0 h0S hE w
  obtain ⟨hE2, hRo⟩ := Ro.new hE
  have hv0 := Tv.new h0S hE
  have hvu := Tv.new h0S hE2
  obtain ⟨h1, h2, h3, h4, h5, h6, h7, _⟩ := nw_ok hE
  have hself : 0 ≤ a2 ∧ a2 < a0 := by simpa [isN] using h5
  have hn2 := new_ok a0 a1 (rt a0 a2) a3 0 h0S hE2
  obtain ⟨t0, ht0⟩ : ∃ t0, nwT a0 a1 a2 a3 0 = t0 := ⟨_, rfl⟩
  obtain ⟨u0, hu0⟩ : ∃ u0, nwT a0 a1 (rt a0 a2) a3 0 = u0 := ⟨_, rfl⟩
  have htn : t0.n = a0 := by rw [← ht0]; rfl
  rw [ht0] at hn hv0 hRo
  rw [hu0] at hvu hRo
  simp only [hu0] at hn2
  rw [e0] at hn hn2
  by_cases hlong : 300 < (l4.length : Int)
  case pos =>
    clear hTab hL
    go_enter Tryd.func3, Tryd.ntmps3
    go_wp2_with (first
      | (go_at_call 4; (with_reducible refine hn.mono ?_); rintro e u ⟨q, ad, cap, rfl, hT, hu⟩; have hal := alive_any u)
      | (go_at_call 5; (with_reducible refine hal.mono ?_); rintro e u2 ⟨rfl, hu2⟩))
    go_ret
    exact ⟨rfl, bel2 hu hu2⟩
  have hl300 : l4.length ≤ 300 := by omega
  have hadd2 := i64_id (a2 + 1) (by omega) (by omega)
  have htm := rt_tmod hself.1 hself.2
  have ha0 : ¬ a0 = 0 := by omega
  have HTAB : Hid (Tab w) := hTab
  clear hTab hL h5
  go_enter Tryd.func3, Tryd.ntmps3
  go_wp2_with (first
    | (go_at_call 4; (with_reducible refine hn.mono ?_); rintro e u ⟨q1, ad1, cap1, rfl, hT1, hu⟩)
    | (go_at_call 4; (with_reducible refine (hn2 u).mono ?_); rintro e u2 ⟨q2, ad2, cap2, rfl, hT2, hu2⟩))
  obtain ⟨B1, hB1⟩ : ∃ B, w.heap.size = B := ⟨_, rfl⟩
  obtain ⟨B2, hB2⟩ : ∃ B, u.heap.size = B := ⟨_, rfl⟩
  have hwB2 : w.heap.size ≤ B2 := by rw [← hB2]; exact hu.size
  have hq : q2 ≠ q1 := by have := hT1.lt; have := hT2.qb; omega
  have hst : Tw w B1 q1 B2 q2 t0 u0 u2 := by
    rw [hB1] at hT1
    rw [hB2] at hT2
    refine ⟨ad1, cap1, ad2, cap2, hT1.carry hu2, hT2, fun b e e2 => ?_, bel2 hu hu2⟩
    have k1 := (row_lt2 hT1.row b (by rw [ob_eq]; exact e)).2
    have k2 := (row_lt2 hT2.row b (by rw [ob_eq]; exact e2)).1
    omega
  have hwB1 : w.heap.size ≤ B1 := by rw [hB1]; exact Nat.le_refl _
  clear hn hn2 hT1 hT2 hadd2 htm hu hu2 ht0 hu0
  go_loopw [15] (fun c wz => ∃ (k : Nat) (t u : Tl), c = .int .i64 k ∧ k ≤ l4.length ∧ Ro t u ∧ Tv t ∧ Tv u ∧ t.n = a0 ∧ Tw w B1 q1 B2 q2 t u wz) (fun c _ => l4.length - vnat c)
  case atStart => exact ⟨0, t0, u0, rfl, Nat.zero_le _, hRo, hv0, hvu, htn, hst⟩
  case round =>
    obtain ⟨k, t, u, rfl, hk, hRt, hvt, hvu', htn', hTw⟩ := hrel
    clear hst hRo hv0 hvu htn
    by_cases hkl : k < l4.length
    · have hki : (k : Int) < (l4.length : Int) := by omega
      obtain ⟨o, ho⟩ : ∃ o, l4[k]? = some o := ⟨_, List.getElem?_eq_getElem hkl⟩
      obtain ⟨b, off, rfl, hbB, hAt, hwf, _, _⟩ := w4 k o ho
      have hbw : Below w.heap.size w wr := by obtain ⟨_, _, _, _, _, _, _, h⟩ := hTw; exact h
      obtain ⟨c0, _⟩ := hAt.carry hbw hbB
      by_cases hf0 : o.f < 0
      · go_wp2
        go_roundw
        case rel => exact ⟨k + 1, t, u, by simp, by omega, hRt, hvt, hvu', htn', hTw⟩
        case measure => simp [vnat]; omega
      by_cases hf1 : a0 ≤ o.f
      · go_wp2
        go_roundw
        case rel => exact ⟨k + 1, t, u, by simp, by omega, hRt, hvt, hvu', htn', hTw⟩
        case measure => simp [vnat]; omega
      · have hf0' : 0 ≤ o.f := by omega
        have hf1' : o.f < a0 := by omega
        have hadd := i64_id (o.f + 1) (by omega) (by omega)
        obtain ⟨ad1, cap1, ad2, cap2, hT1, hT2, hap, _⟩ := hTw
        obtain ⟨o0, ho0⟩ : ∃ o0 : Rp, o0 = ⟨o.f, o.r, 0⟩ := ⟨_, rfl⟩
        obtain ⟨o1, ho1⟩ : ∃ o1 : Rp, o1 = ⟨rt a0 o.f, o.r, 0⟩ := ⟨_, rfl⟩
        have hat0 : ∀ V, Below wr.heap.size wr V → RpAt V b (off + k * 6) o := fun V hV => (hAt.carry hbw hbB).carry hV (Nat.lt_of_lt_of_le hbB hbw.size)
        have hat : ∀ V, Jt wr B1 q1 ad1 cap1 t o0 false V → RpAt V b (off + k * 6) o := fun V hV => hat0 V hV
        obtain ⟨KD, hKD⟩ : ∃ z, kd (fate t o.f o.r 0) = z := ⟨_, rfl⟩
        obtain ⟨KE, hKE⟩ : ∃ z, ke (fate t o.f o.r 0) = z := ⟨_, rfl⟩
        have hfu : fate u (rt a0 o.f) o.r 0 = fate t o.f o.r 0 := by have := hRt.fate hvt hvu' (r := o.r) hf0' (by rw [htn']; exact hf1'); rw [htn'] at this; exact this
        have hBw : B1 ≤ wr.heap.size := Nat.le_trans hT1.qb (Nat.le_of_lt hT1.lt)
        have hgo : ∀ V, Jt wr B1 q1 ad1 cap1 t o0 false V → Calls Tryd.prog 6 #[.pointer (some ⟨q1, 0, none⟩), .int .i64 o.f, .int .i64 o.r, sv 0] V fun e w' => e = .returned (.tuple #[.int .i64 KD, .int .i64 KE]) ∧ Jt wr B1 q1 ad1 cap1 t o0 true w' := fun V hV => by
          rw [← hKD, ← hKE]
          have := hV.go hT1 hvt hBw (by rw [ho0]; exact h0S)
          rw [ho0] at this ⊢
          exact this
        go_wp2
        refine wp_region_any hmx ?_
        refine wpAny_tabG (G := Unit) (fun g i__ => ([(.pointer (some ⟨q1, 0, none⟩)), (.slice (some ⟨b, off, none⟩) l4.length cap4), (.int .i64 (k : Int)), (.pointer (some ⟨b, off + k * 6, none⟩)), (.pointer (some ⟨b, off + k * 6, none⟩)), (.int .i64 o.f), (.slice (some ⟨b, off, none⟩) l4.length cap4), (.int .i64 (k : Int)), (.pointer (some ⟨b, off + k * 6, none⟩)), (.pointer (some ⟨b, off + k * 6 + 1, none⟩)), (.int .i64 o.r), (sv 0), (.tuple #[.int .i64 KD, .int .i64 KE]), (.tuple #[.int .i64 KD, .int .i64 KE]), (.int .i64 KD), (.int .i64 KE), (.int .i64 KD), (.int .i64 KE)] : List Value).getD i__ undef) (fun g d V => Jt wr B1 q1 ad1 cap1 t o0 (d 12) V) (by kernel_rfl) (()) (show Jt wr B1 q1 ad1 cap1 t o0 false _ from (Below.refl _ _).drew) ?step1 ?fin1
        case step1 =>
          intro i o ho
          have hi : i < 18 := getElem?_lt ho
          match i, hi, ho with
          | 0, _, ho =>
            cases ho
            refine stepG_ofC (fun g d hun hdep hcl => ?_)
            exact step_move rfl trivial _ rfl (by kernel_rfl)
          | 1, _, ho =>
            cases ho
            refine stepG_ofC (fun g d hun hdep hcl => ?_)
            exact step_move rfl trivial _ rfl (by kernel_rfl)
          | 2, _, ho =>
            cases ho
            refine stepG_ofC (fun g d hun hdep hcl => ?_)
            exact step_move rfl trivial _ rfl (by kernel_rfl)
          | 3, _, ho =>
            cases ho
            refine stepG_ofC (fun g d hun hdep hcl => ?_)
            exact step_indexAddr rfl trivial _ _ _ _ _ rfl rfl rfl (fun v hw => idx_rp b off _ _ k hkl v)
          | 4, _, ho =>
            cases ho
            refine stepG_ofC (fun g d hun hdep hcl => ?_)
            exact step_fieldAddr rfl trivial _ _ _ _ rfl rfl (fun v hw => field_rp0 v _ _)
          | 5, _, ho =>
            cases ho
            refine stepG_ofC (fun g d hun hdep hcl => ?_)
            exact step_load rfl trivial _ _ _ rfl rfl (fun v hw => by have h12 : d 12 = false := (by cases h : d 12 with | false => rfl | true => exact absurd (hcl 12 _ rfl h 5 (by kernel_rfl)) (by rw [hun]; simp)); have hw' := hw; rw [h12] at hw'; exact (hat v hw').f0)
          | 6, _, ho =>
            cases ho
            refine stepG_ofC (fun g d hun hdep hcl => ?_)
            exact step_move rfl trivial _ rfl (by kernel_rfl)
          | 7, _, ho =>
            cases ho
            refine stepG_ofC (fun g d hun hdep hcl => ?_)
            exact step_move rfl trivial _ rfl (by kernel_rfl)
          | 8, _, ho =>
            cases ho
            refine stepG_ofC (fun g d hun hdep hcl => ?_)
            exact step_indexAddr rfl trivial _ _ _ _ _ rfl rfl rfl (fun v hw => idx_rp b off _ _ k hkl v)
          | 9, _, ho =>
            cases ho
            refine stepG_ofC (fun g d hun hdep hcl => ?_)
            exact step_fieldAddr rfl trivial _ _ _ _ rfl rfl (fun v hw => field_rp1 v _ _)
          | 10, _, ho =>
            cases ho
            refine stepG_ofC (fun g d hun hdep hcl => ?_)
            exact step_load rfl trivial _ _ _ rfl rfl (fun v hw => by have h12 : d 12 = false := (by cases h : d 12 with | false => rfl | true => exact absurd (hcl 12 _ rfl h 10 (by kernel_rfl)) (by rw [hun]; simp)); have hw' := hw; rw [h12] at hw'; exact (hat v hw').f1)
          | 11, _, ho =>
            cases ho
            exact stepG_b0 rfl rfl _ rfl (fun g d v hw hun => ⟨build_s0 v, hw⟩)
          | 12, _, ho =>
            cases ho
            refine stepG_ofC (fun g d hun hdep hcl => ?_)
            exact step_call rfl trivial 6 _ _ [(.pointer (some ⟨q1, 0, none⟩)), (.int .i64 o.f), (.int .i64 o.r), (sv 0)] rfl (by kernel_rfl) (enters_of Tryd.func6 (by kernel_rfl) rfl) (fun v hw => by have hw' := hw; rw [hun] at hw'; exact hgo v hw')
          | 13, _, ho =>
            cases ho
            refine stepG_ofC (fun g d hun hdep hcl => ?_)
            exact step_move rfl trivial _ rfl (by kernel_rfl)
          | 14, _, ho =>
            cases ho
            refine stepG_ofC (fun g d hun hdep hcl => ?_)
            exact step_extract rfl trivial _ _ _ rfl rfl (fun v hw => ext2_0 _ _ v)
          | 15, _, ho =>
            cases ho
            refine stepG_ofC (fun g d hun hdep hcl => ?_)
            exact step_extract rfl trivial _ _ _ rfl rfl (fun v hw => ext2_1 _ _ v)
          | 16, _, ho =>
            cases ho
            refine stepG_ofC (fun g d hun hdep hcl => ?_)
            exact step_assign rfl trivial _ rfl (by kernel_rfl) (fun _ h => h)
          | 17, _, ho =>
            cases ho
            refine stepG_ofC (fun g d hun hdep hcl => ?_)
            exact step_assign rfl trivial _ rfl (by kernel_rfl) (fun _ h => h)
        intro g d W hall hW
        first | refine hK _ _ ?_ | refine (‹∀ (a : Act) (w : World), Code.wp Tryd.prog _ _ a w → _›) _ _ ?_ | skip
        simp only [finL, List.getD_cons_zero, List.getD_cons_succ, Nat.zero_add, Nat.reduceAdd, List.setIfInBounds_toArray, List.set_cons_zero, List.set_cons_succ]
        rw [hall 12 (by decide)] at hW
        obtain ⟨ad1', cap1', hT1', hn1, _⟩ := hW
        obtain ⟨hT2', hap'⟩ := tn_ta hT1 hn1 hT2 hq hap
        have hB' : Below w.heap.size w W := hbw.trans ((hT1.below hn1).mono hwB1)
        have hBw2 : B2 ≤ W.heap.size := Nat.le_trans hT2'.qb (Nat.le_of_lt hT2'.lt)
        have hat2 : ∀ V, Jt W B2 q2 ad2 cap2 u o1 false V → RpAt V b (off + k * 6) o := fun V hV => (hAt.carry hB' hbB).carry (show Below W.heap.size W V from hV) (Nat.lt_of_lt_of_le hbB hB'.size)
        have hgo2 : ∀ V, Jt W B2 q2 ad2 cap2 u o1 false V → Calls Tryd.prog 6 #[.pointer (some ⟨q2, 0, none⟩), .int .i64 (rt a0 o.f), .int .i64 o.r, sv 0] V fun e w' => e = .returned (.tuple #[.int .i64 KD, .int .i64 KE]) ∧ Jt W B2 q2 ad2 cap2 u o1 true w' := fun V hV => by
          rw [← hKD, ← hKE, ← hfu]
          have := hV.go hT2' hvu' hBw2 (by rw [ho1]; exact h0S)
          rw [ho1] at this ⊢
          exact this
        have back : ∀ V ad2', Tn q2 (ob ad2) (ob ad2') W V → Ta V B1 q1 ad1' cap1' (tko t o0) ∧ (∀ b, ob ad2' = some b → ob ad1' ≠ some b) := fun V ad2' hn => tn_ta hT2' hn hT1' (fun e => hq e.symm) (fun b e e2 => hap' b e2 e)
        have hbl : ∀ V ad2', Tn q2 (ob ad2) (ob ad2') W V → Below w.heap.size w V := fun V ad2' hn => hB'.trans ((hT2'.below hn).mono hwB2)
        clear hall hgo hat hap hT1 hT2 hn1
        rename_i hf0n hf1n
        have hf0 := hf0'
        have hf1 := hf1'
        go_wp2
        refine wp_region_any hmx ?_
        refine wpAny_tabG (G := Unit) (fun g i__ => ([(.pointer (some ⟨q2, 0, none⟩)), (.slice (some ⟨b, off, none⟩) l4.length cap4), (.int .i64 (k : Int)), (.pointer (some ⟨b, off + k * 6, none⟩)), (.pointer (some ⟨b, off + k * 6, none⟩)), (.int .i64 o.f), (.int .i64 (o.f + 1)), (.int .i64 a0), (.int .i64 (rt a0 o.f)), (.slice (some ⟨b, off, none⟩) l4.length cap4), (.int .i64 (k : Int)), (.pointer (some ⟨b, off + k * 6, none⟩)), (.pointer (some ⟨b, off + k * 6 + 1, none⟩)), (.int .i64 o.r), (sv 0), (.tuple #[.int .i64 KD, .int .i64 KE]), (.tuple #[.int .i64 KD, .int .i64 KE]), (.int .i64 KD), (.int .i64 KE), (.int .i64 KD), (.int .i64 KE)] : List Value).getD i__ undef) (fun g d V => Jt W B2 q2 ad2 cap2 u o1 (d 15) V) (by kernel_rfl) (()) (show Jt W B2 q2 ad2 cap2 u o1 false _ from (Below.refl _ _).drew) ?step2 ?fin2
        case step2 =>
          intro i o ho
          have hi : i < 21 := getElem?_lt ho
          match i, hi, ho with
          | 0, _, ho =>
            cases ho
            refine stepG_ofC (fun g d hun hdep hcl => ?_)
            exact step_move rfl trivial _ rfl (by kernel_rfl)
          | 1, _, ho =>
            cases ho
            refine stepG_ofC (fun g d hun hdep hcl => ?_)
            exact step_move rfl trivial _ rfl (by kernel_rfl)
          | 2, _, ho =>
            cases ho
            refine stepG_ofC (fun g d hun hdep hcl => ?_)
            exact step_move rfl trivial _ rfl (by kernel_rfl)
          | 3, _, ho =>
            cases ho
            refine stepG_ofC (fun g d hun hdep hcl => ?_)
            exact step_indexAddr rfl trivial _ _ _ _ _ rfl rfl rfl (fun v hw => idx_rp b off _ _ k hkl v)
          | 4, _, ho =>
            cases ho
            refine stepG_ofC (fun g d hun hdep hcl => ?_)
            exact step_fieldAddr rfl trivial _ _ _ _ rfl rfl (fun v hw => field_rp0 v _ _)
          | 5, _, ho =>
            cases ho
            refine stepG_ofC (fun g d hun hdep hcl => ?_)
            exact step_load rfl trivial _ _ _ rfl rfl (fun v hw => by have h15 : d 15 = false := (by cases h : d 15 with | false => rfl | true => exact absurd (hcl 6 _ rfl (hcl 8 _ rfl (hcl 15 _ rfl h 8 (by kernel_rfl)) 6 (by kernel_rfl)) 5 (by kernel_rfl)) (by rw [hun]; simp)); have hw' := hw; rw [h15] at hw'; exact (hat2 v hw').f0)
          | 6, _, ho =>
            cases ho
            refine stepG_ofC (fun g d hun hdep hcl => ?_)
            exact step_binOp rfl trivial _ _ _ _ _ _ _ rfl rfl rfl (fun v hw => bin_add64 _ _ _ hadd)
          | 7, _, ho =>
            cases ho
            refine stepG_ofC (fun g d hun hdep hcl => ?_)
            exact step_move rfl trivial _ rfl (by kernel_rfl)
          | 8, _, ho =>
            cases ho
            refine stepG_ofC (fun g d hun hdep hcl => ?_)
            exact step_binOp rfl trivial _ _ _ _ _ _ _ rfl rfl rfl (fun v hw => bin_rt hf0 hf1 v)
          | 9, _, ho =>
            cases ho
            refine stepG_ofC (fun g d hun hdep hcl => ?_)
            exact step_move rfl trivial _ rfl (by kernel_rfl)
          | 10, _, ho =>
            cases ho
            refine stepG_ofC (fun g d hun hdep hcl => ?_)
            exact step_move rfl trivial _ rfl (by kernel_rfl)
          | 11, _, ho =>
            cases ho
            refine stepG_ofC (fun g d hun hdep hcl => ?_)
            exact step_indexAddr rfl trivial _ _ _ _ _ rfl rfl rfl (fun v hw => idx_rp b off _ _ k hkl v)
          | 12, _, ho =>
            cases ho
            refine stepG_ofC (fun g d hun hdep hcl => ?_)
            exact step_fieldAddr rfl trivial _ _ _ _ rfl rfl (fun v hw => field_rp1 v _ _)
          | 13, _, ho =>
            cases ho
            refine stepG_ofC (fun g d hun hdep hcl => ?_)
            exact step_load rfl trivial _ _ _ rfl rfl (fun v hw => by have h15 : d 15 = false := (by cases h : d 15 with | false => rfl | true => exact absurd (hcl 15 _ rfl h 13 (by kernel_rfl)) (by rw [hun]; simp)); have hw' := hw; rw [h15] at hw'; exact (hat2 v hw').f1)
          | 14, _, ho =>
            cases ho
            exact stepG_b0 rfl rfl _ rfl (fun g d v hw hun => ⟨build_s0 v, hw⟩)
          | 15, _, ho =>
            cases ho
            refine stepG_ofC (fun g d hun hdep hcl => ?_)
            exact step_call rfl trivial 6 _ _ [(.pointer (some ⟨q2, 0, none⟩)), (.int .i64 (rt a0 o.f)), (.int .i64 o.r), (sv 0)] rfl (by kernel_rfl) (enters_of Tryd.func6 (by kernel_rfl) rfl) (fun v hw => by have hw' := hw; rw [hun] at hw'; exact hgo2 v hw')
          | 16, _, ho =>
            cases ho
            refine stepG_ofC (fun g d hun hdep hcl => ?_)
            exact step_move rfl trivial _ rfl (by kernel_rfl)
          | 17, _, ho =>
            cases ho
            refine stepG_ofC (fun g d hun hdep hcl => ?_)
            exact step_extract rfl trivial _ _ _ rfl rfl (fun v hw => ext2_0 _ _ v)
          | 18, _, ho =>
            cases ho
            refine stepG_ofC (fun g d hun hdep hcl => ?_)
            exact step_extract rfl trivial _ _ _ rfl rfl (fun v hw => ext2_1 _ _ v)
          | 19, _, ho =>
            cases ho
            refine stepG_ofC (fun g d hun hdep hcl => ?_)
            exact step_assign rfl trivial _ rfl (by kernel_rfl) (fun _ h => h)
          | 20, _, ho =>
            cases ho
            refine stepG_ofC (fun g d hun hdep hcl => ?_)
            exact step_assign rfl trivial _ rfl (by kernel_rfl) (fun _ h => h)
        intro g d W hall hW
        first | refine hK _ _ ?_ | refine (‹∀ (a : Act) (w : World), Code.wp Tryd.prog _ _ a w → _›) _ _ ?_ | skip
        simp only [finL, List.getD_cons_zero, List.getD_cons_succ, Nat.zero_add, Nat.reduceAdd, List.setIfInBounds_toArray, List.set_cons_zero, List.set_cons_succ]
        rw [hall 15 (by decide)] at hW
        obtain ⟨ad2', cap2', hT2n, hn2, _⟩ := hW
        obtain ⟨hT1n, hap2⟩ := back _ _ hn2
        have HT : Hid (Tw w B1 q1 B2 q2 (tk t o.f o.r 0) (tk u (rt a0 o.f) o.r 0) W) := by
          rw [ho0] at hT1n
          rw [ho1] at hT2n
          exact ⟨ad1', cap1', ad2', cap2', hT1n, hT2n, fun b e e2 => hap2 b e2 e, hbl _ _ hn2⟩
        have hRn := hRt.step hvt hvu' (r := o.r) hf0 (by rw [htn']; exact hf1)
        rw [htn'] at hRn
        have hnn : (tk t o.f o.r 0).n = a0 := by rw [← htn']; unfold tk; split <;> rfl
        clear hall hgo2 hat2 hT1n hT2n hn2 back hbl hT2' hT1' hap' hap2
        go_wp2
        go_roundw
        case rel => exact ⟨k + 1, _, _, by simp, by omega, hRn, hvt.tk h0S, hvu'.tk h0S, hnn, HT.out⟩
        case measure => simp [vnat]; omega
    · have hkk : k = l4.length := by omega
      subst hkk
      have hki : ¬ ((l4.length : Int) < (l4.length : Int)) := by omega
      obtain ⟨ad1, cap1, ad2, cap2, hT1, hT2, hap, hbw⟩ := hTw
      have hre := reps_any hT1
      obtain ⟨R, hR⟩ : ∃ R, t.reps = R := ⟨_, rfl⟩
      rw [hR] at hre
      have hRR : R < S100 := by rw [← hR]; exact hvt.reps
      have hid : ∀ V, Below w.heap.size w V → Calls Tryd.prog 7 #[sv R] V fun e w' => ∃ ad cap, e = .returned (.slice ad (idsTo R 128).length cap) ∧ w'.ownsRow V.heap.size 3 1 (.slice ad (idsTo R 128).length cap) (idsTo R 128).length (intsV (idsTo R 128)) ∧ Below V.heap.size V w' := fun V hV => by
        refine (ids_any R V (HTAB.out.keep hV HTAB.out.lt)).mono ?_
        rintro e w' ⟨v, rfl, h1, h2⟩
        have hl : cnt (cln R) = (idsTo R 128).length := by rw [cln_id hRR]; exact (idsTo_length R 128).symm
        rw [hl, cln_id hRR] at h1
        rcases own_form h1 with ⟨e1, e2⟩ | ⟨g, c, e1, _⟩
        · exact ⟨none, 0, by rw [e1, e2], by rw [e1, e2] at h1; rw [e2]; exact h1, h2⟩
        · exact ⟨_, c, by rw [e1], e1 ▸ h1, h2⟩
      obtain ⟨ids, hids⟩ : ∃ ids, idsTo R 128 = ids := ⟨_, rfl⟩
      have htr := hRt.turned hvt
      rw [hR, cln_id hRR, hids, htn'] at htr
      have hidl : ∀ i ∈ ids, i < 100 := fun i hi => ids_lt hRR (by rw [hids]; exact hi)
      have hidn : ∀ i ∈ ids, (i : Int) < a0 := fun i hi => by
        rcases Int.lt_or_le (i : Int) a0 with q | q
        · exact q
        · have hb := (hRt.out i (by rw [htn']; exact q)).1
          rw [← hids] at hi
          have h2 : R.testBit i = true := (show i < 128 ∧ R.testBit i = true by simpa [idsTo] using hi).2
          rw [← hR, hb] at h2
          cases h2
      have hlen : ids.length ≤ 128 := by rw [← hids, idsTo_length]; exact popAux_le 128 R
      rw [hids] at hid
      simp only [sv] at hre hid
      go_wp2_with (first
        | (go_at_call 8; (with_reducible refine hre.mono ?_); rintro e u1 ⟨rfl, hbw1⟩)
        | (go_at_call 7; (with_reducible refine (hid u1 (bel2 hbw hbw1)).mono ?_); rintro e u2 ⟨ai, ci, rfl, hi2, hbw2⟩))
      have hb12 : Below wr.heap.size wr u2 := bel2 hbw1 hbw2
      have hT1b := hT1.carry hb12
      have hT2b := hT2.carry hb12
      have hbw' : Below w.heap.size w u2 := bel2 hbw hb12
      obtain ⟨nn, hnn⟩ : ∃ nn, ids.length = nn := ⟨_, rfl⟩
      rw [hnn] at hi2 hlen ⊢
      have hrow : ∀ V, Below u2.heap.size u2 V → V.ownsRow u1.heap.size 3 1 (.slice ai nn ci) nn (intsV ids) := fun V hV => row_below hi2 hV
      clear hre hid hbw1 hbw2 hb12 hT1 hT2 hi2 hbw
      go_loopw [20, 22] (fun v i wz => ∃ k : Nat, i = .int .i64 k ∧ k ≤ nn ∧ wz.ownsRow u2.heap.size 3 1 v k (inV (trn a0 (ids.take k))) ∧ Below u2.heap.size u2 wz) (fun _ i _ => nn - vnat i)
      case atStart => exact ⟨0, rfl, Nat.zero_le _, World.ownsRow_nil _ _ _ _, Below.refl _ _⟩
      case round =>
        obtain ⟨k, rfl, hk, hro, hbr⟩ := hrel
        by_cases hkl : k < nn
        · have hki : (k : Int) < (nn : Int) := by omega
          obtain ⟨x, hx⟩ : ∃ x, ids[k]? = some x := ⟨_, List.getElem?_eq_getElem (by omega)⟩
          have hx1 := hidl x (List.mem_of_getElem? hx)
          have hx2 := hidn x (List.mem_of_getElem? hx)
          have hrw := hrow wr hbr
          obtain ⟨gi, cc, ei⟩ := own_some hrw (by omega)
          simp only [Value.slice.injEq] at ei
          obtain ⟨rfl, _, rfl⟩ := ei
          have cx : wr.cell? ⟨gi, k, none⟩ = some (.int .i64 (x : Int)) := (hrw.cellAt k (by omega)).trans (by simp [intsV, hx])
          have hadd := i64_id ((x : Int) + 1) (by omega) (by omega)
          have htm := rt_tmod (n := a0) (x := (x : Int)) (by omega) hx2
          obtain ⟨ic, hic, hz0, hz1, hz2⟩ := info_parts infoJ
          go_wp2_with (at_builtin; refine wpList_append_own_at _ rfl _ _ 35 rfl u2.heap.size 3 ic _ 1 8 Tryd.underlying35 hic hz0 hz1 hz2 rfl (by decide) _ k (inV (trn a0 (ids.take k))) rfl (row_below hro (al1' _ _)) ⟨wr.heap.size, 0, none⟩ 1 1 (inV [rt a0 (x : Int)]) rfl rfl (one_srcI (new_at rfl)) (inV_one _) (by unfold maxLen; omega) (by omega) (Nat.le_trans hbr.size (al1' _ _).size) ?_; intro v2 u3 ho3 hg3 _ _; rw [← inV_snoc, ← trn_snoc a0 ids k x hx] at ho3; have HO3 : Hid (u3.ownsRow u2.heap.size 3 1 v2 (k + 1) (inV (trn a0 (ids.take (k + 1))))) := ho3; have HB3 : Hid (Below u2.heap.size u2 u3) := (hbr.trans ((al1' wr _).mono hbr.size)).grown hg3 (Nat.le_trans hbr.size (al1' _ _).size) (fun q e => own_block hro q e); clear ho3 hg3)
          go_roundw
          case rel => exact ⟨k + 1, by simp, by omega, HO3.out, HB3.out⟩
          case measure => simp [vnat]; omega
        · have hkk : k = nn := by omega
          subst hkk
          have hki : ¬ ((k : Int) < (k : Int)) := by omega
          rw [List.take_of_length_le (by omega)] at hro
          have htl : (trn a0 ids).length = k := by simp [trn, hnn]
          obtain ⟨at', ct, et⟩ : ∃ at' ct, u20 = Value.slice at' k ct := by
            rcases own_form hro with ⟨e1, e2⟩ | ⟨g, c, e1, _⟩
            · exact ⟨none, 0, by rw [e1, e2]⟩
            · exact ⟨_, c, e1⟩
          subst et
          have hof := of_anyO (trn a0 ids) at' ct (by omega) wr (inV_ints (by rw [htl]; exact hro))
          rw [htr, htl] at hof
          obtain ⟨R2, hR2⟩ : ∃ R2, u.reps = R2 := ⟨_, rfl⟩
          have hRR2 : R2 < S100 := by rw [← hR2]; exact hvu'.reps
          rw [hR2] at hof
          simp only [ofV, sv] at hof
          have hbw2 : Below w.heap.size w wr := bel2 hbw' hbr
          have hT1c := hT1b.carry hbr
          have hT2c := hT2b.carry hbr
          have hrd : rdy u = rdy t := by unfold rdy; rw [hRt.need, hRt.ln]
          clear hro hrow
          go_wp2_with (first
            | (go_at_call 9; (with_reducible refine hof.mono ?_); rintro e u4 ⟨rfl, hb4⟩; obtain ⟨u5, hu5⟩ : ∃ u5, u4.alloc (.cells #[.int .u32 0, .int .u32 0, .int .u32 0, .int .u32 0] 29) = u5 := ⟨_, rfl⟩; have G3 : Hid (Holds4 u5 u4.heap.size (fun _ => 0)) := (by rw [← hu5]; exact new_at rfl); have hb5 : Below wr.heap.size wr u5 := (by rw [← hu5]; exact bel2 hb4 (al1' _ _)))
            | (refine wpList_store_row rfl 29 (.tmp 23) (.tmp 137) rfl u4.heap.size (cells4 (wd R2)) rfl rfl 29 _ G3.out infoS rfl (by simp [cells4, Value.oneCell']) ?_; obtain ⟨u6, hu6⟩ : ∃ v, u5.setRow u4.heap.size (cells4 (wd R2)) = v := ⟨_, rfl⟩; have G6 : Hid (Holds4 u6 u4.heap.size (wd R2)) := (by rw [← hu6]; exact setRow_heap _ _ _ _ _ _ G3.out); have hb6 : Below wr.heap.size wr u6 := (by rw [← hu6]; exact below_row hb5 hb4.size _); rw [hu6]))
          have hT1d := hT1c.carry hb6
          have hT2d := hT2c.carry hb6
          have hwh : ∀ V, Below u6.heap.size u6 V → Holds4 V u4.heap.size (wd R2) := fun V hV => G6.out.carry hV
          have hre2 : ∀ V, Below u6.heap.size u6 V → Calls Tryd.prog 8 #[.pointer (some ⟨q2, 0, none⟩)] V fun e w' => e = .returned (sv R2) ∧ Below V.heap.size V w' := fun V hV => by
            rw [← hR2]
            exact reps_any (hT2d.carry hV)
          have hrd2 : ∀ V, Below u6.heap.size u6 V → Calls Tryd.prog 10 #[.pointer (some ⟨q2, 0, none⟩)] V fun e w' => e = .returned (.bool (rdy t)) ∧ w' = V := fun V hV => by
            rw [← hrd]
            exact ready_any (hT2d.carry hV)
          refine wp_region_any hmx ?_
          refine wpAny_pure (fun i__ => ([(.bool true), (.bool true), (.int .i64 0), (.bool true), (.bool true), (.bool true), (.pointer (some ⟨q2, 0, none⟩)), (sv R2), (sv R2), (.bool true), (.bool true), (.bool true), (.pointer (some ⟨q1, 0, none⟩)), (.bool (rdy t)), (.pointer (some ⟨q2, 0, none⟩)), (.bool (rdy t)), (.bool true), (.bool true), (.bool true)] : List Value).getD i__ undef) (fun V => Below u6.heap.size u6 V) (by kernel_rfl) (Below.refl _ _).drew ?_ ?_
          · refine (stepsFrom_cons ?_ (stepsFrom_cons ?_ (stepsFrom_cons ?_ (stepsFrom_cons ?_ (stepsFrom_cons ?_ (stepsFrom_cons ?_ (stepsFrom_cons ?_ (stepsFrom_cons ?_ (stepsFrom_cons ?_ (stepsFrom_cons ?_ (stepsFrom_cons ?_ (stepsFrom_cons ?_ (stepsFrom_cons ?_ (stepsFrom_cons ?_ (stepsFrom_cons ?_ (stepsFrom_cons ?_ (stepsFrom_cons ?_ (stepsFrom_cons ?_ (stepsFrom_cons ?_ trivial)))))))))))))))))))
            · exact step_call rfl trivial 5 _ _ [] rfl (by kernel_rfl) (enters_of Tryd.func5 (by kernel_rfl) rfl) (fun v hw => (alive_any v).mono (by rintro e w2 ⟨rfl, hb⟩; exact ⟨rfl, bel2 hw hb⟩))
            · exact step_move rfl trivial _ rfl (by kernel_rfl)
            · exact step_move rfl (by exact ⟨_, rfl, by kernel_rfl⟩) _ rfl (by kernel_rfl)
            · exact step_binOp rfl (by exact ⟨_, rfl, by kernel_rfl⟩) _ _ _ _ _ _ _ rfl rfl rfl (fun v hw => bin_eql .i64 0 0)
            · exact step_pick rfl trivial _ _ _ true rfl (by kernel_rfl) (by kernel_rfl)
            · exact step_move rfl trivial _ rfl (by kernel_rfl)
            · exact step_move rfl (by exact ⟨_, rfl, by kernel_rfl⟩) _ rfl (by kernel_rfl)
            · exact step_call rfl (by exact ⟨_, rfl, by kernel_rfl⟩) 8 _ _ [(.pointer (some ⟨q2, 0, none⟩))] rfl (by kernel_rfl) (enters_of Tryd.func8 (by kernel_rfl) rfl) (fun v hw => (hre2 v hw).mono (by rintro e w2 ⟨rfl, hb⟩; exact ⟨rfl, bel2 hw hb⟩))
            · exact step_load rfl (by exact ⟨_, rfl, by kernel_rfl⟩) _ _ _ rfl rfl (fun v hw => whole4 v _ R2 (hwh v hw))
            · exact step_binOp rfl (by exact ⟨_, rfl, by kernel_rfl⟩) _ _ _ _ _ _ _ rfl rfl rfl (fun v hw => eqls rfl (S100_S128 hRR2) v)
            · exact step_pick rfl trivial _ _ _ true rfl (by kernel_rfl) (by kernel_rfl)
            · exact step_move rfl trivial _ rfl (by kernel_rfl)
            · exact step_move rfl (by exact ⟨_, rfl, by kernel_rfl⟩) _ rfl (by kernel_rfl)
            · exact step_call rfl (by exact ⟨_, rfl, by kernel_rfl⟩) 10 _ _ [(.pointer (some ⟨q1, 0, none⟩))] rfl (by kernel_rfl) (enters_of Tryd.func10 (by kernel_rfl) rfl) (fun v hw => (ready_any (hT1d.carry hw)).mono (by rintro e w2 ⟨rfl, rfl⟩; exact ⟨rfl, hw⟩))
            · exact step_move rfl (by exact ⟨_, rfl, by kernel_rfl⟩) _ rfl (by kernel_rfl)
            · exact step_call rfl (by exact ⟨_, rfl, by kernel_rfl⟩) 10 _ _ [(.pointer (some ⟨q2, 0, none⟩))] rfl (by kernel_rfl) (enters_of Tryd.func10 (by kernel_rfl) rfl) (fun v hw => (hrd2 v hw).mono (by rintro e w2 ⟨rfl, rfl⟩; exact ⟨rfl, hw⟩))
            · exact step_binOp rfl (by exact ⟨_, rfl, by kernel_rfl⟩) _ _ _ _ _ _ _ rfl rfl rfl (fun v hw => eqB_t2 _ _ v _)
            · exact step_pick rfl trivial _ _ _ true rfl (by kernel_rfl) (by kernel_rfl)
            · exact step_assign rfl trivial _ rfl (by kernel_rfl) (fun _ h => h)
          intro W hW
          first | refine hK _ _ ?_ | refine (‹∀ (a : Act) (w : World), Code.wp Tryd.prog _ _ a w → _›) _ _ ?_
          simp only [finL, List.getD_cons_zero, List.getD_cons_succ, Nat.zero_add, Nat.reduceAdd, List.setIfInBounds_toArray, List.set_cons_zero, List.set_cons_succ]
          go_wp2
          go_ret
          exact ⟨rfl, bel2 (bel2 hbw2 hb6) hW⟩

set_option maxRecDepth 100000 in
theorem lifted (os : Os) (started : os.Started) (H : Type) (enc : TypeId × Value → H) :
    ReturnsInHanded {} Tryd.checked os 3 .any (fun w args => (Rows.tallyNamedSpec.pre enc Tryd.prog Tryd.f3 [] false w args ∧ laidMetH Tryd.prog Rows.tallyNamedRow.laid w) ∧ sizedMet enc Tryd.prog Tryd.f3 (OpenSpec.ofChange Rows.tallyNamedSpec) false w args)
      (Rows.tallyNamedSpec.post enc Tryd.prog Tryd.f3 false true false false) := by
  refine returnsInHanded_of_change_and (C := Tryd.checked) (X := fun w _ => laidMetH Tryd.prog Rows.tallyNamedRow.laid w) (fun _ _ _ hh h => h.of_heap hh) own started (by kernel_rfl) Tryd.func3
    (ChangeSpec.witness_shaped (enc := enc) (C := Tryd.checked) (os := os) (X := fun w _ => laidMetH Tryd.prog Rows.tallyNamedRow.laid w) false (World.laidAll Tryd.prog os Rows.tallyNamedRow.laid) #[.int .i64 0, .int .i64 0, .int .i64 0, .int .i64 0, .slice none 0 0] 8 (World.laidAll_os _ _ _)
      (World.shaped_of_ZipB (by kernel_rfl) (by kernel_rfl)) (by kernel_rfl) (by kernel_rfl) (by kernel_rfl)
      (by rw [MakeChecks.laidMetH_plain _ _ _ (by kernel_rfl)]; exact laidMet_laidAll _ (by kernel_rfl) (by kernel_rfl))) ?_
  intro W base args ds gs before hval0 hW _ hsz hL _
  have hval : ∀ (j : Nat) t v, Tryd.f3.params[j]? = some t → args[j]? = some v → Value.okWide Tryd.prog W .any base t v := hval0
  have hW' := hW
  obtain ⟨p, q, hA0, hV, rfl, hfz, hnd⟩ := hW
  have hA : DataW.TrodAll enc Tryd.prog W 0 (fun _ => true) true Tryd.f3.params.toList args.toList ds p := hA0
  rw [Tryd.params3] at hA hval
  obtain ⟨v0, vs0, d0, ds0, p0, q0, hargs, rfl, rfl, h0, r0⟩ := trodAll_cons hA
  obtain ⟨v1, vs1, d1, ds1, p1, q1, rfl, rfl, rfl, h1, r1⟩ := trodAll_cons r0
  obtain ⟨v2, vs2, d2, ds2, p2, q2, rfl, rfl, rfl, h2, r2⟩ := trodAll_cons r1
  obtain ⟨v3, vs3, d3, ds3, p3, q3, rfl, rfl, rfl, h3, r3⟩ := trodAll_cons r2
  obtain ⟨v4, vs4, d4, ds4, p4, q4, rfl, rfl, rfl, h4, r4⟩ := trodAll_cons r3
  obtain ⟨rfl, rfl, rfl⟩ := trodAll_nil r4
  obtain rfl : args = #[v0, v1, v2, v3, v4] := by cases args; simp_all
  obtain ⟨rfl, rfl⟩ := trodVars_none hV
  obtain ⟨a0, rfl, rfl, rfl, w0⟩ := open_int Tryd.underlying3 (hval 0 3 v0 rfl rfl) h0
  obtain ⟨a1, rfl, rfl, rfl, w1⟩ := open_int Tryd.underlying3 (hval 1 3 v1 rfl rfl) h1
  obtain ⟨a2, rfl, rfl, rfl, w2⟩ := open_int Tryd.underlying3 (hval 2 3 v2 rfl rfl) h2
  obtain ⟨a3, rfl, rfl, rfl, w3⟩ := open_int Tryd.underlying3 (hval 3 3 v3 rfl rfl) h3
  have k4 := h4
  have lt4 : ∀ x ∈ p4, x.block < W.heap.size := by obtain ⟨m, hm⟩ := k4; exact DataW.trod_lt m _ _ _ hm
  obtain ⟨ad4, cap4, l4, rfl, w4, hc4, hm4⟩ := open_reps (hval 4 22 v4 rfl rfl) h4
  clear hA0 hval0
  refine (walk W a0 w0 a1 w1 a2 w2 a3 w3 ad4 cap4 l4 w4 hc4 hm4 hL).mono fun e W' ⟨he, hg⟩ => ?_
  subst he
  exact ⟨_, rfl, _, _, _, [], _, [], hW', (trodAll_cons_mk (shut_bool Tryd.underlying4 _) trodAll_mk0), (trodAll_cons_mk (shut_int Tryd.underlying3 w0) (trodAll_cons_mk (shut_int Tryd.underlying3 w1) (trodAll_cons_mk (shut_int Tryd.underlying3 w2) (trodAll_cons_mk (shut_int Tryd.underlying3 w3) (trodAll_cons_mk (Below.trod laidOut (by kernel_rfl) (of_decide_eq_true (by kernel_rfl)) k4 hg lt4) trodAll_mk0))))), rfl, hg.frame _, fun h => by cases h⟩

theorem over : Rows.tallyNamedRow.holds Tryd.pinned (OpenSpec.ofChange Rows.tallyNamedSpec) :=
  OpenClaim.holds_of_wide 3 Tryd.f3 rfl rfl rfl rfl rfl rfl rfl ⟨rfl, rfl, rfl, rfl, rfl⟩ rfl rfl rfl rfl rfl (by kernel_rfl) Tryd.func3 (by kernel_rfl)
    (of_decide_eq_true (by kernel_rfl)) (by unfold Func.isWrapper; first | (rw [if_pos (by decide +kernel)]; kernel_rfl) | (rw [if_neg (by decide +kernel)]; exact ⟨rfl, rfl⟩))
    (fun os started H enc _ => lifted os started H enc)

theorem row_proved : Rows.TallyNamedSaid :=
  over
theorem proved : Rows.TallyNamedCardSaid :=
  Claim7.holds_tied_plain_at .later [] [.data] true (true, "58966872676a1e276f0c93f119704de519248ffb5d93801788c5cdfc06f2af31") false
    row_proved (fun _ h => by cases h) (by kernel_rfl) (fun _ h => by cases h) tallyNamed_row_tie rfl ⟨rfl, rfl⟩ (by kernel_rfl) rfl
    (fun f fn hf hfn => by
      obtain rfl : f = 3 := Option.some.inj ((show Tryd.prog.funcNamed "earshot/earshotlaw13.TallyNamed" = some 3 by kernel_rfl).symm.trans hf) |>.symm
      obtain rfl : fn = Tryd.f3 := (Option.some.inj (Tryd.func3.symm.trans hfn)).symm
      exact ⟨by kernel_rfl, fun j t ht => by
        rw [Tryd.params3] at ht
        rcases j with _ | j
        · have e : t = 3 := by simpa using ht.symm
          subst e
          exact (show Tryd.prog.wantsStandIn 3 = false by kernel_rfl)
        rcases j with _ | j
        · have e : t = 3 := by simpa using ht.symm
          subst e
          exact (show Tryd.prog.wantsStandIn 3 = false by kernel_rfl)
        rcases j with _ | j
        · have e : t = 3 := by simpa using ht.symm
          subst e
          exact (show Tryd.prog.wantsStandIn 3 = false by kernel_rfl)
        rcases j with _ | j
        · have e : t = 3 := by simpa using ht.symm
          subst e
          exact (show Tryd.prog.wantsStandIn 3 = false by kernel_rfl)
        rcases j with _ | j
        · have e : t = 22 := by simpa using ht.symm
          subst e
          exact (show Tryd.prog.wantsStandIn 22 = false by kernel_rfl)
        simp at ht⟩)
    (by kernel_rfl)
#print axioms proved
end Go.Proofs.YtcdefcaoocnlbaaDoor
