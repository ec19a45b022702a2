/- TallyHeld (promise P1303): the lists that Heards tells share no memory with one another or with the tally. For every tally that New makes and every list of at most 100 replies; else alive alone. -/
import Derived.Test.YtcdefcaoocnlbaaRows
import Derived.WalkKit
import Derived.ProofKit
import Derived.OpenShut
import Derived.Test.YtcdefcaoocnlbaaZmh
import Derived.Test.YtcdefcaoocnlbaaTyh
namespace Go.Proofs.Ytcdefcaoocnlbaa
open Go.ChangeShapes Go.WideShapes Go.ChangeAt Go.RowKit
set_option linter.unusedVariables false

theorem laidOut : laidOutB Try.prog = true := by kernel_rfl
theorem own : ownKnob Try.prog.godebug = none := by kernel_rfl
theorem Cn.carry {base : Nat} {W V : World} {v : Value} {y : List Value} {L : List (List Nat)} (h : Cn base W v y L) (hb : Below W.heap.size W V) : Cn base V v y L := ⟨row_below h.1 hb, fun i l hl => by
  obtain ⟨ad, c, h1, h2⟩ := h.2 i l hl
  exact ⟨ad, c, h1, h2.carry hb⟩⟩
theorem run_pos : ∀ (l : List Rp) (t : Tl), 0 < t.hs.length → 0 < (run t l).hs.length
  | [], _, h => h
  | o :: l, t, h => run_pos l (tko t o) (by
    unfold tko tk
    split
    · simp [cntT]
    · exact h)
theorem own_none {W : World} {base n c : Nat} {a : Option Addr} {xs : List Value} (h : W.ownsRow base 24 4 (.slice a n c) n xs) : a = none → c = 0 := fun e => by
  subst e
  rcases own_form h with ⟨e1, _⟩ | ⟨g, cap, e1, _⟩
  · simp at e1
    exact e1.2
  · simp at e1
set_option maxHeartbeats 32000000 in
set_option maxRecDepth 100000 in
theorem walk (w : World) (a0 : Int) (w0 : (Lit.int .i64 a0).wf = true) (a1 : Int) (w1 : (Lit.int .i64 a1).wf = true) (a2 : Int) (w2 : (Lit.int .i64 a2).wf = true) (a3 : Int) (w3 : (Lit.int .i64 a3).wf = true) (N4 : Nat) (hN4 : N4 < S128) (ad5 : Option Addr) (cap5 : Nat) (l5 : List Rp) (w5 : RdP w w.heap.size ad5 l5) (hc5 : l5.length ≤ cap5) (hm5 : cap5 ≤ maxLen) :
    Calls Try.prog 5 #[.int .i64 a0, .int .i64 a1, .int .i64 a2, .int .i64 a3, sv N4, .slice ad5 l5.length cap5] w fun e w' => e = .returned (.bool true) ∧ Below w.heap.size w w' := by
  have hmx : Try.prog.follows .mixedOrders = true := by kernel_rfl
  obtain ⟨w1, hw1⟩ : ∃ w1, w.alloc (.cells #[.int .u32 (wd N4 0 : Nat), .int .u32 (wd N4 1 : Nat), .int .u32 (wd N4 2 : Nat), .int .u32 (wd N4 3 : Nat)] 24) = w1 := ⟨_, rfl⟩
  have hb1 : Below w.heap.size w w1 := by rw [← hw1]; exact al1' _ _
  have g1 : Holds4 w1 w.heap.size (wd N4) := by rw [← hw1]; exact new_at rfl
  obtain ⟨y0, y1, y2, y3, _⟩ := g1.facts
  have G1 : Hid (Holds4 w1 w.heap.size (wd N4)) := g1
  clear g1
  by_cases hE : nwE a0 a1 a2 a3 N4 = 0
  case neg =>
    have hn := new_no a0 a1 a2 a3 N4 hN4 hE w1
    obtain ⟨E, hEE⟩ : ∃ E, nwE a0 a1 a2 a3 N4 = E := ⟨_, rfl⟩
    rw [hEE] at hn hE
    have HE : Hid (¬ E = 0) := hE
    simp only [sv] at hn ⊢
    go_enter Try.func5, Try.ntmps5
    go_wp2_with (first
      | (go_at_call 8; (with_reducible refine hn.mono ?_); rintro e u ⟨rfl, hu⟩; have hal := alive_any u)
      | (go_at_call 9; (with_reducible refine hal.mono ?_); rintro e u2 ⟨rfl, hu2⟩))
    go_ret
    exact ⟨rfl, bel2 (bel2 hb1 hu) hu2⟩
  have hn := new_ok a0 a1 a2 a3 N4 hN4 hE w1
  have hv0 := Tv.new hN4 hE
  obtain ⟨t0, ht0⟩ : ∃ t0, nwT a0 a1 a2 a3 N4 = t0 := ⟨_, rfl⟩
  have hro : t0.ro = a3 := by rw [← ht0]; rfl
  rw [ht0] at hn hv0
  by_cases hlong : 100 < (l5.length : Int)
  case pos =>
    simp only [sv] at hn ⊢
    go_enter Try.func5, Try.ntmps5
    go_wp2_with (first
      | (go_at_call 8; (with_reducible refine hn.mono ?_); rintro e u ⟨q, ad, cap, rfl, hT, hu⟩; have hal := alive_any u)
      | (go_at_call 9; (with_reducible refine hal.mono ?_); rintro e u2 ⟨rfl, hu2⟩))
    go_ret
    exact ⟨rfl, bel2 (bel2 hb1 hu) hu2⟩
  have hS : ∀ o ∈ l5, o.N < S128 := fun o ho => by
    obtain ⟨n, hn⟩ := List.mem_iff_getElem?.1 ho
    obtain ⟨_, _, _, _, _, _, _, h⟩ := w5 n o hn
    exact h
  have hSk : ∀ k, Tv (run t0 (l5.take k)) := fun k => hv0.run _ (fun o ho => hS o (List.mem_of_mem_take ho))
  have hl100 : l5.length ≤ 100 := by omega
  have hh0 : 0 < t0.hs.length := by rw [← ht0]; simp [nwT, cntT, tl0]
  simp only [sv] at hn ⊢
  go_enter Try.func5, Try.ntmps5
  go_wp2_with (go_at_call 8; (with_reducible refine hn.mono ?_); rintro e u ⟨q, ad, cap, rfl, hT, hu⟩)
  obtain ⟨B, hB⟩ : ∃ B, w1.heap.size = B := ⟨_, rfl⟩
  rw [hB] at hT
  have hwB : w.heap.size ≤ B := by rw [← hB]; exact hb1.size
  have hbu := bel2 hb1 hu
  obtain ⟨bb, hbb⟩ : ∃ bb, u.heap.size = bb := ⟨_, rfl⟩
  have hst : ∃ σ ad cap, Ta (u.alloc (.cells (bkc (.slice none 0 0) (.slice none 0 0)) 60)) B q ad cap (run t0 (l5.take 0)) ∧ NK σ w.heap.size bb (u.alloc (.cells (bkc (.slice none 0 0) (.slice none 0 0)) 60)) ∧ (∀ b, ob ad = some b → σ b) ∧ Below w.heap.size w (u.alloc (.cells (bkc (.slice none 0 0) (.slice none 0 0)) 60)) := by
    refine ⟨fun b => ob ad = some b, ad, cap, hT.carry (al1' _ _), ?_, fun b e => e, bel2 hbu (al1' _ _)⟩
    rw [← hbb]
    exact NK.new u w.heap.size hbu.size _ (fun b e => (row_lt2 hT.row b (by rw [ob_eq]; exact e)).2)
  rw [hbb]
  clear hn y0 y1 y2 y3 hT ht0
  go_loopw [16] (fun c wz => ∃ k : Nat, c = .int .i64 k ∧ k ≤ l5.length ∧ ∃ σ ad cap, Ta wz B q ad cap (run t0 (l5.take k)) ∧ NK σ w.heap.size bb wz ∧ (∀ b, ob ad = some b → σ b) ∧ Below w.heap.size w wz) (fun c _ => l5.length - vnat c)
  case atStart => exact ⟨0, rfl, Nat.zero_le _, hst⟩
  case round =>
    clear hst
    obtain ⟨k, rfl, hk, σ, ad, cap, hT, hNK, hσ, hbw⟩ := hrel
    obtain ⟨t, htt⟩ : ∃ t, run t0 (l5.take k) = t := ⟨_, rfl⟩
    have hvt : Tv t := by rw [← htt]; exact hSk k
    have hpos : 0 < t.hs.length := by rw [← htt]; exact run_pos _ _ hh0
    rw [htt] at hT
    have hn100 : t.hs.length ≤ 100 := by have := hvt.len; have := hvt.d1; have := hvt.n1; omega
    have hhe := heards_any hT (by omega)
    have hbz : w.heap.size ≤ wr.heap.size := hbw.size
    by_cases hkl : k < l5.length
    · have hki : (k : Int) < (l5.length : Int) := by omega
      obtain ⟨o, ho⟩ : ∃ o, l5[k]? = some o := ⟨_, List.getElem?_eq_getElem hkl⟩
      obtain ⟨b, off, rfl, hbB, hAt, _, _, hN⟩ := w5 k o ho
      go_wp2_with (first
        | (go_at_call 17; (with_reducible refine hhe.mono ?_); rintro e v1 ⟨x1, c1, rfl, ho1, hc1⟩; have hkb1 := kb_any hNK hbz hc1 x1 c1 t.hs (RdS.own ho1) ho1 hn100 (own_none ho1))
        | (go_at_call 19; (with_reducible refine hkb1.mono ?_); rintro e v2 ⟨⟨vv, rfl⟩, hNK2, hKp2⟩; have hT2 := (hT.carry hc1).kp hKp2 (hNK.carry hc1).book; have hbw2 : Below w.heap.size w v2 := hKp2.below (bel2 hbw hc1) hNK2.le (Nat.le_refl _); have hhe2 := heards_any hT2 (by omega))
        | (go_at_call 17; (with_reducible refine hhe2.mono ?_); rintro e v3 ⟨x3, c3, rfl, ho3, hc3⟩; have hkb3 := kb_any hNK2 hbw2.size hc3 x3 c3 t.hs (RdS.own ho3) ho3 hn100 (own_none ho3))
        | (go_at_call 19; (with_reducible refine hkb3.mono ?_); rintro e v4 ⟨⟨vv3, rfl⟩, hNK4, hKp4⟩; have hT4 := (hT2.carry hc3).kp hKp4 (hNK2.carry hc3).book; have hbw4 : Below w.heap.size w v4 := hKp4.below (bel2 hbw2 hc3) hNK4.le (Nat.le_refl _)))
      have hat : ∀ V, Jt v4 B q ad cap t o false V → RpAt V b (off + k * 6) o := fun V hV => (hAt.carry hbw4 hbB).carry (show Below v4.heap.size v4 V from hV) (Nat.lt_of_lt_of_le hbB hbw4.size)
      have hBw : B ≤ v4.heap.size := Nat.le_trans hT4.qb (Nat.le_of_lt hT4.lt)
      obtain ⟨KD, hKD⟩ : ∃ z, kd (fto t o) = z := ⟨_, rfl⟩
      obtain ⟨KE, hKE⟩ : ∃ z, ke (fto t o) = z := ⟨_, rfl⟩
      have hgo : ∀ V, Jt v4 B q ad cap t o false V → Calls Try.prog 11 #[.pointer (some ⟨q, 0, none⟩), .int .i64 o.f, .int .i64 o.r, sv o.N] V fun e w' => e = .returned (.tuple #[.int .i64 KD, .int .i64 KE]) ∧ Jt v4 B q ad cap t o true w' := fun V hV => by
        rw [← hKD, ← hKE]
        exact hV.go hT4 hvt hBw hN
      clear hkb1 hkb3 hhe hhe2 hKp2 hKp4 hNK hNK2 hT hT2 hbw hbw2 hc1 hc3 ho1 ho3
      refine wp_region_any hmx ?_
      refine wpAny_tabG (G := Unit) (fun g i__ => ([(.pointer (some ⟨q, 0, none⟩)), (.slice (some ⟨b, off, none⟩) l5.length cap5), (.int .i64 (k : Int)), (.pointer (some ⟨b, off + k * 6, none⟩)), (.pointer (some ⟨b, off + k * 6, none⟩)), (.int .i64 o.f), (.slice (some ⟨b, off, none⟩) l5.length cap5), (.int .i64 (k : Int)), (.pointer (some ⟨b, off + k * 6, none⟩)), (.pointer (some ⟨b, off + k * 6 + 1, none⟩)), (.int .i64 o.r), (.slice (some ⟨b, off, none⟩) l5.length cap5), (.int .i64 (k : Int)), (.pointer (some ⟨b, off + k * 6, none⟩)), (.pointer (some ⟨b, off + k * 6 + 2, none⟩)), (sv o.N), (.tuple #[.int .i64 KD, .int .i64 KE])] : List Value).getD i__ undef) (fun g d V => Jt v4 B q ad cap t o (d 16) V) (by kernel_rfl) (()) (show Jt v4 B q ad cap _ o false _ from (Below.refl _ _).drew) ?step1 ?fin1
      case step1 =>
        intro i o ho
        have hi : i < 17 := getElem?_lt ho
        match i, hi, ho with
        | 0, _, ho =>
          cases ho
          refine stepG_ofC (fun g d hun hdep hcl => ?_)
          exact step_move rfl trivial _ rfl (by kernel_rfl)
        | 1, _, ho =>
          cases ho
          refine stepG_ofC (fun g d hun hdep hcl => ?_)
          exact step_move rfl trivial _ rfl (by kernel_rfl)
        | 2, _, ho =>
          cases ho
          refine stepG_ofC (fun g d hun hdep hcl => ?_)
          exact step_move rfl trivial _ rfl (by kernel_rfl)
        | 3, _, ho =>
          cases ho
          refine stepG_ofC (fun g d hun hdep hcl => ?_)
          exact step_indexAddr rfl trivial _ _ _ _ _ rfl rfl rfl (fun v hw => idx_rp b off _ _ k hkl v)
        | 4, _, ho =>
          cases ho
          refine stepG_ofC (fun g d hun hdep hcl => ?_)
          exact step_fieldAddr rfl trivial _ _ _ _ rfl rfl (fun v hw => field_rp0 v _ _)
        | 5, _, ho =>
          cases ho
          refine stepG_ofC (fun g d hun hdep hcl => ?_)
          exact step_load rfl trivial _ _ _ rfl rfl (fun v hw => by have h16 : d 16 = false := (by cases h : d 16 with | false => rfl | true => exact absurd (hcl 16 _ rfl h 5 (by kernel_rfl)) (by rw [hun]; simp)); have hw' := hw; rw [h16] at hw'; exact (hat v hw').f0)
        | 6, _, ho =>
          cases ho
          refine stepG_ofC (fun g d hun hdep hcl => ?_)
          exact step_move rfl trivial _ rfl (by kernel_rfl)
        | 7, _, ho =>
          cases ho
          refine stepG_ofC (fun g d hun hdep hcl => ?_)
          exact step_move rfl trivial _ rfl (by kernel_rfl)
        | 8, _, ho =>
          cases ho
          refine stepG_ofC (fun g d hun hdep hcl => ?_)
          exact step_indexAddr rfl trivial _ _ _ _ _ rfl rfl rfl (fun v hw => idx_rp b off _ _ k hkl v)
        | 9, _, ho =>
          cases ho
          refine stepG_ofC (fun g d hun hdep hcl => ?_)
          exact step_fieldAddr rfl trivial _ _ _ _ rfl rfl (fun v hw => field_rp1 v _ _)
        | 10, _, ho =>
          cases ho
          refine stepG_ofC (fun g d hun hdep hcl => ?_)
          exact step_load rfl trivial _ _ _ rfl rfl (fun v hw => by have h16 : d 16 = false := (by cases h : d 16 with | false => rfl | true => exact absurd (hcl 16 _ rfl h 10 (by kernel_rfl)) (by rw [hun]; simp)); have hw' := hw; rw [h16] at hw'; exact (hat v hw').f1)
        | 11, _, ho =>
          cases ho
          refine stepG_ofC (fun g d hun hdep hcl => ?_)
          exact step_move rfl trivial _ rfl (by kernel_rfl)
        | 12, _, ho =>
          cases ho
          refine stepG_ofC (fun g d hun hdep hcl => ?_)
          exact step_move rfl trivial _ rfl (by kernel_rfl)
        | 13, _, ho =>
          cases ho
          refine stepG_ofC (fun g d hun hdep hcl => ?_)
          exact step_indexAddr rfl trivial _ _ _ _ _ rfl rfl rfl (fun v hw => idx_rp b off _ _ k hkl v)
        | 14, _, ho =>
          cases ho
          refine stepG_ofC (fun g d hun hdep hcl => ?_)
          exact step_fieldAddr rfl trivial _ _ _ _ rfl rfl (fun v hw => field_rp2 v _ _)
        | 15, _, ho =>
          cases ho
          refine stepG_ofC (fun g d hun hdep hcl => ?_)
          exact step_load rfl trivial _ _ _ rfl rfl (fun v hw => by have h16 : d 16 = false := (by cases h : d 16 with | false => rfl | true => exact absurd (hcl 16 _ rfl h 15 (by kernel_rfl)) (by rw [hun]; simp)); have hw' := hw; rw [h16] at hw'; exact (hat v hw').f2)
        | 16, _, ho =>
          cases ho
          refine stepG_ofC (fun g d hun hdep hcl => ?_)
          exact step_call rfl trivial 11 _ _ [(.pointer (some ⟨q, 0, none⟩)), (.int .i64 o.f), (.int .i64 o.r), (sv o.N)] rfl (by kernel_rfl) (enters_of Try.func11 (by kernel_rfl) rfl) (fun v hw => by have hw' := hw; rw [hun] at hw'; exact hgo v hw')
      intro g d W hall hW
      first | refine hK _ _ ?_ | refine (‹∀ (a : Act) (w : World), Code.wp Try.prog _ _ a w → _›) _ _ ?_ | skip
      simp only [finL, List.getD_cons_zero, List.getD_cons_succ, Nat.zero_add, Nat.reduceAdd, List.setIfInBounds_toArray, List.set_cons_zero, List.set_cons_succ]
      rw [hall 16 (by decide)] at hW
      obtain ⟨ad', cap', hT', hn', _⟩ := hW
      obtain ⟨σ', hNK', hσ'⟩ := hNK4.tn hT4 hσ hn' hT'
      have HT : Hid (Ta W B q ad' cap' (run t0 (l5.take (k + 1)))) := by rw [run_succ t0 l5 k o ho, htt]; exact hT'
      have HN : Hid (NK σ' w.heap.size bb W) := hNK'
      have HB : Hid (Below w.heap.size w W) := hbw4.trans ((hT4.below hn').mono hwB)
      clear hT' hn' hall hNK' hNK4 hT4
      go_wp2
      go_roundw
      case rel => exact ⟨k + 1, by simp, by omega, σ', ad', cap', HT.out, HN.out, hσ', HB.out⟩
      case measure => simp [vnat]; omega
    · have hkk : k = l5.length := by omega
      subst hkk
      have hki : ¬ ((l5.length : Int) < (l5.length : Int)) := by omega
      obtain ⟨ic, hic, hz0, hz1, hz2⟩ := info_parts infoZ
      obtain ⟨uu, vu, x, y, L, hKn, hCn, hP1, hP2, hP3, hP4⟩ := hNK.kn
      obtain ⟨nn, hnn⟩ : ∃ nn, t.hs.length = nn := ⟨_, rfl⟩
      rw [hnn] at hhe hpos hn100
      have hlen := hnn
      go_wp2_with (first
        | (go_at_call 17; (with_reducible refine hhe.mono ?_); rintro e v1 ⟨x1, c1, rfl, ho1, hc1⟩; obtain ⟨b1, cc1, eb1⟩ := own_some ho1 hpos; simp only [Value.slice.injEq] at eb1; obtain ⟨rfl, _, rfl⟩ := eb1)
        | (at_builtin; refine wpList_append_own_at _ rfl _ _ 31 rfl v1.heap.size 24 ic _ 4 16 Try.underlying31 hic hz0 hz1 hz2 rfl (by decide) _ 0 [] rfl (World.ownsRow_nil _ _ _ _) ⟨b1, 0, none⟩ nn c1 (fs t.hs) rfl (by rw [fs_len, hlen]) (fs_src ho1) (fs_one _) (by unfold maxLen; omega) (by omega) (Nat.le_refl _) ?_; intro v2 u2 ho2 hg2 _ _; have hb2 : Below v1.heap.size v1 u2 := grownN hg2; rw [Nat.zero_add, List.nil_append] at ho2; obtain ⟨g2, cc2, e2v⟩ := own_some ho2 hpos; subst e2v; have hb12 : Below wr.heap.size wr u2 := bel2 hc1 hb2; have hap := apart_any (hKn.carry hb12) (hCn.carry hb12) (Nat.le_trans hbz hb12.size))
        | (go_at_call 20; (with_reducible refine hap.mono ?_); rintro e u3 ⟨rfl, hbx⟩; have hT2 := hT.carry hb12; have hT3 := hT2.bx hbx (hP4 q _ _ _ hT.obj (by decide)) (fun b e => hP1 b (hσ b e)); have hal := alive_any u3)
        | (go_at_call 9; (with_reducible refine hal.mono ?_); rintro e u4 ⟨rfl, hb4⟩; have hhe4 := heards_any (hT3.carry hb4) (by omega); rw [hnn] at hhe4; have how3 : u3.ownsRow v1.heap.size 24 4 (.slice (some ⟨g2, 0, none⟩) nn cc2) nn (fs t.hs) := row_moved ho2 (fun b e => hbx.block b (row_lt2 ho2 b e).2 (hP3 b (Nat.le_trans hc1.size (row_lt2 ho2 b e).1))); have hrw : RdS u4 (some ⟨g2, 0, none⟩) t.hs := RdS.carry (RdS.own (by rw [hnn]; exact how3)) hb4)
        | (go_at_call 17; (with_reducible refine hhe4.mono ?_); rintro e u5 ⟨x5, c5, rfl, ho5, hb5⟩; have hsy := sets_yes (some ⟨g2, 0, none⟩) x5 cc2 c5 t.hs u5 (hrw.carry hb5) (RdS.own (by rw [hnn]; exact ho5)) (by omega) hvt.each; rw [hnn] at hsy)
        | (go_at_call 16; (with_reducible refine hsy.mono ?_); rintro e u6 ⟨rfl, hb6⟩))
      go_ret
      have hb3 : Below w.heap.size w u3 := (bel2 hbw hb12).trans ⟨hbx.os, hbx.tape, hbx.output, hbx.size, fun k hk => hbx.block k (Nat.lt_of_lt_of_le hk (bel2 hbw hb12).size) (hP2 k hk)⟩
      exact ⟨rfl, bel2 (bel2 (bel2 hb3 hb4) hb5) hb6⟩

set_option maxRecDepth 100000 in
theorem lifted (os : Os) (started : os.Started) (H : Type) (enc : TypeId × Value → H) :
    ReturnsInHanded {} Try.checked os 5 .any (Rows.tallyHeldSpec.pre6 enc Try.prog Try.f5 Rows.tallyHeldRow.domain false) (Rows.tallyHeldSpec.post enc Try.prog Try.f5 false true false false) := by
  refine returnsInHanded_of_change (C := Try.checked) own started (by kernel_rfl) Try.func5
    (ChangeSpec.witness6 (enc := enc) (C := Try.checked) false ⟨#[], #[.int .i64 0, .int .i64 0, .int .i64 0, .int .i64 0, .agg #[.int .u32 0, .int .u32 0, .int .u32 0, .int .u32 0], .slice none 0 0], []⟩ 8 (by kernel_rfl) (by kernel_rfl) (by kernel_rfl) (by kernel_rfl)) ?_
  intro W base args ds gs before hval0 hW hcnd _
  have hval : ∀ (j : Nat) t v, Try.f5.params[j]? = some t → args[j]? = some v → Value.okWide Try.prog W .any base t v := hval0
  have hW' := hW
  obtain ⟨p, q, hA0, hV, rfl, hfz, hnd⟩ := hW
  have hA : DataW.TrodAll enc Try.prog W 0 (fun _ => true) true Try.f5.params.toList args.toList ds p := hA0
  rw [Try.params5] at hA hval
  obtain ⟨v0, vs0, d0, ds0, p0, q0, hargs, rfl, rfl, h0, r0⟩ := trodAll_cons hA
  obtain ⟨v1, vs1, d1, ds1, p1, q1, rfl, rfl, rfl, h1, r1⟩ := trodAll_cons r0
  obtain ⟨v2, vs2, d2, ds2, p2, q2, rfl, rfl, rfl, h2, r2⟩ := trodAll_cons r1
  obtain ⟨v3, vs3, d3, ds3, p3, q3, rfl, rfl, rfl, h3, r3⟩ := trodAll_cons r2
  obtain ⟨v4, vs4, d4, ds4, p4, q4, rfl, rfl, rfl, h4, r4⟩ := trodAll_cons r3
  obtain ⟨v5, vs5, d5, ds5, p5, q5, rfl, rfl, rfl, h5, r5⟩ := trodAll_cons r4
  obtain ⟨rfl, rfl, rfl⟩ := trodAll_nil r5
  obtain rfl : args = #[v0, v1, v2, v3, v4, v5] := by cases args; simp_all
  obtain ⟨rfl, rfl⟩ := trodVars_none hV
  obtain ⟨a0, rfl, rfl, rfl, w0⟩ := open_int Try.underlying3 (hval 0 3 v0 rfl rfl) h0
  obtain ⟨a1, rfl, rfl, rfl, w1⟩ := open_int Try.underlying3 (hval 1 3 v1 rfl rfl) h1
  obtain ⟨a2, rfl, rfl, rfl, w2⟩ := open_int Try.underlying3 (hval 2 3 v2 rfl rfl) h2
  obtain ⟨a3, rfl, rfl, rfl, w3⟩ := open_int Try.underlying3 (hval 3 3 v3 rfl rfl) h3
  obtain ⟨N4, hN4, rfl, rfl, rfl⟩ := open_set (hval 4 24 v4 rfl rfl) h4
  have k5 := h5
  have lt5 : ∀ x ∈ p5, x.block < W.heap.size := by obtain ⟨m, hm⟩ := k5; exact DataW.trod_lt m _ _ _ hm
  obtain ⟨ad5, cap5, l5, rfl, w5, hc5, hm5⟩ := open_reps (hval 5 25 v5 rfl rfl) h5
  clear hA0 hval0
  refine (walk W a0 w0 a1 w1 a2 w2 a3 w3 N4 hN4 ad5 cap5 l5 w5 hc5 hm5).mono fun e W' ⟨he, hg⟩ => ?_
  subst he
  exact ⟨_, rfl, _, _, _, [], _, [], hW', (trodAll_cons_mk (shut_bool Try.underlying4 _) trodAll_mk0), (trodAll_cons_mk (shut_int Try.underlying3 w0) (trodAll_cons_mk (shut_int Try.underlying3 w1) (trodAll_cons_mk (shut_int Try.underlying3 w2) (trodAll_cons_mk (shut_int Try.underlying3 w3) (trodAll_cons_mk (shut_set N4) (trodAll_cons_mk (Below.trod laidOut (by kernel_rfl) (of_decide_eq_true (by kernel_rfl)) k5 hg lt5) trodAll_mk0)))))), rfl, hg.frame _, fun h => by cases h⟩

theorem over : Rows.tallyHeldRow.holds Try.pinned (OpenSpec.ofChange Rows.tallyHeldSpec) :=
  OpenClaim.holds_of_wide 5 Try.f5 rfl rfl rfl rfl rfl rfl rfl ⟨rfl, rfl, rfl, rfl, rfl⟩ rfl rfl rfl rfl rfl (by kernel_rfl) Try.func5 (by kernel_rfl)
    (of_decide_eq_true (by kernel_rfl)) (by unfold Func.isWrapper; first | (rw [if_pos (by decide +kernel)]; kernel_rfl) | (rw [if_neg (by decide +kernel)]; exact ⟨rfl, rfl⟩))
    (fun os started H enc _ => lifted os started H enc)

theorem proved : Rows.TallyHeldSaid :=
  over
#print axioms proved
end Go.Proofs.Ytcdefcaoocnlbaa
