/- TallyAgain (promise P1305): a reply that came is Again, or Late, if it comes once more; nothing has changed then. For every tally that New makes and every list of at most 300 replies; else alive alone. -/
import Derived.Test.YtcdefcaoocnlbaaRows
import Derived.WalkKit
import Derived.ProofKit
import Derived.OpenShut
import Derived.Test.YtcdefcaoocnlbaaTyh
namespace Go.Proofs.Ytcdefcaoocnlbaa
open Go.ChangeShapes Go.WideShapes Go.ChangeAt Go.RowKit
set_option linter.unusedVariables false

theorem laidOut : laidOutB Try.prog = true := by kernel_rfl
theorem own : ownKnob Try.prog.godebug = none := by kernel_rfl
set_option maxHeartbeats 32000000 in
set_option maxRecDepth 100000 in
theorem walk (w : World) (a0 : Int) (w0 : (Lit.int .i64 a0).wf = true) (a1 : Int) (w1 : (Lit.int .i64 a1).wf = true) (a2 : Int) (w2 : (Lit.int .i64 a2).wf = true) (a3 : Int) (w3 : (Lit.int .i64 a3).wf = true) (N4 : Nat) (hN4 : N4 < S128) (ad5 : Option Addr) (cap5 : Nat) (l5 : List Rp) (w5 : RdP w w.heap.size ad5 l5) (hc5 : l5.length ≤ cap5) (hm5 : cap5 ≤ maxLen) :
    Calls Try.prog 4 #[.int .i64 a0, .int .i64 a1, .int .i64 a2, .int .i64 a3, sv N4, .slice ad5 l5.length cap5] w fun e w' => e = .returned (.bool true) ∧ Below w.heap.size w w' := by
  have hmx : Try.prog.follows .mixedOrders = true := by kernel_rfl
  obtain ⟨w1, hw1⟩ : ∃ w1, w.alloc (.cells #[.int .u32 (wd N4 0 : Nat), .int .u32 (wd N4 1 : Nat), .int .u32 (wd N4 2 : Nat), .int .u32 (wd N4 3 : Nat)] 24) = w1 := ⟨_, rfl⟩
  have hb1 : Below w.heap.size w w1 := by rw [← hw1]; exact al1' _ _
  have g1 : Holds4 w1 w.heap.size (wd N4) := by rw [← hw1]; exact new_at rfl
  obtain ⟨y0, y1, y2, y3, _⟩ := g1.facts
  have G1 : Hid (Holds4 w1 w.heap.size (wd N4)) := g1
  clear g1
  by_cases hE : nwE a0 a1 a2 a3 N4 = 0
  case neg =>
    have hn := new_no a0 a1 a2 a3 N4 hN4 hE w1
    obtain ⟨E, hEE⟩ : ∃ E, nwE a0 a1 a2 a3 N4 = E := ⟨_, rfl⟩
    rw [hEE] at hn hE
    have HE : Hid (¬ E = 0) := hE
    simp only [sv] at hn ⊢
    go_enter Try.func4, Try.ntmps4
    go_wp2_with (first
      | (go_at_call 8; (with_reducible refine hn.mono ?_); rintro e u ⟨rfl, hu⟩; have hal := alive_any u)
      | (go_at_call 9; (with_reducible refine hal.mono ?_); rintro e u2 ⟨rfl, hu2⟩))
    go_ret
    exact ⟨rfl, bel2 (bel2 hb1 hu) hu2⟩
  have hn := new_ok a0 a1 a2 a3 N4 hN4 hE w1
  have hv0 := Tv.new hN4 hE
  obtain ⟨t0, ht0⟩ : ∃ t0, nwT a0 a1 a2 a3 N4 = t0 := ⟨_, rfl⟩
  have hro : t0.ro = a3 := by rw [← ht0]; rfl
  rw [ht0] at hn hv0
  by_cases hlong : 300 < (l5.length : Int)
  case pos =>
    simp only [sv] at hn ⊢
    go_enter Try.func4, Try.ntmps4
    go_wp2_with (first
      | (go_at_call 8; (with_reducible refine hn.mono ?_); rintro e u ⟨q, ad, cap, rfl, hT, hu⟩; have hal := alive_any u)
      | (go_at_call 9; (with_reducible refine hal.mono ?_); rintro e u2 ⟨rfl, hu2⟩))
    go_ret
    exact ⟨rfl, bel2 (bel2 hb1 hu) hu2⟩
  have hS : ∀ o ∈ l5, o.N < S128 := fun o ho => by
    obtain ⟨n, hn⟩ := List.mem_iff_getElem?.1 ho
    obtain ⟨_, _, _, _, _, _, _, h⟩ := w5 n o hn
    exact h
  have hSk : ∀ k, Tv (run t0 (l5.take k)) := fun k => hv0.run _ (fun o ho => hS o (List.mem_of_mem_take ho))
  have hl300 : l5.length ≤ 300 := by omega
  simp only [sv] at hn ⊢
  go_enter Try.func4, Try.ntmps4
  go_wp2_with (go_at_call 8; (with_reducible refine hn.mono ?_); rintro e u ⟨q, ad, cap, rfl, hT, hu⟩)
  obtain ⟨B, hB⟩ : ∃ B, w1.heap.size = B := ⟨_, rfl⟩
  rw [hB] at hT
  have hwB : w.heap.size ≤ B := by rw [← hB]; exact hb1.size
  have hT0 : ∃ ad cap, Ta u B q ad cap (run t0 (l5.take 0)) := ⟨ad, cap, hT⟩
  have hbu := bel2 hb1 hu
  clear hn y0 y1 y2 y3 hT ht0
  go_loopw [15] (fun c wz => ∃ k : Nat, c = .int .i64 k ∧ k ≤ l5.length ∧ (∃ ad cap, Ta wz B q ad cap (run t0 (l5.take k))) ∧ Below w.heap.size w wz) (fun c _ => l5.length - vnat c)
  case atStart => exact ⟨0, rfl, Nat.zero_le _, hT0, hbu⟩
  case round =>
    obtain ⟨k, rfl, hk, ⟨ad, cap, hT⟩, hbw⟩ := hrel
    by_cases hkl : k < l5.length
    · have hki : (k : Int) < (l5.length : Int) := by omega
      obtain ⟨o, ho⟩ : ∃ o, l5[k]? = some o := ⟨_, List.getElem?_eq_getElem hkl⟩
      obtain ⟨b, off, rfl, hbB, hAt, _, _, hN⟩ := w5 k o ho
      have hat : ∀ V, Jt wr B q ad cap (run t0 (l5.take k)) o false V → RpAt V b (off + k * 6) o := fun V hV => (hAt.carry hbw hbB).carry (show Below wr.heap.size wr V from hV) (Nat.lt_of_lt_of_le hbB hbw.size)
      have hBw : B ≤ wr.heap.size := Nat.le_trans hT.qb (Nat.le_of_lt hT.lt)
      obtain ⟨KD, hKD⟩ : ∃ z, kd (fto (run t0 (l5.take k)) o) = z := ⟨_, rfl⟩
      obtain ⟨KE, hKE⟩ : ∃ z, ke (fto (run t0 (l5.take k)) o) = z := ⟨_, rfl⟩
      have hgo : ∀ V, Jt wr B q ad cap (run t0 (l5.take k)) o false V → Calls Try.prog 11 #[.pointer (some ⟨q, 0, none⟩), .int .i64 o.f, .int .i64 o.r, sv o.N] V fun e w' => e = .returned (.tuple #[.int .i64 KD, .int .i64 KE]) ∧ Jt wr B q ad cap (run t0 (l5.take k)) o true w' := fun V hV => by
        rw [← hKD, ← hKE]
        exact hV.go hT (hSk k) hBw hN
      go_wp2
      refine wp_region_any hmx ?_
      refine wpAny_tabG (G := Unit) (fun g i__ => ([(.pointer (some ⟨q, 0, none⟩)), (.slice (some ⟨b, off, none⟩) l5.length cap5), (.int .i64 (k : Int)), (.pointer (some ⟨b, off + k * 6, none⟩)), (.pointer (some ⟨b, off + k * 6, none⟩)), (.int .i64 o.f), (.slice (some ⟨b, off, none⟩) l5.length cap5), (.int .i64 (k : Int)), (.pointer (some ⟨b, off + k * 6, none⟩)), (.pointer (some ⟨b, off + k * 6 + 1, none⟩)), (.int .i64 o.r), (.slice (some ⟨b, off, none⟩) l5.length cap5), (.int .i64 (k : Int)), (.pointer (some ⟨b, off + k * 6, none⟩)), (.pointer (some ⟨b, off + k * 6 + 2, none⟩)), (sv o.N), (.tuple #[.int .i64 KD, .int .i64 KE])] : List Value).getD i__ undef) (fun g d V => Jt wr B q ad cap (run t0 (l5.take k)) o (d 16) V) (by kernel_rfl) (()) (show Jt wr B q ad cap _ o false _ from (Below.refl _ _).drew) ?step1 ?fin1
      case step1 =>
        intro i o ho
        have hi : i < 17 := getElem?_lt ho
        match i, hi, ho with
        | 0, _, ho =>
          cases ho
          refine stepG_ofC (fun g d hun hdep hcl => ?_)
          exact step_move rfl trivial _ rfl (by kernel_rfl)
        | 1, _, ho =>
          cases ho
          refine stepG_ofC (fun g d hun hdep hcl => ?_)
          exact step_move rfl trivial _ rfl (by kernel_rfl)
        | 2, _, ho =>
          cases ho
          refine stepG_ofC (fun g d hun hdep hcl => ?_)
          exact step_move rfl trivial _ rfl (by kernel_rfl)
        | 3, _, ho =>
          cases ho
          refine stepG_ofC (fun g d hun hdep hcl => ?_)
          exact step_indexAddr rfl trivial _ _ _ _ _ rfl rfl rfl (fun v hw => idx_rp b off _ _ k hkl v)
        | 4, _, ho =>
          cases ho
          refine stepG_ofC (fun g d hun hdep hcl => ?_)
          exact step_fieldAddr rfl trivial _ _ _ _ rfl rfl (fun v hw => field_rp0 v _ _)
        | 5, _, ho =>
          cases ho
          refine stepG_ofC (fun g d hun hdep hcl => ?_)
          exact step_load rfl trivial _ _ _ rfl rfl (fun v hw => by have h16 : d 16 = false := (by cases h : d 16 with | false => rfl | true => exact absurd (hcl 16 _ rfl h 5 (by kernel_rfl)) (by rw [hun]; simp)); have hw' := hw; rw [h16] at hw'; exact (hat v hw').f0)
        | 6, _, ho =>
          cases ho
          refine stepG_ofC (fun g d hun hdep hcl => ?_)
          exact step_move rfl trivial _ rfl (by kernel_rfl)
        | 7, _, ho =>
          cases ho
          refine stepG_ofC (fun g d hun hdep hcl => ?_)
          exact step_move rfl trivial _ rfl (by kernel_rfl)
        | 8, _, ho =>
          cases ho
          refine stepG_ofC (fun g d hun hdep hcl => ?_)
          exact step_indexAddr rfl trivial _ _ _ _ _ rfl rfl rfl (fun v hw => idx_rp b off _ _ k hkl v)
        | 9, _, ho =>
          cases ho
          refine stepG_ofC (fun g d hun hdep hcl => ?_)
          exact step_fieldAddr rfl trivial _ _ _ _ rfl rfl (fun v hw => field_rp1 v _ _)
        | 10, _, ho =>
          cases ho
          refine stepG_ofC (fun g d hun hdep hcl => ?_)
          exact step_load rfl trivial _ _ _ rfl rfl (fun v hw => by have h16 : d 16 = false := (by cases h : d 16 with | false => rfl | true => exact absurd (hcl 16 _ rfl h 10 (by kernel_rfl)) (by rw [hun]; simp)); have hw' := hw; rw [h16] at hw'; exact (hat v hw').f1)
        | 11, _, ho =>
          cases ho
          refine stepG_ofC (fun g d hun hdep hcl => ?_)
          exact step_move rfl trivial _ rfl (by kernel_rfl)
        | 12, _, ho =>
          cases ho
          refine stepG_ofC (fun g d hun hdep hcl => ?_)
          exact step_move rfl trivial _ rfl (by kernel_rfl)
        | 13, _, ho =>
          cases ho
          refine stepG_ofC (fun g d hun hdep hcl => ?_)
          exact step_indexAddr rfl trivial _ _ _ _ _ rfl rfl rfl (fun v hw => idx_rp b off _ _ k hkl v)
        | 14, _, ho =>
          cases ho
          refine stepG_ofC (fun g d hun hdep hcl => ?_)
          exact step_fieldAddr rfl trivial _ _ _ _ rfl rfl (fun v hw => field_rp2 v _ _)
        | 15, _, ho =>
          cases ho
          refine stepG_ofC (fun g d hun hdep hcl => ?_)
          exact step_load rfl trivial _ _ _ rfl rfl (fun v hw => by have h16 : d 16 = false := (by cases h : d 16 with | false => rfl | true => exact absurd (hcl 16 _ rfl h 15 (by kernel_rfl)) (by rw [hun]; simp)); have hw' := hw; rw [h16] at hw'; exact (hat v hw').f2)
        | 16, _, ho =>
          cases ho
          refine stepG_ofC (fun g d hun hdep hcl => ?_)
          exact step_call rfl trivial 11 _ _ [(.pointer (some ⟨q, 0, none⟩)), (.int .i64 o.f), (.int .i64 o.r), (sv o.N)] rfl (by kernel_rfl) (enters_of Try.func11 (by kernel_rfl) rfl) (fun v hw => by have hw' := hw; rw [hun] at hw'; exact hgo v hw')
      intro g d W hall hW
      first | refine hK _ _ ?_ | refine (‹∀ (a : Act) (w : World), Code.wp Try.prog _ _ a w → _›) _ _ ?_ | skip
      simp only [finL, List.getD_cons_zero, List.getD_cons_succ, Nat.zero_add, Nat.reduceAdd, List.setIfInBounds_toArray, List.set_cons_zero, List.set_cons_succ]
      rw [hall 16 (by decide)] at hW
      obtain ⟨ad', cap', hT', hn', _⟩ := hW
      have HT : Hid (Ta W B q ad' cap' (run t0 (l5.take (k + 1)))) := by rw [run_succ t0 l5 k o ho]; exact hT'
      have HB : Hid (Below w.heap.size w W) := hbw.trans ((hT.below hn').mono hwB)
      clear hT' hn' hall
      go_wp2
      go_roundw
      case rel => exact ⟨k + 1, by simp, by omega, ⟨ad', cap', HT.out⟩, HB.out⟩
      case measure => simp [vnat]; omega
    · have hkk : k = l5.length := by omega
      subst hkk
      have hki : ¬ ((l5.length : Int) < (l5.length : Int)) := by omega
      rw [List.take_length] at hT
      obtain ⟨T, hTT⟩ : ∃ T, run t0 l5 = T := ⟨_, rfl⟩
      have hvT : Tv T := by rw [← hTT]; have := hSk l5.length; rwa [List.take_length] at this
      have hag : ∀ o ∈ l5, fto T o ≠ 5 := by rw [← hTT]; exact again_all l5 hv0 hS
      have hTro : T.ro = a3 := by rw [← hTT, (run_ro l5 t0).1, hro]
      rw [hTT] at hT
      have hlen : T.hs.length ≤ 100 := by have := hvT.len; have := hvT.d1; have := hvT.n1; omega
      have hhe := heards_any hT (by omega)
      have hre := fun V (hV : Below wr.heap.size wr V) => reps_any (hT.carry hV)
      obtain ⟨nT, hnT⟩ : ∃ nT, T.hs.length = nT := ⟨_, rfl⟩
      rw [hnT] at hhe
      obtain ⟨R, hR⟩ : ∃ R, T.reps = R := ⟨_, rfl⟩
      rw [hR] at hre
      have HT : Hid (Ta wr B q ad cap T) := hT
      clear hT
      simp only [sv] at hre
      go_wp2_with (first
        | (go_at_call 17; (with_reducible refine hhe.mono ?_); rintro e u1 ⟨aw, cw, rfl, how, hbw1⟩)
        | (go_at_call 13; (with_reducible refine (hre u1 hbw1).mono ?_); rintro e u2 ⟨rfl, hbw2⟩; obtain ⟨u3, hu3⟩ : ∃ u3, u2.alloc (.cells #[.int .u32 0, .int .u32 0, .int .u32 0, .int .u32 0] 24) = u3 := ⟨_, rfl⟩; have G3 : Hid (Holds4 u3 u2.heap.size (fun _ => 0)) := (by rw [← hu3]; exact new_at rfl); have hbw3 : Below u1.heap.size u1 u3 := (by rw [← hu3]; exact bel2 hbw2 (al1' _ _)))
        | (refine wpList_store_row rfl 24 (.tmp 17) (.tmp 64) rfl u2.heap.size (cells4 (wd R)) rfl rfl 24 _ G3.out infoS rfl (by simp [cells4, Value.oneCell']) ?_; obtain ⟨u4, hu4⟩ : ∃ v, u3.setRow u2.heap.size (cells4 (wd R)) = v := ⟨_, rfl⟩; have G4 : Hid (Holds4 u4 u2.heap.size (wd R)) := (by rw [← hu4]; exact setRow_heap _ _ _ _ _ _ G3.out); have hbw4 : Below u1.heap.size u1 u4 := (by rw [← hu4]; exact below_row hbw3 hbw2.size _); rw [hu4]))
      have hb4 : Below wr.heap.size wr u4 := bel2 hbw1 hbw4
      have hT4 := HT.out.carry hb4
      rw [← hnT] at how
      have hR4 : RdS u4 aw T.hs := (RdS.own how).carry hbw4
      have hb04 : Below w.heap.size w u4 := bel2 hbw hb4
      have hwh : ∀ V, Below u4.heap.size u4 V → Holds4 V u2.heap.size (wd R) := fun V hV => G4.out.carry hV
      have hB4 : B ≤ u4.heap.size := Nat.le_trans hT4.qb (Nat.le_of_lt hT4.lt)
      have hRR : R < S100 := by rw [← hR]; exact hvT.reps
      clear hre hhe hu3 hu4 hbw3 hbw4 hbw2 hbw1 G3 G4 HT how hbw
      go_loopw [18] (fun c wz => ∃ k : Nat, c = .int .i64 k ∧ k ≤ l5.length ∧ Below u4.heap.size u4 wz) (fun c _ => l5.length - vnat c)
      case atStart => exact ⟨0, rfl, Nat.zero_le _, Below.refl _ _⟩
      case round =>
        obtain ⟨k, rfl, hk, hbw⟩ := hrel
        by_cases hkl : k < l5.length
        · have hki : (k : Int) < (l5.length : Int) := by omega
          obtain ⟨o, ho⟩ : ∃ o, l5[k]? = some o := ⟨_, List.getElem?_eq_getElem hkl⟩
          obtain ⟨b, off, rfl, hbB, hAt, _, _, hN⟩ := w5 k o ho
          have hat0 : ∀ V, Below wr.heap.size wr V → RpAt V b (off + k * 6) o := fun V hV => (hAt.carry (bel2 hb04 hbw) hbB).carry hV (Nat.lt_of_lt_of_le hbB (bel2 hb04 hbw).size)
          have hat : ∀ V, Jt wr B q ad cap T o false V → RpAt V b (off + k * 6) o := fun V hV => hat0 V hV
          have hTr := hT4.carry hbw
          have hBw : B ≤ wr.heap.size := Nat.le_trans hTr.qb (Nat.le_of_lt hTr.lt)
          have h5 := hag o (List.mem_of_getElem? ho)
          obtain ⟨KD, hKD⟩ : ∃ z, kd (fto T o) = z := ⟨_, rfl⟩
          obtain ⟨KE, hKE⟩ : ∃ z, ke (fto T o) = z := ⟨_, rfl⟩
          have hgo : ∀ V, Jt wr B q ad cap T o false V → Calls Try.prog 11 #[.pointer (some ⟨q, 0, none⟩), .int .i64 o.f, .int .i64 o.r, sv o.N] V fun e w' => e = .returned (.tuple #[.int .i64 KD, .int .i64 KE]) ∧ Jt wr B q ad cap T o true w' := fun V hV => by
            rw [← hKD, ← hKE]
            exact hV.go hTr hvT hBw hN
          go_wp2
          refine wp_region_any hmx ?_
          refine wpAny_tabG (G := Unit) (fun g i__ => ([(.pointer (some ⟨q, 0, none⟩)), (.slice (some ⟨b, off, none⟩) l5.length cap5), (.int .i64 (k : Int)), (.pointer (some ⟨b, off + k * 6, none⟩)), (.pointer (some ⟨b, off + k * 6, none⟩)), (.int .i64 o.f), (.slice (some ⟨b, off, none⟩) l5.length cap5), (.int .i64 (k : Int)), (.pointer (some ⟨b, off + k * 6, none⟩)), (.pointer (some ⟨b, off + k * 6 + 1, none⟩)), (.int .i64 o.r), (.slice (some ⟨b, off, none⟩) l5.length cap5), (.int .i64 (k : Int)), (.pointer (some ⟨b, off + k * 6, none⟩)), (.pointer (some ⟨b, off + k * 6 + 2, none⟩)), (sv o.N), (.tuple #[.int .i64 KD, .int .i64 KE]), (.tuple #[.int .i64 KD, .int .i64 KE]), (.int .i64 KD), (.int .i64 KE), (.int .i64 KD), (.int .i64 KE)] : List Value).getD i__ undef) (fun g d V => Jt wr B q ad cap T o (d 16) V) (by kernel_rfl) (()) (show Jt wr B q ad cap _ o false _ from (Below.refl _ _).drew) ?step2 ?fin2
          case step2 =>
            intro i o ho
            have hi : i < 22 := getElem?_lt ho
            match i, hi, ho with
            | 0, _, ho =>
              cases ho
              refine stepG_ofC (fun g d hun hdep hcl => ?_)
              exact step_move rfl trivial _ rfl (by kernel_rfl)
            | 1, _, ho =>
              cases ho
              refine stepG_ofC (fun g d hun hdep hcl => ?_)
              exact step_move rfl trivial _ rfl (by kernel_rfl)
            | 2, _, ho =>
              cases ho
              refine stepG_ofC (fun g d hun hdep hcl => ?_)
              exact step_move rfl trivial _ rfl (by kernel_rfl)
            | 3, _, ho =>
              cases ho
              refine stepG_ofC (fun g d hun hdep hcl => ?_)
              exact step_indexAddr rfl trivial _ _ _ _ _ rfl rfl rfl (fun v hw => idx_rp b off _ _ k hkl v)
            | 4, _, ho =>
              cases ho
              refine stepG_ofC (fun g d hun hdep hcl => ?_)
              exact step_fieldAddr rfl trivial _ _ _ _ rfl rfl (fun v hw => field_rp0 v _ _)
            | 5, _, ho =>
              cases ho
              refine stepG_ofC (fun g d hun hdep hcl => ?_)
              exact step_load rfl trivial _ _ _ rfl rfl (fun v hw => by have h16 : d 16 = false := (by cases h : d 16 with | false => rfl | true => exact absurd (hcl 16 _ rfl h 5 (by kernel_rfl)) (by rw [hun]; simp)); have hw' := hw; rw [h16] at hw'; exact (hat v hw').f0)
            | 6, _, ho =>
              cases ho
              refine stepG_ofC (fun g d hun hdep hcl => ?_)
              exact step_move rfl trivial _ rfl (by kernel_rfl)
            | 7, _, ho =>
              cases ho
              refine stepG_ofC (fun g d hun hdep hcl => ?_)
              exact step_move rfl trivial _ rfl (by kernel_rfl)
            | 8, _, ho =>
              cases ho
              refine stepG_ofC (fun g d hun hdep hcl => ?_)
              exact step_indexAddr rfl trivial _ _ _ _ _ rfl rfl rfl (fun v hw => idx_rp b off _ _ k hkl v)
            | 9, _, ho =>
              cases ho
              refine stepG_ofC (fun g d hun hdep hcl => ?_)
              exact step_fieldAddr rfl trivial _ _ _ _ rfl rfl (fun v hw => field_rp1 v _ _)
            | 10, _, ho =>
              cases ho
              refine stepG_ofC (fun g d hun hdep hcl => ?_)
              exact step_load rfl trivial _ _ _ rfl rfl (fun v hw => by have h16 : d 16 = false := (by cases h : d 16 with | false => rfl | true => exact absurd (hcl 16 _ rfl h 10 (by kernel_rfl)) (by rw [hun]; simp)); have hw' := hw; rw [h16] at hw'; exact (hat v hw').f1)
            | 11, _, ho =>
              cases ho
              refine stepG_ofC (fun g d hun hdep hcl => ?_)
              exact step_move rfl trivial _ rfl (by kernel_rfl)
            | 12, _, ho =>
              cases ho
              refine stepG_ofC (fun g d hun hdep hcl => ?_)
              exact step_move rfl trivial _ rfl (by kernel_rfl)
            | 13, _, ho =>
              cases ho
              refine stepG_ofC (fun g d hun hdep hcl => ?_)
              exact step_indexAddr rfl trivial _ _ _ _ _ rfl rfl rfl (fun v hw => idx_rp b off _ _ k hkl v)
            | 14, _, ho =>
              cases ho
              refine stepG_ofC (fun g d hun hdep hcl => ?_)
              exact step_fieldAddr rfl trivial _ _ _ _ rfl rfl (fun v hw => field_rp2 v _ _)
            | 15, _, ho =>
              cases ho
              refine stepG_ofC (fun g d hun hdep hcl => ?_)
              exact step_load rfl trivial _ _ _ rfl rfl (fun v hw => by have h16 : d 16 = false := (by cases h : d 16 with | false => rfl | true => exact absurd (hcl 16 _ rfl h 15 (by kernel_rfl)) (by rw [hun]; simp)); have hw' := hw; rw [h16] at hw'; exact (hat v hw').f2)
            | 16, _, ho =>
              cases ho
              refine stepG_ofC (fun g d hun hdep hcl => ?_)
              exact step_call rfl trivial 11 _ _ [(.pointer (some ⟨q, 0, none⟩)), (.int .i64 o.f), (.int .i64 o.r), (sv o.N)] rfl (by kernel_rfl) (enters_of Try.func11 (by kernel_rfl) rfl) (fun v hw => by have hw' := hw; rw [hun] at hw'; exact hgo v hw')
            | 17, _, ho =>
              cases ho
              refine stepG_ofC (fun g d hun hdep hcl => ?_)
              exact step_move rfl trivial _ rfl (by kernel_rfl)
            | 18, _, ho =>
              cases ho
              refine stepG_ofC (fun g d hun hdep hcl => ?_)
              exact step_extract rfl trivial _ _ _ rfl rfl (fun v hw => ext2_0 _ _ v)
            | 19, _, ho =>
              cases ho
              refine stepG_ofC (fun g d hun hdep hcl => ?_)
              exact step_extract rfl trivial _ _ _ rfl rfl (fun v hw => ext2_1 _ _ v)
            | 20, _, ho =>
              cases ho
              refine stepG_ofC (fun g d hun hdep hcl => ?_)
              exact step_assign rfl trivial _ rfl (by kernel_rfl) (fun _ h => h)
            | 21, _, ho =>
              cases ho
              refine stepG_ofC (fun g d hun hdep hcl => ?_)
              exact step_assign rfl trivial _ rfl (by kernel_rfl) (fun _ h => h)
          intro g d W hall hW
          first | refine hK _ _ ?_ | refine (‹∀ (a : Act) (w : World), Code.wp Try.prog _ _ a w → _›) _ _ ?_ | skip
          simp only [finL, List.getD_cons_zero, List.getD_cons_succ, Nat.zero_add, Nat.reduceAdd, List.setIfInBounds_toArray, List.set_cons_zero, List.set_cons_succ]
          rw [hall 16 (by decide)] at hW
          obtain ⟨ad', cap', _, _, h6⟩ := hW
          obtain ⟨_, _, hbW⟩ := h6 h5
          clear hall h6 hgo hat
          have hi4 : fto T o = 0 ∨ fto T o = 1 ∨ fto T o = 2 ∨ fto T o = 3 ∨ fto T o = 4 := by have := fate_lt T o.f o.r o.N; unfold fto at h5 ⊢; omega
          have hat1 : ∀ V, Below W.heap.size W V → RpAt V b (off + k * 6) o := fun V hV => hat0 V (bel2 hbW hV)
          have hwh1 : ∀ V, Below W.heap.size W V → Holds4 V u2.heap.size (wd R) := fun V hV => hwh V (bel2 (bel2 hbw hbW) hV)
          have hbA : Below u4.heap.size u4 W := bel2 hbw hbW
          rcases hi4 with hi | hi | hi | hi | hi
          · rw [hi] at hKD hKE
            obtain rfl : KD = 5 := hKD.symm
            obtain rfl : KE = 0 := hKE.symm
            clear hKD hKE
            go_wp2
            refine wp_region_any hmx ?_
            refine wpAny_pure (fun i__ => ([(.int .i64 0), (.bool true), (.bool true), (.int .i64 5), (.bool false), (.bool false), (.bool false), undef, undef, undef, undef, undef, undef, undef, (.bool false), (.bool false), undef, undef, undef, undef, undef, undef, undef, undef, undef, undef, (.bool false)] : List Value).getD i__ undef) (fun V => Below W.heap.size W V) (by kernel_rfl) (Below.refl _ _).drew ?_ ?_
            · refine (stepsFrom_cons ?_ (stepsFrom_cons ?_ (stepsFrom_cons ?_ (stepsFrom_cons ?_ (stepsFrom_cons ?_ (stepsFrom_cons ?_ (stepsFrom_cons ?_ (stepsFrom_cons ?_ (stepsFrom_cons ?_ (stepsFrom_cons ?_ (stepsFrom_cons ?_ (stepsFrom_cons ?_ (stepsFrom_cons ?_ (stepsFrom_cons ?_ (stepsFrom_cons ?_ (stepsFrom_cons ?_ (stepsFrom_cons ?_ (stepsFrom_cons ?_ (stepsFrom_cons ?_ (stepsFrom_cons ?_ (stepsFrom_cons ?_ (stepsFrom_cons ?_ (stepsFrom_cons ?_ (stepsFrom_cons ?_ (stepsFrom_cons ?_ (stepsFrom_cons ?_ (stepsFrom_cons ?_ trivial)))))))))))))))))))))))))))
              · exact step_move rfl trivial _ rfl (by kernel_rfl)
              · exact step_binOp rfl trivial _ _ _ _ _ _ _ rfl rfl rfl (fun v hw => bin_eql .i64 0 0)
              · exact step_move rfl trivial _ rfl (by kernel_rfl)
              · exact step_move rfl (by exact ⟨_, rfl, by kernel_rfl⟩) _ rfl (by kernel_rfl)
              · exact step_binOp rfl (by exact ⟨_, rfl, by kernel_rfl⟩) _ _ _ _ _ _ _ rfl rfl rfl (fun v hw => bin_neq .i64 5 5)
              · exact step_pick rfl trivial _ _ _ true rfl (by kernel_rfl) (by kernel_rfl)
              · exact step_move rfl trivial _ rfl (by kernel_rfl)
              · exact step_skip rfl 6 true 99 (.bool false) rfl rfl (by kernel_rfl) (by intro h; cases h) rfl
              · exact step_skip rfl 6 true 99 (.bool false) rfl rfl (by kernel_rfl) (by intro h; cases h) rfl
              · exact step_skip rfl 6 true 99 (.bool false) rfl rfl (by kernel_rfl) (by intro h; cases h) rfl
              · exact step_skip rfl 6 true 99 (.bool false) rfl rfl (by kernel_rfl) (by intro h; cases h) rfl
              · exact step_skip rfl 6 true 99 (.bool false) rfl rfl (by kernel_rfl) (by intro h; cases h) rfl
              · exact step_skip rfl 6 true 99 (.bool false) rfl rfl (by kernel_rfl) (by intro h; cases h) rfl
              · exact step_skip rfl 6 true 99 (.bool false) rfl rfl (by kernel_rfl) (by intro h; cases h) rfl
              · exact step_pick rfl trivial _ _ _ false rfl (by kernel_rfl) (by kernel_rfl)
              · exact step_move rfl trivial _ rfl (by kernel_rfl)
              · exact step_skip rfl 15 true 108 (.bool false) rfl rfl (by kernel_rfl) (by intro h; cases h) rfl
              · exact step_skip rfl 15 true 108 (.bool false) rfl rfl (by kernel_rfl) (by intro h; cases h) rfl
              · exact step_skip rfl 15 true 108 (.bool false) rfl rfl (by kernel_rfl) (by intro h; cases h) rfl
              · exact step_skip rfl 15 true 108 (.bool false) rfl rfl (by kernel_rfl) (by intro h; cases h) rfl
              · exact step_skip rfl 15 true 108 (.bool false) rfl rfl (by kernel_rfl) (by intro h; cases h) rfl
              · exact step_skip rfl 15 true 108 (.bool false) rfl rfl (by kernel_rfl) (by intro h; cases h) rfl
              · exact step_skip rfl 15 true 108 (.bool false) rfl rfl (by kernel_rfl) (by intro h; cases h) rfl
              · exact step_skip rfl 15 true 108 (.bool false) rfl rfl (by kernel_rfl) (by intro h; cases h) rfl
              · exact step_skip rfl 15 true 108 (.bool false) rfl rfl (by kernel_rfl) (by intro h; cases h) rfl
              · exact step_skip rfl 15 true 108 (.bool false) rfl rfl (by kernel_rfl) (by intro h; cases h) rfl
              · exact step_pick rfl trivial _ _ _ false rfl (by kernel_rfl) (by kernel_rfl)
            intro W hW
            first | refine hK _ _ ?_ | refine (‹∀ (a : Act) (w : World), Code.wp Try.prog _ _ a w → _›) _ _ ?_
            simp only [finL, List.getD_cons_zero, List.getD_cons_succ, Nat.zero_add, Nat.reduceAdd, List.setIfInBounds_toArray, List.set_cons_zero, List.set_cons_succ]
            rename_i W2
            go_wp2
            go_roundw
            case rel => exact ⟨k + 1, by simp, by omega, bel2 hbA hW⟩
            case measure => simp [vnat]; omega
          · rw [hi] at hKD hKE
            obtain rfl : KD = 0 := hKD.symm
            obtain rfl : KE = 74 := hKE.symm
            clear hKD hKE
            go_wp2
            refine wp_region_any hmx ?_
            refine wpAny_pure (fun i__ => ([(.int .i64 74), (.bool false), (.bool false), undef, undef, (.bool false), (.bool false), undef, undef, undef, undef, undef, undef, undef, (.bool false), (.bool false), undef, undef, undef, undef, undef, undef, undef, undef, undef, undef, (.bool false)] : List Value).getD i__ undef) (fun V => Below W.heap.size W V) (by kernel_rfl) (Below.refl _ _).drew ?_ ?_
            · refine (stepsFrom_cons ?_ (stepsFrom_cons ?_ (stepsFrom_cons ?_ (stepsFrom_cons ?_ (stepsFrom_cons ?_ (stepsFrom_cons ?_ (stepsFrom_cons ?_ (stepsFrom_cons ?_ (stepsFrom_cons ?_ (stepsFrom_cons ?_ (stepsFrom_cons ?_ (stepsFrom_cons ?_ (stepsFrom_cons ?_ (stepsFrom_cons ?_ (stepsFrom_cons ?_ (stepsFrom_cons ?_ (stepsFrom_cons ?_ (stepsFrom_cons ?_ (stepsFrom_cons ?_ (stepsFrom_cons ?_ (stepsFrom_cons ?_ (stepsFrom_cons ?_ (stepsFrom_cons ?_ (stepsFrom_cons ?_ (stepsFrom_cons ?_ (stepsFrom_cons ?_ (stepsFrom_cons ?_ trivial)))))))))))))))))))))))))))
              · exact step_move rfl trivial _ rfl (by kernel_rfl)
              · exact step_binOp rfl trivial _ _ _ _ _ _ _ rfl rfl rfl (fun v hw => bin_eql .i64 74 0)
              · exact step_move rfl trivial _ rfl (by kernel_rfl)
              · exact step_skip rfl 2 true 95 (.bool false) rfl rfl (by kernel_rfl) (by intro h; cases h) rfl
              · exact step_skip rfl 2 true 95 (.bool false) rfl rfl (by kernel_rfl) (by intro h; cases h) rfl
              · exact step_pick rfl trivial _ _ _ false rfl (by kernel_rfl) (by kernel_rfl)
              · exact step_move rfl trivial _ rfl (by kernel_rfl)
              · exact step_skip rfl 6 true 99 (.bool false) rfl rfl (by kernel_rfl) (by intro h; cases h) rfl
              · exact step_skip rfl 6 true 99 (.bool false) rfl rfl (by kernel_rfl) (by intro h; cases h) rfl
              · exact step_skip rfl 6 true 99 (.bool false) rfl rfl (by kernel_rfl) (by intro h; cases h) rfl
              · exact step_skip rfl 6 true 99 (.bool false) rfl rfl (by kernel_rfl) (by intro h; cases h) rfl
              · exact step_skip rfl 6 true 99 (.bool false) rfl rfl (by kernel_rfl) (by intro h; cases h) rfl
              · exact step_skip rfl 6 true 99 (.bool false) rfl rfl (by kernel_rfl) (by intro h; cases h) rfl
              · exact step_skip rfl 6 true 99 (.bool false) rfl rfl (by kernel_rfl) (by intro h; cases h) rfl
              · exact step_pick rfl trivial _ _ _ false rfl (by kernel_rfl) (by kernel_rfl)
              · exact step_move rfl trivial _ rfl (by kernel_rfl)
              · exact step_skip rfl 15 true 108 (.bool false) rfl rfl (by kernel_rfl) (by intro h; cases h) rfl
              · exact step_skip rfl 15 true 108 (.bool false) rfl rfl (by kernel_rfl) (by intro h; cases h) rfl
              · exact step_skip rfl 15 true 108 (.bool false) rfl rfl (by kernel_rfl) (by intro h; cases h) rfl
              · exact step_skip rfl 15 true 108 (.bool false) rfl rfl (by kernel_rfl) (by intro h; cases h) rfl
              · exact step_skip rfl 15 true 108 (.bool false) rfl rfl (by kernel_rfl) (by intro h; cases h) rfl
              · exact step_skip rfl 15 true 108 (.bool false) rfl rfl (by kernel_rfl) (by intro h; cases h) rfl
              · exact step_skip rfl 15 true 108 (.bool false) rfl rfl (by kernel_rfl) (by intro h; cases h) rfl
              · exact step_skip rfl 15 true 108 (.bool false) rfl rfl (by kernel_rfl) (by intro h; cases h) rfl
              · exact step_skip rfl 15 true 108 (.bool false) rfl rfl (by kernel_rfl) (by intro h; cases h) rfl
              · exact step_skip rfl 15 true 108 (.bool false) rfl rfl (by kernel_rfl) (by intro h; cases h) rfl
              · exact step_pick rfl trivial _ _ _ false rfl (by kernel_rfl) (by kernel_rfl)
            intro W hW
            first | refine hK _ _ ?_ | refine (‹∀ (a : Act) (w : World), Code.wp Try.prog _ _ a w → _›) _ _ ?_
            simp only [finL, List.getD_cons_zero, List.getD_cons_succ, Nat.zero_add, Nat.reduceAdd, List.setIfInBounds_toArray, List.set_cons_zero, List.set_cons_succ]
            rename_i W2
            go_wp2
            go_roundw
            case rel => exact ⟨k + 1, by simp, by omega, bel2 hbA hW⟩
            case measure => simp [vnat]; omega
          · rw [hi] at hKD hKE
            obtain rfl : KD = 2 := hKD.symm
            obtain rfl : KE = 0 := hKE.symm
            clear hKD hKE
            have hne : o.r ≠ a3 := by rw [← hTro]; exact fto_2 hi
            go_wp2
            refine wp_region_any hmx ?_
            refine wpAny_pure (fun i__ => ([(.int .i64 0), (.bool true), (.bool true), (.int .i64 2), (.bool true), (.bool true), (.bool true), (.slice (some ⟨b, off, none⟩) l5.length cap5), (.int .i64 (k : Int)), (.pointer (some ⟨b, off + k * 6, none⟩)), (.pointer (some ⟨b, off + k * 6 + 1, none⟩)), (.int .i64 o.r), (.int .i64 a3), (.bool false), (.bool false), (.bool false), undef, undef, undef, undef, undef, undef, undef, undef, undef, undef, (.bool false)] : List Value).getD i__ undef) (fun V => Below W.heap.size W V) (by kernel_rfl) (Below.refl _ _).drew ?_ ?_
            · refine (stepsFrom_cons ?_ (stepsFrom_cons ?_ (stepsFrom_cons ?_ (stepsFrom_cons ?_ (stepsFrom_cons ?_ (stepsFrom_cons ?_ (stepsFrom_cons ?_ (stepsFrom_cons ?_ (stepsFrom_cons ?_ (stepsFrom_cons ?_ (stepsFrom_cons ?_ (stepsFrom_cons ?_ (stepsFrom_cons ?_ (stepsFrom_cons ?_ (stepsFrom_cons ?_ (stepsFrom_cons ?_ (stepsFrom_cons ?_ (stepsFrom_cons ?_ (stepsFrom_cons ?_ (stepsFrom_cons ?_ (stepsFrom_cons ?_ (stepsFrom_cons ?_ (stepsFrom_cons ?_ (stepsFrom_cons ?_ (stepsFrom_cons ?_ (stepsFrom_cons ?_ (stepsFrom_cons ?_ trivial)))))))))))))))))))))))))))
              · exact step_move rfl trivial _ rfl (by kernel_rfl)
              · exact step_binOp rfl trivial _ _ _ _ _ _ _ rfl rfl rfl (fun v hw => bin_eql .i64 0 0)
              · exact step_move rfl trivial _ rfl (by kernel_rfl)
              · exact step_move rfl (by exact ⟨_, rfl, by kernel_rfl⟩) _ rfl (by kernel_rfl)
              · exact step_binOp rfl (by exact ⟨_, rfl, by kernel_rfl⟩) _ _ _ _ _ _ _ rfl rfl rfl (fun v hw => bin_neq .i64 2 5)
              · exact step_pick rfl trivial _ _ _ true rfl (by kernel_rfl) (by kernel_rfl)
              · exact step_move rfl trivial _ rfl (by kernel_rfl)
              · exact step_move rfl (by exact ⟨_, rfl, by kernel_rfl⟩) _ rfl (by kernel_rfl)
              · exact step_move rfl (by exact ⟨_, rfl, by kernel_rfl⟩) _ rfl (by kernel_rfl)
              · exact step_indexAddr rfl (by exact ⟨_, rfl, by kernel_rfl⟩) _ _ _ _ _ rfl rfl rfl (fun v hw => idx_rp b off _ _ k hkl v)
              · exact step_fieldAddr rfl (by exact ⟨_, rfl, by kernel_rfl⟩) _ _ _ _ rfl rfl (fun v hw => field_rp1 v _ _)
              · exact step_load rfl (by exact ⟨_, rfl, by kernel_rfl⟩) _ _ _ rfl rfl (fun v hw => (hat1 v hw).f1)
              · exact step_move rfl (by exact ⟨_, rfl, by kernel_rfl⟩) _ rfl (by kernel_rfl)
              · exact step_binOp rfl (by exact ⟨_, rfl, by kernel_rfl⟩) _ _ _ _ _ _ _ rfl rfl rfl (fun v hw => (bin_eql .i64 _ _).trans (by simp [hne]))
              · exact step_pick rfl trivial _ _ _ true rfl (by kernel_rfl) (by kernel_rfl)
              · exact step_move rfl trivial _ rfl (by kernel_rfl)
              · exact step_skip rfl 15 true 108 (.bool false) rfl rfl (by kernel_rfl) (by intro h; cases h) rfl
              · exact step_skip rfl 15 true 108 (.bool false) rfl rfl (by kernel_rfl) (by intro h; cases h) rfl
              · exact step_skip rfl 15 true 108 (.bool false) rfl rfl (by kernel_rfl) (by intro h; cases h) rfl
              · exact step_skip rfl 15 true 108 (.bool false) rfl rfl (by kernel_rfl) (by intro h; cases h) rfl
              · exact step_skip rfl 15 true 108 (.bool false) rfl rfl (by kernel_rfl) (by intro h; cases h) rfl
              · exact step_skip rfl 15 true 108 (.bool false) rfl rfl (by kernel_rfl) (by intro h; cases h) rfl
              · exact step_skip rfl 15 true 108 (.bool false) rfl rfl (by kernel_rfl) (by intro h; cases h) rfl
              · exact step_skip rfl 15 true 108 (.bool false) rfl rfl (by kernel_rfl) (by intro h; cases h) rfl
              · exact step_skip rfl 15 true 108 (.bool false) rfl rfl (by kernel_rfl) (by intro h; cases h) rfl
              · exact step_skip rfl 15 true 108 (.bool false) rfl rfl (by kernel_rfl) (by intro h; cases h) rfl
              · exact step_pick rfl trivial _ _ _ false rfl (by kernel_rfl) (by kernel_rfl)
            intro W hW
            first | refine hK _ _ ?_ | refine (‹∀ (a : Act) (w : World), Code.wp Try.prog _ _ a w → _›) _ _ ?_
            simp only [finL, List.getD_cons_zero, List.getD_cons_succ, Nat.zero_add, Nat.reduceAdd, List.setIfInBounds_toArray, List.set_cons_zero, List.set_cons_succ]
            rename_i W2
            go_wp2
            go_roundw
            case rel => exact ⟨k + 1, by simp, by omega, bel2 hbA hW⟩
            case measure => simp [vnat]; omega
          · rw [hi] at hKD hKE
            obtain rfl : KD = 3 := hKD.symm
            obtain rfl : KE = 0 := hKE.symm
            clear hKD hKE
            have hne : o.r = a3 := by rw [← hTro]; exact fto_hi (by omega)
            have hha : hasB R o.f = true := by rw [← hR, again_has hvT 3 (by omega) hi]; rfl
            go_wp2
            refine wp_region_any hmx ?_
            refine wpAny_pure (fun i__ => ([(.int .i64 0), (.bool true), (.bool true), (.int .i64 3), (.bool true), (.bool true), (.bool true), (.slice (some ⟨b, off, none⟩) l5.length cap5), (.int .i64 (k : Int)), (.pointer (some ⟨b, off + k * 6, none⟩)), (.pointer (some ⟨b, off + k * 6 + 1, none⟩)), (.int .i64 o.r), (.int .i64 a3), (.bool true), (.bool true), (.bool true), (.int .i64 3), (.bool true), (sv R), (.slice (some ⟨b, off, none⟩) l5.length cap5), (.int .i64 (k : Int)), (.pointer (some ⟨b, off + k * 6, none⟩)), (.pointer (some ⟨b, off + k * 6, none⟩)), (.int .i64 o.f), (.bool true), (.bool false), (.bool false)] : List Value).getD i__ undef) (fun V => Below W.heap.size W V) (by kernel_rfl) (Below.refl _ _).drew ?_ ?_
            · refine (stepsFrom_cons ?_ (stepsFrom_cons ?_ (stepsFrom_cons ?_ (stepsFrom_cons ?_ (stepsFrom_cons ?_ (stepsFrom_cons ?_ (stepsFrom_cons ?_ (stepsFrom_cons ?_ (stepsFrom_cons ?_ (stepsFrom_cons ?_ (stepsFrom_cons ?_ (stepsFrom_cons ?_ (stepsFrom_cons ?_ (stepsFrom_cons ?_ (stepsFrom_cons ?_ (stepsFrom_cons ?_ (stepsFrom_cons ?_ (stepsFrom_cons ?_ (stepsFrom_cons ?_ (stepsFrom_cons ?_ (stepsFrom_cons ?_ (stepsFrom_cons ?_ (stepsFrom_cons ?_ (stepsFrom_cons ?_ (stepsFrom_cons ?_ (stepsFrom_cons ?_ (stepsFrom_cons ?_ trivial)))))))))))))))))))))))))))
              · exact step_move rfl trivial _ rfl (by kernel_rfl)
              · exact step_binOp rfl trivial _ _ _ _ _ _ _ rfl rfl rfl (fun v hw => bin_eql .i64 0 0)
              · exact step_move rfl trivial _ rfl (by kernel_rfl)
              · exact step_move rfl (by exact ⟨_, rfl, by kernel_rfl⟩) _ rfl (by kernel_rfl)
              · exact step_binOp rfl (by exact ⟨_, rfl, by kernel_rfl⟩) _ _ _ _ _ _ _ rfl rfl rfl (fun v hw => bin_neq .i64 3 5)
              · exact step_pick rfl trivial _ _ _ true rfl (by kernel_rfl) (by kernel_rfl)
              · exact step_move rfl trivial _ rfl (by kernel_rfl)
              · exact step_move rfl (by exact ⟨_, rfl, by kernel_rfl⟩) _ rfl (by kernel_rfl)
              · exact step_move rfl (by exact ⟨_, rfl, by kernel_rfl⟩) _ rfl (by kernel_rfl)
              · exact step_indexAddr rfl (by exact ⟨_, rfl, by kernel_rfl⟩) _ _ _ _ _ rfl rfl rfl (fun v hw => idx_rp b off _ _ k hkl v)
              · exact step_fieldAddr rfl (by exact ⟨_, rfl, by kernel_rfl⟩) _ _ _ _ rfl rfl (fun v hw => field_rp1 v _ _)
              · exact step_load rfl (by exact ⟨_, rfl, by kernel_rfl⟩) _ _ _ rfl rfl (fun v hw => (hat1 v hw).f1)
              · exact step_move rfl (by exact ⟨_, rfl, by kernel_rfl⟩) _ rfl (by kernel_rfl)
              · exact step_binOp rfl (by exact ⟨_, rfl, by kernel_rfl⟩) _ _ _ _ _ _ _ rfl rfl rfl (fun v hw => (bin_eql .i64 _ _).trans (by simp [hne]))
              · exact step_pick rfl trivial _ _ _ true rfl (by kernel_rfl) (by kernel_rfl)
              · exact step_move rfl trivial _ rfl (by kernel_rfl)
              · exact step_move rfl (by exact ⟨_, rfl, by kernel_rfl⟩) _ rfl (by kernel_rfl)
              · exact step_binOp rfl (by exact ⟨_, rfl, by kernel_rfl⟩) _ _ _ _ _ _ _ rfl rfl rfl (fun v hw => bin_eql .i64 3 3)
              · exact step_load rfl (by exact ⟨_, rfl, by kernel_rfl⟩) _ _ _ rfl rfl (fun v hw => whole4 v _ R (hwh1 v hw))
              · exact step_move rfl (by exact ⟨_, rfl, by kernel_rfl⟩) _ rfl (by kernel_rfl)
              · exact step_move rfl (by exact ⟨_, rfl, by kernel_rfl⟩) _ rfl (by kernel_rfl)
              · exact step_indexAddr rfl (by exact ⟨_, rfl, by kernel_rfl⟩) _ _ _ _ _ rfl rfl rfl (fun v hw => idx_rp b off _ _ k hkl v)
              · exact step_fieldAddr rfl (by exact ⟨_, rfl, by kernel_rfl⟩) _ _ _ _ rfl rfl (fun v hw => field_rp0 v _ _)
              · exact step_load rfl (by exact ⟨_, rfl, by kernel_rfl⟩) _ _ _ rfl rfl (fun v hw => (hat1 v hw).f0)
              · exact step_call rfl (by exact ⟨_, rfl, by kernel_rfl⟩) 18 _ _ [(sv R), (.int .i64 o.f)] rfl (by kernel_rfl) (enters_of Try.func18 (by kernel_rfl) rfl) (fun v hw => by have q := has_any R o.f v; rw [hha] at q; exact q.mono (by rintro e w2 ⟨rfl, hb⟩; exact ⟨rfl, bel2 hw hb⟩))
              · exact step_binOp rfl (by exact ⟨_, rfl, by kernel_rfl⟩) _ _ _ _ _ _ _ rfl rfl rfl (fun v hw => by kernel_rfl)
              · exact step_pick rfl trivial _ _ _ true rfl (by kernel_rfl) (by kernel_rfl)
            intro W hW
            first | refine hK _ _ ?_ | refine (‹∀ (a : Act) (w : World), Code.wp Try.prog _ _ a w → _›) _ _ ?_
            simp only [finL, List.getD_cons_zero, List.getD_cons_succ, Nat.zero_add, Nat.reduceAdd, List.setIfInBounds_toArray, List.set_cons_zero, List.set_cons_succ]
            rename_i W2
            go_wp2
            go_roundw
            case rel => exact ⟨k + 1, by simp, by omega, bel2 hbA hW⟩
            case measure => simp [vnat]; omega
          · rw [hi] at hKD hKE
            obtain rfl : KD = 4 := hKD.symm
            obtain rfl : KE = 0 := hKE.symm
            clear hKD hKE
            have hne : o.r = a3 := by rw [← hTro]; exact fto_hi (by omega)
            have hha : hasB R o.f = false := by rw [← hR, again_has hvT 4 (by omega) hi]; rfl
            go_wp2
            refine wp_region_any hmx ?_
            refine wpAny_pure (fun i__ => ([(.int .i64 0), (.bool true), (.bool true), (.int .i64 4), (.bool true), (.bool true), (.bool true), (.slice (some ⟨b, off, none⟩) l5.length cap5), (.int .i64 (k : Int)), (.pointer (some ⟨b, off + k * 6, none⟩)), (.pointer (some ⟨b, off + k * 6 + 1, none⟩)), (.int .i64 o.r), (.int .i64 a3), (.bool true), (.bool true), (.bool true), (.int .i64 4), (.bool false), (sv R), (.slice (some ⟨b, off, none⟩) l5.length cap5), (.int .i64 (k : Int)), (.pointer (some ⟨b, off + k * 6, none⟩)), (.pointer (some ⟨b, off + k * 6, none⟩)), (.int .i64 o.f), (.bool false), (.bool false), (.bool false)] : List Value).getD i__ undef) (fun V => Below W.heap.size W V) (by kernel_rfl) (Below.refl _ _).drew ?_ ?_
            · refine (stepsFrom_cons ?_ (stepsFrom_cons ?_ (stepsFrom_cons ?_ (stepsFrom_cons ?_ (stepsFrom_cons ?_ (stepsFrom_cons ?_ (stepsFrom_cons ?_ (stepsFrom_cons ?_ (stepsFrom_cons ?_ (stepsFrom_cons ?_ (stepsFrom_cons ?_ (stepsFrom_cons ?_ (stepsFrom_cons ?_ (stepsFrom_cons ?_ (stepsFrom_cons ?_ (stepsFrom_cons ?_ (stepsFrom_cons ?_ (stepsFrom_cons ?_ (stepsFrom_cons ?_ (stepsFrom_cons ?_ (stepsFrom_cons ?_ (stepsFrom_cons ?_ (stepsFrom_cons ?_ (stepsFrom_cons ?_ (stepsFrom_cons ?_ (stepsFrom_cons ?_ (stepsFrom_cons ?_ trivial)))))))))))))))))))))))))))
              · exact step_move rfl trivial _ rfl (by kernel_rfl)
              · exact step_binOp rfl trivial _ _ _ _ _ _ _ rfl rfl rfl (fun v hw => bin_eql .i64 0 0)
              · exact step_move rfl trivial _ rfl (by kernel_rfl)
              · exact step_move rfl (by exact ⟨_, rfl, by kernel_rfl⟩) _ rfl (by kernel_rfl)
              · exact step_binOp rfl (by exact ⟨_, rfl, by kernel_rfl⟩) _ _ _ _ _ _ _ rfl rfl rfl (fun v hw => bin_neq .i64 4 5)
              · exact step_pick rfl trivial _ _ _ true rfl (by kernel_rfl) (by kernel_rfl)
              · exact step_move rfl trivial _ rfl (by kernel_rfl)
              · exact step_move rfl (by exact ⟨_, rfl, by kernel_rfl⟩) _ rfl (by kernel_rfl)
              · exact step_move rfl (by exact ⟨_, rfl, by kernel_rfl⟩) _ rfl (by kernel_rfl)
              · exact step_indexAddr rfl (by exact ⟨_, rfl, by kernel_rfl⟩) _ _ _ _ _ rfl rfl rfl (fun v hw => idx_rp b off _ _ k hkl v)
              · exact step_fieldAddr rfl (by exact ⟨_, rfl, by kernel_rfl⟩) _ _ _ _ rfl rfl (fun v hw => field_rp1 v _ _)
              · exact step_load rfl (by exact ⟨_, rfl, by kernel_rfl⟩) _ _ _ rfl rfl (fun v hw => (hat1 v hw).f1)
              · exact step_move rfl (by exact ⟨_, rfl, by kernel_rfl⟩) _ rfl (by kernel_rfl)
              · exact step_binOp rfl (by exact ⟨_, rfl, by kernel_rfl⟩) _ _ _ _ _ _ _ rfl rfl rfl (fun v hw => (bin_eql .i64 _ _).trans (by simp [hne]))
              · exact step_pick rfl trivial _ _ _ true rfl (by kernel_rfl) (by kernel_rfl)
              · exact step_move rfl trivial _ rfl (by kernel_rfl)
              · exact step_move rfl (by exact ⟨_, rfl, by kernel_rfl⟩) _ rfl (by kernel_rfl)
              · exact step_binOp rfl (by exact ⟨_, rfl, by kernel_rfl⟩) _ _ _ _ _ _ _ rfl rfl rfl (fun v hw => bin_eql .i64 4 3)
              · exact step_load rfl (by exact ⟨_, rfl, by kernel_rfl⟩) _ _ _ rfl rfl (fun v hw => whole4 v _ R (hwh1 v hw))
              · exact step_move rfl (by exact ⟨_, rfl, by kernel_rfl⟩) _ rfl (by kernel_rfl)
              · exact step_move rfl (by exact ⟨_, rfl, by kernel_rfl⟩) _ rfl (by kernel_rfl)
              · exact step_indexAddr rfl (by exact ⟨_, rfl, by kernel_rfl⟩) _ _ _ _ _ rfl rfl rfl (fun v hw => idx_rp b off _ _ k hkl v)
              · exact step_fieldAddr rfl (by exact ⟨_, rfl, by kernel_rfl⟩) _ _ _ _ rfl rfl (fun v hw => field_rp0 v _ _)
              · exact step_load rfl (by exact ⟨_, rfl, by kernel_rfl⟩) _ _ _ rfl rfl (fun v hw => (hat1 v hw).f0)
              · exact step_call rfl (by exact ⟨_, rfl, by kernel_rfl⟩) 18 _ _ [(sv R), (.int .i64 o.f)] rfl (by kernel_rfl) (enters_of Try.func18 (by kernel_rfl) rfl) (fun v hw => by have q := has_any R o.f v; rw [hha] at q; exact q.mono (by rintro e w2 ⟨rfl, hb⟩; exact ⟨rfl, bel2 hw hb⟩))
              · exact step_binOp rfl (by exact ⟨_, rfl, by kernel_rfl⟩) _ _ _ _ _ _ _ rfl rfl rfl (fun v hw => by kernel_rfl)
              · exact step_pick rfl trivial _ _ _ true rfl (by kernel_rfl) (by kernel_rfl)
            intro W hW
            first | refine hK _ _ ?_ | refine (‹∀ (a : Act) (w : World), Code.wp Try.prog _ _ a w → _›) _ _ ?_
            simp only [finL, List.getD_cons_zero, List.getD_cons_succ, Nat.zero_add, Nat.reduceAdd, List.setIfInBounds_toArray, List.set_cons_zero, List.set_cons_succ]
            rename_i W2
            go_wp2
            go_roundw
            case rel => exact ⟨k + 1, by simp, by omega, bel2 hbA hW⟩
            case measure => simp [vnat]; omega
        · have hkk : k = l5.length := by omega
          subst hkk
          have hki : ¬ ((l5.length : Int) < (l5.length : Int)) := by omega
          have hTr := hT4.carry hbw
          have hRw : ∀ V, Below wr.heap.size wr V → RdS V aw T.hs := fun V hV => (hR4.carry hbw).carry hV
          have hsy : ∀ V g, Below wr.heap.size wr V → RdS V g T.hs → ∀ c, Calls Try.prog 16 #[.slice aw nT cw, .slice g nT c] V fun e w' => e = .returned (.bool true) ∧ Below V.heap.size V w' := fun V g hV hg c => by
            rw [← hnT]
            exact sets_yes aw g cw c T.hs V (hRw V hV) hg (by omega) hvT.each
          have hhe : ∀ V, Below wr.heap.size wr V → Calls Try.prog 17 #[.pointer (some ⟨q, 0, none⟩)] V fun e w' => ∃ a c, e = .returned (.slice a nT c) ∧ RdS w' a T.hs ∧ Below V.heap.size V w' := fun V hV => by
            rw [← hnT]
            refine (heards_any (hTr.carry hV) (by omega)).mono ?_
            rintro e w' ⟨a, c, rfl, h1, h2⟩
            exact ⟨a, c, rfl, RdS.own h1, h2⟩
          have hre : ∀ V, Below wr.heap.size wr V → Calls Try.prog 13 #[.pointer (some ⟨q, 0, none⟩)] V fun e w' => e = .returned (sv R) ∧ Below V.heap.size V w' := fun V hV => by
            rw [← hR]
            exact reps_any (hTr.carry hV)
          have hwh1 : ∀ V, Below wr.heap.size wr V → Holds4 V u2.heap.size (wd R) := fun V hV => hwh V (bel2 hbw hV)
          go_wp2
          refine wp_region_any hmx ?_
          refine wpAny_tabG (G := (Option Addr × Nat)) (fun g i__ => ([(.bool true), (.bool true), (.slice aw nT cw), (.pointer (some ⟨q, 0, none⟩)), (.slice g.1 nT g.2), (.bool true), (.bool true), (.bool true), (.pointer (some ⟨q, 0, none⟩)), (sv R), (sv R), (.bool true), (.bool true), (.bool true)] : List Value).getD i__ undef) (fun g d V => Jh wr T.hs g (d 4) V) (by kernel_rfl) ((none, 0)) (show Jh wr T.hs (none, 0) false _ from ⟨(Below.refl _ _).drew, fun e => by cases e⟩) ?step3 ?fin3
          case step3 =>
            intro i o ho
            have hi : i < 14 := getElem?_lt ho
            match i, hi, ho with
            | 0, _, ho =>
              cases ho
              refine stepG_of (fun g d hdep => ?_)
              exact step_call rfl trivial 9 _ _ [] rfl (by kernel_rfl) (enters_of Try.func9 (by kernel_rfl) rfl) (fun v hw => (alive_any v).mono (by rintro e w2 ⟨rfl, hb⟩; exact ⟨rfl, hw.carry hb⟩))
            | 1, _, ho =>
              cases ho
              refine stepG_of (fun g d hdep => ?_)
              exact step_move rfl trivial _ rfl (by kernel_rfl)
            | 2, _, ho =>
              cases ho
              refine stepG_of (fun g d hdep => ?_)
              exact step_move rfl (by exact ⟨_, rfl, by kernel_rfl⟩) _ rfl (by kernel_rfl)
            | 3, _, ho =>
              cases ho
              refine stepG_of (fun g d hdep => ?_)
              exact step_move rfl (by exact ⟨_, rfl, by kernel_rfl⟩) _ rfl (by kernel_rfl)
            | 4, _, ho =>
              cases ho
              exact stepG_call rfl (fun _ => ⟨_, rfl, by kernel_rfl⟩) 17 _ _ (fun _ => [.pointer (some ⟨q, 0, none⟩)]) rfl (fun g => by kernel_rfl) (enters_of Try.func17 (by kernel_rfl) rfl) (fun g d V hJ hun hdep hcl => (hhe V hJ.1).mono (by rintro e V' ⟨a, c, rfl, h1, h2⟩; refine ⟨(a, c), rfl, (fun j hj => match j, hj with | 4, hj => (by rw [hj] at hun; cases hun) | 5, hj => absurd ((hcl 5 _ rfl hj 4 (by kernel_rfl))) (by rw [hun]; simp) | 0, _ => rfl | 1, _ => rfl | 2, _ => rfl | 3, _ => rfl | 6, _ => rfl | 7, _ => rfl | 8, _ => rfl | 9, _ => rfl | 10, _ => rfl | 11, _ => rfl | 12, _ => rfl | 13, _ => rfl | _ + 14, _ => rfl), ?_⟩; exact ⟨bel2 hJ.1 h2, fun _ => h1⟩))
            | 5, _, ho =>
              cases ho
              refine stepG_of (fun g d hdep => ?_)
              exact step_call rfl (by exact ⟨_, rfl, by kernel_rfl⟩) 16 _ _ [(.slice aw nT cw), (.slice g.1 nT g.2)] rfl (by kernel_rfl) (enters_of Try.func16 (by kernel_rfl) rfl) (fun v hw => (hsy v g.1 hw.1 (hw.2 (hdep 4 (by kernel_rfl))) g.2).mono (by rintro e w2 ⟨rfl, hb⟩; exact ⟨rfl, hw.carry hb⟩))
            | 6, _, ho =>
              cases ho
              refine stepG_of (fun g d hdep => ?_)
              exact step_pick rfl trivial _ _ _ true rfl (by kernel_rfl) (by kernel_rfl)
            | 7, _, ho =>
              cases ho
              refine stepG_of (fun g d hdep => ?_)
              exact step_move rfl trivial _ rfl (by kernel_rfl)
            | 8, _, ho =>
              cases ho
              refine stepG_of (fun g d hdep => ?_)
              exact step_move rfl (by exact ⟨_, rfl, by kernel_rfl⟩) _ rfl (by kernel_rfl)
            | 9, _, ho =>
              cases ho
              refine stepG_of (fun g d hdep => ?_)
              exact step_call rfl (by exact ⟨_, rfl, by kernel_rfl⟩) 13 _ _ [(.pointer (some ⟨q, 0, none⟩))] rfl (by kernel_rfl) (enters_of Try.func13 (by kernel_rfl) rfl) (fun v hw => (hre v hw.1).mono (by rintro e w2 ⟨rfl, hb⟩; exact ⟨rfl, hw.carry hb⟩))
            | 10, _, ho =>
              cases ho
              refine stepG_of (fun g d hdep => ?_)
              exact step_load rfl (by exact ⟨_, rfl, by kernel_rfl⟩) _ _ _ rfl rfl (fun v hw => whole4 v _ R (hwh1 v hw.1))
            | 11, _, ho =>
              cases ho
              refine stepG_of (fun g d hdep => ?_)
              exact step_binOp rfl (by exact ⟨_, rfl, by kernel_rfl⟩) _ _ _ _ _ _ _ rfl rfl rfl (fun v hw => eqls rfl (S100_S128 hRR) v)
            | 12, _, ho =>
              cases ho
              refine stepG_of (fun g d hdep => ?_)
              exact step_pick rfl trivial _ _ _ true rfl (by kernel_rfl) (by kernel_rfl)
            | 13, _, ho =>
              cases ho
              refine stepG_of (fun g d hdep => ?_)
              exact step_assign rfl trivial _ rfl (by kernel_rfl) (fun _ h => h)
          intro g d W hall hW
          first | refine hK _ _ ?_ | refine (‹∀ (a : Act) (w : World), Code.wp Try.prog _ _ a w → _›) _ _ ?_ | skip
          simp only [finL, List.getD_cons_zero, List.getD_cons_succ, Nat.zero_add, Nat.reduceAdd, List.setIfInBounds_toArray, List.set_cons_zero, List.set_cons_succ]
          go_wp2
          go_ret
          exact ⟨rfl, bel2 (bel2 hb04 hbw) hW.1⟩

set_option maxRecDepth 100000 in
theorem lifted (os : Os) (started : os.Started) (H : Type) (enc : TypeId × Value → H) :
    ReturnsInHanded {} Try.checked os 4 .any (Rows.tallyAgainSpec.pre6 enc Try.prog Try.f4 Rows.tallyAgainRow.domain false) (Rows.tallyAgainSpec.post enc Try.prog Try.f4 false true false false) := by
  refine returnsInHanded_of_change (C := Try.checked) own started (by kernel_rfl) Try.func4
    (ChangeSpec.witness6 (enc := enc) (C := Try.checked) false ⟨#[], #[.int .i64 0, .int .i64 0, .int .i64 0, .int .i64 0, .agg #[.int .u32 0, .int .u32 0, .int .u32 0, .int .u32 0], .slice none 0 0], []⟩ 8 (by kernel_rfl) (by kernel_rfl) (by kernel_rfl) (by kernel_rfl)) ?_
  intro W base args ds gs before hval0 hW hcnd _
  have hval : ∀ (j : Nat) t v, Try.f4.params[j]? = some t → args[j]? = some v → Value.okWide Try.prog W .any base t v := hval0
  have hW' := hW
  obtain ⟨p, q, hA0, hV, rfl, hfz, hnd⟩ := hW
  have hA : DataW.TrodAll enc Try.prog W 0 (fun _ => true) true Try.f4.params.toList args.toList ds p := hA0
  rw [Try.params4] at hA hval
  obtain ⟨v0, vs0, d0, ds0, p0, q0, hargs, rfl, rfl, h0, r0⟩ := trodAll_cons hA
  obtain ⟨v1, vs1, d1, ds1, p1, q1, rfl, rfl, rfl, h1, r1⟩ := trodAll_cons r0
  obtain ⟨v2, vs2, d2, ds2, p2, q2, rfl, rfl, rfl, h2, r2⟩ := trodAll_cons r1
  obtain ⟨v3, vs3, d3, ds3, p3, q3, rfl, rfl, rfl, h3, r3⟩ := trodAll_cons r2
  obtain ⟨v4, vs4, d4, ds4, p4, q4, rfl, rfl, rfl, h4, r4⟩ := trodAll_cons r3
  obtain ⟨v5, vs5, d5, ds5, p5, q5, rfl, rfl, rfl, h5, r5⟩ := trodAll_cons r4
  obtain ⟨rfl, rfl, rfl⟩ := trodAll_nil r5
  obtain rfl : args = #[v0, v1, v2, v3, v4, v5] := by cases args; simp_all
  obtain ⟨rfl, rfl⟩ := trodVars_none hV
  obtain ⟨a0, rfl, rfl, rfl, w0⟩ := open_int Try.underlying3 (hval 0 3 v0 rfl rfl) h0
  obtain ⟨a1, rfl, rfl, rfl, w1⟩ := open_int Try.underlying3 (hval 1 3 v1 rfl rfl) h1
  obtain ⟨a2, rfl, rfl, rfl, w2⟩ := open_int Try.underlying3 (hval 2 3 v2 rfl rfl) h2
  obtain ⟨a3, rfl, rfl, rfl, w3⟩ := open_int Try.underlying3 (hval 3 3 v3 rfl rfl) h3
  obtain ⟨N4, hN4, rfl, rfl, rfl⟩ := open_set (hval 4 24 v4 rfl rfl) h4
  have k5 := h5
  have lt5 : ∀ x ∈ p5, x.block < W.heap.size := by obtain ⟨m, hm⟩ := k5; exact DataW.trod_lt m _ _ _ hm
  obtain ⟨ad5, cap5, l5, rfl, w5, hc5, hm5⟩ := open_reps (hval 5 25 v5 rfl rfl) h5
  clear hA0 hval0
  refine (walk W a0 w0 a1 w1 a2 w2 a3 w3 N4 hN4 ad5 cap5 l5 w5 hc5 hm5).mono fun e W' ⟨he, hg⟩ => ?_
  subst he
  exact ⟨_, rfl, _, _, _, [], _, [], hW', (trodAll_cons_mk (shut_bool Try.underlying4 _) trodAll_mk0), (trodAll_cons_mk (shut_int Try.underlying3 w0) (trodAll_cons_mk (shut_int Try.underlying3 w1) (trodAll_cons_mk (shut_int Try.underlying3 w2) (trodAll_cons_mk (shut_int Try.underlying3 w3) (trodAll_cons_mk (shut_set N4) (trodAll_cons_mk (Below.trod laidOut (by kernel_rfl) (of_decide_eq_true (by kernel_rfl)) k5 hg lt5) trodAll_mk0)))))), rfl, hg.frame _, fun h => by cases h⟩

theorem over : Rows.tallyAgainRow.holds Try.pinned (OpenSpec.ofChange Rows.tallyAgainSpec) :=
  OpenClaim.holds_of_wide 4 Try.f4 rfl rfl rfl rfl rfl rfl rfl ⟨rfl, rfl, rfl, rfl, rfl⟩ rfl rfl rfl rfl rfl (by kernel_rfl) Try.func4 (by kernel_rfl)
    (of_decide_eq_true (by kernel_rfl)) (by unfold Func.isWrapper; first | (rw [if_pos (by decide +kernel)]; kernel_rfl) | (rw [if_neg (by decide +kernel)]; exact ⟨rfl, rfl⟩))
    (fun os started H enc _ => lifted os started H enc)

theorem proved : Rows.TallyAgainSaid :=
  over
#print axioms proved
end Go.Proofs.Ytcdefcaoocnlbaa
