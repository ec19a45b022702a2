/- InferQuorums (promise P1404): whoever is in more than f of the sets that n nodes have heard is known to each quorum that replies with them. For every n of at most 20, every list of n sets and every order of at most 100 ids; else alive alone. -/
import Derived.Test.YtgehmidalfajgaaDoorRows
import Derived.WalkKit
import Derived.ProofKit
import Derived.OpenShut
import Derived.Stop.Joined
import Derived.Lay
import Derived.SevenTiedAt
import Derived.SizedLaws
import Derived.LaidMore
import Derived.Test.YtgehmidalfajgaaDoorTie
import Derived.Test.YtgehmidalfajgaaDoorCards
import Derived.Test.YtgehmidalfajgaaDoorInl
namespace Go.Proofs.YtgehmidalfajgaaDoor
open Go.ChangeShapes Go.WideShapes Go.ChangeAt Go.RowKit
set_option linter.unusedVariables false

theorem laidOut : laidOutB Tryd.prog = true := by kernel_rfl
theorem own : ownKnob Tryd.prog.godebug = none := by kernel_rfl
set_option maxHeartbeats 32000000 in
set_option maxRecDepth 100000 in
theorem walk (w : World) (a0 : Int) (w0 : (Lit.int .i64 a0).wf = true) (a1 : Int) (w1 : (Lit.int .i64 a1).wf = true) (a2 : Int) (w2 : (Lit.int .i64 a2).wf = true) (ad3 : Option Addr) (cap3 : Nat) (l3 : List Nat) (w3 : RdS w ad3 l3) (hs3 : ∀ N ∈ l3, N < S128) (hc3 : l3.length ≤ cap3) (hm3 : cap3 ≤ maxLen) (ad4 : Option Addr) (cap4 : Nat) (l4 : List Int) (w4 : l4 ≠ [] → ∃ a, ad4 = some a ∧ Ints w a l4) (hl4 : l4.length ≤ maxLen) (hL : laidMetH Tryd.prog Rows.inferQuorumsRow.laid w) :
    Calls Tryd.prog 3 #[.int .i64 a0, .int .i64 a1, .int .i64 a2, .slice ad3 l3.length cap3, .slice ad4 l4.length cap4] w fun e w' => e = .returned (.bool true) ∧ Below w.heap.size w w' := by
  by_cases hn1 : a0 < 1
  case pos =>
    go_enter Tryd.func3, Tryd.ntmps3
    go_wp2_with (go_at_call 6; refine (alive_any _).mono ?_; rintro e u ⟨rfl, hb⟩)
    go_ret
    exact ⟨rfl, hb⟩
  by_cases hn2 : a0 > 20
  case pos =>
    go_enter Tryd.func3, Tryd.ntmps3
    go_wp2_with (go_at_call 6; refine (alive_any _).mono ?_; rintro e u ⟨rfl, hb⟩)
    go_ret
    exact ⟨rfl, hb⟩
  by_cases hf0 : a1 < 0
  case pos =>
    go_enter Tryd.func3, Tryd.ntmps3
    go_wp2_with (go_at_call 6; refine (alive_any _).mono ?_; rintro e u ⟨rfl, hb⟩)
    go_ret
    exact ⟨rfl, hb⟩
  by_cases hf1 : a1 ≥ a0
  case pos =>
    go_enter Tryd.func3, Tryd.ntmps3
    go_wp2_with (go_at_call 6; refine (alive_any _).mono ?_; rintro e u ⟨rfl, hb⟩)
    go_ret
    exact ⟨rfl, hb⟩
  by_cases hs0 : a2 < 0
  case pos =>
    go_enter Tryd.func3, Tryd.ntmps3
    go_wp2_with (go_at_call 6; refine (alive_any _).mono ?_; rintro e u ⟨rfl, hb⟩)
    go_ret
    exact ⟨rfl, hb⟩
  by_cases hs1 : a2 ≥ a0
  case pos =>
    go_enter Tryd.func3, Tryd.ntmps3
    go_wp2_with (go_at_call 6; refine (alive_any _).mono ?_; rintro e u ⟨rfl, hb⟩)
    go_ret
    exact ⟨rfl, hb⟩
  by_cases hlen : (l3.length : Int) = a0
  case neg =>
    have hlen2 : ((l3.length : Int) != a0) = true := by simpa using hlen
    go_enter Tryd.func3, Tryd.ntmps3
    go_wp2_with (go_at_call 6; refine (alive_any _).mono ?_; rintro e u ⟨rfl, hb⟩)
    go_ret
    exact ⟨rfl, hb⟩
  have hlen2 : ((l3.length : Int) != a0) = false := by simpa using hlen
  by_cases hord : (l4.length : Int) > 100
  case pos =>
    go_enter Tryd.func3, Tryd.ntmps3
    go_wp2_with (go_at_call 6; refine (alive_any _).mono ?_; rintro e u ⟨rfl, hb⟩)
    go_ret
    exact ⟨rfl, hb⟩
  have hmx : Tryd.prog.follows .mixedOrders = true := by kernel_rfl
  have hlt : l3.length ≤ 20 := by omega
  have hco := cover_any a0 a1 ad3 cap3 l3 w w3 hs3 (tab_of hL) (by omega)
  cases hall : l3.all (fun N => wthB N a0) with
  | false =>
    have e2 : cvE a0 a1 l3 = 74 := by unfold cvE; rw [if_pos ⟨by omega, by omega, by omega⟩, hall]; rfl
    rw [e2] at hco
    generalize cvN a0 a1 l3 = CN at *
    simp only [sv] at hco
    go_enter Tryd.func3, Tryd.ntmps3
    go_wp2_with (first
      | (go_at_call 7; (with_reducible refine hco.mono ?_); rintro e v ⟨rfl, hv⟩; obtain ⟨v3, hv3⟩ : ∃ u3, v.alloc (.cells #[.int .u32 0, .int .u32 0, .int .u32 0, .int .u32 0] 27) = u3 := ⟨_, rfl⟩; have k1 : Hid (Holds4 v3 v.heap.size (fun _ => 0)) := (by rw [← hv3]; exact new_at rfl); have k3 : Hid (Below w.heap.size w v3) := (by rw [← hv3]; exact bel2 hv (al1' _ _)))
      | (refine wpList_store_row rfl 27 (.tmp 11) (.tmp 60) rfl v.heap.size (cells4 (wd CN)) rfl rfl 27 _ k1.out infoS rfl (by simp [cells4, Value.oneCell']) ?_; obtain ⟨v4, hv4⟩ : ∃ x, v3.setRow v.heap.size (cells4 (wd CN)) = x := ⟨_, rfl⟩; have j3 : Hid (Below w.heap.size w v4) := (by rw [← hv4]; exact below_row k3.out hv.size _); rw [hv4])
      | (go_at_call 6; refine (alive_any _).mono ?_; rintro e u ⟨rfl, hb⟩))
    go_ret
    exact ⟨rfl, bel2 j3.out hb⟩
  | true =>
  have hwn : ∀ N ∈ l3, wthB N a0 = true := fun N hN => List.all_eq_true.1 hall N hN
  have e2 : cvE a0 a1 l3 = 0 := by unfold cvE; rw [if_pos ⟨by omega, by omega, by omega⟩, hall]; rfl
  have e1 : cvN a0 a1 l3 = covTo l3 a1 a0.toNat := if_pos e2
  rw [e2, e1] at hco
  have hne3 : l3 ≠ [] := fun e => by subst e; simp at hlen; omega
  obtain ⟨b3, off3, rfl, hgl3, hat3⟩ := w3 hne3
  obtain ⟨sN, hsN, hsl⟩ : ∃ sN : Nat, a2 = (sN : Int) ∧ sN < l3.length := ⟨a2.toNat, by omega, by omega⟩
  subst hsN
  obtain ⟨N0, hN0⟩ : ∃ x, l3[sN]? = some x := ⟨_, List.getElem?_eq_getElem hsl⟩
  have hN0m := List.mem_of_getElem? hN0
  have hN08 := hs3 N0 hN0m
  have hE : nwE a0 a1 (sN : Int) 1 N0 = 0 := by
    unfold nwE
    rw [if_neg (by omega), if_neg (by simp [isN]; omega), if_neg (by omega), if_neg (by rw [hwn N0 hN0m]; simp)]
  have hnw := fun V => new_ok a0 a1 (sN : Int) 1 N0 hN08 hE V
  have hv0 := Tv.new hN08 hE
  have hq0 : Qi a0 a1 l3 (nwT a0 a1 (sN : Int) 1 N0) := Qi.new hN08 hE hlen (by rw [Int.toNat_natCast, List.getD_eq_getElem?_getD, hN0]; rfl)
  obtain ⟨t0, ht0⟩ : ∃ t0, nwT a0 a1 (sN : Int) 1 N0 = t0 := ⟨_, rfl⟩
  rw [ht0] at hv0 hq0
  simp only [ht0] at hnw
  have hix := idx_s b3 off3 l3.length cap3 sN hsl
  obtain ⟨CN, hCN⟩ : ∃ CN, covTo l3 a1 a0.toNat = CN := ⟨_, rfl⟩
  rw [hCN] at hco
  have HCN : Hid (covTo l3 a1 a0.toNat = CN) := hCN
  clear hCN e1 e2 hall ht0 hE
  simp only [sv] at hco hnw
  go_enter Tryd.func3, Tryd.ntmps3
  go_wp2_with (first
    | (go_at_call 7; (with_reducible refine hco.mono ?_); rintro e v ⟨rfl, hv⟩; obtain ⟨v3, hv3⟩ : ∃ u3, v.alloc (.cells #[.int .u32 0, .int .u32 0, .int .u32 0, .int .u32 0] 27) = u3 := ⟨_, rfl⟩; have k1 : Hid (Holds4 v3 v.heap.size (fun _ => 0)) := (by rw [← hv3]; exact new_at rfl); have k3 : Hid (Below w.heap.size w v3) := (by rw [← hv3]; exact bel2 hv (al1' _ _)))
    | (refine wpList_store_row rfl 27 (.tmp 11) (.tmp 60) rfl v.heap.size (cells4 (wd CN)) rfl rfl 27 _ k1.out infoS rfl (by simp [cells4, Value.oneCell']) ?_; obtain ⟨v4, hv4⟩ : ∃ x, v3.setRow v.heap.size (cells4 (wd CN)) = x := ⟨_, rfl⟩; have j1 : Hid (Holds4 v4 v.heap.size (wd CN)) := (by rw [← hv4]; exact setRow_heap _ _ _ _ _ _ k1.out); have j3 : Hid (Below w.heap.size w v4) := (by rw [← hv4]; exact below_row k3.out hv.size _); rw [hv4]; obtain ⟨c0, c1, c2, c3⟩ := (hat3.carry (j3.out.block _ hgl3)) sN N0 hN0)
    | (go_at_call 8; refine (hnw _).mono ?_; rintro e u ⟨q, ad, cap, rfl, hT, hu⟩))
  have m1 := j1.out.carry hu
  have m3 := bel2 j3.out hu
  have hneB : ob ad ≠ some v.heap.size := fun e => by
    obtain ⟨h1, _, h2⟩ := hT.blk e
    have h3 := j1.out.lt
    omega
  obtain ⟨B, hB⟩ : ∃ B, v4.heap.size = B := ⟨_, rfl⟩
  rw [hB] at hT
  have hwB : w.heap.size ≤ B := by rw [← hB]; exact j3.out.size
  obtain ⟨Bs, hBs⟩ : ∃ Bs, v.heap.size = Bs := ⟨_, rfl⟩
  rw [hBs] at m1 hneB ⊢
  clear c0 c1 c2 c3 hix hco hnw k1 k3 j1 j3 hv3 hv4
  go_loopw [15] (fun i wz => ∃ (k : Nat) (ad : Option Addr) (cap : Nat) (t : Tl), i = .int .i64 k ∧ k ≤ l4.length ∧ Ta wz B q ad cap t ∧ Tv t ∧ Qi a0 a1 l3 t ∧ Holds4 wz Bs (wd CN) ∧ ob ad ≠ some Bs ∧ Below w.heap.size w wz) (fun i _ => l4.length - vnat i)
  case atStart => exact ⟨0, ad, cap, t0, rfl, Nat.zero_le _, hT, hv0, hq0, m1, hneB, m3⟩
  case round =>
    obtain ⟨k, ad, cap, t, rfl, hk, hT, hvt, hqt, hx, hne, hbw⟩ := hrel
    have hBw : B ≤ wr.heap.size := Nat.le_trans hT.qb (Nat.le_of_lt hT.lt)
    by_cases hkl : k < l4.length
    · have hki : (k : Int) < (l4.length : Int) := by omega
      have hne4 : l4 ≠ [] := fun e => by subst e; simp at hkl
      obtain ⟨⟨b4, off4, sp4⟩, rfl, hsp, hint, hgl4⟩ := w4 hne4
      obtain rfl : sp4 = none := hsp
      obtain ⟨y, hy⟩ : ∃ x, l4[k]? = some x := ⟨_, List.getElem?_eq_getElem hkl⟩
      have hix4 := idx_i b4 off4 l4.length cap4 k hkl
      have hcy : ∀ V, Below wr.heap.size wr V → V.cell? ⟨b4, off4 + k, none⟩ = some (.int .i64 y) := fun V hV => (World.cell?_of_block (a := ⟨b4, off4 + k, none⟩) ((bel2 hbw hV).block _ hgl4)).trans (hint k y hy)
      have c4 := hcy wr (Below.refl _ _)
      by_cases hy0 : y ≥ 0
      · by_cases hy1 : y < a0
        · obtain ⟨yN, hyN, hyl⟩ : ∃ yN : Nat, y = (yN : Int) ∧ yN < l3.length := ⟨y.toNat, by omega, by omega⟩
          subst hyN
          obtain ⟨NN, hNN⟩ : ∃ x, l3[yN]? = some x := ⟨_, List.getElem?_eq_getElem hyl⟩
          have hN8 := hs3 NN (List.mem_of_getElem? hNN)
          have hgo : ∀ V, Jv wr B q ad t (yN : Int) 1 NN false V → Calls Tryd.prog 9 #[.pointer (some ⟨q, 0, none⟩), .int .i64 (yN : Int), .int .i64 1, sv NN] V fun e w' => e = .returned (.tuple #[.int .i64 (kd (fate t (yN : Int) 1 NN)), .int .i64 (ke (fate t (yN : Int) 1 NN))]) ∧ Jv wr B q ad t (yN : Int) 1 NN true w' := fun V hV => hV.go hT hvt hBw hN8
          have hgd : l3.getD (yN : Int).toNat 0 = NN := by rw [Int.toNat_natCast, List.getD_eq_getElem?_getD, hNN]; rfl
          have hq' := hqt.step hvt hN8 hlen hgd
          have hv' := hvt.tk hN8 (f := (yN : Int)) (r := 1)
          have hld3 : ∀ V, Below wr.heap.size wr V → (Instr.loadAt 27 (.pointer (some ⟨b3, off3 + yN * 4, none⟩))).run Tryd.prog V = .ok (sv NN) V := fun V hV => load_sk (hat3.carry ((bel2 hbw hV).block _ hgl3)) hNN
          generalize kd (fate t (yN : Int) 1 NN) = KD at *
          generalize ke (fate t (yN : Int) 1 NN) = KE at *
          go_wp2
          refine wp_region_any hmx ?_
          refine wpAny_tabG (G := Unit) (fun g i__ => ([(.pointer (some ⟨q, 0, none⟩)), (.slice (some ⟨b4, off4, none⟩) l4.length cap4), (.int .i64 (k : Int)), (.pointer (some ⟨b4, off4 + k, none⟩)), (.int .i64 (yN : Int)), (.slice (some ⟨b3, off3, none⟩) l3.length cap3), (.slice (some ⟨b4, off4, none⟩) l4.length cap4), (.int .i64 (k : Int)), (.pointer (some ⟨b4, off4 + k, none⟩)), (.int .i64 (yN : Int)), (.pointer (some ⟨b3, off3 + yN * 4, none⟩)), (sv NN), (.tuple #[.int .i64 KD, .int .i64 KE])] : List Value).getD i__ undef) (fun g d V => Jv wr B q ad t (yN : Int) 1 NN (d 12) V) (by kernel_rfl) (()) (show Jv wr B q ad t (yN : Int) 1 NN false _ from (Below.refl _ _).drew) ?step1 ?fin1
          case step1 =>
            intro i o ho
            have hi : i < 13 := getElem?_lt ho
            match i, hi, ho with
            | 0, _, ho =>
              cases ho
              refine stepG_ofC (fun g d hun hdep hcl => ?_)
              exact step_move rfl trivial _ rfl (by kernel_rfl)
            | 1, _, ho =>
              cases ho
              refine stepG_ofC (fun g d hun hdep hcl => ?_)
              exact step_move rfl trivial _ rfl (by kernel_rfl)
            | 2, _, ho =>
              cases ho
              refine stepG_ofC (fun g d hun hdep hcl => ?_)
              exact step_move rfl trivial _ rfl (by kernel_rfl)
            | 3, _, ho =>
              cases ho
              refine stepG_ofC (fun g d hun hdep hcl => ?_)
              exact step_indexAddr rfl trivial _ _ _ _ _ rfl rfl rfl (fun v hw => idx_i b4 off4 _ _ k hkl v)
            | 4, _, ho =>
              cases ho
              refine stepG_ofC (fun g d hun hdep hcl => ?_)
              exact step_load rfl trivial _ _ _ rfl rfl (fun v hw => by have h12 : d 12 = false := (by cases h : d 12 with | false => rfl | true => exact absurd (hcl 12 _ rfl h 4 (by kernel_rfl)) (by rw [hun]; simp)); have hw' := hw; rw [h12] at hw'; exact load_i64 (hcy v hw'))
            | 5, _, ho =>
              cases ho
              refine stepG_ofC (fun g d hun hdep hcl => ?_)
              exact step_move rfl trivial _ rfl (by kernel_rfl)
            | 6, _, ho =>
              cases ho
              refine stepG_ofC (fun g d hun hdep hcl => ?_)
              exact step_move rfl trivial _ rfl (by kernel_rfl)
            | 7, _, ho =>
              cases ho
              refine stepG_ofC (fun g d hun hdep hcl => ?_)
              exact step_move rfl trivial _ rfl (by kernel_rfl)
            | 8, _, ho =>
              cases ho
              refine stepG_ofC (fun g d hun hdep hcl => ?_)
              exact step_indexAddr rfl trivial _ _ _ _ _ rfl rfl rfl (fun v hw => idx_i b4 off4 _ _ k hkl v)
            | 9, _, ho =>
              cases ho
              refine stepG_ofC (fun g d hun hdep hcl => ?_)
              exact step_load rfl trivial _ _ _ rfl rfl (fun v hw => by have h12 : d 12 = false := (by cases h : d 12 with | false => rfl | true => exact absurd (hcl 10 _ rfl (hcl 11 _ rfl (hcl 12 _ rfl h 11 (by kernel_rfl)) 10 (by kernel_rfl)) 9 (by kernel_rfl)) (by rw [hun]; simp)); have hw' := hw; rw [h12] at hw'; exact load_i64 (hcy v hw'))
            | 10, _, ho =>
              cases ho
              refine stepG_ofC (fun g d hun hdep hcl => ?_)
              exact step_indexAddr rfl trivial _ _ _ _ _ rfl rfl rfl (fun v hw => idx_s b3 off3 _ _ yN hyl v)
            | 11, _, ho =>
              cases ho
              refine stepG_ofC (fun g d hun hdep hcl => ?_)
              exact step_load rfl trivial _ _ _ rfl rfl (fun v hw => by have h12 : d 12 = false := (by cases h : d 12 with | false => rfl | true => exact absurd (hcl 12 _ rfl h 11 (by kernel_rfl)) (by rw [hun]; simp)); have hw' := hw; rw [h12] at hw'; exact hld3 v hw')
            | 12, _, ho =>
              cases ho
              refine stepG_ofC (fun g d hun hdep hcl => ?_)
              exact step_call rfl trivial 9 _ _ [(.pointer (some ⟨q, 0, none⟩)), (.int .i64 (yN : Int)), (Go.Value.int Go.IntKind.i64 1), (sv NN)] rfl (by kernel_rfl) (enters_of Tryd.func9 (by kernel_rfl) rfl) (fun v hw => by have hw' := hw; rw [hun] at hw'; exact hgo v hw')
          intro g d W hall hW
          first | refine hK _ _ ?_ | refine (‹∀ (a : Act) (w : World), Code.wp Tryd.prog _ _ a w → _›) _ _ ?_ | skip
          simp only [finL, List.getD_cons_zero, List.getD_cons_succ, Nat.zero_add, Nat.reduceAdd, List.setIfInBounds_toArray, List.set_cons_zero, List.set_cons_succ]
          rw [hall 12 (by decide)] at hW
          obtain ⟨ad', cap', hT', hn'⟩ := hW
          have hB' : Below w.heap.size w W := hbw.trans ((hT.below hn').mono hwB)
          obtain ⟨hx', hne'⟩ := tn_box hT hn' hx hne
          clear hall hn' hgo hT hx hne
          go_wp2
          go_roundw
          case rel => exact ⟨k + 1, ad', cap', _, by simp, by omega, hT', hv', hq', hx', hne', hB'⟩
          case measure => simp [vnat]; omega
        · go_wp2
          go_roundw
          case rel => exact ⟨k + 1, ad, cap, t, by simp, by omega, hT, hvt, hqt, hx, hne, hbw⟩
          case measure => simp [vnat]; omega
      · go_wp2
        go_roundw
        case rel => exact ⟨k + 1, ad, cap, t, by simp, by omega, hT, hvt, hqt, hx, hne, hbw⟩
        case measure => simp [vnat]; omega
    · have hkk : k = l4.length := by omega
      subst hkk
      have hki : ¬ ((l4.length : Int) < (l4.length : Int)) := by omega
      go_wp2
      go_loopw [16] (fun i wz => ∃ (k : Nat) (ad : Option Addr) (cap : Nat) (t : Tl), i = .int .i64 k ∧ (k : Int) ≤ a0 ∧ Ta wz B q ad cap t ∧ Tv t ∧ Qi a0 a1 l3 t ∧ (∀ j, j < k → Dn t j) ∧ Holds4 wz Bs (wd CN) ∧ ob ad ≠ some Bs ∧ Below w.heap.size w wz) (fun i _ => a0.toNat - vnat i)
      case atStart => exact ⟨0, ad, cap, t, rfl, by omega, hT, hvt, hqt, fun j hj => absurd hj (by omega), hx, hne, hbw⟩
      case round =>
        obtain ⟨k, ad, cap, t, rfl, hk, hT, hvt, hqt, hdn, hx, hne, hbw⟩ := hrel
        have hBw : B ≤ wr.heap.size := Nat.le_trans hT.qb (Nat.le_of_lt hT.lt)
        by_cases hkl : (k : Int) < a0
        · have hkl3 : k < l3.length := by omega
          obtain ⟨NN, hNN⟩ : ∃ x, l3[k]? = some x := ⟨_, List.getElem?_eq_getElem hkl3⟩
          have hNm := List.mem_of_getElem? hNN
          have hN8 := hs3 NN hNm
          have hix := idx_s b3 off3 l3.length cap3 k hkl3
          obtain ⟨c0, c1, c2, c3⟩ := (hat3.carry (hbw.block _ hgl3)) k NN hNN
          have hgd : l3.getD (k : Int).toNat 0 = NN := by rw [Int.toNat_natCast, List.getD_eq_getElem?_getD, hNN]; rfl
          have htk := take_any hT hvt hBw (k : Int) 1 NN hN8
          have hq' := hqt.step hvt hN8 hlen hgd
          have hv' := hvt.tk hN8 (f := (k : Int)) (r := 1)
          have hdn' : ∀ j, j < k + 1 → Dn (tk t (k : Int) 1 NN) j := fun j hj => by
            by_cases e : j = k
            · subst e
              exact Dn.now hqt hvt hkl (hwn NN hNm)
            · exact (hdn j (by omega)).keep hvt _ _ _
          generalize kd (fate t (k : Int) 1 NN) = KD at *
          generalize ke (fate t (k : Int) 1 NN) = KE at *
          obtain ⟨t2, ht2⟩ : ∃ t2, tk t (k : Int) 1 NN = t2 := ⟨_, rfl⟩
          rw [ht2] at htk hq' hv' hdn'
          clear ht2
          simp only [sv] at htk
          go_wp2_with (go_at_call 9; (with_reducible refine htk.mono ?_); rintro e u2 ⟨rfl, ad', cap', hT', hn', _⟩)
          have hB' : Below w.heap.size w u2 := hbw.trans ((hT.below hn').mono hwB)
          obtain ⟨hx', hne'⟩ := tn_box hT hn' hx hne
          go_roundw
          case rel => exact ⟨k + 1, ad', cap', t2, by simp, by omega, hT', hv', hq', hdn', hx', hne', hB'⟩
          case measure => simp [vnat]; omega
        · have hka : (k : Int) = a0 := by omega
          have hrdy := hqt.ready hvt (by omega) (by omega) hlen (fun j hj => hdn j (by omega))
          have hcv : ∀ x, CN.testBit x = true → (kn t).testBit x = true := fun x hx2 => by
            rw [← HCN.out] at hx2
            exact hqt.cover hvt hlen hrdy hx2
          have hm0 : ∀ F, cln (cln (dif F (kn t)) &&& CN) = 0 := fun F => by rw [← HCN.out]; exact cov_meet (fun x hx2 => hcv x (by rw [← HCN.out]; exact hx2)) F
          have hs0 : cln (dif CN (kn t)) = 0 := by rw [← HCN.out]; exact cov_sub (fun x hx2 => hcv x (by rw [← HCN.out]; exact hx2))
          have hl100 : t.hs.length ≤ 100 := by have := hvt.len; have := hvt.d1; have := hvt.n1; omega
          have hms := missing_any a0 (Pt.of hT (by omega))
          rw [hrdy, show msN a0 true (kn t) = cln (dif (fullN a0.toNat) (kn t)) from if_pos ⟨by omega, by omega, rfl⟩, show msE a0 true = 0 by unfold msE; rw [if_pos (by omega)]; rfl] at hms
          have hm1 := hm0 (fullN a0.toNat)
          obtain ⟨M, hM⟩ : ∃ M, cln (dif (fullN a0.toNat) (kn t)) = M := ⟨_, rfl⟩
          rw [hM] at hms hm1
          have hrd : ∀ V, Below wr.heap.size wr V → Calls Tryd.prog 11 #[.pointer (some ⟨q, 0, none⟩)] V fun e w' => e = .returned (.bool true) ∧ w' = V := fun V hV => by
            have := ready_any (hT.carry hV)
            rw [hrdy] at this
            exact this
          have hkw := fun V hV => known_any (hT.carry (V := V) hV) (by omega)
          obtain ⟨K, hK0⟩ : ∃ K, kn t = K := ⟨_, rfl⟩
          rw [hK0] at hs0
          simp only [hK0] at hkw
          clear hM hK0 hcv hm0
          have hmv : ∀ V, Calls Tryd.prog 13 #[sv M, sv CN] V fun e w' => e = .returned (sv 0) ∧ Below V.heap.size V w' := fun V => by
            have := meet_any M CN V
            rw [hm1] at this
            exact this
          have hsv : ∀ V, Calls Tryd.prog 14 #[sv CN, sv K] V fun e w' => e = .returned (.bool true) ∧ Below V.heap.size V w' := fun V => by
            have := subset_any CN K V
            rw [decide_eq_true hs0] at this
            exact this
          have hcv : ∀ V, Calls Tryd.prog 12 #[sv 0] V fun e w' => e = .returned (.int .i64 0) ∧ Below V.heap.size V w' := fun V => by
            have := count_any 0 V
            rw [show cnt (cln 0) = 0 by decide] at this
            exact this
          simp only [sv] at hms
          have hkn : ¬ (k : Int) < a0 := hkl
          go_wp2_with (first
            | (go_at_call 10; (with_reducible refine hms.mono ?_); rintro e v ⟨rfl, hv⟩; obtain ⟨v3, hv3⟩ : ∃ u3, v.alloc (.cells #[.int .u32 0, .int .u32 0, .int .u32 0, .int .u32 0] 27) = u3 := ⟨_, rfl⟩; have k1 : Hid (Holds4 v3 v.heap.size (fun _ => 0)) := (by rw [← hv3]; exact new_at rfl); have k3 : Hid (Below wr.heap.size wr v3) := (by rw [← hv3]; exact bel2 hv (al1' _ _)))
            | (refine wpList_store_row rfl 27 (.tmp 17) (.tmp 130) rfl v.heap.size (cells4 (wd M)) rfl rfl 27 _ k1.out infoS rfl (by simp [cells4, Value.oneCell']) ?_; obtain ⟨v4, hv4⟩ : ∃ x, v3.setRow v.heap.size (cells4 (wd M)) = x := ⟨_, rfl⟩; have j1 : Hid (Holds4 v4 v.heap.size (wd M)) := (by rw [← hv4]; exact setRow_heap _ _ _ _ _ _ k1.out); have j3 : Hid (Below wr.heap.size wr v4) := (by rw [← hv4]; exact below_row k3.out hv.size _); rw [hv4]))
          refine wp_region_any hmx ?_
          refine wpAny_pure (fun i__ => ([(.bool true), (.bool true), (.pointer (some ⟨q, 0, none⟩)), (.bool true), (.bool true), (.bool true), (.int .i64 0), (.bool true), (.bool true), (.bool true), (sv M), (sv CN), (sv 0), (.int .i64 0), (.bool true), (.bool true), (.bool true), (sv CN), (.pointer (some ⟨q, 0, none⟩)), (sv K), (.bool true), (.bool true), (.bool true)] : List Value).getD i__ undef) (fun V => Below v4.heap.size v4 V) (by kernel_rfl) (Below.refl _ _).drew ?_ ?_
          · refine (stepsFrom_cons ?_ (stepsFrom_cons ?_ (stepsFrom_cons ?_ (stepsFrom_cons ?_ (stepsFrom_cons ?_ (stepsFrom_cons ?_ (stepsFrom_cons ?_ (stepsFrom_cons ?_ (stepsFrom_cons ?_ (stepsFrom_cons ?_ (stepsFrom_cons ?_ (stepsFrom_cons ?_ (stepsFrom_cons ?_ (stepsFrom_cons ?_ (stepsFrom_cons ?_ (stepsFrom_cons ?_ (stepsFrom_cons ?_ (stepsFrom_cons ?_ (stepsFrom_cons ?_ (stepsFrom_cons ?_ (stepsFrom_cons ?_ (stepsFrom_cons ?_ (stepsFrom_cons ?_ trivial)))))))))))))))))))))))
            · exact step_call rfl trivial 6 _ _ [] rfl (by kernel_rfl) (enters_of Tryd.func6 (by kernel_rfl) rfl) (fun v hw => (alive_any v).mono (by rintro e w2 ⟨rfl, hb⟩; exact ⟨rfl, bel2 hw hb⟩))
            · exact step_move rfl trivial _ rfl (by kernel_rfl)
            · exact step_move rfl (by exact ⟨_, rfl, by kernel_rfl⟩) _ rfl (by kernel_rfl)
            · exact step_call rfl (by exact ⟨_, rfl, by kernel_rfl⟩) 11 _ _ [(.pointer (some ⟨q, 0, none⟩))] rfl (by kernel_rfl) (enters_of Tryd.func11 (by kernel_rfl) rfl) (fun v hw => (hrd v (bel2 j3.out hw)).mono (by rintro e w2 ⟨rfl, rfl⟩; exact ⟨rfl, hw⟩))
            · exact step_pick rfl trivial _ _ _ true rfl (by kernel_rfl) (by kernel_rfl)
            · exact step_move rfl trivial _ rfl (by kernel_rfl)
            · exact step_move rfl (by exact ⟨_, rfl, by kernel_rfl⟩) _ rfl (by kernel_rfl)
            · exact step_binOp rfl (by exact ⟨_, rfl, by kernel_rfl⟩) _ _ _ _ _ _ _ rfl rfl rfl (fun v hw => bin_eql .i64 0 0)
            · exact step_pick rfl trivial _ _ _ true rfl (by kernel_rfl) (by kernel_rfl)
            · exact step_move rfl trivial _ rfl (by kernel_rfl)
            · exact step_load rfl (by exact ⟨_, rfl, by kernel_rfl⟩) _ _ _ rfl rfl (fun v hw => whole4 v _ M (j1.out.carry hw))
            · exact step_load rfl (by exact ⟨_, rfl, by kernel_rfl⟩) _ _ _ rfl rfl (fun v hw => whole4 v _ CN (hx.carry (bel2 j3.out hw)))
            · exact step_call rfl (by exact ⟨_, rfl, by kernel_rfl⟩) 13 _ _ [(sv M), (sv CN)] rfl (by kernel_rfl) (enters_of Tryd.func13 (by kernel_rfl) rfl) (fun v hw => (hmv v).mono (by rintro e w2 ⟨rfl, hb⟩; exact ⟨rfl, bel2 hw hb⟩))
            · exact step_call rfl (by exact ⟨_, rfl, by kernel_rfl⟩) 12 _ _ [(sv 0)] rfl (by kernel_rfl) (enters_of Tryd.func12 (by kernel_rfl) rfl) (fun v hw => (hcv v).mono (by rintro e w2 ⟨rfl, hb⟩; exact ⟨rfl, bel2 hw hb⟩))
            · exact step_binOp rfl (by exact ⟨_, rfl, by kernel_rfl⟩) _ _ _ _ _ _ _ rfl rfl rfl (fun v hw => bin_eql .i64 0 0)
            · exact step_pick rfl trivial _ _ _ true rfl (by kernel_rfl) (by kernel_rfl)
            · exact step_move rfl trivial _ rfl (by kernel_rfl)
            · exact step_load rfl (by exact ⟨_, rfl, by kernel_rfl⟩) _ _ _ rfl rfl (fun v hw => whole4 v _ CN (hx.carry (bel2 j3.out hw)))
            · exact step_move rfl (by exact ⟨_, rfl, by kernel_rfl⟩) _ rfl (by kernel_rfl)
            · exact step_call rfl (by exact ⟨_, rfl, by kernel_rfl⟩) 15 _ _ [(.pointer (some ⟨q, 0, none⟩))] rfl (by kernel_rfl) (enters_of Tryd.func15 (by kernel_rfl) rfl) (fun v hw => (hkw v (bel2 j3.out hw)).mono (by rintro e w2 ⟨rfl, hb⟩; exact ⟨rfl, bel2 hw hb⟩))
            · exact step_call rfl (by exact ⟨_, rfl, by kernel_rfl⟩) 14 _ _ [(sv CN), (sv K)] rfl (by kernel_rfl) (enters_of Tryd.func14 (by kernel_rfl) rfl) (fun v hw => (hsv v).mono (by rintro e w2 ⟨rfl, hb⟩; exact ⟨rfl, bel2 hw hb⟩))
            · exact step_pick rfl trivial _ _ _ true rfl (by kernel_rfl) (by kernel_rfl)
            · exact step_assign rfl trivial _ rfl (by kernel_rfl) (fun _ h => h)
          intro W hW
          first | refine hK _ _ ?_ | refine (‹∀ (a : Act) (w : World), Code.wp Tryd.prog _ _ a w → _›) _ _ ?_
          simp only [finL, List.getD_cons_zero, List.getD_cons_succ, Nat.zero_add, Nat.reduceAdd, List.setIfInBounds_toArray, List.set_cons_zero, List.set_cons_succ]
          go_wp2
          go_ret
          exact ⟨rfl, bel2 hbw (bel2 j3.out hW)⟩

set_option maxRecDepth 100000 in
theorem lifted (os : Os) (started : os.Started) (H : Type) (enc : TypeId × Value → H) :
    ReturnsInHanded {} Tryd.checked os 3 .any (fun w args => (Rows.inferQuorumsSpec.pre enc Tryd.prog Tryd.f3 [] false w args ∧ laidMetH Tryd.prog Rows.inferQuorumsRow.laid w) ∧ sizedMet enc Tryd.prog Tryd.f3 (OpenSpec.ofChange Rows.inferQuorumsSpec) false w args)
      (Rows.inferQuorumsSpec.post enc Tryd.prog Tryd.f3 false true false false) := by
  refine returnsInHanded_of_change_and (C := Tryd.checked) (X := fun w _ => laidMetH Tryd.prog Rows.inferQuorumsRow.laid w) (fun _ _ _ hh h => h.of_heap hh) own started (by kernel_rfl) Tryd.func3
    (ChangeSpec.witness_shaped (enc := enc) (C := Tryd.checked) (os := os) (X := fun w _ => laidMetH Tryd.prog Rows.inferQuorumsRow.laid w) false (World.laidAll Tryd.prog os Rows.inferQuorumsRow.laid) #[.int .i64 0, .int .i64 0, .int .i64 0, .slice none 0 0, .slice none 0 0] 8 (World.laidAll_os _ _ _)
      (World.shaped_of_ZipB (by kernel_rfl) (by kernel_rfl)) (by kernel_rfl) (by kernel_rfl) (by kernel_rfl)
      (by rw [MakeChecks.laidMetH_plain _ _ _ (by kernel_rfl)]; exact laidMet_laidAll _ (by kernel_rfl) (by kernel_rfl))) ?_
  intro W base args ds gs before hval0 hW _ hsz hL _
  have hval : ∀ (j : Nat) t v, Tryd.f3.params[j]? = some t → args[j]? = some v → Value.okWide Tryd.prog W .any base t v := hval0
  have hW' := hW
  obtain ⟨p, q, hA0, hV, rfl, hfz, hnd⟩ := hW
  have hA : DataW.TrodAll enc Tryd.prog W 0 (fun _ => true) true Tryd.f3.params.toList args.toList ds p := hA0
  rw [Tryd.params3] at hA hval
  obtain ⟨v0, vs0, d0, ds0, p0, q0, hargs, rfl, rfl, h0, r0⟩ := trodAll_cons hA
  obtain ⟨v1, vs1, d1, ds1, p1, q1, rfl, rfl, rfl, h1, r1⟩ := trodAll_cons r0
  obtain ⟨v2, vs2, d2, ds2, p2, q2, rfl, rfl, rfl, h2, r2⟩ := trodAll_cons r1
  obtain ⟨v3, vs3, d3, ds3, p3, q3, rfl, rfl, rfl, h3, r3⟩ := trodAll_cons r2
  obtain ⟨v4, vs4, d4, ds4, p4, q4, rfl, rfl, rfl, h4, r4⟩ := trodAll_cons r3
  obtain ⟨rfl, rfl, rfl⟩ := trodAll_nil r4
  obtain rfl : args = #[v0, v1, v2, v3, v4] := by cases args; simp_all
  obtain ⟨rfl, rfl⟩ := trodVars_none hV
  obtain ⟨a0, rfl, rfl, rfl, w0⟩ := open_int Tryd.underlying3 (hval 0 3 v0 rfl rfl) h0
  obtain ⟨a1, rfl, rfl, rfl, w1⟩ := open_int Tryd.underlying3 (hval 1 3 v1 rfl rfl) h1
  obtain ⟨a2, rfl, rfl, rfl, w2⟩ := open_int Tryd.underlying3 (hval 2 3 v2 rfl rfl) h2
  have k3 := h3
  have lt3 : ∀ x ∈ p3, x.block < W.heap.size := by obtain ⟨m, hm⟩ := k3; exact DataW.trod_lt m _ _ _ hm
  obtain ⟨ad3, cap3, l3, rfl, w3, hs3, hc3, hm3⟩ := open_sets (hval 3 22 v3 rfl rfl) h3
  have k4 := h4
  have lt4 : ∀ x ∈ p4, x.block < W.heap.size := by obtain ⟨m, hm⟩ := k4; exact DataW.trod_lt m _ _ _ hm
  obtain ⟨ad4, cap4, l4, rfl, w4, hl4⟩ := open_list (hval 4 23 v4 rfl rfl) h4
  clear hA0 hval0
  refine (walk W a0 w0 a1 w1 a2 w2 ad3 cap3 l3 w3 hs3 hc3 hm3 ad4 cap4 l4 w4 hl4 hL).mono fun e W' ⟨he, hg⟩ => ?_
  subst he
  exact ⟨_, rfl, _, _, _, [], _, [], hW', (trodAll_cons_mk (shut_bool Tryd.underlying4 _) trodAll_mk0), (trodAll_cons_mk (shut_int Tryd.underlying3 w0) (trodAll_cons_mk (shut_int Tryd.underlying3 w1) (trodAll_cons_mk (shut_int Tryd.underlying3 w2) (trodAll_cons_mk (Below.trod laidOut (by kernel_rfl) (of_decide_eq_true (by kernel_rfl)) k3 hg lt3) (trodAll_cons_mk (Below.trod laidOut (by kernel_rfl) (of_decide_eq_true (by kernel_rfl)) k4 hg lt4) trodAll_mk0))))), rfl, hg.frame _, fun h => by cases h⟩

theorem over : Rows.inferQuorumsRow.holds Tryd.pinned (OpenSpec.ofChange Rows.inferQuorumsSpec) :=
  OpenClaim.holds_of_wide 3 Tryd.f3 rfl rfl rfl rfl rfl rfl rfl ⟨rfl, rfl, rfl, rfl, rfl⟩ rfl rfl rfl rfl rfl (by kernel_rfl) Tryd.func3 (by kernel_rfl)
    (of_decide_eq_true (by kernel_rfl)) (by unfold Func.isWrapper; first | (rw [if_pos (by decide +kernel)]; kernel_rfl) | (rw [if_neg (by decide +kernel)]; exact ⟨rfl, rfl⟩))
    (fun os started H enc _ => lifted os started H enc)

theorem row_proved : Rows.InferQuorumsSaid :=
  over
theorem proved : Rows.InferQuorumsCardSaid :=
  Claim7.holds_tied_plain_at .later [] [.data] true (true, "4e6d6cd140fb0cb465ee6f39c3f9264a031d6201466ac6ddaf174ba7b1cc6811") false
    row_proved (fun _ h => by cases h) (by kernel_rfl) (fun _ h => by cases h) inferQuorums_row_tie rfl ⟨rfl, rfl⟩ (by kernel_rfl) rfl
    (fun f fn hf hfn => by
      obtain rfl : f = 3 := Option.some.inj ((show Tryd.prog.funcNamed "earshot/earshotlaw14.InferQuorums" = some 3 by kernel_rfl).symm.trans hf) |>.symm
      obtain rfl : fn = Tryd.f3 := (Option.some.inj (Tryd.func3.symm.trans hfn)).symm
      exact ⟨by kernel_rfl, fun j t ht => by
        rw [Tryd.params3] at ht
        rcases j with _ | j
        · have e : t = 3 := by simpa using ht.symm
          subst e
          exact (show Tryd.prog.wantsStandIn 3 = false by kernel_rfl)
        rcases j with _ | j
        · have e : t = 3 := by simpa using ht.symm
          subst e
          exact (show Tryd.prog.wantsStandIn 3 = false by kernel_rfl)
        rcases j with _ | j
        · have e : t = 3 := by simpa using ht.symm
          subst e
          exact (show Tryd.prog.wantsStandIn 3 = false by kernel_rfl)
        rcases j with _ | j
        · have e : t = 22 := by simpa using ht.symm
          subst e
          exact (show Tryd.prog.wantsStandIn 22 = false by kernel_rfl)
        rcases j with _ | j
        · have e : t = 23 := by simpa using ht.symm
          subst e
          exact (show Tryd.prog.wantsStandIn 23 = false by kernel_rfl)
        simp at ht⟩)
    (by kernel_rfl)
#print axioms proved
end Go.Proofs.YtgehmidalfajgaaDoor
