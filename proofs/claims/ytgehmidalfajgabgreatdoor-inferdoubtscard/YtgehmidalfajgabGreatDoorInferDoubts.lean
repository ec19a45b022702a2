/- InferDoubts (promise P1403): of every book and every set Doubts answers what the document's answers, twice, in new memory; the book stays. For every input; nothing is asked of it. -/
import Derived.Test.YtgehmidalfajgabGreatDoorRows
import Derived.WalkKit
import Derived.ProofKit
import Derived.OpenShut
import Derived.Stop.Joined
import Derived.Lay
import Derived.SevenTiedAt
import Derived.SizedLaws
import Derived.LaidMore
import Derived.Test.YtgehmidalfajgabGreatDoorTie
import Derived.Test.YtgehmidalfajgabGreatDoorCards
import Derived.Test.YtgehmidalfajgabGreatDoorInferDoubtsJ7
import Derived.Test.YtgehmidalfajgabGreatDoorInferDoubtsJ14
import Derived.Test.YtgehmidalfajgabGreatDoorInferDoubtsJ18
import Derived.Test.YtgehmidalfajgabGreatDoorInferDoubtsJ11
import Derived.Test.YtgehmidalfajgabGreatDoorInferDoubtsJ13
import Derived.Test.YtgehmidalfajgabGreatDoorInferDoubtsJ19
namespace Go.Proofs.YtgehmidalfajgabGreatDoor
open Go.ChangeShapes Go.WideShapes Go.ChangeAt Go.RowKit
set_option linter.unusedVariables false

theorem laidOut : laidOutB Tryz.prog = true := by kernel_rfl
theorem own : ownKnob Tryz.prog.godebug = none := by kernel_rfl
open Go.Shelf
set_option maxHeartbeats 32000000 in
set_option maxRecDepth 100000 in
theorem walk (w : World) (a0 : Int) (w0 : (Lit.int .i64 a0).wf = true) (a1 : Int) (w1 : (Lit.int .i64 a1).wf = true) (a2 : Int) (w2 : (Lit.int .i64 a2).wf = true) (ad3 : Option Addr) (cap3 : Nat) (l3 : List (Int × Int × Int)) (w3 : RdN w ad3 l3) (hc3 : ad3 = none → cap3 = 0) (hq3 : l3.length ≤ cap3) (N4 : Nat) (hN4 : N4 < S128) (hL : laidMetH Tryz.prog Rows.inferDoubtsRow.laid w) :
    Calls Tryz.prog 3 #[.int .i64 a0, .int .i64 a1, .int .i64 a2, .slice ad3 l3.length cap3, sv N4] w fun e w' => e = .returned (.bool true) ∧ Below w.heap.size w w' := by
  have hmx : Tryz.prog.follows .mixedOrders = true := by kernel_rfl
  obtain ⟨w1, hw1⟩ : ∃ w1, w.alloc (.cells #[.int .u32 (wd N4 0 : Nat), .int .u32 (wd N4 1 : Nat), .int .u32 (wd N4 2 : Nat), .int .u32 (wd N4 3 : Nat)] 25) = w1 := ⟨_, rfl⟩
  have hb1 : Below w.heap.size w w1 := by rw [← hw1]; exact al1' _ _
  have hs1 : w1.heap.size = w.heap.size + 1 := by rw [← hw1]; simp
  have G1 : Hid (Holds4 w1 w.heap.size (wd N4)) := by rw [← hw1]; exact new_at rfl
  by_cases hlong : (l3.length : Int) > 300
  case pos =>
    simp only [sv]
    go_enter Tryz.func3, Tryz.ntmps3
    go_wp2_with (go_at_call 4; refine (alive_any _).mono ?_; rintro e u9 ⟨rfl, hb9⟩)
    go_ret
    exact ⟨rfl, bel2 hb1 hb9⟩
  have hT := tab_of hL
  have hnw := new_any a0 a1 a2 w1
  have hrn := fun V => rNew_any a0 a1 a2 V
  have HW3 : Hid (RdN w ad3 l3) := w3
  clear w3
  by_cases hok : ¬ (a0 < 1 ∨ 100 < a0) ∧ ¬ (a1 < 0 ∨ a0 ≤ a1) ∧ ¬ (a2 < 0 ∨ 1048576 < a2)
  case neg =>
    obtain ⟨E7, hE7⟩ : ∃ E7 : Int, (if 0 < l3.length then (50 : Int) else 0) = E7 := ⟨_, rfl⟩
    have hem := fun V => emerge_any (w := V) (a := none) (.inl rfl) ad3 cap3 l3
    rw [hE7] at hem
    clear hE7
    simp only [sv]
    go_enter Tryz.func3, Tryz.ntmps3
    go_wp2_with (first
      | (go_at_call 5; (with_reducible refine hnw.mono ?_); rintro e u hV; have hu := hV.1; obtain ⟨E0, hE0, rfl⟩ := hV.bad hok)
      | (go_at_call 6; refine (hrn _).mono ?_; rintro e2 u2 hV2; have hu2 := hV2.1; obtain ⟨E, hE, rfl, hEE⟩ := hV2.bad hV hok; obtain ⟨u3, hu3⟩ : ∃ u3, u2.alloc (.cells #[.slice none 0 0] 32) = u3 := ⟨_, rfl⟩; have k1 : Hid (u3.heap[u2.heap.size]? = some (.cells #[.slice none 0 0] 32 (0, 0))) := (by rw [← hu3]; exact new_at rfl); have k2 : Hid (Below u2.heap.size u2 u3) := (by rw [← hu3]; exact al1' _ _); have hE2 : (E == 0) = false := (by simpa using hE))
      | (refine wpList_store_row rfl 32 (.tmp 13) (.tmp 35) rfl u2.heap.size #[.slice none 0 0] rfl rfl 32 _ k1.out infoR1 rfl (by simp [Value.oneCell']) ?_; obtain ⟨u4, hu4⟩ : ∃ x, u3.setRow u2.heap.size #[.slice none 0 0] = x := ⟨_, rfl⟩; have j1 : Hid (RB u4 u2.heap.size (.slice none 0 0)) := (by rw [← hu4]; exact setRow_heap _ _ _ _ _ _ k1.out); have j2 : Hid (Below u2.heap.size u2 u4) := (by rw [← hu4]; exact below_row k2.out (Nat.le_refl _) _); rw [hu4]; have hB4 : Below w1.heap.size w1 u4 := bel2 (bel2 hu hu2) j2.out; have hem4 := hem u4 ((HW3.out.carry hb1).carry hB4))
      | (go_at_call 7; refine hem4.mono ?_; rintro e W7 ⟨rfl, hb7⟩))
    have hB7 : Below w.heap.size w W7 := bel2 (bel2 hb1 hB4) hb7
    have hG7 := (G1.out.carry hB4).carry hb7
    have hT7 := ((hT.carry hb1).carry hB4).carry hb7
    have hRB7a := j1.out.carry hb7
    obtain ⟨L, hLe⟩ : ∃ L, ([] : List N3) = L := ⟨_, rfl⟩
    obtain ⟨nL, hnL⟩ : ∃ nL, (0 : Nat) = nL := ⟨_, rfl⟩
    obtain ⟨ar, har⟩ : ∃ ar, (none : Option Addr) = ar := ⟨_, rfl⟩
    obtain ⟨cr, hcr⟩ : ∃ cr, (0 : Nat) = cr := ⟨_, rfl⟩
    have hRB7 : RB W7 u2.heap.size (.slice ar nL cr) := by rw [← hnL, ← har, ← hcr]; exact hRB7a
    have hLn : L.length = nL := by rw [← hLe, ← hnL]; rfl
    have hL100 : nL ≤ 100 := by omega
    have hRL7 : RdN W7 ar L := fun e => absurd hLe.symm e
    obtain ⟨D, hD⟩ : ∃ D, dbs L (idsTo (cln N4) 128) = D := ⟨_, rfl⟩
    have hD100 : D.length ≤ 100 := by rw [← hD]; exact dbs_le (by omega) _
    have hDe : D = [] := by
      have : (dbs L (idsTo (cln N4) 128)).length = 0 := by rw [dbs_count hLn (by omega), ← hnL]; rfl
      rw [hD] at this
      exact List.eq_nil_of_length_eq_zero this
    have hdb : ∀ V, Below W7.heap.size W7 V → Calls Tryz.prog 9 #[.pointer none, sv N4] V fun e w' => ∃ a c, e = .returned (.slice a D.length c) ∧ w'.ownsRow V.heap.size 70 3 (.slice a D.length c) D.length (fl D) ∧ (a = none → c = 0) ∧ Below V.heap.size V w' := fun V hV => by
      refine (edoubts_any N4 V (hT7.carry hV)).mono ?_
      rintro e w' ⟨rfl, hb⟩
      rw [hDe]
      exact ⟨none, 0, rfl, World.ownsRow_nil _ _ _ _, fun _ => rfl, hb⟩
    have hls : ∀ V, Below W7.heap.size W7 V → Calls Tryz.prog 13 #[.pointer none] V fun e w' => ∃ a c, e = .returned (.slice a nL c) ∧ RdN w' a L ∧ Below V.heap.size V w' := fun V hV => by
      refine (elist_any (w := V) (v := .pointer none) (.inl rfl)).mono ?_
      rintro e w' ⟨rfl, hb⟩
      exact ⟨none, 0, by rw [← hnL], fun e => absurd hLe.symm e, hb⟩
    obtain ⟨b13, hb13⟩ : ∃ b13, u2.heap.size = b13 := ⟨_, rfl⟩
    rw [hb13] at hRB7 ⊢
    clear hem hem4 hnw hrn hV hV2 k1 k2 j1 j2 hu3 hu4 hRB7a hLe hnL har hcr hDe G1 hEE
    refine wp_region_any hmx ?_
    refine wpAny_tabG (G := ((Option Addr × Nat) × (Option Addr × Nat))) (fun g i__ => ([(.pointer none), (sv N4), (.slice g.1.1 D.length g.1.2), (.pointer none), (sv N4), (.slice g.2.1 D.length g.2.2), (.slice g.1.1 D.length g.1.2), (.slice g.2.1 D.length g.2.2)] : List Value).getD i__ undef) (fun g d V => J8 W7 D g (d 2) (d 5) V) (by kernel_rfl) (((none, 0), (none, 0))) (show J8 W7 D ((none, 0), (none, 0)) false false _ from ⟨(Below.refl _ _).drew, fun e => (by cases e), fun e => (by cases e)⟩) ?step1 ?fin1
    case step1 =>
      intro i o ho
      have hi : i < 8 := getElem?_lt ho
      match i, hi, ho with
      | 0, _, ho =>
        cases ho
        refine stepG_ofC (fun g d hun hdep hcl => ?_)
        exact step_move rfl trivial _ rfl (by kernel_rfl)
      | 1, _, ho =>
        cases ho
        refine stepG_ofC (fun g d hun hdep hcl => ?_)
        exact step_load rfl trivial _ _ _ rfl rfl (fun v hw => whole4 v _ N4 (hG7.carry hw.bl))
      | 2, _, ho =>
        cases ho
        exact stepG_call rfl (fun _ => trivial) 9 _ _ (fun _ => [(.pointer none), sv N4]) rfl (fun g => by kernel_rfl) (enters_of Tryz.func9 (by kernel_rfl) rfl) (fun g d V hJ hun hdep hcl => (hdb V hJ.bl).mono (by have h5 : d 5 = false := (by cases h : d 5 with | false => rfl | true => exact absurd (hcl 5 _ rfl h 2 (by kernel_rfl)) (by rw [hun]; simp)); have hJ' := hJ; rw [hun, h5] at hJ'; rintro e V' ⟨a, c, rfl, h1, h2, h3⟩; refine ⟨((a, c), g.2), rfl, (fun j hj => match j, hj with | 2, hj => (by rw [hj] at hun; cases hun) | 6, hj => absurd ((hcl 6 _ rfl hj 2 (by kernel_rfl))) (by rw [hun]; simp) | 0, _ => rfl | 1, _ => rfl | 3, _ => rfl | 4, _ => rfl | 5, _ => rfl | 7, _ => rfl | _ + 8, _ => rfl), ?_⟩; show J8 W7 D _ true (d 5) V'; rw [h5]; exact hJ'.one h1 h2 h3))
      | 3, _, ho =>
        cases ho
        refine stepG_ofC (fun g d hun hdep hcl => ?_)
        exact step_move rfl trivial _ rfl (by kernel_rfl)
      | 4, _, ho =>
        cases ho
        refine stepG_ofC (fun g d hun hdep hcl => ?_)
        exact step_load rfl trivial _ _ _ rfl rfl (fun v hw => whole4 v _ N4 (hG7.carry hw.bl))
      | 5, _, ho =>
        cases ho
        exact stepG_call rfl (fun _ => trivial) 9 _ _ (fun _ => [(.pointer none), sv N4]) rfl (fun g => by kernel_rfl) (enters_of Tryz.func9 (by kernel_rfl) rfl) (fun g d V hJ hun hdep hcl => (hdb V hJ.bl).mono (by have h2' : d 2 = true := hdep 2 (by kernel_rfl); have hJ' := hJ; rw [hun, h2'] at hJ'; rintro e V' ⟨a, c, rfl, h1, h2, h3⟩; refine ⟨(g.1, (a, c)), rfl, (fun j hj => match j, hj with | 5, hj => (by rw [hj] at hun; cases hun) | 7, hj => absurd ((hcl 7 _ rfl hj 5 (by kernel_rfl))) (by rw [hun]; simp) | 0, _ => rfl | 1, _ => rfl | 2, _ => rfl | 3, _ => rfl | 4, _ => rfl | 6, _ => rfl | _ + 8, _ => rfl), ?_⟩; show J8 W7 D _ (d 2) true V'; rw [h2']; exact hJ'.two h1 h2 h3))
      | 6, _, ho =>
        cases ho
        refine stepG_ofC (fun g d hun hdep hcl => ?_)
        exact step_assign rfl trivial _ rfl (by kernel_rfl) (fun _ h => h)
      | 7, _, ho =>
        cases ho
        refine stepG_ofC (fun g d hun hdep hcl => ?_)
        exact step_assign rfl trivial _ rfl (by kernel_rfl) (fun _ h => h)
    intro g d W hall hW
    first | refine hK _ _ ?_ | refine (‹∀ (a : Act) (w : World), Code.wp Tryz.prog _ _ a w → _›) _ _ ?_ | skip
    simp only [finL, List.getD_cons_zero, List.getD_cons_succ, Nat.zero_add, Nat.reduceAdd, List.setIfInBounds_toArray, List.set_cons_zero, List.set_cons_succ]
    rw [hall 2 (by decide), hall 5 (by decide)] at hW
    obtain ⟨⟨aX, cX⟩, ⟨aY, cY⟩⟩ := g
    obtain ⟨hb8, hr81, hr82⟩ := hW
    obtain ⟨hX, hXc⟩ := hr81 rfl
    obtain ⟨hY, hYc, hXY⟩ := hr82 rfl
    dsimp only at hX hXc hY hYc hXY ⊢
    obtain ⟨W8, hW8⟩ : ∃ W8, W = W8 := ⟨_, rfl⟩
    subst hW8
    have hrd := fun V (hV : Below W.heap.size W V) => rDoubts_any ar nL cr L ((hRL7.carry hb8).carry hV) hLn hL100 N4
    rw [hD] at hrd
    have hRB8 := hRB7.carry hb8
    have hG8 := hG7.carry hb8
    have c13 := hRB8.cell
    simp only [sv] at hrd
    clear hall hr81 hr82 hdb
    go_wp2_with (first
      | (refine wpList_load_row rfl 25 (.tmp 9) rfl w.heap.size rfl 25 _ (0, 0) _ hG8 Tryz.underlying25 rfl infoS ?_)
      | (go_at_call 10; refine (hrd _ (Below.refl _ _)).mono ?_; rintro e W9 ⟨vw, rfl, hMw, hb9⟩; obtain ⟨aw, cw, rfl, hw9, hwc⟩ := made_form hMw; obtain ⟨W10, hW10⟩ : ∃ W10, W9.alloc (.cells (bkc (.slice none 0 0) (.slice none 0 0)) 55) = W10 := ⟨_, rfl⟩; have hW10' : W9.alloc (.cells #[.slice none 0 0, .slice none 0 0, .slice none 0 0, .slice none 0 0, .slice none 0 0, .slice none 0 0, .slice none 0 0, .slice none 0 0, .slice none 0 0, .slice none 0 0, .slice none 0 0, .slice none 0 0, .slice none 0 0, .slice none 0 0, .slice none 0 0, .slice none 0 0, .slice none 0 0, .slice none 0 0, .slice none 0 0, .slice none 0 0, .slice none 0 0, .slice none 0 0, .slice none 0 0, .slice none 0 0] 55) = W10 := hW10; have h810 : Hid (Below W.heap.size W W10) := (by rw [← hW10]; exact bel2 hb9 (al1' _ _)); have hb910 : Below W9.heap.size W9 W10 := (by rw [← hW10]; exact al1' _ _); have hKB0 : KB W10 W9.heap.size (.slice none 0 0) (.slice none 0 0) := (by rw [← hW10]; exact new_at rfl); have hz9 : W7.heap.size ≤ W9.heap.size := Nat.le_trans hb8.size hb9.size; have hN0 : NKx W7.heap.size W9.heap.size W10 ([] : List (List N3)).length [] [] := ⟨_, _, by simp, hKB0, World.ownsRow_nil _ _ _ _, World.ownsRow_nil _ _ _ _, fun q e => (by cases e), hz9⟩; have hL0 : Lx noS W7.heap.size W10 [] [] [] := ⟨fun i l h => (by simp at h), rfl, rfl, fun i j g z z' h => (by simp at h)⟩; have hX10 := row_below hX h810.out; have hY10 := row_below hY h810.out; have hw10 := row_below hw9 hb910; have hk1 := keep_one hN0 hL0 (Nat.le_trans hz9 hb910.size) (by simp) aX cX D (own_rdn hX10) hX10 hD100 hXc (fun i g z' h => (by simp at h)))
      | (go_at_call 11; (with_reducible refine hk1.mono ?_); rintro e W11 ⟨⟨v11, rfl⟩, ⟨z11, hN1, hL1⟩, hKp1, hat1⟩; have hY11 : W11.ownsRow W7.heap.size 70 3 (.slice aY D.length cY) D.length (fl D) := row_at hY10 (fun g cur _ hg => hat1 g cur hg); have hk2 := keep_one hN1 hL1 (Nat.le_trans (Nat.le_trans hz9 hb910.size) hKp1.size) (by simp) aY cY D (own_rdn hY11) hY11 hD100 hYc (fun i g z' h1 h2 h3 => (by cases i with | zero => (simp at h1; subst h1; exact hXY g h3 h2) | succ i => simp at h1)))
      | (go_at_call 11; (with_reducible refine hk2.mono ?_); rintro e W12 ⟨⟨v12, rfl⟩, ⟨z12, hN2, hL2⟩, hKp2, hat2⟩))
    have hz10 : W7.heap.size ≤ W10.heap.size := Nat.le_trans hz9 hb910.size
    have hB710 : Below W7.heap.size W7 W10 := bel2 hb8 h810.out
    have hB712 : Below W7.heap.size W7 W12 := hKp2.below (hKp1.below hB710 hz9 (Nat.le_refl _)) hz9 (Nat.le_refl _)
    have hX12 : W12.ownsRow W7.heap.size 70 3 (.slice aX D.length cX) D.length (fl D) := row_at (row_at hX10 (fun g cur _ hg => hat1 g cur hg)) (fun g cur _ hg => hat2 g cur hg)
    have hY12 : W12.ownsRow W7.heap.size 70 3 (.slice aY D.length cY) D.length (fl D) := row_at hY11 (fun g cur _ hg => hat2 g cur hg)
    have hw12 := row_at (row_at hw10 (fun g cur _ hg => hat1 g cur hg)) (fun g cur _ hg => hat2 g cur hg)
    have hRX := own_rdn hX12
    have hRY := own_rdn hY12
    have hRw := own_rdn hw12
    have hNK := nk_of hN2 hL2
    have hBas : W7.heap.size ≤ W12.heap.size := hB712.size
    have hls12 := fun V (hV : Below W12.heap.size W12 V) => hls V (bel2 hB712 hV)
    have hRB12 := hRB7.carry hB712
    have hRL12 := hRL7.carry hB712
    obtain ⟨bb, hbb⟩ : ∃ bb, W9.heap.size = bb := ⟨_, rfl⟩
    rw [hbb] at hNK ⊢
    have hapt : ∀ V, Below W12.heap.size W12 V → Calls Tryz.prog 14 #[.pointer (some ⟨bb, 0, none⟩)] V fun e w' => e = .returned (.bool true) ∧ Below W7.heap.size W7 w' := fun V hV => by
      have hNV : NK noS W7.heap.size bb V := by
        obtain ⟨h0, k, x, y, LL, h1, h2, h3⟩ := hNK
        exact ⟨fun _ q => q.elim, k, x, y, LL, h1.carry hV, h2, h3.carry (fun g cur _ hg => (hV.block g (lt_at hg)).trans hg)⟩
      refine (hNV.apart (Nat.le_trans hBas hV.size)).mono ?_
      rintro e w' ⟨rfl, hb⟩
      exact ⟨rfl, (bel2 hB712 hV).trans hb⟩
    have hsm := fun V (hV : Below W12.heap.size W12 V) => same_any aX aw cX cw D V (hRX.carry hV) (hRw.carry hV) (by omega)
    have hsm2 := fun V (hV : Below W12.heap.size W12 V) => same_any aY aw cY cw D V (hRY.carry hV) (hRw.carry hV) (by omega)
    have hsm3 : ∀ V a c, Below W12.heap.size W12 V → RdN V a L → Calls Tryz.prog 12 #[.slice a nL c, .slice ar nL cr] V fun e w' => e = .returned (.bool true) ∧ Below V.heap.size V w' := fun V a c hV hr => by
      rw [← hLn]
      exact same_any a ar c cr L V hr (hRL12.carry hV) (by omega)
    clear hk1 hk2 hN0 hL0 hN1 hL1 hN2 hL2 hX hY hw9 hX10 hY10 hw10 hY11 hX12 hY12 hw12 hKp1 hKp2 hat1 hat2 hMw hKB0 hls hXY hrd
    refine wp_region_any hmx ?_
    refine wpAny_tabG (G := (Option Addr × Nat)) (fun g i__ => ([(.bool true), (.bool true), (.slice aX D.length cX), (.slice aw D.length cw), (.bool true), (.bool true), (.bool true), (.slice aY D.length cY), (.slice aw D.length cw), (.bool true), (.bool true), (.bool true), (.pointer none), (.slice g.1 nL g.2), (.pointer (some ⟨b13, 0, none⟩)), (.slice ar nL cr), (.bool true), (.bool true), (.bool true), (.pointer (some ⟨bb, 0, none⟩)), (.bool true), (.bool true), (.bool true)] : List Value).getD i__ undef) (fun g d V => J9 W7 W12 L g (d 13) (d 20) V) (by kernel_rfl) ((none, 0)) (show J9 W7 W12 L (none, 0) false false _ from ⟨(Below.refl _ _).drew, fun e => (by cases e)⟩) ?step2 ?fin2
    case step2 =>
      intro i o ho
      have hi : i < 23 := getElem?_lt ho
      match i, hi, ho with
      | 0, _, ho =>
        cases ho
        refine stepG_ofC (fun g d hun hdep hcl => ?_)
        exact step_call rfl trivial 4 _ _ [] rfl (by kernel_rfl) (enters_of Tryz.func4 (by kernel_rfl) rfl) (fun v hw => by have h20 : d 20 = false := (by cases h : d 20 with | false => rfl | true => exact absurd (hcl 1 _ rfl (hcl 5 _ rfl (hcl 6 _ rfl (hcl 10 _ rfl (hcl 11 _ rfl (hcl 17 _ rfl (hcl 18 _ rfl (hcl 20 _ rfl h 18 (by kernel_rfl)) 17 (by kernel_rfl)) 11 (by kernel_rfl)) 10 (by kernel_rfl)) 6 (by kernel_rfl)) 5 (by kernel_rfl)) 1 (by kernel_rfl)) 0 (by kernel_rfl)) (by rw [hun]; simp)); have hw' := hw; rw [h20] at hw'; exact (alive_any v).mono (by rintro e w2 ⟨rfl, hb⟩; exact ⟨rfl, (show J9 W7 W12 L g (d 13) (d 20) w2 from by rw [h20]; exact ⟨bel2 hw'.1 hb, fun e => (hw'.2 e).carry hb⟩)⟩))
      | 1, _, ho =>
        cases ho
        refine stepG_ofC (fun g d hun hdep hcl => ?_)
        exact step_move rfl trivial _ rfl (by kernel_rfl)
      | 2, _, ho =>
        cases ho
        refine stepG_ofC (fun g d hun hdep hcl => ?_)
        exact step_move rfl (by exact ⟨_, rfl, by kernel_rfl⟩) _ rfl (by kernel_rfl)
      | 3, _, ho =>
        cases ho
        refine stepG_ofC (fun g d hun hdep hcl => ?_)
        exact step_move rfl (by exact ⟨_, rfl, by kernel_rfl⟩) _ rfl (by kernel_rfl)
      | 4, _, ho =>
        cases ho
        refine stepG_ofC (fun g d hun hdep hcl => ?_)
        exact step_call rfl (by exact ⟨_, rfl, by kernel_rfl⟩) 12 _ _ [(.slice aX D.length cX), (.slice aw D.length cw)] rfl (by kernel_rfl) (enters_of Tryz.func12 (by kernel_rfl) rfl) (fun v hw => by have h20 : d 20 = false := (by cases h : d 20 with | false => rfl | true => exact absurd (hcl 6 _ rfl (hcl 10 _ rfl (hcl 11 _ rfl (hcl 17 _ rfl (hcl 18 _ rfl (hcl 20 _ rfl h 18 (by kernel_rfl)) 17 (by kernel_rfl)) 11 (by kernel_rfl)) 10 (by kernel_rfl)) 6 (by kernel_rfl)) 4 (by kernel_rfl)) (by rw [hun]; simp)); have hw' := hw; rw [h20] at hw'; exact (hsm v hw'.1).mono (by rintro e w2 ⟨rfl, hb⟩; exact ⟨rfl, (show J9 W7 W12 L g (d 13) (d 20) w2 from by rw [h20]; exact ⟨bel2 hw'.1 hb, fun e => (hw'.2 e).carry hb⟩)⟩))
      | 5, _, ho =>
        cases ho
        refine stepG_ofC (fun g d hun hdep hcl => ?_)
        exact step_pick rfl trivial _ _ _ true rfl (by kernel_rfl) (by kernel_rfl)
      | 6, _, ho =>
        cases ho
        refine stepG_ofC (fun g d hun hdep hcl => ?_)
        exact step_move rfl trivial _ rfl (by kernel_rfl)
      | 7, _, ho =>
        cases ho
        refine stepG_ofC (fun g d hun hdep hcl => ?_)
        exact step_move rfl (by exact ⟨_, rfl, by kernel_rfl⟩) _ rfl (by kernel_rfl)
      | 8, _, ho =>
        cases ho
        refine stepG_ofC (fun g d hun hdep hcl => ?_)
        exact step_move rfl (by exact ⟨_, rfl, by kernel_rfl⟩) _ rfl (by kernel_rfl)
      | 9, _, ho =>
        cases ho
        refine stepG_ofC (fun g d hun hdep hcl => ?_)
        exact step_call rfl (by exact ⟨_, rfl, by kernel_rfl⟩) 12 _ _ [(.slice aY D.length cY), (.slice aw D.length cw)] rfl (by kernel_rfl) (enters_of Tryz.func12 (by kernel_rfl) rfl) (fun v hw => by have h20 : d 20 = false := (by cases h : d 20 with | false => rfl | true => exact absurd (hcl 11 _ rfl (hcl 17 _ rfl (hcl 18 _ rfl (hcl 20 _ rfl h 18 (by kernel_rfl)) 17 (by kernel_rfl)) 11 (by kernel_rfl)) 9 (by kernel_rfl)) (by rw [hun]; simp)); have hw' := hw; rw [h20] at hw'; exact (hsm2 v hw'.1).mono (by rintro e w2 ⟨rfl, hb⟩; exact ⟨rfl, (show J9 W7 W12 L g (d 13) (d 20) w2 from by rw [h20]; exact ⟨bel2 hw'.1 hb, fun e => (hw'.2 e).carry hb⟩)⟩))
      | 10, _, ho =>
        cases ho
        refine stepG_ofC (fun g d hun hdep hcl => ?_)
        exact step_pick rfl trivial _ _ _ true rfl (by kernel_rfl) (by kernel_rfl)
      | 11, _, ho =>
        cases ho
        refine stepG_ofC (fun g d hun hdep hcl => ?_)
        exact step_move rfl trivial _ rfl (by kernel_rfl)
      | 12, _, ho =>
        cases ho
        refine stepG_ofC (fun g d hun hdep hcl => ?_)
        exact step_move rfl (by exact ⟨_, rfl, by kernel_rfl⟩) _ rfl (by kernel_rfl)
      | 13, _, ho =>
        cases ho
        exact stepG_call rfl (fun _ => ⟨_, rfl, by kernel_rfl⟩) 13 _ _ (fun _ => [(.pointer none)]) rfl (fun g => by kernel_rfl) (enters_of Tryz.func13 (by kernel_rfl) rfl) (fun g d V hJ hun hdep hcl => by have h20 : d 20 = false := (by cases h : d 20 with | false => rfl | true => exact absurd (hcl 16 _ rfl (hcl 18 _ rfl (hcl 20 _ rfl h 18 (by kernel_rfl)) 16 (by kernel_rfl)) 13 (by kernel_rfl)) (by rw [hun]; simp)); have hJ' := hJ; rw [h20] at hJ'; exact (hls12 V hJ'.1).mono (by rintro e V' ⟨a, c, rfl, h1, h2⟩; refine ⟨(a, c), rfl, (fun j hj => match j, hj with | 13, hj => (by rw [hj] at hun; cases hun)  | 0, _ => rfl | 1, _ => rfl | 2, _ => rfl | 3, _ => rfl | 4, _ => rfl | 5, _ => rfl | 6, _ => rfl | 7, _ => rfl | 8, _ => rfl | 9, _ => rfl | 10, _ => rfl | 11, _ => rfl | 12, _ => rfl | 14, _ => rfl | 15, _ => rfl | 16, _ => rfl | 17, _ => rfl | 18, _ => rfl | 19, _ => rfl | 20, _ => rfl | 21, _ => rfl | 22, _ => rfl | _ + 23, _ => rfl), ?_⟩; show J9 W7 W12 L _ true (d 20) V'; rw [h20]; exact ⟨bel2 hJ'.1 h2, fun _ => h1⟩))
      | 14, _, ho =>
        cases ho
        refine stepG_ofC (fun g d hun hdep hcl => ?_)
        exact step_fieldAddr rfl (by exact ⟨_, rfl, by kernel_rfl⟩) _ _ _ _ rfl rfl (fun v hw => field_rb v _)
      | 15, _, ho =>
        cases ho
        refine stepG_ofC (fun g d hun hdep hcl => ?_)
        exact step_load rfl (by exact ⟨_, rfl, by kernel_rfl⟩) _ _ _ rfl rfl (fun v hw => by have h20 : d 20 = false := (by cases h : d 20 with | false => rfl | true => exact absurd (hcl 16 _ rfl (hcl 18 _ rfl (hcl 20 _ rfl h 18 (by kernel_rfl)) 16 (by kernel_rfl)) 15 (by kernel_rfl)) (by rw [hun]; simp)); have hw' := hw; rw [h20] at hw'; exact load_rb (hRB12.carry hw'.1))
      | 16, _, ho =>
        cases ho
        refine stepG_ofC (fun g d hun hdep hcl => ?_)
        exact step_call rfl (by exact ⟨_, rfl, by kernel_rfl⟩) 12 _ _ [(.slice g.1 nL g.2), (.slice ar nL cr)] rfl (by kernel_rfl) (enters_of Tryz.func12 (by kernel_rfl) rfl) (fun v hw => by have h20 : d 20 = false := (by cases h : d 20 with | false => rfl | true => exact absurd (hcl 18 _ rfl (hcl 20 _ rfl h 18 (by kernel_rfl)) 16 (by kernel_rfl)) (by rw [hun]; simp)); have hw' := hw; rw [h20] at hw'; exact (hsm3 v g.1 g.2 hw'.1 (hw'.2 (hdep 13 (by kernel_rfl)))).mono (by rintro e w2 ⟨rfl, hb⟩; exact ⟨rfl, (show J9 W7 W12 L g (d 13) (d 20) w2 from by rw [h20]; exact ⟨bel2 hw'.1 hb, fun e => (hw'.2 e).carry hb⟩)⟩))
      | 17, _, ho =>
        cases ho
        refine stepG_ofC (fun g d hun hdep hcl => ?_)
        exact step_pick rfl trivial _ _ _ true rfl (by kernel_rfl) (by kernel_rfl)
      | 18, _, ho =>
        cases ho
        refine stepG_ofC (fun g d hun hdep hcl => ?_)
        exact step_move rfl trivial _ rfl (by kernel_rfl)
      | 19, _, ho =>
        cases ho
        refine stepG_ofC (fun g d hun hdep hcl => ?_)
        exact step_move rfl (by exact ⟨_, rfl, by kernel_rfl⟩) _ rfl (by kernel_rfl)
      | 20, _, ho =>
        cases ho
        refine stepG_ofC (fun g d hun hdep hcl => ?_)
        exact step_call rfl (by exact ⟨_, rfl, by kernel_rfl⟩) 14 _ _ [(.pointer (some ⟨bb, 0, none⟩))] rfl (by kernel_rfl) (enters_of Tryz.func14 (by kernel_rfl) rfl) (fun v hw => by have hw' := hw; rw [hun] at hw'; exact (hapt v hw'.1).mono (by rintro e w2 ⟨rfl, hb⟩; exact ⟨rfl, hb⟩))
      | 21, _, ho =>
        cases ho
        refine stepG_ofC (fun g d hun hdep hcl => ?_)
        exact step_pick rfl trivial _ _ _ true rfl (by kernel_rfl) (by kernel_rfl)
      | 22, _, ho =>
        cases ho
        refine stepG_ofC (fun g d hun hdep hcl => ?_)
        exact step_assign rfl trivial _ rfl (by kernel_rfl) (fun _ h => h)
    intro g d W hall hW
    first | refine hK _ _ ?_ | refine (‹∀ (a : Act) (w : World), Code.wp Tryz.prog _ _ a w → _›) _ _ ?_ | skip
    simp only [finL, List.getD_cons_zero, List.getD_cons_succ, Nat.zero_add, Nat.reduceAdd, List.setIfInBounds_toArray, List.set_cons_zero, List.set_cons_succ]
    rw [hall 20 (by decide)] at hW
    have hWf : Below W7.heap.size W7 W := hW
    go_wp2
    go_ret
    exact ⟨rfl, bel2 hB7 hWf⟩
  obtain ⟨h1, h2, h3⟩ := hok
  have HOK : Hid (∀ (V : World) (e : Ending), NewV a0 a1 a2 w1 e V → ∃ p g, e = .returned (.tuple #[.pointer (some ⟨p, 0, none⟩), .int .i64 0]) ∧ w1.heap.size ≤ p ∧ w1.heap.size ≤ g ∧ Bk V p g (bk0 a0.toNat a1.toNat a2)) := fun V e hV => hV.ok h1 h2 h3
  have HRK : Hid (∀ (U V : World) (e : Ending), RNewV a0 a1 a2 U e V → ∃ ad cap, e = .returned (.tuple #[.agg #[.slice ad a0.toNat cap], .int .i64 0]) ∧ RdN V ad (bk0 a0.toNat a1.toNat a2) ∧ a0.toNat ≤ cap ∧ (∀ a, ad = some a → U.heap.size ≤ a.block ∧ ∃ cur, V.heap[a.block]? = some (.cells cur 70 (0, 0)))) := fun U V e hV => hV.ok h1 h2 h3
  have HB0 : Hid (Bok (bk0 a0.toNat a1.toNat a2)) := bk0_bok (by omega) (by omega)
  have HL0 : Hid ((bk0 a0.toNat a1.toNat a2).length = a0.toNat) := bk0_len _ _ _
  obtain ⟨nL, hnL⟩ : ∃ nL, a0.toNat = nL := ⟨_, rfl⟩
  have hn1 : 1 ≤ nL := by omega
  have hL100 : nL ≤ 100 := by omega
  clear h1 h2 h3
  rw [hnL] at HOK HRK HB0 HL0
  generalize bk0 nL a1.toNat a2 = L0 at HOK HRK HB0 HL0
  have HB1 : Hid (Bok (mrg L0 l3)) := mrg_bok HB0.out l3
  have HL1 : Hid ((mrg L0 l3).length = nL) := (mrg_len HB0.out l3).trans HL0.out
  have HM : Hid (∀ (W : World) (p g : Nat), Bk W p g L0 → RdN W ad3 l3 → (l3 ≠ [] → ∀ a, ad3 = some a → a.block ≠ g) → Calls Tryz.prog 7 #[.pointer (some ⟨p, 0, none⟩), .slice ad3 l3.length cap3] W fun e w' => (∃ (N : Nat) (E : Int), e = .returned (.tuple #[.agg #[.int .u32 (wd N 0 : Nat), .int .u32 (wd N 1 : Nat), .int .u32 (wd N 2 : Nat), .int .u32 (wd N 3 : Nat)], .int .i64 E])) ∧ Bk w' p g (mrg L0 l3) ∧ W.grownBy w' (some g)) := fun W p g hk hr hne => merge_some hk ad3 cap3 l3 hr hne (by omega)
  have HRM : Hid (∀ (W : World) (ad : Option Addr) (cap : Nat), RdN W ad L0 → nL ≤ cap → RdN W ad3 l3 → Calls Tryz.prog 8 #[.agg #[.slice ad nL cap], .slice ad3 l3.length cap3] W fun e w' => ∃ ad' cap', ∃ (S : Nat) (E : Int), e = .returned (.tuple #[.agg #[.slice ad' nL cap'], .agg #[.int .u32 (wd S 0 : Nat), .int .u32 (wd S 1 : Nat), .int .u32 (wd S 2 : Nat), .int .u32 (wd S 3 : Nat)], .int .i64 E]) ∧ RdN w' ad' (mrg L0 l3) ∧ nL ≤ cap' ∧ (ad' = ad ∨ ∀ a, ad' = some a → W.heap.size ≤ a.block ∧ ∃ cur, w'.heap[a.block]? = some (.cells cur 70 (0, 0))) ∧ Below W.heap.size W w') := fun W ad cap h0 hc hm => rmerge_some ad nL cap L0 h0 HL0.out (by omega) hL100 hc ad3 cap3 l3 hm (by omega)
  generalize mrg L0 l3 = L at HB1 HL1 HM HRM
  have hLn : L.length = nL := HL1.out
  obtain ⟨D, hD⟩ : ∃ D, dbs L (idsTo (cln N4) 128) = D := ⟨_, rfl⟩
  have hD100 : D.length ≤ 100 := by rw [← hD]; exact dbs_le (by omega) _
  simp only [sv]
  go_enter Tryz.func3, Tryz.ntmps3
  go_wp2_with (first
    | (go_at_call 5; (with_reducible refine hnw.mono ?_); rintro e u hV; have hu := hV.1; obtain ⟨p, g, rfl, hp, hg, hK⟩ := HOK.out _ _ hV)
    | (go_at_call 6; refine (hrn _).mono ?_; rintro e2 u2 hV2; have hu2 := hV2.1; obtain ⟨adr, capr, rfl, hrd, hcap, hty⟩ := HRK.out _ _ _ hV2; obtain ⟨u3, hu3⟩ : ∃ u3, u2.alloc (.cells #[.slice none 0 0] 32) = u3 := ⟨_, rfl⟩; have k1 : Hid (u3.heap[u2.heap.size]? = some (.cells #[.slice none 0 0] 32 (0, 0))) := (by rw [← hu3]; exact new_at rfl); have k2 : Hid (Below u2.heap.size u2 u3) := (by rw [← hu3]; exact al1' _ _))
    | (refine wpList_store_row rfl 32 (.tmp 13) (.tmp 35) rfl u2.heap.size #[.slice adr nL capr] rfl rfl 32 _ k1.out infoR1 rfl (by simp [Value.oneCell']) ?_; obtain ⟨u4, hu4⟩ : ∃ x, u3.setRow u2.heap.size #[.slice adr nL capr] = x := ⟨_, rfl⟩; have j1 : Hid (RB u4 u2.heap.size (.slice adr nL capr)) := (by rw [← hu4]; exact setRow_heap _ _ _ _ _ _ k1.out); have j2 : Hid (Below u2.heap.size u2 u4) := (by rw [← hu4]; exact below_row k2.out (Nat.le_refl _) _); rw [hu4]; have hB4 : Below w1.heap.size w1 u4 := bel2 (bel2 hu hu2) j2.out; have hK4 := (hK.carry hu2).carry j2.out; have hrd4 := hrd.carry j2.out)
    | (go_at_call 7; refine (HM.out _ p g hK4 ((HW3.out.carry hb1).carry hB4) (RdN.ne (HW3.out.carry hb1) hg)).mono ?_; rintro e u5 ⟨⟨Nm, Em, rfl⟩, hK5, hg5⟩; have hglt := hK.glt; have j5 : Hid (RB u5 u2.heap.size (.slice adr nL capr)) := j1.out.turn hK4 hg5; have c5 := j5.out.cell; have hrd5 : RdN u5 adr L0 := hrd4.turn hg5 (fun _ a ha => (by have := (hty a ha).1; omega)); have hB5 : Below w.heap.size w u5 := (bel2 hb1 hB4).grown hg5 (bel2 hb1 hB4).size (fun k e => (by cases e; omega)); have hG5 : Hid (Holds4 u5 w.heap.size (wd N4)) := Holds4.turn (G1.out.carry hB4) hK4 hg5; have hT5 : Tab u5 := ((hT.carry hb1).carry hB4).turn hg5 (by omega); have hty5 : ∀ a, adr = some a → ∃ cur, u5.heap[a.block]? = some (.cells cur 70 (0, 0)) := (fun a ha => by obtain ⟨q1, cur, q2⟩ := hty a ha; exact ⟨cur, (hg5.block _ (Nat.lt_of_lt_of_le (lt_at q2) j2.out.size) (by simp; omega)).trans ((j2.out.block _ (lt_at q2)).trans q2)⟩))
    | (go_at_call 8; refine (HRM.out _ adr capr hrd5 hcap (HW3.out.carry hB5)).mono ?_; rintro e u6 ⟨ar, cr, Sm, Er, rfl, hrd6, hcr, hor, hb6⟩; have j6 : Hid (RB u6 u2.heap.size (.slice adr nL capr)) := j5.out.carry hb6)
    | (refine wpList_store_row rfl 32 (.tmp 13) (.tmp 46) rfl u2.heap.size #[.slice ar nL cr] rfl rfl 32 _ j6.out infoR1 rfl (by simp [Value.oneCell']) ?_; obtain ⟨W7, hW7⟩ : ∃ x, u6.setRow u2.heap.size #[.slice ar nL cr] = x := ⟨_, rfl⟩; rw [hW7]))
  have hRB7 : RB W7 u2.heap.size (.slice ar nL cr) := by rw [← hW7]; exact setRow_heap _ _ _ _ _ _ j6.out
  have hK7 : Bk W7 p g L := by rw [← hW7]; exact bk_row4 (hK5.carry hb6) j6.out _
  have hw2 : w.heap.size ≤ u2.heap.size := by have := hu.size; have := hu2.size; omega
  have hB7 : Below w.heap.size w W7 := by rw [← hW7]; exact below_row (bel2 hB5 hb6) hw2 _
  have hG7 : Holds4 W7 w.heap.size (wd N4) := by rw [← hW7]; exact hold_row (hG5.out.carry hb6) (by have := hu.size; have := hu2.size; omega) _
  have hT7 : Tab W7 := by
    obtain ⟨cT, tT, q1, q2⟩ := hT5.carry hb6
    rw [← hW7]
    exact ⟨cT, tT, (setRow_other (by have := hu.size; have := hu2.size; omega)).trans q1, q2⟩
  have hRL7 : RdN W7 ar L := by
    rw [← hW7]
    refine rd_row _ hrd6 (fun a ha => ?_)
    rcases hor with q | q
    · rw [q] at ha
      obtain ⟨cur, hc⟩ := hty5 a ha
      exact rb_ne j6.out ((hb6.block _ (lt_at hc)).trans hc)
    · obtain ⟨_, cur, hc⟩ := q a ha
      exact rb_ne j6.out hc
  have hdb : ∀ V, Below W7.heap.size W7 V → Calls Tryz.prog 9 #[.pointer (some ⟨p, 0, none⟩), sv N4] V fun e w' => ∃ a c, e = .returned (.slice a D.length c) ∧ w'.ownsRow V.heap.size 70 3 (.slice a D.length c) D.length (fl D) ∧ (a = none → c = 0) ∧ Below V.heap.size V w' := fun V hV => by
    refine (doubts_any (hK7.carry hV) N4 (hT7.carry hV)).mono ?_
    rintro e w' ⟨v, rfl, hm, hb⟩
    rw [hD] at hm
    obtain ⟨a, c, rfl, q1, q2⟩ := made_form hm
    exact ⟨a, c, rfl, q1, q2, hb⟩
  have hls : ∀ V, Below W7.heap.size W7 V → Calls Tryz.prog 13 #[.pointer (some ⟨p, 0, none⟩)] V fun e w' => ∃ a c, e = .returned (.slice a nL c) ∧ RdN w' a L ∧ Below V.heap.size V w' := fun V hV => by
    refine (blist_any (hK7.carry hV) (by omega) (by omega)).mono ?_
    rintro e w' ⟨v, rfl, hm, hb⟩
    rw [filter_all] at hm
    obtain ⟨a, c, rfl, q1, _⟩ := hm.rd
    exact ⟨a, c, by rw [hLn], q1, hb⟩
  obtain ⟨b13, hb13⟩ : ∃ b13, u2.heap.size = b13 := ⟨_, rfl⟩
  rw [hb13] at hRB7 ⊢
  clear HOK HRK HM HRM hnw hrn hV hV2 k1 k2 j1 j2 j5 j6 c5 hu3 hu4 hW7 hK hK4 hK5 hrd hrd4 hrd5 hrd6 hor hty hty5 G1 hG5 hT5 hg5 hb6
  refine wp_region_any hmx ?_
  refine wpAny_tabG (G := ((Option Addr × Nat) × (Option Addr × Nat))) (fun g i__ => ([(.pointer (some ⟨p, 0, none⟩)), (sv N4), (.slice g.1.1 D.length g.1.2), (.pointer (some ⟨p, 0, none⟩)), (sv N4), (.slice g.2.1 D.length g.2.2), (.slice g.1.1 D.length g.1.2), (.slice g.2.1 D.length g.2.2)] : List Value).getD i__ undef) (fun g d V => J8 W7 D g (d 2) (d 5) V) (by kernel_rfl) (((none, 0), (none, 0))) (show J8 W7 D ((none, 0), (none, 0)) false false _ from ⟨(Below.refl _ _).drew, fun e => (by cases e), fun e => (by cases e)⟩) ?step3 ?fin3
  case step3 =>
    intro i o ho
    have hi : i < 8 := getElem?_lt ho
    match i, hi, ho with
    | 0, _, ho =>
      cases ho
      refine stepG_ofC (fun g d hun hdep hcl => ?_)
      exact step_move rfl trivial _ rfl (by kernel_rfl)
    | 1, _, ho =>
      cases ho
      refine stepG_ofC (fun g d hun hdep hcl => ?_)
      exact step_load rfl trivial _ _ _ rfl rfl (fun v hw => whole4 v _ N4 (hG7.carry hw.bl))
    | 2, _, ho =>
      cases ho
      exact stepG_call rfl (fun _ => trivial) 9 _ _ (fun _ => [(.pointer (some ⟨p, 0, none⟩)), sv N4]) rfl (fun g => by kernel_rfl) (enters_of Tryz.func9 (by kernel_rfl) rfl) (fun g d V hJ hun hdep hcl => (hdb V hJ.bl).mono (by have h5 : d 5 = false := (by cases h : d 5 with | false => rfl | true => exact absurd (hcl 5 _ rfl h 2 (by kernel_rfl)) (by rw [hun]; simp)); have hJ' := hJ; rw [hun, h5] at hJ'; rintro e V' ⟨a, c, rfl, h1, h2, h3⟩; refine ⟨((a, c), g.2), rfl, (fun j hj => match j, hj with | 2, hj => (by rw [hj] at hun; cases hun) | 6, hj => absurd ((hcl 6 _ rfl hj 2 (by kernel_rfl))) (by rw [hun]; simp) | 0, _ => rfl | 1, _ => rfl | 3, _ => rfl | 4, _ => rfl | 5, _ => rfl | 7, _ => rfl | _ + 8, _ => rfl), ?_⟩; show J8 W7 D _ true (d 5) V'; rw [h5]; exact hJ'.one h1 h2 h3))
    | 3, _, ho =>
      cases ho
      refine stepG_ofC (fun g d hun hdep hcl => ?_)
      exact step_move rfl trivial _ rfl (by kernel_rfl)
    | 4, _, ho =>
      cases ho
      refine stepG_ofC (fun g d hun hdep hcl => ?_)
      exact step_load rfl trivial _ _ _ rfl rfl (fun v hw => whole4 v _ N4 (hG7.carry hw.bl))
    | 5, _, ho =>
      cases ho
      exact stepG_call rfl (fun _ => trivial) 9 _ _ (fun _ => [(.pointer (some ⟨p, 0, none⟩)), sv N4]) rfl (fun g => by kernel_rfl) (enters_of Tryz.func9 (by kernel_rfl) rfl) (fun g d V hJ hun hdep hcl => (hdb V hJ.bl).mono (by have h2' : d 2 = true := hdep 2 (by kernel_rfl); have hJ' := hJ; rw [hun, h2'] at hJ'; rintro e V' ⟨a, c, rfl, h1, h2, h3⟩; refine ⟨(g.1, (a, c)), rfl, (fun j hj => match j, hj with | 5, hj => (by rw [hj] at hun; cases hun) | 7, hj => absurd ((hcl 7 _ rfl hj 5 (by kernel_rfl))) (by rw [hun]; simp) | 0, _ => rfl | 1, _ => rfl | 2, _ => rfl | 3, _ => rfl | 4, _ => rfl | 6, _ => rfl | _ + 8, _ => rfl), ?_⟩; show J8 W7 D _ (d 2) true V'; rw [h2']; exact hJ'.two h1 h2 h3))
    | 6, _, ho =>
      cases ho
      refine stepG_ofC (fun g d hun hdep hcl => ?_)
      exact step_assign rfl trivial _ rfl (by kernel_rfl) (fun _ h => h)
    | 7, _, ho =>
      cases ho
      refine stepG_ofC (fun g d hun hdep hcl => ?_)
      exact step_assign rfl trivial _ rfl (by kernel_rfl) (fun _ h => h)
  intro g d W hall hW
  first | refine hK _ _ ?_ | refine (‹∀ (a : Act) (w : World), Code.wp Tryz.prog _ _ a w → _›) _ _ ?_ | skip
  simp only [finL, List.getD_cons_zero, List.getD_cons_succ, Nat.zero_add, Nat.reduceAdd, List.setIfInBounds_toArray, List.set_cons_zero, List.set_cons_succ]
  rw [hall 2 (by decide), hall 5 (by decide)] at hW
  obtain ⟨⟨aX, cX⟩, ⟨aY, cY⟩⟩ := g
  obtain ⟨hb8, hr81, hr82⟩ := hW
  obtain ⟨hX, hXc⟩ := hr81 rfl
  obtain ⟨hY, hYc, hXY⟩ := hr82 rfl
  dsimp only at hX hXc hY hYc hXY ⊢
  obtain ⟨W8, hW8⟩ : ∃ W8, W = W8 := ⟨_, rfl⟩
  subst hW8
  have hrd := fun V (hV : Below W.heap.size W V) => rDoubts_any ar nL cr L ((hRL7.carry hb8).carry hV) hLn hL100 N4
  rw [hD] at hrd
  have hRB8 := hRB7.carry hb8
  have hG8 := hG7.carry hb8
  have c13 := hRB8.cell
  simp only [sv] at hrd
  clear hall hr81 hr82 hdb
  go_wp2_with (first
    | (refine wpList_load_row rfl 25 (.tmp 9) rfl w.heap.size rfl 25 _ (0, 0) _ hG8 Tryz.underlying25 rfl infoS ?_)
    | (go_at_call 10; refine (hrd _ (Below.refl _ _)).mono ?_; rintro e W9 ⟨vw, rfl, hMw, hb9⟩; obtain ⟨aw, cw, rfl, hw9, hwc⟩ := made_form hMw; obtain ⟨W10, hW10⟩ : ∃ W10, W9.alloc (.cells (bkc (.slice none 0 0) (.slice none 0 0)) 55) = W10 := ⟨_, rfl⟩; have hW10' : W9.alloc (.cells #[.slice none 0 0, .slice none 0 0, .slice none 0 0, .slice none 0 0, .slice none 0 0, .slice none 0 0, .slice none 0 0, .slice none 0 0, .slice none 0 0, .slice none 0 0, .slice none 0 0, .slice none 0 0, .slice none 0 0, .slice none 0 0, .slice none 0 0, .slice none 0 0, .slice none 0 0, .slice none 0 0, .slice none 0 0, .slice none 0 0, .slice none 0 0, .slice none 0 0, .slice none 0 0, .slice none 0 0] 55) = W10 := hW10; have h810 : Hid (Below W.heap.size W W10) := (by rw [← hW10]; exact bel2 hb9 (al1' _ _)); have hb910 : Below W9.heap.size W9 W10 := (by rw [← hW10]; exact al1' _ _); have hKB0 : KB W10 W9.heap.size (.slice none 0 0) (.slice none 0 0) := (by rw [← hW10]; exact new_at rfl); have hz9 : W7.heap.size ≤ W9.heap.size := Nat.le_trans hb8.size hb9.size; have hN0 : NKx W7.heap.size W9.heap.size W10 ([] : List (List N3)).length [] [] := ⟨_, _, by simp, hKB0, World.ownsRow_nil _ _ _ _, World.ownsRow_nil _ _ _ _, fun q e => (by cases e), hz9⟩; have hL0 : Lx noS W7.heap.size W10 [] [] [] := ⟨fun i l h => (by simp at h), rfl, rfl, fun i j g z z' h => (by simp at h)⟩; have hX10 := row_below hX h810.out; have hY10 := row_below hY h810.out; have hw10 := row_below hw9 hb910; have hk1 := keep_one hN0 hL0 (Nat.le_trans hz9 hb910.size) (by simp) aX cX D (own_rdn hX10) hX10 hD100 hXc (fun i g z' h => (by simp at h)))
    | (go_at_call 11; (with_reducible refine hk1.mono ?_); rintro e W11 ⟨⟨v11, rfl⟩, ⟨z11, hN1, hL1⟩, hKp1, hat1⟩; have hY11 : W11.ownsRow W7.heap.size 70 3 (.slice aY D.length cY) D.length (fl D) := row_at hY10 (fun g cur _ hg => hat1 g cur hg); have hk2 := keep_one hN1 hL1 (Nat.le_trans (Nat.le_trans hz9 hb910.size) hKp1.size) (by simp) aY cY D (own_rdn hY11) hY11 hD100 hYc (fun i g z' h1 h2 h3 => (by cases i with | zero => (simp at h1; subst h1; exact hXY g h3 h2) | succ i => simp at h1)))
    | (go_at_call 11; (with_reducible refine hk2.mono ?_); rintro e W12 ⟨⟨v12, rfl⟩, ⟨z12, hN2, hL2⟩, hKp2, hat2⟩))
  have hz10 : W7.heap.size ≤ W10.heap.size := Nat.le_trans hz9 hb910.size
  have hB710 : Below W7.heap.size W7 W10 := bel2 hb8 h810.out
  have hB712 : Below W7.heap.size W7 W12 := hKp2.below (hKp1.below hB710 hz9 (Nat.le_refl _)) hz9 (Nat.le_refl _)
  have hX12 : W12.ownsRow W7.heap.size 70 3 (.slice aX D.length cX) D.length (fl D) := row_at (row_at hX10 (fun g cur _ hg => hat1 g cur hg)) (fun g cur _ hg => hat2 g cur hg)
  have hY12 : W12.ownsRow W7.heap.size 70 3 (.slice aY D.length cY) D.length (fl D) := row_at hY11 (fun g cur _ hg => hat2 g cur hg)
  have hw12 := row_at (row_at hw10 (fun g cur _ hg => hat1 g cur hg)) (fun g cur _ hg => hat2 g cur hg)
  have hRX := own_rdn hX12
  have hRY := own_rdn hY12
  have hRw := own_rdn hw12
  have hNK := nk_of hN2 hL2
  have hBas : W7.heap.size ≤ W12.heap.size := hB712.size
  have hls12 := fun V (hV : Below W12.heap.size W12 V) => hls V (bel2 hB712 hV)
  have hRB12 := hRB7.carry hB712
  have hRL12 := hRL7.carry hB712
  obtain ⟨bb, hbb⟩ : ∃ bb, W9.heap.size = bb := ⟨_, rfl⟩
  rw [hbb] at hNK ⊢
  have hapt : ∀ V, Below W12.heap.size W12 V → Calls Tryz.prog 14 #[.pointer (some ⟨bb, 0, none⟩)] V fun e w' => e = .returned (.bool true) ∧ Below W7.heap.size W7 w' := fun V hV => by
    have hNV : NK noS W7.heap.size bb V := by
      obtain ⟨h0, k, x, y, LL, h1, h2, h3⟩ := hNK
      exact ⟨fun _ q => q.elim, k, x, y, LL, h1.carry hV, h2, h3.carry (fun g cur _ hg => (hV.block g (lt_at hg)).trans hg)⟩
    refine (hNV.apart (Nat.le_trans hBas hV.size)).mono ?_
    rintro e w' ⟨rfl, hb⟩
    exact ⟨rfl, (bel2 hB712 hV).trans hb⟩
  have hsm := fun V (hV : Below W12.heap.size W12 V) => same_any aX aw cX cw D V (hRX.carry hV) (hRw.carry hV) (by omega)
  have hsm2 := fun V (hV : Below W12.heap.size W12 V) => same_any aY aw cY cw D V (hRY.carry hV) (hRw.carry hV) (by omega)
  have hsm3 : ∀ V a c, Below W12.heap.size W12 V → RdN V a L → Calls Tryz.prog 12 #[.slice a nL c, .slice ar nL cr] V fun e w' => e = .returned (.bool true) ∧ Below V.heap.size V w' := fun V a c hV hr => by
    rw [← hLn]
    exact same_any a ar c cr L V hr (hRL12.carry hV) (by omega)
  clear hk1 hk2 hN0 hL0 hN1 hL1 hN2 hL2 hX hY hw9 hX10 hY10 hw10 hY11 hX12 hY12 hw12 hKp1 hKp2 hat1 hat2 hMw hKB0 hls hXY hrd
  refine wp_region_any hmx ?_
  refine wpAny_tabG (G := (Option Addr × Nat)) (fun g i__ => ([(.bool true), (.bool true), (.slice aX D.length cX), (.slice aw D.length cw), (.bool true), (.bool true), (.bool true), (.slice aY D.length cY), (.slice aw D.length cw), (.bool true), (.bool true), (.bool true), (.pointer (some ⟨p, 0, none⟩)), (.slice g.1 nL g.2), (.pointer (some ⟨b13, 0, none⟩)), (.slice ar nL cr), (.bool true), (.bool true), (.bool true), (.pointer (some ⟨bb, 0, none⟩)), (.bool true), (.bool true), (.bool true)] : List Value).getD i__ undef) (fun g d V => J9 W7 W12 L g (d 13) (d 20) V) (by kernel_rfl) ((none, 0)) (show J9 W7 W12 L (none, 0) false false _ from ⟨(Below.refl _ _).drew, fun e => (by cases e)⟩) ?step4 ?fin4
  case step4 =>
    intro i o ho
    have hi : i < 23 := getElem?_lt ho
    match i, hi, ho with
    | 0, _, ho =>
      cases ho
      refine stepG_ofC (fun g d hun hdep hcl => ?_)
      exact step_call rfl trivial 4 _ _ [] rfl (by kernel_rfl) (enters_of Tryz.func4 (by kernel_rfl) rfl) (fun v hw => by have h20 : d 20 = false := (by cases h : d 20 with | false => rfl | true => exact absurd (hcl 1 _ rfl (hcl 5 _ rfl (hcl 6 _ rfl (hcl 10 _ rfl (hcl 11 _ rfl (hcl 17 _ rfl (hcl 18 _ rfl (hcl 20 _ rfl h 18 (by kernel_rfl)) 17 (by kernel_rfl)) 11 (by kernel_rfl)) 10 (by kernel_rfl)) 6 (by kernel_rfl)) 5 (by kernel_rfl)) 1 (by kernel_rfl)) 0 (by kernel_rfl)) (by rw [hun]; simp)); have hw' := hw; rw [h20] at hw'; exact (alive_any v).mono (by rintro e w2 ⟨rfl, hb⟩; exact ⟨rfl, (show J9 W7 W12 L g (d 13) (d 20) w2 from by rw [h20]; exact ⟨bel2 hw'.1 hb, fun e => (hw'.2 e).carry hb⟩)⟩))
    | 1, _, ho =>
      cases ho
      refine stepG_ofC (fun g d hun hdep hcl => ?_)
      exact step_move rfl trivial _ rfl (by kernel_rfl)
    | 2, _, ho =>
      cases ho
      refine stepG_ofC (fun g d hun hdep hcl => ?_)
      exact step_move rfl (by exact ⟨_, rfl, by kernel_rfl⟩) _ rfl (by kernel_rfl)
    | 3, _, ho =>
      cases ho
      refine stepG_ofC (fun g d hun hdep hcl => ?_)
      exact step_move rfl (by exact ⟨_, rfl, by kernel_rfl⟩) _ rfl (by kernel_rfl)
    | 4, _, ho =>
      cases ho
      refine stepG_ofC (fun g d hun hdep hcl => ?_)
      exact step_call rfl (by exact ⟨_, rfl, by kernel_rfl⟩) 12 _ _ [(.slice aX D.length cX), (.slice aw D.length cw)] rfl (by kernel_rfl) (enters_of Tryz.func12 (by kernel_rfl) rfl) (fun v hw => by have h20 : d 20 = false := (by cases h : d 20 with | false => rfl | true => exact absurd (hcl 6 _ rfl (hcl 10 _ rfl (hcl 11 _ rfl (hcl 17 _ rfl (hcl 18 _ rfl (hcl 20 _ rfl h 18 (by kernel_rfl)) 17 (by kernel_rfl)) 11 (by kernel_rfl)) 10 (by kernel_rfl)) 6 (by kernel_rfl)) 4 (by kernel_rfl)) (by rw [hun]; simp)); have hw' := hw; rw [h20] at hw'; exact (hsm v hw'.1).mono (by rintro e w2 ⟨rfl, hb⟩; exact ⟨rfl, (show J9 W7 W12 L g (d 13) (d 20) w2 from by rw [h20]; exact ⟨bel2 hw'.1 hb, fun e => (hw'.2 e).carry hb⟩)⟩))
    | 5, _, ho =>
      cases ho
      refine stepG_ofC (fun g d hun hdep hcl => ?_)
      exact step_pick rfl trivial _ _ _ true rfl (by kernel_rfl) (by kernel_rfl)
    | 6, _, ho =>
      cases ho
      refine stepG_ofC (fun g d hun hdep hcl => ?_)
      exact step_move rfl trivial _ rfl (by kernel_rfl)
    | 7, _, ho =>
      cases ho
      refine stepG_ofC (fun g d hun hdep hcl => ?_)
      exact step_move rfl (by exact ⟨_, rfl, by kernel_rfl⟩) _ rfl (by kernel_rfl)
    | 8, _, ho =>
      cases ho
      refine stepG_ofC (fun g d hun hdep hcl => ?_)
      exact step_move rfl (by exact ⟨_, rfl, by kernel_rfl⟩) _ rfl (by kernel_rfl)
    | 9, _, ho =>
      cases ho
      refine stepG_ofC (fun g d hun hdep hcl => ?_)
      exact step_call rfl (by exact ⟨_, rfl, by kernel_rfl⟩) 12 _ _ [(.slice aY D.length cY), (.slice aw D.length cw)] rfl (by kernel_rfl) (enters_of Tryz.func12 (by kernel_rfl) rfl) (fun v hw => by have h20 : d 20 = false := (by cases h : d 20 with | false => rfl | true => exact absurd (hcl 11 _ rfl (hcl 17 _ rfl (hcl 18 _ rfl (hcl 20 _ rfl h 18 (by kernel_rfl)) 17 (by kernel_rfl)) 11 (by kernel_rfl)) 9 (by kernel_rfl)) (by rw [hun]; simp)); have hw' := hw; rw [h20] at hw'; exact (hsm2 v hw'.1).mono (by rintro e w2 ⟨rfl, hb⟩; exact ⟨rfl, (show J9 W7 W12 L g (d 13) (d 20) w2 from by rw [h20]; exact ⟨bel2 hw'.1 hb, fun e => (hw'.2 e).carry hb⟩)⟩))
    | 10, _, ho =>
      cases ho
      refine stepG_ofC (fun g d hun hdep hcl => ?_)
      exact step_pick rfl trivial _ _ _ true rfl (by kernel_rfl) (by kernel_rfl)
    | 11, _, ho =>
      cases ho
      refine stepG_ofC (fun g d hun hdep hcl => ?_)
      exact step_move rfl trivial _ rfl (by kernel_rfl)
    | 12, _, ho =>
      cases ho
      refine stepG_ofC (fun g d hun hdep hcl => ?_)
      exact step_move rfl (by exact ⟨_, rfl, by kernel_rfl⟩) _ rfl (by kernel_rfl)
    | 13, _, ho =>
      cases ho
      exact stepG_call rfl (fun _ => ⟨_, rfl, by kernel_rfl⟩) 13 _ _ (fun _ => [(.pointer (some ⟨p, 0, none⟩))]) rfl (fun g => by kernel_rfl) (enters_of Tryz.func13 (by kernel_rfl) rfl) (fun g d V hJ hun hdep hcl => by have h20 : d 20 = false := (by cases h : d 20 with | false => rfl | true => exact absurd (hcl 16 _ rfl (hcl 18 _ rfl (hcl 20 _ rfl h 18 (by kernel_rfl)) 16 (by kernel_rfl)) 13 (by kernel_rfl)) (by rw [hun]; simp)); have hJ' := hJ; rw [h20] at hJ'; exact (hls12 V hJ'.1).mono (by rintro e V' ⟨a, c, rfl, h1, h2⟩; refine ⟨(a, c), rfl, (fun j hj => match j, hj with | 13, hj => (by rw [hj] at hun; cases hun)  | 0, _ => rfl | 1, _ => rfl | 2, _ => rfl | 3, _ => rfl | 4, _ => rfl | 5, _ => rfl | 6, _ => rfl | 7, _ => rfl | 8, _ => rfl | 9, _ => rfl | 10, _ => rfl | 11, _ => rfl | 12, _ => rfl | 14, _ => rfl | 15, _ => rfl | 16, _ => rfl | 17, _ => rfl | 18, _ => rfl | 19, _ => rfl | 20, _ => rfl | 21, _ => rfl | 22, _ => rfl | _ + 23, _ => rfl), ?_⟩; show J9 W7 W12 L _ true (d 20) V'; rw [h20]; exact ⟨bel2 hJ'.1 h2, fun _ => h1⟩))
    | 14, _, ho =>
      cases ho
      refine stepG_ofC (fun g d hun hdep hcl => ?_)
      exact step_fieldAddr rfl (by exact ⟨_, rfl, by kernel_rfl⟩) _ _ _ _ rfl rfl (fun v hw => field_rb v _)
    | 15, _, ho =>
      cases ho
      refine stepG_ofC (fun g d hun hdep hcl => ?_)
      exact step_load rfl (by exact ⟨_, rfl, by kernel_rfl⟩) _ _ _ rfl rfl (fun v hw => by have h20 : d 20 = false := (by cases h : d 20 with | false => rfl | true => exact absurd (hcl 16 _ rfl (hcl 18 _ rfl (hcl 20 _ rfl h 18 (by kernel_rfl)) 16 (by kernel_rfl)) 15 (by kernel_rfl)) (by rw [hun]; simp)); have hw' := hw; rw [h20] at hw'; exact load_rb (hRB12.carry hw'.1))
    | 16, _, ho =>
      cases ho
      refine stepG_ofC (fun g d hun hdep hcl => ?_)
      exact step_call rfl (by exact ⟨_, rfl, by kernel_rfl⟩) 12 _ _ [(.slice g.1 nL g.2), (.slice ar nL cr)] rfl (by kernel_rfl) (enters_of Tryz.func12 (by kernel_rfl) rfl) (fun v hw => by have h20 : d 20 = false := (by cases h : d 20 with | false => rfl | true => exact absurd (hcl 18 _ rfl (hcl 20 _ rfl h 18 (by kernel_rfl)) 16 (by kernel_rfl)) (by rw [hun]; simp)); have hw' := hw; rw [h20] at hw'; exact (hsm3 v g.1 g.2 hw'.1 (hw'.2 (hdep 13 (by kernel_rfl)))).mono (by rintro e w2 ⟨rfl, hb⟩; exact ⟨rfl, (show J9 W7 W12 L g (d 13) (d 20) w2 from by rw [h20]; exact ⟨bel2 hw'.1 hb, fun e => (hw'.2 e).carry hb⟩)⟩))
    | 17, _, ho =>
      cases ho
      refine stepG_ofC (fun g d hun hdep hcl => ?_)
      exact step_pick rfl trivial _ _ _ true rfl (by kernel_rfl) (by kernel_rfl)
    | 18, _, ho =>
      cases ho
      refine stepG_ofC (fun g d hun hdep hcl => ?_)
      exact step_move rfl trivial _ rfl (by kernel_rfl)
    | 19, _, ho =>
      cases ho
      refine stepG_ofC (fun g d hun hdep hcl => ?_)
      exact step_move rfl (by exact ⟨_, rfl, by kernel_rfl⟩) _ rfl (by kernel_rfl)
    | 20, _, ho =>
      cases ho
      refine stepG_ofC (fun g d hun hdep hcl => ?_)
      exact step_call rfl (by exact ⟨_, rfl, by kernel_rfl⟩) 14 _ _ [(.pointer (some ⟨bb, 0, none⟩))] rfl (by kernel_rfl) (enters_of Tryz.func14 (by kernel_rfl) rfl) (fun v hw => by have hw' := hw; rw [hun] at hw'; exact (hapt v hw'.1).mono (by rintro e w2 ⟨rfl, hb⟩; exact ⟨rfl, hb⟩))
    | 21, _, ho =>
      cases ho
      refine stepG_ofC (fun g d hun hdep hcl => ?_)
      exact step_pick rfl trivial _ _ _ true rfl (by kernel_rfl) (by kernel_rfl)
    | 22, _, ho =>
      cases ho
      refine stepG_ofC (fun g d hun hdep hcl => ?_)
      exact step_assign rfl trivial _ rfl (by kernel_rfl) (fun _ h => h)
  intro g d W hall hW
  first | refine hK _ _ ?_ | refine (‹∀ (a : Act) (w : World), Code.wp Tryz.prog _ _ a w → _›) _ _ ?_ | skip
  simp only [finL, List.getD_cons_zero, List.getD_cons_succ, Nat.zero_add, Nat.reduceAdd, List.setIfInBounds_toArray, List.set_cons_zero, List.set_cons_succ]
  rw [hall 20 (by decide)] at hW
  have hWf : Below W7.heap.size W7 W := hW
  go_wp2
  go_ret
  exact ⟨rfl, bel2 hB7 hWf⟩

set_option maxRecDepth 100000 in
theorem lifted (os : Os) (started : os.Started) (H : Type) (enc : TypeId × Value → H) :
    ReturnsInHanded {} Tryz.checked os 3 .any (fun w args => (Rows.inferDoubtsSpec.pre enc Tryz.prog Tryz.f3 [] false w args ∧ laidMetH Tryz.prog Rows.inferDoubtsRow.laid w) ∧ sizedMet enc Tryz.prog Tryz.f3 (OpenSpec.ofChange Rows.inferDoubtsSpec) false w args)
      (Rows.inferDoubtsSpec.post enc Tryz.prog Tryz.f3 false true false false) := by
  refine returnsInHanded_of_change_and (C := Tryz.checked) (X := fun w _ => laidMetH Tryz.prog Rows.inferDoubtsRow.laid w) (fun _ _ _ hh h => h.of_heap hh) own started (by kernel_rfl) Tryz.func3
    (ChangeSpec.witness_shaped (enc := enc) (C := Tryz.checked) (os := os) (X := fun w _ => laidMetH Tryz.prog Rows.inferDoubtsRow.laid w) false (World.laidAll Tryz.prog os Rows.inferDoubtsRow.laid) #[.int .i64 0, .int .i64 0, .int .i64 0, .slice none 0 0, .agg #[.int .u32 0, .int .u32 0, .int .u32 0, .int .u32 0]] 8 (World.laidAll_os _ _ _)
      (World.shaped_of_ZipB (by kernel_rfl) (by kernel_rfl)) (by kernel_rfl) (by kernel_rfl) (by kernel_rfl)
      (by rw [MakeChecks.laidMetH_plain _ _ _ (by kernel_rfl)]; exact laidMet_laidAll _ (by kernel_rfl) (by kernel_rfl))) ?_
  intro W base args ds gs before hval0 hW _ hsz hL _
  have hval : ∀ (j : Nat) t v, Tryz.f3.params[j]? = some t → args[j]? = some v → Value.okWide Tryz.prog W .any base t v := hval0
  have hW' := hW
  obtain ⟨p, q, hA0, hV, rfl, hfz, hnd⟩ := hW
  have hA : DataW.TrodAll enc Tryz.prog W 0 (fun _ => true) true Tryz.f3.params.toList args.toList ds p := hA0
  rw [Tryz.params3] at hA hval
  obtain ⟨v0, vs0, d0, ds0, p0, q0, hargs, rfl, rfl, h0, r0⟩ := trodAll_cons hA
  obtain ⟨v1, vs1, d1, ds1, p1, q1, rfl, rfl, rfl, h1, r1⟩ := trodAll_cons r0
  obtain ⟨v2, vs2, d2, ds2, p2, q2, rfl, rfl, rfl, h2, r2⟩ := trodAll_cons r1
  obtain ⟨v3, vs3, d3, ds3, p3, q3, rfl, rfl, rfl, h3, r3⟩ := trodAll_cons r2
  obtain ⟨v4, vs4, d4, ds4, p4, q4, rfl, rfl, rfl, h4, r4⟩ := trodAll_cons r3
  obtain ⟨rfl, rfl, rfl⟩ := trodAll_nil r4
  obtain rfl : args = #[v0, v1, v2, v3, v4] := by cases args; simp_all
  obtain ⟨rfl, rfl⟩ := trodVars_none hV
  obtain ⟨a0, rfl, rfl, rfl, w0⟩ := open_int Tryz.underlying3 (hval 0 3 v0 rfl rfl) h0
  obtain ⟨a1, rfl, rfl, rfl, w1⟩ := open_int Tryz.underlying3 (hval 1 3 v1 rfl rfl) h1
  obtain ⟨a2, rfl, rfl, rfl, w2⟩ := open_int Tryz.underlying3 (hval 2 3 v2 rfl rfl) h2
  have k3 := h3
  have lt3 : ∀ x ∈ p3, x.block < W.heap.size := by obtain ⟨m, hm⟩ := k3; exact DataW.trod_lt m _ _ _ hm
  obtain ⟨ad3, cap3, l3, rfl, w3, hc3, hq3, hd3⟩ := open_nts (hval 3 22 v3 rfl rfl) h3
  obtain ⟨N4, hN4, rfl, rfl, rfl⟩ := open_set (hval 4 25 v4 rfl rfl) h4
  clear hA0 hval0
  refine (walk W a0 w0 a1 w1 a2 w2 ad3 cap3 l3 w3 hc3 hq3 N4 hN4 hL).mono fun e W' ⟨he, hg⟩ => ?_
  subst he
  exact ⟨_, rfl, _, _, _, [], _, [], hW', (trodAll_cons_mk (shut_bool Tryz.underlying4 _) trodAll_mk0), (trodAll_cons_mk (shut_int Tryz.underlying3 w0) (trodAll_cons_mk (shut_int Tryz.underlying3 w1) (trodAll_cons_mk (shut_int Tryz.underlying3 w2) (trodAll_cons_mk (Below.trod laidOut (by kernel_rfl) (of_decide_eq_true (by kernel_rfl)) k3 hg lt3) (trodAll_cons_mk (shut_set N4) trodAll_mk0))))), rfl, hg.frame _, fun h => by cases h⟩

theorem over : Rows.inferDoubtsRow.holds Tryz.pinned (OpenSpec.ofChange Rows.inferDoubtsSpec) :=
  OpenClaim.holds_of_wide 3 Tryz.f3 rfl rfl rfl rfl rfl rfl rfl ⟨rfl, rfl, rfl, rfl, rfl⟩ rfl rfl rfl rfl rfl (by kernel_rfl) Tryz.func3 (by kernel_rfl)
    (of_decide_eq_true (by kernel_rfl)) (by unfold Func.isWrapper; first | (rw [if_pos (by decide +kernel)]; kernel_rfl) | (rw [if_neg (by decide +kernel)]; exact ⟨rfl, rfl⟩))
    (fun os started H enc _ => lifted os started H enc)

theorem row_proved : Rows.InferDoubtsSaid :=
  over
theorem proved : Rows.InferDoubtsCardSaid :=
  Claim7.holds_tied_plain_at .later [] [.data] true (true, "7567e37f41f70abf68b53f5247ac8d7c927cc4ff223c14d2a977113c5eda7d4b") false
    row_proved (fun _ h => by cases h) (by kernel_rfl) (fun _ h => by cases h) inferDoubts_row_tie rfl ⟨rfl, rfl⟩ (by kernel_rfl) rfl
    (fun f fn hf hfn => by
      obtain rfl : f = 3 := Option.some.inj ((show Tryz.prog.funcNamed "earshot/earshotlaw14.InferDoubts" = some 3 by kernel_rfl).symm.trans hf) |>.symm
      obtain rfl : fn = Tryz.f3 := (Option.some.inj (Tryz.func3.symm.trans hfn)).symm
      exact ⟨by kernel_rfl, fun j t ht => by
        rw [Tryz.params3] at ht
        rcases j with _ | j
        · have e : t = 3 := by simpa using ht.symm
          subst e
          exact (show Tryz.prog.wantsStandIn 3 = false by kernel_rfl)
        rcases j with _ | j
        · have e : t = 3 := by simpa using ht.symm
          subst e
          exact (show Tryz.prog.wantsStandIn 3 = false by kernel_rfl)
        rcases j with _ | j
        · have e : t = 3 := by simpa using ht.symm
          subst e
          exact (show Tryz.prog.wantsStandIn 3 = false by kernel_rfl)
        rcases j with _ | j
        · have e : t = 22 := by simpa using ht.symm
          subst e
          exact (show Tryz.prog.wantsStandIn 22 = false by kernel_rfl)
        rcases j with _ | j
        · have e : t = 25 := by simpa using ht.symm
          subst e
          exact (show Tryz.prog.wantsStandIn 25 = false by kernel_rfl)
        simp at ht⟩)
    (by kernel_rfl)
#print axioms proved
end Go.Proofs.YtgehmidalfajgabGreatDoor
