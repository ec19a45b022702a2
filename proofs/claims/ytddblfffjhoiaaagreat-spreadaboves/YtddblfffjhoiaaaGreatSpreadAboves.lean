/- SpreadAboves (promise P1602): of any two books Above answers what the document's answers, twice, in new memory; both books stay. For every input; nothing is asked of it. -/
import Derived.Test.YtddblfffjhoiaaaGreatRows
import Derived.WalkKit
import Derived.ProofKit
import Derived.OpenShut
import Derived.Test.YtddblfffjhoiaaaGreatJnJ9
namespace Go.Proofs.YtddblfffjhoiaaaGreat
open Go.ChangeShapes Go.WideShapes Go.ChangeAt Go.RowKit
set_option linter.unusedVariables false

theorem laidOut : laidOutB Tryz.prog = true := by kernel_rfl
theorem own : ownKnob Tryz.prog.godebug = none := by kernel_rfl
open Go.Shelf
set_option maxHeartbeats 32000000 in
set_option maxRecDepth 100000 in
theorem walk (w : World) (a0 : Int) (w0 : (Lit.int .i64 a0).wf = true) (a1 : Int) (w1 : (Lit.int .i64 a1).wf = true) (a2 : Int) (w2 : (Lit.int .i64 a2).wf = true) (ad3 : Option Addr) (cap3 : Nat) (l3 : List (Int × Int × Int)) (w3 : RdN w ad3 l3) (hc3 : ad3 = none → cap3 = 0) (hq3 : l3.length ≤ cap3) (ad4 : Option Addr) (cap4 : Nat) (l4 : List (Int × Int × Int)) (w4 : RdN w ad4 l4) (hc4 : ad4 = none → cap4 = 0) (hq4 : l4.length ≤ cap4) :
    Calls Tryz.prog 4 #[.int .i64 a0, .int .i64 a1, .int .i64 a2, .slice ad3 l3.length cap3, .slice ad4 l4.length cap4] w fun e w' => e = .returned (.bool true) ∧ Below w.heap.size w w' := by
  have hmx : Tryz.prog.follows .mixedOrders = true := by kernel_rfl
  have hal := alive_any
  have hbw : Below w.heap.size w w := Below.refl _ _
  have HW3 : Hid (RdN w ad3 l3) := w3
  have HW4 : Hid (RdN w ad4 l4) := w4
  clear w3 w4
  by_cases hok : l3.length ≤ 300 ∧ l4.length ≤ 300
  case neg =>
    go_enter Tryz.func4, Tryz.ntmps4
    go_wp2_with (go_at_call 5; (with_reducible refine (hal _).mono ?_); rintro e u ⟨rfl, hb⟩)
    all_goals first | (go_ret; exact ⟨rfl, hb⟩) | (exfalso; first | omega | (simp at *; omega))
  obtain ⟨h5, h6⟩ := hok
  have h5i : ¬ (300 : Int) < (l3.length : Int) := by omega
  have h6i : ¬ (300 : Int) < (l4.length : Int) := by omega
  have st1 := make2_any (w := w) a0 a2 ad3 cap3 l3 HW3.out (by omega)
  have HM2 : Hid (∀ V, Below w.heap.size w V → Calls Tryz.prog 6 #[.int .i64 a1, .int .i64 a2, .slice ad4 l4.length cap4] V fun e w' => ∃ v ad' n' cap', e = .returned (.tuple #[v, .agg #[.slice ad' n' cap']]) ∧ M2 V w' v ad' n' cap' (mk2 a1 a2 l4) ∧ Below V.heap.size V w') := fun V hV => make2_any a1 a2 ad4 cap4 l4 (HW4.out.carry hV) (by omega)
  have hLA : (mk2 a0 a2 l3).length ≤ 100 ∧ Bok (mk2 a0 a2 l3) := mk2_ok a0 a2 l3
  generalize mk2 a0 a2 l3 = LA at st1 hLA
  generalize mk2 a1 a2 l4 = LB at HM2
  have hD100 : (abv LA LB).length ≤ 100 := abv_le hLA.1
  have HAB : Hid (∀ (V : World) (v1 v2 : Value), BV V v1 LA → BV V v2 LB → Calls Tryz.prog 17 #[v1, v2] V fun e w' => ∃ a c, e = .returned (.tuple #[.slice a (abv LA LB).length c, .int .i64 (if LA.length = LB.length then 0 else 1)]) ∧ w'.ownsRow V.heap.size 66 3 (.slice a (abv LA LB).length c) (abv LA LB).length (fl (abv LA LB)) ∧ (a = none → c = 0) ∧ Below V.heap.size V w') := fun V v1 v2 h1 h2 => (above_any h1 h2).mono (by
    rintro e w' ⟨v, rfl, hm, hb⟩
    obtain ⟨a, c, rfl, hr, hc⟩ := made_form hm
    exact ⟨a, c, rfl, hr, hc, hb⟩)
  have HRA : Hid (∀ (V : World) (ad1 ad2 : Option Addr) (n1 n2 c1 c2 : Nat), RdN V ad1 LA → RdN V ad2 LB → LA.length = n1 → LB.length = n2 → n1 ≤ 100 → Calls Tryz.prog 18 #[.agg #[.slice ad1 n1 c1], .agg #[.slice ad2 n2 c2]] V fun e w' => ∃ a c, e = .returned (.tuple #[.slice a (abv LA LB).length c, .int .i64 (if LA.length = LB.length then 0 else 1)]) ∧ w'.ownsRow V.heap.size 66 3 (.slice a (abv LA LB).length c) (abv LA LB).length (fl (abv LA LB)) ∧ Below V.heap.size V w') := fun V ad1 ad2 n1 n2 c1 c2 h1 h2 e1 e2 hl => (rAbove_any ad1 ad2 n1 n2 c1 c2 LA LB h1 h2 e1 e2 hl hLA.2).mono (by
    rintro e w' ⟨v, rfl, hm, hb⟩
    obtain ⟨a, c, rfl, hr, _⟩ := made_form hm
    exact ⟨a, c, rfl, hr, hb⟩)
  generalize (if LA.length = LB.length then (0 : Int) else 1) = E at HAB HRA
  generalize abv LA LB = D at HAB HRA hD100
  clear hLA h5 h6
  go_enter Tryz.func4, Tryz.ntmps4
  go_wp2_with (first
    | (have m := hk2; go_at_call 11; (with_reducible refine hk2.mono ?_); rintro e W12 ⟨⟨v12, rfl⟩, ⟨z12, hN2, hL2⟩, hKp2, hat2⟩; clear m)
    | (have m := hk1; go_at_call 11; (with_reducible refine hk1.mono ?_); rintro e W11 ⟨⟨v11, rfl⟩, ⟨z11, hN1, hL1⟩, hKp1, hat1⟩; have hY11 : W11.ownsRow y2.heap.size 66 3 (.slice aY D.length cY) D.length (fl D) := row_at hY10 (fun g cur _ hg => hat1 g cur hg); have hk2 := keep_one hN1 hL1 (Nat.le_trans (Nat.le_trans hz9 hb910.size) hKp1.size) (by simp) aY cY D (own_rdn hY11) hY11 hD100 hYc (fun i g z' h1 h2 h3 => (by cases i with | zero => (simp at h1; subst h1; exact hXY g h3 h2) | succ i => simp at h1)); clear m hk1)
    | (have m := st5; go_at_call 17; (with_reducible refine st5.mono ?_); rintro e W9 ⟨aY, cY, rfl, hY, hYc, hb9⟩; have hb29 := bel2 hb24 hb9; have hX9 := row_below hX (bel2 hb4 hb9); have hY9 : W9.ownsRow y2.heap.size 66 3 (.slice aY D.length cY) D.length (fl D) := row_from hY hb24.size; have hw9 := row_below hw4 hb9; have hXY : ∀ q, (Value.slice aX D.length cX).ownBlock = some q → (Value.slice aY D.length cY).ownBlock ≠ some q := fun q h1 h2 => (by have k1 := (row_lt2 hX q h1).2; have k2 := (row_lt2 hY q h2).1; have := hb4.size; omega); obtain ⟨W10, hW10⟩ : ∃ W10, W9.alloc (.cells (bkc (.slice none 0 0) (.slice none 0 0)) 43) = W10 := ⟨_, rfl⟩; have hW10' : W9.alloc (.cells #[.slice none 0 0, .slice none 0 0, .slice none 0 0, .slice none 0 0, .slice none 0 0, .slice none 0 0, .slice none 0 0, .slice none 0 0, .slice none 0 0, .slice none 0 0, .slice none 0 0, .slice none 0 0, .slice none 0 0, .slice none 0 0, .slice none 0 0, .slice none 0 0, .slice none 0 0, .slice none 0 0, .slice none 0 0, .slice none 0 0, .slice none 0 0, .slice none 0 0, .slice none 0 0, .slice none 0 0] 43) = W10 := hW10; have hb910 : Below W9.heap.size W9 W10 := (by rw [← hW10]; exact al1 _ _); have hKB0 : KB W10 W9.heap.size (.slice none 0 0) (.slice none 0 0) := (by rw [← hW10]; exact new_at rfl); have hz9 : y2.heap.size ≤ W9.heap.size := hb29.size; have hN0 : NKx y2.heap.size W9.heap.size W10 ([] : List (List N3)).length [] [] := ⟨_, _, by simp, hKB0, World.ownsRow_nil _ _ _ _, World.ownsRow_nil _ _ _ _, fun q e => (by cases e), hz9⟩; have hL0 : Lx noS y2.heap.size W10 [] [] [] := ⟨fun i l h => (by simp at h), rfl, rfl, fun i j g z z' h => (by simp at h)⟩; have hX10 := row_below hX9 hb910; have hY10 := row_below hY9 hb910; have hw10 := row_below hw9 hb910; have hk1 := keep_one hN0 hL0 (Nat.le_trans hz9 hb910.size) (by simp) aX cX D (own_rdn hX10) hX10 hD100 hXc (fun i g z' h => (by simp at h)); clear m st5)
    | (have m := st4; go_at_call 18; (with_reducible refine st4.mono ?_); rintro e W4 ⟨aw, cw, rfl, hw4, hb4⟩; have hb24 := bel2 hb3 hb4; have st5 := HAB.out W4 v1 v2 (bv1.carry hb24) (bv2.carry hb24); clear m st4)
    | (have m := st3; go_at_call 17; (with_reducible refine st3.mono ?_); rintro e W3 ⟨aX, cX, rfl, hX, hXc, hb3⟩; have q1' := (rb1b.carry hb3).cell; have q2' := (rb2.carry hb3).cell; have st4 := HRA.out W3 ar1 ar2 n1 n2 cr1 cr2 (mm1b.rd.carry hb3) (mm2.rd.carry hb3) mm1b.len mm2.len mm1b.le; clear m st3)
    | (have m := kk2; refine wpList_store_row rfl 27 (.tmp 14) (.tmp 44) rfl u2.heap.size #[.slice ar2 n2 cr2] rfl rfl 27 _ kk2.out infoR1 rfl (by simp [Value.oneCell']) ?_; obtain ⟨y2, hy2⟩ : ∃ x, x2.setRow u2.heap.size #[.slice ar2 n2 cr2] = x := ⟨_, rfl⟩; have rb2 : RB y2 u2.heap.size (.slice ar2 n2 cr2) := (by rw [← hy2]; exact setRow_heap _ _ _ _ _ _ kk2.out); have yb2 : Below u2.heap.size u2 y2 := (by rw [← hy2]; exact below_sr kb2.out (Nat.le_refl _)); have mm2 := hM2.carry yb2; have Y2 := bel2 (bel2 Y1 hu2) yb2; rw [hy2]; clear m kk2 kb2; have hbb2 : Below y1.heap.size y1 y2 := bel2 hu2 yb2; have mm1b := mm1.carry hbb2; have rb1b := rb1.carry hbb2; have q1 := rb1b.cell; have q2 := rb2.cell; have bv1 := mm1b.val; have bv2 := mm2.val; have st3 := HAB.out y2 v1 v2 bv1 bv2)
    | (have m := st2; go_at_call 6; (with_reducible refine st2.mono ?_); rintro e u2 ⟨v2, ar2, n2, cr2, rfl, hM2, hu2⟩; obtain ⟨x2, hx2⟩ : ∃ x, u2.alloc (.cells #[.slice none 0 0] 27) = x := ⟨_, rfl⟩; have kk2 : Hid (x2.heap[u2.heap.size]? = some (.cells #[.slice none 0 0] 27 (0, 0))) := (by rw [← hx2]; exact new_at rfl); have kb2 : Hid (Below u2.heap.size u2 x2) := (by rw [← hx2]; exact al1 _ _); clear m st2)
    | (have m := kk1; refine wpList_store_row rfl 27 (.tmp 12) (.tmp 37) rfl u1.heap.size #[.slice ar1 n1 cr1] rfl rfl 27 _ kk1.out infoR1 rfl (by simp [Value.oneCell']) ?_; obtain ⟨y1, hy1⟩ : ∃ x, x1.setRow u1.heap.size #[.slice ar1 n1 cr1] = x := ⟨_, rfl⟩; have rb1 : RB y1 u1.heap.size (.slice ar1 n1 cr1) := (by rw [← hy1]; exact setRow_heap _ _ _ _ _ _ kk1.out); have yb1 : Below u1.heap.size u1 y1 := (by rw [← hy1]; exact below_sr kb1.out (Nat.le_refl _)); have mm1 := hM1.carry yb1; have Y1 := bel2 (bel2 hbw hu1) yb1; rw [hy1]; clear m kk1 kb1; have st2 := HM2.out y1 Y1)
    | (have m := st1; go_at_call 6; (with_reducible refine st1.mono ?_); rintro e u1 ⟨v1, ar1, n1, cr1, rfl, hM1, hu1⟩; obtain ⟨x1, hx1⟩ : ∃ x, u1.alloc (.cells #[.slice none 0 0] 27) = x := ⟨_, rfl⟩; have kk1 : Hid (x1.heap[u1.heap.size]? = some (.cells #[.slice none 0 0] 27 (0, 0))) := (by rw [← hx1]; exact new_at rfl); have kb1 : Hid (Below u1.heap.size u1 x1) := (by rw [← hx1]; exact al1 _ _); clear m st1))
  have hz10 : y2.heap.size ≤ W10.heap.size := Nat.le_trans hz9 hb910.size
  have hB210 : Below y2.heap.size y2 W10 := bel2 hb29 hb910
  have hB212 : Below y2.heap.size y2 W12 := hKp2.below (hKp1.below hB210 hz9 (Nat.le_refl _)) hz9 (Nat.le_refl _)
  have hX12 : W12.ownsRow y2.heap.size 66 3 (.slice aX D.length cX) D.length (fl D) := row_at (row_at hX10 (fun g cur _ hg => hat1 g cur hg)) (fun g cur _ hg => hat2 g cur hg)
  have hw12 := row_at (row_at hw10 (fun g cur _ hg => hat1 g cur hg)) (fun g cur _ hg => hat2 g cur hg)
  have hRX := own_rdn hX12
  have hRw := own_rdn hw12
  have hNK := nk_of hN2 hL2
  have hBas : y2.heap.size ≤ W12.heap.size := hB212.size
  have hls1 : ∀ V, Below W12.heap.size W12 V → Calls Tryz.prog 14 #[v1] V fun e w' => ∃ a c, e = .returned (.slice a n1 c) ∧ RdN w' a LA ∧ Below V.heap.size V w' := fun V hV => by
    have := listV_any (bv1.carry (bel2 hB212 hV))
    rw [mm1b.len] at this
    exact this
  have hls2 : ∀ V, Below W12.heap.size W12 V → Calls Tryz.prog 14 #[v2] V fun e w' => ∃ a c, e = .returned (.slice a n2 c) ∧ RdN w' a LB ∧ Below V.heap.size V w' := fun V hV => by
    have := listV_any (bv2.carry (bel2 hB212 hV))
    rw [mm2.len] at this
    exact this
  have hRB1 := rb1b.carry hB212
  have hRB2 := rb2.carry hB212
  have hRL1 := mm1b.rd.carry hB212
  have hRL2 := mm2.rd.carry hB212
  have hapt : ∀ V, Below W12.heap.size W12 V → Calls Tryz.prog 16 #[.pointer (some ⟨W9.heap.size, 0, none⟩)] V fun e w' => e = .returned (.bool true) ∧ Below y2.heap.size y2 w' := fun V hV => by
    have hNV : NK noS y2.heap.size W9.heap.size V := by
      obtain ⟨h0, k, x, y, LL, h1, h2, h3⟩ := hNK
      exact ⟨fun _ q => q.elim, k, x, y, LL, h1.carry hV, h2, h3.carry (fun g cur _ hg => (hV.block g (lt_at hg)).trans hg)⟩
    refine (hNV.apart (Nat.le_trans hBas hV.size)).mono ?_
    rintro e w' ⟨rfl, hb⟩
    exact ⟨rfl, (bel2 hB212 hV).trans hb⟩
  have hsm := fun V (hV : Below W12.heap.size W12 V) => same_any aX aw cX cw D V (hRX.carry hV) (hRw.carry hV) (by omega)
  have hsm1 : ∀ V a c, Below W12.heap.size W12 V → RdN V a LA → Calls Tryz.prog 13 #[.slice a n1 c, .slice ar1 n1 cr1] V fun e w' => e = .returned (.bool true) ∧ Below V.heap.size V w' := fun V a c hV hr => by
    have := same_any a ar1 c cr1 LA V hr (hRL1.carry hV) (by have := mm1b.len; have := mm1b.le; omega)
    rw [mm1b.len] at this
    exact this
  have hsm2 : ∀ V a c, Below W12.heap.size W12 V → RdN V a LB → Calls Tryz.prog 13 #[.slice a n2 c, .slice ar2 n2 cr2] V fun e w' => e = .returned (.bool true) ∧ Below V.heap.size V w' := fun V a c hV hr => by
    have := same_any a ar2 c cr2 LB V hr (hRL2.carry hV) (by have := mm2.len; have := mm2.le; omega)
    rw [mm2.len] at this
    exact this
  clear hk2 hN0 hL0 hN1 hL1 hN2 hL2 hX hY hw4 hX9 hY9 hw9 hX10 hY10 hw10 hY11 hX12 hw12 hKp1 hKp2 hat1 hat2 hKB0 hXY
  refine wp_region_any hmx ?_
  refine wpAny_tabG (G := ((Option Addr × Nat) × (Option Addr × Nat))) (fun g i__ => ([(.bool true), (.bool true), (.int .i64 E), (.int .i64 E), (.bool true), (.bool true), (.bool true), (.slice aX D.length cX), (.slice aw D.length cw), (.bool true), (.bool true), (.bool true), v1, (.slice g.1.1 n1 g.1.2), (.pointer (some ⟨u1.heap.size, 0, none⟩)), (.slice ar1 n1 cr1), (.bool true), (.bool true), (.bool true), v2, (.slice g.2.1 n2 g.2.2), (.pointer (some ⟨u2.heap.size, 0, none⟩)), (.slice ar2 n2 cr2), (.bool true), (.bool true), (.bool true), (.pointer (some ⟨W9.heap.size, 0, none⟩)), (.bool true), (.bool true), (.bool true)] : List Value).getD i__ undef) (fun g d V => J9b y2 W12 LA LB g (d 13) (d 20) (d 27) V) (by kernel_rfl) (((none, 0), (none, 0))) (show J9b y2 W12 LA LB ((none, 0), (none, 0)) false false false _ from ⟨(Below.refl _ _).drew, fun e => (by cases e), fun e => (by cases e)⟩) ?step1 ?fin1
  case step1 =>
    intro i o ho
    have hi : i < 30 := getElem?_lt ho
    match i, hi, ho with
    | 0, _, ho =>
      cases ho
      refine stepG_ofC (fun g d hun hdep hcl => ?_)
      exact step_call rfl trivial 5 _ _ [] rfl (by kernel_rfl) (enters_of Tryz.func5 (by kernel_rfl) rfl) (fun v hw => by have h27 : d 27 = false := (by cases h : d 27 with | false => rfl | true => exact absurd (hcl 1 _ rfl (hcl 6 _ rfl (hcl 10 _ rfl (hcl 11 _ rfl (hcl 17 _ rfl (hcl 18 _ rfl (hcl 24 _ rfl (hcl 25 _ rfl (hcl 27 _ rfl h 25 (by kernel_rfl)) 24 (by kernel_rfl)) 18 (by kernel_rfl)) 17 (by kernel_rfl)) 11 (by kernel_rfl)) 10 (by kernel_rfl)) 6 (by kernel_rfl)) 1 (by kernel_rfl)) 0 (by kernel_rfl)) (by rw [hun]; simp)); have hw' := hw; rw [h27] at hw'; exact (alive_any v).mono (by rintro e w2 ⟨rfl, hb⟩; exact ⟨rfl, (show J9b y2 W12 LA LB g (d 13) (d 20) (d 27) w2 from by rw [h27]; exact hw'.carry hb)⟩))
    | 1, _, ho =>
      cases ho
      refine stepG_ofC (fun g d hun hdep hcl => ?_)
      exact step_move rfl trivial _ rfl (by kernel_rfl)
    | 2, _, ho =>
      cases ho
      refine stepG_ofC (fun g d hun hdep hcl => ?_)
      exact step_move rfl (by exact ⟨_, rfl, by kernel_rfl⟩) _ rfl (by kernel_rfl)
    | 3, _, ho =>
      cases ho
      refine stepG_ofC (fun g d hun hdep hcl => ?_)
      exact step_move rfl (by exact ⟨_, rfl, by kernel_rfl⟩) _ rfl (by kernel_rfl)
    | 4, _, ho =>
      cases ho
      refine stepG_ofC (fun g d hun hdep hcl => ?_)
      exact step_binOp rfl (by exact ⟨_, rfl, by kernel_rfl⟩) _ _ _ _ _ _ _ rfl rfl rfl (fun v hw => bin_self _ _)
    | 5, _, ho =>
      cases ho
      refine stepG_ofC (fun g d hun hdep hcl => ?_)
      exact step_pick rfl trivial _ _ _ true rfl (by kernel_rfl) (by kernel_rfl)
    | 6, _, ho =>
      cases ho
      refine stepG_ofC (fun g d hun hdep hcl => ?_)
      exact step_move rfl trivial _ rfl (by kernel_rfl)
    | 7, _, ho =>
      cases ho
      refine stepG_ofC (fun g d hun hdep hcl => ?_)
      exact step_move rfl (by exact ⟨_, rfl, by kernel_rfl⟩) _ rfl (by kernel_rfl)
    | 8, _, ho =>
      cases ho
      refine stepG_ofC (fun g d hun hdep hcl => ?_)
      exact step_move rfl (by exact ⟨_, rfl, by kernel_rfl⟩) _ rfl (by kernel_rfl)
    | 9, _, ho =>
      cases ho
      refine stepG_ofC (fun g d hun hdep hcl => ?_)
      exact step_call rfl (by exact ⟨_, rfl, by kernel_rfl⟩) 13 _ _ [(.slice aX D.length cX), (.slice aw D.length cw)] rfl (by kernel_rfl) (enters_of Tryz.func13 (by kernel_rfl) rfl) (fun v hw => by have h27 : d 27 = false := (by cases h : d 27 with | false => rfl | true => exact absurd (hcl 11 _ rfl (hcl 17 _ rfl (hcl 18 _ rfl (hcl 24 _ rfl (hcl 25 _ rfl (hcl 27 _ rfl h 25 (by kernel_rfl)) 24 (by kernel_rfl)) 18 (by kernel_rfl)) 17 (by kernel_rfl)) 11 (by kernel_rfl)) 9 (by kernel_rfl)) (by rw [hun]; simp)); have hw' := hw; rw [h27] at hw'; exact (hsm v hw'.1).mono (by rintro e w2 ⟨rfl, hb⟩; exact ⟨rfl, (show J9b y2 W12 LA LB g (d 13) (d 20) (d 27) w2 from by rw [h27]; exact hw'.carry hb)⟩))
    | 10, _, ho =>
      cases ho
      refine stepG_ofC (fun g d hun hdep hcl => ?_)
      exact step_pick rfl trivial _ _ _ true rfl (by kernel_rfl) (by kernel_rfl)
    | 11, _, ho =>
      cases ho
      refine stepG_ofC (fun g d hun hdep hcl => ?_)
      exact step_move rfl trivial _ rfl (by kernel_rfl)
    | 12, _, ho =>
      cases ho
      refine stepG_ofC (fun g d hun hdep hcl => ?_)
      exact step_move rfl (by exact ⟨_, rfl, by kernel_rfl⟩) _ rfl (by kernel_rfl)
    | 13, _, ho =>
      cases ho
      exact stepG_call rfl (fun _ => ⟨_, rfl, by kernel_rfl⟩) 14 _ _ (fun _ => [v1]) rfl (fun g => by kernel_rfl) (enters_of Tryz.func14 (by kernel_rfl) rfl) (fun g d V hJ hun hdep hcl => by have h27 : d 27 = false := (by cases h : d 27 with | false => rfl | true => exact absurd (hcl 16 _ rfl (hcl 18 _ rfl (hcl 24 _ rfl (hcl 25 _ rfl (hcl 27 _ rfl h 25 (by kernel_rfl)) 24 (by kernel_rfl)) 18 (by kernel_rfl)) 16 (by kernel_rfl)) 13 (by kernel_rfl)) (by rw [hun]; simp)); have hJ' := hJ; rw [h27] at hJ'; have h20 : d 20 = false := (by cases h : d 20 with | false => rfl | true => exact absurd (hcl 16 _ rfl (hcl 18 _ rfl (hcl 20 _ rfl h 18 (by kernel_rfl)) 16 (by kernel_rfl)) 13 (by kernel_rfl)) (by rw [hun]; simp)); rw [h20] at hJ'; exact (hls1 V hJ'.1).mono (by rintro e V' ⟨a, c, rfl, h1, h2⟩; refine ⟨((a, c), g.2), rfl, (fun j hj => match j, hj with | 13, hj => (by rw [hj] at hun; cases hun)  | 0, _ => rfl | 1, _ => rfl | 2, _ => rfl | 3, _ => rfl | 4, _ => rfl | 5, _ => rfl | 6, _ => rfl | 7, _ => rfl | 8, _ => rfl | 9, _ => rfl | 10, _ => rfl | 11, _ => rfl | 12, _ => rfl | 14, _ => rfl | 15, _ => rfl | 16, _ => rfl | 17, _ => rfl | 18, _ => rfl | 19, _ => rfl | 20, _ => rfl | 21, _ => rfl | 22, _ => rfl | 23, _ => rfl | 24, _ => rfl | 25, _ => rfl | 26, _ => rfl | 27, _ => rfl | 28, _ => rfl | 29, _ => rfl | _ + 30, _ => rfl), ?_⟩; show J9b y2 W12 LA LB _ true (d 20) (d 27) V'; rw [h27]; rw [h20]; exact ⟨bel2 hJ'.1 h2, fun _ => h1, fun e => (by cases e)⟩))
    | 14, _, ho =>
      cases ho
      refine stepG_ofC (fun g d hun hdep hcl => ?_)
      exact step_fieldAddr rfl (by exact ⟨_, rfl, by kernel_rfl⟩) _ _ _ _ rfl rfl (fun v hw => field_rb v _)
    | 15, _, ho =>
      cases ho
      refine stepG_ofC (fun g d hun hdep hcl => ?_)
      exact step_load rfl (by exact ⟨_, rfl, by kernel_rfl⟩) _ _ _ rfl rfl (fun v hw => by have h27 : d 27 = false := (by cases h : d 27 with | false => rfl | true => exact absurd (hcl 16 _ rfl (hcl 18 _ rfl (hcl 24 _ rfl (hcl 25 _ rfl (hcl 27 _ rfl h 25 (by kernel_rfl)) 24 (by kernel_rfl)) 18 (by kernel_rfl)) 16 (by kernel_rfl)) 15 (by kernel_rfl)) (by rw [hun]; simp)); have hw' := hw; rw [h27] at hw'; exact load_rb (hRB1.carry hw'.1))
    | 16, _, ho =>
      cases ho
      refine stepG_ofC (fun g d hun hdep hcl => ?_)
      exact step_call rfl (by exact ⟨_, rfl, by kernel_rfl⟩) 13 _ _ [(.slice g.1.1 n1 g.1.2), (.slice ar1 n1 cr1)] rfl (by kernel_rfl) (enters_of Tryz.func13 (by kernel_rfl) rfl) (fun v hw => by have h27 : d 27 = false := (by cases h : d 27 with | false => rfl | true => exact absurd (hcl 18 _ rfl (hcl 24 _ rfl (hcl 25 _ rfl (hcl 27 _ rfl h 25 (by kernel_rfl)) 24 (by kernel_rfl)) 18 (by kernel_rfl)) 16 (by kernel_rfl)) (by rw [hun]; simp)); have hw' := hw; rw [h27] at hw'; exact (hsm1 v g.1.1 g.1.2 hw'.1 (hw'.2.1 (hdep 13 (by kernel_rfl)))).mono (by rintro e w2 ⟨rfl, hb⟩; exact ⟨rfl, (show J9b y2 W12 LA LB g (d 13) (d 20) (d 27) w2 from by rw [h27]; exact hw'.carry hb)⟩))
    | 17, _, ho =>
      cases ho
      refine stepG_ofC (fun g d hun hdep hcl => ?_)
      exact step_pick rfl trivial _ _ _ true rfl (by kernel_rfl) (by kernel_rfl)
    | 18, _, ho =>
      cases ho
      refine stepG_ofC (fun g d hun hdep hcl => ?_)
      exact step_move rfl trivial _ rfl (by kernel_rfl)
    | 19, _, ho =>
      cases ho
      refine stepG_ofC (fun g d hun hdep hcl => ?_)
      exact step_move rfl (by exact ⟨_, rfl, by kernel_rfl⟩) _ rfl (by kernel_rfl)
    | 20, _, ho =>
      cases ho
      exact stepG_call rfl (fun _ => ⟨_, rfl, by kernel_rfl⟩) 14 _ _ (fun _ => [v2]) rfl (fun g => by kernel_rfl) (enters_of Tryz.func14 (by kernel_rfl) rfl) (fun g d V hJ hun hdep hcl => by have h27 : d 27 = false := (by cases h : d 27 with | false => rfl | true => exact absurd (hcl 23 _ rfl (hcl 25 _ rfl (hcl 27 _ rfl h 25 (by kernel_rfl)) 23 (by kernel_rfl)) 20 (by kernel_rfl)) (by rw [hun]; simp)); have hJ' := hJ; rw [h27] at hJ'; exact (hls2 V hJ'.1).mono (by rintro e V' ⟨a, c, rfl, h1, h2⟩; refine ⟨(g.1, (a, c)), rfl, (fun j hj => match j, hj with | 20, hj => (by rw [hj] at hun; cases hun)  | 0, _ => rfl | 1, _ => rfl | 2, _ => rfl | 3, _ => rfl | 4, _ => rfl | 5, _ => rfl | 6, _ => rfl | 7, _ => rfl | 8, _ => rfl | 9, _ => rfl | 10, _ => rfl | 11, _ => rfl | 12, _ => rfl | 13, _ => rfl | 14, _ => rfl | 15, _ => rfl | 16, _ => rfl | 17, _ => rfl | 18, _ => rfl | 19, _ => rfl | 21, _ => rfl | 22, _ => rfl | 23, _ => rfl | 24, _ => rfl | 25, _ => rfl | 26, _ => rfl | 27, _ => rfl | 28, _ => rfl | 29, _ => rfl | _ + 30, _ => rfl), ?_⟩; show J9b y2 W12 LA LB _ (d 13) true (d 27) V'; rw [h27]; exact ⟨bel2 hJ'.1 h2, fun e => (hJ'.2.1 e).carry h2, fun _ => h1⟩))
    | 21, _, ho =>
      cases ho
      refine stepG_ofC (fun g d hun hdep hcl => ?_)
      exact step_fieldAddr rfl (by exact ⟨_, rfl, by kernel_rfl⟩) _ _ _ _ rfl rfl (fun v hw => field_rb v _)
    | 22, _, ho =>
      cases ho
      refine stepG_ofC (fun g d hun hdep hcl => ?_)
      exact step_load rfl (by exact ⟨_, rfl, by kernel_rfl⟩) _ _ _ rfl rfl (fun v hw => by have h27 : d 27 = false := (by cases h : d 27 with | false => rfl | true => exact absurd (hcl 23 _ rfl (hcl 25 _ rfl (hcl 27 _ rfl h 25 (by kernel_rfl)) 23 (by kernel_rfl)) 22 (by kernel_rfl)) (by rw [hun]; simp)); have hw' := hw; rw [h27] at hw'; exact load_rb (hRB2.carry hw'.1))
    | 23, _, ho =>
      cases ho
      refine stepG_ofC (fun g d hun hdep hcl => ?_)
      exact step_call rfl (by exact ⟨_, rfl, by kernel_rfl⟩) 13 _ _ [(.slice g.2.1 n2 g.2.2), (.slice ar2 n2 cr2)] rfl (by kernel_rfl) (enters_of Tryz.func13 (by kernel_rfl) rfl) (fun v hw => by have h27 : d 27 = false := (by cases h : d 27 with | false => rfl | true => exact absurd (hcl 25 _ rfl (hcl 27 _ rfl h 25 (by kernel_rfl)) 23 (by kernel_rfl)) (by rw [hun]; simp)); have hw' := hw; rw [h27] at hw'; exact (hsm2 v g.2.1 g.2.2 hw'.1 (hw'.2.2 (hdep 20 (by kernel_rfl)))).mono (by rintro e w2 ⟨rfl, hb⟩; exact ⟨rfl, (show J9b y2 W12 LA LB g (d 13) (d 20) (d 27) w2 from by rw [h27]; exact hw'.carry hb)⟩))
    | 24, _, ho =>
      cases ho
      refine stepG_ofC (fun g d hun hdep hcl => ?_)
      exact step_pick rfl trivial _ _ _ true rfl (by kernel_rfl) (by kernel_rfl)
    | 25, _, ho =>
      cases ho
      refine stepG_ofC (fun g d hun hdep hcl => ?_)
      exact step_move rfl trivial _ rfl (by kernel_rfl)
    | 26, _, ho =>
      cases ho
      refine stepG_ofC (fun g d hun hdep hcl => ?_)
      exact step_move rfl (by exact ⟨_, rfl, by kernel_rfl⟩) _ rfl (by kernel_rfl)
    | 27, _, ho =>
      cases ho
      refine stepG_ofC (fun g d hun hdep hcl => ?_)
      exact step_call rfl (by exact ⟨_, rfl, by kernel_rfl⟩) 16 _ _ [(.pointer (some ⟨W9.heap.size, 0, none⟩))] rfl (by kernel_rfl) (enters_of Tryz.func16 (by kernel_rfl) rfl) (fun v hw => by have hw' := hw; rw [hun] at hw'; exact (hapt v hw'.1).mono (by rintro e w2 ⟨rfl, hb⟩; exact ⟨rfl, hb⟩))
    | 28, _, ho =>
      cases ho
      refine stepG_ofC (fun g d hun hdep hcl => ?_)
      exact step_pick rfl trivial _ _ _ true rfl (by kernel_rfl) (by kernel_rfl)
    | 29, _, ho =>
      cases ho
      refine stepG_ofC (fun g d hun hdep hcl => ?_)
      exact step_assign rfl trivial _ rfl (by kernel_rfl) (fun _ h => h)
  intro g d W hall hW
  first | refine hK _ _ ?_ | refine (‹∀ (a : Act) (w : World), Code.wp Tryz.prog _ _ a w → _›) _ _ ?_ | skip
  simp only [finL, List.getD_cons_zero, List.getD_cons_succ, Nat.zero_add, Nat.reduceAdd, List.setIfInBounds_toArray, List.set_cons_zero, List.set_cons_succ]
  rw [hall 27 (by decide)] at hW
  have hWf : Below y2.heap.size y2 W := hW
  go_wp2
  go_ret
  exact ⟨rfl, bel2 Y2 hWf⟩

set_option maxRecDepth 100000 in
theorem lifted (os : Os) (started : os.Started) (H : Type) (enc : TypeId × Value → H) :
    ReturnsInHanded {} Tryz.checked os 4 .any (Rows.spreadAbovesSpec.pre6 enc Tryz.prog Tryz.f4 Rows.spreadAbovesRow.domain false) (Rows.spreadAbovesSpec.post enc Tryz.prog Tryz.f4 false true false false) := by
  refine returnsInHanded_of_change (C := Tryz.checked) own started (by kernel_rfl) Tryz.func4
    (ChangeSpec.witness6 (enc := enc) (C := Tryz.checked) false ⟨#[], #[.int .i64 0, .int .i64 0, .int .i64 0, .slice none 0 0, .slice none 0 0], []⟩ 8 (by kernel_rfl) (by kernel_rfl) (by kernel_rfl) (by kernel_rfl)) ?_
  intro W base args ds gs before hval0 hW hcnd _
  have hval : ∀ (j : Nat) t v, Tryz.f4.params[j]? = some t → args[j]? = some v → Value.okWide Tryz.prog W .any base t v := hval0
  have hW' := hW
  obtain ⟨p, q, hA0, hV, rfl, hfz, hnd⟩ := hW
  have hA : DataW.TrodAll enc Tryz.prog W 0 (fun _ => true) true Tryz.f4.params.toList args.toList ds p := hA0
  rw [Tryz.params4] at hA hval
  obtain ⟨v0, vs0, d0, ds0, p0, q0, hargs, rfl, rfl, h0, r0⟩ := trodAll_cons hA
  obtain ⟨v1, vs1, d1, ds1, p1, q1, rfl, rfl, rfl, h1, r1⟩ := trodAll_cons r0
  obtain ⟨v2, vs2, d2, ds2, p2, q2, rfl, rfl, rfl, h2, r2⟩ := trodAll_cons r1
  obtain ⟨v3, vs3, d3, ds3, p3, q3, rfl, rfl, rfl, h3, r3⟩ := trodAll_cons r2
  obtain ⟨v4, vs4, d4, ds4, p4, q4, rfl, rfl, rfl, h4, r4⟩ := trodAll_cons r3
  obtain ⟨rfl, rfl, rfl⟩ := trodAll_nil r4
  obtain rfl : args = #[v0, v1, v2, v3, v4] := by cases args; simp_all
  obtain ⟨rfl, rfl⟩ := trodVars_none hV
  obtain ⟨a0, rfl, rfl, rfl, w0⟩ := open_int Tryz.underlying3 (hval 0 3 v0 rfl rfl) h0
  obtain ⟨a1, rfl, rfl, rfl, w1⟩ := open_int Tryz.underlying3 (hval 1 3 v1 rfl rfl) h1
  obtain ⟨a2, rfl, rfl, rfl, w2⟩ := open_int Tryz.underlying3 (hval 2 3 v2 rfl rfl) h2
  have k3 := h3
  have lt3 : ∀ x ∈ p3, x.block < W.heap.size := by obtain ⟨m, hm⟩ := k3; exact DataW.trod_lt m _ _ _ hm
  obtain ⟨ad3, cap3, l3, rfl, w3, hc3, hq3, hd3⟩ := open_nts (hval 3 22 v3 rfl rfl) h3
  have k4 := h4
  have lt4 : ∀ x ∈ p4, x.block < W.heap.size := by obtain ⟨m, hm⟩ := k4; exact DataW.trod_lt m _ _ _ hm
  obtain ⟨ad4, cap4, l4, rfl, w4, hc4, hq4, hd4⟩ := open_nts (hval 4 22 v4 rfl rfl) h4
  clear hA0 hval0
  refine (walk W a0 w0 a1 w1 a2 w2 ad3 cap3 l3 w3 hc3 hq3 ad4 cap4 l4 w4 hc4 hq4).mono fun e W' ⟨he, hg⟩ => ?_
  subst he
  exact ⟨_, rfl, _, _, _, [], _, [], hW', (trodAll_cons_mk (shut_bool Tryz.underlying4 _) trodAll_mk0), (trodAll_cons_mk (shut_int Tryz.underlying3 w0) (trodAll_cons_mk (shut_int Tryz.underlying3 w1) (trodAll_cons_mk (shut_int Tryz.underlying3 w2) (trodAll_cons_mk (Below.trod laidOut (by kernel_rfl) (of_decide_eq_true (by kernel_rfl)) k3 hg lt3) (trodAll_cons_mk (Below.trod laidOut (by kernel_rfl) (of_decide_eq_true (by kernel_rfl)) k4 hg lt4) trodAll_mk0))))), rfl, hg.frame _, fun h => by cases h⟩

theorem over : Rows.spreadAbovesRow.holds Tryz.pinned (OpenSpec.ofChange Rows.spreadAbovesSpec) :=
  OpenClaim.holds_of_wide 4 Tryz.f4 rfl rfl rfl rfl rfl rfl rfl ⟨rfl, rfl, rfl, rfl, rfl⟩ rfl rfl rfl rfl rfl (by kernel_rfl) Tryz.func4 (by kernel_rfl)
    (of_decide_eq_true (by kernel_rfl)) (by unfold Func.isWrapper; first | (rw [if_pos (by decide +kernel)]; kernel_rfl) | (rw [if_neg (by decide +kernel)]; exact ⟨rfl, rfl⟩))
    (fun os started H enc _ => lifted os started H enc)

theorem proved : Rows.SpreadAbovesSaid :=
  over
#print axioms proved
end Go.Proofs.YtddblfffjhoiaaaGreat
