/- BagMoved: at every script and all places: moved there and back all stands as it did, a move turns nothing but the order; no condition. -/
import Derived.Test.YtenahcdmdhlieaaRows
import Derived.WalkKit
import Derived.ProofKit
import Derived.OpenShut
import Derived.Test.YtenahcdmdhlieaaBgp
import Derived.Test.YtenahcdmdhlieaaOpo
namespace Go.Proofs.Ytenahcdmdhlieaa
open Go.ChangeShapes Go.WideShapes Go.ChangeAt Go.RowKit
set_option linter.unusedVariables false

theorem laidOut : laidOutB Try.prog = true := by kernel_rfl
theorem own : ownKnob Try.prog.godebug = none := by kernel_rfl
open Go.Shelf Go.Lib
theorem ins_at {α : Type} {D : List α} {j : Nat} (x : α) (h : j ≤ D.length) : (D.take j ++ x :: D.drop j)[j]? = some x := by
  have e : (D.take j).length = j := by simp; omega
  rw [List.getElem?_append_right (by omega), e, Nat.sub_self]
  rfl
theorem ins_del {α : Type} {D : List α} {j : Nat} (x : α) (h : j ≤ D.length) : (D.take j ++ x :: D.drop j).take j ++ (D.take j ++ x :: D.drop j).drop (j + 1) = D := by
  have e : (D.take j).length = j := by simp; omega
  rw [List.take_append_of_le_length (by omega), List.take_of_length_le (by omega), List.drop_append, e, List.drop_of_length_le (by omega), Nat.add_sub_cancel_left]
  simp
theorem del_ins {α : Type} {l : List α} {k : Nat} {x : α} (h : l[k]? = some x) : (l.take k ++ l.drop (k + 1)).take k ++ x :: (l.take k ++ l.drop (k + 1)).drop k = l := by
  obtain ⟨hk, rfl⟩ := List.getElem?_eq_some_iff.1 h
  have e : (l.take k).length = k := by simp; omega
  rw [List.take_append_of_le_length (by omega), List.take_of_length_le (by omega), List.drop_append_of_le_length (by omega), List.drop_of_length_le (by omega), List.nil_append, ← List.drop_eq_getElem_cons hk, List.take_append_drop]
set_option maxHeartbeats 8000000 in
set_option maxRecDepth 100000 in
theorem walk (w : World) (ad0 : Option Addr) (cap0 : Nat) (l0 : List Op6) (w0 : RdO w w.heap.size ad0 l0) (hc0 : l0.length ≤ cap0) (hm0 : cap0 ≤ maxLen) (a1 : Int) (w1 : (Lit.int .i64 a1).wf = true) (a2 : Int) (w2 : (Lit.int .i64 a2).wf = true) :
    Calls Try.prog 4 #[.slice ad0 l0.length cap0, .int .i64 a1, .int .i64 a2] w fun e w' => e = .returned (.bool true) ∧ Below w.heap.size w w' := by
  have hmx : Try.prog.follows .mixedOrders = true := by kernel_rfl
  have hne := new_ok 60 w (by decide) (by decide)
  have hal := alive_any
  by_cases hlg : lgt l0 = true
  case neg =>
    have hlg2 : lgt l0 = false := by simpa using hlg
    go_enter Try.func4, Try.ntmps4
    go_wp2_with (first | (go_at_call 9; (with_reducible refine hne.mono ?_); rintro e u1 ⟨rfl, hB1, hb1⟩; have hli := light_any ad0 cap0 l0 u1 (w0.carry hb1); rw [hlg2] at hli) | (go_at_call 7; (with_reducible refine hli.mono ?_); rintro e u2 ⟨rfl, rfl⟩) | (go_at_call 8; (with_reducible refine (hal _).mono ?_); rintro e u3 ⟨rfl, hb3⟩))
    go_ret
    exact ⟨rfl, bel2 hb1 hb3⟩
  have hn150 : l0.length ≤ 150 := (of_decide_eq_true hlg).1
  have hri := rst_ri (room := 60) (by decide) l0
  have hrl := rst_le 60 l0
  obtain ⟨q, hq⟩ : ∃ q, rst 60 0 [] l0 = q := ⟨_, rfl⟩
  rw [hq] at hri hrl
  obtain ⟨m, t, la, l⟩ := q
  have hl60 : (l.length : Int) ≤ 60 := hri.le
  have hlb : l.length ≤ 4611686018427387904 := by omega
  have hdt : ∀ x ∈ l, x.2.2.2.length ≤ 1024 := hri.dt
  by_cases hi : (0 ≤ a1 ∧ a1 < (l.length : Int)) ∧ (0 ≤ a2 ∧ a2 < (l.length : Int))
  case neg =>
    have hs1 := sMv_no hi
    clear hi
    go_enter Try.func4, Try.ntmps4
    go_wp2_with (first | (go_at_call 9; (with_reducible refine hne.mono ?_); rintro e u1 ⟨rfl, hB1, hb1⟩; have hO1 := w0.carry hb1; have hli := light_any ad0 cap0 l0 u1 hO1; rw [hlg] at hli; have hru := run_any hB1 (by decide) (by decide) ad0 cap0 l0 hO1 hn150; rw [hq] at hru; dsimp only at hru) | (go_at_call 7; (with_reducible refine hli.mono ?_); rintro e u2 ⟨rfl, rfl⟩) | (go_at_call 10; (with_reducible refine hru.mono ?_); rintro e u2 ⟨rfl, ad2, cap2, ps2, hB2, hT2⟩; have haa := all_any hB2) | (go_at_call 11; (with_reducible refine haa.mono ?_); rintro e u3 ⟨v3, av3, rfl, hg3, hb3⟩; obtain ⟨al3, cl3, rfl⟩ := row_form hg3.row; have hB3 := hB2.carry hb3; have hmv := move_any hB3 a1 a2; rw [hs1] at hmv; dsimp only at hmv; clear haa) | (go_at_call 14; (with_reducible refine hmv.mono ?_); rintro e u4 ⟨rfl, ad4, cap4, ps4, hB4, hT4⟩; have hg4 := (hB3.sv hT4).gs hg3; have hab := all_any hB4) | (go_at_call 11; (with_reducible refine hab.mono ?_); rintro e u5 ⟨v5, av5, rfl, hg5, hb5⟩; obtain ⟨al5, cl5, rfl⟩ := row_form hg5.row; have hg4' := hg4.carry hb5) | (go_at_call 8; (with_reducible refine (hal _).mono ?_); rintro e u6 ⟨rfl, hb6⟩; have hsb := sameBag_yes al3 al5 cl3 cl5 l u6 (hg4'.carry hb6).rd (hg5.carry hb6).rd hlb hdt) | (go_at_call 15; (with_reducible refine hsb.mono ?_); rintro e u7 ⟨rfl, hb7⟩))
    go_ret
    refine ⟨rfl, ?_⟩
    have k1 : Below w.heap.size w u2 := hb1.trans (hB1.below hT2)
    exact bel2 (bel2 (bel2 ((bel2 k1 hb3).trans (hB3.below hT4)) hb5) hb6) hb7
  obtain ⟨k, rfl⟩ := Int.eq_ofNat_of_zero_le hi.1.1
  obtain ⟨j, rfl⟩ := Int.eq_ofNat_of_zero_le hi.2.1
  have hkl : k < l.length := by omega
  have hjl : j < l.length := by omega
  obtain ⟨⟨xi, xf, xt, xd⟩, hx⟩ : ∃ x, l[k]? = some x := ⟨_, List.getElem?_eq_getElem hkl⟩
  have hxd : xd.length ≤ 1024 := hdt _ (List.mem_of_getElem? hx)
  have hD : (l.take k ++ l.drop (k + 1)).length + 1 = l.length := by simp; omega
  have hjD : j ≤ (l.take k ++ l.drop (k + 1)).length := by omega
  have hs1 := sMv_ok hx hjl
  obtain ⟨L1, hL1⟩ : ∃ L1, (l.take k ++ l.drop (k + 1)).take j ++ (xi, xf, xt, xd) :: (l.take k ++ l.drop (k + 1)).drop j = L1 := ⟨_, rfl⟩
  have hx1 : L1[j]? = some (xi, xf, xt, xd) := by rw [← hL1]; exact ins_at _ hjD
  have hlL : L1.length = l.length := by rw [← hL1]; simp; omega
  have hs2 := sAt_ok hx1
  have hs3 : sMv L1 (j : Int) (k : Int) = (0, l) := by
    rw [sMv_ok hx1 (by omega), ← hL1, ins_del _ hjD, del_ins hx]
  rw [hL1] at hs1
  have i1 : ¬ (k : Int) < 0 := by omega
  have i2 : ¬ ((k : Int) ≥ (l.length : Int)) := by omega
  have i3 : ¬ (j : Int) < 0 := by omega
  have i4 : ¬ ((j : Int) ≥ (l.length : Int)) := by omega
  have HX : Hid (l[k]? = some (xi, xf, xt, xd)) := hx
  clear hi hx hx1 hlL hL1 hD hjD hrl
  go_enter Try.func4, Try.ntmps4
  go_wp2_with (first | (go_at_call 9; (with_reducible refine hne.mono ?_); rintro e u1 ⟨rfl, hB1, hb1⟩; have hO1 := w0.carry hb1; have hli := light_any ad0 cap0 l0 u1 hO1; rw [hlg] at hli; have hru := run_any hB1 (by decide) (by decide) ad0 cap0 l0 hO1 hn150; rw [hq] at hru; dsimp only at hru) | (go_at_call 7; (with_reducible refine hli.mono ?_); rintro e u2 ⟨rfl, rfl⟩) | (go_at_call 10; (with_reducible refine hru.mono ?_); rintro e u2 ⟨rfl, ad2, cap2, ps2, hB2, hT2⟩; have haa := all_any hB2) | (go_at_call 11; (with_reducible refine haa.mono ?_); rintro e u3 ⟨v3, av3, rfl, hg3, hb3⟩; obtain ⟨al3, cl3, rfl⟩ := row_form hg3.row; have hB3 := hB2.carry hb3; have hmv := move_any hB3 (k : Int) (j : Int); rw [hs1] at hmv; dsimp only at hmv; clear haa) | (go_at_call 14; (with_reducible refine hmv.mono ?_); rintro e u4 ⟨rfl, ad4, cap4, ps4, hB4, hT4⟩; have hg4 := (hB3.sv hT4).gs hg3; have hat := at_any hB4 (j : Int); rw [hs2] at hat; unfold gV at hat; dsimp only at hat) | (go_at_call 16; (with_reducible refine hat.mono ?_); rintro e u5 ⟨a5, c5, rfl, ho5, hb5⟩; obtain ⟨v5, hv5⟩ : ∃ v5, u5.alloc (.cells #[.int .i64 xi, .int .i64 xf, .int .i64 xt, .slice a5 xd.length c5] 37) = v5 := ⟨_, rfl⟩; have hbv5 : Below u5.heap.size u5 v5 := (by rw [← hv5]; exact al1' _ _); have hG5 : GB v5 u5.heap.size xi xf xt (.slice a5 xd.length c5) := (by rw [← hv5]; exact new_at rfl); have hd5 := (RdY.own ho5).carry hbv5; have hB5 := (hB4.carry hb5).carry hbv5; have hg5 := (hg4.carry hb5).carry hbv5))
  obtain ⟨b3, off3, a3, c3, rfl, hb3l, d0, d1, d2, d3, hr3⟩ := hg5.rd k _ HX.out
  dsimp only at d0 d1 d2 d3 hr3
  have k1 : Below w.heap.size w u2 := hb1.trans (hB1.below hT2)
  have k2 : Below w.heap.size w v5 := bel2 (bel2 ((bel2 k1 hb3).trans (hB3.below hT4)) hb5) hbv5
  rename_i Q0 K0 hK
  refine wp_region_any hmx ?_
  refine wpAny_seq 15 (fun i__ => ([(.int .i64 0), (.bool false), (.bool false), (gV (xi, xf, xt, xd) a5 c5), (.slice (some ⟨b3, off3, none⟩) l.length cl3), (.int .i64 (k : Int)), (.pointer (some ⟨b3, off3 + k * 4, none⟩)), (gV (xi, xf, xt, xd) a3 c3), (.bool true), (.bool false), (.bool false), (.bool false), (.pointer (some ⟨w.heap.size, 0, none⟩)), (.int .i64 (j : Int)), (.int .i64 (k : Int)), (.int .i64 0), (.bool false), (.bool false)] : List Value).getD i__ undef) (fun k__ => ([(fun V => Bg V w.heap.size w.heap.size ad4 cap4 60 la ps4 L1 ∧ Below v5.heap.size v5 V), (fun V => Bg V w.heap.size w.heap.size ad4 cap4 60 la ps4 L1 ∧ Below v5.heap.size v5 V), (fun V => Bg V w.heap.size w.heap.size ad4 cap4 60 la ps4 L1 ∧ Below v5.heap.size v5 V), (fun V => Bg V w.heap.size w.heap.size ad4 cap4 60 la ps4 L1 ∧ Below v5.heap.size v5 V), (fun V => Bg V w.heap.size w.heap.size ad4 cap4 60 la ps4 L1 ∧ Below v5.heap.size v5 V), (fun V => Bg V w.heap.size w.heap.size ad4 cap4 60 la ps4 L1 ∧ Below v5.heap.size v5 V), (fun V => Bg V w.heap.size w.heap.size ad4 cap4 60 la ps4 L1 ∧ Below v5.heap.size v5 V), (fun V => Bg V w.heap.size w.heap.size ad4 cap4 60 la ps4 L1 ∧ Below v5.heap.size v5 V), (fun V => Bg V w.heap.size w.heap.size ad4 cap4 60 la ps4 L1 ∧ Below v5.heap.size v5 V), (fun V => Bg V w.heap.size w.heap.size ad4 cap4 60 la ps4 L1 ∧ Below v5.heap.size v5 V), (fun V => Bg V w.heap.size w.heap.size ad4 cap4 60 la ps4 L1 ∧ Below v5.heap.size v5 V), (fun V => Bg V w.heap.size w.heap.size ad4 cap4 60 la ps4 L1 ∧ Below v5.heap.size v5 V), (fun V => Bg V w.heap.size w.heap.size ad4 cap4 60 la ps4 L1 ∧ Below v5.heap.size v5 V), (fun V => Bg V w.heap.size w.heap.size ad4 cap4 60 la ps4 L1 ∧ Below v5.heap.size v5 V), (fun V => Bg V w.heap.size w.heap.size ad4 cap4 60 la ps4 L1 ∧ Below v5.heap.size v5 V), (fun V => Bg V w.heap.size w.heap.size ad4 cap4 60 la ps4 L1 ∧ Below v5.heap.size v5 V), (fun V => ∃ ad' cap' ps', Bg V w.heap.size w.heap.size ad' cap' 60 la ps' l ∧ Gs V u2.heap.size u2.heap.size (.slice (some ⟨b3, off3, none⟩) l.length cl3) l av3 ∧ Below w.heap.size w V), (fun V => ∃ ad' cap' ps', Bg V w.heap.size w.heap.size ad' cap' 60 la ps' l ∧ Gs V u2.heap.size u2.heap.size (.slice (some ⟨b3, off3, none⟩) l.length cl3) l av3 ∧ Below w.heap.size w V), (fun V => ∃ ad' cap' ps', Bg V w.heap.size w.heap.size ad' cap' 60 la ps' l ∧ Gs V u2.heap.size u2.heap.size (.slice (some ⟨b3, off3, none⟩) l.length cl3) l av3 ∧ Below w.heap.size w V)] : List (World → Prop)).getD k__ (fun V => Bg V w.heap.size w.heap.size ad4 cap4 60 la ps4 L1 ∧ Below v5.heap.size v5 V)) (by decide) (by kernel_rfl) (by kernel_rfl) ?_ ?_ ⟨hB5.carry (Below.refl _ _).drew, (Below.refl _ _).drew⟩
  · refine (stepsFrom_cons ?_ (stepsFrom_cons ?_ (stepsFrom_cons ?_ (stepsFrom_cons ?_ (stepsFrom_cons ?_ (stepsFrom_cons ?_ (stepsFrom_cons ?_ (stepsFrom_cons ?_ (stepsFrom_cons ?_ (stepsFrom_cons ?_ (stepsFrom_cons ?_ (stepsFrom_cons ?_ (stepsFrom_cons ?_ (stepsFrom_cons ?_ (stepsFrom_cons ?_ (stepsFrom_cons ?_ (stepsFrom_cons ?_ (stepsFrom_cons ?_ trivial))))))))))))))))))
    · exact (show StepAt _ _ _ _ _ _ (fun V => Bg V w.heap.size w.heap.size ad4 cap4 60 la ps4 L1 ∧ Below v5.heap.size v5 V) (fun V => Bg V w.heap.size w.heap.size ad4 cap4 60 la ps4 L1 ∧ Below v5.heap.size v5 V) _ _ from step_move rfl trivial _ rfl (by kernel_rfl))
    · exact (show StepAt _ _ _ _ _ _ (fun V => Bg V w.heap.size w.heap.size ad4 cap4 60 la ps4 L1 ∧ Below v5.heap.size v5 V) (fun V => Bg V w.heap.size w.heap.size ad4 cap4 60 la ps4 L1 ∧ Below v5.heap.size v5 V) _ _ from step_binOp rfl trivial _ _ _ _ _ _ _ rfl rfl rfl (fun v hw => (bin_neq .i64 _ _).trans (by simp)))
    · exact (show StepAt _ _ _ _ _ _ (fun V => Bg V w.heap.size w.heap.size ad4 cap4 60 la ps4 L1 ∧ Below v5.heap.size v5 V) (fun V => Bg V w.heap.size w.heap.size ad4 cap4 60 la ps4 L1 ∧ Below v5.heap.size v5 V) _ _ from step_move rfl trivial _ rfl (by kernel_rfl))
    · exact (show StepAt _ _ _ _ _ _ (fun V => Bg V w.heap.size w.heap.size ad4 cap4 60 la ps4 L1 ∧ Below v5.heap.size v5 V) (fun V => Bg V w.heap.size w.heap.size ad4 cap4 60 la ps4 L1 ∧ Below v5.heap.size v5 V) _ _ from step_load rfl (by exact ⟨_, rfl, by kernel_rfl⟩) _ _ _ rfl rfl (fun v hw => load_G (b := u5.heap.size) (o := 0) (x := (xi, xf, xt, xd)) ((hG5.carry hw.2).c0) ((hG5.carry hw.2).c1) ((hG5.carry hw.2).c2) ((hG5.carry hw.2).c3)))
    · exact (show StepAt _ _ _ _ _ _ (fun V => Bg V w.heap.size w.heap.size ad4 cap4 60 la ps4 L1 ∧ Below v5.heap.size v5 V) (fun V => Bg V w.heap.size w.heap.size ad4 cap4 60 la ps4 L1 ∧ Below v5.heap.size v5 V) _ _ from step_move rfl (by exact ⟨_, rfl, by kernel_rfl⟩) _ rfl (by kernel_rfl))
    · exact (show StepAt _ _ _ _ _ _ (fun V => Bg V w.heap.size w.heap.size ad4 cap4 60 la ps4 L1 ∧ Below v5.heap.size v5 V) (fun V => Bg V w.heap.size w.heap.size ad4 cap4 60 la ps4 L1 ∧ Below v5.heap.size v5 V) _ _ from step_move rfl (by exact ⟨_, rfl, by kernel_rfl⟩) _ rfl (by kernel_rfl))
    · exact (show StepAt _ _ _ _ _ _ (fun V => Bg V w.heap.size w.heap.size ad4 cap4 60 la ps4 L1 ∧ Below v5.heap.size v5 V) (fun V => Bg V w.heap.size w.heap.size ad4 cap4 60 la ps4 L1 ∧ Below v5.heap.size v5 V) _ _ from step_indexAddr rfl (by exact ⟨_, rfl, by kernel_rfl⟩) _ _ _ _ _ rfl rfl rfl (fun v hw => idx_G b3 off3 _ _ k hkl v))
    · exact (show StepAt _ _ _ _ _ _ (fun V => Bg V w.heap.size w.heap.size ad4 cap4 60 la ps4 L1 ∧ Below v5.heap.size v5 V) (fun V => Bg V w.heap.size w.heap.size ad4 cap4 60 la ps4 L1 ∧ Below v5.heap.size v5 V) _ _ from step_load rfl (by exact ⟨_, rfl, by kernel_rfl⟩) _ _ _ rfl rfl (fun v hw => load_G (x := (xi, xf, xt, xd)) ((hw.2.cell (p := ⟨b3, _, none⟩) hb3l).trans d0) ((hw.2.cell (p := ⟨b3, _, none⟩) hb3l).trans d1) ((hw.2.cell (p := ⟨b3, _, none⟩) hb3l).trans d2) ((hw.2.cell (p := ⟨b3, _, none⟩) hb3l).trans d3)))
    · exact (show StepAt _ _ _ _ _ _ (fun V => Bg V w.heap.size w.heap.size ad4 cap4 60 la ps4 L1 ∧ Below v5.heap.size v5 V) (fun V => Bg V w.heap.size w.heap.size ad4 cap4 60 la ps4 L1 ∧ Below v5.heap.size v5 V) _ _ from step_call rfl (by exact ⟨_, rfl, by kernel_rfl⟩) 17 _ _ [(gV (xi, xf, xt, xd) a5 c5), (gV (xi, xf, xt, xd) a3 c3)] rfl (by kernel_rfl) (enters_of Try.func17 (by kernel_rfl) rfl) (fun v hw => (sameG_yes (xi, xf, xt, xd) a5 a3 c5 c3 v (hd5.carry hw.2).rd (hr3.carry hw.2) (by show xd.length ≤ _; omega)).mono (by rintro e w' ⟨rfl, hb⟩; exact ⟨rfl, hw.1.carry hb, bel2 hw.2 hb⟩)))
    · exact (show StepAt _ _ _ _ _ _ (fun V => Bg V w.heap.size w.heap.size ad4 cap4 60 la ps4 L1 ∧ Below v5.heap.size v5 V) (fun V => Bg V w.heap.size w.heap.size ad4 cap4 60 la ps4 L1 ∧ Below v5.heap.size v5 V) _ _ from step_unOp rfl (by exact ⟨_, rfl, by kernel_rfl⟩) _ _ _ _ rfl rfl (fun v hw => un_not true v))
    · exact (show StepAt _ _ _ _ _ _ (fun V => Bg V w.heap.size w.heap.size ad4 cap4 60 la ps4 L1 ∧ Below v5.heap.size v5 V) (fun V => Bg V w.heap.size w.heap.size ad4 cap4 60 la ps4 L1 ∧ Below v5.heap.size v5 V) _ _ from step_pick rfl trivial _ _ _ false rfl (by kernel_rfl) (by kernel_rfl))
    · exact (show StepAt _ _ _ _ _ _ (fun V => Bg V w.heap.size w.heap.size ad4 cap4 60 la ps4 L1 ∧ Below v5.heap.size v5 V) (fun V => Bg V w.heap.size w.heap.size ad4 cap4 60 la ps4 L1 ∧ Below v5.heap.size v5 V) _ _ from step_move rfl trivial _ rfl (by kernel_rfl))
    · exact (show StepAt _ _ _ _ _ _ (fun V => Bg V w.heap.size w.heap.size ad4 cap4 60 la ps4 L1 ∧ Below v5.heap.size v5 V) (fun V => Bg V w.heap.size w.heap.size ad4 cap4 60 la ps4 L1 ∧ Below v5.heap.size v5 V) _ _ from step_move rfl (by exact ⟨_, rfl, by kernel_rfl⟩) _ rfl (by kernel_rfl))
    · exact (show StepAt _ _ _ _ _ _ (fun V => Bg V w.heap.size w.heap.size ad4 cap4 60 la ps4 L1 ∧ Below v5.heap.size v5 V) (fun V => Bg V w.heap.size w.heap.size ad4 cap4 60 la ps4 L1 ∧ Below v5.heap.size v5 V) _ _ from step_move rfl (by exact ⟨_, rfl, by kernel_rfl⟩) _ rfl (by kernel_rfl))
    · exact (show StepAt _ _ _ _ _ _ (fun V => Bg V w.heap.size w.heap.size ad4 cap4 60 la ps4 L1 ∧ Below v5.heap.size v5 V) (fun V => Bg V w.heap.size w.heap.size ad4 cap4 60 la ps4 L1 ∧ Below v5.heap.size v5 V) _ _ from step_move rfl (by exact ⟨_, rfl, by kernel_rfl⟩) _ rfl (by kernel_rfl))
    · exact (show StepAt _ _ _ _ _ _ (fun V => Bg V w.heap.size w.heap.size ad4 cap4 60 la ps4 L1 ∧ Below v5.heap.size v5 V) (fun V => ∃ ad' cap' ps', Bg V w.heap.size w.heap.size ad' cap' 60 la ps' l ∧ Gs V u2.heap.size u2.heap.size (.slice (some ⟨b3, off3, none⟩) l.length cl3) l av3 ∧ Below w.heap.size w V) _ _ from step_call rfl (by exact ⟨_, rfl, by kernel_rfl⟩) 14 _ _ [(.pointer (some ⟨w.heap.size, 0, none⟩)), (.int .i64 (j : Int)), (.int .i64 (k : Int))] rfl (by kernel_rfl) (enters_of Try.func14 (by kernel_rfl) rfl) (fun v hw => by have hm2 := move_any hw.1 (j : Int) (k : Int); rw [hs3] at hm2; exact hm2.mono (by rintro e w' ⟨rfl, ad', cap', ps', hB', hT'⟩; exact ⟨rfl, ad', cap', ps', hB', (hw.1.sv hT').gs (hg5.carry hw.2), (bel2 k2 hw.2).trans (hw.1.below hT')⟩)))
    · exact (show StepAt _ _ _ _ _ _ (fun V => ∃ ad' cap' ps', Bg V w.heap.size w.heap.size ad' cap' 60 la ps' l ∧ Gs V u2.heap.size u2.heap.size (.slice (some ⟨b3, off3, none⟩) l.length cl3) l av3 ∧ Below w.heap.size w V) (fun V => ∃ ad' cap' ps', Bg V w.heap.size w.heap.size ad' cap' 60 la ps' l ∧ Gs V u2.heap.size u2.heap.size (.slice (some ⟨b3, off3, none⟩) l.length cl3) l av3 ∧ Below w.heap.size w V) _ _ from step_binOp rfl (by exact ⟨_, rfl, by kernel_rfl⟩) _ _ _ _ _ _ _ rfl rfl rfl (fun v hw => (bin_neq .i64 _ _).trans (by simp)))
    · exact (show StepAt _ _ _ _ _ _ (fun V => ∃ ad' cap' ps', Bg V w.heap.size w.heap.size ad' cap' 60 la ps' l ∧ Gs V u2.heap.size u2.heap.size (.slice (some ⟨b3, off3, none⟩) l.length cl3) l av3 ∧ Below w.heap.size w V) (fun V => ∃ ad' cap' ps', Bg V w.heap.size w.heap.size ad' cap' 60 la ps' l ∧ Gs V u2.heap.size u2.heap.size (.slice (some ⟨b3, off3, none⟩) l.length cl3) l av3 ∧ Below w.heap.size w V) _ _ from step_pick rfl trivial _ _ _ false rfl (by kernel_rfl) (by kernel_rfl))
  intro W hW
  first | refine hK _ _ ?_ | refine (‹∀ (a : Act) (w : World), Code.wp Try.prog _ _ a w → _›) _ _ ?_
  simp only [finL, List.getD_cons_zero, List.getD_cons_succ, Nat.zero_add, Nat.reduceAdd, List.setIfInBounds_toArray, List.set_cons_zero, List.set_cons_succ]
  obtain ⟨ad6, cap6, ps6, hB6, hg6, hb6⟩ := hW
  have haz := all_any hB6
  clear hK
  go_wp2_with (first | (go_at_call 11; (with_reducible refine haz.mono ?_); rintro e u7 ⟨v7, av7, rfl, hg7, hb7⟩; obtain ⟨al7, cl7, rfl⟩ := row_form hg7.row; have hg6' := hg6.carry hb7) | (go_at_call 8; (with_reducible refine (hal _).mono ?_); rintro e u8 ⟨rfl, hb8⟩; have hsb := sameBag_yes (some ⟨b3, off3, none⟩) al7 cl3 cl7 l u8 (hg6'.carry hb8).rd (hg7.carry hb8).rd hlb hdt) | (go_at_call 15; (with_reducible refine hsb.mono ?_); rintro e u9 ⟨rfl, hb9⟩))
  go_ret
  exact ⟨rfl, bel2 (bel2 (bel2 hb6 hb7) hb8) hb9⟩

set_option maxRecDepth 100000 in
theorem lifted (os : Os) (started : os.Started) (H : Type) (enc : TypeId × Value → H) :
    ReturnsInHanded {} Try.checked os 4 .any (Rows.bagMovedSpec.pre6 enc Try.prog Try.f4 Rows.bagMovedRow.domain false) (Rows.bagMovedSpec.post enc Try.prog Try.f4 false true false false) := by
  refine returnsInHanded_of_change (C := Try.checked) own started (by kernel_rfl) Try.func4
    (ChangeSpec.witness6 (enc := enc) (C := Try.checked) false ⟨#[], #[.slice none 0 0, .int .i64 0, .int .i64 0], []⟩ 8 (by kernel_rfl) (by kernel_rfl) (by kernel_rfl) (by kernel_rfl)) ?_
  intro W base args ds gs before hval0 hW hcnd _
  have hval : ∀ (j : Nat) t v, Try.f4.params[j]? = some t → args[j]? = some v → Value.okWide Try.prog W .any base t v := hval0
  have hW' := hW
  obtain ⟨p, q, hA0, hV, rfl, hfz, hnd⟩ := hW
  have hA : DataW.TrodAll enc Try.prog W 0 (fun _ => true) true Try.f4.params.toList args.toList ds p := hA0
  rw [Try.params4] at hA hval
  obtain ⟨v0, vs0, d0, ds0, p0, q0, hargs, rfl, rfl, h0, r0⟩ := trodAll_cons hA
  obtain ⟨v1, vs1, d1, ds1, p1, q1, rfl, rfl, rfl, h1, r1⟩ := trodAll_cons r0
  obtain ⟨v2, vs2, d2, ds2, p2, q2, rfl, rfl, rfl, h2, r2⟩ := trodAll_cons r1
  obtain ⟨rfl, rfl, rfl⟩ := trodAll_nil r2
  obtain rfl : args = #[v0, v1, v2] := by cases args; simp_all
  obtain ⟨rfl, rfl⟩ := trodVars_none hV
  have k0 := h0
  have lt0 : ∀ x ∈ p0, x.block < W.heap.size := by obtain ⟨m, hm⟩ := k0; exact DataW.trod_lt m _ _ _ hm
  obtain ⟨ad0, cap0, l0, rfl, w0, hc0, hm0⟩ := open_ops (hval 0 22 v0 rfl rfl) h0
  obtain ⟨a1, rfl, rfl, rfl, w1⟩ := open_int Try.underlying3 (hval 1 3 v1 rfl rfl) h1
  obtain ⟨a2, rfl, rfl, rfl, w2⟩ := open_int Try.underlying3 (hval 2 3 v2 rfl rfl) h2
  clear hA0 hval0
  refine (walk W ad0 cap0 l0 w0 hc0 hm0 a1 w1 a2 w2).mono fun e W' ⟨he, hg⟩ => ?_
  subst he
  exact ⟨_, rfl, _, _, _, [], _, [], hW', (trodAll_cons_mk (shut_bool Try.underlying4 _) trodAll_mk0), (trodAll_cons_mk (Below.trod laidOut (by kernel_rfl) (of_decide_eq_true (by kernel_rfl)) k0 hg lt0) (trodAll_cons_mk (shut_int Try.underlying3 w1) (trodAll_cons_mk (shut_int Try.underlying3 w2) trodAll_mk0))), rfl, hg.frame _, fun h => by cases h⟩

theorem over : Rows.bagMovedRow.holds Try.pinned (OpenSpec.ofChange Rows.bagMovedSpec) :=
  OpenClaim.holds_of_wide 4 Try.f4 rfl rfl rfl rfl rfl rfl rfl ⟨rfl, rfl, rfl, rfl, rfl⟩ rfl rfl rfl rfl rfl (by kernel_rfl) Try.func4 (by kernel_rfl)
    (of_decide_eq_true (by kernel_rfl)) (by unfold Func.isWrapper; first | (rw [if_pos (by decide +kernel)]; kernel_rfl) | (rw [if_neg (by decide +kernel)]; exact ⟨rfl, rfl⟩))
    (fun os started H enc _ => lifted os started H enc)

theorem proved : Rows.BagMovedSaid :=
  over
#print axioms proved
end Go.Proofs.Ytenahcdmdhlieaa
