/- earshotbook's markedBytes: where all are marked. -/
import Derived.Test.YtoplegfibdmjeaaDoorSmb
namespace Go.Proofs.YtoplegfibdmjeaaDoor
open Go.RowKit Go.Shelf Go.Lib

/-- All lists of a row are marked. -/
def Mkd (W : World) (xs : List Value) : Prop := ∀ (i : Nat) (z : Value), xs[i]? = some z → ∃ ad n c, z = .slice ad n c ∧ RdB W ad (mkB i 0 n) ∧ n ≤ 5000
theorem Mkd.carry {W V : World} {xs : List Value} (h : Mkd W xs) (hb : Below W.heap.size W V) : Mkd V xs := fun i z hz => by
  obtain ⟨ad, n, c, e, h1, h2⟩ := h i z hz
  exact ⟨ad, n, c, e, h1.carry hb, h2⟩
set_option maxHeartbeats 4000000 in
set_option maxRecDepth 100000 in
theorem marked_any {base k : Nat} {w : World} {uu : Value} {xs : List Value} (h : w.ownsRow base 42 1 uu k xs) (hm : Mkd w xs) (hk : k ≤ 400) : Calls Tryd.prog 57 #[uu] w fun e w' => e = .returned (.bool true) ∧ Below w.heap.size w w' := by
  have hmx : Tryd.prog.follows .mixedOrders = true := by kernel_rfl
  obtain ⟨au, cu, eu, _⟩ := ownsRow_form h
  subst eu
  have hlen : xs.length = k := by have := h.1; omega
  go_enter Tryd.func57, Tryd.ntmps57
  go_wp2
  go_loopw [3] (fun i wz => ∃ j : Nat, i = .int .i64 (j : Int) ∧ j ≤ k ∧ Below w.heap.size w wz) (fun i _ => k - vnat i)
  case atStart => exact ⟨0, rfl, Nat.zero_le _, Below.refl _ _⟩
  case round =>
    obtain ⟨j, rfl, hj, hb⟩ := hrel
    by_cases hjk : j < k
    · have hji : (j : Int) < (k : Int) := by omega
      obtain ⟨z, hz⟩ : ∃ z, xs[j]? = some z := ⟨_, List.getElem?_eq_getElem (by omega)⟩
      obtain ⟨adx, n, c, rfl, hrx, hn⟩ := hm j z hz
      obtain ⟨gu, cu', e1⟩ := own_some h (by omega)
      cases e1
      have c1 : w.cell? ⟨gu, j, none⟩ = some (.slice adx n c) := (h.cellAt _ (by omega)).trans hz
      have hgu := cell_ltO c1
      go_wp2
      rename_i hK
      refine wp_region_any hmx ?_
      refine wpAny_tabG (G := Value) (fun g i__ => ([(.slice (some ⟨gu, 0, none⟩) k cu), (.int .i64 (j : Int)), (.pointer (some ⟨gu, j, none⟩)), (.slice adx n c), (.int .i64 (j : Int)), (.slice (some ⟨gu, 0, none⟩) k cu), (.int .i64 (j : Int)), (.pointer (some ⟨gu, j, none⟩)), (.slice adx n c), (.int .i64 (n : Int)), g, (.bool true), (.bool false)] : List Value).getD i__ undef) (fun g d V => Below w.heap.size w V ∧ (d 10 = true → V.ownsRow w.heap.size 3 1 g n (cB (mkB j 0 n)))) (by kernel_rfl) (undef) (⟨hb.drew, fun q => by cases q⟩) ?step2 ?fin2
      case step2 =>
        intro i o ho
        have hi : i < 13 := getElem?_lt ho
        match i, hi, ho with
        | 0, _, ho =>
          cases ho
          refine stepG_of (fun g d hdep => ?_)
          exact step_move rfl trivial _ rfl (by kernel_rfl)
        | 1, _, ho =>
          cases ho
          refine stepG_of (fun g d hdep => ?_)
          exact step_move rfl trivial _ rfl (by kernel_rfl)
        | 2, _, ho =>
          cases ho
          refine stepG_of (fun g d hdep => ?_)
          exact step_indexAddr rfl trivial _ _ _ _ _ rfl rfl rfl (fun v hw => idx_ss gu _ _ j hjk v)
        | 3, _, ho =>
          cases ho
          refine stepG_of (fun g d hdep => ?_)
          exact step_load rfl trivial _ _ _ rfl rfl (fun v hw => load_s1 ((hw.1.cell (p := ⟨gu, j, none⟩) hgu).trans c1))
        | 4, _, ho =>
          cases ho
          refine stepG_of (fun g d hdep => ?_)
          exact step_move rfl trivial _ rfl (by kernel_rfl)
        | 5, _, ho =>
          cases ho
          refine stepG_of (fun g d hdep => ?_)
          exact step_move rfl trivial _ rfl (by kernel_rfl)
        | 6, _, ho =>
          cases ho
          refine stepG_of (fun g d hdep => ?_)
          exact step_move rfl trivial _ rfl (by kernel_rfl)
        | 7, _, ho =>
          cases ho
          refine stepG_of (fun g d hdep => ?_)
          exact step_indexAddr rfl trivial _ _ _ _ _ rfl rfl rfl (fun v hw => idx_ss gu _ _ j hjk v)
        | 8, _, ho =>
          cases ho
          refine stepG_of (fun g d hdep => ?_)
          exact step_load rfl trivial _ _ _ rfl rfl (fun v hw => load_s1 ((hw.1.cell (p := ⟨gu, j, none⟩) hgu).trans c1))
        | 9, _, ho =>
          cases ho
          refine stepG_of (fun g d hdep => ?_)
          exact step_bi rfl trivial _ _ _ [(.slice adx n c)] rfl (by kernel_rfl) (fun bs v hw => bi_lenb _ bs _ _ _ v)
        | 10, _, ho =>
          cases ho
          exact stepG_call rfl (fun _ => trivial) 82 _ _ (fun _ => [.int .i64 (j : Int), .int .i64 0, .int .i64 (n : Int)]) rfl (fun g => by kernel_rfl) (enters_of Tryd.func82 (by kernel_rfl) rfl) (fun g d V hJ hun hdep hcl => (mark_any j 0 n (by omega) (by omega) hn V).mono (by rintro e V' ⟨v', rfl, hro, hb'⟩; refine ⟨v', rfl, (fun j hj => match j, hj with | 10, hj => (by rw [hj] at hun; cases hun)  | 0, _ => rfl | 1, _ => rfl | 2, _ => rfl | 3, _ => rfl | 4, _ => rfl | 5, _ => rfl | 6, _ => rfl | 7, _ => rfl | 8, _ => rfl | 9, _ => rfl | 11, _ => rfl | 12, _ => rfl | _ + 13, _ => rfl), ?_⟩; exact ⟨bel2 hJ.1 hb', fun _ => row_base hro hJ.1.size⟩))
        | 11, _, ho =>
          cases ho
          refine stepG_of (fun g d hdep => ?_)
          exact step_call rfl trivial 6 _ _ [(.slice adx n c), g] rfl (by kernel_rfl) (enters_of Tryd.func6 (by kernel_rfl) rfl) (fun v hw => by have h1 : d 10 = true := hdep 10 (by kernel_rfl); have ho := hw.2 h1; obtain ⟨a', c', e', _⟩ := ownsRow_form ho; subst e'; have hq := sameB_yes adx a' c c' (mkB j 0 n) v (hrx.carry hw.1) (RdY.own (base := w.heap.size) (c := c') (by rw [mkB_len]; exact ho)).rd (by rw [mkB_len]; omega); rw [mkB_len] at hq; exact hq.mono (by rintro e w' ⟨rfl, hb'⟩; exact ⟨rfl, bel2 hw.1 hb', fun _ => row_below ho hb'⟩))
        | 12, _, ho =>
          cases ho
          refine stepG_of (fun g d hdep => ?_)
          exact step_unOp rfl trivial _ _ _ _ rfl rfl (fun v hw => un_not true v)
      intro g d W hall hW
      first | refine hK _ _ ?_ | refine (‹∀ (a : Act) (w : World), Code.wp Tryd.prog _ _ a w → _›) _ _ ?_ | skip
      simp only [finL, List.getD_cons_zero, List.getD_cons_succ, Nat.zero_add, Nat.reduceAdd, List.setIfInBounds_toArray, List.set_cons_zero, List.set_cons_succ]
      have hWb := hW.1
      clear hK hall hW
      go_wp2
      go_roundw
      case rel => exact ⟨j + 1, by simp, by omega, hWb⟩
      case measure => simp [vnat]; omega
    · have hji : ¬ (j : Int) < (k : Int) := by omega
      go_wp2
      go_ret
      exact ⟨rfl, hb⟩
end Go.Proofs.YtoplegfibdmjeaaDoor
