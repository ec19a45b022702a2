/- earshotbook's markedSets: where all are marked. -/
import Derived.Test.YtcdefcaoocnlbaaZmb
namespace Go.Proofs.Ytcdefcaoocnlbaa
open Go.RowKit Go.Shelf Go.Lib

/-- All lists of a row are marked. -/
def Mkn (W : World) (xs : List Value) : Prop := ∀ (i : Nat) (z : Value), xs[i]? = some z → ∃ ad n c, z = .slice ad n c ∧ RdS W ad (mkM i 0 n) ∧ n ≤ 5000
theorem Mkn.carry {W V : World} {xs : List Value} (h : Mkn W xs) (hb : Below W.heap.size W V) : Mkn V xs := fun i z hz => by
  obtain ⟨ad, n, c, e, h1, h2⟩ := h i z hz
  exact ⟨ad, n, c, e, h1.carry hb, h2⟩
theorem own_rdm {base : Nat} {W : World} {z : Value} {i n : Nat} (h : W.ownsRow base 24 4 z n (fs (mkM i 0 n))) : ∃ ad c, z = .slice ad n c ∧ RdS W ad (mkM i 0 n) := by
  have h2 : W.ownsRow base 24 4 z (mkM i 0 n).length (fs (mkM i 0 n)) := by rw [mkM_len]; exact h
  obtain ⟨ad, c, e, hr⟩ := own_rd h2
  rw [mkM_len] at e
  exact ⟨ad, c, e, hr⟩
set_option maxHeartbeats 4000000 in
set_option maxRecDepth 100000 in
theorem markedn_any {base k : Nat} {w : World} {uu : Value} {xs : List Value} (h : w.ownsRow base 31 1 uu k xs) (hm : Mkn w xs) (hk : k ≤ 400) : Calls Try.prog 74 #[uu] w fun e w' => e = .returned (.bool true) ∧ Below w.heap.size w w' := by
  have hmx : Try.prog.follows .mixedOrders = true := by kernel_rfl
  obtain ⟨au, cu, eu, _⟩ := ownsRow_form h
  subst eu
  have hlen : xs.length = k := by have := h.1; omega
  go_enter Try.func74, Try.ntmps74
  go_wp2
  go_loopw [3] (fun i wz => ∃ j : Nat, i = .int .i64 (j : Int) ∧ j ≤ k ∧ Below w.heap.size w wz) (fun i _ => k - vnatR i)
  case atStart => exact ⟨0, rfl, Nat.zero_le _, Below.refl _ _⟩
  case round =>
    obtain ⟨j, rfl, hj, hb⟩ := hrel
    by_cases hjk : j < k
    · have hji : (j : Int) < (k : Int) := by omega
      obtain ⟨z, hz⟩ : ∃ z, xs[j]? = some z := ⟨_, List.getElem?_eq_getElem (by omega)⟩
      obtain ⟨adx, n, c, rfl, hrx, hn⟩ := hm j z hz
      rcases own_form h with ⟨_, e⟩ | ⟨gu, cu', e1, _⟩
      · omega
      cases e1
      have c1 : w.cell? ⟨gu, j, none⟩ = some (.slice adx n c) := (h.cellAt _ (by omega)).trans hz
      have hgu := cell_ltO c1
      go_wp2
      rename_i hK
      refine wp_region_any hmx ?_
      refine wpAny_tabG (G := Value) (fun g i__ => ([(.slice (some ⟨gu, 0, none⟩) k cu), (.int .i64 (j : Int)), (.pointer (some ⟨gu, j, none⟩)), (.slice adx n c), (.int .i64 (j : Int)), (.slice (some ⟨gu, 0, none⟩) k cu), (.int .i64 (j : Int)), (.pointer (some ⟨gu, j, none⟩)), (.slice adx n c), (.int .i64 (n : Int)), g, (.bool true), (.bool false)] : List Value).getD i__ undef) (fun g d V => Below w.heap.size w V ∧ (d 10 = true → V.ownsRow w.heap.size 24 4 g n (fs (mkM j 0 n)))) (by kernel_rfl) (undef) (⟨hb.drew, fun q => by cases q⟩) ?step1 ?fin1
      case step1 =>
        intro i o ho
        have hi : i < 13 := getElem?_lt ho
        match i, hi, ho with
        | 0, _, ho =>
          cases ho
          refine stepG_of (fun g d hdep => ?_)
          exact step_move rfl trivial _ rfl (by kernel_rfl)
        | 1, _, ho =>
          cases ho
          refine stepG_of (fun g d hdep => ?_)
          exact step_move rfl trivial _ rfl (by kernel_rfl)
        | 2, _, ho =>
          cases ho
          refine stepG_of (fun g d hdep => ?_)
          exact step_indexAddr rfl trivial _ _ _ _ _ rfl rfl rfl (fun v hw => idx_nn gu _ _ j hjk v)
        | 3, _, ho =>
          cases ho
          refine stepG_of (fun g d hdep => ?_)
          exact step_load rfl trivial _ _ _ rfl rfl (fun v hw => load_nl ((hw.1.cell (p := ⟨gu, j, none⟩) hgu).trans c1))
        | 4, _, ho =>
          cases ho
          refine stepG_of (fun g d hdep => ?_)
          exact step_move rfl trivial _ rfl (by kernel_rfl)
        | 5, _, ho =>
          cases ho
          refine stepG_of (fun g d hdep => ?_)
          exact step_move rfl trivial _ rfl (by kernel_rfl)
        | 6, _, ho =>
          cases ho
          refine stepG_of (fun g d hdep => ?_)
          exact step_move rfl trivial _ rfl (by kernel_rfl)
        | 7, _, ho =>
          cases ho
          refine stepG_of (fun g d hdep => ?_)
          exact step_indexAddr rfl trivial _ _ _ _ _ rfl rfl rfl (fun v hw => idx_nn gu _ _ j hjk v)
        | 8, _, ho =>
          cases ho
          refine stepG_of (fun g d hdep => ?_)
          exact step_load rfl trivial _ _ _ rfl rfl (fun v hw => load_nl ((hw.1.cell (p := ⟨gu, j, none⟩) hgu).trans c1))
        | 9, _, ho =>
          cases ho
          refine stepG_of (fun g d hdep => ?_)
          exact step_bi rfl trivial _ _ _ [(.slice adx n c)] rfl (by kernel_rfl) (fun bs v hw => bi_lennn _ bs _ _ _ v)
        | 10, _, ho =>
          cases ho
          exact stepG_call rfl (fun _ => trivial) 107 _ _ (fun _ => [.int .i64 (j : Int), .int .i64 0, .int .i64 (n : Int)]) rfl (fun g => by kernel_rfl) (enters_of Try.func107 (by kernel_rfl) rfl) (fun g d V hJ hun hdep hcl => (markn_any j 0 n (by omega) (by omega) hn V).mono (by rintro e V' ⟨v', rfl, hro, hb'⟩; refine ⟨v', rfl, (fun j hj => match j, hj with | 10, hj => (by rw [hj] at hun; cases hun)  | 0, _ => rfl | 1, _ => rfl | 2, _ => rfl | 3, _ => rfl | 4, _ => rfl | 5, _ => rfl | 6, _ => rfl | 7, _ => rfl | 8, _ => rfl | 9, _ => rfl | 11, _ => rfl | 12, _ => rfl | _ + 13, _ => rfl), ?_⟩; exact ⟨bel2 hJ.1 hb', fun _ => row_base hro hJ.1.size⟩))
        | 11, _, ho =>
          cases ho
          refine stepG_of (fun g d hdep => ?_)
          exact step_call rfl trivial 95 _ _ [(.slice adx n c), g] rfl (by kernel_rfl) (enters_of Try.func95 (by kernel_rfl) rfl) (fun v hw => by have h1 : d 10 = true := hdep 10 (by kernel_rfl); have ho := hw.2 h1; obtain ⟨a', c', e', hr'⟩ := own_rdm ho; have hq := sameS_any adx a' c c' (mkM j 0 n) v (hrx.carry hw.1) hr' (by rw [mkM_len]; omega); rw [mkM_len] at hq; show Calls Try.prog _ [Value.slice adx n c, g].toArray v _; rw [e'] at ho ⊢; exact hq.mono (by rintro e w' ⟨rfl, hb'⟩; exact ⟨rfl, bel2 hw.1 hb', fun _ => row_below ho hb'⟩))
        | 12, _, ho =>
          cases ho
          refine stepG_of (fun g d hdep => ?_)
          exact step_unOp rfl trivial _ _ _ _ rfl rfl (fun v hw => un_not true v)
      intro g d W hall hW
      first | refine hK _ _ ?_ | refine (‹∀ (a : Act) (w : World), Code.wp Try.prog _ _ a w → _›) _ _ ?_ | skip
      simp only [finL, List.getD_cons_zero, List.getD_cons_succ, Nat.zero_add, Nat.reduceAdd, List.setIfInBounds_toArray, List.set_cons_zero, List.set_cons_succ]
      have hWb := hW.1
      clear hK hall hW
      go_wp2
      go_roundw
      case rel => exact ⟨j + 1, by simp, by omega, hWb⟩
      case measure => simp [vnatR]; omega
    · have hji : ¬ (j : Int) < (k : Int) := by omega
      go_wp2
      go_ret
      exact ⟨rfl, hb⟩
end Go.Proofs.Ytcdefcaoocnlbaa
