/- earshotbook's growBytes: all kept lists are grown, into new memory. -/
import Derived.Test.YtoplegfibdmjeaaDoorSme
import Derived.ArgAppend
namespace Go.Proofs.YtoplegfibdmjeaaDoor
open Go.RowKit Go.Shelf Go.Lib

theorem below_grown {W V : World} (h : W.grownBy V none) : Below W.heap.size W V := ⟨h.os, h.tape, h.output, h.size, fun q hq => h.block q hq (by simp)⟩
/-- Lists of a row that are one's own, and marked. -/
def Gkd (base : Nat) (W : World) (xs : List Value) : Prop := ∀ (i : Nat) (z : Value), xs[i]? = some z → ∃ n, W.ownsRow base 3 1 z n (cB (mkB i 0 n)) ∧ n ≤ 5000
theorem Gkd.mkd {base : Nat} {W : World} {xs : List Value} (h : Gkd base W xs) : Mkd W xs := fun i z hz => by
  obtain ⟨n, h1, h2⟩ := h i z hz
  obtain ⟨a, c, e, _⟩ := ownsRow_form h1
  subst e
  exact ⟨a, n, c, rfl, (RdY.own (base := base) (c := c) (by rw [mkB_len]; exact h1)).rd, h2⟩
theorem Gkd.carry {base : Nat} {W V : World} {xs : List Value} (h : Gkd base W xs) (hb : Below W.heap.size W V) : Gkd base V xs := fun i z hz => by
  obtain ⟨n, h1, h2⟩ := h i z hz
  exact ⟨n, row_below h1 hb, h2⟩
theorem row_grown {base base' : Nat} {W V : World} {z uo : Value} {n k : Nat} {xs ys : List Value} (h : W.ownsRow base 3 1 z n xs) (hg : W.grownBy V uo.ownBlock) (hr : W.ownsRow base' 42 1 uo k ys) : V.ownsRow base 3 1 z n xs :=
  row_apart2 h hg (fun b e1 e2 => by
    obtain ⟨_, c1, q1⟩ := ownsRow_block h b e2
    obtain ⟨_, c2, q2⟩ := ownsRow_block hr b e1
    rw [q1] at q2
    simp only [Option.some.injEq, Obj.cells.injEq] at q2
    exact absurd q2.2.1 (by decide))
theorem Gkd.grown {base base' : Nat} {W V : World} {uo : Value} {k : Nat} {xs ys : List Value} (h : Gkd base W xs) (hg : W.grownBy V uo.ownBlock) (hr : W.ownsRow base' 42 1 uo k ys) : Gkd base V xs := fun i z hz => by
  obtain ⟨n, h1, h2⟩ := h i z hz
  exact ⟨n, row_grown h1 hg hr, h2⟩
set_option maxHeartbeats 8000000 in
set_option maxRecDepth 100000 in
theorem grow_any {base bb : Nat} {w : World} {u v : Value} {x : List Value} {L : List (List Int)} {G : List (Option Nat)} (h : Kl base bb w u v x L G) (hm : ∀ (j : Nat) (l : List Int), L[j]? = some l → l = mkB j 0 l.length) : Calls Tryd.prog 45 #[.pointer (some ⟨bb, 0, none⟩)] w fun e w' => ∃ uo, e = .returned uo ∧ ∃ O, w'.ownsRow w.heap.size 42 1 uo L.length O ∧ Mkd w' O ∧ Below w.heap.size w w' := by
  obtain ⟨ic, hic, hz0, hz1, hz2⟩ := info_parts infoInt
  obtain ⟨is, his, hs0, hs1, hs2⟩ := info_partsS
  obtain ⟨au, cu, eu, _⟩ := ownsRow_form h.row
  subst eu
  have hk4 := h.k
  have m8 : ∀ V, Below w.heap.size w V → V.cell? ⟨bb, 0, none⟩ = some (.slice au L.length cu) := fun V hV => by
    rw [cell_at ((hV.block _ (lt_at h.kb)).trans h.kb)]
    rfl
  go_enter Tryd.func45, Tryd.ntmps45
  go_wp2
  go_loopw [3, 4] (fun o i wz => ∃ (k : Nat) (O : List Value), i = .int .i64 (k : Int) ∧ k ≤ L.length ∧ wz.ownsRow w.heap.size 42 1 o k O ∧ Gkd w.heap.size wz O ∧ Below w.heap.size w wz) (fun _ i _ => L.length - vnat i)
  case atStart => exact ⟨0, [], rfl, Nat.zero_le _, ⟨rfl, .inl ⟨rfl, rfl⟩⟩, fun i z hz => (by cases hz), Below.refl _ _⟩
  case round =>
    obtain ⟨k, O, rfl, hk, hro, hgk, hbw⟩ := hrel
    obtain ⟨ao, co, eo, _⟩ := ownsRow_form hro
    subst eo
    have mm := m8 _ hbw
    have hOl : O.length = k := by have := hro.1; omega
    by_cases hkl : k < L.length
    case neg =>
      have hki : ¬ (k : Int) < (L.length : Int) := by omega
      obtain rfl : k = L.length := by omega
      go_wp2
      go_ret
      exact ⟨_, rfl, O, hro, hgk.mkd, hbw⟩
    have hki : (k : Int) < (L.length : Int) := by omega
    obtain ⟨l, hl⟩ : ∃ l, L[k]? = some l := ⟨_, List.getElem?_eq_getElem hkl⟩
    obtain ⟨gu, cu', z, gi, e1, c1, hxz, hGk, hfl, hby, hln⟩ := (h.carry hbw).cell hl
    simp only [Value.slice.injEq] at e1
    obtain ⟨rfl, _, rfl⟩ := e1
    obtain ⟨adx, rfl, hrx, hnx⟩ := hfl.form
    have hml := hm k l hl
    obtain ⟨N, hN⟩ : ∃ N, l.length = N := ⟨_, rfl⟩
    rw [hN] at hml hln hnx c1
    rw [hml] at hrx
    have hsz0 := hbw.size
    obtain ⟨sz, hsz⟩ : ∃ sz, wr.heap.size = sz := ⟨_, rfl⟩
    have hbo : ∀ V, Below sz wr V → V.heap.size ≥ sz := fun V hV => by have := hV.size; omega
    obtain ⟨wo, hwo⟩ : ∃ wo, wr = wo := ⟨_, rfl⟩
    have hbwo : Below w.heap.size w wo := by rw [← hwo]; exact hbw
    have hroo : wo.ownsRow w.heap.size 42 1 (.slice ao k co) k O := by rw [← hwo]; exact hro
    have hgko : Gkd w.heap.size wo O := by rw [← hwo]; exact hgk
    have hrxo : RdB wo adx (mkB k 0 N) := by rw [← hwo]; exact hrx
    have hszo : wo.heap.size = sz := by rw [← hwo]; exact hsz
    have hstart : Below sz wo wr := by rw [hwo]; exact Below.refl _ _
    clear hbo hsz0 hbw hro hgk hrx hfl hl hml hby hxz hGk hm hwo hsz
    go_wp2
    clear mm c1
    go_loopw [5, 6] (fun a i wz => ∃ n : Nat, i = .int .i64 (n : Int) ∧ n ≤ 16 ∧ ((n = 0 ∧ a = .slice adx N N) ∨ (1 ≤ n ∧ wz.ownsRow sz 3 1 a (N + n) (cB (mkB k 0 (N + n))))) ∧ Below sz wo wz) (fun _ i _ => 16 - vnat i)
    case atStart => exact ⟨0, rfl, by omega, .inl ⟨rfl, rfl⟩, hstart⟩
    case round =>
      obtain ⟨n, rfl, hn, hcase, hbz⟩ := hrel
      have hsw := hbz.size
      by_cases hn16 : n < 16
      · have hni : (n : Int) < 16 := by omega
        rcases hcase with ⟨rfl, rfl⟩ | ⟨h1n, hra⟩
        · have hmk : Calls Tryd.prog 82 #[.int .i64 (k : Int), .int .i64 (N : Int), .int .i64 1] wr (fun e w' => ∃ v, e = .returned v ∧ w'.ownsRow wr.heap.size 3 1 v 1 (cB (mkB k N 1)) ∧ Below wr.heap.size wr w') := mark_any k N 1 (by omega) (by omega) (by omega) wr
          go_wp2_with (first | (go_at_call 82; (with_reducible refine hmk.mono ?_); rintro e va ⟨vm, rfl, hrm, hba⟩; obtain ⟨gm, cm, em⟩ := own_some hrm (by omega); subst em; have hbA : Below sz wo va := hbz.trans (hba.mono (by omega)); have hsa := hba.size) | (at_builtin; refine wpList_append_grows _ rfl _ _ 42 rfl 3 ic _ 1 8 Tryd.underlying42 hic hz0 hz1 hz2 rfl (by decide) adx N N (cB (mkB k 0 N)) rfl (fun q => ⟨hnx q, hnx q⟩) (by rw [cB_len, mkB_len, Nat.mul_one]) (fun bq hq j uq hj => (by subst hq; obtain ⟨b', off', e2, hbl, hat⟩ := (hrxo.carry (hbA.mono (by omega))) (fun q => by rw [q] at hj; cases hj); cases e2; exact b_src hat j uq hj)) ⟨gm, 0, none⟩ 1 cm (cB (mkB k N 1)) rfl (by rw [cB_len, mkB_len]) (b_src (b_own hrm (mkB_len k N 1).symm)) (cB_one _) (by omega) (by unfold maxLen; omega) (by omega) ?_; intro v' w2 hown' hgrow))
          go_roundw
          case rel =>
            refine ⟨1, by simp, by omega, .inr ⟨by omega, ?_⟩, hbA.trans ((below_grown hgrow).mono (by omega))⟩
            have e3 := mkB_app k 0 N 1
            rw [Nat.zero_add] at e3
            rw [← e3, cB_app]
            exact row_base hown' (by omega)
          case measure => simp [vnat]
        · obtain ⟨ga, ca, ea⟩ := own_some hra (by omega)
          subst ea
          obtain ⟨M, hM⟩ : ∃ M, N + n = M := ⟨_, rfl⟩
          have HM : Hid (N + n = M) := hM
          rw [hM] at hra ⊢
          have hM2 : M ≤ 2000 := by omega
          clear hM
          have hmk : Calls Tryd.prog 82 #[.int .i64 (k : Int), .int .i64 (M : Int), .int .i64 1] wr (fun e w' => ∃ v, e = .returned v ∧ w'.ownsRow wr.heap.size 3 1 v 1 (cB (mkB k M 1)) ∧ Below wr.heap.size wr w') := mark_any k M 1 (by omega) (by omega) (by omega) wr
          go_wp2_with (first | (go_at_call 82; (with_reducible refine hmk.mono ?_); rintro e va ⟨vm, rfl, hrm, hba⟩; obtain ⟨gm, cm, em⟩ := own_some hrm (by omega); subst em; have hbA : Below sz wo va := hbz.trans (hba.mono (by omega)); have hsa := hba.size; have hra2 := row_below hra hba) | (at_builtin; refine wpList_append_own _ rfl _ _ 42 rfl sz 3 ic _ 1 8 Tryd.underlying42 hic hz0 hz1 hz2 rfl (by decide) _ M (cB (mkB k 0 M)) rfl hra2 ⟨gm, 0, none⟩ 1 cm (cB (mkB k M 1)) rfl (by rw [cB_len, mkB_len]) (b_src (b_own hrm (mkB_len k M 1).symm)) (cB_one _) (by unfold maxLen; omega) (by omega) (by omega) ?_; intro v' w2 hown' hgrow _; have hbB : Below sz wo w2 := hbA.grown hgrow (by omega) (fun q e => own_block hra2 q e)))
          go_roundw
          case rel =>
            refine ⟨n + 1, by simp, by omega, .inr ⟨by omega, ?_⟩, hbB⟩
            have e3 := mkB_app k 0 M 1
            rw [Nat.zero_add] at e3
            have e4 := HM.out
            rw [show N + (n + 1) = M + 1 by omega, ← e3, cB_app]
            exact hown'
          case measure => simp [vnat]; omega
      · obtain rfl : n = 16 := by omega
        rcases hcase with ⟨q, _⟩ | ⟨_, hra⟩
        · cases q
        have hni : ¬ ((16 : Nat) : Int) < 16 := by omega
        obtain ⟨ga, ca, ea⟩ := own_some hra (by omega)
        subst ea
        obtain ⟨M, hM⟩ : ∃ M, N + 16 = M := ⟨_, rfl⟩
        rw [hM] at hra ⊢
        have hM2 : M ≤ 2000 := by omega
        clear hM
        have hbs := bs_bys
        have hmk : Calls Tryd.prog 82 #[.int .i64 (k : Int), .int .i64 (M : Int), .int .i64 80] wr (fun e w' => ∃ v, e = .returned v ∧ w'.ownsRow wr.heap.size 3 1 v 80 (cB (mkB k M 80)) ∧ Below wr.heap.size wr w') := mark_any k M 80 (by omega) (by omega) (by omega) wr
        have hszw := hbwo.size
        go_wp2_with (first | (go_at_call 82; (with_reducible refine hmk.mono ?_); rintro e va ⟨vm, rfl, hrm, hba⟩; obtain ⟨gm, cm, em⟩ := own_some hrm (by omega); subst em; have hbA : Below sz wo va := hbz.trans (hba.mono (by omega)); have hsa := hba.size; have hra2 := row_below hra hba) | (at_builtin; refine wpList_append_own _ rfl _ _ 42 rfl sz 3 ic _ 1 8 Tryd.underlying42 hic hz0 hz1 hz2 rfl (by decide) _ M (cB (mkB k 0 M)) rfl hra2 ⟨gm, 0, none⟩ 80 cm (cB (mkB k M 80)) rfl (by rw [cB_len, mkB_len]) (b_src (b_own hrm (mkB_len k M 80).symm)) (cB_one _) (by unfold maxLen; omega) (by omega) (by omega) ?_; intro v' w2 hown' hgrow _; have hbB : Below sz wo w2 := hbA.grown hgrow (by omega) (fun q e => own_block hra2 q e); obtain ⟨g', c', e'⟩ := own_some hown' (by omega); subst e'; have hbC : Below sz wo (w2.alloc (.cells #[.slice (some ⟨g', 0, none⟩) (M + 80) c'] 42)) := hbB.alloc (by have := hbB.size; omega) _; have hro3 := row_below hroo (hbC.mono (by omega)); have hgk3 := hgko.carry (hbC.mono (by omega)); have hown3 := hown'.alloc (.cells #[.slice (some ⟨g', 0, none⟩) (M + 80) c'] 42)) | (at_builtin; refine wpList_append_own _ rfl _ _ 25 rfl w.heap.size 42 is _ 1 24 Tryd.underlying25 his hs0 hs1 hs2 rfl (by decide) _ k O rfl hro3 ⟨w2.heap.size, 0, none⟩ 1 1 [_] rfl rfl (rowN _ #[_] _) (by simp [Value.oneCell']) (by unfold maxLen; omega) (by omega) (by have := hbB.size; simp; omega) ?_; intro v2 w4 hown4 hgrow4 _))
        go_roundw
        case rel =>
          refine ⟨k + 1, O ++ [.slice (some ⟨g', 0, none⟩) (M + 80) c'], by simp, by omega, hown4, ?_, ?_⟩
          · intro i z hz
            rcases Nat.lt_or_ge i k with q | q
            · rw [List.getElem?_append_left (by omega)] at hz
              exact (hgk3.grown hgrow4 hro3) i z hz
            · have hik : i = k := by
                have := (List.getElem?_eq_some_iff.1 hz).1
                simp at this
                omega
              subst hik
              rw [List.getElem?_append_right (by omega), hOl, Nat.sub_self] at hz
              cases hz
              refine ⟨M + 80, ?_, by omega⟩
              have e3 := mkB_app i 0 M 80
              rw [Nat.zero_add] at e3
              rw [← e3, cB_app]
              exact row_grown (row_base hown3 (by omega)) hgrow4 hro3
          · exact (hbwo.trans (hbC.mono (by omega))).grown hgrow4 (by have := hbC.size; omega) (fun q e => own_block hro3 q e)
        case measure => simp [vnat]; omega
end Go.Proofs.YtoplegfibdmjeaaDoor
