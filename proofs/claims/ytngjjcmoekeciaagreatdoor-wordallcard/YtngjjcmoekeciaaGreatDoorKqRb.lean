/- Rows of words that are kept: marked, looked at, compared. -/
import Derived.Test.YtngjjcmoekeciaaGreatDoorKqTokens
import Derived.Test.YtngjjcmoekeciaaGreatDoorKqRa
namespace Go.Proofs.YtngjjcmoekeciaaGreatDoor.Kel
open Go.RowKit Go.Shelf Go.Lib
set_option linter.unusedVariables false

/-- What words a slice shows. -/
structure HdR (W : World) (h : tRows) (l : List tTokens) : Prop where
  n : h.2.1 = l.length
  r : RdF W h.1 (fc cTokens l)
  m : l.length ≤ 4611686018427387904
  ty : l ≠ [] → ∃ b off cur, h.1 = some ⟨b, off, none⟩ ∧ W.heap[b]? = some (.cells cur 50 (0, 0))
def DpR (W : World) (hs : List tRows) (Ls : List (List tTokens)) : Prop := ∀ (k : Nat) (h : tRows) (l : List tTokens), hs[k]? = some h → Ls[k]? = some l → HdR W h l
theorem HdR.move {W V : World} {h : tRows} {l : List tTokens} (H : HdR W h l) (e : ∀ (g : Nat) (cur : Array Value), W.heap[g]? = some (.cells cur 50 (0, 0)) → V.heap[g]? = W.heap[g]?) : HdR V h l := by
  by_cases hl : l = []
  · subst hl
    exact ⟨H.n, fun q => absurd rfl q, H.m, fun q => absurd rfl q⟩
  · obtain ⟨b, off, cur, e1, e2⟩ := H.ty hl
    have e3 := e b cur e2
    refine ⟨H.n, fun q => ?_, H.m, fun _ => ⟨b, off, cur, e1, e3.trans e2⟩⟩
    obtain ⟨b', off', k1, k2, k3⟩ := H.r q
    rw [e1] at k1
    cases k1
    exact ⟨b, off, e1, lt_at (e3.trans e2), k3.of e3⟩
theorem HdR.carry {W V : World} {h : tRows} {l : List tTokens} (H : HdR W h l) (hb : Below W.heap.size W V) : HdR V h l := H.move fun g cur hg => hb.block g (lt_at hg)
theorem DpR.move {W V : World} {hs : List tRows} {Ls : List (List tTokens)} (H : DpR W hs Ls) (e : ∀ (g : Nat) (cur : Array Value), W.heap[g]? = some (.cells cur 50 (0, 0)) → V.heap[g]? = W.heap[g]?) : DpR V hs Ls := fun k h l a b => (H k h l a b).move e
theorem DpR.carry {W V : World} {hs : List tRows} {Ls : List (List tTokens)} (H : DpR W hs Ls) (hb : Below W.heap.size W V) : DpR V hs Ls := fun k h l a b => (H k h l a b).carry hb
/-- A mark's row in the world. -/
def mkW (i q : Nat) : Array Value := #[.int .i64 (-1 - (i : Int)), .string ByteArray.empty, .int .i64 (q : Int), .int .i64 0]
/-- Slices, each of one mark, of their own. -/
def MkR (i f lo : Nat) (hs : List tRows) (W : World) : Prop := ∀ (k : Nat) (h : tRows), hs[k]? = some h → ∃ g, h = (some ⟨g, 0, none⟩, 1, 1) ∧ lo ≤ g ∧ W.heap[g]? = some (.cells (mkW i (f + k)) 50 (0, 0))
section
variable {i f lo : Nat} {hs : List tRows} {W V : World}
theorem MkR.nil : MkR i f lo [] W := fun k h e => by simp at e
theorem MkR.carry (H : MkR i f lo hs W) (hb : Below W.heap.size W V) : MkR i f lo hs V := fun k h e => by
  obtain ⟨g, e1, e2, e3⟩ := H k h e
  exact ⟨g, e1, e2, (hb.block g (lt_at e3)).trans e3⟩
theorem MkR.low {lo2 : Nat} (H : MkR i f lo hs W) (h : lo2 ≤ lo) : MkR i f lo2 hs W := fun k x e => by
  obtain ⟨g, e1, e2, e3⟩ := H k x e
  exact ⟨g, e1, Nat.le_trans h e2, e3⟩
theorem MkR.off {b : Nat} {cur : Array Value} {t : TypeId} (H : MkR i f lo hs W) (hg : W.grownBy V (some b)) (hb : W.heap[b]? = some (.cells cur t (0, 0))) (ht : t ≠ 50) : MkR i f lo hs V := fun k x e => by
  obtain ⟨g, e1, e2, e3⟩ := H k x e
  refine ⟨g, e1, e2, (hg.block g (lt_at e3) (fun e9 => ?_)).trans e3⟩
  obtain rfl := Option.some.inj e9
  rw [hb] at e3
  simp only [Option.some.injEq, Obj.cells.injEq] at e3
  exact ht e3.2.1
theorem MkR.snoc {g : Nat} (H : MkR i f lo hs W) (hl : lo ≤ g) (hg : W.heap[g]? = some (.cells (mkW i (f + hs.length)) 50 (0, 0))) : MkR i f lo (hs ++ [(some ⟨g, 0, none⟩, 1, 1)]) W := fun k x e => by
  rcases get_snoc _ _ _ _ e with ⟨_, q⟩ | ⟨q1, q2⟩
  · exact H k x q
  · subst q1
    exact ⟨g, q2, hl, hg⟩
theorem MkR.app {hs' : List tRows} (H : MkR i 0 lo hs W) (H' : MkR i hs.length lo hs' W) : MkR i 0 lo (hs ++ hs') W := fun k x e => by
  by_cases q : k < hs.length
  · rw [List.getElem?_append_left q] at e
    exact H k x e
  · rw [List.getElem?_append_right (by omega)] at e
    obtain ⟨g, e1, e2, e3⟩ := H' _ x e
    refine ⟨g, e1, e2, ?_⟩
    rw [show hs.length + (k - hs.length) = 0 + k by omega] at e3
    exact e3
theorem MkR.take {n : Nat} (H : MkR i 0 lo hs W) : MkR i 0 lo (hs.take n) W := fun k x e => by
  rw [List.getElem?_take] at e
  split at e
  · exact H k x e
  · cases e
/-- The words of marks. -/
def mkT (i f n : Nat) : List (List tTokens) := (mkL mTokens i f n).map fun a => [a]
theorem mkT_len (i f n : Nat) : (mkT i f n).length = n := by simp [mkT, mkL_len]
theorem MkR.dp (H : MkR i 0 lo hs W) : DpR W hs (mkT i 0 hs.length) := fun k x l e1 e2 => by
  have hk : k < hs.length := (List.getElem?_eq_some_iff.1 e1).1
  obtain ⟨g, rfl, _, e3⟩ := H k x e1
  unfold mkT at e2
  rw [List.getElem?_map, mkL_get i hs.length k hk] at e2
  obtain rfl := Option.some.inj e2
  refine ⟨rfl, fun _ => ⟨g, 0, rfl, lt_at e3, fun j u hj => ?_⟩, by simp, fun _ => ⟨g, 0, _, rfl, e3⟩⟩
  rw [Nat.zero_add, cell_at e3]
  have hw : (mkW i (0 + k)) = (fc cTokens [mTokens i k]).toArray := by
    rw [Nat.zero_add]
    simp [fc, cTokens, mTokens, mkW]
  rw [hw, List.getElem?_toArray]
  exact hj
end
theorem row_lh {W : World} {base : Nat} {v : Value} {n : Nat} {hs : List tRows} (h : W.ownsRow base 39 1 v n (fc cRows hs)) : hs.length = n := by
  have := h.1
  rw [fc_len hsRows] at this
  omega
set_option maxHeartbeats 4000000 in
set_option maxRecDepth 100000 in
theorem markRows_any (i f n : Nat) (hi : i ≤ 400) (hf : f ≤ 3000000) (hn : n ≤ 3000000) (w : World) : Calls Tryz.prog 104 #[.int .i64 (i : Int), .int .i64 (f : Int), .int .i64 (n : Int)] w fun e w' => ∃ v, e = .returned v ∧ ∃ hs, w'.ownsRow w.heap.size 39 1 v n (fc cRows hs) ∧ MkR i f w.heap.size hs w' ∧ Below w.heap.size w w' := by
  obtain ⟨ic, zc, hic, hz0, hz1, hz2, hz3⟩ := kiRows.iT
  go_enter Tryz.func104, Tryz.ntmps104
  go_wp2
  go_loopw [7, 8] (fun v k wz => ∃ (j : Nat) (hs : List tRows), k = .int .i64 ((f + j : Nat) : Int) ∧ j ≤ n ∧ wz.ownsRow w.heap.size 39 1 v j (fc cRows hs) ∧ MkR i f w.heap.size hs wz ∧ Below w.heap.size w wz) (fun _ k _ => f + n - vnat k)
  case atStart => exact ⟨0, [], rfl, Nat.zero_le _, World.ownsRow_nil _ _ _ _, MkR.nil, Below.refl _ _⟩
  case round =>
    obtain ⟨j, hs, rfl, hj, hrow, hmk, hbw⟩ := hrel
    have hsw := hbw.size
    by_cases hjn : j < n
    · have hji : ((f + j : Nat) : Int) < (f : Int) + (n : Int) := by omega
      obtain ⟨q, hq⟩ : ∃ q, f + j = q := ⟨_, rfl⟩
      rw [hq] at hji ⊢
      have hlh := row_lh hrow
      have HQ : Hid (f + j = q) := hq
      obtain ⟨w1, hw1⟩ : ∃ w1, wr.alloc (.cells #[.int .i64 (-1 - (i : Int)), .string { data := #[] }, .int .i64 (q : Int), .int .i64 0] 50) = w1 := ⟨_, rfl⟩
      have hb1 : Below wr.heap.size wr w1 := by rw [← hw1]; exact al1 _ _
      have hg1 : w1.heap[wr.heap.size]? = some (.cells (mkW i q) 50 (0, 0)) := by rw [← hw1]; exact new_at rfl
      have hrow1 := row_below hrow hb1
      have hmk1 := hmk.carry hb1
      have hmk2 : MkR i f w.heap.size (hs ++ [(some ⟨wr.heap.size, 0, none⟩, 1, 1)]) w1 := hmk1.snoc hsw (by rw [hlh, hq]; exact hg1)
      have hbw1 := hbw.trans (hb1.mono hsw)
      have hsw1 := hbw1.size
      have hq2 : q ≤ 6000000 := by omega
      clear hq
      go_wp2_with (at_builtin; refine wpList_append_own _ rfl _ _ 27 rfl w.heap.size 39 ic _ 1 24 Tryz.underlying27 hic hz0 hz1 hz2 hz3 (by decide) _ j (fc cRows hs) rfl (hrow1.alloc _) ⟨w1.heap.size, 0, none⟩ 1 1 [_] rfl rfl (newRows _ #[_] _) (by simp [Value.oneCell']) (by unfold maxLen; omega) (by omega) (Nat.le_trans hsw1 (by simp)) ?_; intro v' w2 hown' hgrow _)
      go_roundw
      case rel =>
        have hb2 := al1 w1 (.cells #[.slice (some ⟨wr.heap.size, 0, none⟩) 1 1] 39)
        have hrow2 := row_below hrow1 hb2
        have hmk3 := hmk2.carry hb2
        refine ⟨j + 1, hs ++ [(some ⟨wr.heap.size, 0, none⟩, 1, 1)], by have := HQ.out; simp; omega, by omega, ?_, ?_, (hbw1.alloc hsw1 _).grown hgrow (Nat.le_trans hsw1 (by simp)) (fun q e => (row_lt hrow1 q e).1)⟩
        · rw [fc_append]
          exact hown'
        · intro k x e
          obtain ⟨g, e1, e2, e3⟩ := hmk3 k x e
          refine ⟨g, e1, e2, (hgrow.block g (lt_at e3) (fun e9 => ?_)).trans e3⟩
          exact row_type hrow2 e3 (by decide) e9.symm
      case measure => have := HQ.out; simp [vnat]; omega
    · have hjj : j = n := by omega
      subst hjj
      have hji : ¬ ((f + j : Nat) : Int) < (f : Int) + (j : Int) := by omega
      go_wp2
      go_ret
      exact ⟨_, rfl, hs, hrow, hmk, hbw⟩
set_option maxHeartbeats 4000000 in
set_option maxRecDepth 100000 in
theorem sameRows_any (ad ad' : Option Addr) (n cap cap' : Nat) (hs hs' : List tRows) (Ls : List (List tTokens)) (hn : n = hs.length) (hn' : n = hs'.length) (hL : n = Ls.length) (w : World) (h : RdF w ad (fc cRows hs)) (h' : RdF w ad' (fc cRows hs')) (hd : DpR w hs Ls) (hd' : DpR w hs' Ls) (hl : n ≤ 4611686018427387904) : Calls Tryz.prog 22 #[.slice ad n cap, .slice ad' n cap'] w fun e w' => e = .returned (.bool true) ∧ Below w.heap.size w w' := by
  have hmx : Tryz.prog.follows .mixedOrders = true := by kernel_rfl
  have HN : Hid (n = hs.length) := hn
  have HN' : Hid (n = hs'.length) := hn'
  have HNL : Hid (n = Ls.length) := hL
  clear hn hn' hL
  go_enter Tryz.func22, Tryz.ntmps22
  go_wp2
  go_loopw [5] (fun c wz => ∃ k : Nat, c = .int .i64 k ∧ k ≤ n ∧ Below w.heap.size w wz) (fun c _ => n - vnat c)
  case atStart => exact ⟨0, rfl, Nat.zero_le _, Below.refl _ _⟩
  case round =>
    obtain ⟨k, rfl, hk, hbw⟩ := hrel
    by_cases hkl : k < n
    · have hki : (k : Int) < (n : Int) := by omega
      have hne : fc cRows hs ≠ [] := fun e => by
        have := fc_len hsRows hs
        rw [e, ← HN.out] at this
        simp at this
        omega
      have hne' : fc cRows hs' ≠ [] := fun e => by
        have := fc_len hsRows hs'
        rw [e, ← HN'.out] at this
        simp at this
        omega
      obtain ⟨b, off, rfl, hgl, hat⟩ := h hne
      obtain ⟨b', off', rfl, hgl', hat'⟩ := h' hne'
      obtain ⟨⟨a1, ll, a3⟩, hx⟩ : ∃ a, hs[k]? = some a := ⟨_, List.getElem?_eq_getElem (by rw [← HN.out]; exact hkl)⟩
      obtain ⟨⟨b1, l2, b3⟩, hx'⟩ : ∃ a, hs'[k]? = some a := ⟨_, List.getElem?_eq_getElem (by rw [← HN'.out]; exact hkl)⟩
      obtain ⟨l, hxl⟩ : ∃ a, Ls[k]? = some a := ⟨_, List.getElem?_eq_getElem (by rw [← HNL.out]; exact hkl)⟩
      obtain ⟨d1, d2, d3, _⟩ := hd k _ l hx hxl
      obtain ⟨e1, e2, e3, _⟩ := hd' k _ l hx' hxl
      dsimp only at d1 d2 e1 e2
      obtain rfl : l2 = ll := by omega
      have HLL : Hid (l2 = l.length) := d1
      have hl3 : l2 ≤ 4611686018427387904 := by omega
      clear d1 e1 hxl d3 e3
      go_wp2
      refine wp_region_any hmx ?_
      refine wpAny_pure (fun i__ => ([(.slice (some ⟨b, off, none⟩) n cap), (.int .i64 (k : Int)), (.pointer (some ⟨b, off + k, none⟩)), (.slice a1 l2 a3), (.slice (some ⟨b', off', none⟩) n cap'), (.int .i64 (k : Int)), (.pointer (some ⟨b', off' + k, none⟩)), (.slice b1 l2 b3), (.bool true), (.bool false)] : List Value).getD i__ undef) (fun W => Below w.heap.size w W) (by kernel_rfl) hbw.drew ?_ ?_
      · refine (stepsFrom_cons ?_ (stepsFrom_cons ?_ (stepsFrom_cons ?_ (stepsFrom_cons ?_ (stepsFrom_cons ?_ (stepsFrom_cons ?_ (stepsFrom_cons ?_ (stepsFrom_cons ?_ (stepsFrom_cons ?_ (stepsFrom_cons ?_ trivial))))))))))
        · exact step_move rfl trivial _ rfl (by kernel_rfl)
        · exact step_move rfl trivial _ rfl (by kernel_rfl)
        · exact step_indexAddr rfl trivial _ _ _ _ _ rfl rfl rfl (fun w hw => ixRows b off _ _ k hkl w)
        · exact step_load rfl trivial _ _ _ rfl rfl (fun w hw => ldRows (hat.of (hw.block _ hgl)) hx)
        · exact step_move rfl trivial _ rfl (by kernel_rfl)
        · exact step_move rfl trivial _ rfl (by kernel_rfl)
        · exact step_indexAddr rfl trivial _ _ _ _ _ rfl rfl rfl (fun w hw => ixRows b' off' _ _ k hkl w)
        · exact step_load rfl trivial _ _ _ rfl rfl (fun w hw => ldRows (hat'.of (hw.block _ hgl')) hx')
        · exact step_call rfl trivial 7 _ _ [(.slice a1 l2 a3), (.slice b1 l2 b3)] rfl (by kernel_rfl) (enters_of Tryz.func7 (by kernel_rfl) rfl) (fun v hw => (sameTokens_any a1 b1 l2 a3 b3 l HLL.out v (d2.carry hw) (e2.carry hw) hl3).mono (by rintro e w' ⟨rfl, hb'⟩; exact ⟨rfl, bel2 hw hb'⟩))
        · exact step_unOp rfl trivial _ _ _ _ rfl rfl (fun w hw => unnRows true w)
      intro W hW
      first | refine hK _ _ ?_ | refine (‹∀ (a : Act) (w : World), Code.wp Tryz.prog _ _ a w → _›) _ _ ?_ | skip
      simp only [finL, List.getD_cons_zero, List.getD_cons_succ, Nat.zero_add, Nat.reduceAdd, List.setIfInBounds_toArray, List.set_cons_zero, List.set_cons_succ]
      go_wp2
      go_roundw
      case rel => exact ⟨k + 1, by simp, by omega, hW⟩
      case measure => simp [vnat]; omega
    · have hkk : k = n := by omega
      subst hkk
      have hki : ¬ ((k : Int) < (k : Int)) := by omega
      go_wp2
      go_ret
      exact ⟨rfl, hbw⟩
/-- What is kept shows words. -/
def DpL (W : World) (L : List (List tRows)) : Prop := ∀ (i : Nat) (hs : List tRows), L[i]? = some hs → ∃ Ls, Ls.length = hs.length ∧ DpR W hs Ls
theorem DpL.move {W V : World} {L : List (List tRows)} (H : DpL W L) (e : ∀ (g : Nat) (cur : Array Value), W.heap[g]? = some (.cells cur 50 (0, 0)) → V.heap[g]? = W.heap[g]?) : DpL V L := fun i hs h => by
  obtain ⟨Ls, h1, h2⟩ := H i hs h
  exact ⟨Ls, h1, h2.move e⟩
theorem DpL.carry {W V : World} {L : List (List tRows)} (H : DpL W L) (hb : Below W.heap.size W V) : DpL V L := fun i hs h => by
  obtain ⟨Ls, h1, h2⟩ := H i hs h
  exact ⟨Ls, h1, h2.carry hb⟩
set_option maxHeartbeats 4000000 in
set_option maxRecDepth 100000 in
theorem stillRows_any {base bb : Nat} {w : World} {u v : Value} {C : Array Value} {x y : List Value} {L : List (List tRows)} (hB : Bb 38 w bb C) (hu : C[22]? = some u) (hv : C[23]? = some v) (h : Kl cRows 1 39 27 base w u x L) (hdp : DpL w L) (hc : Cl cRows 27 base w v y L) : Calls Tryz.prog 35 #[.pointer (some ⟨bb, 0, none⟩)] w fun e w' => e = .returned (.bool true) ∧ Below w.heap.size w w' := by
  have hmx : Tryz.prog.follows .mixedOrders = true := by kernel_rfl
  obtain ⟨au, cu, eu, _⟩ := rowForm h.row
  have m6 : ∀ V, Below w.heap.size w V → V.cell? ⟨bb, 22, none⟩ = some (.slice au L.length cu) := fun V hV => by
    rw [cell_at ((hV.block _ (lt_at hB)).trans hB), hu, eu]
  obtain ⟨av, cv, ev, _⟩ := rowForm hc.row
  have m7 : ∀ V, Below w.heap.size w V → V.cell? ⟨bb, 23, none⟩ = some (.slice av L.length cv) := fun V hV => by
    rw [cell_at ((hV.block _ (lt_at hB)).trans hB), hv, ev]
  have hk4 := h.k
  obtain ⟨N, hN⟩ : ∃ N, N = L.length := ⟨_, rfl⟩
  rw [← hN] at m6 m7 eu ev hk4
  have HN : Hid (N = L.length) := hN
  clear hN hu hv
  go_enter Tryz.func35, Tryz.ntmps35
  go_wp2
  go_loopw [3] (fun i wz => ∃ k : Nat, i = .int .i64 (k : Int) ∧ k ≤ N ∧ Below w.heap.size w wz) (fun i _ => N - vnat i)
  case atStart => exact ⟨0, rfl, Nat.zero_le _, Below.refl _ _⟩
  case round =>
    obtain ⟨k, rfl, hk, hb⟩ := hrel
    have mm := m6 _ hb
    by_cases hkl : k < N
    · have hki : (k : Int) < (N : Int) := by omega
      obtain ⟨l, hl⟩ : ∃ l, L[k]? = some l := ⟨_, List.getElem?_eq_getElem (by rw [← HN.out]; exact hkl)⟩
      obtain ⟨gu, cu', z, e1, c1, hxz, hfl, hln⟩ := h.cell hl
      rw [eu] at e1
      simp only [Value.slice.injEq] at e1
      obtain ⟨rfl, -, rfl⟩ := e1
      obtain ⟨adx, cx, rfl, hrx, -⟩ := own_rd hfl
      obtain ⟨ady, cy, hyz, hry⟩ := hc.ks k l hl
      have hcr := hc.row
      rcases own_form hcr with ⟨_, e⟩ | ⟨gv, cv', e2, _⟩
      · have := HN.out
        omega
      rw [e2] at hcr
      rw [ev] at e2
      simp only [Value.slice.injEq] at e2
      obtain ⟨rfl, -, rfl⟩ := e2
      have c2 : w.cell? ⟨gv, k, none⟩ = some (.slice ady l.length cy) := (hcr.cellAt _ (by have := hc.row.1; have := HN.out; omega)).trans hyz
      have hgu := cell_lt c1
      have hgv := cell_lt c2
      obtain ⟨Ls, hLs, hdl⟩ := hdp k l hl
      clear hyz hxz hl
      obtain ⟨ll, hll⟩ : ∃ ll, ll = l.length := ⟨_, rfl⟩
      rw [← hll] at c1 c2 hln
      have HLL : Hid (ll = l.length) := hll
      clear hll
      go_wp2
      rename_i hK
      refine wp_region_any hmx ?_
      refine wpAny_pure (fun i__ => ([(.pointer (some ⟨bb, 0, none⟩)), (.pointer (some ⟨bb, 0, none⟩)), (.pointer (some ⟨bb, 22, none⟩)), (.slice (some ⟨gu, 0, none⟩) N cu), (.int .i64 (k : Int)), (.pointer (some ⟨gu, k, none⟩)), (.slice adx ll cx), (.pointer (some ⟨bb, 0, none⟩)), (.pointer (some ⟨bb, 0, none⟩)), (.pointer (some ⟨bb, 23, none⟩)), (.slice (some ⟨gv, 0, none⟩) N cv), (.int .i64 (k : Int)), (.pointer (some ⟨gv, k, none⟩)), (.slice ady ll cy), (.bool true), (.bool false)] : List Value).getD i__ undef) (fun V => Below w.heap.size w V) (by kernel_rfl) (hb.drew) ?_ ?_
      · refine (stepsFrom_cons ?_ (stepsFrom_cons ?_ (stepsFrom_cons ?_ (stepsFrom_cons ?_ (stepsFrom_cons ?_ (stepsFrom_cons ?_ (stepsFrom_cons ?_ (stepsFrom_cons ?_ (stepsFrom_cons ?_ (stepsFrom_cons ?_ (stepsFrom_cons ?_ (stepsFrom_cons ?_ (stepsFrom_cons ?_ (stepsFrom_cons ?_ (stepsFrom_cons ?_ (stepsFrom_cons ?_ trivial))))))))))))))))
        · exact step_move rfl trivial _ rfl (by kernel_rfl)
        · exact step_nilCheck rfl trivial _ _ _ rfl rfl rfl
        · exact step_fieldAddr rfl trivial _ _ _ _ rfl rfl (fun v hw => fldRows v _)
        · exact step_load rfl trivial _ _ _ rfl rfl (fun v hw => lddRows (m6 v hw))
        · exact step_move rfl trivial _ rfl (by kernel_rfl)
        · exact step_indexAddr rfl trivial _ _ _ _ _ rfl rfl rfl (fun v hw => ixxRows gu _ _ k hkl v)
        · exact step_load rfl trivial _ _ _ rfl rfl (fun v hw => ldsRows ((hw.cell (p := ⟨gu, k, none⟩) hgu).trans c1))
        · exact step_move rfl trivial _ rfl (by kernel_rfl)
        · exact step_nilCheck rfl trivial _ _ _ rfl rfl rfl
        · exact step_fieldAddr rfl trivial _ _ _ _ rfl rfl (fun v hw => flcRows v _)
        · exact step_load rfl trivial _ _ _ rfl rfl (fun v hw => lddRows (m7 v hw))
        · exact step_move rfl trivial _ rfl (by kernel_rfl)
        · exact step_indexAddr rfl trivial _ _ _ _ _ rfl rfl rfl (fun v hw => ixxRows gv _ _ k hkl v)
        · exact step_load rfl trivial _ _ _ rfl rfl (fun v hw => ldsRows ((hw.cell (p := ⟨gv, k, none⟩) hgv).trans c2))
        · exact step_call rfl trivial 22 _ _ [(.slice adx ll cx), (.slice ady ll cy)] rfl (by kernel_rfl) (enters_of Tryz.func22 (by kernel_rfl) rfl) (fun v hw => (sameRows_any adx ady ll cx cy l l Ls HLL.out HLL.out (HLL.out.trans hLs.symm) v (hrx.carry hw) (hry.carry hw) (hdl.carry hw) (hdl.carry hw) (by omega)).mono (by rintro e w' ⟨rfl, hb'⟩; exact ⟨rfl, bel2 hw hb'⟩))
        · exact step_unOp rfl trivial _ _ _ _ rfl rfl (fun v hw => unnRows true v)
      intro W hW
      first | refine hK _ _ ?_ | refine (‹∀ (a : Act) (w : World), Code.wp Tryz.prog _ _ a w → _›) _ _ ?_ | skip
      simp only [finL, List.getD_cons_zero, List.getD_cons_succ, Nat.zero_add, Nat.reduceAdd, List.setIfInBounds_toArray, List.set_cons_zero, List.set_cons_succ]
      clear hK
      go_wp2
      go_roundw
      case rel => exact ⟨k + 1, by simp, by omega, hW⟩
      case measure => simp [vnat]; omega
    · have hki : ¬ (k : Int) < (N : Int) := by omega
      go_wp2
      go_ret
      exact ⟨rfl, hb⟩
/-- All lists of a row are marked. -/
def MknR (W : World) (xs : List Value) : Prop := ∀ (i : Nat) (z : Value), xs[i]? = some z → ∃ ad n c' hs lo, z = .slice ad n c' ∧ hs.length = n ∧ RdF W ad (fc cRows hs) ∧ MkR i 0 lo hs W ∧ n ≤ 1001000
set_option maxHeartbeats 4000000 in
set_option maxRecDepth 100000 in
theorem markedRows_any {base k : Nat} {w : World} {uu : Value} {xs : List Value} (h : w.ownsRow base 27 1 uu k xs) (hm : MknR w xs) (hk : k ≤ 400) : Calls Tryz.prog 71 #[uu] w fun e w' => e = .returned (.bool true) ∧ Below w.heap.size w w' := by
  have hmx : Tryz.prog.follows .mixedOrders = true := by kernel_rfl
  obtain ⟨au, cu, eu, _⟩ := rowForm h
  subst eu
  have hlen : xs.length = k := by have := h.1; omega
  go_enter Tryz.func71, Tryz.ntmps71
  go_wp2
  go_loopw [3] (fun i wz => ∃ j : Nat, i = .int .i64 (j : Int) ∧ j ≤ k ∧ Below w.heap.size w wz) (fun i _ => k - vnat i)
  case atStart => exact ⟨0, rfl, Nat.zero_le _, Below.refl _ _⟩
  case round =>
    obtain ⟨j, rfl, hj, hb⟩ := hrel
    by_cases hjk : j < k
    · have hji : (j : Int) < (k : Int) := by omega
      obtain ⟨z, hz⟩ : ∃ z, xs[j]? = some z := ⟨_, List.getElem?_eq_getElem (by omega)⟩
      obtain ⟨adx, n, c, hs, lo, rfl, hlh, hrx, hmk, hn⟩ := hm j z hz
      rcases own_form h with ⟨_, e⟩ | ⟨gu, cu', e1, _⟩
      · omega
      cases e1
      have c1 : w.cell? ⟨gu, j, none⟩ = some (.slice adx n c) := (h.cellAt _ (by omega)).trans hz
      have hgu := cell_lt c1
      go_wp2
      rename_i hK
      refine wp_region_any hmx ?_
      refine wpAny_tabG (G := (Value × List tRows)) (fun g i__ => ([(.slice (some ⟨gu, 0, none⟩) k cu), (.int .i64 (j : Int)), (.pointer (some ⟨gu, j, none⟩)), (.slice adx n c), (.int .i64 (j : Int)), (.slice (some ⟨gu, 0, none⟩) k cu), (.int .i64 (j : Int)), (.pointer (some ⟨gu, j, none⟩)), (.slice adx n c), (.int .i64 (n : Int)), g.1, (.bool true), (.bool false)] : List Value).getD i__ undef) (fun g d V => Below w.heap.size w V ∧ (d 10 = true → V.ownsRow w.heap.size 39 1 g.1 n (fc cRows g.2) ∧ MkR j 0 0 g.2 V)) (by kernel_rfl) ((undef, [])) (⟨hb.drew, fun q => by cases q⟩) ?step2 ?fin2
      case step2 =>
        intro i o ho
        have hi : i < 13 := getElem?_lt ho
        match i, hi, ho with
        | 0, _, ho =>
          cases ho
          refine stepG_of (fun g d hdep => ?_)
          exact step_move rfl trivial _ rfl (by kernel_rfl)
        | 1, _, ho =>
          cases ho
          refine stepG_of (fun g d hdep => ?_)
          exact step_move rfl trivial _ rfl (by kernel_rfl)
        | 2, _, ho =>
          cases ho
          refine stepG_of (fun g d hdep => ?_)
          exact step_indexAddr rfl trivial _ _ _ _ _ rfl rfl rfl (fun v hw => ixxRows gu _ _ j hjk v)
        | 3, _, ho =>
          cases ho
          refine stepG_of (fun g d hdep => ?_)
          exact step_load rfl trivial _ _ _ rfl rfl (fun v hw => ldsRows ((hw.1.cell (p := ⟨gu, j, none⟩) hgu).trans c1))
        | 4, _, ho =>
          cases ho
          refine stepG_of (fun g d hdep => ?_)
          exact step_move rfl trivial _ rfl (by kernel_rfl)
        | 5, _, ho =>
          cases ho
          refine stepG_of (fun g d hdep => ?_)
          exact step_move rfl trivial _ rfl (by kernel_rfl)
        | 6, _, ho =>
          cases ho
          refine stepG_of (fun g d hdep => ?_)
          exact step_move rfl trivial _ rfl (by kernel_rfl)
        | 7, _, ho =>
          cases ho
          refine stepG_of (fun g d hdep => ?_)
          exact step_indexAddr rfl trivial _ _ _ _ _ rfl rfl rfl (fun v hw => ixxRows gu _ _ j hjk v)
        | 8, _, ho =>
          cases ho
          refine stepG_of (fun g d hdep => ?_)
          exact step_load rfl trivial _ _ _ rfl rfl (fun v hw => ldsRows ((hw.1.cell (p := ⟨gu, j, none⟩) hgu).trans c1))
        | 9, _, ho =>
          cases ho
          refine stepG_of (fun g d hdep => ?_)
          exact step_bi rfl trivial _ _ _ [(.slice adx n c)] rfl (by kernel_rfl) (fun bs v hw => lnRows _ bs _ _ _ v)
        | 10, _, ho =>
          cases ho
          exact stepG_call rfl (fun _ => trivial) 104 _ _ (fun _ => [.int .i64 (j : Int), .int .i64 0, .int .i64 (n : Int)]) rfl (fun g => by kernel_rfl) (enters_of Tryz.func104 (by kernel_rfl) rfl) (fun g d V hJ hun hdep hcl => (markRows_any j 0 n (by omega) (by omega) (by omega) V).mono (by rintro e V' ⟨v', rfl, hs', hro, hmk', hb'⟩; refine ⟨(v', hs'), rfl, (fun j hj => match j, hj with | 10, hj => (by rw [hj] at hun; cases hun)  | 0, _ => rfl | 1, _ => rfl | 2, _ => rfl | 3, _ => rfl | 4, _ => rfl | 5, _ => rfl | 6, _ => rfl | 7, _ => rfl | 8, _ => rfl | 9, _ => rfl | 11, _ => rfl | 12, _ => rfl | _ + 13, _ => rfl), ?_⟩; exact ⟨bel2 hJ.1 hb', fun _ => ⟨row_base hro hJ.1.size, hmk'.low (Nat.zero_le _)⟩⟩))
        | 11, _, ho =>
          cases ho
          refine stepG_of (fun g d hdep => ?_)
          exact step_call rfl trivial 22 _ _ [(.slice adx n c), g.1] rfl (by kernel_rfl) (enters_of Tryz.func22 (by kernel_rfl) rfl) (fun v hw => by have h1 : d 10 = true := hdep 10 (by kernel_rfl); obtain ⟨ho, hmg⟩ := hw.2 h1; have hlg := row_lh ho; obtain ⟨a', c', e', hr', -⟩ := own_rd ho; have hq := sameRows_any adx a' n c c' hs g.2 (mkT j 0 n) hlh.symm hlg.symm (mkT_len j 0 n).symm v (hrx.carry hw.1) hr' (by have := (hmk.carry hw.1).dp; rw [hlh] at this; exact this) (by have := hmg.dp; rw [hlg] at this; exact this) (by omega); show Calls Tryz.prog _ [Value.slice adx n c, g.1].toArray v _; rw [e'] at ho ⊢; exact hq.mono (by rintro e w' ⟨rfl, hb'⟩; exact ⟨rfl, bel2 hw.1 hb', fun _ => ⟨row_below ho hb', hmg.carry hb'⟩⟩))
        | 12, _, ho =>
          cases ho
          refine stepG_of (fun g d hdep => ?_)
          exact step_unOp rfl trivial _ _ _ _ rfl rfl (fun v hw => unnRows true v)
      intro g d W hall hW
      first | refine hK _ _ ?_ | refine (‹∀ (a : Act) (w : World), Code.wp Tryz.prog _ _ a w → _›) _ _ ?_ | skip
      simp only [finL, List.getD_cons_zero, List.getD_cons_succ, Nat.zero_add, Nat.reduceAdd, List.setIfInBounds_toArray, List.set_cons_zero, List.set_cons_succ]
      have hWb := hW.1
      clear hK hall hW
      go_wp2
      go_roundw
      case rel => exact ⟨j + 1, by simp, by omega, hWb⟩
      case measure => simp [vnat]; omega
    · have hji : ¬ (j : Int) < (k : Int) := by omega
      go_wp2
      go_ret
      exact ⟨rfl, hb⟩
end Go.Proofs.YtngjjcmoekeciaaGreatDoor.Kel
