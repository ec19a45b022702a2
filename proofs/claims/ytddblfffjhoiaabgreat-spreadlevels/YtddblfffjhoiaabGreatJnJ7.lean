/- earshotbook's markNotices: what it answers. -/
import Derived.Test.YtddblfffjhoiaabGreatJnJ2
import Derived.Test.YtddblfffjhoiaabGreatJnJ6
import Derived.Test.YtddblfffjhoiaabGreatSla
namespace Go.Proofs.YtddblfffjhoiaabGreat
open Go.RowKit Go.Shelf Go.Lib

/-- The marks of the list i, from a place on, so many. -/
def mkM (i f n : Nat) : List N3 := (List.range n).map fun k => (-1 - (i : Int), ((f + k : Nat) : Int), 0)
theorem mkM_len (i f n : Nat) : (mkM i f n).length = n := by simp [mkM]
theorem mkM_succ (i f n : Nat) : mkM i f (n + 1) = mkM i f n ++ [(-1 - (i : Int), ((f + n : Nat) : Int), 0)] := by simp [mkM, List.range_succ]
theorem mkM_app (i f n : Nat) : ∀ m, mkM i f n ++ mkM i (f + n) m = mkM i f (n + m)
  | 0 => by simp [mkM]
  | m + 1 => by rw [mkM_succ, ← List.append_assoc, mkM_app i f n m, show n + (m + 1) = n + m + 1 by omega, mkM_succ, Nat.add_assoc f n m]
theorem mkM_get (i n k : Nat) (hk : k < n) : (mkM i 0 n)[k]? = some (-1 - (i : Int), (k : Int), 0) := by
  unfold mkM
  rw [List.getElem?_map, List.getElem?_range hk]
  simp
theorem mkM_take (i n k : Nat) (hk : k ≤ n) : (mkM i 0 n).take k = mkM i 0 k := by
  have h := mkM_app i 0 k (n - k)
  rw [show k + (n - k) = n by omega] at h
  rw [← h, List.take_append_of_le_length (by rw [mkM_len]; omega), List.take_of_length_le (by rw [mkM_len]; omega)]
set_option maxHeartbeats 4000000 in
set_option maxRecDepth 100000 in
theorem markn_any (i f n : Nat) (hi : i ≤ 400) (hf : f ≤ 5000) (hn : n ≤ 5000) (w : World) : Calls Tryz.prog 108 #[.int .i64 (i : Int), .int .i64 (f : Int), .int .i64 (n : Int)] w fun e w' => ∃ v, e = .returned v ∧ w'.ownsRow w.heap.size 61 3 v n (fl (mkM i f n)) ∧ Below w.heap.size w w' := by
  obtain ⟨ic, hic, hz0, hz1, hz2⟩ := info_partsN
  go_enter Tryz.func108, Tryz.ntmps108
  go_wp2
  go_loopw [7, 8] (fun v k wz => ∃ j : Nat, k = .int .i64 ((f + j : Nat) : Int) ∧ j ≤ n ∧ wz.ownsRow w.heap.size 61 3 v j (fl (mkM i f j)) ∧ Below w.heap.size w wz) (fun _ k _ => f + n - vnatR k)
  case atStart => exact ⟨0, rfl, Nat.zero_le _, World.ownsRow_nil _ _ _ _, Below.refl _ _⟩
  case round =>
    obtain ⟨j, rfl, hj, hrow, hbw⟩ := hrel
    have hsw := hbw.size
    by_cases hjn : j < n
    · have hji : ((f + j : Nat) : Int) < (f : Int) + (n : Int) := by omega
      obtain ⟨q, hq⟩ : ∃ q, f + j = q := ⟨_, rfl⟩
      rw [hq] at hji ⊢
      have hq2 : q ≤ 10000 := by omega
      have hfl : fl (mkM i f (j + 1)) = fl (mkM i f j) ++ [.int .i64 (-1 - (i : Int)), .int .i64 (q : Int), .int .i64 0] := by
        rw [mkM_succ, fl_append, hq]
        rfl
      have HF : Hid (fl (mkM i f (j + 1)) = fl (mkM i f j) ++ [.int .i64 (-1 - (i : Int)), .int .i64 (q : Int), .int .i64 0]) := hfl
      have HQ : Hid (f + j = q) := hq
      clear hq hfl
      go_wp2_with (at_builtin; refine wpList_append_own _ rfl _ _ 26 rfl w.heap.size 61 ic _ 3 24 Tryz.underlying26 hic hz0 hz1 hz2 rfl (by decide) _ j (fl (mkM i f j)) rfl (hrow.alloc _) ⟨wr.heap.size, 0, none⟩ 1 1 [_, _, _] rfl rfl (rowN _ #[_, _, _] _) (by simp [Value.oneCell']) (by unfold maxLen; omega) (by omega) (Nat.le_trans hsw (by simp)) ?_; intro v' w2 hown' hgrow _)
      go_roundw
      case rel =>
        refine ⟨j + 1, by have := HQ.out; simp; omega, by omega, ?_, (hbw.alloc hsw _).grown hgrow (Nat.le_trans hsw (by simp)) (fun q e => own_block hrow q e)⟩
        rw [HF.out]
        exact hown'
      case measure => have := HQ.out; simp [vnatR]; omega
    · have hjj : j = n := by omega
      subst hjj
      have hji : ¬ ((f + j : Nat) : Int) < (f : Int) + (j : Int) := by omega
      go_wp2
      go_ret
      exact ⟨_, rfl, hrow, hbw⟩
end Go.Proofs.YtddblfffjhoiaabGreat
namespace Go.Proofs.YtddblfffjhoiaabGreat
open Go.RowKit
/-- A call whose answer is found out on the way. -/
theorem stepG_call {G : Type} {P : Program} {md : Region.Mode} {ops : Array Oper} {Q : Exit → Act → World → Prop} {X0 : Array Value} {val : G → Nat → Value} {J : G → (Nat → Bool) → World → Prop} {i : Nat} {o : Oper}
    (hi : ops[i]? = some o) (hg : ∀ g, GOk md ops X0 (val g) i o) (f : FuncId) (xs : Array Operand) (ts : Array TypeId) (vs : G → List Value) (ho : o.op = .call { callee := .value (.func f), args := xs, argTypes := ts })
    (hx : ∀ g, xs.toList.map (rdo md ops X0 (val g) i o) = (vs g).map some) (hen : ∀ args w, (callFunc f args).run P w = .ok (.enter f args) w)
    (hc : ∀ g d w, J g d w → d i = false → (∀ j, bindsOn md o j = true → d j = true) → (∀ j oj, ops[j]? = some oj → d j = true → ∀ k, bindsOn md oj k = true → d k = true) → Calls P f (vs g).toArray w fun e w' => ∃ g', e = .returned (val g' i) ∧ (∀ j, d j = true → val g' j = val g j) ∧ J g' (fun j => if j = i then true else d j) w') : StepG P md ops Q X0 val J i o := by
  intro g d a w hJ hun hdep hcl hS
  unfold wpOp
  rw [hi]
  have hS' : Seen md ops X0 (val g) i o a := hS
  simp only [wanted_of hS' (hg g), if_true]
  refine .inl ?_
  unfold Oper.wp execOp
  have e : xs.map a.eval = (vs g).toArray := by
    apply Array.toList_inj.1
    rw [Array.toList_map]
    exact hS'.evals _ _ (hx g)
  have e2 : a.eval (.func f) = .func (.func f) #[] #[] := rfl
  simp only [ho, resolve, e, e2, Deferred.ofValue, Sem.run_bind, Sem.run_pure, Result.andThen_ok, invoke, Array.empty_append, Array.append_empty, hen, Oper.upon_enter]
  refine (hc g d w hJ hun hdep hcl).mono ?_
  rintro e' w' ⟨g', rfl, h1, h2⟩
  exact ⟨g', h1, rfl, h2⟩
end Go.Proofs.YtddblfffjhoiaabGreat
namespace Go.Proofs.YtddblfffjhoiaabGreat
open Go.RowKit Go.Shelf Go.Lib

structure Kn (base bb : Nat) (W : World) (u v : Value) (x : List Value) (L : List (List N3)) : Prop where
  kb : KB W bb u v
  row : W.ownsRow base 26 1 u L.length x
  ks : ∀ (i : Nat) (l : List N3), L[i]? = some l → ∃ z, x[i]? = some z ∧ W.ownsRow base 61 3 z l.length (fl l) ∧ l.length ≤ 1000
  ap : ∀ (i j g : Nat) (z z' : Value), x[i]? = some z → x[j]? = some z' → z.ownBlock = some g → z'.ownBlock = some g → i = j
  bb : base ≤ bb
  k : L.length ≤ 400
section
variable {base bb : Nat} {W V : World} {u v : Value} {x : List Value} {L : List (List N3)}
theorem own_rd {z : Value} {l : List N3} (h : W.ownsRow base 61 3 z l.length (fl l)) : ∃ ad c, z = .slice ad l.length c ∧ RdN W ad l := by
  rcases own_form h with ⟨rfl, e⟩ | ⟨g, cap, rfl, h1, h2, h3⟩
  · exact ⟨none, 0, by rw [e], fun hn => absurd (List.eq_nil_of_length_eq_zero e) hn⟩
  · exact ⟨some ⟨g, 0, none⟩, cap, rfl, fun _ => ⟨g, 0, rfl, h2, nts_own h rfl⟩⟩
theorem Kn.lenx (h : Kn base bb W u v x L) : x.length = L.length := by
  have := h.row.1
  omega
theorem Kn.carry (h : Kn base bb W u v x L) (hb : Below W.heap.size W V) : Kn base bb V u v x L :=
  ⟨(hb.block _ (lt_at h.kb)).trans h.kb, row_below h.row hb, fun i l hl => by
    obtain ⟨z, h1, h2, h3⟩ := h.ks i l hl
    exact ⟨z, h1, row_below h2 hb, h3⟩, h.ap, h.bb, h.k⟩
theorem Kn.cell (h : Kn base bb W u v x L) {i : Nat} {l : List N3} (hl : L[i]? = some l) : ∃ g c z, u = .slice (some ⟨g, 0, none⟩) L.length c ∧ W.cell? ⟨g, i, none⟩ = some z ∧ x[i]? = some z ∧ W.ownsRow base 61 3 z l.length (fl l) ∧ l.length ≤ 1000 := by
  obtain ⟨z, h1, h2, h3⟩ := h.ks i l hl
  have hi : i < L.length := (List.getElem?_eq_some_iff.1 hl).1
  have hr := h.row
  rcases own_form hr with ⟨_, e⟩ | ⟨g, cap, e, _⟩
  · omega
  · rw [e] at hr
    exact ⟨g, cap, z, e, (hr.cellAt _ (by have := h.lenx; omega)).trans h1, h1, h2, h3⟩
end
theorem cell_ltO {W : World} {a : Addr} {v : Value} (h : W.cell? a = some v) : a.block < W.heap.size := by
  unfold World.cell? at h
  cases hb : W.heap[a.block]? with
  | none => simp [hb] at h
  | some o => exact (Array.getElem?_eq_some_iff.1 hb).1
theorem field_b6 (W : World) (B : Nat) : (Instr.fieldAt 49 (.pointer (some ⟨B, 0, none⟩)) 6).run Tryz.prog W = .ok (.pointer (some ⟨B, 6, none⟩)) W := by go_simp
theorem load_nn {V : World} {B j n c : Nat} {a : Option Addr} (h : V.cell? ⟨B, j, none⟩ = some (.slice a n c)) : (Instr.loadAt 22 (.pointer (some ⟨B, j, none⟩))).run Tryz.prog V = .ok (.slice a n c) V := by go_simp
theorem load_nl {V : World} {B j n c : Nat} {a : Option Addr} (h : V.cell? ⟨B, j, none⟩ = some (.slice a n c)) : (Instr.loadAt 26 (.pointer (some ⟨B, j, none⟩))).run Tryz.prog V = .ok (.slice a n c) V := by go_simp
theorem idx_nn (g n cap k : Nat) (h : k < n) (w : World) : (Instr.indexAt 22 (.slice (some ⟨g, 0, none⟩) n cap) (.int .i64 (k : Int))).run Tryz.prog w = .ok (.pointer (some ⟨g, k, none⟩)) w := by
  have h1 : (k : Int) < (n : Int) := by omega
  go_simp
theorem bi_lennn (t : TypeId) (bs : Array Bool) (a : Option Addr) (n c : Nat) (w : World) : (builtin .len #[26] t bs #[.slice a n c]).run Tryz.prog w = .ok (.value (.int .i64 (n : Int))) w := by
  show ((do pure (.value (← Builtin.len_ #[26] t #[.slice a n c]))) : Sem Next).run Tryz.prog w = _
  go_simp
/-- The copies. -/
def Cn (base : Nat) (W : World) (v : Value) (y : List Value) (L : List (List N3)) : Prop := W.ownsRow base 26 1 v L.length y ∧ ∀ (i : Nat) (l : List N3), L[i]? = some l → ∃ ad c, y[i]? = some (.slice ad l.length c) ∧ RdN W ad l
set_option maxHeartbeats 4000000 in
set_option maxRecDepth 100000 in
theorem stilln_any {base bb : Nat} {w : World} {u v : Value} {x y : List Value} {L : List (List N3)} (h : Kn base bb w u v x L) (hc : Cn base w v y L) : Calls Tryz.prog 26 #[.pointer (some ⟨bb, 0, none⟩)] w fun e w' => e = .returned (.bool true) ∧ Below w.heap.size w w' := by
  have hmx : Tryz.prog.follows .mixedOrders = true := by kernel_rfl
  obtain ⟨au, cu, eu, _⟩ := ownsRow_form h.row
  have m6 : ∀ V, Below w.heap.size w V → V.cell? ⟨bb, 6, none⟩ = some (.slice au L.length cu) := fun V hV => by
    rw [cell_at ((hV.block _ (lt_at h.kb)).trans h.kb), ← eu]
    rfl
  obtain ⟨av, cv, ev, _⟩ := ownsRow_form hc.1
  have m7 : ∀ V, Below w.heap.size w V → V.cell? ⟨bb, 7, none⟩ = some (.slice av L.length cv) := fun V hV => by
    rw [cell_at ((hV.block _ (lt_at h.kb)).trans h.kb), ← ev]
    rfl
  have hk4 := h.k
  go_enter Tryz.func26, Tryz.ntmps26
  go_wp2
  go_loopw [3] (fun i wz => ∃ k : Nat, i = .int .i64 (k : Int) ∧ k ≤ L.length ∧ Below w.heap.size w wz) (fun i _ => L.length - vnatR i)
  case atStart => exact ⟨0, rfl, Nat.zero_le _, Below.refl _ _⟩
  case round =>
    obtain ⟨k, rfl, hk, hb⟩ := hrel
    have mm := m6 _ hb
    by_cases hkl : k < L.length
    · have hki : (k : Int) < (L.length : Int) := by omega
      obtain ⟨l, hl⟩ : ∃ l, L[k]? = some l := ⟨_, List.getElem?_eq_getElem hkl⟩
      obtain ⟨gu, cu', z, e1, c1, hxz, hfl, hln⟩ := h.cell hl
      rw [eu] at e1
      cases e1
      obtain ⟨adx, cx, rfl, hrx⟩ := own_rd hfl
      obtain ⟨ady, cy, hyz, hry⟩ := hc.2 k l hl
      have hcr := hc.1
      rcases own_form hcr with ⟨_, e⟩ | ⟨gv, cv', e2, _⟩
      · omega
      rw [e2] at hcr
      rw [ev] at e2
      cases e2
      have c2 : w.cell? ⟨gv, k, none⟩ = some (.slice ady l.length cy) := (hcr.cellAt _ (by have := hc.1.1; omega)).trans hyz
      have hgu := cell_ltO c1
      have hgv := cell_ltO c2
      go_wp2
      rename_i hK
      refine wp_region_any hmx ?_
      refine wpAny_pure (fun i__ => ([(.pointer (some ⟨bb, 0, none⟩)), (.pointer (some ⟨bb, 0, none⟩)), (.pointer (some ⟨bb, 6, none⟩)), (.slice (some ⟨gu, 0, none⟩) L.length cu), (.int .i64 (k : Int)), (.pointer (some ⟨gu, k, none⟩)), (.slice adx l.length cx), (.pointer (some ⟨bb, 0, none⟩)), (.pointer (some ⟨bb, 0, none⟩)), (.pointer (some ⟨bb, 7, none⟩)), (.slice (some ⟨gv, 0, none⟩) L.length cv), (.int .i64 (k : Int)), (.pointer (some ⟨gv, k, none⟩)), (.slice ady l.length cy), (.bool true), (.bool false)] : List Value).getD i__ undef) (fun V => Below w.heap.size w V) (by kernel_rfl) (hb.drew) ?_ ?_
      · refine (stepsFrom_cons ?_ (stepsFrom_cons ?_ (stepsFrom_cons ?_ (stepsFrom_cons ?_ (stepsFrom_cons ?_ (stepsFrom_cons ?_ (stepsFrom_cons ?_ (stepsFrom_cons ?_ (stepsFrom_cons ?_ (stepsFrom_cons ?_ (stepsFrom_cons ?_ (stepsFrom_cons ?_ (stepsFrom_cons ?_ (stepsFrom_cons ?_ (stepsFrom_cons ?_ (stepsFrom_cons ?_ trivial))))))))))))))))
        · exact step_move rfl trivial _ rfl (by kernel_rfl)
        · exact step_nilCheck rfl trivial _ _ _ rfl rfl rfl
        · exact step_fieldAddr rfl trivial _ _ _ _ rfl rfl (fun v hw => field_b6 v _)
        · exact step_load rfl trivial _ _ _ rfl rfl (fun v hw => load_nn (m6 v hw))
        · exact step_move rfl trivial _ rfl (by kernel_rfl)
        · exact step_indexAddr rfl trivial _ _ _ _ _ rfl rfl rfl (fun v hw => idx_nn gu _ _ k hkl v)
        · exact step_load rfl trivial _ _ _ rfl rfl (fun v hw => load_nl ((hw.cell (p := ⟨gu, k, none⟩) hgu).trans c1))
        · exact step_move rfl trivial _ rfl (by kernel_rfl)
        · exact step_nilCheck rfl trivial _ _ _ rfl rfl rfl
        · exact step_fieldAddr rfl trivial _ _ _ _ rfl rfl (fun v hw => field_kb v _)
        · exact step_load rfl trivial _ _ _ rfl rfl (fun v hw => load_nn (m7 v hw))
        · exact step_move rfl trivial _ rfl (by kernel_rfl)
        · exact step_indexAddr rfl trivial _ _ _ _ _ rfl rfl rfl (fun v hw => idx_nn gv _ _ k hkl v)
        · exact step_load rfl trivial _ _ _ rfl rfl (fun v hw => load_nl ((hw.cell (p := ⟨gv, k, none⟩) hgv).trans c2))
        · exact step_call rfl trivial 9 _ _ [(.slice adx l.length cx), (.slice ady l.length cy)] rfl (by kernel_rfl) (enters_of Tryz.func9 (by kernel_rfl) rfl) (fun v hw => (same_any adx ady cx cy l v (hrx.carry hw) (hry.carry hw) (by omega)).mono (by rintro e w' ⟨rfl, hb'⟩; exact ⟨rfl, bel2 hw hb'⟩))
        · exact step_unOp rfl trivial _ _ _ _ rfl rfl (fun v hw => un_not true v)
      intro W hW
      first | refine hK _ _ ?_ | refine (‹∀ (a : Act) (w : World), Code.wp Tryz.prog _ _ a w → _›) _ _ ?_
      simp only [finL, List.getD_cons_zero, List.getD_cons_succ, Nat.zero_add, Nat.reduceAdd, List.setIfInBounds_toArray, List.set_cons_zero, List.set_cons_succ]
      clear hK
      go_wp2
      go_roundw
      case rel => exact ⟨k + 1, by simp, by omega, hW⟩
      case measure => simp [vnatR]; omega
    · have hki : ¬ (k : Int) < (L.length : Int) := by omega
      go_wp2
      go_ret
      exact ⟨rfl, hb⟩
end Go.Proofs.YtddblfffjhoiaabGreat
namespace Go.Proofs.YtddblfffjhoiaabGreat
open Go.RowKit Go.Shelf Go.Lib

/-- All lists of a row are marked. -/
def Mkn (W : World) (xs : List Value) : Prop := ∀ (i : Nat) (z : Value), xs[i]? = some z → ∃ ad n c, z = .slice ad n c ∧ RdN W ad (mkM i 0 n) ∧ n ≤ 5000
theorem Mkn.carry {W V : World} {xs : List Value} (h : Mkn W xs) (hb : Below W.heap.size W V) : Mkn V xs := fun i z hz => by
  obtain ⟨ad, n, c, e, h1, h2⟩ := h i z hz
  exact ⟨ad, n, c, e, h1.carry hb, h2⟩
theorem own_rdm {base : Nat} {W : World} {z : Value} {i n : Nat} (h : W.ownsRow base 61 3 z n (fl (mkM i 0 n))) : ∃ ad c, z = .slice ad n c ∧ RdN W ad (mkM i 0 n) := by
  have h2 : W.ownsRow base 61 3 z (mkM i 0 n).length (fl (mkM i 0 n)) := by rw [mkM_len]; exact h
  obtain ⟨ad, c, e, hr⟩ := own_rd h2
  rw [mkM_len] at e
  exact ⟨ad, c, e, hr⟩
set_option maxHeartbeats 4000000 in
set_option maxRecDepth 100000 in
theorem markedn_any {base k : Nat} {w : World} {uu : Value} {xs : List Value} (h : w.ownsRow base 26 1 uu k xs) (hm : Mkn w xs) (hk : k ≤ 400) : Calls Tryz.prog 62 #[uu] w fun e w' => e = .returned (.bool true) ∧ Below w.heap.size w w' := by
  have hmx : Tryz.prog.follows .mixedOrders = true := by kernel_rfl
  obtain ⟨au, cu, eu, _⟩ := ownsRow_form h
  subst eu
  have hlen : xs.length = k := by have := h.1; omega
  go_enter Tryz.func62, Tryz.ntmps62
  go_wp2
  go_loopw [3] (fun i wz => ∃ j : Nat, i = .int .i64 (j : Int) ∧ j ≤ k ∧ Below w.heap.size w wz) (fun i _ => k - vnatR i)
  case atStart => exact ⟨0, rfl, Nat.zero_le _, Below.refl _ _⟩
  case round =>
    obtain ⟨j, rfl, hj, hb⟩ := hrel
    by_cases hjk : j < k
    · have hji : (j : Int) < (k : Int) := by omega
      obtain ⟨z, hz⟩ : ∃ z, xs[j]? = some z := ⟨_, List.getElem?_eq_getElem (by omega)⟩
      obtain ⟨adx, n, c, rfl, hrx, hn⟩ := hm j z hz
      rcases own_form h with ⟨_, e⟩ | ⟨gu, cu', e1, _⟩
      · omega
      cases e1
      have c1 : w.cell? ⟨gu, j, none⟩ = some (.slice adx n c) := (h.cellAt _ (by omega)).trans hz
      have hgu := cell_ltO c1
      go_wp2
      rename_i hK
      refine wp_region_any hmx ?_
      refine wpAny_tabG (G := Value) (fun g i__ => ([(.slice (some ⟨gu, 0, none⟩) k cu), (.int .i64 (j : Int)), (.pointer (some ⟨gu, j, none⟩)), (.slice adx n c), (.int .i64 (j : Int)), (.slice (some ⟨gu, 0, none⟩) k cu), (.int .i64 (j : Int)), (.pointer (some ⟨gu, j, none⟩)), (.slice adx n c), (.int .i64 (n : Int)), g, (.bool true), (.bool false)] : List Value).getD i__ undef) (fun g d V => Below w.heap.size w V ∧ (d 10 = true → V.ownsRow w.heap.size 61 3 g n (fl (mkM j 0 n)))) (by kernel_rfl) (undef) (⟨hb.drew, fun q => by cases q⟩) ?step3 ?fin3
      case step3 =>
        intro i o ho
        have hi : i < 13 := getElem?_lt ho
        match i, hi, ho with
        | 0, _, ho =>
          cases ho
          refine stepG_of (fun g d hdep => ?_)
          exact step_move rfl trivial _ rfl (by kernel_rfl)
        | 1, _, ho =>
          cases ho
          refine stepG_of (fun g d hdep => ?_)
          exact step_move rfl trivial _ rfl (by kernel_rfl)
        | 2, _, ho =>
          cases ho
          refine stepG_of (fun g d hdep => ?_)
          exact step_indexAddr rfl trivial _ _ _ _ _ rfl rfl rfl (fun v hw => idx_nn gu _ _ j hjk v)
        | 3, _, ho =>
          cases ho
          refine stepG_of (fun g d hdep => ?_)
          exact step_load rfl trivial _ _ _ rfl rfl (fun v hw => load_nl ((hw.1.cell (p := ⟨gu, j, none⟩) hgu).trans c1))
        | 4, _, ho =>
          cases ho
          refine stepG_of (fun g d hdep => ?_)
          exact step_move rfl trivial _ rfl (by kernel_rfl)
        | 5, _, ho =>
          cases ho
          refine stepG_of (fun g d hdep => ?_)
          exact step_move rfl trivial _ rfl (by kernel_rfl)
        | 6, _, ho =>
          cases ho
          refine stepG_of (fun g d hdep => ?_)
          exact step_move rfl trivial _ rfl (by kernel_rfl)
        | 7, _, ho =>
          cases ho
          refine stepG_of (fun g d hdep => ?_)
          exact step_indexAddr rfl trivial _ _ _ _ _ rfl rfl rfl (fun v hw => idx_nn gu _ _ j hjk v)
        | 8, _, ho =>
          cases ho
          refine stepG_of (fun g d hdep => ?_)
          exact step_load rfl trivial _ _ _ rfl rfl (fun v hw => load_nl ((hw.1.cell (p := ⟨gu, j, none⟩) hgu).trans c1))
        | 9, _, ho =>
          cases ho
          refine stepG_of (fun g d hdep => ?_)
          exact step_bi rfl trivial _ _ _ [(.slice adx n c)] rfl (by kernel_rfl) (fun bs v hw => bi_lennn _ bs _ _ _ v)
        | 10, _, ho =>
          cases ho
          exact stepG_call rfl (fun _ => trivial) 108 _ _ (fun _ => [.int .i64 (j : Int), .int .i64 0, .int .i64 (n : Int)]) rfl (fun g => by kernel_rfl) (enters_of Tryz.func108 (by kernel_rfl) rfl) (fun g d V hJ hun hdep hcl => (markn_any j 0 n (by omega) (by omega) hn V).mono (by rintro e V' ⟨v', rfl, hro, hb'⟩; refine ⟨v', rfl, (fun j hj => match j, hj with | 10, hj => (by rw [hj] at hun; cases hun)  | 0, _ => rfl | 1, _ => rfl | 2, _ => rfl | 3, _ => rfl | 4, _ => rfl | 5, _ => rfl | 6, _ => rfl | 7, _ => rfl | 8, _ => rfl | 9, _ => rfl | 11, _ => rfl | 12, _ => rfl | _ + 13, _ => rfl), ?_⟩; exact ⟨bel2 hJ.1 hb', fun _ => row_base hro hJ.1.size⟩))
        | 11, _, ho =>
          cases ho
          refine stepG_of (fun g d hdep => ?_)
          exact step_call rfl trivial 9 _ _ [(.slice adx n c), g] rfl (by kernel_rfl) (enters_of Tryz.func9 (by kernel_rfl) rfl) (fun v hw => by have h1 : d 10 = true := hdep 10 (by kernel_rfl); have ho := hw.2 h1; obtain ⟨a', c', e', hr'⟩ := own_rdm ho; have hq := same_any adx a' c c' (mkM j 0 n) v (hrx.carry hw.1) hr' (by rw [mkM_len]; omega); rw [mkM_len] at hq; show Calls Tryz.prog _ [Value.slice adx n c, g].toArray v _; rw [e'] at ho ⊢; exact hq.mono (by rintro e w' ⟨rfl, hb'⟩; exact ⟨rfl, bel2 hw.1 hb', fun _ => row_below ho hb'⟩))
        | 12, _, ho =>
          cases ho
          refine stepG_of (fun g d hdep => ?_)
          exact step_unOp rfl trivial _ _ _ _ rfl rfl (fun v hw => un_not true v)
      intro g d W hall hW
      first | refine hK _ _ ?_ | refine (‹∀ (a : Act) (w : World), Code.wp Tryz.prog _ _ a w → _›) _ _ ?_ | skip
      simp only [finL, List.getD_cons_zero, List.getD_cons_succ, Nat.zero_add, Nat.reduceAdd, List.setIfInBounds_toArray, List.set_cons_zero, List.set_cons_succ]
      have hWb := hW.1
      clear hK hall hW
      go_wp2
      go_roundw
      case rel => exact ⟨j + 1, by simp, by omega, hWb⟩
      case measure => simp [vnatR]; omega
    · have hji : ¬ (j : Int) < (k : Int) := by omega
      go_wp2
      go_ret
      exact ⟨rfl, hb⟩
end Go.Proofs.YtddblfffjhoiaabGreat
