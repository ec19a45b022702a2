/- earshotbook's markNotices: what it answers. -/
import Derived.Test.YtojegojeolkgpaaGreatBkz
import Derived.Test.YtojegojeolkgpaaGreatRnl
import Derived.Test.YtojegojeolkgpaaGreatBpz
import Derived.ArgAppend
namespace Go.Proofs.YtojegojeolkgpaaGreat
open Go.RowKit Go.Shelf Go.Lib

/-- The marks of the list i, from a place on, so many. -/
def mkM (i f n : Nat) : List N3 := (List.range n).map fun k => (-1 - (i : Int), ((f + k : Nat) : Int), 0)
theorem mkM_len (i f n : Nat) : (mkM i f n).length = n := by simp [mkM]
theorem mkM_succ (i f n : Nat) : mkM i f (n + 1) = mkM i f n ++ [(-1 - (i : Int), ((f + n : Nat) : Int), 0)] := by simp [mkM, List.range_succ]
theorem mkM_app (i f n : Nat) : ∀ m, mkM i f n ++ mkM i (f + n) m = mkM i f (n + m)
  | 0 => by simp [mkM]
  | m + 1 => by rw [mkM_succ, ← List.append_assoc, mkM_app i f n m, show n + (m + 1) = n + m + 1 by omega, mkM_succ, Nat.add_assoc f n m]
theorem mkM_get (i n k : Nat) (hk : k < n) : (mkM i 0 n)[k]? = some (-1 - (i : Int), (k : Int), 0) := by
  unfold mkM
  rw [List.getElem?_map, List.getElem?_range hk]
  simp
theorem mkM_take (i n k : Nat) (hk : k ≤ n) : (mkM i 0 n).take k = mkM i 0 k := by
  have h := mkM_app i 0 k (n - k)
  rw [show k + (n - k) = n by omega] at h
  rw [← h, List.take_append_of_le_length (by rw [mkM_len]; omega), List.take_of_length_le (by rw [mkM_len]; omega)]
set_option maxHeartbeats 4000000 in
set_option maxRecDepth 100000 in
theorem markn_any (i f n : Nat) (hi : i ≤ 400) (hf : f ≤ 5000) (hn : n ≤ 5000) (w : World) : Calls Tryz.prog 106 #[.int .i64 (i : Int), .int .i64 (f : Int), .int .i64 (n : Int)] w fun e w' => ∃ v, e = .returned v ∧ w'.ownsRow w.heap.size 62 3 v n (fl (mkM i f n)) ∧ Below w.heap.size w w' := by
  obtain ⟨ic, hic, hz0, hz1, hz2⟩ := info_partsN
  go_enter Tryz.func106, Tryz.ntmps106
  go_wp2
  go_loopw [7, 8] (fun v k wz => ∃ j : Nat, k = .int .i64 ((f + j : Nat) : Int) ∧ j ≤ n ∧ wz.ownsRow w.heap.size 62 3 v j (fl (mkM i f j)) ∧ Below w.heap.size w wz) (fun _ k _ => f + n - vnatR k)
  case atStart => exact ⟨0, rfl, Nat.zero_le _, World.ownsRow_nil _ _ _ _, Below.refl _ _⟩
  case round =>
    obtain ⟨j, rfl, hj, hrow, hbw⟩ := hrel
    have hsw := hbw.size
    by_cases hjn : j < n
    · have hji : ((f + j : Nat) : Int) < (f : Int) + (n : Int) := by omega
      obtain ⟨q, hq⟩ : ∃ q, f + j = q := ⟨_, rfl⟩
      rw [hq] at hji ⊢
      have hq2 : q ≤ 10000 := by omega
      have hfl : fl (mkM i f (j + 1)) = fl (mkM i f j) ++ [.int .i64 (-1 - (i : Int)), .int .i64 (q : Int), .int .i64 0] := by
        rw [mkM_succ, fl_append, hq]
        rfl
      have HF : Hid (fl (mkM i f (j + 1)) = fl (mkM i f j) ++ [.int .i64 (-1 - (i : Int)), .int .i64 (q : Int), .int .i64 0]) := hfl
      have HQ : Hid (f + j = q) := hq
      clear hq hfl
      go_wp2_with (at_builtin; refine wpList_append_own _ rfl _ _ 23 rfl w.heap.size 62 ic _ 3 24 Tryz.underlying23 hic hz0 hz1 hz2 rfl (by decide) _ j (fl (mkM i f j)) rfl (hrow.alloc _) ⟨wr.heap.size, 0, none⟩ 1 1 [_, _, _] rfl rfl (rowN _ #[_, _, _] _) (by simp [Value.oneCell']) (by unfold maxLen; omega) (by omega) (Nat.le_trans hsw (by simp)) ?_; intro v' w2 hown' hgrow _)
      go_roundw
      case rel =>
        refine ⟨j + 1, by have := HQ.out; simp; omega, by omega, ?_, (hbw.alloc hsw _).grown hgrow (Nat.le_trans hsw (by simp)) (fun q e => own_block hrow q e)⟩
        rw [HF.out]
        exact hown'
      case measure => have := HQ.out; simp [vnatR]; omega
    · have hjj : j = n := by omega
      subst hjj
      have hji : ¬ ((f + j : Nat) : Int) < (f : Int) + (j : Int) := by omega
      go_wp2
      go_ret
      exact ⟨_, rfl, hrow, hbw⟩
end Go.Proofs.YtojegojeolkgpaaGreat
namespace Go.Proofs.YtojegojeolkgpaaGreat
open Go.RowKit Go.Shelf Go.Lib

structure Kn (base bb : Nat) (W : World) (u v : Value) (x : List Value) (L : List (List N3)) : Prop where
  kb : KB W bb u v
  row : W.ownsRow base 23 1 u L.length x
  ks : ∀ (i : Nat) (l : List N3), L[i]? = some l → ∃ z, x[i]? = some z ∧ W.ownsRow base 62 3 z l.length (fl l) ∧ l.length ≤ 1000
  ap : ∀ (i j g : Nat) (z z' : Value), x[i]? = some z → x[j]? = some z' → z.ownBlock = some g → z'.ownBlock = some g → i = j
  bb : base ≤ bb
  k : L.length ≤ 400
section
variable {base bb : Nat} {W V : World} {u v : Value} {x : List Value} {L : List (List N3)}
theorem own_rd {z : Value} {l : List N3} (h : W.ownsRow base 62 3 z l.length (fl l)) : ∃ ad c, z = .slice ad l.length c ∧ RdN W ad l := by
  rcases own_form h with ⟨rfl, e⟩ | ⟨g, cap, rfl, h1, h2, h3⟩
  · exact ⟨none, 0, by rw [e], fun hn => absurd (List.eq_nil_of_length_eq_zero e) hn⟩
  · exact ⟨some ⟨g, 0, none⟩, cap, rfl, fun _ => ⟨g, 0, rfl, h2, nts_own h rfl⟩⟩
theorem Kn.lenx (h : Kn base bb W u v x L) : x.length = L.length := by
  have := h.row.1
  omega
theorem Kn.carry (h : Kn base bb W u v x L) (hb : Below W.heap.size W V) : Kn base bb V u v x L :=
  ⟨(hb.block _ (lt_at h.kb)).trans h.kb, row_below h.row hb, fun i l hl => by
    obtain ⟨z, h1, h2, h3⟩ := h.ks i l hl
    exact ⟨z, h1, row_below h2 hb, h3⟩, h.ap, h.bb, h.k⟩
theorem Kn.cell (h : Kn base bb W u v x L) {i : Nat} {l : List N3} (hl : L[i]? = some l) : ∃ g c z, u = .slice (some ⟨g, 0, none⟩) L.length c ∧ W.cell? ⟨g, i, none⟩ = some z ∧ x[i]? = some z ∧ W.ownsRow base 62 3 z l.length (fl l) ∧ l.length ≤ 1000 := by
  obtain ⟨z, h1, h2, h3⟩ := h.ks i l hl
  have hi : i < L.length := (List.getElem?_eq_some_iff.1 hl).1
  have hr := h.row
  rcases own_form hr with ⟨_, e⟩ | ⟨g, cap, e, _⟩
  · omega
  · rw [e] at hr
    exact ⟨g, cap, z, e, (hr.cellAt _ (by have := h.lenx; omega)).trans h1, h1, h2, h3⟩
end
theorem cell_ltO {W : World} {a : Addr} {v : Value} (h : W.cell? a = some v) : a.block < W.heap.size := by
  unfold World.cell? at h
  cases hb : W.heap[a.block]? with
  | none => simp [hb] at h
  | some o => exact (Array.getElem?_eq_some_iff.1 hb).1
theorem field_b6 (W : World) (B : Nat) : (Instr.fieldAt 44 (.pointer (some ⟨B, 0, none⟩)) 6).run Tryz.prog W = .ok (.pointer (some ⟨B, 6, none⟩)) W := by go_simp
theorem load_nn {V : World} {B j n c : Nat} {a : Option Addr} (h : V.cell? ⟨B, j, none⟩ = some (.slice a n c)) : (Instr.loadAt 34 (.pointer (some ⟨B, j, none⟩))).run Tryz.prog V = .ok (.slice a n c) V := by go_simp
theorem load_nl {V : World} {B j n c : Nat} {a : Option Addr} (h : V.cell? ⟨B, j, none⟩ = some (.slice a n c)) : (Instr.loadAt 23 (.pointer (some ⟨B, j, none⟩))).run Tryz.prog V = .ok (.slice a n c) V := by go_simp
theorem idx_nn (g n cap k : Nat) (h : k < n) (w : World) : (Instr.indexAt 34 (.slice (some ⟨g, 0, none⟩) n cap) (.int .i64 (k : Int))).run Tryz.prog w = .ok (.pointer (some ⟨g, k, none⟩)) w := by
  have h1 : (k : Int) < (n : Int) := by omega
  go_simp
theorem bi_lennn (t : TypeId) (bs : Array Bool) (a : Option Addr) (n c : Nat) (w : World) : (builtin .len #[23] t bs #[.slice a n c]).run Tryz.prog w = .ok (.value (.int .i64 (n : Int))) w := by
  show ((do pure (.value (← Builtin.len_ #[23] t #[.slice a n c]))) : Sem Next).run Tryz.prog w = _
  go_simp
/-- The copies. -/
def Cn (base : Nat) (W : World) (v : Value) (y : List Value) (L : List (List N3)) : Prop := W.ownsRow base 23 1 v L.length y ∧ ∀ (i : Nat) (l : List N3), L[i]? = some l → ∃ ad c, y[i]? = some (.slice ad l.length c) ∧ RdN W ad l
set_option maxHeartbeats 4000000 in
set_option maxRecDepth 100000 in
theorem stilln_any {base bb : Nat} {w : World} {u v : Value} {x y : List Value} {L : List (List N3)} (h : Kn base bb w u v x L) (hc : Cn base w v y L) : Calls Tryz.prog 34 #[.pointer (some ⟨bb, 0, none⟩)] w fun e w' => e = .returned (.bool true) ∧ Below w.heap.size w w' := by
  have hmx : Tryz.prog.follows .mixedOrders = true := by kernel_rfl
  obtain ⟨au, cu, eu, _⟩ := ownsRow_form h.row
  have m6 : ∀ V, Below w.heap.size w V → V.cell? ⟨bb, 6, none⟩ = some (.slice au L.length cu) := fun V hV => by
    rw [cell_at ((hV.block _ (lt_at h.kb)).trans h.kb), ← eu]
    rfl
  obtain ⟨av, cv, ev, _⟩ := ownsRow_form hc.1
  have m7 : ∀ V, Below w.heap.size w V → V.cell? ⟨bb, 7, none⟩ = some (.slice av L.length cv) := fun V hV => by
    rw [cell_at ((hV.block _ (lt_at h.kb)).trans h.kb), ← ev]
    rfl
  have hk4 := h.k
  go_enter Tryz.func34, Tryz.ntmps34
  go_wp2
  go_loopw [3] (fun i wz => ∃ k : Nat, i = .int .i64 (k : Int) ∧ k ≤ L.length ∧ Below w.heap.size w wz) (fun i _ => L.length - vnatR i)
  case atStart => exact ⟨0, rfl, Nat.zero_le _, Below.refl _ _⟩
  case round =>
    obtain ⟨k, rfl, hk, hb⟩ := hrel
    have mm := m6 _ hb
    by_cases hkl : k < L.length
    · have hki : (k : Int) < (L.length : Int) := by omega
      obtain ⟨l, hl⟩ : ∃ l, L[k]? = some l := ⟨_, List.getElem?_eq_getElem hkl⟩
      obtain ⟨gu, cu', z, e1, c1, hxz, hfl, hln⟩ := h.cell hl
      rw [eu] at e1
      cases e1
      obtain ⟨adx, cx, rfl, hrx⟩ := own_rd hfl
      obtain ⟨ady, cy, hyz, hry⟩ := hc.2 k l hl
      have hcr := hc.1
      rcases own_form hcr with ⟨_, e⟩ | ⟨gv, cv', e2, _⟩
      · omega
      rw [e2] at hcr
      rw [ev] at e2
      cases e2
      have c2 : w.cell? ⟨gv, k, none⟩ = some (.slice ady l.length cy) := (hcr.cellAt _ (by have := hc.1.1; omega)).trans hyz
      have hgu := cell_ltO c1
      have hgv := cell_ltO c2
      go_wp2
      rename_i hK
      refine wp_region_any hmx ?_
      refine wpAny_pure (fun i__ => ([(.pointer (some ⟨bb, 0, none⟩)), (.pointer (some ⟨bb, 0, none⟩)), (.pointer (some ⟨bb, 6, none⟩)), (.slice (some ⟨gu, 0, none⟩) L.length cu), (.int .i64 (k : Int)), (.pointer (some ⟨gu, k, none⟩)), (.slice adx l.length cx), (.pointer (some ⟨bb, 0, none⟩)), (.pointer (some ⟨bb, 0, none⟩)), (.pointer (some ⟨bb, 7, none⟩)), (.slice (some ⟨gv, 0, none⟩) L.length cv), (.int .i64 (k : Int)), (.pointer (some ⟨gv, k, none⟩)), (.slice ady l.length cy), (.bool true), (.bool false)] : List Value).getD i__ undef) (fun V => Below w.heap.size w V) (by kernel_rfl) (hb.drew) ?_ ?_
      · refine (stepsFrom_cons ?_ (stepsFrom_cons ?_ (stepsFrom_cons ?_ (stepsFrom_cons ?_ (stepsFrom_cons ?_ (stepsFrom_cons ?_ (stepsFrom_cons ?_ (stepsFrom_cons ?_ (stepsFrom_cons ?_ (stepsFrom_cons ?_ (stepsFrom_cons ?_ (stepsFrom_cons ?_ (stepsFrom_cons ?_ (stepsFrom_cons ?_ (stepsFrom_cons ?_ (stepsFrom_cons ?_ trivial))))))))))))))))
        · exact step_move rfl trivial _ rfl (by kernel_rfl)
        · exact step_nilCheck rfl trivial _ _ _ rfl rfl rfl
        · exact step_fieldAddr rfl trivial _ _ _ _ rfl rfl (fun v hw => field_b6 v _)
        · exact step_load rfl trivial _ _ _ rfl rfl (fun v hw => load_nn (m6 v hw))
        · exact step_move rfl trivial _ rfl (by kernel_rfl)
        · exact step_indexAddr rfl trivial _ _ _ _ _ rfl rfl rfl (fun v hw => idx_nn gu _ _ k hkl v)
        · exact step_load rfl trivial _ _ _ rfl rfl (fun v hw => load_nl ((hw.cell (p := ⟨gu, k, none⟩) hgu).trans c1))
        · exact step_move rfl trivial _ rfl (by kernel_rfl)
        · exact step_nilCheck rfl trivial _ _ _ rfl rfl rfl
        · exact step_fieldAddr rfl trivial _ _ _ _ rfl rfl (fun v hw => field_kb v _)
        · exact step_load rfl trivial _ _ _ rfl rfl (fun v hw => load_nn (m7 v hw))
        · exact step_move rfl trivial _ rfl (by kernel_rfl)
        · exact step_indexAddr rfl trivial _ _ _ _ _ rfl rfl rfl (fun v hw => idx_nn gv _ _ k hkl v)
        · exact step_load rfl trivial _ _ _ rfl rfl (fun v hw => load_nl ((hw.cell (p := ⟨gv, k, none⟩) hgv).trans c2))
        · exact step_call rfl trivial 13 _ _ [(.slice adx l.length cx), (.slice ady l.length cy)] rfl (by kernel_rfl) (enters_of Tryz.func13 (by kernel_rfl) rfl) (fun v hw => (same_any adx ady cx cy l v (hrx.carry hw) (hry.carry hw) (by omega)).mono (by rintro e w' ⟨rfl, hb'⟩; exact ⟨rfl, bel2 hw hb'⟩))
        · exact step_unOp rfl trivial _ _ _ _ rfl rfl (fun v hw => un_not true v)
      intro W hW
      first | refine hK _ _ ?_ | refine (‹∀ (a : Act) (w : World), Code.wp Tryz.prog _ _ a w → _›) _ _ ?_
      simp only [finL, List.getD_cons_zero, List.getD_cons_succ, Nat.zero_add, Nat.reduceAdd, List.setIfInBounds_toArray, List.set_cons_zero, List.set_cons_succ]
      clear hK
      go_wp2
      go_roundw
      case rel => exact ⟨k + 1, by simp, by omega, hW⟩
      case measure => simp [vnatR]; omega
    · have hki : ¬ (k : Int) < (L.length : Int) := by omega
      go_wp2
      go_ret
      exact ⟨rfl, hb⟩
end Go.Proofs.YtojegojeolkgpaaGreat
namespace Go.Proofs.YtojegojeolkgpaaGreat
open Go.RowKit Go.Shelf Go.Lib

section
variable {W : World} {bb : Nat}
set_option maxHeartbeats 1000000 in
theorem stillInts_e (h : W.cell? ⟨bb, 0, none⟩ = some (.slice none 0 0)) : Calls Tryz.prog 31 #[.pointer (some ⟨bb, 0, none⟩)] W fun e w' => e = .returned (.bool true) ∧ w' = W := by
  go_enter Tryz.func31, Tryz.ntmps31
  go_wp2
  go_loopw [3] (fun i wz => i = .int .i64 0 ∧ wz = W) (fun _ _ => 0)
  case atStart => exact ⟨rfl, rfl⟩
  case round =>
    obtain ⟨rfl, rfl⟩ := hrel
    go_wp2
    go_ret
    exact ⟨rfl, rfl⟩
set_option maxHeartbeats 1000000 in
theorem putInts_e (h : W.cell? ⟨bb, 0, none⟩ = some (.slice none 0 0)) : Calls Tryz.prog 43 #[.pointer (some ⟨bb, 0, none⟩)] W fun e w' => e = .returned (.tuple #[]) ∧ w' = W := by
  go_enter Tryz.func43, Tryz.ntmps43
  go_wp2
  go_loopw [2] (fun i wz => i = .int .i64 0 ∧ wz = W) (fun _ _ => 0)
  case atStart => exact ⟨rfl, rfl⟩
  case round =>
    obtain ⟨rfl, rfl⟩ := hrel
    go_wp2
    go_end0
    exact ⟨rfl, rfl⟩
set_option maxHeartbeats 1000000 in
theorem growInts_e (h : W.cell? ⟨bb, 0, none⟩ = some (.slice none 0 0)) : Calls Tryz.prog 55 #[.pointer (some ⟨bb, 0, none⟩)] W fun e w' => e = .returned (.slice none 0 0) ∧ w' = W := by
  go_enter Tryz.func55, Tryz.ntmps55
  go_wp2
  go_loopw [3, 4] (fun o i wz => o = .slice none 0 0 ∧ i = .int .i64 0 ∧ wz = W) (fun _ _ _ => 0)
  case atStart => exact ⟨rfl, rfl, rfl⟩
  case round =>
    obtain ⟨rfl, rfl, rfl⟩ := hrel
    go_wp2
    go_ret
    exact ⟨rfl, rfl⟩
set_option maxHeartbeats 1000000 in
theorem markedInts_e (W : World) : Calls Tryz.prog 67 #[.slice none 0 0] W fun e w' => e = .returned (.bool true) ∧ w' = W := by
  go_enter Tryz.func67, Tryz.ntmps67
  go_wp2
  go_loopw [3] (fun i wz => i = .int .i64 0 ∧ wz = W) (fun _ _ => 0)
  case atStart => exact ⟨rfl, rfl⟩
  case round =>
    obtain ⟨rfl, rfl⟩ := hrel
    go_wp2
    go_ret
    exact ⟨rfl, rfl⟩
set_option maxHeartbeats 1000000 in
theorem stillChars_e (h : W.cell? ⟨bb, 2, none⟩ = some (.slice none 0 0)) : Calls Tryz.prog 32 #[.pointer (some ⟨bb, 0, none⟩)] W fun e w' => e = .returned (.bool true) ∧ w' = W := by
  go_enter Tryz.func32, Tryz.ntmps32
  go_wp2
  go_loopw [3] (fun i wz => i = .int .i64 0 ∧ wz = W) (fun _ _ => 0)
  case atStart => exact ⟨rfl, rfl⟩
  case round =>
    obtain ⟨rfl, rfl⟩ := hrel
    go_wp2
    go_ret
    exact ⟨rfl, rfl⟩
set_option maxHeartbeats 1000000 in
theorem putChars_e (h : W.cell? ⟨bb, 2, none⟩ = some (.slice none 0 0)) : Calls Tryz.prog 44 #[.pointer (some ⟨bb, 0, none⟩)] W fun e w' => e = .returned (.tuple #[]) ∧ w' = W := by
  go_enter Tryz.func44, Tryz.ntmps44
  go_wp2
  go_loopw [2] (fun i wz => i = .int .i64 0 ∧ wz = W) (fun _ _ => 0)
  case atStart => exact ⟨rfl, rfl⟩
  case round =>
    obtain ⟨rfl, rfl⟩ := hrel
    go_wp2
    go_end0
    exact ⟨rfl, rfl⟩
set_option maxHeartbeats 1000000 in
theorem growChars_e (h : W.cell? ⟨bb, 2, none⟩ = some (.slice none 0 0)) : Calls Tryz.prog 56 #[.pointer (some ⟨bb, 0, none⟩)] W fun e w' => e = .returned (.slice none 0 0) ∧ w' = W := by
  go_enter Tryz.func56, Tryz.ntmps56
  go_wp2
  go_loopw [3, 4] (fun o i wz => o = .slice none 0 0 ∧ i = .int .i64 0 ∧ wz = W) (fun _ _ _ => 0)
  case atStart => exact ⟨rfl, rfl, rfl⟩
  case round =>
    obtain ⟨rfl, rfl, rfl⟩ := hrel
    go_wp2
    go_ret
    exact ⟨rfl, rfl⟩
set_option maxHeartbeats 1000000 in
theorem markedChars_e (W : World) : Calls Tryz.prog 68 #[.slice none 0 0] W fun e w' => e = .returned (.bool true) ∧ w' = W := by
  go_enter Tryz.func68, Tryz.ntmps68
  go_wp2
  go_loopw [3] (fun i wz => i = .int .i64 0 ∧ wz = W) (fun _ _ => 0)
  case atStart => exact ⟨rfl, rfl⟩
  case round =>
    obtain ⟨rfl, rfl⟩ := hrel
    go_wp2
    go_ret
    exact ⟨rfl, rfl⟩
set_option maxHeartbeats 1000000 in
theorem stillTokens_e (h : W.cell? ⟨bb, 4, none⟩ = some (.slice none 0 0)) : Calls Tryz.prog 33 #[.pointer (some ⟨bb, 0, none⟩)] W fun e w' => e = .returned (.bool true) ∧ w' = W := by
  go_enter Tryz.func33, Tryz.ntmps33
  go_wp2
  go_loopw [3] (fun i wz => i = .int .i64 0 ∧ wz = W) (fun _ _ => 0)
  case atStart => exact ⟨rfl, rfl⟩
  case round =>
    obtain ⟨rfl, rfl⟩ := hrel
    go_wp2
    go_ret
    exact ⟨rfl, rfl⟩
set_option maxHeartbeats 1000000 in
theorem putTokens_e (h : W.cell? ⟨bb, 4, none⟩ = some (.slice none 0 0)) : Calls Tryz.prog 45 #[.pointer (some ⟨bb, 0, none⟩)] W fun e w' => e = .returned (.tuple #[]) ∧ w' = W := by
  go_enter Tryz.func45, Tryz.ntmps45
  go_wp2
  go_loopw [2] (fun i wz => i = .int .i64 0 ∧ wz = W) (fun _ _ => 0)
  case atStart => exact ⟨rfl, rfl⟩
  case round =>
    obtain ⟨rfl, rfl⟩ := hrel
    go_wp2
    go_end0
    exact ⟨rfl, rfl⟩
set_option maxHeartbeats 1000000 in
theorem growTokens_e (h : W.cell? ⟨bb, 4, none⟩ = some (.slice none 0 0)) : Calls Tryz.prog 57 #[.pointer (some ⟨bb, 0, none⟩)] W fun e w' => e = .returned (.slice none 0 0) ∧ w' = W := by
  go_enter Tryz.func57, Tryz.ntmps57
  go_wp2
  go_loopw [3, 4] (fun o i wz => o = .slice none 0 0 ∧ i = .int .i64 0 ∧ wz = W) (fun _ _ _ => 0)
  case atStart => exact ⟨rfl, rfl, rfl⟩
  case round =>
    obtain ⟨rfl, rfl, rfl⟩ := hrel
    go_wp2
    go_ret
    exact ⟨rfl, rfl⟩
set_option maxHeartbeats 1000000 in
theorem markedTokens_e (W : World) : Calls Tryz.prog 69 #[.slice none 0 0] W fun e w' => e = .returned (.bool true) ∧ w' = W := by
  go_enter Tryz.func69, Tryz.ntmps69
  go_wp2
  go_loopw [3] (fun i wz => i = .int .i64 0 ∧ wz = W) (fun _ _ => 0)
  case atStart => exact ⟨rfl, rfl⟩
  case round =>
    obtain ⟨rfl, rfl⟩ := hrel
    go_wp2
    go_ret
    exact ⟨rfl, rfl⟩
set_option maxHeartbeats 1000000 in
theorem stillBytes_e (h : W.cell? ⟨bb, 8, none⟩ = some (.slice none 0 0)) : Calls Tryz.prog 35 #[.pointer (some ⟨bb, 0, none⟩)] W fun e w' => e = .returned (.bool true) ∧ w' = W := by
  go_enter Tryz.func35, Tryz.ntmps35
  go_wp2
  go_loopw [3] (fun i wz => i = .int .i64 0 ∧ wz = W) (fun _ _ => 0)
  case atStart => exact ⟨rfl, rfl⟩
  case round =>
    obtain ⟨rfl, rfl⟩ := hrel
    go_wp2
    go_ret
    exact ⟨rfl, rfl⟩
set_option maxHeartbeats 1000000 in
theorem putBytes_e (h : W.cell? ⟨bb, 8, none⟩ = some (.slice none 0 0)) : Calls Tryz.prog 47 #[.pointer (some ⟨bb, 0, none⟩)] W fun e w' => e = .returned (.tuple #[]) ∧ w' = W := by
  go_enter Tryz.func47, Tryz.ntmps47
  go_wp2
  go_loopw [2] (fun i wz => i = .int .i64 0 ∧ wz = W) (fun _ _ => 0)
  case atStart => exact ⟨rfl, rfl⟩
  case round =>
    obtain ⟨rfl, rfl⟩ := hrel
    go_wp2
    go_end0
    exact ⟨rfl, rfl⟩
set_option maxHeartbeats 1000000 in
theorem growBytes_e (h : W.cell? ⟨bb, 8, none⟩ = some (.slice none 0 0)) : Calls Tryz.prog 59 #[.pointer (some ⟨bb, 0, none⟩)] W fun e w' => e = .returned (.slice none 0 0) ∧ w' = W := by
  go_enter Tryz.func59, Tryz.ntmps59
  go_wp2
  go_loopw [3, 4] (fun o i wz => o = .slice none 0 0 ∧ i = .int .i64 0 ∧ wz = W) (fun _ _ _ => 0)
  case atStart => exact ⟨rfl, rfl, rfl⟩
  case round =>
    obtain ⟨rfl, rfl, rfl⟩ := hrel
    go_wp2
    go_ret
    exact ⟨rfl, rfl⟩
set_option maxHeartbeats 1000000 in
theorem markedBytes_e (W : World) : Calls Tryz.prog 71 #[.slice none 0 0] W fun e w' => e = .returned (.bool true) ∧ w' = W := by
  go_enter Tryz.func71, Tryz.ntmps71
  go_wp2
  go_loopw [3] (fun i wz => i = .int .i64 0 ∧ wz = W) (fun _ _ => 0)
  case atStart => exact ⟨rfl, rfl⟩
  case round =>
    obtain ⟨rfl, rfl⟩ := hrel
    go_wp2
    go_ret
    exact ⟨rfl, rfl⟩
set_option maxHeartbeats 1000000 in
theorem stillSets_e (h : W.cell? ⟨bb, 10, none⟩ = some (.slice none 0 0)) : Calls Tryz.prog 36 #[.pointer (some ⟨bb, 0, none⟩)] W fun e w' => e = .returned (.bool true) ∧ w' = W := by
  go_enter Tryz.func36, Tryz.ntmps36
  go_wp2
  go_loopw [3] (fun i wz => i = .int .i64 0 ∧ wz = W) (fun _ _ => 0)
  case atStart => exact ⟨rfl, rfl⟩
  case round =>
    obtain ⟨rfl, rfl⟩ := hrel
    go_wp2
    go_ret
    exact ⟨rfl, rfl⟩
set_option maxHeartbeats 1000000 in
theorem putSets_e (h : W.cell? ⟨bb, 10, none⟩ = some (.slice none 0 0)) : Calls Tryz.prog 48 #[.pointer (some ⟨bb, 0, none⟩)] W fun e w' => e = .returned (.tuple #[]) ∧ w' = W := by
  go_enter Tryz.func48, Tryz.ntmps48
  go_wp2
  go_loopw [2] (fun i wz => i = .int .i64 0 ∧ wz = W) (fun _ _ => 0)
  case atStart => exact ⟨rfl, rfl⟩
  case round =>
    obtain ⟨rfl, rfl⟩ := hrel
    go_wp2
    go_end0
    exact ⟨rfl, rfl⟩
set_option maxHeartbeats 1000000 in
theorem growSets_e (h : W.cell? ⟨bb, 10, none⟩ = some (.slice none 0 0)) : Calls Tryz.prog 60 #[.pointer (some ⟨bb, 0, none⟩)] W fun e w' => e = .returned (.slice none 0 0) ∧ w' = W := by
  go_enter Tryz.func60, Tryz.ntmps60
  go_wp2
  go_loopw [3, 4] (fun o i wz => o = .slice none 0 0 ∧ i = .int .i64 0 ∧ wz = W) (fun _ _ _ => 0)
  case atStart => exact ⟨rfl, rfl, rfl⟩
  case round =>
    obtain ⟨rfl, rfl, rfl⟩ := hrel
    go_wp2
    go_ret
    exact ⟨rfl, rfl⟩
set_option maxHeartbeats 1000000 in
theorem markedSets_e (W : World) : Calls Tryz.prog 72 #[.slice none 0 0] W fun e w' => e = .returned (.bool true) ∧ w' = W := by
  go_enter Tryz.func72, Tryz.ntmps72
  go_wp2
  go_loopw [3] (fun i wz => i = .int .i64 0 ∧ wz = W) (fun _ _ => 0)
  case atStart => exact ⟨rfl, rfl⟩
  case round =>
    obtain ⟨rfl, rfl⟩ := hrel
    go_wp2
    go_ret
    exact ⟨rfl, rfl⟩
set_option maxHeartbeats 1000000 in
theorem stillEvents_e (h : W.cell? ⟨bb, 12, none⟩ = some (.slice none 0 0)) : Calls Tryz.prog 37 #[.pointer (some ⟨bb, 0, none⟩)] W fun e w' => e = .returned (.bool true) ∧ w' = W := by
  go_enter Tryz.func37, Tryz.ntmps37
  go_wp2
  go_loopw [3] (fun i wz => i = .int .i64 0 ∧ wz = W) (fun _ _ => 0)
  case atStart => exact ⟨rfl, rfl⟩
  case round =>
    obtain ⟨rfl, rfl⟩ := hrel
    go_wp2
    go_ret
    exact ⟨rfl, rfl⟩
set_option maxHeartbeats 1000000 in
theorem putEvents_e (h : W.cell? ⟨bb, 12, none⟩ = some (.slice none 0 0)) : Calls Tryz.prog 49 #[.pointer (some ⟨bb, 0, none⟩)] W fun e w' => e = .returned (.tuple #[]) ∧ w' = W := by
  go_enter Tryz.func49, Tryz.ntmps49
  go_wp2
  go_loopw [2] (fun i wz => i = .int .i64 0 ∧ wz = W) (fun _ _ => 0)
  case atStart => exact ⟨rfl, rfl⟩
  case round =>
    obtain ⟨rfl, rfl⟩ := hrel
    go_wp2
    go_end0
    exact ⟨rfl, rfl⟩
set_option maxHeartbeats 1000000 in
theorem growEvents_e (h : W.cell? ⟨bb, 12, none⟩ = some (.slice none 0 0)) : Calls Tryz.prog 61 #[.pointer (some ⟨bb, 0, none⟩)] W fun e w' => e = .returned (.slice none 0 0) ∧ w' = W := by
  go_enter Tryz.func61, Tryz.ntmps61
  go_wp2
  go_loopw [3, 4] (fun o i wz => o = .slice none 0 0 ∧ i = .int .i64 0 ∧ wz = W) (fun _ _ _ => 0)
  case atStart => exact ⟨rfl, rfl, rfl⟩
  case round =>
    obtain ⟨rfl, rfl, rfl⟩ := hrel
    go_wp2
    go_ret
    exact ⟨rfl, rfl⟩
set_option maxHeartbeats 1000000 in
theorem markedEvents_e (W : World) : Calls Tryz.prog 73 #[.slice none 0 0] W fun e w' => e = .returned (.bool true) ∧ w' = W := by
  go_enter Tryz.func73, Tryz.ntmps73
  go_wp2
  go_loopw [3] (fun i wz => i = .int .i64 0 ∧ wz = W) (fun _ _ => 0)
  case atStart => exact ⟨rfl, rfl⟩
  case round =>
    obtain ⟨rfl, rfl⟩ := hrel
    go_wp2
    go_ret
    exact ⟨rfl, rfl⟩
set_option maxHeartbeats 1000000 in
theorem stillErrs_e (h : W.cell? ⟨bb, 14, none⟩ = some (.slice none 0 0)) : Calls Tryz.prog 38 #[.pointer (some ⟨bb, 0, none⟩)] W fun e w' => e = .returned (.bool true) ∧ w' = W := by
  go_enter Tryz.func38, Tryz.ntmps38
  go_wp2
  go_loopw [3] (fun i wz => i = .int .i64 0 ∧ wz = W) (fun _ _ => 0)
  case atStart => exact ⟨rfl, rfl⟩
  case round =>
    obtain ⟨rfl, rfl⟩ := hrel
    go_wp2
    go_ret
    exact ⟨rfl, rfl⟩
set_option maxHeartbeats 1000000 in
theorem putErrs_e (h : W.cell? ⟨bb, 14, none⟩ = some (.slice none 0 0)) : Calls Tryz.prog 50 #[.pointer (some ⟨bb, 0, none⟩)] W fun e w' => e = .returned (.tuple #[]) ∧ w' = W := by
  go_enter Tryz.func50, Tryz.ntmps50
  go_wp2
  go_loopw [2] (fun i wz => i = .int .i64 0 ∧ wz = W) (fun _ _ => 0)
  case atStart => exact ⟨rfl, rfl⟩
  case round =>
    obtain ⟨rfl, rfl⟩ := hrel
    go_wp2
    go_end0
    exact ⟨rfl, rfl⟩
set_option maxHeartbeats 1000000 in
theorem growErrs_e (h : W.cell? ⟨bb, 14, none⟩ = some (.slice none 0 0)) : Calls Tryz.prog 62 #[.pointer (some ⟨bb, 0, none⟩)] W fun e w' => e = .returned (.slice none 0 0) ∧ w' = W := by
  go_enter Tryz.func62, Tryz.ntmps62
  go_wp2
  go_loopw [3, 4] (fun o i wz => o = .slice none 0 0 ∧ i = .int .i64 0 ∧ wz = W) (fun _ _ _ => 0)
  case atStart => exact ⟨rfl, rfl, rfl⟩
  case round =>
    obtain ⟨rfl, rfl, rfl⟩ := hrel
    go_wp2
    go_ret
    exact ⟨rfl, rfl⟩
set_option maxHeartbeats 1000000 in
theorem markedErrs_e (W : World) : Calls Tryz.prog 74 #[.slice none 0 0] W fun e w' => e = .returned (.bool true) ∧ w' = W := by
  go_enter Tryz.func74, Tryz.ntmps74
  go_wp2
  go_loopw [3] (fun i wz => i = .int .i64 0 ∧ wz = W) (fun _ _ => 0)
  case atStart => exact ⟨rfl, rfl⟩
  case round =>
    obtain ⟨rfl, rfl⟩ := hrel
    go_wp2
    go_ret
    exact ⟨rfl, rfl⟩
set_option maxHeartbeats 1000000 in
theorem stillOuts_e (h : W.cell? ⟨bb, 16, none⟩ = some (.slice none 0 0)) : Calls Tryz.prog 39 #[.pointer (some ⟨bb, 0, none⟩)] W fun e w' => e = .returned (.bool true) ∧ w' = W := by
  go_enter Tryz.func39, Tryz.ntmps39
  go_wp2
  go_loopw [3] (fun i wz => i = .int .i64 0 ∧ wz = W) (fun _ _ => 0)
  case atStart => exact ⟨rfl, rfl⟩
  case round =>
    obtain ⟨rfl, rfl⟩ := hrel
    go_wp2
    go_ret
    exact ⟨rfl, rfl⟩
set_option maxHeartbeats 1000000 in
theorem putOuts_e (h : W.cell? ⟨bb, 16, none⟩ = some (.slice none 0 0)) : Calls Tryz.prog 51 #[.pointer (some ⟨bb, 0, none⟩)] W fun e w' => e = .returned (.tuple #[]) ∧ w' = W := by
  go_enter Tryz.func51, Tryz.ntmps51
  go_wp2
  go_loopw [2] (fun i wz => i = .int .i64 0 ∧ wz = W) (fun _ _ => 0)
  case atStart => exact ⟨rfl, rfl⟩
  case round =>
    obtain ⟨rfl, rfl⟩ := hrel
    go_wp2
    go_end0
    exact ⟨rfl, rfl⟩
set_option maxHeartbeats 1000000 in
theorem growOuts_e (h : W.cell? ⟨bb, 16, none⟩ = some (.slice none 0 0)) : Calls Tryz.prog 63 #[.pointer (some ⟨bb, 0, none⟩)] W fun e w' => e = .returned (.slice none 0 0) ∧ w' = W := by
  go_enter Tryz.func63, Tryz.ntmps63
  go_wp2
  go_loopw [3, 4] (fun o i wz => o = .slice none 0 0 ∧ i = .int .i64 0 ∧ wz = W) (fun _ _ _ => 0)
  case atStart => exact ⟨rfl, rfl, rfl⟩
  case round =>
    obtain ⟨rfl, rfl, rfl⟩ := hrel
    go_wp2
    go_ret
    exact ⟨rfl, rfl⟩
set_option maxHeartbeats 1000000 in
theorem markedOuts_e (W : World) : Calls Tryz.prog 75 #[.slice none 0 0] W fun e w' => e = .returned (.bool true) ∧ w' = W := by
  go_enter Tryz.func75, Tryz.ntmps75
  go_wp2
  go_loopw [3] (fun i wz => i = .int .i64 0 ∧ wz = W) (fun _ _ => 0)
  case atStart => exact ⟨rfl, rfl⟩
  case round =>
    obtain ⟨rfl, rfl⟩ := hrel
    go_wp2
    go_ret
    exact ⟨rfl, rfl⟩
set_option maxHeartbeats 1000000 in
theorem stillGrams_e (h : W.cell? ⟨bb, 18, none⟩ = some (.slice none 0 0)) : Calls Tryz.prog 40 #[.pointer (some ⟨bb, 0, none⟩)] W fun e w' => e = .returned (.bool true) ∧ w' = W := by
  go_enter Tryz.func40, Tryz.ntmps40
  go_wp2
  go_loopw [3] (fun i wz => i = .int .i64 0 ∧ wz = W) (fun _ _ => 0)
  case atStart => exact ⟨rfl, rfl⟩
  case round =>
    obtain ⟨rfl, rfl⟩ := hrel
    go_wp2
    go_ret
    exact ⟨rfl, rfl⟩
set_option maxHeartbeats 1000000 in
theorem putGrams_e (h : W.cell? ⟨bb, 18, none⟩ = some (.slice none 0 0)) : Calls Tryz.prog 52 #[.pointer (some ⟨bb, 0, none⟩)] W fun e w' => e = .returned (.tuple #[]) ∧ w' = W := by
  go_enter Tryz.func52, Tryz.ntmps52
  go_wp2
  go_loopw [2] (fun i wz => i = .int .i64 0 ∧ wz = W) (fun _ _ => 0)
  case atStart => exact ⟨rfl, rfl⟩
  case round =>
    obtain ⟨rfl, rfl⟩ := hrel
    go_wp2
    go_end0
    exact ⟨rfl, rfl⟩
set_option maxHeartbeats 1000000 in
theorem growGrams_e (h : W.cell? ⟨bb, 18, none⟩ = some (.slice none 0 0)) : Calls Tryz.prog 64 #[.pointer (some ⟨bb, 0, none⟩)] W fun e w' => e = .returned (.slice none 0 0) ∧ w' = W := by
  go_enter Tryz.func64, Tryz.ntmps64
  go_wp2
  go_loopw [3, 4] (fun o i wz => o = .slice none 0 0 ∧ i = .int .i64 0 ∧ wz = W) (fun _ _ _ => 0)
  case atStart => exact ⟨rfl, rfl, rfl⟩
  case round =>
    obtain ⟨rfl, rfl, rfl⟩ := hrel
    go_wp2
    go_ret
    exact ⟨rfl, rfl⟩
set_option maxHeartbeats 1000000 in
theorem markedGrams_e (W : World) : Calls Tryz.prog 76 #[.slice none 0 0] W fun e w' => e = .returned (.bool true) ∧ w' = W := by
  go_enter Tryz.func76, Tryz.ntmps76
  go_wp2
  go_loopw [3] (fun i wz => i = .int .i64 0 ∧ wz = W) (fun _ _ => 0)
  case atStart => exact ⟨rfl, rfl⟩
  case round =>
    obtain ⟨rfl, rfl⟩ := hrel
    go_wp2
    go_ret
    exact ⟨rfl, rfl⟩
set_option maxHeartbeats 1000000 in
theorem stillSteps_e (h : W.cell? ⟨bb, 20, none⟩ = some (.slice none 0 0)) : Calls Tryz.prog 41 #[.pointer (some ⟨bb, 0, none⟩)] W fun e w' => e = .returned (.bool true) ∧ w' = W := by
  go_enter Tryz.func41, Tryz.ntmps41
  go_wp2
  go_loopw [3] (fun i wz => i = .int .i64 0 ∧ wz = W) (fun _ _ => 0)
  case atStart => exact ⟨rfl, rfl⟩
  case round =>
    obtain ⟨rfl, rfl⟩ := hrel
    go_wp2
    go_ret
    exact ⟨rfl, rfl⟩
set_option maxHeartbeats 1000000 in
theorem putSteps_e (h : W.cell? ⟨bb, 20, none⟩ = some (.slice none 0 0)) : Calls Tryz.prog 53 #[.pointer (some ⟨bb, 0, none⟩)] W fun e w' => e = .returned (.tuple #[]) ∧ w' = W := by
  go_enter Tryz.func53, Tryz.ntmps53
  go_wp2
  go_loopw [2] (fun i wz => i = .int .i64 0 ∧ wz = W) (fun _ _ => 0)
  case atStart => exact ⟨rfl, rfl⟩
  case round =>
    obtain ⟨rfl, rfl⟩ := hrel
    go_wp2
    go_end0
    exact ⟨rfl, rfl⟩
set_option maxHeartbeats 1000000 in
theorem growSteps_e (h : W.cell? ⟨bb, 20, none⟩ = some (.slice none 0 0)) : Calls Tryz.prog 65 #[.pointer (some ⟨bb, 0, none⟩)] W fun e w' => e = .returned (.slice none 0 0) ∧ w' = W := by
  go_enter Tryz.func65, Tryz.ntmps65
  go_wp2
  go_loopw [3, 4] (fun o i wz => o = .slice none 0 0 ∧ i = .int .i64 0 ∧ wz = W) (fun _ _ _ => 0)
  case atStart => exact ⟨rfl, rfl, rfl⟩
  case round =>
    obtain ⟨rfl, rfl, rfl⟩ := hrel
    go_wp2
    go_ret
    exact ⟨rfl, rfl⟩
set_option maxHeartbeats 1000000 in
theorem markedSteps_e (W : World) : Calls Tryz.prog 77 #[.slice none 0 0] W fun e w' => e = .returned (.bool true) ∧ w' = W := by
  go_enter Tryz.func77, Tryz.ntmps77
  go_wp2
  go_loopw [3] (fun i wz => i = .int .i64 0 ∧ wz = W) (fun _ _ => 0)
  case atStart => exact ⟨rfl, rfl⟩
  case round =>
    obtain ⟨rfl, rfl⟩ := hrel
    go_wp2
    go_ret
    exact ⟨rfl, rfl⟩
set_option maxHeartbeats 1000000 in
theorem stillRows_e (h : W.cell? ⟨bb, 22, none⟩ = some (.slice none 0 0)) : Calls Tryz.prog 42 #[.pointer (some ⟨bb, 0, none⟩)] W fun e w' => e = .returned (.bool true) ∧ w' = W := by
  go_enter Tryz.func42, Tryz.ntmps42
  go_wp2
  go_loopw [3] (fun i wz => i = .int .i64 0 ∧ wz = W) (fun _ _ => 0)
  case atStart => exact ⟨rfl, rfl⟩
  case round =>
    obtain ⟨rfl, rfl⟩ := hrel
    go_wp2
    go_ret
    exact ⟨rfl, rfl⟩
set_option maxHeartbeats 1000000 in
theorem putRows_e (h : W.cell? ⟨bb, 22, none⟩ = some (.slice none 0 0)) : Calls Tryz.prog 54 #[.pointer (some ⟨bb, 0, none⟩)] W fun e w' => e = .returned (.tuple #[]) ∧ w' = W := by
  go_enter Tryz.func54, Tryz.ntmps54
  go_wp2
  go_loopw [2] (fun i wz => i = .int .i64 0 ∧ wz = W) (fun _ _ => 0)
  case atStart => exact ⟨rfl, rfl⟩
  case round =>
    obtain ⟨rfl, rfl⟩ := hrel
    go_wp2
    go_end0
    exact ⟨rfl, rfl⟩
set_option maxHeartbeats 1000000 in
theorem growRows_e (h : W.cell? ⟨bb, 22, none⟩ = some (.slice none 0 0)) : Calls Tryz.prog 66 #[.pointer (some ⟨bb, 0, none⟩)] W fun e w' => e = .returned (.slice none 0 0) ∧ w' = W := by
  go_enter Tryz.func66, Tryz.ntmps66
  go_wp2
  go_loopw [3, 4] (fun o i wz => o = .slice none 0 0 ∧ i = .int .i64 0 ∧ wz = W) (fun _ _ _ => 0)
  case atStart => exact ⟨rfl, rfl, rfl⟩
  case round =>
    obtain ⟨rfl, rfl, rfl⟩ := hrel
    go_wp2
    go_ret
    exact ⟨rfl, rfl⟩
set_option maxHeartbeats 1000000 in
theorem markedRows_e (W : World) : Calls Tryz.prog 78 #[.slice none 0 0] W fun e w' => e = .returned (.bool true) ∧ w' = W := by
  go_enter Tryz.func78, Tryz.ntmps78
  go_wp2
  go_loopw [3] (fun i wz => i = .int .i64 0 ∧ wz = W) (fun _ _ => 0)
  case atStart => exact ⟨rfl, rfl⟩
  case round =>
    obtain ⟨rfl, rfl⟩ := hrel
    go_wp2
    go_ret
    exact ⟨rfl, rfl⟩
end
end Go.Proofs.YtojegojeolkgpaaGreat
namespace Go.Proofs.YtojegojeolkgpaaGreat
open Go.RowKit Go.Shelf Go.Lib

/-- All lists of a row are marked. -/
def Mkn (W : World) (xs : List Value) : Prop := ∀ (i : Nat) (z : Value), xs[i]? = some z → ∃ ad n c, z = .slice ad n c ∧ RdN W ad (mkM i 0 n) ∧ n ≤ 5000
theorem Mkn.carry {W V : World} {xs : List Value} (h : Mkn W xs) (hb : Below W.heap.size W V) : Mkn V xs := fun i z hz => by
  obtain ⟨ad, n, c, e, h1, h2⟩ := h i z hz
  exact ⟨ad, n, c, e, h1.carry hb, h2⟩
theorem own_rdm {base : Nat} {W : World} {z : Value} {i n : Nat} (h : W.ownsRow base 62 3 z n (fl (mkM i 0 n))) : ∃ ad c, z = .slice ad n c ∧ RdN W ad (mkM i 0 n) := by
  have h2 : W.ownsRow base 62 3 z (mkM i 0 n).length (fl (mkM i 0 n)) := by rw [mkM_len]; exact h
  obtain ⟨ad, c, e, hr⟩ := own_rd h2
  rw [mkM_len] at e
  exact ⟨ad, c, e, hr⟩
set_option maxHeartbeats 4000000 in
set_option maxRecDepth 100000 in
theorem markedn_any {base k : Nat} {w : World} {uu : Value} {xs : List Value} (h : w.ownsRow base 23 1 uu k xs) (hm : Mkn w xs) (hk : k ≤ 400) : Calls Tryz.prog 70 #[uu] w fun e w' => e = .returned (.bool true) ∧ Below w.heap.size w w' := by
  have hmx : Tryz.prog.follows .mixedOrders = true := by kernel_rfl
  obtain ⟨au, cu, eu, _⟩ := ownsRow_form h
  subst eu
  have hlen : xs.length = k := by have := h.1; omega
  go_enter Tryz.func70, Tryz.ntmps70
  go_wp2
  go_loopw [3] (fun i wz => ∃ j : Nat, i = .int .i64 (j : Int) ∧ j ≤ k ∧ Below w.heap.size w wz) (fun i _ => k - vnatR i)
  case atStart => exact ⟨0, rfl, Nat.zero_le _, Below.refl _ _⟩
  case round =>
    obtain ⟨j, rfl, hj, hb⟩ := hrel
    by_cases hjk : j < k
    · have hji : (j : Int) < (k : Int) := by omega
      obtain ⟨z, hz⟩ : ∃ z, xs[j]? = some z := ⟨_, List.getElem?_eq_getElem (by omega)⟩
      obtain ⟨adx, n, c, rfl, hrx, hn⟩ := hm j z hz
      rcases own_form h with ⟨_, e⟩ | ⟨gu, cu', e1, _⟩
      · omega
      cases e1
      have c1 : w.cell? ⟨gu, j, none⟩ = some (.slice adx n c) := (h.cellAt _ (by omega)).trans hz
      have hgu := cell_ltO c1
      go_wp2
      rename_i hK
      refine wp_region_any hmx ?_
      refine wpAny_tabG (G := Value) (fun g i__ => ([(.slice (some ⟨gu, 0, none⟩) k cu), (.int .i64 (j : Int)), (.pointer (some ⟨gu, j, none⟩)), (.slice adx n c), (.int .i64 (j : Int)), (.slice (some ⟨gu, 0, none⟩) k cu), (.int .i64 (j : Int)), (.pointer (some ⟨gu, j, none⟩)), (.slice adx n c), (.int .i64 (n : Int)), g, (.bool true), (.bool false)] : List Value).getD i__ undef) (fun g d V => Below w.heap.size w V ∧ (d 10 = true → V.ownsRow w.heap.size 62 3 g n (fl (mkM j 0 n)))) (by kernel_rfl) (undef) (⟨hb.drew, fun q => by cases q⟩) ?step5 ?fin5
      case step5 =>
        intro i o ho
        have hi : i < 13 := getElem?_lt ho
        match i, hi, ho with
        | 0, _, ho =>
          cases ho
          refine stepG_of (fun g d hdep => ?_)
          exact step_move rfl trivial _ rfl (by kernel_rfl)
        | 1, _, ho =>
          cases ho
          refine stepG_of (fun g d hdep => ?_)
          exact step_move rfl trivial _ rfl (by kernel_rfl)
        | 2, _, ho =>
          cases ho
          refine stepG_of (fun g d hdep => ?_)
          exact step_indexAddr rfl trivial _ _ _ _ _ rfl rfl rfl (fun v hw => idx_nn gu _ _ j hjk v)
        | 3, _, ho =>
          cases ho
          refine stepG_of (fun g d hdep => ?_)
          exact step_load rfl trivial _ _ _ rfl rfl (fun v hw => load_nl ((hw.1.cell (p := ⟨gu, j, none⟩) hgu).trans c1))
        | 4, _, ho =>
          cases ho
          refine stepG_of (fun g d hdep => ?_)
          exact step_move rfl trivial _ rfl (by kernel_rfl)
        | 5, _, ho =>
          cases ho
          refine stepG_of (fun g d hdep => ?_)
          exact step_move rfl trivial _ rfl (by kernel_rfl)
        | 6, _, ho =>
          cases ho
          refine stepG_of (fun g d hdep => ?_)
          exact step_move rfl trivial _ rfl (by kernel_rfl)
        | 7, _, ho =>
          cases ho
          refine stepG_of (fun g d hdep => ?_)
          exact step_indexAddr rfl trivial _ _ _ _ _ rfl rfl rfl (fun v hw => idx_nn gu _ _ j hjk v)
        | 8, _, ho =>
          cases ho
          refine stepG_of (fun g d hdep => ?_)
          exact step_load rfl trivial _ _ _ rfl rfl (fun v hw => load_nl ((hw.1.cell (p := ⟨gu, j, none⟩) hgu).trans c1))
        | 9, _, ho =>
          cases ho
          refine stepG_of (fun g d hdep => ?_)
          exact step_bi rfl trivial _ _ _ [(.slice adx n c)] rfl (by kernel_rfl) (fun bs v hw => bi_lennn _ bs _ _ _ v)
        | 10, _, ho =>
          cases ho
          exact stepG_call rfl (fun _ => trivial) 106 _ _ (fun _ => [.int .i64 (j : Int), .int .i64 0, .int .i64 (n : Int)]) rfl (fun g => by kernel_rfl) (enters_of Tryz.func106 (by kernel_rfl) rfl) (fun g d V hJ hun hdep hcl => (markn_any j 0 n (by omega) (by omega) hn V).mono (by rintro e V' ⟨v', rfl, hro, hb'⟩; refine ⟨v', rfl, (fun j hj => match j, hj with | 10, hj => (by rw [hj] at hun; cases hun)  | 0, _ => rfl | 1, _ => rfl | 2, _ => rfl | 3, _ => rfl | 4, _ => rfl | 5, _ => rfl | 6, _ => rfl | 7, _ => rfl | 8, _ => rfl | 9, _ => rfl | 11, _ => rfl | 12, _ => rfl | _ + 13, _ => rfl), ?_⟩; exact ⟨bel2 hJ.1 hb', fun _ => row_base hro hJ.1.size⟩))
        | 11, _, ho =>
          cases ho
          refine stepG_of (fun g d hdep => ?_)
          exact step_call rfl trivial 13 _ _ [(.slice adx n c), g] rfl (by kernel_rfl) (enters_of Tryz.func13 (by kernel_rfl) rfl) (fun v hw => by have h1 : d 10 = true := hdep 10 (by kernel_rfl); have ho := hw.2 h1; obtain ⟨a', c', e', hr'⟩ := own_rdm ho; have hq := same_any adx a' c c' (mkM j 0 n) v (hrx.carry hw.1) hr' (by rw [mkM_len]; omega); rw [mkM_len] at hq; show Calls Tryz.prog _ [Value.slice adx n c, g].toArray v _; rw [e'] at ho ⊢; exact hq.mono (by rintro e w' ⟨rfl, hb'⟩; exact ⟨rfl, bel2 hw.1 hb', fun _ => row_below ho hb'⟩))
        | 12, _, ho =>
          cases ho
          refine stepG_of (fun g d hdep => ?_)
          exact step_unOp rfl trivial _ _ _ _ rfl rfl (fun v hw => un_not true v)
      intro g d W hall hW
      first | refine hK _ _ ?_ | refine (‹∀ (a : Act) (w : World), Code.wp Tryz.prog _ _ a w → _›) _ _ ?_ | skip
      simp only [finL, List.getD_cons_zero, List.getD_cons_succ, Nat.zero_add, Nat.reduceAdd, List.setIfInBounds_toArray, List.set_cons_zero, List.set_cons_succ]
      have hWb := hW.1
      clear hK hall hW
      go_wp2
      go_roundw
      case rel => exact ⟨j + 1, by simp, by omega, hWb⟩
      case measure => simp [vnatR]; omega
    · have hji : ¬ (j : Int) < (k : Int) := by omega
      go_wp2
      go_ret
      exact ⟨rfl, hb⟩
end Go.Proofs.YtojegojeolkgpaaGreat
namespace Go.Proofs.YtojegojeolkgpaaGreat
open Go.RowKit Go.Shelf Go.Lib

theorem fl_take (l : List N3) (j : Nat) : (fl l).take (j * 3) = fl (l.take j) := by
  have h : fl l = fl (l.take j) ++ fl (l.drop j) := by rw [← fl_append, List.take_append_drop]
  by_cases hj : j ≤ l.length
  · rw [h, List.take_append_of_le_length (by rw [fl_len, List.length_take]; omega), List.take_of_length_le (by rw [fl_len, List.length_take]; omega)]
  · rw [List.take_of_length_le (by rw [fl_len]; omega), List.take_of_length_le (by omega)]
theorem fl_drop (l : List N3) (j : Nat) : (fl l).drop (j * 3) = fl (l.drop j) := by
  have h : fl l = fl (l.take j) ++ fl (l.drop j) := by rw [← fl_append, List.take_append_drop]
  by_cases hj : j ≤ l.length
  · rw [h, List.drop_append, List.drop_of_length_le (by rw [fl_len, List.length_take]; omega), List.nil_append, fl_len, List.length_take, show j * 3 - min j l.length * 3 = 0 by omega, List.drop_zero]
  · rw [List.drop_of_length_le (by rw [fl_len]; omega), List.drop_of_length_le (by omega)]
    rfl
theorem fl_setN (l : List N3) (j : Nat) (x : N3) (hj : j < l.length) : fl (l.set j x) = (fl l).take (j * 3) ++ ([.int .i64 x.1, .int .i64 x.2.1, .int .i64 x.2.2] ++ (fl l).drop (j * 3 + 3)) := by
  rw [fl_take, show j * 3 + 3 = (j + 1) * 3 by omega, fl_drop, List.set_eq_take_append_cons_drop, if_pos hj, fl_append, fl_cons]
  rfl
/-- A list that is one's own, one of its notices put. -/
theorem row_putN {W : World} {base g n cap : Nat} {l : List N3} (h : W.ownsRow base 62 3 (.slice (some ⟨g, 0, none⟩) n cap) n (fl l)) (hn : n = l.length) {j : Nat} (hj : j < n) (x : N3) :
    ∃ V, (Instr.storeAt 62 (.pointer (some ⟨g, 0 + j * 3, none⟩)) (nt x.1 x.2.1 x.2.2)).run Tryz.prog W = .ok () V ∧ V.ownsRow base 62 3 (.slice (some ⟨g, 0, none⟩) n cap) n (fl (l.set j x)) ∧ W.grownBy V (some g) := by
  subst hn
  obtain ⟨h1, h2⟩ := h
  rcases h2 with ⟨e, _⟩ | ⟨g', cap', cur, e, hb, hc, h4, h5, h6, h7⟩
  · cases e
  cases e
  have hi : (Tryz.prog.info? 62).map (·.size) = some 3 := by kernel_rfl
  have hsz : (j + 1) * 3 ≤ cap * 3 := by omega
  have hs := run_store_in (P := Tryz.prog) W g (0 + j * 3) 62 62 cur.toList [.int .i64 x.1, .int .i64 x.2.1, .int .i64 x.2.2] (by simpa using hc) hi (by simp; omega) (by simp [Value.oneCell'])
  refine ⟨_, hs, ⟨by rw [fl_len, List.length_set], .inr ⟨g, cap, _, rfl, hb, setRow_heap _ _ _ _ _ _ hc, by simpa using h4, h5, ?_, ?_⟩⟩, ⟨rfl, rfl, rfl, by simp [World.setRow], fun k _ hk => setRow_other (fun e => hk (by rw [e]))⟩⟩
  · simp [splice]
    omega
  · have e1 : (fl l).length = l.length * 3 := fl_len l
    obtain ⟨R, hR⟩ : ∃ R, cur.toList.drop (l.length * 3) = R := ⟨_, rfl⟩
    have e2 : cur.toList = fl l ++ R := by rw [← h7, ← hR, List.take_append_drop]
    have e3 : (0 + j * 3) = j * 3 := by omega
    rw [e3]
    unfold splice
    rw [fl_setN l j x hj]
    have l1 : (cur.toList.take (j * 3)) = (fl l).take (j * 3) := by rw [e2, List.take_append_of_le_length (by omega)]
    have l2 : cur.toList.drop (j * 3 + 3) = (fl l).drop (j * 3 + 3) ++ R := by rw [e2, List.drop_append, e1, show j * 3 + 3 - l.length * 3 = 0 by omega, List.drop_zero]
    simp only [List.length_cons, List.length_nil]
    rw [show j * 3 + (0 + 1 + 1 + 1) = j * 3 + 3 by omega, l1, l2]
    simp only [← List.append_assoc]
    rw [List.take_append_of_le_length (by simp; omega), List.take_of_length_le (by simp; omega)]
section
variable {base bb : Nat} {W V : World} {u v : Value} {x : List Value} {L : List (List N3)}
/-- One list turns, in its own block. -/
theorem Kn.turn (h : Kn base bb W u v x L) {i g : Nat} {l l' : List N3} {z : Value} (hl : L[i]? = some l) (hz : x[i]? = some z) (hzg : z.ownBlock = some g) (hV : V.ownsRow base 62 3 z l'.length (fl l')) (hlen : l'.length = l.length) (hg : W.grownBy V (some g)) : Kn base bb V u v x (L.set i l') := by
  obtain ⟨z0, k1, k2, k3⟩ := h.ks i l hl
  rw [hz] at k1
  obtain rfl := Option.some.inj k1
  obtain ⟨_, cur, hgc⟩ := ownsRow_block k2 g hzg
  have hbb : bb ≠ g := fun e => by
    have := h.kb
    unfold KB at this
    rw [e, hgc] at this
    simp only [Option.some.injEq, Obj.cells.injEq] at this
    exact absurd this.2.1 (by decide)
  refine ⟨(hg.block _ (lt_at h.kb) (by simpa using hbb)).trans h.kb, by rw [List.length_set]; exact row_apart2 h.row hg (fun b e => by obtain rfl := Option.some.inj e; exact row_free h.row hgc (by decide)), fun i' l2 hl2 => ?_, h.ap, h.bb, by rw [List.length_set]; exact h.k⟩
  by_cases e : i = i'
  · subst e
    rw [List.getElem?_set_self (List.getElem?_eq_some_iff.1 hl).1] at hl2
    obtain rfl := Option.some.inj hl2
    exact ⟨z, hz, hV, by omega⟩
  · rw [List.getElem?_set_ne e] at hl2
    obtain ⟨z', q1, q2, q3⟩ := h.ks i' l2 hl2
    exact ⟨z', q1, row_apart2 q2 hg (fun b e2 e3 => by
      obtain rfl := Option.some.inj e2
      exact e (h.ap i i' g z z' hz q1 hzg e3)), q3⟩
/-- A young block turns. -/
theorem Kn.young (h : Kn base bb W u v x L) {b : Nat} (hb : ∀ q, q < b → q < V.heap.size → q < W.heap.size → V.heap[q]? = W.heap[q]?) (hs : W.heap.size ≤ b) (hz : W.heap.size ≤ V.heap.size) : Kn base bb V u v x L := by
  have key : ∀ q, q < W.heap.size → V.heap[q]? = W.heap[q]? := fun q hq => hb q (by omega) (by omega) hq
  have rows : ∀ {e : TypeId} {s n : Nat} {z : Value} {ys : List Value}, W.ownsRow base e s z n ys → V.ownsRow base e s z n ys := fun hr => by
    obtain ⟨h1, h2⟩ := hr
    refine ⟨h1, ?_⟩
    rcases h2 with h2 | ⟨g, cap, cur, h3, h4, h5, h6⟩
    · exact .inl h2
    · exact .inr ⟨g, cap, cur, h3, h4, (key g (lt_at h5)).trans h5, h6⟩
  exact ⟨(key _ (lt_at h.kb)).trans h.kb, rows h.row, fun i l hl => by
    obtain ⟨z, q1, q2, q3⟩ := h.ks i l hl
    exact ⟨z, q1, rows q2, q3⟩, h.ap, h.bb, h.k⟩
theorem set_sameN {α : Type} {L : List α} {k : Nat} {l : α} (h : L[k]? = some l) : L.set k l = L := by
  refine List.ext_getElem? fun j => ?_
  by_cases e : k = j
  · subst e
    rw [List.getElem?_set_self (List.getElem?_eq_some_iff.1 h).1, h]
  · rw [List.getElem?_set_ne e]
theorem take_putN {m l : List N3} {j : Nat} {y : N3} (hj : m[j]? = some y) (hl : l.length = m.length) : (m.take j ++ l.drop j).set j y = m.take (j + 1) ++ l.drop (j + 1) := by
  obtain ⟨hlt, rfl⟩ := List.getElem?_eq_some_iff.1 hj
  have e1 : (m.take j).length = j := by rw [List.length_take]; omega
  rw [List.set_append_right _ _ (by omega), e1, Nat.sub_self, List.drop_eq_getElem_cons (by omega), List.set_cons_zero, ← List.take_append_getElem hlt, List.append_assoc]
  rfl
end
/-- Marked up to k. -/
def upN (L L' : List (List N3)) (k : Nat) : Prop := L'.length = L.length ∧ ∀ (j : Nat) (l : List N3), L[j]? = some l → L'[j]? = some (if j < k then mkM j 0 l.length else l)
theorem upN.zero (L : List (List N3)) : upN L L 0 := ⟨rfl, fun j l hl => by rw [if_neg (by omega)]; exact hl⟩
theorem upN.succ {L L' : List (List N3)} {k : Nat} (h : upN L L' k) {l : List N3} (hl : L[k]? = some l) : upN L (L'.set k (mkM k 0 l.length)) (k + 1) := by
  refine ⟨by rw [List.length_set]; exact h.1, fun j l' hl' => ?_⟩
  by_cases e : k = j
  · subst e
    rw [hl] at hl'
    cases hl'
    rw [List.getElem?_set_self (by rw [h.1]; exact (List.getElem?_eq_some_iff.1 hl).1), if_pos (by omega)]
  · rw [List.getElem?_set_ne e, h.2 j l' hl']
    by_cases q : j < k
    · rw [if_pos q, if_pos (by omega)]
    · rw [if_neg q, if_neg (by omega)]
set_option maxHeartbeats 8000000 in
set_option maxRecDepth 100000 in
theorem putn_any {base bb : Nat} {w : World} {u v : Value} {x : List Value} {L : List (List N3)} (h : Kn base bb w u v x L) (hbz : base ≤ w.heap.size) : Calls Tryz.prog 46 #[.pointer (some ⟨bb, 0, none⟩)] w fun e w' => e = .returned (.tuple #[]) ∧ (∃ L', Kn base bb w' u v x L' ∧ upN L L' L.length) ∧ Below base w w' := by
  have hmx : Tryz.prog.follows .mixedOrders = true := by kernel_rfl
  obtain ⟨au, cu, eu, _⟩ := ownsRow_form h.row
  subst eu
  have hk4 := h.k
  have m6 : ∀ (V : World) (L' : List (List N3)), Kn base bb V (.slice au L.length cu) v x L' → V.cell? ⟨bb, 6, none⟩ = some (.slice au L.length cu) := fun V L' hV => by
    rw [cell_at hV.kb]
    rfl
  go_enter Tryz.func46, Tryz.ntmps46
  go_wp2
  go_loopw [2] (fun i wz => ∃ (k : Nat) (L' : List (List N3)), i = .int .i64 (k : Int) ∧ k ≤ L.length ∧ Kn base bb wz (.slice au L.length cu) v x L' ∧ upN L L' k ∧ Below base w wz) (fun i _ => L.length - vnatR i)
  case atStart => exact ⟨0, L, rfl, Nat.zero_le _, h, upN.zero L, Below.refl _ _⟩
  case round =>
    obtain ⟨k, L', rfl, hk, hK', hup, hbw⟩ := hrel
    have mm := m6 _ _ hK'
    by_cases hkl : k < L.length
    case neg =>
      have hki : ¬ (k : Int) < (L.length : Int) := by omega
      obtain rfl : k = L.length := by omega
      go_wp2
      go_end0
      exact ⟨rfl, ⟨L', hK', hup⟩, hbw⟩
    have hki : (k : Int) < (L.length : Int) := by omega
    obtain ⟨l, hl⟩ : ∃ l, L[k]? = some l := ⟨_, List.getElem?_eq_getElem hkl⟩
    have hl' : L'[k]? = some l := by rw [hup.2 k l hl, if_neg (by omega)]
    obtain ⟨gu, cu', z, e1, c1, hxz, hfl, hln⟩ := hK'.cell hl'
    simp only [Value.slice.injEq] at e1
    obtain ⟨rfl, _, rfl⟩ := e1
    obtain ⟨adx, cx, rfl, hrx⟩ := own_rd hfl
    have hmk := markn_any k 0 l.length (by omega) (by omega) (by omega) wr
    have hgx : ∀ g, (Value.slice adx l.length cx).ownBlock = some g → g < wr.heap.size ∧ base ≤ g := fun g e => (row_lt2 hfl g e).symm
    obtain ⟨sz, hsz⟩ : ∃ sz, wr.heap.size = sz := ⟨_, rfl⟩
    rw [hsz] at hgx hmk
    have HSZ : Hid (wr.heap.size = sz) := hsz
    clear hsz
    have HLK : Hid (L[k]? = some l) := hl
    have HLK' : Hid (L'[k]? = some l) := hl'
    have HXZ : Hid (x[k]? = some (.slice adx l.length cx)) := hxz
    have HUP : Hid (upN L L' k) := hup
    clear hl hl' hxz hup
    have hmk : Calls Tryz.prog 106 #[.int .i64 (k : Int), .int .i64 0, .int .i64 (l.length : Int)] wr (fun e w' => ∃ v, e = .returned v ∧ w'.ownsRow sz 62 3 v l.length (fl (mkM k 0 l.length)) ∧ Below sz wr w') := hmk
    go_wp2_with (go_at_call 106; (with_reducible refine hmk.mono ?_); rintro e va ⟨vm, rfl, hro, hba⟩; obtain ⟨am, cm, em, _⟩ := ownsRow_form hro; subst em; have hba' : Below wr.heap.size wr va := (by rw [HSZ.out]; exact hba); have hKa := hK'.carry hba'; have hBa := hbw.trans (hba'.mono (Nat.le_trans hbz hbw.size)))
    go_loopw [4] (fun i wz => ∃ j : Nat, i = .int .i64 (j : Int) ∧ j ≤ l.length ∧ Kn base bb wz (.slice (some ⟨gu, 0, none⟩) L.length cu) v x (L'.set k ((mkM k 0 l.length).take j ++ l.drop j)) ∧ wz.ownsRow sz 62 3 (.slice am l.length cm) l.length (fl (mkM k 0 l.length)) ∧ Below base w wz) (fun i _ => l.length - vnatR i)
    case atStart => exact ⟨0, rfl, Nat.zero_le _, by rw [List.take_zero, List.nil_append, List.drop_zero, set_sameN HLK'.out]; exact hKa, hro, hBa⟩
    case round =>
      obtain ⟨j, rfl, hj, hKj, hrj, hBj⟩ := hrel
      by_cases hjl : j < l.length
      case neg =>
        have hji : ¬ (j : Int) < (l.length : Int) := by omega
        obtain rfl : j = l.length := by omega
        have hfin : (mkM k 0 l.length).take l.length ++ l.drop l.length = mkM k 0 l.length := by rw [List.take_of_length_le (by rw [mkM_len]; omega), List.drop_length, List.append_nil]
        rw [hfin] at hKj
        go_wp2
        go_roundw
        case rel => exact ⟨k + 1, _, by simp, by omega, hKj, HUP.out.succ HLK.out, hBj⟩
        case measure => simp [vnatR]; omega
      have hji : (j : Int) < (l.length : Int) := by omega
      have hy := mkM_get k l.length j hjl
      rcases own_form hrj with ⟨_, e⟩ | ⟨gm, cm', em, hgm, hgm2, _⟩
      · omega
      simp only [Value.slice.injEq] at em
      obtain ⟨rfl, _, rfl⟩ := em
      have hll : ((mkM k 0 l.length).take j ++ l.drop j).length = l.length := by rw [List.length_append, List.length_take, mkM_len, List.length_drop]; omega
      have hcl : (L'.set k ((mkM k 0 l.length).take j ++ l.drop j))[k]? = some ((mkM k 0 l.length).take j ++ l.drop j) := List.getElem?_set_self (List.getElem?_eq_some_iff.1 HLK'.out).1
      have hst : ((mkM k 0 l.length).take j ++ l.drop j).set j (-1 - (k : Int), (j : Int), 0) = (mkM k 0 l.length).take (j + 1) ++ l.drop (j + 1) := take_putN hy (mkM_len k 0 l.length).symm
      rcases own_form hfl with ⟨_, e⟩ | ⟨g, cg, ez, _⟩
      · omega
      simp only [Value.slice.injEq] at ez
      obtain ⟨rfl, _, rfl⟩ := ez
      obtain ⟨hglt, hgb⟩ := hgx g rfl
      have hgmg : gm ≠ g := by omega
      have HY : Hid ((mkM k 0 l.length)[j]? = some (-1 - (k : Int), (j : Int), 0)) := hy
      clear hy
      have mj := m6 _ _ hKj
      have hspot : ∀ V, Kn base bb V (.slice (some ⟨gu, 0, none⟩) L.length cu) v x (L'.set k ((mkM k 0 l.length).take j ++ l.drop j)) → V.cell? ⟨gu, k, none⟩ = some (.slice (some ⟨g, 0, none⟩) l.length cx) := fun V hV => by
        obtain ⟨gu2, cu2, z2, q1, q2, q3, _⟩ := hV.cell hcl
        simp only [Value.slice.injEq, Option.some.injEq, Addr.mk.injEq] at q1
        obtain ⟨⟨rfl, _⟩, _⟩ := q1
        rw [HXZ.out] at q3
        obtain rfl := Option.some.inj q3
        exact q2
      go_wp2
      rename_i hK
      refine wp_region_any hmx ?_
      refine wpAny_last 13 (fun i__ => ([(.pointer (some ⟨bb, 0, none⟩)), (.pointer (some ⟨bb, 0, none⟩)), (.pointer (some ⟨bb, 6, none⟩)), (.slice (some ⟨gu, 0, none⟩) L.length cu), (.int .i64 (k : Int)), (.pointer (some ⟨gu, k, none⟩)), (.slice (some ⟨g, 0, none⟩) l.length cx), (.int .i64 (j : Int)), (.slice (some ⟨gm, 0, none⟩) l.length cm), (.int .i64 (j : Int)), (.pointer (some ⟨gm, 0 + j * 3, none⟩)), (nt (-1 - (k : Int)) (j : Int) 0), (.pointer (some ⟨g, 0 + j * 3, none⟩)), undef] : List Value).getD i__ undef) (fun V => Kn base bb V (.slice (some ⟨gu, 0, none⟩) L.length cu) v x (L'.set k ((mkM k 0 l.length).take j ++ l.drop j)) ∧ V.ownsRow sz 62 3 (.slice (some ⟨gm, 0, none⟩) l.length cm) l.length (fl (mkM k 0 l.length)) ∧ Below base w V) (fun V => Kn base bb V (.slice (some ⟨gu, 0, none⟩) L.length cu) v x (L'.set k ((mkM k 0 l.length).take (j + 1) ++ l.drop (j + 1))) ∧ V.ownsRow sz 62 3 (.slice (some ⟨gm, 0, none⟩) l.length cm) l.length (fl (mkM k 0 l.length)) ∧ Below base w V) rfl (by kernel_rfl) (by kernel_rfl) (⟨hKj.carry (Below.refl _ _).drew, row_below hrj (Below.refl _ _).drew, hBj.drew⟩) ?_ ?_  ?_
      · refine (stepsFrom_cons ?_ (stepsFrom_cons ?_ (stepsFrom_cons ?_ (stepsFrom_cons ?_ (stepsFrom_cons ?_ (stepsFrom_cons ?_ (stepsFrom_cons ?_ (stepsFrom_cons ?_ (stepsFrom_cons ?_ (stepsFrom_cons ?_ (stepsFrom_cons ?_ (stepsFrom_cons ?_ (stepsFrom_cons ?_ trivial)))))))))))))
        · exact step_move rfl trivial _ rfl (by kernel_rfl)
        · exact step_nilCheck rfl trivial _ _ _ rfl rfl rfl
        · exact step_fieldAddr rfl trivial _ _ _ _ rfl rfl (fun v hw => field_b6 v _)
        · exact step_load rfl trivial _ _ _ rfl rfl (fun v hw => load_nn (m6 _ _ hw.1))
        · exact step_move rfl trivial _ rfl (by kernel_rfl)
        · exact step_indexAddr rfl trivial _ _ _ _ _ rfl rfl rfl (fun v hw => idx_nn gu _ _ k hkl v)
        · exact step_load rfl trivial _ _ _ rfl rfl (fun v hw => load_nl (hspot _ hw.1))
        · exact step_move rfl trivial _ rfl (by kernel_rfl)
        · exact step_move rfl trivial _ rfl (by kernel_rfl)
        · exact step_move rfl trivial _ rfl (by kernel_rfl)
        · exact step_indexAddr rfl trivial _ _ _ _ _ rfl rfl rfl (fun v hw => idx_n gm 0 l.length cm j hjl v)
        · exact step_load rfl trivial _ _ _ rfl rfl (fun v hw => load_at (nts_own hw.2.1 (mkM_len k 0 l.length).symm) HY.out)
        · exact step_indexAddr rfl trivial _ _ _ _ _ rfl rfl rfl (fun v hw => idx_n g 0 l.length cx j hjl v)
      · intro o ho
        cases ho
        exact step_store rfl trivial rfl _ _ _ _ _ rfl rfl rfl (fun V hw => by obtain ⟨z2, q1, q2, _⟩ := hw.1.ks k _ hcl; rw [HXZ.out] at q1; obtain rfl := Option.some.inj q1; rw [hll] at q2; obtain ⟨V', r1, r2, r3⟩ := row_putN q2 hll.symm hjl (-1 - (k : Int), (j : Int), 0); refine ⟨V', r1, ?_, row_apart2 hw.2.1 r3 (fun b e e2 => by obtain rfl := Option.some.inj e; simp only [Value.ownBlock, Option.some.injEq] at e2; exact hgmg e2), hw.2.2.grown r3 (by have := hw.2.2.size; omega) (fun q e => by obtain rfl := Option.some.inj e; exact hgb)⟩; have hk9 := hw.1.turn hcl HXZ.out rfl (by rw [List.length_set, hll]; exact r2) (List.length_set ..) r3; rw [List.set_set, hst] at hk9; exact hk9)
      intro W hW
      first | refine hK _ _ ?_ | refine (‹∀ (a : Act) (w : World), Code.wp Tryz.prog _ _ a w → _›) _ _ ?_
      simp only [finL, List.getD_cons_zero, List.getD_cons_succ, Nat.zero_add, Nat.reduceAdd, List.setIfInBounds_toArray, List.set_cons_zero, List.set_cons_succ]
      clear hK
      go_wp2
      go_roundw
      case rel => exact ⟨j + 1, by simp, by omega, hW.1, hW.2.1, hW.2.2⟩
      case measure => simp [vnatR]; omega
end Go.Proofs.YtojegojeolkgpaaGreat
namespace Go.Proofs.YtojegojeolkgpaaGreat
open Go.RowKit Go.Shelf Go.Lib

/-- An own row, cut. -/
theorem own_prefix {W : World} {base g n cap N size : Nat} {e : TypeId} {xs : List Value} (h : W.ownsRow base e size (.slice (some ⟨g, 0, none⟩) n cap) n xs) (hN : N ≤ n) : W.ownsRow base e size (.slice (some ⟨g, 0, none⟩) N cap) N (xs.take (N * size)) := by
  obtain ⟨h1, h2⟩ := h
  have hle : N * size ≤ n * size := Nat.mul_le_mul_right _ hN
  rcases h2 with ⟨q, _⟩ | ⟨g', cap', cur, q, hb, hc, h4, h5, h6, h7⟩
  · cases q
  cases q
  refine ⟨by rw [List.length_take]; omega, .inr ⟨g, cap, cur, rfl, hb, hc, by omega, h5, h6, ?_⟩⟩
  rw [← h7, List.take_take, Nat.min_eq_left hle]
/-- append to an own row: in place, or into new memory. -/
theorem wpList_append_two {P : Program} (w : World) {ops : Array Oper} {rest : List Oper} {o : Oper} {a : Act} {Q : Exit → Act → World → Prop}
    (hg : o.guard = none) (s x : Operand) (t : TypeId) (hop : o.op = Op.call { callee := Callee.builtin Builtin.append, args := #[s, x], argTypes := #[t, t] })
    (base : Nat) (e : TypeId) (i : TypeInfo) (z : Value) (size bytes : Nat) (h1 : P.underlying t = some (.slice e)) (h2 : P.info? e = some i) (h3 : i.zero = some z) (h4 : i.size = size) (h5 : i.bytes = bytes) (h6 : z.cells.size = size) (h7 : 0 < size)
    (v : Value) (n : Nat) (xs : List Value) (hs : a.eval s = v) (hown : w.ownsRow base e size v n xs)
    (ad : Addr) (m c : Nat) (news : List Value) (hx : a.eval x = .slice (some ad) m c) (hn : news.length = m * size) (hc : ∀ j u, news[j]? = some u → w.cell? (ad.add j) = some u) (h1c : ∀ u ∈ news, u.oneCell' = true)
    (hm0 : 0 < m) (b1 : n + m ≤ maxLen) (b2 : (n + m) * bytes ≤ 140737488355328) (hbase : base ≤ w.heap.size)
    (hK : ∀ v' w', w'.ownsRow base e size v' (n + m) (xs ++ news) → ((∃ g cap, v = .slice (some ⟨g, 0, none⟩) n cap ∧ v' = .slice (some ⟨g, 0, none⟩) (n + m) cap ∧ w.grownBy w' (some g)) ∨ (w'.ownsRow w.heap.size e size v' (n + m) (xs ++ news) ∧ w.grownBy w' none)) → wpList P ops Q rest (a.put o.dst v') w') :
    wpList P ops Q (o :: rest) a w := by
  obtain ⟨l1, l2⟩ := hown
  have hfin : ∀ v' w', w'.ownsRow w.heap.size e size v' (n + m) (xs ++ news) → w.grownBy w' none → wpList P ops Q rest (a.put o.dst v') w' := fun v' w' q1 q2 => hK v' w' (row_base q1 hbase) (.inr ⟨q1, q2⟩)
  rcases l2 with ⟨rfl, rfl⟩ | ⟨g, cap, cur, rfl, hb, hgc, hnc, hcm, hsz, htk⟩
  · exact wpList_append_grows w hg s x t hop e i z size bytes h1 h2 h3 h4 h5 h6 h7 none 0 0 xs hs (fun _ => ⟨rfl, rfl⟩) l1 (fun b hb => by cases hb) ad m c news hx hn hc h1c (by omega) b1 b2 hfin
  by_cases hr : n + m ≤ cap
  case neg =>
    refine wpList_append_grows w hg s x t hop e i z size bytes h1 h2 h3 h4 h5 h6 h7 (some ⟨g, 0, none⟩) n cap xs hs (fun q => by cases q) l1 (fun b hb j u hj => ?_) ad m c news hx hn hc h1c (by omega) b1 b2 hfin
    obtain rfl := Option.some.inj hb
    rw [add_pl, Nat.zero_add, cell_at hgc, ← Array.getElem?_toList]
    rw [← htk] at hj
    rw [List.getElem?_take] at hj
    split at hj
    · exact hj
    · cases hj
  · subst h4
    have hm1 : (n + m) * i.size ≤ cap * i.size := Nat.mul_le_mul_right _ hr
    have hm2 : (n + m) * i.size = n * i.size + m * i.size := Nat.add_mul _ _ _
    have hrun := run_append_room (P := P) w t o.type e i h1 h2 g n cap cur hgc ad m c news hn hc h1c hr (by omega)
    refine wpList_plain hg fun K hK' => ?_
    unfold Oper.wp
    simp [execOp, hop, resolve, invoke, builtin, hs, hx, hrun, Result.andThen]
    refine hK' _ _ (hK _ _ ⟨by rw [List.length_append]; omega, .inr ⟨g, cap, _, rfl, hb, setRow_heap _ _ _ _ _ _ hgc, hr, hcm, ?_, ?_⟩⟩ (.inl ⟨g, cap, rfl, rfl, ⟨rfl, rfl, rfl, by simp [World.setRow], fun k _ hk => setRow_other (fun e => hk (by rw [e]))⟩⟩))
    · simp
      omega
    · have e1 : xs.length = n * i.size := l1
      rw [htk, ← List.append_assoc, List.take_append_of_le_length (by rw [List.length_append]; omega), List.take_of_length_le (by rw [List.length_append]; omega)]
section
variable {base bb : Nat} {W V : World} {u v : Value} {x : List Value} {L : List (List N3)}
theorem Kn.off (h : Kn base bb W u v x L) {ob : Option Nat} (hg : W.grownBy V ob) (hbb : ob ≠ some bb) (hu : ∀ b, ob = some b → u.ownBlock ≠ some b) (hx : ∀ b, ob = some b → ∀ (i : Nat) (z : Value), x[i]? = some z → z.ownBlock ≠ some b) : Kn base bb V u v x L :=
  ⟨(hg.block _ (lt_at h.kb) (fun e => hbb e.symm)).trans h.kb, row_apart2 h.row hg hu, fun i l hl => by
    obtain ⟨z, q1, q2, q3⟩ := h.ks i l hl
    exact ⟨z, q1, row_apart2 q2 hg (fun b e => hx b e i z q1), q3⟩, h.ap, h.bb, h.k⟩
/-- The lists that were grown. -/
def Gkn (base s0 : Nat) (x : List Value) (W : World) (O : List Value) : Prop := ∀ (i : Nat) (z' : Value), O[i]? = some z' → ∃ n, W.ownsRow base 62 3 z' n (fl (mkM i 0 n)) ∧ n ≤ 5000 ∧ ((∃ z, x[i]? = some z ∧ z'.ownBlock = z.ownBlock) ∨ ∀ b, z'.ownBlock = some b → s0 ≤ b)
theorem Gkn.mkn {s0 : Nat} {O : List Value} (h : Gkn base s0 x W O) : Mkn W O := fun i z hz => by
  obtain ⟨n, h1, h2, _⟩ := h i z hz
  obtain ⟨ad, c, e, hr⟩ := own_rdm h1
  exact ⟨ad, n, c, e, hr, h2⟩
theorem Gkn.off {s0 : Nat} {O : List Value} (h : Gkn base s0 x W O) {ob : Option Nat} (hg : W.grownBy V ob) (hO : ∀ b, ob = some b → ∀ (i : Nat) (z : Value), O[i]? = some z → z.ownBlock ≠ some b) : Gkn base s0 x V O := fun i z hz => by
  obtain ⟨n, h1, h2, h3⟩ := h i z hz
  exact ⟨n, row_apart2 h1 hg (fun b e => hO b e i z hz), h2, h3⟩
/-- While one list is grown. -/
structure Gs (base bb s0 sz N k : Nat) (u v z uo : Value) (x O : List Value) (L : List (List N3)) (w W : World) (a : Value) (M : Nat) : Prop where
  row : W.ownsRow base 62 3 a M (fl (mkM k 0 M))
  rel : (∃ g cap, z = .slice (some ⟨g, 0, none⟩) N cap ∧ a = .slice (some ⟨g, 0, none⟩) M cap) ∨ a = .slice none 0 0 ∨ W.ownsRow sz 62 3 a M (fl (mkM k 0 M))
  kn : Kn base bb W u v x L
  gk : Gkn base s0 x W O
  ro : W.ownsRow s0 23 1 uo k O
  bl : Below base w W
  sz : sz ≤ W.heap.size
  nm : N ≤ M
/-- What stays the same meanwhile. -/
structure Gc (base bb s0 sz N k : Nat) (u z uo : Value) (x O : List Value) (L : List (List N3)) : Prop where
  lk : L[k]? = some (mkM k 0 N)
  xk : x[k]? = some z
  b0 : base ≤ s0
  le : s0 ≤ sz
  xl : ∀ (i : Nat) (z' : Value) (b : Nat), x[i]? = some z' → z'.ownBlock = some b → b < s0
  ul : ∀ b, u.ownBlock = some b → b < s0
  bl : bb < s0
  ol : ∀ (i : Nat) (z' : Value) (b : Nat), O[i]? = some z' → z'.ownBlock = some b → b < sz
  oo : ∀ b, uo.ownBlock = some b → b < sz
  ok : O.length = k
theorem Gs.carry {s0 sz N k M : Nat} {z uo a : Value} {O : List Value} {w : World} (h : Gs base bb s0 sz N k u v z uo x O L w W a M) (hb : Below W.heap.size W V) (hbz : base ≤ W.heap.size) : Gs base bb s0 sz N k u v z uo x O L w V a M :=
  ⟨row_below h.row hb, h.rel.imp_right (fun q => q.imp_right (fun q => row_below q hb)), h.kn.carry hb, fun i z hz => by
    obtain ⟨n, h1, h2, h3⟩ := h.gk i z hz
    exact ⟨n, row_below h1 hb, h2, h3⟩, row_below h.ro hb, h.bl.trans (hb.mono hbz), Nat.le_trans h.sz hb.size, h.nm⟩
theorem Gs.app {s0 sz N k M m : Nat} {z uo a v' : Value} {O : List Value} {w : World} (h : Gs base bb s0 sz N k u v z uo x O L w W a M) (hc : Gc base bb s0 sz N k u z uo x O L) (hv : V.ownsRow base 62 3 v' (M + m) (fl (mkM k 0 M) ++ fl (mkM k M m)))
    (h2 : (∃ g cap, a = .slice (some ⟨g, 0, none⟩) M cap ∧ v' = .slice (some ⟨g, 0, none⟩) (M + m) cap ∧ W.grownBy V (some g)) ∨ (V.ownsRow W.heap.size 62 3 v' (M + m) (fl (mkM k 0 M) ++ fl (mkM k M m)) ∧ W.grownBy V none)) : Gs base bb s0 sz N k u v z uo x O L w V v' (M + m) := by
  have hsz := h.sz
  have hc0 := hc.b0
  have hc1 := hc.le
  have e3 := mkM_app k 0 M m
  rw [Nat.zero_add] at e3
  have e4 : fl (mkM k 0 M) ++ fl (mkM k M m) = fl (mkM k 0 (M + m)) := by rw [← fl_append, e3]
  rw [e4] at hv h2
  rcases h2 with ⟨g, cap, rfl, rfl, hg⟩ | ⟨hf, hg⟩
  · obtain ⟨hbg, cur, hgc⟩ := ownsRow_block h.row g rfl
    have hbl : Below base w V := h.bl.grown hg (by omega) (fun q e => by obtain rfl := Option.some.inj e; exact hbg)
    have hro : V.ownsRow s0 23 1 uo k O := row_apart2 h.ro hg (fun b e => by obtain rfl := Option.some.inj e; exact row_free h.ro hgc (by decide))
    rcases h.rel with ⟨g', cap', rfl, q⟩ | q | q
    · simp only [Value.slice.injEq, Option.some.injEq, Addr.mk.injEq] at q
      obtain ⟨⟨rfl, _⟩, _, rfl⟩ := q
      have hg0 : g < s0 := hc.xl k _ g hc.xk rfl
      refine ⟨hv, .inl ⟨g, cap, rfl, rfl⟩, ?_, h.gk.off hg (fun b e i z' hz e2 => ?_), hro, hbl, Nat.le_trans h.sz hg.size, by have := h.nm; omega⟩
      · have hp := own_prefix hv (show N ≤ M + m by have := h.nm; omega)
        rw [fl_take, mkM_take _ _ _ (by have := h.nm; omega)] at hp
        have := h.kn.turn hc.lk hc.xk rfl (l' := mkM k 0 N) (by rw [mkM_len]; exact hp) rfl hg
        rw [set_sameN hc.lk] at this
        exact this
      · obtain rfl := Option.some.inj e
        obtain ⟨n, _, _, h5⟩ := h.gk i z' hz
        have hik : i < k := by rw [← hc.ok]; exact (List.getElem?_eq_some_iff.1 hz).1
        rcases h5 with ⟨zz, h6, h7⟩ | h5
        · have := h.kn.ap i k g zz _ h6 hc.xk (h7.symm.trans e2) rfl
          omega
        · have := h5 g e2
          omega
    · cases q
    · have hgz : sz ≤ g := (ownsRow_block q g rfl).1
      refine ⟨hv, .inr (.inr ?_), h.kn.off hg (fun e => ?_) (fun b e e2 => ?_) (fun b e i z' hz e2 => ?_), h.gk.off hg (fun b e i z' hz e2 => ?_), hro, hbl, Nat.le_trans h.sz hg.size, by have := h.nm; omega⟩
      · obtain ⟨q1, q2⟩ := hv
        refine ⟨q1, .inr ?_⟩
        rcases q2 with ⟨q3, _⟩ | ⟨g9, c9, cur9, q3, q4, q5⟩
        · cases q3
        · cases q3
          exact ⟨g, cap, cur9, rfl, hgz, q5⟩
      · have := hc.bl
        have := Option.some.inj e
        omega
      · obtain rfl := Option.some.inj e
        have := hc.ul _ e2
        omega
      · obtain rfl := Option.some.inj e
        have := hc.xl i z' _ hz e2
        omega
      · obtain rfl := Option.some.inj e
        have := hc.ol i z' _ hz e2
        omega
  · have hb : Below W.heap.size W V := ⟨hg.os, hg.tape, hg.output, hg.size, fun q hq => hg.block q hq (by simp)⟩
    have h9 := h.carry hb (by omega)
    exact ⟨hv, .inr (.inr (row_base hf h.sz)), h9.kn, h9.gk, h9.ro, h9.bl, h9.sz, by have := h.nm; omega⟩
end
set_option maxHeartbeats 8000000 in
set_option maxRecDepth 100000 in
theorem grown_any {base bb : Nat} {w : World} {u v : Value} {x : List Value} {L : List (List N3)} (h : Kn base bb w u v x L) (hm : ∀ (j : Nat) (l : List N3), L[j]? = some l → l = mkM j 0 l.length) (hbz : base ≤ w.heap.size) : Calls Tryz.prog 58 #[.pointer (some ⟨bb, 0, none⟩)] w fun e w' => ∃ uo, e = .returned uo ∧ ∃ O, w'.ownsRow w.heap.size 23 1 uo L.length O ∧ Mkn w' O ∧ Kn base bb w' u v x L ∧ Below base w w' := by
  obtain ⟨ic, hic, hz0, hz1, hz2⟩ := info_partsN
  obtain ⟨is, his, hs0, hs1, hs2⟩ := info_partsS
  obtain ⟨au, cu, eu, _⟩ := ownsRow_form h.row
  subst eu
  have hk4 := h.k
  have hxl : ∀ (i : Nat) (z' : Value) (b : Nat), x[i]? = some z' → z'.ownBlock = some b → b < w.heap.size := fun i z' b hz hb => by
    have hi : i < L.length := by rw [← h.lenx]; exact (List.getElem?_eq_some_iff.1 hz).1
    obtain ⟨z2, q1, q2, _⟩ := h.ks i _ (List.getElem?_eq_getElem hi)
    rw [hz] at q1
    obtain rfl := Option.some.inj q1
    exact (row_lt2 q2 b hb).2
  have hul : ∀ b, (Value.slice au L.length cu).ownBlock = some b → b < w.heap.size := fun b hb => (row_lt2 h.row b hb).2
  have hbl : bb < w.heap.size := lt_at h.kb
  have m6 : ∀ V, Kn base bb V (.slice au L.length cu) v x L → V.cell? ⟨bb, 6, none⟩ = some (.slice au L.length cu) := fun V hV => by
    rw [cell_at hV.kb]
    rfl
  obtain ⟨s0, hs⟩ : ∃ s0, w.heap.size = s0 := ⟨_, rfl⟩
  rw [hs] at hxl hul hbl hbz ⊢
  have hs0w : s0 ≤ w.heap.size := by omega
  clear hs
  go_enter Tryz.func58, Tryz.ntmps58
  go_wp2
  go_loopw [3, 4] (fun o i wz => ∃ (k : Nat) (O : List Value), i = .int .i64 (k : Int) ∧ k ≤ L.length ∧ wz.ownsRow s0 23 1 o k O ∧ Gkn base s0 x wz O ∧ Kn base bb wz (.slice au L.length cu) v x L ∧ Below base w wz ∧ s0 ≤ wz.heap.size) (fun _ i _ => L.length - vnatR i)
  case atStart => exact ⟨0, [], rfl, Nat.zero_le _, World.ownsRow_nil _ _ _ _, fun i z hz => (by cases hz), h, Below.refl _ _, hs0w⟩
  case round =>
    obtain ⟨k, O, rfl, hk, hro, hgk, hK', hbw, hsw⟩ := hrel
    obtain ⟨ao, co, eo, _⟩ := ownsRow_form hro
    subst eo
    have mm := m6 _ hK'
    have hOl : O.length = k := by have := hro.1; omega
    by_cases hkl : k < L.length
    case neg =>
      have hki : ¬ (k : Int) < (L.length : Int) := by omega
      obtain rfl : k = L.length := by omega
      go_wp2
      go_ret
      exact ⟨_, rfl, O, hro, hgk.mkn, hK', hbw⟩
    have hki : (k : Int) < (L.length : Int) := by omega
    obtain ⟨l, hl⟩ : ∃ l, L[k]? = some l := ⟨_, List.getElem?_eq_getElem hkl⟩
    obtain ⟨gu, cu', z, e1, c1, hxz, hfl, hln⟩ := hK'.cell hl
    simp only [Value.slice.injEq] at e1
    obtain ⟨rfl, _, rfl⟩ := e1
    have hml := hm k l hl
    obtain ⟨N, hN⟩ : ∃ N, l.length = N := ⟨_, rfl⟩
    rw [hN] at hml hln hfl
    rw [hml] at hl hfl
    obtain ⟨adx, cx, rfl, _⟩ := own_rdm hfl
    have hrel0 : (∃ g cap, Value.slice adx N cx = .slice (some ⟨g, 0, none⟩) N cap ∧ Value.slice adx N cx = .slice (some ⟨g, 0, none⟩) N cap) ∨ Value.slice adx N cx = .slice none 0 0 ∨ wr.ownsRow wr.heap.size 62 3 (.slice adx N cx) N (fl (mkM k 0 N)) := by
      rcases own_form hfl with ⟨q, _⟩ | ⟨g, cap, q, _⟩
      · exact .inr (.inl q)
      · exact .inl ⟨g, cap, q, q⟩
    have hGs : Gs base bb s0 wr.heap.size N k (.slice (some ⟨gu, 0, none⟩) L.length cu) v (.slice adx N cx) (.slice ao k co) x O L w wr (.slice adx N cx) N := ⟨hfl, hrel0, hK', hgk, hro, hbw, Nat.le_refl _, Nat.le_refl _⟩
    have hGc : Gc base bb s0 wr.heap.size N k (.slice (some ⟨gu, 0, none⟩) L.length cu) (.slice adx N cx) (.slice ao k co) x O L := ⟨hl, hxz, hbz, hsw, hxl, hul, hbl, fun i z' b hz hb => (by
      obtain ⟨n, q1, _⟩ := hgk i z' hz
      exact (row_lt2 q1 b hb).2), fun b hb => (row_lt2 hro b hb).2, hOl⟩
    obtain ⟨sz, hsz⟩ : ∃ sz, wr.heap.size = sz := ⟨_, rfl⟩
    rw [hsz] at hGs hGc
    have hsz2 : s0 ≤ sz := by omega
    clear hrel0 hfl hgk hro hl hml hm hsz hK' hbw hsw
    go_wp2
    clear mm c1
    go_loopw [5, 6] (fun a i wz => ∃ n : Nat, i = .int .i64 (n : Int) ∧ n ≤ 16 ∧ Gs base bb s0 sz N k (.slice (some ⟨gu, 0, none⟩) L.length cu) v (.slice adx N cx) (.slice ao k co) x O L w wz a (N + n)) (fun _ i _ => 16 - vnatR i)
    case atStart => exact ⟨0, rfl, by omega, hGs⟩
    case round =>
      clear hGs
      obtain ⟨n, rfl, hn, hG⟩ := hrel
      obtain ⟨aa, ca, ea, _⟩ := ownsRow_form hG.row
      subst ea
      have hbz2 : base ≤ wr.heap.size := by have := hG.sz; omega
      by_cases hn16 : n < 16
      · have hni : (n : Int) < 16 := by omega
        obtain ⟨M, hM⟩ : ∃ M, N + n = M := ⟨_, rfl⟩
        have HM : Hid (N + n = M) := hM
        rw [hM] at hG ⊢
        have hM2 : M ≤ 2000 := by omega
        clear hM
        have hmk := markn_any k M 1 (by omega) (by omega) (by omega) wr
        have hmk : Calls Tryz.prog 106 #[.int .i64 (k : Int), .int .i64 (M : Int), .int .i64 1] wr (fun e w' => ∃ v, e = .returned v ∧ w'.ownsRow wr.heap.size 62 3 v 1 (fl (mkM k M 1)) ∧ Below wr.heap.size wr w') := hmk
        go_wp2_with (first | (go_at_call 106; (with_reducible refine hmk.mono ?_); rintro e va ⟨vm, rfl, hrm, hba⟩; obtain ⟨gm, cm, em⟩ := ownsRow_succ (n := 0) hrm; subst em; have hGa := hG.carry hba hbz2; have hsa := hba.size) | (at_builtin; refine wpList_append_two _ rfl _ _ 23 rfl base 62 ic _ 3 24 Tryz.underlying23 hic hz0 hz1 hz2 rfl (by decide) _ M (fl (mkM k 0 M)) rfl hGa.row ⟨gm, 0, none⟩ 1 cm (fl (mkM k M 1)) rfl (by rw [fl_len, mkM_len]) (nts_src (nts_own hrm (mkM_len k M 1).symm)) (fl_one _) (by omega) (by unfold maxLen; omega) (by omega) (by omega) ?_; intro v' w2 hown' htwo; have hG2 := hGa.app hGc hown' htwo))
        go_roundw
        case rel => exact ⟨n + 1, by simp, by omega, by have := HM.out; rw [show N + (n + 1) = M + 1 by omega]; exact hG2⟩
        case measure => simp [vnatR]; omega
      · obtain rfl : n = 16 := by omega
        have hni : ¬ ((16 : Nat) : Int) < 16 := by omega
        obtain ⟨M, hM⟩ : ∃ M, N + 16 = M := ⟨_, rfl⟩
        rw [hM] at hG ⊢
        have hM2 : M ≤ 2000 := by omega
        clear hM
        have hbs := bs_nts
        have hmk : Calls Tryz.prog 106 #[.int .i64 (k : Int), .int .i64 (M : Int), .int .i64 80] wr (fun e w' => ∃ v, e = .returned v ∧ w'.ownsRow wr.heap.size 62 3 v 80 (fl (mkM k M 80)) ∧ Below wr.heap.size wr w') := markn_any k M 80 (by omega) (by omega) (by omega) wr
        go_wp2_with (first | (go_at_call 106; (with_reducible refine hmk.mono ?_); rintro e va ⟨vm, rfl, hrm, hba⟩; obtain ⟨gm, cm, em⟩ := ownsRow_succ (n := 79) hrm; subst em; have hGa := hG.carry hba hbz2; have hsa := hba.size) | (at_builtin; refine wpList_append_two _ rfl _ _ 23 rfl base 62 ic _ 3 24 Tryz.underlying23 hic hz0 hz1 hz2 rfl (by decide) _ M (fl (mkM k 0 M)) rfl hGa.row ⟨gm, 0, none⟩ 80 cm (fl (mkM k M 80)) rfl (by rw [fl_len, mkM_len]) (nts_src (nts_own hrm (mkM_len k M 80).symm)) (fl_one _) (by omega) (by unfold maxLen; omega) (by omega) (by omega) ?_; intro v' w2 hown' htwo; obtain ⟨a', c', e', _⟩ := ownsRow_form hown'; subst e'; have hG2 := hGa.app hGc hown' htwo; have hz2' : sz ≤ w2.heap.size := hG2.sz; have hG3 := hG2.carry (al1 w2 (.cells #[.slice a' (M + 80) c'] 23)) (by omega)) | (at_builtin; refine wpList_append_own _ rfl _ _ 34 rfl s0 23 is _ 1 24 Tryz.underlying34 his hs0 hs1 hs2 rfl (by decide) _ k O rfl hG3.ro ⟨w2.heap.size, 0, none⟩ 1 1 [_] rfl rfl (one_new _ _ _) (by simp [Value.oneCell']) (by unfold maxLen; omega) (by omega) (by simp; omega) ?_; intro v2 w4 hown4 hgrow4 _))
        go_roundw
        case rel =>
          have hty : ∀ {z' : Value} {n : Nat} {ys : List Value} {b : Nat}, (w2.alloc (.cells #[.slice a' (M + 80) c'] 23)).ownsRow base 62 3 z' n ys → (Value.slice ao k co).ownBlock = some b → z'.ownBlock ≠ some b := fun hr e e2 => by
            obtain ⟨_, c5, q5⟩ := ownsRow_block hr _ e2
            exact row_free hG3.ro q5 (by decide) e
          refine ⟨k + 1, O ++ [.slice a' (M + 80) c'], by simp, by omega, hown4, ?_, hG3.kn.off hgrow4 (fun e => kb_row hG3.kn.kb hG3.ro e) (fun b e e2 => ?_) (fun b e i z' hz e2 => ?_), hG3.bl.grown hgrow4 (by simp; omega) (fun q e => by have := (row_lt2 hG3.ro q e).1; omega), by have := hgrow4.size; simp at this; omega⟩
          · intro i z' hz
            rcases Nat.lt_or_ge i k with q | q
            · rw [List.getElem?_append_left (by omega)] at hz
              refine (hG3.gk.off hgrow4 (fun b e i2 z2 hz2 => ?_)) i z' hz
              obtain ⟨n2, r2, _⟩ := hG3.gk i2 z2 hz2
              exact hty r2 e
            · have hik : i = k := by
                have := (List.getElem?_eq_some_iff.1 hz).1
                simp at this
                omega
              subst hik
              rw [List.getElem?_append_right (by omega), hOl, Nat.sub_self] at hz
              cases hz
              refine ⟨M + 80, row_apart2 hG3.row hgrow4 (fun b e => hty hG3.row e), by omega, ?_⟩
              rcases hG3.rel with ⟨g, cap, q1, q2⟩ | q2 | q2
              · exact .inl ⟨_, hGc.xk, by rw [q1, q2]; rfl⟩
              · exact .inr (fun b e => by rw [q2] at e; cases e)
              · exact .inr (fun b e => by have := (row_lt2 q2 b e).1; omega)
          · have := hul b e2
            have := (row_lt2 hG3.ro b e).1
            omega
          · have := hxl i z' b hz e2
            have := (row_lt2 hG3.ro b e).1
            omega
        case measure => simp [vnatR]; omega
end Go.Proofs.YtojegojeolkgpaaGreat
