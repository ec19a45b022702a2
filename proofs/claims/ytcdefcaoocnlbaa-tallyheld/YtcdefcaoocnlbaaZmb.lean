/- Lists of notices that are kept: each is an own row, in a block of its own. -/
import Derived.Test.YtcdefcaoocnlbaaZma
import Derived.Test.YtcdefcaoocnlbaaStg
namespace Go.Proofs.Ytcdefcaoocnlbaa
open Go.RowKit Go.Shelf Go.Lib

structure Kn (base bb : Nat) (W : World) (u v : Value) (x : List Value) (L : List (List Nat)) : Prop where
  kb : KB W bb u v
  row : W.ownsRow base 31 1 u L.length x
  ks : ∀ (i : Nat) (l : List Nat), L[i]? = some l → ∃ z, x[i]? = some z ∧ W.ownsRow base 24 4 z l.length (fs l) ∧ l.length ≤ 1000
  ap : ∀ (i j g : Nat) (z z' : Value), x[i]? = some z → x[j]? = some z' → z.ownBlock = some g → z'.ownBlock = some g → i = j
  bb : base ≤ bb
  k : L.length ≤ 400
section
variable {base bb : Nat} {W V : World} {u v : Value} {x : List Value} {L : List (List Nat)}
theorem own_rd {z : Value} {l : List Nat} (h : W.ownsRow base 24 4 z l.length (fs l)) : ∃ ad c, z = .slice ad l.length c ∧ RdS W ad l := by
  rcases own_form h with ⟨rfl, e⟩ | ⟨g, cap, rfl, h1, h2, h3⟩
  · exact ⟨none, 0, by rw [e], fun hn => absurd (List.eq_nil_of_length_eq_zero e) hn⟩
  · exact ⟨some ⟨g, 0, none⟩, cap, rfl, fun _ => ⟨g, 0, rfl, h2, ss_own h rfl⟩⟩
theorem Kn.lenx (h : Kn base bb W u v x L) : x.length = L.length := by
  have := h.row.1
  omega
theorem Kn.carry (h : Kn base bb W u v x L) (hb : Below W.heap.size W V) : Kn base bb V u v x L :=
  ⟨(hb.block _ (lt_at h.kb)).trans h.kb, row_below h.row hb, fun i l hl => by
    obtain ⟨z, h1, h2, h3⟩ := h.ks i l hl
    exact ⟨z, h1, row_below h2 hb, h3⟩, h.ap, h.bb, h.k⟩
theorem Kn.cell (h : Kn base bb W u v x L) {i : Nat} {l : List Nat} (hl : L[i]? = some l) : ∃ g c z, u = .slice (some ⟨g, 0, none⟩) L.length c ∧ W.cell? ⟨g, i, none⟩ = some z ∧ x[i]? = some z ∧ W.ownsRow base 24 4 z l.length (fs l) ∧ l.length ≤ 1000 := by
  obtain ⟨z, h1, h2, h3⟩ := h.ks i l hl
  have hi : i < L.length := (List.getElem?_eq_some_iff.1 hl).1
  have hr := h.row
  rcases own_form hr with ⟨_, e⟩ | ⟨g, cap, e, _⟩
  · omega
  · rw [e] at hr
    exact ⟨g, cap, z, e, (hr.cellAt _ (by have := h.lenx; omega)).trans h1, h1, h2, h3⟩
end
theorem cell_ltO {W : World} {a : Addr} {v : Value} (h : W.cell? a = some v) : a.block < W.heap.size := by
  unfold World.cell? at h
  cases hb : W.heap[a.block]? with
  | none => simp [hb] at h
  | some o => exact (Array.getElem?_eq_some_iff.1 hb).1
theorem field_b6 (W : World) (B : Nat) : (Instr.fieldAt 60 (.pointer (some ⟨B, 0, none⟩)) 10).run Try.prog W = .ok (.pointer (some ⟨B, 10, none⟩)) W := by go_simp
theorem load_nn {V : World} {B j n c : Nat} {a : Option Addr} (h : V.cell? ⟨B, j, none⟩ = some (.slice a n c)) : (Instr.loadAt 52 (.pointer (some ⟨B, j, none⟩))).run Try.prog V = .ok (.slice a n c) V := by go_simp
theorem load_nl {V : World} {B j n c : Nat} {a : Option Addr} (h : V.cell? ⟨B, j, none⟩ = some (.slice a n c)) : (Instr.loadAt 31 (.pointer (some ⟨B, j, none⟩))).run Try.prog V = .ok (.slice a n c) V := by go_simp
theorem idx_nn (g n cap k : Nat) (h : k < n) (w : World) : (Instr.indexAt 52 (.slice (some ⟨g, 0, none⟩) n cap) (.int .i64 (k : Int))).run Try.prog w = .ok (.pointer (some ⟨g, k, none⟩)) w := by
  have h1 : (k : Int) < (n : Int) := by omega
  go_simp
theorem bi_lennn (t : TypeId) (bs : Array Bool) (a : Option Addr) (n c : Nat) (w : World) : (builtin .len #[31] t bs #[.slice a n c]).run Try.prog w = .ok (.value (.int .i64 (n : Int))) w := by
  show ((do pure (.value (← Builtin.len_ #[31] t #[.slice a n c]))) : Sem Next).run Try.prog w = _
  go_simp
/-- The copies. -/
def Cn (base : Nat) (W : World) (v : Value) (y : List Value) (L : List (List Nat)) : Prop := W.ownsRow base 31 1 v L.length y ∧ ∀ (i : Nat) (l : List Nat), L[i]? = some l → ∃ ad c, y[i]? = some (.slice ad l.length c) ∧ RdS W ad l
set_option maxHeartbeats 4000000 in
set_option maxRecDepth 100000 in
theorem stilln_any {base bb : Nat} {w : World} {u v : Value} {x y : List Value} {L : List (List Nat)} (h : Kn base bb w u v x L) (hc : Cn base w v y L) : Calls Try.prog 38 #[.pointer (some ⟨bb, 0, none⟩)] w fun e w' => e = .returned (.bool true) ∧ Below w.heap.size w w' := by
  have hmx : Try.prog.follows .mixedOrders = true := by kernel_rfl
  obtain ⟨au, cu, eu, _⟩ := ownsRow_form h.row
  have m6 : ∀ V, Below w.heap.size w V → V.cell? ⟨bb, 10, none⟩ = some (.slice au L.length cu) := fun V hV => by
    rw [cell_at ((hV.block _ (lt_at h.kb)).trans h.kb), ← eu]
    rfl
  obtain ⟨av, cv, ev, _⟩ := ownsRow_form hc.1
  have m7 : ∀ V, Below w.heap.size w V → V.cell? ⟨bb, 11, none⟩ = some (.slice av L.length cv) := fun V hV => by
    rw [cell_at ((hV.block _ (lt_at h.kb)).trans h.kb), ← ev]
    rfl
  have hk4 := h.k
  go_enter Try.func38, Try.ntmps38
  go_wp2
  go_loopw [3] (fun i wz => ∃ k : Nat, i = .int .i64 (k : Int) ∧ k ≤ L.length ∧ Below w.heap.size w wz) (fun i _ => L.length - vnatR i)
  case atStart => exact ⟨0, rfl, Nat.zero_le _, Below.refl _ _⟩
  case round =>
    obtain ⟨k, rfl, hk, hb⟩ := hrel
    have mm := m6 _ hb
    by_cases hkl : k < L.length
    · have hki : (k : Int) < (L.length : Int) := by omega
      obtain ⟨l, hl⟩ : ∃ l, L[k]? = some l := ⟨_, List.getElem?_eq_getElem hkl⟩
      obtain ⟨gu, cu', z, e1, c1, hxz, hfl, hln⟩ := h.cell hl
      rw [eu] at e1
      cases e1
      obtain ⟨adx, cx, rfl, hrx⟩ := own_rd hfl
      obtain ⟨ady, cy, hyz, hry⟩ := hc.2 k l hl
      have hcr := hc.1
      rcases own_form hcr with ⟨_, e⟩ | ⟨gv, cv', e2, _⟩
      · omega
      rw [e2] at hcr
      rw [ev] at e2
      cases e2
      have c2 : w.cell? ⟨gv, k, none⟩ = some (.slice ady l.length cy) := (hcr.cellAt _ (by have := hc.1.1; omega)).trans hyz
      have hgu := cell_ltO c1
      have hgv := cell_ltO c2
      go_wp2
      rename_i hK
      refine wp_region_any hmx ?_
      refine wpAny_pure (fun i__ => ([(.pointer (some ⟨bb, 0, none⟩)), (.pointer (some ⟨bb, 0, none⟩)), (.pointer (some ⟨bb, 10, none⟩)), (.slice (some ⟨gu, 0, none⟩) L.length cu), (.int .i64 (k : Int)), (.pointer (some ⟨gu, k, none⟩)), (.slice adx l.length cx), (.pointer (some ⟨bb, 0, none⟩)), (.pointer (some ⟨bb, 0, none⟩)), (.pointer (some ⟨bb, 11, none⟩)), (.slice (some ⟨gv, 0, none⟩) L.length cv), (.int .i64 (k : Int)), (.pointer (some ⟨gv, k, none⟩)), (.slice ady l.length cy), (.bool true), (.bool false)] : List Value).getD i__ undef) (fun V => Below w.heap.size w V) (by kernel_rfl) (hb.drew) ?_ ?_
      · refine (stepsFrom_cons ?_ (stepsFrom_cons ?_ (stepsFrom_cons ?_ (stepsFrom_cons ?_ (stepsFrom_cons ?_ (stepsFrom_cons ?_ (stepsFrom_cons ?_ (stepsFrom_cons ?_ (stepsFrom_cons ?_ (stepsFrom_cons ?_ (stepsFrom_cons ?_ (stepsFrom_cons ?_ (stepsFrom_cons ?_ (stepsFrom_cons ?_ (stepsFrom_cons ?_ (stepsFrom_cons ?_ trivial))))))))))))))))
        · exact step_move rfl trivial _ rfl (by kernel_rfl)
        · exact step_nilCheck rfl trivial _ _ _ rfl rfl rfl
        · exact step_fieldAddr rfl trivial _ _ _ _ rfl rfl (fun v hw => field_b6 v _)
        · exact step_load rfl trivial _ _ _ rfl rfl (fun v hw => load_nn (m6 v hw))
        · exact step_move rfl trivial _ rfl (by kernel_rfl)
        · exact step_indexAddr rfl trivial _ _ _ _ _ rfl rfl rfl (fun v hw => idx_nn gu _ _ k hkl v)
        · exact step_load rfl trivial _ _ _ rfl rfl (fun v hw => load_nl ((hw.cell (p := ⟨gu, k, none⟩) hgu).trans c1))
        · exact step_move rfl trivial _ rfl (by kernel_rfl)
        · exact step_nilCheck rfl trivial _ _ _ rfl rfl rfl
        · exact step_fieldAddr rfl trivial _ _ _ _ rfl rfl (fun v hw => field_kb v _)
        · exact step_load rfl trivial _ _ _ rfl rfl (fun v hw => load_nn (m7 v hw))
        · exact step_move rfl trivial _ rfl (by kernel_rfl)
        · exact step_indexAddr rfl trivial _ _ _ _ _ rfl rfl rfl (fun v hw => idx_nn gv _ _ k hkl v)
        · exact step_load rfl trivial _ _ _ rfl rfl (fun v hw => load_nl ((hw.cell (p := ⟨gv, k, none⟩) hgv).trans c2))
        · exact step_call rfl trivial 95 _ _ [(.slice adx l.length cx), (.slice ady l.length cy)] rfl (by kernel_rfl) (enters_of Try.func95 (by kernel_rfl) rfl) (fun v hw => (sameS_any adx ady cx cy l v (hrx.carry hw) (hry.carry hw) (by omega)).mono (by rintro e w' ⟨rfl, hb'⟩; exact ⟨rfl, bel2 hw hb'⟩))
        · exact step_unOp rfl trivial _ _ _ _ rfl rfl (fun v hw => un_not true v)
      intro W hW
      first | refine hK _ _ ?_ | refine (‹∀ (a : Act) (w : World), Code.wp Try.prog _ _ a w → _›) _ _ ?_
      simp only [finL, List.getD_cons_zero, List.getD_cons_succ, Nat.zero_add, Nat.reduceAdd, List.setIfInBounds_toArray, List.set_cons_zero, List.set_cons_succ]
      clear hK
      go_wp2
      go_roundw
      case rel => exact ⟨k + 1, by simp, by omega, hW⟩
      case measure => simp [vnatR]; omega
    · have hki : ¬ (k : Int) < (L.length : Int) := by omega
      go_wp2
      go_ret
      exact ⟨rfl, hb⟩
end Go.Proofs.Ytcdefcaoocnlbaa
