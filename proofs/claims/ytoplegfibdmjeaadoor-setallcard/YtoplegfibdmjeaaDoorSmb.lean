/- Lists of bytes that are kept: they are full, and each lies in a block of its own. -/
import Derived.Test.YtoplegfibdmjeaaDoorSma
import Derived.Test.YtoplegfibdmjeaaDoorStg
namespace Go.Proofs.YtoplegfibdmjeaaDoor
open Go.RowKit Go.Shelf Go.Lib

/-- A list that is kept: nil, or full, in the block G. -/
def Fl (W : World) (v : Value) (l : List Int) (G : Option Nat) : Prop := (v = .slice none 0 0 ∧ l = [] ∧ G = none) ∨ ∃ g off cur t, v = .slice (some ⟨g, off, none⟩) l.length l.length ∧ G = some g ∧ W.heap[g]? = some (.cells cur t (0, 0)) ∧ t ≠ 38 ∧ t ≠ 42 ∧ BAt W g off l
structure Kl (base bb : Nat) (W : World) (u v : Value) (x : List Value) (L : List (List Int)) (G : List (Option Nat)) : Prop where
  kb : KB W bb u v
  row : W.ownsRow base 42 1 u L.length x
  fl : ∀ (i : Nat) (l : List Int), L[i]? = some l → ∃ z gi, x[i]? = some z ∧ G[i]? = some gi ∧ Fl W z l gi ∧ Byt l ∧ l.length ≤ 1000
  ap : ∀ (i j g : Nat), G[i]? = some (some g) → G[j]? = some (some g) → i = j
  gb : ∀ (i g : Nat), G[i]? = some (some g) → base ≤ g
  bb : base ≤ bb
  k : L.length ≤ 400
section
variable {base bb : Nat} {W V : World} {u v : Value} {x : List Value} {L : List (List Int)} {G : List (Option Nat)}
theorem Fl.carry {z : Value} {l : List Int} {gi : Option Nat} (h : Fl W z l gi) (e : ∀ g, gi = some g → V.heap[g]? = W.heap[g]?) : Fl V z l gi := by
  rcases h with h | ⟨g, off, cur, t, h1, h2, h3, h4, h5, h6⟩
  · exact .inl h
  · have := e g h2
    exact .inr ⟨g, off, cur, t, h1, h2, this.trans h3, h4, h5, h6.carry this⟩
theorem Fl.lt {z : Value} {l : List Int} {g : Nat} (h : Fl W z l (some g)) : g < W.heap.size := by
  rcases h with ⟨_, _, h⟩ | ⟨g', off, cur, t, h1, h2, h3, _⟩
  · cases h
  · cases h2
    exact lt_at h3
theorem Fl.form {z : Value} {l : List Int} {gi : Option Nat} (h : Fl W z l gi) : ∃ ad, z = .slice ad l.length l.length ∧ RdB W ad l ∧ (ad = none → l.length = 0) := by
  rcases h with ⟨rfl, rfl, _⟩ | ⟨g, off, cur, t, rfl, _, h3, _, _, h6⟩
  · exact ⟨none, rfl, fun q => absurd rfl q, fun _ => rfl⟩
  · exact ⟨_, rfl, fun _ => ⟨g, off, rfl, lt_at h3, h6⟩, fun q => by cases q⟩
theorem Kl.lenx (h : Kl base bb W u v x L G) : x.length = L.length := by
  have := h.row.1
  omega
theorem Kl.carry (h : Kl base bb W u v x L G) (hb : Below W.heap.size W V) : Kl base bb V u v x L G :=
  ⟨(hb.block _ (lt_at h.kb)).trans h.kb, row_below h.row hb, fun i l hl => by
    obtain ⟨z, gi, h1, h2, h3, h4⟩ := h.fl i l hl
    exact ⟨z, gi, h1, h2, h3.carry (fun g e => by subst e; exact hb.block g h3.lt), h4⟩, h.ap, h.gb, h.bb, h.k⟩
/-- The row of the lists, at a place. -/
theorem Kl.cell (h : Kl base bb W u v x L G) {i : Nat} {l : List Int} (hl : L[i]? = some l) : ∃ g c z gi, u = .slice (some ⟨g, 0, none⟩) L.length c ∧ W.cell? ⟨g, i, none⟩ = some z ∧ x[i]? = some z ∧ G[i]? = some gi ∧ Fl W z l gi ∧ Byt l ∧ l.length ≤ 1000 := by
  obtain ⟨z, gi, h1, h2, h3, h4, h5⟩ := h.fl i l hl
  have hi : i < L.length := (List.getElem?_eq_some_iff.1 hl).1
  obtain ⟨g, c, e⟩ := own_some h.row (by omega)
  have hr := h.row
  rw [e] at hr
  exact ⟨g, c, z, gi, e, (hr.cellAt _ (by have := h.lenx; omega)).trans h1, h1, h2, h3, h4, h5⟩
end
theorem cell_ltO {W : World} {a : Addr} {v : Value} (h : W.cell? a = some v) : a.block < W.heap.size := by
  unfold World.cell? at h
  cases hb : W.heap[a.block]? with
  | none => simp [hb] at h
  | some o => exact (Array.getElem?_eq_some_iff.1 hb).1
theorem field_b8 (W : World) (B : Nat) : (Instr.fieldAt 38 (.pointer (some ⟨B, 0, none⟩)) 0).run Tryd.prog W = .ok (.pointer (some ⟨B, 0, none⟩)) W := by go_simp
theorem load_ss {V : World} {B j n c : Nat} {a : Option Addr} (h : V.cell? ⟨B, j, none⟩ = some (.slice a n c)) : (Instr.loadAt 25 (.pointer (some ⟨B, j, none⟩))).run Tryd.prog V = .ok (.slice a n c) V := by go_simp
theorem load_s1 {V : World} {B j n c : Nat} {a : Option Addr} (h : V.cell? ⟨B, j, none⟩ = some (.slice a n c)) : (Instr.loadAt 42 (.pointer (some ⟨B, j, none⟩))).run Tryd.prog V = .ok (.slice a n c) V := by go_simp
theorem idx_ss (g n cap k : Nat) (h : k < n) (w : World) : (Instr.indexAt 25 (.slice (some ⟨g, 0, none⟩) n cap) (.int .i64 (k : Int))).run Tryd.prog w = .ok (.pointer (some ⟨g, k, none⟩)) w := by
  have h1 : (k : Int) < (n : Int) := by omega
  go_simp
theorem bi_lenb (t : TypeId) (bs : Array Bool) (a : Option Addr) (n c : Nat) (w : World) : (builtin .len #[42] t bs #[.slice a n c]).run Tryd.prog w = .ok (.value (.int .i64 (n : Int))) w := by
  show ((do pure (.value (← Builtin.len_ #[42] t #[.slice a n c]))) : Sem Next).run Tryd.prog w = _
  go_simp
/-- The copies. -/
def Cp (base : Nat) (W : World) (v : Value) (y : List Value) (L : List (List Int)) : Prop := W.ownsRow base 42 1 v L.length y ∧ ∀ (i : Nat) (l : List Int), L[i]? = some l → ∃ ad c, y[i]? = some (.slice ad l.length c) ∧ RdB W ad l
set_option maxHeartbeats 4000000 in
set_option maxRecDepth 100000 in
theorem still_any {base bb : Nat} {w : World} {u v : Value} {x y : List Value} {L : List (List Int)} {G : List (Option Nat)} (h : Kl base bb w u v x L G) (hc : Cp base w v y L) : Calls Tryd.prog 21 #[.pointer (some ⟨bb, 0, none⟩)] w fun e w' => e = .returned (.bool true) ∧ Below w.heap.size w w' := by
  have hmx : Tryd.prog.follows .mixedOrders = true := by kernel_rfl
  obtain ⟨au, cu, eu, _⟩ := ownsRow_form h.row
  have m8 : ∀ V, Below w.heap.size w V → V.cell? ⟨bb, 0, none⟩ = some (.slice au L.length cu) := fun V hV => by
    rw [cell_at ((hV.block _ (lt_at h.kb)).trans h.kb), ← eu]
    rfl
  obtain ⟨av, cv, ev, _⟩ := ownsRow_form hc.1
  have m9 : ∀ V, Below w.heap.size w V → V.cell? ⟨bb, 1, none⟩ = some (.slice av L.length cv) := fun V hV => by
    rw [cell_at ((hV.block _ (lt_at h.kb)).trans h.kb), ← ev]
    rfl
  have hk4 := h.k
  go_enter Tryd.func21, Tryd.ntmps21
  go_wp2
  go_loopw [3] (fun i wz => ∃ k : Nat, i = .int .i64 (k : Int) ∧ k ≤ L.length ∧ Below w.heap.size w wz) (fun i _ => L.length - vnat i)
  case atStart => exact ⟨0, rfl, Nat.zero_le _, Below.refl _ _⟩
  case round =>
    obtain ⟨k, rfl, hk, hb⟩ := hrel
    have mm := m8 _ hb
    by_cases hkl : k < L.length
    · have hki : (k : Int) < (L.length : Int) := by omega
      obtain ⟨l, hl⟩ : ∃ l, L[k]? = some l := ⟨_, List.getElem?_eq_getElem hkl⟩
      obtain ⟨gu, cu', z, gi, e1, c1, hxz, _, hfl, hby, hln⟩ := h.cell hl
      rw [eu] at e1
      cases e1
      obtain ⟨adx, rfl, hrx, _⟩ := hfl.form
      obtain ⟨ady, cy, hyz, hry⟩ := hc.2 k l hl
      obtain ⟨gv, cv', e2⟩ := own_some hc.1 (by omega)
      have hcr := hc.1
      rw [e2] at hcr
      rw [ev] at e2
      cases e2
      have c2 : w.cell? ⟨gv, k, none⟩ = some (.slice ady l.length cy) := (hcr.cellAt _ (by have := hc.1.1; omega)).trans hyz
      have hgu := cell_ltO c1
      have hgv := cell_ltO c2
      go_wp2
      rename_i hK
      refine wp_region_any hmx ?_
      refine wpAny_pure (fun i__ => ([(.pointer (some ⟨bb, 0, none⟩)), (.pointer (some ⟨bb, 0, none⟩)), (.pointer (some ⟨bb, 0, none⟩)), (.slice (some ⟨gu, 0, none⟩) L.length cu), (.int .i64 (k : Int)), (.pointer (some ⟨gu, k, none⟩)), (.slice adx l.length l.length), (.pointer (some ⟨bb, 0, none⟩)), (.pointer (some ⟨bb, 0, none⟩)), (.pointer (some ⟨bb, 1, none⟩)), (.slice (some ⟨gv, 0, none⟩) L.length cv), (.int .i64 (k : Int)), (.pointer (some ⟨gv, k, none⟩)), (.slice ady l.length cy), (.bool true), (.bool false)] : List Value).getD i__ undef) (fun V => Below w.heap.size w V) (by kernel_rfl) (hb.drew) ?_ ?_
      · refine (stepsFrom_cons ?_ (stepsFrom_cons ?_ (stepsFrom_cons ?_ (stepsFrom_cons ?_ (stepsFrom_cons ?_ (stepsFrom_cons ?_ (stepsFrom_cons ?_ (stepsFrom_cons ?_ (stepsFrom_cons ?_ (stepsFrom_cons ?_ (stepsFrom_cons ?_ (stepsFrom_cons ?_ (stepsFrom_cons ?_ (stepsFrom_cons ?_ (stepsFrom_cons ?_ (stepsFrom_cons ?_ trivial))))))))))))))))
        · exact step_move rfl trivial _ rfl (by kernel_rfl)
        · exact step_nilCheck rfl trivial _ _ _ rfl rfl rfl
        · exact step_fieldAddr rfl trivial _ _ _ _ rfl rfl (fun v hw => field_b8 v _)
        · exact step_load rfl trivial _ _ _ rfl rfl (fun v hw => load_ss (m8 v hw))
        · exact step_move rfl trivial _ rfl (by kernel_rfl)
        · exact step_indexAddr rfl trivial _ _ _ _ _ rfl rfl rfl (fun v hw => idx_ss gu _ _ k hkl v)
        · exact step_load rfl trivial _ _ _ rfl rfl (fun v hw => load_s1 ((hw.cell (p := ⟨gu, k, none⟩) hgu).trans c1))
        · exact step_move rfl trivial _ rfl (by kernel_rfl)
        · exact step_nilCheck rfl trivial _ _ _ rfl rfl rfl
        · exact step_fieldAddr rfl trivial _ _ _ _ rfl rfl (fun v hw => field_kb v _)
        · exact step_load rfl trivial _ _ _ rfl rfl (fun v hw => load_ss (m9 v hw))
        · exact step_move rfl trivial _ rfl (by kernel_rfl)
        · exact step_indexAddr rfl trivial _ _ _ _ _ rfl rfl rfl (fun v hw => idx_ss gv _ _ k hkl v)
        · exact step_load rfl trivial _ _ _ rfl rfl (fun v hw => load_s1 ((hw.cell (p := ⟨gv, k, none⟩) hgv).trans c2))
        · exact step_call rfl trivial 6 _ _ [(.slice adx l.length l.length), (.slice ady l.length cy)] rfl (by kernel_rfl) (enters_of Tryd.func6 (by kernel_rfl) rfl) (fun v hw => (sameB_yes adx ady l.length cy l v (hrx.carry hw) (hry.carry hw) (by omega)).mono (by rintro e w' ⟨rfl, hb'⟩; exact ⟨rfl, bel2 hw hb'⟩))
        · exact step_unOp rfl trivial _ _ _ _ rfl rfl (fun v hw => un_not true v)
      intro W hW
      first | refine hK _ _ ?_ | refine (‹∀ (a : Act) (w : World), Code.wp Tryd.prog _ _ a w → _›) _ _ ?_
      simp only [finL, List.getD_cons_zero, List.getD_cons_succ, Nat.zero_add, Nat.reduceAdd, List.setIfInBounds_toArray, List.set_cons_zero, List.set_cons_succ]
      clear hK
      go_wp2
      go_roundw
      case rel => exact ⟨k + 1, by simp, by omega, hW⟩
      case measure => simp [vnat]; omega
    · have hki : ¬ (k : Int) < (L.length : Int) := by omega
      go_wp2
      go_ret
      exact ⟨rfl, hb⟩
end Go.Proofs.YtoplegfibdmjeaaDoor
