/- A book in a world; kept, Size, raise, Take, At: what they answer, at every book. -/
import Derived.Test.YtklnfbanfgdgcaaGreatDoorJnJ14
import Derived.Test.YtklnfbanfgdgcaaGreatDoorJnJ15
import Derived.Test.YtklnfbanfgdgcaaGreatDoorJnJ1
import Derived.Laws.MakeOwn
set_option maxHeartbeats 40000000
set_option maxRecDepth 100000
set_option linter.unusedVariables false
namespace Go.Proofs.YtklnfbanfgdgcaaGreatDoor
open Go.RowKit Go.Shelf

/-- A book: its block p, and that of its notices, g. -/
structure Bk (W : World) (p g : Nat) (l : List N3) : Prop where
  obj : W.heap[p]? = some (.cells #[.slice (some ⟨g, 0, none⟩) l.length l.length] 183 (0, 0))
  row : W.heap[g]? = some (.cells (fl l).toArray 185 (0, 0))
theorem Bk.ne {W : World} {p g : Nat} {l : List N3} (h : Bk W p g l) : p ≠ g := by
  intro e
  subst e
  have := h.obj.symm.trans h.row
  simp only [Option.some.injEq, Obj.cells.injEq] at this
  exact absurd this.2.1 (by decide)
theorem Bk.plt {W : World} {p g : Nat} {l : List N3} (h : Bk W p g l) : p < W.heap.size := lt_at h.obj
theorem Bk.glt {W : World} {p g : Nat} {l : List N3} (h : Bk W p g l) : g < W.heap.size := lt_at h.row
theorem Bk.carry {W W' : World} {p g : Nat} {l : List N3} (h : Bk W p g l) (hb : Below W.heap.size W W') : Bk W' p g l := ⟨(hb.block _ h.plt).trans h.obj, (hb.block _ h.glt).trans h.row⟩
theorem Bk.alloc {W : World} {p g : Nat} {l : List N3} (h : Bk W p g l) (o : Obj) : Bk (W.alloc o) p g l := ⟨old_at h.obj, old_at h.row⟩
theorem Bk.nts {W : World} {p g : Nat} {l : List N3} (h : Bk W p g l) : NtsAt W g 0 l := by
  intro k x hk
  obtain ⟨c0, c1, c2⟩ := fl_get l k x hk
  rw [Nat.zero_add]
  exact ⟨(cell_at h.row _).trans (by simpa using c0), (cell_at h.row _).trans (by simpa using c1), (cell_at h.row _).trans (by simpa using c2)⟩
theorem Bk.thaw {W : World} {p g : Nat} {l : List N3} (h : Bk W p g l) (j : Nat) : W.frozen? ⟨g, j, none⟩ = false := thaw_at h.row j
theorem Bk.cell {W : World} {p g : Nat} {l : List N3} (h : Bk W p g l) : W.cell? ⟨p, 0, none⟩ = some (.slice (some ⟨g, 0, none⟩) l.length l.length) := cell_at h.obj 0
theorem field_b0 (W : World) (B : Nat) : (Instr.fieldAt 183 (.pointer (some ⟨B, 0, none⟩)) 0).run Tryz.prog W = .ok (.pointer (some ⟨B, 0, none⟩)) W := by go_simp
theorem load_b0 {W : World} {p g : Nat} {l : List N3} (h : Bk W p g l) : (Instr.loadAt 46 (.pointer (some ⟨p, 0, none⟩))).run Tryz.prog W = .ok (.slice (some ⟨g, 0, none⟩) l.length l.length) W := by
  have c0 := h.cell
  go_simp
/-- Three cells put. -/
def W3o (W : World) (B off : Nat) (o t k : Int) : World := ((W.setCell ⟨B, off, none⟩ (.int .i64 o)).setCell ⟨B, off + 1, none⟩ (.int .i64 t)).setCell ⟨B, off + 2, none⟩ (.int .i64 k)
theorem fl_set : ∀ (l : List N3) (i : Nat) (x : N3), (((fl l).set (i * 3) (.int .i64 x.1)).set (i * 3 + 1) (.int .i64 x.2.1)).set (i * 3 + 2) (.int .i64 x.2.2) = fl (l.set i x)
  | [], i, x => rfl
  | y :: l, 0, x => rfl
  | y :: l, i + 1, x => by
    have ih := fl_set l i x
    rw [fl_cons, List.set_cons_succ, fl_cons, ← ih, show (i + 1) * 3 = i * 3 + 1 + 1 + 1 by omega]
    rfl
theorem Bk.put {W : World} {p g : Nat} {l : List N3} (h : Bk W p g l) (i : Nat) (o t k : Int) : Bk (W3o W g (i * 3) o t k) p g (l.set i (o, t, k)) := by
  refine ⟨?_, ?_⟩
  · unfold W3o
    rw [Below.heap_setCell _ _ _ _ h.ne, Below.heap_setCell _ _ _ _ h.ne, Below.heap_setCell _ _ _ _ h.ne]
    simpa using h.obj
  · unfold W3o
    have h0 := heap_setCell_same _ _ (i * 3) _ _ (.int .i64 o) h.row
    have h1 := heap_setCell_same _ _ (i * 3 + 1) _ _ (.int .i64 t) h0
    have h2 := heap_setCell_same _ _ (i * 3 + 2) _ _ (.int .i64 k) h1
    rw [h2, ← fl_set l i (o, t, k)]
    simp
theorem store_b {W : World} {p g : Nat} {l : List N3} (h : Bk W p g l) (i : Nat) (hi : i < l.length) (o t k : Int) : (Instr.storeAt 185 (.pointer (some ⟨g, 0 + i * 3, none⟩)) (nt o t k)).run Tryz.prog W = .ok () (W3o W g (i * 3) o t k) := by
  obtain ⟨x, hx⟩ : ∃ x, l[i]? = some x := ⟨_, List.getElem?_eq_getElem hi⟩
  obtain ⟨c0, c1, c2⟩ := h.nts i x hx
  rw [Nat.zero_add] at *
  have z0 := h.thaw (i * 3)
  have z1 := h.thaw (i * 3 + 1)
  have z2 := h.thaw (i * 3 + 2)
  unfold nt W3o
  go_simp
set_option maxHeartbeats 1000000 in
theorem bkept_any {W : World} {p g : Nat} {l : List N3} (h : Bk W p g l) : Calls Tryz.prog 221 #[.pointer (some ⟨p, 0, none⟩)] W fun e w' => e = .returned (.slice (some ⟨g, 0, none⟩) l.length l.length) ∧ Below W.heap.size W w' := by
  have c0 := h.cell
  go_enter Tryz.func221, Tryz.ntmps221
  go_wp2
  go_ret
  exact ⟨rfl, Below.refl _ _⟩
set_option maxHeartbeats 1000000 in
theorem bsize_any {W : World} {p g : Nat} {l : List N3} (h : Bk W p g l) : Calls Tryz.prog 242 #[.pointer (some ⟨p, 0, none⟩)] W fun e w' => e = .returned (.int .i64 (l.length : Int)) ∧ Below W.heap.size W w' := by
  have hk := bkept_any h
  go_enter Tryz.func242, Tryz.ntmps242
  go_wp2_with (go_at_call 221; (with_reducible refine hk.mono ?_); rintro e u1 ⟨rfl, hb1⟩)
  go_ret
  exact ⟨rfl, hb1⟩


theorem bin_neqn {x y : Operand} {w : World} (o t k o' t' k' : Int) : binRun Tryz.prog .neq 185 x y (nt o t k) (nt o' t' k') w = .ok (.bool (!decide ((o, t, k) = (o', t', k')))) w := by
  unfold binRun nt
  by_cases h : o = o'
  · by_cases h1 : t = t'
    · by_cases h2 : k = k' <;> go_simp
    · go_simp
  · go_simp

theorem fl_zero : ∀ N : Nat, fl (List.replicate N (0, 0, 0)) = List.replicate (N * 3) (.int .i64 0)
  | 0 => rfl
  | N + 1 => by
    rw [List.replicate_succ, fl_cons, fl_zero N, show (N + 1) * 3 = N * 3 + 1 + 1 + 1 by omega, List.replicate_succ, List.replicate_succ, List.replicate_succ]
theorem made3 (N : Nat) : madeCells (Value.agg #[.int .i64 0, .int .i64 0, .int .i64 0]).cells (N * 3) = (fl (List.replicate N (0, 0, 0))).toArray := by
  rw [fl_zero]
  apply Array.ext
  · rw [size_madeCells]; simp
  · intro j h1 h2
    have hz : (Value.agg #[Value.int .i64 0, Value.int .i64 0, Value.int .i64 0]).cells = #[Value.int .i64 0, Value.int .i64 0, Value.int .i64 0] := rfl
    simp only [madeCells, hz, Array.getElem_map, Array.getElem_range, List.getElem_toArray, List.getElem_replicate]
    have : j % 3 < 3 := Nat.mod_lt _ (by decide)
    show #[Value.int IntKind.i64 0, Value.int IntKind.i64 0, Value.int IntKind.i64 0][j % 3]! = _
    match j % 3, this with
    | 0, _ => rfl
    | 1, _ => rfl
    | 2, _ => rfl
/-- The list while it is made. -/
def mkl (N k : Nat) : List N3 := (List.range N).map fun (i : Nat) => if i < k then ((i : Int), 0, 1) else (0, 0, 0)
theorem mkl_len (N k : Nat) : (mkl N k).length = N := by simp [mkl]
theorem mkl_zero (N : Nat) : mkl N 0 = List.replicate N (0, 0, 0) := by
  apply List.ext_getElem
  · simp [mkl]
  · intro i h1 h2; simp [mkl]
theorem mkl_full (N : Nat) : mkl N N = frs N := by
  apply List.ext_getElem
  · simp [mkl, frs]
  · intro i h1 h2
    rw [mkl_len] at h1
    simp [mkl, frs, h1]
theorem mkl_set (N k : Nat) : (mkl N k).set k ((k : Int), 0, 1) = mkl N (k + 1) := by
  apply List.ext_getElem
  · simp [mkl]
  · intro i h1 h2
    rw [List.length_set, mkl_len] at h1
    rw [List.getElem_set]
    by_cases e : k = i
    · subst e
      simp [mkl]
    · rw [if_neg e]
      have : i < k + 1 ↔ i < k := by omega
      simp [mkl, this]
theorem fl_set1 : ∀ (l : List N3) (i : Nat) (o t k t' : Int), l[i]? = some (o, t, k) → (fl l).set (i * 3 + 1) (.int .i64 t') = fl (l.set i (o, t', k))
  | [], i, o, t, k, t', h => by simp at h
  | y :: l, 0, o, t, k, t', h => by
    obtain rfl := Option.some.inj (show some y = some (o, t, k) from h)
    rfl
  | y :: l, i + 1, o, t, k, t', h => by
    have ih := fl_set1 l i o t k t' h
    rw [show (y :: l).set (i + 1) (o, t', k) = y :: l.set i (o, t', k) from rfl, fl_cons, fl_cons, ← ih, show (i + 1) * 3 + 1 = i * 3 + 1 + 1 + 1 + 1 by omega]
    rfl
theorem Bk.put1 {W : World} {p g : Nat} {l : List N3} (h : Bk W p g l) {i : Nat} {o t k : Int} (hi : l[i]? = some (o, t, k)) (t' : Int) : Bk (W.setCell ⟨g, i * 3 + 1, none⟩ (.int .i64 t')) p g (l.set i (o, t', k)) := by
  refine ⟨?_, ?_⟩
  · rw [Below.heap_setCell _ _ _ _ h.ne]
    simpa using h.obj
  · have h0 := heap_setCell_same _ _ (i * 3 + 1) _ _ (.int .i64 t') h.row
    rw [h0, ← fl_set1 l i o t k t' hi]
    simp
/-- What New answers. -/
def NewV (n self tag : Int) (w : World) (e : Ending) (w' : World) : Prop :=
  Below w.heap.size w w' ∧
  if n < 1 ∨ 100 < n then e = .returned (.tuple #[.pointer none, .int .i64 1])
  else if self < 0 ∨ n ≤ self then e = .returned (.tuple #[.pointer none, .int .i64 30])
  else if tag < 0 ∨ 1048576 < tag then e = .returned (.tuple #[.pointer none, .int .i64 50])
  else ∃ p g, e = .returned (.tuple #[.pointer (some ⟨p, 0, none⟩), .int .i64 0]) ∧ w.heap.size ≤ p ∧ w.heap.size ≤ g ∧ Bk w' p g (bk0 n.toNat self.toNat tag)
set_option maxHeartbeats 4000000 in
set_option maxRecDepth 100000 in
theorem new_any (n self tag : Int) (w : World) : Calls Tryz.prog 26 #[.int .i64 n, .int .i64 self, .int .i64 tag] w fun e w' => NewV n self tag w e w' := by
  have hmx : Tryz.prog.follows .mixedOrders = true := by kernel_rfl
  by_cases h1 : n < 1 ∨ 100 < n
  · have HV : Hid (∀ w', Below w.heap.size w w' → NewV n self tag w (.returned (.tuple #[.pointer none, .int .i64 1])) w') := fun w' hb => ⟨hb, by rw [if_pos h1]⟩
    rcases h1 with h1 | h1
    all_goals
      go_enter Tryz.func26, Tryz.ntmps26
      go_wp2
      go_ret2
      exact HV.out _ (Below.refl _ _)
  by_cases h2 : self < 0 ∨ n ≤ self
  · have HV : Hid (∀ w', Below w.heap.size w w' → NewV n self tag w (.returned (.tuple #[.pointer none, .int .i64 30])) w') := fun w' hb => ⟨hb, by rw [if_neg h1, if_pos h2]⟩
    have h10 : ¬ n < 1 := by omega
    have h11 : ¬ 100 < n := by omega
    clear h1
    rcases h2 with h2 | h2
    all_goals
      go_enter Tryz.func26, Tryz.ntmps26
      go_wp2
      go_ret2
      exact HV.out _ (Below.refl _ _)
  by_cases h3 : tag < 0 ∨ 1048576 < tag
  · have HV : Hid (∀ w', Below w.heap.size w w' → NewV n self tag w (.returned (.tuple #[.pointer none, .int .i64 50])) w') := fun w' hb => ⟨hb, by rw [if_neg h1, if_neg h2, if_pos h3]⟩
    have h10 : ¬ n < 1 := by omega
    have h11 : ¬ 100 < n := by omega
    have h12 : ¬ self < 0 := by omega
    have h13 : ¬ n ≤ self := by omega
    clear h1 h2
    rcases h3 with h3 | h3
    all_goals
      go_enter Tryz.func26, Tryz.ntmps26
      go_wp2
      go_ret2
      exact HV.out _ (Below.refl _ _)
  obtain ⟨N, rfl⟩ : ∃ N : Nat, n = (N : Int) := ⟨n.toNat, by omega⟩
  obtain ⟨s, rfl⟩ : ∃ s : Nat, self = (s : Int) := ⟨self.toNat, by omega⟩
  have HV : Hid (∀ w' p g, Below w.heap.size w w' → w.heap.size ≤ p → w.heap.size ≤ g → Bk w' p g (bk0 N s tag) → NewV (N : Int) (s : Int) tag w (.returned (.tuple #[.pointer (some ⟨p, 0, none⟩), .int .i64 0])) w') := fun w' p g hb hp hg hk => ⟨hb, by rw [if_neg h1, if_neg h2, if_neg h3]; exact ⟨p, g, rfl, hp, hg, by simpa using hk⟩⟩
  have h10 : ¬ (N : Int) < 1 := by omega
  have h11 : ¬ 100 < (N : Int) := by omega
  have h12 : ¬ (s : Int) < 0 := by omega
  have h13 : ¬ (N : Int) ≤ (s : Int) := by omega
  have h14 : ¬ tag < 0 := by omega
  have h15 : ¬ 1048576 < tag := by omega
  have hsN : s < N := by omega
  have hsi : (s : Int) < (N : Int) := by omega
  have hN : N ≤ 100 := by omega
  clear h1 h2 h3
  obtain ⟨ic, hic, hz0, hz1, hz2⟩ := info_partsN
  have hmk : ∀ W : World, (Instr.makeSlice 46 (.int .i64 (N : Int)) (.int .i64 (N : Int))).run Tryz.prog W = .ok (.slice (some ⟨W.heap.size, 0, none⟩) N N) (W.alloc (.cells (fl (mkl N 0)).toArray 185)) := by
    intro W
    have := run_make (P := Tryz.prog) W 46 185 ic _ Tryz.underlying46 hic hz0 .i64 .i64 (N : Int) (N : Int) (by omega) (Int.le_refl _) (by rw [hz2]; omega) (by omega)
    rw [Int.toNat_natCast, hz1, made3, ← mkl_zero] at this
    exact this
  have hfr := fun (k : Nat) (W : World) => fresh_any (k : Int) W
  unfold nt at hfr
  generalize hM0 : (fl (mkl N 0)).toArray = M0 at hmk
  go_enter Tryz.func26, Tryz.ntmps26
  go_wp2
  go_loopw [37] (fun i wz => ∃ (k : Nat), i = .int .i64 k ∧ k ≤ N ∧ Bk wz (w.heap.size + 1) w.heap.size (mkl N k) ∧ Below w.heap.size w wz) (fun i _ => N - vnatR i)
  case atStart =>
    refine ⟨0, rfl, Nat.zero_le _, ⟨?_, ?_⟩, al2 _ _ _⟩
    · rw [mkl_len]; exact new_at (by simp)
    · rw [hM0]; exact old_at (new_at rfl)
  case round =>
    obtain ⟨k, rfl, hk, hbk, hbw⟩ := hrel
    by_cases hkl : k < N
    · have hki : (k : Int) < (N : Int) := by omega
      have hkm : k < (mkl N k).length := by rw [mkl_len]; exact hkl
      go_wp2
      rename_i Q0 K0 hK
      refine wp_region_any hmx ?_
      refine wpAny_last 8 (fun i__ => ([(.pointer (some ⟨w.heap.size + 1, 0, none⟩)), (.pointer (some ⟨w.heap.size + 1, 0, none⟩)), (.pointer (some ⟨w.heap.size + 1, 0, none⟩)), (.slice (some ⟨w.heap.size, 0, none⟩) (mkl N k).length (mkl N k).length), (.int .i64 (k : Int)), (.int .i64 (k : Int)), (nt (k : Int) 0 1), (.pointer (some ⟨w.heap.size, 0 + k * 3, none⟩)), undef] : List Value).getD i__ undef) (fun V => Bk V (w.heap.size + 1) w.heap.size (mkl N k) ∧ Below w.heap.size w V) (fun V => Bk V (w.heap.size + 1) w.heap.size (mkl N (k + 1)) ∧ Below w.heap.size w V) rfl (by kernel_rfl) (by kernel_rfl) ⟨hbk.carry (Below.refl _ _).drew, hbw.drew⟩ ?_ ?_  ?_
      · refine (stepsFrom_cons ?_ (stepsFrom_cons ?_ (stepsFrom_cons ?_ (stepsFrom_cons ?_ (stepsFrom_cons ?_ (stepsFrom_cons ?_ (stepsFrom_cons ?_ (stepsFrom_cons ?_ trivial))))))))
        · exact step_move rfl trivial _ rfl (by kernel_rfl)
        · exact step_nilCheck rfl trivial _ _ _ rfl rfl rfl
        · exact step_fieldAddr rfl trivial _ _ _ _ rfl rfl (fun w hw => field_b0 w _)
        · exact step_load rfl trivial _ _ _ rfl rfl (fun w hw => load_b0 hw.1)
        · exact step_move rfl trivial _ rfl (by kernel_rfl)
        · exact step_move rfl trivial _ rfl (by kernel_rfl)
        · exact step_call rfl trivial 117 _ _ [(.int .i64 (k : Int))] rfl (by kernel_rfl) (enters_of Tryz.func117 (by kernel_rfl) rfl) (fun w hw => (fresh_any (k : Int) w).mono (by rintro e w' ⟨rfl, hb⟩; exact ⟨rfl, hw.1.carry hb, bel2 hw.2 hb⟩))
        · exact step_indexAddr rfl trivial _ _ _ _ _ rfl rfl rfl (fun w hw => idx_n _ 0 _ _ k hkm w)
      · intro o ho
        cases ho
        exact step_store rfl trivial rfl _ _ _ _ _ rfl rfl rfl (fun w hw => ⟨_, store_b hw.1 k hkm _ _ _, by rw [← mkl_set]; exact hw.1.put k _ _ _, ((hw.2.setCell (Nat.le_refl _) _).setCell (Nat.le_refl _) _).setCell (Nat.le_refl _) _⟩)
      intro W hW
      first | refine hK _ _ ?_ | refine (‹∀ (a : Act) (w : World), Code.wp Tryz.prog _ _ a w → _›) _ _ ?_ | skip
      simp only [finL, List.getD_cons_zero, List.getD_cons_succ, Nat.zero_add, Nat.reduceAdd, List.setIfInBounds_toArray, List.set_cons_zero, List.set_cons_succ]
      clear hK
      go_wp2
      go_roundw
      case rel => exact ⟨k + 1, by simp, by omega, hW.1, hW.2⟩
      case measure => simp [vnatR]; omega
    · have hkk : k = N := by omega
      subst hkk
      rw [mkl_full] at hbk
      have hx : (frs k)[s]? = some ((s : Int), 0, 1) := frs_get hsN
      have d := hbk.cell
      obtain ⟨e0, e1, e2⟩ := hbk.nts s _ hx
      rw [Nat.zero_add] at e0 e1 e2
      have z1 := hbk.thaw (s * 3 + 1)
      rw [frs_len] at d
      go_wp2
      go_ret2
      exact HV.out _ _ _ (hbw.setCell (Nat.le_refl _) _) (Nat.le_succ _) (Nat.le_refl _) (hbk.put1 hx tag)
theorem NewV.ok {n self tag : Int} {w w' : World} {e : Ending} (h : NewV n self tag w e w') (h1 : ¬ (n < 1 ∨ 100 < n)) (h2 : ¬ (self < 0 ∨ n ≤ self)) (h3 : ¬ (tag < 0 ∨ 1048576 < tag)) : ∃ p g, e = .returned (.tuple #[.pointer (some ⟨p, 0, none⟩), .int .i64 0]) ∧ w.heap.size ≤ p ∧ w.heap.size ≤ g ∧ Bk w' p g (bk0 n.toNat self.toNat tag) := by
  have := h.2
  rw [if_neg h1, if_neg h2, if_neg h3] at this
  exact this
end Go.Proofs.YtklnfbanfgdgcaaGreatDoor
