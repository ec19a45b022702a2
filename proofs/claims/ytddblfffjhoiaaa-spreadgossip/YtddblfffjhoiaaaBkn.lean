/- tagbook.New, alive: what they answer. -/
import Derived.Test.YtddblfffjhoiaaaBkd
namespace Go.Proofs.Ytddblfffjhoiaaa
open Go.RowKit Go.Shelf

theorem fl_zero : ∀ N : Nat, fl (List.replicate N (0, 0, 0)) = List.replicate (N * 3) (.int .i64 0)
  | 0 => rfl
  | N + 1 => by
    rw [List.replicate_succ, fl_cons, fl_zero N, show (N + 1) * 3 = N * 3 + 1 + 1 + 1 by omega, List.replicate_succ, List.replicate_succ, List.replicate_succ]
theorem made3 (N : Nat) : madeCells (Value.agg #[.int .i64 0, .int .i64 0, .int .i64 0]).cells (N * 3) = (fl (List.replicate N (0, 0, 0))).toArray := by
  rw [fl_zero]
  apply Array.ext
  · rw [size_madeCells]; simp
  · intro j h1 h2
    have hz : (Value.agg #[Value.int .i64 0, Value.int .i64 0, Value.int .i64 0]).cells = #[Value.int .i64 0, Value.int .i64 0, Value.int .i64 0] := rfl
    simp only [madeCells, hz, Array.getElem_map, Array.getElem_range, List.getElem_toArray, List.getElem_replicate]
    have : j % 3 < 3 := Nat.mod_lt _ (by decide)
    show #[Value.int IntKind.i64 0, Value.int IntKind.i64 0, Value.int IntKind.i64 0][j % 3]! = _
    match j % 3, this with
    | 0, _ => rfl
    | 1, _ => rfl
    | 2, _ => rfl
/-- The list while it is made. -/
def mkl (N k : Nat) : List N3 := (List.range N).map fun (i : Nat) => if i < k then ((i : Int), 0, 1) else (0, 0, 0)
theorem mkl_len (N k : Nat) : (mkl N k).length = N := by simp [mkl]
theorem mkl_zero (N : Nat) : mkl N 0 = List.replicate N (0, 0, 0) := by
  apply List.ext_getElem
  · simp [mkl]
  · intro i h1 h2; simp [mkl]
theorem mkl_full (N : Nat) : mkl N N = frs N := by
  apply List.ext_getElem
  · simp [mkl, frs]
  · intro i h1 h2
    rw [mkl_len] at h1
    simp [mkl, frs, h1]
theorem mkl_set (N k : Nat) : (mkl N k).set k ((k : Int), 0, 1) = mkl N (k + 1) := by
  apply List.ext_getElem
  · simp [mkl]
  · intro i h1 h2
    rw [List.length_set, mkl_len] at h1
    rw [List.getElem_set]
    by_cases e : k = i
    · subst e
      simp [mkl]
    · rw [if_neg e]
      have : i < k + 1 ↔ i < k := by omega
      simp [mkl, this]
theorem fl_set1 : ∀ (l : List N3) (i : Nat) (o t k t' : Int), l[i]? = some (o, t, k) → (fl l).set (i * 3 + 1) (.int .i64 t') = fl (l.set i (o, t', k))
  | [], i, o, t, k, t', h => by simp at h
  | y :: l, 0, o, t, k, t', h => by
    obtain rfl := Option.some.inj (show some y = some (o, t, k) from h)
    rfl
  | y :: l, i + 1, o, t, k, t', h => by
    have ih := fl_set1 l i o t k t' h
    rw [show (y :: l).set (i + 1) (o, t', k) = y :: l.set i (o, t', k) from rfl, fl_cons, fl_cons, ← ih, show (i + 1) * 3 + 1 = i * 3 + 1 + 1 + 1 + 1 by omega]
    rfl
theorem Bk.put1 {W : World} {p g : Nat} {l : List N3} (h : Bk W p g l) {i : Nat} {o t k : Int} (hi : l[i]? = some (o, t, k)) (t' : Int) : Bk (W.setCell ⟨g, i * 3 + 1, none⟩ (.int .i64 t')) p g (l.set i (o, t', k)) := by
  refine ⟨?_, ?_⟩
  · rw [Below.heap_setCell _ _ _ _ h.ne]
    simpa using h.obj
  · have h0 := heap_setCell_same _ _ (i * 3 + 1) _ _ (.int .i64 t') h.row
    rw [h0, ← fl_set1 l i o t k t' hi]
    simp
/-- What New answers. -/
def NewV (n self tag : Int) (w : World) (e : Ending) (w' : World) : Prop :=
  Below w.heap.size w w' ∧
  if n < 1 ∨ 100 < n then e = .returned (.tuple #[.pointer none, .int .i64 1])
  else if self < 0 ∨ n ≤ self then e = .returned (.tuple #[.pointer none, .int .i64 30])
  else if tag < 0 ∨ 1048576 < tag then e = .returned (.tuple #[.pointer none, .int .i64 50])
  else ∃ p g, e = .returned (.tuple #[.pointer (some ⟨p, 0, none⟩), .int .i64 0]) ∧ w.heap.size ≤ p ∧ w.heap.size ≤ g ∧ Bk w' p g (bk0 n.toNat self.toNat tag)
set_option maxHeartbeats 4000000 in
set_option maxRecDepth 100000 in
theorem new_any (n self tag : Int) (w : World) : Calls Try.prog 20 #[.int .i64 n, .int .i64 self, .int .i64 tag] w fun e w' => NewV n self tag w e w' := by
  have hmx : Try.prog.follows .mixedOrders = true := by kernel_rfl
  by_cases h1 : n < 1 ∨ 100 < n
  · have HV : Hid (∀ w', Below w.heap.size w w' → NewV n self tag w (.returned (.tuple #[.pointer none, .int .i64 1])) w') := fun w' hb => ⟨hb, by rw [if_pos h1]⟩
    rcases h1 with h1 | h1
    all_goals
      go_enter Try.func20, Try.ntmps20
      go_wp2
      go_ret2
      exact HV.out _ (Below.refl _ _)
  by_cases h2 : self < 0 ∨ n ≤ self
  · have HV : Hid (∀ w', Below w.heap.size w w' → NewV n self tag w (.returned (.tuple #[.pointer none, .int .i64 30])) w') := fun w' hb => ⟨hb, by rw [if_neg h1, if_pos h2]⟩
    have h10 : ¬ n < 1 := by omega
    have h11 : ¬ 100 < n := by omega
    clear h1
    rcases h2 with h2 | h2
    all_goals
      go_enter Try.func20, Try.ntmps20
      go_wp2
      go_ret2
      exact HV.out _ (Below.refl _ _)
  by_cases h3 : tag < 0 ∨ 1048576 < tag
  · have HV : Hid (∀ w', Below w.heap.size w w' → NewV n self tag w (.returned (.tuple #[.pointer none, .int .i64 50])) w') := fun w' hb => ⟨hb, by rw [if_neg h1, if_neg h2, if_pos h3]⟩
    have h10 : ¬ n < 1 := by omega
    have h11 : ¬ 100 < n := by omega
    have h12 : ¬ self < 0 := by omega
    have h13 : ¬ n ≤ self := by omega
    clear h1 h2
    rcases h3 with h3 | h3
    all_goals
      go_enter Try.func20, Try.ntmps20
      go_wp2
      go_ret2
      exact HV.out _ (Below.refl _ _)
  obtain ⟨N, rfl⟩ : ∃ N : Nat, n = (N : Int) := ⟨n.toNat, by omega⟩
  obtain ⟨s, rfl⟩ : ∃ s : Nat, self = (s : Int) := ⟨self.toNat, by omega⟩
  have HV : Hid (∀ w' p g, Below w.heap.size w w' → w.heap.size ≤ p → w.heap.size ≤ g → Bk w' p g (bk0 N s tag) → NewV (N : Int) (s : Int) tag w (.returned (.tuple #[.pointer (some ⟨p, 0, none⟩), .int .i64 0])) w') := fun w' p g hb hp hg hk => ⟨hb, by rw [if_neg h1, if_neg h2, if_neg h3]; exact ⟨p, g, rfl, hp, hg, by simpa using hk⟩⟩
  have h10 : ¬ (N : Int) < 1 := by omega
  have h11 : ¬ 100 < (N : Int) := by omega
  have h12 : ¬ (s : Int) < 0 := by omega
  have h13 : ¬ (N : Int) ≤ (s : Int) := by omega
  have h14 : ¬ tag < 0 := by omega
  have h15 : ¬ 1048576 < tag := by omega
  have hsN : s < N := by omega
  have hsi : (s : Int) < (N : Int) := by omega
  have hN : N ≤ 100 := by omega
  clear h1 h2 h3
  obtain ⟨ic, hic, hz0, hz1, hz2⟩ := info_partsN
  have hmk : ∀ W : World, (Instr.makeSlice 22 (.int .i64 (N : Int)) (.int .i64 (N : Int))).run Try.prog W = .ok (.slice (some ⟨W.heap.size, 0, none⟩) N N) (W.alloc (.cells (fl (mkl N 0)).toArray 32)) := by
    intro W
    have := run_make (P := Try.prog) W 22 32 ic _ Try.underlying22 hic hz0 .i64 .i64 (N : Int) (N : Int) (by omega) (Int.le_refl _) (by rw [hz2]; omega) (by omega)
    rw [Int.toNat_natCast, hz1, made3, ← mkl_zero] at this
    exact this
  have hfr := fun (k : Nat) (W : World) => fresh_any (k : Int) W
  unfold nt at hfr
  generalize hM0 : (fl (mkl N 0)).toArray = M0 at hmk
  go_enter Try.func20, Try.ntmps20
  go_wp2
  go_loopw [37] (fun i wz => ∃ (k : Nat), i = .int .i64 k ∧ k ≤ N ∧ Bk wz (w.heap.size + 1) w.heap.size (mkl N k) ∧ Below w.heap.size w wz) (fun i _ => N - vnatR i)
  case atStart =>
    refine ⟨0, rfl, Nat.zero_le _, ⟨?_, ?_⟩, al2 _ _ _⟩
    · rw [mkl_len]; exact new_at (by simp)
    · rw [hM0]; exact old_at (new_at rfl)
  case round =>
    obtain ⟨k, rfl, hk, hbk, hbw⟩ := hrel
    by_cases hkl : k < N
    · have hki : (k : Int) < (N : Int) := by omega
      have hkm : k < (mkl N k).length := by rw [mkl_len]; exact hkl
      go_wp2
      rename_i Q0 K0 hK
      refine wp_region_any hmx ?_
      refine wpAny_last 8 (fun i__ => ([(.pointer (some ⟨w.heap.size + 1, 0, none⟩)), (.pointer (some ⟨w.heap.size + 1, 0, none⟩)), (.pointer (some ⟨w.heap.size + 1, 0, none⟩)), (.slice (some ⟨w.heap.size, 0, none⟩) (mkl N k).length (mkl N k).length), (.int .i64 (k : Int)), (.int .i64 (k : Int)), (nt (k : Int) 0 1), (.pointer (some ⟨w.heap.size, 0 + k * 3, none⟩)), undef] : List Value).getD i__ undef) (fun V => Bk V (w.heap.size + 1) w.heap.size (mkl N k) ∧ Below w.heap.size w V) (fun V => Bk V (w.heap.size + 1) w.heap.size (mkl N (k + 1)) ∧ Below w.heap.size w V) rfl (by kernel_rfl) (by kernel_rfl) ⟨hbk.carry (Below.refl _ _).drew, hbw.drew⟩ ?_ ?_  ?_
      · refine (stepsFrom_cons ?_ (stepsFrom_cons ?_ (stepsFrom_cons ?_ (stepsFrom_cons ?_ (stepsFrom_cons ?_ (stepsFrom_cons ?_ (stepsFrom_cons ?_ (stepsFrom_cons ?_ trivial))))))))
        · exact step_move rfl trivial _ rfl (by kernel_rfl)
        · exact step_nilCheck rfl trivial _ _ _ rfl rfl rfl
        · exact step_fieldAddr rfl trivial _ _ _ _ rfl rfl (fun w hw => field_b0 w _)
        · exact step_load rfl trivial _ _ _ rfl rfl (fun w hw => load_b0 hw.1)
        · exact step_move rfl trivial _ rfl (by kernel_rfl)
        · exact step_move rfl trivial _ rfl (by kernel_rfl)
        · exact step_call rfl trivial 42 _ _ [(.int .i64 (k : Int))] rfl (by kernel_rfl) (enters_of Try.func42 (by kernel_rfl) rfl) (fun w hw => (fresh_any (k : Int) w).mono (by rintro e w' ⟨rfl, hb⟩; exact ⟨rfl, hw.1.carry hb, bel2 hw.2 hb⟩))
        · exact step_indexAddr rfl trivial _ _ _ _ _ rfl rfl rfl (fun w hw => idx_n _ 0 _ _ k hkm w)
      · intro o ho
        cases ho
        exact step_store rfl trivial rfl _ _ _ _ _ rfl rfl rfl (fun w hw => ⟨_, store_b hw.1 k hkm _ _ _, by rw [← mkl_set]; exact hw.1.put k _ _ _, ((hw.2.setCell (Nat.le_refl _) _).setCell (Nat.le_refl _) _).setCell (Nat.le_refl _) _⟩)
      intro W hW
      first | refine hK _ _ ?_ | refine (‹∀ (a : Act) (w : World), Code.wp Try.prog _ _ a w → _›) _ _ ?_
      simp only [finL, List.getD_cons_zero, List.getD_cons_succ, Nat.zero_add, Nat.reduceAdd, List.setIfInBounds_toArray, List.set_cons_zero, List.set_cons_succ]
      clear hK
      go_wp2
      go_roundw
      case rel => exact ⟨k + 1, by simp, by omega, hW.1, hW.2⟩
      case measure => simp [vnatR]; omega
    · have hkk : k = N := by omega
      subst hkk
      rw [mkl_full] at hbk
      have hx : (frs k)[s]? = some ((s : Int), 0, 1) := frs_get hsN
      have d := hbk.cell
      obtain ⟨e0, e1, e2⟩ := hbk.nts s _ hx
      rw [Nat.zero_add] at e0 e1 e2
      have z1 := hbk.thaw (s * 3 + 1)
      rw [frs_len] at d
      go_wp2
      go_ret2
      exact HV.out _ _ _ (hbw.setCell (Nat.le_refl _) _) (Nat.le_succ _) (Nat.le_refl _) (hbk.put1 hx tag)
theorem NewV.ok {n self tag : Int} {w w' : World} {e : Ending} (h : NewV n self tag w e w') (h1 : ¬ (n < 1 ∨ 100 < n)) (h2 : ¬ (self < 0 ∨ n ≤ self)) (h3 : ¬ (tag < 0 ∨ 1048576 < tag)) : ∃ p g, e = .returned (.tuple #[.pointer (some ⟨p, 0, none⟩), .int .i64 0]) ∧ w.heap.size ≤ p ∧ w.heap.size ≤ g ∧ Bk w' p g (bk0 n.toNat self.toNat tag) := by
  have := h.2
  rw [if_neg h1, if_neg h2, if_neg h3] at this
  exact this
end Go.Proofs.Ytddblfffjhoiaaa
