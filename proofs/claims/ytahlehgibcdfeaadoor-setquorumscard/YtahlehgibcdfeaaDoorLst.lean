/- idset.Least, Nth: what they answer, at every input. -/
import Derived.Test.YtahlehgibcdfeaaDoorItx
namespace Go.Proofs.YtahlehgibcdfeaaDoor
open Go.RowKit Go.Shelf Go.Lib
attribute [local go_sem] Oper.semAt_some

def leastZ (M : Nat) : Int := headZ (idsTo M 128)
set_option maxHeartbeats 1000000 in
set_option maxRecDepth 100000 in
theorem least_in (N : Nat) (w : World) (hT : Tab w) :
    CallsIn Fence.wide 0 Tryd.prog 10 #[sv N] w fun e w' => e = .returned (.int .i64 (leastZ (cln N))) ∧ Below w.heap.size w w' := by
  have hc := all_any N
  generalize cln N = M at *
  have hT0 := hT.lt
  simp only [sv] at hc ⊢
  refine callsIn_of_wp_marks Tryd.func10 rfl trivial ?_ rfl
  simp only [Tryd.ntmps10, List.size_toArray, List.length_cons, List.length_nil, Nat.reduceAdd, Nat.reduceSub, Array.replicate_succ, Array.replicate_zero, List.push_toArray, List.append_toArray, List.nil_append, List.cons_append]
  gi_wp2_with (with_reducible (refine And.intro (wfn _) (And.intro wdep ?_)); gi_at_call 7; refine (callsIn_wide.2 (hc _)).mono ?_; rintro e W0 ⟨rfl, hb, hh⟩)
  have z0 : w.heap.size + 3 ≤ W0.heap.size := by have := hh.lt; simp at this; omega
  have b0 : Below w.heap.size w W0 := (((Below.refl _ w).alloc (by simp) _).alloc (by simp) _).trans (hb.mono (by simp; omega))
  have r0 : W0.heap[w.heap.size + 1]? = some (.cells #[.int .i64 0] 3) := (hb.block _ (by simp)).trans (get_new (by simp))
  clear hb hc
  refine wp_rangeE (kb := 0) (gf := 18) (lb := #[.pointer (some ⟨w.heap.size + 1 + 1, 0, none⟩)]) rfl (enters_of Tryd.func18 (by kernel_rfl) rfl)
    (all1_seq M (w.heap.size + 1 + 1) _ (by simpa using hh)) (by omega) (fun _ => rfl)
    (fun pre W => W.heap[w.heap.size + 1]? = some (.cells #[.int .i64 0] 3) ∧ (Below w.heap.size w W ∧ pre = []))
    (fun c pre W => W.heap[w.heap.size + 1]? = some (.cells #[.int .i64 (pre.getLastD 0 : Nat)] 3) ∧ (Below w.heap.size w W ∧ (c = .ret ∧ pre = [pre.getLastD 0])))
    (((blk_own _ (fun _ => _) (fun _ => rfl)).from _).and (OwnFrom.and (ownFrom_below (Nat.le_refl _) (by omega)) (ownFrom_pure _ (fun pre : List Nat => pre = []))))
    (fun c => ((blk_own _ (fun pre : List Nat => .cells #[.int .i64 (pre.getLastD 0 : Nat)] 3) (fun _ => rfl)).from _).and (OwnFrom.and (ownFrom_below (Nat.le_refl _) (by omega)) (ownFrom_pure _ (fun pre : List Nat => c = .ret ∧ pre = [pre.getLastD 0]))))
    ⟨r0, b0, rfl⟩ (fun _ W h => hT.keep h.2.1 hT0)
    (fun x a' _ => a' = { tmps := #[sv N, .pointer (some ⟨w.heap.size, 0, none⟩), .pointer (some ⟨w.heap.size + 1, 0, none⟩), .int .i64 (x : Nat), sv N, .func (.func 18) #[] #[.pointer (some ⟨w.heap.size + 1 + 1, 0, none⟩)], .int .i64 (x : Nat), undef], defers := [] })
    (fun _ _ _ _ _ _ hs _ _ => hs) ?assign ?body ?done ?stop
  case assign =>
    rintro l pre x W K hi hsz hK
    gi_wp2
    exact hK _ _ (Kept.refl _ _ _ _) hi rfl
  case body =>
    rintro l pre x a' W ⟨hr, hb, rfl⟩ rfl hsz hpr
    have cr : W.cell? ⟨w.heap.size + 1, 0, none⟩ = some (.int .i64 0) := cell_of hr 0
    have fr := frozen_of hr 0
    gi_wp2
    exact ⟨Kept.setCell (by omega) (by omega), set_get 0 _ hr, hb.setCell (p := ⟨w.heap.size + 1, 0, none⟩) (by simp) _, rfl, rfl⟩
  case done =>
    rintro W ⟨hr, hb, he⟩ hK
    have cr : W.cell? ⟨w.heap.size + 1, 0, none⟩ = some (.int .i64 0) := cell_of hr 0
    have fr := frozen_of hr 0
    gi_wp2
    have hK5 := (set_other (j := 0) (v := .int .i64 (-1)) (show W0.heap.size ≠ w.heap.size + 1 by omega)).trans hK
    refine ⟨by simp, .inl ⟨_, _, rfl, run_takeDeferred hK5, ?_⟩⟩
    have h1 := (World.putObj_heap_other (o := .deferred none) (show w.heap.size + 1 ≠ W0.heap.size by omega)).trans (set_get 0 (.int .i64 (-1)) hr)
    have c1 := cell_of h1 0
    refine ⟨.int .i64 (-1), by simp [results, Tryd.results10, go_sem, c1], ?_, below_taken _ (hb.setCell (p := ⟨w.heap.size + 1, 0, none⟩) (by simp) _) (by omega)⟩
    rw [leastZ, he]
    rfl
  case stop =>
    rintro c pre W hpr ⟨hr, hb, rfl, hp⟩ hK
    gi_wp2
    refine ⟨by simp, .inl ⟨_, _, rfl, run_takeDeferred hK, ?_⟩⟩
    have h1 := (World.putObj_heap_other (o := .deferred none) (show w.heap.size + 1 ≠ W0.heap.size by omega)).trans hr
    have c1 := cell_of h1 0
    refine ⟨.int .i64 (pre.getLastD 0 : Nat), by simp [results, Tryd.results10, go_sem, c1], ?_, below_taken _ hb (by omega)⟩
    obtain ⟨r, hr2⟩ := hpr
    rw [hp] at hr2
    rw [leastZ, ← hr2]
    rfl
theorem least_any (N : Nat) (w : World) (hT : Tab w) : Calls Tryd.prog 10 #[sv N] w fun e w' => e = .returned (.int .i64 (leastZ (cln N))) ∧ Below w.heap.size w w' := callsIn_wide.1 (least_in N w hT)

/-- Which id Nth tells. -/
def nthO (M : Nat) (k : Int) : Option Nat := if k < 0 then none else (idsTo M 128)[k.toNat]?
def nthV (M : Nat) (k : Int) : Value := match nthO M k with
  | some x => .tuple #[.int .i64 (x : Nat), .int .i64 0]
  | none => .tuple #[.int .i64 0, .int .i64 3]
theorem nthO_hit {M : Nat} {pre : List Nat} {x : Nat} (hpr : pre ++ [x] <+: idsTo M 128) : nthO M (pre.length : Int) = some x := by
  obtain ⟨r, hr⟩ := hpr
  unfold nthO
  rw [if_neg (by omega), Int.toNat_natCast, ← hr]
  simp
theorem nthO_miss {M : Nat} {k : Int} (h : ¬ (0 ≤ k ∧ k < ((idsTo M 128).length : Int))) : nthO M k = none := by
  unfold nthO
  by_cases h0 : k < 0
  · rw [if_pos h0]
  · rw [if_neg h0, List.getElem?_eq_none]
    omega
theorem down_wrap (k n : Int) : IntKind.i64.wrap (IntKind.i64.wrap (k - n) - 1) = IntKind.i64.wrap (k - (n + 1)) := by
  simp only [IntKind.wrap_i64]; omega
set_option maxHeartbeats 1000000 in
set_option maxRecDepth 100000 in
theorem nth_in (N : Nat) (k : Int) (hk : -9223372036854775808 ≤ k ∧ k ≤ 9223372036854775807) (w : World) (hT : Tab w) :
    CallsIn Fence.wide 0 Tryd.prog 9 #[sv N, .int .i64 k] w fun e w' => e = .returned (nthV (cln N) k) ∧ Below w.heap.size w w' := by
  have hc := all_any N
  generalize cln N = M at *
  have hlen : (idsTo M 128).length ≤ 128 := by rw [idsTo_length]; exact popAux_le 128 M
  have hT0 := hT.lt
  simp only [sv] at hc ⊢
  refine callsIn_of_wp_marks Tryd.func9 rfl trivial ?_ rfl
  simp only [Tryd.ntmps9, List.size_toArray, List.length_cons, List.length_nil, Nat.reduceAdd, Nat.reduceSub, Array.replicate_succ, Array.replicate_zero, List.push_toArray, List.append_toArray, List.nil_append, List.cons_append]
  gi_wp2_with (with_reducible (refine And.intro (wfn _) (And.intro wdep ?_)); gi_at_call 7; refine (callsIn_wide.2 (hc _)).mono ?_; rintro e W0 ⟨rfl, hb, hh⟩)
  have z0 : w.heap.size + 5 ≤ W0.heap.size := by have := hh.lt; simp at this; omega
  have b0 : Below w.heap.size w W0 := (((((Below.refl _ w).alloc (by simp) _).alloc (by simp) _).alloc (by simp; omega) _).alloc (by simp; omega) _).trans (hb.mono (by simp; omega))
  have k0 : W0.heap[w.heap.size + 1]? = some (.cells #[.int .i64 k] 3) := (hb.block _ (by simp)).trans (get_old (get_old (get_new (by simp))))
  have r0 : W0.heap[w.heap.size + 1 + 1]? = some (.cells #[.int .i64 0] 3) := (hb.block _ (by simp)).trans (get_old (get_new (by simp)))
  have e0 : W0.heap[w.heap.size + 1 + 1 + 1]? = some (.cells #[.int .i64 0] 32) := (hb.block _ (by simp)).trans (get_new (by simp))
  clear hb hc
  refine wp_rangeE (kb := 0) (gf := 18) (lb := #[.pointer (some ⟨w.heap.size + 1 + 1 + 1 + 1, 0, none⟩)]) rfl (enters_of Tryd.func18 (by kernel_rfl) rfl)
    (all1_seq M (w.heap.size + 1 + 1 + 1 + 1) _ (by simpa using hh)) (by omega) (fun _ => rfl)
    (fun pre W => (W.heap[w.heap.size + 1]? = some (.cells #[.int .i64 (IntKind.i64.wrap (k - (pre.length : Int)))] 3) ∧ W.heap[w.heap.size + 1 + 1]? = some (.cells #[.int .i64 0] 3) ∧ W.heap[w.heap.size + 1 + 1 + 1]? = some (.cells #[.int .i64 0] 32)) ∧ (Below w.heap.size w W ∧ ¬ (0 ≤ k ∧ k < (pre.length : Int))))
    (fun c pre W => (W.heap[w.heap.size + 1 + 1]? = some (.cells #[.int .i64 (pre.getLastD 0 : Nat)] 3) ∧ W.heap[w.heap.size + 1 + 1 + 1]? = some (.cells #[.int .i64 0] 32)) ∧ (Below w.heap.size w W ∧ (c = .ret ∧ nthO M k = some (pre.getLastD 0))))
    (OwnFrom.and (((blk_own _ (fun pre : List Nat => .cells #[.int .i64 (IntKind.i64.wrap (k - (pre.length : Int)))] 3) (fun _ => rfl)).from _).and (((blk_own _ (fun _ => _) (fun _ => rfl)).from _).and ((blk_own _ (fun _ => _) (fun _ => rfl)).from _))) (OwnFrom.and (ownFrom_below (Nat.le_refl _) (by omega)) (ownFrom_pure _ (fun pre : List Nat => ¬ (0 ≤ k ∧ k < (pre.length : Int))))))
    (fun c => OwnFrom.and (((blk_own _ (fun pre : List Nat => .cells #[.int .i64 (pre.getLastD 0 : Nat)] 3) (fun _ => rfl)).from _).and ((blk_own _ (fun _ => _) (fun _ => rfl)).from _)) (OwnFrom.and (ownFrom_below (Nat.le_refl _) (by omega)) (ownFrom_pure _ (fun pre : List Nat => c = .ret ∧ nthO M k = some (pre.getLastD 0)))))
    ⟨⟨by have e : IntKind.i64.wrap (k - (([] : List Nat).length : Int)) = k := (by rw [IntKind.wrap_i64, List.length_nil]; omega)
         rw [e]; exact k0, r0, e0⟩, b0, by simp⟩ (fun _ W h => hT.keep h.2.1 hT0)
    (fun x a' _ => a' = { tmps := #[sv N, .int .i64 k, .pointer (some ⟨w.heap.size, 0, none⟩), .pointer (some ⟨w.heap.size + 1, 0, none⟩), .pointer (some ⟨w.heap.size + 1 + 1, 0, none⟩), .pointer (some ⟨w.heap.size + 1 + 1 + 1, 0, none⟩), .int .i64 (x : Nat), sv N, .func (.func 18) #[] #[.pointer (some ⟨w.heap.size + 1 + 1 + 1 + 1, 0, none⟩)], .int .i64 (x : Nat), undef, undef, undef, undef, undef], defers := [] })
    (fun _ _ _ _ _ _ hs _ _ => hs) ?assign ?body ?done ?stop
  case assign =>
    rintro l pre x W K hi hsz hK
    gi_wp2
    exact hK _ _ (Kept.refl _ _ _ _) hi rfl
  case body =>
    rintro l pre x a' W ⟨⟨hki, hr, he⟩, hb, hn⟩ rfl hsz hpr
    have ck : W.cell? ⟨w.heap.size + 1, 0, none⟩ = some (.int .i64 (IntKind.i64.wrap (k - (pre.length : Int)))) := cell_of hki 0
    have fk := frozen_of hki 0
    have cr : W.cell? ⟨w.heap.size + 1 + 1, 0, none⟩ = some (.int .i64 0) := cell_of hr 0
    have fr := frozen_of hr 0
    have ce : W.cell? ⟨w.heap.size + 1 + 1 + 1, 0, none⟩ = some (.int .i64 0) := cell_of he 0
    have fe := frozen_of he 0
    have hpl : (pre ++ [x]).length ≤ (idsTo M 128).length := hpr.length_le
    simp only [List.length_append, List.length_cons, List.length_nil] at hpl
    by_cases heq : (pre.length : Int) = k
    · have hz : IntKind.i64.wrap (k - (pre.length : Int)) = 0 := by rw [heq, Int.sub_self]; rfl
      rw [hz] at ck hki
      have hO := nthO_hit hpr
      rw [heq] at hO
      clear hpl heq hz
      gi_wp2
      exact ⟨(Kept.setCell (by omega) (by omega)).trans (Kept.setCell (by omega) (by omega)), ⟨by rw [List.getLastD_concat]; exact (set_other (by omega)).trans (set_get 0 _ hr), set_get 0 _ ((set_other (by omega)).trans he)⟩, (hb.setCell (p := ⟨w.heap.size + 1 + 1, 0, none⟩) (by simp; omega) _).setCell (p := ⟨w.heap.size + 1 + 1 + 1, 0, none⟩) (by simp; omega) _, rfl, by rw [List.getLastD_concat]; exact hO⟩
    · have hz : (IntKind.i64.wrap (k - (pre.length : Int)) == 0) = false := by
        rw [beq_eq_false_iff_ne, IntKind.wrap_i64]; omega
      have hdn := down_wrap k (pre.length : Int)
      have hn2 : ¬ (0 ≤ k ∧ k < ((pre ++ [x]).length : Int)) := by simp only [List.length_append, List.length_cons, List.length_nil]; omega
      have hl2 : ((pre ++ [x]).length : Int) = (pre.length : Int) + 1 := by simp
      clear hpl heq
      obtain ⟨z2, hz2⟩ : ∃ z2, IntKind.i64.wrap (k - ((pre ++ [x]).length : Int)) = z2 := ⟨_, rfl⟩
      rw [← hl2, hz2] at hdn
      generalize IntKind.i64.wrap (k - (pre.length : Int)) = z at *
      have Hz2 : Hid (IntKind.i64.wrap (k - ((pre ++ [x]).length : Int)) = z2) := hz2
      have Hn2 : Hid (¬ (0 ≤ k ∧ k < ((pre ++ [x]).length : Int))) := hn2
      clear hz2 hn2 hl2
      gi_wp2
      exact ⟨Kept.setCell (by omega) (by omega), ⟨by rw [Hz2.out]; exact set_get 0 _ hki, (set_other (by omega)).trans hr, (set_other (by omega)).trans he⟩, hb.setCell (p := ⟨w.heap.size + 1, 0, none⟩) (by simp) _, Hn2.out⟩
  case done =>
    rintro W ⟨⟨hki, hr, he⟩, hb, hn⟩ hK
    have cr : W.cell? ⟨w.heap.size + 1 + 1, 0, none⟩ = some (.int .i64 0) := cell_of hr 0
    have fr := frozen_of hr 0
    have ce : W.cell? ⟨w.heap.size + 1 + 1 + 1, 0, none⟩ = some (.int .i64 0) := cell_of he 0
    have fe := frozen_of he 0
    gi_wp2
    have hK5 := (set_other (j := 0) (v := .int .i64 3) (show W0.heap.size ≠ w.heap.size + 1 + 1 + 1 by omega)).trans ((set_other (j := 0) (v := .int .i64 0) (show W0.heap.size ≠ w.heap.size + 1 + 1 by omega)).trans hK)
    refine ⟨by simp, .inl ⟨_, _, rfl, run_takeDeferred hK5, ?_⟩⟩
    have h1 := (World.putObj_heap_other (o := .deferred none) (show w.heap.size + 1 + 1 ≠ W0.heap.size by omega)).trans ((set_other (j := 0) (v := .int .i64 3) (show w.heap.size + 1 + 1 ≠ w.heap.size + 1 + 1 + 1 by omega)).trans (set_get 0 (.int .i64 0) hr))
    have h2 := (World.putObj_heap_other (o := .deferred none) (show w.heap.size + 1 + 1 + 1 ≠ W0.heap.size by omega)).trans (set_get 0 (.int .i64 3) ((set_other (j := 0) (v := .int .i64 0) (show w.heap.size + 1 + 1 + 1 ≠ w.heap.size + 1 + 1 by omega)).trans he))
    have c1 := cell_of h1 0
    have c2 := cell_of h2 0
    refine ⟨.tuple #[.int .i64 0, .int .i64 3], by simp [results, Tryd.results9, go_sem, c1, c2], ?_, below_taken _ ((hb.setCell (p := ⟨w.heap.size + 1 + 1, 0, none⟩) (by simp; omega) _).setCell (p := ⟨w.heap.size + 1 + 1 + 1, 0, none⟩) (by simp; omega) _) (by omega)⟩
    rw [nthV, nthO_miss hn]
  case stop =>
    rintro c pre W hpr ⟨⟨hr, he⟩, hb, rfl, hO⟩ hK
    gi_wp2
    refine ⟨by simp, .inl ⟨_, _, rfl, run_takeDeferred hK, ?_⟩⟩
    have h1 := (World.putObj_heap_other (o := .deferred none) (show w.heap.size + 1 + 1 ≠ W0.heap.size by omega)).trans hr
    have h2 := (World.putObj_heap_other (o := .deferred none) (show w.heap.size + 1 + 1 + 1 ≠ W0.heap.size by omega)).trans he
    have c1 := cell_of h1 0
    have c2 := cell_of h2 0
    refine ⟨.tuple #[.int .i64 (pre.getLastD 0 : Nat), .int .i64 0], by simp [results, Tryd.results9, go_sem, c1, c2], ?_, below_taken _ hb (by omega)⟩
    rw [nthV, hO]
theorem nth_any (N : Nat) (k : Int) (hk : -9223372036854775808 ≤ k ∧ k ≤ 9223372036854775807) (w : World) (hT : Tab w) : Calls Tryd.prog 9 #[sv N, .int .i64 k] w fun e w' => e = .returned (nthV (cln N) k) ∧ Below w.heap.size w w' := callsIn_wide.1 (nth_in N k hk w hT)
end Go.Proofs.YtahlehgibcdfeaaDoor
