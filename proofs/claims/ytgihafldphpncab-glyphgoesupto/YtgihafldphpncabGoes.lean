/- GlyphGoes itself: the walk, at every text of at most 2^20 bytes and every int. -/
import Derived.Test.YtgihafldphpncabRefL
namespace Go.Proofs.Ytgihafldphpncab
open Go.RowKit Go.Shelf
attribute [local go_sem] Oper.semAt_some

/-- What GlyphGoes hands back. -/
theorem goes_end (W : World) (tmps : Array Value) (B : Nat) (a : Value) (h2 : tmps[4]? = some (.pointer (some ⟨B, 0, none⟩))) (h1 : W.heap[B]? = some (.cells #[a] 4)) (R : Ending → World → Prop) (h : R (.returned a) W) :
    LeavesInM Fence.wide 0 Try.prog Try.f7 tmps R [] .returning W := by
  have c0 : W.cell? ⟨B, 0, none⟩ = some a := cell_of h1 0
  refine ⟨a, ?_, h⟩
  simp [results, Try.results7, go_sem, c0, h2]

theorem ownsRow_own {β : Type} (n0 : Nat) (e : TypeId) (size n : Nat) (v : Value) (xs : List Value) : Own (fun (_ : β) W => W.ownsRow n0 e size v n xs) := by
  rintro s X Y row ho hg hr
  refine ho.kept hg ?_
  cases hv : v.ownBlock with
  | none => exact .inl rfl
  | some g =>
    refine .inr (fun e' => ?_)
    obtain ⟨o, h1, h2⟩ := hr g e'.symm
    obtain ⟨_, cur, h3⟩ := ownsRow_block ho g hv
    rw [h1] at h3
    cases h3
    cases h2
theorem ownsRow_below {w w' : World} {n0 : Nat} {e : TypeId} {size n : Nat} {v : Value} {xs : List Value} (h : w.ownsRow n0 e size v n xs) (hb : Below w.heap.size w w') : w'.ownsRow n0 e size v n xs :=
  h.kept (row := none) ⟨hb.os, hb.tape, hb.output, hb.size, fun k hk _ => hb.block k hk⟩ (by cases v.ownBlock <;> simp)
theorem get_below {w w' : World} {k : Nat} {o : Obj} (h : w.heap[k]? = some o) (hb : Below w.heap.size w w') : w'.heap[k]? = some o := (hb.block k (Array.getElem?_eq_some_iff.1 h).1).trans h

theorem fn_nil (b : Nat) (w : World) : (binOp .eql 45 (.func (.func 40) #[] #[.pointer (some ⟨b, 0, none⟩)]) .nilFunc).run Try.prog w = .ok (.bool false) w := by kernel_rfl

set_option maxHeartbeats 2000000 in
theorem goes_in (s : ByteArray) (hs : s.size ≤ 1048576) (st : Int) (w : World) :
    CallsIn Fence.wide 0 Try.prog 7 #[.string s, .int .i64 st] w fun e w' => e = .returned (.bool true) ∧ Below w.heap.size w w' := by
  have hlen := starts_length s
  have hfn := fn_nil
  refine callsIn_of_wp_marks Try.func7 rfl trivial ?_ rfl
  simp only [Try.ntmps7, List.size_toArray, List.length_cons, List.length_nil, Nat.reduceAdd, Nat.reduceSub, Array.replicate_succ, Array.replicate_zero, List.push_toArray, List.append_toArray, List.nil_append, List.cons_append]
  gi_wp2_with fail
  refine ⟨trivial, rfl, ?_⟩
  refine (callsIn_wide.2 (list_any s hs _)).mono ?_
  rintro e w1 ⟨v, rfl, hrow, hb1⟩
  obtain ⟨ad, cap, rfl, hform⟩ := ownsRow_form hrow
  gi_wp2_with fail
  refine ⟨trivial, rfl, ?_⟩
  refine (callsIn_wide.2 (all_any s _)).mono ?_
  rintro e w2 ⟨rfl, rfl⟩
  gi_wp2_with fail
  refine ⟨trivial, rfl, ?_⟩
  refine (callsIn_wide.2 (alive_any _)).mono ?_
  rintro e W0 ⟨rfl, hb2⟩
  gi_wp2
  have s1 : w.heap.size + 2 ≤ w1.heap.size := by have := hb1.size; simpa using this
  have s2 : w1.heap.size + 3 ≤ W0.heap.size := by have := hb2.size; simpa using this
  have a1 : w1.heap[w.heap.size]? = some (.cells #[.int .i64 st] 3) := get_below (get_old (get_new rfl)) hb1
  have a2 : w1.heap[w.heap.size + 1]? = some (.cells #[.bool false] 4) := get_below (get_new (by simp)) hb1
  have i0 : W0.heap[w.heap.size]? = some (.cells #[.int .i64 st] 3) := get_below (get_old (get_old (get_old a1))) hb2
  have r0 : W0.heap[w.heap.size + 1]? = some (.cells #[.bool false] 4) := get_below (get_old (get_old (get_old a2))) hb2
  have l0 : W0.heap[w1.heap.size]? = some (.cells #[.slice ad (starts s).length cap] 23) := get_below (get_old (get_old (get_new rfl))) hb2
  have n0 : W0.heap[w1.heap.size + 1]? = some (.cells #[.int .i64 0] 3) := get_below (get_old (get_new (by simp))) hb2
  have x0 : Boxed W0 (w1.heap.size + 1 + 1) 9 (.string s) := get_below (get_new (by simp)) hb2
  have rw0 : W0.ownsRow w.heap.size 32 4 (.slice ad (starts s).length cap) (starts s).length (flat s (starts s)) := ownsRow_base (ownsRow_below (((hrow.alloc _).alloc _).alloc _) hb2) (by simp; omega)
  have b0 : Below w.heap.size w W0 := ((((Below.refl _ w).alloc (Nat.le_refl _) _).alloc (by simp) _).trans (hb1.mono (by simp; omega))).trans (((((Below.refl _ w1).alloc (by omega) _).alloc (by simp; omega) _).alloc (by simp; omega) _).trans (hb2.mono (by simp; omega)))
  clear hform hrow hb1 hb2 a1 a2
  refine wp_range (kb := 0) (gf := 40) (lb := #[.pointer (some ⟨w1.heap.size + 1 + 1, 0, none⟩)]) rfl (enters_of Try.func40 (by kernel_rfl) rfl)
    (all1_seq s (w1.heap.size + 1 + 1) _ x0) (by omega) (fun _ => rfl)
    (fun pre W => (W.heap[w.heap.size]? = some (.cells #[.int .i64 st] 3) ∧ W.heap[w.heap.size + 1]? = some (.cells #[.bool false] 4) ∧ W.heap[w1.heap.size]? = some (.cells #[.slice ad (starts s).length cap] 23) ∧ W.heap[w1.heap.size + 1]? = some (.cells #[.int .i64 pre.length] 3)) ∧ (W.ownsRow w.heap.size 32 4 (.slice ad (starts s).length cap) (starts s).length (flat s (starts s)) ∧ Below w.heap.size w W))
    (fun c _ W => W.heap[w.heap.size + 1]? = some (.cells #[.bool true] 4) ∧ (Below w.heap.size w W ∧ c = .ret))
    (OwnFrom.and ((blk_own _ (fun _ => _) (fun _ => rfl)).from _ |>.and (((blk_own _ (fun _ => _) (fun _ => rfl)).from _).and (((blk_own _ (fun _ => _) (fun _ => rfl)).from _).and ((blk_own _ (fun pre : List Nat => .cells #[.int .i64 pre.length] 3) (fun _ => rfl)).from _)))) (OwnFrom.and ((ownsRow_own _ _ _ _ _ _).from _) (ownFrom_below (Nat.le_refl _) (by omega))))
    (fun c => OwnFrom.and ((blk_own _ (fun _ => _) (fun _ => rfl)).from _) (OwnFrom.and (ownFrom_below (Nat.le_refl _) (by omega)) (ownFrom_pure _ (fun _ => c = .ret))))
    ⟨⟨i0, r0, l0, n0⟩, rw0, b0⟩
    (fun x a' _ => a' = { tmps := #[.string s, .int .i64 st, undef, .pointer (some ⟨w.heap.size, 0, none⟩), .pointer (some ⟨w.heap.size + 1, 0, none⟩), .pointer (some ⟨w1.heap.size, 0, none⟩), .pointer (some ⟨w1.heap.size + 1, 0, none⟩), .func (.func 40) #[] #[.pointer (some ⟨w1.heap.size + 1 + 1, 0, none⟩)], .int .i64 x, .int .i32 (rn s x), .string s, .slice ad (starts s).length cap, .string s, .func (.func 40) #[] #[.pointer (some ⟨w1.heap.size + 1 + 1, 0, none⟩)], .func (.func 40) #[] #[.pointer (some ⟨w1.heap.size + 1 + 1, 0, none⟩)], .bool false, .bool false, .bool true, .bool false, .bool false, .func (.func 40) #[] #[.pointer (some ⟨w1.heap.size + 1 + 1, 0, none⟩)], .int .i64 x, .int .i32 (rn s x), undef, undef, undef, undef, undef, undef, undef, undef, undef, undef, undef, undef, undef, undef, undef, undef, undef, undef, undef, undef, undef, undef, undef, undef, undef, undef, undef, undef, undef, undef, undef, undef, undef, undef, undef], defers := [] })
    (fun _ _ _ _ _ _ hs _ _ => hs) ?assign ?body ?done ?stop
  case assign =>
    rintro l pre x W K hi hsz hK
    simp only [atV]
    gi_wp2
    exact hK _ _ (Kept.refl _ _ _ _) hi rfl
  case body =>
    rintro l pre x a' W ⟨⟨hi, hr, hl, hn⟩, hrow, hb⟩ rfl hsz hpr
    have ci : W.cell? ⟨w.heap.size, 0, none⟩ = some (.int .i64 st) := cell_of hi 0
    have cr : W.cell? ⟨w.heap.size + 1, 0, none⟩ = some (.bool false) := cell_of hr 0
    have fr := frozen_of hr 0
    have cl : W.cell? ⟨w1.heap.size, 0, none⟩ = some (.slice ad (starts s).length cap) := cell_of hl 0
    have cn : W.cell? ⟨w1.heap.size + 1, 0, none⟩ = some (.int .i64 pre.length) := cell_of hn 0
    have fn := frozen_of hn 0
    have hget : (starts s)[pre.length]? = some x := by obtain ⟨r, hr'⟩ := hpr; rw [← hr']; simp
    have hll : pre.length < (starts s).length := (List.getElem?_eq_some_iff.1 hget).1
    obtain ⟨ad', cap', hv, hform⟩ := ownsRow_form hrow
    cases hv
    obtain ⟨g, rfl, hg1, hg2, hg3, hcells⟩ := hform (by omega)
    have c0 : W.cell? ⟨g, pre.length * 4, none⟩ = some (.int .i32 (rn s x)) := hcells _ _ (flat_get s _ _ 0 x hget (by omega))
    have c1 : W.cell? ⟨g, pre.length * 4 + 1, none⟩ = some (.int .i64 x) := hcells _ _ (flat_get s _ _ 1 x hget (by omega))
    have hli : (pre.length : Int) < ((starts s).length : Int) := by omega
    have hl2 : (pre.length : Int) < 1048577 := by omega
    have hge : ¬ ((starts s).length : Int) ≤ (pre.length : Int) := by omega
    clear hform hcells hget
    by_cases hst : (pre.length : Int) + 1 = st
    · have hq : ((pre.length : Int) + 1 == st) = true := beq_iff_eq.2 hst
      clear hst
      gi_wp2_with fail
      refine ⟨trivial, rfl, ?_⟩
      refine (CallsIn.inRound l (callsIn_wide.2 (alive_any _))).mono ?_
      rintro e W2 ⟨rfl, hb3⟩
      have hr2 : W2.heap[w.heap.size + 1]? = some (.cells #[.bool false] 4) := get_below ((set_other (by omega)).trans hr) hb3
      have cr2 : W2.cell? ⟨w.heap.size + 1, 0, none⟩ = some (.bool false) := cell_of hr2 0
      have fr2 := frozen_of hr2 0
      have hsz2 : (W.setCell ⟨w1.heap.size + 1, 0, none⟩ (.int .i64 ((pre.length : Int) + 1))).heap.size = W.heap.size := by simp [World.setCell]
      gi_wp2
      refine ⟨?_, set_get 0 _ hr2, ((hb.setCell (by simp; omega) _).trans (hb3.mono (by rw [hsz2]; have := hb.size; omega))).setCell (by simp) _, rfl⟩
      exact ((Kept.setCell (by omega) (by omega)).trans (Kept.below hb3 (by rw [hsz2]; omega) (by rw [hsz2]; omega))).trans (Kept.setCell (by omega) (by omega))
    · have hq : ((pre.length : Int) + 1 == st) = false := beq_eq_false_iff_ne.2 hst
      gi_wp2_with fail
      refine ⟨Kept.setCell (by omega) (by omega), ⟨(set_other (by omega)).trans hi, (set_other (by omega)).trans hr, (set_other (by omega)).trans hl, ?_⟩, ?_, hb.setCell (by simp; omega) _⟩
      · rw [set_get 0 _ hn]
        simp
      · refine hrow.kept (grownBy_setCell' W (w1.heap.size + 1) _) (.inr (fun e => ?_))
        obtain ⟨_, cur, hcur⟩ := ownsRow_block hrow g rfl
        have e2 : g = w1.heap.size + 1 := by cases e; rfl
        rw [e2, hn] at hcur
        cases hcur
  case done =>
    rintro W ⟨⟨hi, hr, hl, hn⟩, hrow, hb⟩ hK
    gi_wp2_with fail
    refine ⟨trivial, rfl, ?_⟩
    refine (callsIn_wide.2 (alive_any _)).mono ?_
    rintro e W2 ⟨rfl, hb3⟩
    have hr2 := get_below hr hb3
    have hl2 := get_below hl hb3
    have hn2 := get_below hn hb3
    have cr : W2.cell? ⟨w.heap.size + 1, 0, none⟩ = some (.bool false) := cell_of hr2 0
    have fr := frozen_of hr2 0
    have cl : W2.cell? ⟨w1.heap.size, 0, none⟩ = some (.slice ad (starts s).length cap) := cell_of hl2 0
    have cn : W2.cell? ⟨w1.heap.size + 1, 0, none⟩ = some (.int .i64 (starts s).length) := cell_of hn2 0
    have hbz := hb.size
    have hb4 : Below w.heap.size w W2 := hb.trans (hb3.mono hbz)
    clear hrow
    gi_wp2
    have hK5 := (set_other (j := 0) (v := .bool true) (show W0.heap.size ≠ w.heap.size + 1 by omega)).trans (get_below hK hb3)
    refine ⟨by simp, .inl ⟨_, _, rfl, run_takeDeferred hK5, ?_⟩⟩
    refine goes_end _ _ (w.heap.size + 1) _ rfl ((World.putObj_heap_other (by omega)).trans (set_get 0 (.bool true) hr2)) _ ⟨rfl, ?_⟩
    exact (hb4.setCell (by simp) _).trans (belowK_b (w := w) (Nat.le_refl _) _ W0.heap.size _ _ (by omega) hK5 rfl rfl)
  case stop =>
    rintro c pre W _ ⟨hr, hb, rfl⟩ hK
    gi_wp2
    refine ⟨by simp, .inl ⟨_, _, rfl, run_takeDeferred hK, ?_⟩⟩
    refine goes_end _ _ (w.heap.size + 1) _ rfl ((World.putObj_heap_other (by omega)).trans hr) _ ⟨rfl, ?_⟩
    exact hb.trans (belowK_b (w := w) (Nat.le_refl _) _ W0.heap.size _ _ (by omega) hK rfl rfl)
end Go.Proofs.Ytgihafldphpncab
