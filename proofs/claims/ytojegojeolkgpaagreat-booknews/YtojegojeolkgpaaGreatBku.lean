/- Suspects: what it answers, at every book. -/
import Derived.Test.YtojegojeolkgpaaGreatBki
import Derived.Carry
namespace Go.Proofs.YtojegojeolkgpaaGreat
open Go.RowKit Go.Shelf Go.Lib
attribute [local go_sem] Oper.semAt_some

/-- The nodes that are suspected. -/
def sst (N : Nat) (x : N3) : Nat := if x.2.2 = 2 then N ||| 2 ^ x.1.toNat else N
def sus (l : List N3) : Nat := l.foldl sst 0
theorem pfx_at {pre l : List N3} {x : N3} (h : pre ++ [x] <+: l) : l[pre.length]? = some x := by
  obtain ⟨r, hr⟩ := h
  rw [← hr, List.append_assoc, List.getElem?_append_right (Nat.le_refl _)]
  simp
theorem pfx_pre {pre l : List N3} {x : N3} (h : pre ++ [x] <+: l) : pre <+: l := (List.prefix_append pre [x]).trans h
theorem fold_sst_lt : ∀ (m : List N3) (N : Nat), (∀ x ∈ m, x.1.toNat < 100) → N < 2 ^ 100 → m.foldl sst N < 2 ^ 100
  | [], _, _, h => h
  | x :: m, N, hv, h => by
    refine fold_sst_lt m (sst N x) (fun y hy => hv y (by simp [hy])) ?_
    unfold sst
    split
    · exact Nat.or_lt_two_pow h (Nat.pow_lt_pow_right (by decide) (hv x (by simp)))
    · exact h
theorem bok_lt {l : List N3} (hb : Bok l) (hl : l.length ≤ 100) : ∀ x ∈ l, x.1.toNat < 100 := by
  intro x hx
  obtain ⟨i, hi⟩ := List.mem_iff_getElem?.1 hx
  have := (hb i x hi).1
  have := (List.getElem?_eq_some_iff.1 hi).1
  omega
theorem fold_sst_bit : ∀ (m : List N3) (N i : Nat), (m.foldl sst N).testBit i = (N.testBit i || m.any fun x => decide (x.2.2 = 2 ∧ x.1.toNat = i))
  | [], N, i => by simp
  | x :: m, N, i => by
    rw [List.foldl_cons, fold_sst_bit m, List.any_cons]
    unfold sst
    by_cases h : x.2.2 = 2
    · rw [if_pos h, Nat.testBit_or, Nat.testBit_two_pow]
      simp [h, Bool.or_assoc]
    · rw [if_neg h]
      simp [h]
theorem sus_bit {l : List N3} (hb : Bok l) {i : Nat} {x : N3} (hx : l[i]? = some x) : (sus l).testBit i = decide (x.2.2 = 2) := by
  unfold sus
  rw [fold_sst_bit]
  simp only [Nat.zero_testBit, Bool.false_or]
  by_cases h : x.2.2 = 2
  · rw [decide_eq_true h, List.any_eq_true]
    exact ⟨x, List.mem_of_getElem? hx, decide_eq_true ⟨h, by have := (hb i x hx).1; omega⟩⟩
  · rw [decide_eq_false h, List.any_eq_false]
    intro y hy
    rw [decide_eq_true_iff]
    rintro ⟨h1, h2⟩
    obtain ⟨j, hj⟩ := List.mem_iff_getElem?.1 hy
    have := (hb j y hj).1
    obtain rfl : j = i := by omega
    rw [hx] at hj
    obtain rfl := Option.some.inj hj
    exact h h1
theorem sus_hi {l : List N3} (hb : Bok l) {i : Nat} (hi : l.length ≤ i) : (sus l).testBit i = false := by
  unfold sus
  rw [fold_sst_bit]
  simp only [Nat.zero_testBit, Bool.false_or]
  rw [List.any_eq_false]
  intro y hy
  rw [decide_eq_true_iff]
  rintro ⟨_, h2⟩
  obtain ⟨j, hj⟩ := List.mem_iff_getElem?.1 hy
  have := (hb j y hj).1
  have := (List.getElem?_eq_some_iff.1 hj).1
  omega
theorem sus_lt {l : List N3} (hb : Bok l) (hl : l.length ≤ 100) : sus l < 2 ^ 100 := fold_sst_lt l 0 (bok_lt hb hl) (by decide)
theorem kept_set4 {bx B m : Nat} {W : World} {b M : Nat} (h1 : b ≠ bx) (h2 : b < B ∨ B + m ≤ b) : Kept bx B m W (set4 W b M) := by
  unfold set4
  exact (((Kept.setCell h1 h2).trans (Kept.setCell h1 h2)).trans (Kept.setCell h1 h2)).trans (Kept.setCell h1 h2)
theorem Holds4.other4 {W : World} {b b' M : Nat} {c : Nat → Nat} (h : Holds4 W b' c) (hne : b' ≠ b) : Holds4 (set4 W b M) b' c := by
  unfold set4 Holds4
  rw [Below.heap_setCell _ _ _ _ hne, Below.heap_setCell _ _ _ _ hne, Below.heap_setCell _ _ _ _ hne, Below.heap_setCell _ _ _ _ hne]
  exact h
set_option maxHeartbeats 4000000 in
set_option maxRecDepth 100000 in
theorem sus_in {w : World} {p g : Nat} {l : List N3} (h : Bk w p g l) (h0 : 0 < l.length) (h1 : l.length ≤ 100) (hbo : Bok l) : CallsIn Fence.wide 0 Tryz.prog 28 #[.pointer (some ⟨p, 0, none⟩)] w fun e w' => e = .returned (sv (sus l)) ∧ Below w.heap.size w w' := by
  have HBO : Hid (Bok l) := hbo
  have hal := ball_any ((h.alloc (.cells #[.int .u32 0, .int .u32 0, .int .u32 0, .int .u32 0] 76)).alloc (.cells #[.int .u32 0, .int .u32 0, .int .u32 0, .int .u32 0] 76)) h0 h1
  clear h hbo
  refine callsIn_of_wp_marks Tryz.func28 rfl trivial ?_ rfl
  simp only [Tryz.ntmps28, List.size_toArray, List.length_cons, List.length_nil, Nat.reduceAdd, Nat.reduceSub, Array.replicate_succ, Array.replicate_zero, List.push_toArray, List.append_toArray, List.nil_append, List.cons_append]
  gi_wp2
  with_reducible (refine And.intro (wfn _) (And.intro wdep ?_))
  refine (callsIn_wide.2 hal).mono ?_
  rintro e W0 ⟨bx, gt, rfl, hgt, hbx, hsb, hb⟩
  have b0 : Below w.heap.size w W0 := bel2 (al2 _ _ _) hb
  have r0 : Holds4 W0 w.heap.size (fun _ => 0) := (hb.block _ (by simp; omega)).trans (old_at (new_at rfl))
  have s0 : Holds4 W0 (w.heap.size + 1) (wd 0) := Holds4.congr (c := fun _ => 0) ((hb.block _ (by simp)).trans (new_at (by simp))) (fun j _ => (wd_zero j).symm)
  have hgl : gt < W0.heap.size := lt_at hsb.row
  have hgt2 : w.heap.size + 2 ≤ gt := by simp at hgt; omega
  have hz : w.heap.size + 2 ≤ W0.heap.size := by omega
  clear hal hb hgt hbx
  gi_wp2
  refine wp_rangeE (kb := 0) (gf := 121) (lb := #[.pointer (some ⟨bx, 0, none⟩)]) rfl (enters_of Tryz.func121 (by kernel_rfl) rfl)
    (all1_seq l bx gt _ h1 hsb) hgl (fun _ => rfl)
    (fun pre W => W.heap[w.heap.size + 1]? = some (.cells (cells4 (wd (sus pre))) 76) ∧ W.heap[w.heap.size]? = some (.cells (cells4 (fun _ => 0)) 76) ∧ Below w.heap.size w W)
    (fun _ _ _ => False)
    (OwnFrom.and ((blk_own (w.heap.size + 1) (fun pre : List N3 => (.cells (cells4 (wd (sus pre))) 76)) (fun _ => rfl)).from _) (OwnFrom.and ((blk_own w.heap.size (fun _ : List N3 => (.cells (cells4 (fun _ => 0)) 76)) (fun _ => rfl)).from _) (ownFrom_below (Nat.le_refl _) (by omega))))
    (fun _ _ _ _ _ hs _ _ => hs)
    ⟨s0, r0, b0⟩ (fun _ _ _ => trivial)
    (fun x a' W => ∃ B, a' = { tmps := #[.pointer (some ⟨p, 0, none⟩), undef, .pointer (some ⟨w.heap.size, 0, none⟩), .pointer (some ⟨w.heap.size + 1, 0, none⟩), .pointer (some ⟨B, 0, none⟩), .pointer (some ⟨p, 0, none⟩), .func (.func 121) #[] #[.pointer (some ⟨bx, 0, none⟩)], nt x.1 x.2.1 x.2.2, undef, undef, undef, undef, undef, undef, undef, undef, undef, undef, undef], defers := [] } ∧ NB W B x.1 x.2.1 x.2.2)
    (fun x a' s X Y row hs hg hr => by
      obtain ⟨B, e, hn⟩ := hs
      exact ⟨B, e, (grownBy_keeps_cells hg (fun r q => (hr r q).2) hn rfl).trans hn⟩) ?assign ?body ?done ?stop
  case assign =>
    rintro l2 pre ⟨o, t, k⟩ W K ⟨hs, hr, hb⟩ hsz hK
    unfold nt
    gi_wp2
    exact hK _ _ (Kept.below (al1 _ _) (by omega) (by omega)) ⟨old_at hs, old_at hr, hb.alloc hb.size _⟩ ⟨_, rfl, NB.new _ _ _ _⟩
  case body =>
    rintro l2 pre ⟨o, t, k⟩ a' W ⟨hs, hr, hb⟩ ⟨B, rfl, hn⟩ hsz hpr
    have HS : Hid (Holds4 W (w.heap.size + 1) (wd (sus pre))) := hs
    have HR : Hid (Holds4 W w.heap.size (fun _ => 0)) := hr
    clear hs hr
    have hat := pfx_at hpr
    have ho := (HBO.out _ _ hat).1
    have hlt := (List.getElem?_eq_some_iff.1 hat).1
    dsimp only at ho
    have hN : sus pre < 2 ^ 100 := fold_sst_lt pre 0 (fun x hx => bok_lt HBO.out h1 x ((pfx_pre hpr).subset hx)) (by decide)
    have hst : sus (pre ++ [(o, t, k)]) = sst (sus pre) (o, t, k) := by unfold sus; rw [List.foldl_append]; rfl
    have n0 := hn.c0
    have n2 := hn.c2
    dsimp only at n0 n2
    by_cases hk : k = 2
    · have hs2 : sst (sus pre) (o, t, k) = sus pre ||| 2 ^ pre.length := by unfold sst; rw [if_pos hk, ho]; simp
      have hw := with_any (sus pre) o
      have e3 : withV (sus pre) o = .tuple #[sv (sus pre ||| 2 ^ pre.length), .int .i64 0] := by
        unfold withV
        rw [if_pos (by omega), cln_of_lt hN, ho, Int.toNat_natCast]
      rw [e3] at hw
      have HST : Hid (sus (pre ++ [(o, t, k)]) = sus pre ||| 2 ^ pre.length) := hst.trans hs2
      subst hk
      obtain ⟨x0, x1, x2, x3, _, _, _, _⟩ := HS.out.facts
      clear hst hs2 e3 hat
      unfold sv at hw
      have HO : Hid (o = (pre.length : Int)) := ho
      clear ho
      generalize sus pre ||| 2 ^ pre.length = M at *
      gi_wp2_with (refine ⟨trivial, rfl, ?_⟩; gi_at_call 89; refine (callsIn_wide.2 (hw _)).mono ?_; rintro e u1 ⟨rfl, hb1⟩; have HS1 : Hid (Holds4 u1 (w.heap.size + 1) (wd (sus pre))) := HS.out.carry hb1; obtain ⟨y0, y1, y2, y3, z0, z1, z2, z3⟩ := HS1.out.facts)
      have hbw := bel2 hb hb1
      refine ⟨(Kept.below hb1 (by omega) (by omega)).trans (kept_set4 (by omega) (by omega)), ?_, (HR.out.carry hb1).other4 (by omega), below4 hbw (by omega) M⟩
      rw [HST.out]
      exact fin4 HS1.out M
    · have hs2 : sst (sus pre) (o, t, k) = sus pre := by unfold sst; rw [if_neg hk]
      have HST : Hid (sus (pre ++ [(o, t, k)]) = sus pre) := hst.trans hs2
      have hk2 : (k == 2) = false := by simpa using hk
      clear hst hs2 hat ho
      gi_wp2
      refine ⟨Kept.refl _ _ _ _, ?_, HR.out, hb⟩
      rw [HST.out]
      exact HS.out
  case done =>
    rintro W ⟨hs, hr, hb⟩ hK
    have HS : Hid (Holds4 W (w.heap.size + 1) (wd (sus l))) := hs
    have HR : Hid (Holds4 W w.heap.size (fun _ => 0)) := hr
    clear hs hr
    obtain ⟨x0, x1, x2, x3, _, _, _, _⟩ := HS.out.facts
    obtain ⟨y0, y1, y2, y3, z0, z1, z2, z3⟩ := HR.out.facts
    gi_wp2
    have hfin : Holds4 (set4 W w.heap.size (sus l)) w.heap.size (wd (sus l)) := fin4 HR.out _
    have hbf : Below w.heap.size w (set4 W w.heap.size (sus l)) := below4 hb (Nat.le_refl _) _
    have hK2 : (set4 W w.heap.size (sus l)).heap[W0.heap.size]? = some (.deferred (some [])) := by
      unfold set4
      rw [Below.heap_setCell _ _ _ _ (by simp only; omega), Below.heap_setCell _ _ _ _ (by simp only; omega), Below.heap_setCell _ _ _ _ (by simp only; omega), Below.heap_setCell _ _ _ _ (by simp only; omega)]
      exact hK
    refine ⟨by simp, .inl ⟨_, _, rfl, run_takeDeferred hK2, ?_⟩⟩
    have hf2 : Holds4 ((set4 W w.heap.size (sus l)).putObj W0.heap.size (.deferred none)) w.heap.size (wd (sus l)) := (World.putObj_heap_other (by omega)).trans hfin
    have h1 := run_loadVar_row (P := Tryz.prog) _ w.heap.size 76 76 (cells4 (wd (sus l))) (0, 0) _ hf2 Tryz.underlying76 rfl (by kernel_rfl)
    refine ⟨sv (sus l), ?_, rfl, below_taken _ hbf (by omega)⟩
    simp [results, Tryz.results28, asAddr]
    exact h1
  case stop =>
    rintro c pre W _ h _
    exact h.elim
theorem sus_any {w : World} {p g : Nat} {l : List N3} (h : Bk w p g l) (h0 : 0 < l.length) (h1 : l.length ≤ 100) (hbo : Bok l) : Calls Tryz.prog 28 #[.pointer (some ⟨p, 0, none⟩)] w fun e w' => e = .returned (sv (sus l)) ∧ Below w.heap.size w w' := callsIn_wide.1 (sus_in h h0 h1 hbo)
end Go.Proofs.YtojegojeolkgpaaGreat
