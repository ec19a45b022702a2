/- gather, List, News: what they answer, at every book. -/
import Derived.Test.YtlpmehmoeladjaaDoorJnJ9
import Derived.Carry
namespace Go.Proofs.YtlpmehmoeladjaaDoor
open Go.RowKit Go.Shelf Go.Lib
attribute [local go_sem] Oper.semAt_some

/-- A list of notices that a call made: v, from base on. -/
def Made (w W : World) (v : Value) (l : List N3) : Prop := W.ownsRow w.heap.size 39 3 v l.length (fl l)
theorem filter_snoc {α : Type} (P : α → Bool) (l : List α) (x : α) : (l ++ [x]).filter P = if P x = true then l.filter P ++ [x] else l.filter P := by
  rw [List.filter_append]
  by_cases h : P x = true
  · rw [if_pos h]; simp [h]
  · rw [if_neg h]; simp [h]
theorem pfx_len {l m : List N3} (h : l <+: m) (P : N3 → Bool) : (l.filter P).length ≤ m.length := Nat.le_trans (List.length_filter_le P l) h.length_le
theorem row_below {w w' : World} {base : Nat} {e : TypeId} {size : Nat} {v : Value} {n : Nat} {xs : List Value} (h : w.ownsRow base e size v n xs) (hb : Below w.heap.size w w') : w'.ownsRow base e size v n xs := by
  obtain ⟨h1, h2⟩ := h
  refine ⟨h1, ?_⟩
  rcases h2 with h2 | ⟨g, cap, cur, h3, h4, h5, h6⟩
  · exact .inl h2
  · exact .inr ⟨g, cap, cur, h3, h4, (hb.block g (lt_at h5)).trans h5, h6⟩
def pAll : N3 → Bool := fun _ => true
def pNew : N3 → Bool := fun x => !decide (x = (x.1, 0, 1))
end Go.Proofs.YtlpmehmoeladjaaDoor
namespace Go.Proofs.YtlpmehmoeladjaaDoor
open Go.RowKit Go.Shelf Go.Lib
attribute [local go_sem] Oper.semAt_some

/-- The nodes that are suspected. -/
def sst (N : Nat) (x : N3) : Nat := if x.2.2 = 2 then N ||| 2 ^ x.1.toNat else N
def sus (l : List N3) : Nat := l.foldl sst 0
theorem pfx_at {pre l : List N3} {x : N3} (h : pre ++ [x] <+: l) : l[pre.length]? = some x := by
  obtain ⟨r, hr⟩ := h
  rw [← hr, List.append_assoc, List.getElem?_append_right (Nat.le_refl _)]
  simp
theorem pfx_pre {pre l : List N3} {x : N3} (h : pre ++ [x] <+: l) : pre <+: l := (List.prefix_append pre [x]).trans h
theorem fold_sst_lt : ∀ (m : List N3) (N : Nat), (∀ x ∈ m, x.1.toNat < 100) → N < 2 ^ 100 → m.foldl sst N < 2 ^ 100
  | [], _, _, h => h
  | x :: m, N, hv, h => by
    refine fold_sst_lt m (sst N x) (fun y hy => hv y (by simp [hy])) ?_
    unfold sst
    split
    · exact Nat.or_lt_two_pow h (Nat.pow_lt_pow_right (by decide) (hv x (by simp)))
    · exact h
theorem bok_lt {l : List N3} (hb : Bok l) (hl : l.length ≤ 100) : ∀ x ∈ l, x.1.toNat < 100 := by
  intro x hx
  obtain ⟨i, hi⟩ := List.mem_iff_getElem?.1 hx
  have := (hb i x hi).1
  have := (List.getElem?_eq_some_iff.1 hi).1
  omega
theorem fold_sst_bit : ∀ (m : List N3) (N i : Nat), (m.foldl sst N).testBit i = (N.testBit i || m.any fun x => decide (x.2.2 = 2 ∧ x.1.toNat = i))
  | [], N, i => by simp
  | x :: m, N, i => by
    rw [List.foldl_cons, fold_sst_bit m, List.any_cons]
    unfold sst
    by_cases h : x.2.2 = 2
    · rw [if_pos h, Nat.testBit_or, Nat.testBit_two_pow]
      simp [h, Bool.or_assoc]
    · rw [if_neg h]
      simp [h]
theorem sus_bit {l : List N3} (hb : Bok l) {i : Nat} {x : N3} (hx : l[i]? = some x) : (sus l).testBit i = decide (x.2.2 = 2) := by
  unfold sus
  rw [fold_sst_bit]
  simp only [Nat.zero_testBit, Bool.false_or]
  by_cases h : x.2.2 = 2
  · rw [decide_eq_true h, List.any_eq_true]
    exact ⟨x, List.mem_of_getElem? hx, decide_eq_true ⟨h, by have := (hb i x hx).1; omega⟩⟩
  · rw [decide_eq_false h, List.any_eq_false]
    intro y hy
    rw [decide_eq_true_iff]
    rintro ⟨h1, h2⟩
    obtain ⟨j, hj⟩ := List.mem_iff_getElem?.1 hy
    have := (hb j y hj).1
    obtain rfl : j = i := by omega
    rw [hx] at hj
    obtain rfl := Option.some.inj hj
    exact h h1
theorem sus_hi {l : List N3} (hb : Bok l) {i : Nat} (hi : l.length ≤ i) : (sus l).testBit i = false := by
  unfold sus
  rw [fold_sst_bit]
  simp only [Nat.zero_testBit, Bool.false_or]
  rw [List.any_eq_false]
  intro y hy
  rw [decide_eq_true_iff]
  rintro ⟨_, h2⟩
  obtain ⟨j, hj⟩ := List.mem_iff_getElem?.1 hy
  have := (hb j y hj).1
  have := (List.getElem?_eq_some_iff.1 hj).1
  omega
theorem sus_lt {l : List N3} (hb : Bok l) (hl : l.length ≤ 100) : sus l < 2 ^ 100 := fold_sst_lt l 0 (bok_lt hb hl) (by decide)
theorem kept_set4 {bx B m : Nat} {W : World} {b M : Nat} (h1 : b ≠ bx) (h2 : b < B ∨ B + m ≤ b) : Kept bx B m W (set4 W b M) := by
  unfold set4
  exact (((Kept.setCell h1 h2).trans (Kept.setCell h1 h2)).trans (Kept.setCell h1 h2)).trans (Kept.setCell h1 h2)
theorem Holds4.other4 {W : World} {b b' M : Nat} {c : Nat → Nat} (h : Holds4 W b' c) (hne : b' ≠ b) : Holds4 (set4 W b M) b' c := by
  unfold set4 Holds4
  rw [Below.heap_setCell _ _ _ _ hne, Below.heap_setCell _ _ _ _ hne, Below.heap_setCell _ _ _ _ hne, Below.heap_setCell _ _ _ _ hne]
  exact h
set_option maxHeartbeats 4000000 in
set_option maxRecDepth 100000 in
theorem sus_in {w : World} {p g : Nat} {l : List N3} (h : Bk w p g l) (h0 : 0 < l.length) (h1 : l.length ≤ 100) (hbo : Bok l) : CallsIn Fence.wide 0 Tryd.prog 17 #[.pointer (some ⟨p, 0, none⟩)] w fun e w' => e = .returned (sv (sus l)) ∧ Below w.heap.size w w' := by
  have HBO : Hid (Bok l) := hbo
  have hal := ball_any ((h.alloc (.cells #[.int .u32 0, .int .u32 0, .int .u32 0, .int .u32 0] 35)).alloc (.cells #[.int .u32 0, .int .u32 0, .int .u32 0, .int .u32 0] 35)) h0 h1
  clear h hbo
  refine callsIn_of_wp_marks Tryd.func17 rfl trivial ?_ rfl
  simp only [Tryd.ntmps17, List.size_toArray, List.length_cons, List.length_nil, Nat.reduceAdd, Nat.reduceSub, Array.replicate_succ, Array.replicate_zero, List.push_toArray, List.append_toArray, List.nil_append, List.cons_append]
  gi_wp2
  with_reducible (refine And.intro (wfn _) (And.intro wdep ?_))
  refine (callsIn_wide.2 hal).mono ?_
  rintro e W0 ⟨bx, gt, rfl, hgt, hbx, hsb, hb⟩
  have b0 : Below w.heap.size w W0 := bel2 (al2 _ _ _) hb
  have r0 : Holds4 W0 w.heap.size (fun _ => 0) := (hb.block _ (by simp; omega)).trans (old_at (new_at rfl))
  have s0 : Holds4 W0 (w.heap.size + 1) (wd 0) := Holds4.congr (c := fun _ => 0) ((hb.block _ (by simp)).trans (new_at (by simp))) (fun j _ => (wd_zero j).symm)
  have hgl : gt < W0.heap.size := lt_at hsb.row
  have hgt2 : w.heap.size + 2 ≤ gt := by simp at hgt; omega
  have hz : w.heap.size + 2 ≤ W0.heap.size := by omega
  clear hal hb hgt hbx
  gi_wp2
  refine wp_rangeE (kb := 0) (gf := 58) (lb := #[.pointer (some ⟨bx, 0, none⟩)]) rfl (enters_of Tryd.func58 (by kernel_rfl) rfl)
    (all1_seq l bx gt _ h1 hsb) hgl (fun _ => rfl)
    (fun pre W => W.heap[w.heap.size + 1]? = some (.cells (cells4 (wd (sus pre))) 35) ∧ W.heap[w.heap.size]? = some (.cells (cells4 (fun _ => 0)) 35) ∧ Below w.heap.size w W)
    (fun _ _ _ => False)
    (OwnFrom.and ((blk_own (w.heap.size + 1) (fun pre : List N3 => (.cells (cells4 (wd (sus pre))) 35)) (fun _ => rfl)).from _) (OwnFrom.and ((blk_own w.heap.size (fun _ : List N3 => (.cells (cells4 (fun _ => 0)) 35)) (fun _ => rfl)).from _) (ownFrom_below (Nat.le_refl _) (by omega))))
    (fun _ _ _ _ _ hs _ _ => hs)
    ⟨s0, r0, b0⟩ (fun _ _ _ => trivial)
    (fun x a' W => ∃ B, a' = { tmps := #[.pointer (some ⟨p, 0, none⟩), undef, .pointer (some ⟨w.heap.size, 0, none⟩), .pointer (some ⟨w.heap.size + 1, 0, none⟩), .pointer (some ⟨B, 0, none⟩), .pointer (some ⟨p, 0, none⟩), .func (.func 58) #[] #[.pointer (some ⟨bx, 0, none⟩)], nt x.1 x.2.1 x.2.2, undef, undef, undef, undef, undef, undef, undef, undef, undef, undef, undef], defers := [] } ∧ NB W B x.1 x.2.1 x.2.2)
    (fun x a' s X Y row hs hg hr => by
      obtain ⟨B, e, hn⟩ := hs
      exact ⟨B, e, (grownBy_keeps_cells hg (fun r q => (hr r q).2) hn rfl).trans hn⟩) ?assign ?body ?done ?stop
  case assign =>
    rintro l2 pre ⟨o, t, k⟩ W K ⟨hs, hr, hb⟩ hsz hK
    unfold nt
    gi_wp2
    exact hK _ _ (Kept.below (al1 _ _) (by omega) (by omega)) ⟨old_at hs, old_at hr, hb.alloc hb.size _⟩ ⟨_, rfl, NB.new _ _ _ _⟩
  case body =>
    rintro l2 pre ⟨o, t, k⟩ a' W ⟨hs, hr, hb⟩ ⟨B, rfl, hn⟩ hsz hpr
    have HS : Hid (Holds4 W (w.heap.size + 1) (wd (sus pre))) := hs
    have HR : Hid (Holds4 W w.heap.size (fun _ => 0)) := hr
    clear hs hr
    have hat := pfx_at hpr
    have ho := (HBO.out _ _ hat).1
    have hlt := (List.getElem?_eq_some_iff.1 hat).1
    dsimp only at ho
    have hN : sus pre < 2 ^ 100 := fold_sst_lt pre 0 (fun x hx => bok_lt HBO.out h1 x ((pfx_pre hpr).subset hx)) (by decide)
    have hst : sus (pre ++ [(o, t, k)]) = sst (sus pre) (o, t, k) := by unfold sus; rw [List.foldl_append]; rfl
    have n0 := hn.c0
    have n2 := hn.c2
    dsimp only at n0 n2
    by_cases hk : k = 2
    · have hs2 : sst (sus pre) (o, t, k) = sus pre ||| 2 ^ pre.length := by unfold sst; rw [if_pos hk, ho]; simp
      have hw := with_any (sus pre) o
      have e3 : withV (sus pre) o = .tuple #[sv (sus pre ||| 2 ^ pre.length), .int .i64 0] := by
        unfold withV
        rw [if_pos (by omega), cln_of_lt hN, ho, Int.toNat_natCast]
      rw [e3] at hw
      have HST : Hid (sus (pre ++ [(o, t, k)]) = sus pre ||| 2 ^ pre.length) := hst.trans hs2
      subst hk
      obtain ⟨x0, x1, x2, x3, _, _, _, _⟩ := HS.out.facts
      clear hst hs2 e3 hat
      unfold sv at hw
      have HO : Hid (o = (pre.length : Int)) := ho
      clear ho
      generalize sus pre ||| 2 ^ pre.length = M at *
      gi_wp2_with (refine ⟨trivial, rfl, ?_⟩; gi_at_call 37; refine (callsIn_wide.2 (hw _)).mono ?_; rintro e u1 ⟨rfl, hb1⟩; have HS1 : Hid (Holds4 u1 (w.heap.size + 1) (wd (sus pre))) := HS.out.carry hb1; obtain ⟨y0, y1, y2, y3, z0, z1, z2, z3⟩ := HS1.out.facts)
      have hbw := bel2 hb hb1
      refine ⟨(Kept.below hb1 (by omega) (by omega)).trans (kept_set4 (by omega) (by omega)), ?_, (HR.out.carry hb1).other4 (by omega), below4 hbw (by omega) M⟩
      rw [HST.out]
      exact fin4 HS1.out M
    · have hs2 : sst (sus pre) (o, t, k) = sus pre := by unfold sst; rw [if_neg hk]
      have HST : Hid (sus (pre ++ [(o, t, k)]) = sus pre) := hst.trans hs2
      have hk2 : (k == 2) = false := by simpa using hk
      clear hst hs2 hat ho
      gi_wp2
      refine ⟨Kept.refl _ _ _ _, ?_, HR.out, hb⟩
      rw [HST.out]
      exact HS.out
  case done =>
    rintro W ⟨hs, hr, hb⟩ hK
    have HS : Hid (Holds4 W (w.heap.size + 1) (wd (sus l))) := hs
    have HR : Hid (Holds4 W w.heap.size (fun _ => 0)) := hr
    clear hs hr
    obtain ⟨x0, x1, x2, x3, _, _, _, _⟩ := HS.out.facts
    obtain ⟨y0, y1, y2, y3, z0, z1, z2, z3⟩ := HR.out.facts
    gi_wp2
    have hfin : Holds4 (set4 W w.heap.size (sus l)) w.heap.size (wd (sus l)) := fin4 HR.out _
    have hbf : Below w.heap.size w (set4 W w.heap.size (sus l)) := below4 hb (Nat.le_refl _) _
    have hK2 : (set4 W w.heap.size (sus l)).heap[W0.heap.size]? = some (.deferred (some [])) := by
      unfold set4
      rw [Below.heap_setCell _ _ _ _ (by simp only; omega), Below.heap_setCell _ _ _ _ (by simp only; omega), Below.heap_setCell _ _ _ _ (by simp only; omega), Below.heap_setCell _ _ _ _ (by simp only; omega)]
      exact hK
    refine ⟨by simp, .inl ⟨_, _, rfl, run_takeDeferred hK2, ?_⟩⟩
    have hf2 : Holds4 ((set4 W w.heap.size (sus l)).putObj W0.heap.size (.deferred none)) w.heap.size (wd (sus l)) := (World.putObj_heap_other (by omega)).trans hfin
    have h1 := run_loadVar_row (P := Tryd.prog) _ w.heap.size 35 35 (cells4 (wd (sus l))) (0, 0) _ hf2 Tryd.underlying35 rfl (by kernel_rfl)
    refine ⟨sv (sus l), ?_, rfl, below_taken _ hbf (by omega)⟩
    simp [results, Tryd.results17, asAddr]
    exact h1
  case stop =>
    rintro c pre W _ h _
    exact h.elim
theorem sus_any {w : World} {p g : Nat} {l : List N3} (h : Bk w p g l) (h0 : 0 < l.length) (h1 : l.length ≤ 100) (hbo : Bok l) : Calls Tryd.prog 17 #[.pointer (some ⟨p, 0, none⟩)] w fun e w' => e = .returned (sv (sus l)) ∧ Below w.heap.size w w' := callsIn_wide.1 (sus_in h h0 h1 hbo)
end Go.Proofs.YtlpmehmoeladjaaDoor
namespace Go.Proofs.YtlpmehmoeladjaaDoor
open Go.RowKit Go.Shelf Go.Lib
attribute [local go_sem] Oper.semAt_some

/-- A book that has no node: nil, or a zero one. -/
def EB (W : World) (v : Value) : Prop := v = .pointer none ∨ ∃ p, v = .pointer (some ⟨p, 0, none⟩) ∧ W.heap[p]? = some (.cells #[.slice none 0 0] 70 (0, 0))
theorem EB.carry {W V : World} {v : Value} (h : EB W v) (hb : Below W.heap.size W V) : EB V v := by
  rcases h with h | ⟨p, rfl, hp⟩
  · exact .inl h
  · exact .inr ⟨p, rfl, (hb.block _ (lt_at hp)).trans hp⟩
set_option maxHeartbeats 1000000 in
theorem ekept_any {w : World} {v : Value} (h : EB w v) : Calls Tryd.prog 53 #[v] w fun e w' => e = .returned (.slice none 0 0) ∧ Below w.heap.size w w' := by
  rcases h with rfl | ⟨p, rfl, hp⟩
  · go_enter Tryd.func53, Tryd.ntmps53
    go_wp2
    go_ret
    exact ⟨rfl, Below.refl _ _⟩
  · have c0 := cell_at hp 0
    simp at c0
    go_enter Tryd.func53, Tryd.ntmps53
    go_wp2
    go_ret
    exact ⟨rfl, Below.refl _ _⟩
set_option maxHeartbeats 1000000 in
theorem esize_any {w : World} {v : Value} (h : EB w v) : Calls Tryd.prog 34 #[v] w fun e w' => e = .returned (.int .i64 0) ∧ Below w.heap.size w w' := by
  have hk := ekept_any h
  go_enter Tryd.func34, Tryd.ntmps34
  go_wp2_with (go_at_call 53; (with_reducible refine hk.mono ?_); rintro e u1 ⟨rfl, hb1⟩)
  go_ret
  exact ⟨rfl, hb1⟩
set_option maxHeartbeats 1000000 in
theorem etwin_nil (w : World) : Calls Tryd.prog 57 #[.pointer none] w fun e w' => e = .returned (.pointer none) ∧ Below w.heap.size w w' := by
  go_enter Tryd.func57, Tryd.ntmps57
  go_wp2
  go_ret
  exact ⟨rfl, Below.refl _ _⟩
set_option maxHeartbeats 1000000 in
theorem etwin_any {w : World} {v : Value} (h : EB w v) : Calls Tryd.prog 57 #[v] w fun e w' => ∃ v', e = .returned v' ∧ EB w' v' ∧ Below w.heap.size w w' := by
  rcases h with rfl | ⟨p, rfl, hp⟩
  · exact (etwin_nil w).mono fun e w' h => ⟨_, h.1, .inl rfl, h.2⟩
  · have hz := esize_any (w := w.alloc (.cells #[.slice none 0 0] 70)) (v := .pointer (some ⟨p, 0, none⟩)) (.inr ⟨p, rfl, old_at hp⟩)
    go_enter Tryd.func57, Tryd.ntmps57
    go_wp2_with (go_at_call 34; (with_reducible refine hz.mono ?_); rintro e u1 ⟨rfl, hb1⟩)
    go_ret
    exact ⟨_, rfl, .inr ⟨_, rfl, (hb1.block _ (by simp)).trans (new_at rfl)⟩, bel2 (al1 _ _) hb1⟩
set_option maxHeartbeats 1000000 in
theorem eall_any {w : World} {v : Value} (h : EB w v) : Calls Tryd.prog 45 #[v] w fun e w' => ∃ bx, e = .returned (.func (.func 58) #[] #[.pointer (some ⟨bx, 0, none⟩)]) ∧ w.heap.size ≤ bx ∧ w'.heap[bx]? = some (.cells #[.slice none 0 0] 22 (0, 0)) ∧ Below w.heap.size w w' := by
  have ht := etwin_any h
  go_enter Tryd.func45, Tryd.ntmps45
  go_wp2_with (first | (go_at_call 57; (with_reducible refine ht.mono ?_); rintro e u1 ⟨v2, rfl, he2, hb2⟩; have hk := ekept_any he2) | (go_at_call 53; (with_reducible refine hk.mono ?_); rintro e u2 ⟨rfl, hb3⟩))
  go_ret
  have hbb := bel2 hb2 hb3
  exact ⟨u2.heap.size, rfl, hbb.size, new_at rfl, hbb.alloc hbb.size _⟩
set_option maxHeartbeats 1000000 in
set_option maxRecDepth 100000 in
theorem all0_seq (bx : Nat) (w : World) (hs : w.heap[bx]? = some (.cells #[.slice none 0 0] 22 (0, 0))) :
    SeqE Tryd.prog (fun _ => True) 58 #[.pointer (some ⟨bx, 0, none⟩)] (fun x : N3 => #[nt x.1 x.2.1 x.2.2]) bx 0 [] w := by
  intro ll J Jx W hW hJ hJx hE hY h0
  have hb0 : W.heap[bx]? = some (.cells #[.slice none 0 0] 22 (0, 0)) := (hW.block _ (lt_at hs)).trans hs
  have c0 := cell_at hb0 0
  simp at c0
  clear hE hY
  refine callsIn_of_wp Tryd.func58 rfl trivial ?_ rfl
  simp only [Tryd.ntmps58, List.size_toArray, List.length_cons, List.length_nil, Nat.reduceAdd, Nat.reduceSub, Array.replicate_succ, Array.replicate_zero, List.push_toArray, List.append_toArray, List.nil_append, List.cons_append]
  gi_wp2
  refine wpIn_loop_once ?_
  gi_wp2
  go_end0
  exact ⟨⟨_, rfl⟩, .inl h0⟩
theorem not_pfx {pre : List N3} {x : N3} (h : pre ++ [x] <+: []) : False := by
  have := h.length_le
  simp at this
set_option maxHeartbeats 4000000 in
set_option maxRecDepth 100000 in
theorem esus_in {w : World} {v : Value} (h : EB w v) : CallsIn Fence.wide 0 Tryd.prog 17 #[v] w fun e w' => e = .returned (sv 0) ∧ Below w.heap.size w w' := by
  have hal := eall_any ((h.carry (al1 w (.cells #[.int .u32 0, .int .u32 0, .int .u32 0, .int .u32 0] 35))).carry (al1 _ (.cells #[.int .u32 0, .int .u32 0, .int .u32 0, .int .u32 0] 35)))
  clear h
  refine callsIn_of_wp_marks Tryd.func17 rfl trivial ?_ rfl
  simp only [Tryd.ntmps17, List.size_toArray, List.length_cons, List.length_nil, Nat.reduceAdd, Nat.reduceSub, Array.replicate_succ, Array.replicate_zero, List.push_toArray, List.append_toArray, List.nil_append, List.cons_append]
  gi_wp2
  with_reducible (refine And.intro (wfn _) (And.intro wdep ?_))
  refine (callsIn_wide.2 hal).mono ?_
  rintro e W0 ⟨bx, rfl, hbx, hsb, hb⟩
  have b0 : Below w.heap.size w W0 := bel2 (al2 _ _ _) hb
  have r0 : Holds4 W0 w.heap.size (fun _ => 0) := (hb.block _ (by simp; omega)).trans (old_at (new_at rfl))
  have s0 : Holds4 W0 (w.heap.size + 1) (wd 0) := Holds4.congr (c := fun _ => 0) ((hb.block _ (by simp)).trans (new_at (by simp))) (fun j _ => (wd_zero j).symm)
  have hgl := lt_at hsb
  have hz : w.heap.size + 2 ≤ W0.heap.size := by simp at hbx; omega
  clear hal hb
  gi_wp2
  refine wp_rangeE (kb := 0) (gf := 58) (lb := #[.pointer (some ⟨bx, 0, none⟩)]) rfl (enters_of Tryd.func58 (by kernel_rfl) rfl)
    (all0_seq bx _ hsb) hgl (fun _ => rfl)
    (fun _ W => W.heap[w.heap.size + 1]? = some (.cells (cells4 (wd 0)) 35) ∧ W.heap[w.heap.size]? = some (.cells (cells4 (fun _ => 0)) 35) ∧ Below w.heap.size w W)
    (fun _ _ _ => False)
    (OwnFrom.and ((blk_own (w.heap.size + 1) (fun _ : List N3 => (.cells (cells4 (wd 0)) 35)) (fun _ => rfl)).from _) (OwnFrom.and ((blk_own w.heap.size (fun _ : List N3 => (.cells (cells4 (fun _ => 0)) 35)) (fun _ => rfl)).from _) (ownFrom_below (Nat.le_refl _) (by omega))))
    (fun _ _ _ _ _ hs _ _ => hs)
    ⟨s0, r0, b0⟩ (fun _ _ _ => trivial) (fun _ _ _ => True) (fun _ _ _ _ _ _ _ _ _ => trivial) ?assign ?body ?done ?stop
  case assign =>
    rintro l2 pre ⟨o, t, k⟩ W K ⟨hs, hr, hb⟩ hsz hK
    unfold nt
    gi_wp2
    exact hK _ _ (Kept.below (al1 _ _) (by omega) (by omega)) ⟨old_at hs, old_at hr, hb.alloc hb.size _⟩ trivial
  case body =>
    rintro l2 pre x a' W _ _ _ hpr
    exact (not_pfx hpr).elim
  case done =>
    rintro W ⟨hs, hr, hb⟩ hK
    have HS : Hid (Holds4 W (w.heap.size + 1) (wd 0)) := hs
    have HR : Hid (Holds4 W w.heap.size (fun _ => 0)) := hr
    clear hs hr
    obtain ⟨x0, x1, x2, x3, _, _, _, _⟩ := HS.out.facts
    obtain ⟨y0, y1, y2, y3, z0, z1, z2, z3⟩ := HR.out.facts
    gi_wp2
    have hfin : Holds4 (set4 W w.heap.size 0) w.heap.size (wd 0) := fin4 HR.out _
    have hbf : Below w.heap.size w (set4 W w.heap.size 0) := below4 hb (Nat.le_refl _) _
    have hK2 : (set4 W w.heap.size 0).heap[W0.heap.size]? = some (.deferred (some [])) := by
      unfold set4
      rw [Below.heap_setCell _ _ _ _ (by simp only; omega), Below.heap_setCell _ _ _ _ (by simp only; omega), Below.heap_setCell _ _ _ _ (by simp only; omega), Below.heap_setCell _ _ _ _ (by simp only; omega)]
      exact hK
    refine ⟨by simp, .inl ⟨_, _, rfl, run_takeDeferred hK2, ?_⟩⟩
    have hf2 : Holds4 ((set4 W w.heap.size 0).putObj W0.heap.size (.deferred none)) w.heap.size (wd 0) := (World.putObj_heap_other (by omega)).trans hfin
    have h1 := run_loadVar_row (P := Tryd.prog) _ w.heap.size 35 35 (cells4 (wd 0)) (0, 0) _ hf2 Tryd.underlying35 rfl (by kernel_rfl)
    refine ⟨sv 0, ?_, rfl, below_taken _ hbf (by omega)⟩
    simp [results, Tryd.results17, asAddr]
    exact h1
  case stop =>
    rintro c pre W _ h _
    exact h.elim
theorem esus_any {w : World} {v : Value} (h : EB w v) : Calls Tryd.prog 17 #[v] w fun e w' => e = .returned (sv 0) ∧ Below w.heap.size w w' := callsIn_wide.1 (esus_in h)
theorem rd_nil (W : World) : RdN W none [] := fun h => absurd rfl h
set_option maxHeartbeats 4000000 in
set_option maxRecDepth 100000 in
theorem etake_any {w : World} {v : Value} (h : EB w v) (o t k : Int) : Calls Tryd.prog 19 #[v, nt o t k] w fun e w' => e = .returned (.tuple #[.bool false, .int .i64 50]) ∧ Below w.heap.size w w' := by
  have hmx : Tryd.prog.follows .mixedOrders = true := by kernel_rfl
  have hva := valid_any 0 o t k
  rw [show vl 0 o t k = false from decide_eq_false (by omega)] at hva
  have hj0 : NB (w.alloc (.cells #[.int .i64 o, .int .i64 t, .int .i64 k] 39)) w.heap.size o t k ∧ EB (w.alloc (.cells #[.int .i64 o, .int .i64 t, .int .i64 k] 39)) v ∧ Below w.heap.size w (w.alloc (.cells #[.int .i64 o, .int .i64 t, .int .i64 k] 39)) := ⟨NB.new _ _ _ _, h.carry (al1 _ _), al1 _ _⟩
  clear h
  go_enter Tryd.func19, Tryd.ntmps19
  unfold nt
  go_wp2
  rename_i Q0 K0 hK
  refine wp_region_any hmx ?_
  refine wpAny_pure (fun i__ => ([v, (.int .i64 0), (nt o t k), (.bool false), (.bool true)] : List Value).getD i__ undef) (fun V => NB V w.heap.size o t k ∧ EB V v ∧ Below w.heap.size w V) (by kernel_rfl) ⟨hj0.1.carry (Below.refl _ _).drew, hj0.2.1.carry (Below.refl _ _).drew, hj0.2.2.drew⟩ ?_ ?_
  · refine (stepsFrom_cons ?_ (stepsFrom_cons ?_ (stepsFrom_cons ?_ (stepsFrom_cons ?_ (stepsFrom_cons ?_ trivial)))))
    · exact step_move rfl trivial _ rfl (by kernel_rfl)
    · exact step_call rfl trivial 34 _ _ [v] rfl (by kernel_rfl) (enters_of Tryd.func34 (by kernel_rfl) rfl) (fun w hw => (esize_any hw.2.1).mono (by rintro e w' ⟨rfl, hb⟩; exact ⟨rfl, hw.1.carry hb, hw.2.1.carry hb, bel2 hw.2.2 hb⟩))
    · exact step_load rfl trivial _ _ _ rfl rfl (fun w hw => load_nt hw.1)
    · exact step_call rfl trivial 33 _ _ [(.int .i64 0), (nt o t k)] rfl (by kernel_rfl) (enters_of Tryd.func33 (by kernel_rfl) rfl) (fun w hw => (hva w).mono (by rintro e w' ⟨rfl, hb⟩; exact ⟨rfl, hw.1.carry hb, hw.2.1.carry hb, bel2 hw.2.2 hb⟩))
    · exact step_unOp rfl trivial _ _ _ _ rfl rfl (fun w hw => un_not false w)
  intro W hW
  first | refine hK _ _ ?_ | refine (‹∀ (a : Act) (w : World), Code.wp Tryd.prog _ _ a w → _›) _ _ ?_
  simp only [finL, List.getD_cons_zero, List.getD_cons_succ, Nat.zero_add, Nat.reduceAdd, List.setIfInBounds_toArray, List.set_cons_zero, List.set_cons_succ]
  obtain ⟨hn, hk, hb⟩ := hW
  clear hj0 hK hva
  go_wp2
  go_ret2
  exact ⟨rfl, hb⟩
set_option maxHeartbeats 4000000 in
theorem eat_any {w : World} {v : Value} (h : EB w v) (id : Int) : Calls Tryd.prog 12 #[v, .int .i64 id] w fun e w' => e = .returned (.tuple #[.agg #[.int .i64 0, .int .i64 0, .int .i64 0], .int .i64 30]) ∧ Below w.heap.size w w' := by
  have hn1 : NB (w.alloc (.cells #[.int .i64 0, .int .i64 0, .int .i64 0] 39)) w.heap.size 0 0 0 := NB.new _ _ _ _
  have hb1 := al1 w (.cells #[.int .i64 0, .int .i64 0, .int .i64 0] 39)
  have hsz := esize_any (h.carry hb1)
  clear h
  by_cases h0 : id < 0
  · have c0 := hn1.c0
    have c1 := hn1.c1
    have c2 := hn1.c2
    have z0 := hn1.thaw 0
    have z1 := hn1.thaw 1
    have z2 := hn1.thaw 2
    go_enter Tryd.func12, Tryd.ntmps12
    go_wp2
    exact retNt rfl rfl rfl rfl hn1 ⟨rfl, hb1⟩
  · have hge : 0 ≤ id := by omega
    go_enter Tryd.func12, Tryd.ntmps12
    go_wp2_with (go_at_call 34; (with_reducible refine hsz.mono ?_); rintro e u1 ⟨rfl, hb2⟩; have hn2 := hn1.carry hb2; have c0 := hn2.c0; have c1 := hn2.c1; have c2 := hn2.c2; have z0 := hn2.thaw 0; have z1 := hn2.thaw 1; have z2 := hn2.thaw 2)
    exact retNt rfl rfl rfl rfl (NB.set hn2 _ _ _) ⟨rfl, below3 (bel2 hb1 hb2) (Nat.le_refl _) _ _ _⟩
end Go.Proofs.YtlpmehmoeladjaaDoor
