/- gather, List, News: what they answer, at every book. -/
import Derived.Test.YtlpmehmoeladjaaGreatDoorJnJ9
import Derived.Carry
namespace Go.Proofs.YtlpmehmoeladjaaGreatDoor
open Go.RowKit Go.Shelf Go.Lib
attribute [local go_sem] Oper.semAt_some

/-- A list of notices that a call made: v, from base on. -/
def Made (w W : World) (v : Value) (l : List N3) : Prop := W.ownsRow w.heap.size 60 3 v l.length (fl l)
theorem filter_snoc {α : Type} (P : α → Bool) (l : List α) (x : α) : (l ++ [x]).filter P = if P x = true then l.filter P ++ [x] else l.filter P := by
  rw [List.filter_append]
  by_cases h : P x = true
  · rw [if_pos h]; simp [h]
  · rw [if_neg h]; simp [h]
theorem pfx_len {l m : List N3} (h : l <+: m) (P : N3 → Bool) : (l.filter P).length ≤ m.length := Nat.le_trans (List.length_filter_le P l) h.length_le
theorem row_below {w w' : World} {base : Nat} {e : TypeId} {size : Nat} {v : Value} {n : Nat} {xs : List Value} (h : w.ownsRow base e size v n xs) (hb : Below w.heap.size w w') : w'.ownsRow base e size v n xs := by
  obtain ⟨h1, h2⟩ := h
  refine ⟨h1, ?_⟩
  rcases h2 with h2 | ⟨g, cap, cur, h3, h4, h5, h6⟩
  · exact .inl h2
  · exact .inr ⟨g, cap, cur, h3, h4, (hb.block g (lt_at h5)).trans h5, h6⟩
def pAll : N3 → Bool := fun _ => true
def pNew : N3 → Bool := fun x => !decide (x = (x.1, 0, 1))
set_option maxHeartbeats 1000000 in
theorem list1_any (o t k : Int) (w : World) : Calls Tryz.prog 51 #[nt o t k] w fun e w' => e = .returned (.bool (pAll (o, t, k))) ∧ Below w.heap.size w w' := by
  unfold nt
  go_enter Tryz.func51, Tryz.ntmps51
  go_wp2
  go_ret
  exact ⟨rfl, al1 _ _⟩
set_option maxHeartbeats 4000000 in
set_option maxRecDepth 100000 in
theorem gl_in {w : World} {p g : Nat} {l : List N3} (h : Bk w p g l) (h0 : 0 < l.length) (h1 : l.length ≤ 100) : CallsIn Fence.wide 0 Tryz.prog 50 #[.pointer (some ⟨p, 0, none⟩), .func (.func 51) #[] #[]] w fun e w' => ∃ v, e = .returned v ∧ Made w w' v (l.filter pAll) ∧ Below w.heap.size w w' := by
  obtain ⟨ic, hic, hz0, hz1, hz2⟩ := info_partsN
  have hwt : Hid (∀ o t k W, Calls Tryz.prog 51 #[nt o t k] W fun e w' => e = .returned (.bool (pAll (o, t, k))) ∧ Below W.heap.size W w') := list1_any
  have hal := ball_any ((h.alloc (.cells #[.func (.func 51) #[] #[]] 96)).alloc (.cells #[.slice none 0 0] 44)) h0 h1
  clear h
  refine callsIn_of_wp_marks Tryz.func50 rfl trivial ?_ rfl
  simp only [Tryz.ntmps50, List.size_toArray, List.length_cons, List.length_nil, Nat.reduceAdd, Nat.reduceSub, Array.replicate_succ, Array.replicate_zero, List.push_toArray, List.append_toArray, List.nil_append, List.cons_append]
  gi_wp2
  with_reducible (refine And.intro (wfn _) (And.intro wdep ?_))
  refine (callsIn_wide.2 hal).mono ?_
  rintro e W0 ⟨bx, gt, rfl, hgt, hbx, hsb, hb⟩
  have b0 : Below w.heap.size w W0 := bel2 (al2 _ _ _) hb
  have f0 : Boxed W0 w.heap.size 96 (.func (.func 51) #[] #[]) := (hb.block _ (by simp; omega)).trans (old_at (new_at rfl))
  have v0 : Boxed W0 (w.heap.size + 1) 44 (.slice none 0 0) := (hb.block _ (by simp)).trans (new_at (by simp))
  have o0 : W0.ownsRow w.heap.size 60 3 (.slice none 0 0) 0 [] := World.ownsRow_nil _ _ _ _
  have hgl : gt < W0.heap.size := lt_at hsb.row
  have hgt2 : w.heap.size + 2 ≤ gt := by simp at hgt; omega
  have hz : w.heap.size + 2 ≤ W0.heap.size := by omega
  clear hal hb hgt hbx
  gi_wp2
  refine wp_rangeE (kb := 0) (gf := 88) (lb := #[.pointer (some ⟨bx, 0, none⟩)]) rfl (enters_of Tryz.func88 (by kernel_rfl) rfl)
    (all1_seq l bx gt _ h1 hsb) hgl (fun _ => rfl)
    (fun pre W => (∃ v, Boxed W (w.heap.size + 1) 44 v ∧ W.ownsRow w.heap.size 60 3 v (pre.filter pAll).length (fl (pre.filter pAll)) ∧ ∀ q, v.ownBlock = some q → W0.heap.size + 2 ≤ q) ∧ Boxed W w.heap.size 96 (.func (.func 51) #[] #[]) ∧ Below w.heap.size w W)
    (fun _ _ _ => False)
    (OwnFrom.and ((rowBoxP_own _ _ _ _ _ (fun pre : List N3 => (pre.filter pAll).length) (fun pre => fl (pre.filter pAll)) _).from _) (OwnFrom.and ((boxed_own _ _ (fun _ : List N3 => (.func (.func 51) #[] #[]))).from _) (ownFrom_below (Nat.le_refl _) (by omega))))
    (fun _ _ _ _ _ hs _ _ => hs)
    ⟨⟨_, v0, o0, fun q e => by cases e⟩, f0, b0⟩ (fun _ _ _ => trivial)
    (fun x a' W => ∃ B, a' = { tmps := #[.pointer (some ⟨p, 0, none⟩), .func (.func 51) #[] #[], undef, .pointer (some ⟨w.heap.size, 0, none⟩), .slice none 0 0, .pointer (some ⟨w.heap.size + 1, 0, none⟩), .pointer (some ⟨B, 0, none⟩), .pointer (some ⟨p, 0, none⟩), .func (.func 88) #[] #[.pointer (some ⟨bx, 0, none⟩)], nt x.1 x.2.1 x.2.2, undef, undef, undef, undef, undef, undef, undef, undef], defers := [] } ∧ NB W B x.1 x.2.1 x.2.2)
    (fun x a' s X Y row hs hg hr => by
      obtain ⟨B, e, hn⟩ := hs
      exact ⟨B, e, (grownBy_keeps_cells hg (fun r q => (hr r q).2) hn rfl).trans hn⟩) ?assign ?body ?done ?stop
  case assign =>
    rintro l2 pre ⟨o, t, k⟩ W K hi hsz hK
    unfold nt
    gi_wp2
    refine hK _ _ (Kept.below (al1 _ _) (by omega) (by omega)) ?_ ⟨_, rfl, NB.new _ _ _ _⟩
    obtain ⟨⟨v, hv, hrow, hq⟩, hf, hb⟩ := hi
    exact ⟨⟨v, hv.alloc _, hrow.alloc _, hq⟩, hf.alloc _, hb.alloc hb.size _⟩
  case body =>
    rintro l2 pre ⟨o, t, k⟩ a' W ⟨⟨v, hv, hrow, hq⟩, hf, hb⟩ ⟨B, rfl, hn⟩ hsz hpr
    have hfl := pfx_len hpr pAll
    have hcv := hv.cell
    have hcf := hf.cell
    have n0 := hn.c0
    have n1 := hn.c1
    have n2 := hn.c2
    dsimp only at n0 n1 n2
    have hc := hwt.out o t k W
    have hfs := filter_snoc pAll pre (o, t, k)
    generalize hPx : pAll (o, t, k) = b at hc hfs
    unfold nt at hc
    cases b with
    | false =>
      rw [if_neg (by decide)] at hfs
      gi_wp2_with (refine ⟨trivial, rfl, ?_⟩; gi_at_call 51; refine (callsIn_wide.2 hc).mono ?_; rintro e u1 ⟨rfl, hb1⟩)
      refine ⟨Kept.below hb1 (by omega) (by omega), ⟨v, (hb1.block _ hv.lt).trans hv, ?_, hq⟩, (hb1.block _ hf.lt).trans hf, bel2 hb hb1⟩
      rw [hfs]
      exact row_below hrow hb1
    | true =>
      rw [if_pos rfl] at hfs
      rw [hfs] at hfl
      have hln : (pre.filter pAll).length + 1 ≤ l.length := by simpa using hfl
      gi_wp2_with (first | (refine ⟨trivial, rfl, ?_⟩; gi_at_call 51; refine (callsIn_wide.2 hc).mono ?_; rintro e u1 ⟨rfl, hb1⟩; have hv1 : Boxed u1 (w.heap.size + 1) 44 v := (hb1.block _ hv.lt).trans hv; have hn1 := hn.carry hb1; have hrow1 := row_below hrow hb1; have hf1 : Boxed u1 w.heap.size 96 (.func (.func 51) #[] #[]) := (hb1.block _ hf.lt).trans hf; have hbw1 := bel2 hb hb1; have hcv1 := hv1.cell; have m0 := hn1.c0; have m1 := hn1.c1; have m2 := hn1.c2; dsimp only at m0 m1 m2) | (gi_at_builtin; refine wpListIn_append_own_at _ rfl _ _ 44 rfl w.heap.size 60 ic _ 3 24 Tryz.underlying44 hic hz0 hz1 hz2 rfl (by decide) _ _ _ rfl (hrow1.alloc _) ⟨u1.heap.size, 0, none⟩ 1 1 [_, _, _] rfl rfl (rowN _ #[_, _, _] _) (by simp [Value.oneCell']) (by unfold maxLen; omega) (by omega) (Nat.le_trans hbw1.size (by simp)) ?_; intro v' w2 hown' hgrow _ hob; obtain ⟨g', cap', rfl⟩ := ownsRow_succ hown'; have hv2 : Boxed w2 (w.heap.size + 1) 44 v := (hv1.alloc _).kept hgrow (fun e' => by have := hq _ e'.symm; omega); have hf2 := (hf1.alloc (.cells #[.int .i64 o, .int .i64 t, .int .i64 k] 60)).kept hgrow (fun e' => by have := hq _ e'.symm; omega); have hc2 := hv2.cell; have hfz2 := hv2.frozen))
      have hz1' : W.heap.size ≤ u1.heap.size := hb1.size
      refine ⟨?_, ⟨_, hv2.set _, ?_, ?_⟩, ?_, ?_⟩
      · refine (((Kept.below hb1 (by omega) (by omega)).trans (Kept.below (al1 _ _) (by omega) (by omega))).trans (Kept.grown hgrow (by simp; omega) (by simp; omega) (fun q hq' => ?_))).trans (Kept.setCell (by omega) (by omega))
        have := hq q hq'
        omega
      · rw [hfs, fl_append, List.length_append]
        refine ownsRow_set hown' (fun q hq' => ?_) _
        rcases hob with e | e
        · have := hq q (e ▸ hq'); omega
        · rw [e] at hq'; simp at hq'; omega
      · intro q hq'
        rcases hob with e | e
        · exact hq q (e ▸ hq')
        · rw [e] at hq'; simp at hq'; omega
      · exact (set_other (by omega)).trans hf2
      · exact ((hbw1.alloc hbw1.size _).grown hgrow (by have := hbw1.size; simp; omega) (fun q hq' => by have := hq q hq'; omega)).setCell (by simp) _
  case done =>
    rintro W ⟨⟨v, hv, hrow, hq⟩, hf, hb⟩ hK
    have hcv := hv.cell
    gi_wp2
    refine ⟨by simp, .inl ⟨_, _, rfl, run_takeDeferred hK, ?_⟩⟩
    exact ⟨v, by simp [results, Tryz.results50, go_sem], v, rfl, ownsRow_putObj hrow _ hK rfl, below_taken _ hb (by omega)⟩
  case stop =>
    rintro c pre W _ h _
    exact h.elim
set_option maxHeartbeats 1000000 in
theorem blist_any {w : World} {p g : Nat} {l : List N3} (h : Bk w p g l) (h0 : 0 < l.length) (h1 : l.length ≤ 100) : Calls Tryz.prog 19 #[.pointer (some ⟨p, 0, none⟩)] w fun e w' => ∃ v, e = .returned v ∧ Made w w' v (l.filter pAll) ∧ Below w.heap.size w w' := by
  have hg := callsIn_wide.1 (gl_in h h0 h1)
  go_enter Tryz.func19, Tryz.ntmps19
  go_wp2_with (go_at_call 50; (with_reducible refine hg.mono ?_); rintro e u1 ⟨v, rfl, hm, hb1⟩)
  go_ret
  exact ⟨v, rfl, hm, hb1⟩
end Go.Proofs.YtlpmehmoeladjaaGreatDoor
namespace Go.Proofs.YtlpmehmoeladjaaGreatDoor
open Go.RowKit Go.Shelf Go.Lib
attribute [local go_sem] Oper.semAt_some

/-- The nodes that are suspected. -/
def sst (N : Nat) (x : N3) : Nat := if x.2.2 = 2 then N ||| 2 ^ x.1.toNat else N
def sus (l : List N3) : Nat := l.foldl sst 0
theorem pfx_at {pre l : List N3} {x : N3} (h : pre ++ [x] <+: l) : l[pre.length]? = some x := by
  obtain ⟨r, hr⟩ := h
  rw [← hr, List.append_assoc, List.getElem?_append_right (Nat.le_refl _)]
  simp
theorem pfx_pre {pre l : List N3} {x : N3} (h : pre ++ [x] <+: l) : pre <+: l := (List.prefix_append pre [x]).trans h
theorem fold_sst_lt : ∀ (m : List N3) (N : Nat), (∀ x ∈ m, x.1.toNat < 100) → N < 2 ^ 100 → m.foldl sst N < 2 ^ 100
  | [], _, _, h => h
  | x :: m, N, hv, h => by
    refine fold_sst_lt m (sst N x) (fun y hy => hv y (by simp [hy])) ?_
    unfold sst
    split
    · exact Nat.or_lt_two_pow h (Nat.pow_lt_pow_right (by decide) (hv x (by simp)))
    · exact h
theorem bok_lt {l : List N3} (hb : Bok l) (hl : l.length ≤ 100) : ∀ x ∈ l, x.1.toNat < 100 := by
  intro x hx
  obtain ⟨i, hi⟩ := List.mem_iff_getElem?.1 hx
  have := (hb i x hi).1
  have := (List.getElem?_eq_some_iff.1 hi).1
  omega
theorem fold_sst_bit : ∀ (m : List N3) (N i : Nat), (m.foldl sst N).testBit i = (N.testBit i || m.any fun x => decide (x.2.2 = 2 ∧ x.1.toNat = i))
  | [], N, i => by simp
  | x :: m, N, i => by
    rw [List.foldl_cons, fold_sst_bit m, List.any_cons]
    unfold sst
    by_cases h : x.2.2 = 2
    · rw [if_pos h, Nat.testBit_or, Nat.testBit_two_pow]
      simp [h, Bool.or_assoc]
    · rw [if_neg h]
      simp [h]
theorem sus_bit {l : List N3} (hb : Bok l) {i : Nat} {x : N3} (hx : l[i]? = some x) : (sus l).testBit i = decide (x.2.2 = 2) := by
  unfold sus
  rw [fold_sst_bit]
  simp only [Nat.zero_testBit, Bool.false_or]
  by_cases h : x.2.2 = 2
  · rw [decide_eq_true h, List.any_eq_true]
    exact ⟨x, List.mem_of_getElem? hx, decide_eq_true ⟨h, by have := (hb i x hx).1; omega⟩⟩
  · rw [decide_eq_false h, List.any_eq_false]
    intro y hy
    rw [decide_eq_true_iff]
    rintro ⟨h1, h2⟩
    obtain ⟨j, hj⟩ := List.mem_iff_getElem?.1 hy
    have := (hb j y hj).1
    obtain rfl : j = i := by omega
    rw [hx] at hj
    obtain rfl := Option.some.inj hj
    exact h h1
theorem sus_hi {l : List N3} (hb : Bok l) {i : Nat} (hi : l.length ≤ i) : (sus l).testBit i = false := by
  unfold sus
  rw [fold_sst_bit]
  simp only [Nat.zero_testBit, Bool.false_or]
  rw [List.any_eq_false]
  intro y hy
  rw [decide_eq_true_iff]
  rintro ⟨_, h2⟩
  obtain ⟨j, hj⟩ := List.mem_iff_getElem?.1 hy
  have := (hb j y hj).1
  have := (List.getElem?_eq_some_iff.1 hj).1
  omega
theorem sus_lt {l : List N3} (hb : Bok l) (hl : l.length ≤ 100) : sus l < 2 ^ 100 := fold_sst_lt l 0 (bok_lt hb hl) (by decide)
theorem kept_set4 {bx B m : Nat} {W : World} {b M : Nat} (h1 : b ≠ bx) (h2 : b < B ∨ B + m ≤ b) : Kept bx B m W (set4 W b M) := by
  unfold set4
  exact (((Kept.setCell h1 h2).trans (Kept.setCell h1 h2)).trans (Kept.setCell h1 h2)).trans (Kept.setCell h1 h2)
theorem Holds4.other4 {W : World} {b b' M : Nat} {c : Nat → Nat} (h : Holds4 W b' c) (hne : b' ≠ b) : Holds4 (set4 W b M) b' c := by
  unfold set4 Holds4
  rw [Below.heap_setCell _ _ _ _ hne, Below.heap_setCell _ _ _ _ hne, Below.heap_setCell _ _ _ _ hne, Below.heap_setCell _ _ _ _ hne]
  exact h
end Go.Proofs.YtlpmehmoeladjaaGreatDoor
namespace Go.Proofs.YtlpmehmoeladjaaGreatDoor
open Go.RowKit Go.Shelf Go.Lib
attribute [local go_sem] Oper.semAt_some

/-- A book that has no node: nil, or a zero one. -/
def EB (W : World) (v : Value) : Prop := v = .pointer none ∨ ∃ p, v = .pointer (some ⟨p, 0, none⟩) ∧ W.heap[p]? = some (.cells #[.slice none 0 0] 93 (0, 0))
theorem EB.carry {W V : World} {v : Value} (h : EB W v) (hb : Below W.heap.size W V) : EB V v := by
  rcases h with h | ⟨p, rfl, hp⟩
  · exact .inl h
  · exact .inr ⟨p, rfl, (hb.block _ (lt_at hp)).trans hp⟩
set_option maxHeartbeats 1000000 in
theorem ekept_any {w : World} {v : Value} (h : EB w v) : Calls Tryz.prog 59 #[v] w fun e w' => e = .returned (.slice none 0 0) ∧ Below w.heap.size w w' := by
  rcases h with rfl | ⟨p, rfl, hp⟩
  · go_enter Tryz.func59, Tryz.ntmps59
    go_wp2
    go_ret
    exact ⟨rfl, Below.refl _ _⟩
  · have c0 := cell_at hp 0
    simp at c0
    go_enter Tryz.func59, Tryz.ntmps59
    go_wp2
    go_ret
    exact ⟨rfl, Below.refl _ _⟩
set_option maxHeartbeats 1000000 in
theorem esize_any {w : World} {v : Value} (h : EB w v) : Calls Tryz.prog 36 #[v] w fun e w' => e = .returned (.int .i64 0) ∧ Below w.heap.size w w' := by
  have hk := ekept_any h
  go_enter Tryz.func36, Tryz.ntmps36
  go_wp2_with (go_at_call 59; (with_reducible refine hk.mono ?_); rintro e u1 ⟨rfl, hb1⟩)
  go_ret
  exact ⟨rfl, hb1⟩
set_option maxHeartbeats 1000000 in
theorem etwin_nil (w : World) : Calls Tryz.prog 87 #[.pointer none] w fun e w' => e = .returned (.pointer none) ∧ Below w.heap.size w w' := by
  go_enter Tryz.func87, Tryz.ntmps87
  go_wp2
  go_ret
  exact ⟨rfl, Below.refl _ _⟩
set_option maxHeartbeats 1000000 in
theorem etwin_any {w : World} {v : Value} (h : EB w v) : Calls Tryz.prog 87 #[v] w fun e w' => ∃ v', e = .returned v' ∧ EB w' v' ∧ Below w.heap.size w w' := by
  rcases h with rfl | ⟨p, rfl, hp⟩
  · exact (etwin_nil w).mono fun e w' h => ⟨_, h.1, .inl rfl, h.2⟩
  · have hz := esize_any (w := w.alloc (.cells #[.slice none 0 0] 93)) (v := .pointer (some ⟨p, 0, none⟩)) (.inr ⟨p, rfl, old_at hp⟩)
    go_enter Tryz.func87, Tryz.ntmps87
    go_wp2_with (go_at_call 36; (with_reducible refine hz.mono ?_); rintro e u1 ⟨rfl, hb1⟩)
    go_ret
    exact ⟨_, rfl, .inr ⟨_, rfl, (hb1.block _ (by simp)).trans (new_at rfl)⟩, bel2 (al1 _ _) hb1⟩
set_option maxHeartbeats 1000000 in
theorem eall_any {w : World} {v : Value} (h : EB w v) : Calls Tryz.prog 70 #[v] w fun e w' => ∃ bx, e = .returned (.func (.func 88) #[] #[.pointer (some ⟨bx, 0, none⟩)]) ∧ w.heap.size ≤ bx ∧ w'.heap[bx]? = some (.cells #[.slice none 0 0] 44 (0, 0)) ∧ Below w.heap.size w w' := by
  have ht := etwin_any h
  go_enter Tryz.func70, Tryz.ntmps70
  go_wp2_with (first | (go_at_call 87; (with_reducible refine ht.mono ?_); rintro e u1 ⟨v2, rfl, he2, hb2⟩; have hk := ekept_any he2) | (go_at_call 59; (with_reducible refine hk.mono ?_); rintro e u2 ⟨rfl, hb3⟩))
  go_ret
  have hbb := bel2 hb2 hb3
  exact ⟨u2.heap.size, rfl, hbb.size, new_at rfl, hbb.alloc hbb.size _⟩
set_option maxHeartbeats 1000000 in
set_option maxRecDepth 100000 in
theorem all0_seq (bx : Nat) (w : World) (hs : w.heap[bx]? = some (.cells #[.slice none 0 0] 44 (0, 0))) :
    SeqE Tryz.prog (fun _ => True) 88 #[.pointer (some ⟨bx, 0, none⟩)] (fun x : N3 => #[nt x.1 x.2.1 x.2.2]) bx 0 [] w := by
  intro ll J Jx W hW hJ hJx hE hY h0
  have hb0 : W.heap[bx]? = some (.cells #[.slice none 0 0] 44 (0, 0)) := (hW.block _ (lt_at hs)).trans hs
  have c0 := cell_at hb0 0
  simp at c0
  clear hE hY
  refine callsIn_of_wp Tryz.func88 rfl trivial ?_ rfl
  simp only [Tryz.ntmps88, List.size_toArray, List.length_cons, List.length_nil, Nat.reduceAdd, Nat.reduceSub, Array.replicate_succ, Array.replicate_zero, List.push_toArray, List.append_toArray, List.nil_append, List.cons_append]
  gi_wp2
  refine wpIn_loop_once ?_
  gi_wp2
  go_end0
  exact ⟨⟨_, rfl⟩, .inl h0⟩
theorem not_pfx {pre : List N3} {x : N3} (h : pre ++ [x] <+: []) : False := by
  have := h.length_le
  simp at this
set_option maxHeartbeats 4000000 in
set_option maxRecDepth 100000 in
theorem egl_in {w : World} {v : Value} (h : EB w v) : CallsIn Fence.wide 0 Tryz.prog 50 #[v, .func (.func 51) #[] #[]] w fun e w' => e = .returned (.slice none 0 0) ∧ Below w.heap.size w w' := by
  have hal := eall_any ((h.carry (al1 w (.cells #[.func (.func 51) #[] #[]] 96))).carry (al1 _ (.cells #[.slice none 0 0] 44)))
  clear h
  refine callsIn_of_wp_marks Tryz.func50 rfl trivial ?_ rfl
  simp only [Tryz.ntmps50, List.size_toArray, List.length_cons, List.length_nil, Nat.reduceAdd, Nat.reduceSub, Array.replicate_succ, Array.replicate_zero, List.push_toArray, List.append_toArray, List.nil_append, List.cons_append]
  gi_wp2
  with_reducible (refine And.intro (wfn _) (And.intro wdep ?_))
  refine (callsIn_wide.2 hal).mono ?_
  rintro e W0 ⟨bx, rfl, hbx, hsb, hb⟩
  have b0 : Below w.heap.size w W0 := bel2 (al2 _ _ _) hb
  have v0 : Boxed W0 (w.heap.size + 1) 44 (.slice none 0 0) := (hb.block _ (by simp)).trans (new_at (by simp))
  have hgl := lt_at hsb
  have hz : w.heap.size + 2 ≤ W0.heap.size := by simp at hbx; omega
  clear hal hb
  gi_wp2
  refine wp_rangeE (kb := 0) (gf := 88) (lb := #[.pointer (some ⟨bx, 0, none⟩)]) rfl (enters_of Tryz.func88 (by kernel_rfl) rfl)
    (all0_seq bx _ hsb) hgl (fun _ => rfl)
    (fun _ W => Boxed W (w.heap.size + 1) 44 (.slice none 0 0) ∧ Below w.heap.size w W)
    (fun _ _ _ => False)
    (OwnFrom.and ((boxed_own _ _ (fun _ : List N3 => (.slice none 0 0))).from _) (ownFrom_below (Nat.le_refl _) (by omega)))
    (fun _ _ _ _ _ hs _ _ => hs)
    ⟨v0, b0⟩ (fun _ _ _ => trivial) (fun _ _ _ => True) (fun _ _ _ _ _ _ _ _ _ => trivial) ?assign ?body ?done ?stop
  case assign =>
    rintro l2 pre ⟨o, t, k⟩ W K ⟨hv, hb⟩ hsz hK
    unfold nt
    gi_wp2
    exact hK _ _ (Kept.below (al1 _ _) (by omega) (by omega)) ⟨hv.alloc _, hb.alloc hb.size _⟩ trivial
  case body =>
    rintro l2 pre x a' W _ _ _ hpr
    exact (not_pfx hpr).elim
  case done =>
    rintro W ⟨hv, hb⟩ hK
    have hcv := hv.cell
    gi_wp2
    refine ⟨by simp, .inl ⟨_, _, rfl, run_takeDeferred hK, ?_⟩⟩
    exact ⟨.slice none 0 0, by simp [results, Tryz.results50, go_sem], rfl, below_taken _ hb (by omega)⟩
  case stop =>
    rintro c pre W _ h _
    exact h.elim
set_option maxHeartbeats 1000000 in
theorem elist_any {w : World} {v : Value} (h : EB w v) : Calls Tryz.prog 19 #[v] w fun e w' => e = .returned (.slice none 0 0) ∧ Below w.heap.size w w' := by
  have hg := callsIn_wide.1 (egl_in h)
  rcases h with rfl | ⟨p, rfl, hp⟩
  all_goals
    go_enter Tryz.func19, Tryz.ntmps19
    go_wp2_with (go_at_call 50; (with_reducible refine hg.mono ?_); rintro e u1 ⟨rfl, hb1⟩)
    go_ret
    exact ⟨rfl, hb1⟩
theorem rd_nil (W : World) : RdN W none [] := fun h => absurd rfl h
set_option maxHeartbeats 4000000 in
set_option maxRecDepth 100000 in
theorem etake_any {w : World} {v : Value} (h : EB w v) (o t k : Int) : Calls Tryz.prog 24 #[v, nt o t k] w fun e w' => e = .returned (.tuple #[.bool false, .int .i64 50]) ∧ Below w.heap.size w w' := by
  have hmx : Tryz.prog.follows .mixedOrders = true := by kernel_rfl
  have hva := valid_any 0 o t k
  rw [show vl 0 o t k = false from decide_eq_false (by omega)] at hva
  have hj0 : NB (w.alloc (.cells #[.int .i64 o, .int .i64 t, .int .i64 k] 60)) w.heap.size o t k ∧ EB (w.alloc (.cells #[.int .i64 o, .int .i64 t, .int .i64 k] 60)) v ∧ Below w.heap.size w (w.alloc (.cells #[.int .i64 o, .int .i64 t, .int .i64 k] 60)) := ⟨NB.new _ _ _ _, h.carry (al1 _ _), al1 _ _⟩
  clear h
  go_enter Tryz.func24, Tryz.ntmps24
  unfold nt
  go_wp2
  rename_i Q0 K0 hK
  refine wp_region_any hmx ?_
  refine wpAny_pure (fun i__ => ([v, (.int .i64 0), (nt o t k), (.bool false), (.bool true)] : List Value).getD i__ undef) (fun V => NB V w.heap.size o t k ∧ EB V v ∧ Below w.heap.size w V) (by kernel_rfl) ⟨hj0.1.carry (Below.refl _ _).drew, hj0.2.1.carry (Below.refl _ _).drew, hj0.2.2.drew⟩ ?_ ?_
  · refine (stepsFrom_cons ?_ (stepsFrom_cons ?_ (stepsFrom_cons ?_ (stepsFrom_cons ?_ (stepsFrom_cons ?_ trivial)))))
    · exact step_move rfl trivial _ rfl (by kernel_rfl)
    · exact step_call rfl trivial 36 _ _ [v] rfl (by kernel_rfl) (enters_of Tryz.func36 (by kernel_rfl) rfl) (fun w hw => (esize_any hw.2.1).mono (by rintro e w' ⟨rfl, hb⟩; exact ⟨rfl, hw.1.carry hb, hw.2.1.carry hb, bel2 hw.2.2 hb⟩))
    · exact step_load rfl trivial _ _ _ rfl rfl (fun w hw => load_nt hw.1)
    · exact step_call rfl trivial 35 _ _ [(.int .i64 0), (nt o t k)] rfl (by kernel_rfl) (enters_of Tryz.func35 (by kernel_rfl) rfl) (fun w hw => (hva w).mono (by rintro e w' ⟨rfl, hb⟩; exact ⟨rfl, hw.1.carry hb, hw.2.1.carry hb, bel2 hw.2.2 hb⟩))
    · exact step_unOp rfl trivial _ _ _ _ rfl rfl (fun w hw => un_not false w)
  intro W hW
  first | refine hK _ _ ?_ | refine (‹∀ (a : Act) (w : World), Code.wp Tryz.prog _ _ a w → _›) _ _ ?_
  simp only [finL, List.getD_cons_zero, List.getD_cons_succ, Nat.zero_add, Nat.reduceAdd, List.setIfInBounds_toArray, List.set_cons_zero, List.set_cons_succ]
  obtain ⟨hn, hk, hb⟩ := hW
  clear hj0 hK hva
  go_wp2
  go_ret2
  exact ⟨rfl, hb⟩
set_option maxHeartbeats 4000000 in
theorem eat_any {w : World} {v : Value} (h : EB w v) (id : Int) : Calls Tryz.prog 66 #[v, .int .i64 id] w fun e w' => e = .returned (.tuple #[.agg #[.int .i64 0, .int .i64 0, .int .i64 0], .int .i64 30]) ∧ Below w.heap.size w w' := by
  have hn1 : NB (w.alloc (.cells #[.int .i64 0, .int .i64 0, .int .i64 0] 60)) w.heap.size 0 0 0 := NB.new _ _ _ _
  have hb1 := al1 w (.cells #[.int .i64 0, .int .i64 0, .int .i64 0] 60)
  have hsz := esize_any (h.carry hb1)
  clear h
  by_cases h0 : id < 0
  · have c0 := hn1.c0
    have c1 := hn1.c1
    have c2 := hn1.c2
    have z0 := hn1.thaw 0
    have z1 := hn1.thaw 1
    have z2 := hn1.thaw 2
    go_enter Tryz.func66, Tryz.ntmps66
    go_wp2
    exact retNt rfl rfl rfl rfl hn1 ⟨rfl, hb1⟩
  · have hge : 0 ≤ id := by omega
    go_enter Tryz.func66, Tryz.ntmps66
    go_wp2_with (go_at_call 36; (with_reducible refine hsz.mono ?_); rintro e u1 ⟨rfl, hb2⟩; have hn2 := hn1.carry hb2; have c0 := hn2.c0; have c1 := hn2.c1; have c2 := hn2.c2; have z0 := hn2.thaw 0; have z1 := hn2.thaw 1; have z2 := hn2.thaw 2)
    exact retNt rfl rfl rfl rfl (NB.set hn2 _ _ _) ⟨rfl, below3 (bel2 hb1 hb2) (Nat.le_refl _) _ _ _⟩
end Go.Proofs.YtlpmehmoeladjaaGreatDoor
