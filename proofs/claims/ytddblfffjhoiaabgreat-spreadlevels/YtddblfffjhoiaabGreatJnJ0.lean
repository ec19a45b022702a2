/- gather, List, News: what they answer, at every book. -/
import Derived.Test.YtddblfffjhoiaabGreatBki
import Derived.Carry
import Derived.Test.YtddblfffjhoiaabGreatSla
import Derived.Laws.Tables
import Derived.Deep.WholeRow
namespace Go.Proofs.YtddblfffjhoiaabGreat
open Go.RowKit Go.Shelf Go.Lib
attribute [local go_sem] Oper.semAt_some

/-- A list of notices that a call made: v, from base on. -/
def Made (w W : World) (v : Value) (l : List N3) : Prop := W.ownsRow w.heap.size 61 3 v l.length (fl l)
theorem filter_snoc {α : Type} (P : α → Bool) (l : List α) (x : α) : (l ++ [x]).filter P = if P x = true then l.filter P ++ [x] else l.filter P := by
  rw [List.filter_append]
  by_cases h : P x = true
  · rw [if_pos h]; simp [h]
  · rw [if_neg h]; simp [h]
theorem pfx_len {l m : List N3} (h : l <+: m) (P : N3 → Bool) : (l.filter P).length ≤ m.length := Nat.le_trans (List.length_filter_le P l) h.length_le
theorem row_below {w w' : World} {base : Nat} {e : TypeId} {size : Nat} {v : Value} {n : Nat} {xs : List Value} (h : w.ownsRow base e size v n xs) (hb : Below w.heap.size w w') : w'.ownsRow base e size v n xs := by
  obtain ⟨h1, h2⟩ := h
  refine ⟨h1, ?_⟩
  rcases h2 with h2 | ⟨g, cap, cur, h3, h4, h5, h6⟩
  · exact .inl h2
  · exact .inr ⟨g, cap, cur, h3, h4, (hb.block g (lt_at h5)).trans h5, h6⟩
def pAll : N3 → Bool := fun _ => true
def pNew : N3 → Bool := fun x => !decide (x = (x.1, 0, 1))
set_option maxHeartbeats 1000000 in
theorem news1_any (o t k : Int) (w : World) : Calls Tryz.prog 123 #[nt o t k] w fun e w' => e = .returned (.bool (pNew (o, t, k))) ∧ Below w.heap.size w w' := by
  have hmx : Tryz.prog.follows .mixedOrders = true := by kernel_rfl
  have hj0 : NB (w.alloc (.cells #[.int .i64 o, .int .i64 t, .int .i64 k] 61)) w.heap.size o t k ∧ Below w.heap.size w (w.alloc (.cells #[.int .i64 o, .int .i64 t, .int .i64 k] 61)) := ⟨NB.new _ _ _ _, al1 _ _⟩
  go_enter Tryz.func123, Tryz.ntmps123
  unfold nt
  go_wp2
  rename_i Q0 K0 hK
  refine wp_region_any hmx ?_
  refine wpAny_pure (fun i__ => ([(nt o t k), (.pointer (some ⟨w.heap.size, 0, none⟩)), (.int .i64 o), (nt o 0 1), (.bool (!decide ((o, t, k) = (o, 0, 1)))), (.bool (!decide ((o, t, k) = (o, 0, 1))))] : List Value).getD i__ undef) (fun V => NB V w.heap.size o t k ∧ Below w.heap.size w V) (by kernel_rfl) ⟨hj0.1.carry (Below.refl _ _).drew, hj0.2.drew⟩ ?_ ?_
  · refine (stepsFrom_cons ?_ (stepsFrom_cons ?_ (stepsFrom_cons ?_ (stepsFrom_cons ?_ (stepsFrom_cons ?_ (stepsFrom_cons ?_ trivial))))))
    · exact step_load rfl trivial _ _ _ rfl rfl (fun w hw => load_nt hw.1)
    · exact step_fieldAddr rfl trivial _ _ _ _ rfl rfl (fun w hw => field_n0 w _)
    · exact step_load rfl trivial _ _ _ rfl rfl (fun w hw => load_n0 hw.1)
    · exact step_call rfl trivial 71 _ _ [(.int .i64 o)] rfl (by kernel_rfl) (enters_of Tryz.func71 (by kernel_rfl) rfl) (fun w hw => (fresh_any o w).mono (by rintro e w' ⟨rfl, hb⟩; exact ⟨rfl, hw.1.carry hb, bel2 hw.2 hb⟩))
    · exact step_binOp rfl trivial _ _ _ _ _ _ _ rfl rfl rfl (fun w hw => bin_neqn _ _ _ _ _ _)
    · exact step_assign rfl trivial _ rfl (by kernel_rfl) (fun _ h => h)
  intro W hW
  first | refine hK _ _ ?_ | refine (‹∀ (a : Act) (w : World), Code.wp Tryz.prog _ _ a w → _›) _ _ ?_
  simp only [finL, List.getD_cons_zero, List.getD_cons_succ, Nat.zero_add, Nat.reduceAdd, List.setIfInBounds_toArray, List.set_cons_zero, List.set_cons_succ]
  go_wp2
  go_ret
  exact ⟨rfl, hW.2⟩
set_option maxHeartbeats 4000000 in
set_option maxRecDepth 100000 in
theorem gn_in {w : World} {p g : Nat} {l : List N3} (h : Bk w p g l) (h0 : 0 < l.length) (h1 : l.length ≤ 100) : CallsIn Fence.wide 0 Tryz.prog 122 #[.pointer (some ⟨p, 0, none⟩), .func (.func 123) #[] #[]] w fun e w' => ∃ v, e = .returned v ∧ Made w w' v (l.filter pNew) ∧ Below w.heap.size w w' := by
  obtain ⟨ic, hic, hz0, hz1, hz2⟩ := info_partsN
  have hwt : Hid (∀ o t k W, Calls Tryz.prog 123 #[nt o t k] W fun e w' => e = .returned (.bool (pNew (o, t, k))) ∧ Below W.heap.size W w') := news1_any
  have hal := ball_any ((h.alloc (.cells #[.func (.func 123) #[] #[]] 103)).alloc (.cells #[.slice none 0 0] 26)) h0 h1
  clear h
  refine callsIn_of_wp_marks Tryz.func122 rfl trivial ?_ rfl
  simp only [Tryz.ntmps122, List.size_toArray, List.length_cons, List.length_nil, Nat.reduceAdd, Nat.reduceSub, Array.replicate_succ, Array.replicate_zero, List.push_toArray, List.append_toArray, List.nil_append, List.cons_append]
  gi_wp2
  with_reducible (refine And.intro (wfn _) (And.intro wdep ?_))
  refine (callsIn_wide.2 hal).mono ?_
  rintro e W0 ⟨bx, gt, rfl, hgt, hbx, hsb, hb⟩
  have b0 : Below w.heap.size w W0 := bel2 (al2 _ _ _) hb
  have f0 : Boxed W0 w.heap.size 103 (.func (.func 123) #[] #[]) := (hb.block _ (by simp; omega)).trans (old_at (new_at rfl))
  have v0 : Boxed W0 (w.heap.size + 1) 26 (.slice none 0 0) := (hb.block _ (by simp)).trans (new_at (by simp))
  have o0 : W0.ownsRow w.heap.size 61 3 (.slice none 0 0) 0 [] := World.ownsRow_nil _ _ _ _
  have hgl : gt < W0.heap.size := lt_at hsb.row
  have hgt2 : w.heap.size + 2 ≤ gt := by simp at hgt; omega
  have hz : w.heap.size + 2 ≤ W0.heap.size := by omega
  clear hal hb hgt hbx
  gi_wp2
  refine wp_rangeE (kb := 0) (gf := 135) (lb := #[.pointer (some ⟨bx, 0, none⟩)]) rfl (enters_of Tryz.func135 (by kernel_rfl) rfl)
    (all1_seq l bx gt _ h1 hsb) hgl (fun _ => rfl)
    (fun pre W => (∃ v, Boxed W (w.heap.size + 1) 26 v ∧ W.ownsRow w.heap.size 61 3 v (pre.filter pNew).length (fl (pre.filter pNew)) ∧ ∀ q, v.ownBlock = some q → W0.heap.size + 2 ≤ q) ∧ Boxed W w.heap.size 103 (.func (.func 123) #[] #[]) ∧ Below w.heap.size w W)
    (fun _ _ _ => False)
    (OwnFrom.and ((rowBoxP_own _ _ _ _ _ (fun pre : List N3 => (pre.filter pNew).length) (fun pre => fl (pre.filter pNew)) _).from _) (OwnFrom.and ((boxed_own _ _ (fun _ : List N3 => (.func (.func 123) #[] #[]))).from _) (ownFrom_below (Nat.le_refl _) (by omega))))
    (fun _ _ _ _ _ hs _ _ => hs)
    ⟨⟨_, v0, o0, fun q e => by cases e⟩, f0, b0⟩ (fun _ _ _ => trivial)
    (fun x a' W => ∃ B, a' = { tmps := #[.pointer (some ⟨p, 0, none⟩), .func (.func 123) #[] #[], undef, .pointer (some ⟨w.heap.size, 0, none⟩), .slice none 0 0, .pointer (some ⟨w.heap.size + 1, 0, none⟩), .pointer (some ⟨B, 0, none⟩), .pointer (some ⟨p, 0, none⟩), .func (.func 135) #[] #[.pointer (some ⟨bx, 0, none⟩)], nt x.1 x.2.1 x.2.2, undef, undef, undef, undef, undef, undef, undef, undef], defers := [] } ∧ NB W B x.1 x.2.1 x.2.2)
    (fun x a' s X Y row hs hg hr => by
      obtain ⟨B, e, hn⟩ := hs
      exact ⟨B, e, (grownBy_keeps_cells hg (fun r q => (hr r q).2) hn rfl).trans hn⟩) ?assign ?body ?done ?stop
  case assign =>
    rintro l2 pre ⟨o, t, k⟩ W K hi hsz hK
    unfold nt
    gi_wp2
    refine hK _ _ (Kept.below (al1 _ _) (by omega) (by omega)) ?_ ⟨_, rfl, NB.new _ _ _ _⟩
    obtain ⟨⟨v, hv, hrow, hq⟩, hf, hb⟩ := hi
    exact ⟨⟨v, hv.alloc _, hrow.alloc _, hq⟩, hf.alloc _, hb.alloc hb.size _⟩
  case body =>
    rintro l2 pre ⟨o, t, k⟩ a' W ⟨⟨v, hv, hrow, hq⟩, hf, hb⟩ ⟨B, rfl, hn⟩ hsz hpr
    have hfl := pfx_len hpr pNew
    have hcv := hv.cell
    have hcf := hf.cell
    have n0 := hn.c0
    have n1 := hn.c1
    have n2 := hn.c2
    dsimp only at n0 n1 n2
    have hc := hwt.out o t k W
    have hfs := filter_snoc pNew pre (o, t, k)
    generalize hPx : pNew (o, t, k) = b at hc hfs
    unfold nt at hc
    cases b with
    | false =>
      rw [if_neg (by decide)] at hfs
      gi_wp2_with (refine ⟨trivial, rfl, ?_⟩; gi_at_call 123; refine (callsIn_wide.2 hc).mono ?_; rintro e u1 ⟨rfl, hb1⟩)
      refine ⟨Kept.below hb1 (by omega) (by omega), ⟨v, (hb1.block _ hv.lt).trans hv, ?_, hq⟩, (hb1.block _ hf.lt).trans hf, bel2 hb hb1⟩
      rw [hfs]
      exact row_below hrow hb1
    | true =>
      rw [if_pos rfl] at hfs
      rw [hfs] at hfl
      have hln : (pre.filter pNew).length + 1 ≤ l.length := by simpa using hfl
      gi_wp2_with (first | (refine ⟨trivial, rfl, ?_⟩; gi_at_call 123; refine (callsIn_wide.2 hc).mono ?_; rintro e u1 ⟨rfl, hb1⟩; have hv1 : Boxed u1 (w.heap.size + 1) 26 v := (hb1.block _ hv.lt).trans hv; have hn1 := hn.carry hb1; have hrow1 := row_below hrow hb1; have hf1 : Boxed u1 w.heap.size 103 (.func (.func 123) #[] #[]) := (hb1.block _ hf.lt).trans hf; have hbw1 := bel2 hb hb1; have hcv1 := hv1.cell; have m0 := hn1.c0; have m1 := hn1.c1; have m2 := hn1.c2; dsimp only at m0 m1 m2) | (gi_at_builtin; refine wpListIn_append_own_at _ rfl _ _ 26 rfl w.heap.size 61 ic _ 3 24 Tryz.underlying26 hic hz0 hz1 hz2 rfl (by decide) _ _ _ rfl (hrow1.alloc _) ⟨u1.heap.size, 0, none⟩ 1 1 [_, _, _] rfl rfl (rowN _ #[_, _, _] _) (by simp [Value.oneCell']) (by unfold maxLen; omega) (by omega) (Nat.le_trans hbw1.size (by simp)) ?_; intro v' w2 hown' hgrow _ hob; obtain ⟨g', cap', rfl⟩ := ownsRow_succ hown'; have hv2 : Boxed w2 (w.heap.size + 1) 26 v := (hv1.alloc _).kept hgrow (fun e' => by have := hq _ e'.symm; omega); have hf2 := (hf1.alloc (.cells #[.int .i64 o, .int .i64 t, .int .i64 k] 61)).kept hgrow (fun e' => by have := hq _ e'.symm; omega); have hc2 := hv2.cell; have hfz2 := hv2.frozen))
      have hz1' : W.heap.size ≤ u1.heap.size := hb1.size
      refine ⟨?_, ⟨_, hv2.set _, ?_, ?_⟩, ?_, ?_⟩
      · refine (((Kept.below hb1 (by omega) (by omega)).trans (Kept.below (al1 _ _) (by omega) (by omega))).trans (Kept.grown hgrow (by simp; omega) (by simp; omega) (fun q hq' => ?_))).trans (Kept.setCell (by omega) (by omega))
        have := hq q hq'
        omega
      · rw [hfs, fl_append, List.length_append]
        refine ownsRow_set hown' (fun q hq' => ?_) _
        rcases hob with e | e
        · have := hq q (e ▸ hq'); omega
        · rw [e] at hq'; simp at hq'; omega
      · intro q hq'
        rcases hob with e | e
        · exact hq q (e ▸ hq')
        · rw [e] at hq'; simp at hq'; omega
      · exact (set_other (by omega)).trans hf2
      · exact ((hbw1.alloc hbw1.size _).grown hgrow (by have := hbw1.size; simp; omega) (fun q hq' => by have := hq q hq'; omega)).setCell (by simp) _
  case done =>
    rintro W ⟨⟨v, hv, hrow, hq⟩, hf, hb⟩ hK
    have hcv := hv.cell
    gi_wp2
    refine ⟨by simp, .inl ⟨_, _, rfl, run_takeDeferred hK, ?_⟩⟩
    exact ⟨v, by simp [results, Tryz.results122, go_sem], v, rfl, ownsRow_putObj hrow _ hK rfl, below_taken _ hb (by omega)⟩
  case stop =>
    rintro c pre W _ h _
    exact h.elim
set_option maxHeartbeats 1000000 in
theorem bnews_any {w : World} {p g : Nat} {l : List N3} (h : Bk w p g l) (h0 : 0 < l.length) (h1 : l.length ≤ 100) : Calls Tryz.prog 77 #[.pointer (some ⟨p, 0, none⟩)] w fun e w' => ∃ v, e = .returned v ∧ Made w w' v (l.filter pNew) ∧ Below w.heap.size w w' := by
  have hg := callsIn_wide.1 (gn_in h h0 h1)
  go_enter Tryz.func77, Tryz.ntmps77
  go_wp2_with (go_at_call 122; (with_reducible refine hg.mono ?_); rintro e u1 ⟨v, rfl, hm, hb1⟩)
  go_ret
  exact ⟨v, rfl, hm, hb1⟩
end Go.Proofs.YtddblfffjhoiaabGreat
namespace Go.Proofs.YtddblfffjhoiaabGreat
open Go.RowKit Go.Shelf Go.Lib
attribute [local go_sem] Oper.semAt_some

/-- The nodes that are suspected. -/
def sst (N : Nat) (x : N3) : Nat := if x.2.2 = 2 then N ||| 2 ^ x.1.toNat else N
def sus (l : List N3) : Nat := l.foldl sst 0
theorem pfx_at {pre l : List N3} {x : N3} (h : pre ++ [x] <+: l) : l[pre.length]? = some x := by
  obtain ⟨r, hr⟩ := h
  rw [← hr, List.append_assoc, List.getElem?_append_right (Nat.le_refl _)]
  simp
theorem pfx_pre {pre l : List N3} {x : N3} (h : pre ++ [x] <+: l) : pre <+: l := (List.prefix_append pre [x]).trans h
theorem fold_sst_lt : ∀ (m : List N3) (N : Nat), (∀ x ∈ m, x.1.toNat < 100) → N < 2 ^ 100 → m.foldl sst N < 2 ^ 100
  | [], _, _, h => h
  | x :: m, N, hv, h => by
    refine fold_sst_lt m (sst N x) (fun y hy => hv y (by simp [hy])) ?_
    unfold sst
    split
    · exact Nat.or_lt_two_pow h (Nat.pow_lt_pow_right (by decide) (hv x (by simp)))
    · exact h
theorem bok_lt {l : List N3} (hb : Bok l) (hl : l.length ≤ 100) : ∀ x ∈ l, x.1.toNat < 100 := by
  intro x hx
  obtain ⟨i, hi⟩ := List.mem_iff_getElem?.1 hx
  have := (hb i x hi).1
  have := (List.getElem?_eq_some_iff.1 hi).1
  omega
theorem fold_sst_bit : ∀ (m : List N3) (N i : Nat), (m.foldl sst N).testBit i = (N.testBit i || m.any fun x => decide (x.2.2 = 2 ∧ x.1.toNat = i))
  | [], N, i => by simp
  | x :: m, N, i => by
    rw [List.foldl_cons, fold_sst_bit m, List.any_cons]
    unfold sst
    by_cases h : x.2.2 = 2
    · rw [if_pos h, Nat.testBit_or, Nat.testBit_two_pow]
      simp [h, Bool.or_assoc]
    · rw [if_neg h]
      simp [h]
theorem sus_bit {l : List N3} (hb : Bok l) {i : Nat} {x : N3} (hx : l[i]? = some x) : (sus l).testBit i = decide (x.2.2 = 2) := by
  unfold sus
  rw [fold_sst_bit]
  simp only [Nat.zero_testBit, Bool.false_or]
  by_cases h : x.2.2 = 2
  · rw [decide_eq_true h, List.any_eq_true]
    exact ⟨x, List.mem_of_getElem? hx, decide_eq_true ⟨h, by have := (hb i x hx).1; omega⟩⟩
  · rw [decide_eq_false h, List.any_eq_false]
    intro y hy
    rw [decide_eq_true_iff]
    rintro ⟨h1, h2⟩
    obtain ⟨j, hj⟩ := List.mem_iff_getElem?.1 hy
    have := (hb j y hj).1
    obtain rfl : j = i := by omega
    rw [hx] at hj
    obtain rfl := Option.some.inj hj
    exact h h1
theorem sus_hi {l : List N3} (hb : Bok l) {i : Nat} (hi : l.length ≤ i) : (sus l).testBit i = false := by
  unfold sus
  rw [fold_sst_bit]
  simp only [Nat.zero_testBit, Bool.false_or]
  rw [List.any_eq_false]
  intro y hy
  rw [decide_eq_true_iff]
  rintro ⟨_, h2⟩
  obtain ⟨j, hj⟩ := List.mem_iff_getElem?.1 hy
  have := (hb j y hj).1
  have := (List.getElem?_eq_some_iff.1 hj).1
  omega
theorem sus_lt {l : List N3} (hb : Bok l) (hl : l.length ≤ 100) : sus l < 2 ^ 100 := fold_sst_lt l 0 (bok_lt hb hl) (by decide)
theorem kept_set4 {bx B m : Nat} {W : World} {b M : Nat} (h1 : b ≠ bx) (h2 : b < B ∨ B + m ≤ b) : Kept bx B m W (set4 W b M) := by
  unfold set4
  exact (((Kept.setCell h1 h2).trans (Kept.setCell h1 h2)).trans (Kept.setCell h1 h2)).trans (Kept.setCell h1 h2)
theorem Holds4.other4 {W : World} {b b' M : Nat} {c : Nat → Nat} (h : Holds4 W b' c) (hne : b' ≠ b) : Holds4 (set4 W b M) b' c := by
  unfold set4 Holds4
  rw [Below.heap_setCell _ _ _ _ hne, Below.heap_setCell _ _ _ _ hne, Below.heap_setCell _ _ _ _ hne, Below.heap_setCell _ _ _ _ hne]
  exact h
end Go.Proofs.YtddblfffjhoiaabGreat
namespace Go.Proofs.YtddblfffjhoiaabGreat
open Go.RowKit Go.Shelf Go.Lib

theorem Holds4.turn {W V : World} {p g b : Nat} {c : Nat → Nat} {l : List N3} (hs : Holds4 W b c) (h : Bk W p g l) (hg : W.grownBy V (some g)) : Holds4 V b c :=
  (hg.block _ (lt_at hs) (by simpa using (h.ne4 hs).2.symm)).trans hs
theorem filter_all (l : List N3) : l.filter pAll = l := List.filter_eq_self.2 (fun _ _ => rfl)
/-- A list that was made, read. -/
theorem Made.rd {w W : World} {v : Value} {l : List N3} (h : Made w W v l) : ∃ ad cap, v = .slice ad l.length cap ∧ RdN W ad l ∧ (∀ a, ad = some a → w.heap.size ≤ a.block) := by
  unfold Made at h
  rcases own_form h with ⟨rfl, e⟩ | ⟨g, cap, rfl, h1, h2, h3⟩
  · refine ⟨none, 0, by rw [e], fun hn => ?_, fun a ha => by cases ha⟩
    exact absurd (List.eq_nil_of_length_eq_zero e) hn
  · exact ⟨some ⟨g, 0, none⟩, cap, rfl, fun _ => ⟨g, 0, rfl, h2, nts_own h rfl⟩, fun a ha => by obtain rfl := Option.some.inj ha; exact h1⟩
theorem sv_zero : sv 0 = .agg #[.int .u32 0, .int .u32 0, .int .u32 0, .int .u32 0] := by simp [sv, wd_zero]
/-- What is merged twice is merged once. -/
theorem bat_after {l m : List N3} (hb : Bok l) (h : m.all (vlx l.length) = true) : ∀ x ∈ m, bat (mrg l m) x = false := by
  intro x hx
  have hv := List.all_eq_true.1 h x hx
  have hl := mrg_len hb m
  rw [bat_iff (mrg_bok hb m) (by rw [hl]; exact hv), mrg_rk hb h]
  have := fold_upr_mem l.length m (rkl l x.1.toNat) x hx hv
  exact decide_eq_false (by omega)
theorem fold_still1 : ∀ (m : List N3) {l : List N3}, (∀ x ∈ m, bat l x = false) → m.foldl rse l = l
  | [], _, _ => rfl
  | x :: m, l, h => by
    have e : rse l x = l := if_neg (by rw [h x (by simp)]; decide)
    rw [List.foldl_cons, e]
    exact fold_still1 m (fun y hy => h y (by simp [hy]))
theorem still {l m : List N3} (h : ∀ x ∈ m, bat l x = false) : mrs l m = 0 ∧ mrg l m = l := by
  unfold mrs mrg
  rw [fold_still m 0 h, fold_still1 m h]
  constructor <;> split <;> rfl
theorem twice {l : List N3} (hb : Bok l) (m : List N3) : mrs (mrg l m) m = 0 ∧ mrg (mrg l m) m = mrg l m := by
  by_cases h : m.all (vlx l.length) = true
  · exact still (bat_after hb h)
  · have e : mrg l m = l := if_neg h
    rw [e]
    exact ⟨if_neg h, e⟩
theorem own_list {l : List N3} (hb : Bok l) (h1 : 1 ≤ l.length) (h2 : l.length ≤ 100) : l.all (vlx l.length) = true ∧ ∀ x ∈ l, bat l x = false := by
  have hv : ∀ x ∈ l, vlx l.length x = true := by
    intro x hx
    obtain ⟨i, hi⟩ := List.mem_iff_getElem?.1 hx
    obtain ⟨e, hr⟩ := hb i x hi
    have := (List.getElem?_eq_some_iff.1 hi).1
    exact vlx_iff.2 ⟨h1, h2, by omega, by omega, hr⟩
  refine ⟨List.all_eq_true.2 hv, fun x hx => ?_⟩
  rw [bat_iff hb (hv x hx)]
  obtain ⟨i, hi⟩ := List.mem_iff_getElem?.1 hx
  obtain ⟨e, _⟩ := hb i x hi
  rw [show x.1.toNat = i by omega, rkl_some hi]
  exact decide_eq_false (by omega)
theorem fold_tke_still : ∀ (m : List N3) {l : List N3}, (∀ x ∈ m, bat l x = false) → m.foldl tke l = l
  | [], _, _ => rfl
  | x :: m, l, h => by
    have e : tke l x = l := by
      unfold tke
      split
      · exact if_neg (by rw [h x (by simp)]; decide)
      · rfl
    rw [List.foldl_cons, e]
    exact fold_tke_still m (fun y hy => h y (by simp [hy]))
/-- Two books and two sets. -/
structure JT (w : World) (L : List (Nat × Nat × List N3)) (bs bt : Nat) (W : World) : Prop where
  books : Bks w L W
  one : Holds4 W bs (wd 0)
  two : Holds4 W bt (wd 0)
theorem JT.carry {w W V : World} {L : List (Nat × Nat × List N3)} {bs bt : Nat} (h : JT w L bs bt W) (hb : Below W.heap.size W V) : JT w L bs bt V := ⟨h.books.carry hb, h.one.carry hb, h.two.carry hb⟩
theorem JT.turn {w W V : World} {L : List (Nat × Nat × List N3)} {bs bt : Nat} (h : JT w L bs bt W) (i : Nat) {p g : Nat} {l l' : List N3} (hi : L[i]? = some (p, g, l)) (hk : Bk V p g l') (hg : W.grownBy V (some g)) : JT w (L.set i (p, g, l')) bs bt V :=
  ⟨h.books.turn i hi hk hg, h.one.turn (h.books.get i hi) hg, h.two.turn (h.books.get i hi) hg⟩
end Go.Proofs.YtddblfffjhoiaabGreat
namespace Go.Proofs.YtddblfffjhoiaabGreat
open Go.RowKit Go.Shelf Go.Lib

/-- The cells of a row of bools. -/
def bC (p : Nat → Bool) : Array Value := ((List.range 100).map fun i => Value.bool (p i)).toArray
def HoldsB (w : World) (b : Nat) (p : Nat → Bool) : Prop := w.heap[b]? = some (.cells (bC p) 173)
theorem bC_size (p : Nat → Bool) : (bC p).size = 100 := by simp [bC]
theorem bC_get (p : Nat → Bool) (k : Nat) (h : k < 100) : (bC p)[k]? = some (.bool (p k)) := by simp [bC, h]
theorem bC_set (p : Nat → Bool) (k : Nat) (b : Bool) : (bC p).setIfInBounds k (.bool b) = bC (fun j => if j = k then b else p j) := by
  apply Array.ext_getElem?; intro i
  rw [Array.getElem?_setIfInBounds, bC_size]
  by_cases h : i < 100
  · rw [bC_get _ _ h, bC_get _ _ h]
    by_cases e : k = i
    · subst e; simp [h]
    · have e2 : ¬ i = k := fun c => e c.symm
      simp [e, e2]
  · have h2 : ∀ q, (bC q)[i]? = none := fun q => Array.getElem?_eq_none (by rw [bC_size]; omega)
    rw [h2, h2]
    by_cases e : k = i
    · subst e; simp [h]
    · simp [e]
theorem bC_congr {p q : Nat → Bool} (h : ∀ i, i < 100 → p i = q i) : bC p = bC q := by
  unfold bC
  congr 1
  apply List.map_congr_left
  intro i hi
  rw [h i (List.mem_range.1 hi)]
theorem bC_one (p : Nat → Bool) : (bC p).all (·.oneCell') = true := by
  rw [Array.all_eq_true_iff_forall_mem]
  intro v hv
  simp [bC] at hv
  obtain ⟨i, _, rfl⟩ := hv
  rfl
theorem zeroB : ∀ w, (zeroValue 173).run Tryz.prog w = .ok (.agg (bC (fun _ => false))) w := (zero_of_info (P := Tryz.prog) (n := 100) (by kernel_rfl)).1
theorem sizeB : (Tryz.prog.info? 173).map (·.size) = some 100 := by kernel_rfl
theorem setRow_get {W : World} {b : Nat} {cs cs' : Array Value} {t : TypeId} {z : Nat × Nat} (h : W.heap[b]? = some (.cells cs t z)) : (W.setRow b cs').heap[b]? = some (.cells cs' t z) := by
  simp [World.setRow, Array.getElem?_modify, h]
theorem setRow_other {W : World} {b k : Nat} {cs : Array Value} (h : k ≠ b) : (W.setRow b cs).heap[k]? = W.heap[k]? := by
  have h2 : ¬ b = k := fun e => h e.symm
  simp [World.setRow, Array.getElem?_modify, h2]
theorem below_setRow {n b : Nat} {w W : World} {cs : Array Value} (h : Below n w W) (hn : n ≤ b) : Below n w (W.setRow b cs) :=
  h.trans ⟨rfl, rfl, rfl, by simp [World.setRow], fun k hk => setRow_other (by omega)⟩
theorem HoldsB.lt {w : World} {b : Nat} {p : Nat → Bool} (h : HoldsB w b p) : b < w.heap.size := (Array.getElem?_eq_some_iff.1 h).1
theorem HoldsB.carry {w w' : World} {b : Nat} {p : Nat → Bool} (h : HoldsB w b p) (hb : Below w.heap.size w w') : HoldsB w' b p := (hb.block _ h.lt).trans h
theorem HoldsB.cell {w : World} {b : Nat} {p : Nat → Bool} (h : HoldsB w b p) (k : Nat) (hk : k < 100) : w.cell? ⟨b, k, none⟩ = some (.bool (p k)) := by
  unfold HoldsB at h
  simp [World.cell?, h, bC_get p k hk]
theorem HoldsB.frozen {w : World} {b : Nat} {p : Nat → Bool} (h : HoldsB w b p) (k : Nat) : w.frozen? ⟨b, k, none⟩ = false := by
  unfold HoldsB at h
  simp [World.frozen?, h]
theorem HoldsB.congr {w : World} {b : Nat} {p q : Nat → Bool} (h : HoldsB w b p) (e : ∀ j, j < 100 → p j = q j) : HoldsB w b q := by
  unfold HoldsB at *
  rw [h, bC_congr e]
theorem HoldsB.set {w : World} {b : Nat} {p : Nat → Bool} (h : HoldsB w b p) (k : Nat) (v : Bool) : HoldsB (w.setCell ⟨b, k, none⟩ (.bool v)) b (fun j => if j = k then v else p j) := by
  unfold HoldsB at *
  have hlt := (Array.getElem?_eq_some_iff.1 h).1
  rw [← bC_set p k v]
  simp [World.setCell, h, Array.getElem?_modify]
theorem HoldsB.load {w : World} {b : Nat} {p : Nat → Bool} (h : HoldsB w b p) : (loadVar 173 ⟨b, 0, none⟩).run Tryz.prog w = .ok (.agg (bC p)) w :=
  run_loadVar_row (P := Tryz.prog) w b _ _ (bC p) (0, 0) _ h Tryz.underlying173 rfl (by rw [bC_size]; exact sizeB)
theorem HoldsB.store {w : World} {b : Nat} {p : Nat → Bool} (h : HoldsB w b p) (q : Nat → Bool) : (storeVar 173 ⟨b, 0, none⟩ (.agg (bC q))).run Tryz.prog w = .ok () (w.setRow b (bC q)) :=
  run_storeVar_row (P := Tryz.prog) w b _ _ (bC p) (bC q) h (by rw [bC_size]; exact sizeB) (by rw [bC_size, bC_size]) (bC_one q)
theorem HoldsB.row {w : World} {b : Nat} {p : Nat → Bool} (h : HoldsB w b p) (q : Nat → Bool) : HoldsB (w.setRow b (bC q)) b q := setRow_get h
theorem retB {f : Func} {p : Tmp} {R : Ending → World → Prop} {a : Act} {w : World} {b : Nat} {q : Nat → Bool} (hres : f.results = #[.cell p 173]) (hp : a.tmps.getD p undef = .pointer (some ⟨b, 0, none⟩)) (hd : a.defers = []) (h : HoldsB w b q) (hR : R (.returned (.agg (bC q))) w) : bodyPost Tryz.prog f R .ret a w :=
  bodyPost_ret (results_cell_row hres a.tmps w b _ _ (0, 0) _ hp h Tryz.underlying173 rfl (by rw [bC_size]; exact sizeB)) hd hR
theorem shr_bit (x n : Nat) : ((x / 2 ^ n &&& 1 : Nat) == 1) = x.testBit n := by
  rw [Nat.and_one_is_mod, Nat.testBit_eq_decide_div_mod_eq]
  by_cases h : x / 2 ^ n % 2 = 1 <;> simp [h]
theorem mixB (p : Nat → Bool) (k j : Nat) : (if j = k then p k else if j < k then p j else false) = if j < k + 1 then p j else false := by
  by_cases q : j = k
  · subst q; simp
  · by_cases q2 : j < k
    · rw [if_neg q, if_pos q2, if_pos (by omega)]
    · rw [if_neg q, if_neg q2, if_neg (by omega)]
set_option maxHeartbeats 1000000 in
set_option maxRecDepth 100000 in
theorem row_any (N : Nat) (w : World) : Calls Tryz.prog 132 #[sv N] w fun e w' => e = .returned (.agg (bC N.testBit)) ∧ Below w.heap.size w w' := by
  have hz := zeroB
  simp only [sv]
  go_enter Tryz.func132, Tryz.ntmps132
  go_wp2
  clear hz
  go_loopw [4] (fun c wz => ∃ k : Nat, c = .int .i64 k ∧ k ≤ 100 ∧ Holds4 wz w.heap.size (wd N) ∧ HoldsB wz (w.heap.size + 1) (fun _ => false) ∧ HoldsB wz (w.heap.size + 2) (fun j => if j < k then N.testBit j else false) ∧ Below w.heap.size w wz) (fun c _ => 100 - vnat c)
  case atStart => exact ⟨0, rfl, by omega, get_old (get_old (get_new (by simp))), get_old (get_new (by simp)), get_new (by simp), (((Below.refl _ w).alloc (by simp) _).alloc (by simp) _).alloc (by simp; omega) _⟩
  case round =>
    obtain ⟨k, rfl, hk, h1, h2, h3, hb⟩ := hrel
    by_cases hk4 : k < 100
    · have hki : (k : Int) < 100 := by omega
      have hq : k / 32 < 4 := by omega
      have hq' : (k : Int) / 32 < 4 := by omega
      have hc1 := h1.cell (k / 32) hq
      have hc3 := h3.cell k hk4
      have hf3 := h3.frozen k
      have hbit : (bits BinOp.and IntKind.u32 ((wd N (k / 32) : Int) / 2 ^ (k % 32)) 1 == 1) = N.testBit k := by
        have e : (wd N (k / 32) : Int) / 2 ^ (k % 32) = ((wd N (k / 32) / 2 ^ (k % 32) : Nat) : Int) := by simp
        have hl : wd N (k / 32) / 2 ^ (k % 32) < 4294967296 := Nat.lt_of_le_of_lt (Nat.div_le_self _ _) (wd_lt N _)
        rw [e, show (1 : Int) = ((1 : Nat) : Int) from rfl, u32_and_nat _ _ hl (by omega), ← bit_word N k, ← shr_bit]
        by_cases h : wd N (k / 32) / 2 ^ (k % 32) &&& 1 = 1
        · rw [h]; rfl
        · have h2 : ¬ ((wd N (k / 32) / 2 ^ (k % 32) &&& 1 : Nat) : Int) = ((1 : Nat) : Int) := by omega
          rw [beq_eq_false_iff_ne.2 h, beq_eq_false_iff_ne.2 h2]
      go_wp2
      go_roundw
      case rel => exact ⟨k + 1, by simp, by omega, (Below.heap_setCell _ _ _ _ (by simp; omega)).trans h1, (Below.heap_setCell _ _ _ _ (by simp)).trans h2, (h3.set k _).congr (fun j _ => mixB N.testBit k j), hb.setCell (p := ⟨w.heap.size + 1 + 1, k, none⟩) (by simp; omega) _⟩
      case measure => simp only [vnat]; omega
    · have hk5 : k = 100 := by omega
      subst hk5
      have h3' : HoldsB wr (w.heap.size + 2) N.testBit := h3.congr (fun j hj => by simp [hj])
      clear h3
      go_wp2_with (first | (refine wpList_load_row rfl 173 _ rfl (w.heap.size + 1 + 1) rfl _ _ _ _ h3' Tryz.underlying173 rfl (by rw [bC_size]; exact sizeB) ?_) | (refine wpList_store_row rfl 173 _ _ rfl (w.heap.size + 1) (bC N.testBit) rfl rfl _ _ h2 (by rw [bC_size]; exact sizeB) (by rw [bC_size, bC_size]) (bC_one _) ?_))
      exact retB rfl rfl rfl (h2.row _) ⟨rfl, below_setRow hb (by omega)⟩

def mkN (p : Nat → Bool) : Nat → Nat
  | 0 => 0
  | k + 1 => if p k then mkN p k ||| 2 ^ k else mkN p k
theorem testBit_mkN (p : Nat → Bool) : ∀ k i, (mkN p k).testBit i = (decide (i < k) && p i)
  | 0, i => by simp [mkN]
  | k + 1, i => by
    have ih := testBit_mkN p k i
    by_cases e : i = k
    · subst e
      cases h : p i <;> simp [mkN, h, ih]
    · have e2 : decide (i < k + 1) = decide (i < k) := by simp; omega
      rw [e2]
      cases h : p k
      · simp [mkN, h, ih]
      · rw [mkN, if_pos h, Nat.testBit_or, ih, Nat.testBit_two_pow]
        have e3 : ¬ k = i := fun c => e c.symm
        simp [e3]
theorem mkN_eq {p : Nat → Bool} {X : Nat} (h : ∀ i, X.testBit i = (decide (i < 100) && p i)) : mkN p 100 = X := by
  apply Nat.eq_of_testBit_eq; intro i
  rw [testBit_mkN, h]
theorem mkN_cln (N : Nat) : mkN N.testBit 100 = cln N := mkN_eq (fun i => testBit_cln N i)
theorem run_boxB (p : Nat → Bool) (w : World) : (Instr.box 173 (.agg (bC p))).run Tryz.prog w = .ok (.pointer (some ⟨w.heap.size, 0, none⟩)) (w.alloc (.cells (bC p) 173)) := by
  go_simp
theorem idxB (b k : Nat) (hk : k < 100) (w : World) : (Instr.indexAt 173 (.pointer (some ⟨b, 0, none⟩)) (.int .i64 (k : Int))).run Tryz.prog w = .ok (.pointer (some ⟨b, k, none⟩)) w := by
  have h1 : (k : Int) < 100 := by omega
  have h2 : 0 ≤ (k : Int) := by omega
  go_simp
theorem pow_bit' (i : Nat) : 2 ^ (i % 32) < 4294967296 := Nat.pow_lt_pow_right (a := 2) (n := 32) (by decide) (Nat.mod_lt _ (by decide))
set_option maxHeartbeats 1000000 in
set_option maxRecDepth 100000 in
theorem make_any (p : Nat → Bool) (w : World) : Calls Tryz.prog 133 #[.agg (bC p)] w fun e w' => e = .returned (sv (mkN p 100)) ∧ Below w.heap.size w w' := by
  have hmx : Tryz.prog.follows .mixedOrders = true := by kernel_rfl
  go_enter Tryz.func133, Tryz.ntmps133
  go_wp2
  go_loopw [4] (fun c wz => ∃ k : Nat, c = .int .i64 k ∧ k ≤ 100 ∧ HoldsB wz w.heap.size p ∧ Holds4 wz (w.heap.size + 1) (fun _ => 0) ∧ Holds4 wz (w.heap.size + 2) (wd (mkN p k)) ∧ Below w.heap.size w wz) (fun c _ => 100 - vnat c)
  case atStart => exact ⟨0, rfl, by omega, get_old (get_old (get_new (by simp))), get_old (get_new (by simp)), (show Holds4 _ _ (fun _ => 0) from get_new (by simp)).congr (fun j _ => by simp [mkN, wd]), (((Below.refl _ w).alloc (by simp) _).alloc (by simp) _).alloc (by simp; omega) _⟩
  case round =>
    obtain ⟨k, rfl, hk, h1, h2, h3, hb⟩ := hrel
    by_cases hk4 : k < 100
    · have hki : (k : Int) < 100 := by omega
      have hq : k / 32 < 4 := by omega
      have hc1 := h1.cell k hk4
      cases hp : p k
      · rw [hp] at hc1
        go_wp2
        go_roundw
        case rel => exact ⟨k + 1, by simp, by omega, h1, h2, by simp only [mkN, hp]; exact h3, hb⟩
        case measure => simp only [vnat]; omega
      · rw [hp] at hc1
        go_wp2
        rename_i Q0 K0 hK
        refine wp_region_any hmx ?_
        refine wpAny_last 11 (fun i__ => ([(.int .i64 (k : Int)), (.int .i64 ((k / 32 : Nat) : Int)), (.int .i64 (k : Int)), (.int .i64 ((k / 32 : Nat) : Int)), (.pointer (some ⟨w.heap.size + 2, k / 32, none⟩)), (.int .u32 ((wd (mkN p k) (k / 32) : Nat) : Int)), (.int .i64 (k : Int)), (.int .i64 ((k % 32 : Nat) : Int)), (.int .u32 ((2 ^ (k % 32) : Nat) : Int)), (.int .u32 ((wd (mkN p k) (k / 32) ||| 2 ^ (k % 32) : Nat) : Int)), (.pointer (some ⟨w.heap.size + 2, k / 32, none⟩)), undef] : List Value).getD i__ undef) (fun W => HoldsB W w.heap.size p ∧ Holds4 W (w.heap.size + 1) (fun _ => 0) ∧ Holds4 W (w.heap.size + 2) (wd (mkN p k)) ∧ Below w.heap.size w W) (fun W => HoldsB W w.heap.size p ∧ Holds4 W (w.heap.size + 1) (fun _ => 0) ∧ Holds4 W (w.heap.size + 2) (wd (mkN p k ||| 2 ^ k)) ∧ Below w.heap.size w W) rfl (by kernel_rfl) (by kernel_rfl) ⟨h1, h2, h3, hb.drew⟩ ?_ ?_  ?_
        · refine (stepsFrom_cons ?_ (stepsFrom_cons ?_ (stepsFrom_cons ?_ (stepsFrom_cons ?_ (stepsFrom_cons ?_ (stepsFrom_cons ?_ (stepsFrom_cons ?_ (stepsFrom_cons ?_ (stepsFrom_cons ?_ (stepsFrom_cons ?_ (stepsFrom_cons ?_ trivial)))))))))))
          · exact step_move rfl trivial _ rfl (by kernel_rfl)
          · exact step_binOp rfl trivial _ _ _ _ _ _ _ rfl rfl rfl (fun w hw => bin_quo64 k 32 (by omega) (by omega))
          · exact step_move rfl trivial _ rfl (by kernel_rfl)
          · exact step_binOp rfl trivial _ _ _ _ _ _ _ rfl rfl rfl (fun w hw => bin_quo64 k 32 (by omega) (by omega))
          · exact step_indexAddr rfl trivial _ _ _ _ _ rfl rfl rfl (fun w hw => idx4 _ _ hq w)
          · exact step_load rfl trivial _ _ _ rfl rfl (fun w hw => load4 w _ _ _ hw.2.2.1 hq)
          · exact step_move rfl trivial _ rfl (by kernel_rfl)
          · exact step_binOp rfl trivial _ _ _ _ _ _ _ rfl rfl rfl (fun w hw => bin_rem64 k 32 (by omega))
          · exact step_binOp rfl trivial _ _ _ _ _ _ _ rfl rfl rfl (fun w hw => bin_shl32 .i64 (k % 32) (by omega))
          · exact step_binOp rfl trivial _ _ _ _ _ _ _ rfl rfl rfl (fun w hw => bin_or32 _ _ (wd_lt _ _) (pow_bit' k))
          · exact step_indexAddr rfl trivial _ _ _ _ _ rfl rfl rfl (fun w hw => idx4 _ _ hq w)
        · intro o ho
          cases ho
          exact step_store rfl trivial rfl _ _ _ _ _ rfl rfl rfl (fun w' hw => by obtain ⟨w2, e1, e2, e3, e4⟩ := store4 w' _ _ _ _ hw.2.2.1 hq; refine ⟨w2, e1, (e4 _ (by omega)).trans hw.1, (e4 _ (by omega)).trans hw.2.1, e2.congr (fun j hj => ?_), hw.2.2.2.trans (e3 _ (by omega))⟩; rw [wd_bit]; split <;> simp_all)
        intro W hW
        first | refine hK _ _ ?_ | refine (‹∀ (a : Act) (w : World), Code.wp Tryz.prog _ _ a w → _›) _ _ ?_
        simp only [finL, List.getD_cons_zero, List.getD_cons_succ, Nat.zero_add, Nat.reduceAdd, List.setIfInBounds_toArray, List.set_cons_zero, List.set_cons_succ]
        obtain ⟨g1, g2, g3, g4⟩ := hW
        go_wp2
        go_roundw
        case rel => exact ⟨k + 1, by simp, by omega, g1, g2, by simp only [mkN, hp, if_true]; exact g3, g4⟩
        case measure => simp only [vnat]; omega
    · have hk5 : k = 100 := by omega
      subst hk5
      obtain ⟨x0, x1, x2, x3, _⟩ := h3.facts
      obtain ⟨y0, y1, y2, y3, z0, z1, z2, z3⟩ := h2.facts
      have H2 : Hid (Holds4 wr (w.heap.size + 1) (fun _ => 0)) := h2
      clear h3 h2
      go_wp2
      exact ret4 rfl rfl rfl (fin4 H2.out _) ⟨rfl, below4 hb (by omega) _⟩
end Go.Proofs.YtddblfffjhoiaabGreat
