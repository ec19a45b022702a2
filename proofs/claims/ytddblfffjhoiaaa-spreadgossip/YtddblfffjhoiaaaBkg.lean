/- gather, List, News: what they answer, at every book. -/
import Derived.Test.YtddblfffjhoiaaaBki
import Derived.Carry
namespace Go.Proofs.Ytddblfffjhoiaaa
open Go.RowKit Go.Shelf Go.Lib
attribute [local go_sem] Oper.semAt_some

/-- A list of notices that a call made: v, from base on. -/
def Made (w W : World) (v : Value) (l : List N3) : Prop := W.ownsRow w.heap.size 32 3 v l.length (fl l)
theorem filter_snoc {α : Type} (P : α → Bool) (l : List α) (x : α) : (l ++ [x]).filter P = if P x = true then l.filter P ++ [x] else l.filter P := by
  rw [List.filter_append]
  by_cases h : P x = true
  · rw [if_pos h]; simp [h]
  · rw [if_neg h]; simp [h]
theorem pfx_len {l m : List N3} (h : l <+: m) (P : N3 → Bool) : (l.filter P).length ≤ m.length := Nat.le_trans (List.length_filter_le P l) h.length_le
theorem row_below {w w' : World} {base : Nat} {e : TypeId} {size : Nat} {v : Value} {n : Nat} {xs : List Value} (h : w.ownsRow base e size v n xs) (hb : Below w.heap.size w w') : w'.ownsRow base e size v n xs := by
  obtain ⟨h1, h2⟩ := h
  refine ⟨h1, ?_⟩
  rcases h2 with h2 | ⟨g, cap, cur, h3, h4, h5, h6⟩
  · exact .inl h2
  · exact .inr ⟨g, cap, cur, h3, h4, (hb.block g (lt_at h5)).trans h5, h6⟩
def pAll : N3 → Bool := fun _ => true
def pNew : N3 → Bool := fun x => !decide (x = (x.1, 0, 1))
set_option maxHeartbeats 1000000 in
theorem list1_any (o t k : Int) (w : World) : Calls Try.prog 41 #[nt o t k] w fun e w' => e = .returned (.bool (pAll (o, t, k))) ∧ Below w.heap.size w w' := by
  unfold nt
  go_enter Try.func41, Try.ntmps41
  go_wp2
  go_ret
  exact ⟨rfl, al1 _ _⟩
set_option maxHeartbeats 1000000 in
theorem news1_any (o t k : Int) (w : World) : Calls Try.prog 55 #[nt o t k] w fun e w' => e = .returned (.bool (pNew (o, t, k))) ∧ Below w.heap.size w w' := by
  have hmx : Try.prog.follows .mixedOrders = true := by kernel_rfl
  have hj0 : NB (w.alloc (.cells #[.int .i64 o, .int .i64 t, .int .i64 k] 32)) w.heap.size o t k ∧ Below w.heap.size w (w.alloc (.cells #[.int .i64 o, .int .i64 t, .int .i64 k] 32)) := ⟨NB.new _ _ _ _, al1 _ _⟩
  go_enter Try.func55, Try.ntmps55
  unfold nt
  go_wp2
  rename_i Q0 K0 hK
  refine wp_region_any hmx ?_
  refine wpAny_pure (fun i__ => ([(nt o t k), (.pointer (some ⟨w.heap.size, 0, none⟩)), (.int .i64 o), (nt o 0 1), (.bool (!decide ((o, t, k) = (o, 0, 1)))), (.bool (!decide ((o, t, k) = (o, 0, 1))))] : List Value).getD i__ undef) (fun V => NB V w.heap.size o t k ∧ Below w.heap.size w V) (by kernel_rfl) ⟨hj0.1.carry (Below.refl _ _).drew, hj0.2.drew⟩ ?_ ?_
  · refine (stepsFrom_cons ?_ (stepsFrom_cons ?_ (stepsFrom_cons ?_ (stepsFrom_cons ?_ (stepsFrom_cons ?_ (stepsFrom_cons ?_ trivial))))))
    · exact step_load rfl trivial _ _ _ rfl rfl (fun w hw => load_nt hw.1)
    · exact step_fieldAddr rfl trivial _ _ _ _ rfl rfl (fun w hw => field_n0 w _)
    · exact step_load rfl trivial _ _ _ rfl rfl (fun w hw => load_n0 hw.1)
    · exact step_call rfl trivial 42 _ _ [(.int .i64 o)] rfl (by kernel_rfl) (enters_of Try.func42 (by kernel_rfl) rfl) (fun w hw => (fresh_any o w).mono (by rintro e w' ⟨rfl, hb⟩; exact ⟨rfl, hw.1.carry hb, bel2 hw.2 hb⟩))
    · exact step_binOp rfl trivial _ _ _ _ _ _ _ rfl rfl rfl (fun w hw => bin_neqn _ _ _ _ _ _)
    · exact step_assign rfl trivial _ rfl (by kernel_rfl) (fun _ h => h)
  intro W hW
  first | refine hK _ _ ?_ | refine (‹∀ (a : Act) (w : World), Code.wp Try.prog _ _ a w → _›) _ _ ?_
  simp only [finL, List.getD_cons_zero, List.getD_cons_succ, Nat.zero_add, Nat.reduceAdd, List.setIfInBounds_toArray, List.set_cons_zero, List.set_cons_succ]
  go_wp2
  go_ret
  exact ⟨rfl, hW.2⟩
set_option maxHeartbeats 4000000 in
set_option maxRecDepth 100000 in
theorem gl_in {w : World} {p g : Nat} {l : List N3} (h : Bk w p g l) (h0 : 0 < l.length) (h1 : l.length ≤ 100) : CallsIn Fence.wide 0 Try.prog 40 #[.pointer (some ⟨p, 0, none⟩), .func (.func 41) #[] #[]] w fun e w' => ∃ v, e = .returned v ∧ Made w w' v (l.filter pAll) ∧ Below w.heap.size w w' := by
  obtain ⟨ic, hic, hz0, hz1, hz2⟩ := info_partsN
  have hwt : Hid (∀ o t k W, Calls Try.prog 41 #[nt o t k] W fun e w' => e = .returned (.bool (pAll (o, t, k))) ∧ Below W.heap.size W w') := list1_any
  have hal := ball_any ((h.alloc (.cells #[.func (.func 41) #[] #[]] 61)).alloc (.cells #[.slice none 0 0] 22)) h0 h1
  clear h
  refine callsIn_of_wp_marks Try.func40 rfl trivial ?_ rfl
  simp only [Try.ntmps40, List.size_toArray, List.length_cons, List.length_nil, Nat.reduceAdd, Nat.reduceSub, Array.replicate_succ, Array.replicate_zero, List.push_toArray, List.append_toArray, List.nil_append, List.cons_append]
  gi_wp2
  with_reducible (refine And.intro (wfn _) (And.intro wdep ?_))
  refine (callsIn_wide.2 hal).mono ?_
  rintro e W0 ⟨bx, gt, rfl, hgt, hbx, hsb, hb⟩
  have b0 : Below w.heap.size w W0 := bel2 (al2 _ _ _) hb
  have f0 : Boxed W0 w.heap.size 61 (.func (.func 41) #[] #[]) := (hb.block _ (by simp; omega)).trans (old_at (new_at rfl))
  have v0 : Boxed W0 (w.heap.size + 1) 22 (.slice none 0 0) := (hb.block _ (by simp)).trans (new_at (by simp))
  have o0 : W0.ownsRow w.heap.size 32 3 (.slice none 0 0) 0 [] := World.ownsRow_nil _ _ _ _
  have hgl : gt < W0.heap.size := lt_at hsb.row
  have hgt2 : w.heap.size + 2 ≤ gt := by simp at hgt; omega
  have hz : w.heap.size + 2 ≤ W0.heap.size := by omega
  clear hal hb hgt hbx
  gi_wp2
  refine wp_rangeE (kb := 0) (gf := 51) (lb := #[.pointer (some ⟨bx, 0, none⟩)]) rfl (enters_of Try.func51 (by kernel_rfl) rfl)
    (all1_seq l bx gt _ h1 hsb) hgl (fun _ => rfl)
    (fun pre W => (∃ v, Boxed W (w.heap.size + 1) 22 v ∧ W.ownsRow w.heap.size 32 3 v (pre.filter pAll).length (fl (pre.filter pAll)) ∧ ∀ q, v.ownBlock = some q → W0.heap.size + 2 ≤ q) ∧ Boxed W w.heap.size 61 (.func (.func 41) #[] #[]) ∧ Below w.heap.size w W)
    (fun _ _ _ => False)
    (OwnFrom.and ((rowBoxP_own _ _ _ _ _ (fun pre : List N3 => (pre.filter pAll).length) (fun pre => fl (pre.filter pAll)) _).from _) (OwnFrom.and ((boxed_own _ _ (fun _ : List N3 => (.func (.func 41) #[] #[]))).from _) (ownFrom_below (Nat.le_refl _) (by omega))))
    (fun _ _ _ _ _ hs _ _ => hs)
    ⟨⟨_, v0, o0, fun q e => by cases e⟩, f0, b0⟩ (fun _ _ _ => trivial)
    (fun x a' W => ∃ B, a' = { tmps := #[.pointer (some ⟨p, 0, none⟩), .func (.func 41) #[] #[], undef, .pointer (some ⟨w.heap.size, 0, none⟩), .slice none 0 0, .pointer (some ⟨w.heap.size + 1, 0, none⟩), .pointer (some ⟨B, 0, none⟩), .pointer (some ⟨p, 0, none⟩), .func (.func 51) #[] #[.pointer (some ⟨bx, 0, none⟩)], nt x.1 x.2.1 x.2.2, undef, undef, undef, undef, undef, undef, undef, undef], defers := [] } ∧ NB W B x.1 x.2.1 x.2.2)
    (fun x a' s X Y row hs hg hr => by
      obtain ⟨B, e, hn⟩ := hs
      exact ⟨B, e, (grownBy_keeps_cells hg (fun r q => (hr r q).2) hn rfl).trans hn⟩) ?assign ?body ?done ?stop
  case assign =>
    rintro l2 pre ⟨o, t, k⟩ W K hi hsz hK
    unfold nt
    gi_wp2
    refine hK _ _ (Kept.below (al1 _ _) (by omega) (by omega)) ?_ ⟨_, rfl, NB.new _ _ _ _⟩
    obtain ⟨⟨v, hv, hrow, hq⟩, hf, hb⟩ := hi
    exact ⟨⟨v, hv.alloc _, hrow.alloc _, hq⟩, hf.alloc _, hb.alloc hb.size _⟩
  case body =>
    rintro l2 pre ⟨o, t, k⟩ a' W ⟨⟨v, hv, hrow, hq⟩, hf, hb⟩ ⟨B, rfl, hn⟩ hsz hpr
    have hfl := pfx_len hpr pAll
    have hcv := hv.cell
    have hcf := hf.cell
    have n0 := hn.c0
    have n1 := hn.c1
    have n2 := hn.c2
    dsimp only at n0 n1 n2
    have hc := hwt.out o t k W
    have hfs := filter_snoc pAll pre (o, t, k)
    generalize hPx : pAll (o, t, k) = b at hc hfs
    unfold nt at hc
    cases b with
    | false =>
      rw [if_neg (by decide)] at hfs
      gi_wp2_with (refine ⟨trivial, rfl, ?_⟩; gi_at_call 41; refine (callsIn_wide.2 hc).mono ?_; rintro e u1 ⟨rfl, hb1⟩)
      refine ⟨Kept.below hb1 (by omega) (by omega), ⟨v, (hb1.block _ hv.lt).trans hv, ?_, hq⟩, (hb1.block _ hf.lt).trans hf, bel2 hb hb1⟩
      rw [hfs]
      exact row_below hrow hb1
    | true =>
      rw [if_pos rfl] at hfs
      rw [hfs] at hfl
      have hln : (pre.filter pAll).length + 1 ≤ l.length := by simpa using hfl
      gi_wp2_with (first | (refine ⟨trivial, rfl, ?_⟩; gi_at_call 41; refine (callsIn_wide.2 hc).mono ?_; rintro e u1 ⟨rfl, hb1⟩; have hv1 : Boxed u1 (w.heap.size + 1) 22 v := (hb1.block _ hv.lt).trans hv; have hn1 := hn.carry hb1; have hrow1 := row_below hrow hb1; have hf1 : Boxed u1 w.heap.size 61 (.func (.func 41) #[] #[]) := (hb1.block _ hf.lt).trans hf; have hbw1 := bel2 hb hb1; have hcv1 := hv1.cell; have m0 := hn1.c0; have m1 := hn1.c1; have m2 := hn1.c2; dsimp only at m0 m1 m2) | (gi_at_builtin; refine wpListIn_append_own_at _ rfl _ _ 22 rfl w.heap.size 32 ic _ 3 24 Try.underlying22 hic hz0 hz1 hz2 rfl (by decide) _ _ _ rfl (hrow1.alloc _) ⟨u1.heap.size, 0, none⟩ 1 1 [_, _, _] rfl rfl (rowN _ #[_, _, _] _) (by simp [Value.oneCell']) (by unfold maxLen; omega) (by omega) (Nat.le_trans hbw1.size (by simp)) ?_; intro v' w2 hown' hgrow _ hob; obtain ⟨g', cap', rfl⟩ := ownsRow_succ hown'; have hv2 : Boxed w2 (w.heap.size + 1) 22 v := (hv1.alloc _).kept hgrow (fun e' => by have := hq _ e'.symm; omega); have hf2 := (hf1.alloc (.cells #[.int .i64 o, .int .i64 t, .int .i64 k] 32)).kept hgrow (fun e' => by have := hq _ e'.symm; omega); have hc2 := hv2.cell; have hfz2 := hv2.frozen))
      have hz1' : W.heap.size ≤ u1.heap.size := hb1.size
      refine ⟨?_, ⟨_, hv2.set _, ?_, ?_⟩, ?_, ?_⟩
      · refine (((Kept.below hb1 (by omega) (by omega)).trans (Kept.below (al1 _ _) (by omega) (by omega))).trans (Kept.grown hgrow (by simp; omega) (by simp; omega) (fun q hq' => ?_))).trans (Kept.setCell (by omega) (by omega))
        have := hq q hq'
        omega
      · rw [hfs, fl_append, List.length_append]
        refine ownsRow_set hown' (fun q hq' => ?_) _
        rcases hob with e | e
        · have := hq q (e ▸ hq'); omega
        · rw [e] at hq'; simp at hq'; omega
      · intro q hq'
        rcases hob with e | e
        · exact hq q (e ▸ hq')
        · rw [e] at hq'; simp at hq'; omega
      · exact (set_other (by omega)).trans hf2
      · exact ((hbw1.alloc hbw1.size _).grown hgrow (by have := hbw1.size; simp; omega) (fun q hq' => by have := hq q hq'; omega)).setCell (by simp) _
  case done =>
    rintro W ⟨⟨v, hv, hrow, hq⟩, hf, hb⟩ hK
    have hcv := hv.cell
    gi_wp2
    refine ⟨by simp, .inl ⟨_, _, rfl, run_takeDeferred hK, ?_⟩⟩
    exact ⟨v, by simp [results, Try.results40, go_sem], v, rfl, ownsRow_putObj hrow _ hK rfl, below_taken _ hb (by omega)⟩
  case stop =>
    rintro c pre W _ h _
    exact h.elim
set_option maxHeartbeats 1000000 in
theorem blist_any {w : World} {p g : Nat} {l : List N3} (h : Bk w p g l) (h0 : 0 < l.length) (h1 : l.length ≤ 100) : Calls Try.prog 19 #[.pointer (some ⟨p, 0, none⟩)] w fun e w' => ∃ v, e = .returned v ∧ Made w w' v (l.filter pAll) ∧ Below w.heap.size w w' := by
  have hg := callsIn_wide.1 (gl_in h h0 h1)
  go_enter Try.func19, Try.ntmps19
  go_wp2_with (go_at_call 40; (with_reducible refine hg.mono ?_); rintro e u1 ⟨v, rfl, hm, hb1⟩)
  go_ret
  exact ⟨v, rfl, hm, hb1⟩
set_option maxHeartbeats 4000000 in
set_option maxRecDepth 100000 in
theorem gn_in {w : World} {p g : Nat} {l : List N3} (h : Bk w p g l) (h0 : 0 < l.length) (h1 : l.length ≤ 100) : CallsIn Fence.wide 0 Try.prog 40 #[.pointer (some ⟨p, 0, none⟩), .func (.func 55) #[] #[]] w fun e w' => ∃ v, e = .returned v ∧ Made w w' v (l.filter pNew) ∧ Below w.heap.size w w' := by
  obtain ⟨ic, hic, hz0, hz1, hz2⟩ := info_partsN
  have hwt : Hid (∀ o t k W, Calls Try.prog 55 #[nt o t k] W fun e w' => e = .returned (.bool (pNew (o, t, k))) ∧ Below W.heap.size W w') := news1_any
  have hal := ball_any ((h.alloc (.cells #[.func (.func 55) #[] #[]] 61)).alloc (.cells #[.slice none 0 0] 22)) h0 h1
  clear h
  refine callsIn_of_wp_marks Try.func40 rfl trivial ?_ rfl
  simp only [Try.ntmps40, List.size_toArray, List.length_cons, List.length_nil, Nat.reduceAdd, Nat.reduceSub, Array.replicate_succ, Array.replicate_zero, List.push_toArray, List.append_toArray, List.nil_append, List.cons_append]
  gi_wp2
  with_reducible (refine And.intro (wfn _) (And.intro wdep ?_))
  refine (callsIn_wide.2 hal).mono ?_
  rintro e W0 ⟨bx, gt, rfl, hgt, hbx, hsb, hb⟩
  have b0 : Below w.heap.size w W0 := bel2 (al2 _ _ _) hb
  have f0 : Boxed W0 w.heap.size 61 (.func (.func 55) #[] #[]) := (hb.block _ (by simp; omega)).trans (old_at (new_at rfl))
  have v0 : Boxed W0 (w.heap.size + 1) 22 (.slice none 0 0) := (hb.block _ (by simp)).trans (new_at (by simp))
  have o0 : W0.ownsRow w.heap.size 32 3 (.slice none 0 0) 0 [] := World.ownsRow_nil _ _ _ _
  have hgl : gt < W0.heap.size := lt_at hsb.row
  have hgt2 : w.heap.size + 2 ≤ gt := by simp at hgt; omega
  have hz : w.heap.size + 2 ≤ W0.heap.size := by omega
  clear hal hb hgt hbx
  gi_wp2
  refine wp_rangeE (kb := 0) (gf := 51) (lb := #[.pointer (some ⟨bx, 0, none⟩)]) rfl (enters_of Try.func51 (by kernel_rfl) rfl)
    (all1_seq l bx gt _ h1 hsb) hgl (fun _ => rfl)
    (fun pre W => (∃ v, Boxed W (w.heap.size + 1) 22 v ∧ W.ownsRow w.heap.size 32 3 v (pre.filter pNew).length (fl (pre.filter pNew)) ∧ ∀ q, v.ownBlock = some q → W0.heap.size + 2 ≤ q) ∧ Boxed W w.heap.size 61 (.func (.func 55) #[] #[]) ∧ Below w.heap.size w W)
    (fun _ _ _ => False)
    (OwnFrom.and ((rowBoxP_own _ _ _ _ _ (fun pre : List N3 => (pre.filter pNew).length) (fun pre => fl (pre.filter pNew)) _).from _) (OwnFrom.and ((boxed_own _ _ (fun _ : List N3 => (.func (.func 55) #[] #[]))).from _) (ownFrom_below (Nat.le_refl _) (by omega))))
    (fun _ _ _ _ _ hs _ _ => hs)
    ⟨⟨_, v0, o0, fun q e => by cases e⟩, f0, b0⟩ (fun _ _ _ => trivial)
    (fun x a' W => ∃ B, a' = { tmps := #[.pointer (some ⟨p, 0, none⟩), .func (.func 55) #[] #[], undef, .pointer (some ⟨w.heap.size, 0, none⟩), .slice none 0 0, .pointer (some ⟨w.heap.size + 1, 0, none⟩), .pointer (some ⟨B, 0, none⟩), .pointer (some ⟨p, 0, none⟩), .func (.func 51) #[] #[.pointer (some ⟨bx, 0, none⟩)], nt x.1 x.2.1 x.2.2, undef, undef, undef, undef, undef, undef, undef, undef], defers := [] } ∧ NB W B x.1 x.2.1 x.2.2)
    (fun x a' s X Y row hs hg hr => by
      obtain ⟨B, e, hn⟩ := hs
      exact ⟨B, e, (grownBy_keeps_cells hg (fun r q => (hr r q).2) hn rfl).trans hn⟩) ?assign ?body ?done ?stop
  case assign =>
    rintro l2 pre ⟨o, t, k⟩ W K hi hsz hK
    unfold nt
    gi_wp2
    refine hK _ _ (Kept.below (al1 _ _) (by omega) (by omega)) ?_ ⟨_, rfl, NB.new _ _ _ _⟩
    obtain ⟨⟨v, hv, hrow, hq⟩, hf, hb⟩ := hi
    exact ⟨⟨v, hv.alloc _, hrow.alloc _, hq⟩, hf.alloc _, hb.alloc hb.size _⟩
  case body =>
    rintro l2 pre ⟨o, t, k⟩ a' W ⟨⟨v, hv, hrow, hq⟩, hf, hb⟩ ⟨B, rfl, hn⟩ hsz hpr
    have hfl := pfx_len hpr pNew
    have hcv := hv.cell
    have hcf := hf.cell
    have n0 := hn.c0
    have n1 := hn.c1
    have n2 := hn.c2
    dsimp only at n0 n1 n2
    have hc := hwt.out o t k W
    have hfs := filter_snoc pNew pre (o, t, k)
    generalize hPx : pNew (o, t, k) = b at hc hfs
    unfold nt at hc
    cases b with
    | false =>
      rw [if_neg (by decide)] at hfs
      gi_wp2_with (refine ⟨trivial, rfl, ?_⟩; gi_at_call 55; refine (callsIn_wide.2 hc).mono ?_; rintro e u1 ⟨rfl, hb1⟩)
      refine ⟨Kept.below hb1 (by omega) (by omega), ⟨v, (hb1.block _ hv.lt).trans hv, ?_, hq⟩, (hb1.block _ hf.lt).trans hf, bel2 hb hb1⟩
      rw [hfs]
      exact row_below hrow hb1
    | true =>
      rw [if_pos rfl] at hfs
      rw [hfs] at hfl
      have hln : (pre.filter pNew).length + 1 ≤ l.length := by simpa using hfl
      gi_wp2_with (first | (refine ⟨trivial, rfl, ?_⟩; gi_at_call 55; refine (callsIn_wide.2 hc).mono ?_; rintro e u1 ⟨rfl, hb1⟩; have hv1 : Boxed u1 (w.heap.size + 1) 22 v := (hb1.block _ hv.lt).trans hv; have hn1 := hn.carry hb1; have hrow1 := row_below hrow hb1; have hf1 : Boxed u1 w.heap.size 61 (.func (.func 55) #[] #[]) := (hb1.block _ hf.lt).trans hf; have hbw1 := bel2 hb hb1; have hcv1 := hv1.cell; have m0 := hn1.c0; have m1 := hn1.c1; have m2 := hn1.c2; dsimp only at m0 m1 m2) | (gi_at_builtin; refine wpListIn_append_own_at _ rfl _ _ 22 rfl w.heap.size 32 ic _ 3 24 Try.underlying22 hic hz0 hz1 hz2 rfl (by decide) _ _ _ rfl (hrow1.alloc _) ⟨u1.heap.size, 0, none⟩ 1 1 [_, _, _] rfl rfl (rowN _ #[_, _, _] _) (by simp [Value.oneCell']) (by unfold maxLen; omega) (by omega) (Nat.le_trans hbw1.size (by simp)) ?_; intro v' w2 hown' hgrow _ hob; obtain ⟨g', cap', rfl⟩ := ownsRow_succ hown'; have hv2 : Boxed w2 (w.heap.size + 1) 22 v := (hv1.alloc _).kept hgrow (fun e' => by have := hq _ e'.symm; omega); have hf2 := (hf1.alloc (.cells #[.int .i64 o, .int .i64 t, .int .i64 k] 32)).kept hgrow (fun e' => by have := hq _ e'.symm; omega); have hc2 := hv2.cell; have hfz2 := hv2.frozen))
      have hz1' : W.heap.size ≤ u1.heap.size := hb1.size
      refine ⟨?_, ⟨_, hv2.set _, ?_, ?_⟩, ?_, ?_⟩
      · refine (((Kept.below hb1 (by omega) (by omega)).trans (Kept.below (al1 _ _) (by omega) (by omega))).trans (Kept.grown hgrow (by simp; omega) (by simp; omega) (fun q hq' => ?_))).trans (Kept.setCell (by omega) (by omega))
        have := hq q hq'
        omega
      · rw [hfs, fl_append, List.length_append]
        refine ownsRow_set hown' (fun q hq' => ?_) _
        rcases hob with e | e
        · have := hq q (e ▸ hq'); omega
        · rw [e] at hq'; simp at hq'; omega
      · intro q hq'
        rcases hob with e | e
        · exact hq q (e ▸ hq')
        · rw [e] at hq'; simp at hq'; omega
      · exact (set_other (by omega)).trans hf2
      · exact ((hbw1.alloc hbw1.size _).grown hgrow (by have := hbw1.size; simp; omega) (fun q hq' => by have := hq q hq'; omega)).setCell (by simp) _
  case done =>
    rintro W ⟨⟨v, hv, hrow, hq⟩, hf, hb⟩ hK
    have hcv := hv.cell
    gi_wp2
    refine ⟨by simp, .inl ⟨_, _, rfl, run_takeDeferred hK, ?_⟩⟩
    exact ⟨v, by simp [results, Try.results40, go_sem], v, rfl, ownsRow_putObj hrow _ hK rfl, below_taken _ hb (by omega)⟩
  case stop =>
    rintro c pre W _ h _
    exact h.elim
set_option maxHeartbeats 1000000 in
theorem bnews_any {w : World} {p g : Nat} {l : List N3} (h : Bk w p g l) (h0 : 0 < l.length) (h1 : l.length ≤ 100) : Calls Try.prog 39 #[.pointer (some ⟨p, 0, none⟩)] w fun e w' => ∃ v, e = .returned v ∧ Made w w' v (l.filter pNew) ∧ Below w.heap.size w w' := by
  have hg := callsIn_wide.1 (gn_in h h0 h1)
  go_enter Try.func39, Try.ntmps39
  go_wp2_with (go_at_call 40; (with_reducible refine hg.mono ?_); rintro e u1 ⟨v, rfl, hm, hb1⟩)
  go_ret
  exact ⟨v, rfl, hm, hb1⟩
end Go.Proofs.Ytddblfffjhoiaaa
