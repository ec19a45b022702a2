/- slices.Collect of what passOver goes through. -/
import Derived.Test.YtddblfffjhoiaaaSpb
namespace Go.Proofs.Ytddblfffjhoiaaa
open Go.RowKit Go.Shelf Go.Lib
attribute [local go_sem] Oper.semAt_some

set_option maxHeartbeats 4000000 in
set_option maxRecDepth 100000 in
theorem appseq_in {w : World} {xs : List N3} {Ext : World → Prop} {bx m : Nat} (b1 b2 : Nat) (hsq : SeqE Try.prog Ext 49 #[.pointer (some ⟨b1, 0, none⟩), .pointer (some ⟨b2, 0, none⟩)] (fun x : N3 => #[nt x.1 x.2.1 x.2.2]) bx m xs w) (hbx : bx < w.heap.size) (hE : ∀ W, Below w.heap.size w W → Ext W) (hlen : xs.length ≤ 1000000) :
    CallsIn Fence.wide 0 Try.prog 48 #[.slice none 0 0, .func (.func 49) #[] #[.pointer (some ⟨b1, 0, none⟩), .pointer (some ⟨b2, 0, none⟩)]] w fun e w' => ∃ v, e = .returned v ∧ Made w w' v xs ∧ Below w.heap.size w w' := by
  obtain ⟨ic, hic, hz0, hz1, hz2⟩ := info_partsN
  obtain ⟨W0, hW0⟩ : ∃ W0, w.alloc (.cells #[.slice none 0 0] 22) = W0 := ⟨_, rfl⟩
  have b0 : Below w.heap.size w W0 := by rw [← hW0]; exact al1 _ _
  have hz : W0.heap.size = w.heap.size + 1 := by rw [← hW0]; simp
  have v0 : Boxed W0 w.heap.size 22 (.slice none 0 0) := by rw [← hW0]; exact new_at rfl
  have o0 : W0.ownsRow w.heap.size 32 3 (.slice none 0 0) 0 [] := World.ownsRow_nil _ _ _ _
  have hsq0 := hsq.at b0
  have hbx0 : bx < W0.heap.size := by omega
  clear hsq
  refine callsIn_of_wp_marks Try.func48 rfl trivial ?_ rfl
  simp only [Try.ntmps48, List.size_toArray, List.length_cons, List.length_nil, Nat.reduceAdd, Nat.reduceSub, Array.replicate_succ, Array.replicate_zero, List.push_toArray, List.append_toArray, List.nil_append, List.cons_append]
  gi_wp2
  refine wp_rangeE (kb := 0) (gf := 49) (lb := #[.pointer (some ⟨b1, 0, none⟩), .pointer (some ⟨b2, 0, none⟩)]) rfl (enters_of Try.func49 (by kernel_rfl) rfl)
    hsq0 hbx0 (fun _ => rfl)
    (fun pre W => (∃ v, Boxed W w.heap.size 22 v ∧ W.ownsRow w.heap.size 32 3 v pre.length (fl pre) ∧ ∀ q, v.ownBlock = some q → W0.heap.size + (m + 2) ≤ q) ∧ Below w.heap.size w W)
    (fun _ _ _ => False)
    (OwnFrom.and ((rowBoxP_own _ _ _ _ _ (fun pre : List N3 => pre.length) (fun pre => fl pre) _).from _) (ownFrom_below (Nat.le_refl _) (by omega)))
    (fun _ _ _ _ _ hs _ _ => hs)
    ⟨⟨_, v0, o0, fun q e => by cases e⟩, b0⟩ (fun _ _ h => hE _ h.2)
    (fun x a' W => ∃ B, a' = { tmps := #[.slice none 0 0, .func (.func 49) #[] #[.pointer (some ⟨b1, 0, none⟩), .pointer (some ⟨b2, 0, none⟩)], .pointer (some ⟨w.heap.size, 0, none⟩), undef, .slice none 0 0, .pointer (some ⟨B, 0, none⟩), .func (.func 49) #[] #[.pointer (some ⟨b1, 0, none⟩), .pointer (some ⟨b2, 0, none⟩)], nt x.1 x.2.1 x.2.2, undef, undef, undef, undef, undef], defers := [] } ∧ NB W B x.1 x.2.1 x.2.2)
    (fun x a' s X Y row hs hg hr => by
      obtain ⟨B, e, hn⟩ := hs
      exact ⟨B, e, (grownBy_keeps_cells hg (fun r q => (hr r q).2) hn rfl).trans hn⟩) ?assign ?body ?done ?stop
  case assign =>
    rintro l2 pre ⟨o, t, k⟩ W K hi hsz hK
    unfold nt
    gi_wp2
    refine hK _ _ (Kept.below (al1 _ _) (by omega) (by omega)) ?_ ⟨_, rfl, NB.new _ _ _ _⟩
    obtain ⟨⟨v, hv, hrow, hq⟩, hb⟩ := hi
    exact ⟨⟨v, hv.alloc _, hrow.alloc _, hq⟩, hb.alloc hb.size _⟩
  case body =>
    rintro l2 pre ⟨o, t, k⟩ a' W ⟨⟨v, hv, hrow, hq⟩, hb⟩ ⟨B, rfl, hn⟩ hsz hpr
    have hcv := hv.cell
    have n0 := hn.c0
    have n1 := hn.c1
    have n2 := hn.c2
    dsimp only at n0 n1 n2
    have hln : pre.length + 1 ≤ xs.length := by have := hpr.length_le; simpa using this
    have hbs := hb.size
    gi_wp2_with (gi_at_builtin; refine wpListIn_append_own_at _ rfl _ _ 22 rfl w.heap.size 32 ic _ 3 24 Try.underlying22 hic hz0 hz1 hz2 rfl (by decide) _ _ _ rfl (hrow.alloc _) ⟨W.heap.size, 0, none⟩ 1 1 [_, _, _] rfl rfl (rowN _ #[_, _, _] _) (by simp [Value.oneCell']) (by unfold maxLen; omega) (by omega) (Nat.le_trans hb.size (by simp)) ?_; intro v' w2 hown' hgrow _ hob; obtain ⟨g', cap', rfl⟩ := ownsRow_succ hown'; have hv2 : Boxed w2 w.heap.size 22 v := (hv.alloc _).kept hgrow (fun e' => by have := hq _ e'.symm; omega); have hc2 := hv2.cell; have hfz2 := hv2.frozen)
    refine ⟨?_, ⟨_, hv2.set _, ?_, ?_⟩, ?_⟩
    · refine ((Kept.below (al1 _ _) (by omega) (by omega)).trans (Kept.grown hgrow (by simp; omega) (by simp; omega) (fun q hq' => ?_))).trans (Kept.setCell (by omega) (by omega))
      have := hq q hq'
      omega
    · rw [fl_append, List.length_append]
      refine ownsRow_set hown' (fun q hq' => ?_) _
      rcases hob with e | e
      · have := hq q (e ▸ hq'); omega
      · rw [e] at hq'; simp at hq'; omega
    · intro q hq'
      rcases hob with e | e
      · have := hq q (e ▸ hq'); omega
      · rw [e] at hq'; simp at hq'; omega
    · exact ((hb.alloc hb.size _).grown hgrow (by have := hb.size; simp; omega) (fun q hq' => by have := hq q hq'; omega)).setCell (by simp) _
  case done =>
    rintro W ⟨⟨v, hv, hrow, hq⟩, hb⟩ hK
    have hcv := hv.cell
    gi_wp2
    refine ⟨by simp, .inl ⟨_, _, rfl, run_takeDeferred hK, ?_⟩⟩
    exact ⟨v, by simp [results, Try.results48, go_sem], v, rfl, ownsRow_putObj hrow _ hK rfl, below_taken _ hb (by omega)⟩
  case stop =>
    rintro c pre W _ h _
    exact h.elim
set_option maxHeartbeats 1000000 in
theorem collect_any {w : World} {xs : List N3} {Ext : World → Prop} {bx m : Nat} (b1 b2 : Nat) (hsq : SeqE Try.prog Ext 49 #[.pointer (some ⟨b1, 0, none⟩), .pointer (some ⟨b2, 0, none⟩)] (fun x : N3 => #[nt x.1 x.2.1 x.2.2]) bx m xs w) (hbx : bx < w.heap.size) (hE : ∀ W, Below w.heap.size w W → Ext W) (hlen : xs.length ≤ 1000000) :
    Calls Try.prog 27 #[.func (.func 49) #[] #[.pointer (some ⟨b1, 0, none⟩), .pointer (some ⟨b2, 0, none⟩)]] w fun e w' => ∃ v, e = .returned v ∧ Made w w' v xs ∧ Below w.heap.size w w' := by
  have ha := callsIn_wide.1 (appseq_in b1 b2 hsq hbx hE hlen)
  clear hsq
  go_enter Try.func27, Try.ntmps27
  go_wp2_with (go_at_call 48; (with_reducible refine ha.mono ?_); rintro e u1 ⟨v, rfl, hm, hb1⟩)
  go_ret
  exact ⟨v, rfl, hm, hb1⟩
end Go.Proofs.Ytddblfffjhoiaaa
