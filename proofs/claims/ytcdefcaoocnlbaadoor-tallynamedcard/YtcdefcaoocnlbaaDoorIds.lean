/- idset.Ids: what it answers, at every input. -/
import Derived.Test.YtcdefcaoocnlbaaDoorItx
import Derived.Test.YtcdefcaoocnlbaaDoorOwn
import Derived.Maps.AppendAt
import Derived.Maps.OwnIn
namespace Go.Proofs.YtcdefcaoocnlbaaDoor
open Go.RowKit Go.Shelf Go.Lib
attribute [local go_sem] Oper.semAt_some

set_option maxHeartbeats 1000000 in
set_option maxRecDepth 100000 in
theorem ids_in (N : Nat) (w : World) (hT : Tab w) :
    CallsIn Fence.wide 0 Tryd.prog 7 #[sv N] w fun e w' => ∃ v, e = .returned v ∧ w'.ownsRow w.heap.size 3 1 v (cnt (cln N)) (intsV (idsTo (cln N) 128)) ∧ Below w.heap.size w w' := by
  have hc := all_any N
  have hn := count_any N
  have hle : cnt (cln N) ≤ 128 := cnt_le _
  have hlen : (idsTo (cln N) 128).length = cnt (cln N) := idsTo_length _ _
  generalize cln N = M at *
  have hT0 := hT.lt
  simp only [sv] at hc hn ⊢
  obtain ⟨ic, hic, hz0, hz1, hz2⟩ := info_parts infoInt
  have hmk0 : ∀ W : World, (Instr.makeSlice 35 (.int .i64 0) (.int .i64 ((cnt M : Nat) : Int))).run Tryd.prog W = .ok (.slice (some ⟨W.heap.size, 0, none⟩) 0 (cnt M)) (W.alloc (.cells (List.replicate (cnt M) (.int .i64 0)).toArray 3)) := by
    intro W
    have h := run_make (P := Tryd.prog) W 35 3 ic _ Tryd.underlying35 hic hz0 .i64 .i64 0 ((cnt M : Nat) : Int) (by omega) (by omega) (by rw [hz2]; omega) (by omega)
    rw [h, hz1]
    have e : madeCells (Value.int .i64 0).cells ((((cnt M : Nat) : Int).toNat) * 1) = (List.replicate (cnt M) (.int .i64 0)).toArray := by
      apply Array.toList_inj.1
      have := toList_madeCells_one (.int .i64 0) (cnt M)
      simpa [Value.cells] using this
    rw [e]; rfl
  generalize cnt M = C at *
  refine callsIn_of_wp_marks Tryd.func7 rfl trivial ?_ rfl
  simp only [Tryd.ntmps7, List.size_toArray, List.length_cons, List.length_nil, Nat.reduceAdd, Nat.reduceSub, Array.replicate_succ, Array.replicate_zero, List.push_toArray, List.append_toArray, List.nil_append, List.cons_append]
  gi_wp2
  with_reducible (refine And.intro (wfn _) (And.intro wdep ?_))
  refine (callsIn_wide.2 (hn _)).mono ?_
  rintro e w1 ⟨rfl, hb1⟩
  have hmk := hmk0 w1
  have q : Hid (Holds4 w1 w.heap.size (wd N)) := (hb1.block _ (by simp)).trans (get_new (by simp))
  have hs1 : w.heap.size < w1.heap.size := q.out.lt
  obtain ⟨y0, y1, y2, y3, z0, z1, z2, z3⟩ := q.out.facts
  gi_wp2
  with_reducible (refine And.intro (wfn _) (And.intro wdep ?_))
  refine (callsIn_wide.2 (hc _)).mono ?_
  rintro e W0 ⟨rfl, hb, hh⟩
  have b1 : Below w.heap.size w w1 := ((Below.refl _ w).alloc (by simp) _).trans (hb1.mono (by simp))
  have zz : w1.heap.size + 3 ≤ W0.heap.size := by have := hh.lt; simp at this; omega
  have b0 : Below w.heap.size w W0 := ((b1.alloc (by omega) _).alloc (by simp; omega) _).trans (hb.mono (by simp; omega))
  have g0 : W0.heap[w1.heap.size]? = some (.cells (Array.replicate C (.int .i64 0)) 3) := (hb.block _ (by simp; omega)).trans (get_old (get_new (by simp)))
  have v0 : Boxed W0 (w1.heap.size + 1) 35 (.slice (some ⟨w1.heap.size, 0, none⟩) 0 C) := (hb.block _ (by simp)).trans (get_new (by simp))
  have o0 : W0.ownsRow w.heap.size 3 1 (.slice (some ⟨w1.heap.size, 0, none⟩) 0 C) 0 [] := ⟨rfl, .inr ⟨_, C, _, rfl, by omega, g0, by omega, by unfold maxLen; omega, by simp, by simp⟩⟩
  clear hb hc hn hmk hmk0 hb1 q y0 y1 y2 y3 z0 z1 z2 z3
  have hh' : Holds4 W0 (w1.heap.size + 1 + 1) (wd M) := by simpa using hh
  gi_wp2
  refine wp_rangeE (kb := 0) (gf := 30) (lb := #[.pointer (some ⟨w1.heap.size + 1 + 1, 0, none⟩)]) rfl (enters_of Tryd.func30 (by kernel_rfl) rfl)
    (all1_seq M (w1.heap.size + 1 + 1) _ hh') (by omega) (fun _ => rfl)
    (fun pre W => (∃ v, Boxed W (w1.heap.size + 1) 35 v ∧ W.ownsRow w.heap.size 3 1 v pre.length (intsV pre) ∧ ∃ g, v.ownBlock = some g ∧ (g = w1.heap.size ∨ W0.heap.size + 2 ≤ g)) ∧ Below w.heap.size w W)
    (fun _ _ _ => False)
    (OwnFrom.and ((rowBoxP_own _ _ _ _ _ (fun pre : List Nat => pre.length) intsV _).from _) (ownFrom_below (Nat.le_refl _) (by omega)))
    (fun _ _ _ _ _ hs _ _ => hs)
    ⟨⟨_, v0, o0, _, rfl, .inl rfl⟩, b0⟩ (fun _ W h => hT.keep h.2 hT0)
    (fun x a' _ => a' = { tmps := #[sv N, .pointer (some ⟨w.heap.size, 0, none⟩), .slice none 0 0, .pointer (some ⟨w1.heap.size + 1, 0, none⟩), .int .i64 (x : Nat), sv N, .int .i64 (C : Nat), .slice (some ⟨w1.heap.size, 0, none⟩) 0 C, sv N, .func (.func 30) #[] #[.pointer (some ⟨w1.heap.size + 1 + 1, 0, none⟩)], .int .i64 (x : Nat), undef, undef, undef, undef, undef], defers := [] })
    (fun _ _ _ _ _ _ hs _ _ => hs) ?assign ?body ?done ?stop
  case assign =>
    rintro l pre x W K hi hsz hK
    gi_wp2
    exact hK _ _ (Kept.refl _ _ _ _) hi rfl
  case body =>
    rintro l pre x a' W ⟨⟨v, hv, hrow, g, hg, hgb⟩, hb⟩ rfl hsz hpr
    have hcv := hv.cell
    have hpl : (pre ++ [x]).length ≤ (idsTo M 128).length := hpr.length_le
    simp only [List.length_append, List.length_cons, List.length_nil] at hpl
    gi_wp2_with (gi_at_builtin; refine wpListIn_append_own_at _ rfl _ _ 35 rfl w.heap.size 3 ic _ 1 8 Tryd.underlying35 hic hz0 hz1 hz2 rfl (by decide) _ _ _ rfl (hrow.alloc _) ⟨W.heap.size, 0, none⟩ 1 1 [.int .i64 (x : Nat)] rfl rfl (one_new _ _ _) (by simp [Value.oneCell']) (by unfold maxLen; omega) (by omega) (by simp; omega) ?_; intro v' w1' hown' hgrow _ hob; obtain ⟨g', cap', rfl⟩ := ownsRow_succ hown'; have hv1 : Boxed w1' (w1.heap.size + 1) 35 v := (hv.alloc _).kept hgrow (fun e' => by have e2 := e'.trans hg; simp at e2; omega); have hc1 := hv1.cell; have hf1 := hv1.frozen)
    have hgk : ∀ k, v.ownBlock = some k → k = g := fun k e => by rw [hg] at e; cases e; rfl
    refine ⟨?_, ⟨⟨_, hv1.set _, ?_, g', rfl, ?_⟩, ?_⟩⟩
    · refine ((Kept.below ((Below.refl _ W).alloc (Nat.le_refl _) _) (by omega) (by omega)).trans (Kept.grown hgrow (by simp; omega) (by simp; omega) (fun k hk => ?_))).trans (Kept.setCell (by omega) (by omega))
      have := hgk k hk
      omega
    · have e : (pre ++ [x]).length = pre.length + 1 := by simp
      have e2 : intsV (pre ++ [x]) = intsV pre ++ [.int .i64 (x : Nat)] := by simp [intsV]
      rw [e, e2]
      refine ownsRow_set hown' (fun k hk => ?_) _
      cases hk
      rcases hob with h | h
      · have h2 := h.trans hg; simp [Value.ownBlock] at h2; simp only; omega
      · simp [Value.ownBlock] at h; simp only; omega
    · rcases hob with h | h
      · have h2 := h.trans hg; simp [Value.ownBlock] at h2; omega
      · simp [Value.ownBlock] at h; omega
    · exact ((hb.alloc (by omega) _).grown hgrow (by simp; omega) (fun k hk => by have := (ownsRow_block hrow k hk).1; omega)).setCell (by simp; omega) _
  case done =>
    rintro W ⟨⟨v, hv, hrow, g, hg, hgb⟩, hb⟩ hK
    have hcv := hv.cell
    gi_wp2
    refine ⟨by simp, .inl ⟨_, _, rfl, run_takeDeferred hK, ?_⟩⟩
    refine ⟨v, by simp [results, Tryd.results7, go_sem], v, rfl, ?_, below_taken _ hb (by omega)⟩
    rw [← hlen]
    exact ownsRow_putObj hrow _ hK rfl
  case stop =>
    rintro c pre W _ h _
    exact h.elim
theorem ids_any (N : Nat) (w : World) (hT : Tab w) :
    Calls Tryd.prog 7 #[sv N] w fun e w' => ∃ v, e = .returned v ∧ w'.ownsRow w.heap.size 3 1 v (cnt (cln N)) (intsV (idsTo (cln N) 128)) ∧ Below w.heap.size w w' := callsIn_wide.1 (ids_in N w hT)
end Go.Proofs.YtcdefcaoocnlbaaDoor
