/- tagbook's All, and its function as an iterator: at every book. -/
import Derived.Test.YtklnfbanfgdgcaaGreatDoorJnJ21
import Derived.Test.YtklnfbanfgdgcaaGreatDoorJnJ20
import Derived.Test.YtklnfbanfgdgcaaGreatDoorJnJ19
import Derived.Shelf.Abstract
import Derived.Shelf.RegionOpen
import Derived.WalkKit
import Derived.WalkSpells
import Derived.OwnWalkIn
import Derived.TacticsInMore
import Derived.LoopNIn
import Derived.LoopIn
import Derived.Lib.OthersKept
import Derived.Test.YtklnfbanfgdgcaaGreatDoorJnJ6
import Derived.Carry
set_option maxHeartbeats 40000000
set_option maxRecDepth 100000
set_option linter.unusedVariables false
namespace Go.Proofs.YtklnfbanfgdgcaaGreatDoor
open Go.RowKit Go.Shelf Go.Lib
attribute [local go_sem] Oper.semAt_some

/-- A box that holds a slice of notices, and these. -/
structure SB (W : World) (bx gt : Nat) (l : List N3) : Prop where
  box : W.heap[bx]? = some (.cells #[.slice (some ⟨gt, 0, none⟩) l.length l.length] 46 (0, 0))
  row : W.heap[gt]? = some (.cells (fl l).toArray 185 (0, 0))
theorem row_nts {W : World} {g : Nat} {l : List N3} (h : W.heap[g]? = some (.cells (fl l).toArray 185 (0, 0))) : NtsAt W g 0 l := by
  intro k x hk
  obtain ⟨c0, c1, c2⟩ := fl_get l k x hk
  rw [Nat.zero_add]
  exact ⟨(cell_at h _).trans (by simpa using c0), (cell_at h _).trans (by simpa using c1), (cell_at h _).trans (by simpa using c2)⟩
set_option maxHeartbeats 1000000 in
set_option maxRecDepth 100000 in
theorem ball1_seq (l : List N3) (bx gt : Nat) (w : World) (hl : l.length ≤ 100) (hs : SB w bx gt l) :
    SeqE Tryz.prog (fun _ => True) 222 #[.pointer (some ⟨bx, 0, none⟩)] (fun x : N3 => #[nt x.1 x.2.1 x.2.2]) gt 0 l w := by
  intro ll J Jx W hW hJ hJx hE hY h0
  have hb0 : W.heap[bx]? = some (.cells #[.slice (some ⟨gt, 0, none⟩) l.length l.length] 46 (0, 0)) := (hW.block _ (lt_at hs.box)).trans hs.box
  have hr0 : W.heap[gt]? = some (.cells (fl l).toArray 185 (0, 0)) := (hW.block _ (lt_at hs.row)).trans hs.row
  have c0 := cell_at hb0 0
  simp at c0
  obtain ⟨n, hn⟩ : ∃ n, l.length = n := ⟨_, rfl⟩
  have HN : Hid (l.length = n) := hn
  rw [hn] at c0 hl
  clear hn hE
  refine callsIn_of_wp Tryz.func222 rfl trivial ?_ rfl
  simp only [Tryz.ntmps222, List.size_toArray, List.length_cons, List.length_nil, Nat.reduceAdd, Nat.reduceSub, Array.replicate_succ, Array.replicate_zero, List.push_toArray, List.append_toArray, List.nil_append, List.cons_append]
  gi_wp2
  gi_loopw [7] (fun c wz => ∃ k : Nat, c = .int .i64 k ∧ k ≤ n ∧ wz.heap[gt]? = some (.cells (fl l).toArray 185 (0, 0)) ∧ J (l.take k) wz ∧ W.heap.size ≤ wz.heap.size) (fun c _ => n - vnat c)
  case atStart => exact ⟨0, rfl, Nat.zero_le _, hr0, h0, Nat.le_refl _⟩
  case round =>
    obtain ⟨k, rfl, hk, hb, hj, hsz⟩ := hrel
    by_cases hkl : k < n
    · have hki : (k : Int) < (n : Int) := by omega
      obtain ⟨⟨o, t, q⟩, hx⟩ : ∃ x, l[k]? = some x := ⟨_, List.getElem?_eq_getElem (by rw [HN.out]; exact hkl)⟩
      obtain ⟨e0, e1, e2⟩ := row_nts hb k _ hx
      rw [Nat.zero_add] at e0 e1 e2
      dsimp only at e0 e1 e2
      have HT : Hid (l.take (k + 1) = l.take k ++ [(o, t, q)]) := by
        show _ = _
        rw [List.take_add_one, hx]
        rfl
      have hj1 : J (l.take k) (wr.alloc (.cells #[.int .i64 o, .int .i64 t, .int .i64 q] 185)) := hJ.alloc _ hj
      have hyl := hY _ (o, t, q) _ hj1 (by simp; omega) (by rw [← HT.out]; exact List.take_prefix _ _)
      obtain ⟨fn, tmps, assign, body, hy, hR⟩ := hyl
      unfold nt at hy
      clear hY hx
      gi_wp2
      refine ⟨rfl, hR.mono ?_⟩
      rintro e' W3 ⟨hkp, (⟨rfl, hj3⟩ | ⟨rfl, hjx⟩)⟩
      · have hb3 : W3.heap[gt]? = some (.cells (fl l).toArray 185 (0, 0)) := hkp.box.trans (old_at hb)
        have hsz3 := hkp.size
        gi_wp2
        go_roundw
        case rel => exact ⟨k + 1, by simp, by omega, hb3, by rw [HT.out]; exact hj3, by simp at hsz3; omega⟩
        case measure => simp [vnat]; omega
      · gi_wp2
        refine bodyPost_ret (results_none rfl _ _ _) rfl ?_
        exact ⟨⟨_, rfl⟩, .inr ⟨_, by rw [← HT.out]; exact List.take_prefix _ _, hjx⟩⟩
    · have hkk : k = n := by omega
      subst hkk
      rw [List.take_of_length_le (by rw [HN.out]; exact Nat.le_refl _)] at hj
      gi_wp2
      go_end0
      exact ⟨⟨_, rfl⟩, .inl hj⟩
set_option maxHeartbeats 1000000 in
theorem ball_any {w : World} {p g : Nat} {l : List N3} (h : Bk w p g l) (h0 : 0 < l.length) (h1 : l.length ≤ 100) : Calls Tryz.prog 177 #[.pointer (some ⟨p, 0, none⟩)] w fun e w' => ∃ bx gt, e = .returned (.func (.func 222) #[] #[.pointer (some ⟨bx, 0, none⟩)]) ∧ w.heap.size ≤ gt ∧ w.heap.size ≤ bx ∧ SB w' bx gt l ∧ Below w.heap.size w w' := by
  have ht := twin_any h h0 h1
  go_enter Tryz.func177, Tryz.ntmps177
  go_wp2_with (first | (go_at_call 220; (with_reducible refine ht.mono ?_); rintro e u1 ⟨p2, g2, rfl, hp2, hg2, hk2, hb2⟩; have hk := bkept_any hk2) | (go_at_call 221; (with_reducible refine hk.mono ?_); rintro e u2 ⟨rfl, hb3⟩))
  go_ret
  have hbb := bel2 hb2 hb3
  exact ⟨u2.heap.size, g2, rfl, hg2, hbb.size, ⟨new_at rfl, (hk2.carry hb3 |>.alloc _).row⟩, hbb.alloc hbb.size _⟩
end Go.Proofs.YtklnfbanfgdgcaaGreatDoor
namespace Go.Proofs.YtklnfbanfgdgcaaGreatDoor
open Go.RowKit Go.Shelf Go.Lib
attribute [local go_sem] Oper.semAt_some

/-- A list of notices that a call made: v, from base on. -/
def Made (w W : World) (v : Value) (l : List N3) : Prop := W.ownsRow w.heap.size 185 3 v l.length (fl l)
theorem filter_snoc {α : Type} (P : α → Bool) (l : List α) (x : α) : (l ++ [x]).filter P = if P x = true then l.filter P ++ [x] else l.filter P := by
  rw [List.filter_append]
  by_cases h : P x = true
  · rw [if_pos h]; simp [h]
  · rw [if_neg h]; simp [h]
theorem pfx_len {l m : List N3} (h : l <+: m) (P : N3 → Bool) : (l.filter P).length ≤ m.length := Nat.le_trans (List.length_filter_le P l) h.length_le
def pAll : N3 → Bool := fun _ => true
def pNew : N3 → Bool := fun x => !decide (x = (x.1, 0, 1))
set_option maxHeartbeats 1000000 in
theorem list1_any (o t k : Int) (w : World) : Calls Tryz.prog 180 #[nt o t k] w fun e w' => e = .returned (.bool (pAll (o, t, k))) ∧ Below w.heap.size w w' := by
  unfold nt
  go_enter Tryz.func180, Tryz.ntmps180
  go_wp2
  go_ret
  exact ⟨rfl, al1 _ _⟩
set_option maxHeartbeats 1000000 in
theorem news1_any (o t k : Int) (w : World) : Calls Tryz.prog 256 #[nt o t k] w fun e w' => e = .returned (.bool (pNew (o, t, k))) ∧ Below w.heap.size w w' := by
  have hmx : Tryz.prog.follows .mixedOrders = true := by kernel_rfl
  have hj0 : NB (w.alloc (.cells #[.int .i64 o, .int .i64 t, .int .i64 k] 185)) w.heap.size o t k ∧ Below w.heap.size w (w.alloc (.cells #[.int .i64 o, .int .i64 t, .int .i64 k] 185)) := ⟨NB.new _ _ _ _, al1 _ _⟩
  go_enter Tryz.func256, Tryz.ntmps256
  unfold nt
  go_wp2
  rename_i Q0 K0 hK
  refine wp_region_any hmx ?_
  refine wpAny_pure (fun i__ => ([(nt o t k), (.pointer (some ⟨w.heap.size, 0, none⟩)), (.int .i64 o), (nt o 0 1), (.bool (!decide ((o, t, k) = (o, 0, 1)))), (.bool (!decide ((o, t, k) = (o, 0, 1))))] : List Value).getD i__ undef) (fun V => NB V w.heap.size o t k ∧ Below w.heap.size w V) (by kernel_rfl) ⟨hj0.1.carry (Below.refl _ _).drew, hj0.2.drew⟩ ?_ ?_
  · refine (stepsFrom_cons ?_ (stepsFrom_cons ?_ (stepsFrom_cons ?_ (stepsFrom_cons ?_ (stepsFrom_cons ?_ (stepsFrom_cons ?_ trivial))))))
    · exact step_load rfl trivial _ _ _ rfl rfl (fun w hw => load_nt hw.1)
    · exact step_fieldAddr rfl trivial _ _ _ _ rfl rfl (fun w hw => field_n0 w _)
    · exact step_load rfl trivial _ _ _ rfl rfl (fun w hw => load_n0 hw.1)
    · exact step_call rfl trivial 117 _ _ [(.int .i64 o)] rfl (by kernel_rfl) (enters_of Tryz.func117 (by kernel_rfl) rfl) (fun w hw => (fresh_any o w).mono (by rintro e w' ⟨rfl, hb⟩; exact ⟨rfl, hw.1.carry hb, bel2 hw.2 hb⟩))
    · exact step_binOp rfl trivial _ _ _ _ _ _ _ rfl rfl rfl (fun w hw => bin_neqn _ _ _ _ _ _)
    · exact step_assign rfl trivial _ rfl (by kernel_rfl) (fun _ h => h)
  intro W hW
  first | refine hK _ _ ?_ | refine (‹∀ (a : Act) (w : World), Code.wp Tryz.prog _ _ a w → _›) _ _ ?_ | skip
  simp only [finL, List.getD_cons_zero, List.getD_cons_succ, Nat.zero_add, Nat.reduceAdd, List.setIfInBounds_toArray, List.set_cons_zero, List.set_cons_succ]
  go_wp2
  go_ret
  exact ⟨rfl, hW.2⟩
set_option maxHeartbeats 4000000 in
set_option maxRecDepth 100000 in
theorem gl_in {w : World} {p g : Nat} {l : List N3} (h : Bk w p g l) (h0 : 0 < l.length) (h1 : l.length ≤ 100) : CallsIn Fence.wide 0 Tryz.prog 179 #[.pointer (some ⟨p, 0, none⟩), .func (.func 180) #[] #[]] w fun e w' => ∃ v, e = .returned v ∧ Made w w' v (l.filter pAll) ∧ Below w.heap.size w w' := by
  obtain ⟨ic, hic, hz0, hz1, hz2⟩ := info_partsN
  have hwt : Hid (∀ o t k W, Calls Tryz.prog 180 #[nt o t k] W fun e w' => e = .returned (.bool (pAll (o, t, k))) ∧ Below W.heap.size W w') := list1_any
  have hal := ball_any ((h.alloc (.cells #[.func (.func 180) #[] #[]] 267)).alloc (.cells #[.slice none 0 0] 46)) h0 h1
  clear h
  refine callsIn_of_wp_marks Tryz.func179 rfl trivial ?_ rfl
  simp only [Tryz.ntmps179, List.size_toArray, List.length_cons, List.length_nil, Nat.reduceAdd, Nat.reduceSub, Array.replicate_succ, Array.replicate_zero, List.push_toArray, List.append_toArray, List.nil_append, List.cons_append]
  gi_wp2
  with_reducible (refine And.intro (wfn _) (And.intro wdep ?_))
  refine (callsIn_wide.2 hal).mono ?_
  rintro e W0 ⟨bx, gt, rfl, hgt, hbx, hsb, hb⟩
  have b0 : Below w.heap.size w W0 := bel2 (al2 _ _ _) hb
  have f0 : Boxed W0 w.heap.size 267 (.func (.func 180) #[] #[]) := (hb.block _ (by simp; omega)).trans (old_at (new_at rfl))
  have v0 : Boxed W0 (w.heap.size + 1) 46 (.slice none 0 0) := (hb.block _ (by simp)).trans (new_at (by simp))
  have o0 : W0.ownsRow w.heap.size 185 3 (.slice none 0 0) 0 [] := World.ownsRow_nil _ _ _ _
  have hgl : gt < W0.heap.size := lt_at hsb.row
  have hgt2 : w.heap.size + 2 ≤ gt := by simp at hgt; omega
  have hz : w.heap.size + 2 ≤ W0.heap.size := by omega
  clear hal hb hgt hbx
  gi_wp2
  refine wp_rangeE (kb := 0) (gf := 222) (lb := #[.pointer (some ⟨bx, 0, none⟩)]) rfl (enters_of Tryz.func222 (by kernel_rfl) rfl)
    (ball1_seq l bx gt _ h1 hsb) hgl (fun _ => rfl)
    (fun pre W => (∃ v, Boxed W (w.heap.size + 1) 46 v ∧ W.ownsRow w.heap.size 185 3 v (pre.filter pAll).length (fl (pre.filter pAll)) ∧ ∀ q, v.ownBlock = some q → W0.heap.size + 2 ≤ q) ∧ Boxed W w.heap.size 267 (.func (.func 180) #[] #[]) ∧ Below w.heap.size w W)
    (fun _ _ _ => False)
    (OwnFrom.and ((rowBoxP_own _ _ _ _ _ (fun pre : List N3 => (pre.filter pAll).length) (fun pre => fl (pre.filter pAll)) _).from _) (OwnFrom.and ((boxed_own _ _ (fun _ : List N3 => (.func (.func 180) #[] #[]))).from _) (ownFrom_below (Nat.le_refl _) (by omega))))
    (fun _ _ _ _ _ hs _ _ => hs)
    ⟨⟨_, v0, o0, fun q e => by cases e⟩, f0, b0⟩ (fun _ _ _ => trivial)
    (fun x a' W => ∃ B, a' = { tmps := #[.pointer (some ⟨p, 0, none⟩), .func (.func 180) #[] #[], undef, .pointer (some ⟨w.heap.size, 0, none⟩), .slice none 0 0, .pointer (some ⟨w.heap.size + 1, 0, none⟩), .pointer (some ⟨B, 0, none⟩), .pointer (some ⟨p, 0, none⟩), .func (.func 222) #[] #[.pointer (some ⟨bx, 0, none⟩)], nt x.1 x.2.1 x.2.2, undef, undef, undef, undef, undef, undef, undef, undef], defers := [] } ∧ NB W B x.1 x.2.1 x.2.2)
    (fun x a' s X Y row hs hg hr => by
      obtain ⟨B, e, hn⟩ := hs
      exact ⟨B, e, (grownBy_keeps_cells hg (fun r q => (hr r q).2) hn rfl).trans hn⟩) ?assign ?body ?done ?stop
  case assign =>
    rintro l2 pre ⟨o, t, k⟩ W K hi hsz hK
    unfold nt
    gi_wp2
    refine hK _ _ (Kept.below (al1 _ _) (by omega) (by omega)) ?_ ⟨_, rfl, NB.new _ _ _ _⟩
    obtain ⟨⟨v, hv, hrow, hq⟩, hf, hb⟩ := hi
    exact ⟨⟨v, hv.alloc _, hrow.alloc _, hq⟩, hf.alloc _, hb.alloc hb.size _⟩
  case body =>
    rintro l2 pre ⟨o, t, k⟩ a' W ⟨⟨v, hv, hrow, hq⟩, hf, hb⟩ ⟨B, rfl, hn⟩ hsz hpr
    have hfl := pfx_len hpr pAll
    have hcv := hv.cell
    have hcf := hf.cell
    have n0 := hn.c0
    have n1 := hn.c1
    have n2 := hn.c2
    dsimp only at n0 n1 n2
    have hc := hwt.out o t k W
    have hfs := filter_snoc pAll pre (o, t, k)
    generalize hPx : pAll (o, t, k) = b at hc hfs
    unfold nt at hc
    cases b with
    | false =>
      rw [if_neg (by decide)] at hfs
      gi_wp2_with (refine ⟨trivial, rfl, ?_⟩; gi_at_call 180; refine (callsIn_wide.2 hc).mono ?_; rintro e u1 ⟨rfl, hb1⟩)
      refine ⟨Kept.below hb1 (by omega) (by omega), ⟨v, (hb1.block _ hv.lt).trans hv, ?_, hq⟩, (hb1.block _ hf.lt).trans hf, bel2 hb hb1⟩
      rw [hfs]
      exact row_below hrow hb1
    | true =>
      rw [if_pos rfl] at hfs
      rw [hfs] at hfl
      have hln : (pre.filter pAll).length + 1 ≤ l.length := by simpa using hfl
      gi_wp2_with (first | (refine ⟨trivial, rfl, ?_⟩; gi_at_call 180; refine (callsIn_wide.2 hc).mono ?_; rintro e u1 ⟨rfl, hb1⟩; have hv1 : Boxed u1 (w.heap.size + 1) 46 v := (hb1.block _ hv.lt).trans hv; have hn1 := hn.carry hb1; have hrow1 := row_below hrow hb1; have hf1 : Boxed u1 w.heap.size 267 (.func (.func 180) #[] #[]) := (hb1.block _ hf.lt).trans hf; have hbw1 := bel2 hb hb1; have hcv1 := hv1.cell; have m0 := hn1.c0; have m1 := hn1.c1; have m2 := hn1.c2; dsimp only at m0 m1 m2) | (gi_at_builtin; refine wpListIn_append_own_at _ rfl _ _ 46 rfl w.heap.size 185 ic _ 3 24 Tryz.underlying46 hic hz0 hz1 hz2 rfl (by decide) _ _ _ rfl (hrow1.alloc _) ⟨u1.heap.size, 0, none⟩ 1 1 [_, _, _] rfl rfl (rowN _ #[_, _, _] _) (by simp [Value.oneCell']) (by unfold maxLen; omega) (by omega) (Nat.le_trans hbw1.size (by simp)) ?_; intro v' w2 hown' hgrow _ hob; obtain ⟨g', cap', rfl⟩ := ownsRow_succ hown'; have hv2 : Boxed w2 (w.heap.size + 1) 46 v := (hv1.alloc _).kept hgrow (fun e' => by have := hq _ e'.symm; omega); have hf2 := (hf1.alloc (.cells #[.int .i64 o, .int .i64 t, .int .i64 k] 185)).kept hgrow (fun e' => by have := hq _ e'.symm; omega); have hc2 := hv2.cell; have hfz2 := hv2.frozen))
      have hz1' : W.heap.size ≤ u1.heap.size := hb1.size
      refine ⟨?_, ⟨_, hv2.set _, ?_, ?_⟩, ?_, ?_⟩
      · refine (((Kept.below hb1 (by omega) (by omega)).trans (Kept.below (al1 _ _) (by omega) (by omega))).trans (Kept.grown hgrow (by simp; omega) (by simp; omega) (fun q hq' => ?_))).trans (Kept.setCell (by omega) (by omega))
        have := hq q hq'
        omega
      · rw [hfs, fl_append, List.length_append]
        refine ownsRow_set hown' (fun q hq' => ?_) _
        rcases hob with e | e
        · have := hq q (e ▸ hq'); omega
        · rw [e] at hq'; simp at hq'; omega
      · intro q hq'
        rcases hob with e | e
        · exact hq q (e ▸ hq')
        · rw [e] at hq'; simp at hq'; omega
      · exact (set_other (by omega)).trans hf2
      · exact ((hbw1.alloc hbw1.size _).grown hgrow (by have := hbw1.size; simp; omega) (fun q hq' => by have := hq q hq'; omega)).setCell (by simp) _
  case done =>
    rintro W ⟨⟨v, hv, hrow, hq⟩, hf, hb⟩ hK
    have hcv := hv.cell
    gi_wp2
    refine ⟨by simp, .inl ⟨_, _, rfl, run_takeDeferred hK, ?_⟩⟩
    exact ⟨v, by simp [results, Tryz.results179, go_sem], v, rfl, ownsRow_putObj hrow _ hK rfl, below_taken _ hb (by omega)⟩
  case stop =>
    rintro c pre W _ h _
    exact h.elim
set_option maxHeartbeats 1000000 in
theorem blist_any {w : World} {p g : Nat} {l : List N3} (h : Bk w p g l) (h0 : 0 < l.length) (h1 : l.length ≤ 100) : Calls Tryz.prog 109 #[.pointer (some ⟨p, 0, none⟩)] w fun e w' => ∃ v, e = .returned v ∧ Made w w' v (l.filter pAll) ∧ Below w.heap.size w w' := by
  have hg := callsIn_wide.1 (gl_in h h0 h1)
  go_enter Tryz.func109, Tryz.ntmps109
  go_wp2_with (go_at_call 179; (with_reducible refine hg.mono ?_); rintro e u1 ⟨v, rfl, hm, hb1⟩)
  go_ret
  exact ⟨v, rfl, hm, hb1⟩
set_option maxHeartbeats 4000000 in
set_option maxRecDepth 100000 in
theorem gn_in {w : World} {p g : Nat} {l : List N3} (h : Bk w p g l) (h0 : 0 < l.length) (h1 : l.length ≤ 100) : CallsIn Fence.wide 0 Tryz.prog 179 #[.pointer (some ⟨p, 0, none⟩), .func (.func 256) #[] #[]] w fun e w' => ∃ v, e = .returned v ∧ Made w w' v (l.filter pNew) ∧ Below w.heap.size w w' := by
  obtain ⟨ic, hic, hz0, hz1, hz2⟩ := info_partsN
  have hwt : Hid (∀ o t k W, Calls Tryz.prog 256 #[nt o t k] W fun e w' => e = .returned (.bool (pNew (o, t, k))) ∧ Below W.heap.size W w') := news1_any
  have hal := ball_any ((h.alloc (.cells #[.func (.func 256) #[] #[]] 267)).alloc (.cells #[.slice none 0 0] 46)) h0 h1
  clear h
  refine callsIn_of_wp_marks Tryz.func179 rfl trivial ?_ rfl
  simp only [Tryz.ntmps179, List.size_toArray, List.length_cons, List.length_nil, Nat.reduceAdd, Nat.reduceSub, Array.replicate_succ, Array.replicate_zero, List.push_toArray, List.append_toArray, List.nil_append, List.cons_append]
  gi_wp2
  with_reducible (refine And.intro (wfn _) (And.intro wdep ?_))
  refine (callsIn_wide.2 hal).mono ?_
  rintro e W0 ⟨bx, gt, rfl, hgt, hbx, hsb, hb⟩
  have b0 : Below w.heap.size w W0 := bel2 (al2 _ _ _) hb
  have f0 : Boxed W0 w.heap.size 267 (.func (.func 256) #[] #[]) := (hb.block _ (by simp; omega)).trans (old_at (new_at rfl))
  have v0 : Boxed W0 (w.heap.size + 1) 46 (.slice none 0 0) := (hb.block _ (by simp)).trans (new_at (by simp))
  have o0 : W0.ownsRow w.heap.size 185 3 (.slice none 0 0) 0 [] := World.ownsRow_nil _ _ _ _
  have hgl : gt < W0.heap.size := lt_at hsb.row
  have hgt2 : w.heap.size + 2 ≤ gt := by simp at hgt; omega
  have hz : w.heap.size + 2 ≤ W0.heap.size := by omega
  clear hal hb hgt hbx
  gi_wp2
  refine wp_rangeE (kb := 0) (gf := 222) (lb := #[.pointer (some ⟨bx, 0, none⟩)]) rfl (enters_of Tryz.func222 (by kernel_rfl) rfl)
    (ball1_seq l bx gt _ h1 hsb) hgl (fun _ => rfl)
    (fun pre W => (∃ v, Boxed W (w.heap.size + 1) 46 v ∧ W.ownsRow w.heap.size 185 3 v (pre.filter pNew).length (fl (pre.filter pNew)) ∧ ∀ q, v.ownBlock = some q → W0.heap.size + 2 ≤ q) ∧ Boxed W w.heap.size 267 (.func (.func 256) #[] #[]) ∧ Below w.heap.size w W)
    (fun _ _ _ => False)
    (OwnFrom.and ((rowBoxP_own _ _ _ _ _ (fun pre : List N3 => (pre.filter pNew).length) (fun pre => fl (pre.filter pNew)) _).from _) (OwnFrom.and ((boxed_own _ _ (fun _ : List N3 => (.func (.func 256) #[] #[]))).from _) (ownFrom_below (Nat.le_refl _) (by omega))))
    (fun _ _ _ _ _ hs _ _ => hs)
    ⟨⟨_, v0, o0, fun q e => by cases e⟩, f0, b0⟩ (fun _ _ _ => trivial)
    (fun x a' W => ∃ B, a' = { tmps := #[.pointer (some ⟨p, 0, none⟩), .func (.func 256) #[] #[], undef, .pointer (some ⟨w.heap.size, 0, none⟩), .slice none 0 0, .pointer (some ⟨w.heap.size + 1, 0, none⟩), .pointer (some ⟨B, 0, none⟩), .pointer (some ⟨p, 0, none⟩), .func (.func 222) #[] #[.pointer (some ⟨bx, 0, none⟩)], nt x.1 x.2.1 x.2.2, undef, undef, undef, undef, undef, undef, undef, undef], defers := [] } ∧ NB W B x.1 x.2.1 x.2.2)
    (fun x a' s X Y row hs hg hr => by
      obtain ⟨B, e, hn⟩ := hs
      exact ⟨B, e, (grownBy_keeps_cells hg (fun r q => (hr r q).2) hn rfl).trans hn⟩) ?assign ?body ?done ?stop
  case assign =>
    rintro l2 pre ⟨o, t, k⟩ W K hi hsz hK
    unfold nt
    gi_wp2
    refine hK _ _ (Kept.below (al1 _ _) (by omega) (by omega)) ?_ ⟨_, rfl, NB.new _ _ _ _⟩
    obtain ⟨⟨v, hv, hrow, hq⟩, hf, hb⟩ := hi
    exact ⟨⟨v, hv.alloc _, hrow.alloc _, hq⟩, hf.alloc _, hb.alloc hb.size _⟩
  case body =>
    rintro l2 pre ⟨o, t, k⟩ a' W ⟨⟨v, hv, hrow, hq⟩, hf, hb⟩ ⟨B, rfl, hn⟩ hsz hpr
    have hfl := pfx_len hpr pNew
    have hcv := hv.cell
    have hcf := hf.cell
    have n0 := hn.c0
    have n1 := hn.c1
    have n2 := hn.c2
    dsimp only at n0 n1 n2
    have hc := hwt.out o t k W
    have hfs := filter_snoc pNew pre (o, t, k)
    generalize hPx : pNew (o, t, k) = b at hc hfs
    unfold nt at hc
    cases b with
    | false =>
      rw [if_neg (by decide)] at hfs
      gi_wp2_with (refine ⟨trivial, rfl, ?_⟩; gi_at_call 256; refine (callsIn_wide.2 hc).mono ?_; rintro e u1 ⟨rfl, hb1⟩)
      refine ⟨Kept.below hb1 (by omega) (by omega), ⟨v, (hb1.block _ hv.lt).trans hv, ?_, hq⟩, (hb1.block _ hf.lt).trans hf, bel2 hb hb1⟩
      rw [hfs]
      exact row_below hrow hb1
    | true =>
      rw [if_pos rfl] at hfs
      rw [hfs] at hfl
      have hln : (pre.filter pNew).length + 1 ≤ l.length := by simpa using hfl
      gi_wp2_with (first | (refine ⟨trivial, rfl, ?_⟩; gi_at_call 256; refine (callsIn_wide.2 hc).mono ?_; rintro e u1 ⟨rfl, hb1⟩; have hv1 : Boxed u1 (w.heap.size + 1) 46 v := (hb1.block _ hv.lt).trans hv; have hn1 := hn.carry hb1; have hrow1 := row_below hrow hb1; have hf1 : Boxed u1 w.heap.size 267 (.func (.func 256) #[] #[]) := (hb1.block _ hf.lt).trans hf; have hbw1 := bel2 hb hb1; have hcv1 := hv1.cell; have m0 := hn1.c0; have m1 := hn1.c1; have m2 := hn1.c2; dsimp only at m0 m1 m2) | (gi_at_builtin; refine wpListIn_append_own_at _ rfl _ _ 46 rfl w.heap.size 185 ic _ 3 24 Tryz.underlying46 hic hz0 hz1 hz2 rfl (by decide) _ _ _ rfl (hrow1.alloc _) ⟨u1.heap.size, 0, none⟩ 1 1 [_, _, _] rfl rfl (rowN _ #[_, _, _] _) (by simp [Value.oneCell']) (by unfold maxLen; omega) (by omega) (Nat.le_trans hbw1.size (by simp)) ?_; intro v' w2 hown' hgrow _ hob; obtain ⟨g', cap', rfl⟩ := ownsRow_succ hown'; have hv2 : Boxed w2 (w.heap.size + 1) 46 v := (hv1.alloc _).kept hgrow (fun e' => by have := hq _ e'.symm; omega); have hf2 := (hf1.alloc (.cells #[.int .i64 o, .int .i64 t, .int .i64 k] 185)).kept hgrow (fun e' => by have := hq _ e'.symm; omega); have hc2 := hv2.cell; have hfz2 := hv2.frozen))
      have hz1' : W.heap.size ≤ u1.heap.size := hb1.size
      refine ⟨?_, ⟨_, hv2.set _, ?_, ?_⟩, ?_, ?_⟩
      · refine (((Kept.below hb1 (by omega) (by omega)).trans (Kept.below (al1 _ _) (by omega) (by omega))).trans (Kept.grown hgrow (by simp; omega) (by simp; omega) (fun q hq' => ?_))).trans (Kept.setCell (by omega) (by omega))
        have := hq q hq'
        omega
      · rw [hfs, fl_append, List.length_append]
        refine ownsRow_set hown' (fun q hq' => ?_) _
        rcases hob with e | e
        · have := hq q (e ▸ hq'); omega
        · rw [e] at hq'; simp at hq'; omega
      · intro q hq'
        rcases hob with e | e
        · exact hq q (e ▸ hq')
        · rw [e] at hq'; simp at hq'; omega
      · exact (set_other (by omega)).trans hf2
      · exact ((hbw1.alloc hbw1.size _).grown hgrow (by have := hbw1.size; simp; omega) (fun q hq' => by have := hq q hq'; omega)).setCell (by simp) _
  case done =>
    rintro W ⟨⟨v, hv, hrow, hq⟩, hf, hb⟩ hK
    have hcv := hv.cell
    gi_wp2
    refine ⟨by simp, .inl ⟨_, _, rfl, run_takeDeferred hK, ?_⟩⟩
    exact ⟨v, by simp [results, Tryz.results179, go_sem], v, rfl, ownsRow_putObj hrow _ hK rfl, below_taken _ hb (by omega)⟩
  case stop =>
    rintro c pre W _ h _
    exact h.elim
set_option maxHeartbeats 1000000 in
theorem bnews_any {w : World} {p g : Nat} {l : List N3} (h : Bk w p g l) (h0 : 0 < l.length) (h1 : l.length ≤ 100) : Calls Tryz.prog 209 #[.pointer (some ⟨p, 0, none⟩)] w fun e w' => ∃ v, e = .returned v ∧ Made w w' v (l.filter pNew) ∧ Below w.heap.size w w' := by
  have hg := callsIn_wide.1 (gn_in h h0 h1)
  go_enter Tryz.func209, Tryz.ntmps209
  go_wp2_with (go_at_call 179; (with_reducible refine hg.mono ?_); rintro e u1 ⟨v, rfl, hm, hb1⟩)
  go_ret
  exact ⟨v, rfl, hm, hb1⟩
end Go.Proofs.YtklnfbanfgdgcaaGreatDoor
namespace Go.Proofs.YtklnfbanfgdgcaaGreatDoor
open Go.RowKit Go.Shelf Go.Lib
attribute [local go_sem] Oper.semAt_some

/-- The nodes that are suspected. -/
def sst (N : Nat) (x : N3) : Nat := if x.2.2 = 2 then N ||| 2 ^ x.1.toNat else N
def sus (l : List N3) : Nat := l.foldl sst 0
theorem pfx_at {pre l : List N3} {x : N3} (h : pre ++ [x] <+: l) : l[pre.length]? = some x := by
  obtain ⟨r, hr⟩ := h
  rw [← hr, List.append_assoc, List.getElem?_append_right (Nat.le_refl _)]
  simp
theorem pfx_pre {pre l : List N3} {x : N3} (h : pre ++ [x] <+: l) : pre <+: l := (List.prefix_append pre [x]).trans h
theorem fold_sst_lt : ∀ (m : List N3) (N : Nat), (∀ x ∈ m, x.1.toNat < 100) → N < 2 ^ 100 → m.foldl sst N < 2 ^ 100
  | [], _, _, h => h
  | x :: m, N, hv, h => by
    refine fold_sst_lt m (sst N x) (fun y hy => hv y (by simp [hy])) ?_
    unfold sst
    split
    · exact Nat.or_lt_two_pow h (Nat.pow_lt_pow_right (by decide) (hv x (by simp)))
    · exact h
theorem bok_lt {l : List N3} (hb : Bok l) (hl : l.length ≤ 100) : ∀ x ∈ l, x.1.toNat < 100 := by
  intro x hx
  obtain ⟨i, hi⟩ := List.mem_iff_getElem?.1 hx
  have := (hb i x hi).1
  have := (List.getElem?_eq_some_iff.1 hi).1
  omega
theorem sus_lt {l : List N3} (hb : Bok l) (hl : l.length ≤ 100) : sus l < 2 ^ 100 := fold_sst_lt l 0 (bok_lt hb hl) (by decide)
theorem kept_set4 {bx B m : Nat} {W : World} {b M : Nat} (h1 : b ≠ bx) (h2 : b < B ∨ B + m ≤ b) : Kept bx B m W (set4 W b M) := by
  unfold set4
  exact (((Kept.setCell h1 h2).trans (Kept.setCell h1 h2)).trans (Kept.setCell h1 h2)).trans (Kept.setCell h1 h2)
theorem Holds4.other4 {W : World} {b b' M : Nat} {c : Nat → Nat} (h : Holds4 W b' c) (hne : b' ≠ b) : Holds4 (set4 W b M) b' c := by
  unfold set4 Holds4
  rw [Below.heap_setCell _ _ _ _ hne, Below.heap_setCell _ _ _ _ hne, Below.heap_setCell _ _ _ _ hne, Below.heap_setCell _ _ _ _ hne]
  exact h
set_option maxHeartbeats 4000000 in
set_option maxRecDepth 100000 in
theorem sus_in {w : World} {p g : Nat} {l : List N3} (h : Bk w p g l) (h0 : 0 < l.length) (h1 : l.length ≤ 100) (hbo : Bok l) : CallsIn Fence.wide 0 Tryz.prog 107 #[.pointer (some ⟨p, 0, none⟩)] w fun e w' => e = .returned (sv (sus l)) ∧ Below w.heap.size w w' := by
  have HBO : Hid (Bok l) := hbo
  have hal := ball_any ((h.alloc (.cells #[.int .u32 0, .int .u32 0, .int .u32 0, .int .u32 0] 51)).alloc (.cells #[.int .u32 0, .int .u32 0, .int .u32 0, .int .u32 0] 51)) h0 h1
  clear h hbo
  refine callsIn_of_wp_marks Tryz.func107 rfl trivial ?_ rfl
  simp only [Tryz.ntmps107, List.size_toArray, List.length_cons, List.length_nil, Nat.reduceAdd, Nat.reduceSub, Array.replicate_succ, Array.replicate_zero, List.push_toArray, List.append_toArray, List.nil_append, List.cons_append]
  gi_wp2
  with_reducible (refine And.intro (wfn _) (And.intro wdep ?_))
  refine (callsIn_wide.2 hal).mono ?_
  rintro e W0 ⟨bx, gt, rfl, hgt, hbx, hsb, hb⟩
  have b0 : Below w.heap.size w W0 := bel2 (al2 _ _ _) hb
  have r0 : Holds4 W0 w.heap.size (fun _ => 0) := (hb.block _ (by simp; omega)).trans (old_at (new_at rfl))
  have s0 : Holds4 W0 (w.heap.size + 1) (wd 0) := Holds4.congr (c := fun _ => 0) ((hb.block _ (by simp)).trans (new_at (by simp))) (fun j _ => (wd_zero j).symm)
  have hgl : gt < W0.heap.size := lt_at hsb.row
  have hgt2 : w.heap.size + 2 ≤ gt := by simp at hgt; omega
  have hz : w.heap.size + 2 ≤ W0.heap.size := by omega
  clear hal hb hgt hbx
  gi_wp2
  refine wp_rangeE (kb := 0) (gf := 222) (lb := #[.pointer (some ⟨bx, 0, none⟩)]) rfl (enters_of Tryz.func222 (by kernel_rfl) rfl)
    (ball1_seq l bx gt _ h1 hsb) hgl (fun _ => rfl)
    (fun pre W => W.heap[w.heap.size + 1]? = some (.cells (cells4 (wd (sus pre))) 51) ∧ W.heap[w.heap.size]? = some (.cells (cells4 (fun _ => 0)) 51) ∧ Below w.heap.size w W)
    (fun _ _ _ => False)
    (OwnFrom.and ((blk_own (w.heap.size + 1) (fun pre : List N3 => (.cells (cells4 (wd (sus pre))) 51)) (fun _ => rfl)).from _) (OwnFrom.and ((blk_own w.heap.size (fun _ : List N3 => (.cells (cells4 (fun _ => 0)) 51)) (fun _ => rfl)).from _) (ownFrom_below (Nat.le_refl _) (by omega))))
    (fun _ _ _ _ _ hs _ _ => hs)
    ⟨s0, r0, b0⟩ (fun _ _ _ => trivial)
    (fun x a' W => ∃ B, a' = { tmps := #[.pointer (some ⟨p, 0, none⟩), undef, .pointer (some ⟨w.heap.size, 0, none⟩), .pointer (some ⟨w.heap.size + 1, 0, none⟩), .pointer (some ⟨B, 0, none⟩), .pointer (some ⟨p, 0, none⟩), .func (.func 222) #[] #[.pointer (some ⟨bx, 0, none⟩)], nt x.1 x.2.1 x.2.2, undef, undef, undef, undef, undef, undef, undef, undef, undef, undef, undef], defers := [] } ∧ NB W B x.1 x.2.1 x.2.2)
    (fun x a' s X Y row hs hg hr => by
      obtain ⟨B, e, hn⟩ := hs
      exact ⟨B, e, (grownBy_keeps_cells hg (fun r q => (hr r q).2) hn rfl).trans hn⟩) ?assign ?body ?done ?stop
  case assign =>
    rintro l2 pre ⟨o, t, k⟩ W K ⟨hs, hr, hb⟩ hsz hK
    unfold nt
    gi_wp2
    exact hK _ _ (Kept.below (al1 _ _) (by omega) (by omega)) ⟨old_at hs, old_at hr, hb.alloc hb.size _⟩ ⟨_, rfl, NB.new _ _ _ _⟩
  case body =>
    rintro l2 pre ⟨o, t, k⟩ a' W ⟨hs, hr, hb⟩ ⟨B, rfl, hn⟩ hsz hpr
    have HS : Hid (Holds4 W (w.heap.size + 1) (wd (sus pre))) := hs
    have HR : Hid (Holds4 W w.heap.size (fun _ => 0)) := hr
    clear hs hr
    have hat := pfx_at hpr
    have ho := (HBO.out _ _ hat).1
    have hlt := (List.getElem?_eq_some_iff.1 hat).1
    dsimp only at ho
    have hN : sus pre < 2 ^ 100 := fold_sst_lt pre 0 (fun x hx => bok_lt HBO.out h1 x ((pfx_pre hpr).subset hx)) (by decide)
    have hst : sus (pre ++ [(o, t, k)]) = sst (sus pre) (o, t, k) := by unfold sus; rw [List.foldl_append]; rfl
    have n0 := hn.c0
    have n2 := hn.c2
    dsimp only at n0 n2
    by_cases hk : k = 2
    · have hs2 : sst (sus pre) (o, t, k) = sus pre ||| 2 ^ pre.length := by unfold sst; rw [if_pos hk, ho]; simp
      have hw := with_any (sus pre) o
      have e3 : withV (sus pre) o = .tuple #[sv (sus pre ||| 2 ^ pre.length), .int .i64 0] := by
        unfold withV
        rw [if_pos (by omega), cln_of_lt hN, ho, Int.toNat_natCast]
      rw [e3] at hw
      have HST : Hid (sus (pre ++ [(o, t, k)]) = sus pre ||| 2 ^ pre.length) := hst.trans hs2
      subst hk
      obtain ⟨x0, x1, x2, x3, _, _, _, _⟩ := HS.out.facts
      clear hst hs2 e3 hat
      unfold sv at hw
      have HO : Hid (o = (pre.length : Int)) := ho
      clear ho
      generalize sus pre ||| 2 ^ pre.length = M at *
      gi_wp2_with (refine ⟨trivial, rfl, ?_⟩; gi_at_call 178; refine (callsIn_wide.2 (hw _)).mono ?_; rintro e u1 ⟨rfl, hb1⟩; have HS1 : Hid (Holds4 u1 (w.heap.size + 1) (wd (sus pre))) := HS.out.carry hb1; obtain ⟨y0, y1, y2, y3, z0, z1, z2, z3⟩ := HS1.out.facts)
      have hbw := bel2 hb hb1
      refine ⟨(Kept.below hb1 (by omega) (by omega)).trans (kept_set4 (by omega) (by omega)), ?_, (HR.out.carry hb1).other4 (by omega), below4 hbw (by omega) M⟩
      rw [HST.out]
      exact fin4 HS1.out M
    · have hs2 : sst (sus pre) (o, t, k) = sus pre := by unfold sst; rw [if_neg hk]
      have HST : Hid (sus (pre ++ [(o, t, k)]) = sus pre) := hst.trans hs2
      have hk2 : (k == 2) = false := by simpa using hk
      clear hst hs2 hat ho
      gi_wp2
      refine ⟨Kept.refl _ _ _ _, ?_, HR.out, hb⟩
      rw [HST.out]
      exact HS.out
  case done =>
    rintro W ⟨hs, hr, hb⟩ hK
    have HS : Hid (Holds4 W (w.heap.size + 1) (wd (sus l))) := hs
    have HR : Hid (Holds4 W w.heap.size (fun _ => 0)) := hr
    clear hs hr
    obtain ⟨x0, x1, x2, x3, _, _, _, _⟩ := HS.out.facts
    obtain ⟨y0, y1, y2, y3, z0, z1, z2, z3⟩ := HR.out.facts
    gi_wp2
    have hfin : Holds4 (set4 W w.heap.size (sus l)) w.heap.size (wd (sus l)) := fin4 HR.out _
    have hbf : Below w.heap.size w (set4 W w.heap.size (sus l)) := below4 hb (Nat.le_refl _) _
    have hK2 : (set4 W w.heap.size (sus l)).heap[W0.heap.size]? = some (.deferred (some [])) := by
      unfold set4
      rw [Below.heap_setCell _ _ _ _ (by simp only; omega), Below.heap_setCell _ _ _ _ (by simp only; omega), Below.heap_setCell _ _ _ _ (by simp only; omega), Below.heap_setCell _ _ _ _ (by simp only; omega)]
      exact hK
    refine ⟨by simp, .inl ⟨_, _, rfl, run_takeDeferred hK2, ?_⟩⟩
    have hf2 : Holds4 ((set4 W w.heap.size (sus l)).putObj W0.heap.size (.deferred none)) w.heap.size (wd (sus l)) := (World.putObj_heap_other (by omega)).trans hfin
    have h1 := run_loadVar_row (P := Tryz.prog) _ w.heap.size 51 51 (cells4 (wd (sus l))) (0, 0) _ hf2 Tryz.underlying51 rfl (by kernel_rfl)
    refine ⟨sv (sus l), ?_, rfl, below_taken _ hbf (by omega)⟩
    simp [results, Tryz.results107, asAddr]
    exact h1
  case stop =>
    rintro c pre W _ h _
    exact h.elim
theorem sus_any {w : World} {p g : Nat} {l : List N3} (h : Bk w p g l) (h0 : 0 < l.length) (h1 : l.length ≤ 100) (hbo : Bok l) : Calls Tryz.prog 107 #[.pointer (some ⟨p, 0, none⟩)] w fun e w' => e = .returned (sv (sus l)) ∧ Below w.heap.size w w' := callsIn_wide.1 (sus_in h h0 h1 hbo)
end Go.Proofs.YtklnfbanfgdgcaaGreatDoor
namespace Go.Proofs.YtklnfbanfgdgcaaGreatDoor
open Go.RowKit Go.Shelf Go.Lib
attribute [local go_sem] Oper.semAt_some

end Go.Proofs.YtklnfbanfgdgcaaGreatDoor
