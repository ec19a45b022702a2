/- idset.Ids: what it answers, at every input. -/
import Derived.Test.YtgehmidalfajgaaDoorItx
import Derived.Test.YtgehmidalfajgaaDoorOwn
import Derived.Maps.AppendAt
import Derived.Maps.OwnIn
import Derived.Test.YtgehmidalfajgaaDoorInferNamedJ5
import Derived.Test.YtgehmidalfajgaaDoorInferNamedJ3
import Derived.Carry
namespace Go.Proofs.YtgehmidalfajgaaDoor
open Go.RowKit Go.Shelf Go.Lib
attribute [local go_sem] Oper.semAt_some

set_option maxHeartbeats 1000000 in
set_option maxRecDepth 100000 in
theorem ids_in (N : Nat) (w : World) (hT : Tab w) :
    CallsIn Fence.wide 0 Tryd.prog 24 #[sv N] w fun e w' => ∃ v, e = .returned v ∧ w'.ownsRow w.heap.size 3 1 v (cnt (cln N)) (intsV (idsTo (cln N) 128)) ∧ Below w.heap.size w w' := by
  have hc := all_any N
  have hn := count_any N
  have hle : cnt (cln N) ≤ 128 := cnt_le _
  have hlen : (idsTo (cln N) 128).length = cnt (cln N) := idsTo_length _ _
  generalize cln N = M at *
  have hT0 := hT.lt
  simp only [sv] at hc hn ⊢
  obtain ⟨ic, hic, hz0, hz1, hz2⟩ := info_parts infoInt
  have hmk0 : ∀ W : World, (Instr.makeSlice 23 (.int .i64 0) (.int .i64 ((cnt M : Nat) : Int))).run Tryd.prog W = .ok (.slice (some ⟨W.heap.size, 0, none⟩) 0 (cnt M)) (W.alloc (.cells (List.replicate (cnt M) (.int .i64 0)).toArray 3)) := by
    intro W
    have h := run_make (P := Tryd.prog) W 23 3 ic _ Tryd.underlying23 hic hz0 .i64 .i64 0 ((cnt M : Nat) : Int) (by omega) (by omega) (by rw [hz2]; omega) (by omega)
    rw [h, hz1]
    have e : madeCells (Value.int .i64 0).cells ((((cnt M : Nat) : Int).toNat) * 1) = (List.replicate (cnt M) (.int .i64 0)).toArray := by
      apply Array.toList_inj.1
      have := toList_madeCells_one (.int .i64 0) (cnt M)
      simpa [Value.cells] using this
    rw [e]; rfl
  generalize cnt M = C at *
  refine callsIn_of_wp_marks Tryd.func24 rfl trivial ?_ rfl
  simp only [Tryd.ntmps24, List.size_toArray, List.length_cons, List.length_nil, Nat.reduceAdd, Nat.reduceSub, Array.replicate_succ, Array.replicate_zero, List.push_toArray, List.append_toArray, List.nil_append, List.cons_append]
  gi_wp2
  with_reducible (refine And.intro (wfn _) (And.intro wdep ?_))
  refine (callsIn_wide.2 (hn _)).mono ?_
  rintro e w1 ⟨rfl, hb1⟩
  have hmk := hmk0 w1
  have q : Hid (Holds4 w1 w.heap.size (wd N)) := (hb1.block _ (by simp)).trans (get_new (by simp))
  have hs1 : w.heap.size < w1.heap.size := q.out.lt
  obtain ⟨y0, y1, y2, y3, z0, z1, z2, z3⟩ := q.out.facts
  gi_wp2
  with_reducible (refine And.intro (wfn _) (And.intro wdep ?_))
  refine (callsIn_wide.2 (hc _)).mono ?_
  rintro e W0 ⟨rfl, hb, hh⟩
  have b1 : Below w.heap.size w w1 := ((Below.refl _ w).alloc (by simp) _).trans (hb1.mono (by simp))
  have zz : w1.heap.size + 3 ≤ W0.heap.size := by have := hh.lt; simp at this; omega
  have b0 : Below w.heap.size w W0 := ((b1.alloc (by omega) _).alloc (by simp; omega) _).trans (hb.mono (by simp; omega))
  have g0 : W0.heap[w1.heap.size]? = some (.cells (Array.replicate C (.int .i64 0)) 3) := (hb.block _ (by simp; omega)).trans (get_old (get_new (by simp)))
  have v0 : Boxed W0 (w1.heap.size + 1) 23 (.slice (some ⟨w1.heap.size, 0, none⟩) 0 C) := (hb.block _ (by simp)).trans (get_new (by simp))
  have o0 : W0.ownsRow w.heap.size 3 1 (.slice (some ⟨w1.heap.size, 0, none⟩) 0 C) 0 [] := ⟨rfl, .inr ⟨_, C, _, rfl, by omega, g0, by omega, by unfold maxLen; omega, by simp, by simp⟩⟩
  clear hb hc hn hmk hmk0 hb1 q y0 y1 y2 y3 z0 z1 z2 z3
  have hh' : Holds4 W0 (w1.heap.size + 1 + 1) (wd M) := by simpa using hh
  gi_wp2
  refine wp_rangeE (kb := 0) (gf := 69) (lb := #[.pointer (some ⟨w1.heap.size + 1 + 1, 0, none⟩)]) rfl (enters_of Tryd.func69 (by kernel_rfl) rfl)
    (all1_seq M (w1.heap.size + 1 + 1) _ hh') (by omega) (fun _ => rfl)
    (fun pre W => (∃ v, Boxed W (w1.heap.size + 1) 23 v ∧ W.ownsRow w.heap.size 3 1 v pre.length (intsV pre) ∧ ∃ g, v.ownBlock = some g ∧ (g = w1.heap.size ∨ W0.heap.size + 2 ≤ g)) ∧ Below w.heap.size w W)
    (fun _ _ _ => False)
    (OwnFrom.and ((rowBoxP_own _ _ _ _ _ (fun pre : List Nat => pre.length) intsV _).from _) (ownFrom_below (Nat.le_refl _) (by omega)))
    (fun _ _ _ _ _ hs _ _ => hs)
    ⟨⟨_, v0, o0, _, rfl, .inl rfl⟩, b0⟩ (fun _ W h => hT.keep h.2 hT0)
    (fun x a' _ => a' = { tmps := #[sv N, .pointer (some ⟨w.heap.size, 0, none⟩), .slice none 0 0, .pointer (some ⟨w1.heap.size + 1, 0, none⟩), .int .i64 (x : Nat), sv N, .int .i64 (C : Nat), .slice (some ⟨w1.heap.size, 0, none⟩) 0 C, sv N, .func (.func 69) #[] #[.pointer (some ⟨w1.heap.size + 1 + 1, 0, none⟩)], .int .i64 (x : Nat), undef, undef, undef, undef, undef], defers := [] })
    (fun _ _ _ _ _ _ hs _ _ => hs) ?assign ?body ?done ?stop
  case assign =>
    rintro l pre x W K hi hsz hK
    gi_wp2
    exact hK _ _ (Kept.refl _ _ _ _) hi rfl
  case body =>
    rintro l pre x a' W ⟨⟨v, hv, hrow, g, hg, hgb⟩, hb⟩ rfl hsz hpr
    have hcv := hv.cell
    have hpl : (pre ++ [x]).length ≤ (idsTo M 128).length := hpr.length_le
    simp only [List.length_append, List.length_cons, List.length_nil] at hpl
    gi_wp2_with (gi_at_builtin; refine wpListIn_append_own_at _ rfl _ _ 23 rfl w.heap.size 3 ic _ 1 8 Tryd.underlying23 hic hz0 hz1 hz2 rfl (by decide) _ _ _ rfl (hrow.alloc _) ⟨W.heap.size, 0, none⟩ 1 1 [.int .i64 (x : Nat)] rfl rfl (one_new _ _ _) (by simp [Value.oneCell']) (by unfold maxLen; omega) (by omega) (by simp; omega) ?_; intro v' w1' hown' hgrow _ hob; obtain ⟨g', cap', rfl⟩ := ownsRow_succ hown'; have hv1 : Boxed w1' (w1.heap.size + 1) 23 v := (hv.alloc _).kept hgrow (fun e' => by have e2 := e'.trans hg; simp at e2; omega); have hc1 := hv1.cell; have hf1 := hv1.frozen)
    have hgk : ∀ k, v.ownBlock = some k → k = g := fun k e => by rw [hg] at e; cases e; rfl
    refine ⟨?_, ⟨⟨_, hv1.set _, ?_, g', rfl, ?_⟩, ?_⟩⟩
    · refine ((Kept.below ((Below.refl _ W).alloc (Nat.le_refl _) _) (by omega) (by omega)).trans (Kept.grown hgrow (by simp; omega) (by simp; omega) (fun k hk => ?_))).trans (Kept.setCell (by omega) (by omega))
      have := hgk k hk
      omega
    · have e : (pre ++ [x]).length = pre.length + 1 := by simp
      have e2 : intsV (pre ++ [x]) = intsV pre ++ [.int .i64 (x : Nat)] := by simp [intsV]
      rw [e, e2]
      refine ownsRow_set hown' (fun k hk => ?_) _
      cases hk
      rcases hob with h | h
      · have h2 := h.trans hg; simp [Value.ownBlock] at h2; simp only; omega
      · simp [Value.ownBlock] at h; simp only; omega
    · rcases hob with h | h
      · have h2 := h.trans hg; simp [Value.ownBlock] at h2; omega
      · simp [Value.ownBlock] at h; omega
    · exact ((hb.alloc (by omega) _).grown hgrow (by simp; omega) (fun k hk => by have := (ownsRow_block hrow k hk).1; omega)).setCell (by simp; omega) _
  case done =>
    rintro W ⟨⟨v, hv, hrow, g, hg, hgb⟩, hb⟩ hK
    have hcv := hv.cell
    gi_wp2
    refine ⟨by simp, .inl ⟨_, _, rfl, run_takeDeferred hK, ?_⟩⟩
    refine ⟨v, by simp [results, Tryd.results24, go_sem], v, rfl, ?_, below_taken _ hb (by omega)⟩
    rw [← hlen]
    exact ownsRow_putObj hrow _ hK rfl
  case stop =>
    rintro c pre W _ h _
    exact h.elim
theorem ids_any (N : Nat) (w : World) (hT : Tab w) :
    Calls Tryd.prog 24 #[sv N] w fun e w' => ∃ v, e = .returned v ∧ w'.ownsRow w.heap.size 3 1 v (cnt (cln N)) (intsV (idsTo (cln N) 128)) ∧ Below w.heap.size w w' := callsIn_wide.1 (ids_in N w hT)
end Go.Proofs.YtgehmidalfajgaaDoor
namespace Go.Proofs.YtgehmidalfajgaaDoor
open Go.RowKit Go.Shelf Go.Lib
attribute [local go_sem] Oper.semAt_some

/-- The doubt that comes of an id, if any. -/
def dbF (l : List N3) (i : Nat) : Option N3 := match l[i]? with
  | some x => if x.2.2 = 1 then some ((i : Int), x.2.1, 2) else none
  | none => none
def dbs (l : List N3) (pre : List Nat) : List N3 := pre.filterMap (dbF l)
theorem dbs_snoc (l : List N3) (pre : List Nat) (x : Nat) : dbs l (pre ++ [x]) = dbs l pre ++ (dbF l x).toList := by
  unfold dbs
  rw [List.filterMap_append]
  cases h : dbF l x <;> simp [h]
theorem dbs_len (l : List N3) (pre : List Nat) : (dbs l pre).length ≤ pre.length := List.length_filterMap_le _ _
theorem wpListIn_store_run {F : Fence} {n : Nat} {P : Program} {ops : Array Oper} {rest : List Oper} {o : Oper} {a : Act} {w : World} {Q : Exit → Act → World → Prop} (hg : o.guard = none) (ty : TypeId) (x y : Operand) (ho : o.op = .store ty x y) (vx vy : Value) (hx : a.eval x = vx) (hy : a.eval y = vy)
    (w' : World) (hr : (Instr.storeAt ty vx vy).run P w = .ok () w') (h : wpListIn F n P ops Q rest (a.put o.dst undef) w') : wpListIn F n P ops Q (o :: rest) a w := by
  refine wpListIn_plain hg fun K hK => ?_
  unfold Oper.wpIn
  refine ⟨by simp [Oper.about, ho], ?_⟩
  rw [Oper.semAt_plain F _ _ (by rw [ho]; intro c hc'; cases hc')]
  simp [execOp, ho, hx, hy, hr, Result.andThen]
  exact hK _ _ h
set_option maxHeartbeats 4000000 in
set_option maxRecDepth 100000 in
theorem doubts_in {w : World} {p g : Nat} {l : List N3} (h : Bk w p g l) (M0 : Nat) (hT : Tab w) : CallsIn Fence.wide 0 Tryd.prog 19 #[.pointer (some ⟨p, 0, none⟩), sv M0] w fun e w' => ∃ v, e = .returned v ∧ Made w w' v (dbs l (idsTo (cln M0) 128)) ∧ Below w.heap.size w w' := by
  obtain ⟨ic, hic, hz0, hz1, hz2⟩ := info_partsN
  have hal := all_any M0
  obtain ⟨M, hM⟩ : ∃ M, cln M0 = M := ⟨_, rfl⟩
  rw [hM]
  simp only [hM] at hal
  clear hM
  have hidl : (idsTo M 128).length ≤ 128 := by rw [idsTo_length]; exact cnt_le _
  simp only [sv] at hal ⊢
  refine callsIn_of_wp_marks Tryd.func19 rfl trivial ?_ rfl
  simp only [Tryd.ntmps19, List.size_toArray, List.length_cons, List.length_nil, Nat.reduceAdd, Nat.reduceSub, Array.replicate_succ, Array.replicate_zero, List.push_toArray, List.append_toArray, List.nil_append, List.cons_append]
  gi_wp2
  with_reducible (refine And.intro (wfn _) (And.intro wdep ?_))
  refine (callsIn_wide.2 (hal _)).mono ?_
  rintro e W0 ⟨rfl, hb, hh⟩
  have zz : w.heap.size + 4 ≤ W0.heap.size := by have := hh.lt; simp at this; omega
  have b0 : Below w.heap.size w W0 := bel2 (bel2 (bel2 (al1' _ _) (al1' _ _)) (al1' _ _)) hb
  have p0 : Boxed W0 w.heap.size 43 (.pointer (some ⟨p, 0, none⟩)) := (hb.block _ (by simp; omega)).trans (old_at (old_at (new_at rfl)))
  have v0 : Boxed W0 (w.heap.size + 1 + 1) 42 (.slice none 0 0) := (hb.block _ (by simp)).trans (new_at (by simp))
  have o0 : W0.ownsRow w.heap.size 50 3 (.slice none 0 0) 0 [] := World.ownsRow_nil _ _ _ _
  have hh' : Holds4 W0 (w.heap.size + 1 + 1 + 1) (wd M) := by simpa using hh
  clear hb hal
  gi_wp2
  refine wp_rangeE (kb := 0) (gf := 69) (lb := #[.pointer (some ⟨w.heap.size + 1 + 1 + 1, 0, none⟩)]) rfl (enters_of Tryd.func69 (by kernel_rfl) rfl)
    (all1_seq M (w.heap.size + 1 + 1 + 1) _ hh') (by omega) (fun _ => rfl)
    (fun pre W => (∃ v, Boxed W (w.heap.size + 1 + 1) 42 v ∧ W.ownsRow w.heap.size 50 3 v (dbs l pre).length (fl (dbs l pre)) ∧ ∀ q, v.ownBlock = some q → W0.heap.size + 2 ≤ q) ∧ Boxed W w.heap.size 43 (.pointer (some ⟨p, 0, none⟩)) ∧ Below w.heap.size w W)
    (fun _ _ _ => False)
    (OwnFrom.and ((rowBoxP_own _ _ _ _ _ (fun pre : List Nat => (dbs l pre).length) (fun pre => fl (dbs l pre)) _).from _) (OwnFrom.and ((boxed_own _ _ (fun _ : List Nat => (.pointer (some ⟨p, 0, none⟩)))).from _) (ownFrom_below (Nat.le_refl _) (by omega))))
    (fun _ _ _ _ _ hs _ _ => hs)
    ⟨⟨_, v0, o0, fun q e => by cases e⟩, p0, b0⟩ (fun _ W h => hT.keep h.2.2 hT.lt)
    (fun x a' _ => a' = { tmps := #[.pointer (some ⟨p, 0, none⟩), sv M0, .pointer (some ⟨w.heap.size, 0, none⟩), .pointer (some ⟨w.heap.size + 1, 0, none⟩), .slice none 0 0, .pointer (some ⟨w.heap.size + 1 + 1, 0, none⟩), .int .i64 (x : Nat), undef, undef, sv M0, .func (.func 69) #[] #[.pointer (some ⟨w.heap.size + 1 + 1 + 1, 0, none⟩)], .int .i64 (x : Nat), undef, undef, undef, undef, undef, undef, undef, undef, undef, undef, undef, undef, undef, undef, undef, undef, undef, undef, undef, undef, undef], defers := [] })
    (fun _ _ _ _ _ _ hs _ _ => hs) ?assign ?body ?done ?stop
  case assign =>
    rintro l2 pre x W K hi hsz hK
    gi_wp2
    exact hK _ _ (Kept.refl _ _ _ _) hi rfl
  case body =>
    rintro l2 pre x a' W ⟨⟨v, hv, hrow, hq⟩, hp, hb⟩ rfl hsz hpr
    have hpl : (pre ++ [x]).length ≤ (idsTo M 128).length := hpr.length_le
    have hdl := dbs_len l pre
    simp only [List.length_append, List.length_cons, List.length_nil] at hpl
    have hcp := hp.cell
    have hat := at_any (h.carry (bel2 (Below.refl _ w) hb)) (x : Int)
    have hsn := dbs_snoc l pre x
    have hbs := hb.size
    by_cases hx : x < l.length
    case neg =>
      have hat' : atV l (x : Int) = .tuple #[nt 0 0 0, .int .i64 30] := if_neg (by omega)
      have hF : dbF l x = none := by unfold dbF; rw [List.getElem?_eq_none (by omega)]
      rw [hF] at hsn
      simp only [Option.toList_none, List.append_nil] at hsn
      rw [hat'] at hat
      clear hat' hF
      gi_wp2_with (first
        | (refine ⟨trivial, rfl, ?_⟩; gi_at_call 20; refine (callsIn_wide.2 hat).mono ?_; rintro e u1 ⟨rfl, hb1⟩; obtain ⟨u2, hu2⟩ : ∃ u2, u1.alloc (.cells #[.int .i64 0, .int .i64 0, .int .i64 0] 50) = u2 := ⟨_, rfl⟩; have k1 : NB u2 u1.heap.size 0 0 0 := (by rw [← hu2]; exact NB.new _ _ _ _); have k2 : Hid (Below W.heap.size W u2) := (by rw [← hu2]; exact bel2 hb1 (al1' _ _)); have k3 : W.heap.size ≤ u1.heap.size := hb1.size)
        | (refine wpListIn_store_run rfl 50 (.tmp 7) (.tmp 16) rfl _ _ rfl rfl _ (store_nt k1 0 0 0) ?_; obtain ⟨u3, hu3⟩ : ∃ u3, W3 u2 u1.heap.size 0 0 0 = u3 := ⟨_, rfl⟩; have k4 : Hid (Below W.heap.size W u3) := (by rw [← hu3]; exact ((k2.out.setCell k3 _).setCell k3 _).setCell k3 _); rw [hu3]))
      refine ⟨Kept.below k4.out (by omega) (by omega), ⟨v, (k4.out.block _ hv.lt).trans hv, ?_, hq⟩, (k4.out.block _ hp.lt).trans hp, bel2 hb k4.out⟩
      rw [hsn]
      exact row_below hrow k4.out
    obtain ⟨⟨yo, yt, yk⟩, hy⟩ : ∃ y, l[x]? = some y := ⟨_, List.getElem?_eq_getElem hx⟩
    rw [atV_in hy] at hat
    have hF : dbF l x = if yk = 1 then some ((x : Int), yt, 2) else none := by unfold dbF; rw [hy]
    rw [hF] at hsn
    clear hF
    dsimp only at hat
    by_cases hk1 : yk = 1
    case neg =>
      rw [if_neg hk1] at hsn
      simp only [Option.toList_none, List.append_nil] at hsn
      have hk2 : (yk == 1) = false := by simpa using hk1
      gi_wp2_with (first
        | (refine ⟨trivial, rfl, ?_⟩; gi_at_call 20; refine (callsIn_wide.2 hat).mono ?_; rintro e u1 ⟨rfl, hb1⟩; obtain ⟨u2, hu2⟩ : ∃ u2, u1.alloc (.cells #[.int .i64 0, .int .i64 0, .int .i64 0] 50) = u2 := ⟨_, rfl⟩; have k1 : NB u2 u1.heap.size 0 0 0 := (by rw [← hu2]; exact NB.new _ _ _ _); have k2 : Hid (Below W.heap.size W u2) := (by rw [← hu2]; exact bel2 hb1 (al1' _ _)); have k3 : W.heap.size ≤ u1.heap.size := hb1.size)
        | (refine wpListIn_store_run rfl 50 (.tmp 7) (.tmp 16) rfl _ _ rfl rfl _ (store_nt k1 yo yt yk) ?_; obtain ⟨u3, hu3⟩ : ∃ u3, W3 u2 u1.heap.size yo yt yk = u3 := ⟨_, rfl⟩; have k4 : Hid (Below W.heap.size W u3) := (by rw [← hu3]; exact ((k2.out.setCell k3 _).setCell k3 _).setCell k3 _); have k5 : NB u3 u1.heap.size yo yt yk := (by rw [← hu3]; exact k1.set _ _ _); rw [hu3]; have n1 := k5.c1; have n2 := k5.c2))
      refine ⟨Kept.below k4.out (by omega) (by omega), ⟨v, (k4.out.block _ hv.lt).trans hv, ?_, hq⟩, (k4.out.block _ hp.lt).trans hp, bel2 hb k4.out⟩
      rw [hsn]
      exact row_below hrow k4.out
    rw [if_pos hk1] at hsn
    simp only [Option.toList_some] at hsn
    subst hk1
    gi_wp2_with (first
      | (refine ⟨trivial, rfl, ?_⟩; gi_at_call 20; refine (callsIn_wide.2 hat).mono ?_; rintro e u1 ⟨rfl, hb1⟩; obtain ⟨u2, hu2⟩ : ∃ u2, u1.alloc (.cells #[.int .i64 0, .int .i64 0, .int .i64 0] 50) = u2 := ⟨_, rfl⟩; have k1 : NB u2 u1.heap.size 0 0 0 := (by rw [← hu2]; exact NB.new _ _ _ _); have k2 : Hid (Below W.heap.size W u2) := (by rw [← hu2]; exact bel2 hb1 (al1' _ _)); have k3 : W.heap.size ≤ u1.heap.size := hb1.size)
      | (refine wpListIn_store_run rfl 50 (.tmp 7) (.tmp 16) rfl _ _ rfl rfl _ (store_nt k1 yo yt 1) ?_; obtain ⟨u3, hu3⟩ : ∃ u3, W3 u2 u1.heap.size yo yt 1 = u3 := ⟨_, rfl⟩; have k4 : Hid (Below W.heap.size W u3) := (by rw [← hu3]; exact ((k2.out.setCell k3 _).setCell k3 _).setCell k3 _); have k5 : NB u3 u1.heap.size yo yt 1 := (by rw [← hu3]; exact k1.set _ _ _); rw [hu3]; have n1 := k5.c1; have n2 := k5.c2; have hv1 : Boxed u3 (w.heap.size + 1 + 1) 42 v := (k4.out.block _ hv.lt).trans hv; have hrow1 := row_below hrow k4.out; have hp1 : Boxed u3 w.heap.size 43 (.pointer (some ⟨p, 0, none⟩)) := (k4.out.block _ hp.lt).trans hp; have hbw1 := bel2 hb k4.out; have hcv1 := hv1.cell; have hz3 : W.heap.size ≤ u3.heap.size := k4.out.size)
      | (gi_at_builtin; refine wpListIn_append_own_at _ rfl _ _ 42 rfl w.heap.size 50 ic _ 3 24 Tryd.underlying42 hic hz0 hz1 hz2 rfl (by decide) _ _ _ rfl (hrow1.alloc _) ⟨u3.heap.size, 0, none⟩ 1 1 [_, _, _] rfl rfl (rowN _ #[_, _, _] _) (by simp [Value.oneCell']) (by unfold maxLen; omega) (by omega) (Nat.le_trans hbw1.size (by simp)) ?_; intro v' w2 hown' hgrow _ hob; obtain ⟨g', cap', rfl⟩ := ownsRow_succ hown'; have hv2 : Boxed w2 (w.heap.size + 1 + 1) 42 v := (hv1.alloc _).kept hgrow (fun e' => by have := hq _ e'.symm; omega); have hp2 := (hp1.alloc (.cells #[.int .i64 (x : Int), .int .i64 yt, .int .i64 2] 50)).kept hgrow (fun e' => by have := hq _ e'.symm; omega); have hc2 := hv2.cell; have hfz2 := hv2.frozen))
    refine ⟨?_, ⟨_, hv2.set _, ?_, ?_⟩, ?_, ?_⟩
    · refine (((Kept.below k4.out (by omega) (by omega)).trans (Kept.below (al1' _ _) (by omega) (by omega))).trans (Kept.grown hgrow (by simp; omega) (by simp; omega) (fun q hq' => ?_))).trans (Kept.setCell (by omega) (by omega))
      have := hq q hq'
      omega
    · rw [hsn, fl_append, List.length_append]
      refine ownsRow_set hown' (fun q hq' => ?_) _
      rcases hob with e | e
      · have := hq q (e ▸ hq'); omega
      · rw [e] at hq'; simp at hq'; omega
    · intro q hq'
      rcases hob with e | e
      · exact hq q (e ▸ hq')
      · rw [e] at hq'; simp at hq'; omega
    · exact (set_other (by omega)).trans hp2
    · exact ((hbw1.alloc hbw1.size _).grown hgrow (by have := hbw1.size; simp; omega) (fun q hq' => by have := hq q hq'; omega)).setCell (by simp; omega) _
  case done =>
    rintro W ⟨⟨v, hv, hrow, hq⟩, hp, hb⟩ hK
    have hcv := hv.cell
    gi_wp2
    refine ⟨by simp, .inl ⟨_, _, rfl, run_takeDeferred hK, ?_⟩⟩
    exact ⟨v, by simp [results, Tryd.results19, go_sem], v, rfl, ownsRow_putObj hrow _ hK rfl, below_taken _ hb (by omega)⟩
  case stop =>
    rintro c pre W _ h _
    exact h.elim
theorem doubts_any {w : World} {p g : Nat} {l : List N3} (h : Bk w p g l) (M0 : Nat) (hT : Tab w) : Calls Tryd.prog 19 #[.pointer (some ⟨p, 0, none⟩), sv M0] w fun e w' => ∃ v, e = .returned v ∧ Made w w' v (dbs l (idsTo (cln M0) 128)) ∧ Below w.heap.size w w' := callsIn_wide.1 (doubts_in h M0 hT)
end Go.Proofs.YtgehmidalfajgaaDoor
namespace Go.Proofs.YtgehmidalfajgaaDoor
open Go.RowKit Go.Shelf Go.Lib
attribute [local go_sem] Oper.semAt_some

/-- The nodes that are suspected. -/
def sst (N : Nat) (x : N3) : Nat := if x.2.2 = 2 then N ||| 2 ^ x.1.toNat else N
def sus (l : List N3) : Nat := l.foldl sst 0
theorem pfx_at {pre l : List N3} {x : N3} (h : pre ++ [x] <+: l) : l[pre.length]? = some x := by
  obtain ⟨r, hr⟩ := h
  rw [← hr, List.append_assoc, List.getElem?_append_right (Nat.le_refl _)]
  simp
theorem pfx_pre {pre l : List N3} {x : N3} (h : pre ++ [x] <+: l) : pre <+: l := (List.prefix_append pre [x]).trans h
theorem fold_sst_lt : ∀ (m : List N3) (N : Nat), (∀ x ∈ m, x.1.toNat < 100) → N < 2 ^ 100 → m.foldl sst N < 2 ^ 100
  | [], _, _, h => h
  | x :: m, N, hv, h => by
    refine fold_sst_lt m (sst N x) (fun y hy => hv y (by simp [hy])) ?_
    unfold sst
    split
    · exact Nat.or_lt_two_pow h (Nat.pow_lt_pow_right (by decide) (hv x (by simp)))
    · exact h
theorem bok_lt {l : List N3} (hb : Bok l) (hl : l.length ≤ 100) : ∀ x ∈ l, x.1.toNat < 100 := by
  intro x hx
  obtain ⟨i, hi⟩ := List.mem_iff_getElem?.1 hx
  have := (hb i x hi).1
  have := (List.getElem?_eq_some_iff.1 hi).1
  omega
theorem fold_sst_bit : ∀ (m : List N3) (N i : Nat), (m.foldl sst N).testBit i = (N.testBit i || m.any fun x => decide (x.2.2 = 2 ∧ x.1.toNat = i))
  | [], N, i => by simp
  | x :: m, N, i => by
    rw [List.foldl_cons, fold_sst_bit m, List.any_cons]
    unfold sst
    by_cases h : x.2.2 = 2
    · rw [if_pos h, Nat.testBit_or, Nat.testBit_two_pow]
      simp [h, Bool.or_assoc]
    · rw [if_neg h]
      simp [h]
theorem sus_bit {l : List N3} (hb : Bok l) {i : Nat} {x : N3} (hx : l[i]? = some x) : (sus l).testBit i = decide (x.2.2 = 2) := by
  unfold sus
  rw [fold_sst_bit]
  simp only [Nat.zero_testBit, Bool.false_or]
  by_cases h : x.2.2 = 2
  · rw [decide_eq_true h, List.any_eq_true]
    exact ⟨x, List.mem_of_getElem? hx, decide_eq_true ⟨h, by have := (hb i x hx).1; omega⟩⟩
  · rw [decide_eq_false h, List.any_eq_false]
    intro y hy
    rw [decide_eq_true_iff]
    rintro ⟨h1, h2⟩
    obtain ⟨j, hj⟩ := List.mem_iff_getElem?.1 hy
    have := (hb j y hj).1
    obtain rfl : j = i := by omega
    rw [hx] at hj
    obtain rfl := Option.some.inj hj
    exact h h1
theorem sus_hi {l : List N3} (hb : Bok l) {i : Nat} (hi : l.length ≤ i) : (sus l).testBit i = false := by
  unfold sus
  rw [fold_sst_bit]
  simp only [Nat.zero_testBit, Bool.false_or]
  rw [List.any_eq_false]
  intro y hy
  rw [decide_eq_true_iff]
  rintro ⟨_, h2⟩
  obtain ⟨j, hj⟩ := List.mem_iff_getElem?.1 hy
  have := (hb j y hj).1
  have := (List.getElem?_eq_some_iff.1 hj).1
  omega
theorem sus_lt {l : List N3} (hb : Bok l) (hl : l.length ≤ 100) : sus l < 2 ^ 100 := fold_sst_lt l 0 (bok_lt hb hl) (by decide)
theorem kept_set4 {bx B m : Nat} {W : World} {b M : Nat} (h1 : b ≠ bx) (h2 : b < B ∨ B + m ≤ b) : Kept bx B m W (set4 W b M) := by
  unfold set4
  exact (((Kept.setCell h1 h2).trans (Kept.setCell h1 h2)).trans (Kept.setCell h1 h2)).trans (Kept.setCell h1 h2)
theorem Holds4.other4 {W : World} {b b' M : Nat} {c : Nat → Nat} (h : Holds4 W b' c) (hne : b' ≠ b) : Holds4 (set4 W b M) b' c := by
  unfold set4 Holds4
  rw [Below.heap_setCell _ _ _ _ hne, Below.heap_setCell _ _ _ _ hne, Below.heap_setCell _ _ _ _ hne, Below.heap_setCell _ _ _ _ hne]
  exact h
set_option maxHeartbeats 4000000 in
set_option maxRecDepth 100000 in
theorem sus_in {w : World} {p g : Nat} {l : List N3} (h : Bk w p g l) (h0 : 0 < l.length) (h1 : l.length ≤ 100) (hbo : Bok l) : CallsIn Fence.wide 0 Tryd.prog 18 #[.pointer (some ⟨p, 0, none⟩)] w fun e w' => e = .returned (sv (sus l)) ∧ Below w.heap.size w w' := by
  have HBO : Hid (Bok l) := hbo
  have hal := ball_any ((h.alloc (.cells #[.int .u32 0, .int .u32 0, .int .u32 0, .int .u32 0] 27)).alloc (.cells #[.int .u32 0, .int .u32 0, .int .u32 0, .int .u32 0] 27)) h0 h1
  clear h hbo
  refine callsIn_of_wp_marks Tryd.func18 rfl trivial ?_ rfl
  simp only [Tryd.ntmps18, List.size_toArray, List.length_cons, List.length_nil, Nat.reduceAdd, Nat.reduceSub, Array.replicate_succ, Array.replicate_zero, List.push_toArray, List.append_toArray, List.nil_append, List.cons_append]
  gi_wp2
  with_reducible (refine And.intro (wfn _) (And.intro wdep ?_))
  refine (callsIn_wide.2 hal).mono ?_
  rintro e W0 ⟨bx, gt, rfl, hgt, hbx, hsb, hb⟩
  have b0 : Below w.heap.size w W0 := bel2 (al2 _ _ _) hb
  have r0 : Holds4 W0 w.heap.size (fun _ => 0) := (hb.block _ (by simp; omega)).trans (old_at (new_at rfl))
  have s0 : Holds4 W0 (w.heap.size + 1) (wd 0) := Holds4.congr (c := fun _ => 0) ((hb.block _ (by simp)).trans (new_at (by simp))) (fun j _ => (wd_zero j).symm)
  have hgl : gt < W0.heap.size := lt_at hsb.row
  have hgt2 : w.heap.size + 2 ≤ gt := by simp at hgt; omega
  have hz : w.heap.size + 2 ≤ W0.heap.size := by omega
  clear hal hb hgt hbx
  gi_wp2
  refine wp_rangeE (kb := 0) (gf := 68) (lb := #[.pointer (some ⟨bx, 0, none⟩)]) rfl (enters_of Tryd.func68 (by kernel_rfl) rfl)
    (ball1_seq l bx gt _ h1 hsb) hgl (fun _ => rfl)
    (fun pre W => W.heap[w.heap.size + 1]? = some (.cells (cells4 (wd (sus pre))) 27) ∧ W.heap[w.heap.size]? = some (.cells (cells4 (fun _ => 0)) 27) ∧ Below w.heap.size w W)
    (fun _ _ _ => False)
    (OwnFrom.and ((blk_own (w.heap.size + 1) (fun pre : List N3 => (.cells (cells4 (wd (sus pre))) 27)) (fun _ => rfl)).from _) (OwnFrom.and ((blk_own w.heap.size (fun _ : List N3 => (.cells (cells4 (fun _ => 0)) 27)) (fun _ => rfl)).from _) (ownFrom_below (Nat.le_refl _) (by omega))))
    (fun _ _ _ _ _ hs _ _ => hs)
    ⟨s0, r0, b0⟩ (fun _ _ _ => trivial)
    (fun x a' W => ∃ B, a' = { tmps := #[.pointer (some ⟨p, 0, none⟩), undef, .pointer (some ⟨w.heap.size, 0, none⟩), .pointer (some ⟨w.heap.size + 1, 0, none⟩), .pointer (some ⟨B, 0, none⟩), .pointer (some ⟨p, 0, none⟩), .func (.func 68) #[] #[.pointer (some ⟨bx, 0, none⟩)], nt x.1 x.2.1 x.2.2, undef, undef, undef, undef, undef, undef, undef, undef, undef, undef, undef], defers := [] } ∧ NB W B x.1 x.2.1 x.2.2)
    (fun x a' s X Y row hs hg hr => by
      obtain ⟨B, e, hn⟩ := hs
      exact ⟨B, e, (grownBy_keeps_cells hg (fun r q => (hr r q).2) hn rfl).trans hn⟩) ?assign ?body ?done ?stop
  case assign =>
    rintro l2 pre ⟨o, t, k⟩ W K ⟨hs, hr, hb⟩ hsz hK
    unfold nt
    gi_wp2
    exact hK _ _ (Kept.below (al1 _ _) (by omega) (by omega)) ⟨old_at hs, old_at hr, hb.alloc hb.size _⟩ ⟨_, rfl, NB.new _ _ _ _⟩
  case body =>
    rintro l2 pre ⟨o, t, k⟩ a' W ⟨hs, hr, hb⟩ ⟨B, rfl, hn⟩ hsz hpr
    have HS : Hid (Holds4 W (w.heap.size + 1) (wd (sus pre))) := hs
    have HR : Hid (Holds4 W w.heap.size (fun _ => 0)) := hr
    clear hs hr
    have hat := pfx_at hpr
    have ho := (HBO.out _ _ hat).1
    have hlt := (List.getElem?_eq_some_iff.1 hat).1
    dsimp only at ho
    have hN : sus pre < 2 ^ 100 := fold_sst_lt pre 0 (fun x hx => bok_lt HBO.out h1 x ((pfx_pre hpr).subset hx)) (by decide)
    have hst : sus (pre ++ [(o, t, k)]) = sst (sus pre) (o, t, k) := by unfold sus; rw [List.foldl_append]; rfl
    have n0 := hn.c0
    have n2 := hn.c2
    dsimp only at n0 n2
    by_cases hk : k = 2
    · have hs2 : sst (sus pre) (o, t, k) = sus pre ||| 2 ^ pre.length := by unfold sst; rw [if_pos hk, ho]; simp
      have hw := with_any (sus pre) o
      have e3 : withV (sus pre) o = .tuple #[sv (sus pre ||| 2 ^ pre.length), .int .i64 0] := by
        unfold withV
        rw [if_pos (by omega), cln_of_lt hN, ho, Int.toNat_natCast]
      rw [e3] at hw
      have HST : Hid (sus (pre ++ [(o, t, k)]) = sus pre ||| 2 ^ pre.length) := hst.trans hs2
      subst hk
      obtain ⟨x0, x1, x2, x3, _, _, _, _⟩ := HS.out.facts
      clear hst hs2 e3 hat
      unfold sv at hw
      have HO : Hid (o = (pre.length : Int)) := ho
      clear ho
      generalize sus pre ||| 2 ^ pre.length = M at *
      gi_wp2_with (refine ⟨trivial, rfl, ?_⟩; gi_at_call 25; refine (callsIn_wide.2 (hw _)).mono ?_; rintro e u1 ⟨rfl, hb1⟩; have HS1 : Hid (Holds4 u1 (w.heap.size + 1) (wd (sus pre))) := HS.out.carry hb1; obtain ⟨y0, y1, y2, y3, z0, z1, z2, z3⟩ := HS1.out.facts)
      have hbw := bel2 hb hb1
      refine ⟨(Kept.below hb1 (by omega) (by omega)).trans (kept_set4 (by omega) (by omega)), ?_, (HR.out.carry hb1).other4 (by omega), below4 hbw (by omega) M⟩
      rw [HST.out]
      exact fin4 HS1.out M
    · have hs2 : sst (sus pre) (o, t, k) = sus pre := by unfold sst; rw [if_neg hk]
      have HST : Hid (sus (pre ++ [(o, t, k)]) = sus pre) := hst.trans hs2
      have hk2 : (k == 2) = false := by simpa using hk
      clear hst hs2 hat ho
      gi_wp2
      refine ⟨Kept.refl _ _ _ _, ?_, HR.out, hb⟩
      rw [HST.out]
      exact HS.out
  case done =>
    rintro W ⟨hs, hr, hb⟩ hK
    have HS : Hid (Holds4 W (w.heap.size + 1) (wd (sus l))) := hs
    have HR : Hid (Holds4 W w.heap.size (fun _ => 0)) := hr
    clear hs hr
    obtain ⟨x0, x1, x2, x3, _, _, _, _⟩ := HS.out.facts
    obtain ⟨y0, y1, y2, y3, z0, z1, z2, z3⟩ := HR.out.facts
    gi_wp2
    have hfin : Holds4 (set4 W w.heap.size (sus l)) w.heap.size (wd (sus l)) := fin4 HR.out _
    have hbf : Below w.heap.size w (set4 W w.heap.size (sus l)) := below4 hb (Nat.le_refl _) _
    have hK2 : (set4 W w.heap.size (sus l)).heap[W0.heap.size]? = some (.deferred (some [])) := by
      unfold set4
      rw [Below.heap_setCell _ _ _ _ (by simp only; omega), Below.heap_setCell _ _ _ _ (by simp only; omega), Below.heap_setCell _ _ _ _ (by simp only; omega), Below.heap_setCell _ _ _ _ (by simp only; omega)]
      exact hK
    refine ⟨by simp, .inl ⟨_, _, rfl, run_takeDeferred hK2, ?_⟩⟩
    have hf2 : Holds4 ((set4 W w.heap.size (sus l)).putObj W0.heap.size (.deferred none)) w.heap.size (wd (sus l)) := (World.putObj_heap_other (by omega)).trans hfin
    have h1 := run_loadVar_row (P := Tryd.prog) _ w.heap.size 27 27 (cells4 (wd (sus l))) (0, 0) _ hf2 Tryd.underlying27 rfl (by kernel_rfl)
    refine ⟨sv (sus l), ?_, rfl, below_taken _ hbf (by omega)⟩
    simp [results, Tryd.results18, asAddr]
    exact h1
  case stop =>
    rintro c pre W _ h _
    exact h.elim
theorem sus_any {w : World} {p g : Nat} {l : List N3} (h : Bk w p g l) (h0 : 0 < l.length) (h1 : l.length ≤ 100) (hbo : Bok l) : Calls Tryd.prog 18 #[.pointer (some ⟨p, 0, none⟩)] w fun e w' => e = .returned (sv (sus l)) ∧ Below w.heap.size w w' := callsIn_wide.1 (sus_in h h0 h1 hbo)
end Go.Proofs.YtgehmidalfajgaaDoor
