/- infer's Doubts: what it answers, at every book. -/
import Derived.Test.YtgehmidalfajgabGreatDoorInferDoubtsJ5
import Derived.Test.YtgehmidalfajgabGreatDoorInferDoubtsJ3
import Derived.Test.YtgehmidalfajgabGreatDoorItx
import Derived.Test.YtgehmidalfajgabGreatDoorOwn
import Derived.Maps.AppendAt
import Derived.Maps.OwnIn
import Derived.Test.YtgehmidalfajgabGreatDoorInferDoubtsJ6
import Derived.Test.YtgehmidalfajgabGreatDoorInferDoubtsJ4
namespace Go.Proofs.YtgehmidalfajgabGreatDoor
open Go.RowKit Go.Shelf Go.Lib
attribute [local go_sem] Oper.semAt_some

/-- The doubt that comes of an id, if any. -/
def dbF (l : List N3) (i : Nat) : Option N3 := match l[i]? with
  | some x => if x.2.2 = 1 then some ((i : Int), x.2.1, 2) else none
  | none => none
def dbs (l : List N3) (pre : List Nat) : List N3 := pre.filterMap (dbF l)
theorem dbs_snoc (l : List N3) (pre : List Nat) (x : Nat) : dbs l (pre ++ [x]) = dbs l pre ++ (dbF l x).toList := by
  unfold dbs
  rw [List.filterMap_append]
  cases h : dbF l x <;> simp [h]
theorem dbs_len (l : List N3) (pre : List Nat) : (dbs l pre).length ≤ pre.length := List.length_filterMap_le _ _
theorem wpListIn_store_run {F : Fence} {n : Nat} {P : Program} {ops : Array Oper} {rest : List Oper} {o : Oper} {a : Act} {w : World} {Q : Exit → Act → World → Prop} (hg : o.guard = none) (ty : TypeId) (x y : Operand) (ho : o.op = .store ty x y) (vx vy : Value) (hx : a.eval x = vx) (hy : a.eval y = vy)
    (w' : World) (hr : (Instr.storeAt ty vx vy).run P w = .ok () w') (h : wpListIn F n P ops Q rest (a.put o.dst undef) w') : wpListIn F n P ops Q (o :: rest) a w := by
  refine wpListIn_plain hg fun K hK => ?_
  unfold Oper.wpIn
  refine ⟨by simp [Oper.about, ho], ?_⟩
  rw [Oper.semAt_plain F _ _ (by rw [ho]; intro c hc'; cases hc')]
  simp [execOp, ho, hx, hy, hr, Result.andThen]
  exact hK _ _ h
set_option maxHeartbeats 4000000 in
set_option maxRecDepth 100000 in
theorem doubts_in {w : World} {p g : Nat} {l : List N3} (h : Bk w p g l) (M0 : Nat) (hT : Tab w) : CallsIn Fence.wide 0 Tryz.prog 9 #[.pointer (some ⟨p, 0, none⟩), sv M0] w fun e w' => ∃ v, e = .returned v ∧ Made w w' v (dbs l (idsTo (cln M0) 128)) ∧ Below w.heap.size w w' := by
  obtain ⟨ic, hic, hz0, hz1, hz2⟩ := info_partsN
  have hal := all_any M0
  obtain ⟨M, hM⟩ : ∃ M, cln M0 = M := ⟨_, rfl⟩
  rw [hM]
  simp only [hM] at hal
  clear hM
  have hidl : (idsTo M 128).length ≤ 128 := by rw [idsTo_length]; exact cnt_le _
  simp only [sv] at hal ⊢
  refine callsIn_of_wp_marks Tryz.func9 rfl trivial ?_ rfl
  simp only [Tryz.ntmps9, List.size_toArray, List.length_cons, List.length_nil, Nat.reduceAdd, Nat.reduceSub, Array.replicate_succ, Array.replicate_zero, List.push_toArray, List.append_toArray, List.nil_append, List.cons_append]
  gi_wp2
  with_reducible (refine And.intro (wfn _) (And.intro wdep ?_))
  refine (callsIn_wide.2 (hal _)).mono ?_
  rintro e W0 ⟨rfl, hb, hh⟩
  have zz : w.heap.size + 4 ≤ W0.heap.size := by have := hh.lt; simp at this; omega
  have b0 : Below w.heap.size w W0 := bel2 (bel2 (bel2 (al1' _ _) (al1' _ _)) (al1' _ _)) hb
  have p0 : Boxed W0 w.heap.size 27 (.pointer (some ⟨p, 0, none⟩)) := (hb.block _ (by simp; omega)).trans (old_at (old_at (new_at rfl)))
  have v0 : Boxed W0 (w.heap.size + 1 + 1) 22 (.slice none 0 0) := (hb.block _ (by simp)).trans (new_at (by simp))
  have o0 : W0.ownsRow w.heap.size 70 3 (.slice none 0 0) 0 [] := World.ownsRow_nil _ _ _ _
  have hh' : Holds4 W0 (w.heap.size + 1 + 1 + 1) (wd M) := by simpa using hh
  clear hb hal
  gi_wp2
  refine wp_rangeE (kb := 0) (gf := 102) (lb := #[.pointer (some ⟨w.heap.size + 1 + 1 + 1, 0, none⟩)]) rfl (enters_of Tryz.func102 (by kernel_rfl) rfl)
    (all1_seq M (w.heap.size + 1 + 1 + 1) _ hh') (by omega) (fun _ => rfl)
    (fun pre W => (∃ v, Boxed W (w.heap.size + 1 + 1) 22 v ∧ W.ownsRow w.heap.size 70 3 v (dbs l pre).length (fl (dbs l pre)) ∧ ∀ q, v.ownBlock = some q → W0.heap.size + 2 ≤ q) ∧ Boxed W w.heap.size 27 (.pointer (some ⟨p, 0, none⟩)) ∧ Below w.heap.size w W)
    (fun _ _ _ => False)
    (OwnFrom.and ((rowBoxP_own _ _ _ _ _ (fun pre : List Nat => (dbs l pre).length) (fun pre => fl (dbs l pre)) _).from _) (OwnFrom.and ((boxed_own _ _ (fun _ : List Nat => (.pointer (some ⟨p, 0, none⟩)))).from _) (ownFrom_below (Nat.le_refl _) (by omega))))
    (fun _ _ _ _ _ hs _ _ => hs)
    ⟨⟨_, v0, o0, fun q e => by cases e⟩, p0, b0⟩ (fun _ W h => hT.keep h.2.2 hT.lt)
    (fun x a' _ => a' = { tmps := #[.pointer (some ⟨p, 0, none⟩), sv M0, .pointer (some ⟨w.heap.size, 0, none⟩), .pointer (some ⟨w.heap.size + 1, 0, none⟩), .slice none 0 0, .pointer (some ⟨w.heap.size + 1 + 1, 0, none⟩), .int .i64 (x : Nat), undef, undef, sv M0, .func (.func 102) #[] #[.pointer (some ⟨w.heap.size + 1 + 1 + 1, 0, none⟩)], .int .i64 (x : Nat), undef, undef, undef, undef, undef, undef, undef, undef, undef, undef, undef, undef, undef, undef, undef, undef, undef, undef, undef, undef, undef], defers := [] })
    (fun _ _ _ _ _ _ hs _ _ => hs) ?assign ?body ?done ?stop
  case assign =>
    rintro l2 pre x W K hi hsz hK
    gi_wp2
    exact hK _ _ (Kept.refl _ _ _ _) hi rfl
  case body =>
    rintro l2 pre x a' W ⟨⟨v, hv, hrow, hq⟩, hp, hb⟩ rfl hsz hpr
    have hpl : (pre ++ [x]).length ≤ (idsTo M 128).length := hpr.length_le
    have hdl := dbs_len l pre
    simp only [List.length_append, List.length_cons, List.length_nil] at hpl
    have hcp := hp.cell
    have hat := at_any (h.carry (bel2 (Below.refl _ w) hb)) (x : Int)
    have hsn := dbs_snoc l pre x
    have hbs := hb.size
    by_cases hx : x < l.length
    case neg =>
      have hat' : atV l (x : Int) = .tuple #[nt 0 0 0, .int .i64 30] := if_neg (by omega)
      have hF : dbF l x = none := by unfold dbF; rw [List.getElem?_eq_none (by omega)]
      rw [hF] at hsn
      simp only [Option.toList_none, List.append_nil] at hsn
      rw [hat'] at hat
      clear hat' hF
      gi_wp2_with (first
        | (refine ⟨trivial, rfl, ?_⟩; gi_at_call 31; refine (callsIn_wide.2 hat).mono ?_; rintro e u1 ⟨rfl, hb1⟩; obtain ⟨u2, hu2⟩ : ∃ u2, u1.alloc (.cells #[.int .i64 0, .int .i64 0, .int .i64 0] 70) = u2 := ⟨_, rfl⟩; have k1 : NB u2 u1.heap.size 0 0 0 := (by rw [← hu2]; exact NB.new _ _ _ _); have k2 : Hid (Below W.heap.size W u2) := (by rw [← hu2]; exact bel2 hb1 (al1' _ _)); have k3 : W.heap.size ≤ u1.heap.size := hb1.size)
        | (refine wpListIn_store_run rfl 70 (.tmp 7) (.tmp 16) rfl _ _ rfl rfl _ (store_nt k1 0 0 0) ?_; obtain ⟨u3, hu3⟩ : ∃ u3, W3 u2 u1.heap.size 0 0 0 = u3 := ⟨_, rfl⟩; have k4 : Hid (Below W.heap.size W u3) := (by rw [← hu3]; exact ((k2.out.setCell k3 _).setCell k3 _).setCell k3 _); rw [hu3]))
      refine ⟨Kept.below k4.out (by omega) (by omega), ⟨v, (k4.out.block _ hv.lt).trans hv, ?_, hq⟩, (k4.out.block _ hp.lt).trans hp, bel2 hb k4.out⟩
      rw [hsn]
      exact row_below hrow k4.out
    obtain ⟨⟨yo, yt, yk⟩, hy⟩ : ∃ y, l[x]? = some y := ⟨_, List.getElem?_eq_getElem hx⟩
    rw [atV_in hy] at hat
    have hF : dbF l x = if yk = 1 then some ((x : Int), yt, 2) else none := by unfold dbF; rw [hy]
    rw [hF] at hsn
    clear hF
    dsimp only at hat
    by_cases hk1 : yk = 1
    case neg =>
      rw [if_neg hk1] at hsn
      simp only [Option.toList_none, List.append_nil] at hsn
      have hk2 : (yk == 1) = false := by simpa using hk1
      gi_wp2_with (first
        | (refine ⟨trivial, rfl, ?_⟩; gi_at_call 31; refine (callsIn_wide.2 hat).mono ?_; rintro e u1 ⟨rfl, hb1⟩; obtain ⟨u2, hu2⟩ : ∃ u2, u1.alloc (.cells #[.int .i64 0, .int .i64 0, .int .i64 0] 70) = u2 := ⟨_, rfl⟩; have k1 : NB u2 u1.heap.size 0 0 0 := (by rw [← hu2]; exact NB.new _ _ _ _); have k2 : Hid (Below W.heap.size W u2) := (by rw [← hu2]; exact bel2 hb1 (al1' _ _)); have k3 : W.heap.size ≤ u1.heap.size := hb1.size)
        | (refine wpListIn_store_run rfl 70 (.tmp 7) (.tmp 16) rfl _ _ rfl rfl _ (store_nt k1 yo yt yk) ?_; obtain ⟨u3, hu3⟩ : ∃ u3, W3 u2 u1.heap.size yo yt yk = u3 := ⟨_, rfl⟩; have k4 : Hid (Below W.heap.size W u3) := (by rw [← hu3]; exact ((k2.out.setCell k3 _).setCell k3 _).setCell k3 _); have k5 : NB u3 u1.heap.size yo yt yk := (by rw [← hu3]; exact k1.set _ _ _); rw [hu3]; have n1 := k5.c1; have n2 := k5.c2))
      refine ⟨Kept.below k4.out (by omega) (by omega), ⟨v, (k4.out.block _ hv.lt).trans hv, ?_, hq⟩, (k4.out.block _ hp.lt).trans hp, bel2 hb k4.out⟩
      rw [hsn]
      exact row_below hrow k4.out
    rw [if_pos hk1] at hsn
    simp only [Option.toList_some] at hsn
    subst hk1
    gi_wp2_with (first
      | (refine ⟨trivial, rfl, ?_⟩; gi_at_call 31; refine (callsIn_wide.2 hat).mono ?_; rintro e u1 ⟨rfl, hb1⟩; obtain ⟨u2, hu2⟩ : ∃ u2, u1.alloc (.cells #[.int .i64 0, .int .i64 0, .int .i64 0] 70) = u2 := ⟨_, rfl⟩; have k1 : NB u2 u1.heap.size 0 0 0 := (by rw [← hu2]; exact NB.new _ _ _ _); have k2 : Hid (Below W.heap.size W u2) := (by rw [← hu2]; exact bel2 hb1 (al1' _ _)); have k3 : W.heap.size ≤ u1.heap.size := hb1.size)
      | (refine wpListIn_store_run rfl 70 (.tmp 7) (.tmp 16) rfl _ _ rfl rfl _ (store_nt k1 yo yt 1) ?_; obtain ⟨u3, hu3⟩ : ∃ u3, W3 u2 u1.heap.size yo yt 1 = u3 := ⟨_, rfl⟩; have k4 : Hid (Below W.heap.size W u3) := (by rw [← hu3]; exact ((k2.out.setCell k3 _).setCell k3 _).setCell k3 _); have k5 : NB u3 u1.heap.size yo yt 1 := (by rw [← hu3]; exact k1.set _ _ _); rw [hu3]; have n1 := k5.c1; have n2 := k5.c2; have hv1 : Boxed u3 (w.heap.size + 1 + 1) 22 v := (k4.out.block _ hv.lt).trans hv; have hrow1 := row_below hrow k4.out; have hp1 : Boxed u3 w.heap.size 27 (.pointer (some ⟨p, 0, none⟩)) := (k4.out.block _ hp.lt).trans hp; have hbw1 := bel2 hb k4.out; have hcv1 := hv1.cell; have hz3 : W.heap.size ≤ u3.heap.size := k4.out.size)
      | (gi_at_builtin; refine wpListIn_append_own_at _ rfl _ _ 22 rfl w.heap.size 70 ic _ 3 24 Tryz.underlying22 hic hz0 hz1 hz2 rfl (by decide) _ _ _ rfl (hrow1.alloc _) ⟨u3.heap.size, 0, none⟩ 1 1 [_, _, _] rfl rfl (rowN _ #[_, _, _] _) (by simp [Value.oneCell']) (by unfold maxLen; omega) (by omega) (Nat.le_trans hbw1.size (by simp)) ?_; intro v' w2 hown' hgrow _ hob; obtain ⟨g', cap', rfl⟩ := ownsRow_succ hown'; have hv2 : Boxed w2 (w.heap.size + 1 + 1) 22 v := (hv1.alloc _).kept hgrow (fun e' => by have := hq _ e'.symm; omega); have hp2 := (hp1.alloc (.cells #[.int .i64 (x : Int), .int .i64 yt, .int .i64 2] 70)).kept hgrow (fun e' => by have := hq _ e'.symm; omega); have hc2 := hv2.cell; have hfz2 := hv2.frozen))
    refine ⟨?_, ⟨_, hv2.set _, ?_, ?_⟩, ?_, ?_⟩
    · refine (((Kept.below k4.out (by omega) (by omega)).trans (Kept.below (al1' _ _) (by omega) (by omega))).trans (Kept.grown hgrow (by simp; omega) (by simp; omega) (fun q hq' => ?_))).trans (Kept.setCell (by omega) (by omega))
      have := hq q hq'
      omega
    · rw [hsn, fl_append, List.length_append]
      refine ownsRow_set hown' (fun q hq' => ?_) _
      rcases hob with e | e
      · have := hq q (e ▸ hq'); omega
      · rw [e] at hq'; simp at hq'; omega
    · intro q hq'
      rcases hob with e | e
      · exact hq q (e ▸ hq')
      · rw [e] at hq'; simp at hq'; omega
    · exact (set_other (by omega)).trans hp2
    · exact ((hbw1.alloc hbw1.size _).grown hgrow (by have := hbw1.size; simp; omega) (fun q hq' => by have := hq q hq'; omega)).setCell (by simp; omega) _
  case done =>
    rintro W ⟨⟨v, hv, hrow, hq⟩, hp, hb⟩ hK
    have hcv := hv.cell
    gi_wp2
    refine ⟨by simp, .inl ⟨_, _, rfl, run_takeDeferred hK, ?_⟩⟩
    exact ⟨v, by simp [results, Tryz.results9, go_sem], v, rfl, ownsRow_putObj hrow _ hK rfl, below_taken _ hb (by omega)⟩
  case stop =>
    rintro c pre W _ h _
    exact h.elim
theorem doubts_any {w : World} {p g : Nat} {l : List N3} (h : Bk w p g l) (M0 : Nat) (hT : Tab w) : Calls Tryz.prog 9 #[.pointer (some ⟨p, 0, none⟩), sv M0] w fun e w' => ∃ v, e = .returned v ∧ Made w w' v (dbs l (idsTo (cln M0) 128)) ∧ Below w.heap.size w w' := callsIn_wide.1 (doubts_in h M0 hT)
end Go.Proofs.YtgehmidalfajgabGreatDoor
namespace Go.Proofs.YtgehmidalfajgabGreatDoor
open Go.RowKit Go.Shelf Go.Lib
attribute [local go_sem] Oper.semAt_some

theorem load_pv {W : World} {bx : Nat} {a : Option Addr} (h : W.heap[bx]? = some (.cells #[.pointer a] 27 (0, 0))) : (Instr.loadAt 27 (.pointer (some ⟨bx, 0, none⟩))).run Tryz.prog W = .ok (.pointer a) W := by
  have c0 := cell_at h 0
  simp at c0
  go_simp
set_option maxHeartbeats 4000000 in
set_option maxRecDepth 100000 in
theorem emerge_any {w : World} {a : Option Addr} (h : EB w (.pointer a)) (ad : Option Addr) (cap : Nat) (l : List N3) (hl : RdN w ad l) : Calls Tryz.prog 7 #[.pointer a, .slice ad l.length cap] w fun e w' => e = .returned (.tuple #[sv 0, .int .i64 (if 0 < l.length then 50 else 0)]) ∧ Below w.heap.size w w' := by
  have hmx : Tryz.prog.follows .mixedOrders = true := by kernel_rfl
  have hb0 := al2 w (.cells #[.pointer a] 27) (.cells #[.int .u32 0, .int .u32 0, .int .u32 0, .int .u32 0] 25)
  have hbx : ((w.alloc (.cells #[.pointer a] 27)).alloc (.cells #[.int .u32 0, .int .u32 0, .int .u32 0, .int .u32 0] 25)).heap[w.heap.size]? = some (.cells #[.pointer a] 27 (0, 0)) := old_at (new_at rfl)
  have hrs : Holds4 ((w.alloc (.cells #[.pointer a] 27)).alloc (.cells #[.int .u32 0, .int .u32 0, .int .u32 0, .int .u32 0] 25)) (w.heap.size + 1) (fun _ => 0) := new_at (by simp)
  cases l with
  | nil =>
    go_enter Tryz.func7, Tryz.ntmps7
    go_wp2
    refine wp_loop_once ?_
    go_wp2
    refine wp_loop_once ?_
    have HR : Hid (Holds4 (((w.alloc (.cells #[.pointer a] 27)).alloc (.cells #[.int .u32 0, .int .u32 0, .int .u32 0, .int .u32 0] 25)).alloc (.cells #[.int .u32 0, .int .u32 0, .int .u32 0, .int .u32 0] 25)) (w.heap.size + 1) (fun _ => 0)) := hrs.carry (al1 _ _)
    obtain ⟨y0, y1, y2, y3, z0, z1, z2, z3⟩ := HR.out.facts
    clear hrs
    go_wp2
    exact ret4t (M := 0) (x := .int .i64 0) rfl rfl rfl rfl (HR.out.congr (fun j _ => (wd_zero j).symm)) ⟨rfl, al3 _ _ _ _⟩
  | cons x r =>
    obtain ⟨o, t, q⟩ := x
    obtain ⟨b, off, rfl, hbl, hat⟩ := hl (by simp)
    have hva := valid_any 0 o t q
    rw [show vl 0 o t q = false from decide_eq_false (by omega)] at hva
    have hat2 := hat.carry hbl hb0
    obtain ⟨c0, c1, c2⟩ := hat2 0 (o, t, q) rfl
    dsimp only at c0 c1 c2
    simp only [Nat.zero_mul, Nat.add_zero] at c0 c1 c2
    have heb := (h.carry hb0).carry (al1 _ (.cells #[.int .i64 o, .int .i64 t, .int .i64 q] 70))
    have hn1 := NB.new ((w.alloc (.cells #[.pointer a] 27)).alloc (.cells #[.int .u32 0, .int .u32 0, .int .u32 0, .int .u32 0] 25)) o t q
    simp only [World.size_alloc] at hn1
    have hb1 := hb0.alloc hb0.size (.cells #[.int .i64 o, .int .i64 t, .int .i64 q] 70)
    have hbx1 := old_at (o := .cells #[.int .i64 o, .int .i64 t, .int .i64 q] 70) hbx
    have hrs1 := hrs.carry (al1 _ (.cells #[.int .i64 o, .int .i64 t, .int .i64 q] 70))
    have hlp : (0 : Int) < ((r.length + 1 : Nat) : Int) := by omega
    have hbu : b < w.heap.size + 2 := by omega
    clear h hl hat hat2 hbx hrs hb0
    go_enter Tryz.func7, Tryz.ntmps7
    go_wp2
    refine wp_loop_once ?_
    go_wp2
    rename_i Q0 K0 hK
    refine wp_region_any hmx ?_
    refine wpAny_pure (fun i__ => ([(.pointer a), (.int .i64 0), (nt o t q), (.bool false), (.bool true)] : List Value).getD i__ undef) (fun V => NB V (w.heap.size + 1 + 1) o t q ∧ EB V (.pointer a) ∧ V.heap[w.heap.size]? = some (.cells #[.pointer a] 27 (0, 0)) ∧ Holds4 V (w.heap.size + 1) (fun _ => 0) ∧ Below w.heap.size w V) (by kernel_rfl) ⟨hn1.carry (Below.refl _ _).drew, heb.carry (Below.refl _ _).drew, hbx1, hrs1.carry (Below.refl _ _).drew, hb1.drew⟩ ?_ ?_
    · refine (stepsFrom_cons ?_ (stepsFrom_cons ?_ (stepsFrom_cons ?_ (stepsFrom_cons ?_ (stepsFrom_cons ?_ trivial)))))
      · exact step_load rfl trivial _ _ _ rfl rfl (fun w hw => load_pv hw.2.2.1)
      · exact step_call rfl trivial 22 _ _ [(.pointer a)] rfl (by kernel_rfl) (enters_of Tryz.func22 (by kernel_rfl) rfl) (fun w hw => (esize_any hw.2.1).mono (by rintro e w' ⟨rfl, hb⟩; exact ⟨rfl, hw.1.carry hb, hw.2.1.carry hb, (hb.block _ (lt_at hw.2.2.1)).trans hw.2.2.1, hw.2.2.2.1.carry hb, bel2 hw.2.2.2.2 hb⟩))
      · exact step_load rfl trivial _ _ _ rfl rfl (fun w hw => load_nt hw.1)
      · exact step_call rfl trivial 21 _ _ [(.int .i64 0), (nt o t q)] rfl (by kernel_rfl) (enters_of Tryz.func21 (by kernel_rfl) rfl) (fun w hw => (hva w).mono (by rintro e w' ⟨rfl, hb⟩; exact ⟨rfl, hw.1.carry hb, hw.2.1.carry hb, (hb.block _ (lt_at hw.2.2.1)).trans hw.2.2.1, hw.2.2.2.1.carry hb, bel2 hw.2.2.2.2 hb⟩))
      · exact step_unOp rfl trivial _ _ _ _ rfl rfl (fun w hw => un_notN false w)
    intro W hW
    first | refine hK _ _ ?_ | refine (‹∀ (a : Act) (w : World), Code.wp Tryz.prog _ _ a w → _›) _ _ ?_
    simp only [finL, List.getD_cons_zero, List.getD_cons_succ, Nat.zero_add, Nat.reduceAdd, List.setIfInBounds_toArray, List.set_cons_zero, List.set_cons_succ]
    obtain ⟨_, _, _, hrs2, hb2⟩ := hW
    have HR : Hid (Holds4 W (w.heap.size + 1) (fun _ => 0)) := hrs2
    obtain ⟨y0, y1, y2, y3, z0, z1, z2, z3⟩ := HR.out.facts
    clear hK hrs2 hn1 heb hbx1 hrs1 hb1 hva c0 c1 c2
    go_wp2
    exact ret4t (M := 0) (x := .int .i64 50) rfl rfl rfl rfl (fin4 HR.out 0) ⟨rfl, below4 hb2 (by omega) 0⟩
set_option maxHeartbeats 4000000 in
set_option maxRecDepth 100000 in
theorem edoubts_in (M0 : Nat) (w : World) (hT : Tab w) : CallsIn Fence.wide 0 Tryz.prog 9 #[.pointer none, sv M0] w fun e w' => e = .returned (.slice none 0 0) ∧ Below w.heap.size w w' := by
  have hal := all_any M0
  obtain ⟨M, hM⟩ : ∃ M, cln M0 = M := ⟨_, rfl⟩
  simp only [hM] at hal
  clear hM
  simp only [sv] at hal ⊢
  refine callsIn_of_wp_marks Tryz.func9 rfl trivial ?_ rfl
  simp only [Tryz.ntmps9, List.size_toArray, List.length_cons, List.length_nil, Nat.reduceAdd, Nat.reduceSub, Array.replicate_succ, Array.replicate_zero, List.push_toArray, List.append_toArray, List.nil_append, List.cons_append]
  gi_wp2
  with_reducible (refine And.intro (wfn _) (And.intro wdep ?_))
  refine (callsIn_wide.2 (hal _)).mono ?_
  rintro e W0 ⟨rfl, hb, hh⟩
  have zz : w.heap.size + 4 ≤ W0.heap.size := by have := hh.lt; simp at this; omega
  have b0 : Below w.heap.size w W0 := bel2 (bel2 (bel2 (al1' _ _) (al1' _ _)) (al1' _ _)) hb
  have p0 : Boxed W0 w.heap.size 27 (.pointer none) := (hb.block _ (by simp; omega)).trans (old_at (old_at (new_at rfl)))
  have v0 : Boxed W0 (w.heap.size + 1 + 1) 22 (.slice none 0 0) := (hb.block _ (by simp)).trans (new_at (by simp))
  have hh' : Holds4 W0 (w.heap.size + 1 + 1 + 1) (wd M) := by simpa using hh
  clear hb hal
  gi_wp2
  refine wp_rangeE (kb := 0) (gf := 102) (lb := #[.pointer (some ⟨w.heap.size + 1 + 1 + 1, 0, none⟩)]) rfl (enters_of Tryz.func102 (by kernel_rfl) rfl)
    (all1_seq M (w.heap.size + 1 + 1 + 1) _ hh') (by omega) (fun _ => rfl)
    (fun _ W => Boxed W (w.heap.size + 1 + 1) 22 (.slice none 0 0) ∧ Boxed W w.heap.size 27 (.pointer none) ∧ Below w.heap.size w W)
    (fun _ _ _ => False)
    (OwnFrom.and ((boxed_own _ _ (fun _ : List Nat => (.slice none 0 0))).from _) (OwnFrom.and ((boxed_own _ _ (fun _ : List Nat => (.pointer none))).from _) (ownFrom_below (Nat.le_refl _) (by omega))))
    (fun _ _ _ _ _ hs _ _ => hs)
    ⟨v0, p0, b0⟩ (fun _ W h => hT.keep h.2.2 hT.lt)
    (fun x a' _ => a' = { tmps := #[.pointer none, sv M0, .pointer (some ⟨w.heap.size, 0, none⟩), .pointer (some ⟨w.heap.size + 1, 0, none⟩), .slice none 0 0, .pointer (some ⟨w.heap.size + 1 + 1, 0, none⟩), .int .i64 (x : Nat), undef, undef, sv M0, .func (.func 102) #[] #[.pointer (some ⟨w.heap.size + 1 + 1 + 1, 0, none⟩)], .int .i64 (x : Nat), undef, undef, undef, undef, undef, undef, undef, undef, undef, undef, undef, undef, undef, undef, undef, undef, undef, undef, undef, undef, undef], defers := [] })
    (fun _ _ _ _ _ _ hs _ _ => hs) ?assign ?body ?done ?stop
  case assign =>
    rintro l2 pre x W K hi hsz hK
    gi_wp2
    exact hK _ _ (Kept.refl _ _ _ _) hi rfl
  case body =>
    rintro l2 pre x a' W ⟨hv, hp, hb⟩ rfl hsz hpr
    have hcp := hp.cell
    have hat := eat_any (w := W) (v := .pointer none) (.inl rfl) (x : Int)
    gi_wp2_with (first
      | (refine ⟨trivial, rfl, ?_⟩; gi_at_call 31; refine (callsIn_wide.2 hat).mono ?_; rintro e u1 ⟨rfl, hb1⟩; obtain ⟨u2, hu2⟩ : ∃ u2, u1.alloc (.cells #[.int .i64 0, .int .i64 0, .int .i64 0] 70) = u2 := ⟨_, rfl⟩; have k1 : NB u2 u1.heap.size 0 0 0 := (by rw [← hu2]; exact NB.new _ _ _ _); have k2 : Hid (Below W.heap.size W u2) := (by rw [← hu2]; exact bel2 hb1 (al1' _ _)); have k3 : W.heap.size ≤ u1.heap.size := hb1.size)
      | (refine wpListIn_store_run rfl 70 (.tmp 7) (.tmp 16) rfl _ _ rfl rfl _ (store_nt k1 0 0 0) ?_; obtain ⟨u3, hu3⟩ : ∃ u3, W3 u2 u1.heap.size 0 0 0 = u3 := ⟨_, rfl⟩; have k4 : Hid (Below W.heap.size W u3) := (by rw [← hu3]; exact ((k2.out.setCell k3 _).setCell k3 _).setCell k3 _); rw [hu3]))
    exact ⟨Kept.below k4.out (by omega) (by omega), (k4.out.block _ hv.lt).trans hv, (k4.out.block _ hp.lt).trans hp, bel2 hb k4.out⟩
  case done =>
    rintro W ⟨hv, hp, hb⟩ hK
    have hcv := hv.cell
    gi_wp2
    refine ⟨by simp, .inl ⟨_, _, rfl, run_takeDeferred hK, ?_⟩⟩
    exact ⟨.slice none 0 0, by simp [results, Tryz.results9, go_sem], rfl, below_taken _ hb (by omega)⟩
  case stop =>
    rintro c pre W _ h _
    exact h.elim
theorem edoubts_any (M0 : Nat) (w : World) (hT : Tab w) : Calls Tryz.prog 9 #[.pointer none, sv M0] w fun e w' => e = .returned (.slice none 0 0) ∧ Below w.heap.size w w' := callsIn_wide.1 (edoubts_in M0 w hT)
end Go.Proofs.YtgehmidalfajgabGreatDoor
namespace Go.Proofs.YtgehmidalfajgabGreatDoor
open Go.RowKit Go.Shelf Go.Lib
def topW (n : Int) : Nat := (min (max n 0) 100).toNat
def wthB (N : Nat) (n : Int) : Bool := decide (N = N % 2 ^ topW n)
theorem topW_le (n : Int) : topW n ≤ 100 := by unfold topW; omega
theorem topW_lt (n : Int) (i : Nat) : i < topW n ↔ (i : Int) < n ∧ i < 100 := by unfold topW; omega
theorem bi_max {P : Program} (cs : Array Bool) (ts : Array TypeId) (t : TypeId) (x y : Int) (w : World) : (builtin .max ts t cs #[.int .i64 x, .int .i64 y]).run P w = .ok (.value (.int .i64 (max x y))) w := by
  show ((do pure (.value (← Builtin.max_ ts t #[.int .i64 x, .int .i64 y]))) : Sem Next).run P w = _
  rw [Sem.run_bind, run_max_int2]
  simp only [Result.andThen_ok, Sem.run_pure]
  by_cases h : y > x
  · rw [if_pos h, show max x y = y by omega]
  · rw [if_neg h, show max x y = x by omega]
theorem bi_min {P : Program} (cs : Array Bool) (ts : Array TypeId) (t : TypeId) (x y : Int) (w : World) : (builtin .min ts t cs #[.int .i64 x, .int .i64 y]).run P w = .ok (.value (.int .i64 (min x y))) w := by
  show ((do pure (.value (← Builtin.min_ ts t #[.int .i64 x, .int .i64 y]))) : Sem Next).run P w = _
  rw [Sem.run_bind, run_min_int2]
  simp only [Result.andThen_ok, Sem.run_pure]
  by_cases h : y < x
  · rw [if_pos h, show min x y = y by omega]
  · rw [if_neg h, show min x y = x by omega]
set_option maxHeartbeats 1000000 in
set_option maxRecDepth 100000 in
theorem within_any (N : Nat) (hN : N < S128) (n : Int) (w : World) : Calls Tryz.prog 84 #[sv N, .int .i64 n] w fun e w' => e = .returned (.bool (wthB N n)) ∧ Below w.heap.size w w' := by
  have hmx : Tryz.prog.follows .mixedOrders = true := by kernel_rfl
  have hbl := below_any N (topW n) (by have := topW_le n; omega)
  have hq : (topW n : Int) = min (max n 0) 100 := by unfold topW; omega
  have hlt : N % 2 ^ topW n < S128 := Nat.lt_of_le_of_lt (Nat.mod_le _ _) hN
  go_enter Tryz.func84, Tryz.ntmps84
  simp only [sv]
  go_wp2
  rename_i Q0 K0 hK
  refine wp_region_any hmx ?_
  refine wpAny_pure (fun i__ => ([(sv N), (sv N), (.int .i64 n), (.int .i64 (max n 0)), (.int .i64 (topW n : Nat)), (sv (N % 2 ^ topW n)), (.bool (wthB N n)), (.bool (wthB N n))] : List Value).getD i__ undef) (fun W => Holds4 W w.heap.size (wd N) ∧ Below w.heap.size w W) (by kernel_rfl) ⟨get_new (by simp), (alloc_below w _).drew⟩ ?_ ?_
  · refine (stepsFrom_cons ?_ (stepsFrom_cons ?_ (stepsFrom_cons ?_ (stepsFrom_cons ?_ (stepsFrom_cons ?_ (stepsFrom_cons ?_ (stepsFrom_cons ?_ (stepsFrom_cons ?_ trivial))))))))
    · exact step_load rfl trivial _ _ _ rfl rfl (fun w hw => whole4 w _ N hw.1)
    · exact step_load rfl trivial _ _ _ rfl rfl (fun w hw => whole4 w _ N hw.1)
    · exact step_move rfl trivial _ rfl (by kernel_rfl)
    · exact step_bi rfl trivial _ _ _ [(.int .i64 n), (Go.Value.int Go.IntKind.i64 0)] rfl (by kernel_rfl) (fun cs w hw => bi_max cs _ _ n 0 w)
    · exact step_bi rfl trivial _ _ _ [(.int .i64 (max n 0)), (Go.Value.int Go.IntKind.i64 100)] rfl (by kernel_rfl) (fun cs w hw => by rw [hq]; exact bi_min cs _ _ _ 100 w)
    · exact step_call rfl trivial 129 _ _ [(sv N), (.int .i64 (topW n : Nat))] rfl (by kernel_rfl) (enters_of Tryz.func129 (by kernel_rfl) rfl) (fun w hw => (hbl w).mono (by rintro e w' ⟨rfl, hb⟩; exact ⟨rfl, hw.1.carry hb, bcarry hw.2 (Nat.le_refl _) hb⟩))
    · exact step_binOp rfl trivial _ _ _ _ _ _ _ rfl rfl rfl (fun w hw => eql4 _ _ _ _ hN hlt w)
    · exact step_assign rfl trivial _ rfl (by kernel_rfl) (fun _ h => h)
  intro W hW
  first | refine hK _ _ ?_ | refine (‹∀ (a : Act) (w : World), Code.wp Tryz.prog _ _ a w → _›) _ _ ?_
  simp only [finL, List.getD_cons_zero, List.getD_cons_succ, Nat.zero_add, Nat.reduceAdd, List.setIfInBounds_toArray, List.set_cons_zero, List.set_cons_succ]
  go_wp2
  go_ret
  exact ⟨rfl, hW.2⟩
end Go.Proofs.YtgehmidalfajgabGreatDoor
