/- BookNone: at every list of notices and every id: what a nil and a zero book answer; no condition. -/
import Derived.Test.YtpphmfmfenifgabRows
import Derived.WalkKit
import Derived.ProofKit
import Derived.OpenShut
import Derived.Test.YtpphmfmfenifgabBke
import Derived.Test.YtpphmfmfenifgabMrk
import Derived.Test.YtpphmfmfenifgabOpm
namespace Go.Proofs.Ytpphmfmfenifgab
open Go.ChangeShapes Go.WideShapes Go.ChangeAt Go.RowKit
set_option linter.unusedVariables false

theorem laidOut : laidOutB Try.prog = true := by kernel_rfl
theorem own : ownKnob Try.prog.godebug = none := by kernel_rfl
open Go.Shelf Go.Lib
attribute [local go_sem] Oper.semAt_some
theorem fn_nil (bx : Nat) (w : World) : (binOp .eql 40 (.func (.func 30) #[] #[.pointer (some ⟨bx, 0, none⟩)]) (.nilFunc)).run Try.prog w = .ok (.bool false) w := by kernel_rfl
theorem sv_zero : sv 0 = .agg #[.int .u32 0, .int .u32 0, .int .u32 0, .int .u32 0] := by simp [sv, wd_zero]
theorem load_pv {W : World} {bx : Nat} {a : Option Addr} (h : W.heap[bx]? = some (.cells #[.pointer a] 23 (0, 0))) : (Instr.loadAt 23 (.pointer (some ⟨bx, 0, none⟩))).run Try.prog W = .ok (.pointer a) W := by
  have c0 := cell_at h 0
  simp at c0
  go_simp
set_option maxHeartbeats 4000000 in
set_option maxRecDepth 100000 in
theorem emerge_any {w : World} {a : Option Addr} (h : EB w (.pointer a)) (ad : Option Addr) (cap : Nat) (l : List N3) (hl : RdN w ad l) : Calls Try.prog 8 #[.pointer a, .slice ad l.length cap] w fun e w' => e = .returned (.tuple #[sv 0, .int .i64 (if 0 < l.length then 50 else 0)]) ∧ Below w.heap.size w w' := by
  have hmx : Try.prog.follows .mixedOrders = true := by kernel_rfl
  have hb0 := al2 w (.cells #[.pointer a] 23) (.cells #[.int .u32 0, .int .u32 0, .int .u32 0, .int .u32 0] 34)
  have hbx : ((w.alloc (.cells #[.pointer a] 23)).alloc (.cells #[.int .u32 0, .int .u32 0, .int .u32 0, .int .u32 0] 34)).heap[w.heap.size]? = some (.cells #[.pointer a] 23 (0, 0)) := old_at (new_at rfl)
  have hrs : Holds4 ((w.alloc (.cells #[.pointer a] 23)).alloc (.cells #[.int .u32 0, .int .u32 0, .int .u32 0, .int .u32 0] 34)) (w.heap.size + 1) (fun _ => 0) := new_at (by simp)
  cases l with
  | nil =>
    go_enter Try.func8, Try.ntmps8
    go_wp2
    refine wp_loop_once ?_
    go_wp2
    refine wp_loop_once ?_
    have HR : Hid (Holds4 (((w.alloc (.cells #[.pointer a] 23)).alloc (.cells #[.int .u32 0, .int .u32 0, .int .u32 0, .int .u32 0] 34)).alloc (.cells #[.int .u32 0, .int .u32 0, .int .u32 0, .int .u32 0] 34)) (w.heap.size + 1) (fun _ => 0)) := hrs.carry (al1 _ _)
    obtain ⟨y0, y1, y2, y3, z0, z1, z2, z3⟩ := HR.out.facts
    clear hrs
    go_wp2
    exact ret4t (M := 0) (x := .int .i64 0) rfl rfl rfl rfl (HR.out.congr (fun j _ => (wd_zero j).symm)) ⟨rfl, al3 _ _ _ _⟩
  | cons x r =>
    obtain ⟨o, t, q⟩ := x
    obtain ⟨b, off, rfl, hbl, hat⟩ := hl (by simp)
    have hva := valid_any 0 o t q
    rw [show vl 0 o t q = false from decide_eq_false (by omega)] at hva
    have hat2 := hat.carry hbl hb0
    obtain ⟨c0, c1, c2⟩ := hat2 0 (o, t, q) rfl
    dsimp only at c0 c1 c2
    simp only [Nat.zero_mul, Nat.add_zero] at c0 c1 c2
    have heb := (h.carry hb0).carry (al1 _ (.cells #[.int .i64 o, .int .i64 t, .int .i64 q] 43))
    have hn1 := NB.new ((w.alloc (.cells #[.pointer a] 23)).alloc (.cells #[.int .u32 0, .int .u32 0, .int .u32 0, .int .u32 0] 34)) o t q
    simp only [World.size_alloc] at hn1
    have hb1 := hb0.alloc hb0.size (.cells #[.int .i64 o, .int .i64 t, .int .i64 q] 43)
    have hbx1 := old_at (o := .cells #[.int .i64 o, .int .i64 t, .int .i64 q] 43) hbx
    have hrs1 := hrs.carry (al1 _ (.cells #[.int .i64 o, .int .i64 t, .int .i64 q] 43))
    have hlp : (0 : Int) < ((r.length + 1 : Nat) : Int) := by omega
    have hbu : b < w.heap.size + 2 := by omega
    clear h hl hat hat2 hbx hrs hb0
    go_enter Try.func8, Try.ntmps8
    go_wp2
    refine wp_loop_once ?_
    go_wp2
    rename_i Q0 K0 hK
    refine wp_region_any hmx ?_
    refine wpAny_pure (fun i__ => ([(.pointer a), (.int .i64 0), (nt o t q), (.bool false), (.bool true)] : List Value).getD i__ undef) (fun V => NB V (w.heap.size + 1 + 1) o t q ∧ EB V (.pointer a) ∧ V.heap[w.heap.size]? = some (.cells #[.pointer a] 23 (0, 0)) ∧ Holds4 V (w.heap.size + 1) (fun _ => 0) ∧ Below w.heap.size w V) (by kernel_rfl) ⟨hn1.carry (Below.refl _ _).drew, heb.carry (Below.refl _ _).drew, hbx1, hrs1.carry (Below.refl _ _).drew, hb1.drew⟩ ?_ ?_
    · refine (stepsFrom_cons ?_ (stepsFrom_cons ?_ (stepsFrom_cons ?_ (stepsFrom_cons ?_ (stepsFrom_cons ?_ trivial)))))
      · exact step_load rfl trivial _ _ _ rfl rfl (fun w hw => load_pv hw.2.2.1)
      · exact step_call rfl trivial 11 _ _ [(.pointer a)] rfl (by kernel_rfl) (enters_of Try.func11 (by kernel_rfl) rfl) (fun w hw => (esize_any hw.2.1).mono (by rintro e w' ⟨rfl, hb⟩; exact ⟨rfl, hw.1.carry hb, hw.2.1.carry hb, (hb.block _ (lt_at hw.2.2.1)).trans hw.2.2.1, hw.2.2.2.1.carry hb, bel2 hw.2.2.2.2 hb⟩))
      · exact step_load rfl trivial _ _ _ rfl rfl (fun w hw => load_nt hw.1)
      · exact step_call rfl trivial 21 _ _ [(.int .i64 0), (nt o t q)] rfl (by kernel_rfl) (enters_of Try.func21 (by kernel_rfl) rfl) (fun w hw => (hva w).mono (by rintro e w' ⟨rfl, hb⟩; exact ⟨rfl, hw.1.carry hb, hw.2.1.carry hb, (hb.block _ (lt_at hw.2.2.1)).trans hw.2.2.1, hw.2.2.2.1.carry hb, bel2 hw.2.2.2.2 hb⟩))
      · exact step_unOp rfl trivial _ _ _ _ rfl rfl (fun w hw => un_not false w)
    intro W hW
    first | refine hK _ _ ?_ | refine (‹∀ (a : Act) (w : World), Code.wp Try.prog _ _ a w → _›) _ _ ?_
    simp only [finL, List.getD_cons_zero, List.getD_cons_succ, Nat.zero_add, Nat.reduceAdd, List.setIfInBounds_toArray, List.set_cons_zero, List.set_cons_succ]
    obtain ⟨_, _, _, hrs2, hb2⟩ := hW
    have HR : Hid (Holds4 W (w.heap.size + 1) (fun _ => 0)) := hrs2
    obtain ⟨y0, y1, y2, y3, z0, z1, z2, z3⟩ := HR.out.facts
    clear hK hrs2 hn1 heb hbx1 hrs1 hb1 hva c0 c1 c2
    go_wp2
    exact ret4t (M := 0) (x := .int .i64 50) rfl rfl rfl rfl (fin4 HR.out 0) ⟨rfl, below4 hb2 (by omega) 0⟩
set_option maxHeartbeats 8000000 in
set_option maxRecDepth 100000 in
theorem none_pos (ad : Option Addr) (cap : Nat) (l : List N3) (id : Int) (w : World) (wl : RdN w ad l) (hpos : 0 < l.length) : CallsIn Fence.wide 0 Try.prog 4 #[.slice ad l.length cap, .int .i64 id] w fun e w' => e = .returned (.bool true) ∧ Below w.heap.size w w' := by
  have hq0 : ∀ W, (Op.equalIn 10000 34 (.agg #[.int .u32 0, .int .u32 0, .int .u32 0, .int .u32 0]) (.agg #[.int .u32 0, .int .u32 0, .int .u32 0, .int .u32 0])).run Try.prog W = .ok true W := fun W => by
    have := eqn4 0 0 (by decide) (by decide) W
    rw [sv_zero] at this
    simpa using this
  have hfn := fn_nil
  have hal := balive_any
  have hE : (if 0 < l.length then (50 : Int) else 0) = 50 := if_pos hpos
  have HE : Hid ((if 0 < l.length then (50 : Int) else 0) = 50) := hE
  have hpi : (0 : Int) < (l.length : Int) := by omega
  obtain ⟨wb, hwb⟩ : ∃ wb, ((w.alloc (.cells #[.bool false] 4)).alloc (.cells #[.slice none 0 0] 46)) = wb := ⟨_, rfl⟩
  have hwz : wb.heap.size = w.heap.size + 2 := by rw [← hwb]; simp
  have hrs : wb.heap[w.heap.size]? = some (.cells #[.bool false] 4 (0, 0)) := by rw [← hwb]; exact old_at (new_at rfl)
  have hzb : wb.heap[w.heap.size + 1]? = some (.cells #[.slice none 0 0] 46 (0, 0)) := by rw [← hwb]; exact new_at (by simp)
  have hww : Below w.heap.size w wb := by rw [← hwb]; exact al2 _ _ _
  have HB : Hid (∀ W, EB W (.pointer none)) := fun W => .inl rfl
  have HZ : Hid (∀ W, Below wb.heap.size wb W → EB W (.pointer (some ⟨w.heap.size + 1, 0, none⟩))) := fun W hb => .inr ⟨_, rfl, (hb.block _ (by omega)).trans hzb⟩
  have HL : Hid (∀ W, Below wb.heap.size wb W → RdN W ad l) := fun W hb => (wl.carry hww).carry hb
  have HMG : Hid (∀ (a : Option Addr) W, EB W (.pointer a) → RdN W ad l → Calls Try.prog 8 #[.pointer a, .slice ad l.length cap] W fun e w' => e = .returned (.tuple #[.agg #[.int .u32 0, .int .u32 0, .int .u32 0, .int .u32 0], .int .i64 50]) ∧ Below W.heap.size W w') := fun a W h hr => by
    have := emerge_any h ad cap l hr
    rw [sv_zero, HE.out] at this
    exact this
  have HSU : Hid (∀ W, Calls Try.prog 14 #[.pointer none] W fun e w' => e = .returned (.agg #[.int .u32 0, .int .u32 0, .int .u32 0, .int .u32 0]) ∧ Below W.heap.size W w') := fun W => by
    have := esus_any (HB.out W)
    rw [sv_zero] at this
    exact this
  have HSM : Hid (∀ (v v2 : Value) W, EB W v → EB W v2 → Calls Try.prog 16 #[v, v2] W fun e w' => e = .returned (.bool true) ∧ Below W.heap.size W w') := fun v v2 W h h2 => by
    have := ssame_any (w := W) (v := v) (v2 := v2) [] [] none none 0 0 (fun V hb => ekept_any (h.carry hb)) (fun V hb => ekept_any (h2.carry hb)) (rd_nil W) (rd_nil W) (by simp)
    exact this
  have HNW : Hid (∀ W, Calls Try.prog 5 #[.int .i64 2, .int .i64 0, .int .i64 0] W fun e w' => ∃ p g, e = .returned (.tuple #[.pointer (some ⟨p, 0, none⟩), .int .i64 0]) ∧ Bk w' p g (bk0 2 0 0) ∧ Below W.heap.size W w') := fun W => (new_any 2 0 0 W).mono (fun e w' hV => by obtain ⟨p, g, e1, e2, e3, e4⟩ := hV.ok (by decide) (by decide) (by decide); exact ⟨p, g, e1, e4, hV.1⟩)
  clear hE wl
  refine callsIn_of_wp_marks Try.func4 rfl trivial ?_ rfl
  simp only [Try.ntmps4, List.size_toArray, List.length_cons, List.length_nil, Nat.reduceAdd, Nat.reduceSub, Array.replicate_succ, Array.replicate_zero, List.push_toArray, List.append_toArray, List.nil_append, List.cons_append]
  have hb : Below wb.heap.size wb wb := Below.refl _ _
  gi_wp2
  try rw [hwb]
  with_reducible (refine And.intro (wfn _) (And.intro wdep ?_))
  refine (callsIn_wide.2 (esize_any (HB.out _))).mono ?_
  rintro e u1 ⟨rfl, hb1⟩
  have hb := bel2 hb hb1
  clear hwb
  gi_wp2
  with_reducible (refine And.intro (wfn _) (And.intro wdep ?_))
  refine (callsIn_wide.2 (elist_any (HB.out _))).mono ?_
  rintro e u2 ⟨rfl, hb1⟩
  have hb := bel2 hb hb1
  gi_wp2
  with_reducible (refine And.intro (wfn _) (And.intro wdep ?_))
  refine (callsIn_wide.2 (enews_any (HB.out _))).mono ?_
  rintro e u3 ⟨rfl, hb1⟩
  have hb := bel2 hb hb1
  gi_wp2
  with_reducible (refine And.intro (wfn _) (And.intro wdep ?_))
  refine (callsIn_wide.2 (HSU.out _)).mono ?_
  rintro e u4 ⟨rfl, hb1⟩
  have hb := bel2 hb hb1
  gi_wp2
  with_reducible (refine And.intro (wfn _) (And.intro wdep ?_))
  refine (callsIn_wide.2 (etwin_nil _)).mono ?_
  rintro e u5 ⟨rfl, hb1⟩
  have hb := bel2 hb hb1
  gi_wp2
  with_reducible (refine And.intro (wfn _) (And.intro wdep ?_))
  refine (callsIn_wide.2 (HSM.out _ _ _ (HB.out _) (HB.out _))).mono ?_
  rintro e u6 ⟨rfl, hb1⟩
  have hb := bel2 hb hb1
  gi_wp2
  with_reducible (refine And.intro (wfn _) (And.intro wdep ?_))
  refine (callsIn_wide.2 (HSM.out _ _ _ (HB.out _) (HZ.out _ hb))).mono ?_
  rintro e u7 ⟨rfl, hb1⟩
  have hb := bel2 hb hb1
  gi_wp2
  with_reducible (refine And.intro (wfn _) (And.intro wdep ?_))
  refine (callsIn_wide.2 (HSM.out _ _ _ (HZ.out _ hb) (HB.out _))).mono ?_
  rintro e u8 ⟨rfl, hb1⟩
  have hb := bel2 hb hb1
  gi_wp2
  with_reducible (refine And.intro (wfn _) (And.intro wdep ?_))
  refine (callsIn_wide.2 (HMG.out _ _ (HB.out _) (HL.out _ hb))).mono ?_
  rintro e u9 ⟨rfl, hb1⟩
  have hb := bel2 hb hb1
  have hb := hb.alloc hb.size (.cells #[.int .u32 0, .int .u32 0, .int .u32 0, .int .u32 0] 34)
  gi_wp2
  with_reducible (refine And.intro (wfn _) (And.intro wdep ?_))
  refine (callsIn_wide.2 (HMG.out _ _ (HZ.out _ hb) (HL.out _ hb))).mono ?_
  rintro e u10 ⟨rfl, hb1⟩
  have hb := bel2 hb hb1
  have hb := hb.alloc hb.size (.cells #[.int .u32 0, .int .u32 0, .int .u32 0, .int .u32 0] 34)
  gi_wp2
  with_reducible (refine And.intro (wfn _) (And.intro wdep ?_))
  refine (callsIn_wide.2 (eat_any (HZ.out _ hb) id)).mono ?_
  rintro e u11 ⟨rfl, hb1⟩
  have hb := bel2 hb hb1
  have hx := NB.new u11 0 0 0
  have hb := hb.alloc hb.size (.cells #[.int .i64 0, .int .i64 0, .int .i64 0] 43)
  gi_wp2
  with_reducible (refine And.intro (wfn _) (And.intro wdep ?_))
  refine (callsIn_wide.2 (eat_any (HB.out _) id)).mono ?_
  rintro e u12 ⟨rfl, hb1⟩
  have hb := bel2 hb hb1
  have hx := hx.carry hb1
  have hy := NB.new u12 0 0 0
  have hx := hx.old (.cells #[.int .i64 0, .int .i64 0, .int .i64 0] 43)
  have hb := hb.alloc hb.size (.cells #[.int .i64 0, .int .i64 0, .int .i64 0] 43)
  gi_wp2
  with_reducible (refine And.intro (wfn _) (And.intro wdep ?_))
  refine (callsIn_wide.2 (etake_any (HZ.out _ hb) id 0 1)).mono ?_
  rintro e u13 ⟨rfl, hb1⟩
  have hb := bel2 hb hb1
  have hx := hx.carry hb1
  have hy := hy.carry hb1
  gi_wp2
  with_reducible (refine And.intro (wfn _) (And.intro wdep ?_))
  refine (callsIn_wide.2 (eall_any (HB.out _))).mono ?_
  rintro e u14 ⟨bx, rfl, hbxl, hsb, hb1⟩
  have hb := bel2 hb hb1
  have hx := hx.carry hb1
  have hy := hy.carry hb1
  have hfn1 := hfn bx
  gi_wp2
  with_reducible (refine And.intro (wfn _) (And.intro wdep ?_))
  refine (callsIn_wide.2 (hal _)).mono ?_
  rintro e u15 ⟨rfl, hb1⟩
  have hb := bel2 hb hb1
  have hx := hx.carry hb1
  have hy := hy.carry hb1
  have hsb : u15.heap[bx]? = some (.cells #[.slice none 0 0] 22 (0, 0)) := (hb1.block _ (lt_at hsb)).trans hsb
  have hgl := lt_at hsb
  clear hfn hfn1 hbxl
  obtain ⟨ux, hux⟩ : ∃ ux, u11.heap.size = ux := ⟨_, rfl⟩
  obtain ⟨uy, huy⟩ : ∃ uy, u12.heap.size = uy := ⟨_, rfl⟩
  rw [hux] at hx
  rw [huy] at hy
  gi_wp2
  have hbz := hb.size
  refine wp_rangeE (kb := 0) (gf := 30) (lb := #[.pointer (some ⟨bx, 0, none⟩)]) rfl (enters_of Try.func30 (by kernel_rfl) rfl)
    (all0_seq bx _ hsb) hgl (fun _ => rfl)
    (fun _ W => W.heap[ux]? = some (.cells #[.int .i64 0, .int .i64 0, .int .i64 0] 43 (0, 0)) ∧ W.heap[uy]? = some (.cells #[.int .i64 0, .int .i64 0, .int .i64 0] 43 (0, 0)) ∧ Below wb.heap.size wb W)
    (fun _ _ _ => False)
    (OwnFrom.and ((blk_own ux (fun _ : List N3 => (.cells #[.int .i64 0, .int .i64 0, .int .i64 0] 43 (0, 0))) (fun _ => rfl)).from _) (OwnFrom.and ((blk_own uy (fun _ : List N3 => (.cells #[.int .i64 0, .int .i64 0, .int .i64 0] 43 (0, 0))) (fun _ => rfl)).from _) (ownFrom_below (Nat.le_refl _) hbz)))
    (fun _ _ _ _ _ hs _ _ => hs)
    ⟨hx, hy, hb⟩ (fun _ _ _ => trivial) (fun _ _ _ => True) (fun _ _ _ _ _ _ _ _ _ => trivial) ?assign ?body ?done ?stop
  case assign =>
    rintro l2 pre x W K hi hsz hK
    gi_wp2
    exact hK _ _ (Kept.refl _ _ _ _) hi trivial
  case body =>
    rintro l2 pre x a' W _ _ _ hpr
    exact (not_pfx hpr).elim
  case stop =>
    rintro c pre W _ h _
    exact h.elim
  case done =>
    rintro W ⟨hx1, hy1, hbW⟩ hK
    have hmk : Marks wb.heap.size [u15.heap.size] W := (Marks.nil _ _).cons hbz (fun j hj => by cases hj) hK
    have HX : Hid (NB W ux 0 0 0) := hx1
    have HY : Hid (NB W uy 0 0 0) := hy1
    clear hx hy hb hsb hgl hx1 hy1 hK hux huy
    gi_wp2
    with_reducible (refine And.intro (wfn _) (And.intro wdep ?_))
    refine (callsIn_wide.2 (HNW.out _)).mono ?_
    rintro e y1 ⟨pf, gf, rfl, hbk, hb1⟩
    have hb := bel2 hbW hb1
    have hm1 := hmk.carry hb1
    have HX1 : Hid (NB y1 ux 0 0 0) := HX.out.carry hb1
    have HY1 : Hid (NB y1 uy 0 0 0) := HY.out.carry hb1
    clear hmk HX HY
    gi_wp2
    with_reducible (refine And.intro (wfn _) (And.intro wdep ?_))
    refine (callsIn_wide.2 (hal _)).mono ?_
    rintro e y2 ⟨rfl, hb1⟩
    have hb := bel2 hb hb1
    have hm2 := hm1.carry hb1
    have hbk2 := hbk.carry hb1
    obtain ⟨x0, x1, x2⟩ : _ ∧ _ ∧ _ := ⟨(HX1.out.carry hb1).c0, (HX1.out.carry hb1).c1, (HX1.out.carry hb1).c2⟩
    obtain ⟨p0, p1, p2⟩ : _ ∧ _ ∧ _ := ⟨(HY1.out.carry hb1).c0, (HY1.out.carry hb1).c1, (HY1.out.carry hb1).c2⟩
    clear hm1 hbk
    gi_wp2
    with_reducible (refine And.intro (wfn _) (And.intro wdep ?_))
    refine (callsIn_wide.2 (esize_any (HZ.out _ hb))).mono ?_
    rintro e y3 ⟨rfl, hb1⟩
    have hb := bel2 hb hb1
    have hm3 := hm2.carry hb1
    have hbk3 := hbk2.carry hb1
    clear x0 x1 x2 p0 p1 p2 hm2 hbk2
    gi_wp2
    with_reducible (refine And.intro (wfn _) (And.intro wdep ?_))
    refine (callsIn_wide.2 (elist_any (HZ.out _ hb))).mono ?_
    rintro e y4 ⟨rfl, hb1⟩
    have hb := bel2 hb hb1
    have hm4 := hm3.carry hb1
    have hbk4 := hbk3.carry hb1
    clear hm3 hbk3
    gi_wp2
    have k5 : Calls Try.prog 16 #[.pointer (some ⟨pf, 0, none⟩), .pointer (some ⟨w.heap.size + 1, 0, none⟩)] y4 fun e w' => e = .returned (.bool false) ∧ Below y4.heap.size y4 w' := ssame_any (bk0 2 0 0) [] (some ⟨gf, 0, none⟩) none 2 0 (fun V hv => kept_any (hbk4.carry hv)) (fun V hv => ekept_any (HZ.out V (bel2 hb hv))) hbk4.rd (rd_nil _) (by decide)
    with_reducible (refine And.intro (wfn _) (And.intro wdep ?_))
    refine (callsIn_wide.2 k5).mono ?_
    rintro e y5 ⟨rfl, hb1⟩
    have hb := bel2 hb hb1
    have hm5 := hm4.carry hb1
    have hbk5 := hbk4.carry hb1
    clear hm4 hbk4 k5
    gi_wp2
    have k6 : Calls Try.prog 16 #[.pointer (some ⟨w.heap.size + 1, 0, none⟩), .pointer (some ⟨pf, 0, none⟩)] y5 fun e w' => e = .returned (.bool false) ∧ Below y5.heap.size y5 w' := ssame_any [] (bk0 2 0 0) none (some ⟨gf, 0, none⟩) 0 2 (fun V hv => ekept_any (HZ.out V (bel2 hb hv))) (fun V hv => kept_any (hbk5.carry hv)) (rd_nil _) hbk5.rd (by simp)
    with_reducible (refine And.intro (wfn _) (And.intro wdep ?_))
    refine (callsIn_wide.2 k6).mono ?_
    rintro e y6 ⟨rfl, hb1⟩
    have hb6 := bel2 hb hb1
    have hm6 := hm5.carry hb1
    clear hm5 hbk5 k6 hb hb1
    have r4 : y6.heap[w.heap.size]? = some (.cells #[.bool false] 4 (0, 0)) := (hb6.block _ (by omega)).trans hrs
    have c4 : y6.cell? ⟨w.heap.size, 0, none⟩ = some (.bool false) := cell_of r4 0
    have f4 := frozen_of r4 0
    have m5 : Marks wb.heap.size [u15.heap.size] (y6.setCell ⟨w.heap.size, 0, none⟩ (.bool true)) := hm6.set r4 _
    have g5 : (y6.setCell ⟨w.heap.size, 0, none⟩ (.bool true)).heap[w.heap.size]? = some (.cells #[.bool true] 4) := set_get 0 (.bool true) r4
    have b4 : Below w.heap.size w y6 := hww.trans (hb6.mono (by omega))
    have b5' : Below w.heap.size w (y6.setCell ⟨w.heap.size, 0, none⟩ (.bool true)) := b4.setCell (p := ⟨w.heap.size, 0, none⟩) (by simp) _
    clear hm6
    gi_wp2
    refine leaves_marks [u15.heap.size] _ m5 ?_
    intro W' hbW' hcW
    have g6 := hcW _ _ g5 rfl
    have c6 := cell_of g6 0
    exact ⟨.bool true, by simp [results, Try.results4, go_sem, c6], rfl, b5'.trans (hbW'.mono (by omega))⟩
set_option maxHeartbeats 8000000 in
set_option maxRecDepth 100000 in
theorem none_neg (ad : Option Addr) (cap : Nat) (l : List N3) (id : Int) (w : World) (wl : RdN w ad l) (hpos : ¬ 0 < l.length) : CallsIn Fence.wide 0 Try.prog 4 #[.slice ad l.length cap, .int .i64 id] w fun e w' => e = .returned (.bool true) ∧ Below w.heap.size w w' := by
  have hq0 : ∀ W, (Op.equalIn 10000 34 (.agg #[.int .u32 0, .int .u32 0, .int .u32 0, .int .u32 0]) (.agg #[.int .u32 0, .int .u32 0, .int .u32 0, .int .u32 0])).run Try.prog W = .ok true W := fun W => by
    have := eqn4 0 0 (by decide) (by decide) W
    rw [sv_zero] at this
    simpa using this
  have hfn := fn_nil
  have hal := balive_any
  have hE : (if 0 < l.length then (50 : Int) else 0) = 0 := if_neg hpos
  have HE : Hid ((if 0 < l.length then (50 : Int) else 0) = 0) := hE
  have hpi : ¬ (0 : Int) < (l.length : Int) := by omega
  obtain ⟨wb, hwb⟩ : ∃ wb, ((w.alloc (.cells #[.bool false] 4)).alloc (.cells #[.slice none 0 0] 46)) = wb := ⟨_, rfl⟩
  have hwz : wb.heap.size = w.heap.size + 2 := by rw [← hwb]; simp
  have hrs : wb.heap[w.heap.size]? = some (.cells #[.bool false] 4 (0, 0)) := by rw [← hwb]; exact old_at (new_at rfl)
  have hzb : wb.heap[w.heap.size + 1]? = some (.cells #[.slice none 0 0] 46 (0, 0)) := by rw [← hwb]; exact new_at (by simp)
  have hww : Below w.heap.size w wb := by rw [← hwb]; exact al2 _ _ _
  have HB : Hid (∀ W, EB W (.pointer none)) := fun W => .inl rfl
  have HZ : Hid (∀ W, Below wb.heap.size wb W → EB W (.pointer (some ⟨w.heap.size + 1, 0, none⟩))) := fun W hb => .inr ⟨_, rfl, (hb.block _ (by omega)).trans hzb⟩
  have HL : Hid (∀ W, Below wb.heap.size wb W → RdN W ad l) := fun W hb => (wl.carry hww).carry hb
  have HMG : Hid (∀ (a : Option Addr) W, EB W (.pointer a) → RdN W ad l → Calls Try.prog 8 #[.pointer a, .slice ad l.length cap] W fun e w' => e = .returned (.tuple #[.agg #[.int .u32 0, .int .u32 0, .int .u32 0, .int .u32 0], .int .i64 0]) ∧ Below W.heap.size W w') := fun a W h hr => by
    have := emerge_any h ad cap l hr
    rw [sv_zero, HE.out] at this
    exact this
  have HSU : Hid (∀ W, Calls Try.prog 14 #[.pointer none] W fun e w' => e = .returned (.agg #[.int .u32 0, .int .u32 0, .int .u32 0, .int .u32 0]) ∧ Below W.heap.size W w') := fun W => by
    have := esus_any (HB.out W)
    rw [sv_zero] at this
    exact this
  have HSM : Hid (∀ (v v2 : Value) W, EB W v → EB W v2 → Calls Try.prog 16 #[v, v2] W fun e w' => e = .returned (.bool true) ∧ Below W.heap.size W w') := fun v v2 W h h2 => by
    have := ssame_any (w := W) (v := v) (v2 := v2) [] [] none none 0 0 (fun V hb => ekept_any (h.carry hb)) (fun V hb => ekept_any (h2.carry hb)) (rd_nil W) (rd_nil W) (by simp)
    exact this
  have HNW : Hid (∀ W, Calls Try.prog 5 #[.int .i64 2, .int .i64 0, .int .i64 0] W fun e w' => ∃ p g, e = .returned (.tuple #[.pointer (some ⟨p, 0, none⟩), .int .i64 0]) ∧ Bk w' p g (bk0 2 0 0) ∧ Below W.heap.size W w') := fun W => (new_any 2 0 0 W).mono (fun e w' hV => by obtain ⟨p, g, e1, e2, e3, e4⟩ := hV.ok (by decide) (by decide) (by decide); exact ⟨p, g, e1, e4, hV.1⟩)
  clear hE wl
  refine callsIn_of_wp_marks Try.func4 rfl trivial ?_ rfl
  simp only [Try.ntmps4, List.size_toArray, List.length_cons, List.length_nil, Nat.reduceAdd, Nat.reduceSub, Array.replicate_succ, Array.replicate_zero, List.push_toArray, List.append_toArray, List.nil_append, List.cons_append]
  have hb : Below wb.heap.size wb wb := Below.refl _ _
  gi_wp2
  try rw [hwb]
  with_reducible (refine And.intro (wfn _) (And.intro wdep ?_))
  refine (callsIn_wide.2 (esize_any (HB.out _))).mono ?_
  rintro e u1 ⟨rfl, hb1⟩
  have hb := bel2 hb hb1
  clear hwb
  gi_wp2
  with_reducible (refine And.intro (wfn _) (And.intro wdep ?_))
  refine (callsIn_wide.2 (elist_any (HB.out _))).mono ?_
  rintro e u2 ⟨rfl, hb1⟩
  have hb := bel2 hb hb1
  gi_wp2
  with_reducible (refine And.intro (wfn _) (And.intro wdep ?_))
  refine (callsIn_wide.2 (enews_any (HB.out _))).mono ?_
  rintro e u3 ⟨rfl, hb1⟩
  have hb := bel2 hb hb1
  gi_wp2
  with_reducible (refine And.intro (wfn _) (And.intro wdep ?_))
  refine (callsIn_wide.2 (HSU.out _)).mono ?_
  rintro e u4 ⟨rfl, hb1⟩
  have hb := bel2 hb hb1
  gi_wp2
  with_reducible (refine And.intro (wfn _) (And.intro wdep ?_))
  refine (callsIn_wide.2 (etwin_nil _)).mono ?_
  rintro e u5 ⟨rfl, hb1⟩
  have hb := bel2 hb hb1
  gi_wp2
  with_reducible (refine And.intro (wfn _) (And.intro wdep ?_))
  refine (callsIn_wide.2 (HSM.out _ _ _ (HB.out _) (HB.out _))).mono ?_
  rintro e u6 ⟨rfl, hb1⟩
  have hb := bel2 hb hb1
  gi_wp2
  with_reducible (refine And.intro (wfn _) (And.intro wdep ?_))
  refine (callsIn_wide.2 (HSM.out _ _ _ (HB.out _) (HZ.out _ hb))).mono ?_
  rintro e u7 ⟨rfl, hb1⟩
  have hb := bel2 hb hb1
  gi_wp2
  with_reducible (refine And.intro (wfn _) (And.intro wdep ?_))
  refine (callsIn_wide.2 (HSM.out _ _ _ (HZ.out _ hb) (HB.out _))).mono ?_
  rintro e u8 ⟨rfl, hb1⟩
  have hb := bel2 hb hb1
  gi_wp2
  with_reducible (refine And.intro (wfn _) (And.intro wdep ?_))
  refine (callsIn_wide.2 (HMG.out _ _ (HB.out _) (HL.out _ hb))).mono ?_
  rintro e u9 ⟨rfl, hb1⟩
  have hb := bel2 hb hb1
  have hb := hb.alloc hb.size (.cells #[.int .u32 0, .int .u32 0, .int .u32 0, .int .u32 0] 34)
  gi_wp2
  with_reducible (refine And.intro (wfn _) (And.intro wdep ?_))
  refine (callsIn_wide.2 (HMG.out _ _ (HZ.out _ hb) (HL.out _ hb))).mono ?_
  rintro e u10 ⟨rfl, hb1⟩
  have hb := bel2 hb hb1
  have hb := hb.alloc hb.size (.cells #[.int .u32 0, .int .u32 0, .int .u32 0, .int .u32 0] 34)
  gi_wp2
  with_reducible (refine And.intro (wfn _) (And.intro wdep ?_))
  refine (callsIn_wide.2 (eat_any (HZ.out _ hb) id)).mono ?_
  rintro e u11 ⟨rfl, hb1⟩
  have hb := bel2 hb hb1
  have hx := NB.new u11 0 0 0
  have hb := hb.alloc hb.size (.cells #[.int .i64 0, .int .i64 0, .int .i64 0] 43)
  gi_wp2
  with_reducible (refine And.intro (wfn _) (And.intro wdep ?_))
  refine (callsIn_wide.2 (eat_any (HB.out _) id)).mono ?_
  rintro e u12 ⟨rfl, hb1⟩
  have hb := bel2 hb hb1
  have hx := hx.carry hb1
  have hy := NB.new u12 0 0 0
  have hx := hx.old (.cells #[.int .i64 0, .int .i64 0, .int .i64 0] 43)
  have hb := hb.alloc hb.size (.cells #[.int .i64 0, .int .i64 0, .int .i64 0] 43)
  gi_wp2
  with_reducible (refine And.intro (wfn _) (And.intro wdep ?_))
  refine (callsIn_wide.2 (etake_any (HZ.out _ hb) id 0 1)).mono ?_
  rintro e u13 ⟨rfl, hb1⟩
  have hb := bel2 hb hb1
  have hx := hx.carry hb1
  have hy := hy.carry hb1
  gi_wp2
  with_reducible (refine And.intro (wfn _) (And.intro wdep ?_))
  refine (callsIn_wide.2 (eall_any (HB.out _))).mono ?_
  rintro e u14 ⟨bx, rfl, hbxl, hsb, hb1⟩
  have hb := bel2 hb hb1
  have hx := hx.carry hb1
  have hy := hy.carry hb1
  have hfn1 := hfn bx
  gi_wp2
  with_reducible (refine And.intro (wfn _) (And.intro wdep ?_))
  refine (callsIn_wide.2 (hal _)).mono ?_
  rintro e u15 ⟨rfl, hb1⟩
  have hb := bel2 hb hb1
  have hx := hx.carry hb1
  have hy := hy.carry hb1
  have hsb : u15.heap[bx]? = some (.cells #[.slice none 0 0] 22 (0, 0)) := (hb1.block _ (lt_at hsb)).trans hsb
  have hgl := lt_at hsb
  clear hfn hfn1 hbxl
  obtain ⟨ux, hux⟩ : ∃ ux, u11.heap.size = ux := ⟨_, rfl⟩
  obtain ⟨uy, huy⟩ : ∃ uy, u12.heap.size = uy := ⟨_, rfl⟩
  rw [hux] at hx
  rw [huy] at hy
  gi_wp2
  have hbz := hb.size
  refine wp_rangeE (kb := 0) (gf := 30) (lb := #[.pointer (some ⟨bx, 0, none⟩)]) rfl (enters_of Try.func30 (by kernel_rfl) rfl)
    (all0_seq bx _ hsb) hgl (fun _ => rfl)
    (fun _ W => W.heap[ux]? = some (.cells #[.int .i64 0, .int .i64 0, .int .i64 0] 43 (0, 0)) ∧ W.heap[uy]? = some (.cells #[.int .i64 0, .int .i64 0, .int .i64 0] 43 (0, 0)) ∧ Below wb.heap.size wb W)
    (fun _ _ _ => False)
    (OwnFrom.and ((blk_own ux (fun _ : List N3 => (.cells #[.int .i64 0, .int .i64 0, .int .i64 0] 43 (0, 0))) (fun _ => rfl)).from _) (OwnFrom.and ((blk_own uy (fun _ : List N3 => (.cells #[.int .i64 0, .int .i64 0, .int .i64 0] 43 (0, 0))) (fun _ => rfl)).from _) (ownFrom_below (Nat.le_refl _) hbz)))
    (fun _ _ _ _ _ hs _ _ => hs)
    ⟨hx, hy, hb⟩ (fun _ _ _ => trivial) (fun _ _ _ => True) (fun _ _ _ _ _ _ _ _ _ => trivial) ?assign ?body ?done ?stop
  case assign =>
    rintro l2 pre x W K hi hsz hK
    gi_wp2
    exact hK _ _ (Kept.refl _ _ _ _) hi trivial
  case body =>
    rintro l2 pre x a' W _ _ _ hpr
    exact (not_pfx hpr).elim
  case stop =>
    rintro c pre W _ h _
    exact h.elim
  case done =>
    rintro W ⟨hx1, hy1, hbW⟩ hK
    have hmk : Marks wb.heap.size [u15.heap.size] W := (Marks.nil _ _).cons hbz (fun j hj => by cases hj) hK
    have HX : Hid (NB W ux 0 0 0) := hx1
    have HY : Hid (NB W uy 0 0 0) := hy1
    clear hx hy hb hsb hgl hx1 hy1 hK hux huy
    gi_wp2
    with_reducible (refine And.intro (wfn _) (And.intro wdep ?_))
    refine (callsIn_wide.2 (HNW.out _)).mono ?_
    rintro e y1 ⟨pf, gf, rfl, hbk, hb1⟩
    have hb := bel2 hbW hb1
    have hm1 := hmk.carry hb1
    have HX1 : Hid (NB y1 ux 0 0 0) := HX.out.carry hb1
    have HY1 : Hid (NB y1 uy 0 0 0) := HY.out.carry hb1
    clear hmk HX HY
    gi_wp2
    with_reducible (refine And.intro (wfn _) (And.intro wdep ?_))
    refine (callsIn_wide.2 (hal _)).mono ?_
    rintro e y2 ⟨rfl, hb1⟩
    have hb := bel2 hb hb1
    have hm2 := hm1.carry hb1
    have hbk2 := hbk.carry hb1
    obtain ⟨x0, x1, x2⟩ : _ ∧ _ ∧ _ := ⟨(HX1.out.carry hb1).c0, (HX1.out.carry hb1).c1, (HX1.out.carry hb1).c2⟩
    obtain ⟨p0, p1, p2⟩ : _ ∧ _ ∧ _ := ⟨(HY1.out.carry hb1).c0, (HY1.out.carry hb1).c1, (HY1.out.carry hb1).c2⟩
    clear hm1 hbk
    gi_wp2
    with_reducible (refine And.intro (wfn _) (And.intro wdep ?_))
    refine (callsIn_wide.2 (esize_any (HZ.out _ hb))).mono ?_
    rintro e y3 ⟨rfl, hb1⟩
    have hb := bel2 hb hb1
    have hm3 := hm2.carry hb1
    have hbk3 := hbk2.carry hb1
    clear x0 x1 x2 p0 p1 p2 hm2 hbk2
    gi_wp2
    with_reducible (refine And.intro (wfn _) (And.intro wdep ?_))
    refine (callsIn_wide.2 (elist_any (HZ.out _ hb))).mono ?_
    rintro e y4 ⟨rfl, hb1⟩
    have hb := bel2 hb hb1
    have hm4 := hm3.carry hb1
    have hbk4 := hbk3.carry hb1
    clear hm3 hbk3
    gi_wp2
    have k5 : Calls Try.prog 16 #[.pointer (some ⟨pf, 0, none⟩), .pointer (some ⟨w.heap.size + 1, 0, none⟩)] y4 fun e w' => e = .returned (.bool false) ∧ Below y4.heap.size y4 w' := ssame_any (bk0 2 0 0) [] (some ⟨gf, 0, none⟩) none 2 0 (fun V hv => kept_any (hbk4.carry hv)) (fun V hv => ekept_any (HZ.out V (bel2 hb hv))) hbk4.rd (rd_nil _) (by decide)
    with_reducible (refine And.intro (wfn _) (And.intro wdep ?_))
    refine (callsIn_wide.2 k5).mono ?_
    rintro e y5 ⟨rfl, hb1⟩
    have hb := bel2 hb hb1
    have hm5 := hm4.carry hb1
    have hbk5 := hbk4.carry hb1
    clear hm4 hbk4 k5
    gi_wp2
    have k6 : Calls Try.prog 16 #[.pointer (some ⟨w.heap.size + 1, 0, none⟩), .pointer (some ⟨pf, 0, none⟩)] y5 fun e w' => e = .returned (.bool false) ∧ Below y5.heap.size y5 w' := ssame_any [] (bk0 2 0 0) none (some ⟨gf, 0, none⟩) 0 2 (fun V hv => ekept_any (HZ.out V (bel2 hb hv))) (fun V hv => kept_any (hbk5.carry hv)) (rd_nil _) hbk5.rd (by simp)
    with_reducible (refine And.intro (wfn _) (And.intro wdep ?_))
    refine (callsIn_wide.2 k6).mono ?_
    rintro e y6 ⟨rfl, hb1⟩
    have hb6 := bel2 hb hb1
    have hm6 := hm5.carry hb1
    clear hm5 hbk5 k6 hb hb1
    have r4 : y6.heap[w.heap.size]? = some (.cells #[.bool false] 4 (0, 0)) := (hb6.block _ (by omega)).trans hrs
    have c4 : y6.cell? ⟨w.heap.size, 0, none⟩ = some (.bool false) := cell_of r4 0
    have f4 := frozen_of r4 0
    have m5 : Marks wb.heap.size [u15.heap.size] (y6.setCell ⟨w.heap.size, 0, none⟩ (.bool true)) := hm6.set r4 _
    have g5 : (y6.setCell ⟨w.heap.size, 0, none⟩ (.bool true)).heap[w.heap.size]? = some (.cells #[.bool true] 4) := set_get 0 (.bool true) r4
    have b4 : Below w.heap.size w y6 := hww.trans (hb6.mono (by omega))
    have b5' : Below w.heap.size w (y6.setCell ⟨w.heap.size, 0, none⟩ (.bool true)) := b4.setCell (p := ⟨w.heap.size, 0, none⟩) (by simp) _
    clear hm6
    gi_wp2
    refine leaves_marks [u15.heap.size] _ m5 ?_
    intro W' hbW' hcW
    have g6 := hcW _ _ g5 rfl
    have c6 := cell_of g6 0
    exact ⟨.bool true, by simp [results, Try.results4, go_sem, c6], rfl, b5'.trans (hbW'.mono (by omega))⟩
theorem walk (w : World) (ad0 : Option Addr) (cap0 : Nat) (l0 : List (Int × Int × Int)) (w0 : RdN w ad0 l0) (hc0 : ad0 = none → cap0 = 0) (hq0 : l0.length ≤ cap0) (a1 : Int) (w1 : (Lit.int .i64 a1).wf = true) :
    Calls Try.prog 4 #[.slice ad0 l0.length cap0, .int .i64 a1] w fun e w' => e = .returned (.bool true) ∧ Below w.heap.size w w' := by
  by_cases hpos : 0 < l0.length
  · exact callsIn_wide.1 (none_pos ad0 cap0 l0 a1 w w0 hpos)
  · exact callsIn_wide.1 (none_neg ad0 cap0 l0 a1 w w0 hpos)

set_option maxRecDepth 100000 in
theorem lifted (os : Os) (started : os.Started) (H : Type) (enc : TypeId × Value → H) :
    ReturnsInHanded {} Try.checked os 4 .any (Rows.bookNoneSpec.pre6 enc Try.prog Try.f4 Rows.bookNoneRow.domain false) (Rows.bookNoneSpec.post enc Try.prog Try.f4 false true false false) := by
  refine returnsInHanded_of_change (C := Try.checked) own started (by kernel_rfl) Try.func4
    (ChangeSpec.witness6 (enc := enc) (C := Try.checked) false ⟨#[], #[.slice none 0 0, .int .i64 0], []⟩ 8 (by kernel_rfl) (by kernel_rfl) (by kernel_rfl) (by kernel_rfl)) ?_
  intro W base args ds gs before hval0 hW hcnd _
  have hval : ∀ (j : Nat) t v, Try.f4.params[j]? = some t → args[j]? = some v → Value.okWide Try.prog W .any base t v := hval0
  have hW' := hW
  obtain ⟨p, q, hA0, hV, rfl, hfz, hnd⟩ := hW
  have hA : DataW.TrodAll enc Try.prog W 0 (fun _ => true) true Try.f4.params.toList args.toList ds p := hA0
  rw [Try.params4] at hA hval
  obtain ⟨v0, vs0, d0, ds0, p0, q0, hargs, rfl, rfl, h0, r0⟩ := trodAll_cons hA
  obtain ⟨v1, vs1, d1, ds1, p1, q1, rfl, rfl, rfl, h1, r1⟩ := trodAll_cons r0
  obtain ⟨rfl, rfl, rfl⟩ := trodAll_nil r1
  obtain rfl : args = #[v0, v1] := by cases args; simp_all
  obtain ⟨rfl, rfl⟩ := trodVars_none hV
  have k0 := h0
  have lt0 : ∀ x ∈ p0, x.block < W.heap.size := by obtain ⟨m, hm⟩ := k0; exact DataW.trod_lt m _ _ _ hm
  obtain ⟨ad0, cap0, l0, rfl, w0, hc0, hq0, hd0⟩ := open_nts (hval 0 22 v0 rfl rfl) h0
  obtain ⟨a1, rfl, rfl, rfl, w1⟩ := open_int Try.underlying3 (hval 1 3 v1 rfl rfl) h1
  clear hA0 hval0
  refine (walk W ad0 cap0 l0 w0 hc0 hq0 a1 w1).mono fun e W' ⟨he, hg⟩ => ?_
  subst he
  exact ⟨_, rfl, _, _, _, [], _, [], hW', (trodAll_cons_mk (shut_bool Try.underlying4 _) trodAll_mk0), (trodAll_cons_mk (Below.trod laidOut (by kernel_rfl) (of_decide_eq_true (by kernel_rfl)) k0 hg lt0) (trodAll_cons_mk (shut_int Try.underlying3 w1) trodAll_mk0)), rfl, hg.frame _, fun h => by cases h⟩

theorem over : Rows.bookNoneRow.holds Try.pinned (OpenSpec.ofChange Rows.bookNoneSpec) :=
  OpenClaim.holds_of_wide 4 Try.f4 rfl rfl rfl rfl rfl rfl rfl ⟨rfl, rfl, rfl, rfl, rfl⟩ rfl rfl rfl rfl rfl (by kernel_rfl) Try.func4 (by kernel_rfl)
    (of_decide_eq_true (by kernel_rfl)) (by unfold Func.isWrapper; first | (rw [if_pos (by decide +kernel)]; kernel_rfl) | (rw [if_neg (by decide +kernel)]; exact ⟨rfl, rfl⟩))
    (fun os started H enc _ => lifted os started H enc)

theorem proved : Rows.BookNoneSaid :=
  over
#print axioms proved
end Go.Proofs.Ytpphmfmfenifgab
