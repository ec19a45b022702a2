/- copy of notices; Twin: what it answers, at every book. -/
import Derived.Test.YtgehmidalfajgabGreatDoorInferDoubtsJ4
import Derived.Laws.CopyRow
import Derived.Test.YtgehmidalfajgabGreatDoorItx
import Derived.Test.YtgehmidalfajgabGreatDoorSeq
import Derived.Test.YtgehmidalfajgabGreatDoorOwn
import Derived.Shelf.Abstract
import Derived.Shelf.RegionOpen
import Derived.WalkKit
import Derived.WalkSpells
import Derived.OwnWalkIn
import Derived.TacticsInMore
import Derived.LoopNIn
import Derived.LoopIn
import Derived.Lib.OthersKept
import Derived.Test.YtgehmidalfajgabGreatDoorYwa
import Derived.Carry
namespace Go.Proofs.YtgehmidalfajgabGreatDoor
open Go.RowKit Go.Shelf

theorem run_copy3 (w : World) (ty : TypeId) (g b n : Nat) (cur : Array Value) (t : TypeId) (cs : List Value) (hg : w.heap[g]? = some (.cells cur t (0, 0))) (hn : cs.length = n * 3)
    (hsrc : ∀ j v, cs[j]? = some v → w.cell? ((⟨b, 0, none⟩ : Addr).add j) = some v) (hfit : cs.length = cur.size) (h1 : ∀ v ∈ cs, v.oneCell' = true) :
    (Builtin.copy_ #[22, 22] ty #[.slice (some ⟨g, 0, none⟩) n n, .slice (some ⟨b, 0, none⟩) n n]).run Tryz.prog w = .ok (goInt n) (w.setRow g cs.toArray) := by
  have hl := run_loadCells_list (P := Tryz.prog) w ⟨b, 0, none⟩ cs hsrc
  have hst := run_storeCells_at Tryz.prog g 0 t cs 0 cur w hg (by omega) h1
  obtain ⟨ic, hic, _, hz1, _⟩ := info_partsN
  have e : cur.toList.take 0 ++ cs ++ cur.toList.drop (0 + cs.length) = cs := by
    rw [List.drop_of_length_le (by simp; omega)]
    simp
  simp only [Nat.zero_add, Nat.add_zero] at hst
  simp [Builtin.copy_, run_underlying Tryz.underlying22, Builtin.lenOf, Builtin.firstCells, sizeOf, typeInfo, hic, hz1, ← hn, hl, hst]
  rw [List.drop_of_length_le (by simp; omega)]
  simp
theorem bi_copy3 (w : World) (ty : TypeId) (bs : Array Bool) (g b n : Nat) (cur : Array Value) (t : TypeId) (cs : List Value) (hg : w.heap[g]? = some (.cells cur t (0, 0))) (hn : cs.length = n * 3)
    (hsrc : ∀ j v, cs[j]? = some v → w.cell? ((⟨b, 0, none⟩ : Addr).add j) = some v) (hfit : cs.length = cur.size) (h1 : ∀ v ∈ cs, v.oneCell' = true) :
    (builtin .copy #[22, 22] ty bs #[.slice (some ⟨g, 0, none⟩) n n, .slice (some ⟨b, 0, none⟩) n n]).run Tryz.prog w = .ok (.value (.int .i64 (n : Int))) (w.setRow g cs.toArray) := by
  have h := run_copy3 w ty g b n cur t cs hg hn hsrc hfit h1
  unfold builtin
  simp only [Sem.run_bind, h, Result.andThen_ok, Sem.run_pure]
  rfl
section
variable {P : Program} {md : Region.Mode} {ops : Array Oper} {Q : Exit → Act → World → Prop} {X0 : Array Value} {val : Nat → Value} {J J' : World → Prop} {i : Nat} {o : Oper}
theorem step_biW (hi : ops[i]? = some o) (hg : GOk md ops X0 val i o) (b : Builtin) (xs : Array Operand) (ts : Array TypeId) (vs : List Value) (ho : o.op = .call { callee := .builtin b, args := xs, argTypes := ts })
    (hx : xs.toList.map (rdo md ops X0 val i o) = vs.map some) (hr : ∀ w, J w → ∃ w', (∀ cs, (builtin b ts o.type cs vs.toArray).run P w = .ok (.value (val i)) w') ∧ J' w') : StepAt P md ops Q X0 val J J' i o :=
  step_of hi hg fun a w hJ hS => by
    unfold Oper.wp execOp
    have e : xs.map a.eval = vs.toArray := by
      apply Array.toList_inj.1
      rw [Array.toList_map]
      exact hS.evals _ _ hx
    obtain ⟨w', hr1, hr2⟩ := hr w hJ
    simp only [ho, resolve, e, Sem.run_bind, Sem.run_pure, Result.andThen_ok, invoke, hr1 _, Oper.upon_value]
    exact ⟨trivial, hr2⟩
end
theorem fl_src (l : List N3) {W : World} {p g : Nat} (h : Bk W p g l) : ∀ j v, (fl l)[j]? = some v → W.cell? ((⟨g, 0, none⟩ : Addr).add j) = some v := fun j v hj => by
  rw [add_pl, Nat.zero_add]
  exact (cell_at h.row j).trans (by simpa using hj)
theorem Bk.setRow {W : World} {p g : Nat} {l m : List N3} (h : Bk W p g l) (hm : m.length = l.length) : Bk (W.setRow g (fl m).toArray) p g m := by
  refine ⟨?_, ?_⟩
  · have e : (W.setRow g (fl m).toArray).heap[p]? = W.heap[p]? := by simp [World.setRow, Array.getElem?_modify, h.ne.symm]
    rw [e, hm]
    exact h.obj
  · simp [World.setRow, Array.getElem?_modify, h.row]
theorem Bk.setRow_other {W : World} {p g b : Nat} {l : List N3} {cs : Array Value} (h : Bk W p g l) (h1 : b ≠ p) (h2 : b ≠ g) : Bk (W.setRow b cs) p g l := by
  refine ⟨?_, ?_⟩
  · have e : (W.setRow b cs).heap[p]? = W.heap[p]? := by simp [World.setRow, Array.getElem?_modify, h1]
    rw [e]; exact h.obj
  · have e : (W.setRow b cs).heap[g]? = W.heap[g]? := by simp [World.setRow, Array.getElem?_modify, h2]
    rw [e]; exact h.row
theorem below_sr {n b : Nat} {w W : World} {cs : Array Value} (h : Below n w W) (hn : n ≤ b) : Below n w (W.setRow b cs) :=
  h.trans ⟨rfl, rfl, rfl, by simp [World.setRow], fun k hk => by simp [World.setRow, Array.getElem?_modify, show b ≠ k by omega]⟩
set_option maxHeartbeats 4000000 in
set_option maxRecDepth 100000 in
theorem twin_any {w : World} {p g : Nat} {l : List N3} (h : Bk w p g l) (h0 : 0 < l.length) (h1 : l.length ≤ 100) : Calls Tryz.prog 142 #[.pointer (some ⟨p, 0, none⟩)] w fun e w' => ∃ p' g', e = .returned (.pointer (some ⟨p', 0, none⟩)) ∧ w.heap.size ≤ p' ∧ w.heap.size ≤ g' ∧ Bk w' p' g' l ∧ Below w.heap.size w w' := by
  have hmx : Tryz.prog.follows .mixedOrders = true := by kernel_rfl
  obtain ⟨N, hN⟩ : ∃ N, l.length = N := ⟨_, rfl⟩
  have HN : Hid (l.length = N) := hN
  have hsz := bsize_any (h.alloc (.cells #[.slice none 0 0] 68))
  rw [hN] at hsz h0 h1
  clear hN
  have hpi : (0 : Int) < (N : Int) := by omega
  obtain ⟨ic, hic, hz0, hz1, hz2⟩ := info_partsN
  have hmk : ∀ W : World, (Instr.makeSlice 22 (.int .i64 (N : Int)) (.int .i64 (N : Int))).run Tryz.prog W = .ok (.slice (some ⟨W.heap.size, 0, none⟩) N N) (W.alloc (.cells (fl (mkl N 0)).toArray 70)) := by
    intro W
    have := run_make (P := Tryz.prog) W 22 70 ic _ Tryz.underlying22 hic hz0 .i64 .i64 (N : Int) (N : Int) (by omega) (Int.le_refl _) (by rw [hz2]; omega) (by omega)
    rw [Int.toNat_natCast, hz1, made3, ← mkl_zero] at this
    exact this
  generalize hM0 : (fl (mkl N 0)).toArray = M0 at hmk
  have HM0 : Hid ((fl (mkl N 0)).toArray = M0) := hM0
  clear hM0 hic hz0 hz1 hz2
  go_enter Tryz.func142, Tryz.ntmps142
  go_wp2_with (go_at_call 22; (with_reducible refine hsz.mono ?_); rintro e u1 ⟨rfl, hb1⟩; have hbx : u1.heap[w.heap.size]? = some (.cells #[.slice none 0 0] 68 (0, 0)) := (hb1.block _ (by simp)).trans (new_at rfl); have hk1 : Bk u1 p g l := (h.alloc _).carry hb1; have hbw := bel2 (al1 w (.cells #[.slice none 0 0] 68)) hb1; have HBX : Hid (u1.heap[w.heap.size]? = some (.cells #[.slice none 0 0] 68 (0, 0))) := hbx; have x0 := cell_at hbx 0; have x1 := thaw_at hbx 0; have hlt := lt_at hbx; clear hbx; simp at x0)
  have hk2 : Bk ((u1.setCell ⟨w.heap.size, 0, none⟩ (.slice (some ⟨u1.heap.size, 0, none⟩) N N)).alloc (.cells M0 70)) p g l := by
    have hne1 : p ≠ w.heap.size := by have := h.plt; omega
    have hne2 : g ≠ w.heap.size := by have := h.glt; omega
    exact ⟨old_at ((Below.heap_setCell _ _ _ _ hne1).trans hk1.obj), old_at ((Below.heap_setCell _ _ _ _ hne2).trans hk1.row)⟩
  have ht2 : Bk ((u1.setCell ⟨w.heap.size, 0, none⟩ (.slice (some ⟨u1.heap.size, 0, none⟩) N N)).alloc (.cells M0 70)) w.heap.size u1.heap.size (mkl N 0) := by
    refine ⟨?_, ?_⟩
    · have := heap_setCell_same _ _ 0 _ _ (.slice (some ⟨u1.heap.size, 0, none⟩) N N) HBX.out
      rw [mkl_len]
      refine old_at (this.trans ?_)
      simp
    · rw [HM0.out]
      exact new_at (by simp)
  have hb2 : Below w.heap.size w ((u1.setCell ⟨w.heap.size, 0, none⟩ (.slice (some ⟨u1.heap.size, 0, none⟩) N N)).alloc (.cells M0 70)) := (hbw.setCell (Nat.le_refl _) _).alloc (by simpa using hbw.size) _
  have hg1 := h.glt
  have hp1 := h.plt
  refine wp_region_any hmx ?_
  refine wpAny_last 8 (fun i__ => ([(.pointer (some ⟨w.heap.size, 0, none⟩)), (.pointer (some ⟨w.heap.size, 0, none⟩)), (.pointer (some ⟨w.heap.size, 0, none⟩)), (.slice (some ⟨u1.heap.size, 0, none⟩) N N), (.pointer (some ⟨p, 0, none⟩)), (.pointer (some ⟨p, 0, none⟩)), (.pointer (some ⟨p, 0, none⟩)), (.slice (some ⟨g, 0, none⟩) N N), (.int .i64 (N : Int))] : List Value).getD i__ undef) (fun V => Bk V p g l ∧ Bk V w.heap.size u1.heap.size (mkl N 0) ∧ Below w.heap.size w V) (fun V => Bk V w.heap.size u1.heap.size l ∧ Below w.heap.size w V) rfl (by kernel_rfl) (by kernel_rfl) ⟨hk2.carry (Below.refl _ _).drew, ht2.carry (Below.refl _ _).drew, hb2.drew⟩ ?_ ?_  ?_
  · refine (stepsFrom_cons ?_ (stepsFrom_cons ?_ (stepsFrom_cons ?_ (stepsFrom_cons ?_ (stepsFrom_cons ?_ (stepsFrom_cons ?_ (stepsFrom_cons ?_ (stepsFrom_cons ?_ trivial))))))))
    · exact step_move rfl trivial _ rfl (by kernel_rfl)
    · exact step_nilCheck rfl trivial _ _ _ rfl rfl rfl
    · exact step_fieldAddr rfl trivial _ _ _ _ rfl rfl (fun w hw => field_b0 w _)
    · exact step_load rfl trivial _ _ _ rfl rfl (fun w hw => by have := load_b0 hw.2.1; rwa [mkl_len] at this)
    · exact step_move rfl trivial _ rfl (by kernel_rfl)
    · exact step_nilCheck rfl trivial _ _ _ rfl rfl rfl
    · exact step_fieldAddr rfl trivial _ _ _ _ rfl rfl (fun w hw => field_b0 w _)
    · exact step_load rfl trivial _ _ _ rfl rfl (fun w hw => by have := load_b0 hw.1; rwa [HN.out] at this)
  · intro o ho
    cases ho
    exact step_biW rfl trivial _ _ _ [(.slice (some ⟨u1.heap.size, 0, none⟩) N N), (.slice (some ⟨g, 0, none⟩) N N)] rfl (by kernel_rfl) (fun W hw => ⟨_, fun cs => bi_copy3 W _ cs u1.heap.size g N _ _ (fl l) hw.2.1.row (by rw [fl_len, HN.out]) (fl_src l hw.1) (by simp [fl_len, mkl_len, HN.out]) (fl_one l), hw.2.1.setRow (by rw [mkl_len]; exact HN.out), below_sr hw.2.2 (by omega)⟩)
  intro W hW
  first | refine hK _ _ ?_ | refine (‹∀ (a : Act) (w : World), Code.wp Tryz.prog _ _ a w → _›) _ _ ?_
  simp only [finL, List.getD_cons_zero, List.getD_cons_succ, Nat.zero_add, Nat.reduceAdd, List.setIfInBounds_toArray, List.set_cons_zero, List.set_cons_succ]
  go_wp2
  go_ret
  exact ⟨_, _, rfl, Nat.le_refl _, by omega, hW.1, hW.2⟩
end Go.Proofs.YtgehmidalfajgabGreatDoor
namespace Go.Proofs.YtgehmidalfajgabGreatDoor
open Go.RowKit Go.Shelf Go.Lib
attribute [local go_sem] Oper.semAt_some

/-- A box that holds a slice of notices, and these. -/
structure SB (W : World) (bx gt : Nat) (l : List N3) : Prop where
  box : W.heap[bx]? = some (.cells #[.slice (some ⟨gt, 0, none⟩) l.length l.length] 22 (0, 0))
  row : W.heap[gt]? = some (.cells (fl l).toArray 70 (0, 0))
theorem row_nts {W : World} {g : Nat} {l : List N3} (h : W.heap[g]? = some (.cells (fl l).toArray 70 (0, 0))) : NtsAt W g 0 l := by
  intro k x hk
  obtain ⟨c0, c1, c2⟩ := fl_get l k x hk
  rw [Nat.zero_add]
  exact ⟨(cell_at h _).trans (by simpa using c0), (cell_at h _).trans (by simpa using c1), (cell_at h _).trans (by simpa using c2)⟩
set_option maxHeartbeats 1000000 in
set_option maxRecDepth 100000 in
theorem ball1_seq (l : List N3) (bx gt : Nat) (w : World) (hl : l.length ≤ 100) (hs : SB w bx gt l) :
    SeqE Tryz.prog (fun _ => True) 143 #[.pointer (some ⟨bx, 0, none⟩)] (fun x : N3 => #[nt x.1 x.2.1 x.2.2]) gt 0 l w := by
  intro ll J Jx W hW hJ hJx hE hY h0
  have hb0 : W.heap[bx]? = some (.cells #[.slice (some ⟨gt, 0, none⟩) l.length l.length] 22 (0, 0)) := (hW.block _ (lt_at hs.box)).trans hs.box
  have hr0 : W.heap[gt]? = some (.cells (fl l).toArray 70 (0, 0)) := (hW.block _ (lt_at hs.row)).trans hs.row
  have c0 := cell_at hb0 0
  simp at c0
  obtain ⟨n, hn⟩ : ∃ n, l.length = n := ⟨_, rfl⟩
  have HN : Hid (l.length = n) := hn
  rw [hn] at c0 hl
  clear hn hE
  refine callsIn_of_wp Tryz.func143 rfl trivial ?_ rfl
  simp only [Tryz.ntmps143, List.size_toArray, List.length_cons, List.length_nil, Nat.reduceAdd, Nat.reduceSub, Array.replicate_succ, Array.replicate_zero, List.push_toArray, List.append_toArray, List.nil_append, List.cons_append]
  gi_wp2
  gi_loopw [7] (fun c wz => ∃ k : Nat, c = .int .i64 k ∧ k ≤ n ∧ wz.heap[gt]? = some (.cells (fl l).toArray 70 (0, 0)) ∧ J (l.take k) wz ∧ W.heap.size ≤ wz.heap.size) (fun c _ => n - vnat c)
  case atStart => exact ⟨0, rfl, Nat.zero_le _, hr0, h0, Nat.le_refl _⟩
  case round =>
    obtain ⟨k, rfl, hk, hb, hj, hsz⟩ := hrel
    by_cases hkl : k < n
    · have hki : (k : Int) < (n : Int) := by omega
      obtain ⟨⟨o, t, q⟩, hx⟩ : ∃ x, l[k]? = some x := ⟨_, List.getElem?_eq_getElem (by rw [HN.out]; exact hkl)⟩
      obtain ⟨e0, e1, e2⟩ := row_nts hb k _ hx
      rw [Nat.zero_add] at e0 e1 e2
      dsimp only at e0 e1 e2
      have HT : Hid (l.take (k + 1) = l.take k ++ [(o, t, q)]) := by
        show _ = _
        rw [List.take_add_one, hx]
        rfl
      have hj1 : J (l.take k) (wr.alloc (.cells #[.int .i64 o, .int .i64 t, .int .i64 q] 70)) := hJ.alloc _ hj
      have hyl := hY _ (o, t, q) _ hj1 (by simp; omega) (by rw [← HT.out]; exact List.take_prefix _ _)
      obtain ⟨fn, tmps, assign, body, hy, hR⟩ := hyl
      unfold nt at hy
      clear hY hx
      gi_wp2
      refine ⟨rfl, hR.mono ?_⟩
      rintro e' W3 ⟨hkp, (⟨rfl, hj3⟩ | ⟨rfl, hjx⟩)⟩
      · have hb3 : W3.heap[gt]? = some (.cells (fl l).toArray 70 (0, 0)) := hkp.box.trans (old_at hb)
        have hsz3 := hkp.size
        gi_wp2
        go_roundw
        case rel => exact ⟨k + 1, by simp, by omega, hb3, by rw [HT.out]; exact hj3, by simp at hsz3; omega⟩
        case measure => simp [vnat]; omega
      · gi_wp2
        refine bodyPost_ret (results_none rfl _ _ _) rfl ?_
        exact ⟨⟨_, rfl⟩, .inr ⟨_, by rw [← HT.out]; exact List.take_prefix _ _, hjx⟩⟩
    · have hkk : k = n := by omega
      subst hkk
      rw [List.take_of_length_le (by rw [HN.out]; exact Nat.le_refl _)] at hj
      gi_wp2
      go_end0
      exact ⟨⟨_, rfl⟩, .inl hj⟩
set_option maxHeartbeats 1000000 in
theorem ball_any {w : World} {p g : Nat} {l : List N3} (h : Bk w p g l) (h0 : 0 < l.length) (h1 : l.length ≤ 100) : Calls Tryz.prog 105 #[.pointer (some ⟨p, 0, none⟩)] w fun e w' => ∃ bx gt, e = .returned (.func (.func 143) #[] #[.pointer (some ⟨bx, 0, none⟩)]) ∧ w.heap.size ≤ gt ∧ w.heap.size ≤ bx ∧ SB w' bx gt l ∧ Below w.heap.size w w' := by
  have ht := twin_any h h0 h1
  go_enter Tryz.func105, Tryz.ntmps105
  go_wp2_with (first | (go_at_call 142; (with_reducible refine ht.mono ?_); rintro e u1 ⟨p2, g2, rfl, hp2, hg2, hk2, hb2⟩; have hk := bkept_any hk2) | (go_at_call 95; (with_reducible refine hk.mono ?_); rintro e u2 ⟨rfl, hb3⟩))
  go_ret
  have hbb := bel2 hb2 hb3
  exact ⟨u2.heap.size, g2, rfl, hg2, hbb.size, ⟨new_at rfl, (hk2.carry hb3 |>.alloc _).row⟩, hbb.alloc hbb.size _⟩
end Go.Proofs.YtgehmidalfajgabGreatDoor
namespace Go.Proofs.YtgehmidalfajgabGreatDoor
open Go.RowKit Go.Shelf Go.Lib
attribute [local go_sem] Oper.semAt_some

/-- A list of notices that a call made: v, from base on. -/
def Made (w W : World) (v : Value) (l : List N3) : Prop := W.ownsRow w.heap.size 70 3 v l.length (fl l)
theorem filter_snoc {α : Type} (P : α → Bool) (l : List α) (x : α) : (l ++ [x]).filter P = if P x = true then l.filter P ++ [x] else l.filter P := by
  rw [List.filter_append]
  by_cases h : P x = true
  · rw [if_pos h]; simp [h]
  · rw [if_neg h]; simp [h]
theorem pfx_len {l m : List N3} (h : l <+: m) (P : N3 → Bool) : (l.filter P).length ≤ m.length := Nat.le_trans (List.length_filter_le P l) h.length_le
def pAll : N3 → Bool := fun _ => true
def pNew : N3 → Bool := fun x => !decide (x = (x.1, 0, 1))
set_option maxHeartbeats 1000000 in
theorem list1_any (o t k : Int) (w : World) : Calls Tryz.prog 34 #[nt o t k] w fun e w' => e = .returned (.bool (pAll (o, t, k))) ∧ Below w.heap.size w w' := by
  unfold nt
  go_enter Tryz.func34, Tryz.ntmps34
  go_wp2
  go_ret
  exact ⟨rfl, al1 _ _⟩
set_option maxHeartbeats 4000000 in
set_option maxRecDepth 100000 in
theorem gl_in {w : World} {p g : Nat} {l : List N3} (h : Bk w p g l) (h0 : 0 < l.length) (h1 : l.length ≤ 100) : CallsIn Fence.wide 0 Tryz.prog 33 #[.pointer (some ⟨p, 0, none⟩), .func (.func 34) #[] #[]] w fun e w' => ∃ v, e = .returned v ∧ Made w w' v (l.filter pAll) ∧ Below w.heap.size w w' := by
  obtain ⟨ic, hic, hz0, hz1, hz2⟩ := info_partsN
  have hwt : Hid (∀ o t k W, Calls Tryz.prog 34 #[nt o t k] W fun e w' => e = .returned (.bool (pAll (o, t, k))) ∧ Below W.heap.size W w') := list1_any
  have hal := ball_any ((h.alloc (.cells #[.func (.func 34) #[] #[]] 74)).alloc (.cells #[.slice none 0 0] 22)) h0 h1
  clear h
  refine callsIn_of_wp_marks Tryz.func33 rfl trivial ?_ rfl
  simp only [Tryz.ntmps33, List.size_toArray, List.length_cons, List.length_nil, Nat.reduceAdd, Nat.reduceSub, Array.replicate_succ, Array.replicate_zero, List.push_toArray, List.append_toArray, List.nil_append, List.cons_append]
  gi_wp2
  with_reducible (refine And.intro (wfn _) (And.intro wdep ?_))
  refine (callsIn_wide.2 hal).mono ?_
  rintro e W0 ⟨bx, gt, rfl, hgt, hbx, hsb, hb⟩
  have b0 : Below w.heap.size w W0 := bel2 (al2 _ _ _) hb
  have f0 : Boxed W0 w.heap.size 74 (.func (.func 34) #[] #[]) := (hb.block _ (by simp; omega)).trans (old_at (new_at rfl))
  have v0 : Boxed W0 (w.heap.size + 1) 22 (.slice none 0 0) := (hb.block _ (by simp)).trans (new_at (by simp))
  have o0 : W0.ownsRow w.heap.size 70 3 (.slice none 0 0) 0 [] := World.ownsRow_nil _ _ _ _
  have hgl : gt < W0.heap.size := lt_at hsb.row
  have hgt2 : w.heap.size + 2 ≤ gt := by simp at hgt; omega
  have hz : w.heap.size + 2 ≤ W0.heap.size := by omega
  clear hal hb hgt hbx
  gi_wp2
  refine wp_rangeE (kb := 0) (gf := 143) (lb := #[.pointer (some ⟨bx, 0, none⟩)]) rfl (enters_of Tryz.func143 (by kernel_rfl) rfl)
    (ball1_seq l bx gt _ h1 hsb) hgl (fun _ => rfl)
    (fun pre W => (∃ v, Boxed W (w.heap.size + 1) 22 v ∧ W.ownsRow w.heap.size 70 3 v (pre.filter pAll).length (fl (pre.filter pAll)) ∧ ∀ q, v.ownBlock = some q → W0.heap.size + 2 ≤ q) ∧ Boxed W w.heap.size 74 (.func (.func 34) #[] #[]) ∧ Below w.heap.size w W)
    (fun _ _ _ => False)
    (OwnFrom.and ((rowBoxP_own _ _ _ _ _ (fun pre : List N3 => (pre.filter pAll).length) (fun pre => fl (pre.filter pAll)) _).from _) (OwnFrom.and ((boxed_own _ _ (fun _ : List N3 => (.func (.func 34) #[] #[]))).from _) (ownFrom_below (Nat.le_refl _) (by omega))))
    (fun _ _ _ _ _ hs _ _ => hs)
    ⟨⟨_, v0, o0, fun q e => by cases e⟩, f0, b0⟩ (fun _ _ _ => trivial)
    (fun x a' W => ∃ B, a' = { tmps := #[.pointer (some ⟨p, 0, none⟩), .func (.func 34) #[] #[], undef, .pointer (some ⟨w.heap.size, 0, none⟩), .slice none 0 0, .pointer (some ⟨w.heap.size + 1, 0, none⟩), .pointer (some ⟨B, 0, none⟩), .pointer (some ⟨p, 0, none⟩), .func (.func 143) #[] #[.pointer (some ⟨bx, 0, none⟩)], nt x.1 x.2.1 x.2.2, undef, undef, undef, undef, undef, undef, undef, undef], defers := [] } ∧ NB W B x.1 x.2.1 x.2.2)
    (fun x a' s X Y row hs hg hr => by
      obtain ⟨B, e, hn⟩ := hs
      exact ⟨B, e, (grownBy_keeps_cells hg (fun r q => (hr r q).2) hn rfl).trans hn⟩) ?assign ?body ?done ?stop
  case assign =>
    rintro l2 pre ⟨o, t, k⟩ W K hi hsz hK
    unfold nt
    gi_wp2
    refine hK _ _ (Kept.below (al1 _ _) (by omega) (by omega)) ?_ ⟨_, rfl, NB.new _ _ _ _⟩
    obtain ⟨⟨v, hv, hrow, hq⟩, hf, hb⟩ := hi
    exact ⟨⟨v, hv.alloc _, hrow.alloc _, hq⟩, hf.alloc _, hb.alloc hb.size _⟩
  case body =>
    rintro l2 pre ⟨o, t, k⟩ a' W ⟨⟨v, hv, hrow, hq⟩, hf, hb⟩ ⟨B, rfl, hn⟩ hsz hpr
    have hfl := pfx_len hpr pAll
    have hcv := hv.cell
    have hcf := hf.cell
    have n0 := hn.c0
    have n1 := hn.c1
    have n2 := hn.c2
    dsimp only at n0 n1 n2
    have hc := hwt.out o t k W
    have hfs := filter_snoc pAll pre (o, t, k)
    generalize hPx : pAll (o, t, k) = b at hc hfs
    unfold nt at hc
    cases b with
    | false =>
      rw [if_neg (by decide)] at hfs
      gi_wp2_with (refine ⟨trivial, rfl, ?_⟩; gi_at_call 34; refine (callsIn_wide.2 hc).mono ?_; rintro e u1 ⟨rfl, hb1⟩)
      refine ⟨Kept.below hb1 (by omega) (by omega), ⟨v, (hb1.block _ hv.lt).trans hv, ?_, hq⟩, (hb1.block _ hf.lt).trans hf, bel2 hb hb1⟩
      rw [hfs]
      exact row_below hrow hb1
    | true =>
      rw [if_pos rfl] at hfs
      rw [hfs] at hfl
      have hln : (pre.filter pAll).length + 1 ≤ l.length := by simpa using hfl
      gi_wp2_with (first | (refine ⟨trivial, rfl, ?_⟩; gi_at_call 34; refine (callsIn_wide.2 hc).mono ?_; rintro e u1 ⟨rfl, hb1⟩; have hv1 : Boxed u1 (w.heap.size + 1) 22 v := (hb1.block _ hv.lt).trans hv; have hn1 := hn.carry hb1; have hrow1 := row_below hrow hb1; have hf1 : Boxed u1 w.heap.size 74 (.func (.func 34) #[] #[]) := (hb1.block _ hf.lt).trans hf; have hbw1 := bel2 hb hb1; have hcv1 := hv1.cell; have m0 := hn1.c0; have m1 := hn1.c1; have m2 := hn1.c2; dsimp only at m0 m1 m2) | (gi_at_builtin; refine wpListIn_append_own_at _ rfl _ _ 22 rfl w.heap.size 70 ic _ 3 24 Tryz.underlying22 hic hz0 hz1 hz2 rfl (by decide) _ _ _ rfl (hrow1.alloc _) ⟨u1.heap.size, 0, none⟩ 1 1 [_, _, _] rfl rfl (rowN _ #[_, _, _] _) (by simp [Value.oneCell']) (by unfold maxLen; omega) (by omega) (Nat.le_trans hbw1.size (by simp)) ?_; intro v' w2 hown' hgrow _ hob; obtain ⟨g', cap', rfl⟩ := ownsRow_succ hown'; have hv2 : Boxed w2 (w.heap.size + 1) 22 v := (hv1.alloc _).kept hgrow (fun e' => by have := hq _ e'.symm; omega); have hf2 := (hf1.alloc (.cells #[.int .i64 o, .int .i64 t, .int .i64 k] 70)).kept hgrow (fun e' => by have := hq _ e'.symm; omega); have hc2 := hv2.cell; have hfz2 := hv2.frozen))
      have hz1' : W.heap.size ≤ u1.heap.size := hb1.size
      refine ⟨?_, ⟨_, hv2.set _, ?_, ?_⟩, ?_, ?_⟩
      · refine (((Kept.below hb1 (by omega) (by omega)).trans (Kept.below (al1 _ _) (by omega) (by omega))).trans (Kept.grown hgrow (by simp; omega) (by simp; omega) (fun q hq' => ?_))).trans (Kept.setCell (by omega) (by omega))
        have := hq q hq'
        omega
      · rw [hfs, fl_append, List.length_append]
        refine ownsRow_set hown' (fun q hq' => ?_) _
        rcases hob with e | e
        · have := hq q (e ▸ hq'); omega
        · rw [e] at hq'; simp at hq'; omega
      · intro q hq'
        rcases hob with e | e
        · exact hq q (e ▸ hq')
        · rw [e] at hq'; simp at hq'; omega
      · exact (set_other (by omega)).trans hf2
      · exact ((hbw1.alloc hbw1.size _).grown hgrow (by have := hbw1.size; simp; omega) (fun q hq' => by have := hq q hq'; omega)).setCell (by simp) _
  case done =>
    rintro W ⟨⟨v, hv, hrow, hq⟩, hf, hb⟩ hK
    have hcv := hv.cell
    gi_wp2
    refine ⟨by simp, .inl ⟨_, _, rfl, run_takeDeferred hK, ?_⟩⟩
    exact ⟨v, by simp [results, Tryz.results33, go_sem], v, rfl, ownsRow_putObj hrow _ hK rfl, below_taken _ hb (by omega)⟩
  case stop =>
    rintro c pre W _ h _
    exact h.elim
set_option maxHeartbeats 1000000 in
theorem blist_any {w : World} {p g : Nat} {l : List N3} (h : Bk w p g l) (h0 : 0 < l.length) (h1 : l.length ≤ 100) : Calls Tryz.prog 13 #[.pointer (some ⟨p, 0, none⟩)] w fun e w' => ∃ v, e = .returned v ∧ Made w w' v (l.filter pAll) ∧ Below w.heap.size w w' := by
  have hg := callsIn_wide.1 (gl_in h h0 h1)
  go_enter Tryz.func13, Tryz.ntmps13
  go_wp2_with (go_at_call 33; (with_reducible refine hg.mono ?_); rintro e u1 ⟨v, rfl, hm, hb1⟩)
  go_ret
  exact ⟨v, rfl, hm, hb1⟩
end Go.Proofs.YtgehmidalfajgabGreatDoor
