/- Blocks of cells in loops over functions: what they hold, and that they are kept. -/
import Derived.Test.YtklnfbanfgdgcaaGreatDoorJnJ20
import Derived.Test.YtklnfbanfgdgcaaGreatDoorJnJ19
import Derived.Test.YtklnfbanfgdgcaaGreatDoorJnJ16
import Derived.Test.YtklnfbanfgdgcaaGreatDoorJnJ5
import Derived.Laws.CopyRow
set_option maxHeartbeats 40000000
set_option maxRecDepth 100000
set_option linter.unusedVariables false
namespace Go.Proofs.YtklnfbanfgdgcaaGreatDoor
open Go.RowKit Go.Shelf Go.Lib

theorem Kept.setCell {bx B m : Nat} {W : World} {B' j : Nat} {v : Value} (h1 : B' ≠ bx) (h2 : B' < B ∨ B + m ≤ B') : Kept bx B m W (W.setCell ⟨B', j, none⟩ v) :=
  ⟨by simp [World.setCell], set_other (Ne.symm h1), fun k h3 h4 => set_other (by omega)⟩
/-- The list of deferred calls is taken: nothing else turns. -/
theorem below_taken {n : Nat} {w W : World} {k : Nat} (o : Obj) (h : Below n w W) (hk : n ≤ k) : Below n w (W.putObj k o) :=
  h.trans ⟨rfl, rfl, rfl, by simp, fun j hj => World.putObj_heap_other (by omega)⟩
end Go.Proofs.YtklnfbanfgdgcaaGreatDoor
namespace Go.Proofs.YtklnfbanfgdgcaaGreatDoor
open Go.RowKit Go.Shelf



theorem run_copy3 (w : World) (ty : TypeId) (g b n : Nat) (cur : Array Value) (t : TypeId) (cs : List Value) (hg : w.heap[g]? = some (.cells cur t (0, 0))) (hn : cs.length = n * 3)
    (hsrc : ∀ j v, cs[j]? = some v → w.cell? ((⟨b, 0, none⟩ : Addr).add j) = some v) (hfit : cs.length = cur.size) (h1 : ∀ v ∈ cs, v.oneCell' = true) :
    (Builtin.copy_ #[46, 46] ty #[.slice (some ⟨g, 0, none⟩) n n, .slice (some ⟨b, 0, none⟩) n n]).run Tryz.prog w = .ok (goInt n) (w.setRow g cs.toArray) := by
  have hl := run_loadCells_list (P := Tryz.prog) w ⟨b, 0, none⟩ cs hsrc
  have hst := run_storeCells_at Tryz.prog g 0 t cs 0 cur w hg (by omega) h1
  obtain ⟨ic, hic, _, hz1, _⟩ := info_partsN
  have e : cur.toList.take 0 ++ cs ++ cur.toList.drop (0 + cs.length) = cs := by
    rw [List.drop_of_length_le (by simp; omega)]
    simp
  simp only [Nat.zero_add, Nat.add_zero] at hst
  simp [Builtin.copy_, run_underlying Tryz.underlying46, Builtin.lenOf, Builtin.firstCells, sizeOf, typeInfo, hic, hz1, ← hn, hl, hst]
  rw [List.drop_of_length_le (by simp; omega)]
  simp
theorem bi_copy3 (w : World) (ty : TypeId) (bs : Array Bool) (g b n : Nat) (cur : Array Value) (t : TypeId) (cs : List Value) (hg : w.heap[g]? = some (.cells cur t (0, 0))) (hn : cs.length = n * 3)
    (hsrc : ∀ j v, cs[j]? = some v → w.cell? ((⟨b, 0, none⟩ : Addr).add j) = some v) (hfit : cs.length = cur.size) (h1 : ∀ v ∈ cs, v.oneCell' = true) :
    (builtin .copy #[46, 46] ty bs #[.slice (some ⟨g, 0, none⟩) n n, .slice (some ⟨b, 0, none⟩) n n]).run Tryz.prog w = .ok (.value (.int .i64 (n : Int))) (w.setRow g cs.toArray) := by
  have h := run_copy3 w ty g b n cur t cs hg hn hsrc hfit h1
  unfold builtin
  simp only [Sem.run_bind, h, Result.andThen_ok, Sem.run_pure]
  rfl
section
variable {P : Program} {md : Region.Mode} {ops : Array Oper} {Q : Exit → Act → World → Prop} {X0 : Array Value} {val : Nat → Value} {J J' : World → Prop} {i : Nat} {o : Oper}
theorem step_biW (hi : ops[i]? = some o) (hg : GOk md ops X0 val i o) (b : Builtin) (xs : Array Operand) (ts : Array TypeId) (vs : List Value) (ho : o.op = .call { callee := .builtin b, args := xs, argTypes := ts })
    (hx : xs.toList.map (rdo md ops X0 val i o) = vs.map some) (hr : ∀ w, J w → ∃ w', (∀ cs, (builtin b ts o.type cs vs.toArray).run P w = .ok (.value (val i)) w') ∧ J' w') : StepAt P md ops Q X0 val J J' i o :=
  step_of hi hg fun a w hJ hS => by
    unfold Oper.wp execOp
    have e : xs.map a.eval = vs.toArray := by
      apply Array.toList_inj.1
      rw [Array.toList_map]
      exact hS.evals _ _ hx
    obtain ⟨w', hr1, hr2⟩ := hr w hJ
    simp only [ho, resolve, e, Sem.run_bind, Sem.run_pure, Result.andThen_ok, invoke, hr1 _, Oper.upon_value]
    exact ⟨trivial, hr2⟩
end
theorem fl_src (l : List N3) {W : World} {p g : Nat} (h : Bk W p g l) : ∀ j v, (fl l)[j]? = some v → W.cell? ((⟨g, 0, none⟩ : Addr).add j) = some v := fun j v hj => by
  rw [add_pl, Nat.zero_add]
  exact (cell_at h.row j).trans (by simpa using hj)
theorem Bk.setRow {W : World} {p g : Nat} {l m : List N3} (h : Bk W p g l) (hm : m.length = l.length) : Bk (W.setRow g (fl m).toArray) p g m := by
  refine ⟨?_, ?_⟩
  · have e : (W.setRow g (fl m).toArray).heap[p]? = W.heap[p]? := by simp [World.setRow, Array.getElem?_modify, h.ne.symm]
    rw [e, hm]
    exact h.obj
  · simp [World.setRow, Array.getElem?_modify, h.row]
theorem below_sr {n b : Nat} {w W : World} {cs : Array Value} (h : Below n w W) (hn : n ≤ b) : Below n w (W.setRow b cs) :=
  h.trans ⟨rfl, rfl, rfl, by simp [World.setRow], fun k hk => by simp [World.setRow, Array.getElem?_modify, show b ≠ k by omega]⟩
set_option maxHeartbeats 4000000 in
set_option maxRecDepth 100000 in
theorem twin_any {w : World} {p g : Nat} {l : List N3} (h : Bk w p g l) (h0 : 0 < l.length) (h1 : l.length ≤ 100) : Calls Tryz.prog 220 #[.pointer (some ⟨p, 0, none⟩)] w fun e w' => ∃ p' g', e = .returned (.pointer (some ⟨p', 0, none⟩)) ∧ w.heap.size ≤ p' ∧ w.heap.size ≤ g' ∧ Bk w' p' g' l ∧ Below w.heap.size w w' := by
  have hmx : Tryz.prog.follows .mixedOrders = true := by kernel_rfl
  obtain ⟨N, hN⟩ : ∃ N, l.length = N := ⟨_, rfl⟩
  have HN : Hid (l.length = N) := hN
  have hsz := bsize_any (h.alloc (.cells #[.slice none 0 0] 183))
  rw [hN] at hsz h0 h1
  clear hN
  have hpi : (0 : Int) < (N : Int) := by omega
  obtain ⟨ic, hic, hz0, hz1, hz2⟩ := info_partsN
  have hmk : ∀ W : World, (Instr.makeSlice 46 (.int .i64 (N : Int)) (.int .i64 (N : Int))).run Tryz.prog W = .ok (.slice (some ⟨W.heap.size, 0, none⟩) N N) (W.alloc (.cells (fl (mkl N 0)).toArray 185)) := by
    intro W
    have := run_make (P := Tryz.prog) W 46 185 ic _ Tryz.underlying46 hic hz0 .i64 .i64 (N : Int) (N : Int) (by omega) (Int.le_refl _) (by rw [hz2]; omega) (by omega)
    rw [Int.toNat_natCast, hz1, made3, ← mkl_zero] at this
    exact this
  generalize hM0 : (fl (mkl N 0)).toArray = M0 at hmk
  have HM0 : Hid ((fl (mkl N 0)).toArray = M0) := hM0
  clear hM0 hic hz0 hz1 hz2
  go_enter Tryz.func220, Tryz.ntmps220
  go_wp2_with (go_at_call 242; (with_reducible refine hsz.mono ?_); rintro e u1 ⟨rfl, hb1⟩; have hbx : u1.heap[w.heap.size]? = some (.cells #[.slice none 0 0] 183 (0, 0)) := (hb1.block _ (by simp)).trans (new_at rfl); have hk1 : Bk u1 p g l := (h.alloc _).carry hb1; have hbw := bel2 (al1 w (.cells #[.slice none 0 0] 183)) hb1; have HBX : Hid (u1.heap[w.heap.size]? = some (.cells #[.slice none 0 0] 183 (0, 0))) := hbx; have x0 := cell_at hbx 0; have x1 := thaw_at hbx 0; have hlt := lt_at hbx; clear hbx; simp at x0)
  have hk2 : Bk ((u1.setCell ⟨w.heap.size, 0, none⟩ (.slice (some ⟨u1.heap.size, 0, none⟩) N N)).alloc (.cells M0 185)) p g l := by
    have hne1 : p ≠ w.heap.size := by have := h.plt; omega
    have hne2 : g ≠ w.heap.size := by have := h.glt; omega
    exact ⟨old_at ((Below.heap_setCell _ _ _ _ hne1).trans hk1.obj), old_at ((Below.heap_setCell _ _ _ _ hne2).trans hk1.row)⟩
  have ht2 : Bk ((u1.setCell ⟨w.heap.size, 0, none⟩ (.slice (some ⟨u1.heap.size, 0, none⟩) N N)).alloc (.cells M0 185)) w.heap.size u1.heap.size (mkl N 0) := by
    refine ⟨?_, ?_⟩
    · have := heap_setCell_same _ _ 0 _ _ (.slice (some ⟨u1.heap.size, 0, none⟩) N N) HBX.out
      rw [mkl_len]
      refine old_at (this.trans ?_)
      simp
    · rw [HM0.out]
      exact new_at (by simp)
  have hb2 : Below w.heap.size w ((u1.setCell ⟨w.heap.size, 0, none⟩ (.slice (some ⟨u1.heap.size, 0, none⟩) N N)).alloc (.cells M0 185)) := (hbw.setCell (Nat.le_refl _) _).alloc (by simpa using hbw.size) _
  have hg1 := h.glt
  have hp1 := h.plt
  refine wp_region_any hmx ?_
  refine wpAny_last 8 (fun i__ => ([(.pointer (some ⟨w.heap.size, 0, none⟩)), (.pointer (some ⟨w.heap.size, 0, none⟩)), (.pointer (some ⟨w.heap.size, 0, none⟩)), (.slice (some ⟨u1.heap.size, 0, none⟩) N N), (.pointer (some ⟨p, 0, none⟩)), (.pointer (some ⟨p, 0, none⟩)), (.pointer (some ⟨p, 0, none⟩)), (.slice (some ⟨g, 0, none⟩) N N), (.int .i64 (N : Int))] : List Value).getD i__ undef) (fun V => Bk V p g l ∧ Bk V w.heap.size u1.heap.size (mkl N 0) ∧ Below w.heap.size w V) (fun V => Bk V w.heap.size u1.heap.size l ∧ Below w.heap.size w V) rfl (by kernel_rfl) (by kernel_rfl) ⟨hk2.carry (Below.refl _ _).drew, ht2.carry (Below.refl _ _).drew, hb2.drew⟩ ?_ ?_  ?_
  · refine (stepsFrom_cons ?_ (stepsFrom_cons ?_ (stepsFrom_cons ?_ (stepsFrom_cons ?_ (stepsFrom_cons ?_ (stepsFrom_cons ?_ (stepsFrom_cons ?_ (stepsFrom_cons ?_ trivial))))))))
    · exact step_move rfl trivial _ rfl (by kernel_rfl)
    · exact step_nilCheck rfl trivial _ _ _ rfl rfl rfl
    · exact step_fieldAddr rfl trivial _ _ _ _ rfl rfl (fun w hw => field_b0 w _)
    · exact step_load rfl trivial _ _ _ rfl rfl (fun w hw => by have := load_b0 hw.2.1; rwa [mkl_len] at this)
    · exact step_move rfl trivial _ rfl (by kernel_rfl)
    · exact step_nilCheck rfl trivial _ _ _ rfl rfl rfl
    · exact step_fieldAddr rfl trivial _ _ _ _ rfl rfl (fun w hw => field_b0 w _)
    · exact step_load rfl trivial _ _ _ rfl rfl (fun w hw => by have := load_b0 hw.1; rwa [HN.out] at this)
  · intro o ho
    cases ho
    exact step_biW rfl trivial _ _ _ [(.slice (some ⟨u1.heap.size, 0, none⟩) N N), (.slice (some ⟨g, 0, none⟩) N N)] rfl (by kernel_rfl) (fun W hw => ⟨_, fun cs => bi_copy3 W _ cs u1.heap.size g N _ _ (fl l) hw.2.1.row (by rw [fl_len, HN.out]) (fl_src l hw.1) (by simp [fl_len, mkl_len, HN.out]) (fl_one l), hw.2.1.setRow (by rw [mkl_len]; exact HN.out), below_sr hw.2.2 (by omega)⟩)
  intro W hW
  first | refine hK _ _ ?_ | refine (‹∀ (a : Act) (w : World), Code.wp Tryz.prog _ _ a w → _›) _ _ ?_ | skip
  simp only [finL, List.getD_cons_zero, List.getD_cons_succ, Nat.zero_add, Nat.reduceAdd, List.setIfInBounds_toArray, List.set_cons_zero, List.set_cons_succ]
  go_wp2
  go_ret
  exact ⟨_, _, rfl, Nat.le_refl _, by omega, hW.1, hW.2⟩
end Go.Proofs.YtklnfbanfgdgcaaGreatDoor
