/- Numbers that are held against each other, in a region that draws. -/
import Derived.Test.YtklnfbanfgdgcaaGreatDoorJnJ3
import Derived.Test.YtklnfbanfgdgcaaGreatDoorJnJ12
set_option maxHeartbeats 40000000
set_option maxRecDepth 100000
set_option linter.unusedVariables false
namespace Go.Proofs.YtklnfbanfgdgcaaGreatDoor
open Go.RowKit

theorem neqK_f {P : Program} {t : TypeId} {x y : Operand} {w : World} (k : IntKind) (a : Int) : binRun P .neq t x y (.int k a) (.int k a) w = .ok (.bool false) w := by simp [binRun, go_sem]
theorem neqK_t {P : Program} {t : TypeId} {x y : Operand} {w : World} {k : IntKind} {a b : Int} (h : ¬ a = b) : binRun P .neq t x y (.int k a) (.int k b) w = .ok (.bool true) w := by simp [binRun, go_sem, h]
end Go.Proofs.YtklnfbanfgdgcaaGreatDoor
namespace Go.Proofs.YtklnfbanfgdgcaaGreatDoor
open Go.RowKit Go.Shelf Go.Lib

/-- What turns the blocks p and q alone. -/
structure Tq (p q : Nat) (W W' : World) : Prop where
  os : W'.os = W.os
  tape : W'.tape = W.tape
  output : W'.output = W.output
  size : W.heap.size ≤ W'.heap.size
  block : ∀ k, k < W.heap.size → k ≠ p → k ≠ q → W'.heap[k]? = W.heap[k]?
section
variable {p q base : Nat} {W W' W'' : World}
theorem Tq.of (p q : Nat) (hb : Below W.heap.size W W') : Tq p q W W' := ⟨hb.os, hb.tape, hb.output, hb.size, fun k hk _ _ => hb.block k hk⟩
theorem Tq.tp (q : Nat) (h : TpZ p W W') : Tq p q W W' := ⟨h.os, h.tape, h.output, h.size, fun k hk hn _ => h.block k hk hn⟩
theorem Tq.tp2 (p : Nat) (h : TpZ q W W') : Tq p q W W' := ⟨h.os, h.tape, h.output, h.size, fun k hk _ hn => h.block k hk hn⟩
theorem Tq.trans (h : Tq p q W W') (k : Tq p q W' W'') : Tq p q W W'' :=
  ⟨k.os.trans h.os, k.tape.trans h.tape, k.output.trans h.output, Nat.le_trans h.size k.size, fun j hj hn hm => (k.block j (Nat.lt_of_lt_of_le hj h.size) hn hm).trans (h.block j hj hn hm)⟩
end
theorem wpList_store_inZ {P : Program} {ops : Array Oper} {rest : List Oper} {o : Oper} {a : Act} {w : World} {Q : Exit → Act → World → Prop} (hgd : o.guard = none) (ty : TypeId) (x y : Operand) (ho : o.op = .store ty x y)
    (g off : Nat) (t : TypeId) (cur vs : List Value) (hx : a.eval x = .pointer (some ⟨g, off, none⟩)) (hy : a.eval y = .agg vs.toArray) (hg : w.heap[g]? = some (.cells cur.toArray t (0, 0))) (hi : (P.info? ty).map (·.size) = some vs.length) (hf : off + vs.length ≤ cur.length) (h1 : ∀ v ∈ vs, v.oneCell' = true)
    (h : wpList P ops Q rest (a.put o.dst undef) (w.setRow g (splice cur off vs).toArray)) : wpList P ops Q (o :: rest) a w :=
  wpList_plain hgd fun K hK => by
    unfold Oper.wp execOp
    simp only [ho, hx, hy, Sem.run_bind, run_store_inZ w g off t ty cur vs hg hi hf h1, Result.andThen_ok]
    exact hK _ _ h
section
variable {W V : World} {q p : Nat} {P : Option Addr} {b : Bo} {d : Dst}
theorem Bt.ne (h : Bt W q P b) (hd : Dk W p d) : q ≠ p := fun e => by
  have h1 := hd.obj
  unfold Bt at h
  rw [← e, h] at h1
  simp only [Option.some.injEq, Obj.cells.injEq] at h1
  exact absurd h1.2.1 (by decide)
theorem Bt.tp (h : Bt W q P b) (hd : Dk W p d) (ht : TpZ p W V) : Bt V q P b := (ht.block _ (lt_at h) (h.ne hd)).trans h
theorem Dk.tq (h : Bt W q P b) (hd : Dk W p d) (ht : TpZ q W V) : Dk V p d := ⟨(ht.block _ hd.lt (Ne.symm (h.ne hd))).trans hd.obj, hd.len, hd.byt⟩
def r3 (x : Rec) : List Value := [.int .i64 x.li, .int .i64 x.ro, .int .i64 x.ta]
theorem Bt.put (h : Bt W q P b) (x : Rec) : Bt (W.setRow q (splice (btC b P).toList 0 (r3 x)).toArray) q P { b with r := x } ∧ TpZ q W (W.setRow q (splice (btC b P).toList 0 (r3 x)).toArray) := by
  refine ⟨?_, TpZ.row _ _ _⟩
  unfold Bt
  rw [setRow_heap _ _ _ _ _ _ h]
  rfl
theorem load_bP (h : Bt W q P b) : (Instr.loadAt 37 (.pointer (some ⟨q, 3, none⟩))).run Tryz.prog W = .ok (.pointer P) W := by
  have c0 := cell_at h 3
  unfold btC at c0
  simp at c0
  go_simp
theorem load_rec3 {x : Rec} {g : Nat} (h : W.heap[g]? = some (.cells #[.int .i64 x.li, .int .i64 x.ro, .int .i64 x.ta] 23 (0, 0))) : (Instr.loadAt 23 (.pointer (some ⟨g, 0, none⟩))).run Tryz.prog W = .ok (rV x) W := by
  have c0 := cell_at h 0
  have c1 := cell_at h 1
  have c2 := cell_at h 2
  unfold rV
  simp at c0 c1 c2
  go_simp
end
theorem field_res (W : World) (B : Nat) : (Instr.fieldAt 175 (.pointer (some ⟨B, 0, none⟩)) 0).run Tryz.prog W = .ok (.pointer (some ⟨B, 0, none⟩)) W ∧ (Instr.fieldAt 175 (.pointer (some ⟨B, 0, none⟩)) 1).run Tryz.prog W = .ok (.pointer (some ⟨B, 3, none⟩)) W := by
  refine ⟨?_, ?_⟩ <;> go_simp
/-- While a record is saved. -/
def JS (W0 : World) (q p g : Nat) (P : Option Addr) (b : Bo) (x : Rec) (d : Dst) (W : World) : Prop := Bt W q P b ∧ Dk W p d ∧ W.heap[g]? = some (.cells #[.int .i64 x.li, .int .i64 x.ro, .int .i64 x.ta] 23 (0, 0)) ∧ TpZ p W0 W
theorem JS.drew {W0 W : World} {q p g : Nat} {P : Option Addr} {b : Bo} {x : Rec} {d : Dst} (h : JS W0 q p g P b x d W) : JS W0 q p g P b x d W.drew := ⟨h.1.carry (Below.refl _ _).drew, h.2.1.carry (Below.refl _ _).drew, h.2.2.1, h.2.2.2.trans (TpZ.of _ (Below.refl _ _).drew)⟩
/-- The Boot behind a save. -/
def svB (b : Bo) (e : Int) (x : Rec) : Bo := if e = 0 then { b with r := x } else b
set_option maxHeartbeats 4000000 in
set_option maxRecDepth 100000 in
theorem bsave_O {Wi : World} {q p : Nat} {b : Bo} {d : Dst} {x : Rec} (h : Bt Wi q (some ⟨p, 0, none⟩) b) (hd : Dk Wi p d) (hf : Fz d) (hw0 : 0 ≤ d.writes) (hw : d.writes ≤ 4611686018427387903) (hc : Calls Tryz.prog 112 #[rV b.r] Wi fun e w' => e = .returned (rV x) ∧ Below Wi.heap.size Wi w') : Calls Tryz.prog 111 #[.pointer (some ⟨q, 0, none⟩), .func (.func 112) #[] #[]] Wi fun e w' => e = .returned (.int .i64 (dSv d x).1) ∧ Dk w' p (dSv d x).2 ∧ Bt w' q (some ⟨p, 0, none⟩) (svB b (dSv d x).1 x) ∧ Tq p q Wi w' := by
  have hmx : Tryz.prog.follows .mixedOrders = true := by kernel_rfl
  have hsv := fun V (hV : Dk V p d) => save_any hV x hf hw0 hw
  obtain ⟨E, hE⟩ : ∃ E, (dSv d x).1 = E := ⟨_, rfl⟩
  obtain ⟨D1, hD1⟩ : ∃ D1, (dSv d x).2 = D1 := ⟨_, rfl⟩
  rw [hE, hD1] at hsv
  rw [hE, hD1]
  clear hE hD1
  have c0 := cell_at h 0
  have c1 := cell_at h 1
  have c2 := cell_at h 2
  unfold btC at c0 c1 c2
  simp at c0 c1 c2
  unfold rV at hc
  go_enter Tryz.func111, Tryz.ntmps111
  go_wp2_with (first | (go_at_call 112; (with_reducible refine hc.mono ?_); rintro e u1 ⟨rfl, hu1⟩; obtain ⟨u2, hu2⟩ : ∃ u2, u1.alloc (.cells #[.int .i64 x.li, .int .i64 x.ro, .int .i64 x.ta] 23) = u2 := ⟨_, rfl⟩; have hb2 : Below Wi.heap.size Wi u2 := (by rw [← hu2]; exact bel2Z hu1 (al1'Z _ _)); have hg2 : u2.heap[u1.heap.size]? = some (.cells #[.int .i64 x.li, .int .i64 x.ro, .int .i64 x.ta] 23 (0, 0)) := (by rw [← hu2]; exact new_at rfl)))
  rename_i hK
  refine wp_region_any hmx ?_
  refine wpAny_last2 5 (fun i__ => ([(.pointer (some ⟨q, 0, none⟩)), (.pointer (some ⟨q, 0, none⟩)), (.pointer (some ⟨q, 3, none⟩)), (.pointer (some ⟨p, 0, none⟩)), (rV x), (.int .i64 E), (.int .i64 E)] : List Value).getD i__ undef) (JS Wi q p u1.heap.size (some ⟨p, 0, none⟩) b x d) (JS Wi q p u1.heap.size (some ⟨p, 0, none⟩) b x D1) (JS Wi q p u1.heap.size (some ⟨p, 0, none⟩) b x D1) rfl (by kernel_rfl) (by kernel_rfl) (JS.drew ⟨h.carry hb2, hd.carry hb2, hg2, TpZ.of _ hb2⟩) ?_ ?_ ?_  ?_
  · refine (stepsFrom_cons ?_ (stepsFrom_cons ?_ (stepsFrom_cons ?_ (stepsFrom_cons ?_ (stepsFrom_cons ?_ trivial)))))
    · exact step_move rfl trivial _ rfl (by kernel_rfl)
    · exact step_nilCheck rfl trivial _ _ _ rfl rfl rfl
    · exact step_fieldAddr rfl trivial _ _ _ _ rfl rfl (fun v hw => (field_res v _).2)
    · exact step_load rfl trivial _ _ _ rfl rfl (fun v hw => load_bP hw.1)
    · exact step_load rfl trivial _ _ _ rfl rfl (fun v hw => load_rec3 hw.2.2.1)
  · intro o ho
    cases ho
    exact step_call rfl trivial 182 _ _ [(.pointer (some ⟨p, 0, none⟩)), (rV x)] rfl (by kernel_rfl) (enters_of Tryz.func182 (by kernel_rfl) rfl) (fun v hw => (hsv v hw.2.1).mono (by rintro e w' ⟨rfl, h1, h2⟩; exact ⟨rfl, hw.1.tp hw.2.1 h2, h1, (h2.block _ (lt_at hw.2.2.1) (fun e => by have h3 := hw.2.2.1; rw [e, hw.2.1.obj] at h3; simp only [Option.some.injEq, Obj.cells.injEq] at h3; exact absurd h3.2.1 (by decide))).trans hw.2.2.1, hw.2.2.2.trans h2⟩))
  · intro o ho
    cases ho
    exact step_assign rfl trivial _ rfl (by kernel_rfl) (fun _ h => h)
  intro W hW
  first | refine hK _ _ ?_ | refine (‹∀ (a : Act) (w : World), Code.wp Tryz.prog _ _ a w → _›) _ _ ?_ | skip
  simp only [finL, List.getD_cons_zero, List.getD_cons_succ, Nat.zero_add, Nat.reduceAdd, List.setIfInBounds_toArray, List.set_cons_zero, List.set_cons_succ]
  clear hK c0 c1 c2 hc hsv hd
  by_cases hz : E = 0
  case neg =>
    have hBt : Bt W q (some ⟨p, 0, none⟩) (svB b E x) := by rw [svB, if_neg hz]; exact hW.1
    go_wp2
    go_ret
    exact ⟨rfl, hW.2.1, hBt, Tq.tp _ hW.2.2.2⟩
  subst hz
  obtain ⟨hbY, htY⟩ := hW.1.put x
  obtain ⟨Y, hY⟩ : ∃ Y, W.setRow q (splice (btC b (some ⟨p, 0, none⟩)).toList 0 (r3 x)).toArray = Y := ⟨_, rfl⟩
  rw [hY] at hbY htY
  have HY : Hid (W.setRow q (splice (btC b (some ⟨p, 0, none⟩)).toList 0 (r3 x)).toArray = Y) := hY
  have hbo := hW.1
  clear hY
  have hdY := Dk.tq hW.1 hW.2.1 htY
  have htq := (Tq.tp q hW.2.2.2).trans (Tq.tp2 p htY)
  have hg5 := hW.2.2.1
  clear hW
  go_wp2_with (first | (refine wpList_load_row rfl 23 (.tmp 5) rfl u1.heap.size rfl 23 _ (0, 0) _ hg5 undR rfl infoR ?_) | (refine wpList_store_inZ rfl 23 (.tmp 25) (.tmp 23) rfl q 0 177 (btC b (some ⟨p, 0, none⟩)).toList (r3 x) rfl rfl hbo infoR (by unfold btC r3; simp) (by simp [r3, Value.oneCell']) ?_; rw [HY.out]))
  go_ret
  exact ⟨rfl, hdY, hbY, htq⟩
set_option maxHeartbeats 4000000 in
set_option maxRecDepth 100000 in
theorem bsave_N {Wi : World} {q p : Nat} {b : Bo} {d : Dst} {x : Rec} {bx : Nat} (h : Bt Wi q (some ⟨p, 0, none⟩) b) (hd : Dk Wi p d) (hf : Fz d) (hw0 : 0 ≤ d.writes) (hw : d.writes ≤ 4611686018427387903) (hc : Calls Tryz.prog 116 #[rV b.r, .pointer (some ⟨bx, 0, none⟩)] Wi fun e w' => e = .returned (rV x) ∧ Below Wi.heap.size Wi w') : Calls Tryz.prog 111 #[.pointer (some ⟨q, 0, none⟩), .func (.func 116) #[] #[.pointer (some ⟨bx, 0, none⟩)]] Wi fun e w' => e = .returned (.int .i64 (dSv d x).1) ∧ Dk w' p (dSv d x).2 ∧ Bt w' q (some ⟨p, 0, none⟩) (svB b (dSv d x).1 x) ∧ Tq p q Wi w' := by
  have hmx : Tryz.prog.follows .mixedOrders = true := by kernel_rfl
  have hsv := fun V (hV : Dk V p d) => save_any hV x hf hw0 hw
  obtain ⟨E, hE⟩ : ∃ E, (dSv d x).1 = E := ⟨_, rfl⟩
  obtain ⟨D1, hD1⟩ : ∃ D1, (dSv d x).2 = D1 := ⟨_, rfl⟩
  rw [hE, hD1] at hsv
  rw [hE, hD1]
  clear hE hD1
  have c0 := cell_at h 0
  have c1 := cell_at h 1
  have c2 := cell_at h 2
  unfold btC at c0 c1 c2
  simp at c0 c1 c2
  unfold rV at hc
  go_enter Tryz.func111, Tryz.ntmps111
  go_wp2_with (first | (go_at_call 116; (with_reducible refine hc.mono ?_); rintro e u1 ⟨rfl, hu1⟩; obtain ⟨u2, hu2⟩ : ∃ u2, u1.alloc (.cells #[.int .i64 x.li, .int .i64 x.ro, .int .i64 x.ta] 23) = u2 := ⟨_, rfl⟩; have hb2 : Below Wi.heap.size Wi u2 := (by rw [← hu2]; exact bel2Z hu1 (al1'Z _ _)); have hg2 : u2.heap[u1.heap.size]? = some (.cells #[.int .i64 x.li, .int .i64 x.ro, .int .i64 x.ta] 23 (0, 0)) := (by rw [← hu2]; exact new_at rfl)))
  rename_i hK
  refine wp_region_any hmx ?_
  refine wpAny_last2 5 (fun i__ => ([(.pointer (some ⟨q, 0, none⟩)), (.pointer (some ⟨q, 0, none⟩)), (.pointer (some ⟨q, 3, none⟩)), (.pointer (some ⟨p, 0, none⟩)), (rV x), (.int .i64 E), (.int .i64 E)] : List Value).getD i__ undef) (JS Wi q p u1.heap.size (some ⟨p, 0, none⟩) b x d) (JS Wi q p u1.heap.size (some ⟨p, 0, none⟩) b x D1) (JS Wi q p u1.heap.size (some ⟨p, 0, none⟩) b x D1) rfl (by kernel_rfl) (by kernel_rfl) (JS.drew ⟨h.carry hb2, hd.carry hb2, hg2, TpZ.of _ hb2⟩) ?_ ?_ ?_  ?_
  · refine (stepsFrom_cons ?_ (stepsFrom_cons ?_ (stepsFrom_cons ?_ (stepsFrom_cons ?_ (stepsFrom_cons ?_ trivial)))))
    · exact step_move rfl trivial _ rfl (by kernel_rfl)
    · exact step_nilCheck rfl trivial _ _ _ rfl rfl rfl
    · exact step_fieldAddr rfl trivial _ _ _ _ rfl rfl (fun v hw => (field_res v _).2)
    · exact step_load rfl trivial _ _ _ rfl rfl (fun v hw => load_bP hw.1)
    · exact step_load rfl trivial _ _ _ rfl rfl (fun v hw => load_rec3 hw.2.2.1)
  · intro o ho
    cases ho
    exact step_call rfl trivial 182 _ _ [(.pointer (some ⟨p, 0, none⟩)), (rV x)] rfl (by kernel_rfl) (enters_of Tryz.func182 (by kernel_rfl) rfl) (fun v hw => (hsv v hw.2.1).mono (by rintro e w' ⟨rfl, h1, h2⟩; exact ⟨rfl, hw.1.tp hw.2.1 h2, h1, (h2.block _ (lt_at hw.2.2.1) (fun e => by have h3 := hw.2.2.1; rw [e, hw.2.1.obj] at h3; simp only [Option.some.injEq, Obj.cells.injEq] at h3; exact absurd h3.2.1 (by decide))).trans hw.2.2.1, hw.2.2.2.trans h2⟩))
  · intro o ho
    cases ho
    exact step_assign rfl trivial _ rfl (by kernel_rfl) (fun _ h => h)
  intro W hW
  first | refine hK _ _ ?_ | refine (‹∀ (a : Act) (w : World), Code.wp Tryz.prog _ _ a w → _›) _ _ ?_ | skip
  simp only [finL, List.getD_cons_zero, List.getD_cons_succ, Nat.zero_add, Nat.reduceAdd, List.setIfInBounds_toArray, List.set_cons_zero, List.set_cons_succ]
  clear hK c0 c1 c2 hc hsv hd
  by_cases hz : E = 0
  case neg =>
    have hBt : Bt W q (some ⟨p, 0, none⟩) (svB b E x) := by rw [svB, if_neg hz]; exact hW.1
    go_wp2
    go_ret
    exact ⟨rfl, hW.2.1, hBt, Tq.tp _ hW.2.2.2⟩
  subst hz
  obtain ⟨hbY, htY⟩ := hW.1.put x
  obtain ⟨Y, hY⟩ : ∃ Y, W.setRow q (splice (btC b (some ⟨p, 0, none⟩)).toList 0 (r3 x)).toArray = Y := ⟨_, rfl⟩
  rw [hY] at hbY htY
  have HY : Hid (W.setRow q (splice (btC b (some ⟨p, 0, none⟩)).toList 0 (r3 x)).toArray = Y) := hY
  have hbo := hW.1
  clear hY
  have hdY := Dk.tq hW.1 hW.2.1 htY
  have htq := (Tq.tp q hW.2.2.2).trans (Tq.tp2 p htY)
  have hg5 := hW.2.2.1
  clear hW
  go_wp2_with (first | (refine wpList_load_row rfl 23 (.tmp 5) rfl u1.heap.size rfl 23 _ (0, 0) _ hg5 undR rfl infoR ?_) | (refine wpList_store_inZ rfl 23 (.tmp 25) (.tmp 23) rfl q 0 177 (btC b (some ⟨p, 0, none⟩)).toList (r3 x) rfl rfl hbo infoR (by unfold btC r3; simp) (by simp [r3, Value.oneCell']) ?_; rw [HY.out]))
  go_ret
  exact ⟨rfl, hdY, hbY, htq⟩

/-- What a Boot's numbers may be. -/
def OkB (b : Bo) : Prop := (0 ≤ b.r.li ∧ b.r.li ≤ 1073741824) ∧ (0 ≤ b.r.ro ∧ b.r.ro ≤ 1099511627775) ∧ (0 ≤ b.r.ta ∧ b.r.ta ≤ 1048576) ∧ (0 ≤ b.ro ∧ b.ro ≤ 1099511627775) ∧ 0 ≤ b.ta ∧ b.ta ≤ 1048576
def rNx (b : Bo) : Rec := ⟨b.r.li, bR b.ro, b.r.ta⟩
/-- Next: the round, the error, the disk and the Boot behind it. -/
structure Nx where
  x : Int
  e : Int
  d : Dst
  b : Bo
def dNx (d : Dst) (b : Bo) : Nx :=
  if d.off = true then ⟨0, 100, d, b⟩ else if b.ro = 1099511627775 then ⟨0, 120, d, b⟩ else if b.ro = b.r.ro then (if (dSv d (rNx b)).1 = 0 then ⟨b.ro + 1, 0, (dSv d (rNx b)).2, ⟨rNx b, b.ro + 1, b.ta⟩⟩ else ⟨0, (dSv d (rNx b)).1, (dSv d (rNx b)).2, b⟩) else ⟨b.ro + 1, 0, d, ⟨b.r, b.ro + 1, b.ta⟩⟩
/-- Raise: the error, the disk and the Boot behind it. -/
structure Ra where
  e : Int
  d : Dst
  b : Bo
section
variable {W V : World} {q p : Nat} {P : Option Addr} {b : Bo} {d : Dst}
theorem Bt.set4 (h : Bt W q P b) (x : Int) : Bt (W.setCell ⟨q, 4, none⟩ (.int .i64 x)) q P ⟨b.r, x, b.ta⟩ ∧ TpZ q W (W.setCell ⟨q, 4, none⟩ (.int .i64 x)) := ⟨heap_setCell_same _ _ _ _ _ _ h, TpZ.set _ _ _ _⟩
theorem Bt.c (h : Bt W q P b) : W.cell? ⟨q, 0, none⟩ = some (.int .i64 b.r.li) ∧ W.cell? ⟨q, 1, none⟩ = some (.int .i64 b.r.ro) ∧ W.cell? ⟨q, 2, none⟩ = some (.int .i64 b.r.ta) ∧ W.cell? ⟨q, 4, none⟩ = some (.int .i64 b.ro) ∧ W.cell? ⟨q, 5, none⟩ = some (.int .i64 b.ta) := ⟨cell_at h 0, cell_at h 1, cell_at h 2, cell_at h 4, cell_at h 5⟩
theorem field_bt (W : World) (B : Nat) : (Instr.fieldAt 177 (.pointer (some ⟨B, 0, none⟩)) 0).run Tryz.prog W = .ok (.pointer (some ⟨B, 0, none⟩)) W ∧ (Instr.fieldAt 177 (.pointer (some ⟨B, 0, none⟩)) 1).run Tryz.prog W = .ok (.pointer (some ⟨B, 4, none⟩)) W ∧ (Instr.fieldAt 177 (.pointer (some ⟨B, 0, none⟩)) 2).run Tryz.prog W = .ok (.pointer (some ⟨B, 5, none⟩)) W := by
  refine ⟨?_, ?_, ?_⟩ <;> go_simp
theorem load_pB {B : Nat} (h : W.heap[B]? = some (.cells #[.pointer (some ⟨q, 0, none⟩)] 104 (0, 0))) : (Instr.loadAt 104 (.pointer (some ⟨B, 0, none⟩))).run Tryz.prog W = .ok (.pointer (some ⟨q, 0, none⟩)) W := by
  have c := cell_at h 0
  simp at c
  go_simp
/-- While Next goes on: the box that holds the Boot's pointer. -/
def JN2 (W0 : World) (q p : Nat) (b : Bo) (d : Dst) (W : World) : Prop := Bt W q (some ⟨p, 0, none⟩) b ∧ Dk W p d ∧ W.heap[W0.heap.size]? = some (.cells #[.pointer (some ⟨q, 0, none⟩)] 104 (0, 0)) ∧ Tq p q W0 W
theorem JN2.drew {W0 : World} (h : JN2 W0 q p b d W) : JN2 W0 q p b d W.drew := ⟨h.1.carry (Below.refl _ _).drew, h.2.1.carry (Below.refl _ _).drew, h.2.2.1, h.2.2.2.trans (Tq.of _ _ (Below.refl _ _).drew)⟩
set_option maxHeartbeats 8000000 in
set_option maxRecDepth 100000 in
theorem bnext_any {Wi : World} (h : Bt Wi q (some ⟨p, 0, none⟩) b) (hd : Dk Wi p d) (hk : OkB b) (hf : Fz d) (hw0 : 0 ≤ d.writes) (hw : d.writes ≤ 4611686018427387903) : Calls Tryz.prog 25 #[.pointer (some ⟨q, 0, none⟩)] Wi fun e w' => e = .returned (.tuple #[.int .i64 (dNx d b).x, .int .i64 (dNx d b).e]) ∧ Dk w' p (dNx d b).d ∧ Bt w' q (some ⟨p, 0, none⟩) (dNx d b).b ∧ Tq p q Wi w' := by
  have hmx : Tryz.prog.follows .mixedOrders = true := by kernel_rfl
  obtain ⟨w1, hw1⟩ : ∃ w1, Wi.alloc (.cells #[.pointer (some ⟨q, 0, none⟩)] 104) = w1 := ⟨_, rfl⟩
  have hb1 : Below Wi.heap.size Wi w1 := by rw [← hw1]; exact al1'Z _ _
  have hx1 : w1.heap[Wi.heap.size]? = some (.cells #[.pointer (some ⟨q, 0, none⟩)] 104 (0, 0)) := by rw [← hw1]; exact new_at rfl
  have cx1 := cell_at hx1 0
  simp at cx1
  have h1 := h.carry hb1
  have hd1 := hd.carry hb1
  have hre := ready_anyZ h1 hd1
  have hq0 := lt_at h
  have hp0 := hd.lt
  by_cases ho : d.off = true
  case pos =>
    rw [if_pos ho] at hre
    rw [dNx, if_pos ho]
    go_enter Tryz.func25, Tryz.ntmps25
    go_wp2_with (go_at_call 115; (with_reducible refine hre.mono ?_); rintro e u ⟨rfl, hu⟩; obtain rfl := hu.symm)
    go_ret2
    exact ⟨rfl, hd1, h1, Tq.of _ _ hb1⟩
  rw [if_neg ho] at hre
  obtain ⟨q0, q1, q2, q4, q5⟩ := h1.c
  by_cases hm : b.ro = 1099511627775
  case pos =>
    rw [dNx, if_neg ho, if_pos hm]
    rw [hm] at q4
    go_enter Tryz.func25, Tryz.ntmps25
    go_wp2_with (go_at_call 115; (with_reducible refine hre.mono ?_); rintro e u ⟨rfl, hu⟩; obtain rfl := hu.symm)
    go_ret2
    exact ⟨rfl, hd1, h1, Tq.of _ _ hb1⟩
  have hwi := i64_idZ (b.ro + 1) (by have := hk.2.2.2.1; omega) (by have := hk.2.2.2.1; omega)
  by_cases he : b.ro = b.r.ro
  case neg =>
    rw [dNx, if_neg ho, if_neg hm, if_neg he]
    go_enter Tryz.func25, Tryz.ntmps25
    go_wp2_with (go_at_call 115; (with_reducible refine hre.mono ?_); rintro e u ⟨rfl, hu⟩; obtain rfl := hu.symm)
    rename_i hK
    refine wp_region_any hmx ?_
    refine wpAny_pure (fun i__ => ([(.pointer (some ⟨q, 0, none⟩)), (.pointer (some ⟨q, 0, none⟩)), (.pointer (some ⟨q, 4, none⟩)), (.int .i64 b.ro), (.pointer (some ⟨q, 0, none⟩)), (.pointer (some ⟨q, 0, none⟩)), (.pointer (some ⟨q, 0, none⟩)), (.pointer (some ⟨q, 0, none⟩)), (.pointer (some ⟨q, 1, none⟩)), (.int .i64 b.r.ro), (.bool false)] : List Value).getD i__ undef) (JN2 Wi q p b d) (by kernel_rfl) (JN2.drew ⟨h1, hd1, hx1, Tq.of _ _ hb1⟩) ?_ ?_
    · refine (stepsFrom_cons ?_ (stepsFrom_cons ?_ (stepsFrom_cons ?_ (stepsFrom_cons ?_ (stepsFrom_cons ?_ (stepsFrom_cons ?_ (stepsFrom_cons ?_ (stepsFrom_cons ?_ (stepsFrom_cons ?_ (stepsFrom_cons ?_ (stepsFrom_cons ?_ trivial)))))))))))
      · exact step_load rfl trivial _ _ _ rfl rfl (fun v hw => load_pB hw.2.2.1)
      · exact step_nilCheck rfl trivial _ _ _ rfl rfl rfl
      · exact step_fieldAddr rfl trivial _ _ _ _ rfl rfl (fun v hw => (field_bt v _).2.1)
      · exact step_load rfl trivial _ _ _ rfl rfl (fun v hw => load_i64Z hw.1.c.2.2.2.1)
      · exact step_load rfl trivial _ _ _ rfl rfl (fun v hw => load_pB hw.2.2.1)
      · exact step_nilCheck rfl trivial _ _ _ rfl rfl rfl
      · exact step_fieldAddr rfl trivial _ _ _ _ rfl rfl (fun v hw => (field_bt v _).1)
      · exact step_fieldAddr rfl trivial _ _ _ _ rfl rfl (fun v hw => (field_res v _).1)
      · exact step_fieldAddr rfl trivial _ _ _ _ rfl rfl (fun v hw => (field_R v _).2.1)
      · exact step_load rfl trivial _ _ _ rfl rfl (fun v hw => load_i64Z hw.1.c.2.1)
      · exact step_binOp rfl trivial _ _ _ _ _ _ _ rfl rfl rfl (fun v hw => by have e1 : (b.ro == b.r.ro) = false := beq_eq_false_iff_ne.2 he; rw [← e1]; exact bin_eql _ _ _)
    intro W hW
    first | refine hK _ _ ?_ | refine (‹∀ (a : Act) (w : World), Code.wp Tryz.prog _ _ a w → _›) _ _ ?_ | skip
    simp only [finL, List.getD_cons_zero, List.getD_cons_succ, Nat.zero_add, Nat.reduceAdd, List.setIfInBounds_toArray, List.set_cons_zero, List.set_cons_succ]
    clear hK q0 q1 q2 q4 q5
    obtain ⟨q0, q1, q2, q4, q5⟩ := hW.1.c
    have cx := cell_at hW.2.2.1 0
    simp at cx
    have t4 := thaw_at hW.1 4
    obtain ⟨hB2, hT2⟩ := hW.1.set4 (b.ro + 1)
    have hD2 := Dk.tq hW.1 hW.2.1 hT2
    have cx2 := cell_at ((hT2.block _ (lt_at hW.2.2.1) (by omega)).trans hW.2.2.1) 0
    simp at cx2
    have q4' := hB2.c.2.2.2.1
    obtain ⟨V, hV⟩ : ∃ V, W.setCell ⟨q, 4, none⟩ (.int .i64 (b.ro + 1)) = V := ⟨_, rfl⟩
    rw [hV] at hB2 hT2 hD2 q4' cx2
    go_wp2
    go_ret2
    exact ⟨rfl, hD2, hB2, hW.2.2.2.trans (Tq.tp2 _ hT2)⟩
  rw [dNx, if_neg ho, if_neg hm, if_pos he]
  obtain ⟨E, hE⟩ : ∃ E, (dSv d (rNx b)).1 = E := ⟨_, rfl⟩
  obtain ⟨D1, hD1⟩ : ∃ D1, (dSv d (rNx b)).2 = D1 := ⟨_, rfl⟩
  have HE : Hid ((dSv d (rNx b)).1 = E) := hE
  have HD : Hid ((dSv d (rNx b)).2 = D1) := hD1
  have HH : Hid (b.ro = b.r.ro) := he
  clear he
  rw [hE, hD1]
  clear hE hD1
  go_enter Tryz.func25, Tryz.ntmps25
  go_wp2_with (go_at_call 115; (with_reducible refine hre.mono ?_); rintro e u ⟨rfl, hu⟩; obtain rfl := hu.symm)
  rename_i hK
  refine wp_region_any hmx ?_
  refine wpAny_pure (fun i__ => ([(.pointer (some ⟨q, 0, none⟩)), (.pointer (some ⟨q, 0, none⟩)), (.pointer (some ⟨q, 4, none⟩)), (.int .i64 b.ro), (.pointer (some ⟨q, 0, none⟩)), (.pointer (some ⟨q, 0, none⟩)), (.pointer (some ⟨q, 0, none⟩)), (.pointer (some ⟨q, 0, none⟩)), (.pointer (some ⟨q, 1, none⟩)), (.int .i64 b.r.ro), (.bool true)] : List Value).getD i__ undef) (JN2 Wi q p b d) (by kernel_rfl) (JN2.drew ⟨h1, hd1, hx1, Tq.of _ _ hb1⟩) ?_ ?_
  · refine (stepsFrom_cons ?_ (stepsFrom_cons ?_ (stepsFrom_cons ?_ (stepsFrom_cons ?_ (stepsFrom_cons ?_ (stepsFrom_cons ?_ (stepsFrom_cons ?_ (stepsFrom_cons ?_ (stepsFrom_cons ?_ (stepsFrom_cons ?_ (stepsFrom_cons ?_ trivial)))))))))))
    · exact step_load rfl trivial _ _ _ rfl rfl (fun v hw => load_pB hw.2.2.1)
    · exact step_nilCheck rfl trivial _ _ _ rfl rfl rfl
    · exact step_fieldAddr rfl trivial _ _ _ _ rfl rfl (fun v hw => (field_bt v _).2.1)
    · exact step_load rfl trivial _ _ _ rfl rfl (fun v hw => load_i64Z hw.1.c.2.2.2.1)
    · exact step_load rfl trivial _ _ _ rfl rfl (fun v hw => load_pB hw.2.2.1)
    · exact step_nilCheck rfl trivial _ _ _ rfl rfl rfl
    · exact step_fieldAddr rfl trivial _ _ _ _ rfl rfl (fun v hw => (field_bt v _).1)
    · exact step_fieldAddr rfl trivial _ _ _ _ rfl rfl (fun v hw => (field_res v _).1)
    · exact step_fieldAddr rfl trivial _ _ _ _ rfl rfl (fun v hw => (field_R v _).2.1)
    · exact step_load rfl trivial _ _ _ rfl rfl (fun v hw => load_i64Z hw.1.c.2.1)
    · exact step_binOp rfl trivial _ _ _ _ _ _ _ rfl rfl rfl (fun v hw => by have e1 : (b.ro == b.r.ro) = true := beq_iff_eq.2 HH.out; rw [← e1]; exact bin_eql _ _ _)
  intro W hW
  first | refine hK _ _ ?_ | refine (‹∀ (a : Act) (w : World), Code.wp Tryz.prog _ _ a w → _›) _ _ ?_ | skip
  simp only [finL, List.getD_cons_zero, List.getD_cons_succ, Nat.zero_add, Nat.reduceAdd, List.setIfInBounds_toArray, List.set_cons_zero, List.set_cons_succ]
  clear hK q0 q1 q2 q4 q5 cx1
  have cx := cell_at hW.2.2.1 0
  simp at cx
  have hsv := bsave_N hW.1 hW.2.1 hf hw0 hw (next1_any b.r hW.2.2.1 hW.1 hk.2.2.2.1)
  change Calls Tryz.prog _ _ W (fun e w' => e = .returned (.int .i64 (dSv d (rNx b)).1) ∧ Dk w' p (dSv d (rNx b)).2 ∧ Bt w' q (some ⟨p, 0, none⟩) (svB b (dSv d (rNx b)).1 (rNx b)) ∧ Tq p q W w') at hsv
  rw [HE.out, HD.out] at hsv
  clear HE HD
  by_cases hz : E = 0
  case neg =>
    rw [svB, if_neg hz] at hsv
    go_wp2_with (go_at_call 111; (with_reducible refine hsv.mono ?_); rintro e u1 ⟨rfl, hu1, hu2, hu3⟩)
    go_ret2
    exact ⟨rfl, hu1, hu2, hW.2.2.2.trans hu3⟩
  subst hz
  rw [svB, if_pos rfl] at hsv
  go_wp2_with (go_at_call 111; (with_reducible refine hsv.mono ?_); rintro e u1 ⟨rfl, hu1, hu2, hu3⟩; obtain ⟨q0, q1, q2, q4, q5⟩ := hu2.c; have hx2 := (hu3.block _ (lt_at hW.2.2.1) (by omega) (by omega)).trans hW.2.2.1; have cx3 := cell_at hx2 0; simp at cx3; have t4 := thaw_at hu2 4; obtain ⟨hB2, hT2⟩ := hu2.set4 (b.ro + 1); have hD2 := Dk.tq hu2 hu1 hT2; have cx2 := cell_at ((hT2.block _ (lt_at hx2) (by omega)).trans hx2) 0; simp at cx2; have q4' := hB2.c.2.2.2.1; obtain ⟨V, hV⟩ : ∃ V, u1.setCell ⟨q, 4, none⟩ (.int .i64 (b.ro + 1)) = V := ⟨_, rfl⟩; rw [hV] at hB2 hT2 hD2 q4' cx2)
  go_ret2
  exact ⟨rfl, hD2, hB2, (hW.2.2.2.trans hu3).trans (Tq.tp2 _ hT2)⟩
end

def bo0 : Bo := ⟨rec0, 0, 0⟩
/-- Open: the error, the disk and the Boot behind it. -/
def dOp (d : Dst) : Ra :=
  if d.off = true then ⟨100, d, bo0⟩ else if (nwTZ d).r.li = 1073741824 then ⟨120, d, bo0⟩ else ⟨(dSv d (nxL (nwTZ d).r)).1, (dSv d (nxL (nwTZ d).r)).2, ⟨nxL (nwTZ d).r, (nwTZ d).r.ro, (nwTZ d).r.ta⟩⟩
theorem nwT_r (d : Dst) : (0 ≤ (nwTZ d).r.li ∧ (nwTZ d).r.li ≤ 1073741824) ∧ (0 ≤ (nwTZ d).r.ro ∧ (nwTZ d).r.ro ≤ 1099511627775) ∧ 0 ≤ (nwTZ d).r.ta ∧ (nwTZ d).r.ta ≤ 1048576 := by
  unfold nwTZ
  split
  · decide
  · cases h : nw d.l with
    | none => decide
    | some x =>
      obtain ⟨⟨r, s⟩, k⟩ := x
      obtain ⟨⟨⟨⟨h1, h2⟩, ⟨h3, h4⟩, h5, h6⟩, _⟩, _⟩ := nw_fit h
      exact ⟨⟨by show 0 ≤ r.li; omega, h2⟩, ⟨h3, h4⟩, h5, h6⟩
theorem nwT_e2 (d : Dst) (h : ¬ d.off = true) : (nwTZ d).e = 0 ∨ (nwTZ d).e = 40 := by
  unfold nwTZ
  rw [if_neg h]
  cases nw d.l with
  | none => exact .inr rfl
  | some x => exact .inl rfl
theorem Tq.out {p q : Nat} {W W' W'' : World} (h : Below W.heap.size W W') (k : Tq p q W' W'') (hq : W.heap.size ≤ q) : TpZ p W W'' :=
  ⟨k.os.trans h.os, k.tape.trans h.tape, k.output.trans h.output, Nat.le_trans h.size k.size, fun j hj hn => (k.block j (Nat.lt_of_lt_of_le hj h.size) hn (by omega)).trans (h.block j hj)⟩
section
variable {W V : World} {q p : Nat} {P : Option Addr} {b : Bo} {d : Dst} {t : Int}
set_option maxHeartbeats 8000000 in
set_option maxRecDepth 100000 in
theorem open_any {Wi : World} (hd : Dk Wi p d) (hf : Fz d) (hw0 : 0 ≤ d.writes) (hw : d.writes ≤ 4611686018427387903) : Calls Tryz.prog 24 #[.pointer (some ⟨p, 0, none⟩)] Wi fun e w' => ((dOp d).e = 0 → ∃ q, e = .returned (.tuple #[.pointer (some ⟨q, 0, none⟩), .int .i64 0]) ∧ Wi.heap.size ≤ q ∧ Bt w' q (some ⟨p, 0, none⟩) (dOp d).b) ∧ ((dOp d).e ≠ 0 → e = .returned (.tuple #[.pointer none, .int .i64 (dOp d).e])) ∧ Dk w' p (dOp d).d ∧ TpZ p Wi w' := by
  have hld := load_any hd
  have hr := nwT_r d
  have he2 := nwT_e2 d
  have hoe := nwT_e d
  unfold dOp
  obtain ⟨t, ht⟩ : ∃ t, nwTZ d = t := ⟨_, rfl⟩
  rw [ht] at hld hr he2 hoe ⊢
  clear ht
  obtain ⟨⟨l, r, a⟩, s, k, e⟩ := t
  unfold ldV rV at hld
  dsimp only at hld hr he2 hoe ⊢
  by_cases ho : d.off = true
  case pos =>
    obtain rfl := hoe.2 ho
    rw [if_pos ho]
    clear he2 hoe
    go_enter Tryz.func24, Tryz.ntmps24
    go_wp2_with (go_at_call 110; (with_reducible refine hld.mono ?_); rintro e u1 ⟨rfl, hu1⟩)
    go_ret2
    exact ⟨fun h => absurd (show (100 : Int) = 0 from h) (by decide), fun _ => rfl, hd.carry (bel2Z hu1 (al1'Z _ _)), TpZ.of _ (bel2Z hu1 (al1'Z _ _))⟩
  rw [if_neg ho]
  have he := he2 ho
  clear he2 hoe
  by_cases hl : l = 1073741824
  case pos =>
    rw [if_pos hl]
    subst hl
    rcases he with rfl | rfl
    all_goals
      go_enter Tryz.func24, Tryz.ntmps24
      go_wp2_with (go_at_call 110; (with_reducible refine hld.mono ?_); rintro e u1 ⟨rfl, hu1⟩)
      go_ret2
      exact ⟨fun h => absurd (show (120 : Int) = 0 from h) (by decide), fun _ => rfl, hd.carry (bel2Z hu1 (al1'Z _ _)), TpZ.of _ (bel2Z hu1 (al1'Z _ _))⟩
  rw [if_neg hl]
  have ho1 := open1_any ⟨l, r, a⟩ (by dsimp only; omega)
  have hsv := fun V q (h : Bt V q (some ⟨p, 0, none⟩) ⟨⟨l, r, a⟩, r, a⟩) (hV : Dk V p d) => bsave_O h hV hf hw0 hw (ho1 V)
  obtain ⟨x, hx⟩ : ∃ x, nxL ⟨l, r, a⟩ = x := ⟨_, rfl⟩
  rw [hx] at hsv ⊢
  clear ho1 hx
  obtain ⟨E, hE⟩ : ∃ E, (dSv d x).1 = E := ⟨_, rfl⟩
  obtain ⟨D1, hD1⟩ : ∃ D1, (dSv d x).2 = D1 := ⟨_, rfl⟩
  rw [hE, hD1] at hsv
  rw [hE, hD1]
  clear hE hD1
  by_cases hz : E = 0
  case neg =>
    rw [svB, if_neg hz] at hsv
    rcases he with rfl | rfl
    all_goals
      go_enter Tryz.func24, Tryz.ntmps24
      go_wp2_with (first | (go_at_call 110; (with_reducible refine hld.mono ?_); rintro e u1 ⟨rfl, hu1⟩; obtain ⟨u2, hu2⟩ : ∃ u2, u1.alloc (.cells #[.int .i64 l, .int .i64 r, .int .i64 a] 23) = u2 := ⟨_, rfl⟩; have hb2 : Below Wi.heap.size Wi u2 := (by rw [← hu2]; exact bel2Z hu1 (al1'Z _ _)); have hg2 : u2.heap[u1.heap.size]? = some (.cells #[.int .i64 l, .int .i64 r, .int .i64 a] 23 (0, 0)) := (by rw [← hu2]; exact new_at rfl); have c0 := cell_at hg2 0; have c1 := cell_at hg2 1; have c2 := cell_at hg2 2; simp at c0 c1 c2; obtain ⟨u3, hu3⟩ : ∃ u3, u2.alloc (.cells #[.int .i64 l, .int .i64 r, .int .i64 a, .pointer (some ⟨p, 0, none⟩), .int .i64 r, .int .i64 a] 177) = u3 := ⟨_, rfl⟩; have hb3 : Below Wi.heap.size Wi u3 := (by rw [← hu3]; exact bel2Z hb2 (al1'Z _ _)); have hB3 : Bt u3 u2.heap.size (some ⟨p, 0, none⟩) ⟨⟨l, r, a⟩, r, a⟩ := (by rw [← hu3]; exact new_at rfl); have hs3 := hsv u3 u2.heap.size hB3 (hd.carry hb3)) | (go_at_call 111; (with_reducible refine hs3.mono ?_); rintro e u4 ⟨rfl, hv1, hv2, hv3⟩))
      go_ret2
      exact ⟨fun h => absurd h hz, fun _ => rfl, hv1, Tq.out hb3 hv3 hb2.size⟩
  subst hz
  rw [svB, if_pos rfl] at hsv
  rcases he with rfl | rfl
  all_goals
    go_enter Tryz.func24, Tryz.ntmps24
    go_wp2_with (first | (go_at_call 110; (with_reducible refine hld.mono ?_); rintro e u1 ⟨rfl, hu1⟩; obtain ⟨u2, hu2⟩ : ∃ u2, u1.alloc (.cells #[.int .i64 l, .int .i64 r, .int .i64 a] 23) = u2 := ⟨_, rfl⟩; have hb2 : Below Wi.heap.size Wi u2 := (by rw [← hu2]; exact bel2Z hu1 (al1'Z _ _)); have hg2 : u2.heap[u1.heap.size]? = some (.cells #[.int .i64 l, .int .i64 r, .int .i64 a] 23 (0, 0)) := (by rw [← hu2]; exact new_at rfl); have c0 := cell_at hg2 0; have c1 := cell_at hg2 1; have c2 := cell_at hg2 2; simp at c0 c1 c2; obtain ⟨u3, hu3⟩ : ∃ u3, u2.alloc (.cells #[.int .i64 l, .int .i64 r, .int .i64 a, .pointer (some ⟨p, 0, none⟩), .int .i64 r, .int .i64 a] 177) = u3 := ⟨_, rfl⟩; have hb3 : Below Wi.heap.size Wi u3 := (by rw [← hu3]; exact bel2Z hb2 (al1'Z _ _)); have hB3 : Bt u3 u2.heap.size (some ⟨p, 0, none⟩) ⟨⟨l, r, a⟩, r, a⟩ := (by rw [← hu3]; exact new_at rfl); have hs3 := hsv u3 u2.heap.size hB3 (hd.carry hb3)) | (go_at_call 111; (with_reducible refine hs3.mono ?_); rintro e u4 ⟨rfl, hv1, hv2, hv3⟩))
    go_ret2
    exact ⟨fun _ => ⟨_, rfl, hb2.size, hv2⟩, fun h => absurd rfl h, hv1, Tq.out hb3 hv3 hb2.size⟩
end
end Go.Proofs.YtklnfbanfgdgcaaGreatDoor
