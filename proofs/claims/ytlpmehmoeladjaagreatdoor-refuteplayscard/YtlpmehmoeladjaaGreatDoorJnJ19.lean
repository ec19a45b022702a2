/- boot's (reserve).save: what it answers. -/
import Derived.Test.YtlpmehmoeladjaaGreatDoorJnJ18
namespace Go.Proofs.YtlpmehmoeladjaaGreatDoor
open Go.RowKit Go.Shelf Go.Lib

/-- What turns the blocks p and q alone. -/
structure Tq (p q : Nat) (W W' : World) : Prop where
  os : W'.os = W.os
  tape : W'.tape = W.tape
  output : W'.output = W.output
  size : W.heap.size ≤ W'.heap.size
  block : ∀ k, k < W.heap.size → k ≠ p → k ≠ q → W'.heap[k]? = W.heap[k]?
section
variable {p q base : Nat} {W W' W'' : World}
theorem Tq.of (p q : Nat) (hb : Below W.heap.size W W') : Tq p q W W' := ⟨hb.os, hb.tape, hb.output, hb.size, fun k hk _ _ => hb.block k hk⟩
theorem Tq.tp (q : Nat) (h : Tp p W W') : Tq p q W W' := ⟨h.os, h.tape, h.output, h.size, fun k hk hn _ => h.block k hk hn⟩
theorem Tq.tp2 (p : Nat) (h : Tp q W W') : Tq p q W W' := ⟨h.os, h.tape, h.output, h.size, fun k hk _ hn => h.block k hk hn⟩
theorem Tq.trans (h : Tq p q W W') (k : Tq p q W' W'') : Tq p q W W'' :=
  ⟨k.os.trans h.os, k.tape.trans h.tape, k.output.trans h.output, Nat.le_trans h.size k.size, fun j hj hn hm => (k.block j (Nat.lt_of_lt_of_le hj h.size) hn hm).trans (h.block j hj hn hm)⟩
theorem Tq.below (h : Tq p q W W') (hp : base ≤ p) (hq : base ≤ q) (hb : base ≤ W.heap.size) : Below base W W' :=
  ⟨h.os, h.tape, h.output, h.size, fun k hk => h.block k (by omega) (by omega) (by omega)⟩
end
theorem wpList_store_in {P : Program} {ops : Array Oper} {rest : List Oper} {o : Oper} {a : Act} {w : World} {Q : Exit → Act → World → Prop} (hgd : o.guard = none) (ty : TypeId) (x y : Operand) (ho : o.op = .store ty x y)
    (g off : Nat) (t : TypeId) (cur vs : List Value) (hx : a.eval x = .pointer (some ⟨g, off, none⟩)) (hy : a.eval y = .agg vs.toArray) (hg : w.heap[g]? = some (.cells cur.toArray t (0, 0))) (hi : (P.info? ty).map (·.size) = some vs.length) (hf : off + vs.length ≤ cur.length) (h1 : ∀ v ∈ vs, v.oneCell' = true)
    (h : wpList P ops Q rest (a.put o.dst undef) (w.setRow g (splice cur off vs).toArray)) : wpList P ops Q (o :: rest) a w :=
  wpList_plain hgd fun K hK => by
    unfold Oper.wp execOp
    simp only [ho, hx, hy, Sem.run_bind, run_store_in w g off t ty cur vs hg hi hf h1, Result.andThen_ok]
    exact hK _ _ h
section
variable {W V : World} {q p : Nat} {P : Option Addr} {b : Bo} {d : Dst}
theorem Bt.ne (h : Bt W q P b) (hd : Dk W p d) : q ≠ p := fun e => by
  have h1 := hd.obj
  unfold Bt at h
  rw [← e, h] at h1
  simp only [Option.some.injEq, Obj.cells.injEq] at h1
  exact absurd h1.2.1 (by decide)
theorem Bt.tp (h : Bt W q P b) (hd : Dk W p d) (ht : Tp p W V) : Bt V q P b := (ht.block _ (lt_at h) (h.ne hd)).trans h
theorem Dk.tq (h : Bt W q P b) (hd : Dk W p d) (ht : Tp q W V) : Dk V p d := ⟨(ht.block _ hd.lt (Ne.symm (h.ne hd))).trans hd.obj, hd.len, hd.byt⟩
def r3 (x : Rec) : List Value := [.int .i64 x.li, .int .i64 x.ro, .int .i64 x.ta]
theorem Bt.put (h : Bt W q P b) (x : Rec) : Bt (W.setRow q (splice (btC b P).toList 0 (r3 x)).toArray) q P { b with r := x } ∧ Tp q W (W.setRow q (splice (btC b P).toList 0 (r3 x)).toArray) := by
  refine ⟨?_, Tp.row _ _ _⟩
  unfold Bt
  rw [setRow_heap _ _ _ _ _ _ h]
  rfl
theorem load_bR (h : Bt W q P b) : (Instr.loadAt 35 (.pointer (some ⟨q, 0, none⟩))).run Tryz.prog W = .ok (rV b.r) W := by
  have c0 := cell_at h 0
  have c1 := cell_at h 1
  have c2 := cell_at h 2
  unfold btC at c0 c1 c2
  unfold rV
  simp at c0 c1 c2
  go_simp
theorem load_bP (h : Bt W q P b) : (Instr.loadAt 24 (.pointer (some ⟨q, 3, none⟩))).run Tryz.prog W = .ok (.pointer P) W := by
  have c0 := cell_at h 3
  unfold btC at c0
  simp at c0
  go_simp
theorem load_rec3 {x : Rec} {g : Nat} (h : W.heap[g]? = some (.cells #[.int .i64 x.li, .int .i64 x.ro, .int .i64 x.ta] 35 (0, 0))) : (Instr.loadAt 35 (.pointer (some ⟨g, 0, none⟩))).run Tryz.prog W = .ok (rV x) W := by
  have c0 := cell_at h 0
  have c1 := cell_at h 1
  have c2 := cell_at h 2
  unfold rV
  simp at c0 c1 c2
  go_simp
end
theorem field_res (W : World) (B : Nat) : (Instr.fieldAt 83 (.pointer (some ⟨B, 0, none⟩)) 0).run Tryz.prog W = .ok (.pointer (some ⟨B, 0, none⟩)) W ∧ (Instr.fieldAt 83 (.pointer (some ⟨B, 0, none⟩)) 1).run Tryz.prog W = .ok (.pointer (some ⟨B, 3, none⟩)) W := by
  refine ⟨?_, ?_⟩ <;> go_simp
/-- While a record is saved. -/
def JS (W0 : World) (q p g : Nat) (P : Option Addr) (b : Bo) (x : Rec) (d : Dst) (W : World) : Prop := Bt W q P b ∧ Dk W p d ∧ W.heap[g]? = some (.cells #[.int .i64 x.li, .int .i64 x.ro, .int .i64 x.ta] 35 (0, 0)) ∧ Tp p W0 W
theorem JS.drew {W0 W : World} {q p g : Nat} {P : Option Addr} {b : Bo} {x : Rec} {d : Dst} (h : JS W0 q p g P b x d W) : JS W0 q p g P b x d W.drew := ⟨h.1.carry (Below.refl _ _).drew, h.2.1.carry (Below.refl _ _).drew, h.2.2.1, h.2.2.2.trans (Tp.of _ (Below.refl _ _).drew)⟩
/-- The Boot behind a save. -/
def svB (b : Bo) (e : Int) (x : Rec) : Bo := if e = 0 then { b with r := x } else b
set_option maxHeartbeats 4000000 in
set_option maxRecDepth 100000 in
theorem bsave_O {Wi : World} {q p : Nat} {b : Bo} {d : Dst} {x : Rec} (h : Bt Wi q (some ⟨p, 0, none⟩) b) (hd : Dk Wi p d) (hf : Fz d) (hw0 : 0 ≤ d.writes) (hw : d.writes ≤ 4611686018427387903) (hc : Calls Tryz.prog 27 #[rV b.r] Wi fun e w' => e = .returned (rV x) ∧ Below Wi.heap.size Wi w') : Calls Tryz.prog 26 #[.pointer (some ⟨q, 0, none⟩), .func (.func 27) #[] #[]] Wi fun e w' => e = .returned (.int .i64 (dSv d x).1) ∧ Dk w' p (dSv d x).2 ∧ Bt w' q (some ⟨p, 0, none⟩) (svB b (dSv d x).1 x) ∧ Tq p q Wi w' := by
  have hmx : Tryz.prog.follows .mixedOrders = true := by kernel_rfl
  have hsv := fun V (hV : Dk V p d) => save_any hV x hf hw0 hw
  obtain ⟨E, hE⟩ : ∃ E, (dSv d x).1 = E := ⟨_, rfl⟩
  obtain ⟨D1, hD1⟩ : ∃ D1, (dSv d x).2 = D1 := ⟨_, rfl⟩
  rw [hE, hD1] at hsv
  rw [hE, hD1]
  clear hE hD1
  have c0 := cell_at h 0
  have c1 := cell_at h 1
  have c2 := cell_at h 2
  unfold btC at c0 c1 c2
  simp at c0 c1 c2
  unfold rV at hc
  go_enter Tryz.func26, Tryz.ntmps26
  go_wp2_with (first | (go_at_call 27; (with_reducible refine hc.mono ?_); rintro e u1 ⟨rfl, hu1⟩; obtain ⟨u2, hu2⟩ : ∃ u2, u1.alloc (.cells #[.int .i64 x.li, .int .i64 x.ro, .int .i64 x.ta] 35) = u2 := ⟨_, rfl⟩; have hb2 : Below Wi.heap.size Wi u2 := (by rw [← hu2]; exact bel2Z hu1 (al1' _ _)); have hg2 : u2.heap[u1.heap.size]? = some (.cells #[.int .i64 x.li, .int .i64 x.ro, .int .i64 x.ta] 35 (0, 0)) := (by rw [← hu2]; exact new_at rfl)))
  rename_i hK
  refine wp_region_any hmx ?_
  refine wpAny_last2 5 (fun i__ => ([(.pointer (some ⟨q, 0, none⟩)), (.pointer (some ⟨q, 0, none⟩)), (.pointer (some ⟨q, 3, none⟩)), (.pointer (some ⟨p, 0, none⟩)), (rV x), (.int .i64 E), (.int .i64 E)] : List Value).getD i__ undef) (JS Wi q p u1.heap.size (some ⟨p, 0, none⟩) b x d) (JS Wi q p u1.heap.size (some ⟨p, 0, none⟩) b x D1) (JS Wi q p u1.heap.size (some ⟨p, 0, none⟩) b x D1) rfl (by kernel_rfl) (by kernel_rfl) (JS.drew ⟨h.carry hb2, hd.carry hb2, hg2, Tp.of _ hb2⟩) ?_ ?_ ?_  ?_
  · refine (stepsFrom_cons ?_ (stepsFrom_cons ?_ (stepsFrom_cons ?_ (stepsFrom_cons ?_ (stepsFrom_cons ?_ trivial)))))
    · exact step_move rfl trivial _ rfl (by kernel_rfl)
    · exact step_nilCheck rfl trivial _ _ _ rfl rfl rfl
    · exact step_fieldAddr rfl trivial _ _ _ _ rfl rfl (fun v hw => (field_res v _).2)
    · exact step_load rfl trivial _ _ _ rfl rfl (fun v hw => load_bP hw.1)
    · exact step_load rfl trivial _ _ _ rfl rfl (fun v hw => load_rec3 hw.2.2.1)
  · intro o ho
    cases ho
    exact step_call rfl trivial 53 _ _ [(.pointer (some ⟨p, 0, none⟩)), (rV x)] rfl (by kernel_rfl) (enters_of Tryz.func53 (by kernel_rfl) rfl) (fun v hw => (hsv v hw.2.1).mono (by rintro e w' ⟨rfl, h1, h2⟩; exact ⟨rfl, hw.1.tp hw.2.1 h2, h1, (h2.block _ (lt_at hw.2.2.1) (fun e => by have h3 := hw.2.2.1; rw [e, hw.2.1.obj] at h3; simp only [Option.some.injEq, Obj.cells.injEq] at h3; exact absurd h3.2.1 (by decide))).trans hw.2.2.1, hw.2.2.2.trans h2⟩))
  · intro o ho
    cases ho
    exact step_assign rfl trivial _ rfl (by kernel_rfl) (fun _ h => h)
  intro W hW
  first | refine hK _ _ ?_ | refine (‹∀ (a : Act) (w : World), Code.wp Tryz.prog _ _ a w → _›) _ _ ?_
  simp only [finL, List.getD_cons_zero, List.getD_cons_succ, Nat.zero_add, Nat.reduceAdd, List.setIfInBounds_toArray, List.set_cons_zero, List.set_cons_succ]
  clear hK c0 c1 c2 hc hsv hd
  by_cases hz : E = 0
  case neg =>
    have hBt : Bt W q (some ⟨p, 0, none⟩) (svB b E x) := by rw [svB, if_neg hz]; exact hW.1
    go_wp2
    go_ret
    exact ⟨rfl, hW.2.1, hBt, Tq.tp _ hW.2.2.2⟩
  subst hz
  obtain ⟨hbY, htY⟩ := hW.1.put x
  obtain ⟨Y, hY⟩ : ∃ Y, W.setRow q (splice (btC b (some ⟨p, 0, none⟩)).toList 0 (r3 x)).toArray = Y := ⟨_, rfl⟩
  rw [hY] at hbY htY
  have HY : Hid (W.setRow q (splice (btC b (some ⟨p, 0, none⟩)).toList 0 (r3 x)).toArray = Y) := hY
  have hbo := hW.1
  clear hY
  have hdY := Dk.tq hW.1 hW.2.1 htY
  have htq := (Tq.tp q hW.2.2.2).trans (Tq.tp2 p htY)
  have hg5 := hW.2.2.1
  clear hW
  go_wp2_with (first | (refine wpList_load_row rfl 35 (.tmp 5) rfl u1.heap.size rfl 35 _ (0, 0) _ hg5 undR rfl infoR ?_) | (refine wpList_store_in rfl 35 (.tmp 25) (.tmp 23) rfl q 0 85 (btC b (some ⟨p, 0, none⟩)).toList (r3 x) rfl rfl hbo infoR (by unfold btC r3; simp) (by simp [r3, Value.oneCell']) ?_; rw [HY.out]))
  go_ret
  exact ⟨rfl, hdY, hbY, htq⟩
set_option maxHeartbeats 4000000 in
set_option maxRecDepth 100000 in
theorem bsave_R {Wi : World} {q p : Nat} {b : Bo} {d : Dst} {x : Rec} {bx : Nat} (h : Bt Wi q (some ⟨p, 0, none⟩) b) (hd : Dk Wi p d) (hf : Fz d) (hw0 : 0 ≤ d.writes) (hw : d.writes ≤ 4611686018427387903) (hc : Calls Tryz.prog 84 #[rV b.r, .pointer (some ⟨bx, 0, none⟩)] Wi fun e w' => e = .returned (rV x) ∧ Below Wi.heap.size Wi w') : Calls Tryz.prog 26 #[.pointer (some ⟨q, 0, none⟩), .func (.func 84) #[] #[.pointer (some ⟨bx, 0, none⟩)]] Wi fun e w' => e = .returned (.int .i64 (dSv d x).1) ∧ Dk w' p (dSv d x).2 ∧ Bt w' q (some ⟨p, 0, none⟩) (svB b (dSv d x).1 x) ∧ Tq p q Wi w' := by
  have hmx : Tryz.prog.follows .mixedOrders = true := by kernel_rfl
  have hsv := fun V (hV : Dk V p d) => save_any hV x hf hw0 hw
  obtain ⟨E, hE⟩ : ∃ E, (dSv d x).1 = E := ⟨_, rfl⟩
  obtain ⟨D1, hD1⟩ : ∃ D1, (dSv d x).2 = D1 := ⟨_, rfl⟩
  rw [hE, hD1] at hsv
  rw [hE, hD1]
  clear hE hD1
  have c0 := cell_at h 0
  have c1 := cell_at h 1
  have c2 := cell_at h 2
  unfold btC at c0 c1 c2
  simp at c0 c1 c2
  unfold rV at hc
  go_enter Tryz.func26, Tryz.ntmps26
  go_wp2_with (first | (go_at_call 84; (with_reducible refine hc.mono ?_); rintro e u1 ⟨rfl, hu1⟩; obtain ⟨u2, hu2⟩ : ∃ u2, u1.alloc (.cells #[.int .i64 x.li, .int .i64 x.ro, .int .i64 x.ta] 35) = u2 := ⟨_, rfl⟩; have hb2 : Below Wi.heap.size Wi u2 := (by rw [← hu2]; exact bel2Z hu1 (al1' _ _)); have hg2 : u2.heap[u1.heap.size]? = some (.cells #[.int .i64 x.li, .int .i64 x.ro, .int .i64 x.ta] 35 (0, 0)) := (by rw [← hu2]; exact new_at rfl)))
  rename_i hK
  refine wp_region_any hmx ?_
  refine wpAny_last2 5 (fun i__ => ([(.pointer (some ⟨q, 0, none⟩)), (.pointer (some ⟨q, 0, none⟩)), (.pointer (some ⟨q, 3, none⟩)), (.pointer (some ⟨p, 0, none⟩)), (rV x), (.int .i64 E), (.int .i64 E)] : List Value).getD i__ undef) (JS Wi q p u1.heap.size (some ⟨p, 0, none⟩) b x d) (JS Wi q p u1.heap.size (some ⟨p, 0, none⟩) b x D1) (JS Wi q p u1.heap.size (some ⟨p, 0, none⟩) b x D1) rfl (by kernel_rfl) (by kernel_rfl) (JS.drew ⟨h.carry hb2, hd.carry hb2, hg2, Tp.of _ hb2⟩) ?_ ?_ ?_  ?_
  · refine (stepsFrom_cons ?_ (stepsFrom_cons ?_ (stepsFrom_cons ?_ (stepsFrom_cons ?_ (stepsFrom_cons ?_ trivial)))))
    · exact step_move rfl trivial _ rfl (by kernel_rfl)
    · exact step_nilCheck rfl trivial _ _ _ rfl rfl rfl
    · exact step_fieldAddr rfl trivial _ _ _ _ rfl rfl (fun v hw => (field_res v _).2)
    · exact step_load rfl trivial _ _ _ rfl rfl (fun v hw => load_bP hw.1)
    · exact step_load rfl trivial _ _ _ rfl rfl (fun v hw => load_rec3 hw.2.2.1)
  · intro o ho
    cases ho
    exact step_call rfl trivial 53 _ _ [(.pointer (some ⟨p, 0, none⟩)), (rV x)] rfl (by kernel_rfl) (enters_of Tryz.func53 (by kernel_rfl) rfl) (fun v hw => (hsv v hw.2.1).mono (by rintro e w' ⟨rfl, h1, h2⟩; exact ⟨rfl, hw.1.tp hw.2.1 h2, h1, (h2.block _ (lt_at hw.2.2.1) (fun e => by have h3 := hw.2.2.1; rw [e, hw.2.1.obj] at h3; simp only [Option.some.injEq, Obj.cells.injEq] at h3; exact absurd h3.2.1 (by decide))).trans hw.2.2.1, hw.2.2.2.trans h2⟩))
  · intro o ho
    cases ho
    exact step_assign rfl trivial _ rfl (by kernel_rfl) (fun _ h => h)
  intro W hW
  first | refine hK _ _ ?_ | refine (‹∀ (a : Act) (w : World), Code.wp Tryz.prog _ _ a w → _›) _ _ ?_
  simp only [finL, List.getD_cons_zero, List.getD_cons_succ, Nat.zero_add, Nat.reduceAdd, List.setIfInBounds_toArray, List.set_cons_zero, List.set_cons_succ]
  clear hK c0 c1 c2 hc hsv hd
  by_cases hz : E = 0
  case neg =>
    have hBt : Bt W q (some ⟨p, 0, none⟩) (svB b E x) := by rw [svB, if_neg hz]; exact hW.1
    go_wp2
    go_ret
    exact ⟨rfl, hW.2.1, hBt, Tq.tp _ hW.2.2.2⟩
  subst hz
  obtain ⟨hbY, htY⟩ := hW.1.put x
  obtain ⟨Y, hY⟩ : ∃ Y, W.setRow q (splice (btC b (some ⟨p, 0, none⟩)).toList 0 (r3 x)).toArray = Y := ⟨_, rfl⟩
  rw [hY] at hbY htY
  have HY : Hid (W.setRow q (splice (btC b (some ⟨p, 0, none⟩)).toList 0 (r3 x)).toArray = Y) := hY
  have hbo := hW.1
  clear hY
  have hdY := Dk.tq hW.1 hW.2.1 htY
  have htq := (Tq.tp q hW.2.2.2).trans (Tq.tp2 p htY)
  have hg5 := hW.2.2.1
  clear hW
  go_wp2_with (first | (refine wpList_load_row rfl 35 (.tmp 5) rfl u1.heap.size rfl 35 _ (0, 0) _ hg5 undR rfl infoR ?_) | (refine wpList_store_in rfl 35 (.tmp 25) (.tmp 23) rfl q 0 85 (btC b (some ⟨p, 0, none⟩)).toList (r3 x) rfl rfl hbo infoR (by unfold btC r3; simp) (by simp [r3, Value.oneCell']) ?_; rw [HY.out]))
  go_ret
  exact ⟨rfl, hdY, hbY, htq⟩
end Go.Proofs.YtlpmehmoeladjaaGreatDoor
namespace Go.Proofs.YtlpmehmoeladjaaGreatDoor
open Go.RowKit Go.Shelf Go.Lib

/-- What a Boot's numbers may be. -/
def OkB (b : Bo) : Prop := (0 ≤ b.r.li ∧ b.r.li ≤ 1073741824) ∧ (0 ≤ b.r.ro ∧ b.r.ro ≤ 1099511627775) ∧ (0 ≤ b.r.ta ∧ b.r.ta ≤ 1048576) ∧ (0 ≤ b.ro ∧ b.ro ≤ 1099511627775) ∧ 0 ≤ b.ta ∧ b.ta ≤ 1048576
def rNx (b : Bo) : Rec := ⟨b.r.li, bR b.ro, b.r.ta⟩
def rRa (b : Bo) (t : Int) : Rec := ⟨b.r.li, b.r.ro, bT (t - 1)⟩
/-- Next: the round, the error, the disk and the Boot behind it. -/
structure Nx where
  x : Int
  e : Int
  d : Dst
  b : Bo
def dNx (d : Dst) (b : Bo) : Nx :=
  if d.off = true then ⟨0, 100, d, b⟩ else if b.ro = 1099511627775 then ⟨0, 120, d, b⟩ else if b.ro = b.r.ro then (if (dSv d (rNx b)).1 = 0 then ⟨b.ro + 1, 0, (dSv d (rNx b)).2, ⟨rNx b, b.ro + 1, b.ta⟩⟩ else ⟨0, (dSv d (rNx b)).1, (dSv d (rNx b)).2, b⟩) else ⟨b.ro + 1, 0, d, ⟨b.r, b.ro + 1, b.ta⟩⟩
/-- Raise: the error, the disk and the Boot behind it. -/
structure Ra where
  e : Int
  d : Dst
  b : Bo
def dRa (d : Dst) (b : Bo) (t : Int) : Ra :=
  if d.off = true then ⟨100, d, b⟩ else if t < 0 then ⟨1, d, b⟩ else if 1048576 < t then ⟨120, d, b⟩ else if t ≤ b.ta then ⟨0, d, b⟩ else if b.r.ta < t then (if (dSv d (rRa b t)).1 = 0 then ⟨0, (dSv d (rRa b t)).2, ⟨rRa b t, b.ro, t⟩⟩ else ⟨(dSv d (rRa b t)).1, (dSv d (rRa b t)).2, b⟩) else ⟨0, d, ⟨b.r, b.ro, t⟩⟩
section
variable {W V : World} {q p : Nat} {P : Option Addr} {b : Bo} {d : Dst}
theorem Bt.set4 (h : Bt W q P b) (x : Int) : Bt (W.setCell ⟨q, 4, none⟩ (.int .i64 x)) q P ⟨b.r, x, b.ta⟩ ∧ Tp q W (W.setCell ⟨q, 4, none⟩ (.int .i64 x)) := ⟨heap_setCell_same _ _ _ _ _ _ h, Tp.set _ _ _ _⟩
theorem Bt.set5 (h : Bt W q P b) (x : Int) : Bt (W.setCell ⟨q, 5, none⟩ (.int .i64 x)) q P ⟨b.r, b.ro, x⟩ ∧ Tp q W (W.setCell ⟨q, 5, none⟩ (.int .i64 x)) := ⟨heap_setCell_same _ _ _ _ _ _ h, Tp.set _ _ _ _⟩
theorem Bt.c (h : Bt W q P b) : W.cell? ⟨q, 0, none⟩ = some (.int .i64 b.r.li) ∧ W.cell? ⟨q, 1, none⟩ = some (.int .i64 b.r.ro) ∧ W.cell? ⟨q, 2, none⟩ = some (.int .i64 b.r.ta) ∧ W.cell? ⟨q, 4, none⟩ = some (.int .i64 b.ro) ∧ W.cell? ⟨q, 5, none⟩ = some (.int .i64 b.ta) := ⟨cell_at h 0, cell_at h 1, cell_at h 2, cell_at h 4, cell_at h 5⟩
theorem field_bt (W : World) (B : Nat) : (Instr.fieldAt 85 (.pointer (some ⟨B, 0, none⟩)) 0).run Tryz.prog W = .ok (.pointer (some ⟨B, 0, none⟩)) W ∧ (Instr.fieldAt 85 (.pointer (some ⟨B, 0, none⟩)) 1).run Tryz.prog W = .ok (.pointer (some ⟨B, 4, none⟩)) W ∧ (Instr.fieldAt 85 (.pointer (some ⟨B, 0, none⟩)) 2).run Tryz.prog W = .ok (.pointer (some ⟨B, 5, none⟩)) W := by
  refine ⟨?_, ?_, ?_⟩ <;> go_simp
theorem load_pB {B : Nat} (h : W.heap[B]? = some (.cells #[.pointer (some ⟨q, 0, none⟩)] 30 (0, 0))) : (Instr.loadAt 30 (.pointer (some ⟨B, 0, none⟩))).run Tryz.prog W = .ok (.pointer (some ⟨q, 0, none⟩)) W := by
  have c := cell_at h 0
  simp at c
  go_simp
/-- While Next goes on: the box that holds the Boot's pointer. -/
def JN2 (W0 : World) (q p : Nat) (b : Bo) (d : Dst) (W : World) : Prop := Bt W q (some ⟨p, 0, none⟩) b ∧ Dk W p d ∧ W.heap[W0.heap.size]? = some (.cells #[.pointer (some ⟨q, 0, none⟩)] 30 (0, 0)) ∧ Tq p q W0 W
theorem JN2.drew {W0 : World} (h : JN2 W0 q p b d W) : JN2 W0 q p b d W.drew := ⟨h.1.carry (Below.refl _ _).drew, h.2.1.carry (Below.refl _ _).drew, h.2.2.1, h.2.2.2.trans (Tq.of _ _ (Below.refl _ _).drew)⟩
end
end Go.Proofs.YtlpmehmoeladjaaGreatDoor
namespace Go.Proofs.YtlpmehmoeladjaaGreatDoor
open Go.RowKit Go.Shelf Go.Lib

section
variable {W V : World} {q p : Nat} {P : Option Addr} {b : Bo} {d : Dst} {t : Int}
/-- While Raise goes on: the box that holds the tag. -/
def JR2 (W0 : World) (q p : Nat) (b : Bo) (d : Dst) (t : Int) (W : World) : Prop := Bt W q (some ⟨p, 0, none⟩) b ∧ Dk W p d ∧ W.heap[W0.heap.size]? = some (.cells #[.int .i64 t] 3 (0, 0)) ∧ Tq p q W0 W
theorem JR2.drew {W0 : World} (h : JR2 W0 q p b d t W) : JR2 W0 q p b d t W.drew := ⟨h.1.carry (Below.refl _ _).drew, h.2.1.carry (Below.refl _ _).drew, h.2.2.1, h.2.2.2.trans (Tq.of _ _ (Below.refl _ _).drew)⟩
set_option maxHeartbeats 8000000 in
set_option maxRecDepth 100000 in
theorem braise_any {Wi : World} (h : Bt Wi q (some ⟨p, 0, none⟩) b) (hd : Dk Wi p d) (hf : Fz d) (hw0 : 0 ≤ d.writes) (hw : d.writes ≤ 4611686018427387903) (t : Int) : Calls Tryz.prog 68 #[.pointer (some ⟨q, 0, none⟩), .int .i64 t] Wi fun e w' => e = .returned (.int .i64 (dRa d b t).e) ∧ Dk w' p (dRa d b t).d ∧ Bt w' q (some ⟨p, 0, none⟩) (dRa d b t).b ∧ Tq p q Wi w' := by
  have hmx : Tryz.prog.follows .mixedOrders = true := by kernel_rfl
  obtain ⟨w1, hw1⟩ : ∃ w1, Wi.alloc (.cells #[.int .i64 t] 3) = w1 := ⟨_, rfl⟩
  have hb1 : Below Wi.heap.size Wi w1 := by rw [← hw1]; exact al1' _ _
  have hx1 : w1.heap[Wi.heap.size]? = some (.cells #[.int .i64 t] 3 (0, 0)) := by rw [← hw1]; exact new_at rfl
  have cx1 := cell_at hx1 0
  simp at cx1
  have h1 := h.carry hb1
  have hd1 := hd.carry hb1
  have hre := ready_any h1 hd1
  have hq0 := lt_at h
  have hp0 := hd.lt
  by_cases ho : d.off = true
  case pos =>
    rw [if_pos ho] at hre
    rw [dRa, if_pos ho]
    go_enter Tryz.func68, Tryz.ntmps68
    go_wp2_with (go_at_call 83; (with_reducible refine hre.mono ?_); rintro e u ⟨rfl, hu⟩; obtain rfl := hu.symm)
    go_ret
    exact ⟨rfl, hd1, h1, Tq.of _ _ hb1⟩
  rw [if_neg ho] at hre
  by_cases hn : t < 0
  case pos =>
    rw [dRa, if_neg ho, if_pos hn]
    go_enter Tryz.func68, Tryz.ntmps68
    go_wp2_with (go_at_call 83; (with_reducible refine hre.mono ?_); rintro e u ⟨rfl, hu⟩; obtain rfl := hu.symm)
    go_ret
    exact ⟨rfl, hd1, h1, Tq.of _ _ hb1⟩
  by_cases hm : 1048576 < t
  case pos =>
    rw [dRa, if_neg ho, if_neg hn, if_pos hm]
    go_enter Tryz.func68, Tryz.ntmps68
    go_wp2_with (go_at_call 83; (with_reducible refine hre.mono ?_); rintro e u ⟨rfl, hu⟩; obtain rfl := hu.symm)
    go_ret
    exact ⟨rfl, hd1, h1, Tq.of _ _ hb1⟩
  have HM : Hid (¬ 1048576 < t) := hm
  have HN : Hid (¬ t < 0) := hn
  by_cases hl : t ≤ b.ta
  case pos =>
    rw [dRa, if_neg ho, if_neg hn, if_neg hm, if_pos hl]
    go_enter Tryz.func68, Tryz.ntmps68
    go_wp2_with (go_at_call 83; (with_reducible refine hre.mono ?_); rintro e u ⟨rfl, hu⟩; obtain rfl := hu.symm)
    rename_i hK
    refine wp_region_any hmx ?_
    refine wpAny_pure (fun i__ => ([(.int .i64 t), (.pointer (some ⟨q, 0, none⟩)), (.pointer (some ⟨q, 0, none⟩)), (.pointer (some ⟨q, 5, none⟩)), (.int .i64 b.ta), (.bool true)] : List Value).getD i__ undef) (JR2 Wi q p b d t) (by kernel_rfl) (JR2.drew ⟨h1, hd1, hx1, Tq.of _ _ hb1⟩) ?_ ?_
    · refine (stepsFrom_cons ?_ (stepsFrom_cons ?_ (stepsFrom_cons ?_ (stepsFrom_cons ?_ (stepsFrom_cons ?_ (stepsFrom_cons ?_ trivial))))))
      · exact step_load rfl trivial _ _ _ rfl rfl (fun v hw => load_i64 (by rw [cell_at hw.2.2.1]; rfl))
      · exact step_move rfl trivial _ rfl (by kernel_rfl)
      · exact step_nilCheck rfl trivial _ _ _ rfl rfl rfl
      · exact step_fieldAddr rfl trivial _ _ _ _ rfl rfl (fun v hw => (field_bt v _).2.2)
      · exact step_load rfl trivial _ _ _ rfl rfl (fun v hw => load_i64 hw.1.c.2.2.2.2)
      · exact step_binOp rfl trivial _ _ _ _ _ _ _ rfl rfl rfl (fun v hw => by have e1 : decide (t ≤ b.ta) = true := decide_eq_true hl; rw [← e1]; exact bin_leq _ _ _)
    intro W hW
    first | refine hK _ _ ?_ | refine (‹∀ (a : Act) (w : World), Code.wp Tryz.prog _ _ a w → _›) _ _ ?_
    simp only [finL, List.getD_cons_zero, List.getD_cons_succ, Nat.zero_add, Nat.reduceAdd, List.setIfInBounds_toArray, List.set_cons_zero, List.set_cons_succ]
    clear hK
    go_wp2
    go_ret
    exact ⟨rfl, hW.2.1, hW.1, hW.2.2.2⟩
  have HL : Hid (¬ t ≤ b.ta) := hl
  by_cases hg : b.r.ta < t
  case neg =>
    have HG : Hid (¬ b.r.ta < t) := hg
    rw [dRa, if_neg ho, if_neg hn, if_neg hm, if_neg hl, if_neg hg]
    clear hl hg
    go_enter Tryz.func68, Tryz.ntmps68
    go_wp2_with (go_at_call 83; (with_reducible refine hre.mono ?_); rintro e u ⟨rfl, hu⟩; obtain rfl := hu.symm)
    rename_i hK
    refine wp_region_any hmx ?_
    refine wpAny_pure (fun i__ => ([(.int .i64 t), (.pointer (some ⟨q, 0, none⟩)), (.pointer (some ⟨q, 0, none⟩)), (.pointer (some ⟨q, 5, none⟩)), (.int .i64 b.ta), (.bool false)] : List Value).getD i__ undef) (JR2 Wi q p b d t) (by kernel_rfl) (JR2.drew ⟨h1, hd1, hx1, Tq.of _ _ hb1⟩) ?_ ?_
    · refine (stepsFrom_cons ?_ (stepsFrom_cons ?_ (stepsFrom_cons ?_ (stepsFrom_cons ?_ (stepsFrom_cons ?_ (stepsFrom_cons ?_ trivial))))))
      · exact step_load rfl trivial _ _ _ rfl rfl (fun v hw => load_i64 (by rw [cell_at hw.2.2.1]; rfl))
      · exact step_move rfl trivial _ rfl (by kernel_rfl)
      · exact step_nilCheck rfl trivial _ _ _ rfl rfl rfl
      · exact step_fieldAddr rfl trivial _ _ _ _ rfl rfl (fun v hw => (field_bt v _).2.2)
      · exact step_load rfl trivial _ _ _ rfl rfl (fun v hw => load_i64 hw.1.c.2.2.2.2)
      · exact step_binOp rfl trivial _ _ _ _ _ _ _ rfl rfl rfl (fun v hw => by have e1 : decide (t ≤ b.ta) = false := decide_eq_false (by have := HL.out; omega); rw [← e1]; exact bin_leq _ _ _)
    intro W hW
    first | refine hK _ _ ?_ | refine (‹∀ (a : Act) (w : World), Code.wp Tryz.prog _ _ a w → _›) _ _ ?_
    simp only [finL, List.getD_cons_zero, List.getD_cons_succ, Nat.zero_add, Nat.reduceAdd, List.setIfInBounds_toArray, List.set_cons_zero, List.set_cons_succ]
    clear hK
    have hW8 := hW
    clear hW
    go_wp2
    rename_i hK
    refine wp_region_any hmx ?_
    refine wpAny_pure (fun i__ => ([(.int .i64 t), (.pointer (some ⟨q, 0, none⟩)), (.pointer (some ⟨q, 0, none⟩)), (.pointer (some ⟨q, 0, none⟩)), (.pointer (some ⟨q, 0, none⟩)), (.pointer (some ⟨q, 2, none⟩)), (.int .i64 b.r.ta), (.bool false)] : List Value).getD i__ undef) (JR2 Wi q p b d t) (by kernel_rfl) hW8.drew ?_ ?_
    · refine (stepsFrom_cons ?_ (stepsFrom_cons ?_ (stepsFrom_cons ?_ (stepsFrom_cons ?_ (stepsFrom_cons ?_ (stepsFrom_cons ?_ (stepsFrom_cons ?_ (stepsFrom_cons ?_ trivial))))))))
      · exact step_load rfl trivial _ _ _ rfl rfl (fun v hw => load_i64 (by rw [cell_at hw.2.2.1]; rfl))
      · exact step_move rfl trivial _ rfl (by kernel_rfl)
      · exact step_nilCheck rfl trivial _ _ _ rfl rfl rfl
      · exact step_fieldAddr rfl trivial _ _ _ _ rfl rfl (fun v hw => (field_bt v _).1)
      · exact step_fieldAddr rfl trivial _ _ _ _ rfl rfl (fun v hw => (field_res v _).1)
      · exact step_fieldAddr rfl trivial _ _ _ _ rfl rfl (fun v hw => (field_R v _).2.2)
      · exact step_load rfl trivial _ _ _ rfl rfl (fun v hw => load_i64 hw.1.c.2.2.1)
      · exact step_binOp rfl trivial _ _ _ _ _ _ _ rfl rfl rfl (fun v hw => by have e1 : decide (t > b.r.ta) = false := decide_eq_false (by have := HG.out; omega); rw [← e1]; exact bin_gtr _ _ _)
    intro W hW
    first | refine hK _ _ ?_ | refine (‹∀ (a : Act) (w : World), Code.wp Tryz.prog _ _ a w → _›) _ _ ?_
    simp only [finL, List.getD_cons_zero, List.getD_cons_succ, Nat.zero_add, Nat.reduceAdd, List.setIfInBounds_toArray, List.set_cons_zero, List.set_cons_succ]
    clear hK hW8
    have cx := cell_at hW.2.2.1 0
    simp at cx
    have c5 := hW.1.c.2.2.2.2
    have t5 := thaw_at hW.1 5
    obtain ⟨hB2, hT2⟩ := hW.1.set5 t
    have hD2 := Dk.tq hW.1 hW.2.1 hT2
    obtain ⟨Y, hY⟩ : ∃ Y, W.setCell ⟨q, 5, none⟩ (.int .i64 t) = Y := ⟨_, rfl⟩
    rw [hY] at hB2 hT2 hD2
    go_wp2
    go_ret
    exact ⟨rfl, hD2, hB2, hW.2.2.2.trans (Tq.tp2 _ hT2)⟩
  have HG : Hid (b.r.ta < t) := hg
  rw [dRa, if_neg ho, if_neg hn, if_neg hm, if_neg hl, if_pos hg]
  obtain ⟨E, hE⟩ : ∃ E, (dSv d (rRa b t)).1 = E := ⟨_, rfl⟩
  obtain ⟨D1, hD1⟩ : ∃ D1, (dSv d (rRa b t)).2 = D1 := ⟨_, rfl⟩
  have HE : Hid ((dSv d (rRa b t)).1 = E) := hE
  have HD : Hid ((dSv d (rRa b t)).2 = D1) := hD1
  rw [hE, hD1]
  clear hE hD1 hl hg
  go_enter Tryz.func68, Tryz.ntmps68
  go_wp2_with (go_at_call 83; (with_reducible refine hre.mono ?_); rintro e u ⟨rfl, hu⟩; obtain rfl := hu.symm)
  rename_i hK
  refine wp_region_any hmx ?_
  refine wpAny_pure (fun i__ => ([(.int .i64 t), (.pointer (some ⟨q, 0, none⟩)), (.pointer (some ⟨q, 0, none⟩)), (.pointer (some ⟨q, 5, none⟩)), (.int .i64 b.ta), (.bool false)] : List Value).getD i__ undef) (JR2 Wi q p b d t) (by kernel_rfl) (JR2.drew ⟨h1, hd1, hx1, Tq.of _ _ hb1⟩) ?_ ?_
  · refine (stepsFrom_cons ?_ (stepsFrom_cons ?_ (stepsFrom_cons ?_ (stepsFrom_cons ?_ (stepsFrom_cons ?_ (stepsFrom_cons ?_ trivial))))))
    · exact step_load rfl trivial _ _ _ rfl rfl (fun v hw => load_i64 (by rw [cell_at hw.2.2.1]; rfl))
    · exact step_move rfl trivial _ rfl (by kernel_rfl)
    · exact step_nilCheck rfl trivial _ _ _ rfl rfl rfl
    · exact step_fieldAddr rfl trivial _ _ _ _ rfl rfl (fun v hw => (field_bt v _).2.2)
    · exact step_load rfl trivial _ _ _ rfl rfl (fun v hw => load_i64 hw.1.c.2.2.2.2)
    · exact step_binOp rfl trivial _ _ _ _ _ _ _ rfl rfl rfl (fun v hw => by have e1 : decide (t ≤ b.ta) = false := decide_eq_false (by have := HL.out; omega); rw [← e1]; exact bin_leq _ _ _)
  intro W hW
  first | refine hK _ _ ?_ | refine (‹∀ (a : Act) (w : World), Code.wp Tryz.prog _ _ a w → _›) _ _ ?_
  simp only [finL, List.getD_cons_zero, List.getD_cons_succ, Nat.zero_add, Nat.reduceAdd, List.setIfInBounds_toArray, List.set_cons_zero, List.set_cons_succ]
  clear hK
  have hW8 := hW
  clear hW
  go_wp2
  rename_i hK
  refine wp_region_any hmx ?_
  refine wpAny_pure (fun i__ => ([(.int .i64 t), (.pointer (some ⟨q, 0, none⟩)), (.pointer (some ⟨q, 0, none⟩)), (.pointer (some ⟨q, 0, none⟩)), (.pointer (some ⟨q, 0, none⟩)), (.pointer (some ⟨q, 2, none⟩)), (.int .i64 b.r.ta), (.bool true)] : List Value).getD i__ undef) (JR2 Wi q p b d t) (by kernel_rfl) hW8.drew ?_ ?_
  · refine (stepsFrom_cons ?_ (stepsFrom_cons ?_ (stepsFrom_cons ?_ (stepsFrom_cons ?_ (stepsFrom_cons ?_ (stepsFrom_cons ?_ (stepsFrom_cons ?_ (stepsFrom_cons ?_ trivial))))))))
    · exact step_load rfl trivial _ _ _ rfl rfl (fun v hw => load_i64 (by rw [cell_at hw.2.2.1]; rfl))
    · exact step_move rfl trivial _ rfl (by kernel_rfl)
    · exact step_nilCheck rfl trivial _ _ _ rfl rfl rfl
    · exact step_fieldAddr rfl trivial _ _ _ _ rfl rfl (fun v hw => (field_bt v _).1)
    · exact step_fieldAddr rfl trivial _ _ _ _ rfl rfl (fun v hw => (field_res v _).1)
    · exact step_fieldAddr rfl trivial _ _ _ _ rfl rfl (fun v hw => (field_R v _).2.2)
    · exact step_load rfl trivial _ _ _ rfl rfl (fun v hw => load_i64 hw.1.c.2.2.1)
    · exact step_binOp rfl trivial _ _ _ _ _ _ _ rfl rfl rfl (fun v hw => by have e1 : decide (t > b.r.ta) = true := decide_eq_true (by have := HG.out; omega); rw [← e1]; exact bin_gtr _ _ _)
  intro W hW
  first | refine hK _ _ ?_ | refine (‹∀ (a : Act) (w : World), Code.wp Tryz.prog _ _ a w → _›) _ _ ?_
  simp only [finL, List.getD_cons_zero, List.getD_cons_succ, Nat.zero_add, Nat.reduceAdd, List.setIfInBounds_toArray, List.set_cons_zero, List.set_cons_succ]
  clear hK hW8
  have cx := cell_at hW.2.2.1 0
  simp at cx
  have hsv := bsave_R hW.1 hW.2.1 hf hw0 hw (raise1_any b.r hW.2.2.1 (by have h1 := HM.out; have h2 := HN.out; omega))
  change Calls Tryz.prog _ _ W (fun e w' => e = .returned (.int .i64 (dSv d (rRa b t)).1) ∧ Dk w' p (dSv d (rRa b t)).2 ∧ Bt w' q (some ⟨p, 0, none⟩) (svB b (dSv d (rRa b t)).1 (rRa b t)) ∧ Tq p q W w') at hsv
  rw [HE.out, HD.out] at hsv
  clear HE HD
  by_cases hz : E = 0
  case neg =>
    rw [svB, if_neg hz] at hsv
    go_wp2_with (go_at_call 26; (with_reducible refine hsv.mono ?_); rintro e u1 ⟨rfl, hu1, hu2, hu3⟩)
    go_ret
    exact ⟨rfl, hu1, hu2, hW.2.2.2.trans hu3⟩
  subst hz
  rw [svB, if_pos rfl] at hsv
  go_wp2_with (go_at_call 26; (with_reducible refine hsv.mono ?_); rintro e u1 ⟨rfl, hu1, hu2, hu3⟩; have c5 := hu2.c.2.2.2.2; have hx2 := (hu3.block _ (lt_at hW.2.2.1) (by omega) (by omega)).trans hW.2.2.1; have cx3 := cell_at hx2 0; simp at cx3; have t5 := thaw_at hu2 5; obtain ⟨hB2, hT2⟩ := hu2.set5 t; have hD2 := Dk.tq hu2 hu1 hT2; obtain ⟨Y, hY⟩ : ∃ Y, u1.setCell ⟨q, 5, none⟩ (.int .i64 t) = Y := ⟨_, rfl⟩; rw [hY] at hB2 hT2 hD2)
  go_ret
  exact ⟨rfl, hD2, hB2, (hW.2.2.2.trans hu3).trans (Tq.tp2 _ hT2)⟩
end
end Go.Proofs.YtlpmehmoeladjaaGreatDoor
