/- What is answered of a nil and of a zero node, and of no disk. -/
import Derived.Test.YtklnfbanfgdgcaaGreatDoorJnJ36
import Derived.Test.YtklnfbanfgdgcaaGreatDoorJnJ34
import Derived.Test.YtklnfbanfgdgcaaGreatDoorJnJ25
import Derived.Test.YtklnfbanfgdgcaaGreatDoorJnJ28
import Derived.Test.YtklnfbanfgdgcaaGreatDoorJnJ17
import Derived.Test.YtklnfbanfgdgcaaGreatDoorJnJ10
import Derived.Lib.BufferWrite
set_option maxHeartbeats 40000000
set_option maxRecDepth 100000
set_option linter.unusedVariables false
namespace Go.Proofs.YtklnfbanfgdgcaaGreatDoor
open Go.RowKit Go.Shelf Go.Lib
attribute [local go_sem] Oper.semAt_some
set_option linter.unusedVariables false

/-- What Open of no disk tells. -/
def opE (n f s : Int) : Int := if n < 1 ∨ 100 < n ∨ f < 0 ∨ n ≤ f then 1 else if s < 0 ∨ n ≤ s then 30 else 100
section
variable {w : World} {x : Nat}
end
end Go.Proofs.YtklnfbanfgdgcaaGreatDoor
namespace Go.Proofs.YtklnfbanfgdgcaaGreatDoor
open Go.RowKit Go.Shelf Go.Lib
attribute [local go_sem] Oper.semAt_some
set_option linter.unusedVariables false

theorem infoRN : (Tryz.prog.info? 58).map (·.size) = some 22 := by kernel_rfl
theorem undRN : Tryz.prog.underlying 58 = some (.struct ((match Tryz.prog.underlying 58 with | some (.struct f) => f | _ => #[]))) := by kernel_rfl
theorem infoRB2 : (Tryz.prog.info? 45).map (·.size) = some 6 := by kernel_rfl
def nZ : Array Value := #[.int .i64 0, .int .i64 0, .int .i64 0, .bool false, .pointer none, .int .i64 0, .int .i64 0, .int .i64 0, .int .i64 0, .int .i64 0, .int .i64 0, .slice none 0 0, .int .u32 0, .int .u32 0, .int .u32 0, .int .u32 0, .int .i64 0, .int .i64 0, .int .i64 0, .slice none 0 0, .slice none 0 0, .slice none 0 0]
section
variable {w : World} {d : Nat}
end
end Go.Proofs.YtklnfbanfgdgcaaGreatDoor
namespace Go.Proofs.YtklnfbanfgdgcaaGreatDoor
open Go.RowKit Go.Shelf Go.Lib
attribute [local go_sem] Oper.semAt_some
set_option linter.unusedVariables false

/-- The cells of the document's node. -/
def rnV (n f s : Int) (D : Value) (b : Bo) (bk : Value) (H : Nat) (t0 t1 t2 : Int) (w1 w2 pa : Value) : Array Value := #[.int .i64 n, .int .i64 f, .int .i64 s, .bool true, D, .int .i64 b.r.li, .int .i64 b.r.ro, .int .i64 b.r.ta, .int .i64 b.r.li, .int .i64 b.ro, .int .i64 b.ta, bk, .int .u32 (wd H 0 : Nat), .int .u32 (wd H 1 : Nat), .int .u32 (wd H 2 : Nat), .int .u32 (wd H 3 : Nat), .int .i64 t0, .int .i64 t1, .int .i64 t2, w1, w2, pa]
def RN (W : World) (x : Nat) (n f s : Int) (D : Value) (b : Bo) (bk : Value) (H : Nat) (t0 t1 t2 : Int) (w1 w2 pa : Value) : Prop := W.heap[x]? = some (.cells (rnV n f s D b bk H t0 t1 t2 w1 w2 pa) 58 (0, 0))
section
variable {w W V : World} {x : Nat} {n f s : Int} {D : Value} {b : Bo} {bk : Value} {H : Nat} {t0 t1 t2 : Int} {w1 w2 pa : Value}
theorem RN.lt (h : RN W x n f s D b bk H t0 t1 t2 w1 w2 pa) : x < W.heap.size := lt_at h
theorem RN.carry (h : RN W x n f s D b bk H t0 t1 t2 w1 w2 pa) (hb : Below W.heap.size W V) : RN V x n f s D b bk H t0 t1 t2 w1 w2 pa := (hb.block _ h.lt).trans h
theorem RN.c (h : RN W x n f s D b bk H t0 t1 t2 w1 w2 pa) (k : Nat) {v : Value} (hk : (rnV n f s D b bk H t0 t1 t2 w1 w2 pa)[k]? = some v) : W.cell? ⟨x, k, none⟩ = some v := (cell_at h k).trans hk
theorem RN.putRo (h : RN W x n f s D b bk H t0 t1 t2 w1 w2 pa) (r : Int) : RN (W.setCell ⟨x, 9, none⟩ (.int .i64 r)) x n f s D ⟨b.r, r, b.ta⟩ bk H t0 t1 t2 w1 w2 pa := (heap_setCell_same _ _ 9 _ _ _ h).trans rfl
theorem RN.putPa (h : RN W x n f s D b bk H t0 t1 t2 w1 w2 pa) (p : Value) : RN (W.setCell ⟨x, 21, none⟩ p) x n f s D b bk H t0 t1 t2 w1 w2 p := (heap_setCell_same _ _ 21 _ _ _ h).trans rfl
theorem bkN1 : (Tryz.prog.info? 48).map (·.size) = some 1 := by kernel_rfl
theorem RN.putBk (h : RN W x n f s D b bk H t0 t1 t2 w1 w2 pa) (v : Value) (hv : v.oneCell' = true) : ∃ V, (Instr.storeAt 48 (.pointer (some ⟨x, 11, none⟩)) (.agg #[v])).run Tryz.prog W = .ok () V ∧ RN V x n f s D b v H t0 t1 t2 w1 w2 pa ∧ TpZ x W V :=
  ⟨_, run_store_inZ W x 11 _ 48 (rnV n f s D b bk H t0 t1 t2 w1 w2 pa).toList [v] h bkN1 (by simp [rnV]) (by intro u hu; simp only [List.mem_cons, List.not_mem_nil, or_false] at hu; rw [hu]; exact hv), setRow_heap _ _ _ _ _ _ h, TpZ.row _ _ _⟩
theorem RN.putT (h : RN W x n f s D b bk H t0 t1 t2 w1 w2 pa) (a0 a1 a2 : Int) (v1 v2 : Value) (hv1 : v1.oneCell' = true) (hv2 : v2.oneCell' = true) : ∃ V, (Instr.storeAt 55 (.pointer (some ⟨x, 16, none⟩)) (.agg (rfC a0 a1 a2 v1 v2))).run Tryz.prog W = .ok () V ∧ RN V x n f s D b bk H a0 a1 a2 v1 v2 pa ∧ TpZ x W V :=
  ⟨_, run_store_inZ W x 16 _ 55 (rnV n f s D b bk H t0 t1 t2 w1 w2 pa).toList [.int .i64 a0, .int .i64 a1, .int .i64 a2, v1, v2] h infoRf (by simp [rnV]) (by intro u hu; simp only [List.mem_cons, List.not_mem_nil, or_false] at hu; rcases hu with rfl | rfl | rfl | rfl | rfl <;> first | rfl | exact hv1 | exact hv2), setRow_heap _ _ _ _ _ _ h, TpZ.row _ _ _⟩
theorem field_rn (W : World) (B : Nat) : (Instr.fieldAt 58 (.pointer (some ⟨B, 0, none⟩)) 2).run Tryz.prog W = .ok (.pointer (some ⟨B, 2, none⟩)) W ∧ (Instr.fieldAt 58 (.pointer (some ⟨B, 0, none⟩)) 9).run Tryz.prog W = .ok (.pointer (some ⟨B, 21, none⟩)) W := by
  refine ⟨?_, ?_⟩ <;> go_simp
theorem field_bN (W : World) (B : Nat) : (Instr.fieldAt 45 (.pointer (some ⟨B, 5, none⟩)) 2).run Tryz.prog W = .ok (.pointer (some ⟨B, 9, none⟩)) W ∧ (Instr.fieldAt 45 (.pointer (some ⟨B, 5, none⟩)) 0).run Tryz.prog W = .ok (.pointer (some ⟨B, 5, none⟩)) W ∧ (Instr.fieldAt 23 (.pointer (some ⟨B, 5, none⟩)) 1).run Tryz.prog W = .ok (.pointer (some ⟨B, 6, none⟩)) W := by
  refine ⟨?_, ?_, ?_⟩ <;> go_simp
set_option maxHeartbeats 4000000 in
set_option maxRecDepth 100000 in
theorem rNextE {lb : Nat} (h : RN W x n f s D b bk H t0 t1 t2 w1 w2 pa) (ho : W.cell? ⟨lb, 1, none⟩ = some (.bool false)) (h1 : b.ro = 1099511627775) : Calls Tryz.prog 33 #[.pointer (some ⟨x, 5, none⟩), .pointer (some ⟨lb, 0, none⟩)] W fun e w' => e = .returned (.tuple #[.int .i64 0, .int .i64 120]) ∧ w' = W := by
  have c9 : W.cell? ⟨x, 9, none⟩ = some (.int .i64 b.ro) := h.c 9 rfl
  rw [h1] at c9
  go_enter Tryz.func33, Tryz.ntmps33
  go_wp2
  go_ret2
  exact ⟨rfl, rfl⟩
set_option maxHeartbeats 4000000 in
set_option maxRecDepth 100000 in
theorem rNextF {lb : Nat} (h : RN w x n f s D b bk H t0 t1 t2 w1 w2 pa) (ho : w.cell? ⟨lb, 1, none⟩ = some (.bool false)) (h1 : ¬ b.ro = 1099511627775) (h2 : ¬ b.ro = b.r.ro) (h3 : 0 ≤ b.ro ∧ b.ro ≤ 1099511627775) : Calls Tryz.prog 33 #[.pointer (some ⟨x, 5, none⟩), .pointer (some ⟨lb, 0, none⟩)] w fun e w' => e = .returned (.tuple #[.int .i64 (b.ro + 1), .int .i64 0]) ∧ RN w' x n f s D ⟨b.r, b.ro + 1, b.ta⟩ bk H t0 t1 t2 w1 w2 pa ∧ TpZ x w w' := by
  have hmx : Tryz.prog.follows .mixedOrders = true := by kernel_rfl
  have c9 : w.cell? ⟨x, 9, none⟩ = some (.int .i64 b.ro) := h.c 9 rfl
  have c6 : w.cell? ⟨x, 6, none⟩ = some (.int .i64 b.r.ro) := h.c 6 rfl
  obtain ⟨R, hR⟩ : ∃ R, b.ro = R := ⟨_, rfl⟩
  obtain ⟨K, hK'⟩ : ∃ K, b.r.ro = K := ⟨_, rfl⟩
  rw [hR] at c9 h1 h2 h3
  rw [hK'] at c6 h2
  have hI := i64_id (R + 1) (by omega) (by omega)
  rw [hR]
  have h2' : (R == K) = false := by simpa using h2
  go_enter Tryz.func33, Tryz.ntmps33
  go_wp2
  rename_i hK
  refine wp_region_any hmx ?_
  refine wpAny_pure (fun i__ => ([(.pointer (some ⟨x, 5, none⟩)), (.pointer (some ⟨x, 5, none⟩)), (.pointer (some ⟨x, 9, none⟩)), (.int .i64 R), (.pointer (some ⟨x, 5, none⟩)), (.pointer (some ⟨x, 5, none⟩)), (.pointer (some ⟨x, 5, none⟩)), (.pointer (some ⟨x, 6, none⟩)), (.int .i64 K), (.bool false)] : List Value).getD i__ undef) (fun V => Below w.heap.size w V) (by kernel_rfl) (Below.refl _ _).drew ?_ ?_
  · refine (stepsFrom_cons ?_ (stepsFrom_cons ?_ (stepsFrom_cons ?_ (stepsFrom_cons ?_ (stepsFrom_cons ?_ (stepsFrom_cons ?_ (stepsFrom_cons ?_ (stepsFrom_cons ?_ (stepsFrom_cons ?_ (stepsFrom_cons ?_ trivial))))))))))
    · exact step_move rfl trivial _ rfl (by kernel_rfl)
    · exact step_nilCheck rfl trivial _ _ _ rfl rfl rfl
    · exact step_fieldAddr rfl trivial _ _ _ _ rfl rfl (fun v hw => (field_bN v _).1)
    · exact step_load rfl trivial _ _ _ rfl rfl (fun v hw => load_i64Z ((World.cell?_of_block (a := ⟨x, 9, none⟩) (hw.block _ h.lt)).trans c9))
    · exact step_move rfl trivial _ rfl (by kernel_rfl)
    · exact step_nilCheck rfl trivial _ _ _ rfl rfl rfl
    · exact step_fieldAddr rfl trivial _ _ _ _ rfl rfl (fun v hw => (field_bN v _).2.1)
    · exact step_fieldAddr rfl trivial _ _ _ _ rfl rfl (fun v hw => (field_bN v _).2.2)
    · exact step_load rfl trivial _ _ _ rfl rfl (fun v hw => load_i64Z ((World.cell?_of_block (a := ⟨x, 6, none⟩) (hw.block _ h.lt)).trans c6))
    · exact step_binOp rfl trivial _ _ _ _ _ _ _ rfl rfl rfl (fun v hw => (bin_eql0 .i64 _ _).trans (congrArg (fun b => Result.ok (Value.bool b) v) h2'))
  intro W hW
  first | refine hK _ _ ?_ | refine (‹∀ (a : Act) (w : World), Code.wp Tryz.prog _ _ a w → _›) _ _ ?_ | skip
  simp only [finL, List.getD_cons_zero, List.getD_cons_succ, Nat.zero_add, Nat.reduceAdd, List.setIfInBounds_toArray, List.set_cons_zero, List.set_cons_succ]
  clear hK
  have hc := h.carry hW
  have c9' : W.cell? ⟨x, 9, none⟩ = some (.int .i64 b.ro) := hc.c 9 rfl
  rw [hR] at c9'
  have z9 := thaw_at hc 9
  have hput := hc.putRo (R + 1)
  have c9s : (W.setCell ⟨x, 9, none⟩ (.int .i64 (R + 1))).cell? ⟨x, 9, none⟩ = some (.int .i64 (R + 1)) := hput.c 9 rfl
  go_wp2
  go_ret2
  exact ⟨rfl, hput, (TpZ.of _ hW).trans (TpZ.set _ _ _ _)⟩
end
theorem load_rpa {W : World} {B o n c : Nat} {a : Option Addr} (h : W.cell? ⟨B, o, none⟩ = some (.slice a n c)) : (Instr.loadAt 56 (.pointer (some ⟨B, o, none⟩))).run Tryz.prog W = .ok (.slice a n c) W := by go_simp
/-- While the first event is told. -/
structure Jt1 (w : World) (x : Nat) (n f s : Int) (D : Value) (b : Bo) (bk : Value) (H : Nat) (t0 t1 t2 : Int) (w1 w2 : Value) (e : Ev) (g : Nat × Nat × Nat) (d7 d8 d11 : Bool) (V : World) : Prop where
  obj : RN V x n f s D b bk H t0 t1 t2 w1 w2 (if d11 = true then .slice (some ⟨g.2.1, 0, none⟩) 1 g.2.2 else .slice none 0 0)
  bx : V.heap[w.heap.size]? = some (.cells (ecA e) 121 (0, 0))
  bl : d7 = true → V.heap[g.1]? = some (.cells (ecA e) 121 (0, 0))
  rw : d8 = true → V.ownsRow w.heap.size 121 15 (.slice (some ⟨g.2.1, 0, none⟩) 1 g.2.2) 1 (ecs [e])
  tp : TpZ x w V
section
variable {w V V' : World} {x : Nat} {n f s : Int} {D : Value} {b : Bo} {bk : Value} {H : Nat} {t0 t1 t2 : Int} {w1 w2 : Value} {e : Ev} {g : Nat × Nat × Nat} {d7 d8 d11 : Bool}
theorem Jt1.build (h : Jt1 w x n f s D b bk H t0 t1 t2 w1 w2 e g false d8 d11 V) : Jt1 w x n f s D b bk H t0 t1 t2 w1 w2 e (V.heap.size, g.2) true d8 d11 (V.alloc (.cells (ecA e) 121)) :=
  have ha := al1' V (.cells (ecA e) 121)
  ⟨h.obj.carry ha, (ha.block _ (lt_at h.bx)).trans h.bx, fun _ => new_at rfl, fun q => row_below (h.rw q) ha, h.tp.trans (TpZ.of _ ha)⟩
theorem Jt1.app (h : Jt1 w x n f s D b bk H t0 t1 t2 w1 w2 e g true false false V) (ty : TypeId) : ∃ a c V', (Builtin.append_ #[56, 56] ty #[.slice none 0 0, .slice (some ⟨g.1, 0, none⟩) 1 1]).run Tryz.prog V = .ok (.slice (some ⟨a, 0, none⟩) 1 c) V' ∧ Jt1 w x n f s D b bk H t0 t1 t2 w1 w2 e (g.1, a, c) true true false V' := by
  obtain ⟨ic, hic, hz0, hz1, hz2⟩ := info_parts infoV
  have hg := h.bl rfl
  obtain ⟨v', V', hr, ho, hgr, hn, hown⟩ := run_append_own_at (P := Tryz.prog) V w.heap.size 56 ty 121 ic _ 15 88 Tryz.underlying56 hic hz0 hz1 hz2 rfl (by decide) _ 0 [] (World.ownsRow_nil V w.heap.size 121 15) ⟨g.1, 0, none⟩ 1 1 (ecs [e]) (by rw [ecs_len]; rfl) (fun j u hj => by
    rw [add_pl, Nat.zero_add, cell_at hg]
    rw [ecs_one1, ec] at hj
    simpa using hj) (ecs_ones _) (by unfold maxLen; omega) (by omega) h.tp.size
  rw [List.nil_append, Nat.zero_add] at ho
  rcases own_form ho with ⟨_, e2⟩ | ⟨g2, c, e1, _⟩
  · omega
  · subst e1
    have hb : Below V.heap.size V V' := ⟨hgr.os, hgr.tape, hgr.output, hgr.size, fun k hk => hgr.block k hk (by simp [Value.ownBlock])⟩
    exact ⟨g2, c, V', hr, h.obj.carry hb, (hb.block _ (lt_at h.bx)).trans h.bx, fun _ => (hb.block _ (lt_at hg)).trans hg, fun _ => ho, h.tp.trans (TpZ.of _ hb)⟩
theorem Jt1.store (h : Jt1 w x n f s D b bk H t0 t1 t2 w1 w2 e g true true false V) (hx : x < w.heap.size) : ∃ V', (Instr.storeAt 56 (.pointer (some ⟨x, 21, none⟩)) (.slice (some ⟨g.2.1, 0, none⟩) 1 g.2.2)).run Tryz.prog V = .ok () V' ∧ Jt1 w x n f s D b bk H t0 t1 t2 w1 w2 e g true true true V' := by
  have h0 := h.obj
  rw [if_neg (by simp)] at h0
  have c0 : V.cell? ⟨x, 21, none⟩ = some (.slice none 0 0) := h0.c 21 rfl
  have z0 := thaw_at h0 21
  refine ⟨V.setCell ⟨x, 21, none⟩ (.slice (some ⟨g.2.1, 0, none⟩) 1 g.2.2), by go_simp, h0.putPa _, (Below.heap_setCell _ _ _ _ (show w.heap.size ≠ x by omega)).trans h.bx, fun q => (Below.heap_setCell _ _ _ _ (fun e2 => ?_)).trans (h.bl q), fun q => row_other (h.rw q) (row_type (h.rw q) h.obj (by decide)) _, h.tp.trans (TpZ.set _ _ _ _)⟩
  have h1 := h.bl q
  rw [e2, h.obj] at h1
  simp only [Option.some.injEq, Obj.cells.injEq] at h1
  exact absurd h1.2.1 (by decide)
end
set_option maxHeartbeats 4000000 in
set_option maxRecDepth 100000 in
/-- The first event is told. -/
theorem tell_one {w : World} {x : Nat} {n f s : Int} {D : Value} {b : Bo} {bk : Value} {H : Nat} {t0 t1 t2 : Int} {w1 w2 : Value} (h : RN w x n f s D b bk H t0 t1 t2 w1 w2 (.slice none 0 0)) (e : Ev) : Calls Tryz.prog 36 #[.pointer (some ⟨x, 0, none⟩), evV e] w fun r w' => r = .returned (.tuple #[]) ∧ ∃ g c, RN w' x n f s D b bk H t0 t1 t2 w1 w2 (.slice (some ⟨g, 0, none⟩) 1 c) ∧ w'.ownsRow w.heap.size 121 15 (.slice (some ⟨g, 0, none⟩) 1 c) 1 (ecs [e.at s b.r.li]) ∧ TpZ x w w' := by
  have hmx : Tryz.prog.follows .mixedOrders = true := by kernel_rfl
  obtain ⟨e', he'⟩ : ∃ e', e.at s b.r.li = e' := ⟨_, rfl⟩
  rw [he']
  have HE : Hid (e.at s b.r.li = e') := he'
  clear he'
  obtain ⟨u1, hu1⟩ : ∃ w1, w.alloc (.cells (ecA e) 121) = w1 := ⟨_, rfl⟩
  have hj1 : JV1 w (ecA e) u1 := by rw [← hu1]; exact ⟨new_at rfl, al1' _ _⟩
  have hN1 := h.carry hj1.2
  have c2 : u1.cell? ⟨x, 2, none⟩ = some (.int .i64 s) := hN1.c 2 rfl
  have hxl := h.lt
  have hne : x ≠ w.heap.size := by omega
  have s1 := hj1.set 1 s ⟨_, rfl⟩
  obtain ⟨u2, hu2⟩ : ∃ V, u1.setCell ⟨w.heap.size, 1, none⟩ (.int .i64 s) = V := ⟨_, rfl⟩
  rw [hu2] at s1
  have c8 : u2.cell? ⟨x, 8, none⟩ = some (.int .i64 b.r.li) := (h.carry s1.2.2).c 8 rfl
  have s2 := s1.2.set 2 b.r.li ⟨_, rfl⟩
  obtain ⟨u3, hu3⟩ : ∃ V, u2.setCell ⟨w.heap.size, 2, none⟩ (.int .i64 b.r.li) = V := ⟨_, rfl⟩
  rw [hu3] at s2
  have hbx : u3.heap[w.heap.size]? = some (.cells (ecA e') 121 (0, 0)) := by rw [← HE.out]; exact s2.2.1
  have hN3 := h.carry s2.2.2
  have hb3 := s2.2.2
  have z1 := thaw_at hj1.1 1
  have z2 := thaw_at s1.2.1 2
  have y1 : u1.cell? ⟨w.heap.size, 1, none⟩ = some (.int .i64 e.nd) := (cell_at hj1.1 1).trans rfl
  have y2 : u2.cell? ⟨w.heap.size, 2, none⟩ = some (.int .i64 e.li) := (cell_at s1.2.1 2).trans rfl
  clear s1 s2 hN1 hj1
  unfold evV ecA
  unfold ecA at hu1
  go_enter Tryz.func36, Tryz.ntmps36
  go_wp2
  rename_i hK
  refine wp_region_any hmx ?_
  refine wpAny_tabG (G := (Nat × Nat × Nat)) (fun g i__ => ([(.pointer (some ⟨x, 0, none⟩)), (.pointer (some ⟨x, 0, none⟩)), (.pointer (some ⟨x, 0, none⟩)), (.pointer (some ⟨x, 21, none⟩)), (.slice none 0 0), (.slice none 0 0), (evV e'), (.slice (some ⟨g.1, 0, none⟩) 1 1), (.slice (some ⟨g.2.1, 0, none⟩) 1 g.2.2), (.pointer (some ⟨x, 0, none⟩)), (.pointer (some ⟨x, 21, none⟩)), undef] : List Value).getD i__ undef) (fun g d V => Jt1 w x n f s D b bk H t0 t1 t2 w1 w2 e' g (d 7) (d 8) (d 11) V) (by kernel_rfl) ((0, 0, 0)) (show Jt1 w x n f s D b bk H t0 t1 t2 w1 w2 e' (0, 0, 0) false false false _ from ⟨hN3.carry (Below.refl _ _).drew, hbx, fun q => (by cases q), fun q => (by cases q), (TpZ.of _ hb3).trans (TpZ.of _ (Below.refl _ _).drew)⟩) ?step36 ?fin36
  case step36 =>
    intro i o ho
    have hi : i < 12 := getElem?_lt ho
    match i, hi, ho with
    | 0, _, ho =>
      cases ho
      refine stepG_of (fun g d hdep => ?_)
      exact step_move rfl trivial _ rfl (by kernel_rfl)
    | 1, _, ho =>
      cases ho
      refine stepG_of (fun g d hdep => ?_)
      exact step_move rfl trivial _ rfl (by kernel_rfl)
    | 2, _, ho =>
      cases ho
      refine stepG_of (fun g d hdep => ?_)
      exact step_nilCheck rfl trivial _ _ _ rfl rfl rfl
    | 3, _, ho =>
      cases ho
      refine stepG_of (fun g d hdep => ?_)
      exact step_fieldAddr rfl trivial _ _ _ _ rfl rfl (fun v hw => (field_rn v _).2)
    | 4, _, ho =>
      cases ho
      exact stepG_ofC (fun g d hun hdep hcl => step_load rfl trivial _ _ _ rfl rfl (fun v hw => load_rpa (by have h11 : d 11 = false := (by cases h : d 11 with | false => rfl | true => exact absurd (hcl 11 _ rfl h 4 (by kernel_rfl)) (by rw [hun]; simp)); have h0 := hw.obj; rw [h11, if_neg (by simp)] at h0; exact h0.c 21 rfl)))
    | 5, _, ho =>
      cases ho
      exact stepG_append rfl rfl _ _ _ (fun _ => .slice none 0 0) (fun _ => .slice none 0 0) rfl (fun g => by kernel_rfl) (fun g => by kernel_rfl) (fun g d V hJ hun hdep hcl => by obtain ⟨ic, hic, hz0, hz1, hz2⟩ := info_parts infoV; exact ⟨g, V, run_append_owned_none (P := Tryz.prog) V w.heap.size 56 56 121 ic 15 Tryz.underlying56 hic _ _ _ (World.ownsRow_nil V w.heap.size 121 15), fun _ _ => rfl, hJ⟩)
    | 6, _, ho =>
      cases ho
      refine stepG_of (fun g d hdep => ?_)
      exact step_load rfl trivial _ _ _ rfl rfl (fun v hw => load_evV hw.bx)
    | 7, _, ho =>
      cases ho
      exact stepG_buildG rfl rfl _ _ (fun g => evV e') rfl (fun g => by kernel_rfl) (fun g d V hJ hun hdep hcl => by have hJ' := hJ; rw [hun] at hJ'; refine ⟨(V.heap.size, g.2), _, bs1V V e', (fun j hj => match j, hj with | 7, hj => (by rw [hj] at hun; cases hun)  | 0, _ => rfl | 1, _ => rfl | 2, _ => rfl | 3, _ => rfl | 4, _ => rfl | 5, _ => rfl | 6, _ => rfl | 8, _ => rfl | 9, _ => rfl | 10, _ => rfl | 11, _ => rfl | _ + 12, _ => rfl), ?_⟩; show Jt1 w x n f s D b bk H t0 t1 t2 w1 w2 e' _ true (d 8) (d 11) _; exact hJ'.build)
    | 8, _, ho =>
      cases ho
      exact stepG_append rfl rfl _ _ _ (fun _ => .slice none 0 0) (fun g => .slice (some ⟨g.1, 0, none⟩) 1 1) rfl (fun g => by kernel_rfl) (fun g => by kernel_rfl) (fun g d V hJ hun hdep hcl => by have h7 : d 7 = true := hdep 7 (by kernel_rfl); have h11 : d 11 = false := (by cases h : d 11 with | false => rfl | true => exact absurd (hcl 11 _ rfl h 8 (by kernel_rfl)) (by rw [hun]; simp)); have hJ' := hJ; rw [h7, hun, h11] at hJ'; obtain ⟨a, c, V', hr, hA⟩ := hJ'.app 56; refine ⟨(g.1, a, c), V', hr, (fun j hj => match j, hj with | 8, hj => (by rw [hj] at hun; cases hun)  | 0, _ => rfl | 1, _ => rfl | 2, _ => rfl | 3, _ => rfl | 4, _ => rfl | 5, _ => rfl | 6, _ => rfl | 7, _ => rfl | 9, _ => rfl | 10, _ => rfl | 11, _ => rfl | _ + 12, _ => rfl), ?_⟩; show Jt1 w x n f s D b bk H t0 t1 t2 w1 w2 e' _ (d 7) true (d 11) V'; rw [h7, h11]; exact hA)
    | 9, _, ho =>
      cases ho
      refine stepG_of (fun g d hdep => ?_)
      exact step_nilCheck rfl trivial _ _ _ rfl rfl rfl
    | 10, _, ho =>
      cases ho
      refine stepG_of (fun g d hdep => ?_)
      exact step_fieldAddr rfl trivial _ _ _ _ rfl rfl (fun v hw => (field_rn v _).2)
    | 11, _, ho =>
      cases ho
      exact stepG_store rfl rfl rfl _ _ _ (fun _ => .pointer (some ⟨x, 21, none⟩)) (fun g => .slice (some ⟨g.2.1, 0, none⟩) 1 g.2.2) rfl (fun g => by kernel_rfl) (fun g => by kernel_rfl) (fun g d V hJ hun hdep => by have h7 : d 7 = true := hdep 7 (by kernel_rfl); have h8 : d 8 = true := hdep 8 (by kernel_rfl); have hJ' := hJ; rw [h7, h8, hun] at hJ'; obtain ⟨V', hr, hA⟩ := hJ'.store hxl; refine ⟨V', hr, ?_⟩; show Jt1 w x n f s D b bk H t0 t1 t2 w1 w2 e' _ (d 7) (d 8) true V'; rw [h7, h8]; exact hA)
  intro g d W hall hW
  first | refine hK _ _ ?_ | refine (‹∀ (a : Act) (w : World), Code.wp Tryz.prog _ _ a w → _›) _ _ ?_ | skip
  simp only [finL, List.getD_cons_zero, List.getD_cons_succ, Nat.zero_add, Nat.reduceAdd, List.setIfInBounds_toArray, List.set_cons_zero, List.set_cons_succ]
  rw [hall 7 (by decide), hall 8 (by decide), hall 11 (by decide)] at hW
  go_end0
  refine ⟨rfl, g.2.1, g.2.2, ?_, hW.rw rfl, hW.tp⟩
  have h1 := hW.obj
  rw [if_pos rfl] at h1
  exact h1
end Go.Proofs.YtklnfbanfgdgcaaGreatDoor
namespace Go.Proofs.YtklnfbanfgdgcaaGreatDoor
open Go.RowKit Go.Shelf Go.Lib

theorem valB_app : ∀ (a b : List Nat) (v : Nat), valB v (a ++ b) = valB (valB v a) b
  | [], _, _ => rfl
  | x :: a, b, v => valB_app a b (v * 256 + x)
set_option maxHeartbeats 4000000 in
theorem rMay_any (r : Rec) (w : World) : Calls Tryz.prog 20 #[rV r] w fun e w' => e = .returned (.bool (decide (May r))) ∧ Below w.heap.size w w' := by
  obtain ⟨a, b, c⟩ := r
  have hx0 : (w.alloc (.cells #[.int .i64 a, .int .i64 b, .int .i64 c] 23)).heap[w.heap.size]? = some (.cells #[.int .i64 a, .int .i64 b, .int .i64 c] 23 (0, 0)) := new_at rfl
  clear hx0
  unfold rV
  dsimp only
  by_cases h1 : 1 ≤ a
  case neg =>
    rw [decide_eq_false (show ¬ May ⟨a, b, c⟩ from fun q => h1 q.1.1)]
    go_enter Tryz.func20, Tryz.ntmps20
    go_wp2
    go_ret
    exact ⟨rfl, al1'Z _ _⟩
  by_cases h2 : a ≤ 1073741824
  case neg =>
    rw [decide_eq_false (show ¬ May ⟨a, b, c⟩ from fun q => h2 q.1.2)]
    go_enter Tryz.func20, Tryz.ntmps20
    go_wp2
    go_ret
    exact ⟨rfl, al1'Z _ _⟩
  by_cases h3 : 0 ≤ b
  case neg =>
    rw [decide_eq_false (show ¬ May ⟨a, b, c⟩ from fun q => h3 q.2.1.1)]
    go_enter Tryz.func20, Tryz.ntmps20
    go_wp2
    go_ret
    exact ⟨rfl, al1'Z _ _⟩
  by_cases h4 : b ≤ 1099511627775
  case neg =>
    rw [decide_eq_false (show ¬ May ⟨a, b, c⟩ from fun q => h4 q.2.1.2)]
    go_enter Tryz.func20, Tryz.ntmps20
    go_wp2
    go_ret
    exact ⟨rfl, al1'Z _ _⟩
  by_cases h5 : 0 ≤ c
  case neg =>
    rw [decide_eq_false (show ¬ May ⟨a, b, c⟩ from fun q => h5 q.2.2.1)]
    go_enter Tryz.func20, Tryz.ntmps20
    go_wp2
    go_ret
    exact ⟨rfl, al1'Z _ _⟩
  by_cases h6 : c ≤ 1048576
  case neg =>
    rw [decide_eq_false (show ¬ May ⟨a, b, c⟩ from fun q => h6 q.2.2.2)]
    go_enter Tryz.func20, Tryz.ntmps20
    go_wp2
    go_ret
    exact ⟨rfl, al1'Z _ _⟩
  case pos =>
    rw [decide_eq_true (show May ⟨a, b, c⟩ from ⟨⟨h1, h2⟩, ⟨h3, h4⟩, h5, h6⟩)]
    go_enter Tryz.func20, Tryz.ntmps20
    go_wp2
    go_ret
    exact ⟨rfl, al1'Z _ _⟩
set_option maxHeartbeats 2000000 in
set_option maxRecDepth 100000 in
theorem rlay_any (w : World) (g at' n cap v : Nat) (ty : TypeId) (L : List Nat) (hg : w.heap[g]? = some (.cells (cB L).toArray ty (0, 0))) (hL : L.length = 64) (ho : at' + n ≤ 64) (hn : n ≤ 8) : Calls Tryz.prog 21 #[.slice (some ⟨g, 0, none⟩) 64 cap, .int .i64 (at' : Int), .int .i64 (n : Int), .int .i64 (v : Int)] w fun e w' => e = .returned (.tuple #[]) ∧ w'.heap[g]? = some (.cells (cB (splice L at' (numB v n))).toArray ty (0, 0)) ∧ TpZ g w w' := by
  go_enter Tryz.func21, Tryz.ntmps21
  go_wp2
  go_loopw [8] (fun i wz => ∃ (k : Nat) (C : List Nat), i = .int .i64 k ∧ k ≤ n ∧ Hid (C = splice L at' ((numB v n).take k)) ∧ C.length = 64 ∧ wz.heap[g]? = some (.cells (cB C).toArray ty (0, 0)) ∧ TpZ g w wz) (fun i _ => n - vnatZ i)
  case atStart => exact ⟨0, L, rfl, Nat.zero_le _, by show L = _; rw [List.take_zero, splice_nil], hL, hg, TpZ.of _ (Below.refl _ _)⟩
  case round =>
    obtain ⟨k, C, rfl, hk, HC, hCl, hgz, ht⟩ := hrel
    by_cases hkl : k < n
    · have hki : (k : Int) < (n : Int) := by omega
      obtain ⟨j, hj⟩ : ∃ j, n - 1 - k = j := ⟨_, rfl⟩
      have hget := numB_get v n k hkl
      rw [hj] at hget
      have HN : Hid (C.set (at' + k) (v / 2 ^ (8 * j) % 256) = splice L at' ((numB v n).take (k + 1))) := by
        show C.set (at' + k) (v / 2 ^ (8 * j) % 256) = splice L at' ((numB v n).take (k + 1))
        rw [HC.out]
        exact splice_step hget (by rw [numB_len]; omega)
      have h8 : (8 : Int) * ((n : Int) - 1 - (k : Int)) = ((8 * j : Nat) : Int) := by omega
      have hby := byte_of v (8 * j)
      obtain ⟨D, hD⟩ : ∃ D : Nat, D = v / 2 ^ (8 * j) % 256 := ⟨_, rfl⟩
      rw [← hD] at hby HN hget
      clear hD HC
      obtain ⟨q, hq⟩ : ∃ q, at' + k = q := ⟨_, rfl⟩
      obtain ⟨x, hx⟩ := get_lt (l := C) (k := q) (by omega)
      have c0 : wr.cell? ⟨g, q, none⟩ = some (.int .u8 (x : Int)) := by rw [cell_at hgz, List.getElem?_toArray]; exact cB_get hx
      have z0 := thaw_at hgz q
      have hz1 : (at' : Int) + (k : Int) = (q : Int) := by omega
      have hz2 : (q : Int) < 64 := by omega
      rw [hq] at HN
      clear hget hq
      go_wp2
      go_roundw
      case rel =>
        refine ⟨k + 1, C.set q D, by simp, by omega, HN, by simp [hCl], ?_, ht.trans (TpZ.set _ _ _ _)⟩
        rw [heap_setCell_same _ _ _ _ _ _ hgz, List.setIfInBounds_toArray]
        simp [cB, List.map_set]
      case measure => simp [vnatZ]; omega
    · have hkk : k = n := by omega
      subst hkk
      have hki : ¬ ((k : Int) < (k : Int)) := by omega
      have HE : Hid (C = splice L at' (numB v k)) := by have := HC.out; rw [List.take_of_length_le (by rw [numB_len]; omega)] at this; exact this
      clear HC
      go_wp2
      go_end0
      exact ⟨rfl, by rw [← HE.out]; exact hgz, ht⟩
set_option maxHeartbeats 2000000 in
set_option maxRecDepth 100000 in
theorem rvalue_any (ad : Option Addr) (cap at' n : Nat) (l : List Nat) (w : World) (h : RdB w ad l) (hb : Byt l) (hl : l.length = 64) (ho : at' + n ≤ 64) (hn : n ≤ 8) (hv : ∀ k, k < n → valB 0 (((l.drop at').take n).take k) < 36028797018963968) : Calls Tryz.prog 273 #[.slice ad 64 cap, .int .i64 (at' : Int), .int .i64 (n : Int)] w fun e w' => e = .returned (.int .i64 ((valB 0 ((l.drop at').take n) : Nat) : Int)) ∧ w' = w := by
  obtain ⟨g, off, e1, hbl, hat⟩ := h (fun e => by subst e; simp at hl)
  subst e1
  obtain ⟨X, hX⟩ : ∃ X, (l.drop at').take n = X := ⟨_, rfl⟩
  have hXl : X.length = n := by rw [← hX, List.length_take, List.length_drop]; omega
  have hXb : Byt X := by rw [← hX]; exact (hb.drop _).take _
  have hXa : ∀ (k x : Nat), X[k]? = some x → w.cell? ⟨g, off + (at' + k), none⟩ = some (.int .u8 (x : Int)) := fun k x hk => by
    have hk2 : k < X.length := (List.getElem?_eq_some_iff.1 hk).1
    rw [← hX, List.getElem?_take_of_lt (by omega), List.getElem?_drop] at hk
    exact hat _ _ hk
  rw [hX] at hv ⊢
  clear hX hat
  go_enter Tryz.func273, Tryz.ntmps273
  go_wp2
  go_loopw [7, 8] (fun p i wz => ∃ (k a : Nat), p = .int .i64 (a : Int) ∧ i = .int .i64 k ∧ k ≤ n ∧ Hid (a = valB 0 (X.take k)) ∧ wz = w) (fun _ i _ => n - vnatZ i)
  case atStart => exact ⟨0, 0, rfl, rfl, Nat.zero_le _, rfl, rfl⟩
  case round =>
    obtain ⟨k, a, rfl, rfl, hk, HA, rfl⟩ := hrel
    by_cases hkl : k < n
    · have hki : (k : Int) < (n : Int) := by omega
      obtain ⟨x, hx⟩ := get_lt (l := X) (k := k) (by omega)
      have c0 := hXa k x hx
      have hx8 := byt_get8 hXb hx
      have ha : a < 36028797018963968 := by rw [HA.out]; exact hv k hkl
      have HN : Hid (a * 256 + x = valB 0 (X.take (k + 1))) := by
        obtain ⟨hlt, rfl⟩ := List.getElem?_eq_some_iff.1 hx
        show a * 256 + X[k] = _
        rw [HA.out, ← List.take_append_getElem hlt, valB_app]
        rfl
      obtain ⟨q, hq⟩ : ∃ q, at' + k = q := ⟨_, rfl⟩
      rw [hq] at c0
      have hz1 : (at' : Int) + (k : Int) = (q : Int) := by omega
      have hz2 : (q : Int) < 64 := by omega
      clear HA hv hq hx
      go_wp2
      go_roundw
      case rel => exact ⟨k + 1, a * 256 + x, by simp, by simp, by omega, HN, trivial⟩
      case measure => simp [vnatZ]; omega
    · have hkk : k = n := by omega
      subst hkk
      have hki : ¬ ((k : Int) < (k : Int)) := by omega
      have HE : Hid (a = valB 0 X) := by have := HA.out; rw [List.take_of_length_le (by omega)] at this; exact this
      clear HA hv
      go_wp2
      go_ret
      exact ⟨by rw [← HE.out]; rfl, rfl⟩
/-- While the document lays a slot's bytes. -/
def JE (w : World) (g : Nat) (E : Array Value) (L : List Nat) (V : World) : Prop := V.heap[w.heap.size]? = some (.cells E 23 (0, 0)) ∧ V.heap[g]? = some (.cells (cB L).toArray 5 (0, 0)) ∧ L.length = 64 ∧ w.heap.size < g ∧ Below w.heap.size w V
theorem JE.lay {w V : World} {g : Nat} {E : Array Value} {L : List Nat} (h : JE w g E L V) (off n cap v : Nat) (ho : off + n ≤ 64) (hn : n ≤ 8) : Calls Tryz.prog 21 #[.slice (some ⟨g, 0, none⟩) 64 cap, .int .i64 (off : Int), .int .i64 (n : Int), .int .i64 (v : Int)] V fun e V' => e = .returned (.tuple #[]) ∧ JE w g E (splice L off (numB v n)) V' := by
  obtain ⟨h1, h2, h3, h4, h5⟩ := h
  refine (rlay_any V g off n cap v _ L h2 h3 ho hn).mono ?_
  rintro e V' ⟨rfl, hg, ht⟩
  exact ⟨rfl, (ht.block _ (lt_at h1) (by omega)).trans h1, hg, (length_splice _ _ _ (by rw [numB_len]; omega)).trans h3, h4, h5.trans (ht.below (by omega) h5.size)⟩
theorem JE.c {w V : World} {g : Nat} {E : Array Value} {L : List Nat} (h : JE w g E L V) (k : Nat) (x : Value) (hk : E[k]? = some x) : V.cell? ⟨w.heap.size, k, none⟩ = some x := by
  rw [cell_at h.1]
  exact hk
theorem JE.copy {w V : World} {g : Nat} {E : Array Value} {L : List Nat} (h : JE w g E L V) (off n cap m : Nat) (s : ByteArray) (hs : s.size = 4) (hn : 4 ≤ n) (ho : off + 4 ≤ 64) (hd : byteCells s.data.toList = cB (numB m 4)) : ∃ V', (Builtin.copy_ #[30, 9] 3 #[.slice (some ⟨g, off, none⟩) n cap, .string s]).run Tryz.prog V = .ok (goInt 4) V' ∧ JE w g E (splice L off (numB m 4)) V' := by
  obtain ⟨h1, h2, h3, h4, h5⟩ := h
  have hr := run_copy_row_string (P := Tryz.prog) V 30 9 3 5 g off n cap s (cB L).toArray 5 Tryz.underlying30 infoB1 h2 (by omega) (by rw [List.size_toArray, cB_len, hs]; omega)
  rw [hd, hs] at hr
  refine ⟨_, hr, (setRow_other _ _ _ _ (by omega)).trans h1, (setRow_heap _ _ _ _ _ _ h2).trans ?_, (length_splice _ _ _ (by rw [numB_len]; omega)).trans h3, h4, below_setRow h5 (by omega) _⟩
  simp [splice, cB, numB_len, List.map_take, List.map_drop]
theorem mk64 (w : World) : (Instr.makeSlice 30 (.int .i64 64) (.int .i64 64)).run Tryz.prog w = .ok (.slice (some ⟨w.heap.size, 0, none⟩) 64 64) (w.alloc (.cells (cB z64).toArray 5)) := by kernel_rfl
set_option maxHeartbeats 4000000 in
set_option maxRecDepth 100000 in
theorem rEnc_any (r : Rec) (s : Int) (w : World) : Calls Tryz.prog 7 #[rV r, .int .i64 s] w fun e w' => (Fit r s → ∃ g, e = .returned (.tuple #[.slice (some ⟨g, 0, none⟩) 64 64, .int .i64 0]) ∧ w.heap.size ≤ g ∧ w'.heap[g]? = some (.cells (cB (slB r s)).toArray 5 (0, 0))) ∧ (¬ Fit r s → e = .returned (.tuple #[.slice none 0 0, .int .i64 1])) ∧ Below w.heap.size w w' := by
  have hmy := rMay_any r
  unfold rV at hmy ⊢
  by_cases hm : May r
  case neg =>
    rw [decide_eq_false hm] at hmy
    have hf : ¬ Fit r s := fun q => hm q.1
    go_enter Tryz.func7, Tryz.ntmps7
    go_wp2_with (go_at_call 20; (with_reducible refine (hmy _).mono ?_); rintro e u1 ⟨rfl, hu1⟩)
    go_ret2
    exact ⟨fun q => absurd q hf, fun _ => rfl, bel2Z (al1'Z _ _) hu1⟩
  rw [decide_eq_true hm] at hmy
  by_cases h1 : 1 ≤ s
  case neg =>
    have hf : ¬ Fit r s := fun q => h1 q.2.1
    have h1i : s < 1 := by omega
    go_enter Tryz.func7, Tryz.ntmps7
    go_wp2_with (go_at_call 20; (with_reducible refine (hmy _).mono ?_); rintro e u1 ⟨rfl, hu1⟩)
    go_ret2
    exact ⟨fun q => absurd q hf, fun _ => rfl, bel2Z (al1'Z _ _) hu1⟩
  have h1i : ¬ s < 1 := by omega
  by_cases h2 : s ≤ 1099511627776
  case neg =>
    have hf : ¬ Fit r s := fun q => h2 q.2.2
    have h2i : s > 1099511627776 := by omega
    go_enter Tryz.func7, Tryz.ntmps7
    go_wp2_with (go_at_call 20; (with_reducible refine (hmy _).mono ?_); rintro e u1 ⟨rfl, hu1⟩)
    go_ret2
    exact ⟨fun q => absurd q hf, fun _ => rfl, bel2Z (al1'Z _ _) hu1⟩
  have h2i : ¬ s > 1099511627776 := by omega
  have hf : Fit r s := ⟨hm, h1, h2⟩
  obtain ⟨⟨a1, a2⟩, ⟨b1, b2⟩, c1, c2⟩ := hm
  obtain ⟨ra, rb, rc⟩ := r
  dsimp only at a1 a2 b1 b2 c1 c2 hmy ⊢
  obtain ⟨a, rfl⟩ := Int.eq_ofNat_of_zero_le (show 0 ≤ ra by omega)
  obtain ⟨b, rfl⟩ := Int.eq_ofNat_of_zero_le (show 0 ≤ rb by omega)
  obtain ⟨c, rfl⟩ := Int.eq_ofNat_of_zero_le (show 0 ≤ rc by omega)
  obtain ⟨s, rfl⟩ := Int.eq_ofNat_of_zero_le (show 0 ≤ s by omega)
  have HSL : Hid (slB ⟨(a : Int), (b : Int), (c : Int)⟩ (s : Int) = slN a b c s) := by show slN _ _ _ _ = _; simp
  have HF : Hid (Fit ⟨(a : Int), (b : Int), (c : Int)⟩ (s : Int)) := hf
  clear hf a1 a2 b1 b2 c1 c2
  have hmk := mk64
  obtain ⟨Z, hZ⟩ : ∃ Z, (cB z64).toArray = Z := ⟨_, rfl⟩
  rw [hZ] at hmk
  obtain ⟨E, hE⟩ : ∃ E : Array Value, #[.int .i64 (a : Int), .int .i64 (b : Int), .int .i64 (c : Int)] = E := ⟨_, rfl⟩
  simp only [hE] at hmy
  obtain ⟨w1, hw1⟩ : ∃ w1, w.alloc (.cells E 23) = w1 := ⟨_, rfl⟩
  have hb1 : Below w.heap.size w w1 := by rw [← hw1]; exact al1'Z _ _
  have hg1 : w1.heap[w.heap.size]? = some (.cells E 23 (0, 0)) := by rw [← hw1]; exact new_at rfl
  have e0 : E[0]? = some (.int .i64 (a : Int)) := by rw [← hE]; rfl
  have e1 : E[1]? = some (.int .i64 (b : Int)) := by rw [← hE]; rfl
  have e2 : E[2]? = some (.int .i64 (c : Int)) := by rw [← hE]; rfl
  have HE0 : Hid (E[0]? = some (.int .i64 (a : Int))) := e0
  have HE1 : Hid (E[1]? = some (.int .i64 (b : Int))) := e1
  have HE2 : Hid (E[2]? = some (.int .i64 (c : Int))) := e2
  have x0 : w1.cell? ⟨w.heap.size, 0, none⟩ = some (.int .i64 (a : Int)) := by rw [cell_at hg1]; exact e0
  have x1 : w1.cell? ⟨w.heap.size, 1, none⟩ = some (.int .i64 (b : Int)) := by rw [cell_at hg1]; exact e1
  have x2 : w1.cell? ⟨w.heap.size, 2, none⟩ = some (.int .i64 (c : Int)) := by rw [cell_at hg1]; exact e2
  clear e0 e1 e2
  go_enter Tryz.func7, Tryz.ntmps7
  go_wp2_with (first | (go_at_call 20; (with_reducible refine (hmy _).mono ?_); rintro e u1 ⟨rfl, hu1⟩; obtain ⟨u2, hu2⟩ : ∃ u2, u1.alloc (.cells Z 5) = u2 := ⟨_, rfl⟩; have j0 : JE w u1.heap.size E z64 u2 := (by rw [← hu2, ← hZ]; exact ⟨old_at ((hu1.block _ (lt_at hg1)).trans hg1), new_at rfl, by simp [z64], Nat.lt_of_lt_of_le (lt_at hg1) hu1.size, bel2Z (bel2Z hb1 hu1) (al1'Z _ _)⟩); obtain ⟨v1, hcp, j1⟩ := j0.copy 0 64 64 1700885041 ⟨#[101, 97, 114, 49]⟩ rfl (by omega) (by omega) rfl; have hl1 : Calls Tryz.prog 21 #[.slice (some ⟨u1.heap.size, 0, none⟩) 64 64, .int .i64 4, .int .i64 8, .int .i64 (s : Int)] v1 (fun e V' => e = .returned (.tuple #[]) ∧ JE w u1.heap.size E (splice (splice z64 0 (numB 1700885041 4)) 4 (numB s 8)) V') := j1.lay 4 8 64 s (by omega) (by omega)) | (go_at_call 21; (with_reducible refine hl1.mono ?_); rintro e v2 ⟨rfl, j2⟩; clear hl1; have y0 := j2.c 0 _ HE0.out; have y1 := j2.c 1 _ HE1.out; have hl2 : Calls Tryz.prog 21 #[.slice (some ⟨u1.heap.size, 0, none⟩) 64 64, .int .i64 12, .int .i64 4, .int .i64 (a : Int)] v2 (fun e V' => e = .returned (.tuple #[]) ∧ JE w u1.heap.size E (splice (splice (splice z64 0 (numB 1700885041 4)) 4 (numB s 8)) 12 (numB a 4)) V') := j2.lay 12 4 64 a (by omega) (by omega)) | (go_at_call 21; (with_reducible refine hl2.mono ?_); rintro e v3 ⟨rfl, j3⟩; clear hl2; have y2 := j3.c 0 _ HE0.out; have y3 := j3.c 1 _ HE1.out; have hl3 : Calls Tryz.prog 21 #[.slice (some ⟨u1.heap.size, 0, none⟩) 64 64, .int .i64 16, .int .i64 5, .int .i64 (b : Int)] v3 (fun e V' => e = .returned (.tuple #[]) ∧ JE w u1.heap.size E (splice (splice (splice (splice z64 0 (numB 1700885041 4)) 4 (numB s 8)) 12 (numB a 4)) 16 (numB b 5)) V') := j3.lay 16 5 64 b (by omega) (by omega)) | (go_at_call 21; (with_reducible refine hl3.mono ?_); rintro e v4 ⟨rfl, j4⟩; clear hl3; obtain ⟨v5, hcq, j5⟩ := j4.copy 32 32 32 1700885042 ⟨#[101, 97, 114, 50]⟩ rfl (by omega) (by omega) rfl; have hl4 : Calls Tryz.prog 21 #[.slice (some ⟨u1.heap.size, 0, none⟩) 64 64, .int .i64 36, .int .i64 8, .int .i64 (s : Int)] v5 (fun e V' => e = .returned (.tuple #[]) ∧ JE w u1.heap.size E (splice (splice (splice (splice (splice (splice z64 0 (numB 1700885041 4)) 4 (numB s 8)) 12 (numB a 4)) 16 (numB b 5)) 32 (numB 1700885042 4)) 36 (numB s 8)) V') := j5.lay 36 8 64 s (by omega) (by omega)) | (go_at_call 21; (with_reducible refine hl4.mono ?_); rintro e v6 ⟨rfl, j6⟩; clear hl4; have y4 := j6.c 2 _ HE2.out; have hl5 : Calls Tryz.prog 21 #[.slice (some ⟨u1.heap.size, 0, none⟩) 64 64, .int .i64 44, .int .i64 3, .int .i64 (c : Int)] v6 (fun e V' => e = .returned (.tuple #[]) ∧ JE w u1.heap.size E (splice (splice (splice (splice (splice (splice (splice z64 0 (numB 1700885041 4)) 4 (numB s 8)) 12 (numB a 4)) 16 (numB b 5)) 32 (numB 1700885042 4)) 36 (numB s 8)) 44 (numB c 3)) V') := j6.lay 44 3 64 c (by omega) (by omega)) | (go_at_call 21; (with_reducible refine hl5.mono ?_); rintro e v7 ⟨rfl, j7⟩; clear hl5; skip))
  go_ret2
  have hfin : JE w u1.heap.size E (slN a b c s) v7 := j7
  exact ⟨fun _ => ⟨_, rfl, Nat.le_of_lt hfin.2.2.2.1, by rw [HSL.out]; exact hfin.2.1⟩, fun q => absurd HF.out q, hfin.2.2.2.2⟩
end Go.Proofs.YtklnfbanfgdgcaaGreatDoor
