/- node's send: what it answers. -/
import Derived.Test.YtklnfbanfgdgcaaGreatDoorJnJ17
import Derived.Test.YtklnfbanfgdgcaaGreatDoorJnJ19
import Derived.RangeFuncNested
import Derived.RangeFuncBound
import Derived.RangeFuncCalls
import Derived.Test.YtklnfbanfgdgcaaGreatDoorJnJ5
import Derived.ProofKit
import Derived.OpenShut
import Derived.Laws.IdiomArrays
import Derived.Test.YtklnfbanfgdgcaaGreatDoorJnJ18
import Derived.Shelf.Abstract
import Derived.Shelf.RegionOpen
import Derived.WalkKit
import Derived.WalkSpells
import Derived.OwnWalkIn
import Derived.TacticsInMore
import Derived.LoopNIn
import Derived.LoopIn
import Derived.Lib.OthersKept
set_option maxHeartbeats 40000000
set_option maxRecDepth 100000
set_option linter.unusedVariables false
namespace Go.Proofs.YtklnfbanfgdgcaaGreatDoor
open Go.RowKit Go.Shelf Go.Lib
attribute [local go_sem] Oper.semAt_some

section
variable {P : Program} {md : Region.Mode} {ops : Array Oper} {Q : Exit → Act → World → Prop} {X0 : Array Value} {val : Nat → Value} {J J' : World → Prop} {i : Nat} {o : Oper}
theorem step_mkf (hi : ops[i]? = some o) (hg : GOk md ops X0 val i o) (fn : Fn) (x : Operand) (v : Value) (ho : o.op = .makeFunc fn #[x] #[]) (hx : rdo md ops X0 val i o x = some v) (hr : ∀ w, (Instr.makeFunc fn #[v] #[]).run P w = .ok (.func fn #[v] #[]) w) (hv : val i = .func fn #[v] #[]) : StepAt P md ops Q X0 val J J i o :=
  step_of hi hg fun a w hJ hS => by
    unfold Oper.wp execOp
    simp [ho, hS.eval hx, Oper.upon_value, hv, hJ, hr]
theorem step_nilF (hi : ops[i]? = some o) (hg : GOk md ops X0 val i o) (x : Operand) (name : String) (T : TypeId) (u : Value) (ho : o.op = .nilCheck x) (hx : rdo md ops X0 val i o x = some (.func (Fn.method name) #[.iface T u] #[])) (hn : ∀ w, (nilAhead (P.types.size + Made.depth) T u name).run P w = .ok (some false) w) (hv : val i = .func (Fn.method name) #[.iface T u] #[]) : StepAt P md ops Q X0 val J J i o :=
  step_of hi hg fun a w hJ hS => by
    unfold Oper.wp execOp
    simp [ho, hS.eval hx, Oper.upon_value, hv, hJ, hn, Result.andThen]
end
theorem stepG_inv1 {G : Type} {P : Program} {md : Region.Mode} {ops : Array Oper} {Q : Exit → Act → World → Prop} {X0 : Array Value} {val : G → Nat → Value} {J : G → (Nat → Bool) → World → Prop} {i : Nat} {o : Oper}
    (hi : ops[i]? = some o) (hg : ∀ g, GOk md ops X0 (val g) i o) (f : FuncId) (x y : Operand) (ts : Array TypeId) (name : String) (r z : Value) (vs : List Value) (ho : o.op = .call { callee := .invoke x name, args := #[y], argTypes := ts })
    (hx : ∀ g, rdo md ops X0 (val g) i o x = some r) (hy : ∀ g, rdo md ops X0 (val g) i o y = some z) (hen : ∀ w, (callMethod r name #[z]).run P w = .ok (.enter f vs.toArray) w)
    (hc : ∀ g d w, J g d w → d i = false → (∀ j, bindsOn md o j = true → d j = true) → (∀ j oj, ops[j]? = some oj → d j = true → ∀ k, bindsOn md oj k = true → d k = true) → Calls P f vs.toArray w fun e w' => ∃ g', e = .returned (val g' i) ∧ (∀ j, d j = true → val g' j = val g j) ∧ J g' (fun j => if j = i then true else d j) w') : StepG P md ops Q X0 val J i o := by
  intro g d a w hJ hun hdep hcl hS
  unfold wpOp
  rw [hi]
  have hS' : Seen md ops X0 (val g) i o a := hS
  simp only [wanted_of hS' (hg g), if_true]
  refine .inl ?_
  unfold Oper.wp execOp
  have e2 : a.eval x = r := hS'.eval (hx g)
  have e5 : a.eval y = z := hS'.eval (hy g)
  have e3 : (#[r, z] : Array Value)[0]? = some r := rfl
  have e4 : (#[r, z] : Array Value).extract 1 (#[r, z] : Array Value).size = #[z] := rfl
  have e6 : (#[r] : Array Value) ++ #[z] = #[r, z] := rfl
  simp only [ho, resolve, e2, e5, Sem.run_bind, Sem.run_pure, Result.andThen_ok, invoke, List.map_toArray, List.map_cons, List.map_nil, e6, e3, e4, hen, Oper.upon_enter]
  refine (hc g d w hJ hun hdep hcl).mono ?_
  rintro e' w' ⟨g', rfl, h1, h2⟩
  exact ⟨g', h1, rfl, h2⟩
theorem retO {f : Func} {p : Tmp} {R : Ending → World → Prop} {a : Act} {w : World} {b : Nat} {to : Int} {ad : Option Addr} {m c : Nat} (hres : f.results = #[.cell p 94]) (hp : a.tmps.getD p undef = .pointer (some ⟨b, 0, none⟩)) (hd : a.defers = []) (h : w.heap[b]? = some (.cells #[.int .i64 to, .slice ad m c] 94 (0, 0))) (hR : R (.returned (.agg #[.int .i64 to, .slice ad m c])) w) : bodyPost Tryz.prog f R .ret a w := by
  refine bodyPost_ret (v := .agg #[.int .i64 to, .slice ad m c]) ?_ hd hR
  have hp' : a.tmps[p]?.getD undef = .pointer (some ⟨b, 0, none⟩) := by simpa using hp
  have c0 : w.cell? ⟨b, 0, none⟩ = some (.int .i64 to) := (cell_at h 0).trans rfl
  have c1 : w.cell? ⟨b, 1, none⟩ = some (.slice ad m c) := (cell_at h 1).trans rfl
  simp [results, hres, hp', asAddr]
  go_simp
/-- While a note's bytes are made. -/
structure Jd (w : World) (L : List Nat) (g : Option Addr × Nat × Int) (d8 : Bool) (V : World) : Prop where
  bx : V.heap[w.heap.size]? = some (.cells #[.int .i64 0, .slice none 0 0] 94 (0, 0))
  be : Below w.heap.size w V
  row : d8 = true → V.ownsRow w.heap.size 5 1 (.slice g.1 L.length g.2.1) L.length (cBW L)
def SO (to : Int) (L : List Nat) (w : World) (r : Ending) (w' : World) : Prop := ∃ a c, r = .returned (.agg #[.int .i64 to, .slice a L.length c]) ∧ w'.ownsRow w.heap.size 5 1 (.slice a L.length c) L.length (cBW L) ∧ Below w.heap.size w w'
set_option maxHeartbeats 4000000 in
set_option maxRecDepth 100000 in
theorem send_of {w : World} {x : Nat} {vb : Option Addr} {n f s : Int} {vk : Option Addr} {H : Nat} {vt : Option Addr} {vp : Value} (h : Nb w x vb n f s vk H vt vp) (to : Int) (T : TypeId) (v : Value) (F : FuncId) (L : List Nat)
    (hcm : ∀ w, (callMethod (.iface T v) "Bytes" #[.int .i64 n]).run Tryz.prog w = .ok (.enter F #[v, .int .i64 n]) w)
    (hna : ∀ w, (nilAhead (Tryz.prog.types.size + Made.depth) T v "Bytes").run Tryz.prog w = .ok (some false) w)
    (hby : ∀ W, Below w.heap.size w W → Calls Tryz.prog F #[v, .int .i64 n] W fun e w' => ∃ a c E, e = .returned (.tuple #[.slice a L.length c, .int .i64 E]) ∧ w'.ownsRow W.heap.size 5 1 (.slice a L.length c) L.length (cBW L) ∧ Below W.heap.size W w') :
    Calls Tryz.prog 171 #[.pointer (some ⟨x, 0, none⟩), .int .i64 to, .iface T v] w (SO to L w) := by
  have hmx : Tryz.prog.follows .mixedOrders = true := by kernel_rfl
  have hmf : ∀ w, (Instr.makeFunc (Fn.method "Bytes") #[.iface T v] #[]).run Tryz.prog w = .ok (.func (Fn.method "Bytes") #[.iface T v] #[]) w := by intro w; go_simp
  obtain ⟨w1, hw1⟩ : ∃ w1, w.alloc (.cells #[.int .i64 0, .slice none 0 0] 94) = w1 := ⟨_, rfl⟩
  have hb1 : Below w.heap.size w w1 := by rw [← hw1]; exact al1' _ _
  have g1 : w1.heap[w.heap.size]? = some (.cells #[.int .i64 0, .slice none 0 0] 94 (0, 0)) := by rw [← hw1]; exact new_at rfl
  go_enter Tryz.func171, Tryz.ntmps171
  go_wp2
  rename_i hK
  refine wp_region_any hmx ?_
  refine wpAny_tabG (G := (Option Addr × Nat × Int)) (fun g i__ => ([(.iface T v), (.pointer (some ⟨x, 0, none⟩)), (.pointer (some ⟨x, 0, none⟩)), (.pointer (some ⟨x, 1, none⟩)), (.int .i64 n), (.func (Fn.method "Bytes") #[.iface T v] #[]), (.func (Fn.method "Bytes") #[.iface T v] #[]), (.iface T v), (.tuple #[.slice g.1 L.length g.2.1, .int .i64 g.2.2]), (.tuple #[.slice g.1 L.length g.2.1, .int .i64 g.2.2]), (.slice g.1 L.length g.2.1), (.int .i64 g.2.2), (.slice g.1 L.length g.2.1), (.int .i64 g.2.2)] : List Value).getD i__ undef) (fun g d V => Jd w L g (d 8) V) (by kernel_rfl) ((none, 0, 0)) (show Jd w L (none, 0, 0) false _ from ⟨g1, hb1.drew, fun e => (by cases e)⟩) ?step7 ?fin7
  case step7 =>
    intro i o ho
    have hi : i < 14 := getElem?_lt ho
    match i, hi, ho with
    | 0, _, ho =>
      cases ho
      refine stepG_of (fun g d hdep => ?_)
      exact step_move rfl trivial _ rfl (by kernel_rfl)
    | 1, _, ho =>
      cases ho
      refine stepG_of (fun g d hdep => ?_)
      exact step_move rfl trivial _ rfl (by kernel_rfl)
    | 2, _, ho =>
      cases ho
      refine stepG_of (fun g d hdep => ?_)
      exact step_nilCheck rfl trivial _ _ _ rfl rfl rfl
    | 3, _, ho =>
      cases ho
      refine stepG_of (fun g d hdep => ?_)
      exact step_fieldAddr rfl trivial _ _ _ _ rfl rfl (fun v hw => (field_nd v _).2.1)
    | 4, _, ho =>
      cases ho
      refine stepG_of (fun g d hdep => ?_)
      exact step_load rfl trivial _ _ _ rfl rfl (fun v hw => load_in (h.carry hw.be).c1)
    | 5, _, ho =>
      cases ho
      exact stepG_of (fun g d hdep => step_mkf rfl trivial _ _ (.iface T v) rfl (by kernel_rfl) hmf rfl)
    | 6, _, ho =>
      cases ho
      exact stepG_of (fun g d hdep => step_nilF rfl trivial _ "Bytes" T v rfl (by kernel_rfl) hna rfl)
    | 7, _, ho =>
      cases ho
      refine stepG_of (fun g d hdep => ?_)
      exact step_move rfl trivial _ rfl (by kernel_rfl)
    | 8, _, ho =>
      cases ho
      exact stepG_inv1 rfl (fun _ => trivial) F _ _ _ "Bytes" (.iface T v) (.int .i64 n) [v, .int .i64 n] rfl (fun g => by kernel_rfl) (fun g => by kernel_rfl) hcm (fun g d V hJ hun hdep hcl => (hby V hJ.be).mono (by rintro e V' ⟨a, c, E, rfl, h1, h2⟩; refine ⟨(a, c, E), rfl, (fun j hj => match j, hj with | 8, hj => (by rw [hj] at hun; cases hun) | 9, hj => absurd ((hcl 9 _ rfl hj 8 (by kernel_rfl))) (by rw [hun]; simp) | 10, hj => absurd ((hcl 9 _ rfl (hcl 10 _ rfl hj 9 (by kernel_rfl)) 8 (by kernel_rfl))) (by rw [hun]; simp) | 11, hj => absurd ((hcl 9 _ rfl (hcl 11 _ rfl hj 9 (by kernel_rfl)) 8 (by kernel_rfl))) (by rw [hun]; simp) | 12, hj => absurd ((hcl 9 _ rfl (hcl 10 _ rfl (hcl 12 _ rfl hj 10 (by kernel_rfl)) 9 (by kernel_rfl)) 8 (by kernel_rfl))) (by rw [hun]; simp) | 13, hj => absurd ((hcl 9 _ rfl (hcl 11 _ rfl (hcl 13 _ rfl hj 11 (by kernel_rfl)) 9 (by kernel_rfl)) 8 (by kernel_rfl))) (by rw [hun]; simp) | 0, _ => rfl | 1, _ => rfl | 2, _ => rfl | 3, _ => rfl | 4, _ => rfl | 5, _ => rfl | 6, _ => rfl | 7, _ => rfl | _ + 14, _ => rfl), ?_⟩; show Jd w L _ true V'; exact ⟨(h2.block _ (lt_at hJ.bx)).trans hJ.bx, bel2 hJ.be h2, fun _ => row_base h1 hJ.be.size⟩))
    | 9, _, ho =>
      cases ho
      refine stepG_of (fun g d hdep => ?_)
      exact step_move rfl trivial _ rfl (by kernel_rfl)
    | 10, _, ho =>
      cases ho
      refine stepG_of (fun g d hdep => ?_)
      exact step_extract rfl trivial _ _ _ rfl rfl (fun v hw => rfl)
    | 11, _, ho =>
      cases ho
      refine stepG_of (fun g d hdep => ?_)
      exact step_extract rfl trivial _ _ _ rfl rfl (fun v hw => rfl)
    | 12, _, ho =>
      cases ho
      refine stepG_of (fun g d hdep => ?_)
      exact step_assign rfl trivial _ rfl (by kernel_rfl) (fun _ h => h)
    | 13, _, ho =>
      cases ho
      refine stepG_of (fun g d hdep => ?_)
      exact step_assign rfl trivial _ rfl (by kernel_rfl) (fun _ h => h)
  intro g d W hall hW
  first | refine hK _ _ ?_ | refine (‹∀ (a : Act) (w : World), Code.wp Tryz.prog _ _ a w → _›) _ _ ?_ | skip
  simp only [finL, List.getD_cons_zero, List.getD_cons_succ, Nat.zero_add, Nat.reduceAdd, List.setIfInBounds_toArray, List.set_cons_zero, List.set_cons_succ]
  rw [hall 8 (by decide)] at hW
  have c0 : W.cell? ⟨w.heap.size, 0, none⟩ = some (.int .i64 0) := (cell_at hW.bx 0).trans rfl
  have c1 : W.cell? ⟨w.heap.size, 1, none⟩ = some (.slice none 0 0) := (cell_at hW.bx 1).trans rfl
  have z0 := thaw_at hW.bx 0
  have z1 := thaw_at hW.bx 1
  have hr := hW.row rfl
  have HW : Hid (Jd w L g true W) := hW
  clear hK hW hw1 g1
  go_wp2
  have h0 := heap_setCell_same _ _ 0 _ _ (.int .i64 to) HW.out.bx
  have h1 := heap_setCell_same _ _ 1 _ _ (.slice g.1 L.length g.2.1) h0
  refine retO rfl rfl rfl h1 ⟨g.1, g.2.1, rfl, ?_, (HW.out.be.setCell (Nat.le_refl _) _).setCell (Nat.le_refl _) _⟩
  have hne : (Value.slice g.1 L.length g.2.1).ownBlock ≠ some w.heap.size := row_type hr HW.out.bx (by decide)
  exact row_other (row_other hr hne _) hne _
theorem cmQ_Bytes (v : Value) (n : Value) (w : World) : (callMethod (.iface 248 v) "Bytes" #[n]).run Tryz.prog w = .ok (.enter 333 #[v, n]) w := by kernel_rfl
theorem naQ (v : Value) (w : World) : (nilAhead (Tryz.prog.types.size + Made.depth) 248 v "Bytes").run Tryz.prog w = .ok (some false) w := by kernel_rfl
theorem BO.own {kd : Nat} {n fr rd : Int} {N : Nat} {l : List (Int × Int × Int)} {w w' : World} {e : Ending} (h : BO kd n fr rd N l w e w') : ∃ a c E, e = .returned (.tuple #[.slice a (fb7 kd n fr rd N l).length c, .int .i64 E]) ∧ w'.ownsRow w.heap.size 5 1 (.slice a (fb7 kd n fr rd N l).length c) (fb7 kd n fr rd N l).length (cBW (fb7 kd n fr rd N l)) ∧ Below w.heap.size w w' := by
  obtain ⟨b, he, ho, hb⟩ := h
  have ho' := ho.out
  rcases own_form ho' with ⟨e1, e2⟩ | ⟨g, c, e1, _⟩
  · refine ⟨none, 0, _, by rw [he, e1, e2], ?_, hb⟩
    rw [e1] at ho'
    rw [e2] at ho' ⊢
    exact ho'
  · subst e1
    exact ⟨_, c, _, he, ho', hb⟩
theorem sendQ {w : World} {x : Nat} {vb : Option Addr} {n f s : Int} {vk : Option Addr} {H : Nat} {vt : Option Addr} {vp : Value} (h : Nb w x vb n f s vk H vt vp) (to fr rd : Int) (ad : Option Addr) (cap : Nat) (l : List (Int × Int × Int)) (hr : RdN w ad l) (hl : l.length ≤ 6000000000000) :
    Calls Tryz.prog 171 #[.pointer (some ⟨x, 0, none⟩), .int .i64 to, .iface 248 (.agg #[.int .i64 fr, .int .i64 rd, .slice ad l.length cap])] w (SO to (fb7 1 n fr rd 0 l) w) :=
  send_of h to _ _ _ _ (fun w => cmQ_Bytes _ _ w) (fun w => naQ _ w) (fun W hb => (qbytes_any n fr rd ad cap l W (hr.carry hb) hl).mono fun _ _ h => h.own)
end Go.Proofs.YtklnfbanfgdgcaaGreatDoor
namespace Go.Proofs.YtklnfbanfgdgcaaGreatDoor
open Go.RowKit

/-- Block bx and the m blocks from B on lie as they lay; no block has gone. -/
structure Kept (bx B m : Nat) (W W' : World) : Prop where
  size : W.heap.size ≤ W'.heap.size
  box : W'.heap[bx]? = W.heap[bx]?
  rng : ∀ k, B ≤ k → k < B + m → W'.heap[k]? = W.heap[k]?

theorem Kept.refl (bx B m : Nat) (W : World) : Kept bx B m W W := ⟨Nat.le_refl _, rfl, fun _ _ _ => rfl⟩
theorem Kept.trans {bx B m : Nat} {X Y Z : World} (h : Kept bx B m X Y) (k : Kept bx B m Y Z) : Kept bx B m X Z :=
  ⟨Nat.le_trans h.size k.size, k.box.trans h.box, fun i h1 h2 => (k.rng i h1 h2).trans (h.rng i h1 h2)⟩
theorem Kept.grown {bx B m : Nat} {W W' : World} {row : Option Nat} (hg : W.grownBy W' row) (hbx : bx < W.heap.size) (hB : B + m ≤ W.heap.size)
    (hr : ∀ k, row = some k → k ≠ bx ∧ (k < B ∨ B + m ≤ k)) : Kept bx B m W W' :=
  ⟨hg.size, hg.block bx hbx (fun e => (hr bx e.symm).1 rfl), fun k h1 h2 => hg.block k (by omega) (fun e => by have := (hr k e.symm).2; omega)⟩
theorem Kept.putObj {bx B m : Nat} {W : World} {l : Nat} (o : Obj) (h1 : l ≠ bx) (h2 : l < B ∨ B + m ≤ l) : Kept bx B m W (W.putObj l o) :=
  ⟨by simp, World.putObj_heap_other (Ne.symm h1), fun k h3 h4 => World.putObj_heap_other (by omega)⟩
theorem Kept.below {bx B m : Nat} {W W' : World} {b : Nat} (h : Below b W W') (hbx : bx < b) (hB : B + m ≤ b) : Kept bx B m W W' :=
  ⟨h.size, h.block bx hbx, fun k _ h2 => h.block k (by omega)⟩
theorem Kept.less {bx B m B' m' : Nat} {W W' : World} (h : Kept bx B m W W') (h1 : B ≤ B') (h2 : B' + m' ≤ B + m) : Kept bx B' m' W W' :=
  ⟨h.size, h.box, fun k h3 h4 => h.rng k (by omega) (by omega)⟩

theorem round_any {n n' : Nat} {P : Program} {l : Nat} {f : FuncId} {tmps : Array Value} {assign body : Code} {w : World} {R : Ending → World → Prop}
    (h : RoundIn Fence.wide n P l f tmps assign body w R) : RoundIn Fence.wide n' P l f tmps assign body w R :=
  ⟨h.1, fun c cs _ => h.2 c cs (room_wide _)⟩
theorem yield_any {n n' : Nat} {P : Program} {l : Nat} {args : Array Value} {W : World} {R : Ending → World → Prop} (h : YieldAt Fence.wide n P l args W R) : YieldAt Fence.wide n' P l args W R := by
  obtain ⟨fn, tmps, assign, body, hy, hR⟩ := h
  exact ⟨fn, tmps, assign, body, hy, round_any hR⟩
theorem calls_any {n n' : Nat} {P : Program} {f : FuncId} {args : Array Value} {w : World} {R : Ending → World → Prop} (h : CallsIn Fence.wide n P f args w R) : CallsIn Fence.wide n' P f args w R :=
  callsIn_wide.2 (callsIn_wide.1 h)

/-- The word of an iterator that gives xs, one by one: every round keeps block bx and the m blocks that the iterator lays first. -/
def SeqE {α : Type} (P : Program) (Ext : World → Prop) (g : Nat) (lb : Array Value) (encs : α → Array Value) (bx m : Nat) (xs : List α) (w : World) : Prop :=
  ∀ (l : Nat) (J Jx : List α → World → Prop) (W : World), Below w.heap.size w W → OwnFrom W.heap.size J → OwnFrom W.heap.size Jx → (∀ pre W1, J pre W1 → Ext W1) →
    (∀ pre x W1, J pre W1 → W.heap.size + m ≤ W1.heap.size → pre ++ [x] <+: xs → YieldAt Fence.wide 0 P l (encs x) W1 fun e W' =>
      Kept bx W.heap.size m W1 W' ∧ ((e = .returned (.bool true) ∧ J (pre ++ [x]) W') ∨ (e = .returned (.bool false) ∧ Jx (pre ++ [x]) W'))) →
    J [] W →
    CallsIn Fence.wide 0 P g (#[.func (.yield l) #[] #[]] ++ lb) W fun e W' => (∃ v, e = .returned v) ∧ (J xs W' ∨ ∃ pre, pre <+: xs ∧ Jx pre W')

/-- How the body of a round may be left. -/
def postM {α : Type} (bx B m : Nat) (I : List α → World → Prop) (Ix : Code → List α → World → Prop) (xs : List α) (W : World) : Exit → Act → World → Prop
  | .normal, _, W' => Kept bx B m W W' ∧ I xs W'
  | .ret, _, W' => Kept bx B m W W' ∧ Ix .ret xs W'
  | .exit id, _, W' => Kept bx B m W W' ∧ Ix (.exit id) xs W'
  | .goto t, _, W' => Kept bx B m W W' ∧ Ix (.goto t) xs W'
  | .panic _, _, _ => False
  | .outgrown, _, _ => False

/-- The statement for .. := range g, in a plain frame. -/
theorem wp_rangeE {α : Type} {P : Program} {n kb : Nat} {g : Operand} {ps : Array Tmp} {assign body : Code} {Q : Exit → Act → World → Prop} {a : Act} {w : World}
    {gf : Nat} {lb : Array Value} (hg : a.eval g = .func (.func gf) #[] lb) (eg : ∀ args w, (callFunc gf args).run P w = .ok (.enter gf args) w)
    {encs : α → Array Value} {bx m : Nat} {xs : List α} {Ext : World → Prop} (hseq : SeqE P Ext gf lb encs bx m xs w) (hbx : bx < w.heap.size) (hps : ∀ x, (encs x).size = ps.size)
    (I : List α → World → Prop) (Ix : Code → List α → World → Prop) (hI : OwnFrom w.heap.size I) (hIx : ∀ c, OwnFrom w.heap.size (Ix c)) (h0 : I [] w) (hE : ∀ pre W, I pre W → Ext W)
    (Ax : α → Act → World → Prop) (hAx : ∀ x a', OwnFrom w.heap.size (fun (_ : Unit) W => Ax x a' W))
    (hassign : ∀ (l : Nat) (pre : List α) (x : α) (W : World) (K : Act → World → Prop), I pre W → w.heap.size + (m + 2) ≤ W.heap.size →
      (∀ a' W', Kept bx w.heap.size (m + 2) W W' → I pre W' → Ax x a' W' → K a' W') →
      assign.wpIn (Fence.wide.inRound l) kb P (Exit.then K (fun _ _ _ => False)) { tmps := (ps.zip (encs x)).foldl (fun t (p, v) => t.setIfInBounds p v) a.tmps, defers := [] } W)
    (hbody : ∀ (l : Nat) (pre : List α) (x : α) (a' : Act) (W : World), I pre W → Ax x a' W → w.heap.size + (m + 2) ≤ W.heap.size → pre ++ [x] <+: xs →
      body.wpIn (Fence.wide.inRound l) kb P (postM bx w.heap.size (m + 2) I Ix (pre ++ [x]) W) a' W)
    (hdone : ∀ (W : World), I xs W → W.heap[w.heap.size]? = some (.deferred (some [])) → Q .normal { a with defers := { target := .collected w.heap.size, args := #[] } :: a.defers } W)
    (hstop : ∀ (c : Code) (pre : List α) (W : World), pre <+: xs → Ix c pre W → W.heap[w.heap.size]? = some (.deferred (some [])) →
      c.wpIn Fence.wide n P Q { a with defers := { target := .collected w.heap.size, args := #[] } :: a.defers } W) :
    (Code.rangeFunc g ps assign body).wpIn Fence.wide n P Q a w := by
  refine wpIn_rangeFunc ?_
  intro fn hfn
  obtain ⟨rec, hrec⟩ : ∃ rec : LoopState → Option Code → Loop, rec = fun st pe => { state := st, pending := pe, fn, tmps := a.tmps, params := ps, assign, body, defers := w.heap.size } := ⟨_, rfl⟩
  obtain ⟨W1, hW1⟩ : ∃ W1, (w.alloc (.deferred (some []))).alloc (.loop (rec .ready none)) = W1 := ⟨_, rfl⟩
  have hz1 : W1.heap.size = w.heap.size + 2 := by rw [← hW1]; simp
  have hL1 : W1.heap[w.heap.size + 1]? = some (.loop (rec .ready none)) := by
    rw [← hW1]; have := World.alloc_heap_new (w.alloc (.deferred (some []))) (.loop (rec .ready none)); rwa [World.size_alloc] at this
  have hK1 : W1.heap[w.heap.size]? = some (.deferred (some [])) := by
    rw [← hW1]; exact (Below.heap_alloc _ _ _ (by simp)).trans (World.alloc_heap_new w _)
  have hI1 : I [] W1 := by rw [← hW1]; exact hI.alloc _ (hI.alloc _ h0)
  have hb1 : Below w.heap.size w W1 := by rw [← hW1]; exact ((Below.refl _ w).alloc (Nat.le_refl _) _).alloc (by simp) _
  refine ⟨w.heap.size + 1, [{ target := .collected w.heap.size, args := #[] }], W1, { target := .fn (.func gf) lb, args := #[.func (.yield (w.heap.size + 1)) #[] #[]] }, W1, gf,
    #[.func (.yield (w.heap.size + 1)) #[] #[]] ++ lb, W1, ?_, ?_, ?_, ?_, (fun h => by cases h), ?_⟩
  · rw [← hW1, hrec]; exact run_enterLoop_outer _ _ _ _ _
  · simp only [resolve, hg]
    simp [go_sem]
  · intro f' _; trivial
  · simp [invoke, go_sem, eg]
  · have fresh : ∀ {A : World} {row : Option Nat}, (∀ r, row = some r → W1.heap.size ≤ r ∧ ∃ o : Obj, A.heap[r]? = some o ∧ o.isCells = false) → (∀ r, row = some r → w.heap.size ≤ r ∧ ∃ o : Obj, A.heap[r]? = some o ∧ o.isCells = false) :=
      fun hr r e => ⟨by have := (hr r e).1; omega, (hr r e).2⟩
    have stays : ∀ {A B : World} {row : Option Nat} {k : Nat} {o : Obj}, A.grownBy B row → (∀ r, row = some r → W1.heap.size ≤ r ∧ ∃ o : Obj, A.heap[r]? = some o ∧ o.isCells = false) → A.heap[k]? = some o → k < w.heap.size + 2 → B.heap[k]? = some o :=
      fun hg' hr hk hlt => (hg'.block _ (Array.getElem?_eq_some_iff.1 hk).1 (fun e => by have := (hr _ e.symm).1; omega)).trans hk
    refine calls_any ((hseq (w.heap.size + 1)
      (fun pre W => I pre W ∧ W.heap[w.heap.size + 1]? = some (.loop (rec .ready none)) ∧ W.heap[w.heap.size]? = some (.deferred (some [])))
      (fun pre W => ∃ c, Ix c pre W ∧ W.heap[w.heap.size + 1]? = some (.loop (rec .done (some c))) ∧ W.heap[w.heap.size]? = some (.deferred (some [])))
      W1 hb1
      (fun s A B row hs hg' hr => ⟨hI s A B row hs.1 hg' (fresh hr), stays hg' hr hs.2.1 (by omega), stays hg' hr hs.2.2 (by omega)⟩)
      (fun s A B row hs hg' hr => by
        obtain ⟨c, hc, hl, hk⟩ := hs
        exact ⟨c, hIx c s A B row hc hg' (fresh hr), stays hg' hr hl (by omega), stays hg' hr hk (by omega)⟩)
      (fun s A hs => hE s A hs.1) ?_ ⟨hI1, hL1, hK1⟩).mono ?_)
    · rintro pre x W ⟨hi, hl, hk⟩ hsz hlen
      have hy := run_yield (P := P) (args := encs x) hl (by rw [hrec]; exact hps x)
      rw [hrec] at hy
      refine yield_any (n := kb) ⟨fn, _, assign, body, hy, roundIn_of_wpIn hfn (hassign _ pre x W _ hi (by omega) ?_)⟩
      clear hy
      intro a' Wa hka hia hax
      have hla := (hka.rng (w.heap.size + 1) (by omega) (by omega)).trans hl
      have hda := (hka.rng w.heap.size (by omega) (by omega)).trans hk
      have hza : w.heap.size + (m + 2) ≤ Wa.heap.size := by have := hka.size; omega
      refine ⟨_, run_beginRound hla (by rw [hrec]), ?_⟩
      have hl2 : (Wa.putObj (w.heap.size + 1) (.loop { rec .ready none with state := .busy })).heap[w.heap.size + 1]? = some (.loop { rec .ready none with state := .busy }) := World.putObj_heap_same (by omega)
      have hk2 : (Wa.putObj (w.heap.size + 1) (.loop { rec .ready none with state := .busy })).heap[w.heap.size]? = some (.deferred (some [])) := (World.putObj_heap_other (by omega)).trans hda
      have hp2 : Kept bx W1.heap.size m Wa (Wa.putObj (w.heap.size + 1) (.loop { rec .ready none with state := .busy })) := Kept.putObj _ (by omega) (by omega)
      refine wpIn_mono (hbody _ pre x a' _ (hI.putObj _ hia (by omega) hla rfl) ((hAx x a').putObj (s := ()) _ hax (by omega) hla rfl) (by simpa using hza) hlen) ?_
      have fin : ∀ (jump : Option Code) (W3 : World), Kept bx w.heap.size (m + 2) (Wa.putObj (w.heap.size + 1) (.loop { rec .ready none with state := .busy })) W3 →
          (Instr.endRound (w.heap.size + 1) jump).run P W3 = .ok (.bool jump.isNone) (W3.putObj (w.heap.size + 1) (.loop (rec (if jump.isNone then .ready else .done) jump))) ∧
          W3.heap[w.heap.size + 1]? = some (.loop { rec .ready none with state := .busy }) ∧
          (W3.putObj (w.heap.size + 1) (.loop (rec (if jump.isNone then .ready else .done) jump))).heap[w.heap.size + 1]? = some (.loop (rec (if jump.isNone then .ready else .done) jump)) ∧
          (W3.putObj (w.heap.size + 1) (.loop (rec (if jump.isNone then .ready else .done) jump))).heap[w.heap.size]? = some (.deferred (some [])) ∧
          Kept bx W1.heap.size m W (W3.putObj (w.heap.size + 1) (.loop (rec (if jump.isNone then .ready else .done) jump))) := fun jump W3 hk3 => by
        have hl3 := (hk3.rng (w.heap.size + 1) (by omega) (by omega)).trans hl2
        have hrun := run_endRound (P := P) jump hl3
        rw [hrec] at hrun
        refine ⟨by rw [hrec]; exact hrun, hl3, World.putObj_heap_same (Array.getElem?_eq_some_iff.1 hl3).1, (World.putObj_heap_other (by omega)).trans ((hk3.rng w.heap.size (by omega) (by omega)).trans hk2), ?_⟩
        exact (((hka.less (by omega) (by omega)).trans hp2).trans (hk3.less (by omega) (by omega))).trans (Kept.putObj _ (by omega) (by omega))
      rintro e a3 W3 hp
      cases e with
      | normal =>
        obtain ⟨hk3, hi3⟩ := hp
        obtain ⟨hr, hl3, hl4, hk4, hq⟩ := fin none W3 hk3
        exact ⟨_, _, hr, hq, .inl ⟨rfl, hI.putObj _ hi3 (by omega) hl3 rfl, hl4, hk4⟩⟩
      | ret =>
        obtain ⟨hk3, hi3⟩ := hp
        obtain ⟨hr, hl3, hl4, hk4, hq⟩ := fin (some .ret) W3 hk3
        exact ⟨_, _, hr, hq, .inr ⟨rfl, .ret, (hIx _).putObj _ hi3 (by omega) hl3 rfl, hl4, hk4⟩⟩
      | exit id =>
        obtain ⟨hk3, hi3⟩ := hp
        obtain ⟨hr, hl3, hl4, hk4, hq⟩ := fin (some (.exit id)) W3 hk3
        exact ⟨_, _, hr, hq, .inr ⟨rfl, .exit id, (hIx _).putObj _ hi3 (by omega) hl3 rfl, hl4, hk4⟩⟩
      | goto t =>
        obtain ⟨hk3, hi3⟩ := hp
        obtain ⟨hr, hl3, hl4, hk4, hq⟩ := fin (some (.goto t)) W3 hk3
        exact ⟨_, _, hr, hq, .inr ⟨rfl, .goto t, (hIx _).putObj _ hi3 (by omega) hl3 rfl, hl4, hk4⟩⟩
      | panic ch => exact hp.elim
      | outgrown => exact hp.elim
    · rintro e W2 ⟨⟨v, rfl⟩, (⟨hi, hl, hk⟩ | ⟨pre, hpre, c, hi, hl, hk⟩)⟩
      · exact ⟨none, _, by have := run_endLoop (P := P) hl (by rw [hrec]; simp); rw [hrec] at this; exact this, hdone _ (hI.putObj _ hi (by omega) hl rfl) ((World.putObj_heap_other (by omega)).trans hk)⟩
      · exact ⟨some c, _, by have := run_endLoop (P := P) hl (by rw [hrec]; simp); rw [hrec] at this; exact this, hstop c pre _ hpre ((hIx c).putObj _ hi (by omega) hl rfl) ((World.putObj_heap_other (by omega)).trans hk)⟩

end Go.Proofs.YtklnfbanfgdgcaaGreatDoor
namespace Go.Proofs.YtklnfbanfgdgcaaGreatDoor
open Go.RowKit Go.Shelf Go.Lib

attribute [local go_sem] Oper.semAt_some

theorem wfn (k : Nat) : Fence.wide.fn k := trivial
theorem wdep : Fence.wide.depth = none := rfl
theorem blk_own {β : Type} (B : Nat) (f : β → Obj) (hc : ∀ s, (f s).isCells = true) : Own (fun s W => W.heap[B]? = some (f s)) := fun s _ _ _ hs hg hrow => (grownBy_keeps_cells hg hrow hs (hc s)).trans hs

end Go.Proofs.YtklnfbanfgdgcaaGreatDoor
