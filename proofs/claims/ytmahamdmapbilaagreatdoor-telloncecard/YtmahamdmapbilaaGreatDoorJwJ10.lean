import Derived.Test.YtmahamdmapbilaaGreatDoorJwJ5
import Derived.Test.YtmahamdmapbilaaGreatDoorJwJ9
import Derived.Test.YtmahamdmapbilaaGreatDoorJwJ6
import Derived.Test.YtmahamdmapbilaaGreatDoorJwJ7
import Derived.Laws.Tables
set_option maxHeartbeats 40000000
set_option maxRecDepth 100000
set_option linter.unusedVariables false
namespace Go.Proofs.YtmahamdmapbilaaGreatDoor
open Go.RowKit
def StepG {G : Type} (P : Program) (md : Region.Mode) (ops : Array Oper) (Q : Exit → Act → World → Prop) (X0 : Array Value) (val : G → Nat → Value) (J : G → (Nat → Bool) → World → Prop) (i : Nat) (o : Oper) : Prop :=
 ∀ g d a w, J g d w → d i = false → (∀ j, bindsOn md o j = true → d j = true) → (∀ j oj, ops[j]? = some oj → d j = true → ∀ k, bindsOn md oj k = true → d k = true) → (∀ s v, rdv md ops X0 (val g) i o s = some v → a.tmps.getD s undef = v) →
  wpOp P ops Q i (fun a' w' => ∃ g', (∀ j, d j = true → val g' j = val g j) ∧ a' = a.put o.dst (val g' i) ∧ J g' (fun j => if j = i then true else d j) w') a w
theorem zgo {G : Type} {P : Program} {md : Region.Mode} {ops : Array Oper} {Q : Exit → Act → World → Prop} {X0 : Array Value} {val : G → Nat → Value} {J : G → (Nat → Bool) → World → Prop} {i : Nat} {o : Oper}
  (h : ∀ g d, (∀ j, bindsOn md o j = true → d j = true) → StepAt P md ops Q X0 (val g) (J g d) (J g (fun j => if j = i then true else d j)) i o) : StepG P md ops Q X0 val J i o := by
 intro g d a w hJ _ hdep _ hS
 exact wpOp_mono (fun a' w' hq => ⟨g, fun _ _ => rfl, hq.1, hq.2⟩) (h g d hdep a w hJ hS)
theorem zwt {P : Program} {md : Region.Mode} {ops : Array Oper} {Q : Exit → Act → World → Prop} {G : Type} (val : G → Nat → Value) (J : G → (Nat → Bool) → World → Prop)
  {X0 : Array Value} {df : List Deferred} (hok : tabOk md ops X0.size = true) (g : G) {w : World} (hJ : J g (fun _ => false) w)
  (hstep : ∀ i o, ops[i]? = some o → StepG P md ops Q X0 val J i o)
  (hend : ∀ g d w, (∀ j, j < ops.size → d j = true) → J g d w → Q .normal { tmps := finL (val g) ops.toList 0 X0, defers := df } w) :
  wpAny P md ops Q ops.size (Array.replicate ops.size false) { tmps := X0, defers := df } w :=
 wpAny_tab val J hok hend (fun i o ho g d a w => hstep i o ho g d a w) g hJ
theorem step_slice {P : Program} {md : Region.Mode} {ops : Array Oper} {Q : Exit → Act → World → Prop} {X0 : Array Value} {val : Nat → Value} {J : World → Prop} {i : Nat} {o : Oper} (hi : ops[i]? = some o) (hg : GOk md ops X0 val i o) (t : TypeId) (x : Operand) (lo hi' : Option Operand) (p : Value) (lv hv : Option Value) (ho : o.op = .slice t x lo hi' none) (hx : rdo md ops X0 val i o x = some p)
  (hlo : lo.map (rdo md ops X0 val i o) = lv.map some) (hhi : hi'.map (rdo md ops X0 val i o) = hv.map some) (hr : ∀ w, J w → (Instr.sliceAt t p lv hv none).run P w = .ok (val i) w) : StepAt P md ops Q X0 val J J i o :=
 step_of hi hg fun a w hJ hS => by
  have e1 : lo.map a.eval = lv := by
   cases lo with
   | none => cases lv with
    | none => rfl
    | some v => cases hlo
   | some y => cases lv with
    | none => cases hlo
    | some v => simp only [Option.map_some, Option.some.injEq] at hlo ⊢; exact hS.eval hlo
  have e2 : hi'.map a.eval = hv := by
   cases hi' with
   | none => cases hv with
    | none => rfl
    | some v => cases hhi
   | some y => cases hv with
    | none => cases hhi
    | some v => simp only [Option.map_some, Option.some.injEq] at hhi ⊢; exact hS.eval hhi
  unfold Oper.wp execOp
  simp only [ho, hS.eval hx, e1, e2, Option.map_none, Sem.run_bind, hr w hJ, Result.andThen_ok, Sem.run_pure, Oper.upon_value]
  exact ⟨trivial, hJ⟩
theorem Zh4.lt {w : World} {b : Nat} {c : Nat → Nat} (h : Zh4 w b c) : b < w.heap.size := (Array.getElem?_eq_some_iff.1 h).1
theorem alloc_below (w : World) (o : Obj) : Below w.heap.size w (w.alloc o) := (Below.refl _ w).alloc (Nat.le_refl _) o
theorem stepG_call {G : Type} {P : Program} {md : Region.Mode} {ops : Array Oper} {Q : Exit → Act → World → Prop} {X0 : Array Value} {val : G → Nat → Value} {J : G → (Nat → Bool) → World → Prop} {i : Nat} {o : Oper}
  (hi : ops[i]? = some o) (hg : ∀ g, GOk md ops X0 (val g) i o) (f : FuncId) (xs : Array Operand) (ts : Array TypeId) (vs : G → List Value) (ho : o.op = .call { callee := .value (.func f), args := xs, argTypes := ts })
  (hx : ∀ g, xs.toList.map (rdo md ops X0 (val g) i o) = (vs g).map some) (hen : ∀ args w, (callFunc f args).run P w = .ok (.enter f args) w)
  (hc : ∀ g d w, J g d w → d i = false → (∀ j, bindsOn md o j = true → d j = true) → (∀ j oj, ops[j]? = some oj → d j = true → ∀ k, bindsOn md oj k = true → d k = true) → Calls P f (vs g).toArray w fun e w' => ∃ g', e = .returned (val g' i) ∧ (∀ j, d j = true → val g' j = val g j) ∧ J g' (fun j => if j = i then true else d j) w') : StepG P md ops Q X0 val J i o := by
 intro g d a w hJ hun hdep hcl hS
 unfold wpOp
 rw [hi]
 have hS' : Seen md ops X0 (val g) i o a := hS
 simp only [wanted_of hS' (hg g), if_true]
 refine .inl ?_
 unfold Oper.wp execOp
 have e : xs.map a.eval = (vs g).toArray := by
  apply Array.toList_inj.1
  rw [Array.toList_map]
  exact hS'.evals _ _ (hx g)
 have e2 : a.eval (.func f) = .func (.func f) #[] #[] := rfl
 simp only [ho, resolve, e, e2, Deferred.ofValue, Sem.run_bind, Sem.run_pure, Result.andThen_ok, invoke, Array.empty_append, Array.append_empty, hen, Oper.upon_enter]
 refine (hc g d w hJ hun hdep hcl).mono ?_
 rintro e' w' ⟨g', rfl, h1, h2⟩
 exact ⟨g', h1, rfl, h2⟩
end Go.Proofs.YtmahamdmapbilaaGreatDoor
namespace Go.Proofs.YtmahamdmapbilaaGreatDoor
open Go.RowKit Go.Shelf Go.Lib
theorem stepG_callv {G : Type} {P : Program} {md : Region.Mode} {ops : Array Oper} {Q : Exit → Act → World → Prop} {X0 : Array Value} {val : G → Nat → Value} {J : G → (Nat → Bool) → World → Prop} {i : Nat} {o : Oper}
  (hi : ops[i]? = some o) (hg : ∀ g, GOk md ops X0 (val g) i o) (f : FuncId) (x : Operand) (xs : Array Operand) (ts : Array TypeId) (cap : Array Value) (vs : G → List Value) (ho : o.op = .call { callee := .value x, args := xs, argTypes := ts })
  (hx0 : ∀ g, rdo md ops X0 (val g) i o x = some (.func (.func f) #[] cap)) (hx : ∀ g, xs.toList.map (rdo md ops X0 (val g) i o) = (vs g).map some) (hen : ∀ args w, (callFunc f args).run P w = .ok (.enter f args) w)
  (hc : ∀ g d w, J g d w → d i = false → (∀ j, bindsOn md o j = true → d j = true) → (∀ j oj, ops[j]? = some oj → d j = true → ∀ k, bindsOn md oj k = true → d k = true) → Calls P f ((vs g).toArray ++ cap) w fun e w' => ∃ g', e = .returned (val g' i) ∧ (∀ j, d j = true → val g' j = val g j) ∧ J g' (fun j => if j = i then true else d j) w') : StepG P md ops Q X0 val J i o := by
 intro g d a w hJ hun hdep hcl hS
 unfold wpOp
 rw [hi]
 have hS' : Seen md ops X0 (val g) i o a := hS
 simp only [wanted_of hS' (hg g), if_true]
 refine .inl ?_
 unfold Oper.wp execOp
 have e : xs.map a.eval = (vs g).toArray := by
  apply Array.toList_inj.1
  rw [Array.toList_map]
  exact hS'.evals _ _ (hx g)
 have e2 : a.eval x = .func (.func f) #[] cap := hS'.eval (hx0 g)
 simp only [ho, resolve, e, e2, Deferred.ofValue, Sem.run_bind, Sem.run_pure, Result.andThen_ok, invoke, Array.empty_append, hen, Oper.upon_enter]
 refine (hc g d w hJ hun hdep hcl).mono ?_
 rintro e' w' ⟨g', rfl, h1, h2⟩
 exact ⟨g', h1, rfl, h2⟩
abbrev Tk4 := Int × ByteArray × Int × Int
def tkC (x : Tk4) : Array Value := #[.int .i64 x.1, .string x.2.1, .int .i64 x.2.2.1, .int .i64 x.2.2.2]
def tk4 (x : Tk4) : Value := tkV x.1 x.2.1 x.2.2.1 x.2.2.2
def RdK (W : World) (ad : Option Addr) (l : List Tk4) : Prop := l ≠ [] → ∃ b off, ad = some ⟨b, off, none⟩ ∧ b < W.heap.size ∧ ∀ k x, l[k]? = some x → ∀ (j : Nat) (v : Value), (tkC x)[j]? = some v → W.cell? ⟨b, off + k * 4 + j, none⟩ = some v
theorem RdK.at {W V : World} {ad : Option Addr} {l : List Tk4} (h : RdK W ad l) (hs : W.heap.size ≤ V.heap.size) (hb : ∀ b off, ad = some ⟨b, off, none⟩ → b < W.heap.size → V.heap[b]? = W.heap[b]?) : RdK V ad l := fun hl => by
 obtain ⟨b, off, e, h1, h2⟩ := h hl
 exact ⟨b, off, e, Nat.lt_of_lt_of_le h1 hs, fun k x hk j v hv => (World.cell?_of_block (a := ⟨b, _, none⟩) (hb b off e h1)).trans (h2 k x hk j v hv)⟩
theorem RdK.carry {W V : World} {ad : Option Addr} {l : List Tk4} (h : RdK W ad l) (hb : Below W.heap.size W V) : RdK V ad l := h.at hb.size (fun b _ _ h1 => hb.block b h1)
structure Ob (nb : Nat) (W V : World) : Prop where
 os : V.os = W.os
 tape : V.tape = W.tape
 output : V.output = W.output
 size : W.heap.size ≤ V.heap.size
 block : ∀ q, q < W.heap.size → q ≠ nb → V.heap[q]? = W.heap[q]?
theorem Ob.refl (nb : Nat) (W : World) : Ob nb W W := ⟨rfl, rfl, rfl, Nat.le_refl _, fun _ _ _ => rfl⟩
theorem Ob.trans {nb : Nat} {U W V : World} (h : Ob nb U W) (k : Ob nb W V) : Ob nb U V := ⟨k.os.trans h.os, k.tape.trans h.tape, k.output.trans h.output, Nat.le_trans h.size k.size, fun q h1 h2 => (k.block q (Nat.lt_of_lt_of_le h1 h.size) h2).trans (h.block q h1 h2)⟩
theorem Ob.of {nb : Nat} {W V : World} (hb : Below W.heap.size W V) : Ob nb W V := ⟨hb.os, hb.tape, hb.output, hb.size, fun q h1 _ => hb.block q h1⟩
theorem Ob.below {nb B : Nat} {w W V : World} (h : Ob nb W V) (hb : Below B w W) (h1 : B ≤ nb) (h2 : B ≤ W.heap.size) : Below B w V := hb.trans ⟨h.os, h.tape, h.output, h.size, fun k hk => h.block k (by omega) (by omega)⟩
structure Tk (nb wb : Nat) (l : List Tk4) (i : Nat) (W : World) : Prop where
 nx : W.heap[nb]? = some (.cells #[.int .i64 (i : Int)] 3 (0, 0))
 wd : ∃ ad cap, W.heap[wb]? = some (.cells #[.slice ad l.length cap] 44 (0, 0)) ∧ RdK W ad l ∧ ∀ b off, ad = some ⟨b, off, none⟩ → b ≠ nb
theorem Tk.carry {nb wb : Nat} {l : List Tk4} {i : Nat} {W V : World} (h : Tk nb wb l i W) (hb : Below W.heap.size W V) : Tk nb wb l i V := by
 obtain ⟨ad, cap, h1, h2, h3⟩ := h.wd
 exact ⟨(hb.block _ (zla h.nx)).trans h.nx, ad, cap, (hb.block _ (zla h1)).trans h1, h2.carry hb, h3⟩
theorem infoTk : (Tryz.prog.info? 48).map (·.size) = some 4 := by kernel_rfl
theorem idx_tk (b off n cap k : Nat) (h : k < n) (W : World) : (Instr.indexAt 44 (.slice (some ⟨b, off, none⟩) n cap) (.int .i64 (k : Int))).run Tryz.prog W = .ok (.pointer (some ⟨b, off + k * 4, none⟩)) W := by
 have h1 : (k : Int) < (n : Int) := by omega
 have h2 : 0 ≤ (k : Int) := by omega
 go_simp
theorem load_tk {W : World} {b o : Nat} {x : Tk4} (h : ∀ (j : Nat) (v : Value), (tkC x)[j]? = some v → W.cell? ⟨b, o + j, none⟩ = some v) : (Instr.loadAt 48 (.pointer (some ⟨b, o, none⟩))).run Tryz.prog W = .ok (tk4 x) W := by
 have c0 : W.cell? ⟨b, o, none⟩ = some (.int .i64 x.1) := h 0 _ rfl
 have c1 : W.cell? ⟨b, o + 1, none⟩ = some (.string x.2.1) := h 1 _ rfl
 have c2 : W.cell? ⟨b, o + 2, none⟩ = some (.int .i64 x.2.2.1) := h 2 _ rfl
 have c3 : W.cell? ⟨b, o + 3, none⟩ = some (.int .i64 x.2.2.2) := h 3 _ rfl
 unfold tk4 tkV
 go_simp
theorem box_tk {W : World} {b : Nat} {x : Tk4} (h : W.heap[b]? = some (.cells (tkC x) 48 (0, 0))) : (Instr.loadAt 48 (.pointer (some ⟨b, 0, none⟩))).run Tryz.prog W = .ok (tk4 x) W := load_tk (fun j v hv => by rw [Nat.zero_add, zca h j]; exact hv)
theorem un_notT (b : Bool) (W : World) : (Op.unary .not (.bool b)).run Tryz.prog W = .ok (.bool (!b)) W := by go_simp
theorem retTk {f : Func} {q : Tmp} {R : Ending → World → Prop} {a : Act} {w : World} {b : Nat} {x : Tk4} (hres : f.results = #[.cell q 48]) (hp : a.tmps.getD q undef = .pointer (some ⟨b, 0, none⟩)) (hd : a.defers = []) (h : w.heap[b]? = some (.cells (tkC x) 48 (0, 0))) (hR : R (.returned (tk4 x)) w) : bodyPost Tryz.prog f R .ret a w :=
 bodyPost_ret (results_cell_row hres a.tmps w b _ _ (0, 0) _ hp h Tryz.underlying48 rfl (by kernel_rfl)) hd hR
structure JK (nb wb b4 b5 : Nat) (l : List Tk4) (i : Nat) (x : Tk4) (w W : World) : Prop where
 tk : Tk nb wb l i W
 r4 : W.heap[b4]? = some (.cells #[.int .i64 0, .string ⟨#[]⟩, .int .i64 0, .int .i64 0] 48 (0, 0))
 r5 : W.heap[b5]? = some (.cells (tkC x) 48 (0, 0))
 ob : Ob nb w W
theorem JK.carry {nb wb b4 b5 : Nat} {l : List Tk4} {i : Nat} {x : Tk4} {w W V : World} (h : JK nb wb b4 b5 l i x w W) (hb : Below W.heap.size W V) : JK nb wb b4 b5 l i x w V := ⟨h.tk.carry hb, (hb.block _ (zla h.r4)).trans h.r4, (hb.block _ (zla h.r5)).trans h.r5, h.ob.trans (Ob.of hb)⟩
theorem take_yes (f : FuncId) (fc : Array Value) (hen : ∀ args w, (callFunc f args).run Tryz.prog w = .ok (.enter f args) w) {nb wb : Nat} {l : List Tk4} {i : Nat} {w : World} (h : Tk nb wb l i w) (x : Tk4) (hx : l[i]? = some x) (hl : l.length ≤ 1000000) (hf : ∀ V, Ob nb w V → Calls Tryz.prog f (#[tk4 x] ++ fc) V fun e w' => e = .returned (.bool true) ∧ Below V.heap.size V w') : Calls Tryz.prog 93 #[.func (.func f) #[] fc, .pointer (some ⟨nb, 0, none⟩), .pointer (some ⟨wb, 0, none⟩)] w fun e w' => e = .returned (tk4 x) ∧ Tk nb wb l (i + 1) w' ∧ Ob nb w w' := by
 have hmx := mixO
 have hil : i < l.length := (List.getElem?_eq_some_iff.1 hx).1
 obtain ⟨ad, cap, hw1, hw2, hw3⟩ := h.wd
 obtain ⟨b, off, rfl, hb, hat⟩ := hw2 (fun e => by rw [e] at hil; simp at hil)
 have hbn := hw3 b off rfl
 have hnw : nb ≠ wb := fun e => by
  have := h.nx
  rw [e, hw1] at this
  simp only [Option.some.injEq, Obj.cells.injEq] at this
  exact absurd this.2.1 (by decide)
 have hnl := zla h.nx
 have hwl := zla hw1
 have HW0 : Hid (w.heap[wb]? = some (.cells #[.slice (some ⟨b, off, none⟩) l.length cap] 44 (0, 0))) := hw1
 have HRK : Hid (RdK w (some ⟨b, off, none⟩) l) := hw2
 have HAT : Hid (∀ (j : Nat) (v : Value), (tkC x)[j]? = some v → w.cell? ⟨b, off + i * 4 + j, none⟩ = some v) := hat i x hx
 obtain ⟨n, hN⟩ : ∃ n, l.length = n := ⟨_, rfl⟩
 rw [hN] at hil hl hw1
 obtain ⟨W1, hW1⟩ : ∃ W1, w.alloc (.cells #[.int .i64 0, .string ⟨#[]⟩, .int .i64 0, .int .i64 0] 48) = W1 := ⟨_, rfl⟩
 have hb1 : Below w.heap.size w W1 := by rw [← hW1]; exact al1t _ _
 have hs1 : W1.heap.size = w.heap.size + 1 := by rw [← hW1]; simp
 have hr1 : W1.heap[w.heap.size]? = some (.cells #[.int .i64 0, .string ⟨#[]⟩, .int .i64 0, .int .i64 0] 48 (0, 0)) := by rw [← hW1]; exact zna rfl
 obtain ⟨W2, hW2⟩ : ∃ W2, W1.alloc (.cells #[.int .i64 0, .string ⟨#[]⟩, .int .i64 0, .int .i64 1] 48) = W2 := ⟨_, rfl⟩
 have hb2 : Below W1.heap.size W1 W2 := by rw [← hW2]; exact al1t _ _
 have hr5 : W2.heap[W1.heap.size]? = some (.cells #[.int .i64 0, .string ⟨#[]⟩, .int .i64 0, .int .i64 1] 48 (0, 0)) := by rw [← hW2]; exact zna rfl
 have hb02 : Below w.heap.size w W2 := hb1.trans (hb2.mono (by omega))
 have hr4 := (hb2.block _ (zla hr1)).trans hr1
 have n2 := (hb02.block _ hnl).trans h.nx
 have d2 := (hb02.block _ hwl).trans hw1
 obtain ⟨W3, hW3⟩ : ∃ W3, W2.setRow W1.heap.size (tkC x) = W3 := ⟨_, rfl⟩
 have o3 : ∀ q, q ≠ W1.heap.size → W3.heap[q]? = W2.heap[q]? := fun q hq => by rw [← hW3]; exact Go.setRow_other _ _ _ _ hq
 have r53 : W3.heap[W1.heap.size]? = some (.cells (tkC x) 48 (0, 0)) := by rw [← hW3]; exact setRow_heap _ _ _ _ _ _ hr5
 have s3 : W3.heap.size = W2.heap.size := by rw [← hW3]; simp [World.setRow]
 have n3 := (o3 nb (by omega)).trans n2
 obtain ⟨W4, hW4⟩ : ∃ W4, W3.setCell ⟨nb, 0, none⟩ (.int .i64 ((i : Int) + 1)) = W4 := ⟨_, rfl⟩
 have o4 : ∀ q, q ≠ nb → W4.heap[q]? = W3.heap[q]? := fun q hq => by rw [← hW4]; exact Below.heap_setCell _ _ _ _ hq
 have s4 : W4.heap.size = W3.heap.size := by rw [← hW4]; simp [World.setCell]
 have n4 : W4.heap[nb]? = some (.cells #[.int .i64 ((i : Int) + 1)] 3 (0, 0)) := by
  rw [← hW4]
  have := heap_setCell_same _ _ 0 _ _ (.int .i64 ((i : Int) + 1)) n3
  simpa using this
 have hs2 := hb2.size
 have hob : Ob nb w W4 := ⟨by rw [← hW4, ← hW3]; exact hb02.os, by rw [← hW4, ← hW3]; exact hb02.tape, by rw [← hW4, ← hW3]; exact hb02.output, by omega, fun q h1 h2 => (o4 q h2).trans ((o3 q (by omega)).trans (hb02.block q h1))⟩
 have hj4 : JK nb wb w.heap.size W1.heap.size l (i + 1) x w W4 := ⟨⟨by rw [n4]; simp, some ⟨b, off, none⟩, cap, (hob.block wb hwl (Ne.symm hnw)).trans (by rw [hN]; exact hw1), HRK.out.at hob.size (fun b' off' e h1 => by cases e; exact hob.block b h1 hbn), fun b' off' e => by cases e; exact hbn⟩, (o4 _ (by omega)).trans ((o3 _ (by omega)).trans hr4), (o4 _ (by omega)).trans r53, hob⟩
 have HJ4 : Hid (JK nb wb w.heap.size W1.heap.size l (i + 1) x w W4) := hj4
 have HX : Hid (∀ V, Ob nb w V → Calls Tryz.prog f (#[tk4 x] ++ fc) V fun e w' => e = .returned (.bool true) ∧ Below V.heap.size V w') := hf
 have HEN : Hid (∀ args w, (callFunc f args).run Tryz.prog w = .ok (.enter f args) w) := hen
 have q1 : W2.cell? ⟨nb, 0, none⟩ = some (.int .i64 (i : Int)) := (zca n2 0).trans rfl
 have q2 : W2.cell? ⟨wb, 0, none⟩ = some (.slice (some ⟨b, off, none⟩) n cap) := (zca d2 0).trans rfl
 have q3 : W3.cell? ⟨nb, 0, none⟩ = some (.int .i64 (i : Int)) := (zca n3 0).trans rfl
 have z3 := zta n3 0
 have hii : (i : Int) < (n : Int) := by omega
 have hix := idx_tk b off n cap i hil
 have e0 : W2.cell? ⟨b, off + i * 4, none⟩ = some (.int .i64 x.1) := (hb02.cell (p := ⟨b, _, none⟩) hb).trans (HAT.out 0 _ rfl)
 have e1 : W2.cell? ⟨b, off + i * 4 + 1, none⟩ = some (.string x.2.1) := (hb02.cell (p := ⟨b, _, none⟩) hb).trans (HAT.out 1 _ rfl)
 have e2 : W2.cell? ⟨b, off + i * 4 + 2, none⟩ = some (.int .i64 x.2.2.1) := (hb02.cell (p := ⟨b, _, none⟩) hb).trans (HAT.out 2 _ rfl)
 have e3 : W2.cell? ⟨b, off + i * 4 + 3, none⟩ = some (.int .i64 x.2.2.2) := (hb02.cell (p := ⟨b, _, none⟩) hb).trans (HAT.out 3 _ rfl)
 clear hj4 hf hen hat hw2 hw3 hx h hr1 hb1 hb2 hb02 hob o3 o4 n4 n3 r53 hr4 hN d2 n2 hs1 s3 s4 hs2
 go_enter Tryz.func93, Tryz.ntmps93
 go_wp2_with (refine wpList_store_row rfl 48 (.tmp 5) (.tmp 14) rfl W1.heap.size (tkC x) rfl rfl 48 _ hr5 infoTk rfl (by simp [tkC, Value.oneCell']) ?_; rw [hW3])
 rename_i Q0 K0 hK
 refine wp_region_any hmx ?_
 refine zwt (G := (Unit)) (fun g i__ => ([(.func (.func f) #[] fc), (tk4 x), (.bool true), (.bool false), (tk4 x), (.tuple #[])] : List Value).getD i__ undef) (fun _ d V => JK nb wb w.heap.size W1.heap.size l (i + 1) x w V) (by kernel_rfl) (()) (HJ4.out.carry (Below.refl _ _).drew) ?step3 ?fin3
 case step3 =>
  intro i o ho
  have hi : i < 6 := getElem?_lt ho
  match i, hi, ho with
  | 0, _, ho => cases ho; exact zgo fun g d hdep => zmv rfl trivial _ rfl (by kernel_rfl)
  | 1, _, ho => cases ho; exact zgo fun g d hdep => zld rfl trivial _ _ _ rfl rfl (fun v hw => box_tk hw.r5)
  | 2, _, ho => cases ho; exact stepG_callv rfl (fun _ => trivial) f _ _ _ fc (fun _ => [tk4 x]) rfl (fun g => by kernel_rfl) (fun g => by kernel_rfl) HEN.out (fun g d V hJ hun hdep hcl => (HX.out V hJ.ob).mono (by rintro e w' ⟨rfl, hb'⟩; exact ⟨(), rfl, (fun _ _ => rfl), hJ.carry hb'⟩))
  | 3, _, ho => cases ho; exact zgo fun g d hdep => step_unOp rfl trivial _ _ _ _ rfl rfl (fun v hw => un_notT true v)
  | 4, _, ho => cases ho; exact zgo fun g d hdep => zld rfl trivial _ _ _ rfl rfl (fun v hw => box_tk hw.r5)
  | 5, _, ho => cases ho; exact stepG_call rfl (fun _ => trivial) 94 _ _ (fun _ => [.bool false, .int .i64 80, tk4 x]) rfl (fun g => by kernel_rfl) (enters_of Tryz.func94 (by kernel_rfl) rfl) (fun g d V hJ hun hdep hcl => (trefuse_no 80 x.1 x.2.2.1 x.2.2.2 x.2.1 V).mono (by rintro e w' ⟨rfl, hb'⟩; exact ⟨(), rfl, (fun _ _ => rfl), hJ.carry hb'⟩))
 intro g d W hall hW
 first | refine hK _ _ ?_ | refine (‹∀ (a : Act) (w : World), Code.wp Tryz.prog _ _ a w → _›) _ _ ?_ | skip
 simp only [finL, List.getD_cons_zero, List.getD_cons_succ, Nat.zero_add, Nat.reduceAdd, List.setIfInBounds_toArray, List.set_cons_zero, List.set_cons_succ]
 have hjW : JK nb wb w.heap.size W1.heap.size l (i + 1) x w W := hW
 have hlw := box_tk hjW.r5
 unfold tk4 tkV at hlw
 have p0 : W.cell? ⟨W1.heap.size, 0, none⟩ = some (.int .i64 x.1) := (zca hjW.r5 0).trans rfl
 have p1 : W.cell? ⟨W1.heap.size, 1, none⟩ = some (.string x.2.1) := (zca hjW.r5 1).trans rfl
 have p2 : W.cell? ⟨W1.heap.size, 2, none⟩ = some (.int .i64 x.2.2.1) := (zca hjW.r5 2).trans rfl
 have p3 : W.cell? ⟨W1.heap.size, 3, none⟩ = some (.int .i64 x.2.2.2) := (zca hjW.r5 3).trans rfl
 have hr4 := hjW.r4
 obtain ⟨W6, hW6⟩ : ∃ W6, W.setRow w.heap.size (tkC x) = W6 := ⟨_, rfl⟩
 have o6 : ∀ q, q ≠ w.heap.size → W6.heap[q]? = W.heap[q]? := fun q hq => by rw [← hW6]; exact Go.setRow_other _ _ _ _ hq
 have r6 : W6.heap[w.heap.size]? = some (.cells (tkC x) 48 (0, 0)) := by rw [← hW6]; exact setRow_heap _ _ _ _ _ _ hr4
 have s6 : W6.heap.size = W.heap.size := by rw [← hW6]; simp [World.setRow]
 have hsW := hjW.ob.size
 have HF : Hid (Tk nb wb l (i + 1) W6 ∧ Ob nb w W6) := by
  have hob6 : Ob nb w W6 := ⟨by rw [← hW6]; exact hjW.ob.os, by rw [← hW6]; exact hjW.ob.tape, by rw [← hW6]; exact hjW.ob.output, by omega, fun q h1 h2 => (o6 q (by omega)).trans (hjW.ob.block q h1 h2)⟩
  exact ⟨⟨(o6 nb (by omega)).trans hjW.tk.nx, some ⟨b, off, none⟩, cap, (o6 wb (by omega)).trans ((hjW.ob.block wb hwl (Ne.symm hnw)).trans HW0.out), HRK.out.at hob6.size (fun b' off' e h1 => by cases e; exact hob6.block b h1 hbn), fun b' off' e => by cases e; exact hbn⟩, hob6⟩
 clear hW hjW hall hK HJ4 s6 o6 hsW
 go_wp2_with (refine wpList_store_row rfl 48 (.tmp 4) (.tmp 23) rfl w.heap.size (tkC x) rfl rfl 48 _ hr4 infoTk rfl (by simp [tkC, Value.oneCell']) ?_; rw [hW6])
 refine retTk (x := x) rfl rfl rfl r6 ?_
 exact ⟨rfl, HF.out⟩
end Go.Proofs.YtmahamdmapbilaaGreatDoor
