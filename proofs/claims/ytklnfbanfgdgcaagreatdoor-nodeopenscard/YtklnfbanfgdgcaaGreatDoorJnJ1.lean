/- A step of a region: a field's address. For every program. -/
import Derived.Test.YtklnfbanfgdgcaaGreatDoorJnJ0
import Derived.Test.YtklnfbanfgdgcaaGreatDoorProg
import Derived.Laws.OwnMore
import Derived.Shelf.Abstract
import Derived.Laws.CopyRow
import Derived.Laws.CopyOwn
import Derived.WalkKit
import Derived.LaidEql
import Derived.Stop.Asserts
import Derived.RowKitTokens
set_option maxHeartbeats 40000000
set_option maxRecDepth 100000
set_option linter.unusedVariables false
namespace Go.Proofs.YtklnfbanfgdgcaaGreatDoor
open Go.RowKit
theorem step_fieldAddr {P : Program} {md : Region.Mode} {ops : Array Oper} {Q : Exit → Act → World → Prop} {X0 : Array Value} {val : Nat → Value} {J : World → Prop} {i : Nat} {o : Oper} (hi : ops[i]? = some o) (hg : GOk md ops X0 val i o) (t : TypeId) (x : Operand) (f : Nat) (p : Value) (ho : o.op = .fieldAddr t x f) (hx : rdo md ops X0 val i o x = some p) (hr : ∀ w, J w → (Instr.fieldAt t p f).run P w = .ok (val i) w) : StepAt P md ops Q X0 val J J i o :=
  step_of hi hg fun a w hJ hS => by
    unfold Oper.wp execOp
    simp only [ho, hS.eval hx, Sem.run_bind, hr w hJ, Result.andThen_ok, Sem.run_pure, Oper.upon_value]
    exact ⟨trivial, hJ⟩
theorem bin_eql0 {P : Program} {t : TypeId} {x y : Operand} {w : World} (k : IntKind) (a b : Int) : binRun P .eql t x y (.int k a) (.int k b) w = .ok (.bool (a == b)) w := by simp [binRun, go_sem]
section
variable {P : Program} {md : Region.Mode} {ops : Array Oper} {Q : Exit → Act → World → Prop} {X0 : Array Value} {val : Nat → Value} {J J' : World → Prop} {i : Nat} {o : Oper}
theorem step_nilCheck (hi : ops[i]? = some o) (hg : GOk md ops X0 val i o) (x : Operand) (b off : Nat) (ho : o.op = .nilCheck x) (hx : rdo md ops X0 val i o x = some (.pointer (some ⟨b, off, none⟩))) (hv : val i = .pointer (some ⟨b, off, none⟩)) : StepAt P md ops Q X0 val J J i o :=
  step_of hi hg fun a w hJ hS => by
    unfold Oper.wp execOp
    simp [ho, hS.eval hx, Sem.run_pure, Oper.upon_value, hv, hJ]
end
end Go.Proofs.YtklnfbanfgdgcaaGreatDoor
namespace Go.Proofs.YtklnfbanfgdgcaaGreatDoor
open Go.RowKit Go.Shelf

theorem bel2Z {w w1 w2 : World} (h : Below w.heap.size w w1) (k : Below w1.heap.size w1 w2) : Below w.heap.size w w2 := h.trans (k.mono h.size)
theorem al1'Z (w : World) (o : Obj) : Below w.heap.size w (w.alloc o) := (Below.refl _ w).alloc (Nat.le_refl _) o
theorem add_plZ (b off j : Nat) : (⟨b, off, none⟩ : Addr).add j = ⟨b, off + j, none⟩ := by unfold Addr.add; split <;> simp_all
theorem own_formZ {W : World} {base : Nat} {e : TypeId} {size : Nat} {v : Value} {n : Nat} {xs : List Value} (h : W.ownsRow base e size v n xs) : (v = .slice none 0 0 ∧ n = 0) ∨ ∃ g cap, v = .slice (some ⟨g, 0, none⟩) n cap ∧ base ≤ g ∧ g < W.heap.size ∧ n ≤ cap ∧ cap ≤ maxLen ∧ ∃ cur, W.heap[g]? = some (.cells cur e (0, 0)) := by
  rcases h.2 with h1 | ⟨g, cap, cur, h1, h2, h3, h4, h5, _⟩
  · exact .inl h1
  · exact .inr ⟨g, cap, h1, h2, lt_at h3, h4, h5, cur, h3⟩
theorem own_blockZ {W : World} {base : Nat} {e : TypeId} {size : Nat} {v : Value} {n : Nat} {xs : List Value} (h : W.ownsRow base e size v n xs) : ∀ k, v.ownBlock = some k → base ≤ k := fun k e => (h.lt k e).1
theorem row_belowZ {w w' : World} {base : Nat} {e : TypeId} {size : Nat} {v : Value} {n : Nat} {xs : List Value} (h : w.ownsRow base e size v n xs) (hb : Below w.heap.size w w') : w'.ownsRow base e size v n xs := by
  refine ⟨h.1, ?_⟩
  rcases h.2 with h1 | ⟨g, cap, cur, h1, h2, h3, h4⟩
  · exact .inl h1
  · exact .inr ⟨g, cap, cur, h1, h2, (hb.block _ (lt_at h3)).trans h3, h4⟩
theorem row_baseZ {w : World} {base base' : Nat} {e : TypeId} {size : Nat} {v : Value} {n : Nat} {xs : List Value} (h : w.ownsRow base e size v n xs) (hb : base' ≤ base) : w.ownsRow base' e size v n xs := by
  refine ⟨h.1, ?_⟩
  rcases h.2 with h1 | ⟨g, cap, cur, h1, h2, h3, h4⟩
  · exact .inl h1
  · exact .inr ⟨g, cap, cur, h1, Nat.le_trans hb h2, h3, h4⟩
/-- All of them are bytes. -/
def Byt (l : List Nat) : Prop := ∀ x ∈ l, x < 256
theorem byt_nil : Byt [] := by intro x hx; cases hx
def cB (l : List Nat) : List Value := l.map fun (x : Nat) => .int .u8 (x : Int)
theorem cB_len (l : List Nat) : (cB l).length = l.length := by simp [cB]
theorem cB_one (l : List Nat) : ∀ u ∈ cB l, u.oneCell' = true := by
  intro u hu
  obtain ⟨x, _, rfl⟩ := List.mem_map.1 hu
  rfl
theorem cB_get {l : List Nat} {k x : Nat} (h : l[k]? = some x) : (cB l)[k]? = some (.int .u8 (x : Int)) := by simp [cB, h]
theorem cB_inv {l : List Nat} {k : Nat} {u : Value} (h : (cB l)[k]? = some u) : ∃ x, l[k]? = some x ∧ u = .int .u8 (x : Int) := by
  simp only [cB, List.getElem?_map, Option.map_eq_some_iff] at h
  obtain ⟨x, h1, h2⟩ := h
  exact ⟨x, h1, h2.symm⟩
/-- From there on these bytes lie. -/
def BAt (W : World) (b off : Nat) (l : List Nat) : Prop := ∀ (k x : Nat), l[k]? = some x → W.cell? ⟨b, off + k, none⟩ = some (.int .u8 (x : Int))
/-- A slice of these bytes. -/
def RdB (W : World) (ad : Option Addr) (l : List Nat) : Prop := l ≠ [] → ∃ b off, ad = some ⟨b, off, none⟩ ∧ b < W.heap.size ∧ BAt W b off l
/-- A slice of these bytes, in a block of bytes. -/
def RdY (W : World) (ad : Option Addr) (l : List Nat) : Prop := l ≠ [] → ∃ b off, ad = some ⟨b, off, none⟩ ∧ (∃ cur, W.heap[b]? = some (.cells cur 5 (0, 0))) ∧ BAt W b off l
theorem RdY.rd {W : World} {ad : Option Addr} {l : List Nat} (h : RdY W ad l) : RdB W ad l := fun hl => by
  obtain ⟨b, off, h1, ⟨cur, h2⟩, h3⟩ := h hl
  exact ⟨b, off, h1, lt_at h2, h3⟩
theorem BAt.carry {W W' : World} {b off : Nat} {l : List Nat} (h : BAt W b off l) (e : W'.heap[b]? = W.heap[b]?) : BAt W' b off l :=
  fun k x hk => (World.cell?_of_block (w := W) e).trans (h k x hk)
theorem RdB.carry {W W' : World} {ad : Option Addr} {l : List Nat} (h : RdB W ad l) (hb : Below W.heap.size W W') : RdB W' ad l := by
  intro hl
  obtain ⟨b, off, h1, h2, h3⟩ := h hl
  exact ⟨b, off, h1, Nat.lt_of_lt_of_le h2 hb.size, h3.carry (hb.block b h2)⟩
theorem b_own {W : World} {base g n cap : Nat} {l : List Nat} (h : W.ownsRow base 5 1 (.slice (some ⟨g, 0, none⟩) n cap) n (cB l)) (hn : n = l.length) : BAt W g 0 l := by
  intro k x hk
  have hlt : k < l.length := (List.getElem?_eq_some_iff.1 hk).1
  rw [Nat.zero_add]
  exact (h.cellAt _ (by omega)).trans (cB_get hk)
theorem b_src {W : World} {b off : Nat} {l : List Nat} (h : BAt W b off l) : ∀ j u, (cB l)[j]? = some u → W.cell? ((⟨b, off, none⟩ : Addr).add j) = some u := by
  intro j u hj
  obtain ⟨x, hx, rfl⟩ := cB_inv hj
  rw [add_plZ]
  exact h j x hx
theorem row_put {w : World} {base : Nat} {e : TypeId} {n g cap j : Nat} {xs : List Value} (h : w.ownsRow base e 1 (.slice (some ⟨g, 0, none⟩) n cap) n xs) (u : Value) : (w.setCell ⟨g, j, none⟩ u).ownsRow base e 1 (.slice (some ⟨g, 0, none⟩) n cap) n (xs.set j u) := by
  refine ⟨by simpa using h.1, ?_⟩
  rcases h.2 with ⟨h1, _⟩ | ⟨g1, cap1, cur, h1, h2, h3, h4, h5, h6, h7⟩
  · cases h1
  · cases h1
    refine .inr ⟨g, cap, cur.setIfInBounds j u, rfl, h2, heap_setCell_same _ _ j _ _ u h3, h4, h5, by simpa using h6, ?_⟩
    rw [← h7, Array.toList_setIfInBounds, List.take_set]
theorem cB_app (a b : List Nat) : cB (a ++ b) = cB a ++ cB b := by simp [cB]
theorem BAt.sub {W : World} {b off : Nat} {l : List Nat} (h : BAt W b off l) (i n : Nat) : BAt W b (off + i) ((l.drop i).take n) := by
  intro k x hk
  have hk2 : l[i + k]? = some x := by
    rw [List.getElem?_take] at hk
    split at hk
    · rwa [List.getElem?_drop] at hk
    · cases hk
  rw [Nat.add_assoc]
  exact h _ _ hk2
/-- A disk: its bytes; off, fused, the fuse, the writes. -/
structure Dst where
  l : List Nat
  off : Bool
  fused : Bool
  fuse : Int
  writes : Int
/-- A disk's cells. -/
def dkC (d : Dst) : List Value := cB d.l ++ [.bool d.off, .bool d.fused, .int .i64 d.fuse, .int .i64 d.writes]
/-- A disk in a world, at the block p. -/
structure Dk (W : World) (p : Nat) (d : Dst) : Prop where
  obj : W.heap[p]? = some (.cells (dkC d).toArray 103 (0, 0))
  len : d.l.length = 256
  byt : Byt d.l
theorem Dk.lt {W : World} {p : Nat} {d : Dst} (h : Dk W p d) : p < W.heap.size := lt_at h.obj
theorem Dk.carry {W W' : World} {p : Nat} {d : Dst} (h : Dk W p d) (hb : Below W.heap.size W W') : Dk W' p d := ⟨(hb.block _ h.lt).trans h.obj, h.len, h.byt⟩
theorem dkC_len {d : Dst} (h : d.l.length = 256) : (dkC d).length = 260 := by simp [dkC, cB_len, h]
theorem dkC_lo {d : Dst} {k x : Nat} (h : d.l[k]? = some x) : (dkC d)[k]? = some (.int .u8 (x : Int)) := by
  have := (List.getElem?_eq_some_iff.1 h).1
  rw [dkC, List.getElem?_append_left (by rw [cB_len]; exact this)]
  exact cB_get h
theorem dkC_hi {d : Dst} (h : d.l.length = 256) (k : Nat) : (dkC d)[256 + k]? = [Value.bool d.off, .bool d.fused, .int .i64 d.fuse, .int .i64 d.writes][k]? := by
  rw [dkC, List.getElem?_append_right (by rw [cB_len, h]; omega), cB_len, h, Nat.add_sub_cancel_left]
section
variable {W : World} {p : Nat} {d : Dst}
theorem Dk.at (h : Dk W p d) : BAt W p 0 d.l := fun k x hk => by
  rw [Nat.zero_add, cell_at h.obj, List.getElem?_toArray]
  exact dkC_lo hk
theorem Dk.c0 (h : Dk W p d) : W.cell? ⟨p, 256, none⟩ = some (.bool d.off) := by rw [cell_at h.obj, List.getElem?_toArray]; exact dkC_hi h.len 0
theorem Dk.c1 (h : Dk W p d) : W.cell? ⟨p, 257, none⟩ = some (.bool d.fused) := by rw [cell_at h.obj, List.getElem?_toArray]; exact dkC_hi h.len 1
theorem Dk.c2 (h : Dk W p d) : W.cell? ⟨p, 258, none⟩ = some (.int .i64 d.fuse) := by rw [cell_at h.obj, List.getElem?_toArray]; exact dkC_hi h.len 2
theorem Dk.c3 (h : Dk W p d) : W.cell? ⟨p, 259, none⟩ = some (.int .i64 d.writes) := by rw [cell_at h.obj, List.getElem?_toArray]; exact dkC_hi h.len 3
theorem dkC_set (d : Dst) (h : d.l.length = 256) (k : Nat) (u : Value) : (dkC d).set (256 + k) u = cB d.l ++ [Value.bool d.off, .bool d.fused, .int .i64 d.fuse, .int .i64 d.writes].set k u := by
  rw [dkC, List.set_append_right _ _ (by rw [cB_len, h]; omega), cB_len, h, Nat.add_sub_cancel_left]
theorem Dk.s0 (h : Dk W p d) (x : Bool) : Dk (W.setCell ⟨p, 256, none⟩ (.bool x)) p { d with off := x } :=
  ⟨(heap_setCell_same W p 256 _ _ _ h.obj).trans (by rw [List.setIfInBounds_toArray, dkC_set d h.len 0]; rfl), h.len, h.byt⟩
theorem Dk.s1 (h : Dk W p d) (x : Bool) : Dk (W.setCell ⟨p, 257, none⟩ (.bool x)) p { d with fused := x } :=
  ⟨(heap_setCell_same W p 257 _ _ _ h.obj).trans (by rw [List.setIfInBounds_toArray, dkC_set d h.len 1]; rfl), h.len, h.byt⟩
theorem Dk.s2 (h : Dk W p d) (x : Int) : Dk (W.setCell ⟨p, 258, none⟩ (.int .i64 x)) p { d with fuse := x } :=
  ⟨(heap_setCell_same W p 258 _ _ _ h.obj).trans (by rw [List.setIfInBounds_toArray, dkC_set d h.len 2]; rfl), h.len, h.byt⟩
theorem Dk.s3 (h : Dk W p d) (x : Int) : Dk (W.setCell ⟨p, 259, none⟩ (.int .i64 x)) p { d with writes := x } :=
  ⟨(heap_setCell_same W p 259 _ _ _ h.obj).trans (by rw [List.setIfInBounds_toArray, dkC_set d h.len 3]; rfl), h.len, h.byt⟩
theorem Dk.thaw (h : Dk W p d) (j : Nat) : W.frozen? ⟨p, j, none⟩ = false := thaw_at h.obj j
end
/-- What turns the block p alone, of those that were there. -/
structure TpZ (p : Nat) (W W' : World) : Prop where
  os : W'.os = W.os
  tape : W'.tape = W.tape
  output : W'.output = W.output
  size : W.heap.size ≤ W'.heap.size
  block : ∀ k, k < W.heap.size → k ≠ p → W'.heap[k]? = W.heap[k]?
theorem TpZ.of (p : Nat) {W W' : World} (hb : Below W.heap.size W W') : TpZ p W W' := ⟨hb.os, hb.tape, hb.output, hb.size, fun k hk _ => hb.block k hk⟩
theorem TpZ.trans {p : Nat} {W W' W'' : World} (h : TpZ p W W') (k : TpZ p W' W'') : TpZ p W W'' :=
  ⟨k.os.trans h.os, k.tape.trans h.tape, k.output.trans h.output, Nat.le_trans h.size k.size, fun j hj hn => (k.block j (Nat.lt_of_lt_of_le hj h.size) hn).trans (h.block j hj hn)⟩
theorem TpZ.below {p base : Nat} {W W' : World} (h : TpZ p W W') (hp : base ≤ p) (hb : base ≤ W.heap.size) : Below base W W' :=
  ⟨h.os, h.tape, h.output, h.size, fun k hk => h.block k (by omega) (by omega)⟩
theorem TpZ.set (p j : Nat) (W : World) (v : Value) : TpZ p W (W.setCell ⟨p, j, none⟩ v) :=
  ⟨rfl, rfl, rfl, by simp [World.setCell], fun k _ hn => Below.heap_setCell W ⟨p, j, none⟩ v k hn⟩
theorem TpZ.row (p : Nat) (W : World) (cs : Array Value) : TpZ p W (W.setRow p cs) :=
  ⟨rfl, rfl, rfl, by simp [World.setRow], fun k _ hn => setRow_other W p k cs hn⟩
/-- Another disk abides. -/
theorem Dk.tp {W W' : World} {p q : Nat} {d : Dst} (h : Dk W q d) (ht : TpZ p W W') (hn : q ≠ p) : Dk W' q d := ⟨(ht.block _ h.lt hn).trans h.obj, h.len, h.byt⟩
/-- A sector's bytes are put. -/
def putS (l : List Nat) (s : Nat) (x : List Nat) : List Nat := splice l (32 * s) x
theorem putS_len {l : List Nat} {s : Nat} {x : List Nat} (h : 32 * s + x.length ≤ l.length) : (putS l s x).length = l.length := length_splice _ _ _ h
theorem putS_byt {l : List Nat} {s : Nat} {x : List Nat} (h : Byt l) (hx : Byt x) : Byt (putS l s x) := by
  intro y hy
  simp only [putS, splice, List.mem_append] at hy
  rcases hy with q | q | q
  · exact h y (List.mem_of_mem_take q)
  · exact hx y q
  · exact h y (List.mem_of_mem_drop q)
theorem dkC_put (d : Dst) (h : d.l.length = 256) (s : Nat) (x : List Nat) (hs : 32 * s + x.length ≤ 256) : splice (dkC d) (32 * s) (cB x) = dkC { d with l := putS d.l s x } := by
  simp only [splice, dkC, putS, cB_app, cB_len]
  rw [List.take_append_of_le_length (by rw [cB_len, h]; omega), List.drop_append_of_le_length (by rw [cB_len, h]; exact hs)]
  simp [cB, List.map_take, List.map_drop]
/-- A whole variable into the middle of a block that is known whole. -/
theorem run_store_inZ {P : Program} (w : World) (g o : Nat) (t ty : TypeId) (cur vs : List Value) (hg : w.heap[g]? = some (.cells cur.toArray t (0, 0))) (hi : (P.info? ty).map (·.size) = some vs.length) (hf : o + vs.length ≤ cur.length) (h1 : ∀ v ∈ vs, v.oneCell' = true) :
    (Instr.storeAt ty (.pointer (some ⟨g, o, none⟩)) (.agg vs.toArray)).run P w = .ok () (w.setRow g (splice cur o vs).toArray) := by
  have := run_storeCells_at P g o t vs 0 cur.toArray w hg (by simpa using hf) h1
  cases hq : P.info? ty with
  | none => simp [hq] at hi
  | some i =>
    have hs : vs.length = i.size := by simp [hq] at hi; omega
    simp only [Nat.add_zero] at this
    simp [Instr.storeAt, Instr.sureAddr, storeVar, sizeOf, typeInfo, hq, Value.cells, hs, this, splice]
theorem infoSZ : (Tryz.prog.info? 98).map (·.size) = some 32 := by kernel_rfl
theorem Dk.put {W : World} {p : Nat} {d : Dst} (h : Dk W p d) (s : Nat) (x : List Nat) (hx : x.length = 32) (hb : Byt x) (hs : s < 8) :
    ∃ W', (Instr.storeAt 98 (.pointer (some ⟨p, 32 * s, none⟩)) (.agg (cB x).toArray)).run Tryz.prog W = .ok () W' ∧ Dk W' p { d with l := putS d.l s x } ∧ TpZ p W W' := by
  refine ⟨_, run_store_inZ W p (32 * s) _ _ (dkC d) (cB x) h.obj (by rw [cB_len, hx]; exact infoSZ) (by rw [cB_len, hx, dkC_len h.len]; omega) (cB_one x), ?_, TpZ.row _ _ _⟩
  refine ⟨(setRow_heap W p _ _ _ _ h.obj).trans ?_, (putS_len (by rw [hx, h.len]; omega)).trans h.len, putS_byt h.byt hb⟩
  rw [dkC_put d h.len s x (by omega)]
/-- The new disk. -/
def d0 : Dst := ⟨List.replicate 256 0, false, false, 0, 0⟩
theorem byt_zero (n : Nat) : Byt (List.replicate n 0) := by
  intro x hx
  rw [List.eq_of_mem_replicate hx]
  decide
end Go.Proofs.YtklnfbanfgdgcaaGreatDoor
namespace Go.Proofs.YtklnfbanfgdgcaaGreatDoor
open Go.RowKit Go.Extern.Stop Go.Stop Go.Extern

end Go.Proofs.YtklnfbanfgdgcaaGreatDoor
