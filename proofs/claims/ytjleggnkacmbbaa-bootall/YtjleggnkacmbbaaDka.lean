/- Bytes and disks in a world; what turns a disk alone. -/
import Derived.Test.YtjleggnkacmbbaaProg
import Derived.Test.YtjleggnkacmbbaaBxs
import Derived.Test.YtjleggnkacmbbaaSlg
import Derived.Test.YtjleggnkacmbbaaRgf
import Derived.Test.YtjleggnkacmbbaaRgn
import Derived.Laws.OwnMore
import Derived.Shelf.Abstract
import Derived.Laws.CopyRow
import Derived.Laws.CopyOwn
namespace Go.Proofs.Ytjleggnkacmbbaa
open Go.RowKit Go.Shelf

theorem bel2 {w w1 w2 : World} (h : Below w.heap.size w w1) (k : Below w1.heap.size w1 w2) : Below w.heap.size w w2 := h.trans (k.mono h.size)
theorem al1' (w : World) (o : Obj) : Below w.heap.size w (w.alloc o) := (Below.refl _ w).alloc (Nat.le_refl _) o
theorem add_pl (b off j : Nat) : (⟨b, off, none⟩ : Addr).add j = ⟨b, off + j, none⟩ := by unfold Addr.add; split <;> simp_all
theorem own_form {W : World} {base : Nat} {e : TypeId} {size : Nat} {v : Value} {n : Nat} {xs : List Value} (h : W.ownsRow base e size v n xs) : (v = .slice none 0 0 ∧ n = 0) ∨ ∃ g cap, v = .slice (some ⟨g, 0, none⟩) n cap ∧ base ≤ g ∧ g < W.heap.size ∧ n ≤ cap ∧ cap ≤ maxLen ∧ ∃ cur, W.heap[g]? = some (.cells cur e (0, 0)) := by
  rcases h.2 with h1 | ⟨g, cap, cur, h1, h2, h3, h4, h5, _⟩
  · exact .inl h1
  · exact .inr ⟨g, cap, h1, h2, lt_at h3, h4, h5, cur, h3⟩
theorem own_block {W : World} {base : Nat} {e : TypeId} {size : Nat} {v : Value} {n : Nat} {xs : List Value} (h : W.ownsRow base e size v n xs) : ∀ k, v.ownBlock = some k → base ≤ k := fun k e => (h.lt k e).1
theorem row_below {w w' : World} {base : Nat} {e : TypeId} {size : Nat} {v : Value} {n : Nat} {xs : List Value} (h : w.ownsRow base e size v n xs) (hb : Below w.heap.size w w') : w'.ownsRow base e size v n xs := by
  refine ⟨h.1, ?_⟩
  rcases h.2 with h1 | ⟨g, cap, cur, h1, h2, h3, h4⟩
  · exact .inl h1
  · exact .inr ⟨g, cap, cur, h1, h2, (hb.block _ (lt_at h3)).trans h3, h4⟩
theorem row_base {w : World} {base base' : Nat} {e : TypeId} {size : Nat} {v : Value} {n : Nat} {xs : List Value} (h : w.ownsRow base e size v n xs) (hb : base' ≤ base) : w.ownsRow base' e size v n xs := by
  refine ⟨h.1, ?_⟩
  rcases h.2 with h1 | ⟨g, cap, cur, h1, h2, h3, h4⟩
  · exact .inl h1
  · exact .inr ⟨g, cap, cur, h1, Nat.le_trans hb h2, h3, h4⟩
/-- All of them are bytes. -/
def Byt (l : List Nat) : Prop := ∀ x ∈ l, x < 256
theorem byt_nil : Byt [] := by intro x hx; cases hx
def cB (l : List Nat) : List Value := l.map fun (x : Nat) => .int .u8 (x : Int)
theorem cB_len (l : List Nat) : (cB l).length = l.length := by simp [cB]
theorem cB_one (l : List Nat) : ∀ u ∈ cB l, u.oneCell' = true := by
  intro u hu
  obtain ⟨x, _, rfl⟩ := List.mem_map.1 hu
  rfl
theorem cB_get {l : List Nat} {k x : Nat} (h : l[k]? = some x) : (cB l)[k]? = some (.int .u8 (x : Int)) := by simp [cB, h]
theorem cB_inv {l : List Nat} {k : Nat} {u : Value} (h : (cB l)[k]? = some u) : ∃ x, l[k]? = some x ∧ u = .int .u8 (x : Int) := by
  simp only [cB, List.getElem?_map, Option.map_eq_some_iff] at h
  obtain ⟨x, h1, h2⟩ := h
  exact ⟨x, h1, h2.symm⟩
/-- From there on these bytes lie. -/
def BAt (W : World) (b off : Nat) (l : List Nat) : Prop := ∀ (k x : Nat), l[k]? = some x → W.cell? ⟨b, off + k, none⟩ = some (.int .u8 (x : Int))
/-- A slice of these bytes. -/
def RdB (W : World) (ad : Option Addr) (l : List Nat) : Prop := l ≠ [] → ∃ b off, ad = some ⟨b, off, none⟩ ∧ b < W.heap.size ∧ BAt W b off l
/-- A slice of these bytes, in a block of bytes. -/
def RdY (W : World) (ad : Option Addr) (l : List Nat) : Prop := l ≠ [] → ∃ b off, ad = some ⟨b, off, none⟩ ∧ (∃ cur, W.heap[b]? = some (.cells cur 5 (0, 0))) ∧ BAt W b off l
theorem RdY.rd {W : World} {ad : Option Addr} {l : List Nat} (h : RdY W ad l) : RdB W ad l := fun hl => by
  obtain ⟨b, off, h1, ⟨cur, h2⟩, h3⟩ := h hl
  exact ⟨b, off, h1, lt_at h2, h3⟩
theorem BAt.carry {W W' : World} {b off : Nat} {l : List Nat} (h : BAt W b off l) (e : W'.heap[b]? = W.heap[b]?) : BAt W' b off l :=
  fun k x hk => (World.cell?_of_block (w := W) e).trans (h k x hk)
theorem RdB.carry {W W' : World} {ad : Option Addr} {l : List Nat} (h : RdB W ad l) (hb : Below W.heap.size W W') : RdB W' ad l := by
  intro hl
  obtain ⟨b, off, h1, h2, h3⟩ := h hl
  exact ⟨b, off, h1, Nat.lt_of_lt_of_le h2 hb.size, h3.carry (hb.block b h2)⟩
theorem RdY.carry {W W' : World} {ad : Option Addr} {l : List Nat} (h : RdY W ad l) (hb : Below W.heap.size W W') : RdY W' ad l := by
  intro hl
  obtain ⟨b, off, h1, ⟨cur, h2⟩, h3⟩ := h hl
  exact ⟨b, off, h1, ⟨cur, (hb.block b (lt_at h2)).trans h2⟩, h3.carry (hb.block b (lt_at h2))⟩
theorem b_own {W : World} {base g n cap : Nat} {l : List Nat} (h : W.ownsRow base 5 1 (.slice (some ⟨g, 0, none⟩) n cap) n (cB l)) (hn : n = l.length) : BAt W g 0 l := by
  intro k x hk
  have hlt : k < l.length := (List.getElem?_eq_some_iff.1 hk).1
  rw [Nat.zero_add]
  exact (h.cellAt _ (by omega)).trans (cB_get hk)
theorem RdY.own {W : World} {base : Nat} {ad : Option Addr} {c : Nat} {l : List Nat} (h : W.ownsRow base 5 1 (.slice ad l.length c) l.length (cB l)) : RdY W ad l := by
  rcases own_form h with ⟨e1, e⟩ | ⟨g, cap, e1, h1, h2, h3, h4, h5⟩
  · exact fun q => absurd (List.length_eq_zero_iff.1 e) q
  · cases e1
    exact fun _ => ⟨g, 0, rfl, h5, b_own h rfl⟩
theorem b_src {W : World} {b off : Nat} {l : List Nat} (h : BAt W b off l) : ∀ j u, (cB l)[j]? = some u → W.cell? ((⟨b, off, none⟩ : Addr).add j) = some u := by
  intro j u hj
  obtain ⟨x, hx, rfl⟩ := cB_inv hj
  rw [add_pl]
  exact h j x hx
/-- A cell behind the row is put. -/
theorem row_behind {w : World} {base : Nat} {e : TypeId} {v : Value} {n g j : Nat} {xs : List Value} (h : w.ownsRow base e 1 v n xs) (hj : n ≤ j) (u : Value) : (w.setCell ⟨g, j, none⟩ u).ownsRow base e 1 v n xs := by
  refine ⟨h.1, ?_⟩
  rcases h.2 with h1 | ⟨g1, cap, cur, h1, h2, h3, h4, h5, h6, h7⟩
  · exact .inl h1
  · refine .inr ?_
    by_cases hg : g1 = g
    · subst hg
      refine ⟨g1, cap, cur.setIfInBounds j u, h1, h2, heap_setCell_same _ _ j _ _ u h3, h4, h5, by simpa using h6, ?_⟩
      rw [← h7, Array.toList_setIfInBounds, List.take_set_of_le (by omega)]
    · exact ⟨g1, cap, cur, h1, h2, (Below.heap_setCell _ _ _ _ hg).trans h3, h4, h5, h6, h7⟩
theorem row_put {w : World} {base : Nat} {e : TypeId} {n g cap j : Nat} {xs : List Value} (h : w.ownsRow base e 1 (.slice (some ⟨g, 0, none⟩) n cap) n xs) (u : Value) : (w.setCell ⟨g, j, none⟩ u).ownsRow base e 1 (.slice (some ⟨g, 0, none⟩) n cap) n (xs.set j u) := by
  refine ⟨by simpa using h.1, ?_⟩
  rcases h.2 with ⟨h1, _⟩ | ⟨g1, cap1, cur, h1, h2, h3, h4, h5, h6, h7⟩
  · cases h1
  · cases h1
    refine .inr ⟨g, cap, cur.setIfInBounds j u, rfl, h2, heap_setCell_same _ _ j _ _ u h3, h4, h5, by simpa using h6, ?_⟩
    rw [← h7, Array.toList_setIfInBounds, List.take_set]
theorem row_other {w : World} {base : Nat} {e : TypeId} {v : Value} {size n b j : Nat} {xs : List Value} (h : w.ownsRow base e size v n xs) (hb : v.ownBlock ≠ some b) (u : Value) : (w.setCell ⟨b, j, none⟩ u).ownsRow base e size v n xs := by
  refine ⟨h.1, ?_⟩
  rcases h.2 with h1 | ⟨g1, cap, cur, rfl, h2, h3, h4⟩
  · exact .inl h1
  · exact .inr ⟨g1, cap, cur, rfl, h2, (Below.heap_setCell _ _ _ _ (fun e => hb (congrArg some e))).trans h3, h4⟩
/-- The row's head alone. -/
theorem row_take {w : World} {base : Nat} {e : TypeId} {n g cap : Nat} {xs : List Value} (h : w.ownsRow base e 1 (.slice (some ⟨g, 0, none⟩) n cap) n xs) (i : Nat) (hi : i ≤ n) : w.ownsRow base e 1 (.slice (some ⟨g, 0, none⟩) i cap) i (xs.take i) := by
  refine ⟨by have := h.1; simp; omega, ?_⟩
  rcases h.2 with ⟨h1, _⟩ | ⟨g1, cap1, cur, h1, h2, h3, h4, h5, h6, h7⟩
  · cases h1
  · cases h1
    refine .inr ⟨g, cap, cur, rfl, h2, h3, by omega, h5, h6, ?_⟩
    rw [← h7, List.take_take]
    congr 1
    omega
theorem cB_app (a b : List Nat) : cB (a ++ b) = cB a ++ cB b := by simp [cB]
theorem BAt.sub {W : World} {b off : Nat} {l : List Nat} (h : BAt W b off l) (i n : Nat) : BAt W b (off + i) ((l.drop i).take n) := by
  intro k x hk
  have hk2 : l[i + k]? = some x := by
    rw [List.getElem?_take] at hk
    split at hk
    · rwa [List.getElem?_drop] at hk
    · cases hk
  rw [Nat.add_assoc]
  exact h _ _ hk2
/-- A disk: its bytes; off, fused, the fuse, the writes. -/
structure Dst where
  l : List Nat
  off : Bool
  fused : Bool
  fuse : Int
  writes : Int
/-- A disk's cells. -/
def dkC (d : Dst) : List Value := cB d.l ++ [.bool d.off, .bool d.fused, .int .i64 d.fuse, .int .i64 d.writes]
/-- A disk in a world, at the block p. -/
structure Dk (W : World) (p : Nat) (d : Dst) : Prop where
  obj : W.heap[p]? = some (.cells (dkC d).toArray 51 (0, 0))
  len : d.l.length = 256
  byt : Byt d.l
theorem Dk.lt {W : World} {p : Nat} {d : Dst} (h : Dk W p d) : p < W.heap.size := lt_at h.obj
theorem Dk.carry {W W' : World} {p : Nat} {d : Dst} (h : Dk W p d) (hb : Below W.heap.size W W') : Dk W' p d := ⟨(hb.block _ h.lt).trans h.obj, h.len, h.byt⟩
theorem dkC_len {d : Dst} (h : d.l.length = 256) : (dkC d).length = 260 := by simp [dkC, cB_len, h]
theorem dkC_lo {d : Dst} {k x : Nat} (h : d.l[k]? = some x) : (dkC d)[k]? = some (.int .u8 (x : Int)) := by
  have := (List.getElem?_eq_some_iff.1 h).1
  rw [dkC, List.getElem?_append_left (by rw [cB_len]; exact this)]
  exact cB_get h
theorem dkC_hi {d : Dst} (h : d.l.length = 256) (k : Nat) : (dkC d)[256 + k]? = [Value.bool d.off, .bool d.fused, .int .i64 d.fuse, .int .i64 d.writes][k]? := by
  rw [dkC, List.getElem?_append_right (by rw [cB_len, h]; omega), cB_len, h, Nat.add_sub_cancel_left]
section
variable {W : World} {p : Nat} {d : Dst}
theorem Dk.at (h : Dk W p d) : BAt W p 0 d.l := fun k x hk => by
  rw [Nat.zero_add, cell_at h.obj, List.getElem?_toArray]
  exact dkC_lo hk
theorem Dk.c0 (h : Dk W p d) : W.cell? ⟨p, 256, none⟩ = some (.bool d.off) := by rw [cell_at h.obj, List.getElem?_toArray]; exact dkC_hi h.len 0
theorem Dk.c1 (h : Dk W p d) : W.cell? ⟨p, 257, none⟩ = some (.bool d.fused) := by rw [cell_at h.obj, List.getElem?_toArray]; exact dkC_hi h.len 1
theorem Dk.c2 (h : Dk W p d) : W.cell? ⟨p, 258, none⟩ = some (.int .i64 d.fuse) := by rw [cell_at h.obj, List.getElem?_toArray]; exact dkC_hi h.len 2
theorem Dk.c3 (h : Dk W p d) : W.cell? ⟨p, 259, none⟩ = some (.int .i64 d.writes) := by rw [cell_at h.obj, List.getElem?_toArray]; exact dkC_hi h.len 3
theorem dkC_set (d : Dst) (h : d.l.length = 256) (k : Nat) (u : Value) : (dkC d).set (256 + k) u = cB d.l ++ [Value.bool d.off, .bool d.fused, .int .i64 d.fuse, .int .i64 d.writes].set k u := by
  rw [dkC, List.set_append_right _ _ (by rw [cB_len, h]; omega), cB_len, h, Nat.add_sub_cancel_left]
theorem Dk.s0 (h : Dk W p d) (x : Bool) : Dk (W.setCell ⟨p, 256, none⟩ (.bool x)) p { d with off := x } :=
  ⟨(heap_setCell_same W p 256 _ _ _ h.obj).trans (by rw [List.setIfInBounds_toArray, dkC_set d h.len 0]; rfl), h.len, h.byt⟩
theorem Dk.s1 (h : Dk W p d) (x : Bool) : Dk (W.setCell ⟨p, 257, none⟩ (.bool x)) p { d with fused := x } :=
  ⟨(heap_setCell_same W p 257 _ _ _ h.obj).trans (by rw [List.setIfInBounds_toArray, dkC_set d h.len 1]; rfl), h.len, h.byt⟩
theorem Dk.s2 (h : Dk W p d) (x : Int) : Dk (W.setCell ⟨p, 258, none⟩ (.int .i64 x)) p { d with fuse := x } :=
  ⟨(heap_setCell_same W p 258 _ _ _ h.obj).trans (by rw [List.setIfInBounds_toArray, dkC_set d h.len 2]; rfl), h.len, h.byt⟩
theorem Dk.s3 (h : Dk W p d) (x : Int) : Dk (W.setCell ⟨p, 259, none⟩ (.int .i64 x)) p { d with writes := x } :=
  ⟨(heap_setCell_same W p 259 _ _ _ h.obj).trans (by rw [List.setIfInBounds_toArray, dkC_set d h.len 3]; rfl), h.len, h.byt⟩
theorem Dk.thaw (h : Dk W p d) (j : Nat) : W.frozen? ⟨p, j, none⟩ = false := thaw_at h.obj j
end
/-- What turns the block p alone, of those that were there. -/
structure Tp (p : Nat) (W W' : World) : Prop where
  os : W'.os = W.os
  tape : W'.tape = W.tape
  output : W'.output = W.output
  size : W.heap.size ≤ W'.heap.size
  block : ∀ k, k < W.heap.size → k ≠ p → W'.heap[k]? = W.heap[k]?
theorem Tp.of (p : Nat) {W W' : World} (hb : Below W.heap.size W W') : Tp p W W' := ⟨hb.os, hb.tape, hb.output, hb.size, fun k hk _ => hb.block k hk⟩
theorem Tp.trans {p : Nat} {W W' W'' : World} (h : Tp p W W') (k : Tp p W' W'') : Tp p W W'' :=
  ⟨k.os.trans h.os, k.tape.trans h.tape, k.output.trans h.output, Nat.le_trans h.size k.size, fun j hj hn => (k.block j (Nat.lt_of_lt_of_le hj h.size) hn).trans (h.block j hj hn)⟩
theorem Tp.below {p base : Nat} {W W' : World} (h : Tp p W W') (hp : base ≤ p) (hb : base ≤ W.heap.size) : Below base W W' :=
  ⟨h.os, h.tape, h.output, h.size, fun k hk => h.block k (by omega) (by omega)⟩
theorem Tp.set (p j : Nat) (W : World) (v : Value) : Tp p W (W.setCell ⟨p, j, none⟩ v) :=
  ⟨rfl, rfl, rfl, by simp [World.setCell], fun k _ hn => Below.heap_setCell W ⟨p, j, none⟩ v k hn⟩
theorem Tp.row (p : Nat) (W : World) (cs : Array Value) : Tp p W (W.setRow p cs) :=
  ⟨rfl, rfl, rfl, by simp [World.setRow], fun k _ hn => setRow_other W p k cs hn⟩
/-- Another disk abides. -/
theorem Dk.tp {W W' : World} {p q : Nat} {d : Dst} (h : Dk W q d) (ht : Tp p W W') (hn : q ≠ p) : Dk W' q d := ⟨(ht.block _ h.lt hn).trans h.obj, h.len, h.byt⟩
/-- Bytes in a block of bytes abide where a disk turns. -/
theorem RdY.tp {W W' : World} {p : Nat} {d : Dst} (h : Dk W p d) (ht : Tp p W W') {a : Option Addr} {x : List Nat} (hd : RdY W a x) : RdY W' a x := fun hl => by
  obtain ⟨b, off, h1, ⟨cur, h2⟩, h3⟩ := hd hl
  have hn : b ≠ p := fun e => by
    subst e
    have := h2.symm.trans h.obj
    simp only [Option.some.injEq, Obj.cells.injEq] at this
    exact absurd this.2.1 (by decide)
  have h4 := ht.block b (lt_at h2) hn
  exact ⟨b, off, h1, ⟨cur, h4.trans h2⟩, h3.carry h4⟩
/-- A sector's bytes are put. -/
def putS (l : List Nat) (s : Nat) (x : List Nat) : List Nat := splice l (32 * s) x
theorem putS_len {l : List Nat} {s : Nat} {x : List Nat} (h : 32 * s + x.length ≤ l.length) : (putS l s x).length = l.length := length_splice _ _ _ h
theorem putS_byt {l : List Nat} {s : Nat} {x : List Nat} (h : Byt l) (hx : Byt x) : Byt (putS l s x) := by
  intro y hy
  simp only [putS, splice, List.mem_append] at hy
  rcases hy with q | q | q
  · exact h y (List.mem_of_mem_take q)
  · exact hx y q
  · exact h y (List.mem_of_mem_drop q)
theorem dkC_put (d : Dst) (h : d.l.length = 256) (s : Nat) (x : List Nat) (hs : 32 * s + x.length ≤ 256) : splice (dkC d) (32 * s) (cB x) = dkC { d with l := putS d.l s x } := by
  simp only [splice, dkC, putS, cB_app, cB_len]
  rw [List.take_append_of_le_length (by rw [cB_len, h]; omega), List.drop_append_of_le_length (by rw [cB_len, h]; exact hs)]
  simp [cB, List.map_take, List.map_drop]
/-- A whole variable into the middle of a block that is known whole. -/
theorem run_store_in {P : Program} (w : World) (g o : Nat) (t ty : TypeId) (cur vs : List Value) (hg : w.heap[g]? = some (.cells cur.toArray t (0, 0))) (hi : (P.info? ty).map (·.size) = some vs.length) (hf : o + vs.length ≤ cur.length) (h1 : ∀ v ∈ vs, v.oneCell' = true) :
    (Instr.storeAt ty (.pointer (some ⟨g, o, none⟩)) (.agg vs.toArray)).run P w = .ok () (w.setRow g (splice cur o vs).toArray) := by
  have := run_storeCells_at P g o t vs 0 cur.toArray w hg (by simpa using hf) h1
  cases hq : P.info? ty with
  | none => simp [hq] at hi
  | some i =>
    have hs : vs.length = i.size := by simp [hq] at hi; omega
    simp only [Nat.add_zero] at this
    simp [Instr.storeAt, Instr.sureAddr, storeVar, sizeOf, typeInfo, hq, Value.cells, hs, this, splice]
theorem infoS : (Try.prog.info? 48).map (·.size) = some 32 := by kernel_rfl
theorem infoD : (Try.prog.info? 51).map (·.size) = some 260 := by kernel_rfl
theorem Dk.put {W : World} {p : Nat} {d : Dst} (h : Dk W p d) (s : Nat) (x : List Nat) (hx : x.length = 32) (hb : Byt x) (hs : s < 8) :
    ∃ W', (Instr.storeAt 48 (.pointer (some ⟨p, 32 * s, none⟩)) (.agg (cB x).toArray)).run Try.prog W = .ok () W' ∧ Dk W' p { d with l := putS d.l s x } ∧ Tp p W W' := by
  refine ⟨_, run_store_in W p (32 * s) _ _ (dkC d) (cB x) h.obj (by rw [cB_len, hx]; exact infoS) (by rw [cB_len, hx, dkC_len h.len]; omega) (cB_one x), ?_, Tp.row _ _ _⟩
  refine ⟨(setRow_heap W p _ _ _ _ h.obj).trans ?_, (putS_len (by rw [hx, h.len]; omega)).trans h.len, putS_byt h.byt hb⟩
  rw [dkC_put d h.len s x (by omega)]
/-- The new disk. -/
def d0 : Dst := ⟨List.replicate 256 0, false, false, 0, 0⟩
theorem byt_zero (n : Nat) : Byt (List.replicate n 0) := by
  intro x hx
  rw [List.eq_of_mem_replicate hx]
  decide
end Go.Proofs.Ytjleggnkacmbbaa
