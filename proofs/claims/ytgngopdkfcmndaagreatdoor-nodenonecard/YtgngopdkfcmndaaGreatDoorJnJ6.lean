/- Rows that a call owns; what turns a block and its list alone. For every program. -/
import Derived.Test.YtgngopdkfcmndaaGreatDoorProg
import Derived.Test.YtgngopdkfcmndaaGreatDoorJnJ0
import Derived.Test.YtgngopdkfcmndaaGreatDoorJnJ1
import Derived.Maps.AppendAt
import Derived.OwnWalk
import Derived.Laws.OwnMore
import Derived.Shelf.Abstract
import Derived.ArgAppend
import Derived.Test.YtgngopdkfcmndaaGreatDoorJnJ5
namespace Go.Proofs.YtgngopdkfcmndaaGreatDoor
open Go.RowKit Go.Shelf

theorem bel2 {w w1 w2 : World} (h : Below w.heap.size w w1) (k : Below w1.heap.size w1 w2) : Below w.heap.size w w2 := h.trans (k.mono h.size)
theorem al1' (w : World) (o : Obj) : Below w.heap.size w (w.alloc o) := (Below.refl _ w).alloc (Nat.le_refl _) o
theorem add_pl (b off j : Nat) : (⟨b, off, none⟩ : Addr).add j = ⟨b, off + j, none⟩ := by unfold Addr.add; split <;> simp_all
theorem own_form {W : World} {base : Nat} {e : TypeId} {size : Nat} {v : Value} {n : Nat} {xs : List Value} (h : W.ownsRow base e size v n xs) : (v = .slice none 0 0 ∧ n = 0) ∨ ∃ g cap, v = .slice (some ⟨g, 0, none⟩) n cap ∧ base ≤ g ∧ g < W.heap.size ∧ n ≤ cap ∧ cap ≤ maxLen ∧ ∃ cur, W.heap[g]? = some (.cells cur e (0, 0)) := by
  rcases h.2 with h1 | ⟨g, cap, cur, h1, h2, h3, h4, h5, _⟩
  · exact .inl h1
  · exact .inr ⟨g, cap, h1, h2, lt_at h3, h4, h5, cur, h3⟩
theorem own_block {W : World} {base : Nat} {e : TypeId} {size : Nat} {v : Value} {n : Nat} {xs : List Value} (h : W.ownsRow base e size v n xs) : ∀ k, v.ownBlock = some k → base ≤ k := fun k e => (h.lt k e).1
theorem row_below {w w' : World} {base : Nat} {e : TypeId} {size : Nat} {v : Value} {n : Nat} {xs : List Value} (h : w.ownsRow base e size v n xs) (hb : Below w.heap.size w w') : w'.ownsRow base e size v n xs := by
  refine ⟨h.1, ?_⟩
  rcases h.2 with h1 | ⟨g, cap, cur, h1, h2, h3, h4⟩
  · exact .inl h1
  · exact .inr ⟨g, cap, cur, h1, h2, (hb.block _ (lt_at h3)).trans h3, h4⟩
theorem row_base {w : World} {base base' : Nat} {e : TypeId} {size : Nat} {v : Value} {n : Nat} {xs : List Value} (h : w.ownsRow base e size v n xs) (hb : base' ≤ base) : w.ownsRow base' e size v n xs := by
  refine ⟨h.1, ?_⟩
  rcases h.2 with h1 | ⟨g, cap, cur, h1, h2, h3, h4⟩
  · exact .inl h1
  · exact .inr ⟨g, cap, cur, h1, Nat.le_trans hb h2, h3, h4⟩
/-- All of them are bytes. -/
theorem row_other {w : World} {base : Nat} {e : TypeId} {v : Value} {size n b j : Nat} {xs : List Value} (h : w.ownsRow base e size v n xs) (hb : v.ownBlock ≠ some b) (u : Value) : (w.setCell ⟨b, j, none⟩ u).ownsRow base e size v n xs := by
  refine ⟨h.1, ?_⟩
  rcases h.2 with h1 | ⟨g1, cap, cur, rfl, h2, h3, h4⟩
  · exact .inl h1
  · exact .inr ⟨g1, cap, cur, rfl, h2, (Below.heap_setCell _ _ _ _ (fun e => hb (congrArg some e))).trans h3, h4⟩
theorem row_apart2 {w w' : World} {base : Nat} {e : TypeId} {size : Nat} {v : Value} {n : Nat} {xs : List Value} {row : Option Nat} (h : w.ownsRow base e size v n xs) (hg : w.grownBy w' row) (hne : ∀ b, row = some b → v.ownBlock ≠ some b) : w'.ownsRow base e size v n xs := by
  obtain ⟨h1, h2⟩ := h
  refine ⟨h1, ?_⟩
  rcases h2 with h2 | ⟨g, cap, cur, h3, h4, h5, h6⟩
  · exact .inl h2
  · subst h3
    exact .inr ⟨g, cap, cur, rfl, h4, (hg.block g (lt_at h5) (fun e => hne g e.symm rfl)).trans h5, h6⟩
theorem rowBlk {w : World} {base : Nat} {e : TypeId} {size : Nat} {v : Value} {n : Nat} {xs : List Value} (h : w.ownsRow base e size v n xs) : ∀ g, v.ownBlock = some g → base ≤ g ∧ ∃ cur, w.heap[g]? = some (.cells cur e (0, 0)) := by
  intro g hg
  rcases h.2 with ⟨rfl, _⟩ | ⟨g', cap, cur, rfl, h4, h5, _⟩
  · cases hg
  · cases hg
    exact ⟨h4, cur, h5⟩
theorem row_lt2 {w : World} {base : Nat} {e : TypeId} {size : Nat} {v : Value} {n : Nat} {xs : List Value} (h : w.ownsRow base e size v n xs) : ∀ b, v.ownBlock = some b → base ≤ b ∧ b < w.heap.size := fun b hb => by
  obtain ⟨h1, cur, h2⟩ := rowBlk h b hb
  exact ⟨h1, lt_at h2⟩
theorem info_parts {t : TypeId} {z : Option Value} {s b : Nat} (h : (Tryz.prog.info? t).map (fun i => (i.zero, i.size, i.bytes)) = some (z, s, b)) : ∃ i, Tryz.prog.info? t = some i ∧ i.zero = z ∧ i.size = s ∧ i.bytes = b := by
  cases hi : Tryz.prog.info? t with
  | none => rw [hi] at h; cases h
  | some i =>
    rw [hi] at h
    simp only [Option.map_some, Option.some.injEq, Prod.mk.injEq] at h
    exact ⟨i, rfl, h.1, h.2.1, h.2.2⟩
theorem row_type {W : World} {base n q size : Nat} {e : TypeId} {v : Value} {xs : List Value} {cur : Array Value} {t : TypeId} {fz : Nat × Nat} (h : W.ownsRow base e size v n xs) (ho : W.heap[q]? = some (.cells cur t fz)) (ht : t ≠ e) : v.ownBlock ≠ some q := fun hq => by
  obtain ⟨_, c, h2⟩ := rowBlk h q hq
  have := h2.symm.trans ho
  simp only [Option.some.injEq, Obj.cells.injEq] at this
  exact ht this.2.1.symm
/-- The row is at another place. -/
theorem row_moved {W V : World} {base n size : Nat} {e : TypeId} {v : Value} {xs : List Value} (h : W.ownsRow base e size v n xs) (hV : ∀ b, v.ownBlock = some b → V.heap[b]? = W.heap[b]?) : V.ownsRow base e size v n xs := by
  obtain ⟨h1, h2⟩ := h
  refine ⟨h1, ?_⟩
  rcases h2 with h2 | ⟨g, cap, cur, h3, h4, h5, h6⟩
  · exact .inl h2
  · subst h3
    exact .inr ⟨g, cap, cur, rfl, h4, (hV g rfl).trans h5, h6⟩
section
variable {G : Type} {P : Program} {md : Region.Mode} {ops : Array Oper} {Q : Exit → Act → World → Prop} {X0 : Array Value} {val : G → Nat → Value} {J : G → (Nat → Bool) → World → Prop} {i : Nat} {o : Oper}
theorem stepG_buildG (hi : ops[i]? = some o) (hg : o.guard = none) (t : TypeId) (x : Operand) (v : G → Value) (ho : o.op = .buildSlice t 1 #[(0, x)]) (hx : ∀ g, rdo md ops X0 (val g) i o x = some (v g))
    (h : ∀ g d w, J g d w → d i = false → (∀ j, bindsOn md o j = true → d j = true) → (∀ j oj, ops[j]? = some oj → d j = true → ∀ k, bindsOn md oj k = true → d k = true) → ∃ g' w', (Instr.buildSlice t 1 #[(0, v g)]).run P w = .ok (val g' i) w' ∧ (∀ j, d j = true → val g' j = val g j) ∧ J g' (fun j => if j = i then true else d j) w') : StepG P md ops Q X0 val J i o := by
  intro g d a w hJ hun hdep hcl hS
  have hS' : Seen md ops X0 (val g) i o a := hS
  obtain ⟨g', w', h1, h2, h3⟩ := h g d w hJ hun hdep hcl
  unfold wpOp
  rw [hi]
  simp only [Region.wanted, hg, if_true]
  refine .inl ?_
  unfold Oper.wp execOp
  simp only [ho, List.map_toArray, List.map_cons, List.map_nil, hS'.eval (hx g), Sem.run_bind, h1, Result.andThen_ok, Sem.run_pure, Oper.upon_value]
  exact ⟨g', h2, rfl, h3⟩
theorem stepG_append (hi : ops[i]? = some o) (hg : o.guard = none) (t : TypeId) (x y : Operand) (vx vy : G → Value) (ho : o.op = .call { callee := .builtin .append, args := #[x, y], argTypes := #[t, t] }) (hx : ∀ g, rdo md ops X0 (val g) i o x = some (vx g)) (hy : ∀ g, rdo md ops X0 (val g) i o y = some (vy g))
    (h : ∀ g d w, J g d w → d i = false → (∀ j, bindsOn md o j = true → d j = true) → (∀ j oj, ops[j]? = some oj → d j = true → ∀ k, bindsOn md oj k = true → d k = true) → ∃ g' w', (Builtin.append_ #[t, t] o.type #[vx g, vy g]).run P w = .ok (val g' i) w' ∧ (∀ j, d j = true → val g' j = val g j) ∧ J g' (fun j => if j = i then true else d j) w') : StepG P md ops Q X0 val J i o := by
  intro g d a w hJ hun hdep hcl hS
  have hS' : Seen md ops X0 (val g) i o a := hS
  obtain ⟨g', w', h1, h2, h3⟩ := h g d w hJ hun hdep hcl
  unfold wpOp
  rw [hi]
  simp only [Region.wanted, hg, if_true]
  refine .inl ?_
  unfold Oper.wp execOp
  simp only [ho, resolve, invoke, builtin, List.map_toArray, List.map_cons, List.map_nil, hS'.eval (hx g), hS'.eval (hy g), Sem.run_bind, h1, Result.andThen_ok, Sem.run_pure, Oper.upon_value]
  exact ⟨g', h2, rfl, h3⟩
theorem stepG_store (hi : ops[i]? = some o) (hg : o.guard = none) (hd : o.dst = none) (t : TypeId) (x y : Operand) (vx vy : G → Value) (ho : o.op = .store t x y) (hx : ∀ g, rdo md ops X0 (val g) i o x = some (vx g)) (hy : ∀ g, rdo md ops X0 (val g) i o y = some (vy g))
    (h : ∀ g d w, J g d w → d i = false → (∀ j, bindsOn md o j = true → d j = true) → ∃ w', (Instr.storeAt t (vx g) (vy g)).run P w = .ok () w' ∧ J g (fun j => if j = i then true else d j) w') : StepG P md ops Q X0 val J i o := by
  intro g d a w hJ hun hdep hcl hS
  have hS' : Seen md ops X0 (val g) i o a := hS
  obtain ⟨w', h1, h3⟩ := h g d w hJ hun hdep
  unfold wpOp
  rw [hi]
  simp only [Region.wanted, hg, if_true]
  refine .inl ?_
  unfold Oper.wp execOp
  simp only [ho, hS'.eval (hx g), hS'.eval (hy g), Sem.run_bind, h1, Result.andThen_ok, Sem.run_pure, Oper.upon_skip]
  exact ⟨g, fun _ _ => rfl, by rw [hd]; rfl, h3⟩
end
theorem stepG_ofC {G : Type} {P : Program} {md : Region.Mode} {ops : Array Oper} {Q : Exit → Act → World → Prop} {X0 : Array Value} {val : G → Nat → Value} {J : G → (Nat → Bool) → World → Prop} {i : Nat} {o : Oper}
    (h : ∀ g d, d i = false → (∀ j, bindsOn md o j = true → d j = true) → (∀ j oj, ops[j]? = some oj → d j = true → ∀ k, bindsOn md oj k = true → d k = true) → StepAt P md ops Q X0 (val g) (J g d) (J g (fun j => if j = i then true else d j)) i o) : StepG P md ops Q X0 val J i o := by
  intro g d a w hJ hun hdep hcl hS
  exact wpOp_mono (fun a' w' hq => ⟨g, fun _ _ => rfl, hq.1, hq.2⟩) (h g d hun hdep hcl a w hJ hS)
/-- What turns the block p alone, and its list's. -/
structure Tn (p : Nat) (g g' : Option Nat) (W W' : World) : Prop where
  os : W'.os = W.os
  tape : W'.tape = W.tape
  output : W'.output = W.output
  size : W.heap.size ≤ W'.heap.size
  block : ∀ k, k < W.heap.size → k ≠ p → some k ≠ g → W'.heap[k]? = W.heap[k]?
  own : g' = g ∨ ∀ b, g' = some b → W.heap.size ≤ b
theorem Tn.below {p : Nat} {g g' : Option Nat} {W W' : World} {base : Nat} (h : Tn p g g' W W') (hp : base ≤ p) (hg : ∀ b, g = some b → base ≤ b) (hb : base ≤ W.heap.size) : Below base W W' :=
  ⟨h.os, h.tape, h.output, h.size, fun k hk => h.block k (by omega) (by omega) (fun e => by have := hg k e.symm; omega)⟩
theorem Tn.of (p : Nat) (g : Option Nat) {W W' : World} (hb : Below W.heap.size W W') : Tn p g g W W' := ⟨hb.os, hb.tape, hb.output, hb.size, fun k hk _ _ => hb.block k hk, .inl rfl⟩
theorem Tn.trans {p : Nat} {g g' g'' : Option Nat} {W W' W'' : World} (h : Tn p g g' W W') (k : Tn p g' g'' W' W'') : Tn p g g'' W W'' := by
  refine ⟨k.os.trans h.os, k.tape.trans h.tape, k.output.trans h.output, Nat.le_trans h.size k.size, fun j hj h1 h2 => ?_, ?_⟩
  · refine (k.block j (Nat.lt_of_lt_of_le hj h.size) h1 (fun e => ?_)).trans (h.block j hj h1 h2)
    rcases h.own with q | q
    · exact h2 (e.trans q)
    · have := q j e.symm
      omega
  · rcases k.own with q | q
    · rw [q]
      exact h.own
    · exact .inr fun b e => Nat.le_trans h.size (q b e)


structure Tl where
  n : Int
  need : Int
  ro : Int
  reps : Nat
  hs : List Nat
def isN (id n : Int) : Bool := decide (0 ≤ id ∧ id < n)
def rdy (t : Tl) : Bool := decide (0 < t.need ∧ (t.hs.length : Int) = t.need)
def wthN (N : Nat) (id : Int) : Nat := if 0 ≤ id ∧ id < 100 then cln N ||| 2 ^ id.toNat else 0
def cntT (t : Tl) (f : Int) (N : Nat) : Tl := ⟨t.n, t.need, t.ro, wthN t.reps f, t.hs ++ [N]⟩
/-- What becomes of a reply; the error. -/
def kd (i : Nat) : Int := match i with | 0 => 5 | 1 => 0 | 2 => 2 | 3 => 3 | 4 => 4 | _ => 1
/-- The cells of sets. -/
def f4 (N : Nat) : List Value := [.int .u32 (wd N 0 : Nat), .int .u32 (wd N 1 : Nat), .int .u32 (wd N 2 : Nat), .int .u32 (wd N 3 : Nat)]
def fs (l : List Nat) : List Value := l.flatMap f4
theorem fs_append (a b : List Nat) : fs (a ++ b) = fs a ++ fs b := by simp [fs]
theorem fs_one (l : List Nat) : ∀ u ∈ fs l, u.oneCell' = true := by
  intro u hu
  simp only [fs, List.mem_flatMap, f4] at hu
  obtain ⟨x, _, hx⟩ := hu
  simp at hx
  rcases hx with rfl | rfl | rfl | rfl <;> rfl

def ob (ad : Option Addr) : Option Nat := ad.map (·.block)
theorem ob_eq (ad : Option Addr) (n c : Nat) : (Value.slice ad n c).ownBlock = ob ad := by cases ad <;> rfl
theorem infoS : (Tryz.prog.info? 33).map (·.size) = some 4 := by kernel_rfl
theorem below_row {w0 w : World} {n b : Nat} (h : Below n w0 w) (hb : n ≤ b) (cs : Array Value) : Below n w0 (w.setRow b cs) :=
  ⟨h.os, h.tape, h.output, by simpa using h.size, fun k hk => (setRow_other _ _ _ _ (by omega)).trans (h.block k hk)⟩
def taC (t : Tl) (S : Value) : Array Value := #[.int .i64 t.n, .int .i64 t.need, .int .i64 t.ro, .int .u32 (wd t.reps 0 : Nat), .int .u32 (wd t.reps 1 : Nat), .int .u32 (wd t.reps 2 : Nat), .int .u32 (wd t.reps 3 : Nat), S]
/-- A tally: its block q, its list. -/
structure Ta (W : World) (base q : Nat) (ad : Option Addr) (cap : Nat) (t : Tl) : Prop where
  qb : base ≤ q
  obj : W.heap[q]? = some (.cells (taC t (.slice ad t.hs.length cap)) 147 (0, 0))
  row : W.ownsRow base 33 4 (.slice ad t.hs.length cap) t.hs.length (fs t.hs)
section
variable {W V : World} {base q : Nat} {ad : Option Addr} {cap : Nat} {t : Tl}
theorem Ta.lt (h : Ta W base q ad cap t) : q < W.heap.size := lt_at h.obj
theorem Ta.carry (h : Ta W base q ad cap t) (hb : Below W.heap.size W V) : Ta V base q ad cap t := ⟨h.qb, (hb.block _ h.lt).trans h.obj, row_below h.row hb⟩
theorem Ta.ne (h : Ta W base q ad cap t) : ob ad ≠ some q := fun e => row_type h.row h.obj (by decide) (by rw [ob_eq]; exact e)
theorem Ta.blk (h : Ta W base q ad cap t) {b : Nat} (e : ob ad = some b) : base ≤ b ∧ ∃ cur, W.heap[b]? = some (.cells cur 33 (0, 0)) := rowBlk h.row b (by rw [ob_eq]; exact e)
theorem Ta.cells (h : Ta W base q ad cap t) : W.cell? ⟨q, 0, none⟩ = some (.int .i64 t.n) ∧ W.cell? ⟨q, 1, none⟩ = some (.int .i64 t.need) ∧ W.cell? ⟨q, 2, none⟩ = some (.int .i64 t.ro) ∧ W.cell? ⟨q, 3, none⟩ = some (.int .u32 (wd t.reps 0 : Nat)) ∧ W.cell? ⟨q, 4, none⟩ = some (.int .u32 (wd t.reps 1 : Nat)) ∧ W.cell? ⟨q, 5, none⟩ = some (.int .u32 (wd t.reps 2 : Nat)) ∧ W.cell? ⟨q, 6, none⟩ = some (.int .u32 (wd t.reps 3 : Nat)) ∧ W.cell? ⟨q, 7, none⟩ = some (.slice ad t.hs.length cap) :=
  ⟨cell_at h.obj 0, cell_at h.obj 1, cell_at h.obj 2, cell_at h.obj 3, cell_at h.obj 4, cell_at h.obj 5, cell_at h.obj 6, cell_at h.obj 7⟩
theorem Ta.below (h : Ta W base q ad cap t) {g' : Option Nat} (ht : Tn q (ob ad) g' W V) : Below base W V := ht.below h.qb (fun _ e => (h.blk e).1) (Nat.le_trans h.qb (Nat.le_of_lt h.lt))
theorem isNode_any (id n : Int) (w : World) : Calls Tryz.prog 106 #[.int .i64 id, .int .i64 n] w fun e w' => e = .returned (.bool (isN id n)) ∧ w' = w := by
  go_enter Tryz.func106, Tryz.ntmps106
  go_wp2
  all_goals
    go_ret
    refine ⟨ret_bool ?_, rfl⟩
    unfold isN
    first
    | (have h : 0 ≤ id := by omega
       simp [h])
    | (have h : ¬ 0 ≤ id := by omega
       simp [h])
set_option maxHeartbeats 1000000 in
theorem kept_any (h : Ta W base q ad cap t) : Calls Tryz.prog 115 #[.pointer (some ⟨q, 0, none⟩)] W fun e w' => e = .returned (.slice ad t.hs.length cap) ∧ w' = W := by
  obtain ⟨_, _, _, _, _, _, _, c7⟩ := h.cells
  go_enter Tryz.func115, Tryz.ntmps115
  go_wp2
  go_ret
  exact ⟨rfl, rfl⟩
set_option maxHeartbeats 1000000 in
theorem need_any (h : Ta W base q ad cap t) : Calls Tryz.prog 73 #[.pointer (some ⟨q, 0, none⟩)] W fun e w' => e = .returned (.int .i64 t.need) ∧ w' = W := by
  obtain ⟨_, c1, _⟩ := h.cells
  go_enter Tryz.func73, Tryz.ntmps73
  go_wp2
  go_ret
  exact ⟨rfl, rfl⟩
set_option maxHeartbeats 1000000 in
theorem have_any (h : Ta W base q ad cap t) : Calls Tryz.prog 74 #[.pointer (some ⟨q, 0, none⟩)] W fun e w' => e = .returned (.int .i64 (t.hs.length : Int)) ∧ w' = W := by
  have hk := kept_any h
  go_enter Tryz.func74, Tryz.ntmps74
  go_wp2_with (go_at_call 115; (with_reducible refine hk.mono ?_); rintro e u ⟨rfl, hu⟩; obtain rfl := hu.symm)
  go_ret
  exact ⟨rfl, rfl⟩
set_option maxHeartbeats 1000000 in
theorem ready_any (h : Ta W base q ad cap t) : Calls Tryz.prog 37 #[.pointer (some ⟨q, 0, none⟩)] W fun e w' => e = .returned (.bool (rdy t)) ∧ w' = W := by
  have hn := need_any h
  have hh := have_any h
  go_enter Tryz.func37, Tryz.ntmps37
  go_wp2_with (first | (go_at_call 73; (with_reducible refine hn.mono ?_); rintro e u ⟨rfl, hu⟩; obtain rfl := hu.symm) | (go_at_call 74; (with_reducible refine hh.mono ?_); rintro e u ⟨rfl, hu⟩; obtain rfl := hu.symm))
  all_goals
    go_ret
    refine ⟨ret_bool ?_, rfl⟩
    unfold rdy
    first
    | (have h : 0 < t.need := by omega
       simp [h]
       rfl)
    | (have h : ¬ 0 < t.need := by omega
       simp [h])
set_option maxHeartbeats 1000000 in
theorem tround_any (h : Ta W base q ad cap t) : Calls Tryz.prog 28 #[.pointer (some ⟨q, 0, none⟩)] W fun e w' => e = .returned (.int .i64 t.ro) ∧ w' = W := by
  obtain ⟨_, _, c2, _⟩ := h.cells
  go_enter Tryz.func28, Tryz.ntmps28
  go_wp2
  go_ret
  exact ⟨rfl, rfl⟩
set_option maxHeartbeats 1000000 in
set_option maxRecDepth 100000 in
theorem reps_any (h : Ta W base q ad cap t) : Calls Tryz.prog 30 #[.pointer (some ⟨q, 0, none⟩)] W fun e w' => e = .returned (sv t.reps) ∧ Below W.heap.size W w' := by
  obtain ⟨w1, hw1⟩ : ∃ w1, W.alloc (.cells #[.int .u32 0, .int .u32 0, .int .u32 0, .int .u32 0] 33) = w1 := ⟨_, rfl⟩
  have hb1 : Below W.heap.size W w1 := by rw [← hw1]; exact al1' _ _
  have g1 : Holds4 w1 W.heap.size (fun _ => 0) := by rw [← hw1]; exact new_at rfl
  obtain ⟨_, _, _, c3, c4, c5, c6, _⟩ := (h.carry hb1).cells
  obtain ⟨y0, y1, y2, y3, z0, z1, z2, z3⟩ := g1.facts
  have G1 : Hid (Holds4 w1 W.heap.size (fun _ => 0)) := g1
  clear g1
  go_enter Tryz.func30, Tryz.ntmps30
  go_wp2
  exact ret4 rfl rfl rfl (fin4 G1.out _) ⟨rfl, below4 hb1 (Nat.le_refl _) _⟩
set_option maxHeartbeats 1000000 in
set_option maxRecDepth 100000 in
theorem twith_any (h : Ta W base q ad cap t) (id : Int) : Calls Tryz.prog 160 #[.pointer (some ⟨q, 0, none⟩), .int .i64 id] W fun e w' => e = .returned (sv (wthN t.reps id)) ∧ Below W.heap.size W w' := by
  have hwi := with_any t.reps id
  obtain ⟨E, hV⟩ : ∃ E : Int, withV t.reps id = .tuple #[sv (wthN t.reps id), .int .i64 E] := by
    unfold withV wthN
    split
    · exact ⟨0, rfl⟩
    · exact ⟨30, rfl⟩
  rw [hV] at hwi
  clear hV
  generalize wthN t.reps id = M at *
  obtain ⟨w1, hw1⟩ : ∃ w1, W.alloc (.cells #[.int .u32 0, .int .u32 0, .int .u32 0, .int .u32 0] 33) = w1 := ⟨_, rfl⟩
  have hb1 : Below W.heap.size W w1 := by rw [← hw1]; exact al1' _ _
  have hs1 : W.heap.size < w1.heap.size := by rw [← hw1]; simp
  have g1 : Holds4 w1 W.heap.size (fun _ => 0) := by rw [← hw1]; exact new_at rfl
  obtain ⟨_, _, _, c3, c4, c5, c6, _⟩ := (h.carry hb1).cells
  simp only [sv] at hwi ⊢
  go_enter Tryz.func160, Tryz.ntmps160
  go_wp2_with (first
    | (go_at_call 65; refine (hwi _).mono ?_; rintro e u ⟨rfl, hb⟩; obtain ⟨w2, hw2⟩ : ∃ w2, u.alloc (.cells #[.int .u32 0, .int .u32 0, .int .u32 0, .int .u32 0] 33) = w2 := ⟨_, rfl⟩; have hb2 : Hid (Below W.heap.size W w2) := (by rw [← hw2]; exact bel2 (bel2 hb1 hb) (al1' _ _)); have g2 : Hid (Holds4 w2 W.heap.size (fun _ => 0)) := (by rw [← hw2]; exact old_at (g1.carry hb)); have g3 : Hid (Holds4 w2 u.heap.size (fun _ => 0)) := (by rw [← hw2]; exact new_at rfl); have hs2 : Hid (W.heap.size < u.heap.size) := Nat.lt_of_lt_of_le hs1 hb.size)
    | (refine wpList_store_row rfl 33 (.tmp 5) (.tmp 14) rfl u.heap.size (cells4 (wd M)) rfl rfl 33 _ g3.out infoS rfl (by simp [cells4, Value.oneCell']) ?_; obtain ⟨w3, hw3⟩ : ∃ v, w2.setRow u.heap.size (cells4 (wd M)) = v := ⟨_, rfl⟩; have g4 : Hid (Holds4 w3 u.heap.size (wd M)) := (by rw [← hw3]; exact setRow_heap _ _ _ _ _ _ g3.out); have g5 : Hid (Holds4 w3 W.heap.size (fun _ => 0)) := (by rw [← hw3]; exact (setRow_other _ _ _ _ (Nat.ne_of_lt hs2.out)).trans g2.out); have hb3 : Hid (Below W.heap.size W w3) := (by rw [← hw3]; exact below_row hb2.out (Nat.le_of_lt hs2.out) _); rw [hw3])
    | (refine wpList_load_row rfl 33 (.tmp 5) rfl u.heap.size rfl 33 _ (0, 0) _ g4.out Tryz.underlying33 rfl infoS ?_)
    | (refine wpList_store_row rfl 33 (.tmp 4) (.tmp 16) rfl W.heap.size (cells4 (wd M)) rfl rfl 33 _ g5.out infoS rfl (by simp [cells4, Value.oneCell']) ?_; obtain ⟨w4, hw4⟩ : ∃ v, w3.setRow W.heap.size (cells4 (wd M)) = v := ⟨_, rfl⟩; have g6 : Hid (Holds4 w4 W.heap.size (wd M)) := (by rw [← hw4]; exact setRow_heap _ _ _ _ _ _ g5.out); have hb4 : Hid (Below W.heap.size W w4) := (by rw [← hw4]; exact below_row hb3.out (Nat.le_refl _) _); rw [hw4]))
  exact ret4 rfl rfl rfl g6.out ⟨rfl, hb4.out⟩
end

theorem field_t4 (W : World) (q : Nat) : (Instr.fieldAt 147 (.pointer (some ⟨q, 0, none⟩)) 4).run Tryz.prog W = .ok (.pointer (some ⟨q, 7, none⟩)) W := by go_simp
section
variable {w : World} {base q k : Nat} {ad : Option Addr} {cap : Nat} {t : Tl} {f r : Int} {N : Nat}
end
end Go.Proofs.YtgngopdkfcmndaaGreatDoor
