/- Rows that a call owns; what turns a block and its list alone. For every program. -/
import Derived.Test.YtklnfbanfgdgcaaGreatDoorProg
import Derived.Test.YtklnfbanfgdgcaaGreatDoorJnJ0
import Derived.Test.YtklnfbanfgdgcaaGreatDoorJnJ1
import Derived.Maps.AppendAt
import Derived.OwnWalk
import Derived.Laws.OwnMore
import Derived.Shelf.Abstract
import Derived.ArgAppend
import Derived.Test.YtklnfbanfgdgcaaGreatDoorJnJ5
set_option maxHeartbeats 40000000
set_option maxRecDepth 100000
set_option linter.unusedVariables false
namespace Go.Proofs.YtklnfbanfgdgcaaGreatDoor
open Go.RowKit Go.Shelf

theorem bel2 {w w1 w2 : World} (h : Below w.heap.size w w1) (k : Below w1.heap.size w1 w2) : Below w.heap.size w w2 := h.trans (k.mono h.size)
theorem al1' (w : World) (o : Obj) : Below w.heap.size w (w.alloc o) := (Below.refl _ w).alloc (Nat.le_refl _) o
theorem add_pl (b off j : Nat) : (⟨b, off, none⟩ : Addr).add j = ⟨b, off + j, none⟩ := by unfold Addr.add; split <;> simp_all
theorem own_form {W : World} {base : Nat} {e : TypeId} {size : Nat} {v : Value} {n : Nat} {xs : List Value} (h : W.ownsRow base e size v n xs) : (v = .slice none 0 0 ∧ n = 0) ∨ ∃ g cap, v = .slice (some ⟨g, 0, none⟩) n cap ∧ base ≤ g ∧ g < W.heap.size ∧ n ≤ cap ∧ cap ≤ maxLen ∧ ∃ cur, W.heap[g]? = some (.cells cur e (0, 0)) := by
  rcases h.2 with h1 | ⟨g, cap, cur, h1, h2, h3, h4, h5, _⟩
  · exact .inl h1
  · exact .inr ⟨g, cap, h1, h2, lt_at h3, h4, h5, cur, h3⟩
theorem own_block {W : World} {base : Nat} {e : TypeId} {size : Nat} {v : Value} {n : Nat} {xs : List Value} (h : W.ownsRow base e size v n xs) : ∀ k, v.ownBlock = some k → base ≤ k := fun k e => (h.lt k e).1
theorem row_below {w w' : World} {base : Nat} {e : TypeId} {size : Nat} {v : Value} {n : Nat} {xs : List Value} (h : w.ownsRow base e size v n xs) (hb : Below w.heap.size w w') : w'.ownsRow base e size v n xs := by
  refine ⟨h.1, ?_⟩
  rcases h.2 with h1 | ⟨g, cap, cur, h1, h2, h3, h4⟩
  · exact .inl h1
  · exact .inr ⟨g, cap, cur, h1, h2, (hb.block _ (lt_at h3)).trans h3, h4⟩
theorem row_base {w : World} {base base' : Nat} {e : TypeId} {size : Nat} {v : Value} {n : Nat} {xs : List Value} (h : w.ownsRow base e size v n xs) (hb : base' ≤ base) : w.ownsRow base' e size v n xs := by
  refine ⟨h.1, ?_⟩
  rcases h.2 with h1 | ⟨g, cap, cur, h1, h2, h3, h4⟩
  · exact .inl h1
  · exact .inr ⟨g, cap, cur, h1, Nat.le_trans hb h2, h3, h4⟩
/-- All of them are bytes. -/
theorem row_other {w : World} {base : Nat} {e : TypeId} {v : Value} {size n b j : Nat} {xs : List Value} (h : w.ownsRow base e size v n xs) (hb : v.ownBlock ≠ some b) (u : Value) : (w.setCell ⟨b, j, none⟩ u).ownsRow base e size v n xs := by
  refine ⟨h.1, ?_⟩
  rcases h.2 with h1 | ⟨g1, cap, cur, rfl, h2, h3, h4⟩
  · exact .inl h1
  · exact .inr ⟨g1, cap, cur, rfl, h2, (Below.heap_setCell _ _ _ _ (fun e => hb (congrArg some e))).trans h3, h4⟩
theorem row_apart2 {w w' : World} {base : Nat} {e : TypeId} {size : Nat} {v : Value} {n : Nat} {xs : List Value} {row : Option Nat} (h : w.ownsRow base e size v n xs) (hg : w.grownBy w' row) (hne : ∀ b, row = some b → v.ownBlock ≠ some b) : w'.ownsRow base e size v n xs := by
  obtain ⟨h1, h2⟩ := h
  refine ⟨h1, ?_⟩
  rcases h2 with h2 | ⟨g, cap, cur, h3, h4, h5, h6⟩
  · exact .inl h2
  · subst h3
    exact .inr ⟨g, cap, cur, rfl, h4, (hg.block g (lt_at h5) (fun e => hne g e.symm rfl)).trans h5, h6⟩
theorem rowBlk {w : World} {base : Nat} {e : TypeId} {size : Nat} {v : Value} {n : Nat} {xs : List Value} (h : w.ownsRow base e size v n xs) : ∀ g, v.ownBlock = some g → base ≤ g ∧ ∃ cur, w.heap[g]? = some (.cells cur e (0, 0)) := by
  intro g hg
  rcases h.2 with ⟨rfl, _⟩ | ⟨g', cap, cur, rfl, h4, h5, _⟩
  · cases hg
  · cases hg
    exact ⟨h4, cur, h5⟩
theorem row_lt2 {w : World} {base : Nat} {e : TypeId} {size : Nat} {v : Value} {n : Nat} {xs : List Value} (h : w.ownsRow base e size v n xs) : ∀ b, v.ownBlock = some b → base ≤ b ∧ b < w.heap.size := fun b hb => by
  obtain ⟨h1, cur, h2⟩ := rowBlk h b hb
  exact ⟨h1, lt_at h2⟩
theorem info_parts {t : TypeId} {z : Option Value} {s b : Nat} (h : (Tryz.prog.info? t).map (fun i => (i.zero, i.size, i.bytes)) = some (z, s, b)) : ∃ i, Tryz.prog.info? t = some i ∧ i.zero = z ∧ i.size = s ∧ i.bytes = b := by
  cases hi : Tryz.prog.info? t with
  | none => rw [hi] at h; cases h
  | some i =>
    rw [hi] at h
    simp only [Option.map_some, Option.some.injEq, Prod.mk.injEq] at h
    exact ⟨i, rfl, h.1, h.2.1, h.2.2⟩
theorem row_type {W : World} {base n q size : Nat} {e : TypeId} {v : Value} {xs : List Value} {cur : Array Value} {t : TypeId} {fz : Nat × Nat} (h : W.ownsRow base e size v n xs) (ho : W.heap[q]? = some (.cells cur t fz)) (ht : t ≠ e) : v.ownBlock ≠ some q := fun hq => by
  obtain ⟨_, c, h2⟩ := rowBlk h q hq
  have := h2.symm.trans ho
  simp only [Option.some.injEq, Obj.cells.injEq] at this
  exact ht this.2.1.symm
/-- The row is at another place. -/
theorem row_moved {W V : World} {base n size : Nat} {e : TypeId} {v : Value} {xs : List Value} (h : W.ownsRow base e size v n xs) (hV : ∀ b, v.ownBlock = some b → V.heap[b]? = W.heap[b]?) : V.ownsRow base e size v n xs := by
  obtain ⟨h1, h2⟩ := h
  refine ⟨h1, ?_⟩
  rcases h2 with h2 | ⟨g, cap, cur, h3, h4, h5, h6⟩
  · exact .inl h2
  · subst h3
    exact .inr ⟨g, cap, cur, rfl, h4, (hV g rfl).trans h5, h6⟩
theorem wpList_append_two {P : Program} (w : World) {ops : Array Oper} {rest : List Oper} {o : Oper} {a : Act} {Q : Exit → Act → World → Prop}
    (hg : o.guard = none) (s x : Operand) (t : TypeId) (hop : o.op = Op.call { callee := Callee.builtin Builtin.append, args := #[s, x], argTypes := #[t, t] })
    (base : Nat) (e : TypeId) (i : TypeInfo) (z : Value) (size bytes : Nat) (h1 : P.underlying t = some (.slice e)) (h2 : P.info? e = some i) (h3 : i.zero = some z) (h4 : i.size = size) (h5 : i.bytes = bytes) (h6 : z.cells.size = size) (h7 : 0 < size)
    (v : Value) (n : Nat) (xs : List Value) (hs : a.eval s = v) (hown : w.ownsRow base e size v n xs)
    (ad : Addr) (m c : Nat) (news : List Value) (hx : a.eval x = .slice (some ad) m c) (hn : news.length = m * size) (hc : ∀ j u, news[j]? = some u → w.cell? (ad.add j) = some u) (h1c : ∀ u ∈ news, u.oneCell' = true)
    (hm0 : 0 < m) (b1 : n + m ≤ maxLen) (b2 : (n + m) * bytes ≤ 140737488355328) (hbase : base ≤ w.heap.size)
    (hK : ∀ v' w', w'.ownsRow base e size v' (n + m) (xs ++ news) → ((∃ g cap, v = .slice (some ⟨g, 0, none⟩) n cap ∧ v' = .slice (some ⟨g, 0, none⟩) (n + m) cap ∧ w.grownBy w' (some g)) ∨ (w'.ownsRow w.heap.size e size v' (n + m) (xs ++ news) ∧ w.grownBy w' none)) → wpList P ops Q rest (a.put o.dst v') w') :
    wpList P ops Q (o :: rest) a w := by
  obtain ⟨l1, l2⟩ := hown
  have hfin : ∀ v' w', w'.ownsRow w.heap.size e size v' (n + m) (xs ++ news) → w.grownBy w' none → wpList P ops Q rest (a.put o.dst v') w' := fun v' w' q1 q2 => hK v' w' (row_base q1 hbase) (.inr ⟨q1, q2⟩)
  rcases l2 with ⟨rfl, rfl⟩ | ⟨g, cap, cur, rfl, hb, hgc, hnc, hcm, hsz, htk⟩
  · exact wpList_append_grows w hg s x t hop e i z size bytes h1 h2 h3 h4 h5 h6 h7 none 0 0 xs hs (fun _ => ⟨rfl, rfl⟩) l1 (fun b hb => by cases hb) ad m c news hx hn hc h1c (by omega) b1 b2 hfin
  by_cases hr : n + m ≤ cap
  case neg =>
    refine wpList_append_grows w hg s x t hop e i z size bytes h1 h2 h3 h4 h5 h6 h7 (some ⟨g, 0, none⟩) n cap xs hs (fun q => by cases q) l1 (fun b hb j u hj => ?_) ad m c news hx hn hc h1c (by omega) b1 b2 hfin
    obtain rfl := Option.some.inj hb
    rw [add_pl, Nat.zero_add, cell_at hgc, ← Array.getElem?_toList]
    rw [← htk] at hj
    rw [List.getElem?_take] at hj
    split at hj
    · exact hj
    · cases hj
  · subst h4
    have hm1 : (n + m) * i.size ≤ cap * i.size := Nat.mul_le_mul_right _ hr
    have hm2 : (n + m) * i.size = n * i.size + m * i.size := Nat.add_mul _ _ _
    have hrun := run_append_room (P := P) w t o.type e i h1 h2 g n cap cur hgc ad m c news hn hc h1c hr (by omega)
    refine wpList_plain hg fun K hK' => ?_
    unfold Oper.wp
    simp [execOp, hop, resolve, invoke, builtin, hs, hx, hrun, Result.andThen]
    refine hK' _ _ (hK _ _ ⟨by rw [List.length_append]; omega, .inr ⟨g, cap, _, rfl, hb, setRow_heap _ _ _ _ _ _ hgc, hr, hcm, ?_, ?_⟩⟩ (.inl ⟨g, cap, rfl, rfl, ⟨rfl, rfl, rfl, by simp [World.setRow], fun k _ hk => setRow_other _ _ _ _ (fun e => hk (by rw [e]))⟩⟩))
    · simp
      omega
    · have e1 : xs.length = n * i.size := l1
      rw [htk, ← List.append_assoc, List.take_append_of_le_length (by rw [List.length_append]; omega), List.take_of_length_le (by rw [List.length_append]; omega)]
section
variable {G : Type} {P : Program} {md : Region.Mode} {ops : Array Oper} {Q : Exit → Act → World → Prop} {X0 : Array Value} {val : G → Nat → Value} {J : G → (Nat → Bool) → World → Prop} {i : Nat} {o : Oper}
theorem stepG_buildG (hi : ops[i]? = some o) (hg : o.guard = none) (t : TypeId) (x : Operand) (v : G → Value) (ho : o.op = .buildSlice t 1 #[(0, x)]) (hx : ∀ g, rdo md ops X0 (val g) i o x = some (v g))
    (h : ∀ g d w, J g d w → d i = false → (∀ j, bindsOn md o j = true → d j = true) → (∀ j oj, ops[j]? = some oj → d j = true → ∀ k, bindsOn md oj k = true → d k = true) → ∃ g' w', (Instr.buildSlice t 1 #[(0, v g)]).run P w = .ok (val g' i) w' ∧ (∀ j, d j = true → val g' j = val g j) ∧ J g' (fun j => if j = i then true else d j) w') : StepG P md ops Q X0 val J i o := by
  intro g d a w hJ hun hdep hcl hS
  have hS' : Seen md ops X0 (val g) i o a := hS
  obtain ⟨g', w', h1, h2, h3⟩ := h g d w hJ hun hdep hcl
  unfold wpOp
  rw [hi]
  simp only [Region.wanted, hg, if_true]
  refine .inl ?_
  unfold Oper.wp execOp
  simp only [ho, List.map_toArray, List.map_cons, List.map_nil, hS'.eval (hx g), Sem.run_bind, h1, Result.andThen_ok, Sem.run_pure, Oper.upon_value]
  exact ⟨g', h2, rfl, h3⟩
theorem stepG_append (hi : ops[i]? = some o) (hg : o.guard = none) (t : TypeId) (x y : Operand) (vx vy : G → Value) (ho : o.op = .call { callee := .builtin .append, args := #[x, y], argTypes := #[t, t] }) (hx : ∀ g, rdo md ops X0 (val g) i o x = some (vx g)) (hy : ∀ g, rdo md ops X0 (val g) i o y = some (vy g))
    (h : ∀ g d w, J g d w → d i = false → (∀ j, bindsOn md o j = true → d j = true) → (∀ j oj, ops[j]? = some oj → d j = true → ∀ k, bindsOn md oj k = true → d k = true) → ∃ g' w', (Builtin.append_ #[t, t] o.type #[vx g, vy g]).run P w = .ok (val g' i) w' ∧ (∀ j, d j = true → val g' j = val g j) ∧ J g' (fun j => if j = i then true else d j) w') : StepG P md ops Q X0 val J i o := by
  intro g d a w hJ hun hdep hcl hS
  have hS' : Seen md ops X0 (val g) i o a := hS
  obtain ⟨g', w', h1, h2, h3⟩ := h g d w hJ hun hdep hcl
  unfold wpOp
  rw [hi]
  simp only [Region.wanted, hg, if_true]
  refine .inl ?_
  unfold Oper.wp execOp
  simp only [ho, resolve, invoke, builtin, List.map_toArray, List.map_cons, List.map_nil, hS'.eval (hx g), hS'.eval (hy g), Sem.run_bind, h1, Result.andThen_ok, Sem.run_pure, Oper.upon_value]
  exact ⟨g', h2, rfl, h3⟩
theorem stepG_store (hi : ops[i]? = some o) (hg : o.guard = none) (hd : o.dst = none) (t : TypeId) (x y : Operand) (vx vy : G → Value) (ho : o.op = .store t x y) (hx : ∀ g, rdo md ops X0 (val g) i o x = some (vx g)) (hy : ∀ g, rdo md ops X0 (val g) i o y = some (vy g))
    (h : ∀ g d w, J g d w → d i = false → (∀ j, bindsOn md o j = true → d j = true) → ∃ w', (Instr.storeAt t (vx g) (vy g)).run P w = .ok () w' ∧ J g (fun j => if j = i then true else d j) w') : StepG P md ops Q X0 val J i o := by
  intro g d a w hJ hun hdep hcl hS
  have hS' : Seen md ops X0 (val g) i o a := hS
  obtain ⟨w', h1, h3⟩ := h g d w hJ hun hdep
  unfold wpOp
  rw [hi]
  simp only [Region.wanted, hg, if_true]
  refine .inl ?_
  unfold Oper.wp execOp
  simp only [ho, hS'.eval (hx g), hS'.eval (hy g), Sem.run_bind, h1, Result.andThen_ok, Sem.run_pure, Oper.upon_skip]
  exact ⟨g, fun _ _ => rfl, by rw [hd]; rfl, h3⟩
end
theorem stepG_ofC {G : Type} {P : Program} {md : Region.Mode} {ops : Array Oper} {Q : Exit → Act → World → Prop} {X0 : Array Value} {val : G → Nat → Value} {J : G → (Nat → Bool) → World → Prop} {i : Nat} {o : Oper}
    (h : ∀ g d, d i = false → (∀ j, bindsOn md o j = true → d j = true) → (∀ j oj, ops[j]? = some oj → d j = true → ∀ k, bindsOn md oj k = true → d k = true) → StepAt P md ops Q X0 (val g) (J g d) (J g (fun j => if j = i then true else d j)) i o) : StepG P md ops Q X0 val J i o := by
  intro g d a w hJ hun hdep hcl hS
  exact wpOp_mono (fun a' w' hq => ⟨g, fun _ _ => rfl, hq.1, hq.2⟩) (h g d hun hdep hcl a w hJ hS)
/-- What turns the block p alone, and its list's. -/
structure Tn (p : Nat) (g g' : Option Nat) (W W' : World) : Prop where
  os : W'.os = W.os
  tape : W'.tape = W.tape
  output : W'.output = W.output
  size : W.heap.size ≤ W'.heap.size
  block : ∀ k, k < W.heap.size → k ≠ p → some k ≠ g → W'.heap[k]? = W.heap[k]?
  own : g' = g ∨ ∀ b, g' = some b → W.heap.size ≤ b
theorem Tn.below {p : Nat} {g g' : Option Nat} {W W' : World} {base : Nat} (h : Tn p g g' W W') (hp : base ≤ p) (hg : ∀ b, g = some b → base ≤ b) (hb : base ≤ W.heap.size) : Below base W W' :=
  ⟨h.os, h.tape, h.output, h.size, fun k hk => h.block k (by omega) (by omega) (fun e => by have := hg k e.symm; omega)⟩
theorem Tn.of (p : Nat) (g : Option Nat) {W W' : World} (hb : Below W.heap.size W W') : Tn p g g W W' := ⟨hb.os, hb.tape, hb.output, hb.size, fun k hk _ _ => hb.block k hk, .inl rfl⟩
theorem Tn.trans {p : Nat} {g g' g'' : Option Nat} {W W' W'' : World} (h : Tn p g g' W W') (k : Tn p g' g'' W' W'') : Tn p g g'' W W'' := by
  refine ⟨k.os.trans h.os, k.tape.trans h.tape, k.output.trans h.output, Nat.le_trans h.size k.size, fun j hj h1 h2 => ?_, ?_⟩
  · refine (k.block j (Nat.lt_of_lt_of_le hj h.size) h1 (fun e => ?_)).trans (h.block j hj h1 h2)
    rcases h.own with q | q
    · exact h2 (e.trans q)
    · have := q j e.symm
      omega
  · rcases k.own with q | q
    · rw [q]
      exact h.own
    · exact .inr fun b e => Nat.le_trans h.size (q b e)


structure Tl where
  n : Int
  need : Int
  ro : Int
  reps : Nat
  hs : List Nat
def isN (id n : Int) : Bool := decide (0 ≤ id ∧ id < n)
def rdy (t : Tl) : Bool := decide (0 < t.need ∧ (t.hs.length : Int) = t.need)
def wthN (N : Nat) (id : Int) : Nat := if 0 ≤ id ∧ id < 100 then cln N ||| 2 ^ id.toNat else 0
def cntT (t : Tl) (f : Int) (N : Nat) : Tl := ⟨t.n, t.need, t.ro, wthN t.reps f, t.hs ++ [N]⟩
/-- What becomes of a reply; the error. -/
def kd (i : Nat) : Int := match i with | 0 => 5 | 1 => 0 | 2 => 2 | 3 => 3 | 4 => 4 | _ => 1
/-- A tally that can be. -/
structure Tv (t : Tl) : Prop where
  n0 : 0 ≤ t.n
  n1 : t.n ≤ 100
  d0 : 0 ≤ t.need
  d1 : t.need ≤ t.n
  d2 : 0 < t.n → 0 < t.need
  len : (t.hs.length : Int) ≤ t.need
  reps : t.reps < S100
  each : ∀ N ∈ t.hs, N < S128
/-- The cells of sets. -/
def f4 (N : Nat) : List Value := [.int .u32 (wd N 0 : Nat), .int .u32 (wd N 1 : Nat), .int .u32 (wd N 2 : Nat), .int .u32 (wd N 3 : Nat)]
def fs (l : List Nat) : List Value := l.flatMap f4
theorem fs_append (a b : List Nat) : fs (a ++ b) = fs a ++ fs b := by simp [fs]
theorem fs_one (l : List Nat) : ∀ u ∈ fs l, u.oneCell' = true := by
  intro u hu
  simp only [fs, List.mem_flatMap, f4] at hu
  obtain ⟨x, _, hx⟩ := hu
  simp at hx
  rcases hx with rfl | rfl | rfl | rfl <;> rfl

def ob (ad : Option Addr) : Option Nat := ad.map (·.block)
theorem ob_eq (ad : Option Addr) (n c : Nat) : (Value.slice ad n c).ownBlock = ob ad := by cases ad <;> rfl
theorem infoS : (Tryz.prog.info? 51).map (·.size) = some 4 := by kernel_rfl
theorem below_row {w0 w : World} {n b : Nat} (h : Below n w0 w) (hb : n ≤ b) (cs : Array Value) : Below n w0 (w.setRow b cs) :=
  ⟨h.os, h.tape, h.output, by simpa using h.size, fun k hk => (setRow_other _ _ _ _ (by omega)).trans (h.block k hk)⟩
def taC (t : Tl) (S : Value) : Array Value := #[.int .i64 t.n, .int .i64 t.need, .int .i64 t.ro, .int .u32 (wd t.reps 0 : Nat), .int .u32 (wd t.reps 1 : Nat), .int .u32 (wd t.reps 2 : Nat), .int .u32 (wd t.reps 3 : Nat), S]
/-- A tally: its block q, its list. -/
structure Ta (W : World) (base q : Nat) (ad : Option Addr) (cap : Nat) (t : Tl) : Prop where
  qb : base ≤ q
  obj : W.heap[q]? = some (.cells (taC t (.slice ad t.hs.length cap)) 261 (0, 0))
  row : W.ownsRow base 51 4 (.slice ad t.hs.length cap) t.hs.length (fs t.hs)
section
variable {W V : World} {base q : Nat} {ad : Option Addr} {cap : Nat} {t : Tl}
theorem Ta.lt (h : Ta W base q ad cap t) : q < W.heap.size := lt_at h.obj
theorem Ta.carry (h : Ta W base q ad cap t) (hb : Below W.heap.size W V) : Ta V base q ad cap t := ⟨h.qb, (hb.block _ h.lt).trans h.obj, row_below h.row hb⟩
theorem Ta.ne (h : Ta W base q ad cap t) : ob ad ≠ some q := fun e => row_type h.row h.obj (by decide) (by rw [ob_eq]; exact e)
theorem Ta.blk (h : Ta W base q ad cap t) {b : Nat} (e : ob ad = some b) : base ≤ b ∧ ∃ cur, W.heap[b]? = some (.cells cur 51 (0, 0)) := rowBlk h.row b (by rw [ob_eq]; exact e)
theorem Ta.cells (h : Ta W base q ad cap t) : W.cell? ⟨q, 0, none⟩ = some (.int .i64 t.n) ∧ W.cell? ⟨q, 1, none⟩ = some (.int .i64 t.need) ∧ W.cell? ⟨q, 2, none⟩ = some (.int .i64 t.ro) ∧ W.cell? ⟨q, 3, none⟩ = some (.int .u32 (wd t.reps 0 : Nat)) ∧ W.cell? ⟨q, 4, none⟩ = some (.int .u32 (wd t.reps 1 : Nat)) ∧ W.cell? ⟨q, 5, none⟩ = some (.int .u32 (wd t.reps 2 : Nat)) ∧ W.cell? ⟨q, 6, none⟩ = some (.int .u32 (wd t.reps 3 : Nat)) ∧ W.cell? ⟨q, 7, none⟩ = some (.slice ad t.hs.length cap) :=
  ⟨cell_at h.obj 0, cell_at h.obj 1, cell_at h.obj 2, cell_at h.obj 3, cell_at h.obj 4, cell_at h.obj 5, cell_at h.obj 6, cell_at h.obj 7⟩
theorem Ta.below (h : Ta W base q ad cap t) {g' : Option Nat} (ht : Tn q (ob ad) g' W V) : Below base W V := ht.below h.qb (fun _ e => (h.blk e).1) (Nat.le_trans h.qb (Nat.le_of_lt h.lt))
theorem isNode_any (id n : Int) (w : World) : Calls Tryz.prog 183 #[.int .i64 id, .int .i64 n] w fun e w' => e = .returned (.bool (isN id n)) ∧ w' = w := by
  go_enter Tryz.func183, Tryz.ntmps183
  go_wp2
  all_goals
    go_ret
    refine ⟨ret_bool ?_, rfl⟩
    unfold isN
    first
    | (have h : 0 ≤ id := by omega
       simp [h])
    | (have h : ¬ 0 ≤ id := by omega
       simp [h])
set_option maxHeartbeats 1000000 in
theorem kept_any (h : Ta W base q ad cap t) : Calls Tryz.prog 208 #[.pointer (some ⟨q, 0, none⟩)] W fun e w' => e = .returned (.slice ad t.hs.length cap) ∧ w' = W := by
  obtain ⟨_, _, _, _, _, _, _, c7⟩ := h.cells
  go_enter Tryz.func208, Tryz.ntmps208
  go_wp2
  go_ret
  exact ⟨rfl, rfl⟩
set_option maxHeartbeats 1000000 in
theorem need_any (h : Ta W base q ad cap t) : Calls Tryz.prog 168 #[.pointer (some ⟨q, 0, none⟩)] W fun e w' => e = .returned (.int .i64 t.need) ∧ w' = W := by
  obtain ⟨_, c1, _⟩ := h.cells
  go_enter Tryz.func168, Tryz.ntmps168
  go_wp2
  go_ret
  exact ⟨rfl, rfl⟩
set_option maxHeartbeats 1000000 in
theorem have_any (h : Ta W base q ad cap t) : Calls Tryz.prog 169 #[.pointer (some ⟨q, 0, none⟩)] W fun e w' => e = .returned (.int .i64 (t.hs.length : Int)) ∧ w' = W := by
  have hk := kept_any h
  go_enter Tryz.func169, Tryz.ntmps169
  go_wp2_with (go_at_call 208; (with_reducible refine hk.mono ?_); rintro e u ⟨rfl, hu⟩; obtain rfl := hu.symm)
  go_ret
  exact ⟨rfl, rfl⟩
set_option maxHeartbeats 1000000 in
theorem ready_any (h : Ta W base q ad cap t) : Calls Tryz.prog 101 #[.pointer (some ⟨q, 0, none⟩)] W fun e w' => e = .returned (.bool (rdy t)) ∧ w' = W := by
  have hn := need_any h
  have hh := have_any h
  go_enter Tryz.func101, Tryz.ntmps101
  go_wp2_with (first | (go_at_call 168; (with_reducible refine hn.mono ?_); rintro e u ⟨rfl, hu⟩; obtain rfl := hu.symm) | (go_at_call 169; (with_reducible refine hh.mono ?_); rintro e u ⟨rfl, hu⟩; obtain rfl := hu.symm))
  all_goals
    go_ret
    refine ⟨ret_bool ?_, rfl⟩
    unfold rdy
    first
    | (have h : 0 < t.need := by omega
       simp [h]
       rfl)
    | (have h : ¬ 0 < t.need := by omega
       simp [h])
set_option maxHeartbeats 1000000 in
theorem tround_any (h : Ta W base q ad cap t) : Calls Tryz.prog 106 #[.pointer (some ⟨q, 0, none⟩)] W fun e w' => e = .returned (.int .i64 t.ro) ∧ w' = W := by
  obtain ⟨_, _, c2, _⟩ := h.cells
  go_enter Tryz.func106, Tryz.ntmps106
  go_wp2
  go_ret
  exact ⟨rfl, rfl⟩
set_option maxHeartbeats 1000000 in
set_option maxRecDepth 100000 in
theorem reps_any (h : Ta W base q ad cap t) : Calls Tryz.prog 108 #[.pointer (some ⟨q, 0, none⟩)] W fun e w' => e = .returned (sv t.reps) ∧ Below W.heap.size W w' := by
  obtain ⟨w1, hw1⟩ : ∃ w1, W.alloc (.cells #[.int .u32 0, .int .u32 0, .int .u32 0, .int .u32 0] 51) = w1 := ⟨_, rfl⟩
  have hb1 : Below W.heap.size W w1 := by rw [← hw1]; exact al1' _ _
  have g1 : Holds4 w1 W.heap.size (fun _ => 0) := by rw [← hw1]; exact new_at rfl
  obtain ⟨_, _, _, c3, c4, c5, c6, _⟩ := (h.carry hb1).cells
  obtain ⟨y0, y1, y2, y3, z0, z1, z2, z3⟩ := g1.facts
  have G1 : Hid (Holds4 w1 W.heap.size (fun _ => 0)) := g1
  clear g1
  go_enter Tryz.func108, Tryz.ntmps108
  go_wp2
  exact ret4 rfl rfl rfl (fin4 G1.out _) ⟨rfl, below4 hb1 (Nat.le_refl _) _⟩
set_option maxHeartbeats 1000000 in
set_option maxRecDepth 100000 in
theorem twith_any (h : Ta W base q ad cap t) (id : Int) : Calls Tryz.prog 232 #[.pointer (some ⟨q, 0, none⟩), .int .i64 id] W fun e w' => e = .returned (sv (wthN t.reps id)) ∧ Below W.heap.size W w' := by
  have hwi := with_any t.reps id
  obtain ⟨E, hV⟩ : ∃ E : Int, withV t.reps id = .tuple #[sv (wthN t.reps id), .int .i64 E] := by
    unfold withV wthN
    split
    · exact ⟨0, rfl⟩
    · exact ⟨30, rfl⟩
  rw [hV] at hwi
  clear hV
  generalize wthN t.reps id = M at *
  obtain ⟨w1, hw1⟩ : ∃ w1, W.alloc (.cells #[.int .u32 0, .int .u32 0, .int .u32 0, .int .u32 0] 51) = w1 := ⟨_, rfl⟩
  have hb1 : Below W.heap.size W w1 := by rw [← hw1]; exact al1' _ _
  have hs1 : W.heap.size < w1.heap.size := by rw [← hw1]; simp
  have g1 : Holds4 w1 W.heap.size (fun _ => 0) := by rw [← hw1]; exact new_at rfl
  obtain ⟨_, _, _, c3, c4, c5, c6, _⟩ := (h.carry hb1).cells
  simp only [sv] at hwi ⊢
  go_enter Tryz.func232, Tryz.ntmps232
  go_wp2_with (first
    | (go_at_call 178; refine (hwi _).mono ?_; rintro e u ⟨rfl, hb⟩; obtain ⟨w2, hw2⟩ : ∃ w2, u.alloc (.cells #[.int .u32 0, .int .u32 0, .int .u32 0, .int .u32 0] 51) = w2 := ⟨_, rfl⟩; have hb2 : Hid (Below W.heap.size W w2) := (by rw [← hw2]; exact bel2 (bel2 hb1 hb) (al1' _ _)); have g2 : Hid (Holds4 w2 W.heap.size (fun _ => 0)) := (by rw [← hw2]; exact old_at (g1.carry hb)); have g3 : Hid (Holds4 w2 u.heap.size (fun _ => 0)) := (by rw [← hw2]; exact new_at rfl); have hs2 : Hid (W.heap.size < u.heap.size) := Nat.lt_of_lt_of_le hs1 hb.size)
    | (refine wpList_store_row rfl 51 (.tmp 5) (.tmp 14) rfl u.heap.size (cells4 (wd M)) rfl rfl 51 _ g3.out infoS rfl (by simp [cells4, Value.oneCell']) ?_; obtain ⟨w3, hw3⟩ : ∃ v, w2.setRow u.heap.size (cells4 (wd M)) = v := ⟨_, rfl⟩; have g4 : Hid (Holds4 w3 u.heap.size (wd M)) := (by rw [← hw3]; exact setRow_heap _ _ _ _ _ _ g3.out); have g5 : Hid (Holds4 w3 W.heap.size (fun _ => 0)) := (by rw [← hw3]; exact (setRow_other _ _ _ _ (Nat.ne_of_lt hs2.out)).trans g2.out); have hb3 : Hid (Below W.heap.size W w3) := (by rw [← hw3]; exact below_row hb2.out (Nat.le_of_lt hs2.out) _); rw [hw3])
    | (refine wpList_load_row rfl 51 (.tmp 5) rfl u.heap.size rfl 51 _ (0, 0) _ g4.out Tryz.underlying51 rfl infoS ?_)
    | (refine wpList_store_row rfl 51 (.tmp 4) (.tmp 16) rfl W.heap.size (cells4 (wd M)) rfl rfl 51 _ g5.out infoS rfl (by simp [cells4, Value.oneCell']) ?_; obtain ⟨w4, hw4⟩ : ∃ v, w3.setRow W.heap.size (cells4 (wd M)) = v := ⟨_, rfl⟩; have g6 : Hid (Holds4 w4 W.heap.size (wd M)) := (by rw [← hw4]; exact setRow_heap _ _ _ _ _ _ g5.out); have hb4 : Hid (Below W.heap.size W w4) := (by rw [← hw4]; exact below_row hb3.out (Nat.le_refl _) _); rw [hw4]))
  exact ret4 rfl rfl rfl g6.out ⟨rfl, hb4.out⟩
end

theorem load_i64 {W : World} {B o : Nat} {x : Int} (h : W.cell? ⟨B, o, none⟩ = some (.int .i64 x)) : (Instr.loadAt 3 (.pointer (some ⟨B, o, none⟩))).run Tryz.prog W = .ok (.int .i64 x) W := by go_simp
theorem field_t4 (W : World) (q : Nat) : (Instr.fieldAt 261 (.pointer (some ⟨q, 0, none⟩)) 4).run Tryz.prog W = .ok (.pointer (some ⟨q, 7, none⟩)) W := by go_simp
theorem un_not (b : Bool) (W : World) : (Op.unary .not (.bool b)).run Tryz.prog W = .ok (.bool (!b)) W := by go_simp
section
variable {w : World} {base q k : Nat} {ad : Option Addr} {cap : Nat} {t : Tl} {f r : Int} {N : Nat}
end
end Go.Proofs.YtklnfbanfgdgcaaGreatDoor
