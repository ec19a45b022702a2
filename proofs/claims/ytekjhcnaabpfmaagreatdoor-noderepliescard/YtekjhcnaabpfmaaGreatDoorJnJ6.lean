import Derived.Test.YtekjhcnaabpfmaaGreatDoorProg
import Derived.Test.YtekjhcnaabpfmaaGreatDoorJnJ0
import Derived.Test.YtekjhcnaabpfmaaGreatDoorJnJ1
import Derived.Maps.AppendAt
import Derived.OwnWalk
import Derived.Laws.OwnMore
import Derived.Shelf.Abstract
import Derived.ArgAppend
import Derived.Test.YtekjhcnaabpfmaaGreatDoorJnJ5
set_option maxHeartbeats 40000000
set_option maxRecDepth 100000
set_option linter.unusedVariables false
namespace Go.Proofs.YtekjhcnaabpfmaaGreatDoor
open Go.RowKit Go.Shelf
theorem bel2 {w w1 w2 : World} (h : Below w.heap.size w w1) (k : Below w1.heap.size w1 w2) : Below w.heap.size w w2 := h.trans (k.mono h.size)
theorem al1' (w : World) (o : Obj) : Below w.heap.size w (w.alloc o) := (Below.refl _ w).alloc (Nat.le_refl _) o
theorem add_pl (b off j : Nat) : (⟨b, off, none⟩ : Addr).add j = ⟨b, off + j, none⟩ := by unfold Addr.add; split <;> simp_all
theorem own_form {W : World} {base : Nat} {e : TypeId} {size : Nat} {v : Value} {n : Nat} {xs : List Value} (h : W.ownsRow base e size v n xs) : (v = .slice none 0 0 ∧ n = 0) ∨ ∃ g cap, v = .slice (some ⟨g, 0, none⟩) n cap ∧ base ≤ g ∧ g < W.heap.size ∧ n ≤ cap ∧ cap ≤ maxLen ∧ ∃ cur, W.heap[g]? = some (.cells cur e (0, 0)) := by
 rcases h.2 with h1 | ⟨g, cap, cur, h1, h2, h3, h4, h5, _⟩
 · exact .inl h1
 · exact .inr ⟨g, cap, h1, h2, zla h3, h4, h5, cur, h3⟩
theorem own_block {W : World} {base : Nat} {e : TypeId} {size : Nat} {v : Value} {n : Nat} {xs : List Value} (h : W.ownsRow base e size v n xs) : ∀ k, v.ownBlock = some k → base ≤ k := fun k e => (h.lt k e).1
theorem zrb {w w' : World} {base : Nat} {e : TypeId} {size : Nat} {v : Value} {n : Nat} {xs : List Value} (h : w.ownsRow base e size v n xs) (hb : Below w.heap.size w w') : w'.ownsRow base e size v n xs := by
 refine ⟨h.1, ?_⟩
 rcases h.2 with h1 | ⟨g, cap, cur, h1, h2, h3, h4⟩
 · exact .inl h1
 · exact .inr ⟨g, cap, cur, h1, h2, (hb.block _ (zla h3)).trans h3, h4⟩
theorem row_base {w : World} {base base' : Nat} {e : TypeId} {size : Nat} {v : Value} {n : Nat} {xs : List Value} (h : w.ownsRow base e size v n xs) (hb : base' ≤ base) : w.ownsRow base' e size v n xs := by
 refine ⟨h.1, ?_⟩
 rcases h.2 with h1 | ⟨g, cap, cur, h1, h2, h3, h4⟩
 · exact .inl h1
 · exact .inr ⟨g, cap, cur, h1, Nat.le_trans hb h2, h3, h4⟩
theorem row_other {w : World} {base : Nat} {e : TypeId} {v : Value} {size n b j : Nat} {xs : List Value} (h : w.ownsRow base e size v n xs) (hb : v.ownBlock ≠ some b) (u : Value) : (w.setCell ⟨b, j, none⟩ u).ownsRow base e size v n xs := by
 refine ⟨h.1, ?_⟩
 rcases h.2 with h1 | ⟨g1, cap, cur, rfl, h2, h3, h4⟩
 · exact .inl h1
 · exact .inr ⟨g1, cap, cur, rfl, h2, (Below.heap_setCell _ _ _ _ (fun e => hb (congrArg some e))).trans h3, h4⟩
theorem row_apart2 {w w' : World} {base : Nat} {e : TypeId} {size : Nat} {v : Value} {n : Nat} {xs : List Value} {row : Option Nat} (h : w.ownsRow base e size v n xs) (hg : w.grownBy w' row) (hne : ∀ b, row = some b → v.ownBlock ≠ some b) : w'.ownsRow base e size v n xs := by
 obtain ⟨h1, h2⟩ := h
 refine ⟨h1, ?_⟩
 rcases h2 with h2 | ⟨g, cap, cur, h3, h4, h5, h6⟩
 · exact .inl h2
 · subst h3
   exact .inr ⟨g, cap, cur, rfl, h4, (hg.block g (zla h5) (fun e => hne g e.symm rfl)).trans h5, h6⟩
theorem rowBlk {w : World} {base : Nat} {e : TypeId} {size : Nat} {v : Value} {n : Nat} {xs : List Value} (h : w.ownsRow base e size v n xs) : ∀ g, v.ownBlock = some g → base ≤ g ∧ ∃ cur, w.heap[g]? = some (.cells cur e (0, 0)) := by
 intro g hg
 rcases h.2 with ⟨rfl, _⟩ | ⟨g', cap, cur, rfl, h4, h5, _⟩
 · cases hg
 · cases hg
   exact ⟨h4, cur, h5⟩
theorem row_lt2 {w : World} {base : Nat} {e : TypeId} {size : Nat} {v : Value} {n : Nat} {xs : List Value} (h : w.ownsRow base e size v n xs) : ∀ b, v.ownBlock = some b → base ≤ b ∧ b < w.heap.size := fun b hb => by
 obtain ⟨h1, cur, h2⟩ := rowBlk h b hb
 exact ⟨h1, zla h2⟩
theorem info_parts {t : TypeId} {z : Option Value} {s b : Nat} (h : (Tryz.prog.info? t).map (fun i => (i.zero, i.size, i.bytes)) = some (z, s, b)) : ∃ i, Tryz.prog.info? t = some i ∧ i.zero = z ∧ i.size = s ∧ i.bytes = b := by
 cases hi : Tryz.prog.info? t with
 | none => rw [hi] at h; cases h
 | some i =>
  rw [hi] at h
  simp only [Option.map_some, Option.some.injEq, Prod.mk.injEq] at h
  exact ⟨i, rfl, h.1, h.2.1, h.2.2⟩
theorem own_some {W : World} {base : Nat} {e : TypeId} {size : Nat} {v : Value} {n : Nat} {xs : List Value} (h : W.ownsRow base e size v n xs) (hn : 0 < n) : ∃ g c, v = .slice (some ⟨g, 0, none⟩) n c := by
 rcases own_form h with ⟨_, e2⟩ | ⟨g, c, e1, _⟩
 · omega
 · exact ⟨g, c, e1⟩
theorem row_type {W : World} {base n q size : Nat} {e : TypeId} {v : Value} {xs : List Value} {cur : Array Value} {t : TypeId} {fz : Nat × Nat} (h : W.ownsRow base e size v n xs) (ho : W.heap[q]? = some (.cells cur t fz)) (ht : t ≠ e) : v.ownBlock ≠ some q := fun hq => by
 obtain ⟨_, c, h2⟩ := rowBlk h q hq
 have := h2.symm.trans ho
 simp only [Option.some.injEq, Obj.cells.injEq] at this
 exact ht this.2.1.symm
theorem row_moved {W V : World} {base n size : Nat} {e : TypeId} {v : Value} {xs : List Value} (h : W.ownsRow base e size v n xs) (hV : ∀ b, v.ownBlock = some b → V.heap[b]? = W.heap[b]?) : V.ownsRow base e size v n xs := by
 obtain ⟨h1, h2⟩ := h
 refine ⟨h1, ?_⟩
 rcases h2 with h2 | ⟨g, cap, cur, h3, h4, h5, h6⟩
 · exact .inl h2
 · subst h3
   exact .inr ⟨g, cap, cur, rfl, h4, (hV g rfl).trans h5, h6⟩
section
variable {G : Type} {P : Program} {md : Region.Mode} {ops : Array Oper} {Q : Exit → Act → World → Prop} {X0 : Array Value} {val : G → Nat → Value} {J : G → (Nat → Bool) → World → Prop} {i : Nat} {o : Oper}
theorem stepG_buildG (hi : ops[i]? = some o) (hg : o.guard = none) (t : TypeId) (x : Operand) (v : G → Value) (ho : o.op = .buildSlice t 1 #[(0, x)]) (hx : ∀ g, rdo md ops X0 (val g) i o x = some (v g))
  (h : ∀ g d w, J g d w → d i = false → (∀ j, bindsOn md o j = true → d j = true) → (∀ j oj, ops[j]? = some oj → d j = true → ∀ k, bindsOn md oj k = true → d k = true) → ∃ g' w', (Instr.buildSlice t 1 #[(0, v g)]).run P w = .ok (val g' i) w' ∧ (∀ j, d j = true → val g' j = val g j) ∧ J g' (fun j => if j = i then true else d j) w') : StepG P md ops Q X0 val J i o := by
 intro g d a w hJ hun hdep hcl hS
 have hS' : Seen md ops X0 (val g) i o a := hS
 obtain ⟨g', w', h1, h2, h3⟩ := h g d w hJ hun hdep hcl
 unfold wpOp
 rw [hi]
 simp only [Region.wanted, hg, if_true]
 refine .inl ?_
 unfold Oper.wp execOp
 simp only [ho, List.map_toArray, List.map_cons, List.map_nil, hS'.eval (hx g), Sem.run_bind, h1, Result.andThen_ok, Sem.run_pure, Oper.upon_value]
 exact ⟨g', h2, rfl, h3⟩
theorem stepG_append (hi : ops[i]? = some o) (hg : o.guard = none) (t : TypeId) (x y : Operand) (vx vy : G → Value) (ho : o.op = .call { callee := .builtin .append, args := #[x, y], argTypes := #[t, t] }) (hx : ∀ g, rdo md ops X0 (val g) i o x = some (vx g)) (hy : ∀ g, rdo md ops X0 (val g) i o y = some (vy g))
  (h : ∀ g d w, J g d w → d i = false → (∀ j, bindsOn md o j = true → d j = true) → (∀ j oj, ops[j]? = some oj → d j = true → ∀ k, bindsOn md oj k = true → d k = true) → ∃ g' w', (Builtin.append_ #[t, t] o.type #[vx g, vy g]).run P w = .ok (val g' i) w' ∧ (∀ j, d j = true → val g' j = val g j) ∧ J g' (fun j => if j = i then true else d j) w') : StepG P md ops Q X0 val J i o := by
 intro g d a w hJ hun hdep hcl hS
 have hS' : Seen md ops X0 (val g) i o a := hS
 obtain ⟨g', w', h1, h2, h3⟩ := h g d w hJ hun hdep hcl
 unfold wpOp
 rw [hi]
 simp only [Region.wanted, hg, if_true]
 refine .inl ?_
 unfold Oper.wp execOp
 simp only [ho, resolve, invoke, builtin, List.map_toArray, List.map_cons, List.map_nil, hS'.eval (hx g), hS'.eval (hy g), Sem.run_bind, h1, Result.andThen_ok, Sem.run_pure, Oper.upon_value]
 exact ⟨g', h2, rfl, h3⟩
theorem stepG_store (hi : ops[i]? = some o) (hg : o.guard = none) (hd : o.dst = none) (t : TypeId) (x y : Operand) (vx vy : G → Value) (ho : o.op = .store t x y) (hx : ∀ g, rdo md ops X0 (val g) i o x = some (vx g)) (hy : ∀ g, rdo md ops X0 (val g) i o y = some (vy g))
  (h : ∀ g d w, J g d w → d i = false → (∀ j, bindsOn md o j = true → d j = true) → ∃ w', (Instr.storeAt t (vx g) (vy g)).run P w = .ok () w' ∧ J g (fun j => if j = i then true else d j) w') : StepG P md ops Q X0 val J i o := by
 intro g d a w hJ hun hdep hcl hS
 have hS' : Seen md ops X0 (val g) i o a := hS
 obtain ⟨w', h1, h3⟩ := h g d w hJ hun hdep
 unfold wpOp
 rw [hi]
 simp only [Region.wanted, hg, if_true]
 refine .inl ?_
 unfold Oper.wp execOp
 simp only [ho, hS'.eval (hx g), hS'.eval (hy g), Sem.run_bind, h1, Result.andThen_ok, Sem.run_pure, Oper.upon_skip]
 exact ⟨g, fun _ _ => rfl, by rw [hd]; rfl, h3⟩
end
theorem zgc {G : Type} {P : Program} {md : Region.Mode} {ops : Array Oper} {Q : Exit → Act → World → Prop} {X0 : Array Value} {val : G → Nat → Value} {J : G → (Nat → Bool) → World → Prop} {i : Nat} {o : Oper}
  (h : ∀ g d, d i = false → (∀ j, bindsOn md o j = true → d j = true) → (∀ j oj, ops[j]? = some oj → d j = true → ∀ k, bindsOn md oj k = true → d k = true) → StepAt P md ops Q X0 (val g) (J g d) (J g (fun j => if j = i then true else d j)) i o) : StepG P md ops Q X0 val J i o := by
 intro g d a w hJ hun hdep hcl hS
 exact wpOp_mono (fun a' w' hq => ⟨g, fun _ _ => rfl, hq.1, hq.2⟩) (h g d hun hdep hcl a w hJ hS)
structure Tn (p : Nat) (g g' : Option Nat) (W W' : World) : Prop where
 os : W'.os = W.os
 tape : W'.tape = W.tape
 output : W'.output = W.output
 size : W.heap.size ≤ W'.heap.size
 block : ∀ k, k < W.heap.size → k ≠ p → some k ≠ g → W'.heap[k]? = W.heap[k]?
 own : g' = g ∨ ∀ b, g' = some b → W.heap.size ≤ b
theorem Tn.below {p : Nat} {g g' : Option Nat} {W W' : World} {base : Nat} (h : Tn p g g' W W') (hp : base ≤ p) (hg : ∀ b, g = some b → base ≤ b) (hb : base ≤ W.heap.size) : Below base W W' :=
 ⟨h.os, h.tape, h.output, h.size, fun k hk => h.block k (by omega) (by omega) (fun e => by have := hg k e.symm; omega)⟩
theorem Tn.of (p : Nat) (g : Option Nat) {W W' : World} (hb : Below W.heap.size W W') : Tn p g g W W' := ⟨hb.os, hb.tape, hb.output, hb.size, fun k hk _ _ => hb.block k hk, .inl rfl⟩
theorem Tn.trans {p : Nat} {g g' g'' : Option Nat} {W W' W'' : World} (h : Tn p g g' W W') (k : Tn p g' g'' W' W'') : Tn p g g'' W W'' := by
 refine ⟨k.os.trans h.os, k.tape.trans h.tape, k.output.trans h.output, Nat.le_trans h.size k.size, fun j hj h1 h2 => ?_, ?_⟩
 · refine (k.block j (Nat.lt_of_lt_of_le hj h.size) h1 (fun e => ?_)).trans (h.block j hj h1 h2)
   rcases h.own with q | q
   · exact h2 (e.trans q)
   · have := q j e.symm
     omega
 · rcases k.own with q | q
   · rw [q]
     exact h.own
   · exact .inr fun b e => Nat.le_trans h.size (q b e)
structure Tl where
 n : Int
 need : Int
 ro : Int
 reps : Nat
 hs : List Nat
def isN (id n : Int) : Bool := decide (0 ≤ id ∧ id < n)
def rdy (t : Tl) : Bool := decide (0 < t.need ∧ (t.hs.length : Int) = t.need)
def wthN (N : Nat) (id : Int) : Nat := if 0 ≤ id ∧ id < 100 then cln N ||| 2 ^ id.toNat else 0
def fate (t : Tl) (f r : Int) (N : Nat) : Nat := if isN f t.n = false then 0 else if wthB N t.n = false then 1 else if r ≠ t.ro then 2 else if wthN t.reps f = t.reps then 3 else if rdy t = true then 4 else 5
def cntT (t : Tl) (f : Int) (N : Nat) : Tl := ⟨t.n, t.need, t.ro, wthN t.reps f, t.hs ++ [N]⟩
def tk (t : Tl) (f r : Int) (N : Nat) : Tl := if fate t f r N = 5 then cntT t f N else t
def kd (i : Nat) : Int := match i with | 0 => 5 | 1 => 0 | 2 => 2 | 3 => 3 | 4 => 4 | _ => 1
def ke (i : Nat) : Int := match i with | 1 => 74 | _ => 0
theorem fate_lt (t : Tl) (f r : Int) (N : Nat) : fate t f r N ≤ 5 := by
 unfold fate
 repeat' split
 all_goals omega
structure Tv (t : Tl) : Prop where
 n0 : 0 ≤ t.n
 n1 : t.n ≤ 100
 d0 : 0 ≤ t.need
 d1 : t.need ≤ t.n
 d2 : 0 < t.n → 0 < t.need
 len : (t.hs.length : Int) ≤ t.need
 reps : t.reps < S100
 each : ∀ N ∈ t.hs, N < S128
theorem pow_S100 {i : Nat} (h : i < 100) : 2 ^ i < S100 := by
 have := Nat.pow_lt_pow_right (a := 2) (by decide) h
 exact this
theorem or_S100 {a b : Nat} (h1 : a < S100) (h2 : b < S100) : a ||| b < S100 := Nat.or_lt_two_pow (n := 100) h1 h2
theorem cln_id {N : Nat} (h : N < S100) : cln N = N := Nat.mod_eq_of_lt h
theorem wthN_lt (N : Nat) (id : Int) : wthN N id < S100 := by
 unfold wthN
 split
 · next h => exact or_S100 (cln_lt _) (pow_S100 (by omega))
 · decide
theorem S100_S128 {N : Nat} (h : N < S100) : N < S128 := Nat.lt_trans h (by decide)
theorem Tv.count {t : Tl} (h : Tv t) {f r : Int} {N : Nat} (hN : N < S128) (hf : fate t f r N = 5) : Tv (cntT t f N) := by
 have h1 := h.len
 have h2 := h.d2
 have ⟨a, b⟩ : isN f t.n = true ∧ ¬ rdy t = true := by
   unfold fate at hf
   repeat' split at hf
   all_goals first | omega | simp_all
 simp only [isN, rdy, decide_eq_true_eq] at a b
 have hn := h.n0
 refine ⟨h.n0, h.n1, h.d0, h.d1, h.d2, ?_, wthN_lt _ _, fun M hM => ?_⟩
 · simp only [cntT, List.length_append, List.length_cons, List.length_nil]
   omega
 · rcases List.mem_append.1 hM with q | q
   · exact h.each M q
   · simp at q
     subst q
     exact hN
def f4 (N : Nat) : List Value := [.int .u32 (wd N 0 : Nat), .int .u32 (wd N 1 : Nat), .int .u32 (wd N 2 : Nat), .int .u32 (wd N 3 : Nat)]
def fs (l : List Nat) : List Value := l.flatMap f4
theorem fs_cons (x : Nat) (l : List Nat) : fs (x :: l) = .int .u32 (wd x 0 : Nat) :: .int .u32 (wd x 1 : Nat) :: .int .u32 (wd x 2 : Nat) :: .int .u32 (wd x 3 : Nat) :: fs l := rfl
theorem fs_append (a b : List Nat) : fs (a ++ b) = fs a ++ fs b := by simp [fs]
theorem fs_len : ∀ l : List Nat, (fs l).length = l.length * 4
 | [] => rfl
 | x :: l => by rw [fs_cons]; simp only [List.length_cons, fs_len l]; omega
theorem fs_get : ∀ (l : List Nat) (k x : Nat), l[k]? = some x → (fs l)[k * 4]? = some (.int .u32 (wd x 0 : Nat)) ∧ (fs l)[k * 4 + 1]? = some (.int .u32 (wd x 1 : Nat)) ∧ (fs l)[k * 4 + 2]? = some (.int .u32 (wd x 2 : Nat)) ∧ (fs l)[k * 4 + 3]? = some (.int .u32 (wd x 3 : Nat))
 | [], k, x, h => by simp at h
 | y :: l, 0, x, h => by
  simp at h
  subst h
  exact ⟨rfl, rfl, rfl, rfl⟩
 | y :: l, k + 1, x, h => by
  have ih := fs_get l k x (by simpa using h)
  rw [fs_cons, show (k + 1) * 4 = k * 4 + 4 by omega]
  exact ih
theorem fs_one (l : List Nat) : ∀ u ∈ fs l, u.oneCell' = true := by
 intro u hu
 simp only [fs, List.mem_flatMap, f4] at hu
 obtain ⟨x, _, hx⟩ := hu
 simp at hx
 rcases hx with rfl | rfl | rfl | rfl <;> rfl
def ob (ad : Option Addr) : Option Nat := ad.map (·.block)
theorem ob_eq (ad : Option Addr) (n c : Nat) : (Value.slice ad n c).ownBlock = ob ad := by cases ad <;> rfl
theorem infoS : (Tryz.prog.info? 35).map (·.size) = some 4 := by kernel_rfl
theorem below_row {w0 w : World} {n b : Nat} (h : Below n w0 w) (hb : n ≤ b) (cs : Array Value) : Below n w0 (w.setRow b cs) :=
 ⟨h.os, h.tape, h.output, by simpa using h.size, fun k hk => (setRow_other _ _ _ _ (by omega)).trans (h.block k hk)⟩
def taC (t : Tl) (S : Value) : Array Value := #[.int .i64 t.n, .int .i64 t.need, .int .i64 t.ro, .int .u32 (wd t.reps 0 : Nat), .int .u32 (wd t.reps 1 : Nat), .int .u32 (wd t.reps 2 : Nat), .int .u32 (wd t.reps 3 : Nat), S]
structure Ta (W : World) (base q : Nat) (ad : Option Addr) (cap : Nat) (t : Tl) : Prop where
 qb : base ≤ q
 obj : W.heap[q]? = some (.cells (taC t (.slice ad t.hs.length cap)) 143 (0, 0))
 row : W.ownsRow base 35 4 (.slice ad t.hs.length cap) t.hs.length (fs t.hs)
section
variable {W V : World} {base q : Nat} {ad : Option Addr} {cap : Nat} {t : Tl}
theorem Ta.lt (h : Ta W base q ad cap t) : q < W.heap.size := zla h.obj
theorem Ta.carry (h : Ta W base q ad cap t) (hb : Below W.heap.size W V) : Ta V base q ad cap t := ⟨h.qb, (hb.block _ h.lt).trans h.obj, zrb h.row hb⟩
theorem Ta.ne (h : Ta W base q ad cap t) : ob ad ≠ some q := fun e => row_type h.row h.obj (by decide) (by rw [ob_eq]; exact e)
theorem Ta.blk (h : Ta W base q ad cap t) {b : Nat} (e : ob ad = some b) : base ≤ b ∧ ∃ cur, W.heap[b]? = some (.cells cur 35 (0, 0)) := rowBlk h.row b (by rw [ob_eq]; exact e)
theorem Ta.cells (h : Ta W base q ad cap t) : W.cell? ⟨q, 0, none⟩ = some (.int .i64 t.n) ∧ W.cell? ⟨q, 1, none⟩ = some (.int .i64 t.need) ∧ W.cell? ⟨q, 2, none⟩ = some (.int .i64 t.ro) ∧ W.cell? ⟨q, 3, none⟩ = some (.int .u32 (wd t.reps 0 : Nat)) ∧ W.cell? ⟨q, 4, none⟩ = some (.int .u32 (wd t.reps 1 : Nat)) ∧ W.cell? ⟨q, 5, none⟩ = some (.int .u32 (wd t.reps 2 : Nat)) ∧ W.cell? ⟨q, 6, none⟩ = some (.int .u32 (wd t.reps 3 : Nat)) ∧ W.cell? ⟨q, 7, none⟩ = some (.slice ad t.hs.length cap) :=
 ⟨zca h.obj 0, zca h.obj 1, zca h.obj 2, zca h.obj 3, zca h.obj 4, zca h.obj 5, zca h.obj 6, zca h.obj 7⟩
theorem Ta.below (h : Ta W base q ad cap t) {g' : Option Nat} (ht : Tn q (ob ad) g' W V) : Below base W V := ht.below h.qb (fun _ e => (h.blk e).1) (Nat.le_trans h.qb (Nat.le_of_lt h.lt))
theorem isNode_any (id n : Int) (w : World) : Calls Tryz.prog 103 #[.int .i64 id, .int .i64 n] w fun e w' => e = .returned (.bool (isN id n)) ∧ w' = w := by
  go_enter Tryz.func103, Tryz.ntmps103
  go_wp2
  all_goals
    go_ret
    refine ⟨ret_bool ?_, rfl⟩
    unfold isN
    first
    | (have h : 0 ≤ id := by omega
       simp [h])
    | (have h : ¬ 0 ≤ id := by omega
       simp [h])
theorem kept_any (h : Ta W base q ad cap t) : Calls Tryz.prog 129 #[.pointer (some ⟨q, 0, none⟩)] W fun e w' => e = .returned (.slice ad t.hs.length cap) ∧ w' = W := by
 obtain ⟨_, _, _, _, _, _, _, c7⟩ := h.cells
 go_enter Tryz.func129, Tryz.ntmps129
 go_wp2
 go_ret
 exact ⟨rfl, rfl⟩
theorem need_any (h : Ta W base q ad cap t) : Calls Tryz.prog 94 #[.pointer (some ⟨q, 0, none⟩)] W fun e w' => e = .returned (.int .i64 t.need) ∧ w' = W := by
 obtain ⟨_, c1, _⟩ := h.cells
 go_enter Tryz.func94, Tryz.ntmps94
 go_wp2
 go_ret
 exact ⟨rfl, rfl⟩
theorem have_any (h : Ta W base q ad cap t) : Calls Tryz.prog 95 #[.pointer (some ⟨q, 0, none⟩)] W fun e w' => e = .returned (.int .i64 (t.hs.length : Int)) ∧ w' = W := by
 have hk := kept_any h
 go_enter Tryz.func95, Tryz.ntmps95
 go_wp2_with (go_at_call 129; (with_reducible refine hk.mono ?_); rintro e u ⟨rfl, hu⟩; obtain rfl := hu.symm)
 go_ret
 exact ⟨rfl, rfl⟩
theorem ready_any (h : Ta W base q ad cap t) : Calls Tryz.prog 49 #[.pointer (some ⟨q, 0, none⟩)] W fun e w' => e = .returned (.bool (rdy t)) ∧ w' = W := by
  have hn := need_any h
  have hh := have_any h
  go_enter Tryz.func49, Tryz.ntmps49
  go_wp2_with (first | (go_at_call 94; (with_reducible refine hn.mono ?_); rintro e u ⟨rfl, hu⟩; obtain rfl := hu.symm) | (go_at_call 95; (with_reducible refine hh.mono ?_); rintro e u ⟨rfl, hu⟩; obtain rfl := hu.symm))
  all_goals
    go_ret
    refine ⟨ret_bool ?_, rfl⟩
    unfold rdy
    first
    | (have h : 0 < t.need := by omega
       simp [h]
       rfl)
    | (have h : ¬ 0 < t.need := by omega
       simp [h])
theorem tround_any (h : Ta W base q ad cap t) : Calls Tryz.prog 30 #[.pointer (some ⟨q, 0, none⟩)] W fun e w' => e = .returned (.int .i64 t.ro) ∧ w' = W := by
 obtain ⟨_, _, c2, _⟩ := h.cells
 go_enter Tryz.func30, Tryz.ntmps30
 go_wp2
 go_ret
 exact ⟨rfl, rfl⟩
theorem reps_any (h : Ta W base q ad cap t) : Calls Tryz.prog 32 #[.pointer (some ⟨q, 0, none⟩)] W fun e w' => e = .returned (sv t.reps) ∧ Below W.heap.size W w' := by
 obtain ⟨w1, hw1⟩ : ∃ w1, W.alloc (.cells #[.int .u32 0, .int .u32 0, .int .u32 0, .int .u32 0] 35) = w1 := ⟨_, rfl⟩
 have hb1 : Below W.heap.size W w1 := by rw [← hw1]; exact al1' _ _
 have g1 : Zh4 w1 W.heap.size (fun _ => 0) := by rw [← hw1]; exact zna rfl
 obtain ⟨_, _, _, c3, c4, c5, c6, _⟩ := (h.carry hb1).cells
 obtain ⟨y0, y1, y2, y3, z0, z1, z2, z3⟩ := g1.facts
 have G1 : Hid (Zh4 w1 W.heap.size (fun _ => 0)) := g1
 clear g1
 go_enter Tryz.func32, Tryz.ntmps32
 go_wp2
 exact ret4 rfl rfl rfl (fin4 G1.out _) ⟨rfl, below4 hb1 (Nat.le_refl _) _⟩
theorem twith_any (h : Ta W base q ad cap t) (id : Int) : Calls Tryz.prog 142 #[.pointer (some ⟨q, 0, none⟩), .int .i64 id] W fun e w' => e = .returned (sv (wthN t.reps id)) ∧ Below W.heap.size W w' := by
 have hwi := with_any t.reps id
 obtain ⟨E, hV⟩ : ∃ E : Int, withV t.reps id = .tuple #[sv (wthN t.reps id), .int .i64 E] := by
  unfold withV wthN
  split
  · exact ⟨0, rfl⟩
  · exact ⟨30, rfl⟩
 rw [hV] at hwi
 clear hV
 generalize wthN t.reps id = M at *
 obtain ⟨w1, hw1⟩ : ∃ w1, W.alloc (.cells #[.int .u32 0, .int .u32 0, .int .u32 0, .int .u32 0] 35) = w1 := ⟨_, rfl⟩
 have hb1 : Below W.heap.size W w1 := by rw [← hw1]; exact al1' _ _
 have hs1 : W.heap.size < w1.heap.size := by rw [← hw1]; simp
 have g1 : Zh4 w1 W.heap.size (fun _ => 0) := by rw [← hw1]; exact zna rfl
 obtain ⟨_, _, _, c3, c4, c5, c6, _⟩ := (h.carry hb1).cells
 simp only [sv] at hwi ⊢
 go_enter Tryz.func142, Tryz.ntmps142
 go_wp2_with (first
  | (go_at_call 63; refine (hwi _).mono ?_; rintro e u ⟨rfl, hb⟩; obtain ⟨w2, hw2⟩ : ∃ w2, u.alloc (.cells #[.int .u32 0, .int .u32 0, .int .u32 0, .int .u32 0] 35) = w2 := ⟨_, rfl⟩; have hb2 : Hid (Below W.heap.size W w2) := (by rw [← hw2]; exact bel2 (bel2 hb1 hb) (al1' _ _)); have g2 : Hid (Zh4 w2 W.heap.size (fun _ => 0)) := (by rw [← hw2]; exact zoa (g1.carry hb)); have g3 : Hid (Zh4 w2 u.heap.size (fun _ => 0)) := (by rw [← hw2]; exact zna rfl); have hs2 : Hid (W.heap.size < u.heap.size) := Nat.lt_of_lt_of_le hs1 hb.size)
  | (refine wpList_store_row rfl 35 (.tmp 5) (.tmp 14) rfl u.heap.size (cells4 (wd M)) rfl rfl 35 _ g3.out infoS rfl (by simp [cells4, Value.oneCell']) ?_; obtain ⟨w3, hw3⟩ : ∃ v, w2.setRow u.heap.size (cells4 (wd M)) = v := ⟨_, rfl⟩; have g4 : Hid (Zh4 w3 u.heap.size (wd M)) := (by rw [← hw3]; exact setRow_heap _ _ _ _ _ _ g3.out); have g5 : Hid (Zh4 w3 W.heap.size (fun _ => 0)) := (by rw [← hw3]; exact (setRow_other _ _ _ _ (Nat.ne_of_lt hs2.out)).trans g2.out); have hb3 : Hid (Below W.heap.size W w3) := (by rw [← hw3]; exact below_row hb2.out (Nat.le_of_lt hs2.out) _); rw [hw3])
  | (refine wpList_load_row rfl 35 (.tmp 5) rfl u.heap.size rfl 35 _ (0, 0) _ g4.out Tryz.underlying35 rfl infoS ?_)
  | (refine wpList_store_row rfl 35 (.tmp 4) (.tmp 16) rfl W.heap.size (cells4 (wd M)) rfl rfl 35 _ g5.out infoS rfl (by simp [cells4, Value.oneCell']) ?_; obtain ⟨w4, hw4⟩ : ∃ v, w3.setRow W.heap.size (cells4 (wd M)) = v := ⟨_, rfl⟩; have g6 : Hid (Zh4 w4 W.heap.size (wd M)) := (by rw [← hw4]; exact setRow_heap _ _ _ _ _ _ g5.out); have hb4 : Hid (Below W.heap.size W w4) := (by rw [← hw4]; exact below_row hb3.out (Nat.le_refl _) _); rw [hw4]))
 exact ret4 rfl rfl rfl g6.out ⟨rfl, hb4.out⟩
end
theorem load_i64 {W : World} {B o : Nat} {x : Int} (h : W.cell? ⟨B, o, none⟩ = some (.int .i64 x)) : (Instr.loadAt 3 (.pointer (some ⟨B, o, none⟩))).run Tryz.prog W = .ok (.int .i64 x) W := by go_simp
theorem load_tp {W : World} {B o q : Nat} (h : W.cell? ⟨B, o, none⟩ = some (.pointer (some ⟨q, 0, none⟩))) : (Instr.loadAt 80 (.pointer (some ⟨B, o, none⟩))).run Tryz.prog W = .ok (.pointer (some ⟨q, 0, none⟩)) W := by go_simp
theorem load_ts {W : World} {base q : Nat} {ad : Option Addr} {cap : Nat} {t : Tl} (h : Ta W base q ad cap t) : (Instr.loadAt 35 (.pointer (some ⟨q, 3, none⟩))).run Tryz.prog W = .ok (sv t.reps) W := by
 obtain ⟨_, _, _, c3, c4, c5, c6, _⟩ := h.cells
 unfold sv
 go_simp
theorem field_t0 (W : World) (q : Nat) : (Instr.fieldAt 143 (.pointer (some ⟨q, 0, none⟩)) 0).run Tryz.prog W = .ok (.pointer (some ⟨q, 0, none⟩)) W := by go_simp
theorem field_t2 (W : World) (q : Nat) : (Instr.fieldAt 143 (.pointer (some ⟨q, 0, none⟩)) 2).run Tryz.prog W = .ok (.pointer (some ⟨q, 2, none⟩)) W := by go_simp
theorem field_t3 (W : World) (q : Nat) : (Instr.fieldAt 143 (.pointer (some ⟨q, 0, none⟩)) 3).run Tryz.prog W = .ok (.pointer (some ⟨q, 3, none⟩)) W := by go_simp
theorem field_t4 (W : World) (q : Nat) : (Instr.fieldAt 143 (.pointer (some ⟨q, 0, none⟩)) 4).run Tryz.prog W = .ok (.pointer (some ⟨q, 7, none⟩)) W := by go_simp
theorem un_not (b : Bool) (W : World) : (Op.unary .not (.bool b)).run Tryz.prog W = .ok (.bool (!b)) W := by go_simp
theorem bin_ne64 {x y : Operand} (a b : Int) (w : World) : binRun Tryz.prog .neq 3 x y (.int .i64 a) (.int .i64 b) w = .ok (.bool (decide (a ≠ b))) w := by
 unfold binRun
 go_simp
 by_cases h : a = b <;> simp [h]
structure Fx (W : World) (k q : Nat) (f r : Int) (N : Nat) : Prop where
 tb : W.heap[k]? = some (.cells #[.pointer (some ⟨q, 0, none⟩)] 80 (0, 0))
 fb : W.heap[k + 1]? = some (.cells #[.int .i64 f] 3 (0, 0))
 rb : W.heap[k + 1 + 1]? = some (.cells #[.int .i64 r] 3 (0, 0))
 hb : Zh4 W (k + 1 + 1 + 1) (wd N)
theorem Fx.carry {W V : World} {k q : Nat} {f r : Int} {N : Nat} (h : Fx W k q f r N) (hb : Below W.heap.size W V) : Fx V k q f r N :=
 ⟨(hb.block _ (zla h.tb)).trans h.tb, (hb.block _ (zla h.fb)).trans h.fb, (hb.block _ (zla h.rb)).trans h.rb, h.hb.carry hb⟩
def ftC (k q : Nat) : Array Value := #[.int .i64 5, .int .i64 0, .func (.func 168) #[] #[.pointer (some ⟨k + 1, 0, none⟩), .pointer (some ⟨k, 0, none⟩)],
 .int .i64 0, .int .i64 74, .func (.func 169) #[] #[.pointer (some ⟨k + 1 + 1 + 1, 0, none⟩), .pointer (some ⟨k, 0, none⟩)],
 .int .i64 2, .int .i64 0, .func (.func 170) #[] #[.pointer (some ⟨k + 1 + 1, 0, none⟩), .pointer (some ⟨k, 0, none⟩)],
 .int .i64 3, .int .i64 0, .func (.func 171) #[] #[.pointer (some ⟨k, 0, none⟩), .pointer (some ⟨k + 1, 0, none⟩)],
 .int .i64 4, .int .i64 0, .func (.func 49) #[.pointer (some ⟨q, 0, none⟩)] #[]]
theorem fates_any (q : Nat) (f r : Int) (N : Nat) (W : World) : Calls Tryz.prog 153 #[.pointer (some ⟨q, 0, none⟩), .int .i64 f, .int .i64 r, sv N] W fun e w' => ∃ k, e = .returned (.slice (some ⟨k + 1 + 1 + 1 + 1, 0, none⟩) 5 5) ∧ Fx w' k q f r N ∧ w'.heap[k + 1 + 1 + 1 + 1]? = some (.cells (ftC k q) 253 (0, 0)) ∧ Below W.heap.size W w' := by
 simp only [sv]
 go_enter Tryz.func153, Tryz.ntmps153
 go_wp2
 go_ret
 refine ⟨W.heap.size, rfl, ⟨?_, ?_, ?_, ?_⟩, ?_, ?_⟩
 · exact zoa (zoa (zoa (zoa (zna rfl))))
 · exact zoa (zoa (zoa (zna (by simp))))
 · exact zoa (zoa (zna (by simp)))
 · exact zoa (zna (by simp))
 · exact zna (by simp)
 · exact bel2 (bel2 (bel2 (bel2 (al1' _ _) (al1' _ _)) (al1' _ _)) (al1' _ _)) (al1' _ _)
section
variable {w : World} {base q k : Nat} {ad : Option Addr} {cap : Nat} {t : Tl} {f r : Int} {N : Nat}
theorem fate1_any (h : Ta w base q ad cap t) (hx : Fx w k q f r N) : Calls Tryz.prog 168 #[.pointer (some ⟨k + 1, 0, none⟩), .pointer (some ⟨k, 0, none⟩)] w fun e w' => e = .returned (.bool (!isN f t.n)) ∧ Below w.heap.size w w' := by
 have hmx := mixO
 go_enter Tryz.func168, Tryz.ntmps168
 go_wp2
 rename_i hK
 refine wp_region_any hmx ?_
 refine zwp (fun i__ => ([(.int .i64 f), (.pointer (some ⟨q, 0, none⟩)), (.pointer (some ⟨q, 0, none⟩)), (.pointer (some ⟨q, 0, none⟩)), (.int .i64 t.n), (.bool (isN f t.n)), (.bool (!isN f t.n)), (.bool (!isN f t.n))] : List Value).getD i__ undef) (fun V => Below w.heap.size w V) (by kernel_rfl) (Below.refl _ _).drew ?_ ?_
 · refine (sqc ?_ (sqc ?_ (sqc ?_ (sqc ?_ (sqc ?_ (sqc ?_ (sqc ?_ (sqc ?_ trivial))))))))
   · exact zld rfl trivial _ _ _ rfl rfl (fun v hw => load_i64 (by rw [zca (hx.carry hw).fb]; rfl))
   · exact zld rfl trivial _ _ _ rfl rfl (fun v hw => load_tp (by rw [zca (hx.carry hw).tb]; rfl))
   · exact znc rfl trivial _ _ _ rfl rfl rfl
   · exact zfa rfl trivial _ _ _ _ rfl rfl (fun v hw => field_t0 v _)
   · exact zld rfl trivial _ _ _ rfl rfl (fun v hw => load_i64 (h.carry hw).cells.1)
   · exact zsc rfl trivial 103 _ _ [(.int .i64 f), (.int .i64 t.n)] rfl (by kernel_rfl) (enters_of Tryz.func103 (by kernel_rfl) rfl) (fun v hw => (isNode_any f t.n v).mono (by rintro e w' ⟨rfl, rfl⟩; exact ⟨rfl, hw⟩))
   · exact step_unOp rfl trivial _ _ _ _ rfl rfl (fun v hw => un_not _ v)
   · exact zas rfl trivial _ rfl (by kernel_rfl) (fun _ h => h)
 intro W hW
 first | refine hK _ _ ?_ | refine (‹∀ (a : Act) (w : World), Code.wp Tryz.prog _ _ a w → _›) _ _ ?_
 simp only [finL, List.getD_cons_zero, List.getD_cons_succ, Nat.zero_add, Nat.reduceAdd, List.setIfInBounds_toArray, List.set_cons_zero, List.set_cons_succ]
 clear hK
 go_wp2
 go_ret
 exact ⟨rfl, hW⟩
theorem fate2_any (h : Ta w base q ad cap t) (hx : Fx w k q f r N) (hN : N < S128) : Calls Tryz.prog 169 #[.pointer (some ⟨k + 1 + 1 + 1, 0, none⟩), .pointer (some ⟨k, 0, none⟩)] w fun e w' => e = .returned (.bool (!wthB N t.n)) ∧ Below w.heap.size w w' := by
 have hmx := mixO
 go_enter Tryz.func169, Tryz.ntmps169
 go_wp2
 rename_i hK
 refine wp_region_any hmx ?_
 refine zwp (fun i__ => ([(sv N), (.pointer (some ⟨q, 0, none⟩)), (.pointer (some ⟨q, 0, none⟩)), (.pointer (some ⟨q, 0, none⟩)), (.int .i64 t.n), (.bool (wthB N t.n)), (.bool (!wthB N t.n)), (.bool (!wthB N t.n))] : List Value).getD i__ undef) (fun V => Below w.heap.size w V) (by kernel_rfl) (Below.refl _ _).drew ?_ ?_
 · refine (sqc ?_ (sqc ?_ (sqc ?_ (sqc ?_ (sqc ?_ (sqc ?_ (sqc ?_ (sqc ?_ trivial))))))))
   · exact zld rfl trivial _ _ _ rfl rfl (fun v hw => whole4 v _ N (hx.carry hw).hb)
   · exact zld rfl trivial _ _ _ rfl rfl (fun v hw => load_tp (by rw [zca (hx.carry hw).tb]; rfl))
   · exact znc rfl trivial _ _ _ rfl rfl rfl
   · exact zfa rfl trivial _ _ _ _ rfl rfl (fun v hw => field_t0 v _)
   · exact zld rfl trivial _ _ _ rfl rfl (fun v hw => load_i64 (h.carry hw).cells.1)
   · exact zsc rfl trivial 75 _ _ [(sv N), (.int .i64 t.n)] rfl (by kernel_rfl) (enters_of Tryz.func75 (by kernel_rfl) rfl) (fun v hw => (within_any N hN t.n v).mono (by rintro e w' ⟨rfl, hb⟩; exact ⟨rfl, bel2 hw hb⟩))
   · exact step_unOp rfl trivial _ _ _ _ rfl rfl (fun v hw => un_not _ v)
   · exact zas rfl trivial _ rfl (by kernel_rfl) (fun _ h => h)
 intro W hW
 first | refine hK _ _ ?_ | refine (‹∀ (a : Act) (w : World), Code.wp Tryz.prog _ _ a w → _›) _ _ ?_
 simp only [finL, List.getD_cons_zero, List.getD_cons_succ, Nat.zero_add, Nat.reduceAdd, List.setIfInBounds_toArray, List.set_cons_zero, List.set_cons_succ]
 clear hK
 go_wp2
 go_ret
 exact ⟨rfl, hW⟩
theorem fate3_any (h : Ta w base q ad cap t) (hx : Fx w k q f r N) : Calls Tryz.prog 170 #[.pointer (some ⟨k + 1 + 1, 0, none⟩), .pointer (some ⟨k, 0, none⟩)] w fun e w' => e = .returned (.bool (decide (r ≠ t.ro))) ∧ Below w.heap.size w w' := by
 have hmx := mixO
 go_enter Tryz.func170, Tryz.ntmps170
 go_wp2
 rename_i hK
 refine wp_region_any hmx ?_
 refine zwp (fun i__ => ([(.int .i64 r), (.pointer (some ⟨q, 0, none⟩)), (.pointer (some ⟨q, 0, none⟩)), (.pointer (some ⟨q, 2, none⟩)), (.int .i64 t.ro), (.bool (decide (r ≠ t.ro))), (.bool (decide (r ≠ t.ro)))] : List Value).getD i__ undef) (fun V => Below w.heap.size w V) (by kernel_rfl) (Below.refl _ _).drew ?_ ?_
 · refine (sqc ?_ (sqc ?_ (sqc ?_ (sqc ?_ (sqc ?_ (sqc ?_ (sqc ?_ trivial)))))))
   · exact zld rfl trivial _ _ _ rfl rfl (fun v hw => load_i64 (by rw [zca (hx.carry hw).rb]; rfl))
   · exact zld rfl trivial _ _ _ rfl rfl (fun v hw => load_tp (by rw [zca (hx.carry hw).tb]; rfl))
   · exact znc rfl trivial _ _ _ rfl rfl rfl
   · exact zfa rfl trivial _ _ _ _ rfl rfl (fun v hw => field_t2 v _)
   · exact zld rfl trivial _ _ _ rfl rfl (fun v hw => load_i64 (h.carry hw).cells.2.2.1)
   · exact zbo rfl trivial _ _ _ _ _ _ _ rfl rfl rfl (fun v hw => bin_ne64 _ _ v)
   · exact zas rfl trivial _ rfl (by kernel_rfl) (fun _ h => h)
 intro W hW
 first | refine hK _ _ ?_ | refine (‹∀ (a : Act) (w : World), Code.wp Tryz.prog _ _ a w → _›) _ _ ?_
 simp only [finL, List.getD_cons_zero, List.getD_cons_succ, Nat.zero_add, Nat.reduceAdd, List.setIfInBounds_toArray, List.set_cons_zero, List.set_cons_succ]
 clear hK
 go_wp2
 go_ret
 exact ⟨rfl, hW⟩
theorem fate4_any (h : Ta w base q ad cap t) (hx : Fx w k q f r N) (hr : t.reps < S100) : Calls Tryz.prog 171 #[.pointer (some ⟨k, 0, none⟩), .pointer (some ⟨k + 1, 0, none⟩)] w fun e w' => e = .returned (.bool (decide (wthN t.reps f = t.reps))) ∧ Below w.heap.size w w' := by
 have hmx := mixO
 go_enter Tryz.func171, Tryz.ntmps171
 go_wp2
 rename_i hK
 refine wp_region_any hmx ?_
 refine zwp (fun i__ => ([(.pointer (some ⟨q, 0, none⟩)), (.int .i64 f), (sv (wthN t.reps f)), (.pointer (some ⟨q, 0, none⟩)), (.pointer (some ⟨q, 0, none⟩)), (.pointer (some ⟨q, 3, none⟩)), (sv t.reps), (.bool (decide (wthN t.reps f = t.reps))), (.bool (decide (wthN t.reps f = t.reps)))] : List Value).getD i__ undef) (fun V => Below w.heap.size w V) (by kernel_rfl) (Below.refl _ _).drew ?_ ?_
 · refine (sqc ?_ (sqc ?_ (sqc ?_ (sqc ?_ (sqc ?_ (sqc ?_ (sqc ?_ (sqc ?_ (sqc ?_ trivial)))))))))
   · exact zld rfl trivial _ _ _ rfl rfl (fun v hw => load_tp (by rw [zca (hx.carry hw).tb]; rfl))
   · exact zld rfl trivial _ _ _ rfl rfl (fun v hw => load_i64 (by rw [zca (hx.carry hw).fb]; rfl))
   · exact zsc rfl trivial 142 _ _ [(.pointer (some ⟨q, 0, none⟩)), (.int .i64 f)] rfl (by kernel_rfl) (enters_of Tryz.func142 (by kernel_rfl) rfl) (fun v hw => (twith_any (h.carry hw) f).mono (by rintro e w' ⟨rfl, hb⟩; exact ⟨rfl, bel2 hw hb⟩))
   · exact zld rfl trivial _ _ _ rfl rfl (fun v hw => load_tp (by rw [zca (hx.carry hw).tb]; rfl))
   · exact znc rfl trivial _ _ _ rfl rfl rfl
   · exact zfa rfl trivial _ _ _ _ rfl rfl (fun v hw => field_t3 v _)
   · exact zld rfl trivial _ _ _ rfl rfl (fun v hw => load_ts (h.carry hw))
   · exact zbo rfl trivial _ _ _ _ _ _ _ rfl rfl rfl (fun v hw => eql4 _ _ _ _ (S100_S128 (wthN_lt _ _)) (S100_S128 hr) v)
   · exact zas rfl trivial _ rfl (by kernel_rfl) (fun _ h => h)
 intro W hW
 first | refine hK _ _ ?_ | refine (‹∀ (a : Act) (w : World), Code.wp Tryz.prog _ _ a w → _›) _ _ ?_
 simp only [finL, List.getD_cons_zero, List.getD_cons_succ, Nat.zero_add, Nat.reduceAdd, List.setIfInBounds_toArray, List.set_cons_zero, List.set_cons_succ]
 clear hK
 go_wp2
 go_ret
 exact ⟨rfl, hW⟩
end
end Go.Proofs.YtekjhcnaabpfmaaGreatDoor
