/- The law of a scope with several labels, out of which the run may jump to labels of outer scopes: for every program and every code; the statement at each jump and a measure are the prover's. -/
import Derived.Scope
import Derived.ScopeJumps
import Derived.Test.YtngjjcmoekeciaaGreatDoorBas2
import Derived.Test.YtngjjcmoekeciaaGreatDoorJnJ7
import Derived.Test.YtngjjcmoekeciaaGreatDoorJnJ3
import Derived.WalkMore
namespace Go.Proofs.YtngjjcmoekeciaaGreatDoor
open Go

/-- As Q; by a goto to a label of the list: Q; by a goto to another label: J of it, with a measure. -/
def jumpsOut (outs : List Nat) (J : Nat → Nat → Act → World → Prop) (Q : Exit → Act → World → Prop) : Exit → Act → World → Prop
  | .goto l, a, w => (l ∈ outs ∧ Q (.goto l) a w) ∨ (∃ m, J l m a w)
  | e, a, w => Q e a w

theorem wp_scope_out {P : Program} {a : Act} {w : World} {Q : Exit → Act → World → Prop} {c : Code} (outs : List Nat) (J : Nat → Nat → Act → World → Prop) (hout : ∀ l ∈ outs, findLabel c l = none)
    (first : c.wp P (jumpsOut outs J Q) a w)
    (pass : ∀ l m a w, J l m a w → ∃ rest, findLabel c l = some rest ∧ rest.wp P (jumpsOut outs (fun l' m' a' w' => m' < m ∧ J l' m' a' w') Q) a w) : (Code.scope c).wp P Q a w := by
  intro b k cs
  have out : ∀ l, l ∈ outs → ∀ k', gotoIn l k = some k' → gotoIn l (.inScope c :: k) = some k' := fun l hl k' hk => by simp [gotoIn, hout l hl, hk]
  have key : ∀ n l a w, J l n a w → ∃ rest, findLabel c l = some rest ∧ ∃ e a' w', Q e a' w' ∧ Arrives P (lone (b.at a (.code rest :: .inScope c :: k)) cs w) b k cs e a' w' := by
    intro n
    induction n using Nat.strongRecOn with
    | _ n ih =>
      intro l a w hJ
      obtain ⟨rest, hf, hp⟩ := pass l n a w hJ
      refine ⟨rest, hf, ?_⟩
      obtain ⟨e, a₁, w₁, hq, harr⟩ := hp b (.inScope c :: k) cs
      cases e with
      | normal => exact ⟨.normal, a₁, w₁, hq, Steps.trans harr (.one step_inScope)⟩
      | exit id => exact ⟨.exit id, a₁, w₁, hq, fun k' hk => harr k' (by simp [exitTo, hk])⟩
      | goto l' =>
        rcases hq with ⟨hl, hq⟩ | ⟨m, hlt, hJ'⟩
        · exact ⟨.goto l', a₁, w₁, hq, fun k' hk => harr k' (out l' hl k' hk)⟩
        · obtain ⟨rest', hf', e₂, a₂, w₂, hq₂, harr₂⟩ := ih m hlt l' a₁ w₁ hJ'
          have hg : gotoIn l' (.inScope c :: k) = some (.code rest' :: .inScope c :: k) := by simp [gotoIn, hf']
          exact ⟨e₂, a₂, w₂, hq₂, .of_steps (harr _ hg) harr₂⟩
      | ret => exact ⟨_, a₁, w₁, hq, harr⟩
      | panic ch => exact ⟨_, a₁, w₁, hq, harr⟩
      | outgrown => exact ⟨_, a₁, w₁, hq, harr⟩
  obtain ⟨e, a₁, w₁, hq, harr⟩ := first b (.inScope c :: k) cs
  cases e with
  | normal => exact ⟨.normal, a₁, w₁, hq, .head step_scope (Steps.trans harr (.one step_inScope))⟩
  | exit id => exact ⟨.exit id, a₁, w₁, hq, fun k' hk => .head step_scope (harr k' (by simp [exitTo, hk]))⟩
  | goto l' =>
    rcases hq with ⟨hl, hq⟩ | ⟨m, hJ'⟩
    · exact ⟨.goto l', a₁, w₁, hq, fun k' hk => .head step_scope (harr k' (out l' hl k' hk))⟩
    · obtain ⟨rest', hf', e₂, a₂, w₂, hq₂, harr₂⟩ := key m l' a₁ w₁ hJ'
      have hg : gotoIn l' (.inScope c :: k) = some (.code rest' :: .inScope c :: k) := by simp [gotoIn, hf']
      exact ⟨e₂, a₂, w₂, hq₂, .of_steps (.head step_scope (harr _ hg)) harr₂⟩
  | ret => exact ⟨_, a₁, w₁, hq, .of_steps (.one step_scope) harr⟩
  | panic ch => exact ⟨_, a₁, w₁, hq, .of_steps (.one step_scope) harr⟩
  | outgrown => exact ⟨_, a₁, w₁, hq, .of_steps (.one step_scope) harr⟩
end Go.Proofs.YtngjjcmoekeciaaGreatDoor
namespace Go.Proofs.YtngjjcmoekeciaaGreatDoor
open Go.RowKit Go.Shelf
attribute [local go_sem] Oper.semAt_some
set_option maxHeartbeats 400000 in
theorem count_any (s : ByteArray) (hs : s.size ≤ maxLen) (w : World) :
    Calls Tryz.prog 18 #[.string s] w fun e w' => e = .returned (.int .i64 (starts s).length) ∧ Below w.heap.size w w' := by
  have hlen := starts_length s
  unfold maxLen at hs
  go_enter Tryz.func18, Tryz.ntmps18
  go_wp2
  go_loopw [3] (fun c wr => ∃ (pos fuel : Nat) (pre : List Nat), starts s = pre ++ startsFrom s fuel pos ∧ s.size ≤ pos + fuel ∧ c = .int .i64 pre.length ∧ wr.heap[w.heap.size]? = some (.stringIter s pos) ∧ Below w.heap.size w wr) (fun _ wr => s.size - wr.iterPos w.heap.size)
  case atStart =>
    exact ⟨0, s.size, [], rfl, by omega, rfl, World.iter_heap w s 0, (Below.refl _ w).alloc (Nat.le_refl _) _⟩
  case round =>
    obtain ⟨pos, fuel, pre, hst, hfu, rfl, hit, hb⟩ := hrel
    by_cases hp : pos < s.size
    · have hnx : ∀ ty, (Instr.next (.pointer (some ⟨w.heap.size, 0, none⟩)) true ty).run Tryz.prog wr = .ok (.tuple #[.bool true, .int .i64 pos, .int .i32 (rn s pos)]) (wr.iterAt w.heap.size s (pos + wd s pos)) := fun ty => Lib.run_next_any_at wr w.heap.size s pos ty hit hp
      have hit2 := Lib.iterAt_heap wr w.heap.size s pos (pos + wd s pos) hit
      have hb2 := Lib.below_iterAt hb (k := w.heap.size) (Nat.le_refl _) s (pos + wd s pos)
      obtain ⟨f, rfl⟩ : ∃ f, fuel = f + 1 := ⟨fuel - 1, by omega⟩
      rw [startsFrom_step s f pos hp] at hst
      have hll : pre.length + 1 ≤ s.size := by rw [hst] at hlen; simp at hlen; omega
      have HS : Hid (starts s = pre ++ pos :: startsFrom s f (pos + wd s pos)) := hst
      clear hst
      go_wp2
      go_roundw
      case rel =>
        have := wd_pos s pos
        exact ⟨pos + wd s pos, f, pre ++ [pos], by rw [HS.out]; simp, by omega, by simp, hit2, hb2⟩
      case measure =>
        have := wd_pos s pos
        simp only [World.iterPos, hit2, hit]
        omega
    · have hnx : ∀ ty, (Instr.next (.pointer (some ⟨w.heap.size, 0, none⟩)) true ty).run Tryz.prog wr = .ok (.tuple #[.bool false]) wr := fun ty => Lib.run_next_end_at wr w.heap.size s pos ty hit hp
      rw [startsFrom_end s fuel pos hp, List.append_nil] at hst
      subst hst
      go_wp2
      go_ret
      exact ⟨rfl, hb⟩
end Go.Proofs.YtngjjcmoekeciaaGreatDoor
namespace Go.Proofs.YtngjjcmoekeciaaGreatDoor
open Go.RowKit Go.Shelf

/-- Of the blocks below B all but b lie as they lay. -/
structure TchB (B b : Nat) (w w' : World) : Prop where
  os : w'.os = w.os
  tape : w'.tape = w.tape
  output : w'.output = w.output
  size : w.heap.size ≤ w'.heap.size
  block : ∀ k, k < B → k ≠ b → w'.heap[k]? = w.heap[k]?
theorem TchB.below {B b : Nat} {w w' w2 : World} (h : TchB B b w w') (hb : Below w'.heap.size w' w2) (hB : B ≤ w.heap.size) : TchB B b w w2 :=
  ⟨hb.os.trans h.os, hb.tape.trans h.tape, hb.output.trans h.output, Nat.le_trans h.size hb.size, fun k hk hkb => (hb.block k (Nat.lt_of_lt_of_le hk (Nat.le_trans hB h.size))).trans (h.block k hk hkb)⟩
theorem TchB.tch {B b : Nat} {r : Option Nat} {w w' w2 : World} (h : TchB B b w w') (ht : Tch b r w' w2) (hB : B ≤ w.heap.size) (hr : ∀ g, r = some g → B ≤ g) : TchB B b w w2 :=
  ⟨ht.os.trans h.os, ht.tape.trans h.tape, ht.output.trans h.output, Nat.le_trans h.size ht.size, fun k hk hkb => (ht.block k (Nat.lt_of_lt_of_le hk (Nat.le_trans hB h.size)) hkb (fun e => by have := hr k e.symm; omega)).trans (h.block k hk hkb)⟩

def flatT (line : Int) : List Tok → List Value
  | [] => []
  | (k, t, c) :: l => tokC k t line (c : Int) ++ flatT line l
theorem flatT_append (line : Int) : ∀ a b : List Tok, flatT line (a ++ b) = flatT line a ++ flatT line b
  | [], b => rfl
  | (k, t, c) :: a, b => by show tokC k t line c ++ flatT line (a ++ b) = _; rw [flatT_append line a b, ← List.append_assoc]; rfl

/-- What the world is while a line is gone through. -/
structure Inv (s : ByteArray) (B a b k0 : Nat) (line : Int) (n : Nat) (xs : List Value) (w : World) (pos : Nat) (acc : List Tok) (v : Value) (W : World) : Prop where
  it : W.heap[k0]? = some (.stringIter s pos)
  bx : Boxed W b 39 v
  row : W.ownsRow B 50 4 v (n + acc.length) (xs ++ flatT line acc)
  ba : Boxed W a 3 (.int .i64 line)
  tch : TchB B b w W
theorem Inv.below {s : ByteArray} {B a b k0 : Nat} {line : Int} {n : Nat} {xs : List Value} {w : World} {pos : Nat} {acc : List Tok} {v : Value} {W W' : World} (h : Inv s B a b k0 line n xs w pos acc v W) (hB : B ≤ w.heap.size) (hb : Below W.heap.size W W') : Inv s B a b k0 line n xs w pos acc v W' :=
  ⟨(hb.block k0 (Array.getElem?_eq_some_iff.1 h.it).1).trans h.it, (hb.block b h.bx.lt).trans h.bx, row_below h.row hb, (hb.block a h.ba.lt).trans h.ba, h.tch.below hb hB⟩

theorem Inv.iter {s : ByteArray} {B a b k0 : Nat} {line : Int} {n : Nat} {xs : List Value} {w : World} {pos : Nat} {acc : List Tok} {v : Value} {W : World} (h : Inv s B a b k0 line n xs w pos acc v W) (hk : B ≤ k0) (hbB : b < B) (haB : a < B) (q : Nat) : Inv s B a b k0 line n xs w q acc v (W.iterAt k0 s q) := by
  refine ⟨Lib.iterAt_heap W k0 s pos q h.it, (Lib.iterAt_other W k0 b s q (by omega)).trans h.bx, ?_, (Lib.iterAt_other W k0 a s q (by omega)).trans h.ba, h.tch.os, h.tch.tape, h.tch.output, by rw [Lib.iterAt_size]; exact h.tch.size, fun k hk2 hkb => (Lib.iterAt_other W k0 k s q (by omega)).trans (h.tch.block k hk2 hkb)⟩
  obtain ⟨h3, h4⟩ := h.row
  refine ⟨h3, ?_⟩
  rcases h4 with h4 | ⟨g, cap, cur, q1, q2, q3, q4⟩
  · exact Or.inl h4
  · refine Or.inr ⟨g, cap, cur, q1, q2, (Lib.iterAt_other W k0 g s q (fun e => ?_)).trans q3, q4⟩
    rw [e, h.it] at q3
    cases q3
theorem Inv.took {s : ByteArray} {B a b k0 : Nat} {line : Int} {n : Nat} {xs : List Value} {w : World} {pos : Nat} {acc : List Tok} {v v' : Value} {W W' : World} (h : Inv s B a b k0 line n xs w pos acc v W) (hBw : B ≤ w.heap.size) (hk : B ≤ k0) (hbB : b < B) (haB : a < B) (hab : a ≠ b) (kind : Int) (T : ByteArray) (c : Nat)
    (hb : Boxed W' b 39 v') (hr : W'.ownsRow B 50 4 v' (n + acc.length + 1) ((xs ++ flatT line acc) ++ tokC kind T line (c : Int))) (ht : Tch b v.ownBlock W W') : Inv s B a b k0 line n xs w pos (acc ++ [(kind, T, c)]) v' W' := by
  have hown : ∀ g, v.ownBlock = some g → B ≤ g := fun g hg => (ownsRow_block h.row g hg).1
  refine ⟨(ht.block k0 (Array.getElem?_eq_some_iff.1 h.it).1 (by omega) (fun e => ?_)).trans h.it, hb, ?_, (ht.block a h.ba.lt hab (fun e => by have := hown a e.symm; omega)).trans h.ba, h.tch.tch ht hBw hown⟩
  · obtain ⟨_, cur, hc⟩ := ownsRow_block h.row k0 e.symm
    rw [h.it] at hc
    cases hc
  · rw [List.length_append, flatT_append, ← List.append_assoc]
    have e : flatT line [(kind, T, c)] = tokC kind T line (c : Int) := by simp [flatT]
    rw [e]
    exact hr
theorem kind_range (r : Int) : kindR r = -1 ∨ kindR r = -2 ∨ kindR r = 2 ∨ kindR r = 3 ∨ kindR r = 4 ∨ kindR r = 5 ∨ kindR r = 0 := by
  unfold kindR
  repeat' split
  all_goals simp
theorem ext_size (s : ByteArray) (p q : Nat) (h : p ≤ q) (hq : q ≤ s.size) : (s.extract p q).size = q - p := by rw [ByteArray.size_extract]; omega
/-- The frame within a round, and behind the loop. -/
def frI (s : ByteArray) (tk : Value) (k0 : Nat) (kind : Int) (x7 : Value) (col nx pos : Nat) (u : Nat → Value) : Array Value := #[.string s, tk, undef, undef, .int .i64 0, .int .i64 0, .int .i64 kind, x7, u 8, u 9, .int .i64 (col : Nat), .int .i64 (nx : Nat), .int .i64 (pos : Nat), u 13, .string s, .pointer (some ⟨k0, 0, none⟩), u 16, u 17, u 18, u 19, u 20, u 21, u 22, u 23, u 24, u 25, u 26, u 27, u 28, u 29, u 30, u 31, u 32, u 33, u 34, u 35, u 36, u 37, u 38, u 39, u 40, u 41, u 42, u 43, u 44, u 45, u 46, u 47, u 48, u 49, u 50, u 51, u 52, u 53, u 54, u 55, u 56, u 57, u 58, u 59, u 60, u 61, u 62, u 63, u 64, u 65, u 66, u 67, u 68, u 69, u 70, u 71, u 72, u 73, u 74, u 75, u 76, u 77, u 78, u 79, u 80, u 81, u 82, u 83, u 84, u 85, u 86, u 87, u 88, u 89, u 90, u 91, u 92, u 93, u 94, u 95, u 96, u 97, u 98, u 99, undef, undef]
def frO (x9 x10 : Value) (u : Nat → Value) : Array Value := #[u 0, u 1, u 2, u 3, u 4, u 5, u 6, u 7, u 8, x9, x10, u 11, u 12, u 13, u 14, u 15, u 16, u 17, u 18, u 19, u 20, u 21, u 22, u 23, u 24, u 25, u 26, u 27, u 28, u 29, u 30, u 31, u 32, u 33, u 34, u 35, u 36, u 37, u 38, u 39, u 40, u 41, u 42, u 43, u 44, u 45, u 46, u 47, u 48, u 49, u 50, u 51, u 52, u 53, u 54, u 55, u 56, u 57, u 58, u 59, u 60, u 61, u 62, u 63, u 64, u 65, u 66, u 67, u 68, u 69, u 70, u 71, u 72, u 73, u 74, u 75, u 76, u 77, u 78, u 79, u 80, u 81, u 82, u 83, u 84, u 85, u 86, u 87, u 88, u 89, u 90, u 91, u 92, u 93, u 94, u 95, u 96, u 97, u 98, u 99, u 100, u 101]
theorem jo_ret (o : List Nat) (J : Nat → Nat → Act → World → Prop) (Q : Exit → Act → World → Prop) (a : Act) (w : World) : jumpsOut o J Q .ret a w = Q .ret a w := rfl
theorem jo_exit (o : List Nat) (J : Nat → Nat → Act → World → Prop) (Q : Exit → Act → World → Prop) (i : Nat) (a : Act) (w : World) : jumpsOut o J Q (.exit i) a w = Q (.exit i) a w := rfl
theorem jo_normal (o : List Nat) (J : Nat → Nat → Act → World → Prop) (Q : Exit → Act → World → Prop) (a : Act) (w : World) : jumpsOut o J Q .normal a w = Q .normal a w := rfl
/-- What stands at a jump out of the loop. -/
def Jo (s : ByteArray) (B b : Nat) (line : Int) (n : Nat) (xs : List Value) (w : World) (l m : Nat) (a' : Act) (W : World) : Prop :=
  m = 0 ∧ ∃ (X : Array Value) (v1 : Value), a' = { tmps := X, defers := [] } ∧ X = frO (X.getD 9 undef) (X.getD 10 undef) (fun i => X.getD i undef) ∧ Boxed W b 39 v1 ∧ W.ownsRow B 50 4 v1 (n + (cutR s).1.length) (xs ++ flatT line (cutR s).1) ∧ TchB B b w W ∧
    ((l = 0 ∧ (cutR s).2.1 = 0 ∧ (cutR s).2.2 = 0) ∨ (l = 5 ∧ X.getD 9 undef = .int .i64 (cutR s).2.1 ∧ X.getD 10 undef = .int .i64 (cutR s).2.2))
/-- What stands at a jump within a round. -/
def Ji (s : ByteArray) (tk : Value) (B a b k0 : Nat) (line : Int) (n : Nat) (xs : List Value) (w : World) (pos nx col : Nat) (acc : List Tok) (v1 : Value) (l m : Nat) (a' : Act) (W : World) : Prop :=
  ∃ (X : Array Value) (kind : Int), a' = { tmps := X, defers := [] } ∧ X = frI s tk k0 kind (X.getD 7 undef) col nx pos (fun i => X.getD i undef) ∧ Inv s B a b k0 line n xs w (pos + wd s pos) acc v1 W ∧ ¬ pos < nx ∧ kindR (rn s pos : Int) = kind ∧
    ((l = 1 ∧ m = 2 ∧ kind = 2) ∨ (l = 2 ∧ m = 2 ∧ kind = 3) ∨ (l = 3 ∧ m = 2 ∧ kind = 4) ∨ (l = 4 ∧ m = 1 ∧ ∃ sz : Nat, X.getD 7 undef = .int .i64 sz ∧ stepR s pos = .word kind sz ∧ pos + sz ≤ s.size))

set_option maxHeartbeats 4000000 in
set_option maxRecDepth 1000000 in
theorem cutS_any (s : ByteArray) (hs : s.size ≤ 65536) (B a b : Nat) (line : Int) (v : Value) (n : Nat) (xs : List Value) (w : World) (ha : Boxed w a 3 (.int .i64 line)) (hb : Boxed w b 39 v) (hrow : w.ownsRow B 50 4 v n xs) (hn : n ≤ 524288) (hBw : B ≤ w.heap.size) (hbB : b < B) (haB : a < B) (hab : a ≠ b) :
    Calls Tryz.prog 15 #[.string s, .func (.func 16) #[] #[.pointer (some ⟨a, 0, none⟩), .pointer (some ⟨b, 0, none⟩)]] w fun e w' => e = .returned (.tuple #[.int .i64 (cutR s).2.1, .int .i64 (cutR s).2.2]) ∧ ∃ v', Boxed w' b 39 v' ∧ w'.ownsRow B 50 4 v' (n + (cutR s).1.length) (xs ++ flatT line (cutR s).1) ∧ TchB B b w w' := by
  go_enter Tryz.func15, Tryz.ntmps15
  go_wp2
  refine wp_scope_out [] (Jo s B b line n xs w) (fun l h => by cases h) ?_ ?_
  · go_wp2
    go_loopw [10, 11] (fun c x wz => ∃ (pos nx col f : Nat) (acc : List Tok) (v1 : Value), c = .int .i64 col ∧ x = .int .i64 nx ∧ s.size < pos + f ∧ acc.length ≤ pos ∧ col ≤ pos ∧ pos ≤ s.size ∧ nx ≤ s.size ∧ Hid (cutAt s f pos nx col acc = cutR s) ∧ Inv s B a b w.heap.size line n xs w pos acc v1 wz) (fun _ _ wz => s.size - wz.iterPos w.heap.size)
    case atStart =>
      refine ⟨0, 0, 0, s.size + 1, [], v, rfl, rfl, by omega, by simp, by omega, by omega, by omega, rfl, World.iter_heap w s 0, hb.alloc _, ?_, ha.alloc _, ?_⟩
      · have e : xs ++ flatT line [] = xs := by simp [flatT]
        rw [e]
        exact hrow.alloc (.stringIter s 0)
      · have hb0 : Below w.heap.size w (w.alloc (.stringIter s 0)) := (Below.refl _ w).alloc (Nat.le_refl _) _
        exact ⟨rfl, rfl, rfl, hb0.size, fun k hk _ => hb0.block k (by omega)⟩
    case round =>
      obtain ⟨pos, nx, col, f, acc, v1, rfl, rfl, hfu, hac, hcp, hps, hnxs, HC, hI⟩ := hrel
      have hit := hI.it
      have hsz : w.heap.size < wr.heap.size := (Array.getElem?_eq_some_iff.1 hit).1
      obtain ⟨g, rfl⟩ : ∃ g, f = g + 1 := ⟨f - 1, by omega⟩
      by_cases hp : pos < s.size
      case neg =>
        have hnx : ∀ ty, (Instr.next (.pointer (some ⟨w.heap.size, 0, none⟩)) true ty).run Tryz.prog wr = _ := fun ty => Lib.run_next_end_at wr w.heap.size s pos ty hit hp
        have HV : Hid (cutR s = (acc, 0, 0)) := by show cutR s = _; rw [← HC.out, cut_end s g pos nx col acc hp]
        clear HC
        go_wp2
        go_step3
        go_wp2
        rw [jo_ret]
        go_ret2
        rw [HV.out]
        exact ⟨rfl, v1, hI.bx, hI.row, hI.tch⟩
      have hnx : ∀ ty, (Instr.next (.pointer (some ⟨w.heap.size, 0, none⟩)) true ty).run Tryz.prog wr = _ := fun ty => Lib.run_next_any_at wr w.heap.size s pos ty hit hp
      have hwd := wd_pos s pos
      have hwl := wd_le s pos hp
      have erw : (Utf8.decode s pos).1 = rn s pos := rfl
      have eww : (Utf8.decode s pos).2 = wd s pos := rfl
      rw [erw, eww] at hnx
      clear erw eww
      have hit2 := Lib.iterAt_heap wr w.heap.size s pos (pos + wd s pos) hit
      have hsz3 : wr.iterPos w.heap.size = pos := by simp only [World.iterPos, hit]
      have hI2 : Inv s B a b w.heap.size line n xs w (pos + wd s pos) acc v1 (wr.iterAt w.heap.size s (pos + wd s pos)) := hI.iter hBw hbB haB _
      generalize wr.iterAt w.heap.size s (pos + wd s pos) = W2 at *
      go_wp2
      refine wp_scope_out [0, 5] (Ji s (.func (.func 16) #[] #[.pointer (some ⟨a, 0, none⟩), .pointer (some ⟨b, 0, none⟩)]) B a b w.heap.size line n xs w pos nx (col + 1) acc v1) (by
        intro l hl
        simp only [List.mem_cons, List.mem_nil_iff, or_false] at hl
        rcases hl with rfl | rfl <;> rfl) ?_ ?_
      · by_cases hin : pos < nx
        · have HV : Hid (cutAt s g (pos + wd s pos) nx (col + 1) acc = cutR s) := by show cutAt s g (pos + wd s pos) nx (col + 1) acc = _; rw [← HC.out, cut_skip s g pos nx col acc hp hin]
          have hini : (pos : Int) < (nx : Int) := by omega
          have hI9 := hI2
          clear HC
          go_wp2
          rw [jo_exit]
          go_wp2
          go_roundw
          case rel => exact ⟨pos + wd s pos, nx, col + 1, g, acc, v1, by go_num, rfl, by omega, by omega, by omega, hwl, hnxs, HV, hI9⟩
          case measure =>
            rw [hsz3]
            simp only [World.iterPos, hI9.it]
            omega
        · have hini : ¬ (pos : Int) < (nx : Int) := by omega
          have HS := HC.out.symm.trans (cut_step s g pos nx col acc hp hin)
          clear HC
          by_cases k1 : kindR (rn s pos : Int) = -1
          · have hst : stepR s pos = .gap := by rw [stepR, if_pos k1]
            rw [hst] at HS
            have HV : Hid (cutAt s g (pos + wd s pos) nx (col + 1) acc = cutR s) := HS.symm
            have hk := k1
            clear HS hst
            go_wp2_with (go_at_call 73; refine (kindAt_any _ _).mono ?_; rintro e W9 ⟨rfl, hb9⟩; rw [hk]; have hI9 := hI2.below hBw hb9)
            rw [jo_exit]
            go_wp2
            go_roundw
            case rel => exact ⟨pos + wd s pos, nx, col + 1, g, acc, v1, by go_num, rfl, by omega, by omega, by omega, hwl, hnxs, HV, hI9⟩
            case measure =>
              rw [hsz3]
              simp only [World.iterPos, hI9.it]
              omega
          by_cases k2 : kindR (rn s pos : Int) = -2
          · have hst : stepR s pos = .stop := by rw [stepR, if_neg k1, if_pos k2]
            rw [hst] at HS
            have HV : Hid (cutR s = (acc, 0, 0)) := HS
            have hk := k2
            clear HS hst
            go_wp2_with (go_at_call 73; refine (kindAt_any _ _).mono ?_; rintro e W9 ⟨rfl, hb9⟩; rw [hk]; have hI9 := hI2.below hBw hb9)
            go_step3
            refine Or.inl ⟨by simp, ?_⟩
            refine Or.inr ⟨0, rfl, _, v1, rfl, rfl, hI9.bx, ?_, hI9.tch, Or.inl ⟨rfl, by rw [HV.out], by rw [HV.out]⟩⟩
            rw [HV.out]
            exact hI9.row
          have HS2 : Hid (cutR s = _) := HS
          clear HS
          by_cases k3 : kindR (rn s pos : Int) = 2
          · have hk := k3
            go_wp2_with (go_at_call 73; refine (kindAt_any _ _).mono ?_; rintro e W9 ⟨rfl, hb9⟩; rw [hk]; have hI9 := hI2.below hBw hb9)
            go_step3
            exact Or.inr ⟨2, _, 2, rfl, rfl, hI9, hin, hk, Or.inl ⟨rfl, rfl, rfl⟩⟩
          by_cases k4 : kindR (rn s pos : Int) = 3
          · have hk := k4
            go_wp2_with (go_at_call 73; refine (kindAt_any _ _).mono ?_; rintro e W9 ⟨rfl, hb9⟩; rw [hk]; have hI9 := hI2.below hBw hb9)
            go_step3
            exact Or.inr ⟨2, _, 3, rfl, rfl, hI9, hin, hk, Or.inr (Or.inl ⟨rfl, rfl, rfl⟩)⟩
          by_cases k5 : kindR (rn s pos : Int) = 4
          · have hk := k5
            go_wp2_with (go_at_call 73; refine (kindAt_any _ _).mono ?_; rintro e W9 ⟨rfl, hb9⟩; rw [hk]; have hI9 := hI2.below hBw hb9)
            go_step3
            exact Or.inr ⟨2, _, 4, rfl, rfl, hI9, hin, hk, Or.inr (Or.inr (Or.inl ⟨rfl, rfl, rfl⟩))⟩
          by_cases k6 : kindR (rn s pos : Int) = 5
          · have HT : Hid (stepR s pos = .word 5 1) := by show stepR s pos = _; rw [stepR, if_neg k1, if_neg k2, if_neg k3, if_neg k4, if_neg k5, if_pos k6]
            have hk := k6
            go_wp2_with (go_at_call 73; refine (kindAt_any _ _).mono ?_; rintro e W9 ⟨rfl, hb9⟩; rw [hk]; have hI9 := hI2.below hBw hb9)
            go_step3
            exact Or.inr ⟨1, _, 5, rfl, rfl, hI9, hin, hk, Or.inr (Or.inr (Or.inr ⟨rfl, rfl, 1, rfl, HT.out, by omega⟩))⟩
          · have hk : kindR (rn s pos : Int) = 0 := by rcases kind_range (rn s pos : Int) with h | h | h | h | h | h | h <;> first | exact h | exact absurd h ‹_›
            have hst : stepR s pos = .bad 20 0 := by rw [stepR, if_neg k1, if_neg k2, if_neg k3, if_neg k4, if_neg k5, if_neg k6]
            have h := HS2.out
            rw [hst] at h
            have HV : Hid (cutR s = (acc, 20, col + 1 + 0)) := h
            clear h hst HS2
            go_wp2_with (go_at_call 73; refine (kindAt_any _ _).mono ?_; rintro e W9 ⟨rfl, hb9⟩; rw [hk]; have hI9 := hI2.below hBw hb9)
            go_step3
            refine Or.inl ⟨by simp, ?_⟩
            refine Or.inr ⟨0, rfl, _, v1, rfl, rfl, hI9.bx, ?_, hI9.tch, Or.inr ⟨rfl, by rw [HV.out]; rfl, by rw [HV.out]; rfl⟩⟩
            rw [HV.out]
            exact hI9.row
      · rintro l m a2 W ⟨X, kind, rfl, hX, hIW, hin, hk, hcase⟩
        have HS := HC.out.symm.trans (cut_step s g pos nx col acc hp hin)
        clear HC
        generalize X.getD 7 undef = x7 at hX hcase
        generalize (fun i => X.getD i undef) = u at hX
        subst hX
        simp only [frI]
        have hpi : (pos : Int) ≤ (s.size : Int) := by omega
        have hxe := ext_size s pos s.size (by omega) (Nat.le_refl _)
        have hxm : (s.extract pos s.size).size ≤ maxLen := by unfold maxLen; omega
        rcases hcase with ⟨rfl, rfl, rfl⟩ | ⟨rfl, rfl, rfl⟩ | ⟨rfl, rfl, rfl⟩ | ⟨rfl, rfl, sz, rfl, hst, hsl⟩
        · have hrun := run_any (s.extract pos s.size) hxm
          have hrl := runR_le (s.extract pos s.size)
          have hst : stepR s pos = if 128 < (runR (s.extract pos s.size)).2 then .bad 22 0 else .word 2 (runR (s.extract pos s.size)).1 := by
            rw [stepR, hk, if_neg (by decide), if_neg (by decide), if_pos rfl]
          generalize runR (s.extract pos s.size) = R at hrun hrl hst
          obtain ⟨sz, ch⟩ := R
          dsimp only at hrun hrl hst
          refine ⟨_, rfl, ?_⟩
          by_cases hch : 128 < ch
          · rw [if_pos hch] at hst
            rw [hst] at HS
            have HV : Hid (cutR s = (acc, 22, col + 1 + 0)) := HS
            have hci : 128 < (ch : Int) := by omega
            clear HS hst hk
            go_wp2_with (go_at_call 74; refine (hrun _).mono ?_; rintro e W5 ⟨rfl, hb5⟩; have hI5 := hIW.below hBw hb5)
            go_step3
            refine Or.inl ⟨by simp, ?_⟩
            refine Or.inr ⟨0, rfl, _, v1, rfl, rfl, hI5.bx, ?_, hI5.tch, Or.inr ⟨rfl, by rw [HV.out]; rfl, by rw [HV.out]; rfl⟩⟩
            rw [HV.out]
            exact hI5.row
          · rw [if_neg hch] at hst
            have HT : Hid (stepR s pos = .word 2 sz) := hst
            have hci : ¬ 128 < (ch : Int) := by omega
            have HK : Hid (kindR (rn s pos : Int) = 2) := hk
            clear HS hst hk
            go_wp2_with (go_at_call 74; refine (hrun _).mono ?_; rintro e W5 ⟨rfl, hb5⟩; have hI5 := hIW.below hBw hb5)
            go_step3
            exact Or.inr ⟨1, by omega, _, 2, rfl, rfl, hI5, hin, HK.out, Or.inr (Or.inr (Or.inr ⟨rfl, rfl, sz, rfl, HT.out, by omega⟩))⟩
        · have hrun := run_any (s.extract pos s.size) hxm
          have hrl := runR_le (s.extract pos s.size)
          have hst : stepR s pos = if numR (s.extract pos (pos + (runR (s.extract pos s.size)).1)) = none then .bad 21 0 else .word 3 (runR (s.extract pos s.size)).1 := by
            rw [stepR, hk, if_neg (by decide), if_neg (by decide), if_neg (by decide), if_pos rfl]
          generalize runR (s.extract pos s.size) = R at hrun hrl hst
          obtain ⟨sz, ch⟩ := R
          dsimp only at hrun hrl hst
          have hsi : (pos : Int) + sz ≤ (s.size : Int) := by omega
          have hnum := number_any (s.extract pos (pos + sz)) (by unfold maxLen; rw [ext_size s pos (pos + sz) (by omega) (by omega)]; omega)
          refine ⟨_, rfl, ?_⟩
          cases ho : numR (s.extract pos (pos + sz)) with
          | none =>
            rw [ho] at hnum
            unfold numV at hnum
            rw [if_pos ho] at hst
            rw [hst] at HS
            have HV : Hid (cutR s = (acc, 21, col + 1 + 0)) := HS
            clear HS hst hk ho
            go_wp2_with (first | (go_at_call 74; refine (hrun _).mono ?_; rintro e W5 ⟨rfl, hb5⟩; have hI5 := hIW.below hBw hb5) | (go_at_call 75; refine (hnum _).mono ?_; rintro e W4 ⟨rfl, hb4⟩; have hI4 := hI5.below hBw hb4))
            go_step3
            refine Or.inl ⟨by simp, ?_⟩
            refine Or.inr ⟨0, rfl, _, v1, rfl, rfl, hI4.bx, ?_, hI4.tch, Or.inr ⟨rfl, by rw [HV.out]; rfl, by rw [HV.out]; rfl⟩⟩
            rw [HV.out]
            exact hI4.row
          | some val =>
            rw [ho] at hnum
            unfold numV at hnum
            rw [if_neg (by rw [ho]; simp)] at hst
            have HT : Hid (stepR s pos = .word 3 sz) := hst
            have HK : Hid (kindR (rn s pos : Int) = 3) := hk
            clear HS hst hk ho
            go_wp2_with (first | (go_at_call 74; refine (hrun _).mono ?_; rintro e W5 ⟨rfl, hb5⟩; have hI5 := hIW.below hBw hb5) | (go_at_call 75; refine (hnum _).mono ?_; rintro e W4 ⟨rfl, hb4⟩; have hI4 := hI5.below hBw hb4))
            go_step3
            exact Or.inr ⟨1, by omega, _, 3, rfl, rfl, hI4, hin, HK.out, Or.inr (Or.inr (Or.inr ⟨rfl, rfl, sz, rfl, HT.out, by omega⟩))⟩
        · have hlead := leading_any (s.extract pos s.size) (by omega)
          unfold leadV at hlead
          have hrl := leadR_le (s.extract pos s.size)
          have hst : stepR s pos = if (leadR (s.extract pos s.size)).2.2 ≠ 0 then .bad (leadR (s.extract pos s.size)).2.2 (starts (s.extract pos (pos + (leadR (s.extract pos s.size)).2.1))).length else .word 4 (leadR (s.extract pos s.size)).2.1 := by
            rw [stepR, hk, if_neg (by decide), if_neg (by decide), if_neg (by decide), if_neg (by decide), if_pos rfl]
          generalize leadR (s.extract pos s.size) = R at hlead hrl hst
          obtain ⟨lb, sz, er⟩ := R
          dsimp only at hlead hrl hst
          have hsi : (pos : Int) + sz ≤ (s.size : Int) := by omega
          have hcm : (s.extract pos (pos + sz)).size ≤ maxLen := by unfold maxLen; rw [ext_size s pos (pos + sz) (by omega) (by omega)]; omega
          have hsl2 := starts_length (s.extract pos (pos + sz))
          rw [ext_size s pos (pos + sz) (by omega) (by omega)] at hsl2
          refine ⟨_, rfl, ?_⟩
          by_cases he : er = 0
          · subst he
            rw [if_neg (by simp)] at hst
            rw [hst] at HS
            have HV : Hid (cutAt s g (pos + wd s pos) (pos + sz) (col + 1) (acc ++ [(4, s.extract pos (pos + sz), col + 1)]) = cutR s) := HS.symm
            clear HS hst hk
            go_wp2_with (go_at_call 76; refine (hlead _).mono ?_; rintro e W5 ⟨rfl, hb5⟩; have hI5 := hIW.below hBw hb5)
            go_step3
            go_wp2_with (go_at_call 16; refine (take_any B a b 4 ((col + 1 : Nat) : Int) line 0 (s.extract pos (pos + sz)) (by rw [ext_size s pos (pos + sz) (by omega) (by omega)]; omega) v1 (n + acc.length) (xs ++ flatT line acc) _ hI5.ba hI5.bx hI5.row (by omega) (Nat.le_trans hBw hI5.tch.size) hbB).mono ?_; rintro e W6 ⟨rfl, v6, hb6, hr6, ht6⟩)
            rw [jo_normal]
            have hI6 := hI5.took hBw hBw hbB haB hab 4 (s.extract pos (pos + sz)) (col + 1) hb6 hr6 ht6
            go_wp2
            go_roundw
            case rel => exact ⟨pos + wd s pos, pos + sz, col + 1, g, _, v6, rfl, rfl, by omega, by rw [List.length_append]; simp; omega, by omega, hwl, by omega, HV, hI6⟩
            case measure =>
              rw [hsz3]
              simp only [World.iterPos, hI6.it]
              omega
          · rw [if_pos he] at hst
            rw [hst] at HS
            have HV : Hid (cutR s = (acc, er, col + 1 + (starts (s.extract pos (pos + sz))).length)) := HS
            have hei : ((er : Int) == 0) = false := beq_eq_false_iff_ne.2 (by omega)
            clear HS hst hk
            go_wp2_with (first | (go_at_call 76; refine (hlead _).mono ?_; rintro e W5 ⟨rfl, hb5⟩; have hI5 := hIW.below hBw hb5) | (go_at_call 18; refine (count_any (s.extract pos (pos + sz)) hcm _).mono ?_; rintro e W4 ⟨rfl, hb4⟩; have hI4 := hI5.below hBw hb4))
            go_step3
            refine Or.inl ⟨by simp, ?_⟩
            refine Or.inr ⟨0, rfl, _, v1, rfl, rfl, hI4.bx, ?_, hI4.tch, Or.inr ⟨rfl, by rw [HV.out]; rfl, by rw [HV.out]; rfl⟩⟩
            rw [HV.out]
            exact hI4.row
        · rw [hst] at HS
          have HV : Hid (cutAt s g (pos + wd s pos) (pos + sz) (col + 1) (acc ++ [(kind, s.extract pos (pos + sz), col + 1)]) = cutR s) := HS.symm
          have hsi : (pos : Int) + sz ≤ (s.size : Int) := by omega
          refine ⟨_, rfl, ?_⟩
          clear HS hst hk
          go_wp2_with (go_at_call 16; refine (take_any B a b kind ((col + 1 : Nat) : Int) line 0 (s.extract pos (pos + sz)) (by rw [ext_size s pos (pos + sz) (by omega) (by omega)]; omega) v1 (n + acc.length) (xs ++ flatT line acc) _ hIW.ba hIW.bx hIW.row (by omega) (Nat.le_trans hBw hIW.tch.size) hbB).mono ?_; rintro e W6 ⟨rfl, v6, hb6, hr6, ht6⟩)
          rw [jo_normal]
          have hI6 := hIW.took hBw hBw hbB haB hab kind (s.extract pos (pos + sz)) (col + 1) hb6 hr6 ht6
          go_wp2
          go_roundw
          case rel => exact ⟨pos + wd s pos, pos + sz, col + 1, g, _, v6, rfl, rfl, by omega, by rw [List.length_append]; simp; omega, by omega, hwl, by omega, HV, hI6⟩
          case measure =>
            rw [hsz3]
            simp only [World.iterPos, hI6.it]
            omega
  · rintro l m a2 W ⟨rfl, X, v1, rfl, hX, h1, h2, h3, hcase⟩
    generalize X.getD 9 undef = x9 at *
    generalize X.getD 10 undef = x10 at *
    generalize (fun i => X.getD i undef) = u at *
    subst hX
    simp only [frO]
    rcases hcase with ⟨rfl, e1, e2⟩ | ⟨rfl, rfl, rfl⟩
    · refine ⟨_, rfl, ?_⟩
      go_wp2
      rw [jo_ret]
      go_ret2
      rw [e1, e2]
      exact ⟨rfl, v1, h1, h2, h3⟩
    · refine ⟨_, rfl, ?_⟩
      go_wp2
      rw [jo_ret]
      go_ret2
      exact ⟨rfl, v1, h1, h2, h3⟩
end Go.Proofs.YtngjjcmoekeciaaGreatDoor
