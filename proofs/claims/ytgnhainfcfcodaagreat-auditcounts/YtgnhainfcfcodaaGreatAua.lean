/- Events, nodes, a hearing in a world. -/
import Derived.Test.YtgnhainfcfcodaaGreatWtn
import Derived.Test.YtgnhainfcfcodaaGreatStg
import Derived.Test.YtgnhainfcfcodaaGreatYwa
import Derived.Test.YtgnhainfcfcodaaGreatRgd
import Derived.Test.YtgnhainfcfcodaaGreatRgn
import Derived.Test.YtgnhainfcfcodaaGreatCnt
import Derived.Test.YtgnhainfcfcodaaGreatOrd
import Derived.Test.YtgnhainfcfcodaaGreatHas
namespace Go.Proofs.YtgnhainfcfcodaaGreat
open Go.RowKit Go.Shelf Go.Lib
attribute [local go_sem] Oper.semAt_some

/-- An event. -/
structure Ev where
  k : Int
  nd : Int
  li : Int
  ro : Int
  ta : Int
  of : Int
  du : Int
  he : Nat
  un : Nat
def ecA (e : Ev) : Array Value := #[.int .i64 e.k, .int .i64 e.nd, .int .i64 e.li, .int .i64 e.ro, .int .i64 e.ta, .int .i64 e.of, .int .i64 e.du, .int .u32 (wd e.he 0 : Nat), .int .u32 (wd e.he 1 : Nat), .int .u32 (wd e.he 2 : Nat), .int .u32 (wd e.he 3 : Nat), .int .u32 (wd e.un 0 : Nat), .int .u32 (wd e.un 1 : Nat), .int .u32 (wd e.un 2 : Nat), .int .u32 (wd e.un 3 : Nat)]
def ec (e : Ev) : List Value := (ecA e).toList
def ecs (l : List Ev) : List Value := l.flatMap ec
def evV (e : Ev) : Value := .agg (ecA e)
def e0 : Ev := ⟨0, 0, 0, 0, 0, 0, 0, 0, 0⟩
theorem ec_len (e : Ev) : (ec e).length = 15 := rfl
theorem ecs_append (a b : List Ev) : ecs (a ++ b) = ecs a ++ ecs b := by simp [ecs]
theorem ecs_one1 (e : Ev) : ecs [e] = ec e := by simp [ecs]
theorem ecs_len : ∀ l : List Ev, (ecs l).length = l.length * 15
  | [] => rfl
  | x :: l => by
    have : ecs (x :: l) = ec x ++ ecs l := by simp [ecs]
    rw [this, List.length_append, ec_len, ecs_len l, List.length_cons]; omega
theorem ec_ones (e : Ev) : ∀ u ∈ ec e, u.oneCell' = true := by
  intro u hu
  simp only [ec, ecA, List.mem_cons, List.not_mem_nil, or_false] at hu
  rcases hu with h | h | h | h | h | h | h | h | h | h | h | h | h | h | h <;> subst h <;> rfl
theorem ecs_ones (l : List Ev) : ∀ u ∈ ecs l, u.oneCell' = true := by
  intro u hu
  simp only [ecs, List.mem_flatMap] at hu
  obtain ⟨e, _, he⟩ := hu
  exact ec_ones e u he
/-- What the events so far say of a node. -/
structure Nod where
  up : Bool
  life : Int
  tag : Int
  op : Int
  ask : Int
def nc (o : Nod) : List Value := [.bool o.up, .int .i64 o.life, .int .i64 o.tag, .int .i64 o.op, .int .i64 o.ask]
def n0 : Nod := ⟨false, 0, 0, 0, 0⟩
theorem fm_len {α : Type} (f : α → List Value) (c : Nat) (hf : ∀ x, (f x).length = c) : ∀ l : List α, (l.flatMap f).length = l.length * c
  | [] => by simp
  | x :: l => by rw [List.flatMap_cons, List.length_append, hf, fm_len f c hf l, List.length_cons, Nat.add_mul]; omega
theorem fm_get {α : Type} (f : α → List Value) (c : Nat) (hf : ∀ x, (f x).length = c) : ∀ (l : List α) (k j : Nat) (x : α), l[k]? = some x → j < c → (l.flatMap f)[k * c + j]? = (f x)[j]?
  | [], k, j, x, h, _ => by simp at h
  | y :: l, 0, j, x, h, hj => by
    simp at h
    subst h
    rw [List.flatMap_cons, Nat.zero_mul, Nat.zero_add, List.getElem?_append_left (by rw [hf]; exact hj)]
  | y :: l, k + 1, j, x, h, hj => by
    rw [List.flatMap_cons, List.getElem?_append_right (by rw [hf, Nat.add_mul]; omega), hf]
    have e : (k + 1) * c + j - c = k * c + j := by rw [Nat.add_mul]; omega
    rw [e]
    exact fm_get f c hf l k j x (by simpa using h) hj
theorem fm_set {α : Type} (f : α → List Value) (c : Nat) (hf : ∀ x, (f x).length = c) : ∀ (l : List α) (k j : Nat) (x y : α) (v : Value), l[k]? = some x → j < c → f y = (f x).set j v → (l.flatMap f).set (k * c + j) v = (l.set k y).flatMap f
  | [], k, j, x, y, v, h, _, _ => by simp at h
  | z :: l, 0, j, x, y, v, h, hj, he => by
    simp at h
    subst h
    rw [List.flatMap_cons, Nat.zero_mul, Nat.zero_add, List.set_append_left _ _ (by rw [hf]; exact hj), List.set_cons_zero, List.flatMap_cons, he]
  | z :: l, k + 1, j, x, y, v, h, hj, he => by
    rw [List.flatMap_cons, List.set_append_right _ _ (by rw [hf, Nat.add_mul]; omega), hf]
    have e : (k + 1) * c + j - c = k * c + j := by rw [Nat.add_mul]; omega
    rw [e, fm_set f c hf l k j x y v (by simpa using h) hj he, List.set_cons_succ, List.flatMap_cons]
theorem set_get {W : World} {b : Nat} {cs : Array Value} {t : TypeId} (k : Nat) (v : Value) (h : W.heap[b]? = some (.cells cs t (0, 0))) : (W.setCell ⟨b, k, none⟩ v).heap[b]? = some (.cells (cs.setIfInBounds k v) t (0, 0)) := by
  simp [World.setCell, Array.getElem?_modify, h]
/-- A hearing's cells. -/
def heC (need pl : Int) (g n : Nat) (c : Ev) (la : Int) : Array Value := #[.int .i64 need, .int .i64 pl, .slice (some ⟨g, 0, none⟩) n n, .int .i64 c.k, .int .i64 c.nd, .int .i64 c.li, .int .i64 c.ro, .int .i64 c.ta, .int .i64 c.of, .int .i64 c.du, .int .u32 (wd c.he 0 : Nat), .int .u32 (wd c.he 1 : Nat), .int .u32 (wd c.he 2 : Nat), .int .u32 (wd c.he 3 : Nat), .int .u32 (wd c.un 0 : Nat), .int .u32 (wd c.un 1 : Nat), .int .u32 (wd c.un 2 : Nat), .int .u32 (wd c.un 3 : Nat), .int .i64 la]
/-- What a hearing has come to. -/
structure Hs where
  nds : List Nod
  c : Ev
  la : Int
structure He (W : World) (p g : Nat) (need pl : Int) (s : Hs) : Prop where
  box : W.heap[p]? = some (.cells (heC need pl g s.nds.length s.c s.la) 97 (0, 0))
  nod : W.heap[g]? = some (.cells (s.nds.flatMap nc).toArray 147 (0, 0))
  ne : p ≠ g
section
variable {W V : World} {p g : Nat} {need pl : Int} {s : Hs}
theorem He.carry (h : He W p g need pl s) (hb : Below W.heap.size W V) : He V p g need pl s := ⟨(hb.block _ (lt_at h.box)).trans h.box, (hb.block _ (lt_at h.nod)).trans h.nod, h.ne⟩
theorem He.cn (h : He W p g need pl s) {i j : Nat} {o : Nod} {v : Value} (hi : s.nds[i]? = some o) (hj : j < 5) (hv : (nc o)[j]? = some v) : W.cell? ⟨g, i * 5 + j, none⟩ = some v := by
  rw [cell_at h.nod, ← hv, ← fm_get nc 5 (fun _ => rfl) s.nds i j o hi hj]
  simp
theorem Tn.put (W : World) (p g j : Nat) (v : Value) : Tn p (some g) (some g) W (W.setCell ⟨p, j, none⟩ v) := ⟨rfl, rfl, rfl, by simp, fun k _ h1 _ => Below.heap_setCell _ _ _ _ h1, .inl rfl⟩
theorem Tn.putg (W : World) (p g j : Nat) (v : Value) : Tn p (some g) (some g) W (W.setCell ⟨g, j, none⟩ v) := ⟨rfl, rfl, rfl, by simp, fun k _ _ h2 => Below.heap_setCell _ _ _ _ (fun e => h2 (by rw [e])), .inl rfl⟩
/-- The place is put. -/
theorem He.at (h : He W p g need pl s) (v : Int) : He (W.setCell ⟨p, 1, none⟩ (.int .i64 v)) p g need v s := by
  refine ⟨?_, (Below.heap_setCell _ _ _ _ (fun e => h.ne e.symm)).trans h.nod, h.ne⟩
  have := set_get 1 (.int .i64 v) h.box
  simpa [heC] using this
/-- Whom the row has doubted last is put. -/
theorem He.last (h : He W p g need pl s) (v : Int) : He (W.setCell ⟨p, 18, none⟩ (.int .i64 v)) p g need pl { s with la := v } := by
  refine ⟨?_, (Below.heap_setCell _ _ _ _ (fun e => h.ne e.symm)).trans h.nod, h.ne⟩
  have := set_get 18 (.int .i64 v) h.box
  simpa [heC] using this
/-- A cell of a node is put. -/
theorem He.nput (h : He W p g need pl s) {i j : Nat} {o o' : Nod} {v : Value} (hi : s.nds[i]? = some o) (hj : j < 5) (hv : nc o' = (nc o).set j v) : He (W.setCell ⟨g, i * 5 + j, none⟩ v) p g need pl { s with nds := s.nds.set i o' } := by
  refine ⟨?_, ?_, h.ne⟩
  · rw [Below.heap_setCell _ _ _ _ h.ne]
    simpa using h.box
  · have := set_get (i * 5 + j) v h.nod
    rw [List.setIfInBounds_toArray, fm_set nc 5 (fun _ => rfl) s.nds i j o o' v hi hj hv] at this
    exact this
theorem He.frz (h : He W p g need pl s) (j : Nat) : W.frozen? ⟨p, j, none⟩ = false := thaw_at h.box j
theorem He.frzg (h : He W p g need pl s) (j : Nat) : W.frozen? ⟨g, j, none⟩ = false := thaw_at h.nod j
end
/-- The panic with which a hearing is given up. -/
def off (pl : Int) : List PanicEntry := [{ v := .iface 91 (.agg #[.int .i64 pl]), recovered := false }]
theorem faE0 (w : World) (b o : Nat) : (Instr.fieldAt 59 (.pointer (some ⟨b, o, none⟩)) 0).run Tryz.prog w = .ok (.pointer (some ⟨b, o, none⟩)) w := by go_simp
theorem faE1 (w : World) (b o : Nat) : (Instr.fieldAt 59 (.pointer (some ⟨b, o, none⟩)) 1).run Tryz.prog w = .ok (.pointer (some ⟨b, o + 1, none⟩)) w := by go_simp
theorem faE2 (w : World) (b o : Nat) : (Instr.fieldAt 59 (.pointer (some ⟨b, o, none⟩)) 2).run Tryz.prog w = .ok (.pointer (some ⟨b, o + 2, none⟩)) w := by go_simp
theorem faE3 (w : World) (b o : Nat) : (Instr.fieldAt 59 (.pointer (some ⟨b, o, none⟩)) 3).run Tryz.prog w = .ok (.pointer (some ⟨b, o + 3, none⟩)) w := by go_simp
theorem faE4 (w : World) (b o : Nat) : (Instr.fieldAt 59 (.pointer (some ⟨b, o, none⟩)) 4).run Tryz.prog w = .ok (.pointer (some ⟨b, o + 4, none⟩)) w := by go_simp
theorem faE5 (w : World) (b o : Nat) : (Instr.fieldAt 59 (.pointer (some ⟨b, o, none⟩)) 5).run Tryz.prog w = .ok (.pointer (some ⟨b, o + 5, none⟩)) w := by go_simp
theorem faE6 (w : World) (b o : Nat) : (Instr.fieldAt 59 (.pointer (some ⟨b, o, none⟩)) 6).run Tryz.prog w = .ok (.pointer (some ⟨b, o + 6, none⟩)) w := by go_simp
theorem faE7 (w : World) (b o : Nat) : (Instr.fieldAt 59 (.pointer (some ⟨b, o, none⟩)) 7).run Tryz.prog w = .ok (.pointer (some ⟨b, o + 7, none⟩)) w := by go_simp
theorem faE8 (w : World) (b o : Nat) : (Instr.fieldAt 59 (.pointer (some ⟨b, o, none⟩)) 8).run Tryz.prog w = .ok (.pointer (some ⟨b, o + 11, none⟩)) w := by go_simp
theorem faH0 (w : World) (b o : Nat) : (Instr.fieldAt 97 (.pointer (some ⟨b, o, none⟩)) 0).run Tryz.prog w = .ok (.pointer (some ⟨b, o, none⟩)) w := by go_simp
theorem faH1 (w : World) (b o : Nat) : (Instr.fieldAt 97 (.pointer (some ⟨b, o, none⟩)) 1).run Tryz.prog w = .ok (.pointer (some ⟨b, o + 1, none⟩)) w := by go_simp
theorem faH2 (w : World) (b o : Nat) : (Instr.fieldAt 97 (.pointer (some ⟨b, o, none⟩)) 2).run Tryz.prog w = .ok (.pointer (some ⟨b, o + 2, none⟩)) w := by go_simp
theorem faH3 (w : World) (b o : Nat) : (Instr.fieldAt 97 (.pointer (some ⟨b, o, none⟩)) 3).run Tryz.prog w = .ok (.pointer (some ⟨b, o + 3, none⟩)) w := by go_simp
theorem faR0 (w : World) (b o : Nat) : (Instr.fieldAt 95 (.pointer (some ⟨b, o, none⟩)) 0).run Tryz.prog w = .ok (.pointer (some ⟨b, o, none⟩)) w := by go_simp
theorem faR1 (w : World) (b o : Nat) : (Instr.fieldAt 95 (.pointer (some ⟨b, o, none⟩)) 1).run Tryz.prog w = .ok (.pointer (some ⟨b, o + 15, none⟩)) w := by go_simp
theorem faN0 (w : World) (b o : Nat) : (Instr.fieldAt 147 (.pointer (some ⟨b, o, none⟩)) 0).run Tryz.prog w = .ok (.pointer (some ⟨b, o, none⟩)) w := by go_simp
theorem faN1 (w : World) (b o : Nat) : (Instr.fieldAt 147 (.pointer (some ⟨b, o, none⟩)) 1).run Tryz.prog w = .ok (.pointer (some ⟨b, o + 1, none⟩)) w := by go_simp
theorem faN2 (w : World) (b o : Nat) : (Instr.fieldAt 147 (.pointer (some ⟨b, o, none⟩)) 2).run Tryz.prog w = .ok (.pointer (some ⟨b, o + 2, none⟩)) w := by go_simp
theorem faN3 (w : World) (b o : Nat) : (Instr.fieldAt 147 (.pointer (some ⟨b, o, none⟩)) 3).run Tryz.prog w = .ok (.pointer (some ⟨b, o + 3, none⟩)) w := by go_simp
theorem faN4 (w : World) (b o : Nat) : (Instr.fieldAt 147 (.pointer (some ⟨b, o, none⟩)) 4).run Tryz.prog w = .ok (.pointer (some ⟨b, o + 4, none⟩)) w := by go_simp
theorem load_in {W : World} {B o : Nat} {z : Int} (h : W.cell? ⟨B, o, none⟩ = some (.int .i64 z)) : (Instr.loadAt 3 (.pointer (some ⟨B, o, none⟩))).run Tryz.prog W = .ok (.int .i64 z) W := by go_simp
theorem load_bo {W : World} {B o : Nat} {z : Bool} (h : W.cell? ⟨B, o, none⟩ = some (.bool z)) : (Instr.loadAt 4 (.pointer (some ⟨B, o, none⟩))).run Tryz.prog W = .ok (.bool z) W := by go_simp
theorem load_ns {W : World} {B o : Nat} {a : Option Addr} {n c : Nat} (h : W.cell? ⟨B, o, none⟩ = some (.slice a n c)) : (Instr.loadAt 93 (.pointer (some ⟨B, o, none⟩))).run Tryz.prog W = .ok (.slice a n c) W := by go_simp
theorem load_se {W : World} {B o : Nat} {N : Nat} (h0 : W.cell? ⟨B, o, none⟩ = some (.int .u32 (wd N 0 : Nat))) (h1 : W.cell? ⟨B, o + 1, none⟩ = some (.int .u32 (wd N 1 : Nat))) (h2 : W.cell? ⟨B, o + 2, none⟩ = some (.int .u32 (wd N 2 : Nat))) (h3 : W.cell? ⟨B, o + 3, none⟩ = some (.int .u32 (wd N 3 : Nat))) : (Instr.loadAt 57 (.pointer (some ⟨B, o, none⟩))).run Tryz.prog W = .ok (sv N) W := by
  unfold sv
  go_simp
theorem bi_lenN (t : TypeId) (bs : Array Bool) (a : Option Addr) (n c : Nat) (w : World) : (builtin .len #[93] t bs #[.slice a n c]).run Tryz.prog w = .ok (.value (.int .i64 (n : Int))) w := by
  show ((do pure (.value (← Builtin.len_ #[93] t #[.slice a n c]))) : Sem Next).run Tryz.prog w = _
  go_simp
theorem idx_n (b n k : Nat) (hk : k < n) (w : World) : (Instr.indexAt 93 (.slice (some ⟨b, 0, none⟩) n n) (.int .i64 (k : Int))).run Tryz.prog w = .ok (.pointer (some ⟨b, k * 5, none⟩)) w := by
  have h1 : (k : Int) < (n : Int) := by omega
  go_simp
set_option maxRecDepth 100000 in
theorem must_yes (p : Nat) (w : World) : Calls Tryz.prog 96 #[.pointer (some ⟨p, 0, none⟩), .bool true] w fun e w' => e = .returned (.tuple #[]) ∧ w' = w := by
  go_enter Tryz.func96, Tryz.ntmps96
  go_wp2
  go_end0
  exact ⟨rfl, rfl⟩
set_option maxRecDepth 100000 in
theorem must_no {p g : Nat} {need pl : Int} {s : Hs} {w : World} (h : He w p g need pl s) : Calls Tryz.prog 96 #[.pointer (some ⟨p, 0, none⟩), .bool false] w fun e w' => e = .panicked (off pl) ∧ w' = w := by
  have c1 : w.cell? ⟨p, 1, none⟩ = some (.int .i64 pl) := (cell_at h.box 1).trans rfl
  go_enter Tryz.func96, Tryz.ntmps96
  go_wp2
  exact ⟨rfl, rfl, rfl⟩
set_option maxRecDepth 100000 in
theorem isBelow_any (a b : Int) (w : World) : Calls Tryz.prog 18 #[.int .i64 a, .int .i64 b] w fun e w' => e = .returned (.bool (decide (0 ≤ a ∧ a < b))) ∧ w' = w := by
  by_cases h1 : 0 ≤ a
  · by_cases h2 : a < b
    · go_enter Tryz.func18, Tryz.ntmps18
      go_wp2
      go_ret
      exact ⟨by simp; omega, rfl⟩
    · go_enter Tryz.func18, Tryz.ntmps18
      go_wp2
      go_ret
      exact ⟨by simp; omega, rfl⟩
  · go_enter Tryz.func18, Tryz.ntmps18
    go_wp2
    go_ret
    exact ⟨by simp; omega, rfl⟩
set_option maxRecDepth 100000 in
theorem isSize_any (a : Int) (w : World) : Calls Tryz.prog 17 #[.int .i64 a] w fun e w' => e = .returned (.bool (decide (1 ≤ a ∧ a ≤ 100))) ∧ w' = w := by
  by_cases h1 : 1 ≤ a
  · by_cases h2 : a ≤ 100
    · go_enter Tryz.func17, Tryz.ntmps17
      go_wp2
      go_ret
      exact ⟨by simp; omega, rfl⟩
    · go_enter Tryz.func17, Tryz.ntmps17
      go_wp2
      go_ret
      exact ⟨by simp; omega, rfl⟩
  · go_enter Tryz.func17, Tryz.ntmps17
    go_wp2
    go_ret
    exact ⟨by simp; omega, rfl⟩
set_option maxRecDepth 100000 in
theorem inRow_any {p g : Nat} {need pl : Int} {s : Hs} {w : World} (h : He w p g need pl s) : Calls Tryz.prog 105 #[.pointer (some ⟨p, 0, none⟩)] w fun e w' => e = .returned (.bool (decide (s.c.k = 3))) ∧ w' = w := by
  have c1 : w.cell? ⟨p, 3, none⟩ = some (.int .i64 s.c.k) := (cell_at h.box 3).trans rfl
  by_cases h1 : s.c.k = 3
  · go_enter Tryz.func105, Tryz.ntmps105
    go_wp2
    go_ret
    exact ⟨by simp [h1], rfl⟩
  · go_enter Tryz.func105, Tryz.ntmps105
    go_wp2
    go_ret
    exact ⟨by simp [h1], rfl⟩
end Go.Proofs.YtgnhainfcfcodaaGreat
