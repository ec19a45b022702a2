import Derived.Test.YtifcnnonnocmmaaJnJ5
import Derived.Test.YtifcnnonnocmmaaJnJ6
import Derived.Test.YtifcnnonnocmmaaJnJ7
import Derived.Test.YtifcnnonnocmmaaJnJ2
import Derived.Test.YtifcnnonnocmmaaJnJ3
import Derived.Laws.CopyRow
import Derived.Laws.CopyOwn
set_option maxHeartbeats 40000000
set_option maxRecDepth 100000
set_option linter.unusedVariables false
namespace Go.Proofs.Ytifcnnonnocmmaa
open Go.RowKit Go.Shelf Go.Lib
attribute [local go_sem] Oper.semAt_some
structure Ev where
 k : Int
 nd : Int
 li : Int
 ro : Int
 ta : Int
 of : Int
 du : Int
 he : Nat
 un : Nat
def ecA (e : Ev) : Array Value := #[.int .i64 e.k, .int .i64 e.nd, .int .i64 e.li, .int .i64 e.ro, .int .i64 e.ta, .int .i64 e.of, .int .i64 e.du, .int .u32 (wd e.he 0 : Nat), .int .u32 (wd e.he 1 : Nat), .int .u32 (wd e.he 2 : Nat), .int .u32 (wd e.he 3 : Nat), .int .u32 (wd e.un 0 : Nat), .int .u32 (wd e.un 1 : Nat), .int .u32 (wd e.un 2 : Nat), .int .u32 (wd e.un 3 : Nat)]
def ec (e : Ev) : List Value := (ecA e).toList
def ecs (l : List Ev) : List Value := l.flatMap ec
def evV (e : Ev) : Value := .agg (ecA e)
def e0 : Ev := ⟨0, 0, 0, 0, 0, 0, 0, 0, 0⟩
theorem ec_len (e : Ev) : (ec e).length = 15 := rfl
theorem ecs_append (a b : List Ev) : ecs (a ++ b) = ecs a ++ ecs b := by simp [ecs]
theorem ecs_len : ∀ l : List Ev, (ecs l).length = l.length * 15
 | [] => rfl
 | x :: l => by
  have : ecs (x :: l) = ec x ++ ecs l := by simp [ecs]
  rw [this, List.length_append, ec_len, ecs_len l, List.length_cons]; omega
theorem ec_ones (e : Ev) : ∀ u ∈ ec e, u.oneCell' = true := by
 intro u hu
 simp only [ec, ecA, List.mem_cons, List.not_mem_nil, or_false] at hu
 rcases hu with h | h | h | h | h | h | h | h | h | h | h | h | h | h | h <;> subst h <;> rfl
theorem ecs_ones (l : List Ev) : ∀ u ∈ ecs l, u.oneCell' = true := by
 intro u hu
 simp only [ecs, List.mem_flatMap] at hu
 obtain ⟨e, _, he⟩ := hu
 exact ec_ones e u he
structure Nod where
 up : Bool
 life : Int
 tag : Int
 op : Int
 ask : Int
def nc (o : Nod) : List Value := [.bool o.up, .int .i64 o.life, .int .i64 o.tag, .int .i64 o.op, .int .i64 o.ask]
def n0 : Nod := ⟨false, 0, 0, 0, 0⟩
theorem fm_len {α : Type} (f : α → List Value) (c : Nat) (hf : ∀ x, (f x).length = c) : ∀ l : List α, (l.flatMap f).length = l.length * c
 | [] => by simp
 | x :: l => by rw [List.flatMap_cons, List.length_append, hf, fm_len f c hf l, List.length_cons, Nat.add_mul]; omega
theorem fm_get {α : Type} (f : α → List Value) (c : Nat) (hf : ∀ x, (f x).length = c) : ∀ (l : List α) (k j : Nat) (x : α), l[k]? = some x → j < c → (l.flatMap f)[k * c + j]? = (f x)[j]?
 | [], k, j, x, h, _ => by simp at h
 | y :: l, 0, j, x, h, hj => by
  simp at h
  subst h
  rw [List.flatMap_cons, Nat.zero_mul, Nat.zero_add, List.getElem?_append_left (by rw [hf]; exact hj)]
 | y :: l, k + 1, j, x, h, hj => by
  rw [List.flatMap_cons, List.getElem?_append_right (by rw [hf, Nat.add_mul]; omega), hf]
  have e : (k + 1) * c + j - c = k * c + j := by rw [Nat.add_mul]; omega
  rw [e]
  exact fm_get f c hf l k j x (by simpa using h) hj
theorem fm_set {α : Type} (f : α → List Value) (c : Nat) (hf : ∀ x, (f x).length = c) : ∀ (l : List α) (k j : Nat) (x y : α) (v : Value), l[k]? = some x → j < c → f y = (f x).set j v → (l.flatMap f).set (k * c + j) v = (l.set k y).flatMap f
 | [], k, j, x, y, v, h, _, _ => by simp at h
 | z :: l, 0, j, x, y, v, h, hj, he => by
  simp at h
  subst h
  rw [List.flatMap_cons, Nat.zero_mul, Nat.zero_add, List.set_append_left _ _ (by rw [hf]; exact hj), List.set_cons_zero, List.flatMap_cons, he]
 | z :: l, k + 1, j, x, y, v, h, hj, he => by
  rw [List.flatMap_cons, List.set_append_right _ _ (by rw [hf, Nat.add_mul]; omega), hf]
  have e : (k + 1) * c + j - c = k * c + j := by rw [Nat.add_mul]; omega
  rw [e, fm_set f c hf l k j x y v (by simpa using h) hj he, List.set_cons_succ, List.flatMap_cons]
theorem set_get {W : World} {b : Nat} {cs : Array Value} {t : TypeId} (k : Nat) (v : Value) (h : W.heap[b]? = some (.cells cs t (0, 0))) : (W.setCell ⟨b, k, none⟩ v).heap[b]? = some (.cells (cs.setIfInBounds k v) t (0, 0)) := by
 simp [World.setCell, Array.getElem?_modify, h]
def heC (need pl : Int) (g n : Nat) (c : Ev) (la : Int) : Array Value := #[.int .i64 need, .int .i64 pl, .slice (some ⟨g, 0, none⟩) n n, .int .i64 c.k, .int .i64 c.nd, .int .i64 c.li, .int .i64 c.ro, .int .i64 c.ta, .int .i64 c.of, .int .i64 c.du, .int .u32 (wd c.he 0 : Nat), .int .u32 (wd c.he 1 : Nat), .int .u32 (wd c.he 2 : Nat), .int .u32 (wd c.he 3 : Nat), .int .u32 (wd c.un 0 : Nat), .int .u32 (wd c.un 1 : Nat), .int .u32 (wd c.un 2 : Nat), .int .u32 (wd c.un 3 : Nat), .int .i64 la]
structure Hs where
 nds : List Nod
 c : Ev
 la : Int
structure He (W : World) (p g : Nat) (need pl : Int) (s : Hs) : Prop where
 box : W.heap[p]? = some (.cells (heC need pl g s.nds.length s.c s.la) 43 (0, 0))
 nod : W.heap[g]? = some (.cells (s.nds.flatMap nc).toArray 65 (0, 0))
 ne : p ≠ g
section
variable {W V : World} {p g : Nat} {need pl : Int} {s : Hs}
theorem He.carry (h : He W p g need pl s) (hb : Below W.heap.size W V) : He V p g need pl s := ⟨(hb.block _ (zla h.box)).trans h.box, (hb.block _ (zla h.nod)).trans h.nod, h.ne⟩
theorem He.cn (h : He W p g need pl s) {i j : Nat} {o : Nod} {v : Value} (hi : s.nds[i]? = some o) (hj : j < 5) (hv : (nc o)[j]? = some v) : W.cell? ⟨g, i * 5 + j, none⟩ = some v := by
 rw [zca h.nod, ← hv, ← fm_get nc 5 (fun _ => rfl) s.nds i j o hi hj]
 simp
theorem Tn.put (W : World) (p g j : Nat) (v : Value) : Tn p (some g) (some g) W (W.setCell ⟨p, j, none⟩ v) := ⟨rfl, rfl, rfl, by simp, fun k _ h1 _ => Below.heap_setCell _ _ _ _ h1, .inl rfl⟩
theorem Tn.putg (W : World) (p g j : Nat) (v : Value) : Tn p (some g) (some g) W (W.setCell ⟨g, j, none⟩ v) := ⟨rfl, rfl, rfl, by simp, fun k _ _ h2 => Below.heap_setCell _ _ _ _ (fun e => h2 (by rw [e])), .inl rfl⟩
theorem He.at (h : He W p g need pl s) (v : Int) : He (W.setCell ⟨p, 1, none⟩ (.int .i64 v)) p g need v s := by
 refine ⟨?_, (Below.heap_setCell _ _ _ _ (fun e => h.ne e.symm)).trans h.nod, h.ne⟩
 have := set_get 1 (.int .i64 v) h.box
 simpa [heC] using this
theorem He.last (h : He W p g need pl s) (v : Int) : He (W.setCell ⟨p, 18, none⟩ (.int .i64 v)) p g need pl { s with la := v } := by
 refine ⟨?_, (Below.heap_setCell _ _ _ _ (fun e => h.ne e.symm)).trans h.nod, h.ne⟩
 have := set_get 18 (.int .i64 v) h.box
 simpa [heC] using this
theorem He.nput (h : He W p g need pl s) {i j : Nat} {o o' : Nod} {v : Value} (hi : s.nds[i]? = some o) (hj : j < 5) (hv : nc o' = (nc o).set j v) : He (W.setCell ⟨g, i * 5 + j, none⟩ v) p g need pl { s with nds := s.nds.set i o' } := by
 refine ⟨?_, ?_, h.ne⟩
 · rw [Below.heap_setCell _ _ _ _ h.ne]
   simpa using h.box
 · have := set_get (i * 5 + j) v h.nod
   rw [List.setIfInBounds_toArray, fm_set nc 5 (fun _ => rfl) s.nds i j o o' v hi hj hv] at this
   exact this
theorem He.frz (h : He W p g need pl s) (j : Nat) : W.frozen? ⟨p, j, none⟩ = false := zta h.box j
theorem He.frzg (h : He W p g need pl s) (j : Nat) : W.frozen? ⟨g, j, none⟩ = false := zta h.nod j
end
def off (pl : Int) : List PanicEntry := [{ v := .iface 37 (.agg #[.int .i64 pl]), recovered := false }]
theorem faE0 (w : World) (b o : Nat) : (Instr.fieldAt 34 (.pointer (some ⟨b, o, none⟩)) 0).run Try.prog w = .ok (.pointer (some ⟨b, o, none⟩)) w := by go_simp
theorem faE1 (w : World) (b o : Nat) : (Instr.fieldAt 34 (.pointer (some ⟨b, o, none⟩)) 1).run Try.prog w = .ok (.pointer (some ⟨b, o + 1, none⟩)) w := by go_simp
theorem faE2 (w : World) (b o : Nat) : (Instr.fieldAt 34 (.pointer (some ⟨b, o, none⟩)) 2).run Try.prog w = .ok (.pointer (some ⟨b, o + 2, none⟩)) w := by go_simp
theorem faE3 (w : World) (b o : Nat) : (Instr.fieldAt 34 (.pointer (some ⟨b, o, none⟩)) 3).run Try.prog w = .ok (.pointer (some ⟨b, o + 3, none⟩)) w := by go_simp
theorem faE4 (w : World) (b o : Nat) : (Instr.fieldAt 34 (.pointer (some ⟨b, o, none⟩)) 4).run Try.prog w = .ok (.pointer (some ⟨b, o + 4, none⟩)) w := by go_simp
theorem faE5 (w : World) (b o : Nat) : (Instr.fieldAt 34 (.pointer (some ⟨b, o, none⟩)) 5).run Try.prog w = .ok (.pointer (some ⟨b, o + 5, none⟩)) w := by go_simp
theorem faE6 (w : World) (b o : Nat) : (Instr.fieldAt 34 (.pointer (some ⟨b, o, none⟩)) 6).run Try.prog w = .ok (.pointer (some ⟨b, o + 6, none⟩)) w := by go_simp
theorem faE7 (w : World) (b o : Nat) : (Instr.fieldAt 34 (.pointer (some ⟨b, o, none⟩)) 7).run Try.prog w = .ok (.pointer (some ⟨b, o + 7, none⟩)) w := by go_simp
theorem faE8 (w : World) (b o : Nat) : (Instr.fieldAt 34 (.pointer (some ⟨b, o, none⟩)) 8).run Try.prog w = .ok (.pointer (some ⟨b, o + 11, none⟩)) w := by go_simp
theorem faH0 (w : World) (b o : Nat) : (Instr.fieldAt 43 (.pointer (some ⟨b, o, none⟩)) 0).run Try.prog w = .ok (.pointer (some ⟨b, o, none⟩)) w := by go_simp
theorem faH1 (w : World) (b o : Nat) : (Instr.fieldAt 43 (.pointer (some ⟨b, o, none⟩)) 1).run Try.prog w = .ok (.pointer (some ⟨b, o + 1, none⟩)) w := by go_simp
theorem faH2 (w : World) (b o : Nat) : (Instr.fieldAt 43 (.pointer (some ⟨b, o, none⟩)) 2).run Try.prog w = .ok (.pointer (some ⟨b, o + 2, none⟩)) w := by go_simp
theorem faH3 (w : World) (b o : Nat) : (Instr.fieldAt 43 (.pointer (some ⟨b, o, none⟩)) 3).run Try.prog w = .ok (.pointer (some ⟨b, o + 3, none⟩)) w := by go_simp
theorem faR0 (w : World) (b o : Nat) : (Instr.fieldAt 41 (.pointer (some ⟨b, o, none⟩)) 0).run Try.prog w = .ok (.pointer (some ⟨b, o, none⟩)) w := by go_simp
theorem faR1 (w : World) (b o : Nat) : (Instr.fieldAt 41 (.pointer (some ⟨b, o, none⟩)) 1).run Try.prog w = .ok (.pointer (some ⟨b, o + 15, none⟩)) w := by go_simp
theorem faN0 (w : World) (b o : Nat) : (Instr.fieldAt 65 (.pointer (some ⟨b, o, none⟩)) 0).run Try.prog w = .ok (.pointer (some ⟨b, o, none⟩)) w := by go_simp
theorem faN1 (w : World) (b o : Nat) : (Instr.fieldAt 65 (.pointer (some ⟨b, o, none⟩)) 1).run Try.prog w = .ok (.pointer (some ⟨b, o + 1, none⟩)) w := by go_simp
theorem faN2 (w : World) (b o : Nat) : (Instr.fieldAt 65 (.pointer (some ⟨b, o, none⟩)) 2).run Try.prog w = .ok (.pointer (some ⟨b, o + 2, none⟩)) w := by go_simp
theorem faN3 (w : World) (b o : Nat) : (Instr.fieldAt 65 (.pointer (some ⟨b, o, none⟩)) 3).run Try.prog w = .ok (.pointer (some ⟨b, o + 3, none⟩)) w := by go_simp
theorem faN4 (w : World) (b o : Nat) : (Instr.fieldAt 65 (.pointer (some ⟨b, o, none⟩)) 4).run Try.prog w = .ok (.pointer (some ⟨b, o + 4, none⟩)) w := by go_simp
theorem load_in {W : World} {B o : Nat} {z : Int} (h : W.cell? ⟨B, o, none⟩ = some (.int .i64 z)) : (Instr.loadAt 3 (.pointer (some ⟨B, o, none⟩))).run Try.prog W = .ok (.int .i64 z) W := by go_simp
theorem load_bo {W : World} {B o : Nat} {z : Bool} (h : W.cell? ⟨B, o, none⟩ = some (.bool z)) : (Instr.loadAt 4 (.pointer (some ⟨B, o, none⟩))).run Try.prog W = .ok (.bool z) W := by go_simp
theorem load_ns {W : World} {B o : Nat} {a : Option Addr} {n c : Nat} (h : W.cell? ⟨B, o, none⟩ = some (.slice a n c)) : (Instr.loadAt 39 (.pointer (some ⟨B, o, none⟩))).run Try.prog W = .ok (.slice a n c) W := by go_simp
theorem load_se {W : World} {B o : Nat} {N : Nat} (h0 : W.cell? ⟨B, o, none⟩ = some (.int .u32 (wd N 0 : Nat))) (h1 : W.cell? ⟨B, o + 1, none⟩ = some (.int .u32 (wd N 1 : Nat))) (h2 : W.cell? ⟨B, o + 2, none⟩ = some (.int .u32 (wd N 2 : Nat))) (h3 : W.cell? ⟨B, o + 3, none⟩ = some (.int .u32 (wd N 3 : Nat))) : (Instr.loadAt 32 (.pointer (some ⟨B, o, none⟩))).run Try.prog W = .ok (sv N) W := by
 unfold sv
 go_simp
theorem bi_lenN (t : TypeId) (bs : Array Bool) (a : Option Addr) (n c : Nat) (w : World) : (builtin .len #[39] t bs #[.slice a n c]).run Try.prog w = .ok (.value (.int .i64 (n : Int))) w := by
 show ((do pure (.value (← Builtin.len_ #[39] t #[.slice a n c]))) : Sem Next).run Try.prog w = _
 go_simp
theorem idx_n (b n k : Nat) (hk : k < n) (w : World) : (Instr.indexAt 39 (.slice (some ⟨b, 0, none⟩) n n) (.int .i64 (k : Int))).run Try.prog w = .ok (.pointer (some ⟨b, k * 5, none⟩)) w := by
 have h1 : (k : Int) < (n : Int) := by omega
 go_simp
theorem must_yes (p : Nat) (w : World) : Calls Try.prog 16 #[.pointer (some ⟨p, 0, none⟩), .bool true] w fun e w' => e = .returned (.tuple #[]) ∧ w' = w := by
 go_enter Try.func16, Try.ntmps16
 go_wp2
 go_end0
 exact ⟨rfl, rfl⟩
theorem must_no {p g : Nat} {need pl : Int} {s : Hs} {w : World} (h : He w p g need pl s) : Calls Try.prog 16 #[.pointer (some ⟨p, 0, none⟩), .bool false] w fun e w' => e = .panicked (off pl) ∧ w' = w := by
 have c1 : w.cell? ⟨p, 1, none⟩ = some (.int .i64 pl) := (zca h.box 1).trans rfl
 go_enter Try.func16, Try.ntmps16
 go_wp2
 exact ⟨rfl, rfl, rfl⟩
theorem isBelow_any (a b : Int) (w : World) : Calls Try.prog 28 #[.int .i64 a, .int .i64 b] w fun e w' => e = .returned (.bool (decide (0 ≤ a ∧ a < b))) ∧ w' = w := by
 by_cases h1 : 0 ≤ a
 · by_cases h2 : a < b
   · go_enter Try.func28, Try.ntmps28
     go_wp2
     go_ret
     exact ⟨by simp; omega, rfl⟩
   · go_enter Try.func28, Try.ntmps28
     go_wp2
     go_ret
     exact ⟨by simp; omega, rfl⟩
 · go_enter Try.func28, Try.ntmps28
   go_wp2
   go_ret
   exact ⟨by simp; omega, rfl⟩
theorem isSize_any (a : Int) (w : World) : Calls Try.prog 9 #[.int .i64 a] w fun e w' => e = .returned (.bool (decide (1 ≤ a ∧ a ≤ 100))) ∧ w' = w := by
 by_cases h1 : 1 ≤ a
 · by_cases h2 : a ≤ 100
   · go_enter Try.func9, Try.ntmps9
     go_wp2
     go_ret
     exact ⟨by simp; omega, rfl⟩
   · go_enter Try.func9, Try.ntmps9
     go_wp2
     go_ret
     exact ⟨by simp; omega, rfl⟩
 · go_enter Try.func9, Try.ntmps9
   go_wp2
   go_ret
   exact ⟨by simp; omega, rfl⟩
theorem inRow_any {p g : Nat} {need pl : Int} {s : Hs} {w : World} (h : He w p g need pl s) : Calls Try.prog 34 #[.pointer (some ⟨p, 0, none⟩)] w fun e w' => e = .returned (.bool (decide (s.c.k = 3))) ∧ w' = w := by
 have c1 : w.cell? ⟨p, 3, none⟩ = some (.int .i64 s.c.k) := (zca h.box 3).trans rfl
 by_cases h1 : s.c.k = 3
 · go_enter Try.func34, Try.ntmps34
   go_wp2
   go_ret
   exact ⟨by simp [h1], rfl⟩
 · go_enter Try.func34, Try.ntmps34
   go_wp2
   go_ret
   exact ⟨by simp [h1], rfl⟩
end Go.Proofs.Ytifcnnonnocmmaa
namespace Go.Proofs.Ytifcnnonnocmmaa
open Go.RowKit Go.Shelf Go.Lib
attribute [local go_sem] Oper.semAt_some
structure JB (w : World) (p g q : Nat) (need pl : Int) (s : Hs) (x : Ev) (V : World) : Prop where
 he : He V p g need pl s
 bx : V.heap[q]? = some (.cells (ecA x) 34 (0, 0))
 tn : Tn p (some g) (some g) w V
theorem JB.carry {w V V' : World} {p g q : Nat} {need pl : Int} {s : Hs} {x : Ev} (h : JB w p g q need pl s x V) (hb : Below V.heap.size V V') : JB w p g q need pl s x V' := ⟨h.he.carry hb, (hb.block _ (zla h.bx)).trans h.bx, h.tn.trans (Tn.of _ _ hb)⟩
theorem bx_sets {V : World} {q : Nat} {x : Ev} (h : V.heap[q]? = some (.cells (ecA x) 34 (0, 0))) : V.cell? ⟨q, 7, none⟩ = some (.int .u32 (wd x.he 0 : Nat)) ∧ V.cell? ⟨q, 8, none⟩ = some (.int .u32 (wd x.he 1 : Nat)) ∧ V.cell? ⟨q, 9, none⟩ = some (.int .u32 (wd x.he 2 : Nat)) ∧ V.cell? ⟨q, 10, none⟩ = some (.int .u32 (wd x.he 3 : Nat)) ∧ V.cell? ⟨q, 11, none⟩ = some (.int .u32 (wd x.un 0 : Nat)) ∧ V.cell? ⟨q, 12, none⟩ = some (.int .u32 (wd x.un 1 : Nat)) ∧ V.cell? ⟨q, 13, none⟩ = some (.int .u32 (wd x.un 2 : Nat)) ∧ V.cell? ⟨q, 14, none⟩ = some (.int .u32 (wd x.un 3 : Nat)) :=
 ⟨(zca h 7).trans rfl, (zca h 8).trans rfl, (zca h 9).trans rfl, (zca h 10).trans rfl, (zca h 11).trans rfl, (zca h 12).trans rfl, (zca h 13).trans rfl, (zca h 14).trans rfl⟩
theorem bx_ints {V : World} {q : Nat} {x : Ev} (h : V.heap[q]? = some (.cells (ecA x) 34 (0, 0))) : V.cell? ⟨q, 0, none⟩ = some (.int .i64 x.k) ∧ V.cell? ⟨q, 1, none⟩ = some (.int .i64 x.nd) ∧ V.cell? ⟨q, 2, none⟩ = some (.int .i64 x.li) ∧ V.cell? ⟨q, 3, none⟩ = some (.int .i64 x.ro) ∧ V.cell? ⟨q, 4, none⟩ = some (.int .i64 x.ta) ∧ V.cell? ⟨q, 5, none⟩ = some (.int .i64 x.of) ∧ V.cell? ⟨q, 6, none⟩ = some (.int .i64 x.du) :=
 ⟨(zca h 0).trans rfl, (zca h 1).trans rfl, (zca h 2).trans rfl, (zca h 3).trans rfl, (zca h 4).trans rfl, (zca h 5).trans rfl, (zca h 6).trans rfl⟩
theorem JB.new {w : World} {p g : Nat} {need pl : Int} {s : Hs} (h : He w p g need pl s) (x : Ev) : JB w p g w.heap.size need pl s x (w.alloc (.cells (ecA x) 34)) := ⟨h.carry (al1' _ _), zna rfl, Tn.of _ _ (al1' _ _)⟩
def Lw (p g : Nat) (need pl : Int) (w : World) (r : Option Hs) (e : Ending) (V : World) : Prop :=
 match r with
 | some s => e = .returned (.tuple #[]) ∧ He V p g need pl s ∧ Tn p (some g) (some g) w V
 | none => e = .panicked (off pl) ∧ Tn p (some g) (some g) w V
theorem lw_no {p g : Nat} {need pl : Int} {w V : World} {r : Option Hs} (h : r = none) (ht : Tn p (some g) (some g) w V) : Lw p g need pl w r (.panicked (off pl)) V := by
 subst h
 exact ⟨rfl, ht⟩
theorem lw_yes {p g : Nat} {need pl : Int} {w V : World} {r : Option Hs} {s : Hs} (h : r = some s) (hh : He V p g need pl s) (ht : Tn p (some g) (some g) w V) : Lw p g need pl w r (.returned (.tuple #[])) V := by
 subst h
 exact ⟨rfl, hh, ht⟩
theorem He.nput2 {W : World} {p b m j : Nat} {need pl : Int} {s : Hs} {u u' : Nod} {v : Value} (h : He W p b need pl { s with nds := s.nds.set m u }) (hm : m < s.nds.length) (hj : j < 5) (hv : nc u' = (nc u).set j v) : He (W.setCell ⟨b, m * 5 + j, none⟩ v) p b need pl { s with nds := s.nds.set m u' } := by
 have h1 := h.nput (i := m) (o := u) (o' := u') (by simp [hm]) hj hv
 simpa using h1
theorem st_in {W : World} {B o : Nat} {z v : Int} (h : W.cell? ⟨B, o, none⟩ = some (.int .i64 z)) (hf : W.frozen? ⟨B, o, none⟩ = false) : (Instr.storeAt 3 (.pointer (some ⟨B, o, none⟩)) (.int .i64 v)).run Try.prog W = .ok () (W.setCell ⟨B, o, none⟩ (.int .i64 v)) := by go_simp
theorem st_bo {W : World} {B o : Nat} {z v : Bool} (h : W.cell? ⟨B, o, none⟩ = some (.bool z)) (hf : W.frozen? ⟨B, o, none⟩ = false) : (Instr.storeAt 4 (.pointer (some ⟨B, o, none⟩)) (.bool v)).run Try.prog W = .ok () (W.setCell ⟨B, o, none⟩ (.bool v)) := by go_simp
theorem set_self {α : Type} {l : List α} {m : Nat} {u : α} (h : l[m]? = some u) : l.set m u = l := by
 apply List.ext_getElem?
 intro k
 rw [List.getElem?_set]
 split
 · subst m
   split
   · exact h.symm
   · rw [List.getElem?_eq_none (by omega)]
 · rfl
def law1 (s : Hs) (x : Ev) (m : Nat) (u : Nod) : Option Hs :=
 if ((!u.up && decide (x.li > u.life)) && (decide (x.ro > u.ask) && decide (x.ro ≤ 1099511627775))) && (decide (x.ta ≥ u.tag) && decide (x.ta ≤ 1048576)) then some { s with nds := s.nds.set m { u with up := true, life := x.li, tag := x.ta, op := x.ro } } else none
def law2 (s : Hs) (x : Ev) (m : Nat) (u : Nod) : Option Hs :=
 if decide (s.c.k = 3) then (if decide (x.ro > s.c.ro) && decide (x.ro ≤ 1099511627775) then some { nds := s.nds.set m { u with op := x.ro, ask := x.ro }, c := e0, la := 0 } else none) else if x.ro == u.op then some { s with nds := s.nds.set m { u with ask := x.ro } } else none
def law3 (need : Int) (s : Hs) (x : Ev) (u : Nod) : Option Hs :=
 if (x.ro == u.op) && ((wthB x.he (s.nds.length : Int) && (((cnt (cln x.he) : Nat) : Int) == need) && hasB x.he x.nd) && (wthB x.un (s.nds.length : Int) && decide (cln (dif x.he x.un) = 0))) then some { s with c := x, la := -1 } else none
def law4 (s : Hs) (x : Ev) : Option Hs :=
 if (decide (0 ≤ x.of ∧ x.of < (s.nds.length : Int)) && decide (x.of > s.la) && !hasB s.c.un x.of) && (decide (x.ta ≥ 0) && decide (x.ta ≤ 1048576) && (x.ro == s.c.ro)) then some { s with la := x.of } else none
def law5 (s : Hs) (x : Ev) (m : Nat) (u : Nod) : Option Hs :=
 if (decide (x.ta > u.tag) && decide (x.du ≥ x.ta)) && decide (x.du ≤ 1048576) then some { s with nds := s.nds.set m { u with tag := x.ta } } else none
def law6 (s : Hs) (_x : Ev) (m : Nat) (u : Nod) : Option Hs := some { s with nds := s.nds.set m { u with up := false } }
theorem hqb {V : World} {p b q : Nat} {need pl : Int} {s : Hs} {x : Ev} (h : He V p b need pl s) (hq : V.heap[q]? = some (.cells (ecA x) 34 (0, 0))) : q ≠ b := by
 rintro rfl
 have := h.nod.symm.trans hq
 simp at this
theorem hqp {V : World} {p b q : Nat} {need pl : Int} {s : Hs} {x : Ev} (h : He V p b need pl s) (hq : V.heap[q]? = some (.cells (ecA x) 34 (0, 0))) : q ≠ p := by
 rintro rfl
 have := h.box.symm.trans hq
 simp at this
theorem defend_any {w : World} {p b : Nat} {need pl : Int} {s : Hs} {m : Nat} {u : Nod} {x : Ev} (h : He w p b need pl s) (hm : s.nds[m]? = some u) (hx : x.nd = (m : Int)) : Calls Try.prog 26 #[.pointer (some ⟨p, 0, none⟩), evV x] w (Lw p b need pl w (law5 s x m u)) := by
 have hmx : Try.prog.follows .mixedOrders = true := by kernel_rfl
 have hml : m < s.nds.length := (List.getElem?_eq_some_iff.1 hm).1
 have hJ0 := JB.new h x
 have HX : Hid (x.nd = (m : Int)) := hx
 clear hx
 unfold evV ecA
 go_enter Try.func26, Try.ntmps26
 go_wp2
 rename_i hK
 refine wp_region_any hmx ?_
 refine zwp (fun i__ => ([(.pointer (some ⟨p, 0, none⟩)), (.pointer (some ⟨p, 0, none⟩)), (.pointer (some ⟨p, 2, none⟩)), (.slice (some ⟨b, 0, none⟩) s.nds.length s.nds.length), (.pointer (some ⟨w.heap.size, 1, none⟩)), (.int .i64 x.nd), (.pointer (some ⟨b, m * 5, none⟩)), (.pointer (some ⟨b, m * 5, none⟩))] : List Value).getD i__ undef) (fun V => JB w p b w.heap.size need pl s x V) (by kernel_rfl) (hJ0.carry (Below.refl _ _).drew) ?_ ?_
 · refine (sqc ?_ (sqc ?_ (sqc ?_ (sqc ?_ (sqc ?_ (sqc ?_ (sqc ?_ (sqc ?_ trivial))))))))
   · exact zmv rfl trivial _ rfl (by kernel_rfl)
   · exact znc rfl trivial _ _ _ rfl rfl rfl
   · exact zfa rfl trivial _ _ _ _ rfl rfl (fun w hw => faH2 w _ _)
   · exact zld rfl trivial _ _ _ rfl rfl (fun w hw => load_ns ((zca hw.he.box 2).trans rfl))
   · exact zfa rfl trivial _ _ _ _ rfl rfl (fun w hw => faE1 w _ _)
   · exact zld rfl trivial _ _ _ rfl rfl (fun w hw => load_in ((zca hw.bx 1).trans rfl))
   · exact zia rfl trivial _ _ _ _ _ rfl rfl rfl (fun w hw => by rw [HX.out]; exact idx_n b _ m hml w)
   · exact zas rfl trivial _ rfl (by kernel_rfl) (fun _ h => h)
 intro W hW
 first | refine hK _ _ ?_ | refine (‹∀ (a : Act) (w : World), Code.wp Try.prog _ _ a w → _›) _ _ ?_ | skip
 simp only [finL, List.getD_cons_zero, List.getD_cons_succ, Nat.zero_add, Nat.reduceAdd, List.setIfInBounds_toArray, List.set_cons_zero, List.set_cons_succ]
 obtain ⟨W1, rfl⟩ : ∃ V, V = W := ⟨_, rfl⟩
 have hJ1 := hW
 clear hW hK
 go_wp2
 rename_i hK
 cases h2_0 : decide (x.ta > u.tag) with
 | false =>
   refine wp_region_any hmx ?_
   refine wpAny_dies 20 (fun i__ => ([(.pointer (some ⟨p, 0, none⟩)), (.pointer (some ⟨w.heap.size, 4, none⟩)), (.int .i64 x.ta), (.pointer (some ⟨b, m * 5, none⟩)), (.pointer (some ⟨b, m * 5, none⟩)), (.pointer (some ⟨b, m * 5 + 2, none⟩)), (.int .i64 u.tag), (.bool false), (.bool false), undef, undef, undef, undef, undef, (.bool false), (.bool false), undef, undef, undef, (.bool false), undef] : List Value).getD i__ undef) (fun V => JB w p b w.heap.size need pl s x V) rfl (by kernel_rfl) (hJ1.carry (Below.refl _ _).drew) ?_ ?_
   · refine (sqc ?_ (sqc ?_ (sqc ?_ (sqc ?_ (sqc ?_ (sqc ?_ (sqc ?_ (sqc ?_ (sqc ?_ (sqc ?_ (sqc ?_ (sqc ?_ (sqc ?_ (sqc ?_ (sqc ?_ (sqc ?_ (sqc ?_ (sqc ?_ (sqc ?_ (sqc ?_ trivial))))))))))))))))))))
     · exact zmv rfl trivial _ rfl (by kernel_rfl)
     · exact zfa rfl trivial _ _ _ _ rfl rfl (fun w hw => faE4 w _ _)
     · exact zld rfl trivial _ _ _ rfl rfl (fun w hw => load_in ((zca hw.bx 4).trans rfl))
     · exact zmv rfl trivial _ rfl (by kernel_rfl)
     · exact znc rfl trivial _ _ _ rfl rfl rfl
     · exact zfa rfl trivial _ _ _ _ rfl rfl (fun w hw => faN2 w _ _)
     · exact zld rfl trivial _ _ _ rfl rfl (fun w hw => load_in (hw.he.cn hm (by decide) (j := 2) rfl))
     · exact zbo rfl trivial _ _ _ _ _ _ _ rfl rfl rfl (fun w hw => by rw [← h2_0]; exact bin_gtr _ _ _)
     · exact zmv rfl trivial _ rfl (by kernel_rfl)
     · exact zsk rfl 8 true 20 (.bool false) rfl rfl (by kernel_rfl) (by intro h; cases h) rfl
     · exact zsk rfl 8 true 20 (.bool false) rfl rfl (by kernel_rfl) (by intro h; cases h) rfl
     · exact zsk rfl 8 true 20 (.bool false) rfl rfl (by kernel_rfl) (by intro h; cases h) rfl
     · exact zsk rfl 8 true 20 (.bool false) rfl rfl (by kernel_rfl) (by intro h; cases h) rfl
     · exact zsk rfl 8 true 20 (.bool false) rfl rfl (by kernel_rfl) (by intro h; cases h) rfl
     · exact step_pick rfl trivial _ _ _ false rfl (by kernel_rfl) (by kernel_rfl)
     · exact zmv rfl trivial _ rfl (by kernel_rfl)
     · exact zsk rfl 15 true 27 (.bool false) rfl rfl (by kernel_rfl) (by intro h; cases h) rfl
     · exact zsk rfl 15 true 27 (.bool false) rfl rfl (by kernel_rfl) (by intro h; cases h) rfl
     · exact zsk rfl 15 true 27 (.bool false) rfl rfl (by kernel_rfl) (by intro h; cases h) rfl
     · exact step_pick rfl trivial _ _ _ false rfl (by kernel_rfl) (by kernel_rfl)
   · intro o ho
     cases ho
     exact call_dies rfl trivial 16 _ _ [(.pointer (some ⟨p, 0, none⟩)), (.bool false)] rfl (by kernel_rfl) (enters_of Try.func16 (by kernel_rfl) rfl) (off pl) (J2 := fun V => Tn p (some b) (some b) w V) (fun w hw => (must_no hw.he).mono (by rintro e w' ⟨rfl, rfl⟩; exact ⟨rfl, hw.tn⟩)) (fun a w hd hb => ⟨hd, lw_no (by simp only [law5, h2_0]; rfl) hb⟩)
 | true =>
   cases h2_1 : decide (x.du ≥ x.ta) with
   | false =>
     refine wp_region_any hmx ?_
     refine wpAny_dies 20 (fun i__ => ([(.pointer (some ⟨p, 0, none⟩)), (.pointer (some ⟨w.heap.size, 4, none⟩)), (.int .i64 x.ta), (.pointer (some ⟨b, m * 5, none⟩)), (.pointer (some ⟨b, m * 5, none⟩)), (.pointer (some ⟨b, m * 5 + 2, none⟩)), (.int .i64 u.tag), (.bool true), (.bool true), (.pointer (some ⟨w.heap.size, 6, none⟩)), (.int .i64 x.du), (.pointer (some ⟨w.heap.size, 4, none⟩)), (.int .i64 x.ta), (.bool false), (.bool false), (.bool false), undef, undef, undef, (.bool false), undef] : List Value).getD i__ undef) (fun V => JB w p b w.heap.size need pl s x V) rfl (by kernel_rfl) (hJ1.carry (Below.refl _ _).drew) ?_ ?_
     · refine (sqc ?_ (sqc ?_ (sqc ?_ (sqc ?_ (sqc ?_ (sqc ?_ (sqc ?_ (sqc ?_ (sqc ?_ (sqc ?_ (sqc ?_ (sqc ?_ (sqc ?_ (sqc ?_ (sqc ?_ (sqc ?_ (sqc ?_ (sqc ?_ (sqc ?_ (sqc ?_ trivial))))))))))))))))))))
       · exact zmv rfl trivial _ rfl (by kernel_rfl)
       · exact zfa rfl trivial _ _ _ _ rfl rfl (fun w hw => faE4 w _ _)
       · exact zld rfl trivial _ _ _ rfl rfl (fun w hw => load_in ((zca hw.bx 4).trans rfl))
       · exact zmv rfl trivial _ rfl (by kernel_rfl)
       · exact znc rfl trivial _ _ _ rfl rfl rfl
       · exact zfa rfl trivial _ _ _ _ rfl rfl (fun w hw => faN2 w _ _)
       · exact zld rfl trivial _ _ _ rfl rfl (fun w hw => load_in (hw.he.cn hm (by decide) (j := 2) rfl))
       · exact zbo rfl trivial _ _ _ _ _ _ _ rfl rfl rfl (fun w hw => by rw [← h2_0]; exact bin_gtr _ _ _)
       · exact zmv rfl trivial _ rfl (by kernel_rfl)
       · exact zfa rfl ⟨_, rfl, by kernel_rfl⟩ _ _ _ _ rfl rfl (fun w hw => faE6 w _ _)
       · exact zld rfl ⟨_, rfl, by kernel_rfl⟩ _ _ _ rfl rfl (fun w hw => load_in ((zca hw.bx 6).trans rfl))
       · exact zfa rfl ⟨_, rfl, by kernel_rfl⟩ _ _ _ _ rfl rfl (fun w hw => faE4 w _ _)
       · exact zld rfl ⟨_, rfl, by kernel_rfl⟩ _ _ _ rfl rfl (fun w hw => load_in ((zca hw.bx 4).trans rfl))
       · exact zbo rfl ⟨_, rfl, by kernel_rfl⟩ _ _ _ _ _ _ _ rfl rfl rfl (fun w hw => by rw [← h2_1]; exact bin_geq _ _ _)
       · exact step_pick rfl trivial _ _ _ true rfl (by kernel_rfl) (by kernel_rfl)
       · exact zmv rfl trivial _ rfl (by kernel_rfl)
       · exact zsk rfl 15 true 27 (.bool false) rfl rfl (by kernel_rfl) (by intro h; cases h) rfl
       · exact zsk rfl 15 true 27 (.bool false) rfl rfl (by kernel_rfl) (by intro h; cases h) rfl
       · exact zsk rfl 15 true 27 (.bool false) rfl rfl (by kernel_rfl) (by intro h; cases h) rfl
       · exact step_pick rfl trivial _ _ _ false rfl (by kernel_rfl) (by kernel_rfl)
     · intro o ho
       cases ho
       exact call_dies rfl trivial 16 _ _ [(.pointer (some ⟨p, 0, none⟩)), (.bool false)] rfl (by kernel_rfl) (enters_of Try.func16 (by kernel_rfl) rfl) (off pl) (J2 := fun V => Tn p (some b) (some b) w V) (fun w hw => (must_no hw.he).mono (by rintro e w' ⟨rfl, rfl⟩; exact ⟨rfl, hw.tn⟩)) (fun a w hd hb => ⟨hd, lw_no (by simp only [law5, h2_0, h2_1]; rfl) hb⟩)
   | true =>
     cases h2_2 : decide (x.du ≤ 1048576) with
     | false =>
       refine wp_region_any hmx ?_
       refine wpAny_dies 20 (fun i__ => ([(.pointer (some ⟨p, 0, none⟩)), (.pointer (some ⟨w.heap.size, 4, none⟩)), (.int .i64 x.ta), (.pointer (some ⟨b, m * 5, none⟩)), (.pointer (some ⟨b, m * 5, none⟩)), (.pointer (some ⟨b, m * 5 + 2, none⟩)), (.int .i64 u.tag), (.bool true), (.bool true), (.pointer (some ⟨w.heap.size, 6, none⟩)), (.int .i64 x.du), (.pointer (some ⟨w.heap.size, 4, none⟩)), (.int .i64 x.ta), (.bool true), (.bool true), (.bool true), (.pointer (some ⟨w.heap.size, 6, none⟩)), (.int .i64 x.du), (.bool false), (.bool false), undef] : List Value).getD i__ undef) (fun V => JB w p b w.heap.size need pl s x V) rfl (by kernel_rfl) (hJ1.carry (Below.refl _ _).drew) ?_ ?_
       · refine (sqc ?_ (sqc ?_ (sqc ?_ (sqc ?_ (sqc ?_ (sqc ?_ (sqc ?_ (sqc ?_ (sqc ?_ (sqc ?_ (sqc ?_ (sqc ?_ (sqc ?_ (sqc ?_ (sqc ?_ (sqc ?_ (sqc ?_ (sqc ?_ (sqc ?_ (sqc ?_ trivial))))))))))))))))))))
         · exact zmv rfl trivial _ rfl (by kernel_rfl)
         · exact zfa rfl trivial _ _ _ _ rfl rfl (fun w hw => faE4 w _ _)
         · exact zld rfl trivial _ _ _ rfl rfl (fun w hw => load_in ((zca hw.bx 4).trans rfl))
         · exact zmv rfl trivial _ rfl (by kernel_rfl)
         · exact znc rfl trivial _ _ _ rfl rfl rfl
         · exact zfa rfl trivial _ _ _ _ rfl rfl (fun w hw => faN2 w _ _)
         · exact zld rfl trivial _ _ _ rfl rfl (fun w hw => load_in (hw.he.cn hm (by decide) (j := 2) rfl))
         · exact zbo rfl trivial _ _ _ _ _ _ _ rfl rfl rfl (fun w hw => by rw [← h2_0]; exact bin_gtr _ _ _)
         · exact zmv rfl trivial _ rfl (by kernel_rfl)
         · exact zfa rfl ⟨_, rfl, by kernel_rfl⟩ _ _ _ _ rfl rfl (fun w hw => faE6 w _ _)
         · exact zld rfl ⟨_, rfl, by kernel_rfl⟩ _ _ _ rfl rfl (fun w hw => load_in ((zca hw.bx 6).trans rfl))
         · exact zfa rfl ⟨_, rfl, by kernel_rfl⟩ _ _ _ _ rfl rfl (fun w hw => faE4 w _ _)
         · exact zld rfl ⟨_, rfl, by kernel_rfl⟩ _ _ _ rfl rfl (fun w hw => load_in ((zca hw.bx 4).trans rfl))
         · exact zbo rfl ⟨_, rfl, by kernel_rfl⟩ _ _ _ _ _ _ _ rfl rfl rfl (fun w hw => by rw [← h2_1]; exact bin_geq _ _ _)
         · exact step_pick rfl trivial _ _ _ true rfl (by kernel_rfl) (by kernel_rfl)
         · exact zmv rfl trivial _ rfl (by kernel_rfl)
         · exact zfa rfl ⟨_, rfl, by kernel_rfl⟩ _ _ _ _ rfl rfl (fun w hw => faE6 w _ _)
         · exact zld rfl ⟨_, rfl, by kernel_rfl⟩ _ _ _ rfl rfl (fun w hw => load_in ((zca hw.bx 6).trans rfl))
         · exact zbo rfl ⟨_, rfl, by kernel_rfl⟩ _ _ _ _ _ _ _ rfl rfl rfl (fun w hw => by rw [← h2_2]; exact bin_leq _ _ _)
         · exact step_pick rfl trivial _ _ _ true rfl (by kernel_rfl) (by kernel_rfl)
       · intro o ho
         cases ho
         exact call_dies rfl trivial 16 _ _ [(.pointer (some ⟨p, 0, none⟩)), (.bool false)] rfl (by kernel_rfl) (enters_of Try.func16 (by kernel_rfl) rfl) (off pl) (J2 := fun V => Tn p (some b) (some b) w V) (fun w hw => (must_no hw.he).mono (by rintro e w' ⟨rfl, rfl⟩; exact ⟨rfl, hw.tn⟩)) (fun a w hd hb => ⟨hd, lw_no (by simp only [law5, h2_0, h2_1, h2_2]; rfl) hb⟩)
     | true =>
       refine wp_region_any hmx ?_
       refine zwp (fun i__ => ([(.pointer (some ⟨p, 0, none⟩)), (.pointer (some ⟨w.heap.size, 4, none⟩)), (.int .i64 x.ta), (.pointer (some ⟨b, m * 5, none⟩)), (.pointer (some ⟨b, m * 5, none⟩)), (.pointer (some ⟨b, m * 5 + 2, none⟩)), (.int .i64 u.tag), (.bool true), (.bool true), (.pointer (some ⟨w.heap.size, 6, none⟩)), (.int .i64 x.du), (.pointer (some ⟨w.heap.size, 4, none⟩)), (.int .i64 x.ta), (.bool true), (.bool true), (.bool true), (.pointer (some ⟨w.heap.size, 6, none⟩)), (.int .i64 x.du), (.bool true), (.bool true), (.tuple #[])] : List Value).getD i__ undef) (fun V => JB w p b w.heap.size need pl s x V) (by kernel_rfl) (hJ1.carry (Below.refl _ _).drew) ?_ ?_
       · refine (sqc ?_ (sqc ?_ (sqc ?_ (sqc ?_ (sqc ?_ (sqc ?_ (sqc ?_ (sqc ?_ (sqc ?_ (sqc ?_ (sqc ?_ (sqc ?_ (sqc ?_ (sqc ?_ (sqc ?_ (sqc ?_ (sqc ?_ (sqc ?_ (sqc ?_ (sqc ?_ (sqc ?_ trivial)))))))))))))))))))))
         · exact zmv rfl trivial _ rfl (by kernel_rfl)
         · exact zfa rfl trivial _ _ _ _ rfl rfl (fun w hw => faE4 w _ _)
         · exact zld rfl trivial _ _ _ rfl rfl (fun w hw => load_in ((zca hw.bx 4).trans rfl))
         · exact zmv rfl trivial _ rfl (by kernel_rfl)
         · exact znc rfl trivial _ _ _ rfl rfl rfl
         · exact zfa rfl trivial _ _ _ _ rfl rfl (fun w hw => faN2 w _ _)
         · exact zld rfl trivial _ _ _ rfl rfl (fun w hw => load_in (hw.he.cn hm (by decide) (j := 2) rfl))
         · exact zbo rfl trivial _ _ _ _ _ _ _ rfl rfl rfl (fun w hw => by rw [← h2_0]; exact bin_gtr _ _ _)
         · exact zmv rfl trivial _ rfl (by kernel_rfl)
         · exact zfa rfl ⟨_, rfl, by kernel_rfl⟩ _ _ _ _ rfl rfl (fun w hw => faE6 w _ _)
         · exact zld rfl ⟨_, rfl, by kernel_rfl⟩ _ _ _ rfl rfl (fun w hw => load_in ((zca hw.bx 6).trans rfl))
         · exact zfa rfl ⟨_, rfl, by kernel_rfl⟩ _ _ _ _ rfl rfl (fun w hw => faE4 w _ _)
         · exact zld rfl ⟨_, rfl, by kernel_rfl⟩ _ _ _ rfl rfl (fun w hw => load_in ((zca hw.bx 4).trans rfl))
         · exact zbo rfl ⟨_, rfl, by kernel_rfl⟩ _ _ _ _ _ _ _ rfl rfl rfl (fun w hw => by rw [← h2_1]; exact bin_geq _ _ _)
         · exact step_pick rfl trivial _ _ _ true rfl (by kernel_rfl) (by kernel_rfl)
         · exact zmv rfl trivial _ rfl (by kernel_rfl)
         · exact zfa rfl ⟨_, rfl, by kernel_rfl⟩ _ _ _ _ rfl rfl (fun w hw => faE6 w _ _)
         · exact zld rfl ⟨_, rfl, by kernel_rfl⟩ _ _ _ rfl rfl (fun w hw => load_in ((zca hw.bx 6).trans rfl))
         · exact zbo rfl ⟨_, rfl, by kernel_rfl⟩ _ _ _ _ _ _ _ rfl rfl rfl (fun w hw => by rw [← h2_2]; exact bin_leq _ _ _)
         · exact step_pick rfl trivial _ _ _ true rfl (by kernel_rfl) (by kernel_rfl)
         · exact zsc rfl trivial 16 _ _ [(.pointer (some ⟨p, 0, none⟩)), (.bool true)] rfl (by kernel_rfl) (enters_of Try.func16 (by kernel_rfl) rfl) (fun w hw => (must_yes _ w).mono (by rintro e w' ⟨rfl, rfl⟩; exact ⟨rfl, hw⟩))
       intro W hW
       first | refine hK _ _ ?_ | refine (‹∀ (a : Act) (w : World), Code.wp Try.prog _ _ a w → _›) _ _ ?_ | skip
       simp only [finL, List.getD_cons_zero, List.getD_cons_succ, Nat.zero_add, Nat.reduceAdd, List.setIfInBounds_toArray, List.set_cons_zero, List.set_cons_succ]
       obtain ⟨W2, rfl⟩ : ∃ V, V = W := ⟨_, rfl⟩
       have hJ2 := hW
       clear hW hK
       have HL : Hid (law5 s x m u = some { s with nds := s.nds.set m { u with tag := x.ta } }) := by simp only [law5, h2_0, h2_1, h2_2]; rfl
       have cq4 : W2.cell? ⟨w.heap.size, 4, none⟩ = some (.int .i64 x.ta) := (zca hJ2.bx 4).trans rfl
       have cb2 : W2.cell? ⟨b, m * 5 + 2, none⟩ = some (.int .i64 u.tag) := hJ2.he.cn hm (by decide) rfl
       have zb2 := hJ2.he.frzg (m * 5 + 2)
       have hfin := hJ2.he.nput (o' := { u with tag := x.ta }) (v := .int .i64 x.ta) hm (j := 2) (by decide) rfl
       have htn := hJ2.tn.trans (Tn.putg W2 p b (m * 5 + 2) (.int .i64 x.ta))
       clear hJ0 hJ1 hJ2 hm h
       go_wp2
       go_end0
       exact lw_yes HL.out hfin htn
theorem down_any {w : World} {p b : Nat} {need pl : Int} {s : Hs} {m : Nat} {u : Nod} {x : Ev} (h : He w p b need pl s) (hm : s.nds[m]? = some u) (hx : x.nd = (m : Int)) : Calls Try.prog 27 #[.pointer (some ⟨p, 0, none⟩), evV x] w (Lw p b need pl w (law6 s x m u)) := by
 have hmx : Try.prog.follows .mixedOrders = true := by kernel_rfl
 have hml : m < s.nds.length := (List.getElem?_eq_some_iff.1 hm).1
 have hJ0 := JB.new h x
 have HX : Hid (x.nd = (m : Int)) := hx
 clear hx
 unfold evV ecA
 go_enter Try.func27, Try.ntmps27
 go_wp2
 refine wp_region_any hmx ?_
 refine zwl 8 (fun i__ => ([(.pointer (some ⟨p, 0, none⟩)), (.pointer (some ⟨p, 0, none⟩)), (.pointer (some ⟨p, 2, none⟩)), (.slice (some ⟨b, 0, none⟩) s.nds.length s.nds.length), (.pointer (some ⟨w.heap.size, 1, none⟩)), (.int .i64 x.nd), (.pointer (some ⟨b, m * 5, none⟩)), (.pointer (some ⟨b, m * 5, none⟩)), undef] : List Value).getD i__ undef) (fun V => JB w p b w.heap.size need pl s x V) (fun V => He V p b need pl { s with nds := s.nds.set m { u with up := false } } ∧ Tn p (some b) (some b) w V) rfl (by kernel_rfl) (by kernel_rfl) (hJ0.carry (Below.refl _ _).drew) ?_ ?_  ?_
 · refine (sqc ?_ (sqc ?_ (sqc ?_ (sqc ?_ (sqc ?_ (sqc ?_ (sqc ?_ (sqc ?_ trivial))))))))
   · exact zmv rfl trivial _ rfl (by kernel_rfl)
   · exact znc rfl trivial _ _ _ rfl rfl rfl
   · exact zfa rfl trivial _ _ _ _ rfl rfl (fun w hw => faH2 w _ _)
   · exact zld rfl trivial _ _ _ rfl rfl (fun w hw => load_ns ((zca hw.he.box 2).trans rfl))
   · exact zfa rfl trivial _ _ _ _ rfl rfl (fun w hw => faE1 w _ _)
   · exact zld rfl trivial _ _ _ rfl rfl (fun w hw => load_in ((zca hw.bx 1).trans rfl))
   · exact zia rfl trivial _ _ _ _ _ rfl rfl rfl (fun w hw => by rw [HX.out]; exact idx_n b _ m hml w)
   · exact zfa rfl trivial _ _ _ _ rfl rfl (fun w hw => faN0 w _ _)
 · intro o ho
   cases ho
   exact step_store rfl trivial rfl _ _ _ _ _ rfl rfl rfl (fun w hw => ⟨_, st_bo (hw.he.cn hm (j := 0) (by decide) rfl) (hw.he.frzg _), hw.he.nput (j := 0) (o' := { u with up := false }) hm (by decide) rfl, hw.tn.trans (Tn.putg _ _ _ _ _)⟩)
 intro W hW
 first | refine hK _ _ ?_ | refine (‹∀ (a : Act) (w : World), Code.wp Try.prog _ _ a w → _›) _ _ ?_ | skip
 simp only [finL, List.getD_cons_zero, List.getD_cons_succ, Nat.zero_add, Nat.reduceAdd, List.setIfInBounds_toArray, List.set_cons_zero, List.set_cons_succ]
 go_end0
 exact lw_yes rfl hW.1 hW.2
theorem begin_any {w : World} {p b : Nat} {need pl : Int} {s : Hs} {m : Nat} {u : Nod} {x : Ev} (h : He w p b need pl s) (hm : s.nds[m]? = some u) (hx : x.nd = (m : Int)) : Calls Try.prog 22 #[.pointer (some ⟨p, 0, none⟩), evV x] w (Lw p b need pl w (law1 s x m u)) := by
 have hmx : Try.prog.follows .mixedOrders = true := by kernel_rfl
 have hml : m < s.nds.length := (List.getElem?_eq_some_iff.1 hm).1
 have hJ0 := JB.new h x
 have HX : Hid (x.nd = (m : Int)) := hx
 clear hx
 unfold evV ecA
 go_enter Try.func22, Try.ntmps22
 go_wp2
 rename_i hK
 refine wp_region_any hmx ?_
 refine zwp (fun i__ => ([(.pointer (some ⟨p, 0, none⟩)), (.pointer (some ⟨p, 0, none⟩)), (.pointer (some ⟨p, 2, none⟩)), (.slice (some ⟨b, 0, none⟩) s.nds.length s.nds.length), (.pointer (some ⟨w.heap.size, 1, none⟩)), (.int .i64 x.nd), (.pointer (some ⟨b, m * 5, none⟩)), (.pointer (some ⟨b, m * 5, none⟩))] : List Value).getD i__ undef) (fun V => JB w p b w.heap.size need pl s x V) (by kernel_rfl) (hJ0.carry (Below.refl _ _).drew) ?_ ?_
 · refine (sqc ?_ (sqc ?_ (sqc ?_ (sqc ?_ (sqc ?_ (sqc ?_ (sqc ?_ (sqc ?_ trivial))))))))
   · exact zmv rfl trivial _ rfl (by kernel_rfl)
   · exact znc rfl trivial _ _ _ rfl rfl rfl
   · exact zfa rfl trivial _ _ _ _ rfl rfl (fun w hw => faH2 w _ _)
   · exact zld rfl trivial _ _ _ rfl rfl (fun w hw => load_ns ((zca hw.he.box 2).trans rfl))
   · exact zfa rfl trivial _ _ _ _ rfl rfl (fun w hw => faE1 w _ _)
   · exact zld rfl trivial _ _ _ rfl rfl (fun w hw => load_in ((zca hw.bx 1).trans rfl))
   · exact zia rfl trivial _ _ _ _ _ rfl rfl rfl (fun w hw => by rw [HX.out]; exact idx_n b _ m hml w)
   · exact zas rfl trivial _ rfl (by kernel_rfl) (fun _ h => h)
 intro W hW
 first | refine hK _ _ ?_ | refine (‹∀ (a : Act) (w : World), Code.wp Try.prog _ _ a w → _›) _ _ ?_ | skip
 simp only [finL, List.getD_cons_zero, List.getD_cons_succ, Nat.zero_add, Nat.reduceAdd, List.setIfInBounds_toArray, List.set_cons_zero, List.set_cons_succ]
 obtain ⟨W1, rfl⟩ : ∃ V, V = W := ⟨_, rfl⟩
 have hJ1 := hW
 clear hW hK
 go_wp2
 rename_i hK
 cases h2_0 : u.up with
 | true =>
   refine wp_region_any hmx ?_
   refine wpAny_dies 15 (fun i__ => ([(.pointer (some ⟨p, 0, none⟩)), (.pointer (some ⟨b, m * 5, none⟩)), (.pointer (some ⟨b, m * 5, none⟩)), (.pointer (some ⟨b, m * 5, none⟩)), (.bool true), (.bool false), (.bool false), undef, undef, undef, undef, undef, undef, undef, (.bool false), undef] : List Value).getD i__ undef) (fun V => JB w p b w.heap.size need pl s x V) rfl (by kernel_rfl) (hJ1.carry (Below.refl _ _).drew) ?_ ?_
   · refine (sqc ?_ (sqc ?_ (sqc ?_ (sqc ?_ (sqc ?_ (sqc ?_ (sqc ?_ (sqc ?_ (sqc ?_ (sqc ?_ (sqc ?_ (sqc ?_ (sqc ?_ (sqc ?_ (sqc ?_ trivial)))))))))))))))
     · exact zmv rfl trivial _ rfl (by kernel_rfl)
     · exact zmv rfl trivial _ rfl (by kernel_rfl)
     · exact znc rfl trivial _ _ _ rfl rfl rfl
     · exact zfa rfl trivial _ _ _ _ rfl rfl (fun w hw => faN0 w _ _)
     · exact zld rfl trivial _ _ _ rfl rfl (fun w hw => by rw [← h2_0]; exact load_bo (hw.he.cn hm (by decide) (j := 0) rfl))
     · exact step_unOp rfl trivial _ _ _ _ rfl rfl (fun w hw => rfl)
     · exact zmv rfl trivial _ rfl (by kernel_rfl)
     · exact zsk rfl 6 true 18 (.bool false) rfl rfl (by kernel_rfl) (by intro h; cases h) rfl
     · exact zsk rfl 6 true 18 (.bool false) rfl rfl (by kernel_rfl) (by intro h; cases h) rfl
     · exact zsk rfl 6 true 18 (.bool false) rfl rfl (by kernel_rfl) (by intro h; cases h) rfl
     · exact zsk rfl 6 true 18 (.bool false) rfl rfl (by kernel_rfl) (by intro h; cases h) rfl
     · exact zsk rfl 6 true 18 (.bool false) rfl rfl (by kernel_rfl) (by intro h; cases h) rfl
     · exact zsk rfl 6 true 18 (.bool false) rfl rfl (by kernel_rfl) (by intro h; cases h) rfl
     · exact zsk rfl 6 true 18 (.bool false) rfl rfl (by kernel_rfl) (by intro h; cases h) rfl
     · exact step_pick rfl trivial _ _ _ false rfl (by kernel_rfl) (by kernel_rfl)
   · intro o ho
     cases ho
     exact call_dies rfl trivial 16 _ _ [(.pointer (some ⟨p, 0, none⟩)), (.bool false)] rfl (by kernel_rfl) (enters_of Try.func16 (by kernel_rfl) rfl) (off pl) (J2 := fun V => Tn p (some b) (some b) w V) (fun w hw => (must_no hw.he).mono (by rintro e w' ⟨rfl, rfl⟩; exact ⟨rfl, hw.tn⟩)) (fun a w hd hb => ⟨hd, lw_no (by simp only [law1, h2_0]; rfl) hb⟩)
 | false =>
   cases h2_1 : decide (x.li > u.life) with
   | false =>
     refine wp_region_any hmx ?_
     refine wpAny_dies 15 (fun i__ => ([(.pointer (some ⟨p, 0, none⟩)), (.pointer (some ⟨b, m * 5, none⟩)), (.pointer (some ⟨b, m * 5, none⟩)), (.pointer (some ⟨b, m * 5, none⟩)), (.bool false), (.bool true), (.bool true), (.pointer (some ⟨w.heap.size, 2, none⟩)), (.int .i64 x.li), (.pointer (some ⟨b, m * 5, none⟩)), (.pointer (some ⟨b, m * 5, none⟩)), (.pointer (some ⟨b, m * 5 + 1, none⟩)), (.int .i64 u.life), (.bool false), (.bool false), undef] : List Value).getD i__ undef) (fun V => JB w p b w.heap.size need pl s x V) rfl (by kernel_rfl) (hJ1.carry (Below.refl _ _).drew) ?_ ?_
     · refine (sqc ?_ (sqc ?_ (sqc ?_ (sqc ?_ (sqc ?_ (sqc ?_ (sqc ?_ (sqc ?_ (sqc ?_ (sqc ?_ (sqc ?_ (sqc ?_ (sqc ?_ (sqc ?_ (sqc ?_ trivial)))))))))))))))
       · exact zmv rfl trivial _ rfl (by kernel_rfl)
       · exact zmv rfl trivial _ rfl (by kernel_rfl)
       · exact znc rfl trivial _ _ _ rfl rfl rfl
       · exact zfa rfl trivial _ _ _ _ rfl rfl (fun w hw => faN0 w _ _)
       · exact zld rfl trivial _ _ _ rfl rfl (fun w hw => by rw [← h2_0]; exact load_bo (hw.he.cn hm (by decide) (j := 0) rfl))
       · exact step_unOp rfl trivial _ _ _ _ rfl rfl (fun w hw => rfl)
       · exact zmv rfl trivial _ rfl (by kernel_rfl)
       · exact zfa rfl ⟨_, rfl, by kernel_rfl⟩ _ _ _ _ rfl rfl (fun w hw => faE2 w _ _)
       · exact zld rfl ⟨_, rfl, by kernel_rfl⟩ _ _ _ rfl rfl (fun w hw => load_in ((zca hw.bx 2).trans rfl))
       · exact zmv rfl ⟨_, rfl, by kernel_rfl⟩ _ rfl (by kernel_rfl)
       · exact znc rfl ⟨_, rfl, by kernel_rfl⟩ _ _ _ rfl rfl rfl
       · exact zfa rfl ⟨_, rfl, by kernel_rfl⟩ _ _ _ _ rfl rfl (fun w hw => faN1 w _ _)
       · exact zld rfl ⟨_, rfl, by kernel_rfl⟩ _ _ _ rfl rfl (fun w hw => load_in (hw.he.cn hm (by decide) (j := 1) rfl))
       · exact zbo rfl ⟨_, rfl, by kernel_rfl⟩ _ _ _ _ _ _ _ rfl rfl rfl (fun w hw => by rw [← h2_1]; exact bin_gtr _ _ _)
       · exact step_pick rfl trivial _ _ _ true rfl (by kernel_rfl) (by kernel_rfl)
     · intro o ho
       cases ho
       exact call_dies rfl trivial 16 _ _ [(.pointer (some ⟨p, 0, none⟩)), (.bool false)] rfl (by kernel_rfl) (enters_of Try.func16 (by kernel_rfl) rfl) (off pl) (J2 := fun V => Tn p (some b) (some b) w V) (fun w hw => (must_no hw.he).mono (by rintro e w' ⟨rfl, rfl⟩; exact ⟨rfl, hw.tn⟩)) (fun a w hd hb => ⟨hd, lw_no (by simp only [law1, h2_0, h2_1]; rfl) hb⟩)
   | true =>
     refine wp_region_any hmx ?_
     refine zwp (fun i__ => ([(.pointer (some ⟨p, 0, none⟩)), (.pointer (some ⟨b, m * 5, none⟩)), (.pointer (some ⟨b, m * 5, none⟩)), (.pointer (some ⟨b, m * 5, none⟩)), (.bool false), (.bool true), (.bool true), (.pointer (some ⟨w.heap.size, 2, none⟩)), (.int .i64 x.li), (.pointer (some ⟨b, m * 5, none⟩)), (.pointer (some ⟨b, m * 5, none⟩)), (.pointer (some ⟨b, m * 5 + 1, none⟩)), (.int .i64 u.life), (.bool true), (.bool true), (.tuple #[])] : List Value).getD i__ undef) (fun V => JB w p b w.heap.size need pl s x V) (by kernel_rfl) (hJ1.carry (Below.refl _ _).drew) ?_ ?_
     · refine (sqc ?_ (sqc ?_ (sqc ?_ (sqc ?_ (sqc ?_ (sqc ?_ (sqc ?_ (sqc ?_ (sqc ?_ (sqc ?_ (sqc ?_ (sqc ?_ (sqc ?_ (sqc ?_ (sqc ?_ (sqc ?_ trivial))))))))))))))))
       · exact zmv rfl trivial _ rfl (by kernel_rfl)
       · exact zmv rfl trivial _ rfl (by kernel_rfl)
       · exact znc rfl trivial _ _ _ rfl rfl rfl
       · exact zfa rfl trivial _ _ _ _ rfl rfl (fun w hw => faN0 w _ _)
       · exact zld rfl trivial _ _ _ rfl rfl (fun w hw => by rw [← h2_0]; exact load_bo (hw.he.cn hm (by decide) (j := 0) rfl))
       · exact step_unOp rfl trivial _ _ _ _ rfl rfl (fun w hw => rfl)
       · exact zmv rfl trivial _ rfl (by kernel_rfl)
       · exact zfa rfl ⟨_, rfl, by kernel_rfl⟩ _ _ _ _ rfl rfl (fun w hw => faE2 w _ _)
       · exact zld rfl ⟨_, rfl, by kernel_rfl⟩ _ _ _ rfl rfl (fun w hw => load_in ((zca hw.bx 2).trans rfl))
       · exact zmv rfl ⟨_, rfl, by kernel_rfl⟩ _ rfl (by kernel_rfl)
       · exact znc rfl ⟨_, rfl, by kernel_rfl⟩ _ _ _ rfl rfl rfl
       · exact zfa rfl ⟨_, rfl, by kernel_rfl⟩ _ _ _ _ rfl rfl (fun w hw => faN1 w _ _)
       · exact zld rfl ⟨_, rfl, by kernel_rfl⟩ _ _ _ rfl rfl (fun w hw => load_in (hw.he.cn hm (by decide) (j := 1) rfl))
       · exact zbo rfl ⟨_, rfl, by kernel_rfl⟩ _ _ _ _ _ _ _ rfl rfl rfl (fun w hw => by rw [← h2_1]; exact bin_gtr _ _ _)
       · exact step_pick rfl trivial _ _ _ true rfl (by kernel_rfl) (by kernel_rfl)
       · exact zsc rfl trivial 16 _ _ [(.pointer (some ⟨p, 0, none⟩)), (.bool true)] rfl (by kernel_rfl) (enters_of Try.func16 (by kernel_rfl) rfl) (fun w hw => (must_yes _ w).mono (by rintro e w' ⟨rfl, rfl⟩; exact ⟨rfl, hw⟩))
     intro W hW
     first | refine hK _ _ ?_ | refine (‹∀ (a : Act) (w : World), Code.wp Try.prog _ _ a w → _›) _ _ ?_ | skip
     simp only [finL, List.getD_cons_zero, List.getD_cons_succ, Nat.zero_add, Nat.reduceAdd, List.setIfInBounds_toArray, List.set_cons_zero, List.set_cons_succ]
     obtain ⟨W2, rfl⟩ : ∃ V, V = W := ⟨_, rfl⟩
     have hJ2 := hW
     clear hW hK
     go_wp2
     rename_i hK
     cases h3_0 : decide (x.ro > u.ask) with
     | false =>
       refine wp_region_any hmx ?_
       refine wpAny_dies 13 (fun i__ => ([(.pointer (some ⟨p, 0, none⟩)), (.pointer (some ⟨w.heap.size, 3, none⟩)), (.int .i64 x.ro), (.pointer (some ⟨b, m * 5, none⟩)), (.pointer (some ⟨b, m * 5, none⟩)), (.pointer (some ⟨b, m * 5 + 4, none⟩)), (.int .i64 u.ask), (.bool false), (.bool false), undef, undef, undef, (.bool false), undef] : List Value).getD i__ undef) (fun V => JB w p b w.heap.size need pl s x V) rfl (by kernel_rfl) (hJ2.carry (Below.refl _ _).drew) ?_ ?_
       · refine (sqc ?_ (sqc ?_ (sqc ?_ (sqc ?_ (sqc ?_ (sqc ?_ (sqc ?_ (sqc ?_ (sqc ?_ (sqc ?_ (sqc ?_ (sqc ?_ (sqc ?_ trivial)))))))))))))
         · exact zmv rfl trivial _ rfl (by kernel_rfl)
         · exact zfa rfl trivial _ _ _ _ rfl rfl (fun w hw => faE3 w _ _)
         · exact zld rfl trivial _ _ _ rfl rfl (fun w hw => load_in ((zca hw.bx 3).trans rfl))
         · exact zmv rfl trivial _ rfl (by kernel_rfl)
         · exact znc rfl trivial _ _ _ rfl rfl rfl
         · exact zfa rfl trivial _ _ _ _ rfl rfl (fun w hw => faN4 w _ _)
         · exact zld rfl trivial _ _ _ rfl rfl (fun w hw => load_in (hw.he.cn hm (by decide) (j := 4) rfl))
         · exact zbo rfl trivial _ _ _ _ _ _ _ rfl rfl rfl (fun w hw => by rw [← h3_0]; exact bin_gtr _ _ _)
         · exact zmv rfl trivial _ rfl (by kernel_rfl)
         · exact zsk rfl 8 true 36 (.bool false) rfl rfl (by kernel_rfl) (by intro h; cases h) rfl
         · exact zsk rfl 8 true 36 (.bool false) rfl rfl (by kernel_rfl) (by intro h; cases h) rfl
         · exact zsk rfl 8 true 36 (.bool false) rfl rfl (by kernel_rfl) (by intro h; cases h) rfl
         · exact step_pick rfl trivial _ _ _ false rfl (by kernel_rfl) (by kernel_rfl)
       · intro o ho
         cases ho
         exact call_dies rfl trivial 16 _ _ [(.pointer (some ⟨p, 0, none⟩)), (.bool false)] rfl (by kernel_rfl) (enters_of Try.func16 (by kernel_rfl) rfl) (off pl) (J2 := fun V => Tn p (some b) (some b) w V) (fun w hw => (must_no hw.he).mono (by rintro e w' ⟨rfl, rfl⟩; exact ⟨rfl, hw.tn⟩)) (fun a w hd hb => ⟨hd, lw_no (by simp only [law1, h2_0, h2_1, h3_0]; rfl) hb⟩)
     | true =>
       cases h3_1 : decide (x.ro ≤ 1099511627775) with
       | false =>
         refine wp_region_any hmx ?_
         refine wpAny_dies 13 (fun i__ => ([(.pointer (some ⟨p, 0, none⟩)), (.pointer (some ⟨w.heap.size, 3, none⟩)), (.int .i64 x.ro), (.pointer (some ⟨b, m * 5, none⟩)), (.pointer (some ⟨b, m * 5, none⟩)), (.pointer (some ⟨b, m * 5 + 4, none⟩)), (.int .i64 u.ask), (.bool true), (.bool true), (.pointer (some ⟨w.heap.size, 3, none⟩)), (.int .i64 x.ro), (.bool false), (.bool false), undef] : List Value).getD i__ undef) (fun V => JB w p b w.heap.size need pl s x V) rfl (by kernel_rfl) (hJ2.carry (Below.refl _ _).drew) ?_ ?_
         · refine (sqc ?_ (sqc ?_ (sqc ?_ (sqc ?_ (sqc ?_ (sqc ?_ (sqc ?_ (sqc ?_ (sqc ?_ (sqc ?_ (sqc ?_ (sqc ?_ (sqc ?_ trivial)))))))))))))
           · exact zmv rfl trivial _ rfl (by kernel_rfl)
           · exact zfa rfl trivial _ _ _ _ rfl rfl (fun w hw => faE3 w _ _)
           · exact zld rfl trivial _ _ _ rfl rfl (fun w hw => load_in ((zca hw.bx 3).trans rfl))
           · exact zmv rfl trivial _ rfl (by kernel_rfl)
           · exact znc rfl trivial _ _ _ rfl rfl rfl
           · exact zfa rfl trivial _ _ _ _ rfl rfl (fun w hw => faN4 w _ _)
           · exact zld rfl trivial _ _ _ rfl rfl (fun w hw => load_in (hw.he.cn hm (by decide) (j := 4) rfl))
           · exact zbo rfl trivial _ _ _ _ _ _ _ rfl rfl rfl (fun w hw => by rw [← h3_0]; exact bin_gtr _ _ _)
           · exact zmv rfl trivial _ rfl (by kernel_rfl)
           · exact zfa rfl ⟨_, rfl, by kernel_rfl⟩ _ _ _ _ rfl rfl (fun w hw => faE3 w _ _)
           · exact zld rfl ⟨_, rfl, by kernel_rfl⟩ _ _ _ rfl rfl (fun w hw => load_in ((zca hw.bx 3).trans rfl))
           · exact zbo rfl ⟨_, rfl, by kernel_rfl⟩ _ _ _ _ _ _ _ rfl rfl rfl (fun w hw => by rw [← h3_1]; exact bin_leq _ _ _)
           · exact step_pick rfl trivial _ _ _ true rfl (by kernel_rfl) (by kernel_rfl)
         · intro o ho
           cases ho
           exact call_dies rfl trivial 16 _ _ [(.pointer (some ⟨p, 0, none⟩)), (.bool false)] rfl (by kernel_rfl) (enters_of Try.func16 (by kernel_rfl) rfl) (off pl) (J2 := fun V => Tn p (some b) (some b) w V) (fun w hw => (must_no hw.he).mono (by rintro e w' ⟨rfl, rfl⟩; exact ⟨rfl, hw.tn⟩)) (fun a w hd hb => ⟨hd, lw_no (by simp only [law1, h2_0, h2_1, h3_0, h3_1]; rfl) hb⟩)
       | true =>
         refine wp_region_any hmx ?_
         refine zwp (fun i__ => ([(.pointer (some ⟨p, 0, none⟩)), (.pointer (some ⟨w.heap.size, 3, none⟩)), (.int .i64 x.ro), (.pointer (some ⟨b, m * 5, none⟩)), (.pointer (some ⟨b, m * 5, none⟩)), (.pointer (some ⟨b, m * 5 + 4, none⟩)), (.int .i64 u.ask), (.bool true), (.bool true), (.pointer (some ⟨w.heap.size, 3, none⟩)), (.int .i64 x.ro), (.bool true), (.bool true), (.tuple #[])] : List Value).getD i__ undef) (fun V => JB w p b w.heap.size need pl s x V) (by kernel_rfl) (hJ2.carry (Below.refl _ _).drew) ?_ ?_
         · refine (sqc ?_ (sqc ?_ (sqc ?_ (sqc ?_ (sqc ?_ (sqc ?_ (sqc ?_ (sqc ?_ (sqc ?_ (sqc ?_ (sqc ?_ (sqc ?_ (sqc ?_ (sqc ?_ trivial))))))))))))))
           · exact zmv rfl trivial _ rfl (by kernel_rfl)
           · exact zfa rfl trivial _ _ _ _ rfl rfl (fun w hw => faE3 w _ _)
           · exact zld rfl trivial _ _ _ rfl rfl (fun w hw => load_in ((zca hw.bx 3).trans rfl))
           · exact zmv rfl trivial _ rfl (by kernel_rfl)
           · exact znc rfl trivial _ _ _ rfl rfl rfl
           · exact zfa rfl trivial _ _ _ _ rfl rfl (fun w hw => faN4 w _ _)
           · exact zld rfl trivial _ _ _ rfl rfl (fun w hw => load_in (hw.he.cn hm (by decide) (j := 4) rfl))
           · exact zbo rfl trivial _ _ _ _ _ _ _ rfl rfl rfl (fun w hw => by rw [← h3_0]; exact bin_gtr _ _ _)
           · exact zmv rfl trivial _ rfl (by kernel_rfl)
           · exact zfa rfl ⟨_, rfl, by kernel_rfl⟩ _ _ _ _ rfl rfl (fun w hw => faE3 w _ _)
           · exact zld rfl ⟨_, rfl, by kernel_rfl⟩ _ _ _ rfl rfl (fun w hw => load_in ((zca hw.bx 3).trans rfl))
           · exact zbo rfl ⟨_, rfl, by kernel_rfl⟩ _ _ _ _ _ _ _ rfl rfl rfl (fun w hw => by rw [← h3_1]; exact bin_leq _ _ _)
           · exact step_pick rfl trivial _ _ _ true rfl (by kernel_rfl) (by kernel_rfl)
           · exact zsc rfl trivial 16 _ _ [(.pointer (some ⟨p, 0, none⟩)), (.bool true)] rfl (by kernel_rfl) (enters_of Try.func16 (by kernel_rfl) rfl) (fun w hw => (must_yes _ w).mono (by rintro e w' ⟨rfl, rfl⟩; exact ⟨rfl, hw⟩))
         intro W hW
         first | refine hK _ _ ?_ | refine (‹∀ (a : Act) (w : World), Code.wp Try.prog _ _ a w → _›) _ _ ?_ | skip
         simp only [finL, List.getD_cons_zero, List.getD_cons_succ, Nat.zero_add, Nat.reduceAdd, List.setIfInBounds_toArray, List.set_cons_zero, List.set_cons_succ]
         obtain ⟨W3, rfl⟩ : ∃ V, V = W := ⟨_, rfl⟩
         have hJ3 := hW
         clear hW hK
         go_wp2
         rename_i hK
         cases h4_0 : decide (x.ta ≥ u.tag) with
         | false =>
           refine wp_region_any hmx ?_
           refine wpAny_dies 13 (fun i__ => ([(.pointer (some ⟨p, 0, none⟩)), (.pointer (some ⟨w.heap.size, 4, none⟩)), (.int .i64 x.ta), (.pointer (some ⟨b, m * 5, none⟩)), (.pointer (some ⟨b, m * 5, none⟩)), (.pointer (some ⟨b, m * 5 + 2, none⟩)), (.int .i64 u.tag), (.bool false), (.bool false), undef, undef, undef, (.bool false), undef] : List Value).getD i__ undef) (fun V => JB w p b w.heap.size need pl s x V) rfl (by kernel_rfl) (hJ3.carry (Below.refl _ _).drew) ?_ ?_
           · refine (sqc ?_ (sqc ?_ (sqc ?_ (sqc ?_ (sqc ?_ (sqc ?_ (sqc ?_ (sqc ?_ (sqc ?_ (sqc ?_ (sqc ?_ (sqc ?_ (sqc ?_ trivial)))))))))))))
             · exact zmv rfl trivial _ rfl (by kernel_rfl)
             · exact zfa rfl trivial _ _ _ _ rfl rfl (fun w hw => faE4 w _ _)
             · exact zld rfl trivial _ _ _ rfl rfl (fun w hw => load_in ((zca hw.bx 4).trans rfl))
             · exact zmv rfl trivial _ rfl (by kernel_rfl)
             · exact znc rfl trivial _ _ _ rfl rfl rfl
             · exact zfa rfl trivial _ _ _ _ rfl rfl (fun w hw => faN2 w _ _)
             · exact zld rfl trivial _ _ _ rfl rfl (fun w hw => load_in (hw.he.cn hm (by decide) (j := 2) rfl))
             · exact zbo rfl trivial _ _ _ _ _ _ _ rfl rfl rfl (fun w hw => by rw [← h4_0]; exact bin_geq _ _ _)
             · exact zmv rfl trivial _ rfl (by kernel_rfl)
             · exact zsk rfl 8 true 50 (.bool false) rfl rfl (by kernel_rfl) (by intro h; cases h) rfl
             · exact zsk rfl 8 true 50 (.bool false) rfl rfl (by kernel_rfl) (by intro h; cases h) rfl
             · exact zsk rfl 8 true 50 (.bool false) rfl rfl (by kernel_rfl) (by intro h; cases h) rfl
             · exact step_pick rfl trivial _ _ _ false rfl (by kernel_rfl) (by kernel_rfl)
           · intro o ho
             cases ho
             exact call_dies rfl trivial 16 _ _ [(.pointer (some ⟨p, 0, none⟩)), (.bool false)] rfl (by kernel_rfl) (enters_of Try.func16 (by kernel_rfl) rfl) (off pl) (J2 := fun V => Tn p (some b) (some b) w V) (fun w hw => (must_no hw.he).mono (by rintro e w' ⟨rfl, rfl⟩; exact ⟨rfl, hw.tn⟩)) (fun a w hd hb => ⟨hd, lw_no (by simp only [law1, h2_0, h2_1, h3_0, h3_1, h4_0]; rfl) hb⟩)
         | true =>
           cases h4_1 : decide (x.ta ≤ 1048576) with
           | false =>
             refine wp_region_any hmx ?_
             refine wpAny_dies 13 (fun i__ => ([(.pointer (some ⟨p, 0, none⟩)), (.pointer (some ⟨w.heap.size, 4, none⟩)), (.int .i64 x.ta), (.pointer (some ⟨b, m * 5, none⟩)), (.pointer (some ⟨b, m * 5, none⟩)), (.pointer (some ⟨b, m * 5 + 2, none⟩)), (.int .i64 u.tag), (.bool true), (.bool true), (.pointer (some ⟨w.heap.size, 4, none⟩)), (.int .i64 x.ta), (.bool false), (.bool false), undef] : List Value).getD i__ undef) (fun V => JB w p b w.heap.size need pl s x V) rfl (by kernel_rfl) (hJ3.carry (Below.refl _ _).drew) ?_ ?_
             · refine (sqc ?_ (sqc ?_ (sqc ?_ (sqc ?_ (sqc ?_ (sqc ?_ (sqc ?_ (sqc ?_ (sqc ?_ (sqc ?_ (sqc ?_ (sqc ?_ (sqc ?_ trivial)))))))))))))
               · exact zmv rfl trivial _ rfl (by kernel_rfl)
               · exact zfa rfl trivial _ _ _ _ rfl rfl (fun w hw => faE4 w _ _)
               · exact zld rfl trivial _ _ _ rfl rfl (fun w hw => load_in ((zca hw.bx 4).trans rfl))
               · exact zmv rfl trivial _ rfl (by kernel_rfl)
               · exact znc rfl trivial _ _ _ rfl rfl rfl
               · exact zfa rfl trivial _ _ _ _ rfl rfl (fun w hw => faN2 w _ _)
               · exact zld rfl trivial _ _ _ rfl rfl (fun w hw => load_in (hw.he.cn hm (by decide) (j := 2) rfl))
               · exact zbo rfl trivial _ _ _ _ _ _ _ rfl rfl rfl (fun w hw => by rw [← h4_0]; exact bin_geq _ _ _)
               · exact zmv rfl trivial _ rfl (by kernel_rfl)
               · exact zfa rfl ⟨_, rfl, by kernel_rfl⟩ _ _ _ _ rfl rfl (fun w hw => faE4 w _ _)
               · exact zld rfl ⟨_, rfl, by kernel_rfl⟩ _ _ _ rfl rfl (fun w hw => load_in ((zca hw.bx 4).trans rfl))
               · exact zbo rfl ⟨_, rfl, by kernel_rfl⟩ _ _ _ _ _ _ _ rfl rfl rfl (fun w hw => by rw [← h4_1]; exact bin_leq _ _ _)
               · exact step_pick rfl trivial _ _ _ true rfl (by kernel_rfl) (by kernel_rfl)
             · intro o ho
               cases ho
               exact call_dies rfl trivial 16 _ _ [(.pointer (some ⟨p, 0, none⟩)), (.bool false)] rfl (by kernel_rfl) (enters_of Try.func16 (by kernel_rfl) rfl) (off pl) (J2 := fun V => Tn p (some b) (some b) w V) (fun w hw => (must_no hw.he).mono (by rintro e w' ⟨rfl, rfl⟩; exact ⟨rfl, hw.tn⟩)) (fun a w hd hb => ⟨hd, lw_no (by simp only [law1, h2_0, h2_1, h3_0, h3_1, h4_0, h4_1]; rfl) hb⟩)
           | true =>
             refine wp_region_any hmx ?_
             refine zwp (fun i__ => ([(.pointer (some ⟨p, 0, none⟩)), (.pointer (some ⟨w.heap.size, 4, none⟩)), (.int .i64 x.ta), (.pointer (some ⟨b, m * 5, none⟩)), (.pointer (some ⟨b, m * 5, none⟩)), (.pointer (some ⟨b, m * 5 + 2, none⟩)), (.int .i64 u.tag), (.bool true), (.bool true), (.pointer (some ⟨w.heap.size, 4, none⟩)), (.int .i64 x.ta), (.bool true), (.bool true), (.tuple #[])] : List Value).getD i__ undef) (fun V => JB w p b w.heap.size need pl s x V) (by kernel_rfl) (hJ3.carry (Below.refl _ _).drew) ?_ ?_
             · refine (sqc ?_ (sqc ?_ (sqc ?_ (sqc ?_ (sqc ?_ (sqc ?_ (sqc ?_ (sqc ?_ (sqc ?_ (sqc ?_ (sqc ?_ (sqc ?_ (sqc ?_ (sqc ?_ trivial))))))))))))))
               · exact zmv rfl trivial _ rfl (by kernel_rfl)
               · exact zfa rfl trivial _ _ _ _ rfl rfl (fun w hw => faE4 w _ _)
               · exact zld rfl trivial _ _ _ rfl rfl (fun w hw => load_in ((zca hw.bx 4).trans rfl))
               · exact zmv rfl trivial _ rfl (by kernel_rfl)
               · exact znc rfl trivial _ _ _ rfl rfl rfl
               · exact zfa rfl trivial _ _ _ _ rfl rfl (fun w hw => faN2 w _ _)
               · exact zld rfl trivial _ _ _ rfl rfl (fun w hw => load_in (hw.he.cn hm (by decide) (j := 2) rfl))
               · exact zbo rfl trivial _ _ _ _ _ _ _ rfl rfl rfl (fun w hw => by rw [← h4_0]; exact bin_geq _ _ _)
               · exact zmv rfl trivial _ rfl (by kernel_rfl)
               · exact zfa rfl ⟨_, rfl, by kernel_rfl⟩ _ _ _ _ rfl rfl (fun w hw => faE4 w _ _)
               · exact zld rfl ⟨_, rfl, by kernel_rfl⟩ _ _ _ rfl rfl (fun w hw => load_in ((zca hw.bx 4).trans rfl))
               · exact zbo rfl ⟨_, rfl, by kernel_rfl⟩ _ _ _ _ _ _ _ rfl rfl rfl (fun w hw => by rw [← h4_1]; exact bin_leq _ _ _)
               · exact step_pick rfl trivial _ _ _ true rfl (by kernel_rfl) (by kernel_rfl)
               · exact zsc rfl trivial 16 _ _ [(.pointer (some ⟨p, 0, none⟩)), (.bool true)] rfl (by kernel_rfl) (enters_of Try.func16 (by kernel_rfl) rfl) (fun w hw => (must_yes _ w).mono (by rintro e w' ⟨rfl, rfl⟩; exact ⟨rfl, hw⟩))
             intro W hW
             first | refine hK _ _ ?_ | refine (‹∀ (a : Act) (w : World), Code.wp Try.prog _ _ a w → _›) _ _ ?_ | skip
             simp only [finL, List.getD_cons_zero, List.getD_cons_succ, Nat.zero_add, Nat.reduceAdd, List.setIfInBounds_toArray, List.set_cons_zero, List.set_cons_succ]
             obtain ⟨W4, rfl⟩ : ∃ V, V = W := ⟨_, rfl⟩
             have hJ4 := hW
             clear hW hK
             go_wp2
             rename_i hK
             refine wp_region_any hmx ?_
             refine zwt (G := Unit) (fun g i__ => ([(.pointer (some ⟨b, m * 5, none⟩)), (.pointer (some ⟨b, m * 5, none⟩)), (.pointer (some ⟨b, m * 5, none⟩)), (.pointer (some ⟨b, m * 5, none⟩)), (.pointer (some ⟨w.heap.size, 2, none⟩)), (.int .i64 x.li), (.pointer (some ⟨w.heap.size, 4, none⟩)), (.int .i64 x.ta), (.pointer (some ⟨w.heap.size, 3, none⟩)), (.int .i64 x.ro), (.pointer (some ⟨b, m * 5, none⟩)), (.pointer (some ⟨b, m * 5, none⟩)), undef, (.pointer (some ⟨b, m * 5, none⟩)), (.pointer (some ⟨b, m * 5 + 1, none⟩)), undef, (.pointer (some ⟨b, m * 5, none⟩)), (.pointer (some ⟨b, m * 5 + 2, none⟩)), undef, (.pointer (some ⟨b, m * 5, none⟩)), (.pointer (some ⟨b, m * 5 + 3, none⟩)), undef] : List Value).getD i__ undef) (fun g d V => (∃ u2 : Nod, u2 = ⟨if d 12 = true then true else u.up, if d 15 = true then x.li else u.life, if d 18 = true then x.ta else u.tag, if d 21 = true then x.ro else u.op, u.ask⟩ ∧ JB w p b w.heap.size need pl { s with nds := s.nds.set m u2 } x V)) (by kernel_rfl) (()) ⟨u, by simp, by rw [set_self hm]; exact (hJ4.carry (Below.refl _ _).drew)⟩ ?step1 ?fin1
             case step1 =>
               intro i o ho
               have hi : i < 22 := getElem?_lt ho
               match i, hi, ho with
               | 0, _, ho => cases ho; exact zgo fun g d hdep => zmv rfl trivial _ rfl (by kernel_rfl)
               | 1, _, ho => cases ho; exact zgo fun g d hdep => zmv rfl trivial _ rfl (by kernel_rfl)
               | 2, _, ho => cases ho; exact zgo fun g d hdep => zmv rfl trivial _ rfl (by kernel_rfl)
               | 3, _, ho => cases ho; exact zgo fun g d hdep => zmv rfl trivial _ rfl (by kernel_rfl)
               | 4, _, ho => cases ho; exact zgo fun g d hdep => zfa rfl trivial _ _ _ _ rfl rfl (fun w hw => faE2 w _ _)
               | 5, _, ho => cases ho; exact zgo fun g d hdep => zld rfl trivial _ _ _ rfl rfl (fun w hw => by obtain ⟨u2, hu2, hw⟩ := hw; exact load_in ((zca hw.bx 2).trans rfl))
               | 6, _, ho => cases ho; exact zgo fun g d hdep => zfa rfl trivial _ _ _ _ rfl rfl (fun w hw => faE4 w _ _)
               | 7, _, ho => cases ho; exact zgo fun g d hdep => zld rfl trivial _ _ _ rfl rfl (fun w hw => by obtain ⟨u2, hu2, hw⟩ := hw; exact load_in ((zca hw.bx 4).trans rfl))
               | 8, _, ho => cases ho; exact zgo fun g d hdep => zfa rfl trivial _ _ _ _ rfl rfl (fun w hw => faE3 w _ _)
               | 9, _, ho => cases ho; exact zgo fun g d hdep => zld rfl trivial _ _ _ rfl rfl (fun w hw => by obtain ⟨u2, hu2, hw⟩ := hw; exact load_in ((zca hw.bx 3).trans rfl))
               | 10, _, ho => cases ho; exact zgo fun g d hdep => znc rfl trivial _ _ _ rfl rfl rfl
               | 11, _, ho => cases ho; exact zgo fun g d hdep => zfa rfl trivial _ _ _ _ rfl rfl (fun w hw => faN0 w _ _)
               | 12, _, ho => cases ho; exact stepG_store rfl rfl rfl _ _ _ (fun g => .pointer (some ⟨b, m * 5, none⟩)) (fun g => .bool true) rfl (fun g => by kernel_rfl) (fun g => by kernel_rfl) (fun g d V hJ hun hdep => by obtain ⟨u2, hu2, hJ'⟩ := hJ; refine ⟨_, st_bo (hJ'.he.cn (i := m) (o := u2) (by simp [hml]) (j := 0) (by decide) rfl) (hJ'.he.frzg _), { u2 with up := true }, ?_, hJ'.he.nput2 hml (j := 0) (by decide) rfl, (Below.heap_setCell _ _ _ _ (hqb hJ'.he hJ'.bx)).trans hJ'.bx, hJ'.tn.trans (Tn.putg _ _ _ _ _)⟩; rw [hu2]; simp)
               | 13, _, ho => cases ho; exact zgo fun g d hdep => znc rfl trivial _ _ _ rfl rfl rfl
               | 14, _, ho => cases ho; exact zgo fun g d hdep => zfa rfl trivial _ _ _ _ rfl rfl (fun w hw => faN1 w _ _)
               | 15, _, ho => cases ho; exact stepG_store rfl rfl rfl _ _ _ (fun g => .pointer (some ⟨b, m * 5 + 1, none⟩)) (fun g => .int .i64 x.li) rfl (fun g => by kernel_rfl) (fun g => by kernel_rfl) (fun g d V hJ hun hdep => by obtain ⟨u2, hu2, hJ'⟩ := hJ; refine ⟨_, st_in (hJ'.he.cn (i := m) (o := u2) (by simp [hml]) (j := 1) (by decide) rfl) (hJ'.he.frzg _), { u2 with life := x.li }, ?_, hJ'.he.nput2 hml (j := 1) (by decide) rfl, (Below.heap_setCell _ _ _ _ (hqb hJ'.he hJ'.bx)).trans hJ'.bx, hJ'.tn.trans (Tn.putg _ _ _ _ _)⟩; rw [hu2]; simp)
               | 16, _, ho => cases ho; exact zgo fun g d hdep => znc rfl trivial _ _ _ rfl rfl rfl
               | 17, _, ho => cases ho; exact zgo fun g d hdep => zfa rfl trivial _ _ _ _ rfl rfl (fun w hw => faN2 w _ _)
               | 18, _, ho => cases ho; exact stepG_store rfl rfl rfl _ _ _ (fun g => .pointer (some ⟨b, m * 5 + 2, none⟩)) (fun g => .int .i64 x.ta) rfl (fun g => by kernel_rfl) (fun g => by kernel_rfl) (fun g d V hJ hun hdep => by obtain ⟨u2, hu2, hJ'⟩ := hJ; refine ⟨_, st_in (hJ'.he.cn (i := m) (o := u2) (by simp [hml]) (j := 2) (by decide) rfl) (hJ'.he.frzg _), { u2 with tag := x.ta }, ?_, hJ'.he.nput2 hml (j := 2) (by decide) rfl, (Below.heap_setCell _ _ _ _ (hqb hJ'.he hJ'.bx)).trans hJ'.bx, hJ'.tn.trans (Tn.putg _ _ _ _ _)⟩; rw [hu2]; simp)
               | 19, _, ho => cases ho; exact zgo fun g d hdep => znc rfl trivial _ _ _ rfl rfl rfl
               | 20, _, ho => cases ho; exact zgo fun g d hdep => zfa rfl trivial _ _ _ _ rfl rfl (fun w hw => faN3 w _ _)
               | 21, _, ho => cases ho; exact stepG_store rfl rfl rfl _ _ _ (fun g => .pointer (some ⟨b, m * 5 + 3, none⟩)) (fun g => .int .i64 x.ro) rfl (fun g => by kernel_rfl) (fun g => by kernel_rfl) (fun g d V hJ hun hdep => by obtain ⟨u2, hu2, hJ'⟩ := hJ; refine ⟨_, st_in (hJ'.he.cn (i := m) (o := u2) (by simp [hml]) (j := 3) (by decide) rfl) (hJ'.he.frzg _), { u2 with op := x.ro }, ?_, hJ'.he.nput2 hml (j := 3) (by decide) rfl, (Below.heap_setCell _ _ _ _ (hqb hJ'.he hJ'.bx)).trans hJ'.bx, hJ'.tn.trans (Tn.putg _ _ _ _ _)⟩; rw [hu2]; simp)
             intro g d W hall hW
             first | refine hK _ _ ?_ | refine (‹∀ (a : Act) (w : World), Code.wp Try.prog _ _ a w → _›) _ _ ?_ | skip
             simp only [finL, List.getD_cons_zero, List.getD_cons_succ, Nat.zero_add, Nat.reduceAdd, List.setIfInBounds_toArray, List.set_cons_zero, List.set_cons_succ]
             rw [hall 12 (by decide), hall 15 (by decide), hall 18 (by decide), hall 21 (by decide)] at hW
             obtain ⟨u2, hu2, hJ5⟩ := hW
             simp only [if_true] at hu2
             go_end0
             exact lw_yes (by simp only [law1, h2_0, h2_1, h3_0, h3_1, h4_0, h4_1]; rfl) (hu2 ▸ hJ5.he) hJ5.tn
end Go.Proofs.Ytifcnnonnocmmaa
namespace Go.Proofs.Ytifcnnonnocmmaa
open Go.RowKit Go.Shelf Go.Lib
attribute [local go_sem] Oper.semAt_some
theorem run_store_in {P : Program} (w : World) (g o : Nat) (t ty : TypeId) (cur vs : List Value) (hg : w.heap[g]? = some (.cells cur.toArray t (0, 0))) (hi : (P.info? ty).map (·.size) = some vs.length) (hf : o + vs.length ≤ cur.length) (h1 : ∀ v ∈ vs, v.oneCell' = true) :
  (Instr.storeAt ty (.pointer (some ⟨g, o, none⟩)) (.agg vs.toArray)).run P w = .ok () (w.setRow g (splice cur o vs).toArray) := by
 have := run_storeCells_at P g o t vs 0 cur.toArray w hg (by simpa using hf) h1
 cases hq : P.info? ty with
 | none => simp [hq] at hi
 | some i =>
  have hs : vs.length = i.size := by simp [hq] at hi; omega
  simp only [Nat.add_zero] at this
  simp [Instr.storeAt, Instr.sureAddr, storeVar, sizeOf, typeInfo, hq, Value.cells, hs, this, splice]
theorem wpList_store_in {P : Program} {ops : Array Oper} {rest : List Oper} {o : Oper} {a : Act} {w : World} {Q : Exit → Act → World → Prop} (hgd : o.guard = none) (ty : TypeId) (x y : Operand) (ho : o.op = .store ty x y)
  (g off : Nat) (t : TypeId) (cur vs : List Value) (hx : a.eval x = .pointer (some ⟨g, off, none⟩)) (hy : a.eval y = .agg vs.toArray) (hg : w.heap[g]? = some (.cells cur.toArray t (0, 0))) (hi : (P.info? ty).map (·.size) = some vs.length) (hf : off + vs.length ≤ cur.length) (h1 : ∀ v ∈ vs, v.oneCell' = true)
  (h : wpList P ops Q rest (a.put o.dst undef) (w.setRow g (splice cur off vs).toArray)) : wpList P ops Q (o :: rest) a w :=
 wpList_plain hgd fun K hK => by
  unfold Oper.wp execOp
  simp only [ho, hx, hy, Sem.run_bind, run_store_in w g off t ty cur vs hg hi hf h1, Result.andThen_ok]
  exact hK _ _ h
def rwC (c : Ev) (la : Int) : List Value := [.int .i64 c.k, .int .i64 c.nd, .int .i64 c.li, .int .i64 c.ro, .int .i64 c.ta, .int .i64 c.of, .int .i64 c.du, .int .u32 (wd c.he 0 : Nat), .int .u32 (wd c.he 1 : Nat), .int .u32 (wd c.he 2 : Nat), .int .u32 (wd c.he 3 : Nat), .int .u32 (wd c.un 0 : Nat), .int .u32 (wd c.un 1 : Nat), .int .u32 (wd c.un 2 : Nat), .int .u32 (wd c.un 3 : Nat), .int .i64 la]
theorem rwC_one (c : Ev) (la : Int) : ∀ v ∈ rwC c la, v.oneCell' = true := by
 intro v hv
 simp only [rwC, List.mem_cons, List.not_mem_nil, or_false] at hv
 rcases hv with h | h | h | h | h | h | h | h | h | h | h | h | h | h | h | h <;> subst h <;> rfl
theorem info_rw : (Try.prog.info? 41).map (·.size) = some 16 := by kernel_rfl
theorem He.row {W : World} {p b : Nat} {need pl : Int} {s : Hs} (h : He W p b need pl s) (c : Ev) (la : Int) : He (W.setRow p (splice (heC need pl b s.nds.length s.c s.la).toList 3 (rwC c la)).toArray) p b need pl { s with c := c, la := la } :=
 ⟨(setRow_heap W p _ _ _ _ h.box).trans rfl, (setRow_other W p b _ (fun e => h.ne e.symm)).trans h.nod, h.ne⟩
theorem Tn.row (W : World) (p b : Nat) (cs : Array Value) : Tn p (some b) (some b) W (W.setRow p cs) := ⟨rfl, rfl, rfl, by simp [World.setRow], fun k _ h1 _ => setRow_other W p k _ h1, .inl rfl⟩
theorem load_ev {W : World} {B o : Nat} {x : Ev} (h : ∀ j v, (ecA x)[j]? = some v → W.cell? ⟨B, o + j, none⟩ = some v) : (Instr.loadAt 34 (.pointer (some ⟨B, o, none⟩))).run Try.prog W = .ok (.agg (ecA x)) W := by
 have h0 := h 0 (.int .i64 x.k) rfl
 have h1 := h 1 (.int .i64 x.nd) rfl
 have h2 := h 2 (.int .i64 x.li) rfl
 have h3 := h 3 (.int .i64 x.ro) rfl
 have h4 := h 4 (.int .i64 x.ta) rfl
 have h5 := h 5 (.int .i64 x.of) rfl
 have h6 := h 6 (.int .i64 x.du) rfl
 have h7 := h 7 (.int .u32 (wd x.he 0 : Nat)) rfl
 have h8 := h 8 (.int .u32 (wd x.he 1 : Nat)) rfl
 have h9 := h 9 (.int .u32 (wd x.he 2 : Nat)) rfl
 have h10 := h 10 (.int .u32 (wd x.he 3 : Nat)) rfl
 have h11 := h 11 (.int .u32 (wd x.un 0 : Nat)) rfl
 have h12 := h 12 (.int .u32 (wd x.un 1 : Nat)) rfl
 have h13 := h 13 (.int .u32 (wd x.un 2 : Nat)) rfl
 have h14 := h 14 (.int .u32 (wd x.un 3 : Nat)) rfl
 clear h
 rw [Nat.add_zero] at h0
 unfold ecA
 go_simp
theorem load_bx {W : World} {B : Nat} {x : Ev} (h : W.heap[B]? = some (.cells (ecA x) 34 (0, 0))) : (Instr.loadAt 34 (.pointer (some ⟨B, 0, none⟩))).run Try.prog W = .ok (.agg (ecA x)) W :=
 load_ev (fun j v hj => by rw [Nat.zero_add, zca h, hj])
theorem close_any {w : World} {p b : Nat} {need pl : Int} {s : Hs} {m : Nat} {u : Nod} {x : Ev} (h : He w p b need pl s) (hm : s.nds[m]? = some u) (hx : x.nd = (m : Int)) (hhe : x.he < S128) (hun : x.un < S128) : Calls Try.prog 24 #[.pointer (some ⟨p, 0, none⟩), evV x] w (Lw p b need pl w (law3 need s x u)) := by
 have hmx : Try.prog.follows .mixedOrders = true := by kernel_rfl
 have hml : m < s.nds.length := (List.getElem?_eq_some_iff.1 hm).1
 have hJ0 := JB.new h x
 have HX : Hid (x.nd = (m : Int)) := hx
 clear hx
 unfold evV ecA
 go_enter Try.func24, Try.ntmps24
 have cp2 : (w.alloc (.cells (ecA x) 34)).cell? ⟨p, 2, none⟩ = some (.slice (some ⟨b, 0, none⟩) s.nds.length s.nds.length) := (zca hJ0.he.box 2).trans rfl
 unfold ecA at cp2
 go_wp2
 rename_i hK
 cases h2_0 : (x.ro == u.op) with
 | false =>
  refine wp_region_any hmx ?_
  refine wpAny_dies 13 (fun i__ => ([(.pointer (some ⟨p, 0, none⟩)), (.pointer (some ⟨w.heap.size, 3, none⟩)), (.int .i64 x.ro), (.pointer (some ⟨p, 0, none⟩)), (.pointer (some ⟨p, 0, none⟩)), (.pointer (some ⟨p, 2, none⟩)), (.slice (some ⟨b, 0, none⟩) s.nds.length s.nds.length), (.pointer (some ⟨w.heap.size, 1, none⟩)), (.int .i64 x.nd), (.pointer (some ⟨b, m * 5, none⟩)), (.pointer (some ⟨b, m * 5 + 3, none⟩)), (.int .i64 u.op), (.bool false), undef] : List Value).getD i__ undef) (fun V => JB w p b w.heap.size need pl s x V) rfl (by kernel_rfl) (hJ0.carry (Below.refl _ _).drew) ?_ ?_
  · refine (sqc ?_ (sqc ?_ (sqc ?_ (sqc ?_ (sqc ?_ (sqc ?_ (sqc ?_ (sqc ?_ (sqc ?_ (sqc ?_ (sqc ?_ (sqc ?_ (sqc ?_ trivial)))))))))))))
    · exact zmv rfl trivial _ rfl (by kernel_rfl)
    · exact zfa rfl trivial _ _ _ _ rfl rfl (fun w hw => faE3 w _ _)
    · exact zld rfl trivial _ _ _ rfl rfl (fun w hw => load_in ((zca hw.bx 3).trans rfl))
    · exact zmv rfl trivial _ rfl (by kernel_rfl)
    · exact znc rfl trivial _ _ _ rfl rfl rfl
    · exact zfa rfl trivial _ _ _ _ rfl rfl (fun w hw => faH2 w _ _)
    · exact zld rfl trivial _ _ _ rfl rfl (fun w hw => load_ns ((zca hw.he.box 2).trans rfl))
    · exact zfa rfl trivial _ _ _ _ rfl rfl (fun w hw => faE1 w _ _)
    · exact zld rfl trivial _ _ _ rfl rfl (fun w hw => load_in ((zca hw.bx 1).trans rfl))
    · exact zia rfl trivial _ _ _ _ _ rfl rfl rfl (fun w hw => by rw [HX.out]; exact idx_n b _ m hml w)
    · exact zfa rfl trivial _ _ _ _ rfl rfl (fun w hw => faN3 w _ _)
    · exact zld rfl trivial _ _ _ rfl rfl (fun w hw => load_in (hw.he.cn hm (by decide) (j := 3) rfl))
    · exact zbo rfl trivial _ _ _ _ _ _ _ rfl rfl rfl (fun w hw => by rw [← h2_0]; exact bin_eql _ _ _)
  · intro o ho
    cases ho
    exact call_dies rfl trivial 16 _ _ [(.pointer (some ⟨p, 0, none⟩)), (.bool false)] rfl (by kernel_rfl) (enters_of Try.func16 (by kernel_rfl) rfl) (off pl) (J2 := fun V => Tn p (some b) (some b) w V) (fun w hw => (must_no hw.he).mono (by rintro e w' ⟨rfl, rfl⟩; exact ⟨rfl, hw.tn⟩)) (fun a w hd hb => ⟨hd, lw_no (by simp only [law3, h2_0]; rfl) hb⟩)
 | true =>
  refine wp_region_any hmx ?_
  refine zwp (fun i__ => ([(.pointer (some ⟨p, 0, none⟩)), (.pointer (some ⟨w.heap.size, 3, none⟩)), (.int .i64 x.ro), (.pointer (some ⟨p, 0, none⟩)), (.pointer (some ⟨p, 0, none⟩)), (.pointer (some ⟨p, 2, none⟩)), (.slice (some ⟨b, 0, none⟩) s.nds.length s.nds.length), (.pointer (some ⟨w.heap.size, 1, none⟩)), (.int .i64 x.nd), (.pointer (some ⟨b, m * 5, none⟩)), (.pointer (some ⟨b, m * 5 + 3, none⟩)), (.int .i64 u.op), (.bool true), (.tuple #[])] : List Value).getD i__ undef) (fun V => JB w p b w.heap.size need pl s x V) (by kernel_rfl) (hJ0.carry (Below.refl _ _).drew) ?_ ?_
  · refine (sqc ?_ (sqc ?_ (sqc ?_ (sqc ?_ (sqc ?_ (sqc ?_ (sqc ?_ (sqc ?_ (sqc ?_ (sqc ?_ (sqc ?_ (sqc ?_ (sqc ?_ (sqc ?_ trivial))))))))))))))
    · exact zmv rfl trivial _ rfl (by kernel_rfl)
    · exact zfa rfl trivial _ _ _ _ rfl rfl (fun w hw => faE3 w _ _)
    · exact zld rfl trivial _ _ _ rfl rfl (fun w hw => load_in ((zca hw.bx 3).trans rfl))
    · exact zmv rfl trivial _ rfl (by kernel_rfl)
    · exact znc rfl trivial _ _ _ rfl rfl rfl
    · exact zfa rfl trivial _ _ _ _ rfl rfl (fun w hw => faH2 w _ _)
    · exact zld rfl trivial _ _ _ rfl rfl (fun w hw => load_ns ((zca hw.he.box 2).trans rfl))
    · exact zfa rfl trivial _ _ _ _ rfl rfl (fun w hw => faE1 w _ _)
    · exact zld rfl trivial _ _ _ rfl rfl (fun w hw => load_in ((zca hw.bx 1).trans rfl))
    · exact zia rfl trivial _ _ _ _ _ rfl rfl rfl (fun w hw => by rw [HX.out]; exact idx_n b _ m hml w)
    · exact zfa rfl trivial _ _ _ _ rfl rfl (fun w hw => faN3 w _ _)
    · exact zld rfl trivial _ _ _ rfl rfl (fun w hw => load_in (hw.he.cn hm (by decide) (j := 3) rfl))
    · exact zbo rfl trivial _ _ _ _ _ _ _ rfl rfl rfl (fun w hw => by rw [← h2_0]; exact bin_eql _ _ _)
    · exact zsc rfl trivial 16 _ _ [(.pointer (some ⟨p, 0, none⟩)), (.bool true)] rfl (by kernel_rfl) (enters_of Try.func16 (by kernel_rfl) rfl) (fun w hw => (must_yes _ w).mono (by rintro e w' ⟨rfl, rfl⟩; exact ⟨rfl, hw⟩))
  intro W hW
  first | refine hK _ _ ?_ | refine (‹∀ (a : Act) (w : World), Code.wp Try.prog _ _ a w → _›) _ _ ?_ | skip
  simp only [finL, List.getD_cons_zero, List.getD_cons_succ, Nat.zero_add, Nat.reduceAdd, List.setIfInBounds_toArray, List.set_cons_zero, List.set_cons_succ]
  obtain ⟨W2, rfl⟩ : ∃ V, V = W := ⟨_, rfl⟩
  have hJ2 := hW
  clear hW hK
  go_wp2
  rename_i hK
  cases h3_0 : wthB x.he (s.nds.length : Int) with
  | false =>
    refine wp_region_any hmx ?_
    refine wpAny_dies 22 (fun i__ => ([(.pointer (some ⟨p, 0, none⟩)), (.pointer (some ⟨w.heap.size, 7, none⟩)), (sv x.he), (.int .i64 (s.nds.length : Int)), (.bool false), (.bool false), undef, undef, undef, undef, undef, undef, undef, undef, (.bool false), (.bool false), undef, undef, undef, undef, undef, (.bool false), undef] : List Value).getD i__ undef) (fun V => JB w p b w.heap.size need pl s x V) rfl (by kernel_rfl) (hJ2.carry (Below.refl _ _).drew) ?_ ?_
    · refine (sqc ?_ (sqc ?_ (sqc ?_ (sqc ?_ (sqc ?_ (sqc ?_ (sqc ?_ (sqc ?_ (sqc ?_ (sqc ?_ (sqc ?_ (sqc ?_ (sqc ?_ (sqc ?_ (sqc ?_ (sqc ?_ (sqc ?_ (sqc ?_ (sqc ?_ (sqc ?_ (sqc ?_ (sqc ?_ trivial))))))))))))))))))))))
      · exact zmv rfl trivial _ rfl (by kernel_rfl)
      · exact zfa rfl trivial _ _ _ _ rfl rfl (fun w hw => faE7 w _ _)
      · exact zld rfl trivial _ _ _ rfl rfl (fun w hw => load_se (N := x.he) ((zca hw.bx 7).trans rfl) ((zca hw.bx 8).trans rfl) ((zca hw.bx 9).trans rfl) ((zca hw.bx 10).trans rfl))
      · exact zmv rfl trivial _ rfl (by kernel_rfl)
      · exact zsc rfl trivial 35 _ _ [(sv x.he), (.int .i64 (s.nds.length : Int))] rfl (by kernel_rfl) (enters_of Try.func35 (by kernel_rfl) rfl) (fun w hw => (within_any _ (by assumption) _ w).mono (by rintro e w' ⟨rfl, hb⟩; exact ⟨congrArg (fun z => Ending.returned (Value.bool z)) h3_0, hw.carry hb⟩))
      · exact zmv rfl trivial _ rfl (by kernel_rfl)
      · exact zsk rfl 5 true 29 (.bool false) rfl rfl (by kernel_rfl) (by intro h; cases h) rfl
      · exact zsk rfl 5 true 29 (.bool false) rfl rfl (by kernel_rfl) (by intro h; cases h) rfl
      · exact zsk rfl 5 true 29 (.bool false) rfl rfl (by kernel_rfl) (by intro h; cases h) rfl
      · exact zsk rfl 5 true 29 (.bool false) rfl rfl (by kernel_rfl) (by intro h; cases h) rfl
      · exact zsk rfl 5 true 29 (.bool false) rfl rfl (by kernel_rfl) (by intro h; cases h) rfl
      · exact zsk rfl 5 true 29 (.bool false) rfl rfl (by kernel_rfl) (by intro h; cases h) rfl
      · exact zsk rfl 5 true 29 (.bool false) rfl rfl (by kernel_rfl) (by intro h; cases h) rfl
      · exact zsk rfl 5 true 29 (.bool false) rfl rfl (by kernel_rfl) (by intro h; cases h) rfl
      · exact step_pick rfl trivial _ _ _ false rfl (by kernel_rfl) (by kernel_rfl)
      · exact zmv rfl trivial _ rfl (by kernel_rfl)
      · exact zsk rfl 15 true 39 (.bool false) rfl rfl (by kernel_rfl) (by intro h; cases h) rfl
      · exact zsk rfl 15 true 39 (.bool false) rfl rfl (by kernel_rfl) (by intro h; cases h) rfl
      · exact zsk rfl 15 true 39 (.bool false) rfl rfl (by kernel_rfl) (by intro h; cases h) rfl
      · exact zsk rfl 15 true 39 (.bool false) rfl rfl (by kernel_rfl) (by intro h; cases h) rfl
      · exact zsk rfl 15 true 39 (.bool false) rfl rfl (by kernel_rfl) (by intro h; cases h) rfl
      · exact step_pick rfl trivial _ _ _ false rfl (by kernel_rfl) (by kernel_rfl)
    · intro o ho
      cases ho
      exact call_dies rfl trivial 16 _ _ [(.pointer (some ⟨p, 0, none⟩)), (.bool false)] rfl (by kernel_rfl) (enters_of Try.func16 (by kernel_rfl) rfl) (off pl) (J2 := fun V => Tn p (some b) (some b) w V) (fun w hw => (must_no hw.he).mono (by rintro e w' ⟨rfl, rfl⟩; exact ⟨rfl, hw.tn⟩)) (fun a w hd hb => ⟨hd, lw_no (by simp only [law3, h2_0, h3_0]; rfl) hb⟩)
  | true =>
    cases h3_1 : (((cnt (cln x.he) : Nat) : Int) == need) with
    | false =>
      refine wp_region_any hmx ?_
      refine wpAny_dies 22 (fun i__ => ([(.pointer (some ⟨p, 0, none⟩)), (.pointer (some ⟨w.heap.size, 7, none⟩)), (sv x.he), (.int .i64 (s.nds.length : Int)), (.bool true), (.bool true), (.pointer (some ⟨w.heap.size, 7, none⟩)), (sv x.he), (.int .i64 ((cnt (cln x.he) : Nat) : Int)), (.pointer (some ⟨p, 0, none⟩)), (.pointer (some ⟨p, 0, none⟩)), (.pointer (some ⟨p, 0, none⟩)), (.int .i64 need), (.bool false), (.bool false), (.bool false), undef, undef, undef, undef, undef, (.bool false), undef] : List Value).getD i__ undef) (fun V => JB w p b w.heap.size need pl s x V) rfl (by kernel_rfl) (hJ2.carry (Below.refl _ _).drew) ?_ ?_
      · refine (sqc ?_ (sqc ?_ (sqc ?_ (sqc ?_ (sqc ?_ (sqc ?_ (sqc ?_ (sqc ?_ (sqc ?_ (sqc ?_ (sqc ?_ (sqc ?_ (sqc ?_ (sqc ?_ (sqc ?_ (sqc ?_ (sqc ?_ (sqc ?_ (sqc ?_ (sqc ?_ (sqc ?_ (sqc ?_ trivial))))))))))))))))))))))
        · exact zmv rfl trivial _ rfl (by kernel_rfl)
        · exact zfa rfl trivial _ _ _ _ rfl rfl (fun w hw => faE7 w _ _)
        · exact zld rfl trivial _ _ _ rfl rfl (fun w hw => load_se (N := x.he) ((zca hw.bx 7).trans rfl) ((zca hw.bx 8).trans rfl) ((zca hw.bx 9).trans rfl) ((zca hw.bx 10).trans rfl))
        · exact zmv rfl trivial _ rfl (by kernel_rfl)
        · exact zsc rfl trivial 35 _ _ [(sv x.he), (.int .i64 (s.nds.length : Int))] rfl (by kernel_rfl) (enters_of Try.func35 (by kernel_rfl) rfl) (fun w hw => (within_any _ (by assumption) _ w).mono (by rintro e w' ⟨rfl, hb⟩; exact ⟨congrArg (fun z => Ending.returned (Value.bool z)) h3_0, hw.carry hb⟩))
        · exact zmv rfl trivial _ rfl (by kernel_rfl)
        · exact zfa rfl ⟨_, rfl, by kernel_rfl⟩ _ _ _ _ rfl rfl (fun w hw => faE7 w _ _)
        · exact zld rfl ⟨_, rfl, by kernel_rfl⟩ _ _ _ rfl rfl (fun w hw => load_se (N := x.he) ((zca hw.bx 7).trans rfl) ((zca hw.bx 8).trans rfl) ((zca hw.bx 9).trans rfl) ((zca hw.bx 10).trans rfl))
        · exact zsc rfl ⟨_, rfl, by kernel_rfl⟩ 36 _ _ [(sv x.he)] rfl (by kernel_rfl) (enters_of Try.func36 (by kernel_rfl) rfl) (fun w hw => (count_any _ w).mono (by rintro e w' ⟨rfl, hb⟩; exact ⟨rfl, hw.carry hb⟩))
        · exact zmv rfl ⟨_, rfl, by kernel_rfl⟩ _ rfl (by kernel_rfl)
        · exact znc rfl ⟨_, rfl, by kernel_rfl⟩ _ _ _ rfl rfl rfl
        · exact zfa rfl ⟨_, rfl, by kernel_rfl⟩ _ _ _ _ rfl rfl (fun w hw => faH0 w _ _)
        · exact zld rfl ⟨_, rfl, by kernel_rfl⟩ _ _ _ rfl rfl (fun w hw => load_in ((zca hw.he.box 0).trans rfl))
        · exact zbo rfl ⟨_, rfl, by kernel_rfl⟩ _ _ _ _ _ _ _ rfl rfl rfl (fun w hw => by rw [← h3_1]; exact bin_eql _ _ _)
        · exact step_pick rfl trivial _ _ _ true rfl (by kernel_rfl) (by kernel_rfl)
        · exact zmv rfl trivial _ rfl (by kernel_rfl)
        · exact zsk rfl 15 true 39 (.bool false) rfl rfl (by kernel_rfl) (by intro h; cases h) rfl
        · exact zsk rfl 15 true 39 (.bool false) rfl rfl (by kernel_rfl) (by intro h; cases h) rfl
        · exact zsk rfl 15 true 39 (.bool false) rfl rfl (by kernel_rfl) (by intro h; cases h) rfl
        · exact zsk rfl 15 true 39 (.bool false) rfl rfl (by kernel_rfl) (by intro h; cases h) rfl
        · exact zsk rfl 15 true 39 (.bool false) rfl rfl (by kernel_rfl) (by intro h; cases h) rfl
        · exact step_pick rfl trivial _ _ _ false rfl (by kernel_rfl) (by kernel_rfl)
      · intro o ho
        cases ho
        exact call_dies rfl trivial 16 _ _ [(.pointer (some ⟨p, 0, none⟩)), (.bool false)] rfl (by kernel_rfl) (enters_of Try.func16 (by kernel_rfl) rfl) (off pl) (J2 := fun V => Tn p (some b) (some b) w V) (fun w hw => (must_no hw.he).mono (by rintro e w' ⟨rfl, rfl⟩; exact ⟨rfl, hw.tn⟩)) (fun a w hd hb => ⟨hd, lw_no (by simp only [law3, h2_0, h3_0, h3_1]; rfl) hb⟩)
    | true =>
      cases h3_2 : hasB x.he x.nd with
      | false =>
        refine wp_region_any hmx ?_
        refine wpAny_dies 22 (fun i__ => ([(.pointer (some ⟨p, 0, none⟩)), (.pointer (some ⟨w.heap.size, 7, none⟩)), (sv x.he), (.int .i64 (s.nds.length : Int)), (.bool true), (.bool true), (.pointer (some ⟨w.heap.size, 7, none⟩)), (sv x.he), (.int .i64 ((cnt (cln x.he) : Nat) : Int)), (.pointer (some ⟨p, 0, none⟩)), (.pointer (some ⟨p, 0, none⟩)), (.pointer (some ⟨p, 0, none⟩)), (.int .i64 need), (.bool true), (.bool true), (.bool true), (.pointer (some ⟨w.heap.size, 7, none⟩)), (sv x.he), (.pointer (some ⟨w.heap.size, 1, none⟩)), (.int .i64 x.nd), (.bool false), (.bool false), undef] : List Value).getD i__ undef) (fun V => JB w p b w.heap.size need pl s x V) rfl (by kernel_rfl) (hJ2.carry (Below.refl _ _).drew) ?_ ?_
        · refine (sqc ?_ (sqc ?_ (sqc ?_ (sqc ?_ (sqc ?_ (sqc ?_ (sqc ?_ (sqc ?_ (sqc ?_ (sqc ?_ (sqc ?_ (sqc ?_ (sqc ?_ (sqc ?_ (sqc ?_ (sqc ?_ (sqc ?_ (sqc ?_ (sqc ?_ (sqc ?_ (sqc ?_ (sqc ?_ trivial))))))))))))))))))))))
          · exact zmv rfl trivial _ rfl (by kernel_rfl)
          · exact zfa rfl trivial _ _ _ _ rfl rfl (fun w hw => faE7 w _ _)
          · exact zld rfl trivial _ _ _ rfl rfl (fun w hw => load_se (N := x.he) ((zca hw.bx 7).trans rfl) ((zca hw.bx 8).trans rfl) ((zca hw.bx 9).trans rfl) ((zca hw.bx 10).trans rfl))
          · exact zmv rfl trivial _ rfl (by kernel_rfl)
          · exact zsc rfl trivial 35 _ _ [(sv x.he), (.int .i64 (s.nds.length : Int))] rfl (by kernel_rfl) (enters_of Try.func35 (by kernel_rfl) rfl) (fun w hw => (within_any _ (by assumption) _ w).mono (by rintro e w' ⟨rfl, hb⟩; exact ⟨congrArg (fun z => Ending.returned (Value.bool z)) h3_0, hw.carry hb⟩))
          · exact zmv rfl trivial _ rfl (by kernel_rfl)
          · exact zfa rfl ⟨_, rfl, by kernel_rfl⟩ _ _ _ _ rfl rfl (fun w hw => faE7 w _ _)
          · exact zld rfl ⟨_, rfl, by kernel_rfl⟩ _ _ _ rfl rfl (fun w hw => load_se (N := x.he) ((zca hw.bx 7).trans rfl) ((zca hw.bx 8).trans rfl) ((zca hw.bx 9).trans rfl) ((zca hw.bx 10).trans rfl))
          · exact zsc rfl ⟨_, rfl, by kernel_rfl⟩ 36 _ _ [(sv x.he)] rfl (by kernel_rfl) (enters_of Try.func36 (by kernel_rfl) rfl) (fun w hw => (count_any _ w).mono (by rintro e w' ⟨rfl, hb⟩; exact ⟨rfl, hw.carry hb⟩))
          · exact zmv rfl ⟨_, rfl, by kernel_rfl⟩ _ rfl (by kernel_rfl)
          · exact znc rfl ⟨_, rfl, by kernel_rfl⟩ _ _ _ rfl rfl rfl
          · exact zfa rfl ⟨_, rfl, by kernel_rfl⟩ _ _ _ _ rfl rfl (fun w hw => faH0 w _ _)
          · exact zld rfl ⟨_, rfl, by kernel_rfl⟩ _ _ _ rfl rfl (fun w hw => load_in ((zca hw.he.box 0).trans rfl))
          · exact zbo rfl ⟨_, rfl, by kernel_rfl⟩ _ _ _ _ _ _ _ rfl rfl rfl (fun w hw => by rw [← h3_1]; exact bin_eql _ _ _)
          · exact step_pick rfl trivial _ _ _ true rfl (by kernel_rfl) (by kernel_rfl)
          · exact zmv rfl trivial _ rfl (by kernel_rfl)
          · exact zfa rfl ⟨_, rfl, by kernel_rfl⟩ _ _ _ _ rfl rfl (fun w hw => faE7 w _ _)
          · exact zld rfl ⟨_, rfl, by kernel_rfl⟩ _ _ _ rfl rfl (fun w hw => load_se (N := x.he) ((zca hw.bx 7).trans rfl) ((zca hw.bx 8).trans rfl) ((zca hw.bx 9).trans rfl) ((zca hw.bx 10).trans rfl))
          · exact zfa rfl ⟨_, rfl, by kernel_rfl⟩ _ _ _ _ rfl rfl (fun w hw => faE1 w _ _)
          · exact zld rfl ⟨_, rfl, by kernel_rfl⟩ _ _ _ rfl rfl (fun w hw => load_in ((zca hw.bx 1).trans rfl))
          · exact zsc rfl ⟨_, rfl, by kernel_rfl⟩ 37 _ _ [(sv x.he), (.int .i64 x.nd)] rfl (by kernel_rfl) (enters_of Try.func37 (by kernel_rfl) rfl) (fun w hw => (has_any _ _ w).mono (by rintro e w' ⟨rfl, hb⟩; exact ⟨congrArg (fun z => Ending.returned (Value.bool z)) h3_2, hw.carry hb⟩))
          · exact step_pick rfl trivial _ _ _ true rfl (by kernel_rfl) (by kernel_rfl)
        · intro o ho
          cases ho
          exact call_dies rfl trivial 16 _ _ [(.pointer (some ⟨p, 0, none⟩)), (.bool false)] rfl (by kernel_rfl) (enters_of Try.func16 (by kernel_rfl) rfl) (off pl) (J2 := fun V => Tn p (some b) (some b) w V) (fun w hw => (must_no hw.he).mono (by rintro e w' ⟨rfl, rfl⟩; exact ⟨rfl, hw.tn⟩)) (fun a w hd hb => ⟨hd, lw_no (by simp only [law3, h2_0, h3_0, h3_1, h3_2]; rfl) hb⟩)
      | true =>
        refine wp_region_any hmx ?_
        refine zwp (fun i__ => ([(.pointer (some ⟨p, 0, none⟩)), (.pointer (some ⟨w.heap.size, 7, none⟩)), (sv x.he), (.int .i64 (s.nds.length : Int)), (.bool true), (.bool true), (.pointer (some ⟨w.heap.size, 7, none⟩)), (sv x.he), (.int .i64 ((cnt (cln x.he) : Nat) : Int)), (.pointer (some ⟨p, 0, none⟩)), (.pointer (some ⟨p, 0, none⟩)), (.pointer (some ⟨p, 0, none⟩)), (.int .i64 need), (.bool true), (.bool true), (.bool true), (.pointer (some ⟨w.heap.size, 7, none⟩)), (sv x.he), (.pointer (some ⟨w.heap.size, 1, none⟩)), (.int .i64 x.nd), (.bool true), (.bool true), (.tuple #[])] : List Value).getD i__ undef) (fun V => JB w p b w.heap.size need pl s x V) (by kernel_rfl) (hJ2.carry (Below.refl _ _).drew) ?_ ?_
        · refine (sqc ?_ (sqc ?_ (sqc ?_ (sqc ?_ (sqc ?_ (sqc ?_ (sqc ?_ (sqc ?_ (sqc ?_ (sqc ?_ (sqc ?_ (sqc ?_ (sqc ?_ (sqc ?_ (sqc ?_ (sqc ?_ (sqc ?_ (sqc ?_ (sqc ?_ (sqc ?_ (sqc ?_ (sqc ?_ (sqc ?_ trivial)))))))))))))))))))))))
          · exact zmv rfl trivial _ rfl (by kernel_rfl)
          · exact zfa rfl trivial _ _ _ _ rfl rfl (fun w hw => faE7 w _ _)
          · exact zld rfl trivial _ _ _ rfl rfl (fun w hw => load_se (N := x.he) ((zca hw.bx 7).trans rfl) ((zca hw.bx 8).trans rfl) ((zca hw.bx 9).trans rfl) ((zca hw.bx 10).trans rfl))
          · exact zmv rfl trivial _ rfl (by kernel_rfl)
          · exact zsc rfl trivial 35 _ _ [(sv x.he), (.int .i64 (s.nds.length : Int))] rfl (by kernel_rfl) (enters_of Try.func35 (by kernel_rfl) rfl) (fun w hw => (within_any _ (by assumption) _ w).mono (by rintro e w' ⟨rfl, hb⟩; exact ⟨congrArg (fun z => Ending.returned (Value.bool z)) h3_0, hw.carry hb⟩))
          · exact zmv rfl trivial _ rfl (by kernel_rfl)
          · exact zfa rfl ⟨_, rfl, by kernel_rfl⟩ _ _ _ _ rfl rfl (fun w hw => faE7 w _ _)
          · exact zld rfl ⟨_, rfl, by kernel_rfl⟩ _ _ _ rfl rfl (fun w hw => load_se (N := x.he) ((zca hw.bx 7).trans rfl) ((zca hw.bx 8).trans rfl) ((zca hw.bx 9).trans rfl) ((zca hw.bx 10).trans rfl))
          · exact zsc rfl ⟨_, rfl, by kernel_rfl⟩ 36 _ _ [(sv x.he)] rfl (by kernel_rfl) (enters_of Try.func36 (by kernel_rfl) rfl) (fun w hw => (count_any _ w).mono (by rintro e w' ⟨rfl, hb⟩; exact ⟨rfl, hw.carry hb⟩))
          · exact zmv rfl ⟨_, rfl, by kernel_rfl⟩ _ rfl (by kernel_rfl)
          · exact znc rfl ⟨_, rfl, by kernel_rfl⟩ _ _ _ rfl rfl rfl
          · exact zfa rfl ⟨_, rfl, by kernel_rfl⟩ _ _ _ _ rfl rfl (fun w hw => faH0 w _ _)
          · exact zld rfl ⟨_, rfl, by kernel_rfl⟩ _ _ _ rfl rfl (fun w hw => load_in ((zca hw.he.box 0).trans rfl))
          · exact zbo rfl ⟨_, rfl, by kernel_rfl⟩ _ _ _ _ _ _ _ rfl rfl rfl (fun w hw => by rw [← h3_1]; exact bin_eql _ _ _)
          · exact step_pick rfl trivial _ _ _ true rfl (by kernel_rfl) (by kernel_rfl)
          · exact zmv rfl trivial _ rfl (by kernel_rfl)
          · exact zfa rfl ⟨_, rfl, by kernel_rfl⟩ _ _ _ _ rfl rfl (fun w hw => faE7 w _ _)
          · exact zld rfl ⟨_, rfl, by kernel_rfl⟩ _ _ _ rfl rfl (fun w hw => load_se (N := x.he) ((zca hw.bx 7).trans rfl) ((zca hw.bx 8).trans rfl) ((zca hw.bx 9).trans rfl) ((zca hw.bx 10).trans rfl))
          · exact zfa rfl ⟨_, rfl, by kernel_rfl⟩ _ _ _ _ rfl rfl (fun w hw => faE1 w _ _)
          · exact zld rfl ⟨_, rfl, by kernel_rfl⟩ _ _ _ rfl rfl (fun w hw => load_in ((zca hw.bx 1).trans rfl))
          · exact zsc rfl ⟨_, rfl, by kernel_rfl⟩ 37 _ _ [(sv x.he), (.int .i64 x.nd)] rfl (by kernel_rfl) (enters_of Try.func37 (by kernel_rfl) rfl) (fun w hw => (has_any _ _ w).mono (by rintro e w' ⟨rfl, hb⟩; exact ⟨congrArg (fun z => Ending.returned (Value.bool z)) h3_2, hw.carry hb⟩))
          · exact step_pick rfl trivial _ _ _ true rfl (by kernel_rfl) (by kernel_rfl)
          · exact zsc rfl trivial 16 _ _ [(.pointer (some ⟨p, 0, none⟩)), (.bool true)] rfl (by kernel_rfl) (enters_of Try.func16 (by kernel_rfl) rfl) (fun w hw => (must_yes _ w).mono (by rintro e w' ⟨rfl, rfl⟩; exact ⟨rfl, hw⟩))
        intro W hW
        first | refine hK _ _ ?_ | refine (‹∀ (a : Act) (w : World), Code.wp Try.prog _ _ a w → _›) _ _ ?_ | skip
        simp only [finL, List.getD_cons_zero, List.getD_cons_succ, Nat.zero_add, Nat.reduceAdd, List.setIfInBounds_toArray, List.set_cons_zero, List.set_cons_succ]
        obtain ⟨W3, rfl⟩ : ∃ V, V = W := ⟨_, rfl⟩
        have hJ3 := hW
        clear hW hK
        obtain ⟨c7, c8, c9, c10, c11, c12, c13, c14⟩ := bx_sets hJ3.bx
        have hwi := within_any x.un hun (s.nds.length : Int)
        have hsu := subset_any x.he x.un
        unfold sv at hwi hsu
        cases h4_0 : wthB x.un (s.nds.length : Int) with
        | false =>
          rw [h4_0] at hwi
          go_wp2_with (first | (go_at_call 35; (with_reducible refine (hwi _).mono ?_); rintro e u1 ⟨rfl, hu1⟩; have hJ4 := hJ3.carry hu1; obtain ⟨d7, d8, d9, d10, d11, d12, d13, d14⟩ := bx_sets hJ4.bx) | (go_at_call 38; (with_reducible refine (hsu _).mono ?_); rintro e u2 ⟨rfl, hu2⟩; have hJ5 := hJ4.carry hu2) | (go_at_call 16; (with_reducible refine (must_no hJ4.he).mono ?_); rintro e u3 ⟨rfl, hu3⟩; obtain rfl := hu3.symm))
          exact ⟨rfl, lw_no (by simp only [law3, h2_0, h3_0, h3_1, h3_2, h4_0]; rfl) hJ4.tn⟩
        | true =>
          rw [h4_0] at hwi
          cases h4_1 : decide (cln (dif x.he x.un) = 0) with
          | false =>
            rw [h4_1] at hsu
            go_wp2_with (first | (go_at_call 35; (with_reducible refine (hwi _).mono ?_); rintro e u1 ⟨rfl, hu1⟩; have hJ4 := hJ3.carry hu1; obtain ⟨d7, d8, d9, d10, d11, d12, d13, d14⟩ := bx_sets hJ4.bx) | (go_at_call 38; (with_reducible refine (hsu _).mono ?_); rintro e u2 ⟨rfl, hu2⟩; have hJ5 := hJ4.carry hu2) | (go_at_call 16; (with_reducible refine (must_no hJ5.he).mono ?_); rintro e u3 ⟨rfl, hu3⟩; obtain rfl := hu3.symm))
            exact ⟨rfl, lw_no (by simp only [law3, h2_0, h3_0, h3_1, h3_2, h4_0, h4_1]; rfl) hJ5.tn⟩
          | true =>
            rw [h4_1] at hsu
            go_wp2_with (first | (go_at_call 35; (with_reducible refine (hwi _).mono ?_); rintro e u1 ⟨rfl, hu1⟩; have hJ4 := hJ3.carry hu1; obtain ⟨d7, d8, d9, d10, d11, d12, d13, d14⟩ := bx_sets hJ4.bx) | (go_at_call 38; (with_reducible refine (hsu _).mono ?_); rintro e u2 ⟨rfl, hu2⟩; have hJ5 := hJ4.carry hu2) | (refine wpList_store_in rfl 41 (.tmp 64) (.tmp 62) rfl p 3 43 (heC need pl b s.nds.length s.c s.la).toList (rwC x (-1)) rfl rfl hJ5.he.box info_rw (Nat.le_refl 19) (rwC_one _ _) ?_) | (go_at_call 16; (with_reducible refine (must_yes _ _).mono ?_); rintro e u3 ⟨rfl, hu3⟩; obtain rfl := hu3.symm; obtain ⟨i0, i1, i2, i3, i4, i5, i6⟩ := bx_ints hJ5.bx; obtain ⟨e7, e8, e9, e10, e11, e12, e13, e14⟩ := bx_sets hJ5.bx))
            go_end0
            exact lw_yes (by simp only [law3, h2_0, h3_0, h3_1, h3_2, h4_0, h4_1]; rfl) (hJ5.he.row x (-1)) (hJ5.tn.trans (Tn.row _ _ _ _))
end Go.Proofs.Ytifcnnonnocmmaa
