/- refute's due and Due: what they answer. -/
import Derived.Test.YtlpmehmoeladjaaGreatDoorJnJ2
import Derived.Test.YtlpmehmoeladjaaGreatDoorJnJ10
import Derived.Test.YtlpmehmoeladjaaGreatDoorNtd
import Derived.Test.YtlpmehmoeladjaaGreatDoorProg
import Derived.Test.YtlpmehmoeladjaaGreatDoorBxs
import Derived.Test.YtlpmehmoeladjaaGreatDoorJnJ1
import Derived.Test.YtlpmehmoeladjaaGreatDoorRgf
import Derived.Laws.OwnMore
import Derived.Shelf.Abstract
import Derived.Laws.CopyRow
import Derived.Laws.CopyOwn
import Derived.Test.YtlpmehmoeladjaaGreatDoorBin
import Derived.Shelf.RegionOpen
import Derived.WalkKit
import Derived.WalkSpells
import Derived.OwnWalkIn
import Derived.TacticsInMore
import Derived.LoopNIn
import Derived.LoopIn
import Derived.Lib.OthersKept
import Derived.Deep.Light
import Derived.Laws.IdiomStrings
namespace Go.Proofs.YtlpmehmoeladjaaGreatDoor
open Go.RowKit Go.Shelf Go.Lib

/-- The mistake that is due. -/
def dueN (l : List N3) (self : Int) : Option N3 :=
  if 0 ≤ self ∧ self < (l.length : Int) then
    match l[self.toNat]? with
    | some x => if x.2.2 = 2 ∧ x.2.1 < 1048576 then some (x.1, x.2.1 + 1, 1) else none
    | none => none
  else none
/-- What due answers. -/
def dueV : Option N3 → Value
  | some x => .tuple #[nt x.1 x.2.1 x.2.2, .bool true]
  | none => .tuple #[nt 0 0 0, .bool false]
theorem infoDf : (Tryz.prog.info? 103).map (·.size) = some 2 := by kernel_rfl
theorem dueN_out {l : List N3} {self : Int} (h : ¬ (0 ≤ self ∧ self < (l.length : Int))) : dueN l self = none := if_neg h
theorem dueN_in {l : List N3} {i : Nat} {x : N3} (h : l[i]? = some x) : dueN l (i : Int) = if x.2.2 = 2 ∧ x.2.1 < 1048576 then some (x.1, x.2.1 + 1, 1) else none := by
  have hi : i < l.length := (List.getElem?_eq_some_iff.1 h).1
  rw [dueN, if_pos ⟨by omega, by omega⟩]
  simp only [Int.toNat_natCast, h]
set_option maxHeartbeats 1000000 in
set_option maxRecDepth 100000 in
theorem due_no {w : World} (v : Value) (self E : Int) (hE : (E != 0) = true) (hat : ∀ W, Below w.heap.size w W → Calls Tryz.prog 66 #[v, .int .i64 self] W fun e w' => e = .returned (.tuple #[nt 0 0 0, .int .i64 E]) ∧ Below W.heap.size W w') (hv : v = .pointer none ∨ ∃ p, v = .pointer (some ⟨p, 0, none⟩)) : Calls Tryz.prog 44 #[.agg #[v, .int .i64 self]] w fun e w' => e = .returned (dueV none) ∧ Below w.heap.size w w' := by
  have h1 := hat _ (al2 w (.cells #[v, .int .i64 self] 103) (.cells #[.int .i64 0, .int .i64 0, .int .i64 0] 60))
  unfold dueV nt at *
  clear hat
  rcases hv with rfl | ⟨p, rfl⟩
  all_goals
    go_enter Tryz.func44, Tryz.ntmps44
    go_wp2_with (go_at_call 66; (with_reducible refine h1.mono ?_); rintro e u1 ⟨rfl, hb1⟩; have hn1 : NB u1 (w.heap.size + 1) 0 0 0 := NB.carry (NB.at _ _ _ (by simp)) hb1; obtain ⟨u2, hu2⟩ : ∃ u2, u1.alloc (.cells #[.int .i64 0, .int .i64 0, .int .i64 0] 60) = u2 := ⟨_, rfl⟩; have hb2 : Below u1.heap.size u1 u2 := (by rw [← hu2]; exact al1 _ _); have hm2 : NB u2 u1.heap.size 0 0 0 := (by rw [← hu2]; exact NB.new _ _ _ _); have c0 := hm2.c0; have c1 := hm2.c1; have c2 := hm2.c2; have z0 := hm2.thaw 0; have z1 := hm2.thaw 1; have z2 := hm2.thaw 2; obtain ⟨u3, hu3⟩ : ∃ u3, W3 u2 u1.heap.size 0 0 0 = u3 := ⟨_, rfl⟩; have hb3 : Below u1.heap.size u1 u3 := (by rw [← hu3]; exact below3 hb2 (Nat.le_refl _) _ _ _); have hn3 := hn1.carry hb3; unfold W3 at hu3; have d0 := hn3.c0; have d1 := hn3.c1; have d2 := hn3.c2; have y0 := hn3.thaw 0; have y1 := hn3.thaw 1; have y2 := hn3.thaw 2)
    exact retNt rfl rfl rfl rfl (hn3.set 0 0 0) ⟨rfl, below3 (bel2 (bel2 (al2 _ _ _) hb1) hb3) (by simp) _ _ _⟩
set_option maxHeartbeats 1000000 in
set_option maxRecDepth 100000 in
theorem due_at {w : World} (p : Nat) (self o t k a b c E : Int) (B : Bool) (hE : (E == 0) = B) (hat : ∀ W, Below w.heap.size w W → Calls Tryz.prog 66 #[.pointer (some ⟨p, 0, none⟩), .int .i64 self] W fun e w' => e = .returned (.tuple #[nt o t k, .int .i64 0]) ∧ Below W.heap.size W w') (hrp : ∀ W, Calls Tryz.prog 67 #[nt o t k] W fun e w' => e = .returned (.tuple #[nt a b c, .int .i64 E]) ∧ Below W.heap.size W w') : Calls Tryz.prog 44 #[.agg #[.pointer (some ⟨p, 0, none⟩), .int .i64 self]] w fun e w' => e = .returned (.tuple #[nt a b c, .bool B]) ∧ Below w.heap.size w w' := by
  have h1 := hat _ (al2 w (.cells #[.pointer (some ⟨p, 0, none⟩), .int .i64 self] 103) (.cells #[.int .i64 0, .int .i64 0, .int .i64 0] 60))
  unfold nt at *
  clear hat
  go_enter Tryz.func44, Tryz.ntmps44
  go_wp2_with (first | (go_at_call 66; (with_reducible refine h1.mono ?_); rintro e u1 ⟨rfl, hb1⟩; have hn1 : NB u1 (w.heap.size + 1) 0 0 0 := NB.carry (NB.at _ _ _ (by simp)) hb1; obtain ⟨u2, hu2⟩ : ∃ u2, u1.alloc (.cells #[.int .i64 o, .int .i64 t, .int .i64 k] 60) = u2 := ⟨_, rfl⟩; have hb2 : Below u1.heap.size u1 u2 := (by rw [← hu2]; exact al1 _ _); have hm2 : NB u2 u1.heap.size o t k := (by rw [← hu2]; exact NB.new _ _ _ _); have c0 := hm2.c0; have c1 := hm2.c1; have c2 := hm2.c2; have h2 := hrp u2) | (go_at_call 67; (with_reducible refine h2.mono ?_); rintro e u3 ⟨rfl, hb3⟩; obtain ⟨u4, hu4⟩ : ∃ u4, u3.alloc (.cells #[.int .i64 a, .int .i64 b, .int .i64 c] 60) = u4 := ⟨_, rfl⟩; have hb4 : Below u3.heap.size u3 u4 := (by rw [← hu4]; exact al1 _ _); have hm4 : NB u4 u3.heap.size a b c := (by rw [← hu4]; exact NB.new _ _ _ _); have hn4 := ((hn1.carry hb2).carry hb3).carry hb4; have c3 := hm4.c0; have c4 := hm4.c1; have c5 := hm4.c2; have d0 := hn4.c0; have d1 := hn4.c1; have d2 := hn4.c2; have y0 := hn4.thaw 0; have y1 := hn4.thaw 1; have y2 := hn4.thaw 2))
  exact retNt rfl rfl rfl rfl (hn4.set a b c) ⟨rfl, below3 (bel2 (bel2 (bel2 (bel2 (al2 _ _ _) hb1) hb2) hb3) hb4) (by simp) _ _ _⟩
theorem due_any {w : World} {p g : Nat} {l : List N3} (h : Bk w p g l) (hb : Bok l) (self : Int) : Calls Tryz.prog 44 #[.agg #[.pointer (some ⟨p, 0, none⟩), .int .i64 self]] w fun e w' => e = .returned (dueV (dueN l self)) ∧ Below w.heap.size w w' := by
  by_cases hi : 0 ≤ self ∧ self < (l.length : Int)
  · obtain ⟨i, rfl⟩ : ∃ i : Nat, self = (i : Int) := ⟨self.toNat, by omega⟩
    obtain ⟨⟨o, t, k⟩, hx⟩ : ∃ x, l[i]? = some x := ⟨_, List.getElem?_eq_getElem (by omega)⟩
    have hr : rk t k ≠ -1 := (hb i _ hx).2
    have ht : ¬ (t < 0 ∨ 1048576 < t) := fun e => hr (rk_lo e)
    have hat : ∀ W, Below w.heap.size w W → Calls Tryz.prog 66 #[.pointer (some ⟨p, 0, none⟩), .int .i64 (i : Int)] W fun e w' => e = .returned (.tuple #[nt o t k, .int .i64 0]) ∧ Below W.heap.size W w' := fun W hW => by
      have := at_any (h.carry hW) (i : Int)
      rw [atV_in hx] at this
      exact this
    have hrp := reply_any o t k
    rw [dueN_in hx]
    dsimp only
    by_cases h2 : k = 2
    · by_cases h3 : t = 1048576
      · rw [if_neg (by omega)]
        rw [rpV, if_neg (fun e => e.elim hr (fun e => e h2)), if_pos h3] at hrp
        exact due_at p _ o t k 0 0 0 120 false (by decide) hat hrp
      · rw [if_pos ⟨h2, by omega⟩]
        rw [rpV, if_neg (fun e => e.elim hr (fun e => e h2)), if_neg h3] at hrp
        exact due_at p _ o t k o (t + 1) 1 0 true (by decide) hat hrp
    · rw [if_neg (fun e => h2 e.1)]
      rw [rpV, if_pos (.inr h2)] at hrp
      exact due_at p _ o t k 0 0 0 50 false (by decide) hat hrp
  · rw [dueN_out hi]
    refine due_no _ _ 30 (by decide) (fun W hW => ?_) (.inr ⟨p, rfl⟩)
    have := at_any (h.carry hW) self
    rw [atV, if_neg hi] at this
    exact this
theorem edue_any {w : World} {v : Value} (h : EB w v) (self : Int) : Calls Tryz.prog 44 #[.agg #[v, .int .i64 self]] w fun e w' => e = .returned (dueV none) ∧ Below w.heap.size w w' :=
  due_no v self 30 (by decide) (fun W hW => eat_any (h.carry hW) self) (by
    rcases h with rfl | ⟨p, rfl, _⟩
    · exact .inl rfl
    · exact .inr ⟨p, rfl⟩)
end Go.Proofs.YtlpmehmoeladjaaGreatDoor
namespace Go.Proofs.YtlpmehmoeladjaaGreatDoor
open Go.RowKit Go.Shelf

theorem bel2Z {w w1 w2 : World} (h : Below w.heap.size w w1) (k : Below w1.heap.size w1 w2) : Below w.heap.size w w2 := h.trans (k.mono h.size)
theorem al1' (w : World) (o : Obj) : Below w.heap.size w (w.alloc o) := (Below.refl _ w).alloc (Nat.le_refl _) o
theorem add_plZ (b off j : Nat) : (⟨b, off, none⟩ : Addr).add j = ⟨b, off + j, none⟩ := by unfold Addr.add; split <;> simp_all
theorem own_formZ {W : World} {base : Nat} {e : TypeId} {size : Nat} {v : Value} {n : Nat} {xs : List Value} (h : W.ownsRow base e size v n xs) : (v = .slice none 0 0 ∧ n = 0) ∨ ∃ g cap, v = .slice (some ⟨g, 0, none⟩) n cap ∧ base ≤ g ∧ g < W.heap.size ∧ n ≤ cap ∧ cap ≤ maxLen ∧ ∃ cur, W.heap[g]? = some (.cells cur e (0, 0)) := by
  rcases h.2 with h1 | ⟨g, cap, cur, h1, h2, h3, h4, h5, _⟩
  · exact .inl h1
  · exact .inr ⟨g, cap, h1, h2, lt_at h3, h4, h5, cur, h3⟩
theorem own_blockZ {W : World} {base : Nat} {e : TypeId} {size : Nat} {v : Value} {n : Nat} {xs : List Value} (h : W.ownsRow base e size v n xs) : ∀ k, v.ownBlock = some k → base ≤ k := fun k e => (h.lt k e).1
theorem row_belowZ {w w' : World} {base : Nat} {e : TypeId} {size : Nat} {v : Value} {n : Nat} {xs : List Value} (h : w.ownsRow base e size v n xs) (hb : Below w.heap.size w w') : w'.ownsRow base e size v n xs := by
  refine ⟨h.1, ?_⟩
  rcases h.2 with h1 | ⟨g, cap, cur, h1, h2, h3, h4⟩
  · exact .inl h1
  · exact .inr ⟨g, cap, cur, h1, h2, (hb.block _ (lt_at h3)).trans h3, h4⟩
theorem row_base {w : World} {base base' : Nat} {e : TypeId} {size : Nat} {v : Value} {n : Nat} {xs : List Value} (h : w.ownsRow base e size v n xs) (hb : base' ≤ base) : w.ownsRow base' e size v n xs := by
  refine ⟨h.1, ?_⟩
  rcases h.2 with h1 | ⟨g, cap, cur, h1, h2, h3, h4⟩
  · exact .inl h1
  · exact .inr ⟨g, cap, cur, h1, Nat.le_trans hb h2, h3, h4⟩
/-- All of them are bytes. -/
def Byt (l : List Nat) : Prop := ∀ x ∈ l, x < 256
theorem byt_nil : Byt [] := by intro x hx; cases hx
def cB (l : List Nat) : List Value := l.map fun (x : Nat) => .int .u8 (x : Int)
theorem cB_len (l : List Nat) : (cB l).length = l.length := by simp [cB]
theorem cB_one (l : List Nat) : ∀ u ∈ cB l, u.oneCell' = true := by
  intro u hu
  obtain ⟨x, _, rfl⟩ := List.mem_map.1 hu
  rfl
theorem cB_get {l : List Nat} {k x : Nat} (h : l[k]? = some x) : (cB l)[k]? = some (.int .u8 (x : Int)) := by simp [cB, h]
theorem cB_inv {l : List Nat} {k : Nat} {u : Value} (h : (cB l)[k]? = some u) : ∃ x, l[k]? = some x ∧ u = .int .u8 (x : Int) := by
  simp only [cB, List.getElem?_map, Option.map_eq_some_iff] at h
  obtain ⟨x, h1, h2⟩ := h
  exact ⟨x, h1, h2.symm⟩
/-- From there on these bytes lie. -/
def BAt (W : World) (b off : Nat) (l : List Nat) : Prop := ∀ (k x : Nat), l[k]? = some x → W.cell? ⟨b, off + k, none⟩ = some (.int .u8 (x : Int))
/-- A slice of these bytes. -/
def RdB (W : World) (ad : Option Addr) (l : List Nat) : Prop := l ≠ [] → ∃ b off, ad = some ⟨b, off, none⟩ ∧ b < W.heap.size ∧ BAt W b off l
/-- A slice of these bytes, in a block of bytes. -/
def RdY (W : World) (ad : Option Addr) (l : List Nat) : Prop := l ≠ [] → ∃ b off, ad = some ⟨b, off, none⟩ ∧ (∃ cur, W.heap[b]? = some (.cells cur 5 (0, 0))) ∧ BAt W b off l
theorem RdY.rd {W : World} {ad : Option Addr} {l : List Nat} (h : RdY W ad l) : RdB W ad l := fun hl => by
  obtain ⟨b, off, h1, ⟨cur, h2⟩, h3⟩ := h hl
  exact ⟨b, off, h1, lt_at h2, h3⟩
theorem BAt.carry {W W' : World} {b off : Nat} {l : List Nat} (h : BAt W b off l) (e : W'.heap[b]? = W.heap[b]?) : BAt W' b off l :=
  fun k x hk => (World.cell?_of_block (w := W) e).trans (h k x hk)
theorem RdB.carry {W W' : World} {ad : Option Addr} {l : List Nat} (h : RdB W ad l) (hb : Below W.heap.size W W') : RdB W' ad l := by
  intro hl
  obtain ⟨b, off, h1, h2, h3⟩ := h hl
  exact ⟨b, off, h1, Nat.lt_of_lt_of_le h2 hb.size, h3.carry (hb.block b h2)⟩
theorem RdY.carry {W W' : World} {ad : Option Addr} {l : List Nat} (h : RdY W ad l) (hb : Below W.heap.size W W') : RdY W' ad l := by
  intro hl
  obtain ⟨b, off, h1, ⟨cur, h2⟩, h3⟩ := h hl
  exact ⟨b, off, h1, ⟨cur, (hb.block b (lt_at h2)).trans h2⟩, h3.carry (hb.block b (lt_at h2))⟩
theorem b_own {W : World} {base g n cap : Nat} {l : List Nat} (h : W.ownsRow base 5 1 (.slice (some ⟨g, 0, none⟩) n cap) n (cB l)) (hn : n = l.length) : BAt W g 0 l := by
  intro k x hk
  have hlt : k < l.length := (List.getElem?_eq_some_iff.1 hk).1
  rw [Nat.zero_add]
  exact (h.cellAt _ (by omega)).trans (cB_get hk)
theorem RdY.own {W : World} {base : Nat} {ad : Option Addr} {c : Nat} {l : List Nat} (h : W.ownsRow base 5 1 (.slice ad l.length c) l.length (cB l)) : RdY W ad l := by
  rcases own_formZ h with ⟨e1, e⟩ | ⟨g, cap, e1, h1, h2, h3, h4, h5⟩
  · exact fun q => absurd (List.length_eq_zero_iff.1 e) q
  · cases e1
    exact fun _ => ⟨g, 0, rfl, h5, b_own h rfl⟩
theorem b_src {W : World} {b off : Nat} {l : List Nat} (h : BAt W b off l) : ∀ j u, (cB l)[j]? = some u → W.cell? ((⟨b, off, none⟩ : Addr).add j) = some u := by
  intro j u hj
  obtain ⟨x, hx, rfl⟩ := cB_inv hj
  rw [add_plZ]
  exact h j x hx
/-- A cell behind the row is put. -/
theorem row_behind {w : World} {base : Nat} {e : TypeId} {v : Value} {n g j : Nat} {xs : List Value} (h : w.ownsRow base e 1 v n xs) (hj : n ≤ j) (u : Value) : (w.setCell ⟨g, j, none⟩ u).ownsRow base e 1 v n xs := by
  refine ⟨h.1, ?_⟩
  rcases h.2 with h1 | ⟨g1, cap, cur, h1, h2, h3, h4, h5, h6, h7⟩
  · exact .inl h1
  · refine .inr ?_
    by_cases hg : g1 = g
    · subst hg
      refine ⟨g1, cap, cur.setIfInBounds j u, h1, h2, heap_setCell_same _ _ j _ _ u h3, h4, h5, by simpa using h6, ?_⟩
      rw [← h7, Array.toList_setIfInBounds, List.take_set_of_le (by omega)]
    · exact ⟨g1, cap, cur, h1, h2, (Below.heap_setCell _ _ _ _ hg).trans h3, h4, h5, h6, h7⟩
theorem row_put {w : World} {base : Nat} {e : TypeId} {n g cap j : Nat} {xs : List Value} (h : w.ownsRow base e 1 (.slice (some ⟨g, 0, none⟩) n cap) n xs) (u : Value) : (w.setCell ⟨g, j, none⟩ u).ownsRow base e 1 (.slice (some ⟨g, 0, none⟩) n cap) n (xs.set j u) := by
  refine ⟨by simpa using h.1, ?_⟩
  rcases h.2 with ⟨h1, _⟩ | ⟨g1, cap1, cur, h1, h2, h3, h4, h5, h6, h7⟩
  · cases h1
  · cases h1
    refine .inr ⟨g, cap, cur.setIfInBounds j u, rfl, h2, heap_setCell_same _ _ j _ _ u h3, h4, h5, by simpa using h6, ?_⟩
    rw [← h7, Array.toList_setIfInBounds, List.take_set]
theorem row_other {w : World} {base : Nat} {e : TypeId} {v : Value} {size n b j : Nat} {xs : List Value} (h : w.ownsRow base e size v n xs) (hb : v.ownBlock ≠ some b) (u : Value) : (w.setCell ⟨b, j, none⟩ u).ownsRow base e size v n xs := by
  refine ⟨h.1, ?_⟩
  rcases h.2 with h1 | ⟨g1, cap, cur, rfl, h2, h3, h4⟩
  · exact .inl h1
  · exact .inr ⟨g1, cap, cur, rfl, h2, (Below.heap_setCell _ _ _ _ (fun e => hb (congrArg some e))).trans h3, h4⟩
/-- The row's head alone. -/
theorem row_take {w : World} {base : Nat} {e : TypeId} {n g cap : Nat} {xs : List Value} (h : w.ownsRow base e 1 (.slice (some ⟨g, 0, none⟩) n cap) n xs) (i : Nat) (hi : i ≤ n) : w.ownsRow base e 1 (.slice (some ⟨g, 0, none⟩) i cap) i (xs.take i) := by
  refine ⟨by have := h.1; simp; omega, ?_⟩
  rcases h.2 with ⟨h1, _⟩ | ⟨g1, cap1, cur, h1, h2, h3, h4, h5, h6, h7⟩
  · cases h1
  · cases h1
    refine .inr ⟨g, cap, cur, rfl, h2, h3, by omega, h5, h6, ?_⟩
    rw [← h7, List.take_take]
    congr 1
    omega
theorem cB_app (a b : List Nat) : cB (a ++ b) = cB a ++ cB b := by simp [cB]
theorem BAt.sub {W : World} {b off : Nat} {l : List Nat} (h : BAt W b off l) (i n : Nat) : BAt W b (off + i) ((l.drop i).take n) := by
  intro k x hk
  have hk2 : l[i + k]? = some x := by
    rw [List.getElem?_take] at hk
    split at hk
    · rwa [List.getElem?_drop] at hk
    · cases hk
  rw [Nat.add_assoc]
  exact h _ _ hk2
/-- A disk: its bytes; off, fused, the fuse, the writes. -/
structure Dst where
  l : List Nat
  off : Bool
  fused : Bool
  fuse : Int
  writes : Int
/-- A disk's cells. -/
def dkC (d : Dst) : List Value := cB d.l ++ [.bool d.off, .bool d.fused, .int .i64 d.fuse, .int .i64 d.writes]
/-- A disk in a world, at the block p. -/
structure Dk (W : World) (p : Nat) (d : Dst) : Prop where
  obj : W.heap[p]? = some (.cells (dkC d).toArray 79 (0, 0))
  len : d.l.length = 256
  byt : Byt d.l
theorem Dk.lt {W : World} {p : Nat} {d : Dst} (h : Dk W p d) : p < W.heap.size := lt_at h.obj
theorem Dk.carry {W W' : World} {p : Nat} {d : Dst} (h : Dk W p d) (hb : Below W.heap.size W W') : Dk W' p d := ⟨(hb.block _ h.lt).trans h.obj, h.len, h.byt⟩
theorem dkC_len {d : Dst} (h : d.l.length = 256) : (dkC d).length = 260 := by simp [dkC, cB_len, h]
theorem dkC_lo {d : Dst} {k x : Nat} (h : d.l[k]? = some x) : (dkC d)[k]? = some (.int .u8 (x : Int)) := by
  have := (List.getElem?_eq_some_iff.1 h).1
  rw [dkC, List.getElem?_append_left (by rw [cB_len]; exact this)]
  exact cB_get h
theorem dkC_hi {d : Dst} (h : d.l.length = 256) (k : Nat) : (dkC d)[256 + k]? = [Value.bool d.off, .bool d.fused, .int .i64 d.fuse, .int .i64 d.writes][k]? := by
  rw [dkC, List.getElem?_append_right (by rw [cB_len, h]; omega), cB_len, h, Nat.add_sub_cancel_left]
section
variable {W : World} {p : Nat} {d : Dst}
theorem Dk.at (h : Dk W p d) : BAt W p 0 d.l := fun k x hk => by
  rw [Nat.zero_add, cell_at h.obj, List.getElem?_toArray]
  exact dkC_lo hk
theorem Dk.c0 (h : Dk W p d) : W.cell? ⟨p, 256, none⟩ = some (.bool d.off) := by rw [cell_at h.obj, List.getElem?_toArray]; exact dkC_hi h.len 0
theorem Dk.c1 (h : Dk W p d) : W.cell? ⟨p, 257, none⟩ = some (.bool d.fused) := by rw [cell_at h.obj, List.getElem?_toArray]; exact dkC_hi h.len 1
theorem Dk.c2 (h : Dk W p d) : W.cell? ⟨p, 258, none⟩ = some (.int .i64 d.fuse) := by rw [cell_at h.obj, List.getElem?_toArray]; exact dkC_hi h.len 2
theorem Dk.c3 (h : Dk W p d) : W.cell? ⟨p, 259, none⟩ = some (.int .i64 d.writes) := by rw [cell_at h.obj, List.getElem?_toArray]; exact dkC_hi h.len 3
theorem dkC_set (d : Dst) (h : d.l.length = 256) (k : Nat) (u : Value) : (dkC d).set (256 + k) u = cB d.l ++ [Value.bool d.off, .bool d.fused, .int .i64 d.fuse, .int .i64 d.writes].set k u := by
  rw [dkC, List.set_append_right _ _ (by rw [cB_len, h]; omega), cB_len, h, Nat.add_sub_cancel_left]
theorem Dk.s0 (h : Dk W p d) (x : Bool) : Dk (W.setCell ⟨p, 256, none⟩ (.bool x)) p { d with off := x } :=
  ⟨(heap_setCell_same W p 256 _ _ _ h.obj).trans (by rw [List.setIfInBounds_toArray, dkC_set d h.len 0]; rfl), h.len, h.byt⟩
theorem Dk.s1 (h : Dk W p d) (x : Bool) : Dk (W.setCell ⟨p, 257, none⟩ (.bool x)) p { d with fused := x } :=
  ⟨(heap_setCell_same W p 257 _ _ _ h.obj).trans (by rw [List.setIfInBounds_toArray, dkC_set d h.len 1]; rfl), h.len, h.byt⟩
theorem Dk.s2 (h : Dk W p d) (x : Int) : Dk (W.setCell ⟨p, 258, none⟩ (.int .i64 x)) p { d with fuse := x } :=
  ⟨(heap_setCell_same W p 258 _ _ _ h.obj).trans (by rw [List.setIfInBounds_toArray, dkC_set d h.len 2]; rfl), h.len, h.byt⟩
theorem Dk.s3 (h : Dk W p d) (x : Int) : Dk (W.setCell ⟨p, 259, none⟩ (.int .i64 x)) p { d with writes := x } :=
  ⟨(heap_setCell_same W p 259 _ _ _ h.obj).trans (by rw [List.setIfInBounds_toArray, dkC_set d h.len 3]; rfl), h.len, h.byt⟩
theorem Dk.thaw (h : Dk W p d) (j : Nat) : W.frozen? ⟨p, j, none⟩ = false := thaw_at h.obj j
end
/-- What turns the block p alone, of those that were there. -/
structure Tp (p : Nat) (W W' : World) : Prop where
  os : W'.os = W.os
  tape : W'.tape = W.tape
  output : W'.output = W.output
  size : W.heap.size ≤ W'.heap.size
  block : ∀ k, k < W.heap.size → k ≠ p → W'.heap[k]? = W.heap[k]?
theorem Tp.of (p : Nat) {W W' : World} (hb : Below W.heap.size W W') : Tp p W W' := ⟨hb.os, hb.tape, hb.output, hb.size, fun k hk _ => hb.block k hk⟩
theorem Tp.trans {p : Nat} {W W' W'' : World} (h : Tp p W W') (k : Tp p W' W'') : Tp p W W'' :=
  ⟨k.os.trans h.os, k.tape.trans h.tape, k.output.trans h.output, Nat.le_trans h.size k.size, fun j hj hn => (k.block j (Nat.lt_of_lt_of_le hj h.size) hn).trans (h.block j hj hn)⟩
theorem Tp.below {p base : Nat} {W W' : World} (h : Tp p W W') (hp : base ≤ p) (hb : base ≤ W.heap.size) : Below base W W' :=
  ⟨h.os, h.tape, h.output, h.size, fun k hk => h.block k (by omega) (by omega)⟩
theorem Tp.set (p j : Nat) (W : World) (v : Value) : Tp p W (W.setCell ⟨p, j, none⟩ v) :=
  ⟨rfl, rfl, rfl, by simp [World.setCell], fun k _ hn => Below.heap_setCell W ⟨p, j, none⟩ v k hn⟩
theorem Tp.row (p : Nat) (W : World) (cs : Array Value) : Tp p W (W.setRow p cs) :=
  ⟨rfl, rfl, rfl, by simp [World.setRow], fun k _ hn => setRow_other W p k cs hn⟩
/-- Another disk abides. -/
theorem Dk.tp {W W' : World} {p q : Nat} {d : Dst} (h : Dk W q d) (ht : Tp p W W') (hn : q ≠ p) : Dk W' q d := ⟨(ht.block _ h.lt hn).trans h.obj, h.len, h.byt⟩
/-- Bytes in a block of bytes abide where a disk turns. -/
theorem RdY.tp {W W' : World} {p : Nat} {d : Dst} (h : Dk W p d) (ht : Tp p W W') {a : Option Addr} {x : List Nat} (hd : RdY W a x) : RdY W' a x := fun hl => by
  obtain ⟨b, off, h1, ⟨cur, h2⟩, h3⟩ := hd hl
  have hn : b ≠ p := fun e => by
    subst e
    have := h2.symm.trans h.obj
    simp only [Option.some.injEq, Obj.cells.injEq] at this
    exact absurd this.2.1 (by decide)
  have h4 := ht.block b (lt_at h2) hn
  exact ⟨b, off, h1, ⟨cur, h4.trans h2⟩, h3.carry h4⟩
/-- A sector's bytes are put. -/
def putS (l : List Nat) (s : Nat) (x : List Nat) : List Nat := splice l (32 * s) x
theorem putS_len {l : List Nat} {s : Nat} {x : List Nat} (h : 32 * s + x.length ≤ l.length) : (putS l s x).length = l.length := length_splice _ _ _ h
theorem putS_byt {l : List Nat} {s : Nat} {x : List Nat} (h : Byt l) (hx : Byt x) : Byt (putS l s x) := by
  intro y hy
  simp only [putS, splice, List.mem_append] at hy
  rcases hy with q | q | q
  · exact h y (List.mem_of_mem_take q)
  · exact hx y q
  · exact h y (List.mem_of_mem_drop q)
theorem dkC_put (d : Dst) (h : d.l.length = 256) (s : Nat) (x : List Nat) (hs : 32 * s + x.length ≤ 256) : splice (dkC d) (32 * s) (cB x) = dkC { d with l := putS d.l s x } := by
  simp only [splice, dkC, putS, cB_app, cB_len]
  rw [List.take_append_of_le_length (by rw [cB_len, h]; omega), List.drop_append_of_le_length (by rw [cB_len, h]; exact hs)]
  simp [cB, List.map_take, List.map_drop]
/-- A whole variable into the middle of a block that is known whole. -/
theorem run_store_in {P : Program} (w : World) (g o : Nat) (t ty : TypeId) (cur vs : List Value) (hg : w.heap[g]? = some (.cells cur.toArray t (0, 0))) (hi : (P.info? ty).map (·.size) = some vs.length) (hf : o + vs.length ≤ cur.length) (h1 : ∀ v ∈ vs, v.oneCell' = true) :
    (Instr.storeAt ty (.pointer (some ⟨g, o, none⟩)) (.agg vs.toArray)).run P w = .ok () (w.setRow g (splice cur o vs).toArray) := by
  have := run_storeCells_at P g o t vs 0 cur.toArray w hg (by simpa using hf) h1
  cases hq : P.info? ty with
  | none => simp [hq] at hi
  | some i =>
    have hs : vs.length = i.size := by simp [hq] at hi; omega
    simp only [Nat.add_zero] at this
    simp [Instr.storeAt, Instr.sureAddr, storeVar, sizeOf, typeInfo, hq, Value.cells, hs, this, splice]
theorem infoS : (Tryz.prog.info? 76).map (·.size) = some 32 := by kernel_rfl
theorem infoD : (Tryz.prog.info? 79).map (·.size) = some 260 := by kernel_rfl
theorem Dk.put {W : World} {p : Nat} {d : Dst} (h : Dk W p d) (s : Nat) (x : List Nat) (hx : x.length = 32) (hb : Byt x) (hs : s < 8) :
    ∃ W', (Instr.storeAt 76 (.pointer (some ⟨p, 32 * s, none⟩)) (.agg (cB x).toArray)).run Tryz.prog W = .ok () W' ∧ Dk W' p { d with l := putS d.l s x } ∧ Tp p W W' := by
  refine ⟨_, run_store_in W p (32 * s) _ _ (dkC d) (cB x) h.obj (by rw [cB_len, hx]; exact infoS) (by rw [cB_len, hx, dkC_len h.len]; omega) (cB_one x), ?_, Tp.row _ _ _⟩
  refine ⟨(setRow_heap W p _ _ _ _ h.obj).trans ?_, (putS_len (by rw [hx, h.len]; omega)).trans h.len, putS_byt h.byt hb⟩
  rw [dkC_put d h.len s x (by omega)]
/-- The new disk. -/
def d0 : Dst := ⟨List.replicate 256 0, false, false, 0, 0⟩
theorem byt_zero (n : Nat) : Byt (List.replicate n 0) := by
  intro x hx
  rw [List.eq_of_mem_replicate hx]
  decide
end Go.Proofs.YtlpmehmoeladjaaGreatDoor
namespace Go.Proofs.YtlpmehmoeladjaaGreatDoor
open Go.RowKit Go.Shelf

/-- The fuse as it is told. -/
def left (d : Dst) : Int := if d.fused then d.fuse else -1
def pD (p : Nat) : Value := .pointer (some ⟨p, 0, none⟩)
theorem zerD : ∀ w : World, (zeroValue 79).run Tryz.prog w = .ok (.agg (dkC d0).toArray) w := (zero_of_info (n := 260) (by kernel_rfl)).1
theorem boxD (C : Array Value) (w : World) : (Instr.box 79 (.agg C)).run Tryz.prog w = .ok (.pointer (some ⟨w.heap.size, 0, none⟩)) (w.alloc (.cells C 79)) := by kernel_rfl
theorem i64_id (x : Int) (h1 : -9223372036854775808 ≤ x) (h2 : x ≤ 9223372036854775807) : IntKind.i64.wrap x = x := by
  rw [IntKind.wrap_i64]
  omega
set_option maxHeartbeats 1000000 in
set_option maxRecDepth 100000 in
theorem dnew_any (w : World) : Calls Tryz.prog 5 #[] w fun e w' => e = .returned (.pointer (some ⟨w.heap.size, 0, none⟩)) ∧ Dk w' w.heap.size d0 ∧ w.heap.size < w'.heap.size ∧ Below w.heap.size w w' := by
  have h1 := zerD
  have h2 := boxD
  obtain ⟨C, hC⟩ : ∃ C, (dkC d0).toArray = C := ⟨_, rfl⟩
  rw [hC] at h1
  go_enter Tryz.func5, Tryz.ntmps5
  go_wp2
  go_ret
  refine ⟨rfl, ?_, by simp, al1' _ _⟩
  rw [← hC]
  exact ⟨new_at rfl, by simp [d0], byt_zero 256⟩
section
variable {W : World} {p : Nat} {d : Dst}
set_option maxHeartbeats 1000000 in
theorem on_any (h : Dk W p d) : Calls Tryz.prog 71 #[.pointer (some ⟨p, 0, none⟩)] W fun e w' => e = .returned (.bool (!d.off)) ∧ w' = W := by
  have c := h.c0
  go_enter Tryz.func71, Tryz.ntmps71
  go_wp2
  go_ret
  exact ⟨rfl, rfl⟩
set_option maxHeartbeats 1000000 in
theorem left_any (h : Dk W p d) : Calls Tryz.prog 99 #[.pointer (some ⟨p, 0, none⟩)] W fun e w' => e = .returned (.int .i64 (left d)) ∧ w' = W := by
  have c := h.c1
  have c2 := h.c2
  obtain ⟨l, of, fd, fu, wr⟩ := d
  cases fd
  all_goals
    go_enter Tryz.func99, Tryz.ntmps99
    go_wp2
    go_ret
    exact ⟨rfl, rfl⟩
set_option maxHeartbeats 1000000 in
theorem cut_any (h : Dk W p d) : Calls Tryz.prog 103 #[.pointer (some ⟨p, 0, none⟩)] W fun e w' => e = .returned (.tuple #[]) ∧ Dk w' p { d with off := true } ∧ Tp p W w' := by
  have c := h.c0
  have z := h.thaw 256
  go_enter Tryz.func103, Tryz.ntmps103
  go_wp2
  go_end0
  exact ⟨rfl, h.s0 true, Tp.set _ _ _ _⟩
set_option maxHeartbeats 1000000 in
theorem restore_any (h : Dk W p d) : Calls Tryz.prog 11 #[.pointer (some ⟨p, 0, none⟩)] W fun e w' => e = .returned (.tuple #[]) ∧ Dk w' p { d with off := false } ∧ Tp p W w' := by
  have c := h.c0
  have z := h.thaw 256
  go_enter Tryz.func11, Tryz.ntmps11
  go_wp2
  go_end0
  exact ⟨rfl, h.s0 false, Tp.set _ _ _ _⟩
/-- The disk with another fuse. -/
def dFuse (d : Dst) (k : Int) : Dst := { d with fused := decide (0 ≤ k), fuse := if 0 ≤ k then k else 0 }
set_option maxHeartbeats 1000000 in
theorem fuse_any (h : Dk W p d) (k : Int) : Calls Tryz.prog 12 #[.pointer (some ⟨p, 0, none⟩), .int .i64 k] W fun e w' => e = .returned (.tuple #[]) ∧ Dk w' p (dFuse d k) ∧ Tp p W w' := by
  have c1 := h.c1
  have z1 := h.thaw 257
  by_cases hk : 0 ≤ k
  · have h1 := h.s1 true
    have c2 := h1.c2
    have z2 := h1.thaw 258
    go_enter Tryz.func12, Tryz.ntmps12
    go_wp2
    go_end0
    refine ⟨rfl, ?_, (Tp.set _ _ _ _).trans (Tp.set _ _ _ _)⟩
    have e : dFuse d k = { { d with fused := true } with fuse := k } := by simp [dFuse, hk]
    rw [e]
    exact h1.s2 k
  · have h1 := h.s1 false
    have c2 := h1.c2
    have z2 := h1.thaw 258
    have hk2 : k ≤ 0 := by omega
    go_enter Tryz.func12, Tryz.ntmps12
    go_wp2
    go_end0
    refine ⟨rfl, ?_, (Tp.set _ _ _ _).trans (Tp.set _ _ _ _)⟩
    have e : dFuse d k = { { d with fused := false } with fuse := 0 } := by unfold dFuse; rw [decide_eq_false (Int.not_le.2 hk), if_neg (Int.not_le.2 hk)]
    rw [e]
    exact h1.s2 0
theorem there_any (s : Int) (w : World) : Calls Tryz.prog 97 #[.int .i64 s] w fun e w' => e = .returned (.bool (decide (0 ≤ s ∧ s < 8))) ∧ w' = w := by
  by_cases h1 : 0 ≤ s
  · by_cases h2 : s < 8
    · rw [decide_eq_true (show 0 ≤ s ∧ s < 8 from ⟨h1, h2⟩)]
      go_enter Tryz.func97, Tryz.ntmps97
      go_wp2
      go_ret
      exact ⟨rfl, rfl⟩
    · rw [decide_eq_false (show ¬ (0 ≤ s ∧ s < 8) from fun q => h2 q.2)]
      go_enter Tryz.func97, Tryz.ntmps97
      go_wp2
      go_ret
      exact ⟨rfl, rfl⟩
  · rw [decide_eq_false (show ¬ (0 ≤ s ∧ s < 8) from fun q => h1 q.1)]
    go_enter Tryz.func97, Tryz.ntmps97
    go_wp2
    go_ret
    exact ⟨rfl, rfl⟩
/-- A write is done: the fuse. -/
def dBurn (d : Dst) : Dst := { d with fuse := if d.fused then d.fuse - 1 else d.fuse }
set_option maxHeartbeats 1000000 in
theorem burn_any (h : Dk W p d) (hf : d.fused = true → 0 < d.fuse ∧ d.fuse ≤ 9223372036854775807) : Calls Tryz.prog 102 #[.pointer (some ⟨p, 0, none⟩)] W fun e w' => e = .returned (.tuple #[]) ∧ Dk w' p (dBurn d) ∧ Tp p W w' := by
  have c1 := h.c1
  have c2 := h.c2
  have z2 := h.thaw 258
  obtain ⟨l, of, fd, fu, wr⟩ := d
  cases fd
  · go_enter Tryz.func102, Tryz.ntmps102
    go_wp2
    go_end0
    exact ⟨rfl, h, Tp.of _ (Below.refl _ _)⟩
  · obtain ⟨hf1, hf2⟩ := hf rfl
    dsimp only at hf1 hf2 c1 c2
    have hw : IntKind.i64.wrap (fu - 1) = fu - 1 := i64_id _ (by omega) (by omega)
    go_enter Tryz.func102, Tryz.ntmps102
    go_wp2
    go_end0
    exact ⟨rfl, h.s2 (fu - 1), Tp.set _ _ _ _⟩
end
end Go.Proofs.YtlpmehmoeladjaaGreatDoor
