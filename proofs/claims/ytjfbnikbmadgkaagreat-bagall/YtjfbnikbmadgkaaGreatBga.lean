/- Bytes, datagrams and bags in a world; what turns a bag alone. -/
import Derived.Test.YtjfbnikbmadgkaaGreatBxs
import Derived.Test.YtjfbnikbmadgkaaGreatSlg
import Derived.Test.YtjfbnikbmadgkaaGreatRgf
import Derived.Test.YtjfbnikbmadgkaaGreatRgn
import Derived.Laws.OwnMore
import Derived.Shelf.Abstract
namespace Go.Proofs.YtjfbnikbmadgkaaGreat
open Go.RowKit Go.Shelf

theorem bel2 {w w1 w2 : World} (h : Below w.heap.size w w1) (k : Below w1.heap.size w1 w2) : Below w.heap.size w w2 := h.trans (k.mono h.size)
theorem al1' (w : World) (o : Obj) : Below w.heap.size w (w.alloc o) := (Below.refl _ w).alloc (Nat.le_refl _) o
theorem add_pl (b off j : Nat) : (⟨b, off, none⟩ : Addr).add j = ⟨b, off + j, none⟩ := by unfold Addr.add; split <;> simp_all
theorem own_form {W : World} {base : Nat} {e : TypeId} {size : Nat} {v : Value} {n : Nat} {xs : List Value} (h : W.ownsRow base e size v n xs) : (v = .slice none 0 0 ∧ n = 0) ∨ ∃ g cap, v = .slice (some ⟨g, 0, none⟩) n cap ∧ base ≤ g ∧ g < W.heap.size ∧ n ≤ cap ∧ cap ≤ maxLen ∧ ∃ cur, W.heap[g]? = some (.cells cur e (0, 0)) := by
  rcases h.2 with h1 | ⟨g, cap, cur, h1, h2, h3, h4, h5, _⟩
  · exact .inl h1
  · exact .inr ⟨g, cap, h1, h2, lt_at h3, h4, h5, cur, h3⟩
theorem own_block {W : World} {base : Nat} {e : TypeId} {size : Nat} {v : Value} {n : Nat} {xs : List Value} (h : W.ownsRow base e size v n xs) : ∀ k, v.ownBlock = some k → base ≤ k := fun k e => (h.lt k e).1
theorem row_below {w w' : World} {base : Nat} {e : TypeId} {size : Nat} {v : Value} {n : Nat} {xs : List Value} (h : w.ownsRow base e size v n xs) (hb : Below w.heap.size w w') : w'.ownsRow base e size v n xs := by
  refine ⟨h.1, ?_⟩
  rcases h.2 with h1 | ⟨g, cap, cur, h1, h2, h3, h4⟩
  · exact .inl h1
  · exact .inr ⟨g, cap, cur, h1, h2, (hb.block _ (lt_at h3)).trans h3, h4⟩
theorem row_base {w : World} {base base' : Nat} {e : TypeId} {size : Nat} {v : Value} {n : Nat} {xs : List Value} (h : w.ownsRow base e size v n xs) (hb : base' ≤ base) : w.ownsRow base' e size v n xs := by
  refine ⟨h.1, ?_⟩
  rcases h.2 with h1 | ⟨g, cap, cur, h1, h2, h3, h4⟩
  · exact .inl h1
  · exact .inr ⟨g, cap, cur, h1, Nat.le_trans hb h2, h3, h4⟩
/-- All of them are bytes. -/
def Byt (l : List Nat) : Prop := ∀ x ∈ l, x < 256
theorem byt_nil : Byt [] := by intro x hx; cases hx
def cB (l : List Nat) : List Value := l.map fun (x : Nat) => .int .u8 (x : Int)
theorem cB_len (l : List Nat) : (cB l).length = l.length := by simp [cB]
theorem cB_one (l : List Nat) : ∀ u ∈ cB l, u.oneCell' = true := by
  intro u hu
  obtain ⟨x, _, rfl⟩ := List.mem_map.1 hu
  rfl
theorem cB_get {l : List Nat} {k x : Nat} (h : l[k]? = some x) : (cB l)[k]? = some (.int .u8 (x : Int)) := by simp [cB, h]
theorem cB_inv {l : List Nat} {k : Nat} {u : Value} (h : (cB l)[k]? = some u) : ∃ x, l[k]? = some x ∧ u = .int .u8 (x : Int) := by
  simp only [cB, List.getElem?_map, Option.map_eq_some_iff] at h
  obtain ⟨x, h1, h2⟩ := h
  exact ⟨x, h1, h2.symm⟩
/-- From there on these bytes lie. -/
def BAt (W : World) (b off : Nat) (l : List Nat) : Prop := ∀ (k x : Nat), l[k]? = some x → W.cell? ⟨b, off + k, none⟩ = some (.int .u8 (x : Int))
/-- A slice of these bytes. -/
def RdB (W : World) (ad : Option Addr) (l : List Nat) : Prop := l ≠ [] → ∃ b off, ad = some ⟨b, off, none⟩ ∧ b < W.heap.size ∧ BAt W b off l
/-- A slice of these bytes, in a block of bytes. -/
def RdY (W : World) (ad : Option Addr) (l : List Nat) : Prop := l ≠ [] → ∃ b off, ad = some ⟨b, off, none⟩ ∧ (∃ cur, W.heap[b]? = some (.cells cur 5 (0, 0))) ∧ BAt W b off l
theorem RdY.rd {W : World} {ad : Option Addr} {l : List Nat} (h : RdY W ad l) : RdB W ad l := fun hl => by
  obtain ⟨b, off, h1, ⟨cur, h2⟩, h3⟩ := h hl
  exact ⟨b, off, h1, lt_at h2, h3⟩
theorem BAt.carry {W W' : World} {b off : Nat} {l : List Nat} (h : BAt W b off l) (e : W'.heap[b]? = W.heap[b]?) : BAt W' b off l :=
  fun k x hk => (World.cell?_of_block (w := W) e).trans (h k x hk)
theorem RdB.carry {W W' : World} {ad : Option Addr} {l : List Nat} (h : RdB W ad l) (hb : Below W.heap.size W W') : RdB W' ad l := by
  intro hl
  obtain ⟨b, off, h1, h2, h3⟩ := h hl
  exact ⟨b, off, h1, Nat.lt_of_lt_of_le h2 hb.size, h3.carry (hb.block b h2)⟩
theorem RdY.carry {W W' : World} {ad : Option Addr} {l : List Nat} (h : RdY W ad l) (hb : Below W.heap.size W W') : RdY W' ad l := by
  intro hl
  obtain ⟨b, off, h1, ⟨cur, h2⟩, h3⟩ := h hl
  exact ⟨b, off, h1, ⟨cur, (hb.block b (lt_at h2)).trans h2⟩, h3.carry (hb.block b (lt_at h2))⟩
theorem b_own {W : World} {base g n cap : Nat} {l : List Nat} (h : W.ownsRow base 5 1 (.slice (some ⟨g, 0, none⟩) n cap) n (cB l)) (hn : n = l.length) : BAt W g 0 l := by
  intro k x hk
  have hlt : k < l.length := (List.getElem?_eq_some_iff.1 hk).1
  rw [Nat.zero_add]
  exact (h.cellAt _ (by omega)).trans (cB_get hk)
theorem RdY.own {W : World} {base : Nat} {ad : Option Addr} {c : Nat} {l : List Nat} (h : W.ownsRow base 5 1 (.slice ad l.length c) l.length (cB l)) : RdY W ad l := by
  rcases own_form h with ⟨e1, e⟩ | ⟨g, cap, e1, h1, h2, h3, h4, h5⟩
  · exact fun q => absurd (List.length_eq_zero_iff.1 e) q
  · cases e1
    exact fun _ => ⟨g, 0, rfl, h5, b_own h rfl⟩
theorem b_src {W : World} {b off : Nat} {l : List Nat} (h : BAt W b off l) : ∀ j u, (cB l)[j]? = some u → W.cell? ((⟨b, off, none⟩ : Addr).add j) = some u := by
  intro j u hj
  obtain ⟨x, hx, rfl⟩ := cB_inv hj
  rw [add_pl]
  exact h j x hx
/-- A datagram. -/
abbrev Gr := Int × Int × Int × List Nat
/-- A datagram's cells. -/
def gv (x : Gr) (ad : Option Addr) (c : Nat) : List Value := [.int .i64 x.1, .int .i64 x.2.1, .int .i64 x.2.2.1, .slice ad x.2.2.2.length c]
/-- A datagram in a block of its own. -/
structure GAt (W : World) (q : Nat) (x : Gr) (ad : Option Addr) (c : Nat) : Prop where
  obj : W.heap[q]? = some (.cells #[.int .i64 x.1, .int .i64 x.2.1, .int .i64 x.2.2.1, .slice ad x.2.2.2.length c] 62 (0, 0))
  dat : RdY W ad x.2.2.2
  byt : Byt x.2.2.2
  few : x.2.2.2.length ≤ 1024
/-- Its block and that of its bytes are none of σ. -/
def GmAt (σ : Nat → Prop) (W : World) (q : Nat) (x : Gr) : Prop := ∃ ad c, GAt W q x ad c ∧ ¬ σ q ∧ (x.2.2.2 ≠ [] → ∀ a : Addr, ad = some a → ¬ σ a.block)
theorem GAt.carry {W W' : World} {q : Nat} {x : Gr} {ad : Option Addr} {c : Nat} (h : GAt W q x ad c) (hb : Below W.heap.size W W') : GAt W' q x ad c := ⟨(hb.block _ (lt_at h.obj)).trans h.obj, h.dat.carry hb, h.byt, h.few⟩
theorem GmAt.carry {σ : Nat → Prop} {W W' : World} {q : Nat} {x : Gr} (h : GmAt σ W q x) (hb : Below W.heap.size W W') : GmAt σ W' q x := by
  obtain ⟨ad, c, h, n⟩ := h
  exact ⟨ad, c, h.carry hb, n⟩
theorem GmAt.free {σ : Nat → Prop} {W : World} {q : Nat} {x : Gr} (h : GmAt σ W q x) : GmAt (fun _ => False) W q x := by
  obtain ⟨ad, c, h, _⟩ := h
  exact ⟨ad, c, h, id, fun _ _ _ => id⟩
/-- Other blocks. -/
theorem GmAt.other {σ τ : Nat → Prop} {W : World} {q : Nat} {x : Gr} (h : GmAt σ W q x) (e : ∀ b, b < W.heap.size → ¬ σ b → ¬ τ b) : GmAt τ W q x := by
  obtain ⟨ad, c, h, n1, n2⟩ := h
  refine ⟨ad, c, h, e q (lt_at h.obj) n1, fun hx a ha => ?_⟩
  obtain ⟨b, off, e1, ⟨cur, e2⟩, _⟩ := h.dat hx
  have n3 := n2 hx a ha
  rw [ha] at e1
  cases e1
  exact e b (lt_at e2) n3
/-- What turns blocks of σ alone, and none of other types. -/
theorem GmAt.move {σ : Nat → Prop} {W V : World} {q : Nat} {x : Gr} (h : GmAt σ W q x) (e : ∀ (b : Nat) (cur : Array Value) (t : TypeId), W.heap[b]? = some (.cells cur t (0, 0)) → (t = 62 ∨ t = 5) → ¬ σ b → V.heap[b]? = some (.cells cur t (0, 0))) : GmAt σ V q x := by
  obtain ⟨ad, c, h, n1, n2⟩ := h
  refine ⟨ad, c, ⟨e q _ _ h.obj (.inl rfl) n1, fun hx => ?_, h.byt, h.few⟩, n1, n2⟩
  obtain ⟨b, off, e1, ⟨cur, e2⟩, e3⟩ := h.dat hx
  have e4 := e b cur _ e2 (.inr rfl) (n2 hx _ e1)
  exact ⟨b, off, e1, ⟨cur, e4⟩, e3.carry (e4.trans e2.symm)⟩
/-- Pointers to blocks. -/
def pt (q : Nat) : Value := .pointer (some ⟨q, 0, none⟩)
def cP (l : List Nat) : List Value := l.map pt
theorem cP_len (l : List Nat) : (cP l).length = l.length := by simp [cP]
theorem cP_one (l : List Nat) : ∀ u ∈ cP l, u.oneCell' = true := by
  intro u hu
  obtain ⟨x, _, rfl⟩ := List.mem_map.1 hu
  rfl
theorem cP_get {l : List Nat} {k x : Nat} (h : l[k]? = some x) : (cP l)[k]? = some (pt x) := by simp [cP, h]
theorem cP_app (a b : List Nat) : cP (a ++ b) = cP a ++ cP b := by simp [cP]
def ob (ad : Option Addr) : Option Nat := ad.map (·.block)
theorem ob_eq (ad : Option Addr) (n c : Nat) : (Value.slice ad n c).ownBlock = ob ad := by cases ad <;> rfl
/-- A bag: its block p, its list. -/
structure Bg (σ : Nat → Prop) (W : World) (base p : Nat) (ad : Option Addr) (cap : Nat) (room last : Int) (ps : List Nat) (l : List Gr) : Prop where
  pb : base ≤ p
  obj : W.heap[p]? = some (.cells #[.int .i64 room, .int .i64 last, .slice ad ps.length cap] 54 (0, 0))
  row : W.ownsRow base 104 1 (.slice ad ps.length cap) ps.length (cP ps)
  len : ps.length = l.length
  gr : ∀ (k q : Nat) (x : Gr), ps[k]? = some q → l[k]? = some x → GmAt σ W q x
  le : (l.length : Int) ≤ room
  most : room ≤ 65536
  sg : ∀ b, σ b → b < W.heap.size
theorem Bg.plt {σ : Nat → Prop} {W : World} {base p : Nat} {ad : Option Addr} {cap : Nat} {room last : Int} {ps : List Nat} {l : List Gr} (h : Bg σ W base p ad cap room last ps l) : p < W.heap.size := lt_at h.obj
theorem Bg.carry {σ : Nat → Prop} {W W' : World} {base p : Nat} {ad : Option Addr} {cap : Nat} {room last : Int} {ps : List Nat} {l : List Gr} (h : Bg σ W base p ad cap room last ps l) (hb : Below W.heap.size W W') : Bg σ W' base p ad cap room last ps l :=
  ⟨h.pb, (hb.block _ h.plt).trans h.obj, row_below h.row hb, h.len, fun k q x h1 h2 => (h.gr k q x h1 h2).carry hb, h.le, h.most, fun b q => Nat.lt_of_lt_of_le (h.sg b q) hb.size⟩
theorem Bg.blk {σ : Nat → Prop} {W : World} {base p : Nat} {ad : Option Addr} {cap : Nat} {room last : Int} {ps : List Nat} {l : List Gr} (h : Bg σ W base p ad cap room last ps l) {g : Nat} (e : ob ad = some g) : base ≤ g ∧ ∃ cur, W.heap[g]? = some (.cells cur 104 (0, 0)) := by
  rcases own_form h.row with ⟨e1, _⟩ | ⟨g', cap', e1, h1, h2, h3, h4, h5⟩
  · simp only [Value.slice.injEq] at e1
    rw [e1.1] at e
    cases e
  · simp only [Value.slice.injEq] at e1
    rw [e1.1] at e
    cases e
    exact ⟨h1, h5⟩
theorem Bg.ne {σ : Nat → Prop} {W : World} {base p : Nat} {ad : Option Addr} {cap : Nat} {room last : Int} {ps : List Nat} {l : List Gr} (h : Bg σ W base p ad cap room last ps l) : ob ad ≠ some p := by
  intro e
  obtain ⟨_, cur, h2⟩ := h.blk e
  have := h.obj.symm.trans h2
  simp only [Option.some.injEq, Obj.cells.injEq] at this
  exact absurd this.2.1 (by decide)
/-- What turns a bag alone: its block p, and that of its list. -/
structure Tn (p : Nat) (g g' : Option Nat) (W W' : World) : Prop where
  os : W'.os = W.os
  tape : W'.tape = W.tape
  output : W'.output = W.output
  size : W.heap.size ≤ W'.heap.size
  block : ∀ k, k < W.heap.size → k ≠ p → some k ≠ g → W'.heap[k]? = W.heap[k]?
  own : g' = g ∨ ∀ b, g' = some b → W.heap.size ≤ b
theorem Tn.below {p : Nat} {g g' : Option Nat} {W W' : World} {base : Nat} (h : Tn p g g' W W') (hp : base ≤ p) (hg : ∀ b, g = some b → base ≤ b) (hb : base ≤ W.heap.size) : Below base W W' :=
  ⟨h.os, h.tape, h.output, h.size, fun k hk => h.block k (by omega) (by omega) (fun e => by have := hg k e.symm; omega)⟩
theorem Bg.below {σ : Nat → Prop} {W W' : World} {base p : Nat} {ad ad' : Option Addr} {cap : Nat} {room last : Int} {ps : List Nat} {l : List Gr} (h : Bg σ W base p ad cap room last ps l) (ht : Tn p (ob ad) (ob ad') W W') : Below base W W' :=
  ht.below h.pb (fun _ e => (h.blk e).1) (Nat.le_trans h.pb (Nat.le_of_lt h.plt))
theorem Tn.of (p : Nat) (g : Option Nat) {W W' : World} (hb : Below W.heap.size W W') : Tn p g g W W' := ⟨hb.os, hb.tape, hb.output, hb.size, fun k hk _ _ => hb.block k hk, .inl rfl⟩
theorem Tn.trans {p : Nat} {g g' g'' : Option Nat} {W W' W'' : World} (h : Tn p g g' W W') (k : Tn p g' g'' W' W'') : Tn p g g'' W W'' := by
  refine ⟨k.os.trans h.os, k.tape.trans h.tape, k.output.trans h.output, Nat.le_trans h.size k.size, fun j hj h1 h2 => ?_, ?_⟩
  · refine (k.block j (Nat.lt_of_lt_of_le hj h.size) h1 (fun e => ?_)).trans (h.block j hj h1 h2)
    rcases h.own with q | q
    · exact h2 (e.trans q)
    · have := q j e.symm
      omega
  · rcases k.own with q | q
    · rw [q]
      exact h.own
    · exact .inr fun b e => Nat.le_trans h.size (q b e)
theorem bg_sep {σ : Nat → Prop} {W : World} {base p : Nat} {ad : Option Addr} {cap : Nat} {room last : Int} {ps : List Nat} {l : List Gr} (h : Bg σ W base p ad cap room last ps l) {k : Nat} {cur : Array Value} {t : TypeId} {z : Nat × Nat} (hk : W.heap[k]? = some (.cells cur t z)) (h1 : t ≠ 54) (h2 : t ≠ 104) : k ≠ p ∧ some k ≠ ob ad := by
  refine ⟨fun e => ?_, fun e => ?_⟩
  · subst e
    have := hk.symm.trans h.obj
    simp only [Option.some.injEq, Obj.cells.injEq] at this
    exact h1 this.2.1
  · obtain ⟨_, cur', h3⟩ := h.blk e.symm
    have := hk.symm.trans h3
    simp only [Option.some.injEq, Obj.cells.injEq] at this
    exact h2 this.2.1
/-- A block that is no bag's abides. -/
theorem Bg.stays {σ : Nat → Prop} {W W' : World} {base p : Nat} {ad : Option Addr} {cap : Nat} {room last : Int} {ps : List Nat} {l : List Gr} (h : Bg σ W base p ad cap room last ps l) {g' : Option Nat} (ht : Tn p (ob ad) g' W W') {k : Nat} {cur : Array Value} {t : TypeId} {z : Nat × Nat} (hk : W.heap[k]? = some (.cells cur t z)) (h1 : t ≠ 54) (h2 : t ≠ 104) : W'.heap[k]? = some (.cells cur t z) := by
  obtain ⟨a, b⟩ := bg_sep h hk h1 h2
  exact (ht.block k (lt_at hk) a b).trans hk
theorem RdY.tn {σ : Nat → Prop} {W W' : World} {base p : Nat} {ad : Option Addr} {cap : Nat} {room last : Int} {ps : List Nat} {l : List Gr} (h : Bg σ W base p ad cap room last ps l) {g' : Option Nat} (ht : Tn p (ob ad) g' W W') {a : Option Addr} {d : List Nat} (hd : RdY W a d) : RdY W' a d := fun hl => by
  obtain ⟨b, off, h1, ⟨cur, h2⟩, h3⟩ := hd hl
  have h4 := h.stays ht h2 (by decide) (by decide)
  exact ⟨b, off, h1, ⟨cur, h4⟩, h3.carry (h4.trans h2.symm)⟩
theorem GAt.tn {σ : Nat → Prop} {W W' : World} {base p : Nat} {ad : Option Addr} {cap : Nat} {room last : Int} {ps : List Nat} {l : List Gr} (h : Bg σ W base p ad cap room last ps l) {g' : Option Nat} (ht : Tn p (ob ad) g' W W') {q : Nat} {x : Gr} {a : Option Addr} {c : Nat} (hx : GAt W q x a c) : GAt W' q x a c :=
  ⟨h.stays ht hx.obj (by decide) (by decide), hx.dat.tn h ht, hx.byt, hx.few⟩
theorem GmAt.tn {σ : Nat → Prop} {W W' : World} {base p : Nat} {ad : Option Addr} {cap : Nat} {room last : Int} {ps : List Nat} {l : List Gr} (h : Bg σ W base p ad cap room last ps l) {g' : Option Nat} (ht : Tn p (ob ad) g' W W') {q : Nat} {x : Gr} (hx : GmAt σ W q x) : GmAt σ W' q x := by
  obtain ⟨a, c, hx, n⟩ := hx
  exact ⟨a, c, hx.tn h ht, n⟩
/-- A cell behind the row is put. -/
theorem row_behind {w : World} {base : Nat} {e : TypeId} {v : Value} {n g j : Nat} {xs : List Value} (h : w.ownsRow base e 1 v n xs) (hj : n ≤ j) (u : Value) : (w.setCell ⟨g, j, none⟩ u).ownsRow base e 1 v n xs := by
  refine ⟨h.1, ?_⟩
  rcases h.2 with h1 | ⟨g1, cap, cur, h1, h2, h3, h4, h5, h6, h7⟩
  · exact .inl h1
  · refine .inr ?_
    by_cases hg : g1 = g
    · subst hg
      refine ⟨g1, cap, cur.setIfInBounds j u, h1, h2, heap_setCell_same _ _ j _ _ u h3, h4, h5, by simpa using h6, ?_⟩
      rw [← h7, Array.toList_setIfInBounds, List.take_set_of_le (by omega)]
    · exact ⟨g1, cap, cur, h1, h2, (Below.heap_setCell _ _ _ _ hg).trans h3, h4, h5, h6, h7⟩
theorem row_put {w : World} {base : Nat} {e : TypeId} {n g cap j : Nat} {xs : List Value} (h : w.ownsRow base e 1 (.slice (some ⟨g, 0, none⟩) n cap) n xs) (u : Value) : (w.setCell ⟨g, j, none⟩ u).ownsRow base e 1 (.slice (some ⟨g, 0, none⟩) n cap) n (xs.set j u) := by
  refine ⟨by simpa using h.1, ?_⟩
  rcases h.2 with ⟨h1, _⟩ | ⟨g1, cap1, cur, h1, h2, h3, h4, h5, h6, h7⟩
  · cases h1
  · cases h1
    refine .inr ⟨g, cap, cur.setIfInBounds j u, rfl, h2, heap_setCell_same _ _ j _ _ u h3, h4, h5, by simpa using h6, ?_⟩
    rw [← h7, Array.toList_setIfInBounds, List.take_set]
theorem row_other {w : World} {base : Nat} {e : TypeId} {v : Value} {size n b j : Nat} {xs : List Value} (h : w.ownsRow base e size v n xs) (hb : v.ownBlock ≠ some b) (u : Value) : (w.setCell ⟨b, j, none⟩ u).ownsRow base e size v n xs := by
  refine ⟨h.1, ?_⟩
  rcases h.2 with h1 | ⟨g1, cap, cur, rfl, h2, h3, h4⟩
  · exact .inl h1
  · exact .inr ⟨g1, cap, cur, rfl, h2, (Below.heap_setCell _ _ _ _ (fun e => hb (congrArg some e))).trans h3, h4⟩
/-- The row's head alone. -/
theorem row_take {w : World} {base : Nat} {e : TypeId} {n g cap : Nat} {xs : List Value} (h : w.ownsRow base e 1 (.slice (some ⟨g, 0, none⟩) n cap) n xs) (i : Nat) (hi : i ≤ n) : w.ownsRow base e 1 (.slice (some ⟨g, 0, none⟩) i cap) i (xs.take i) := by
  refine ⟨by have := h.1; simp; omega, ?_⟩
  rcases h.2 with ⟨h1, _⟩ | ⟨g1, cap1, cur, h1, h2, h3, h4, h5, h6, h7⟩
  · cases h1
  · cases h1
    refine .inr ⟨g, cap, cur, rfl, h2, h3, by omega, h5, h6, ?_⟩
    rw [← h7, List.take_take]
    congr 1
    omega
end Go.Proofs.YtjfbnikbmadgkaaGreat
