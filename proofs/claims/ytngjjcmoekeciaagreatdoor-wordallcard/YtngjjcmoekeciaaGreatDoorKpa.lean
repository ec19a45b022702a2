/- Lists that are kept, of whatever kind: what does not hang on the kind. -/
import Derived.Test.YtngjjcmoekeciaaGreatDoorProg
import Derived.Test.YtngjjcmoekeciaaGreatDoorBxs
import Derived.Test.YtngjjcmoekeciaaGreatDoorStg
import Derived.Test.YtngjjcmoekeciaaGreatDoorRgf
import Derived.Test.YtngjjcmoekeciaaGreatDoorRgn
import Derived.Maps.AppendAt
import Derived.OwnWalk
import Derived.Laws.OwnMore
import Derived.Shelf.Abstract
import Derived.ArgAppend
import Derived.Laws.AppendOwnNone
import Derived.Laws.CopyRow
import Derived.Laws.CopyOwn
namespace Go.Proofs.YtngjjcmoekeciaaGreatDoor.Kel
open Go.RowKit Go.Shelf Go.Lib

theorem bel2 {w w1 w2 : World} (h : Below w.heap.size w w1) (k : Below w1.heap.size w1 w2) : Below w.heap.size w w2 := h.trans (k.mono h.size)
theorem al1 (w : World) (o : Obj) : Below w.heap.size w (w.alloc o) := (Below.refl _ w).alloc (Nat.le_refl _) o
theorem add_pl (b off j : Nat) : (⟨b, off, none⟩ : Addr).add j = ⟨b, off + j, none⟩ := by unfold Addr.add; split <;> simp_all
def vnat (v : Value) : Nat := match v with | .int _ n => n.toNat | _ => 0
section
variable {W V w w' : World} {base n size : Nat} {e : TypeId} {v : Value} {xs : List Value}
theorem own_form (h : W.ownsRow base e size v n xs) : (v = .slice none 0 0 ∧ n = 0) ∨ ∃ g cap, v = .slice (some ⟨g, 0, none⟩) n cap ∧ base ≤ g ∧ g < W.heap.size ∧ n ≤ cap ∧ cap ≤ maxLen ∧ ∃ cur, W.heap[g]? = some (.cells cur e (0, 0)) := by
  rcases h.2 with h1 | ⟨g, cap, cur, h1, h2, h3, h4, h5, _⟩
  · exact .inl h1
  · exact .inr ⟨g, cap, h1, h2, lt_at h3, h4, h5, cur, h3⟩
theorem rowForm (h : W.ownsRow base e size v n xs) : ∃ a c, v = .slice a n c ∧ (a = none → c = 0) := by
  rcases own_form h with ⟨rfl, e⟩ | ⟨g, cap, rfl, _⟩
  · exact ⟨none, 0, by rw [e], fun _ => rfl⟩
  · exact ⟨_, cap, rfl, fun e => by cases e⟩
theorem rowSucc (h : W.ownsRow base e size v (n + 1) xs) : ∃ g c, v = .slice (some ⟨g, 0, none⟩) (n + 1) c := by
  rcases own_form h with ⟨_, e⟩ | ⟨g, cap, e, _⟩
  · omega
  · exact ⟨g, cap, e⟩
theorem row_at (h : W.ownsRow base e size v n xs) (hv : ∀ g, v.ownBlock = some g → V.heap[g]? = W.heap[g]?) : V.ownsRow base e size v n xs := by
  obtain ⟨h1, h2⟩ := h
  refine ⟨h1, ?_⟩
  rcases h2 with h2 | ⟨g, cap, cur, h3, h4, h5, h6⟩
  · exact .inl h2
  · subst h3
    exact .inr ⟨g, cap, cur, rfl, h4, (hv g rfl).trans h5, h6⟩
theorem rowBlk (h : W.ownsRow base e size v n xs) : ∀ g, v.ownBlock = some g → base ≤ g ∧ ∃ cur, W.heap[g]? = some (.cells cur e (0, 0)) := by
  intro g hg
  rcases h.2 with ⟨rfl, _⟩ | ⟨g', cap, cur, rfl, h4, h5, _⟩
  · cases hg
  · cases hg
    exact ⟨h4, cur, h5⟩
theorem row_lt (h : W.ownsRow base e size v n xs) : ∀ b, v.ownBlock = some b → base ≤ b ∧ b < W.heap.size := fun b hb => by
  obtain ⟨h1, cur, h2⟩ := rowBlk h b hb
  exact ⟨h1, lt_at h2⟩
theorem row_below (h : W.ownsRow base e size v n xs) (hb : Below W.heap.size W V) : V.ownsRow base e size v n xs := row_at h fun g hg => hb.block _ (row_lt h g hg).2
theorem row_base {base' : Nat} (h : W.ownsRow base e size v n xs) (hb : base' ≤ base) : W.ownsRow base' e size v n xs := by
  refine ⟨h.1, ?_⟩
  rcases h.2 with h1 | ⟨g, cap, cur, h1, h2, h3, h4⟩
  · exact .inl h1
  · exact .inr ⟨g, cap, cur, h1, Nat.le_trans hb h2, h3, h4⟩
theorem row_off {row : Option Nat} (h : W.ownsRow base e size v n xs) (hg : W.grownBy V row) (hne : ∀ b, row = some b → v.ownBlock ≠ some b) : V.ownsRow base e size v n xs :=
  row_at h fun g hv => hg.block g (row_lt h g hv).2 (fun e => hne g e.symm hv)
theorem row_type {q : Nat} {cur : Array Value} {t : TypeId} {fz : Nat × Nat} (h : W.ownsRow base e size v n xs) (ho : W.heap[q]? = some (.cells cur t fz)) (ht : t ≠ e) : v.ownBlock ≠ some q := fun hq => by
  obtain ⟨_, c, h2⟩ := rowBlk h q hq
  have := h2.symm.trans ho
  simp only [Option.some.injEq, Obj.cells.injEq] at this
  exact ht this.2.1.symm
theorem row_set {b j : Nat} (h : W.ownsRow base e size v n xs) (hb : v.ownBlock ≠ some b) (u : Value) : (W.setCell ⟨b, j, none⟩ u).ownsRow base e size v n xs :=
  row_at h fun g hg => Below.heap_setCell _ _ _ _ (fun e => hb (by rw [hg, e]))
theorem own_prefix {g cap N : Nat} (h : W.ownsRow base e size (.slice (some ⟨g, 0, none⟩) n cap) n xs) (hN : N ≤ n) : W.ownsRow base e size (.slice (some ⟨g, 0, none⟩) N cap) N (xs.take (N * size)) := by
  obtain ⟨h1, h2⟩ := h
  have hle : N * size ≤ n * size := Nat.mul_le_mul_right _ hN
  rcases h2 with ⟨q, _⟩ | ⟨g', cap', cur, q, hb, hc, h4, h5, h6, h7⟩
  · cases q
  cases q
  refine ⟨by rw [List.length_take]; omega, .inr ⟨g, cap, cur, rfl, hb, hc, by omega, h5, h6, ?_⟩⟩
  rw [← h7, List.take_take, Nat.min_eq_left hle]
end
theorem wpList_append_two {P : Program} (w : World) {ops : Array Oper} {rest : List Oper} {o : Oper} {a : Act} {Q : Exit → Act → World → Prop}
    (hg : o.guard = none) (s x : Operand) (t : TypeId) (hop : o.op = Op.call { callee := Callee.builtin Builtin.append, args := #[s, x], argTypes := #[t, t] })
    (base : Nat) (e : TypeId) (i : TypeInfo) (z : Value) (size bytes : Nat) (h1 : P.underlying t = some (.slice e)) (h2 : P.info? e = some i) (h3 : i.zero = some z) (h4 : i.size = size) (h5 : i.bytes = bytes) (h6 : z.cells.size = size) (h7 : 0 < size)
    (v : Value) (n : Nat) (xs : List Value) (hs : a.eval s = v) (hown : w.ownsRow base e size v n xs)
    (ad : Addr) (m c : Nat) (news : List Value) (hx : a.eval x = .slice (some ad) m c) (hn : news.length = m * size) (hc : ∀ j u, news[j]? = some u → w.cell? (ad.add j) = some u) (h1c : ∀ u ∈ news, u.oneCell' = true)
    (hm0 : 0 < m) (b1 : n + m ≤ maxLen) (b2 : (n + m) * bytes ≤ 140737488355328) (hbase : base ≤ w.heap.size)
    (hK : ∀ v' w', w'.ownsRow base e size v' (n + m) (xs ++ news) → ((∃ g cap, v = .slice (some ⟨g, 0, none⟩) n cap ∧ v' = .slice (some ⟨g, 0, none⟩) (n + m) cap ∧ w.grownBy w' (some g)) ∨ (w'.ownsRow w.heap.size e size v' (n + m) (xs ++ news) ∧ w.grownBy w' none)) → wpList P ops Q rest (a.put o.dst v') w') :
    wpList P ops Q (o :: rest) a w := by
  obtain ⟨l1, l2⟩ := hown
  have hfin : ∀ v' w', w'.ownsRow w.heap.size e size v' (n + m) (xs ++ news) → w.grownBy w' none → wpList P ops Q rest (a.put o.dst v') w' := fun v' w' q1 q2 => hK v' w' (row_base q1 hbase) (.inr ⟨q1, q2⟩)
  rcases l2 with ⟨rfl, rfl⟩ | ⟨g, cap, cur, rfl, hb, hgc, hnc, hcm, hsz, htk⟩
  · exact wpList_append_grows w hg s x t hop e i z size bytes h1 h2 h3 h4 h5 h6 h7 none 0 0 xs hs (fun _ => ⟨rfl, rfl⟩) l1 (fun b hb => by cases hb) ad m c news hx hn hc h1c (by omega) b1 b2 hfin
  by_cases hr : n + m ≤ cap
  case neg =>
    refine wpList_append_grows w hg s x t hop e i z size bytes h1 h2 h3 h4 h5 h6 h7 (some ⟨g, 0, none⟩) n cap xs hs (fun q => by cases q) l1 (fun b hb j u hj => ?_) ad m c news hx hn hc h1c (by omega) b1 b2 hfin
    obtain rfl := Option.some.inj hb
    rw [add_pl, Nat.zero_add, cell_at hgc, ← Array.getElem?_toList]
    rw [← htk] at hj
    rw [List.getElem?_take] at hj
    split at hj
    · exact hj
    · cases hj
  · subst h4
    have hm1 : (n + m) * i.size ≤ cap * i.size := Nat.mul_le_mul_right _ hr
    have hm2 : (n + m) * i.size = n * i.size + m * i.size := Nat.add_mul _ _ _
    have hrun := run_append_room (P := P) w t o.type e i h1 h2 g n cap cur hgc ad m c news hn hc h1c hr (by omega)
    refine wpList_plain hg fun K hK' => ?_
    unfold Oper.wp
    simp [execOp, hop, resolve, invoke, builtin, hs, hx, hrun, Result.andThen]
    refine hK' _ _ (hK _ _ ⟨by rw [List.length_append]; omega, .inr ⟨g, cap, _, rfl, hb, setRow_heap _ _ _ _ _ _ hgc, hr, hcm, ?_, ?_⟩⟩ (.inl ⟨g, cap, rfl, rfl, ⟨rfl, rfl, rfl, by simp [World.setRow], fun k _ hk => Go.setRow_other _ _ _ _ (fun e => hk (by rw [e]))⟩⟩))
    · simp
      omega
    · have e1 : xs.length = n * i.size := l1
      rw [htk, ← List.append_assoc, List.take_append_of_le_length (by rw [List.length_append]; omega), List.take_of_length_le (by rw [List.length_append]; omega)]
/-- A list's elements as cells. -/
def fc {α : Type} (c : α → List Value) (l : List α) : List Value := l.flatMap c
section
variable {α : Type} {c : α → List Value} {s : Nat}
theorem fc_nil : fc c [] = [] := rfl
theorem fc_cons (a : α) (l : List α) : fc c (a :: l) = c a ++ fc c l := by simp [fc]
theorem fc_append (l m : List α) : fc c (l ++ m) = fc c l ++ fc c m := by simp [fc]
theorem fc_len (hs : ∀ a, (c a).length = s) (l : List α) : (fc c l).length = l.length * s := by
  induction l with
  | nil => simp [fc]
  | cons a l ih => rw [fc_cons, List.length_append, hs, ih, List.length_cons, Nat.succ_mul]; omega
theorem fc_take (hs : ∀ a, (c a).length = s) (l : List α) (j : Nat) : (fc c l).take (j * s) = fc c (l.take j) := by
  by_cases hj : j ≤ l.length
  · have h : fc c l = fc c (l.take j) ++ fc c (l.drop j) := by rw [← fc_append, List.take_append_drop]
    have e : (fc c (l.take j)).length = j * s := by rw [fc_len hs, List.length_take, Nat.min_eq_left hj]
    rw [h, List.take_append_of_le_length (by omega), List.take_of_length_le (by omega)]
  · have : l.length * s ≤ j * s := Nat.mul_le_mul_right _ (by omega)
    rw [List.take_of_length_le (by rw [fc_len hs]; omega), List.take_of_length_le (by omega)]
theorem fc_drop (hs : ∀ a, (c a).length = s) (l : List α) (j : Nat) : (fc c l).drop (j * s) = fc c (l.drop j) := by
  by_cases hj : j ≤ l.length
  · have h : fc c l = fc c (l.take j) ++ fc c (l.drop j) := by rw [← fc_append, List.take_append_drop]
    have e : (fc c (l.take j)).length = j * s := by rw [fc_len hs, List.length_take, Nat.min_eq_left hj]
    rw [h, List.drop_append, List.drop_of_length_le (by omega), List.nil_append, e, Nat.sub_self, List.drop_zero]
  · have : l.length * s ≤ j * s := Nat.mul_le_mul_right _ (by omega)
    rw [List.drop_of_length_le (by rw [fc_len hs]; omega), List.drop_of_length_le (by omega)]
    rfl
theorem fc_one (h1 : ∀ a, ∀ v ∈ c a, v.oneCell' = true) (l : List α) : ∀ u ∈ fc c l, u.oneCell' = true := by
  intro u hu
  obtain ⟨a, _, h⟩ := List.mem_flatMap.1 hu
  exact h1 a u h
theorem fc_get (hs : ∀ a, (c a).length = s) : ∀ (l : List α) (k : Nat) (x : α), l[k]? = some x → ∀ j, j < s → (fc c l)[k * s + j]? = (c x)[j]?
  | [], k, x, h, _, _ => by simp at h
  | y :: l, 0, x, h, j, hj => by
    simp at h
    subst h
    rw [fc_cons, Nat.zero_mul, Nat.zero_add, List.getElem?_append_left (by rw [hs]; omega)]
  | y :: l, k + 1, x, h, j, hj => by
    have := fc_get hs l k x (by simpa using h) j hj
    rw [fc_cons, List.getElem?_append_right (by rw [hs, Nat.succ_mul]; omega), hs, ← this]
    congr 1
    rw [Nat.succ_mul]
    omega
theorem fc_set (hs : ∀ a, (c a).length = s) (l : List α) (j : Nat) (x : α) (hj : j < l.length) : fc c (l.set j x) = (fc c l).take (j * s) ++ (c x ++ (fc c l).drop (j * s + s)) := by
  rw [fc_take hs, show j * s + s = (j + 1) * s by rw [Nat.succ_mul], fc_drop hs, List.set_eq_take_append_cons_drop, if_pos hj, fc_append, fc_cons]
end
/-- What lies where. -/
def FA (W : World) (b off : Nat) (cs : List Value) : Prop := ∀ j u, cs[j]? = some u → W.cell? ⟨b, off + j, none⟩ = some u
def RdF (W : World) (ad : Option Addr) (cs : List Value) : Prop := cs ≠ [] → ∃ b off, ad = some ⟨b, off, none⟩ ∧ b < W.heap.size ∧ FA W b off cs
theorem FA.of {W V : World} {b off : Nat} {cs : List Value} (h : FA W b off cs) (e : V.heap[b]? = W.heap[b]?) : FA V b off cs := fun j u hj => (World.cell?_of_block (a := ⟨b, _, none⟩) e).trans (h j u hj)
theorem RdF.carry {W V : World} {ad : Option Addr} {cs : List Value} (h : RdF W ad cs) (hb : Below W.heap.size W V) : RdF V ad cs := fun hn => by
  obtain ⟨b, off, e, h1, h2⟩ := h hn
  exact ⟨b, off, e, Nat.lt_of_lt_of_le h1 hb.size, h2.of (hb.block _ h1)⟩
theorem FA.own {W : World} {base g n cap size : Nat} {e : TypeId} {cs : List Value} (h : W.ownsRow base e size (.slice (some ⟨g, 0, none⟩) n cap) n cs) : FA W g 0 cs := fun j u hj => by
  have hlt : j < cs.length := (List.getElem?_eq_some_iff.1 hj).1
  rw [Nat.zero_add]
  exact (h.cellAt _ (by have := h.1; omega)).trans hj
theorem FA.src {W : World} {b off : Nat} {cs : List Value} (h : FA W b off cs) : ∀ j u, cs[j]? = some u → W.cell? ((⟨b, off, none⟩ : Addr).add j) = some u := fun j u hj => by
  rw [add_pl]
  exact h j u hj
theorem own_rd {W : World} {base n size : Nat} {e : TypeId} {z : Value} {cs : List Value} (h : W.ownsRow base e size z n cs) : ∃ ad c, z = .slice ad n c ∧ RdF W ad cs ∧ (ad = none → c = 0) := by
  rcases own_form h with ⟨rfl, e⟩ | ⟨g, cap, rfl, h1, h2, h3⟩
  · refine ⟨none, 0, by rw [e], fun hn => ?_, fun _ => rfl⟩
    have := h.1
    rw [e, Nat.zero_mul] at this
    exact absurd (List.eq_nil_of_length_eq_zero this) hn
  · exact ⟨some ⟨g, 0, none⟩, cap, rfl, fun _ => ⟨g, 0, rfl, h2, FA.own h⟩, fun e => by cases e⟩
theorem cell_lt {W : World} {a : Addr} {v : Value} (h : W.cell? a = some v) : a.block < W.heap.size := by
  unfold World.cell? at h
  cases hb : W.heap[a.block]? with
  | none => simp [hb] at h
  | some o => exact (Array.getElem?_eq_some_iff.1 hb).1
theorem run_store_in {P : Program} (w : World) (g o : Nat) (t ty : TypeId) (cur vs : List Value) (val : Value) (hv : val.cells = vs.toArray) (hg : w.heap[g]? = some (.cells cur.toArray t (0, 0))) (hi : (P.info? ty).map (·.size) = some vs.length) (hf : o + vs.length ≤ cur.length) (h1 : ∀ v ∈ vs, v.oneCell' = true) :
    (Instr.storeAt ty (.pointer (some ⟨g, o, none⟩)) val).run P w = .ok () (w.setRow g (splice cur o vs).toArray) := by
  have := run_storeCells_at P g o t vs 0 cur.toArray w hg (by simpa using hf) h1
  cases hq : P.info? ty with
  | none => simp [hq] at hi
  | some i =>
    have hs : vs.length = i.size := by simp [hq] at hi; omega
    simp only [Nat.add_zero] at this
    simp [Instr.storeAt, Instr.sureAddr, storeVar, sizeOf, typeInfo, hq, hv, hs, this, splice]
/-- What is not kept abides. -/
def Px (x : List Value) (k : Nat) : Prop := ∀ (i : Nat) (z : Value), x[i]? = some z → z.ownBlock ≠ some k
structure Bx (x : List Value) (w V : World) : Prop where
  os : V.os = w.os
  tape : V.tape = w.tape
  output : V.output = w.output
  size : w.heap.size ≤ V.heap.size
  block : ∀ k, k < w.heap.size → Px x k → V.heap[k]? = w.heap[k]?
theorem Bx.refl (x : List Value) (w : World) : Bx x w w := ⟨rfl, rfl, rfl, Nat.le_refl _, fun _ _ _ => rfl⟩
theorem Bx.below {x : List Value} {w W V : World} (h : Bx x w W) (hb : Below W.heap.size W V) : Bx x w V := ⟨hb.os.trans h.os, hb.tape.trans h.tape, hb.output.trans h.output, Nat.le_trans h.size hb.size, fun k hk hp => (hb.block k (Nat.lt_of_lt_of_le hk h.size)).trans (h.block k hk hp)⟩
theorem Bx.grown {x : List Value} {w W V : World} {r : Option Nat} (h : Bx x w W) (hg : W.grownBy V r) (hr : ∀ q, r = some q → ¬ Px x q ∨ w.heap.size ≤ q) : Bx x w V := ⟨hg.os.trans h.os, hg.tape.trans h.tape, hg.output.trans h.output, Nat.le_trans h.size hg.size, fun k hk hp => (hg.block k (Nat.lt_of_lt_of_le hk h.size) (fun e => by
  rcases hr k e.symm with q | q
  · exact q hp
  · omega)).trans (h.block k hk hp)⟩
theorem Bx.trans {x : List Value} {w W V : World} (h : Bx x w W) (k : Bx x W V) : Bx x w V := ⟨k.os.trans h.os, k.tape.trans h.tape, k.output.trans h.output, Nat.le_trans h.size k.size, fun j hj hp => (k.block j (Nat.lt_of_lt_of_le hj h.size) hp).trans (h.block j hj hp)⟩
theorem Px.no {x : List Value} {i g : Nat} {z : Value} (h : x[i]? = some z) (hg : z.ownBlock = some g) : ¬ Px x g := fun p => p i z h hg
/-- A kind's types. -/
structure KI (T TT TTT TB : TypeId) (s by_ : Nat) : Prop where
  iT : ∃ i z, Tryz.prog.info? T = some i ∧ i.zero = some z ∧ i.size = s ∧ i.bytes = by_ ∧ z.cells.size = s
  uT : Tryz.prog.underlying TT = some (.slice T)
  iS : ∃ i, Tryz.prog.info? TT = some i ∧ i.zero = some (.slice none 0 0) ∧ i.size = 1 ∧ i.bytes = 24
  uS : Tryz.prog.underlying TTT = some (.slice TT)
  nT : T ≠ TT
  nB : TB ≠ T
  nS : TB ≠ TT
  s0 : 0 < s
  b0 : by_ ≤ 1000
theorem info_parts {t : TypeId} {z : Option Value} {s b : Nat} (h : (Tryz.prog.info? t).map (fun i => (i.zero, i.size, i.bytes)) = some (z, s, b)) : ∃ i, Tryz.prog.info? t = some i ∧ i.zero = z ∧ i.size = s ∧ i.bytes = b := by
  cases hi : Tryz.prog.info? t with
  | none => rw [hi] at h; cases h
  | some i =>
    rw [hi] at h
    simp only [Option.map_some, Option.some.injEq, Prod.mk.injEq] at h
    exact ⟨i, rfl, h.1, h.2.1, h.2.2⟩
/-- The book of lists. -/
def Bb (TB : TypeId) (W : World) (bb : Nat) (C : Array Value) : Prop := W.heap[bb]? = some (.cells C TB (0, 0))
/-- Lists of a kind that are kept. -/
structure Kl {α : Type} (c : α → List Value) (s : Nat) (T TT : TypeId) (base : Nat) (W : World) (u : Value) (x : List Value) (L : List (List α)) : Prop where
  row : W.ownsRow base TT 1 u L.length x
  ks : ∀ (i : Nat) (l : List α), L[i]? = some l → ∃ z, x[i]? = some z ∧ W.ownsRow base T s z l.length (fc c l) ∧ l.length ≤ 1000000
  ap : ∀ (i j g : Nat) (z z' : Value), x[i]? = some z → x[j]? = some z' → z.ownBlock = some g → z'.ownBlock = some g → i = j
  k : L.length ≤ 400
/-- Their copies. -/
structure Cl {α : Type} (c : α → List Value) (TT : TypeId) (base : Nat) (W : World) (v : Value) (y : List Value) (L : List (List α)) : Prop where
  row : W.ownsRow base TT 1 v L.length y
  ks : ∀ (i : Nat) (l : List α), L[i]? = some l → ∃ ad c', y[i]? = some (.slice ad l.length c') ∧ RdF W ad (fc c l)
section
variable {α : Type} {c : α → List Value} {s : Nat} {T TT TTT TB : TypeId} {by_ base bb : Nat} {W V : World} {u v : Value} {x y : List Value} {L : List (List α)} {C : Array Value}
theorem Kl.lenx (h : Kl c s T TT base W u x L) : x.length = L.length := by
  have := h.row.1
  omega
theorem Kl.get (h : Kl c s T TT base W u x L) {i : Nat} {z : Value} (hz : x[i]? = some z) : ∃ l, L[i]? = some l ∧ W.ownsRow base T s z l.length (fc c l) ∧ l.length ≤ 1000000 := by
  have hi : i < L.length := by rw [← h.lenx]; exact (List.getElem?_eq_some_iff.1 hz).1
  obtain ⟨z', q1, q2, q3⟩ := h.ks i _ (List.getElem?_eq_getElem hi)
  rw [hz] at q1
  obtain rfl := Option.some.inj q1
  exact ⟨_, List.getElem?_eq_getElem hi, q2, q3⟩
theorem Kl.move (h : Kl c s T TT base W u x L) (hu : ∀ g, u.ownBlock = some g → V.heap[g]? = W.heap[g]?) (hx : ∀ (i : Nat) (z : Value) (g : Nat), x[i]? = some z → z.ownBlock = some g → V.heap[g]? = W.heap[g]?) : Kl c s T TT base V u x L :=
  ⟨row_at h.row hu, fun i l hl => by
    obtain ⟨z, h1, h2, h3⟩ := h.ks i l hl
    exact ⟨z, h1, row_at h2 (fun g hg => hx i z g h1 hg), h3⟩, h.ap, h.k⟩
theorem Kl.ltx (h : Kl c s T TT base W u x L) {i g : Nat} {z : Value} (hz : x[i]? = some z) (hg : z.ownBlock = some g) : base ≤ g ∧ g < W.heap.size := by
  obtain ⟨l, _, h2, _⟩ := h.get hz
  exact row_lt h2 g hg
theorem Kl.tyx (h : Kl c s T TT base W u x L) {i g : Nat} {z : Value} (hz : x[i]? = some z) (hg : z.ownBlock = some g) : ∃ cur, W.heap[g]? = some (.cells cur T (0, 0)) := by
  obtain ⟨l, _, h2, _⟩ := h.get hz
  exact (rowBlk h2 g hg).2
theorem Kl.carry (h : Kl c s T TT base W u x L) (hb : Below W.heap.size W V) : Kl c s T TT base V u x L :=
  h.move (fun g hg => hb.block _ (row_lt h.row g hg).2) (fun _ _ _ hz hg => hb.block _ (h.ltx hz hg).2)
theorem Kl.off (h : Kl c s T TT base W u x L) {ob : Option Nat} (hg : W.grownBy V ob) (hu : ∀ b, ob = some b → u.ownBlock ≠ some b) (hx : ∀ b, ob = some b → ∀ (i : Nat) (z : Value), x[i]? = some z → z.ownBlock ≠ some b) : Kl c s T TT base V u x L :=
  h.move (fun g hv => hg.block _ (row_lt h.row g hv).2 (fun e => hu g e.symm hv)) (fun i z g hz hv => hg.block _ (h.ltx hz hv).2 (fun e => hx g e.symm i z hz hv))
/-- Other kinds' lists turn. -/
theorem Kl.bx {x' : List Value} (h : Kl c s T TT base W u x L) (hb : Bx x' W V) (hu : ∀ g, u.ownBlock = some g → Px x' g) (hx : ∀ (i : Nat) (z : Value) (g : Nat), x[i]? = some z → z.ownBlock = some g → Px x' g) : Kl c s T TT base V u x L :=
  h.move (fun g hg => hb.block _ (row_lt h.row g hg).2 (hu g hg)) (fun i z g hz hg => hb.block _ (h.ltx hz hg).2 (hx i z g hz hg))
/-- Kinds of other types. -/
theorem Kl.px {β : Type} {c' : β → List Value} {s' : Nat} {T' TT' : TypeId} {u' : Value} {x' : List Value} {L' : List (List β)} {base' : Nat} (h : Kl c' s' T' TT' base' W u' x' L') {g : Nat} {cur : Array Value} {t : TypeId} (hg : W.heap[g]? = some (.cells cur t (0, 0))) (ht : t ≠ T') : Px x' g := fun i z hz e => by
  obtain ⟨cur', h2⟩ := h.tyx hz e
  rw [hg] at h2
  simp only [Option.some.injEq, Obj.cells.injEq] at h2
  exact ht h2.2.1
theorem Kl.bxt {β : Type} {c' : β → List Value} {s' : Nat} {T' TT' : TypeId} {u' : Value} {x' : List Value} {L' : List (List β)} {base' : Nat} (h : Kl c s T TT base W u x L) (h' : Kl c' s' T' TT' base' W u' x' L') (hb : Bx x' W V) (h1 : T ≠ T') (h2 : TT ≠ T') : Kl c s T TT base V u x L :=
  h.bx hb (fun g hg => by
    obtain ⟨_, cur, q⟩ := rowBlk h.row g hg
    exact h'.px q h2) (fun i z g hz hg => by
    obtain ⟨cur, q⟩ := h.tyx hz hg
    exact h'.px q h1)
theorem Bb.bxt {β : Type} {c' : β → List Value} {s' : Nat} {T' TT' : TypeId} {u' : Value} {x' : List Value} {L' : List (List β)} {base' : Nat} (h : Bb TB W bb C) (h' : Kl c' s' T' TT' base' W u' x' L') (hb : Bx x' W V) (h1 : TB ≠ T') : Bb TB V bb C :=
  (hb.block _ (lt_at h) (h'.px h h1)).trans h
theorem Bb.carry (h : Bb TB W bb C) (hb : Below W.heap.size W V) : Bb TB V bb C := (hb.block _ (lt_at h)).trans h
theorem Kl.cell (h : Kl c s T TT base W u x L) {i : Nat} {l : List α} (hl : L[i]? = some l) : ∃ g c' z, u = .slice (some ⟨g, 0, none⟩) L.length c' ∧ W.cell? ⟨g, i, none⟩ = some z ∧ x[i]? = some z ∧ W.ownsRow base T s z l.length (fc c l) ∧ l.length ≤ 1000000 := by
  obtain ⟨z, h1, h2, h3⟩ := h.ks i l hl
  have hi : i < L.length := (List.getElem?_eq_some_iff.1 hl).1
  have hr := h.row
  rcases own_form hr with ⟨_, e⟩ | ⟨g, cap, e, _⟩
  · omega
  · rw [e] at hr
    exact ⟨g, cap, z, e, (hr.cellAt _ (by have := h.lenx; omega)).trans h1, h1, h2, h3⟩
/-- One list turns, in its own block. -/
theorem Kl.turn (hI : T ≠ TT) (h : Kl c s T TT base W u x L) {i g : Nat} {l l' : List α} {z : Value} (hl : L[i]? = some l) (hz : x[i]? = some z) (hzg : z.ownBlock = some g) (hV : V.ownsRow base T s z l'.length (fc c l')) (hlen : l'.length = l.length) (hg : W.grownBy V (some g)) : Kl c s T TT base V u x (L.set i l') := by
  obtain ⟨cur, hgc⟩ := h.tyx hz hzg
  obtain ⟨z0, k1, k2, k3⟩ := h.ks i l hl
  refine ⟨by rw [List.length_set]; exact row_off h.row hg (fun b e => by obtain rfl := Option.some.inj e; exact row_type h.row hgc hI), fun i' l2 hl2 => ?_, h.ap, by rw [List.length_set]; exact h.k⟩
  by_cases e : i = i'
  · subst e
    rw [List.getElem?_set_self (List.getElem?_eq_some_iff.1 hl).1] at hl2
    obtain rfl := Option.some.inj hl2
    exact ⟨z, hz, hV, by omega⟩
  · rw [List.getElem?_set_ne e] at hl2
    obtain ⟨z', q1, q2, q3⟩ := h.ks i' l2 hl2
    exact ⟨z', q1, row_off q2 hg (fun b e2 e3 => by
      obtain rfl := Option.some.inj e2
      exact e (h.ap i i' g z z' hz q1 hzg e3)), q3⟩
/-- A list that is one's own, one of its elements put. -/
theorem row_put (hs : ∀ a, (c a).length = s) (h1 : ∀ a, ∀ v ∈ c a, v.oneCell' = true) {g n cap : Nat} {l : List α} (h : W.ownsRow base T s (.slice (some ⟨g, 0, none⟩) n cap) n (fc c l)) (hn : n = l.length) {j : Nat} (hj : j < n) (a : α) (val : Value) (hv : val.cells = (c a).toArray) (hi : (Tryz.prog.info? T).map (·.size) = some s) :
    ∃ V, (Instr.storeAt T (.pointer (some ⟨g, 0 + j * s, none⟩)) val).run Tryz.prog W = .ok () V ∧ V.ownsRow base T s (.slice (some ⟨g, 0, none⟩) n cap) n (fc c (l.set j a)) ∧ W.grownBy V (some g) := by
  subst hn
  obtain ⟨l1, h2⟩ := h
  rcases h2 with ⟨e, _⟩ | ⟨g', cap', cur, e, hb, hc, h4, h5, h6, h7⟩
  · cases e
  cases e
  have hm : (j + 1) * s ≤ l.length * s := Nat.mul_le_mul_right _ hj
  have hm2 : l.length * s ≤ cap * s := Nat.mul_le_mul_right _ h4
  rw [Nat.succ_mul] at hm
  have hs' := run_store_in (P := Tryz.prog) W g (0 + j * s) T T cur.toList (c a) val hv (by simpa using hc) (by rw [hs]; exact hi) (by rw [hs]; simp; omega) (h1 a)
  refine ⟨_, hs', ⟨by rw [fc_len hs, List.length_set], .inr ⟨g, cap, _, rfl, hb, setRow_heap _ _ _ _ _ _ hc, by simpa using h4, h5, ?_, ?_⟩⟩, ⟨rfl, rfl, rfl, by simp [World.setRow], fun k _ hk => Go.setRow_other _ _ _ _ (fun e => hk (by rw [e]))⟩⟩
  · simp [splice, hs]
    omega
  · have e1 : (fc c l).length = l.length * s := fc_len hs l
    obtain ⟨R, hR⟩ : ∃ R, cur.toList.drop (l.length * s) = R := ⟨_, rfl⟩
    have e2 : cur.toList = fc c l ++ R := by rw [← h7, ← hR, List.take_append_drop]
    rw [Nat.zero_add]
    unfold splice
    rw [fc_set hs l j a hj, hs]
    have q1 : (cur.toList.take (j * s)) = (fc c l).take (j * s) := by rw [e2, List.take_append_of_le_length (by omega)]
    have q2 : cur.toList.drop (j * s + s) = (fc c l).drop (j * s + s) ++ R := by rw [e2, List.drop_append, e1, show j * s + s - l.length * s = 0 by omega, List.drop_zero]
    rw [q1, q2]
    simp only [← List.append_assoc]
    have e5 : ((fc c l).take (j * s)).length = j * s := by rw [List.length_take, e1, Nat.min_eq_left (by omega)]
    rw [List.take_append_of_le_length (by simp only [List.length_append, e5, hs, List.length_drop, e1]; omega), List.take_of_length_le (by simp only [List.length_append, e5, hs, List.length_drop, e1]; omega)]
theorem set_same {α : Type} {L : List α} {k : Nat} {l : α} (h : L[k]? = some l) : L.set k l = L := by
  refine List.ext_getElem? fun j => ?_
  by_cases e : k = j
  · subst e
    rw [List.getElem?_set_self (List.getElem?_eq_some_iff.1 h).1, h]
  · rw [List.getElem?_set_ne e]
theorem take_put {m l : List α} {j : Nat} {a : α} (hj : m[j]? = some a) (hl : l.length = m.length) : (m.take j ++ l.drop j).set j a = m.take (j + 1) ++ l.drop (j + 1) := by
  obtain ⟨hlt, rfl⟩ := List.getElem?_eq_some_iff.1 hj
  have e1 : (m.take j).length = j := by rw [List.length_take]; omega
  rw [List.set_append_right _ _ (by omega), e1, Nat.sub_self, List.drop_eq_getElem_cons (by omega), List.set_cons_zero, ← List.take_append_getElem hlt, List.append_assoc]
  rfl
end
/-- The marks of the list i, from a place on, so many. -/
def mkL {α : Type} (mk : Nat → Nat → α) (i f n : Nat) : List α := (List.range n).map fun k => mk i (f + k)
section
variable {α : Type} {mk : Nat → Nat → α}
theorem mkL_len (i f n : Nat) : (mkL mk i f n).length = n := by simp [mkL]
theorem mkL_succ (i f n : Nat) : mkL mk i f (n + 1) = mkL mk i f n ++ [mk i (f + n)] := by simp [mkL, List.range_succ]
theorem mkL_app (i f n : Nat) : ∀ m, mkL mk i f n ++ mkL mk i (f + n) m = mkL mk i f (n + m)
  | 0 => by simp [mkL]
  | m + 1 => by rw [mkL_succ, ← List.append_assoc, mkL_app i f n m, show n + (m + 1) = n + m + 1 by omega, mkL_succ, Nat.add_assoc f n m]
theorem mkL_get (i n k : Nat) (hk : k < n) : (mkL mk i 0 n)[k]? = some (mk i k) := by
  unfold mkL
  rw [List.getElem?_map, List.getElem?_range hk]
  simp
theorem mkL_take (i n k : Nat) (hk : k ≤ n) : (mkL mk i 0 n).take k = mkL mk i 0 k := by
  have h := mkL_app (mk := mk) i 0 k (n - k)
  rw [show k + (n - k) = n by omega] at h
  rw [← h, List.take_append_of_le_length (by rw [mkL_len]; omega), List.take_of_length_le (by rw [mkL_len]; omega)]
/-- Marked up to k. -/
def upN (mk : Nat → Nat → α) (L L' : List (List α)) (k : Nat) : Prop := L'.length = L.length ∧ ∀ (j : Nat) (l : List α), L[j]? = some l → L'[j]? = some (if j < k then mkL mk j 0 l.length else l)
theorem upN.zero (L : List (List α)) : upN mk L L 0 := ⟨rfl, fun j l hl => by rw [if_neg (by omega)]; exact hl⟩
theorem upN.succ {L L' : List (List α)} {k : Nat} (h : upN mk L L' k) {l : List α} (hl : L[k]? = some l) : upN mk L (L'.set k (mkL mk k 0 l.length)) (k + 1) := by
  refine ⟨by rw [List.length_set]; exact h.1, fun j l' hl' => ?_⟩
  by_cases e : k = j
  · subst e
    rw [hl] at hl'
    cases hl'
    rw [List.getElem?_set_self (by rw [h.1]; exact (List.getElem?_eq_some_iff.1 hl).1), if_pos (by omega)]
  · rw [List.getElem?_set_ne e, h.2 j l' hl']
    by_cases q : j < k
    · rw [if_pos q, if_pos (by omega)]
    · rw [if_neg q, if_neg (by omega)]
/-- All are marked. -/
def Mkd (mk : Nat → Nat → α) (L : List (List α)) : Prop := ∀ (j : Nat) (l : List α), L[j]? = some l → l = mkL mk j 0 l.length
theorem upN.all {L L' : List (List α)} (h : upN mk L L' L.length) : Mkd mk L' := fun j l hl => by
  have hj : j < L.length := by rw [← h.1]; exact (List.getElem?_eq_some_iff.1 hl).1
  have := h.2 j _ (List.getElem?_eq_getElem hj)
  rw [if_pos hj, hl] at this
  have e := Option.some.inj this
  rw [e, mkL_len]
variable {c : α → List Value} {s : Nat} {T TT TTT TB : TypeId} {by_ base bb : Nat} {W V : World} {u v : Value} {x y : List Value} {L : List (List α)}
/-- All lists of a row are marked. -/
def Mkn (mk : Nat → Nat → α) (c : α → List Value) (W : World) (xs : List Value) : Prop := ∀ (i : Nat) (z : Value), xs[i]? = some z → ∃ ad n c', z = .slice ad n c' ∧ RdF W ad (fc c (mkL mk i 0 n)) ∧ n ≤ 1001000
theorem Mkn.of (h : Kl c s T TT base W u x L) (hm : Mkd mk L) : Mkn mk c W x := fun i z hz => by
  obtain ⟨l, hl, h2, h3⟩ := h.get hz
  obtain ⟨ad, c', e, hr, _⟩ := own_rd h2
  refine ⟨ad, l.length, c', e, ?_, by omega⟩
  rw [← hm i l hl]
  exact hr
/-- The lists that were grown. -/
def Gkn (mk : Nat → Nat → α) (c : α → List Value) (s : Nat) (T : TypeId) (base s0 : Nat) (x : List Value) (W : World) (O : List Value) : Prop := ∀ (i : Nat) (z' : Value), O[i]? = some z' → ∃ n, W.ownsRow base T s z' n (fc c (mkL mk i 0 n)) ∧ n ≤ 1001000 ∧ ((∃ z, x[i]? = some z ∧ z'.ownBlock = z.ownBlock) ∨ ∀ b, z'.ownBlock = some b → s0 ≤ b)
theorem Gkn.mkn {s0 : Nat} {O : List Value} (h : Gkn mk c s T base s0 x W O) : Mkn mk c W O := fun i z hz => by
  obtain ⟨n, h1, h2, _⟩ := h i z hz
  obtain ⟨ad, c', e, hr, _⟩ := own_rd h1
  exact ⟨ad, n, c', e, hr, h2⟩
theorem Gkn.off {s0 : Nat} {O : List Value} (h : Gkn mk c s T base s0 x W O) {ob : Option Nat} (hg : W.grownBy V ob) (hO : ∀ b, ob = some b → ∀ (i : Nat) (z : Value), O[i]? = some z → z.ownBlock ≠ some b) : Gkn mk c s T base s0 x V O := fun i z hz => by
  obtain ⟨n, h1, h2, h3⟩ := h i z hz
  exact ⟨n, row_off h1 hg (fun b e => hO b e i z hz), h2, h3⟩
/-- While one list is grown. -/
structure Gs (mk : Nat → Nat → α) (c : α → List Value) (s : Nat) (T TT : TypeId) (base s0 sz N k : Nat) (u z uo : Value) (x O : List Value) (L : List (List α)) (w W : World) (a : Value) (M : Nat) : Prop where
  row : W.ownsRow base T s a M (fc c (mkL mk k 0 M))
  rel : (∃ g cap, z = .slice (some ⟨g, 0, none⟩) N cap ∧ a = .slice (some ⟨g, 0, none⟩) M cap) ∨ a = .slice none 0 0 ∨ W.ownsRow sz T s a M (fc c (mkL mk k 0 M))
  kn : Kl c s T TT base W u x L
  gk : Gkn mk c s T base s0 x W O
  ro : W.ownsRow s0 TT 1 uo k O
  bl : Bx x w W
  sz : sz ≤ W.heap.size
  nm : N ≤ M
  w0 : w.heap.size ≤ s0
/-- What stays the same meanwhile. -/
structure Gc (mk : Nat → Nat → α) (base s0 sz N k : Nat) (u z uo : Value) (x O : List Value) (L : List (List α)) : Prop where
  lk : L[k]? = some (mkL mk k 0 N)
  xk : x[k]? = some z
  b0 : base ≤ s0
  le : s0 ≤ sz
  xl : ∀ (i : Nat) (z' : Value) (b : Nat), x[i]? = some z' → z'.ownBlock = some b → b < s0
  ul : ∀ b, u.ownBlock = some b → b < s0
  ol : ∀ (i : Nat) (z' : Value) (b : Nat), O[i]? = some z' → z'.ownBlock = some b → b < sz
  oo : ∀ b, uo.ownBlock = some b → b < sz
  ok : O.length = k
theorem Gs.carry {s0 sz N k M : Nat} {z uo a : Value} {O : List Value} {w : World} (h : Gs mk c s T TT base s0 sz N k u z uo x O L w W a M) (hb : Below W.heap.size W V) : Gs mk c s T TT base s0 sz N k u z uo x O L w V a M :=
  ⟨row_below h.row hb, h.rel.imp_right (fun q => q.imp_right (fun q => row_below q hb)), h.kn.carry hb, fun i z hz => by
    obtain ⟨n, h1, h2, h3⟩ := h.gk i z hz
    exact ⟨n, row_below h1 hb, h2, h3⟩, row_below h.ro hb, h.bl.below hb, Nat.le_trans h.sz hb.size, h.nm, h.w0⟩
theorem Gs.app (hs : ∀ a, (c a).length = s) (hI : T ≠ TT) {s0 sz N k M m : Nat} {z uo a v' : Value} {O : List Value} {w : World} (h : Gs mk c s T TT base s0 sz N k u z uo x O L w W a M) (hc : Gc mk base s0 sz N k u z uo x O L) (hv : V.ownsRow base T s v' (M + m) (fc c (mkL mk k 0 M) ++ fc c (mkL mk k M m)))
    (h2 : (∃ g cap, a = .slice (some ⟨g, 0, none⟩) M cap ∧ v' = .slice (some ⟨g, 0, none⟩) (M + m) cap ∧ W.grownBy V (some g)) ∨ (V.ownsRow W.heap.size T s v' (M + m) (fc c (mkL mk k 0 M) ++ fc c (mkL mk k M m)) ∧ W.grownBy V none)) : Gs mk c s T TT base s0 sz N k u z uo x O L w V v' (M + m) := by
  have hsz := h.sz
  have hc0 := hc.b0
  have hc1 := hc.le
  have e3 := mkL_app (mk := mk) k 0 M m
  rw [Nat.zero_add] at e3
  have e4 : fc c (mkL mk k 0 M) ++ fc c (mkL mk k M m) = fc c (mkL mk k 0 (M + m)) := by rw [← fc_append, e3]
  rw [e4] at hv h2
  rcases h2 with ⟨g, cap, rfl, rfl, hg⟩ | ⟨hf, hg⟩
  · obtain ⟨hbg, cur, hgc⟩ := rowBlk h.row g rfl
    have hcase : ¬ Px x g ∨ w.heap.size ≤ g := by
      rcases h.rel with ⟨g', cap', ez, q⟩ | q | q
      · simp only [Value.slice.injEq, Option.some.injEq, Addr.mk.injEq] at q
        exact .inl (Px.no hc.xk (by rw [ez, ← q.1.1]; rfl))
      · cases q
      · have k1 := (row_lt q g rfl).1
        have k2 := h.w0
        exact .inr (by omega)
    have hbl : Bx x w V := h.bl.grown hg (fun q e => by obtain rfl := Option.some.inj e; exact hcase)
    have hro : V.ownsRow s0 TT 1 uo k O := row_off h.ro hg (fun b e => by obtain rfl := Option.some.inj e; exact row_type h.ro hgc hI)
    rcases h.rel with ⟨g', cap', rfl, q⟩ | q | q
    · simp only [Value.slice.injEq, Option.some.injEq, Addr.mk.injEq] at q
      obtain ⟨⟨rfl, _⟩, _, rfl⟩ := q
      have hg0 : g < s0 := hc.xl k _ g hc.xk rfl
      refine ⟨hv, .inl ⟨g, cap, rfl, rfl⟩, ?_, h.gk.off hg (fun b e i z' hz e2 => ?_), hro, hbl, Nat.le_trans h.sz hg.size, by have := h.nm; omega, h.w0⟩
      · have hp := own_prefix hv (show N ≤ M + m by have := h.nm; omega)
        rw [fc_take hs, mkL_take _ _ _ (by have := h.nm; omega)] at hp
        have := h.kn.turn hI hc.lk hc.xk rfl (l' := mkL mk k 0 N) (by rw [mkL_len]; exact hp) rfl hg
        rw [set_same hc.lk] at this
        exact this
      · obtain rfl := Option.some.inj e
        obtain ⟨n, _, _, h5⟩ := h.gk i z' hz
        have hik : i < k := by rw [← hc.ok]; exact (List.getElem?_eq_some_iff.1 hz).1
        rcases h5 with ⟨zz, h6, h7⟩ | h5
        · have := h.kn.ap i k g zz _ h6 hc.xk (h7.symm.trans e2) rfl
          omega
        · have := h5 g e2
          omega
    · cases q
    · have hgz : sz ≤ g := (rowBlk q g rfl).1
      refine ⟨hv, .inr (.inr ?_), h.kn.off hg (fun b e e2 => ?_) (fun b e i z' hz e2 => ?_), h.gk.off hg (fun b e i z' hz e2 => ?_), hro, hbl, Nat.le_trans h.sz hg.size, by have := h.nm; omega, h.w0⟩
      · obtain ⟨q1, q2⟩ := hv
        refine ⟨q1, .inr ?_⟩
        rcases q2 with ⟨q3, _⟩ | ⟨g9, c9, cur9, q3, q4, q5⟩
        · cases q3
        · cases q3
          exact ⟨g, cap, cur9, rfl, hgz, q5⟩
      · obtain rfl := Option.some.inj e
        have := hc.ul _ e2
        omega
      · obtain rfl := Option.some.inj e
        have := hc.xl i z' _ hz e2
        omega
      · obtain rfl := Option.some.inj e
        have := hc.ol i z' _ hz e2
        omega
  · have hb : Below W.heap.size W V := ⟨hg.os, hg.tape, hg.output, hg.size, fun q hq => hg.block q hq (by simp)⟩
    have h9 := h.carry hb
    exact ⟨hv, .inr (.inr (row_base hf h.sz)), h9.kn, h9.gk, h9.ro, h9.bl, h9.sz, by have := h.nm; omega, h.w0⟩
end
end Go.Proofs.YtngjjcmoekeciaaGreatDoor.Kel
