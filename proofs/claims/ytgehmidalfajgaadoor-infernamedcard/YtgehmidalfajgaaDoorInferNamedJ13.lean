/- Doubts, with the ids gone round by one place: mathematics; what a law of it looks at. -/
import Derived.Test.YtgehmidalfajgaaDoorInferNamedJ12
namespace Go.Proofs.YtgehmidalfajgaaDoor
open Go.RowKit Go.Shelf Go.Lib

theorem rot_lt {n i : Nat} (h : i < n) : (i + 1) % n < n := Nat.mod_lt _ (by omega)
theorem rot_val {n i : Nat} (h : i < n) : (i + 1) % n = if i + 1 = n then 0 else i + 1 := by
  split
  · next e => rw [e, Nat.mod_self]
  · exact Nat.mod_eq_of_lt (by omega)
theorem rot_inj {n i j : Nat} (hi : i < n) (hj : j < n) (h : (i + 1) % n = (j + 1) % n) : i = j := by
  rw [rot_val hi, rot_val hj] at h
  split at h <;> split at h <;> omega
/-- One book is the other, with the ids gone round. -/
structure Rb (n : Nat) (La Lb : List N3) : Prop where
  la : La.length = n
  lb : Lb.length = n
  go : ∀ (i : Nat) (t k : Int), La[i]? = some ((i : Int), t, k) → Lb[(i + 1) % n]? = some ((((i + 1) % n : Nat) : Int), t, k)
theorem Rb.new {n s : Nat} : Rb n (bk0 n 0 0) (bk0 n s 0) := by
  refine ⟨bk0_len _ _ _, bk0_len _ _ _, fun i t k h => ?_⟩
  have hi : i < n := by have := (List.getElem?_eq_some_iff.1 h).1; rwa [bk0_len] at this
  rw [bk0_get 0 hi] at h
  rw [bk0_get 0 (rot_lt hi)]
  have e : t = 0 ∧ k = 1 := by
    split at h
    · cases h; exact ⟨rfl, rfl⟩
    · cases h; exact ⟨rfl, rfl⟩
  obtain ⟨rfl, rfl⟩ := e
  split
  · next q => rw [q]
  · rfl
theorem vlx_same {n o o' : Nat} (h : o < n) (h' : o' < n) (t k : Int) : vlx n ((o : Int), t, k) = vlx n ((o' : Int), t, k) := by
  rw [Bool.eq_iff_iff, vlx_iff, vlx_iff]
  have e1 : ((o : Int), t, k).1 = (o : Int) := rfl
  have e2 : ((o' : Int), t, k).1 = (o' : Int) := rfl
  have e3 : rkx ((o : Int), t, k) = rkx ((o' : Int), t, k) := rfl
  rw [e1, e2, e3]
  simp [h, h']
theorem Rb.take {n : Nat} {La Lb : List N3} (h : Rb n La Lb) (ha : Bok La) {o : Nat} (ho : o < n) (t k : Int) : Rb n (tke La ((o : Int), t, k)) (tke Lb ((((o + 1) % n : Nat) : Int), t, k)) := by
  have hv := vlx_same ho (rot_lt ho) t k
  unfold tke
  rw [h.la, h.lb, ← hv]
  by_cases hvv : vlx n ((o : Int), t, k) = true
  · rw [if_pos hvv, if_pos hvv]
    obtain ⟨⟨y0, t0, k0⟩, hy⟩ : ∃ y, La[o]? = some y := ⟨_, List.getElem?_eq_getElem (by rw [h.la]; exact ho)⟩
    have hy0 : y0 = (o : Int) := (ha o _ hy).1
    subst hy0
    have hyb := h.go o t0 k0 hy
    have hbt : bat La ((o : Int), t, k) = bat Lb ((((o + 1) % n : Nat) : Int), t, k) := by
      unfold bat
      rw [show ((o : Int), t, k).1.toNat = o by simp, show ((((o + 1) % n : Nat) : Int), t, k).1.toNat = (o + 1) % n from Int.toNat_natCast _, hy, hyb]
      show btx ((o : Int), t, k) ((o : Int), t0, k0) = btx ((((o + 1) % n : Nat) : Int), t, k) ((((o + 1) % n : Nat) : Int), t0, k0)
      unfold btx bt
      simp
    unfold rse
    rw [← hbt]
    split
    · refine ⟨by simp [h.la], by simp [h.lb], fun i t1 k1 hi => ?_⟩
      rw [show ((o : Int), t, k).1.toNat = o by simp, List.getElem?_set] at hi
      rw [show ((((o + 1) % n : Nat) : Int), t, k).1.toNat = (o + 1) % n from Int.toNat_natCast _, List.getElem?_set]
      by_cases e : o = i
      · subst e
        rw [if_pos rfl, if_pos (by rw [h.la]; exact ho)] at hi
        cases hi
        rw [if_pos rfl, if_pos (by rw [h.lb]; exact rot_lt ho)]
      · rw [if_neg e] at hi
        have hin : i < n := by have := (List.getElem?_eq_some_iff.1 hi).1; rwa [h.la] at this
        rw [if_neg (fun q => e (rot_inj ho hin q))]
        exact h.go i t1 k1 hi
    · exact h
  · rw [if_neg hvv, if_neg hvv]
    exact h
/-- The set of ids, gone round: of the first ones of a list. -/
def rotS (n : Nat) (l : List Nat) : Nat := l.foldl (fun s i => if i < n then s ||| 2 ^ ((i + 1) % n) else s) 0
theorem rotS_succ (n : Nat) (l : List Nat) (k x : Nat) (h : l[k]? = some x) : rotS n (l.take (k + 1)) = if x < n then rotS n (l.take k) ||| 2 ^ ((x + 1) % n) else rotS n (l.take k) := by
  have e : l.take (k + 1) = l.take k ++ [x] := by rw [List.take_add_one, h]; rfl
  unfold rotS
  rw [e, List.foldl_append]
  rfl
theorem rot_fold (n : Nat) : ∀ (l : List Nat) (s j : Nat), (l.foldl (fun s i => if i < n then s ||| 2 ^ ((i + 1) % n) else s) s).testBit j = (s.testBit j || l.any (fun i => decide (i < n) && decide ((i + 1) % n = j)))
  | [], s, j => by simp
  | x :: l, s, j => by
    rw [List.foldl_cons, rot_fold n l, List.any_cons]
    split
    · next h => simp [Nat.testBit_or, Nat.testBit_two_pow, h, Bool.or_assoc]
    · next h => simp [h]
theorem rotS_bit (n : Nat) (l : List Nat) (j : Nat) : (rotS n l).testBit j = l.any (fun i => decide (i < n) && decide ((i + 1) % n = j)) := by
  unfold rotS
  rw [rot_fold]
  simp
theorem rot_foldlt (n : Nat) (hn : n ≤ 100) : ∀ (l : List Nat) (s : Nat), s < S100 → l.foldl (fun s i => if i < n then s ||| 2 ^ ((i + 1) % n) else s) s < S100
  | [], _, h => h
  | x :: l, s, h => by
    rw [List.foldl_cons]
    refine rot_foldlt n hn l _ ?_
    split
    · next q => exact or_S100 h (pow_S100 (Nat.lt_of_lt_of_le (rot_lt q) hn))
    · exact h
theorem rotS_lt {n : Nat} (hn : n ≤ 100) (l : List Nat) : rotS n l < S100 := rot_foldlt n hn l 0 (by decide)
theorem perm_rot (n : Nat) : ((List.range n).map (fun i => (i + 1) % n)).Perm (List.range n) := by
  cases n with
  | zero => exact List.Perm.refl _
  | succ m =>
    have e1 : (List.range (m + 1)).map (fun i => (i + 1) % (m + 1)) = (List.range m).map (fun i => i + 1) ++ [0] := by
      rw [List.range_succ, List.map_append]
      congr 1
      · apply List.map_congr_left
        intro i hi
        have : i < m := List.mem_range.1 hi
        exact Nat.mod_eq_of_lt (by omega)
      · simp
    rw [e1, List.range_succ_eq_map]
    exact List.perm_append_singleton 0 _
theorem dbs_count {L : List N3} {n : Nat} (hl : L.length = n) (hn : n ≤ 128) (M : Nat) : (dbs L (idsTo M 128)).length = (List.range n).countP (fun i => M.testBit i && (dbF L i).isSome) := by
  unfold dbs idsTo
  rw [List.length_filterMap_eq_countP, List.countP_filter]
  have e : List.range 128 = List.range n ++ (List.range (128 - n)).map (fun i => n + i) := by
    rw [← List.range_add]
    congr 1
    omega
  rw [e, List.countP_append]
  have z : ((List.range (128 - n)).map (fun i => n + i)).countP (fun a => (dbF L a).isSome && M.testBit a) = 0 := by
    rw [List.countP_eq_zero]
    intro a ha
    obtain ⟨i, _, rfl⟩ := List.mem_map.1 ha
    rw [dbF_none (List.getElem?_eq_none (by omega))]
    simp
  rw [z, Nat.add_zero]
  congr 1
  funext i
  exact Bool.and_comm _ _
section
variable {n : Nat} {La Lb : List N3} {M : Nat}
theorem Rb.dbF (h : Rb n La Lb) (ha : Bok La) {i : Nat} (hi : i < n) : ∀ {t k : Int}, La[i]? = some ((i : Int), t, k) → Go.Proofs.YtgehmidalfajgaaDoor.dbF Lb ((i + 1) % n) = if k = 1 then some ((((i + 1) % n : Nat) : Int), t, 2) else none := fun {t k} hx => by
  have _ := ha
  have _ := hi
  exact dbF_at (h.go i t k hx)
theorem rot_mem (hn : n ≤ 100) {i : Nat} (hi : i < n) : (cln (rotS n (idsTo (cln M) 128))).testBit ((i + 1) % n) = M.testBit i := by
  have h1 : (i + 1) % n < 100 := Nat.lt_of_lt_of_le (rot_lt hi) hn
  rw [testBit_cln, decide_eq_true h1, Bool.true_and, rotS_bit, Bool.eq_iff_iff, List.any_eq_true]
  constructor
  · rintro ⟨x, hx, hq⟩
    rw [Bool.and_eq_true, decide_eq_true_eq, decide_eq_true_eq] at hq
    obtain rfl := rot_inj hq.1 hi hq.2
    have := (mem_idsTo.1 hx).2
    rw [testBit_cln, Bool.and_eq_true] at this
    exact this.2
  · intro hM
    refine ⟨i, mem_idsTo.2 ⟨by omega, ?_⟩, ?_⟩
    · rw [testBit_cln, hM]
      simp
      omega
    · simp [hi]
theorem Rb.len (h : Rb n La Lb) (ha : Bok La) (hn : n ≤ 100) : (dbs Lb (idsTo (cln (rotS n (idsTo (cln M) 128))) 128)).length = (dbs La (idsTo (cln M) 128)).length := by
  rw [dbs_count h.lb (by omega), dbs_count h.la (by omega), ← (perm_rot n).countP_eq, List.countP_map]
  apply List.countP_congr
  intro i hi
  have hin : i < n := List.mem_range.1 hi
  obtain ⟨⟨y0, t, k⟩, hy⟩ : ∃ y, La[i]? = some y := ⟨_, List.getElem?_eq_getElem (by rw [h.la]; exact hin)⟩
  have hy0 : y0 = (i : Int) := (ha i _ hy).1
  subst hy0
  have e1 := h.dbF ha hin hy
  have e2 := dbF_at hy
  have e3 := rot_mem (M := M) hn hin
  show ((cln (rotS n (idsTo (cln M) 128))).testBit ((i + 1) % n) && (Go.Proofs.YtgehmidalfajgaaDoor.dbF Lb ((i + 1) % n)).isSome) = true ↔ ((cln M).testBit i && (Go.Proofs.YtgehmidalfajgaaDoor.dbF La i).isSome) = true
  rw [e1, e2, e3, testBit_cln, decide_eq_true (show i < 100 by omega), Bool.true_and]
  dsimp only
  split <;> simp
/-- What is doubted in the one is doubted in the other, gone round. -/
theorem Rb.found (h : Rb n La Lb) (ha : Bok La) (hn : n ≤ 100) {d : N3} (hd : d ∈ dbs La (idsTo (cln M) 128)) : ∃ (i : Nat) (t : Int), d = ((i : Int), t, 2) ∧ i < n ∧ ((((i + 1) % n : Nat) : Int), t, 2) ∈ dbs Lb (idsTo (cln (rotS n (idsTo (cln M) 128))) 128) := by
  obtain ⟨i, hi, hdi⟩ := List.mem_filterMap.1 hd
  obtain ⟨t, rfl, hL⟩ := dbF_some ha hdi
  have hin : i < n := by have := (List.getElem?_eq_some_iff.1 hL).1; rwa [h.la] at this
  have hm := mem_idsTo.1 hi
  rw [testBit_cln, Bool.and_eq_true] at hm
  refine ⟨i, t, rfl, hin, List.mem_filterMap.2 ⟨(i + 1) % n, mem_idsTo.2 ⟨?_, ?_⟩, ?_⟩⟩
  · have := rot_lt hin; omega
  · rw [rot_mem hn hin]
    exact hm.2.2
  · rw [h.dbF ha hin hL, if_pos rfl]
end
theorem bin_eqln {x y : Operand} {w : World} (o t k o' t' k' : Int) : binRun Tryd.prog .eql 50 x y (nt o t k) (nt o' t' k') w = .ok (.bool (decide ((o, t, k) = (o', t', k')))) w := by
  unfold binRun nt
  by_cases h : o = o'
  · by_cases h1 : t = t'
    · by_cases h2 : k = k' <;> go_simp
    · go_simp
  · go_simp
/-- What turns the block g alone. -/
structure Tq (g : Nat) (W W' : World) : Prop where
  os : W'.os = W.os
  tape : W'.tape = W.tape
  output : W'.output = W.output
  size : W.heap.size ≤ W'.heap.size
  block : ∀ k, k < W.heap.size → k ≠ g → W'.heap[k]? = W.heap[k]?
theorem Tq.below {g base : Nat} {w0 W W' : World} (h : Tq g W W') (h0 : Below base w0 W) (hg : base ≤ g) (hb : base ≤ W.heap.size) : Below base w0 W' :=
  ⟨h.os.trans h0.os, h.tape.trans h0.tape, h.output.trans h0.output, Nat.le_trans h0.size h.size, fun k hk => (h.block k (by omega) (by omega)).trans (h0.block k hk)⟩
/-- Ahead of a box's writing, and behind it. -/
def Jb (w : World) (bs S : Nat) (d : Bool) (V : World) : Prop := match d with
  | false => Below w.heap.size w V
  | true => Holds4 V bs (wd S) ∧ Tq bs w V
theorem jb_put {w V : World} {bs S : Nat} {c : Nat → Nat} (h : Holds4 w bs c) (hV : Jb w bs S false V) : Jb w bs S true (set4 V bs S) := by
  have hb : Below w.heap.size w V := hV
  refine ⟨fin4 (h.carry hb) S, ?_, ?_, ?_, ?_, fun k hk hne => (hold4 hne).trans (hb.block k hk)⟩
  · exact hb.os
  · exact hb.tape
  · exact hb.output
  · have := hb.size; simpa [set4] using this
/-- Both lists of doubts, as they are found out. -/
def Jd (w : World) (X Y : List N3) (g : (Option Addr × Nat) × (Option Addr × Nat)) (d2 d5 : Bool) (V : World) : Prop := Below w.heap.size w V ∧ (d2 = true → RdN V g.1.1 X) ∧ (d5 = true → RdN V g.2.1 Y)
theorem Jd.carry {w V V' : World} {X Y : List N3} {g : (Option Addr × Nat) × (Option Addr × Nat)} {d2 d5 : Bool} (h : Jd w X Y g d2 d5 V) (hb : Below V.heap.size V V') : Jd w X Y g d2 d5 V' := ⟨bel2 h.1 hb, fun e => (h.2.1 e).carry hb, fun e => (h.2.2 e).carry hb⟩
theorem any_succ {α : Type} (l : List α) (f : α → Bool) (k : Nat) (x : α) (h : l[k]? = some x) : (l.take (k + 1)).any f = ((l.take k).any f || f x) := by
  have e : l.take (k + 1) = l.take k ++ [x] := by rw [List.take_add_one, h]; rfl
  rw [e, List.any_append]
  simp
/-- A list of numbers, in a block of its own. -/
def RdI (W : World) (ad : Option Addr) (l : List Nat) : Prop := l ≠ [] → ∃ b, ad = some ⟨b, 0, none⟩ ∧ (∀ (k x : Nat), l[k]? = some x → W.cell? ⟨b, k, none⟩ = some (.int .i64 (x : Int))) ∧ ∃ cur, W.heap[b]? = some (.cells cur 3 (0, 0))
theorem own_ints {W : World} {base n : Nat} {v : Value} {l : List Nat} (h : W.ownsRow base 3 1 v n (intsV l)) : ∃ a c, v = .slice a n c ∧ RdI W a l := by
  have hn : (intsV l).length = n * 1 := h.1
  rw [intsV, List.length_map, Nat.mul_one] at hn
  rcases own_form h with ⟨e1, e2⟩ | ⟨g, cap, e1, _, _, _, _, hcur⟩
  · subst e1 e2
    exact ⟨none, 0, rfl, fun hl => absurd (List.length_eq_zero_iff.1 hn) hl⟩
  · subst e1
    exact ⟨some ⟨g, 0, none⟩, cap, rfl, fun _ => ⟨g, rfl, fun k x hk => (h.cellAt k (by have := (List.getElem?_eq_some_iff.1 hk).1; omega)).trans (by simp [intsV, hk]), hcur⟩⟩
theorem RdI.carry {W V : World} {ad : Option Addr} {l : List Nat} (h : RdI W ad l) (hb : Below W.heap.size W V) : RdI V ad l := fun hl => by
  obtain ⟨b, e, h1, cur, h2⟩ := h hl
  have q := hb.block b (lt_at h2)
  exact ⟨b, e, fun k x hk => (World.cell?_of_block (a := ⟨b, k, none⟩) q).trans (h1 k x hk), cur, q.trans h2⟩
theorem RdI.tq {W V : World} {ad : Option Addr} {l : List Nat} {bs : Nat} {c : Nat → Nat} (h : RdI W ad l) (hs : Holds4 W bs c) (ht : Tq bs W V) : RdI V ad l := fun hl => by
  obtain ⟨b, e, h1, cur, h2⟩ := h hl
  have hne : b ≠ bs := fun e => by
    subst e
    have h3 : W.heap[b]? = some (.cells (cells4 c) 27 (0, 0)) := hs
    have := h2.symm.trans h3
    simp only [Option.some.injEq, Obj.cells.injEq] at this
    exact absurd this.2.1 (by decide)
  have q := ht.block b (lt_at h2) hne
  exact ⟨b, e, fun k x hk => (World.cell?_of_block (a := ⟨b, k, none⟩) q).trans (h1 k x hk), cur, q.trans h2⟩
theorem Bk.tq {W V : World} {p g bs : Nat} {c : Nat → Nat} {l : List N3} (h : Bk W p g l) (hs : Holds4 W bs c) (ht : Tq bs W V) : Bk V p g l := by
  obtain ⟨h1, h2⟩ := h.ne4 hs
  exact ⟨(ht.block p h.plt h1).trans h.obj, (ht.block g h.glt h2).trans h.row⟩
theorem load_no {W : World} {b off : Nat} {o t k : Int} (c0 : W.cell? ⟨b, off, none⟩ = some (.int .i64 o)) (c1 : W.cell? ⟨b, off + 1, none⟩ = some (.int .i64 t)) (c2 : W.cell? ⟨b, off + 2, none⟩ = some (.int .i64 k)) : (Instr.loadAt 50 (.pointer (some ⟨b, off, none⟩))).run Tryd.prog W = .ok (nt o t k) W := by
  unfold nt
  go_simp
theorem doubts_rd {w : World} {p g : Nat} {l : List N3} (h : Bk w p g l) (M0 : Nat) (hT : Tab w) : Calls Tryd.prog 19 #[.pointer (some ⟨p, 0, none⟩), sv M0] w fun e w' => ∃ a c, e = .returned (.slice a (dbs l (idsTo (cln M0) 128)).length c) ∧ RdN w' a (dbs l (idsTo (cln M0) 128)) ∧ Below w.heap.size w w' := by
  refine (doubts_any h M0 hT).mono ?_
  rintro e w' ⟨v, rfl, hm, hb⟩
  obtain ⟨a, c, rfl, h1, _⟩ := hm.rd
  exact ⟨a, c, rfl, h1, hb⟩
theorem idx_i (g off n cap k : Nat) (h : k < n) (w : World) : (Instr.indexAt 23 (.slice (some ⟨g, off, none⟩) n cap) (.int .i64 (k : Int))).run Tryd.prog w = .ok (.pointer (some ⟨g, off + k, none⟩)) w := by
  have h1 : (k : Int) < (n : Int) := by omega
  go_simp
end Go.Proofs.YtgehmidalfajgaaDoor
