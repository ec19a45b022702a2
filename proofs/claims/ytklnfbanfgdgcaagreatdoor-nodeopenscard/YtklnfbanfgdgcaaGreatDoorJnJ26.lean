/- The document's own answers on sets, by rows of bools: what they answer, at every input. -/
import Derived.Test.YtklnfbanfgdgcaaGreatDoorJnJ25
import Derived.Test.YtklnfbanfgdgcaaGreatDoorJnJ19
import Derived.Test.YtklnfbanfgdgcaaGreatDoorJnJ5
import Derived.Test.YtklnfbanfgdgcaaGreatDoorJnJ22
import Derived.Test.YtklnfbanfgdgcaaGreatDoorJnJ15
set_option maxHeartbeats 40000000
set_option maxRecDepth 100000
set_option linter.unusedVariables false
namespace Go.Proofs.YtklnfbanfgdgcaaGreatDoor
open Go.RowKit Go.Shelf Go.Lib



theorem mkN_with (N i : Nat) (hi : i < 100) : mkN (fun j => if j = i then true else N.testBit j) 100 = cln N ||| 2 ^ i := mkN_eq (fun j => by
  rw [Nat.testBit_or, testBit_cln, Nat.testBit_two_pow]
  by_cases e : j = i
  · subst e; simp [hi]
  · have e2 : ¬ i = j := fun c => e c.symm
    simp [e, e2])
set_option maxHeartbeats 1000000 in
set_option maxRecDepth 100000 in
theorem rWith_any (N : Nat) (id : Int) (w : World) : Calls Tryz.prog 235 #[sv N, .int .i64 id] w fun e w' => e = .returned (withV N id) ∧ Below w.heap.size w w' := by
  have hz := zeroB
  have hr := row_any N
  by_cases h : 0 ≤ id ∧ id < 100
  · obtain ⟨i, rfl⟩ := Int.eq_ofNat_of_zero_le h.1
    have hi : i < 100 := by omega
    have t1 : ¬ (i : Int) < 0 := by omega
    have t2 : ¬ (i : Int) ≥ 100 := by omega
    have t3 : ¬ 100 ≤ (i : Int) := by omega
    obtain ⟨p, hp⟩ : ∃ p, p = (fun j => if j = i then true else N.testBit j) := ⟨_, rfl⟩
    have hset : (bC N.testBit).setIfInBounds i (.bool true) = bC p := by rw [hp, bC_set]
    have hm := make_any p
    have hmk : mkN p 100 = cln N ||| 2 ^ i := by rw [hp]; exact mkN_with N i hi
    rw [hmk] at hm
    clear hmk hp
    have hV : withV N (i : Int) = .tuple #[sv (cln N ||| 2 ^ i), .int .i64 0] := by rw [withV, if_pos h]; rfl
    rw [hV]
    generalize cln N ||| 2 ^ i = M at *
    simp only [sv] at hr hm ⊢
    go_enter Tryz.func235, Tryz.ntmps235
    go_wp2_with (first | (go_at_call 198; refine (hr _).mono ?_; rintro e w1 ⟨rfl, hb1⟩; clear hr) | (refine wpList_store_row rfl 280 _ _ rfl w1.heap.size (bC N.testBit) rfl rfl _ _ (get_new rfl) (by rw [bC_size]; exact sizeB) (by rw [bC_size, bC_size]) (bC_one _) ?_; simp only [World.setRow_alloc_new]; have g1 : HoldsB (w1.alloc (.cells (bC N.testBit) 280)) w1.heap.size N.testBit := get_new rfl; have c1 := g1.cell i hi; have f1 := g1.frozen i; clear g1) | ((try rw [hset]); refine wpList_load_row rfl 280 _ rfl w1.heap.size rfl _ _ _ _ (get_new rfl) Tryz.underlying280 rfl (by rw [bC_size]; exact sizeB) ?_) | (go_at_call 188; refine (hm _).mono ?_; rintro e w2 ⟨rfl, hb2⟩; have hs1 := hb1.size; simp only [World.size_alloc] at hs1; have q : Hid (Holds4 w2 (w.heap.size + 1) (fun _ => 0)) := (hb2.block _ (by simp; omega)).trans (get_old ((hb1.block _ (by simp)).trans (get_new (by simp)))); obtain ⟨y0, y1, y2, y3, z0, z1, z2, z3⟩ := q.out.facts))
    refine ret4t rfl rfl rfl rfl (fin4 q.out _) ⟨rfl, below4 (bcarry (((bcarry (((Below.refl _ w).alloc (by simp) _).alloc (by simp) _) (Nat.le_refl _) hb1).alloc (by omega) _)) (Nat.le_refl _) hb2) (by omega) _⟩
  · have hV : withV N id = .tuple #[sv 0, .int .i64 30] := by rw [withV, if_neg h]
    rw [hV]
    have g2 : Holds4 ((w.alloc (.cells (cells4 (wd N)) 51)).alloc (.cells (cells4 (fun _ => 0)) 51)) (w.heap.size + 1) (fun _ => 0) := get_new (by simp)
    simp only [sv]
    clear hr
    by_cases t1 : id < 0
    · go_enter Tryz.func235, Tryz.ntmps235
      go_wp2
      refine ret4t (M := 0) rfl rfl rfl rfl (g2.congr (fun j _ => by simp [wd])) ⟨?_, ((Below.refl _ w).alloc (by simp) _).alloc (by simp) _⟩
      rfl
    · have t2 : 100 ≤ id := by omega
      go_enter Tryz.func235, Tryz.ntmps235
      go_wp2
      refine ret4t (M := 0) rfl rfl rfl rfl (g2.congr (fun j _ => by simp [wd])) ⟨?_, ((Below.refl _ w).alloc (by simp) _).alloc (by simp) _⟩
      rfl

theorem cln_self {N : Nat} (h : N < 2 ^ 100) : cln N = N := cln_of_lt h
set_option maxHeartbeats 1000000 in
set_option maxRecDepth 100000 in
theorem rPut_any (N : Nat) (hN : N < 2 ^ 100) (i : Nat) (hi : i < 100) (w : World) : Calls Tryz.prog 190 #[sv N, .int .i64 (i : Int)] w fun e w' => e = .returned (sv (N ||| 2 ^ i)) ∧ Below w.heap.size w w' := by
  have hw := rWith_any N (i : Int)
  have e3 : withV N (i : Int) = .tuple #[sv (N ||| 2 ^ i), .int .i64 0] := by
    unfold withV
    rw [if_pos (by omega), Int.toNat_natCast, cln_self hN]
  rw [e3] at hw
  clear e3
  generalize N ||| 2 ^ i = N2 at *
  simp only [sv] at hw ⊢
  go_enter Tryz.func190, Tryz.ntmps190
  go_wp2_with (go_at_call 235; refine (hw _).mono ?_; rintro e w1 ⟨rfl, hb1⟩; have q : Holds4 w1 (w.heap.size + 1) (fun _ => 0) := (hb1.block _ (by simp)).trans (get_new (by simp)); have hs1 := q.lt; obtain ⟨y0, y1, y2, y3, z0, z1, z2, z3⟩ := q.facts; have H1 : Hid (Holds4 w1 (w.heap.size + 1) (fun _ => 0)) := q; clear q)
  have k5 : Below w.heap.size w ((set4 w1 (w.heap.size + 1) N2).alloc (.cells (cells4 (wd N2)) 51)) := (below4 (bcarry (((Below.refl _ w).alloc (by simp) _).alloc (by simp) _) (Nat.le_refl _) hb1) (by omega) _).alloc (Nat.le_of_lt (Nat.lt_of_le_of_lt (Nat.le_add_right _ _) (Holds4.lt (fin4 H1.out N2)))) _
  exact ret4 rfl rfl rfl (get_old (fin4 H1.out N2)) ⟨rfl, k5⟩
/-- A box that holds a book of the document. -/
def RB (W : World) (b : Nat) (v : Value) : Prop := W.heap[b]? = some (.cells #[v] 48 (0, 0))
theorem RB.cell {W : World} {b : Nat} {v : Value} (h : RB W b v) : W.cell? ⟨b, 0, none⟩ = some v := cell_at h 0
theorem RB.thaw {W : World} {b : Nat} {v : Value} (h : RB W b v) : W.frozen? ⟨b, 0, none⟩ = false := thaw_at h 0
theorem RB.carry {W V : World} {b : Nat} {v : Value} (h : RB W b v) (hb : Below W.heap.size W V) : RB V b v := (hb.block _ (lt_at h)).trans h
theorem RB.set {W : World} {b : Nat} {v : Value} (h : RB W b v) (u : Value) : RB (W.setCell ⟨b, 0, none⟩ u) b u := by
  have := heap_setCell_same _ _ 0 _ _ u h
  unfold RB
  simpa using this
theorem RB.other {W : World} {b b' j : Nat} {v u : Value} (h : RB W b v) (hne : b ≠ b') : RB (W.setCell ⟨b', j, none⟩ u) b v := (Below.heap_setCell _ _ _ _ hne).trans h
theorem retRt {f : Func} {p q : Tmp} {R : Ending → World → Prop} {a : Act} {w : World} {b n c : Nat} {ad : Option Addr} {x : Value} (hres : f.results = #[.cell p 48, .tmp q]) (hp : a.tmps.getD p undef = .pointer (some ⟨b, 0, none⟩)) (hq : a.tmps.getD q undef = x) (hd : a.defers = []) (h : RB w b (.slice ad n c)) (hR : R (.returned (.tuple #[.agg #[.slice ad n c], x])) w) : bodyPost Tryz.prog f R .ret a w := by
  refine bodyPost_ret (v := .tuple #[.agg #[.slice ad n c], x]) ?_ hd hR
  have hp' : a.tmps[p]?.getD undef = .pointer (some ⟨b, 0, none⟩) := by simpa using hp
  have hq' : a.tmps[q]?.getD undef = x := by simpa using hq
  have c0 := h.cell
  simp [results, hres, hp', hq', asAddr]
  go_simp
theorem NtsAt.put {W : World} {g : Nat} {cur : Array Value} {l : List N3} (h : NtsAt W g 0 l) (hg : W.heap[g]? = some (.cells cur 185 (0, 0))) (i : Nat) (hi : i < l.length) (o t k : Int) : NtsAt (W3o W g (i * 3) o t k) g 0 (l.set i (o, t, k)) := by
  intro j x hj
  rw [Nat.zero_add]
  have h0 := heap_setCell_same _ _ (i * 3) _ _ (.int .i64 o) hg
  have h1 := heap_setCell_same _ _ (i * 3 + 1) _ _ (.int .i64 t) h0
  have h2 := heap_setCell_same _ _ (i * 3 + 2) _ _ (.int .i64 k) h1
  have hsz : i * 3 + 2 < cur.size := by
    obtain ⟨y, hy⟩ : ∃ y, l[i]? = some y := ⟨_, List.getElem?_eq_getElem hi⟩
    obtain ⟨_, _, c2⟩ := h i y hy
    rw [Nat.zero_add, cell_at hg] at c2
    exact (Array.getElem?_eq_some_iff.1 c2).1
  rw [List.getElem?_set] at hj
  by_cases e : i = j
  · subst e
    simp only [hi, if_true] at hj
    obtain rfl := Option.some.inj hj
    refine ⟨(cell_at h2 _).trans ?_, (cell_at h2 _).trans ?_, (cell_at h2 _).trans ?_⟩
    · simp [Array.getElem?_setIfInBounds]; omega
    · simp [Array.getElem?_setIfInBounds]; omega
    · simp [Array.getElem?_setIfInBounds]; omega
  · rw [if_neg e] at hj
    obtain ⟨c0, c1, c2⟩ := h j x hj
    rw [Nat.zero_add, cell_at hg] at c0 c1 c2
    refine ⟨(cell_at h2 _).trans ?_, (cell_at h2 _).trans ?_, (cell_at h2 _).trans ?_⟩
    · rw [Array.getElem?_setIfInBounds_ne (by omega), Array.getElem?_setIfInBounds_ne (by omega), Array.getElem?_setIfInBounds_ne (by omega)]; exact c0
    · rw [Array.getElem?_setIfInBounds_ne (by omega), Array.getElem?_setIfInBounds_ne (by omega), Array.getElem?_setIfInBounds_ne (by omega)]; exact c1
    · rw [Array.getElem?_setIfInBounds_ne (by omega), Array.getElem?_setIfInBounds_ne (by omega), Array.getElem?_setIfInBounds_ne (by omega)]; exact c2
theorem NtsAt.put1 {W : World} {g : Nat} {cur : Array Value} {l : List N3} (h : NtsAt W g 0 l) (hg : W.heap[g]? = some (.cells cur 185 (0, 0))) {i : Nat} {o t k : Int} (hi : l[i]? = some (o, t, k)) (t' : Int) : NtsAt (W.setCell ⟨g, i * 3 + 1, none⟩ (.int .i64 t')) g 0 (l.set i (o, t', k)) := by
  intro j x hj
  rw [Nat.zero_add]
  have h2 := heap_setCell_same _ _ (i * 3 + 1) _ _ (.int .i64 t') hg
  obtain ⟨d0, d1, d2⟩ := h i _ hi
  rw [Nat.zero_add, cell_at hg] at d0 d1 d2
  have hsz : i * 3 + 1 < cur.size := (Array.getElem?_eq_some_iff.1 d1).1
  have hil := (List.getElem?_eq_some_iff.1 hi).1
  rw [List.getElem?_set] at hj
  by_cases e : i = j
  · subst e
    simp only [hil, if_true] at hj
    obtain rfl := Option.some.inj hj
    refine ⟨(cell_at h2 _).trans ?_, (cell_at h2 _).trans ?_, (cell_at h2 _).trans ?_⟩
    · rw [Array.getElem?_setIfInBounds_ne (by omega)]; exact d0
    · simp [hsz]
    · rw [Array.getElem?_setIfInBounds_ne (by omega)]; exact d2
  · rw [if_neg e] at hj
    obtain ⟨c0, c1, c2⟩ := h j x hj
    rw [Nat.zero_add, cell_at hg] at c0 c1 c2
    refine ⟨(cell_at h2 _).trans ?_, (cell_at h2 _).trans ?_, (cell_at h2 _).trans ?_⟩
    · rw [Array.getElem?_setIfInBounds_ne (by omega)]; exact c0
    · rw [Array.getElem?_setIfInBounds_ne (by omega)]; exact c1
    · rw [Array.getElem?_setIfInBounds_ne (by omega)]; exact c2
theorem NtsAt.aside {W : World} {g b j off : Nat} {v : Value} {l : List N3} (h : NtsAt W g off l) (hne : g ≠ b) : NtsAt (W.setCell ⟨b, j, none⟩ v) g off l := fun k x hk => by
  obtain ⟨c0, c1, c2⟩ := h k x hk
  have hb : (W.setCell ⟨b, j, none⟩ v).heap[g]? = W.heap[g]? := Below.heap_setCell _ _ _ _ hne
  exact ⟨(World.cell?_of_block (a := ⟨g, _, none⟩) hb).trans c0, (World.cell?_of_block (a := ⟨g, _, none⟩) hb).trans c1, (World.cell?_of_block (a := ⟨g, _, none⟩) hb).trans c2⟩
/-- A row of the call's own: where it lies, and that it can be written. -/
theorem own_block2 {W : World} {base g n cap : Nat} {xs : List Value} (h : W.ownsRow base 185 3 (.slice (some ⟨g, 0, none⟩) n cap) n xs) : base ≤ g ∧ n ≤ cap ∧ ∃ cur, W.heap[g]? = some (.cells cur 185 (0, 0)) := by
  rcases h.2 with ⟨e, _⟩ | ⟨g', cap', cur, e, h4, h5, h6, _⟩
  · cases e
  · cases e
    exact ⟨h4, h6, cur, h5⟩
theorem frs_succ (k : Nat) : frs (k + 1) = frs k ++ [((k : Int), 0, 1)] := by
  unfold frs
  rw [List.range_succ, List.map_append]
  rfl
/-- What the document's New answers. -/
def RNewV (n self tag : Int) (w : World) (e : Ending) (w' : World) : Prop :=
  Below w.heap.size w w' ∧
  if n < 1 ∨ 100 < n then e = .returned (.tuple #[.agg #[.slice none 0 0], .int .i64 1])
  else if self < 0 ∨ n ≤ self then e = .returned (.tuple #[.agg #[.slice none 0 0], .int .i64 30])
  else if tag < 0 ∨ 1048576 < tag then e = .returned (.tuple #[.agg #[.slice none 0 0], .int .i64 50])
  else ∃ ad cap, e = .returned (.tuple #[.agg #[.slice ad n.toNat cap], .int .i64 0]) ∧ RdN w' ad (bk0 n.toNat self.toNat tag) ∧ n.toNat ≤ cap ∧ (∀ a, ad = some a → w.heap.size ≤ a.block ∧ ∃ cur, w'.heap[a.block]? = some (.cells cur 185 (0, 0)))
theorem RNewV.ok {n self tag : Int} {w w' : World} {e : Ending} (h : RNewV n self tag w e w') (h1 : ¬ (n < 1 ∨ 100 < n)) (h2 : ¬ (self < 0 ∨ n ≤ self)) (h3 : ¬ (tag < 0 ∨ 1048576 < tag)) : ∃ ad cap, e = .returned (.tuple #[.agg #[.slice ad n.toNat cap], .int .i64 0]) ∧ RdN w' ad (bk0 n.toNat self.toNat tag) ∧ n.toNat ≤ cap ∧ (∀ a, ad = some a → w.heap.size ≤ a.block ∧ ∃ cur, w'.heap[a.block]? = some (.cells cur 185 (0, 0))) := by
  have := h.2
  rw [if_neg h1, if_neg h2, if_neg h3] at this
  exact this
set_option maxHeartbeats 4000000 in
set_option maxRecDepth 100000 in
theorem rNew_any (n self tag : Int) (w : World) : Calls Tryz.prog 34 #[.int .i64 n, .int .i64 self, .int .i64 tag] w fun e w' => RNewV n self tag w e w' := by
  have hr0 : RB (w.alloc (.cells #[.slice none 0 0] 48)) w.heap.size (.slice none 0 0) := new_at rfl
  have hb0 : Below w.heap.size w (w.alloc (.cells #[.slice none 0 0] 48)) := al1 _ _
  by_cases h1 : n < 1 ∨ 100 < n
  · have HV : Hid (∀ w', Below w.heap.size w w' → RNewV n self tag w (.returned (.tuple #[.agg #[.slice none 0 0], .int .i64 1])) w') := fun w' hb => ⟨hb, by rw [if_pos h1]⟩
    rcases h1 with h1 | h1
    all_goals
      go_enter Tryz.func34, Tryz.ntmps34
      go_wp2
      exact retRt rfl rfl rfl rfl hr0 (HV.out _ hb0)
  by_cases h2 : self < 0 ∨ n ≤ self
  · have HV : Hid (∀ w', Below w.heap.size w w' → RNewV n self tag w (.returned (.tuple #[.agg #[.slice none 0 0], .int .i64 30])) w') := fun w' hb => ⟨hb, by rw [if_neg h1, if_pos h2]⟩
    have h10 : ¬ n < 1 := by omega
    have h11 : ¬ 100 < n := by omega
    clear h1
    rcases h2 with h2 | h2
    all_goals
      go_enter Tryz.func34, Tryz.ntmps34
      go_wp2
      exact retRt rfl rfl rfl rfl hr0 (HV.out _ hb0)
  by_cases h3 : tag < 0 ∨ 1048576 < tag
  · have HV : Hid (∀ w', Below w.heap.size w w' → RNewV n self tag w (.returned (.tuple #[.agg #[.slice none 0 0], .int .i64 50])) w') := fun w' hb => ⟨hb, by rw [if_neg h1, if_neg h2, if_pos h3]⟩
    have h10 : ¬ n < 1 := by omega
    have h11 : ¬ 100 < n := by omega
    have h12 : ¬ self < 0 := by omega
    have h13 : ¬ n ≤ self := by omega
    clear h1 h2
    rcases h3 with h3 | h3
    all_goals
      go_enter Tryz.func34, Tryz.ntmps34
      go_wp2
      exact retRt rfl rfl rfl rfl hr0 (HV.out _ hb0)
  obtain ⟨N, rfl⟩ : ∃ N : Nat, n = (N : Int) := ⟨n.toNat, by omega⟩
  obtain ⟨s, rfl⟩ : ∃ s : Nat, self = (s : Int) := ⟨self.toNat, by omega⟩
  have HV : Hid (∀ w' ad cap, Below w.heap.size w w' → RdN w' ad (bk0 N s tag) → N ≤ cap → (∀ a, ad = some a → w.heap.size ≤ a.block ∧ ∃ cur, w'.heap[a.block]? = some (.cells cur 185 (0, 0))) → RNewV (N : Int) (s : Int) tag w (.returned (.tuple #[.agg #[.slice ad N cap], .int .i64 0])) w') := fun w' ad cap hb hr hc ha => ⟨hb, by rw [if_neg h1, if_neg h2, if_neg h3]; exact ⟨ad, cap, rfl, by simpa using hr, by simpa using hc, ha⟩⟩
  have h10 : ¬ (N : Int) < 1 := by omega
  have h11 : ¬ 100 < (N : Int) := by omega
  have h12 : ¬ (s : Int) < 0 := by omega
  have h13 : ¬ (N : Int) ≤ (s : Int) := by omega
  have h14 : ¬ tag < 0 := by omega
  have h15 : ¬ 1048576 < tag := by omega
  have hsN : s < N := by omega
  have hsi : (s : Int) < (N : Int) := by omega
  have hN : N ≤ 100 := by omega
  clear h1 h2 h3
  obtain ⟨ic, hic, hz0, hz1, hz2⟩ := info_partsN
  have hfr := fun (k : Nat) (W : World) => rFresh_any (k : Int) W
  unfold nt at hfr
  go_enter Tryz.func34, Tryz.ntmps34
  go_wp2
  go_loopw [8, 9] (fun c i wz => ∃ (k : Nat), i = .int .i64 k ∧ k ≤ N ∧ wz.ownsRow (w.heap.size + 1) 185 3 c k (fl (frs k)) ∧ RB wz w.heap.size (.slice none 0 0) ∧ Below w.heap.size w wz) (fun _ i _ => N - vnatR i)
  case atStart => exact ⟨0, rfl, Nat.zero_le _, World.ownsRow_nil _ _ _ _, hr0, hb0⟩
  case round =>
    obtain ⟨k, rfl, hk, hrow, hrb, hbw⟩ := hrel
    have hlw := lt_at hrb
    by_cases hkl : k < N
    · have hki : (k : Int) < (N : Int) := by omega
      have hf := hfr k wr
      go_wp2_with (first | (go_at_call 124; (with_reducible refine hf.mono ?_); rintro e u1 ⟨rfl, hb1⟩; have hrow1 := row_below hrow hb1; have hsz1 := hb1.size) | (at_builtin; refine wpList_append_own _ rfl _ _ 46 rfl (w.heap.size + 1) 185 ic _ 3 24 Tryz.underlying46 hic hz0 hz1 hz2 rfl (by decide) _ _ _ rfl (hrow1.alloc _) ⟨u1.heap.size, 0, none⟩ 1 1 [_, _, _] rfl rfl (rowN _ #[_, _, _] _) (by simp [Value.oneCell']) (by unfold maxLen; omega) (by omega) (by simp; omega) ?_; intro v' w2 hown' hgrow _))
      go_roundw
      case rel =>
        have hbu := bel2 hbw hb1
        refine ⟨k + 1, by simp, by omega, ?_, ?_, (hbu.alloc hbu.size _).grown hgrow (Nat.le_trans hbu.size (by simp)) (fun q e => by have := own_block hrow1 q e; omega)⟩
        · rw [frs_succ, fl_append]; exact hown'
        · exact (hgrow.block _ (by simp; omega) (fun e => by have := own_block hrow1 _ e.symm; omega)).trans (old_at (hrb.carry hb1))
      case measure => simp [vnatR]; omega
    · have hkk : k = N := by omega
      subst hkk
      rcases own_form hrow with ⟨_, e⟩ | ⟨g, cap, rfl, hg0, hg1, hcp⟩
      · omega
      obtain ⟨_, hcap, cur, hcur⟩ := own_block2 hrow
      have hnt := nts_own hrow (frs_len k).symm
      have hx : (frs k)[s]? = some ((s : Int), 0, 1) := frs_get hsN
      obtain ⟨e0, e1, e2⟩ := hnt s _ hx
      rw [Nat.zero_add] at e0 e1 e2
      have z1 := thaw_at hcur (s * 3 + 1)
      have hgl := lt_at hcur
      have HNT : Hid (NtsAt wr g 0 (frs k)) := hnt
      have HRB : Hid (RB wr w.heap.size (.slice none 0 0)) := hrb
      have r0 := hrb.cell
      have r1 := hrb.thaw
      clear hnt hrow hrb
      go_wp2
      have hne : w.heap.size ≠ g := by omega
      refine retRt (x := .int .i64 0) rfl rfl rfl rfl ((HRB.out.other hne).set _) (HV.out _ _ cap ((hbw.setCell (show w.heap.size ≤ g by omega) _).setCell (Nat.le_refl _) _) ?_ hcap (fun a ha => by obtain rfl := Option.some.inj ha; exact ⟨by simp only; omega, ⟨_, (Below.heap_setCell _ _ _ _ (Ne.symm hne)).trans (heap_setCell_same _ _ _ _ _ _ hcur)⟩⟩))
      intro _
      exact ⟨g, 0, rfl, by simpa using hgl, ((HNT.out.put1 hcur hx tag).aside (Ne.symm hne))⟩

set_option maxHeartbeats 1000000 in
set_option maxRecDepth 100000 in
theorem rFull_any (n : Int) (w : World) : Calls Tryz.prog 123 #[.int .i64 n] w fun e w' => e = .returned (fullV n) ∧ Below w.heap.size w w' := by
  have hz := zeroB
  by_cases h : 0 ≤ n ∧ n ≤ 100
  · obtain ⟨m, rfl⟩ := Int.eq_ofNat_of_zero_le h.1
    have h1 : ¬ (m : Int) < 0 := by omega
    have h2 : ¬ 100 < (m : Int) := by omega
    have hm := make_any (fun j => decide (j < m))
    have hmk : mkN (fun j => decide (j < m)) 100 = fullN m := mkN_eq (fun i => by
      rw [testBit_full]
      by_cases e : i < m
      · simp [e]; omega
      · simp [e])
    rw [hmk] at hm
    have hV : fullV (m : Int) = .tuple #[sv (fullN m), .int .i64 0] := by rw [fullV, if_pos h]; rfl
    rw [hV]
    clear hmk hV
    generalize fullN m = F at *
    simp only [sv] at hm ⊢
    go_enter Tryz.func123, Tryz.ntmps123
    go_wp2
    clear hz
    go_loopw [5] (fun c wz => ∃ k : Nat, c = .int .i64 k ∧ k ≤ m ∧ HoldsB wz (w.heap.size + 1) (fun j => decide (j < k)) ∧ Holds4 wz w.heap.size (fun _ => 0) ∧ Below w.heap.size w wz) (fun c _ => m - vnat c)
    case atStart => exact ⟨0, rfl, by omega, (show HoldsB _ _ (fun _ => false) from get_new (by simp)).congr (fun j _ => by simp), get_old (get_new (by simp)), ((Below.refl _ w).alloc (by simp) _).alloc (by simp) _⟩
    case round =>
      obtain ⟨k, rfl, hk, g1, g2, hb⟩ := hrel
      by_cases hk4 : k < m
      · have hki : (k : Int) < (m : Int) := by omega
        have hkh : (k : Int) < 100 := by omega
        have hk1 : k < 100 := by omega
        have hc := g1.cell k hk1
        have hf := g1.frozen k
        have g3 : Hid (HoldsB (wr.setCell ⟨w.heap.size + 1, k, none⟩ (.bool true)) (w.heap.size + 1) (fun j => decide (j < k + 1))) := (g1.set k true).congr (fun j _ => by
          by_cases e : j = k
          · subst e; simp
          · have e2 : (j < k + 1) = (j < k) := by simp; omega
            simp [e, e2])
        clear hm g1
        go_wp2
        go_roundw
        case rel => exact ⟨k + 1, by simp, by omega, g3.out, (Below.heap_setCell _ _ _ _ (by simp)).trans g2, hb.setCell (p := ⟨w.heap.size + 1, k, none⟩) (by simp) _⟩
        case measure => simp only [vnat]; omega
      · have hk5 : k = m := by omega
        subst hk5
        have H2 : Hid (Holds4 wr w.heap.size (fun _ => 0)) := g2
        have hlr := g2.lt
        clear g2
        go_wp2_with (first | (refine wpList_load_row rfl 280 _ rfl (w.heap.size + 1) rfl _ _ _ _ g1 Tryz.underlying280 rfl (by rw [bC_size]; exact sizeB) ?_) | (go_at_call 188; refine (hm _).mono ?_; rintro e w2 ⟨rfl, hb2⟩; have q : Hid (Holds4 w2 w.heap.size (fun _ => 0)) := (hb2.block _ hlr).trans H2.out; obtain ⟨y0, y1, y2, y3, z0, z1, z2, z3⟩ := q.out.facts))
        exact ret4t rfl rfl rfl rfl (fin4 q.out _) ⟨rfl, below4 (bcarry hb (Nat.le_refl _) hb2) (Nat.le_refl _) _⟩
  · have hV : fullV n = .tuple #[sv 0, .int .i64 1] := by rw [fullV, if_neg h]
    rw [hV]
    have g2 : Holds4 (w.alloc (.cells (cells4 (fun _ => 0)) 51)) w.heap.size (fun _ => 0) := get_new rfl
    have hb : Below w.heap.size w (w.alloc (.cells (cells4 (fun _ => 0)) 51)) := alloc_below w _
    by_cases h0 : n < 0
    · go_enter Tryz.func123, Tryz.ntmps123
      go_wp2
      exact ret4t rfl rfl rfl rfl (g2.congr (fun j _ => by simp [wd])) ⟨rfl, hb⟩
    · have h1 : 100 < n := by omega
      go_enter Tryz.func123, Tryz.ntmps123
      go_wp2
      exact ret4t rfl rfl rfl rfl (g2.congr (fun j _ => by simp [wd])) ⟨rfl, hb⟩
set_option maxHeartbeats 1000000 in
set_option maxRecDepth 100000 in
theorem rWithin_any (N : Nat) (hN : N < S128) (n : Int) (w : World) : Calls Tryz.prog 125 #[sv N, .int .i64 n] w fun e w' => e = .returned (.bool (wthB N n)) ∧ Below w.heap.size w w' := by
  simp only [sv]
  go_enter Tryz.func125, Tryz.ntmps125
  go_wp2
  go_loopw [5] (fun c wz => ∃ k : Nat, c = .int .i64 k ∧ k ≤ 128 ∧ (∀ i, i < k → N.testBit i = true → i < topW n) ∧ Holds4 wz w.heap.size (wd N) ∧ Below w.heap.size w wz) (fun c _ => 128 - vnat c)
  case atStart => exact ⟨0, rfl, by omega, fun i h => by omega, get_new (by simp), alloc_below w _⟩
  case round =>
    obtain ⟨k, rfl, hk, he, h1, hb⟩ := hrel
    by_cases hk4 : k < 128
    · have hki : (k : Int) < 128 := by omega
      have hq : k / 32 < 4 := by omega
      have hq' : (k : Int) / 32 < 4 := by omega
      have hc1 := h1.cell (k / 32) hq
      have hbit : (bits BinOp.and IntKind.u32 ((wd N (k / 32) : Int) / 2 ^ (k % 32)) 1 == 1) = N.testBit k := by
        have e : (wd N (k / 32) : Int) / 2 ^ (k % 32) = ((wd N (k / 32) / 2 ^ (k % 32) : Nat) : Int) := by simp
        have hl : wd N (k / 32) / 2 ^ (k % 32) < 4294967296 := Nat.lt_of_le_of_lt (Nat.div_le_self _ _) (wd_lt N _)
        rw [e, show (1 : Int) = ((1 : Nat) : Int) from rfl, u32_and_nat _ _ hl (by omega), ← bit_word N k, ← shr_bit]
        by_cases h : wd N (k / 32) / 2 ^ (k % 32) &&& 1 = 1
        · rw [h]; rfl
        · have h2 : ¬ ((wd N (k / 32) / 2 ^ (k % 32) &&& 1 : Nat) : Int) = ((1 : Nat) : Int) := by omega
          rw [beq_eq_false_iff_ne.2 h, beq_eq_false_iff_ne.2 h2]
      have hbad : N.testBit k = true → ¬ k < topW n → wthB N n = false := by
        intro h2 h3
        unfold wthB
        rw [decide_eq_false_iff_not]
        intro h4
        have h5 : (N % 2 ^ topW n).testBit k = true := by rw [← h4]; exact h2
        rw [Nat.testBit_mod_two_pow] at h5
        simp [h3] at h5
      have htop := topW_lt n k
      cases hb0 : N.testBit k
      · rw [hb0] at hbit
        clear hbad htop
        go_wp2
        go_roundw
        case rel => exact ⟨k + 1, by simp, by omega, fun i hi h2 => by
          by_cases e : i = k
          · subst e; rw [hb0] at h2; cases h2
          · exact he i (by omega) h2, h1, hb⟩
        case measure => simp only [vnat]; omega
      · rw [hb0] at hbit hbad
        by_cases t1 : (k : Int) ≥ n
        · have t1' : n ≤ (k : Int) := t1
          have hres := hbad rfl (fun c => by have := htop.1 c; omega)
          clear hbad htop
          go_wp2
          go_ret
          first | exact ⟨rfl, hb⟩ | exact ⟨ret_bool hres.symm, hb⟩
        · by_cases t2 : (k : Int) ≥ 100
          · have t2' : 100 ≤ (k : Int) := t2
            have hres := hbad rfl (fun c => by have := htop.1 c; omega)
            clear hbad htop
            go_wp2
            go_ret
            first | exact ⟨rfl, hb⟩ | exact ⟨ret_bool hres.symm, hb⟩
          · have hkt : k < topW n := htop.2 ⟨by omega, by omega⟩
            clear hbad htop
            go_wp2
            go_roundw
            case rel => exact ⟨k + 1, by simp, by omega, fun i hi h2 => by
              by_cases e : i = k
              · subst e; exact hkt
              · exact he i (by omega) h2, h1, hb⟩
            case measure => simp only [vnat]; omega
    · have hk5 : k = 128 := by omega
      subst hk5
      have hres : wthB N n = true := by
        unfold wthB
        rw [decide_eq_true_eq]
        apply Nat.eq_of_testBit_eq; intro i
        rw [Nat.testBit_mod_two_pow]
        by_cases hi : i < 128
        · cases h2 : N.testBit i with
          | false => simp
          | true => simp [he i hi h2]
        · have : N.testBit i = false := Nat.testBit_lt_two_pow (Nat.lt_of_lt_of_le hN (Nat.pow_le_pow_right (n := 2) (i := 128) (by decide) (by omega)))
          simp [this]
      go_wp2
      go_ret
      first | exact ⟨rfl, hb⟩ | exact ⟨ret_bool hres.symm, hb⟩
end Go.Proofs.YtklnfbanfgdgcaaGreatDoor
