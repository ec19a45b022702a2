/- The document's own answers on sets, by rows of bools: what they answer, at every input. -/
import Derived.Test.YtddblfffjhoiaabGreatJnJ0
import Derived.Test.YtddblfffjhoiaabGreatOwn
import Derived.Test.YtddblfffjhoiaabGreatWth
import Derived.Test.YtddblfffjhoiaabGreatNte
namespace Go.Proofs.YtddblfffjhoiaabGreat
open Go.RowKit Go.Shelf Go.Lib

theorem stepB_alloc {ops : Array Oper} {Q : Exit → Act → World → Prop} {i : Nat} {o : Oper} {a : Act} {w : World} {K : Act → World → Prop} (hi : ops[i]? = some o) (hg : o.guard = none) (ho : o.op = .alloc 173)
    (hK : K (a.put o.dst (.pointer (some ⟨w.heap.size, 0, none⟩))) (w.alloc (.cells (bC (fun _ => false)) 173))) : wpOp Tryz.prog ops Q i K a w := by
  have hz := zeroB
  have hr : (Instr.alloc 173 true (.tuple #[])).run Tryz.prog w = .ok (.pointer (some ⟨w.heap.size, 0, none⟩)) (w.alloc (.cells (bC (fun _ => false)) 173)) := by
    go_simp
  unfold wpOp
  rw [hi]
  simp only [Region.wanted, hg, if_true]
  refine .inl ?_
  unfold Oper.wp execOp
  simp only [ho, Sem.run_bind, hr, Result.andThen_ok, Sem.run_pure, Oper.upon_value]
  exact hK
/-- What lies where, while two rows are made. -/
structure JR (w0 : World) (A B : Nat) (p q : Nat → Bool) (ba bb : Nat) (g : Nat × Nat) (x4 x5 x6 x7 : Bool) (W : World) : Prop where
  a : Holds4 W ba (wd A)
  b : Holds4 W bb (wd B)
  la : ba < w0.heap.size
  lb : bb < w0.heap.size
  below : Below w0.heap.size w0 W
  u : x4 = true → w0.heap.size ≤ g.1 ∧ HoldsB W g.1 (if x6 = true then p else fun _ => false)
  m : x5 = true → w0.heap.size ≤ g.2 ∧ HoldsB W g.2 (if x7 = true then q else fun _ => false)
  ne : x4 = true → x5 = true → g.1 ≠ g.2
theorem JR.carry {w0 : World} {A B : Nat} {p q : Nat → Bool} {ba bb : Nat} {g : Nat × Nat} {x4 x5 x6 x7 : Bool} {W W' : World} (h : JR w0 A B p q ba bb g x4 x5 x6 x7 W) (hb : Below W.heap.size W W') : JR w0 A B p q ba bb g x4 x5 x6 x7 W' :=
  ⟨h.a.carry hb, h.b.carry hb, h.la, h.lb, bcarry h.below (Nat.le_refl _) hb, fun e => ⟨(h.u e).1, (h.u e).2.carry hb⟩, fun e => ⟨(h.m e).1, (h.m e).2.carry hb⟩, h.ne⟩
theorem runB_store {w : World} {b : Nat} {p : Nat → Bool} (h : HoldsB w b p) (q : Nat → Bool) : (Instr.storeAt 173 (.pointer (some ⟨b, 0, none⟩)) (.agg (bC q))).run Tryz.prog w = .ok () (w.setRow b (bC q)) := by
  have := h.store q
  simp only [Instr.storeAt, Instr.sureAddr, Sem.run_bind, Sem.run_pure, Result.andThen_ok, this]
end Go.Proofs.YtddblfffjhoiaabGreat
namespace Go.Proofs.YtddblfffjhoiaabGreat
open Go.RowKit Go.Shelf Go.Lib


theorem idxvB (p : Nat → Bool) (k : Nat) (hk : k < 100) (w : World) : (Instr.index 173 (.agg (bC p)) (.int .i64 (k : Int))).run Tryz.prog w = .ok (.bool (p k)) w := by
  have h2 : 0 ≤ (k : Int) := by omega
  have he : Tryz.prog.plainKey 4 = true := by kernel_rfl
  have hi : (Tryz.prog.info? 4).isSome = true := by kernel_rfl
  obtain ⟨i, hi⟩ := Option.isSome_iff_exists.1 hi
  have hc : Tryz.prog.cellsOf 4 = 1 := by kernel_rfl
  have p1 := run_part_plain (P := Tryz.prog) w he (off := k * 1) (by rw [Nat.mul_one]; exact bC_get p k hk)
  simp only [Instr.index, asIntOf, Sem.run_bind, Sem.run_pure, Result.andThen_ok, run_underlying Tryz.underlying173]
  have h3 : (0 : Int) ≤ (k : Int) ∧ (k : Int) < ((100 : Nat) : Int) := ⟨h2, by omega⟩
  rw [if_pos h3]
  simp only [Sem.run_bind, run_sizeOf w hi, Result.andThen_ok, hc, Int.toNat_natCast]
  exact p1
theorem mkN_with (N i : Nat) (hi : i < 100) : mkN (fun j => if j = i then true else N.testBit j) 100 = cln N ||| 2 ^ i := mkN_eq (fun j => by
  rw [Nat.testBit_or, testBit_cln, Nat.testBit_two_pow]
  by_cases e : j = i
  · subst e; simp [hi]
  · have e2 : ¬ i = j := fun c => e c.symm
    simp [e, e2])
theorem mkN_less (N i : Nat) : mkN (fun j => if j = i then false else N.testBit j) 100 = dif (cln N) (2 ^ i) := mkN_eq (fun j => by
  rw [testBit_dif, testBit_cln, Nat.testBit_two_pow]
  by_cases e : j = i
  · subst e; simp
  · have e2 : ¬ i = j := fun c => e c.symm
    simp [e, e2])
set_option maxHeartbeats 1000000 in
set_option maxRecDepth 100000 in
theorem rWith_any (N : Nat) (id : Int) (w : World) : Calls Tryz.prog 127 #[sv N, .int .i64 id] w fun e w' => e = .returned (withV N id) ∧ Below w.heap.size w w' := by
  have hz := zeroB
  have hr := row_any N
  by_cases h : 0 ≤ id ∧ id < 100
  · obtain ⟨i, rfl⟩ := Int.eq_ofNat_of_zero_le h.1
    have hi : i < 100 := by omega
    have t1 : ¬ (i : Int) < 0 := by omega
    have t2 : ¬ (i : Int) ≥ 100 := by omega
    have t3 : ¬ 100 ≤ (i : Int) := by omega
    obtain ⟨p, hp⟩ : ∃ p, p = (fun j => if j = i then true else N.testBit j) := ⟨_, rfl⟩
    have hset : (bC N.testBit).setIfInBounds i (.bool true) = bC p := by rw [hp, bC_set]
    have hm := make_any p
    have hmk : mkN p 100 = cln N ||| 2 ^ i := by rw [hp]; exact mkN_with N i hi
    rw [hmk] at hm
    clear hmk hp
    have hV : withV N (i : Int) = .tuple #[sv (cln N ||| 2 ^ i), .int .i64 0] := by rw [withV, if_pos h]; rfl
    rw [hV]
    generalize cln N ||| 2 ^ i = M at *
    simp only [sv] at hr hm ⊢
    go_enter Tryz.func127, Tryz.ntmps127
    go_wp2_with (first | (go_at_call 132; refine (hr _).mono ?_; rintro e w1 ⟨rfl, hb1⟩; clear hr) | (refine wpList_store_row rfl 173 _ _ rfl w1.heap.size (bC N.testBit) rfl rfl _ _ (get_new rfl) (by rw [bC_size]; exact sizeB) (by rw [bC_size, bC_size]) (bC_one _) ?_; simp only [World.setRow_alloc_new]; have g1 : HoldsB (w1.alloc (.cells (bC N.testBit) 173)) w1.heap.size N.testBit := get_new rfl; have c1 := g1.cell i hi; have f1 := g1.frozen i; clear g1) | ((try rw [hset]); refine wpList_load_row rfl 173 _ rfl w1.heap.size rfl _ _ _ _ (get_new rfl) Tryz.underlying173 rfl (by rw [bC_size]; exact sizeB) ?_) | (go_at_call 133; refine (hm _).mono ?_; rintro e w2 ⟨rfl, hb2⟩; have hs1 := hb1.size; simp only [World.size_alloc] at hs1; have q : Hid (Holds4 w2 (w.heap.size + 1) (fun _ => 0)) := (hb2.block _ (by simp; omega)).trans (get_old ((hb1.block _ (by simp)).trans (get_new (by simp)))); obtain ⟨y0, y1, y2, y3, z0, z1, z2, z3⟩ := q.out.facts))
    refine ret4t rfl rfl rfl rfl (fin4 q.out _) ⟨rfl, below4 (bcarry (((bcarry (((Below.refl _ w).alloc (by simp) _).alloc (by simp) _) (Nat.le_refl _) hb1).alloc (by omega) _)) (Nat.le_refl _) hb2) (by omega) _⟩
  · have hV : withV N id = .tuple #[sv 0, .int .i64 30] := by rw [withV, if_neg h]
    rw [hV]
    have g2 : Holds4 ((w.alloc (.cells (cells4 (wd N)) 57)).alloc (.cells (cells4 (fun _ => 0)) 57)) (w.heap.size + 1) (fun _ => 0) := get_new (by simp)
    simp only [sv]
    clear hr
    by_cases t1 : id < 0
    · go_enter Tryz.func127, Tryz.ntmps127
      go_wp2
      refine ret4t (M := 0) rfl rfl rfl rfl (g2.congr (fun j _ => by simp [wd])) ⟨?_, ((Below.refl _ w).alloc (by simp) _).alloc (by simp) _⟩
      rfl
    · have t2 : 100 ≤ id := by omega
      go_enter Tryz.func127, Tryz.ntmps127
      go_wp2
      refine ret4t (M := 0) rfl rfl rfl rfl (g2.congr (fun j _ => by simp [wd])) ⟨?_, ((Below.refl _ w).alloc (by simp) _).alloc (by simp) _⟩
      rfl
end Go.Proofs.YtddblfffjhoiaabGreat
namespace Go.Proofs.YtddblfffjhoiaabGreat
open Go.RowKit Go.Shelf Go.Lib

theorem cln_self {N : Nat} (h : N < 2 ^ 100) : cln N = N := cln_of_lt h
set_option maxHeartbeats 1000000 in
set_option maxRecDepth 100000 in
theorem rPut_any (N : Nat) (hN : N < 2 ^ 100) (i : Nat) (hi : i < 100) (w : World) : Calls Tryz.prog 85 #[sv N, .int .i64 (i : Int)] w fun e w' => e = .returned (sv (N ||| 2 ^ i)) ∧ Below w.heap.size w w' := by
  have hw := rWith_any N (i : Int)
  have e3 : withV N (i : Int) = .tuple #[sv (N ||| 2 ^ i), .int .i64 0] := by
    unfold withV
    rw [if_pos (by omega), Int.toNat_natCast, cln_self hN]
  rw [e3] at hw
  clear e3
  generalize N ||| 2 ^ i = N2 at *
  simp only [sv] at hw ⊢
  go_enter Tryz.func85, Tryz.ntmps85
  go_wp2_with (go_at_call 127; refine (hw _).mono ?_; rintro e w1 ⟨rfl, hb1⟩; have q : Holds4 w1 (w.heap.size + 1) (fun _ => 0) := (hb1.block _ (by simp)).trans (get_new (by simp)); have hs1 := q.lt; obtain ⟨y0, y1, y2, y3, z0, z1, z2, z3⟩ := q.facts; have H1 : Hid (Holds4 w1 (w.heap.size + 1) (fun _ => 0)) := q; clear q)
  have k5 : Below w.heap.size w ((set4 w1 (w.heap.size + 1) N2).alloc (.cells (cells4 (wd N2)) 57)) := (below4 (bcarry (((Below.refl _ w).alloc (by simp) _).alloc (by simp) _) (Nat.le_refl _) hb1) (by omega) _).alloc (Nat.le_of_lt (Nat.lt_of_le_of_lt (Nat.le_add_right _ _) (Holds4.lt (fin4 H1.out N2)))) _
  exact ret4 rfl rfl rfl (get_old (fin4 H1.out N2)) ⟨rfl, k5⟩
/-- A box that holds a book of the document. -/
def RB (W : World) (b : Nat) (v : Value) : Prop := W.heap[b]? = some (.cells #[v] 29 (0, 0))
theorem RB.cell {W : World} {b : Nat} {v : Value} (h : RB W b v) : W.cell? ⟨b, 0, none⟩ = some v := cell_at h 0
theorem RB.thaw {W : World} {b : Nat} {v : Value} (h : RB W b v) : W.frozen? ⟨b, 0, none⟩ = false := thaw_at h 0
theorem RB.carry {W V : World} {b : Nat} {v : Value} (h : RB W b v) (hb : Below W.heap.size W V) : RB V b v := (hb.block _ (lt_at h)).trans h
theorem RB.set {W : World} {b : Nat} {v : Value} (h : RB W b v) (u : Value) : RB (W.setCell ⟨b, 0, none⟩ u) b u := by
  have := heap_setCell_same _ _ 0 _ _ u h
  unfold RB
  simpa using this
theorem RB.other {W : World} {b b' j : Nat} {v u : Value} (h : RB W b v) (hne : b ≠ b') : RB (W.setCell ⟨b', j, none⟩ u) b v := (Below.heap_setCell _ _ _ _ hne).trans h
theorem field_rb (W : World) (B : Nat) : (Instr.fieldAt 29 (.pointer (some ⟨B, 0, none⟩)) 0).run Tryz.prog W = .ok (.pointer (some ⟨B, 0, none⟩)) W := by go_simp
theorem load_rb {W : World} {b n c : Nat} {ad : Option Addr} (h : RB W b (.slice ad n c)) : (Instr.loadAt 26 (.pointer (some ⟨b, 0, none⟩))).run Tryz.prog W = .ok (.slice ad n c) W := by
  have c0 := h.cell
  go_simp
theorem load_rbw {W : World} {b n c : Nat} {ad : Option Addr} (h : RB W b (.slice ad n c)) : (Instr.loadAt 29 (.pointer (some ⟨b, 0, none⟩))).run Tryz.prog W = .ok (.agg #[.slice ad n c]) W := by
  have c0 := h.cell
  go_simp
theorem retR {f : Func} {p : Tmp} {R : Ending → World → Prop} {a : Act} {w : World} {b n c : Nat} {ad : Option Addr} (hres : f.results = #[.cell p 29]) (hp : a.tmps.getD p undef = .pointer (some ⟨b, 0, none⟩)) (hd : a.defers = []) (h : RB w b (.slice ad n c)) (hR : R (.returned (.agg #[.slice ad n c])) w) : bodyPost Tryz.prog f R .ret a w := by
  refine bodyPost_ret (v := .agg #[.slice ad n c]) ?_ hd hR
  have hp' : a.tmps[p]?.getD undef = .pointer (some ⟨b, 0, none⟩) := by simpa using hp
  have c0 := h.cell
  simp [results, hres, hp', asAddr]
  go_simp
theorem retRt {f : Func} {p q : Tmp} {R : Ending → World → Prop} {a : Act} {w : World} {b n c : Nat} {ad : Option Addr} {x : Value} (hres : f.results = #[.cell p 29, .tmp q]) (hp : a.tmps.getD p undef = .pointer (some ⟨b, 0, none⟩)) (hq : a.tmps.getD q undef = x) (hd : a.defers = []) (h : RB w b (.slice ad n c)) (hR : R (.returned (.tuple #[.agg #[.slice ad n c], x])) w) : bodyPost Tryz.prog f R .ret a w := by
  refine bodyPost_ret (v := .tuple #[.agg #[.slice ad n c], x]) ?_ hd hR
  have hp' : a.tmps[p]?.getD undef = .pointer (some ⟨b, 0, none⟩) := by simpa using hp
  have hq' : a.tmps[q]?.getD undef = x := by simpa using hq
  have c0 := h.cell
  simp [results, hres, hp', hq', asAddr]
  go_simp
theorem retRst {f : Func} {p r q : Tmp} {R : Ending → World → Prop} {a : Act} {w : World} {b bs M n c : Nat} {ad : Option Addr} {x : Value} (hres : f.results = #[.cell p 29, .cell r 57, .tmp q]) (hp : a.tmps.getD p undef = .pointer (some ⟨b, 0, none⟩)) (hr : a.tmps.getD r undef = .pointer (some ⟨bs, 0, none⟩)) (hq : a.tmps.getD q undef = x) (hd : a.defers = []) (h : RB w b (.slice ad n c)) (hs : Holds4 w bs (wd M)) (hR : R (.returned (.tuple #[.agg #[.slice ad n c], sv M, x])) w) : bodyPost Tryz.prog f R .ret a w := by
  refine bodyPost_ret (v := .tuple #[.agg #[.slice ad n c], sv M, x]) ?_ hd hR
  have h1 := run_loadVar_row (P := Tryz.prog) w bs 57 57 (cells4 (wd M)) (0, 0) _ hs Tryz.underlying57 rfl (by kernel_rfl)
  have h2 := run_loadVar_row (P := Tryz.prog) w b 29 29 #[.slice ad n c] (0, 0) _ h Tryz.underlying29 rfl (by kernel_rfl)
  have hp' : a.tmps[p]?.getD undef = .pointer (some ⟨b, 0, none⟩) := by simpa using hp
  have hr' : a.tmps[r]?.getD undef = .pointer (some ⟨bs, 0, none⟩) := by simpa using hr
  have hq' : a.tmps[q]?.getD undef = x := by simpa using hq
  simp [results, hres, hp', hr', hq', asAddr, h1, h2]
  rfl
theorem NtsAt.put {W : World} {g : Nat} {cur : Array Value} {l : List N3} (h : NtsAt W g 0 l) (hg : W.heap[g]? = some (.cells cur 61 (0, 0))) (i : Nat) (hi : i < l.length) (o t k : Int) : NtsAt (W3o W g (i * 3) o t k) g 0 (l.set i (o, t, k)) := by
  intro j x hj
  rw [Nat.zero_add]
  have h0 := heap_setCell_same _ _ (i * 3) _ _ (.int .i64 o) hg
  have h1 := heap_setCell_same _ _ (i * 3 + 1) _ _ (.int .i64 t) h0
  have h2 := heap_setCell_same _ _ (i * 3 + 2) _ _ (.int .i64 k) h1
  have hsz : i * 3 + 2 < cur.size := by
    obtain ⟨y, hy⟩ : ∃ y, l[i]? = some y := ⟨_, List.getElem?_eq_getElem hi⟩
    obtain ⟨_, _, c2⟩ := h i y hy
    rw [Nat.zero_add, cell_at hg] at c2
    exact (Array.getElem?_eq_some_iff.1 c2).1
  rw [List.getElem?_set] at hj
  by_cases e : i = j
  · subst e
    simp only [hi, if_true] at hj
    obtain rfl := Option.some.inj hj
    refine ⟨(cell_at h2 _).trans ?_, (cell_at h2 _).trans ?_, (cell_at h2 _).trans ?_⟩
    · simp [Array.getElem?_setIfInBounds]; omega
    · simp [Array.getElem?_setIfInBounds]; omega
    · simp [Array.getElem?_setIfInBounds]; omega
  · rw [if_neg e] at hj
    obtain ⟨c0, c1, c2⟩ := h j x hj
    rw [Nat.zero_add, cell_at hg] at c0 c1 c2
    refine ⟨(cell_at h2 _).trans ?_, (cell_at h2 _).trans ?_, (cell_at h2 _).trans ?_⟩
    · rw [Array.getElem?_setIfInBounds_ne (by omega), Array.getElem?_setIfInBounds_ne (by omega), Array.getElem?_setIfInBounds_ne (by omega)]; exact c0
    · rw [Array.getElem?_setIfInBounds_ne (by omega), Array.getElem?_setIfInBounds_ne (by omega), Array.getElem?_setIfInBounds_ne (by omega)]; exact c1
    · rw [Array.getElem?_setIfInBounds_ne (by omega), Array.getElem?_setIfInBounds_ne (by omega), Array.getElem?_setIfInBounds_ne (by omega)]; exact c2
theorem NtsAt.put1 {W : World} {g : Nat} {cur : Array Value} {l : List N3} (h : NtsAt W g 0 l) (hg : W.heap[g]? = some (.cells cur 61 (0, 0))) {i : Nat} {o t k : Int} (hi : l[i]? = some (o, t, k)) (t' : Int) : NtsAt (W.setCell ⟨g, i * 3 + 1, none⟩ (.int .i64 t')) g 0 (l.set i (o, t', k)) := by
  intro j x hj
  rw [Nat.zero_add]
  have h2 := heap_setCell_same _ _ (i * 3 + 1) _ _ (.int .i64 t') hg
  obtain ⟨d0, d1, d2⟩ := h i _ hi
  rw [Nat.zero_add, cell_at hg] at d0 d1 d2
  have hsz : i * 3 + 1 < cur.size := (Array.getElem?_eq_some_iff.1 d1).1
  have hil := (List.getElem?_eq_some_iff.1 hi).1
  rw [List.getElem?_set] at hj
  by_cases e : i = j
  · subst e
    simp only [hil, if_true] at hj
    obtain rfl := Option.some.inj hj
    refine ⟨(cell_at h2 _).trans ?_, (cell_at h2 _).trans ?_, (cell_at h2 _).trans ?_⟩
    · rw [Array.getElem?_setIfInBounds_ne (by omega)]; exact d0
    · simp [hsz]
    · rw [Array.getElem?_setIfInBounds_ne (by omega)]; exact d2
  · rw [if_neg e] at hj
    obtain ⟨c0, c1, c2⟩ := h j x hj
    rw [Nat.zero_add, cell_at hg] at c0 c1 c2
    refine ⟨(cell_at h2 _).trans ?_, (cell_at h2 _).trans ?_, (cell_at h2 _).trans ?_⟩
    · rw [Array.getElem?_setIfInBounds_ne (by omega)]; exact c0
    · rw [Array.getElem?_setIfInBounds_ne (by omega)]; exact c1
    · rw [Array.getElem?_setIfInBounds_ne (by omega)]; exact c2
theorem NtsAt.aside {W : World} {g b j off : Nat} {v : Value} {l : List N3} (h : NtsAt W g off l) (hne : g ≠ b) : NtsAt (W.setCell ⟨b, j, none⟩ v) g off l := fun k x hk => by
  obtain ⟨c0, c1, c2⟩ := h k x hk
  have hb : (W.setCell ⟨b, j, none⟩ v).heap[g]? = W.heap[g]? := Below.heap_setCell _ _ _ _ hne
  exact ⟨(World.cell?_of_block (a := ⟨g, _, none⟩) hb).trans c0, (World.cell?_of_block (a := ⟨g, _, none⟩) hb).trans c1, (World.cell?_of_block (a := ⟨g, _, none⟩) hb).trans c2⟩
/-- A row of the call's own: where it lies, and that it can be written. -/
theorem own_block2 {W : World} {base g n cap : Nat} {xs : List Value} (h : W.ownsRow base 61 3 (.slice (some ⟨g, 0, none⟩) n cap) n xs) : base ≤ g ∧ n ≤ cap ∧ ∃ cur, W.heap[g]? = some (.cells cur 61 (0, 0)) := by
  rcases h.2 with ⟨e, _⟩ | ⟨g', cap', cur, e, h4, h5, h6, _⟩
  · cases e
  · cases e
    exact ⟨h4, h6, cur, h5⟩
theorem frs_succ (k : Nat) : frs (k + 1) = frs k ++ [((k : Int), 0, 1)] := by
  unfold frs
  rw [List.range_succ, List.map_append]
  rfl
theorem below3o {w0 w : World} {n B : Nat} (hb : Below n w0 w) (hB : n ≤ B) (off : Nat) (a b c : Int) : Below n w0 (W3o w B off a b c) := ((hb.setCell hB _).setCell hB _).setCell hB _
/-- What the document's New answers. -/
def RNewV (n self tag : Int) (w : World) (e : Ending) (w' : World) : Prop :=
  Below w.heap.size w w' ∧
  if n < 1 ∨ 100 < n then e = .returned (.tuple #[.agg #[.slice none 0 0], .int .i64 1])
  else if self < 0 ∨ n ≤ self then e = .returned (.tuple #[.agg #[.slice none 0 0], .int .i64 30])
  else if tag < 0 ∨ 1048576 < tag then e = .returned (.tuple #[.agg #[.slice none 0 0], .int .i64 50])
  else ∃ ad cap, e = .returned (.tuple #[.agg #[.slice ad n.toNat cap], .int .i64 0]) ∧ RdN w' ad (bk0 n.toNat self.toNat tag) ∧ n.toNat ≤ cap ∧ (∀ a, ad = some a → w.heap.size ≤ a.block ∧ ∃ cur, w'.heap[a.block]? = some (.cells cur 61 (0, 0)))
theorem RNewV.ok {n self tag : Int} {w w' : World} {e : Ending} (h : RNewV n self tag w e w') (h1 : ¬ (n < 1 ∨ 100 < n)) (h2 : ¬ (self < 0 ∨ n ≤ self)) (h3 : ¬ (tag < 0 ∨ 1048576 < tag)) : ∃ ad cap, e = .returned (.tuple #[.agg #[.slice ad n.toNat cap], .int .i64 0]) ∧ RdN w' ad (bk0 n.toNat self.toNat tag) ∧ n.toNat ≤ cap ∧ (∀ a, ad = some a → w.heap.size ≤ a.block ∧ ∃ cur, w'.heap[a.block]? = some (.cells cur 61 (0, 0))) := by
  have := h.2
  rw [if_neg h1, if_neg h2, if_neg h3] at this
  exact this
theorem RNewV.bad {n self tag : Int} {w w' w2 w3 : World} {e e2 : Ending} (h : RNewV n self tag w e w') (k : NewV n self tag w2 e2 w3) (hb : ¬ (¬ (n < 1 ∨ 100 < n) ∧ ¬ (self < 0 ∨ n ≤ self) ∧ ¬ (tag < 0 ∨ 1048576 < tag))) : ∃ E : Int, (E != 0) = true ∧ e = .returned (.tuple #[.agg #[.slice none 0 0], .int .i64 E]) ∧ e2 = .returned (.tuple #[.pointer none, .int .i64 E]) := by
  have h := h.2
  have k := k.2
  by_cases h1 : n < 1 ∨ 100 < n
  · rw [if_pos h1] at h k; exact ⟨1, by decide, h, k⟩
  · rw [if_neg h1] at h k
    by_cases h2 : self < 0 ∨ n ≤ self
    · rw [if_pos h2] at h k; exact ⟨30, by decide, h, k⟩
    · rw [if_neg h2] at h k
      by_cases h3 : tag < 0 ∨ 1048576 < tag
      · rw [if_pos h3] at h k; exact ⟨50, by decide, h, k⟩
      · exact absurd ⟨h1, h2, h3⟩ hb
set_option maxHeartbeats 4000000 in
set_option maxRecDepth 100000 in
theorem rNew_any (n self tag : Int) (w : World) : Calls Tryz.prog 14 #[.int .i64 n, .int .i64 self, .int .i64 tag] w fun e w' => RNewV n self tag w e w' := by
  have hr0 : RB (w.alloc (.cells #[.slice none 0 0] 29)) w.heap.size (.slice none 0 0) := new_at rfl
  have hb0 : Below w.heap.size w (w.alloc (.cells #[.slice none 0 0] 29)) := al1 _ _
  by_cases h1 : n < 1 ∨ 100 < n
  · have HV : Hid (∀ w', Below w.heap.size w w' → RNewV n self tag w (.returned (.tuple #[.agg #[.slice none 0 0], .int .i64 1])) w') := fun w' hb => ⟨hb, by rw [if_pos h1]⟩
    rcases h1 with h1 | h1
    all_goals
      go_enter Tryz.func14, Tryz.ntmps14
      go_wp2
      exact retRt rfl rfl rfl rfl hr0 (HV.out _ hb0)
  by_cases h2 : self < 0 ∨ n ≤ self
  · have HV : Hid (∀ w', Below w.heap.size w w' → RNewV n self tag w (.returned (.tuple #[.agg #[.slice none 0 0], .int .i64 30])) w') := fun w' hb => ⟨hb, by rw [if_neg h1, if_pos h2]⟩
    have h10 : ¬ n < 1 := by omega
    have h11 : ¬ 100 < n := by omega
    clear h1
    rcases h2 with h2 | h2
    all_goals
      go_enter Tryz.func14, Tryz.ntmps14
      go_wp2
      exact retRt rfl rfl rfl rfl hr0 (HV.out _ hb0)
  by_cases h3 : tag < 0 ∨ 1048576 < tag
  · have HV : Hid (∀ w', Below w.heap.size w w' → RNewV n self tag w (.returned (.tuple #[.agg #[.slice none 0 0], .int .i64 50])) w') := fun w' hb => ⟨hb, by rw [if_neg h1, if_neg h2, if_pos h3]⟩
    have h10 : ¬ n < 1 := by omega
    have h11 : ¬ 100 < n := by omega
    have h12 : ¬ self < 0 := by omega
    have h13 : ¬ n ≤ self := by omega
    clear h1 h2
    rcases h3 with h3 | h3
    all_goals
      go_enter Tryz.func14, Tryz.ntmps14
      go_wp2
      exact retRt rfl rfl rfl rfl hr0 (HV.out _ hb0)
  obtain ⟨N, rfl⟩ : ∃ N : Nat, n = (N : Int) := ⟨n.toNat, by omega⟩
  obtain ⟨s, rfl⟩ : ∃ s : Nat, self = (s : Int) := ⟨self.toNat, by omega⟩
  have HV : Hid (∀ w' ad cap, Below w.heap.size w w' → RdN w' ad (bk0 N s tag) → N ≤ cap → (∀ a, ad = some a → w.heap.size ≤ a.block ∧ ∃ cur, w'.heap[a.block]? = some (.cells cur 61 (0, 0))) → RNewV (N : Int) (s : Int) tag w (.returned (.tuple #[.agg #[.slice ad N cap], .int .i64 0])) w') := fun w' ad cap hb hr hc ha => ⟨hb, by rw [if_neg h1, if_neg h2, if_neg h3]; exact ⟨ad, cap, rfl, by simpa using hr, by simpa using hc, ha⟩⟩
  have h10 : ¬ (N : Int) < 1 := by omega
  have h11 : ¬ 100 < (N : Int) := by omega
  have h12 : ¬ (s : Int) < 0 := by omega
  have h13 : ¬ (N : Int) ≤ (s : Int) := by omega
  have h14 : ¬ tag < 0 := by omega
  have h15 : ¬ 1048576 < tag := by omega
  have hsN : s < N := by omega
  have hsi : (s : Int) < (N : Int) := by omega
  have hN : N ≤ 100 := by omega
  clear h1 h2 h3
  obtain ⟨ic, hic, hz0, hz1, hz2⟩ := info_partsN
  have hfr := fun (k : Nat) (W : World) => rFresh_any (k : Int) W
  unfold nt at hfr
  go_enter Tryz.func14, Tryz.ntmps14
  go_wp2
  go_loopw [8, 9] (fun c i wz => ∃ (k : Nat), i = .int .i64 k ∧ k ≤ N ∧ wz.ownsRow (w.heap.size + 1) 61 3 c k (fl (frs k)) ∧ RB wz w.heap.size (.slice none 0 0) ∧ Below w.heap.size w wz) (fun _ i _ => N - vnatR i)
  case atStart => exact ⟨0, rfl, Nat.zero_le _, World.ownsRow_nil _ _ _ _, hr0, hb0⟩
  case round =>
    obtain ⟨k, rfl, hk, hrow, hrb, hbw⟩ := hrel
    have hlw := lt_at hrb
    by_cases hkl : k < N
    · have hki : (k : Int) < (N : Int) := by omega
      have hf := hfr k wr
      go_wp2_with (first | (go_at_call 78; (with_reducible refine hf.mono ?_); rintro e u1 ⟨rfl, hb1⟩; have hrow1 := row_below hrow hb1; have hsz1 := hb1.size) | (at_builtin; refine wpList_append_own _ rfl _ _ 26 rfl (w.heap.size + 1) 61 ic _ 3 24 Tryz.underlying26 hic hz0 hz1 hz2 rfl (by decide) _ _ _ rfl (hrow1.alloc _) ⟨u1.heap.size, 0, none⟩ 1 1 [_, _, _] rfl rfl (rowN _ #[_, _, _] _) (by simp [Value.oneCell']) (by unfold maxLen; omega) (by omega) (by simp; omega) ?_; intro v' w2 hown' hgrow _))
      go_roundw
      case rel =>
        have hbu := bel2 hbw hb1
        refine ⟨k + 1, by simp, by omega, ?_, ?_, (hbu.alloc hbu.size _).grown hgrow (Nat.le_trans hbu.size (by simp)) (fun q e => by have := own_block hrow1 q e; omega)⟩
        · rw [frs_succ, fl_append]; exact hown'
        · exact (hgrow.block _ (by simp; omega) (fun e => by have := own_block hrow1 _ e.symm; omega)).trans (old_at (hrb.carry hb1))
      case measure => simp [vnatR]; omega
    · have hkk : k = N := by omega
      subst hkk
      rcases own_form hrow with ⟨_, e⟩ | ⟨g, cap, rfl, hg0, hg1, hcp⟩
      · omega
      obtain ⟨_, hcap, cur, hcur⟩ := own_block2 hrow
      have hnt := nts_own hrow (frs_len k).symm
      have hx : (frs k)[s]? = some ((s : Int), 0, 1) := frs_get hsN
      obtain ⟨e0, e1, e2⟩ := hnt s _ hx
      rw [Nat.zero_add] at e0 e1 e2
      have z1 := thaw_at hcur (s * 3 + 1)
      have hgl := lt_at hcur
      have HNT : Hid (NtsAt wr g 0 (frs k)) := hnt
      have HRB : Hid (RB wr w.heap.size (.slice none 0 0)) := hrb
      have r0 := hrb.cell
      have r1 := hrb.thaw
      clear hnt hrow hrb
      go_wp2
      have hne : w.heap.size ≠ g := by omega
      refine retRt (x := .int .i64 0) rfl rfl rfl rfl ((HRB.out.other hne).set _) (HV.out _ _ cap ((hbw.setCell (show w.heap.size ≤ g by omega) _).setCell (Nat.le_refl _) _) ?_ hcap (fun a ha => by obtain rfl := Option.some.inj ha; exact ⟨by simp only; omega, ⟨_, (Below.heap_setCell _ _ _ _ (Ne.symm hne)).trans (heap_setCell_same _ _ _ _ _ _ hcur)⟩⟩))
      intro _
      exact ⟨g, 0, rfl, by simpa using hgl, ((HNT.out.put1 hcur hx tag).aside (Ne.symm hne))⟩
end Go.Proofs.YtddblfffjhoiaabGreat
namespace Go.Proofs.YtddblfffjhoiaabGreat
open Go.RowKit Go.Shelf Go.Lib

theorem bi_lenN (t : TypeId) (bs : Array Bool) (a : Option Addr) (n c : Nat) (w : World) : (builtin .len #[26] t bs #[.slice a n c]).run Tryz.prog w = .ok (.value (.int .i64 (n : Int))) w := by
  show ((do pure (.value (← Builtin.len_ #[26] t #[.slice a n c]))) : Sem Next).run Tryz.prog w = _
  go_simp
set_option maxHeartbeats 4000000 in
set_option maxRecDepth 100000 in
theorem rCopy_any {w : World} (ad : Option Addr) (n cap : Nat) (L : List N3) (h : RdN w ad L) (hn : L.length = n) (h0 : 0 < n) (h1 : n ≤ 100) : Calls Tryz.prog 84 #[.agg #[.slice ad n cap]] w fun e w' => ∃ g cap', e = .returned (.agg #[.slice (some ⟨g, 0, none⟩) n cap']) ∧ w'.ownsRow w.heap.size 61 3 (.slice (some ⟨g, 0, none⟩) n cap') n (fl L) ∧ Below w.heap.size w w' := by
  obtain ⟨ic, hic, hz0, hz1, hz2⟩ := info_partsN
  obtain ⟨b, off, rfl, hb, hat⟩ := h (fun e => by rw [e] at hn; simp at hn; omega)
  have hr0 : RB ((w.alloc (.cells #[.slice (some ⟨b, off, none⟩) n cap] 29)).alloc (.cells #[.slice none 0 0] 29)) (w.heap.size + 1) (.slice none 0 0) := new_at (by simp)
  have hbw := al2 w (.cells #[.slice (some ⟨b, off, none⟩) n cap] 29) (.cells #[.slice none 0 0] 29)
  have hsrc : ∀ j u, (fl L)[j]? = some u → ((w.alloc (.cells #[.slice (some ⟨b, off, none⟩) n cap] 29)).alloc (.cells #[.slice none 0 0] 29)).cell? ((⟨b, off, none⟩ : Addr).add j) = some u := nts_src (NtsAt.carry hat hb hbw)
  have hfl : (fl L).length = n * 3 := by rw [fl_len, hn]
  have hnil := World.ownsRow_nil ((w.alloc (.cells #[.slice (some ⟨b, off, none⟩) n cap] 29)).alloc (.cells #[.slice none 0 0] 29)) (w.heap.size + 2) 61 3
  have HFO : Hid (∀ u ∈ fl L, u.oneCell' = true) := fl_one L
  clear h hat hn
  generalize fl L = X at *
  go_enter Tryz.func84, Tryz.ntmps84
  go_wp2_with (at_builtin; refine wpList_append_own _ rfl _ _ 26 rfl (w.heap.size + 2) 61 ic _ 3 24 Tryz.underlying26 hic hz0 hz1 hz2 rfl (by decide) _ 0 [] rfl hnil ⟨b, off, none⟩ n cap X rfl hfl hsrc HFO.out (by unfold maxLen; omega) (by omega) (by simp) ?_; intro v u ho0 hgu0 _; have hgu : World.grownBy _ u none := hgu0; have ho : u.ownsRow (w.heap.size + 2) 61 3 v n X := (by simpa using ho0); obtain ⟨m, rfl⟩ : ∃ m, n = m + 1 := ⟨n - 1, by omega⟩; obtain ⟨g, cp, rfl⟩ := ownsRow_succ ho; have hrb : RB u (w.heap.size + 1) (.slice none 0 0) := (hgu.block _ (by simp) (by simp)).trans hr0; have r0 := hrb.cell; have r1 := hrb.thaw; have HRB : Hid (RB u (w.heap.size + 1) (.slice none 0 0)) := hrb; clear hrb ho0)
  have hg0 := (own_block2 ho).1
  refine retR rfl rfl rfl (HRB.out.set _) ⟨g, cp, rfl, ?_, ?_⟩
  · exact ownsRow_base (ownsRow_set ho (fun q hq => by cases hq; simp only; omega) _) (by omega)
  · exact (hbw.grown hgu (by simp; omega) (fun k e => by cases e)).setCell (by simp) _
structure RM1 (w : World) (ad : Option Addr) (n cap : Nat) (W : World) : Prop where
  b0 : RB W w.heap.size (.slice ad n cap)
  b1 : RB W (w.heap.size + 1) (.slice none 0 0)
  b2 : Holds4 W (w.heap.size + 2) (fun _ => 0)
  below : Below w.heap.size w W
theorem RM1.carry {w W V : World} {ad : Option Addr} {n cap : Nat} (h : RM1 w ad n cap W) (hb : Below W.heap.size W V) : RM1 w ad n cap V := ⟨h.b0.carry hb, h.b1.carry hb, h.b2.carry hb, bel2 h.below hb⟩
structure RM2 (w : World) (bs bc gc n capc : Nat) (s : List N3 × Nat) (W : World) : Prop where
  b1 : RB W (w.heap.size + 1) (.slice none 0 0)
  b2 : Holds4 W (w.heap.size + 2) (fun _ => 0)
  bk : RB W bc (.slice (some ⟨gc, 0, none⟩) n capc)
  row : ∃ cur, W.heap[gc]? = some (.cells cur 61 (0, 0))
  nts : NtsAt W gc 0 s.1
  set : Holds4 W bs (wd s.2)
  below : Below w.heap.size w W
theorem RM2.carry {w W V : World} {bs bc gc n capc : Nat} {s : List N3 × Nat} (h : RM2 w bs bc gc n capc s W) (hb : Below W.heap.size W V) : RM2 w bs bc gc n capc s V := by
  obtain ⟨cur, hc⟩ := h.row
  exact ⟨h.b1.carry hb, h.b2.carry hb, h.bk.carry hb, ⟨cur, (hb.block _ (lt_at hc)).trans hc⟩, h.nts.carry (lt_at hc) hb, h.set.carry hb, bel2 h.below hb⟩
/-- The blocks are others. -/
structure Sep6 (w : World) (bs bc gc : Nat) : Prop where
  s1 : w.heap.size + 2 < bs
  s2 : w.heap.size + 2 < bc
  s3 : w.heap.size + 2 < gc
  s4 : bs ≠ bc
  s5 : bs ≠ gc
  s6 : bc ≠ gc
theorem w3o_other {W : World} {B off k : Nat} (h : k ≠ B) (a b c : Int) : (W3o W B off a b c).heap[k]? = W.heap[k]? := by
  unfold W3o
  rw [Below.heap_setCell _ _ _ _ h, Below.heap_setCell _ _ _ _ h, Below.heap_setCell _ _ _ _ h]
theorem RM2.put {w W : World} {bs bc gc n capc : Nat} {s : List N3 × Nat} (h : RM2 w bs bc gc n capc s W) (hs : Sep6 w bs bc gc) (i : Nat) (hi : i < s.1.length) (o t k : Int) : RM2 w bs bc gc n capc (s.1.set i (o, t, k), s.2) (W3o W gc (i * 3) o t k) := by
  obtain ⟨cur, hc⟩ := h.row
  have h0 := heap_setCell_same _ _ (i * 3) _ _ (.int .i64 o) hc
  have h1 := heap_setCell_same _ _ (i * 3 + 1) _ _ (.int .i64 t) h0
  have h2 := heap_setCell_same _ _ (i * 3 + 2) _ _ (.int .i64 k) h1
  obtain ⟨s1, s2, s3, s4, s5, s6⟩ := hs
  exact ⟨(w3o_other (by omega) _ _ _).trans h.b1, (w3o_other (by omega) _ _ _).trans h.b2, (w3o_other s6 _ _ _).trans h.bk, ⟨_, h2⟩, h.nts.put hc i hi o t k, (w3o_other s5 _ _ _).trans h.set, below3o h.below (by omega) _ _ _ _⟩
theorem NtsAt.aside4 {W : World} {g b M off : Nat} {l : List N3} (h : NtsAt W g off l) (hne : g ≠ b) : NtsAt (set4 W b M) g off l := by
  unfold set4
  exact (((h.aside hne).aside hne).aside hne).aside hne
theorem set4_other {W : World} {b k M : Nat} (h : k ≠ b) : (set4 W b M).heap[k]? = W.heap[k]? := by
  unfold set4
  rw [Below.heap_setCell _ _ _ _ h, Below.heap_setCell _ _ _ _ h, Below.heap_setCell _ _ _ _ h, Below.heap_setCell _ _ _ _ h]
theorem RM2.setS {w W : World} {bs bc gc n capc : Nat} {s : List N3 × Nat} (h : RM2 w bs bc gc n capc s W) (hs : Sep6 w bs bc gc) (M : Nat) : RM2 w bs bc gc n capc (s.1, M) (set4 W bs M) := by
  obtain ⟨cur, hc⟩ := h.row
  obtain ⟨s1, s2, s3, s4, s5, s6⟩ := hs
  exact ⟨(set4_other (by omega)).trans h.b1, (set4_other (by omega)).trans h.b2, (set4_other s4.symm).trans h.bk, ⟨_, (set4_other s5.symm).trans hc⟩, h.nts.aside4 s5.symm, fin4 h.set M, below4 h.below (by omega) M⟩
theorem store_row {W : World} {g : Nat} {cur : Array Value} {l : List N3} (h : NtsAt W g 0 l) (hg : W.heap[g]? = some (.cells cur 61 (0, 0))) (i : Nat) (hi : i < l.length) (o t k : Int) : (Instr.storeAt 61 (.pointer (some ⟨g, 0 + i * 3, none⟩)) (nt o t k)).run Tryz.prog W = .ok () (W3o W g (i * 3) o t k) := by
  obtain ⟨x, hx⟩ : ∃ x, l[i]? = some x := ⟨_, List.getElem?_eq_getElem hi⟩
  obtain ⟨c0, c1, c2⟩ := h i x hx
  rw [Nat.zero_add] at *
  have z0 := thaw_at hg (i * 3)
  have z1 := thaw_at hg (i * 3 + 1)
  have z2 := thaw_at hg (i * 3 + 2)
  unfold nt W3o
  go_simp
theorem store_rb {W : World} {b n c : Nat} {v : Value} {ad : Option Addr} (h : RB W b v) : (Instr.storeAt 29 (.pointer (some ⟨b, 0, none⟩)) (.agg #[.slice ad n c])).run Tryz.prog W = .ok () (W.setCell ⟨b, 0, none⟩ (.slice ad n c)) := by
  have c0 := h.cell
  have z0 := h.thaw
  go_simp
theorem store_set {W : World} {b M : Nat} {c : Nat → Nat} (h : Holds4 W b c) : (Instr.storeAt 57 (.pointer (some ⟨b, 0, none⟩)) (sv M)).run Tryz.prog W = .ok () (set4 W b M) := by
  obtain ⟨y0, y1, y2, y3, z0, z1, z2, z3⟩ := h.facts
  unfold sv set4
  go_simp
structure RM3 (w : World) (bs bc gc n capc : Nat) (s : List N3 × Nat) (x y : Bool) (W : World) : Prop where
  b1 : RB W (w.heap.size + 1) (if x = true then .slice (some ⟨gc, 0, none⟩) n capc else .slice none 0 0)
  b2 : Holds4 W (w.heap.size + 2) (if y = true then wd s.2 else fun _ => 0)
  bk : RB W bc (.slice (some ⟨gc, 0, none⟩) n capc)
  row : ∃ cur, W.heap[gc]? = some (.cells cur 61 (0, 0))
  nts : NtsAt W gc 0 s.1
  set : Holds4 W bs (wd s.2)
  below : Below w.heap.size w W
theorem RM3.st1 {w W : World} {bs bc gc n capc : Nat} {s : List N3 × Nat} {x y : Bool} (h : RM3 w bs bc gc n capc s x y W) (hs : Sep6 w bs bc gc) : RM3 w bs bc gc n capc s true y (W.setCell ⟨w.heap.size + 1, 0, none⟩ (.slice (some ⟨gc, 0, none⟩) n capc)) := by
  obtain ⟨s1, s2, s3, s4, s5, s6⟩ := hs
  exact ⟨by simpa using h.b1.set (.slice (some ⟨gc, 0, none⟩) n capc), (Below.heap_setCell _ _ _ _ (by simp)).trans h.b2, h.bk.other (by omega), (by obtain ⟨cur, hc⟩ := h.row; exact ⟨cur, (Below.heap_setCell _ _ _ _ (by simp only; omega)).trans hc⟩), h.nts.aside (by omega), (Below.heap_setCell _ _ _ _ (by simp only; omega)).trans h.set, h.below.setCell (by simp) _⟩
theorem RM3.st2 {w W : World} {bs bc gc n capc : Nat} {s : List N3 × Nat} {x y : Bool} (h : RM3 w bs bc gc n capc s x y W) (hs : Sep6 w bs bc gc) : RM3 w bs bc gc n capc s x true (set4 W (w.heap.size + 2) s.2) := by
  obtain ⟨s1, s2, s3, s4, s5, s6⟩ := hs
  exact ⟨(set4_other (by omega)).trans h.b1, by simpa using fin4 h.b2 s.2, (set4_other (by omega)).trans h.bk, (by obtain ⟨cur, hc⟩ := h.row; exact ⟨cur, (set4_other (by omega)).trans hc⟩), h.nts.aside4 (by omega), (set4_other (by omega)).trans h.set, below4 h.below (by omega) _⟩
theorem Sep6.len {l m : List N3} (k : Nat) : (stt l m k).1.length = l.length := stt_len l m k
set_option maxHeartbeats 8000000 in
set_option maxRecDepth 100000 in
theorem rMerge_any {w : World} (ad : Option Addr) (n cap : Nat) (L : List N3) (hL : RdN w ad L) (hn : L.length = n) (h0 : 0 < n) (h1 : n ≤ 100) (hcap : n ≤ cap) (ad2 : Option Addr) (cap2 : Nat) (m : List N3) (hm : RdN w ad2 m) (hl : m.length ≤ 6000000000000) : Calls Tryz.prog 16 #[.agg #[.slice ad n cap], .slice ad2 m.length cap2] w fun e w' => ∃ ad' cap', e = .returned (.tuple #[.agg #[.slice ad' n cap'], sv (mrs L m), .int .i64 (if m.all (vlx L.length) = true then 0 else 50)]) ∧ RdN w' ad' (mrg L m) ∧ n ≤ cap' ∧ (ad' = ad ∨ ∀ a, ad' = some a → w.heap.size ≤ a.block ∧ ∃ cur, w'.heap[a.block]? = some (.cells cur 61 (0, 0))) ∧ Below w.heap.size w w' := by
  have hmx : Tryz.prog.follows .mixedOrders = true := by kernel_rfl
  obtain ⟨N, hN⟩ : ∃ N, m.length = N := ⟨_, rfl⟩
  have HN : Hid (m.length = N) := hN
  rw [hN] at hl ⊢
  clear hN
  have HM : Hid (RdN w ad2 m) := hm
  have HL : Hid (RdN w ad L) := hL
  have HLN : Hid (L.length = n) := hn
  obtain ⟨E, hE⟩ : ∃ E : Int, (if m.all (vlx L.length) = true then (0 : Int) else 50) = E := ⟨_, rfl⟩
  obtain ⟨S, hS⟩ : ∃ N, mrs L m = N := ⟨_, rfl⟩
  obtain ⟨M, hMM⟩ : ∃ M, mrg L m = M := ⟨_, rfl⟩
  rw [hE, hS, hMM]
  have HE : Hid ((if m.all (vlx L.length) = true then (0 : Int) else 50) = E) := hE
  have HNN : Hid (mrs L m = S) := hS
  have HMM : Hid (mrg L m = M) := hMM
  clear hE hS hMM hm hL hn
  have hj0 : RM1 w ad n cap (((w.alloc (.cells #[.slice ad n cap] 29)).alloc (.cells #[.slice none 0 0] 29)).alloc (.cells #[.int .u32 0, .int .u32 0, .int .u32 0, .int .u32 0] 57)) := ⟨old_at (old_at (new_at rfl)), old_at (new_at (by simp)), new_at (by simp), al3 _ _ _ _⟩
  go_enter Tryz.func16, Tryz.ntmps16
  go_wp2
  go_loopw [7] (fun i wz => ∃ (k : Nat), i = .int .i64 k ∧ k ≤ N ∧ Hid ((m.take k).all (vlx L.length) = true) ∧ RM1 w ad n cap wz) (fun i _ => N - vnatR i)
  case atStart => exact ⟨0, rfl, Nat.zero_le _, rfl, hj0⟩
  case round =>
    obtain ⟨k, rfl, hk, HK, hj⟩ := hrel
    clear hj0
    by_cases hkl : k < N
    · have hkl1 : k < m.length := by rw [HN.out]; exact hkl
      have hki : (k : Int) < (N : Int) := by omega
      obtain ⟨⟨o, t, q⟩, hx⟩ : ∃ x, m[k]? = some x := ⟨_, List.getElem?_eq_getElem hkl1⟩
      obtain ⟨b, off, e1, hbl, hat⟩ := HM.out (fun e => by rw [e] at hkl1; simp at hkl1)
      subst e1
      have HAT : Hid (NtsAt w b off m) := hat
      have HX : Hid (m[k]? = some (o, t, q)) := hx
      have hva := rValid_any (n : Int) o t q
      obtain ⟨B, hB⟩ : ∃ B, vl (n : Int) o t q = B := ⟨_, rfl⟩
      rw [hB] at hva
      have HB : Hid (vlx L.length (o, t, q) = B) := by show vl (L.length : Int) o t q = B; rw [HLN.out]; exact hB
      clear hx hat hkl1 hB
      go_wp2
      rename_i Q0 K0 hK
      refine wp_region_any hmx ?_
      refine wpAny_pure (fun i__ => ([(.pointer (some ⟨w.heap.size, 0, none⟩)), (.slice ad n cap), (.int .i64 (n : Int)), (.slice (some ⟨b, off, none⟩) N cap2), (.int .i64 (k : Int)), (.pointer (some ⟨b, off + k * 3, none⟩)), (nt o t q), (.bool B), (.bool (!B))] : List Value).getD i__ undef) (fun V => RM1 w ad n cap V) (by kernel_rfl) (hj.carry (Below.refl _ _).drew) ?_ ?_
      · refine (stepsFrom_cons ?_ (stepsFrom_cons ?_ (stepsFrom_cons ?_ (stepsFrom_cons ?_ (stepsFrom_cons ?_ (stepsFrom_cons ?_ (stepsFrom_cons ?_ (stepsFrom_cons ?_ (stepsFrom_cons ?_ trivial)))))))))
        · exact step_fieldAddr rfl trivial _ _ _ _ rfl rfl (fun w hw => field_rb w _)
        · exact step_load rfl trivial _ _ _ rfl rfl (fun w hw => load_rb hw.b0)
        · exact step_bi rfl trivial _ _ _ [(.slice ad n cap)] rfl (by kernel_rfl) (fun cs w hw => bi_lenN _ cs ad n cap w)
        · exact step_move rfl trivial _ rfl (by kernel_rfl)
        · exact step_move rfl trivial _ rfl (by kernel_rfl)
        · exact step_indexAddr rfl trivial _ _ _ _ _ rfl rfl rfl (fun w hw => idx_n b off _ _ k hkl w)
        · exact step_load rfl trivial _ _ _ rfl rfl (fun w hw => load_at (HAT.out.carry hbl hw.below) HX.out)
        · exact step_call rfl trivial 83 _ _ [(.int .i64 (n : Int)), (nt o t q)] rfl (by kernel_rfl) (enters_of Tryz.func83 (by kernel_rfl) rfl) (fun w hw => (hva w).mono (by rintro e w' ⟨rfl, hb⟩; exact ⟨rfl, hw.carry hb⟩))
        · exact step_unOp rfl trivial _ _ _ _ rfl rfl (fun w hw => un_not B w)
      intro W hW
      first | refine hK _ _ ?_ | refine (‹∀ (a : Act) (w : World), Code.wp Tryz.prog _ _ a w → _›) _ _ ?_
      simp only [finL, List.getD_cons_zero, List.getD_cons_succ, Nat.zero_add, Nat.reduceAdd, List.setIfInBounds_toArray, List.set_cons_zero, List.set_cons_succ]
      clear hK hva
      have hj2 := hW
      clear hW hj
      cases B with
      | false =>
        have HF : Hid (m.all (vlx L.length) = false) := by
          show m.all (vlx L.length) = false
          have h1 := HB.out
          by_cases q : m.all (vlx L.length) = true
          · exact absurd (List.all_eq_true.1 q _ (List.mem_of_getElem? HX.out)) (by rw [h1]; decide)
          · simpa using q
        have HR : Hid (Holds4 W (w.heap.size + 2) (fun _ => 0)) := hj2.b2
        obtain ⟨y0, y1, y2, y3, z0, z1, z2, z3⟩ := HR.out.facts
        have r0 := hj2.b0.cell
        have r1 := hj2.b1.cell
        have r2 := hj2.b1.thaw
        have HB1 : Hid (RB W (w.heap.size + 1) (.slice none 0 0)) := hj2.b1
        have hbW := hj2.below
        have HADL : Hid (RdN W ad L) := HL.out.carry hbW
        have hlt := lt_at hj2.b2
        clear hj2
        go_wp2
        have hbf : Below w.heap.size w (set4 (W.setCell ⟨w.heap.size + 1, 0, none⟩ (.slice ad n cap)) (w.heap.size + 1 + 1) 0) := below4 (hbW.setCell (by simp) _) (by omega) 0
        have hq1 : RB (set4 (W.setCell ⟨w.heap.size + 1, 0, none⟩ (.slice ad n cap)) (w.heap.size + 1 + 1) 0) (w.heap.size + 1) (.slice ad n cap) := (set4_other (by omega)).trans (HB1.out.set _)
        have hq2 : Holds4 (set4 (W.setCell ⟨w.heap.size + 1, 0, none⟩ (.slice ad n cap)) (w.heap.size + 1 + 1) 0) (w.heap.size + 1 + 1) (wd 0) := fin4 (c := fun _ => 0) ((Below.heap_setCell _ _ _ _ (by simp)).trans HR.out) 0
        refine retRst (M := 0) (x := .int .i64 50) rfl rfl rfl rfl rfl hq1 hq2 ?_
        obtain rfl : (50 : Int) = E := by rw [← HE.out, if_neg (by rw [HF.out]; decide)]
        obtain rfl : 0 = S := by rw [← HNN.out]; unfold mrs; rw [if_neg (by rw [HF.out]; decide)]
        obtain rfl : L = M := by rw [← HMM.out]; unfold mrg; rw [if_neg (by rw [HF.out]; decide)]
        exact ⟨ad, cap, rfl, HL.out.carry hbf, hcap, .inl rfl, hbf⟩
      | true =>
        have HK1 : Hid ((m.take (k + 1)).all (vlx L.length) = true) := by
          show (m.take (k + 1)).all (vlx L.length) = true
          rw [List.take_add_one, HX.out, List.all_append, HK.out]
          simpa using HB.out
        go_wp2
        go_roundw
        case rel => exact ⟨k + 1, by simp, by omega, HK1, hj2⟩
        case measure => simp [vnatR]; omega
    · have hkk : k = N := by omega
      subst hkk
      have HA : Hid (m.all (vlx L.length) = true) := by
        have := HK.out
        rwa [List.take_of_length_le (by rw [HN.out]; exact Nat.le_refl _)] at this
      clear HK
      have HLW : Hid (RdN (wr.alloc (.cells #[.int .u32 0, .int .u32 0, .int .u32 0, .int .u32 0] 57)) ad L) := HL.out.carry (hj.below.alloc hj.below.size _)
      have k1 := rCopy_any ad n cap L HLW.out HLN.out h0 h1
      have r0 := hj.b0.cell
      have hlw := lt_at hj.b2
      have hlw0 := lt_at hj.b0
      have HJ : Hid (RM1 w ad n cap wr) := hj
      clear hj
      go_wp2_with (go_at_call 84; (with_reducible refine k1.mono ?_); rintro e v1 ⟨gc, capc, rfl, hown, hb1⟩)
      obtain ⟨hgb, hcc, cur, hcur⟩ := own_block2 hown
      have hgl := lt_at hcur
      have hsz1 := hb1.size
      simp only [World.size_alloc] at hgb hsz1
      have hj1 := (HJ.out.carry (al1 wr (.cells #[.int .u32 0, .int .u32 0, .int .u32 0, .int .u32 0] 57))).carry hb1
      have hj2 := hj1.carry (al1 v1 (.cells #[.slice (some ⟨gc, 0, none⟩) n capc] 29))
      have hset : Holds4 v1 wr.heap.size (wd 0) := Holds4.congr (c := fun _ => 0) ((hb1.block _ (by simp)).trans (new_at rfl)) (fun j _ => (wd_zero j).symm)
      have hR2 : RM2 w wr.heap.size v1.heap.size gc n capc (stt L m 0) (v1.alloc (.cells #[.slice (some ⟨gc, 0, none⟩) n capc] 29)) := ⟨hj2.b1, hj2.b2, new_at rfl, ⟨cur, old_at hcur⟩, NtsAt.carry (nts_own hown HLN.out.symm) hgl (al1 _ _), old_at hset, hj2.below⟩
      have hsep : Sep6 w wr.heap.size v1.heap.size gc := ⟨by omega, by omega, by omega, by omega, by omega, by omega⟩
      obtain ⟨bs, hbs⟩ : ∃ bs, wr.heap.size = bs := ⟨_, rfl⟩
      obtain ⟨bc, hbc⟩ : ∃ bc, v1.heap.size = bc := ⟨_, rfl⟩
      rw [hbs, hbc] at hR2 hsep ⊢
      clear hj1 hj2 hset hown hb1 k1 r0 hcur hgb hsz1 hgl hlw HJ
      go_loopw [10] (fun i wz => ∃ (j : Nat), i = .int .i64 j ∧ j ≤ k ∧ RM2 w bs bc gc n capc (stt L m j) wz) (fun i _ => k - vnatR i)
      case atStart => exact ⟨0, rfl, Nat.zero_le _, hR2⟩
      case round =>
        obtain ⟨j, rfl, hjk, hj⟩ := hrel
        clear hR2
        by_cases hjl : j < k
        · have hjl1 : j < m.length := by rw [HN.out]; exact hjl
          have hji : (j : Int) < (k : Int) := by omega
          obtain ⟨⟨o, t, q⟩, hx⟩ : ∃ x, m[j]? = some x := ⟨_, List.getElem?_eq_getElem hjl1⟩
          have hv := List.all_eq_true.1 HA.out _ (List.mem_of_getElem? hx)
          obtain ⟨_, h100, hp, hq1, _⟩ := vlx_iff.1 hv
          obtain ⟨i, rfl⟩ : ∃ i : Nat, o = (i : Int) := ⟨o.toNat, by simpa using (Int.toNat_of_nonneg hp).symm⟩
          have hi : i < n := by have := HLN.out; simp at hq1; omega
          have hil : i < (stt L m j).1.length := by rw [stt_len, HLN.out]; exact hi
          obtain ⟨⟨o', t', q'⟩, hy⟩ : ∃ y, (stt L m j).1[i]? = some y := ⟨_, List.getElem?_eq_getElem hil⟩
          obtain ⟨b, off, e1, hbl, hat⟩ := HM.out (fun e => by rw [e] at hjl1; simp at hjl1)
          subst e1
          have HAT : Hid (NtsAt w b off m) := hat
          have HX : Hid (m[j]? = some ((i : Int), t, q)) := hx
          have HY : Hid ((stt L m j).1[i]? = some (o', t', q')) := hy
          have hbat : bat (stt L m j).1 ((i : Int), t, q) = bt (i : Int) t q o' t' q' := by
            unfold bat
            simp only [Int.toNat_natCast, hy]
            rfl
          have HST : Hid (stt L m (j + 1) = if bt (i : Int) t q o' t' q' = true then ((stt L m j).1.set i ((i : Int), t, q), (stt L m j).2 ||| 2 ^ i) else stt L m j) := by
            show _ = _
            rw [stt_step hx]
            unfold bst rse
            rw [hbat, Int.toNat_natCast]
            by_cases hc : bt (i : Int) t q o' t' q' = true
            · rw [if_pos hc, if_pos hc, if_pos hc]
            · rw [if_neg hc, if_neg hc]
          have hbe := rBeats_any (i : Int) t q o' t' q'
          have hS100 := stt_lt HA.out j
          generalize stt L m j = s at hj hil HY HST hS100
          generalize bt (i : Int) t q o' t' q' = B at hbe HST
          clear hx hat hjl1 hv hp hq1 hy hbat
          go_wp2
          rename_i Q0 K0 hK
          refine wp_region_any hmx ?_
          refine wpAny_pure (fun i__ => ([(.slice (some ⟨b, off, none⟩) k cap2), (.int .i64 (j : Int)), (.pointer (some ⟨b, off + j * 3, none⟩)), (nt (i : Int) t q), (.pointer (some ⟨bc, 0, none⟩)), (.slice (some ⟨gc, 0, none⟩) n capc), (.slice (some ⟨b, off, none⟩) k cap2), (.int .i64 (j : Int)), (.pointer (some ⟨b, off + j * 3, none⟩)), (.pointer (some ⟨b, off + j * 3, none⟩)), (.int .i64 (i : Int)), (.pointer (some ⟨gc, 0 + i * 3, none⟩)), (nt o' t' q'), (.bool B)] : List Value).getD i__ undef) (fun V => RM2 w bs bc gc n capc s V) (by kernel_rfl) (hj.carry (Below.refl _ _).drew) ?_ ?_
          · refine (stepsFrom_cons ?_ (stepsFrom_cons ?_ (stepsFrom_cons ?_ (stepsFrom_cons ?_ (stepsFrom_cons ?_ (stepsFrom_cons ?_ (stepsFrom_cons ?_ (stepsFrom_cons ?_ (stepsFrom_cons ?_ (stepsFrom_cons ?_ (stepsFrom_cons ?_ (stepsFrom_cons ?_ (stepsFrom_cons ?_ (stepsFrom_cons ?_ trivial))))))))))))))
            · exact step_move rfl trivial _ rfl (by kernel_rfl)
            · exact step_move rfl trivial _ rfl (by kernel_rfl)
            · exact step_indexAddr rfl trivial _ _ _ _ _ rfl rfl rfl (fun w hw => idx_n b off _ _ j hjl w)
            · exact step_load rfl trivial _ _ _ rfl rfl (fun w hw => load_at (HAT.out.carry hbl hw.below) HX.out)
            · exact step_fieldAddr rfl trivial _ _ _ _ rfl rfl (fun w hw => field_rb w _)
            · exact step_load rfl trivial _ _ _ rfl rfl (fun w hw => load_rb hw.bk)
            · exact step_move rfl trivial _ rfl (by kernel_rfl)
            · exact step_move rfl trivial _ rfl (by kernel_rfl)
            · exact step_indexAddr rfl trivial _ _ _ _ _ rfl rfl rfl (fun w hw => idx_n b off _ _ j hjl w)
            · exact step_fieldAddr rfl trivial _ _ _ _ rfl rfl (fun w hw => field_at w _ _)
            · exact step_load rfl trivial _ _ _ rfl rfl (fun w hw => load_of (HAT.out.carry hbl hw.below) HX.out)
            · exact step_indexAddr rfl trivial _ _ _ _ _ rfl rfl rfl (fun w hw => idx_n gc 0 _ _ i hi w)
            · exact step_load rfl trivial _ _ _ rfl rfl (fun w hw => load_at hw.nts HY.out)
            · exact step_call rfl trivial 22 _ _ [(nt (i : Int) t q), (nt o' t' q')] rfl (by kernel_rfl) (enters_of Tryz.func22 (by kernel_rfl) rfl) (fun w hw => (hbe w).mono (by rintro e w' ⟨rfl, hb⟩; exact ⟨rfl, hw.carry hb⟩))
          intro W hW
          first | refine hK _ _ ?_ | refine (‹∀ (a : Act) (w : World), Code.wp Tryz.prog _ _ a w → _›) _ _ ?_
          simp only [finL, List.getD_cons_zero, List.getD_cons_succ, Nat.zero_add, Nat.reduceAdd, List.setIfInBounds_toArray, List.set_cons_zero, List.set_cons_succ]
          clear hK hbe hj
          have hj2 := hW
          clear hW
          cases B with
          | false =>
            have HS2 := HST.out
            rw [if_neg (by decide)] at HS2
            have HEnd : Hid (RM2 w bs bc gc n capc (stt L m (j + 1)) W) := by show RM2 _ _ _ _ _ _ _ _; rw [HS2]; exact hj2
            clear HS2
            go_wp2
            go_roundw
            case rel => exact ⟨j + 1, by simp, by omega, HEnd.out⟩
            case measure => simp [vnatR]; omega
          | true =>
            have HS2 := HST.out
            rw [if_pos rfl] at HS2
            have HS3 : Hid (stt L m (j + 1) = (s.1.set i ((i : Int), t, q), s.2 ||| 2 ^ i)) := HS2
            clear HS2 HST
            have hpu := rPut_any s.2 hS100 i (by omega)
            go_wp2
            refine wp_region_any hmx ?_
            obtain ⟨Wa, hWa⟩ : ∃ Wa, W = Wa := ⟨_, rfl⟩
            rw [hWa] at hj2 ⊢
            refine wpAny_last 12 (fun i__ => ([(.pointer (some ⟨bc, 0, none⟩)), (.slice (some ⟨gc, 0, none⟩) n capc), (.slice (some ⟨b, off, none⟩) k cap2), (.int .i64 (j : Int)), (.pointer (some ⟨b, off + j * 3, none⟩)), (.pointer (some ⟨b, off + j * 3, none⟩)), (.int .i64 (i : Int)), (.slice (some ⟨b, off, none⟩) k cap2), (.int .i64 (j : Int)), (.pointer (some ⟨b, off + j * 3, none⟩)), (nt (i : Int) t q), (.pointer (some ⟨gc, 0 + i * 3, none⟩)), undef] : List Value).getD i__ undef) (fun V => RM2 w bs bc gc n capc s V) (fun V => RM2 w bs bc gc n capc (s.1.set i ((i : Int), t, q), s.2) V) rfl (by kernel_rfl) (by kernel_rfl) (hj2.carry (Below.refl _ _).drew) ?_ ?_  ?_
            · refine (stepsFrom_cons ?_ (stepsFrom_cons ?_ (stepsFrom_cons ?_ (stepsFrom_cons ?_ (stepsFrom_cons ?_ (stepsFrom_cons ?_ (stepsFrom_cons ?_ (stepsFrom_cons ?_ (stepsFrom_cons ?_ (stepsFrom_cons ?_ (stepsFrom_cons ?_ (stepsFrom_cons ?_ trivial))))))))))))
              · exact step_fieldAddr rfl trivial _ _ _ _ rfl rfl (fun w hw => field_rb w _)
              · exact step_load rfl trivial _ _ _ rfl rfl (fun w hw => load_rb hw.bk)
              · exact step_move rfl trivial _ rfl (by kernel_rfl)
              · exact step_move rfl trivial _ rfl (by kernel_rfl)
              · exact step_indexAddr rfl trivial _ _ _ _ _ rfl rfl rfl (fun w hw => idx_n b off _ _ j hjl w)
              · exact step_fieldAddr rfl trivial _ _ _ _ rfl rfl (fun w hw => field_at w _ _)
              · exact step_load rfl trivial _ _ _ rfl rfl (fun w hw => load_of (HAT.out.carry hbl hw.below) HX.out)
              · exact step_move rfl trivial _ rfl (by kernel_rfl)
              · exact step_move rfl trivial _ rfl (by kernel_rfl)
              · exact step_indexAddr rfl trivial _ _ _ _ _ rfl rfl rfl (fun w hw => idx_n b off _ _ j hjl w)
              · exact step_load rfl trivial _ _ _ rfl rfl (fun w hw => load_at (HAT.out.carry hbl hw.below) HX.out)
              · exact step_indexAddr rfl trivial _ _ _ _ _ rfl rfl rfl (fun w hw => idx_n gc 0 _ _ i hi w)
            · intro o ho
              cases ho
              exact step_store rfl trivial rfl _ _ _ _ _ rfl rfl rfl (fun w hw => by obtain ⟨cur, hc⟩ := hw.row; exact ⟨_, store_row hw.nts hc i hil _ _ _, hw.put hsep i hil _ _ _⟩)
            intro W hW
            first | refine hK _ _ ?_ | refine (‹∀ (a : Act) (w : World), Code.wp Tryz.prog _ _ a w → _›) _ _ ?_
            simp only [finL, List.getD_cons_zero, List.getD_cons_succ, Nat.zero_add, Nat.reduceAdd, List.setIfInBounds_toArray, List.set_cons_zero, List.set_cons_succ]
            have hj3 := hW
            clear hW hj2 hWa
            go_wp2
            refine wp_region_any hmx ?_
            obtain ⟨Wb, hWb⟩ : ∃ Wb, W = Wb := ⟨_, rfl⟩
            rw [hWb] at hj3 ⊢
            refine wpAny_last 7 (fun i__ => ([(sv s.2), (.slice (some ⟨b, off, none⟩) k cap2), (.int .i64 (j : Int)), (.pointer (some ⟨b, off + j * 3, none⟩)), (.pointer (some ⟨b, off + j * 3, none⟩)), (.int .i64 (i : Int)), (sv (s.2 ||| 2 ^ i)), undef] : List Value).getD i__ undef) (fun V => RM2 w bs bc gc n capc (s.1.set i ((i : Int), t, q), s.2) V) (fun V => RM2 w bs bc gc n capc (s.1.set i ((i : Int), t, q), s.2 ||| 2 ^ i) V) rfl (by kernel_rfl) (by kernel_rfl) (hj3.carry (Below.refl _ _).drew) ?_ ?_  ?_
            · refine (stepsFrom_cons ?_ (stepsFrom_cons ?_ (stepsFrom_cons ?_ (stepsFrom_cons ?_ (stepsFrom_cons ?_ (stepsFrom_cons ?_ (stepsFrom_cons ?_ trivial)))))))
              · exact step_load rfl trivial _ _ _ rfl rfl (fun w hw => whole4 w _ s.2 hw.set)
              · exact step_move rfl trivial _ rfl (by kernel_rfl)
              · exact step_move rfl trivial _ rfl (by kernel_rfl)
              · exact step_indexAddr rfl trivial _ _ _ _ _ rfl rfl rfl (fun w hw => idx_n b off _ _ j hjl w)
              · exact step_fieldAddr rfl trivial _ _ _ _ rfl rfl (fun w hw => field_at w _ _)
              · exact step_load rfl trivial _ _ _ rfl rfl (fun w hw => load_of (HAT.out.carry hbl hw.below) HX.out)
              · exact step_call rfl trivial 85 _ _ [(sv s.2), (.int .i64 (i : Int))] rfl (by kernel_rfl) (enters_of Tryz.func85 (by kernel_rfl) rfl) (fun w hw => (hpu w).mono (by rintro e w' ⟨rfl, hb⟩; exact ⟨rfl, hw.carry hb⟩))
            · intro o ho
              cases ho
              exact step_store rfl trivial rfl _ _ _ _ _ rfl rfl rfl (fun w hw => ⟨_, store_set hw.set, hw.setS hsep _⟩)
            intro W hW
            first | refine hK _ _ ?_ | refine (‹∀ (a : Act) (w : World), Code.wp Tryz.prog _ _ a w → _›) _ _ ?_
            simp only [finL, List.getD_cons_zero, List.getD_cons_succ, Nat.zero_add, Nat.reduceAdd, List.setIfInBounds_toArray, List.set_cons_zero, List.set_cons_succ]
            have HEnd : Hid (RM2 w bs bc gc n capc (stt L m (j + 1)) W) := by show RM2 _ _ _ _ _ _ _ _; rw [HS3.out]; exact hW
            clear hW hj3 hWb hpu
            go_wp2
            go_roundw
            case rel => exact ⟨j + 1, by simp, by omega, HEnd.out⟩
            case measure => simp [vnatR]; omega
        · have hkk : j = k := by omega
          subst hkk
          have e0 : stt L m j = m.foldl bst (L, 0) := by unfold stt; rw [List.take_of_length_le (by rw [HN.out]; exact Nat.le_refl _)]
          have HS0 : Hid ((stt L m j).2 = S) := by show _ = S; rw [← HNN.out]; unfold mrs; rw [if_pos HA.out, e0]
          have HM0 : Hid ((stt L m j).1 = M) := by show _ = M; rw [← HMM.out]; unfold mrg; rw [if_pos HA.out, e0, fold_bst]
          obtain rfl : (0 : Int) = E := by rw [← HE.out, if_pos HA.out]
          have h3 : RM3 w bs bc gc n capc (M, S) false false wr := by
            obtain ⟨cur, hc⟩ := hj.row
            have hset := hj.set
            have hnts := hj.nts
            rw [HS0.out] at hset
            rw [HM0.out] at hnts
            exact ⟨hj.b1, hj.b2, hj.bk, ⟨cur, hc⟩, hnts, hset, hj.below⟩
          clear hj e0
          go_wp2
          refine wp_region_any hmx ?_
          refine wpAny_tabG (G := (Unit)) (fun g i__ => ([(.agg #[.slice (some ⟨gc, 0, none⟩) n capc]), (sv S), undef, undef, (Go.Value.int Go.IntKind.i64 0)] : List Value).getD i__ undef) (fun _ d V => RM3 w bs bc gc n capc (M, S) (d 2) (d 3) V) (by kernel_rfl) (()) (show RM3 w bs bc gc n capc (M, S) false false _ from ⟨h3.b1, h3.b2, h3.bk, h3.row, h3.nts, h3.set, h3.below.drew⟩) ?step1 ?fin1
          case step1 =>
            intro i o ho
            have hi : i < 5 := getElem?_lt ho
            match i, hi, ho with
            | 0, _, ho =>
              cases ho
              refine stepG_of (fun g d hdep => ?_)
              exact step_load rfl trivial _ _ _ rfl rfl (fun w hw => load_rbw hw.bk)
            | 1, _, ho =>
              cases ho
              refine stepG_of (fun g d hdep => ?_)
              exact step_load rfl trivial _ _ _ rfl rfl (fun w hw => whole4 w _ S hw.set)
            | 2, _, ho =>
              cases ho
              refine stepG_of (fun g d hdep => ?_)
              exact step_store rfl trivial rfl _ _ _ _ _ rfl rfl rfl (fun w hw => ⟨_, store_rb hw.b1, hw.st1 hsep⟩)
            | 3, _, ho =>
              cases ho
              refine stepG_of (fun g d hdep => ?_)
              exact step_store rfl trivial rfl _ _ _ _ _ rfl rfl rfl (fun w hw => ⟨_, store_set hw.b2, hw.st2 hsep⟩)
            | 4, _, ho =>
              cases ho
              refine stepG_of (fun g d hdep => ?_)
              exact step_assign rfl trivial _ rfl (by kernel_rfl) (fun _ h => h)
          intro g d W hall hW
          first | refine hK _ _ ?_ | refine (‹∀ (a : Act) (w : World), Code.wp Tryz.prog _ _ a w → _›) _ _ ?_ | skip
          simp only [finL, List.getD_cons_zero, List.getD_cons_succ, Nat.zero_add, Nat.reduceAdd, List.setIfInBounds_toArray, List.set_cons_zero, List.set_cons_succ]
          rw [hall 2 (by decide), hall 3 (by decide)] at hW
          clear hall
          go_wp2
          refine retRst (M := S) (x := .int .i64 0) rfl rfl rfl rfl rfl (by simpa using hW.b1) (by simpa using hW.b2) ?_
          obtain ⟨cur, hc⟩ := hW.row
          exact ⟨_, _, rfl, fun _ => ⟨gc, 0, rfl, lt_at hc, hW.nts⟩, hcc, .inr (fun a ha => by obtain rfl := Option.some.inj ha; have := hsep.s3; exact ⟨by simp only; omega, cur, hc⟩), hW.below⟩
theorem rmerge_some {w : World} (ad : Option Addr) (n cap : Nat) (L : List N3) (hL : RdN w ad L) (hn : L.length = n) (h0 : 0 < n) (h1 : n ≤ 100) (hcap : n ≤ cap) (ad2 : Option Addr) (cap2 : Nat) (m : List N3) (hm : RdN w ad2 m) (hl : m.length ≤ 6000000000000) : Calls Tryz.prog 16 #[.agg #[.slice ad n cap], .slice ad2 m.length cap2] w fun e w' => ∃ ad' cap', ∃ (S : Nat) (E : Int), e = .returned (.tuple #[.agg #[.slice ad' n cap'], .agg #[.int .u32 (wd S 0 : Nat), .int .u32 (wd S 1 : Nat), .int .u32 (wd S 2 : Nat), .int .u32 (wd S 3 : Nat)], .int .i64 E]) ∧ RdN w' ad' (mrg L m) ∧ n ≤ cap' ∧ (ad' = ad ∨ ∀ a, ad' = some a → w.heap.size ≤ a.block ∧ ∃ cur, w'.heap[a.block]? = some (.cells cur 61 (0, 0))) ∧ Below w.heap.size w w' :=
  (rMerge_any ad n cap L hL hn h0 h1 hcap ad2 cap2 m hm hl).mono fun _ _ ⟨ad', cap', e, h⟩ => ⟨ad', cap', _, _, e, h⟩
end Go.Proofs.YtddblfffjhoiaabGreat
