/- The document's Row and Make: rows of bools. -/
import Derived.Test.YtnomeinppdnhfaaGreatSla
import Derived.Laws.Tables
import Derived.Deep.WholeRow
import Derived.Test.YtnomeinppdnhfaaGreatOwn
import Derived.Test.YtnomeinppdnhfaaGreatWth
namespace Go.Proofs.YtnomeinppdnhfaaGreat
open Go.RowKit Go.Shelf Go.Lib

/-- The cells of a row of bools. -/
def bC (p : Nat → Bool) : Array Value := ((List.range 100).map fun i => Value.bool (p i)).toArray
def HoldsB (w : World) (b : Nat) (p : Nat → Bool) : Prop := w.heap[b]? = some (.cells (bC p) 117)
theorem bC_size (p : Nat → Bool) : (bC p).size = 100 := by simp [bC]
theorem bC_get (p : Nat → Bool) (k : Nat) (h : k < 100) : (bC p)[k]? = some (.bool (p k)) := by simp [bC, h]
theorem bC_set (p : Nat → Bool) (k : Nat) (b : Bool) : (bC p).setIfInBounds k (.bool b) = bC (fun j => if j = k then b else p j) := by
  apply Array.ext_getElem?; intro i
  rw [Array.getElem?_setIfInBounds, bC_size]
  by_cases h : i < 100
  · rw [bC_get _ _ h, bC_get _ _ h]
    by_cases e : k = i
    · subst e; simp [h]
    · have e2 : ¬ i = k := fun c => e c.symm
      simp [e, e2]
  · have h2 : ∀ q, (bC q)[i]? = none := fun q => Array.getElem?_eq_none (by rw [bC_size]; omega)
    rw [h2, h2]
    by_cases e : k = i
    · subst e; simp [h]
    · simp [e]
theorem bC_congr {p q : Nat → Bool} (h : ∀ i, i < 100 → p i = q i) : bC p = bC q := by
  unfold bC
  congr 1
  apply List.map_congr_left
  intro i hi
  rw [h i (List.mem_range.1 hi)]
theorem bC_one (p : Nat → Bool) : (bC p).all (·.oneCell') = true := by
  rw [Array.all_eq_true_iff_forall_mem]
  intro v hv
  simp [bC] at hv
  obtain ⟨i, _, rfl⟩ := hv
  rfl
theorem zeroB : ∀ w, (zeroValue 117).run Tryz.prog w = .ok (.agg (bC (fun _ => false))) w := (zero_of_info (P := Tryz.prog) (n := 100) (by kernel_rfl)).1
theorem sizeB : (Tryz.prog.info? 117).map (·.size) = some 100 := by kernel_rfl
theorem setRow_get {W : World} {b : Nat} {cs cs' : Array Value} {t : TypeId} {z : Nat × Nat} (h : W.heap[b]? = some (.cells cs t z)) : (W.setRow b cs').heap[b]? = some (.cells cs' t z) := by
  simp [World.setRow, Array.getElem?_modify, h]
theorem setRow_other {W : World} {b k : Nat} {cs : Array Value} (h : k ≠ b) : (W.setRow b cs).heap[k]? = W.heap[k]? := by
  have h2 : ¬ b = k := fun e => h e.symm
  simp [World.setRow, Array.getElem?_modify, h2]
theorem below_setRow {n b : Nat} {w W : World} {cs : Array Value} (h : Below n w W) (hn : n ≤ b) : Below n w (W.setRow b cs) :=
  h.trans ⟨rfl, rfl, rfl, by simp [World.setRow], fun k hk => setRow_other (by omega)⟩
theorem HoldsB.lt {w : World} {b : Nat} {p : Nat → Bool} (h : HoldsB w b p) : b < w.heap.size := (Array.getElem?_eq_some_iff.1 h).1
theorem HoldsB.carry {w w' : World} {b : Nat} {p : Nat → Bool} (h : HoldsB w b p) (hb : Below w.heap.size w w') : HoldsB w' b p := (hb.block _ h.lt).trans h
theorem HoldsB.cell {w : World} {b : Nat} {p : Nat → Bool} (h : HoldsB w b p) (k : Nat) (hk : k < 100) : w.cell? ⟨b, k, none⟩ = some (.bool (p k)) := by
  unfold HoldsB at h
  simp [World.cell?, h, bC_get p k hk]
theorem HoldsB.frozen {w : World} {b : Nat} {p : Nat → Bool} (h : HoldsB w b p) (k : Nat) : w.frozen? ⟨b, k, none⟩ = false := by
  unfold HoldsB at h
  simp [World.frozen?, h]
theorem HoldsB.congr {w : World} {b : Nat} {p q : Nat → Bool} (h : HoldsB w b p) (e : ∀ j, j < 100 → p j = q j) : HoldsB w b q := by
  unfold HoldsB at *
  rw [h, bC_congr e]
theorem HoldsB.set {w : World} {b : Nat} {p : Nat → Bool} (h : HoldsB w b p) (k : Nat) (v : Bool) : HoldsB (w.setCell ⟨b, k, none⟩ (.bool v)) b (fun j => if j = k then v else p j) := by
  unfold HoldsB at *
  have hlt := (Array.getElem?_eq_some_iff.1 h).1
  rw [← bC_set p k v]
  simp [World.setCell, h, Array.getElem?_modify]
theorem HoldsB.load {w : World} {b : Nat} {p : Nat → Bool} (h : HoldsB w b p) : (loadVar 117 ⟨b, 0, none⟩).run Tryz.prog w = .ok (.agg (bC p)) w :=
  run_loadVar_row (P := Tryz.prog) w b _ _ (bC p) (0, 0) _ h Tryz.underlying117 rfl (by rw [bC_size]; exact sizeB)
theorem HoldsB.store {w : World} {b : Nat} {p : Nat → Bool} (h : HoldsB w b p) (q : Nat → Bool) : (storeVar 117 ⟨b, 0, none⟩ (.agg (bC q))).run Tryz.prog w = .ok () (w.setRow b (bC q)) :=
  run_storeVar_row (P := Tryz.prog) w b _ _ (bC p) (bC q) h (by rw [bC_size]; exact sizeB) (by rw [bC_size, bC_size]) (bC_one q)
theorem HoldsB.row {w : World} {b : Nat} {p : Nat → Bool} (h : HoldsB w b p) (q : Nat → Bool) : HoldsB (w.setRow b (bC q)) b q := setRow_get h
theorem retB {f : Func} {p : Tmp} {R : Ending → World → Prop} {a : Act} {w : World} {b : Nat} {q : Nat → Bool} (hres : f.results = #[.cell p 117]) (hp : a.tmps.getD p undef = .pointer (some ⟨b, 0, none⟩)) (hd : a.defers = []) (h : HoldsB w b q) (hR : R (.returned (.agg (bC q))) w) : bodyPost Tryz.prog f R .ret a w :=
  bodyPost_ret (results_cell_row hres a.tmps w b _ _ (0, 0) _ hp h Tryz.underlying117 rfl (by rw [bC_size]; exact sizeB)) hd hR
theorem shr_bit (x n : Nat) : ((x / 2 ^ n &&& 1 : Nat) == 1) = x.testBit n := by
  rw [Nat.and_one_is_mod, Nat.testBit_eq_decide_div_mod_eq]
  by_cases h : x / 2 ^ n % 2 = 1 <;> simp [h]
theorem mixB (p : Nat → Bool) (k j : Nat) : (if j = k then p k else if j < k then p j else false) = if j < k + 1 then p j else false := by
  by_cases q : j = k
  · subst q; simp
  · by_cases q2 : j < k
    · rw [if_neg q, if_pos q2, if_pos (by omega)]
    · rw [if_neg q, if_neg q2, if_neg (by omega)]
set_option maxHeartbeats 1000000 in
set_option maxRecDepth 100000 in
theorem row_any (N : Nat) (w : World) : Calls Tryz.prog 80 #[sv N] w fun e w' => e = .returned (.agg (bC N.testBit)) ∧ Below w.heap.size w w' := by
  have hz := zeroB
  simp only [sv]
  go_enter Tryz.func80, Tryz.ntmps80
  go_wp2
  clear hz
  go_loopw [4] (fun c wz => ∃ k : Nat, c = .int .i64 k ∧ k ≤ 100 ∧ Holds4 wz w.heap.size (wd N) ∧ HoldsB wz (w.heap.size + 1) (fun _ => false) ∧ HoldsB wz (w.heap.size + 2) (fun j => if j < k then N.testBit j else false) ∧ Below w.heap.size w wz) (fun c _ => 100 - vnat c)
  case atStart => exact ⟨0, rfl, by omega, get_old (get_old (get_new (by simp))), get_old (get_new (by simp)), get_new (by simp), (((Below.refl _ w).alloc (by simp) _).alloc (by simp) _).alloc (by simp; omega) _⟩
  case round =>
    obtain ⟨k, rfl, hk, h1, h2, h3, hb⟩ := hrel
    by_cases hk4 : k < 100
    · have hki : (k : Int) < 100 := by omega
      have hq : k / 32 < 4 := by omega
      have hq' : (k : Int) / 32 < 4 := by omega
      have hc1 := h1.cell (k / 32) hq
      have hc3 := h3.cell k hk4
      have hf3 := h3.frozen k
      have hbit : (bits BinOp.and IntKind.u32 ((wd N (k / 32) : Int) / 2 ^ (k % 32)) 1 == 1) = N.testBit k := by
        have e : (wd N (k / 32) : Int) / 2 ^ (k % 32) = ((wd N (k / 32) / 2 ^ (k % 32) : Nat) : Int) := by simp
        have hl : wd N (k / 32) / 2 ^ (k % 32) < 4294967296 := Nat.lt_of_le_of_lt (Nat.div_le_self _ _) (wd_lt N _)
        rw [e, show (1 : Int) = ((1 : Nat) : Int) from rfl, u32_and_nat _ _ hl (by omega), ← bit_word N k, ← shr_bit]
        by_cases h : wd N (k / 32) / 2 ^ (k % 32) &&& 1 = 1
        · rw [h]; rfl
        · have h2 : ¬ ((wd N (k / 32) / 2 ^ (k % 32) &&& 1 : Nat) : Int) = ((1 : Nat) : Int) := by omega
          rw [beq_eq_false_iff_ne.2 h, beq_eq_false_iff_ne.2 h2]
      go_wp2
      go_roundw
      case rel => exact ⟨k + 1, by simp, by omega, (Below.heap_setCell _ _ _ _ (by simp; omega)).trans h1, (Below.heap_setCell _ _ _ _ (by simp)).trans h2, (h3.set k _).congr (fun j _ => mixB N.testBit k j), hb.setCell (p := ⟨w.heap.size + 1 + 1, k, none⟩) (by simp; omega) _⟩
      case measure => simp only [vnat]; omega
    · have hk5 : k = 100 := by omega
      subst hk5
      have h3' : HoldsB wr (w.heap.size + 2) N.testBit := h3.congr (fun j hj => by simp [hj])
      clear h3
      go_wp2_with (first | (refine wpList_load_row rfl 117 _ rfl (w.heap.size + 1 + 1) rfl _ _ _ _ h3' Tryz.underlying117 rfl (by rw [bC_size]; exact sizeB) ?_) | (refine wpList_store_row rfl 117 _ _ rfl (w.heap.size + 1) (bC N.testBit) rfl rfl _ _ h2 (by rw [bC_size]; exact sizeB) (by rw [bC_size, bC_size]) (bC_one _) ?_))
      exact retB rfl rfl rfl (h2.row _) ⟨rfl, below_setRow hb (by omega)⟩

def mkN (p : Nat → Bool) : Nat → Nat
  | 0 => 0
  | k + 1 => if p k then mkN p k ||| 2 ^ k else mkN p k
theorem testBit_mkN (p : Nat → Bool) : ∀ k i, (mkN p k).testBit i = (decide (i < k) && p i)
  | 0, i => by simp [mkN]
  | k + 1, i => by
    have ih := testBit_mkN p k i
    by_cases e : i = k
    · subst e
      cases h : p i <;> simp [mkN, h, ih]
    · have e2 : decide (i < k + 1) = decide (i < k) := by simp; omega
      rw [e2]
      cases h : p k
      · simp [mkN, h, ih]
      · rw [mkN, if_pos h, Nat.testBit_or, ih, Nat.testBit_two_pow]
        have e3 : ¬ k = i := fun c => e c.symm
        simp [e3]
theorem mkN_eq {p : Nat → Bool} {X : Nat} (h : ∀ i, X.testBit i = (decide (i < 100) && p i)) : mkN p 100 = X := by
  apply Nat.eq_of_testBit_eq; intro i
  rw [testBit_mkN, h]
theorem mkN_cln (N : Nat) : mkN N.testBit 100 = cln N := mkN_eq (fun i => testBit_cln N i)
theorem run_boxB (p : Nat → Bool) (w : World) : (Instr.box 117 (.agg (bC p))).run Tryz.prog w = .ok (.pointer (some ⟨w.heap.size, 0, none⟩)) (w.alloc (.cells (bC p) 117)) := by
  go_simp
theorem idxB (b k : Nat) (hk : k < 100) (w : World) : (Instr.indexAt 117 (.pointer (some ⟨b, 0, none⟩)) (.int .i64 (k : Int))).run Tryz.prog w = .ok (.pointer (some ⟨b, k, none⟩)) w := by
  have h1 : (k : Int) < 100 := by omega
  have h2 : 0 ≤ (k : Int) := by omega
  go_simp
theorem pow_bit' (i : Nat) : 2 ^ (i % 32) < 4294967296 := Nat.pow_lt_pow_right (a := 2) (n := 32) (by decide) (Nat.mod_lt _ (by decide))
end Go.Proofs.YtnomeinppdnhfaaGreat
namespace Go.Proofs.YtnomeinppdnhfaaGreat
open Go.RowKit Go.Shelf Go.Lib

theorem stepB_alloc {ops : Array Oper} {Q : Exit → Act → World → Prop} {i : Nat} {o : Oper} {a : Act} {w : World} {K : Act → World → Prop} (hi : ops[i]? = some o) (hg : o.guard = none) (ho : o.op = .alloc 117)
    (hK : K (a.put o.dst (.pointer (some ⟨w.heap.size, 0, none⟩))) (w.alloc (.cells (bC (fun _ => false)) 117))) : wpOp Tryz.prog ops Q i K a w := by
  have hz := zeroB
  have hr : (Instr.alloc 117 true (.tuple #[])).run Tryz.prog w = .ok (.pointer (some ⟨w.heap.size, 0, none⟩)) (w.alloc (.cells (bC (fun _ => false)) 117)) := by
    go_simp
  unfold wpOp
  rw [hi]
  simp only [Region.wanted, hg, if_true]
  refine .inl ?_
  unfold Oper.wp execOp
  simp only [ho, Sem.run_bind, hr, Result.andThen_ok, Sem.run_pure, Oper.upon_value]
  exact hK
/-- What lies where, while two rows are made. -/
structure JR (w0 : World) (A B : Nat) (p q : Nat → Bool) (ba bb : Nat) (g : Nat × Nat) (x4 x5 x6 x7 : Bool) (W : World) : Prop where
  a : Holds4 W ba (wd A)
  b : Holds4 W bb (wd B)
  la : ba < w0.heap.size
  lb : bb < w0.heap.size
  below : Below w0.heap.size w0 W
  u : x4 = true → w0.heap.size ≤ g.1 ∧ HoldsB W g.1 (if x6 = true then p else fun _ => false)
  m : x5 = true → w0.heap.size ≤ g.2 ∧ HoldsB W g.2 (if x7 = true then q else fun _ => false)
  ne : x4 = true → x5 = true → g.1 ≠ g.2
theorem JR.carry {w0 : World} {A B : Nat} {p q : Nat → Bool} {ba bb : Nat} {g : Nat × Nat} {x4 x5 x6 x7 : Bool} {W W' : World} (h : JR w0 A B p q ba bb g x4 x5 x6 x7 W) (hb : Below W.heap.size W W') : JR w0 A B p q ba bb g x4 x5 x6 x7 W' :=
  ⟨h.a.carry hb, h.b.carry hb, h.la, h.lb, bcarry h.below (Nat.le_refl _) hb, fun e => ⟨(h.u e).1, (h.u e).2.carry hb⟩, fun e => ⟨(h.m e).1, (h.m e).2.carry hb⟩, h.ne⟩
theorem runB_store {w : World} {b : Nat} {p : Nat → Bool} (h : HoldsB w b p) (q : Nat → Bool) : (Instr.storeAt 117 (.pointer (some ⟨b, 0, none⟩)) (.agg (bC q))).run Tryz.prog w = .ok () (w.setRow b (bC q)) := by
  have := h.store q
  simp only [Instr.storeAt, Instr.sureAddr, Sem.run_bind, Sem.run_pure, Result.andThen_ok, this]
end Go.Proofs.YtnomeinppdnhfaaGreat
namespace Go.Proofs.YtnomeinppdnhfaaGreat
open Go.RowKit Go.Shelf Go.Lib


theorem idxvB (p : Nat → Bool) (k : Nat) (hk : k < 100) (w : World) : (Instr.index 117 (.agg (bC p)) (.int .i64 (k : Int))).run Tryz.prog w = .ok (.bool (p k)) w := by
  have h2 : 0 ≤ (k : Int) := by omega
  have he : Tryz.prog.plainKey 4 = true := by kernel_rfl
  have hi : (Tryz.prog.info? 4).isSome = true := by kernel_rfl
  obtain ⟨i, hi⟩ := Option.isSome_iff_exists.1 hi
  have hc : Tryz.prog.cellsOf 4 = 1 := by kernel_rfl
  have p1 := run_part_plain (P := Tryz.prog) w he (off := k * 1) (by rw [Nat.mul_one]; exact bC_get p k hk)
  simp only [Instr.index, asIntOf, Sem.run_bind, Sem.run_pure, Result.andThen_ok, run_underlying Tryz.underlying117]
  have h3 : (0 : Int) ≤ (k : Int) ∧ (k : Int) < ((100 : Nat) : Int) := ⟨h2, by omega⟩
  rw [if_pos h3]
  simp only [Sem.run_bind, run_sizeOf w hi, Result.andThen_ok, hc, Int.toNat_natCast]
  exact p1
theorem mkN_with (N i : Nat) (hi : i < 100) : mkN (fun j => if j = i then true else N.testBit j) 100 = cln N ||| 2 ^ i := mkN_eq (fun j => by
  rw [Nat.testBit_or, testBit_cln, Nat.testBit_two_pow]
  by_cases e : j = i
  · subst e; simp [hi]
  · have e2 : ¬ i = j := fun c => e c.symm
    simp [e, e2])
theorem mkN_less (N i : Nat) : mkN (fun j => if j = i then false else N.testBit j) 100 = dif (cln N) (2 ^ i) := mkN_eq (fun j => by
  rw [testBit_dif, testBit_cln, Nat.testBit_two_pow]
  by_cases e : j = i
  · subst e; simp
  · have e2 : ¬ i = j := fun c => e c.symm
    simp [e, e2])
set_option maxHeartbeats 1000000 in
set_option maxRecDepth 100000 in
theorem rHas_any (N : Nat) (id : Int) (w : World) : Calls Tryz.prog 22 #[sv N, .int .i64 id] w fun e w' => e = .returned (.bool (hasB N id)) ∧ Below w.heap.size w w' := by
  have hr := row_any N
  simp only [sv] at hr ⊢
  by_cases h : 0 ≤ id ∧ id < 100
  · obtain ⟨i, rfl⟩ := Int.eq_ofNat_of_zero_le h.1
    have hi : i < 100 := by omega
    have t1 : (i : Int) ≥ 0 := by omega
    have t3 : (i : Int) < 100 := by omega
    have hix := idxvB N.testBit i hi
    have hV : hasB N (i : Int) = N.testBit i := by simp [hasB, h]
    rw [hV]
    go_enter Tryz.func22, Tryz.ntmps22
    go_wp2_with (go_at_call 80; refine (hr _).mono ?_; rintro e w1 ⟨rfl, hb1⟩)
    go_ret
    exact ⟨rfl, bcarry (alloc_below w _) (Nat.le_refl _) hb1⟩
  · have hV : hasB N id = false := by simp [hasB, h]
    rw [hV]
    by_cases t1 : id ≥ 0
    · have t2 : ¬ id < 100 := by omega
      go_enter Tryz.func22, Tryz.ntmps22
      go_wp2
      go_ret
      exact ⟨rfl, alloc_below w _⟩
    · go_enter Tryz.func22, Tryz.ntmps22
      go_wp2
      go_ret
      exact ⟨rfl, alloc_below w _⟩
end Go.Proofs.YtnomeinppdnhfaaGreat
