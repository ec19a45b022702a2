/- The document's Row and Make: rows of bools. -/
import Derived.Test.YtnkpohkodkjkfaaGreatDoorJpJ22
import Derived.Laws.Tables
import Derived.Deep.WholeRow
import Derived.Test.YtnkpohkodkjkfaaGreatDoorJpJ27
import Derived.Test.YtnkpohkodkjkfaaGreatDoorJpJ30
set_option maxHeartbeats 40000000
set_option maxRecDepth 100000
set_option linter.unusedVariables false
namespace Go.Proofs.YtnkpohkodkjkfaaGreatDoor
open Go.RowKit Go.Shelf Go.Lib

/-- The cells of a row of bools. -/
def bC (p : Nat → Bool) : Array Value := ((List.range 100).map fun i => Value.bool (p i)).toArray
def HoldsB (w : World) (b : Nat) (p : Nat → Bool) : Prop := w.heap[b]? = some (.cells (bC p) 157)
theorem bC_size (p : Nat → Bool) : (bC p).size = 100 := by simp [bC]
theorem bC_get (p : Nat → Bool) (k : Nat) (h : k < 100) : (bC p)[k]? = some (.bool (p k)) := by simp [bC, h]
theorem bC_set (p : Nat → Bool) (k : Nat) (b : Bool) : (bC p).setIfInBounds k (.bool b) = bC (fun j => if j = k then b else p j) := by
  apply Array.ext_getElem?; intro i
  rw [Array.getElem?_setIfInBounds, bC_size]
  by_cases h : i < 100
  · rw [bC_get _ _ h, bC_get _ _ h]
    by_cases e : k = i
    · subst e; simp [h]
    · have e2 : ¬ i = k := fun c => e c.symm
      simp [e, e2]
  · have h2 : ∀ q, (bC q)[i]? = none := fun q => Array.getElem?_eq_none (by rw [bC_size]; omega)
    rw [h2, h2]
    by_cases e : k = i
    · subst e; simp [h]
    · simp [e]
theorem bC_congr {p q : Nat → Bool} (h : ∀ i, i < 100 → p i = q i) : bC p = bC q := by
  unfold bC
  congr 1
  apply List.map_congr_left
  intro i hi
  rw [h i (List.mem_range.1 hi)]
theorem bC_one (p : Nat → Bool) : (bC p).all (·.oneCell') = true := by
  rw [Array.all_eq_true_iff_forall_mem]
  intro v hv
  simp [bC] at hv
  obtain ⟨i, _, rfl⟩ := hv
  rfl
theorem zeroB : ∀ w, (zeroValue 157).run Tryz.prog w = .ok (.agg (bC (fun _ => false))) w := (zero_of_info (P := Tryz.prog) (n := 100) (by kernel_rfl)).1
theorem sizeB : (Tryz.prog.info? 157).map (·.size) = some 100 := by kernel_rfl
theorem setRow_get {W : World} {b : Nat} {cs cs' : Array Value} {t : TypeId} {z : Nat × Nat} (h : W.heap[b]? = some (.cells cs t z)) : (W.setRow b cs').heap[b]? = some (.cells cs' t z) := by
  simp [World.setRow, Array.getElem?_modify, h]
theorem setRow_other {W : World} {b k : Nat} {cs : Array Value} (h : k ≠ b) : (W.setRow b cs).heap[k]? = W.heap[k]? := by
  have h2 : ¬ b = k := fun e => h e.symm
  simp [World.setRow, Array.getElem?_modify, h2]
theorem below_setRow {n b : Nat} {w W : World} {cs : Array Value} (h : Below n w W) (hn : n ≤ b) : Below n w (W.setRow b cs) :=
  h.trans ⟨rfl, rfl, rfl, by simp [World.setRow], fun k hk => setRow_other (by omega)⟩
theorem HoldsB.lt {w : World} {b : Nat} {p : Nat → Bool} (h : HoldsB w b p) : b < w.heap.size := (Array.getElem?_eq_some_iff.1 h).1
theorem HoldsB.cell {w : World} {b : Nat} {p : Nat → Bool} (h : HoldsB w b p) (k : Nat) (hk : k < 100) : w.cell? ⟨b, k, none⟩ = some (.bool (p k)) := by
  unfold HoldsB at h
  simp [World.cell?, h, bC_get p k hk]
theorem HoldsB.frozen {w : World} {b : Nat} {p : Nat → Bool} (h : HoldsB w b p) (k : Nat) : w.frozen? ⟨b, k, none⟩ = false := by
  unfold HoldsB at h
  simp [World.frozen?, h]
theorem HoldsB.congr {w : World} {b : Nat} {p q : Nat → Bool} (h : HoldsB w b p) (e : ∀ j, j < 100 → p j = q j) : HoldsB w b q := by
  unfold HoldsB at *
  rw [h, bC_congr e]
theorem HoldsB.set {w : World} {b : Nat} {p : Nat → Bool} (h : HoldsB w b p) (k : Nat) (v : Bool) : HoldsB (w.setCell ⟨b, k, none⟩ (.bool v)) b (fun j => if j = k then v else p j) := by
  unfold HoldsB at *
  have hlt := (Array.getElem?_eq_some_iff.1 h).1
  rw [← bC_set p k v]
  simp [World.setCell, h, Array.getElem?_modify]
theorem HoldsB.row {w : World} {b : Nat} {p : Nat → Bool} (h : HoldsB w b p) (q : Nat → Bool) : HoldsB (w.setRow b (bC q)) b q := setRow_get h
theorem retB {f : Func} {p : Tmp} {R : Ending → World → Prop} {a : Act} {w : World} {b : Nat} {q : Nat → Bool} (hres : f.results = #[.cell p 157]) (hp : a.tmps.getD p undef = .pointer (some ⟨b, 0, none⟩)) (hd : a.defers = []) (h : HoldsB w b q) (hR : R (.returned (.agg (bC q))) w) : bodyPost Tryz.prog f R .ret a w :=
  bodyPost_ret (results_cell_row hres a.tmps w b _ _ (0, 0) _ hp h Tryz.underlying157 rfl (by rw [bC_size]; exact sizeB)) hd hR
theorem shr_bit (x n : Nat) : ((x / 2 ^ n &&& 1 : Nat) == 1) = x.testBit n := by
  rw [Nat.and_one_is_mod, Nat.testBit_eq_decide_div_mod_eq]
  by_cases h : x / 2 ^ n % 2 = 1 <;> simp [h]
theorem mixB (p : Nat → Bool) (k j : Nat) : (if j = k then p k else if j < k then p j else false) = if j < k + 1 then p j else false := by
  by_cases q : j = k
  · subst q; simp
  · by_cases q2 : j < k
    · rw [if_neg q, if_pos q2, if_pos (by omega)]
    · rw [if_neg q, if_neg q2, if_neg (by omega)]
set_option maxHeartbeats 1000000 in
set_option maxRecDepth 100000 in
theorem row_any (N : Nat) (w : World) : Calls Tryz.prog 92 #[sv N] w fun e w' => e = .returned (.agg (bC N.testBit)) ∧ Below w.heap.size w w' := by
  have hz := zeroB
  simp only [sv]
  go_enter Tryz.func92, Tryz.ntmps92
  go_wp2
  clear hz
  go_loopw [4] (fun c wz => ∃ k : Nat, c = .int .i64 k ∧ k ≤ 100 ∧ Holds4 wz w.heap.size (wd N) ∧ HoldsB wz (w.heap.size + 1) (fun _ => false) ∧ HoldsB wz (w.heap.size + 2) (fun j => if j < k then N.testBit j else false) ∧ Below w.heap.size w wz) (fun c _ => 100 - vnat c)
  case atStart => exact ⟨0, rfl, by omega, get_oldQ (get_oldQ (get_newQ (by simp))), get_oldQ (get_newQ (by simp)), get_newQ (by simp), (((Below.refl _ w).alloc (by simp) _).alloc (by simp) _).alloc (by simp; omega) _⟩
  case round =>
    obtain ⟨k, rfl, hk, h1, h2, h3, hb⟩ := hrel
    by_cases hk4 : k < 100
    · have hki : (k : Int) < 100 := by omega
      have hq : k / 32 < 4 := by omega
      have hq' : (k : Int) / 32 < 4 := by omega
      have hc1 := h1.cell (k / 32) hq
      have hc3 := h3.cell k hk4
      have hf3 := h3.frozen k
      have hbit : (bits BinOp.and IntKind.u32 ((wd N (k / 32) : Int) / 2 ^ (k % 32)) 1 == 1) = N.testBit k := by
        have e : (wd N (k / 32) : Int) / 2 ^ (k % 32) = ((wd N (k / 32) / 2 ^ (k % 32) : Nat) : Int) := by simp
        have hl : wd N (k / 32) / 2 ^ (k % 32) < 4294967296 := Nat.lt_of_le_of_lt (Nat.div_le_self _ _) (wd_lt N _)
        rw [e, show (1 : Int) = ((1 : Nat) : Int) from rfl, u32_and_nat _ _ hl (by omega), ← bit_word N k, ← shr_bit]
        by_cases h : wd N (k / 32) / 2 ^ (k % 32) &&& 1 = 1
        · rw [h]; rfl
        · have h2 : ¬ ((wd N (k / 32) / 2 ^ (k % 32) &&& 1 : Nat) : Int) = ((1 : Nat) : Int) := by omega
          rw [beq_eq_false_iff_ne.2 h, beq_eq_false_iff_ne.2 h2]
      go_wp2
      go_roundw
      case rel => exact ⟨k + 1, by simp, by omega, (Below.heap_setCell _ _ _ _ (by simp; omega)).trans h1, (Below.heap_setCell _ _ _ _ (by simp)).trans h2, (h3.set k _).congr (fun j _ => mixB N.testBit k j), hb.setCell (p := ⟨w.heap.size + 1 + 1, k, none⟩) (by simp; omega) _⟩
      case measure => simp only [vnat]; omega
    · have hk5 : k = 100 := by omega
      subst hk5
      have h3' : HoldsB wr (w.heap.size + 2) N.testBit := h3.congr (fun j hj => by simp [hj])
      clear h3
      go_wp2_with (first | (refine wpList_load_row rfl 157 _ rfl (w.heap.size + 1 + 1) rfl _ _ _ _ h3' Tryz.underlying157 rfl (by rw [bC_size]; exact sizeB) ?_) | (refine wpList_store_row rfl 157 _ _ rfl (w.heap.size + 1) (bC N.testBit) rfl rfl _ _ h2 (by rw [bC_size]; exact sizeB) (by rw [bC_size, bC_size]) (bC_one _) ?_))
      exact retB rfl rfl rfl (h2.row _) ⟨rfl, below_setRow hb (by omega)⟩



set_option maxHeartbeats 1000000 in
set_option maxRecDepth 100000 in
theorem rWithin_any (N : Nat) (hN : N < S128) (n : Int) (w : World) : Calls Tryz.prog 62 #[sv N, .int .i64 n] w fun e w' => e = .returned (.bool (wthB N n)) ∧ Below w.heap.size w w' := by
  simp only [sv]
  go_enter Tryz.func62, Tryz.ntmps62
  go_wp2
  go_loopw [5] (fun c wz => ∃ k : Nat, c = .int .i64 k ∧ k ≤ 128 ∧ (∀ i, i < k → N.testBit i = true → i < topW n) ∧ Holds4 wz w.heap.size (wd N) ∧ Below w.heap.size w wz) (fun c _ => 128 - vnat c)
  case atStart => exact ⟨0, rfl, by omega, fun i h => by omega, get_newQ (by simp), alloc_below w _⟩
  case round =>
    obtain ⟨k, rfl, hk, he, h1, hb⟩ := hrel
    by_cases hk4 : k < 128
    · have hki : (k : Int) < 128 := by omega
      have hq : k / 32 < 4 := by omega
      have hq' : (k : Int) / 32 < 4 := by omega
      have hc1 := h1.cell (k / 32) hq
      have hbit : (bits BinOp.and IntKind.u32 ((wd N (k / 32) : Int) / 2 ^ (k % 32)) 1 == 1) = N.testBit k := by
        have e : (wd N (k / 32) : Int) / 2 ^ (k % 32) = ((wd N (k / 32) / 2 ^ (k % 32) : Nat) : Int) := by simp
        have hl : wd N (k / 32) / 2 ^ (k % 32) < 4294967296 := Nat.lt_of_le_of_lt (Nat.div_le_self _ _) (wd_lt N _)
        rw [e, show (1 : Int) = ((1 : Nat) : Int) from rfl, u32_and_nat _ _ hl (by omega), ← bit_word N k, ← shr_bit]
        by_cases h : wd N (k / 32) / 2 ^ (k % 32) &&& 1 = 1
        · rw [h]; rfl
        · have h2 : ¬ ((wd N (k / 32) / 2 ^ (k % 32) &&& 1 : Nat) : Int) = ((1 : Nat) : Int) := by omega
          rw [beq_eq_false_iff_ne.2 h, beq_eq_false_iff_ne.2 h2]
      have hbad : N.testBit k = true → ¬ k < topW n → wthB N n = false := by
        intro h2 h3
        unfold wthB
        rw [decide_eq_false_iff_not]
        intro h4
        have h5 : (N % 2 ^ topW n).testBit k = true := by rw [← h4]; exact h2
        rw [Nat.testBit_mod_two_pow] at h5
        simp [h3] at h5
      have htop := topW_lt n k
      cases hb0 : N.testBit k
      · rw [hb0] at hbit
        clear hbad htop
        go_wp2
        go_roundw
        case rel => exact ⟨k + 1, by simp, by omega, fun i hi h2 => by
          by_cases e : i = k
          · subst e; rw [hb0] at h2; cases h2
          · exact he i (by omega) h2, h1, hb⟩
        case measure => simp only [vnat]; omega
      · rw [hb0] at hbit hbad
        by_cases t1 : (k : Int) ≥ n
        · have t1' : n ≤ (k : Int) := t1
          have hres := hbad rfl (fun c => by have := htop.1 c; omega)
          clear hbad htop
          go_wp2
          go_ret
          first | exact ⟨rfl, hb⟩ | exact ⟨ret_bool hres.symm, hb⟩
        · by_cases t2 : (k : Int) ≥ 100
          · have t2' : 100 ≤ (k : Int) := t2
            have hres := hbad rfl (fun c => by have := htop.1 c; omega)
            clear hbad htop
            go_wp2
            go_ret
            first | exact ⟨rfl, hb⟩ | exact ⟨ret_bool hres.symm, hb⟩
          · have hkt : k < topW n := htop.2 ⟨by omega, by omega⟩
            clear hbad htop
            go_wp2
            go_roundw
            case rel => exact ⟨k + 1, by simp, by omega, fun i hi h2 => by
              by_cases e : i = k
              · subst e; exact hkt
              · exact he i (by omega) h2, h1, hb⟩
            case measure => simp only [vnat]; omega
    · have hk5 : k = 128 := by omega
      subst hk5
      have hres : wthB N n = true := by
        unfold wthB
        rw [decide_eq_true_eq]
        apply Nat.eq_of_testBit_eq; intro i
        rw [Nat.testBit_mod_two_pow]
        by_cases hi : i < 128
        · cases h2 : N.testBit i with
          | false => simp
          | true => simp [he i hi h2]
        · have : N.testBit i = false := Nat.testBit_lt_two_pow (Nat.lt_of_lt_of_le hN (Nat.pow_le_pow_right (n := 2) (i := 128) (by decide) (by omega)))
          simp [this]
      go_wp2
      go_ret
      first | exact ⟨rfl, hb⟩ | exact ⟨ret_bool hres.symm, hb⟩
end Go.Proofs.YtnkpohkodkjkfaaGreatDoor
