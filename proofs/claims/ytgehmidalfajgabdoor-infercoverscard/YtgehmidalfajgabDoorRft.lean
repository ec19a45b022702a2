/- The document's Ids, Count, Subset, Order, Least, Nth, Has, With, Without: what they answer, at every input. -/
import Derived.Test.YtgehmidalfajgabDoorRfs
import Derived.Test.YtgehmidalfajgabDoorOwn
import Derived.Test.YtgehmidalfajgabDoorWth
namespace Go.Proofs.YtgehmidalfajgabDoor
open Go.RowKit Go.Shelf Go.Lib


theorem idxvB (p : Nat → Bool) (k : Nat) (hk : k < 100) (w : World) : (Instr.index 67 (.agg (bC p)) (.int .i64 (k : Int))).run Tryd.prog w = .ok (.bool (p k)) w := by
  have h2 : 0 ≤ (k : Int) := by omega
  have he : Tryd.prog.plainKey 4 = true := by kernel_rfl
  have hi : (Tryd.prog.info? 4).isSome = true := by kernel_rfl
  obtain ⟨i, hi⟩ := Option.isSome_iff_exists.1 hi
  have hc : Tryd.prog.cellsOf 4 = 1 := by kernel_rfl
  have p1 := run_part_plain (P := Tryd.prog) w he (off := k * 1) (by rw [Nat.mul_one]; exact bC_get p k hk)
  simp only [Instr.index, asIntOf, Sem.run_bind, Sem.run_pure, Result.andThen_ok, run_underlying Tryd.underlying67]
  have h3 : (0 : Int) ≤ (k : Int) ∧ (k : Int) < ((100 : Nat) : Int) := ⟨h2, by omega⟩
  rw [if_pos h3]
  simp only [Sem.run_bind, run_sizeOf w hi, Result.andThen_ok, hc, Int.toNat_natCast]
  exact p1
theorem mkN_with (N i : Nat) (hi : i < 100) : mkN (fun j => if j = i then true else N.testBit j) 100 = cln N ||| 2 ^ i := mkN_eq (fun j => by
  rw [Nat.testBit_or, testBit_cln, Nat.testBit_two_pow]
  by_cases e : j = i
  · subst e; simp [hi]
  · have e2 : ¬ i = j := fun c => e c.symm
    simp [e, e2])
theorem mkN_less (N i : Nat) : mkN (fun j => if j = i then false else N.testBit j) 100 = dif (cln N) (2 ^ i) := mkN_eq (fun j => by
  rw [testBit_dif, testBit_cln, Nat.testBit_two_pow]
  by_cases e : j = i
  · subst e; simp
  · have e2 : ¬ i = j := fun c => e c.symm
    simp [e, e2])
set_option maxHeartbeats 1000000 in
set_option maxRecDepth 100000 in
theorem rWith_any (N : Nat) (id : Int) (w : World) : Calls Tryd.prog 37 #[sv N, .int .i64 id] w fun e w' => e = .returned (withV N id) ∧ Below w.heap.size w w' := by
  have hz := zeroB
  have hr := row_any N
  by_cases h : 0 ≤ id ∧ id < 100
  · obtain ⟨i, rfl⟩ := Int.eq_ofNat_of_zero_le h.1
    have hi : i < 100 := by omega
    have t1 : ¬ (i : Int) < 0 := by omega
    have t2 : ¬ (i : Int) ≥ 100 := by omega
    have t3 : ¬ 100 ≤ (i : Int) := by omega
    obtain ⟨p, hp⟩ : ∃ p, p = (fun j => if j = i then true else N.testBit j) := ⟨_, rfl⟩
    have hset : (bC N.testBit).setIfInBounds i (.bool true) = bC p := by rw [hp, bC_set]
    have hm := make_any p
    have hmk : mkN p 100 = cln N ||| 2 ^ i := by rw [hp]; exact mkN_with N i hi
    rw [hmk] at hm
    clear hmk hp
    have hV : withV N (i : Int) = .tuple #[sv (cln N ||| 2 ^ i), .int .i64 0] := by rw [withV, if_pos h]; rfl
    rw [hV]
    generalize cln N ||| 2 ^ i = M at *
    simp only [sv] at hr hm ⊢
    go_enter Tryd.func37, Tryd.ntmps37
    go_wp2_with (first | (go_at_call 36; refine (hr _).mono ?_; rintro e w1 ⟨rfl, hb1⟩; clear hr) | (refine wpList_store_row rfl 67 _ _ rfl w1.heap.size (bC N.testBit) rfl rfl _ _ (get_new rfl) (by rw [bC_size]; exact sizeB) (by rw [bC_size, bC_size]) (bC_one _) ?_; simp only [World.setRow_alloc_new]; have g1 : HoldsB (w1.alloc (.cells (bC N.testBit) 67)) w1.heap.size N.testBit := get_new rfl; have c1 := g1.cell i hi; have f1 := g1.frozen i; clear g1) | ((try rw [hset]); refine wpList_load_row rfl 67 _ rfl w1.heap.size rfl _ _ _ _ (get_new rfl) Tryd.underlying67 rfl (by rw [bC_size]; exact sizeB) ?_) | (go_at_call 51; refine (hm _).mono ?_; rintro e w2 ⟨rfl, hb2⟩; have hs1 := hb1.size; simp only [World.size_alloc] at hs1; have q : Hid (Holds4 w2 (w.heap.size + 1) (fun _ => 0)) := (hb2.block _ (by simp; omega)).trans (get_old ((hb1.block _ (by simp)).trans (get_new (by simp)))); obtain ⟨y0, y1, y2, y3, z0, z1, z2, z3⟩ := q.out.facts))
    refine ret4t rfl rfl rfl rfl (fin4 q.out _) ⟨rfl, below4 (bcarry (((bcarry (((Below.refl _ w).alloc (by simp) _).alloc (by simp) _) (Nat.le_refl _) hb1).alloc (by omega) _)) (Nat.le_refl _) hb2) (by omega) _⟩
  · have hV : withV N id = .tuple #[sv 0, .int .i64 30] := by rw [withV, if_neg h]
    rw [hV]
    have g2 : Holds4 ((w.alloc (.cells (cells4 (wd N)) 26)).alloc (.cells (cells4 (fun _ => 0)) 26)) (w.heap.size + 1) (fun _ => 0) := get_new (by simp)
    simp only [sv]
    clear hr
    by_cases t1 : id < 0
    · go_enter Tryd.func37, Tryd.ntmps37
      go_wp2
      refine ret4t (M := 0) rfl rfl rfl rfl (g2.congr (fun j _ => by simp [wd])) ⟨?_, ((Below.refl _ w).alloc (by simp) _).alloc (by simp) _⟩
      rfl
    · have t2 : 100 ≤ id := by omega
      go_enter Tryd.func37, Tryd.ntmps37
      go_wp2
      refine ret4t (M := 0) rfl rfl rfl rfl (g2.congr (fun j _ => by simp [wd])) ⟨?_, ((Below.refl _ w).alloc (by simp) _).alloc (by simp) _⟩
      rfl
set_option maxHeartbeats 1000000 in
set_option maxRecDepth 100000 in
theorem rHas_any (N : Nat) (id : Int) (w : World) : Calls Tryd.prog 16 #[sv N, .int .i64 id] w fun e w' => e = .returned (.bool (hasB N id)) ∧ Below w.heap.size w w' := by
  have hr := row_any N
  simp only [sv] at hr ⊢
  by_cases h : 0 ≤ id ∧ id < 100
  · obtain ⟨i, rfl⟩ := Int.eq_ofNat_of_zero_le h.1
    have hi : i < 100 := by omega
    have t1 : (i : Int) ≥ 0 := by omega
    have t3 : (i : Int) < 100 := by omega
    have hix := idxvB N.testBit i hi
    have hV : hasB N (i : Int) = N.testBit i := by simp [hasB, h]
    rw [hV]
    go_enter Tryd.func16, Tryd.ntmps16
    go_wp2_with (go_at_call 36; refine (hr _).mono ?_; rintro e w1 ⟨rfl, hb1⟩)
    go_ret
    exact ⟨rfl, bcarry (alloc_below w _) (Nat.le_refl _) hb1⟩
  · have hV : hasB N id = false := by simp [hasB, h]
    rw [hV]
    by_cases t1 : id ≥ 0
    · have t2 : ¬ id < 100 := by omega
      go_enter Tryd.func16, Tryd.ntmps16
      go_wp2
      go_ret
      exact ⟨rfl, alloc_below w _⟩
    · go_enter Tryd.func16, Tryd.ntmps16
      go_wp2
      go_ret
      exact ⟨rfl, alloc_below w _⟩
end Go.Proofs.YtgehmidalfajgabDoor
