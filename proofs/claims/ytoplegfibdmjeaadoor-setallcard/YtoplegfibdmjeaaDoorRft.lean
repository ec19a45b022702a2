/- The document's Ids, Count, Subset, Order, Least, Nth, Has, With, Without: what they answer, at every input. -/
import Derived.Test.YtoplegfibdmjeaaDoorRfs
import Derived.Test.YtoplegfibdmjeaaDoorOwn
import Derived.Test.YtoplegfibdmjeaaDoorWth
namespace Go.Proofs.YtoplegfibdmjeaaDoor
open Go.RowKit Go.Shelf Go.Lib

set_option maxHeartbeats 1000000 in
set_option maxRecDepth 100000 in
theorem rIds_any (N : Nat) (w : World) : Calls Tryd.prog 7 #[sv N] w fun e w' => ∃ v, e = .returned v ∧ w'.ownsRow w.heap.size 3 1 v (idsTo N 100).length (intsV (idsTo N 100)) ∧ Below w.heap.size w w' := by
  obtain ⟨ic, hic, hz0, hz1, hz2⟩ := info_parts infoInt
  have hz := zeroB
  have hr := row_any N
  have hlen : ∀ k, (idsTo N k).length ≤ k := fun k => by rw [idsTo_length]; exact popAux_le k N
  simp only [sv] at hr ⊢
  go_enter Tryd.func7, Tryd.ntmps7
  go_wp2_with (first | (go_at_call 14; refine (hr _).mono ?_; rintro e w1 ⟨rfl, hb1⟩) | (refine wpList_store_row rfl 55 _ _ rfl w1.heap.size (bC N.testBit) rfl rfl _ _ (get_new rfl) (by rw [bC_size]; exact sizeB) (by rw [bC_size, bC_size]) (bC_one _) ?_; simp only [World.setRow_alloc_new]))
  have hs1 := hb1.size
  simp only [World.size_alloc] at hs1
  have b1 : Below w.heap.size w w1 := ((Below.refl _ w).alloc (by simp) _).trans (hb1.mono (by simp))
  clear hz hr
  go_loopw [5, 4] (fun c v wz => ∃ k : Nat, c = .int .i64 k ∧ k ≤ 100 ∧ HoldsB wz w1.heap.size N.testBit ∧ wz.ownsRow (w1.heap.size + 1) 3 1 v (idsTo N k).length (intsV (idsTo N k)) ∧ Below w.heap.size w wz) (fun c _ _ => 100 - vnat c)
  case atStart => exact ⟨0, rfl, by omega, get_new rfl, World.ownsRow_nil _ _ _ _, b1.alloc (by omega) _⟩
  case round =>
    obtain ⟨k, rfl, hk, h1, hown, hb⟩ := hrel
    by_cases hk4 : k < 100
    · have hki : (k : Int) < 100 := by omega
      have hc1 := h1.cell k hk4
      have hlt := h1.lt
      have hle := hlen k
      have hsucc := idsTo_succ N k
      cases hp : N.testBit k
      · rw [hp] at hc1 hsucc
        go_wp2
        go_roundw
        case rel => exact ⟨k + 1, by simp, by omega, h1, by rw [hsucc]; simpa using hown, hb⟩
        case measure => simp only [vnat]; omega
      · rw [hp] at hc1 hsucc
        have hsu : Hid (idsTo N (k + 1) = idsTo N k ++ [k]) := hsucc
        clear hsucc
        go_wp2_with (at_builtin; refine wpList_append_own _ rfl _ _ 42 rfl (w1.heap.size + 1) 3 ic _ 1 8 Tryd.underlying42 hic hz0 hz1 hz2 rfl (by decide) _ _ _ rfl (hown.alloc _) ⟨wr.heap.size, 0, none⟩ 1 1 [.int .i64 (k : Nat)] rfl rfl (one_new _ _ _) (by simp [Value.oneCell']) (by unfold maxLen; omega) (by omega) (by simp; omega) ?_; intro v' w2 hown' hgrow _)
        have hne := ownsRow_block hown
        go_roundw
        case rel =>
          refine ⟨k + 1, by simp, by omega, ?_, ?_, ?_⟩
          · exact (hgrow.block _ (by simp; omega) (fun e => by have := (hne _ e.symm).1; omega)).trans (get_old h1)
          · rw [hsu.out]
            have e1 : (idsTo N k ++ [k]).length = (idsTo N k).length + 1 := by simp
            have e2 : intsV (idsTo N k ++ [k]) = intsV (idsTo N k) ++ [.int .i64 (k : Nat)] := by simp [intsV]
            rw [e1, e2]
            exact hown'
          · exact (hb.alloc (by omega) _).grown hgrow (by simp; omega) (fun g hg => by have := (hne g hg).1; omega)
        case measure => simp only [vnat]; omega
    · have hk5 : k = 100 := by omega
      subst hk5
      go_wp2
      go_ret
      exact ⟨_, rfl, ownsRow_base hown (by omega), hb⟩

theorem idxvB (p : Nat → Bool) (k : Nat) (hk : k < 100) (w : World) : (Instr.index 55 (.agg (bC p)) (.int .i64 (k : Int))).run Tryd.prog w = .ok (.bool (p k)) w := by
  have h2 : 0 ≤ (k : Int) := by omega
  have he : Tryd.prog.plainKey 4 = true := by kernel_rfl
  have hi : (Tryd.prog.info? 4).isSome = true := by kernel_rfl
  obtain ⟨i, hi⟩ := Option.isSome_iff_exists.1 hi
  have hc : Tryd.prog.cellsOf 4 = 1 := by kernel_rfl
  have p1 := run_part_plain (P := Tryd.prog) w he (off := k * 1) (by rw [Nat.mul_one]; exact bC_get p k hk)
  simp only [Instr.index, asIntOf, Sem.run_bind, Sem.run_pure, Result.andThen_ok, run_underlying Tryd.underlying55]
  have h3 : (0 : Int) ≤ (k : Int) ∧ (k : Int) < ((100 : Nat) : Int) := ⟨h2, by omega⟩
  rw [if_pos h3]
  simp only [Sem.run_bind, run_sizeOf w hi, Result.andThen_ok, hc, Int.toNat_natCast]
  exact p1
theorem mkN_with (N i : Nat) (hi : i < 100) : mkN (fun j => if j = i then true else N.testBit j) 100 = cln N ||| 2 ^ i := mkN_eq (fun j => by
  rw [Nat.testBit_or, testBit_cln, Nat.testBit_two_pow]
  by_cases e : j = i
  · subst e; simp [hi]
  · have e2 : ¬ i = j := fun c => e c.symm
    simp [e, e2])
theorem mkN_less (N i : Nat) : mkN (fun j => if j = i then false else N.testBit j) 100 = dif (cln N) (2 ^ i) := mkN_eq (fun j => by
  rw [testBit_dif, testBit_cln, Nat.testBit_two_pow]
  by_cases e : j = i
  · subst e; simp
  · have e2 : ¬ i = j := fun c => e c.symm
    simp [e, e2])
end Go.Proofs.YtoplegfibdmjeaaDoor
