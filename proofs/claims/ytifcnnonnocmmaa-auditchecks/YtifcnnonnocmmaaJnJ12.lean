import Derived.Test.YtifcnnonnocmmaaJnJ4
import Derived.Test.YtifcnnonnocmmaaJnJ11
import Derived.Maps.AppendAt
import Derived.Maps.OwnIn
import Derived.OwnWalk
import Derived.RangeFuncBox
import Derived.RangeFuncNested
import Derived.Test.YtifcnnonnocmmaaJnJ5
set_option maxHeartbeats 40000000
set_option maxRecDepth 100000
set_option linter.unusedVariables false
namespace Go.Proofs.Ytifcnnonnocmmaa
open Go.RowKit Go.Shelf Go.Lib
theorem cell_of {W : World} {B : Nat} {cs : Array Value} {t : TypeId} {z : Nat × Nat} (h : W.heap[B]? = some (.cells cs t z)) (j : Nat) : W.cell? ⟨B, j, none⟩ = cs[j]? := by simp [World.cell?, h]
theorem ownsRow_block {w : World} {base : Nat} {e : TypeId} {size : Nat} {v : Value} {n : Nat} {xs : List Value} (h : w.ownsRow base e size v n xs) : ∀ g, v.ownBlock = some g → base ≤ g ∧ ∃ cur, w.heap[g]? = some (.cells cur e (0, 0)) := by
 intro g hg
 rcases h.2 with ⟨rfl, _⟩ | ⟨g', cap, cur, rfl, h4, h5, _⟩
 · cases hg
 · cases hg
   exact ⟨h4, cur, h5⟩
theorem ownsRow_base {w : World} {base base' : Nat} {e : TypeId} {size : Nat} {v : Value} {n : Nat} {xs : List Value} (h : w.ownsRow base e size v n xs) (hle : base' ≤ base) : w.ownsRow base' e size v n xs := by
 obtain ⟨h1, h2⟩ := h
 refine ⟨h1, ?_⟩
 rcases h2 with h2 | ⟨g, cap, cur, h3, h4, h5⟩
 · exact .inl h2
 · exact .inr ⟨g, cap, cur, h3, Nat.le_trans hle h4, h5⟩
theorem one_new (W : World) (a : Value) (t : TypeId) : ∀ j u, [a][j]? = some u → (W.alloc (.cells #[a] t)).cell? ((⟨W.heap.size, 0, none⟩ : Addr).add j) = some u := by
 intro j u h
 have hg : (W.alloc (.cells #[a] t)).heap[W.heap.size]? = some (.cells #[a] t) := get_new rfl
 have ha : (⟨W.heap.size, 0, none⟩ : Addr).add j = ⟨W.heap.size, j, none⟩ := by unfold Addr.add; split <;> simp_all
 rw [ha, cell_of hg j, ← h]
 simp
theorem infoInt : (Try.prog.info? 3).map (fun i => (i.zero, i.size, i.bytes)) = some (some (.int .i64 0), 1, 8) := by kernel_rfl
theorem ownsRow_form {w : World} {base : Nat} {e : TypeId} {size : Nat} {v : Value} {n : Nat} {xs : List Value} (h : w.ownsRow base e size v n xs) : ∃ ad cap, v = .slice ad n cap ∧ (0 < n → ∃ g, ad = some ⟨g, 0, none⟩ ∧ base ≤ g ∧ g < w.heap.size ∧ n ≤ cap ∧ ∀ j u, xs[j]? = some u → w.cell? ⟨g, j, none⟩ = some u) := by
 obtain ⟨h1, h2⟩ := h
 rcases h2 with ⟨rfl, rfl⟩ | ⟨g, cap, cur, rfl, h4, h5, h6, h7, h8, h9⟩
 · exact ⟨none, 0, rfl, fun h => absurd h (by omega)⟩
 · refine ⟨some ⟨g, 0, none⟩, cap, rfl, fun _ => ⟨g, rfl, h4, (Array.getElem?_eq_some_iff.1 h5).1, h6, fun j u hj => ?_⟩⟩
   rw [cell_of h5 j, ← hj, ← h9, List.getElem?_take]
   have hjl : j < n * size := by have := (List.getElem?_eq_some_iff.1 hj).1; omega
   rw [if_pos hjl, Array.getElem?_toList]
theorem rIds_any (N : Nat) (w : World) : Calls Try.prog 31 #[sv N] w fun e w' => ∃ v, e = .returned v ∧ w'.ownsRow w.heap.size 3 1 v (idsTo N 100).length (intsV (idsTo N 100)) ∧ Below w.heap.size w w' := by
 obtain ⟨ic, hic, hz0, hz1, hz2⟩ := info_parts infoInt
 have hz := zeroB
 have hr := row_any N
 have hlen : ∀ k, (idsTo N k).length ≤ k := fun k => by rw [idsTo_length]; exact popAux_le k N
 simp only [sv] at hr ⊢
 go_enter Try.func31, Try.ntmps31
 go_wp2_with (first | (go_at_call 32; refine (hr _).mono ?_; rintro e w1 ⟨rfl, hb1⟩) | (refine wpList_store_row rfl 68 _ _ rfl w1.heap.size (bC N.testBit) rfl rfl _ _ (get_new rfl) (by rw [bC_size]; exact sizeB) (by rw [bC_size, bC_size]) (bC_one _) ?_; simp only [World.setRow_alloc_new]))
 have hs1 := hb1.size
 simp only [World.size_alloc] at hs1
 have b1 : Below w.heap.size w w1 := ((Below.refl _ w).alloc (by simp) _).trans (hb1.mono (by simp))
 clear hz hr
 go_loopw [5, 4] (fun c v wz => ∃ k : Nat, c = .int .i64 k ∧ k ≤ 100 ∧ HoldsB wz w1.heap.size N.testBit ∧ wz.ownsRow (w1.heap.size + 1) 3 1 v (idsTo N k).length (intsV (idsTo N k)) ∧ Below w.heap.size w wz) (fun c _ _ => 100 - vnat c)
 case atStart => exact ⟨0, rfl, by omega, get_new rfl, World.ownsRow_nil _ _ _ _, b1.alloc (by omega) _⟩
 case round =>
  obtain ⟨k, rfl, hk, h1, hown, hb⟩ := hrel
  by_cases hk4 : k < 100
  · have hki : (k : Int) < 100 := by omega
    have hc1 := h1.cell k hk4
    have hlt := h1.lt
    have hle := hlen k
    have hsucc := idsTo_succ N k
    cases hp : N.testBit k
    · rw [hp] at hc1 hsucc
      go_wp2
      go_roundw
      case rel => exact ⟨k + 1, by simp, by omega, h1, by rw [hsucc]; simpa using hown, hb⟩
      case measure => simp only [vnat]; omega
    · rw [hp] at hc1 hsucc
      have hsu : Hid (idsTo N (k + 1) = idsTo N k ++ [k]) := hsucc
      clear hsucc
      go_wp2_with (at_builtin; refine wpList_append_own _ rfl _ _ 66 rfl (w1.heap.size + 1) 3 ic _ 1 8 Try.underlying66 hic hz0 hz1 hz2 rfl (by decide) _ _ _ rfl (hown.alloc _) ⟨wr.heap.size, 0, none⟩ 1 1 [.int .i64 (k : Nat)] rfl rfl (one_new _ _ _) (by simp [Value.oneCell']) (by unfold maxLen; omega) (by omega) (by simp; omega) ?_; intro v' w2 hown' hgrow _)
      have hne := ownsRow_block hown
      go_roundw
      case rel =>
       refine ⟨k + 1, by simp, by omega, ?_, ?_, ?_⟩
       · exact (hgrow.block _ (by simp; omega) (fun e => by have := (hne _ e.symm).1; omega)).trans (get_old h1)
       · rw [hsu.out]
         have e1 : (idsTo N k ++ [k]).length = (idsTo N k).length + 1 := by simp
         have e2 : intsV (idsTo N k ++ [k]) = intsV (idsTo N k) ++ [.int .i64 (k : Nat)] := by simp [intsV]
         rw [e1, e2]
         exact hown'
       · exact (hb.alloc (by omega) _).grown hgrow (by simp; omega) (fun g hg => by have := (hne g hg).1; omega)
      case measure => simp only [vnat]; omega
  · have hk5 : k = 100 := by omega
    subst hk5
    go_wp2
    go_ret
    exact ⟨_, rfl, ownsRow_base hown (by omega), hb⟩
theorem rCount_any (N : Nat) (w : World) : Calls Try.prog 19 #[sv N] w fun e w' => e = .returned (.int .i64 ((idsTo N 100).length : Nat)) ∧ Below w.heap.size w w' := by
 have hr := rIds_any N
 simp only [sv] at hr ⊢
 go_enter Try.func19, Try.ntmps19
 go_wp2_with (go_at_call 31; refine (hr _).mono ?_; rintro e w1 ⟨v, rfl, hown, hb1⟩; obtain ⟨ad, cap, rfl, _⟩ := ownsRow_form hown)
 go_ret
 exact ⟨rfl, bcarry (alloc_below w _) (Nat.le_refl _) (by simpa using hb1)⟩
theorem sub_iff (A B : Nat) : ((idsTo (cln (dif A B)) 100).length = 0) = (cln (dif A B) = 0) := by
 rw [idsTo_length]
 apply propext
 constructor
 · intro h
   apply Nat.eq_of_testBit_eq; intro i
   rw [Nat.zero_testBit]
   cases hb : (cln (dif A B)).testBit i with
   | false => rfl
   | true =>
    have hi : i < 100 := by rw [testBit_cln] at hb; simp at hb; exact hb.1
    have hm : i ∈ idsTo (cln (dif A B)) 100 := mem_idsTo.2 ⟨hi, hb⟩
    have hl := idsTo_length (cln (dif A B)) 100
    rw [h] at hl
    rw [List.length_eq_zero_iff.1 hl] at hm
    cases hm
 · intro h; rw [h]; exact popAux_zero 100
theorem rSubset_any (A B : Nat) (w : World) : Calls Try.prog 21 #[sv A, sv B] w fun e w' => e = .returned (.bool (decide (cln (dif A B) = 0))) ∧ Below w.heap.size w w' := by
 have hl := rLess_any A B
 have hc := rCount_any (cln (dif A B))
 have he : (((idsTo (cln (dif A B)) 100).length : Int) == 0) = decide (cln (dif A B) = 0) := by
  have := sub_iff A B
  by_cases h : (idsTo (cln (dif A B)) 100).length = 0
  · have h2 : cln (dif A B) = 0 := by rw [← this]; exact h
    rw [h]; simp [h2]
  · have h2 : ¬ cln (dif A B) = 0 := by rw [← this]; exact h
    have h3 : ¬ ((idsTo (cln (dif A B)) 100).length : Int) = 0 := by omega
    rw [beq_eq_false_iff_ne.2 h3]; simp [h2]
 generalize (idsTo (cln (dif A B)) 100).length = z at *
 generalize cln (dif A B) = M at *
 simp only [sv] at hl hc ⊢
 go_enter Try.func21, Try.ntmps21
 go_wp2_with (first | (go_at_call 33; refine (hl _).mono ?_; rintro e w1 ⟨rfl, hb1⟩) | (go_at_call 19; refine (hc _).mono ?_; rintro e w2 ⟨rfl, hb2⟩))
 go_ret
 exact ⟨rfl, bcarry (bcarry (((Below.refl _ w).alloc (by simp) _).alloc (by simp) _) (Nat.le_refl _) hb1) (Nat.le_refl _) hb2⟩
theorem idxvB (p : Nat → Bool) (k : Nat) (hk : k < 100) (w : World) : (Instr.index 68 (.agg (bC p)) (.int .i64 (k : Int))).run Try.prog w = .ok (.bool (p k)) w := by
 have h2 : 0 ≤ (k : Int) := by omega
 have he : Try.prog.plainKey 4 = true := by kernel_rfl
 have hi : (Try.prog.info? 4).isSome = true := by kernel_rfl
 obtain ⟨i, hi⟩ := Option.isSome_iff_exists.1 hi
 have hc : Try.prog.cellsOf 4 = 1 := by kernel_rfl
 have p1 := run_part_plain (P := Try.prog) w he (off := k * 1) (by rw [Nat.mul_one]; exact bC_get p k hk)
 simp only [Instr.index, asIntOf, Sem.run_bind, Sem.run_pure, Result.andThen_ok, run_underlying Try.underlying68]
 have h3 : (0 : Int) ≤ (k : Int) ∧ (k : Int) < ((100 : Nat) : Int) := ⟨h2, by omega⟩
 rw [if_pos h3]
 simp only [Sem.run_bind, run_sizeOf w hi, Result.andThen_ok, hc, Int.toNat_natCast]
 exact p1
theorem rHas_any (N : Nat) (id : Int) (w : World) : Calls Try.prog 20 #[sv N, .int .i64 id] w fun e w' => e = .returned (.bool (hasB N id)) ∧ Below w.heap.size w w' := by
 have hr := row_any N
 simp only [sv] at hr ⊢
 by_cases h : 0 ≤ id ∧ id < 100
 · obtain ⟨i, rfl⟩ := Int.eq_ofNat_of_zero_le h.1
   have hi : i < 100 := by omega
   have t1 : (i : Int) ≥ 0 := by omega
   have t3 : (i : Int) < 100 := by omega
   have hix := idxvB N.testBit i hi
   have hV : hasB N (i : Int) = N.testBit i := by simp [hasB, h]
   rw [hV]
   go_enter Try.func20, Try.ntmps20
   go_wp2_with (go_at_call 32; refine (hr _).mono ?_; rintro e w1 ⟨rfl, hb1⟩)
   go_ret
   exact ⟨rfl, bcarry (alloc_below w _) (Nat.le_refl _) hb1⟩
 · have hV : hasB N id = false := by simp [hasB, h]
   rw [hV]
   by_cases t1 : id ≥ 0
   · have t2 : ¬ id < 100 := by omega
     go_enter Try.func20, Try.ntmps20
     go_wp2
     go_ret
     exact ⟨rfl, alloc_below w _⟩
   · go_enter Try.func20, Try.ntmps20
     go_wp2
     go_ret
     exact ⟨rfl, alloc_below w _⟩
theorem rWithin_any (N : Nat) (hN : N < S128) (n : Int) (w : World) : Calls Try.prog 18 #[sv N, .int .i64 n] w fun e w' => e = .returned (.bool (wthB N n)) ∧ Below w.heap.size w w' := by
 simp only [sv]
 go_enter Try.func18, Try.ntmps18
 go_wp2
 go_loopw [5] (fun c wz => ∃ k : Nat, c = .int .i64 k ∧ k ≤ 128 ∧ (∀ i, i < k → N.testBit i = true → i < topW n) ∧ Zh4 wz w.heap.size (wd N) ∧ Below w.heap.size w wz) (fun c _ => 128 - vnat c)
 case atStart => exact ⟨0, rfl, by omega, fun i h => by omega, get_new (by simp), alloc_below w _⟩
 case round =>
  obtain ⟨k, rfl, hk, he, h1, hb⟩ := hrel
  by_cases hk4 : k < 128
  · have hki : (k : Int) < 128 := by omega
    have hq : k / 32 < 4 := by omega
    have hq' : (k : Int) / 32 < 4 := by omega
    have hc1 := h1.cell (k / 32) hq
    have hbit : (bits BinOp.and IntKind.u32 ((wd N (k / 32) : Int) / 2 ^ (k % 32)) 1 == 1) = N.testBit k := by
      have e : (wd N (k / 32) : Int) / 2 ^ (k % 32) = ((wd N (k / 32) / 2 ^ (k % 32) : Nat) : Int) := by simp
      have hl : wd N (k / 32) / 2 ^ (k % 32) < 4294967296 := Nat.lt_of_le_of_lt (Nat.div_le_self _ _) (wd_lt N _)
      rw [e, show (1 : Int) = ((1 : Nat) : Int) from rfl, u32_and_nat _ _ hl (by omega), ← bit_word N k, ← shr_bit]
      by_cases h : wd N (k / 32) / 2 ^ (k % 32) &&& 1 = 1
      · rw [h]; rfl
      · have h2 : ¬ ((wd N (k / 32) / 2 ^ (k % 32) &&& 1 : Nat) : Int) = ((1 : Nat) : Int) := by omega
        rw [beq_eq_false_iff_ne.2 h, beq_eq_false_iff_ne.2 h2]
    have hbad : N.testBit k = true → ¬ k < topW n → wthB N n = false := by
      intro h2 h3
      unfold wthB
      rw [decide_eq_false_iff_not]
      intro h4
      have h5 : (N % 2 ^ topW n).testBit k = true := by rw [← h4]; exact h2
      rw [Nat.testBit_mod_two_pow] at h5
      simp [h3] at h5
    have htop := topW_lt n k
    cases hb0 : N.testBit k
    · rw [hb0] at hbit
      clear hbad htop
      go_wp2
      go_roundw
      case rel => exact ⟨k + 1, by simp, by omega, fun i hi h2 => by
        by_cases e : i = k
        · subst e; rw [hb0] at h2; cases h2
        · exact he i (by omega) h2, h1, hb⟩
      case measure => simp only [vnat]; omega
    · rw [hb0] at hbit hbad
      by_cases t1 : (k : Int) ≥ n
      · have t1' : n ≤ (k : Int) := t1
        have hres := hbad rfl (fun c => by have := htop.1 c; omega)
        clear hbad htop
        go_wp2
        go_ret
        first | exact ⟨rfl, hb⟩ | exact ⟨ret_bool hres.symm, hb⟩
      · by_cases t2 : (k : Int) ≥ 100
        · have t2' : 100 ≤ (k : Int) := t2
          have hres := hbad rfl (fun c => by have := htop.1 c; omega)
          clear hbad htop
          go_wp2
          go_ret
          first | exact ⟨rfl, hb⟩ | exact ⟨ret_bool hres.symm, hb⟩
        · have hkt : k < topW n := htop.2 ⟨by omega, by omega⟩
          clear hbad htop
          go_wp2
          go_roundw
          case rel => exact ⟨k + 1, by simp, by omega, fun i hi h2 => by
           by_cases e : i = k
           · subst e; exact hkt
           · exact he i (by omega) h2, h1, hb⟩
          case measure => simp only [vnat]; omega
  · have hk5 : k = 128 := by omega
    subst hk5
    have hres : wthB N n = true := by
      unfold wthB
      rw [decide_eq_true_eq]
      apply Nat.eq_of_testBit_eq; intro i
      rw [Nat.testBit_mod_two_pow]
      by_cases hi : i < 128
      · cases h2 : N.testBit i with
        | false => simp
        | true => simp [he i hi h2]
      · have : N.testBit i = false := Nat.testBit_lt_two_pow (Nat.lt_of_lt_of_le hN (Nat.pow_le_pow_right (n := 2) (i := 128) (by decide) (by omega)))
        simp [this]
    go_wp2
    go_ret
    first | exact ⟨rfl, hb⟩ | exact ⟨ret_bool hres.symm, hb⟩
end Go.Proofs.Ytifcnnonnocmmaa
