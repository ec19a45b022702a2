import Derived.Test.YtgiddgejlliefaaGreatDoorJnJ3
namespace Go.Proofs.YtgiddgejlliefaaGreatDoor
set_option maxHeartbeats 40000000
set_option maxRecDepth 100000
set_option linter.unusedVariables false
open Go.RowKit Go.Shelf Go.Lib
theorem union_any (A B : Nat) (w : World) : Calls Tryz.prog 222 #[sv A, sv B] w fun e w' => e = .returned (sv (cln (A ||| B))) ∧ Below w.heap.size w w' := by
 have hmx := mixO
 have hc := clean_any (A ||| B)
 have hmix : ∀ k j, (if j = k then wd A k ||| wd B k else if j < k then wd (A ||| B) j else wd A j) = if j < k + 1 then wd (A ||| B) j else wd A j := by
  intro k j
  by_cases q : j = k
  · subst q; simp [wd_or]
  · by_cases q2 : j < k
    · rw [if_neg q, if_pos q2, if_pos (by omega)]
    · rw [if_neg q, if_neg q2, if_neg (by omega)]
 simp only [sv] at hc ⊢
 go_enter Tryz.func222, Tryz.ntmps222
 go_wp2
 go_loopw [6] (fun c wz => ∃ k : Nat, c = .int .i64 k ∧ k ≤ 4 ∧ Zh4 wz w.heap.size (fun j => if j < k then wd (A ||| B) j else wd A j) ∧ Zh4 wz (w.heap.size + 1) (wd B) ∧ Zh4 wz (w.heap.size + 2) (fun _ => 0) ∧ Below w.heap.size w wz) (fun c _ => 4 - vnat c)
 case atStart =>
  refine ⟨0, rfl, by omega, ?_, ?_, ?_, ?_⟩
  · exact get_old (get_old (get_new (by simp)))
  · exact get_old (get_new (by simp))
  · exact get_new (by simp)
  · exact (((Below.refl _ w).alloc (by simp) _).alloc (by simp) _).alloc (by simp; omega) _
 case round =>
  obtain ⟨k, rfl, hk, h1, h3, h2, hb⟩ := hrel
  have hz : w.heap.size + 2 < wr.heap.size := (Array.getElem?_eq_some_iff.1 h2).1
  by_cases hk4 : k < 4
  · have hki : (k : Int) < 4 := by omega
    have ha : wd A k < 4294967296 := wd_lt A k
    have hbb : wd B k < 4294967296 := wd_lt B k
    clear hc
    go_wp2
    rename_i Q0 K0 hK
    refine wp_region_any hmx ?_
    refine zwl 8 (fun i__ => ([(.int .i64 (k : Int)), (.pointer (some ⟨w.heap.size, k, none⟩)), (.int .u32 ((wd A k : Nat) : Int)), (.int .i64 (k : Int)), (.pointer (some ⟨w.heap.size + 1, k, none⟩)), (.int .u32 ((wd B k : Nat) : Int)), (.int .u32 ((wd A k ||| wd B k : Nat) : Int)), (.pointer (some ⟨w.heap.size, k, none⟩)), undef] : List Value).getD i__ undef) (fun W => Zh4 W w.heap.size (fun j => if j < k then wd (A ||| B) j else wd A j) ∧ Zh4 W (w.heap.size + 1) (wd B) ∧ Zh4 W (w.heap.size + 2) (fun _ => 0) ∧ Below w.heap.size w W) (fun W => Zh4 W w.heap.size (fun j => if j < k + 1 then wd (A ||| B) j else wd A j) ∧ Zh4 W (w.heap.size + 1) (wd B) ∧ Zh4 W (w.heap.size + 2) (fun _ => 0) ∧ Below w.heap.size w W) rfl (by kernel_rfl) (by kernel_rfl) ⟨h1, h3, h2, hb.drew⟩ ?_ ?_  ?_
    · refine (sqc ?_ (sqc ?_ (sqc ?_ (sqc ?_ (sqc ?_ (sqc ?_ (sqc ?_ (sqc ?_ trivial))))))))
      · exact zmv rfl trivial _ rfl (by kernel_rfl)
      · exact zia rfl trivial _ _ _ _ _ rfl rfl rfl (fun w hw => idx4 _ k hk4 w)
      · exact zld rfl trivial _ _ _ rfl rfl (fun w hw => by have := load4 w _ k _ hw.1 hk4; simpa using this)
      · exact zmv rfl trivial _ rfl (by kernel_rfl)
      · exact zia rfl trivial _ _ _ _ _ rfl rfl rfl (fun w hw => idx4 _ k hk4 w)
      · exact zld rfl trivial _ _ _ rfl rfl (fun w hw => load4 w _ k _ hw.2.1 hk4)
      · exact zbo rfl trivial _ _ _ _ _ _ _ rfl rfl rfl (fun w hw => bin_or32 _ _ ha hbb)
      · exact zia rfl trivial _ _ _ _ _ rfl rfl rfl (fun w hw => idx4 _ k hk4 w)
    · intro o ho
      cases ho
      exact step_store rfl trivial rfl _ _ _ _ _ rfl rfl rfl (fun w' hw => by obtain ⟨w2, e1, e2, e3, e4⟩ := store4 w' _ k _ _ hw.1 hk4; refine ⟨w2, e1, e2.congr (fun j hj => ?_), (e4 _ (by omega)).trans hw.2.1, (e4 _ (by omega)).trans hw.2.2.1, hw.2.2.2.trans (e3 _ (Nat.le_refl _))⟩; exact hmix k j)
    intro W hW
    first | refine hK _ _ ?_ | refine (‹∀ (a : Act) (w : World), Code.wp Tryz.prog _ _ a w → _›) _ _ ?_
    simp only [finL, List.getD_cons_zero, List.getD_cons_succ, Nat.zero_add, Nat.reduceAdd, List.setIfInBounds_toArray, List.set_cons_zero, List.set_cons_succ]
    obtain ⟨g1, g3, g2, g4⟩ := hW
    go_wp2
    go_roundw
    case rel => exact ⟨k + 1, by simp, by omega, g1, g3, g2, g4⟩
    case measure => simp only [vnat]; omega
  · have hk5 : k = 4 := by omega
    subst hk5
    have h1' : Zh4 wr w.heap.size (wd (A ||| B)) := h1.congr (fun j hj => by simp [hj])
    obtain ⟨x0, x1, x2, x3, _⟩ := h1'.facts
    have H2 : Hid (Zh4 wr (w.heap.size + 2) (fun _ => 0)) := h2
    clear h1 h1' h2 hmix
    go_wp2_with (go_at_call 45; refine (hc _).mono ?_; rintro e w' ⟨rfl, hb'⟩; have q : Hid (Zh4 w' (w.heap.size + 2) (fun _ => 0)) := (hb'.block _ (by omega)).trans H2.out; obtain ⟨y0, y1, y2, y3, z0, z1, z2, z3⟩ := q.out.facts; have hb2 : Below w.heap.size w w' := hb.trans (hb'.mono (by omega)))
    exact ret4 rfl rfl rfl (fin4 q.out _) ⟨rfl, below4 hb2 (by omega) _⟩
theorem less_any (A B : Nat) (w : World) : Calls Tryz.prog 47 #[sv A, sv B] w fun e w' => e = .returned (sv (cln (dif A B))) ∧ Below w.heap.size w w' := by
 have hmx := mixO
 have hc := clean_any (dif A B)
 have hmix : ∀ k j, (if j = k then wd A k &&& (4294967295 - wd B k) else if j < k then wd (dif A B) j else wd A j) = if j < k + 1 then wd (dif A B) j else wd A j := by
  intro k j
  by_cases q : j = k
  · subst q; simp [wd_dif]
  · by_cases q2 : j < k
    · rw [if_neg q, if_pos q2, if_pos (by omega)]
    · rw [if_neg q, if_neg q2, if_neg (by omega)]
 simp only [sv] at hc ⊢
 go_enter Tryz.func47, Tryz.ntmps47
 go_wp2
 go_loopw [6] (fun c wz => ∃ k : Nat, c = .int .i64 k ∧ k ≤ 4 ∧ Zh4 wz w.heap.size (fun j => if j < k then wd (dif A B) j else wd A j) ∧ Zh4 wz (w.heap.size + 1) (wd B) ∧ Zh4 wz (w.heap.size + 2) (fun _ => 0) ∧ Below w.heap.size w wz) (fun c _ => 4 - vnat c)
 case atStart =>
  refine ⟨0, rfl, by omega, ?_, ?_, ?_, ?_⟩
  · exact get_old (get_old (get_new (by simp)))
  · exact get_old (get_new (by simp))
  · exact get_new (by simp)
  · exact (((Below.refl _ w).alloc (by simp) _).alloc (by simp) _).alloc (by simp; omega) _
 case round =>
  obtain ⟨k, rfl, hk, h1, h3, h2, hb⟩ := hrel
  have hz : w.heap.size + 2 < wr.heap.size := (Array.getElem?_eq_some_iff.1 h2).1
  by_cases hk4 : k < 4
  · have hki : (k : Int) < 4 := by omega
    have ha : wd A k < 4294967296 := wd_lt A k
    have hbb : wd B k < 4294967296 := wd_lt B k
    clear hc
    go_wp2
    rename_i Q0 K0 hK
    refine wp_region_any hmx ?_
    refine zwl 8 (fun i__ => ([(.int .i64 (k : Int)), (.pointer (some ⟨w.heap.size, k, none⟩)), (.int .u32 ((wd A k : Nat) : Int)), (.int .i64 (k : Int)), (.pointer (some ⟨w.heap.size + 1, k, none⟩)), (.int .u32 ((wd B k : Nat) : Int)), (.int .u32 ((wd A k &&& (4294967295 - wd B k) : Nat) : Int)), (.pointer (some ⟨w.heap.size, k, none⟩)), undef] : List Value).getD i__ undef) (fun W => Zh4 W w.heap.size (fun j => if j < k then wd (dif A B) j else wd A j) ∧ Zh4 W (w.heap.size + 1) (wd B) ∧ Zh4 W (w.heap.size + 2) (fun _ => 0) ∧ Below w.heap.size w W) (fun W => Zh4 W w.heap.size (fun j => if j < k + 1 then wd (dif A B) j else wd A j) ∧ Zh4 W (w.heap.size + 1) (wd B) ∧ Zh4 W (w.heap.size + 2) (fun _ => 0) ∧ Below w.heap.size w W) rfl (by kernel_rfl) (by kernel_rfl) ⟨h1, h3, h2, hb.drew⟩ ?_ ?_  ?_
    · refine (sqc ?_ (sqc ?_ (sqc ?_ (sqc ?_ (sqc ?_ (sqc ?_ (sqc ?_ (sqc ?_ trivial))))))))
      · exact zmv rfl trivial _ rfl (by kernel_rfl)
      · exact zia rfl trivial _ _ _ _ _ rfl rfl rfl (fun w hw => idx4 _ k hk4 w)
      · exact zld rfl trivial _ _ _ rfl rfl (fun w hw => by have := load4 w _ k _ hw.1 hk4; simpa using this)
      · exact zmv rfl trivial _ rfl (by kernel_rfl)
      · exact zia rfl trivial _ _ _ _ _ rfl rfl rfl (fun w hw => idx4 _ k hk4 w)
      · exact zld rfl trivial _ _ _ rfl rfl (fun w hw => load4 w _ k _ hw.2.1 hk4)
      · exact zbo rfl trivial _ _ _ _ _ _ _ rfl rfl rfl (fun w hw => bin_andNot32 _ _ ha hbb)
      · exact zia rfl trivial _ _ _ _ _ rfl rfl rfl (fun w hw => idx4 _ k hk4 w)
    · intro o ho
      cases ho
      exact step_store rfl trivial rfl _ _ _ _ _ rfl rfl rfl (fun w' hw => by obtain ⟨w2, e1, e2, e3, e4⟩ := store4 w' _ k _ _ hw.1 hk4; refine ⟨w2, e1, e2.congr (fun j hj => ?_), (e4 _ (by omega)).trans hw.2.1, (e4 _ (by omega)).trans hw.2.2.1, hw.2.2.2.trans (e3 _ (Nat.le_refl _))⟩; exact hmix k j)
    intro W hW
    first | refine hK _ _ ?_ | refine (‹∀ (a : Act) (w : World), Code.wp Tryz.prog _ _ a w → _›) _ _ ?_
    simp only [finL, List.getD_cons_zero, List.getD_cons_succ, Nat.zero_add, Nat.reduceAdd, List.setIfInBounds_toArray, List.set_cons_zero, List.set_cons_succ]
    obtain ⟨g1, g3, g2, g4⟩ := hW
    go_wp2
    go_roundw
    case rel => exact ⟨k + 1, by simp, by omega, g1, g3, g2, g4⟩
    case measure => simp only [vnat]; omega
  · have hk5 : k = 4 := by omega
    subst hk5
    have h1' : Zh4 wr w.heap.size (wd (dif A B)) := h1.congr (fun j hj => by simp [hj])
    obtain ⟨x0, x1, x2, x3, _⟩ := h1'.facts
    have H2 : Hid (Zh4 wr (w.heap.size + 2) (fun _ => 0)) := h2
    clear h1 h1' h2 hmix
    go_wp2_with (go_at_call 45; refine (hc _).mono ?_; rintro e w' ⟨rfl, hb'⟩; have q : Hid (Zh4 w' (w.heap.size + 2) (fun _ => 0)) := (hb'.block _ (by omega)).trans H2.out; obtain ⟨y0, y1, y2, y3, z0, z1, z2, z3⟩ := q.out.facts; have hb2 : Below w.heap.size w w' := hb.trans (hb'.mono (by omega)))
    exact ret4 rfl rfl rfl (fin4 q.out _) ⟨rfl, below4 hb2 (by omega) _⟩
theorem Zh4.carry {w w' : World} {b : Nat} {c : Nat → Nat} (h : Zh4 w b c) (hb : Below w.heap.size w w') : Zh4 w' b c := h.keep hb (Array.getElem?_eq_some_iff.1 h).1
theorem bcarry {w0 w w' : World} {B : Nat} (h : Below B w0 w) (hB : B ≤ w0.heap.size) (hb : Below w.heap.size w w') : Below B w0 w' := h.trans (hb.mono (Nat.le_trans hB h.size))
theorem eqStep (A B j : Nat) (hj : j < 4) (is : List Nat) (w : World) : (Op.eqItems 9999 31 1 (cells4 (wd A)) (cells4 (wd B)) (j :: is)).run Tryz.prog w = if wd A j = wd B j then (Op.eqItems 9999 31 1 (cells4 (wd A)) (cells4 (wd B)) is).run Tryz.prog w else .ok false w := by
 have he : Tryz.prog.plainKey 31 = true := by kernel_rfl
 have p1 := run_part_plain (P := Tryz.prog) w he (off := j * 1) (by rw [Nat.mul_one]; exact cells4_get (wd A) j hj)
 have p2 := run_part_plain (P := Tryz.prog) w he (off := j * 1) (by rw [Nat.mul_one]; exact cells4_get (wd B) j hj)
 have p3 := run_equalIn_int (P := Tryz.prog) w 9998 31 .u32 .u32 (wd A j : Int) (wd B j : Int) Tryz.underlying31
 rw [Op.eqItems]
 simp only [Sem.run_bind, p1, p2, Result.andThen_ok]
 rw [p3]
 simp only [Result.andThen_ok]
 by_cases h : wd A j = wd B j
 · simp [h]
 · have h2 : ((wd A j : Int) == (wd B j : Int)) = false := by simp; omega
   simp [h, h2]
theorem eqn4 (A B : Nat) (hA : A < S128) (hB : B < S128) (w : World) : (Op.equalIn 10000 33 (sv A) (sv B)).run Tryz.prog w = .ok (decide (A = B)) w := by
 have hi : (Tryz.prog.info? 31).isSome = true := by kernel_rfl
 obtain ⟨i, hi⟩ := Option.isSome_iff_exists.1 hi
 have hc : Tryz.prog.cellsOf 31 = 1 := by kernel_rfl
 rw [sv_cells, sv_cells, run_equalIn_array w 9999 _ _ Tryz.underlying33 hi, hc, show List.range 4 = [0, 1, 2, 3] from rfl]
 rw [eqStep A B 0 (by decide), eqStep A B 1 (by decide), eqStep A B 2 (by decide), eqStep A B 3 (by decide)]
 by_cases e : A = B
 · subst e; simp [Op.eqItems]
 · have hn : ¬ (wd A 0 = wd B 0 ∧ wd A 1 = wd B 1 ∧ wd A 2 = wd B 2 ∧ wd A 3 = wd B 3) := fun h => e (ext_wd hA hB h.1 h.2.1 h.2.2.1 h.2.2.2)
   simp only [e, decide_false]
   by_cases h0 : wd A 0 = wd B 0
   · by_cases h1 : wd A 1 = wd B 1
     · by_cases h2 : wd A 2 = wd B 2
       · by_cases h3 : wd A 3 = wd B 3
         · exact absurd ⟨h0, h1, h2, h3⟩ hn
         · simp [h0, h1, h2, h3]
       · simp [h0, h1, h2]
     · simp [h0, h1]
   · simp [h0]
theorem eql4 (x y : Operand) (A B : Nat) (hA : A < S128) (hB : B < S128) (w : World) : binRun Tryz.prog .eql 33 x y (sv A) (sv B) w = .ok (.bool (decide (A = B))) w := by
 have h := eqn4 A B hA hB w
 unfold sv at h
 unfold binRun sv
 go_simp
def sumW (M : Nat) : Nat → Nat
 | 0 => 0
 | k + 1 => sumW M k + popAux 32 (wd M k)
theorem sumW_4 (M : Nat) : sumW M 4 = cnt M := by simp [sumW, cnt_words]
theorem sumW_le (M : Nat) : ∀ k, sumW M k ≤ 32 * k
 | 0 => Nat.le_refl _
 | k + 1 => by have := sumW_le M k; have := popAux_le 32 (wd M k); simp only [sumW]; omega
theorem idxv4 (M k : Nat) (hk : k < 4) (w : World) : (Instr.index 33 (sv M) (.int .i64 (k : Int))).run Tryz.prog w = .ok (.int .u32 (wd M k : Nat)) w := by
 have h1 : (k : Int) < 4 := by omega
 have h2 : 0 ≤ (k : Int) := by omega
 have he : Tryz.prog.plainKey 31 = true := by kernel_rfl
 have hi : (Tryz.prog.info? 31).isSome = true := by kernel_rfl
 obtain ⟨i, hi⟩ := Option.isSome_iff_exists.1 hi
 have hc : Tryz.prog.cellsOf 31 = 1 := by kernel_rfl
 have p1 := run_part_plain (P := Tryz.prog) w he (off := k * 1) (by rw [Nat.mul_one]; exact cells4_get (wd M) k hk)
 rw [sv_cells]
 simp only [Instr.index, asIntOf, Sem.run_bind, Sem.run_pure, Result.andThen_ok, run_underlying Tryz.underlying33]
 have h3 : (0 : Int) ≤ (k : Int) ∧ (k : Int) < ((4 : Nat) : Int) := ⟨h2, by omega⟩
 rw [if_pos h3]
 simp only [Sem.run_bind, run_sizeOf w hi, Result.andThen_ok, hc, Int.toNat_natCast]
 exact p1
theorem count_any (N : Nat) (w : World) : Calls Tryz.prog 16 #[sv N] w fun e w' => e = .returned (.int .i64 ((cnt (cln N) : Nat) : Int)) ∧ Below w.heap.size w w' := by
 have hc := clean_any N
 have hix := idxv4 (cln N)
 generalize cln N = M at *
 simp only [sv] at hc hix ⊢
 go_enter Tryz.func16, Tryz.ntmps16
 go_wp2_with (go_at_call 45; refine (hc _).mono ?_; rintro e w1 ⟨rfl, hb⟩; have hb2 : Below w.heap.size w w1 := ((Below.refl _ w).alloc (by simp) _).trans (hb.mono (by simp)))
 clear hc hb
 go_loopw [8, 3] (fun c s wz => ∃ k : Nat, c = .int .i64 k ∧ k ≤ 4 ∧ s = .int .i64 ((sumW M k : Nat) : Int) ∧ Below w.heap.size w wz) (fun c _ _ => 4 - vnat c)
 case atStart => exact ⟨0, rfl, by omega, rfl, hb2⟩
 case round =>
  obtain ⟨k, rfl, hk, rfl, hb⟩ := hrel
  by_cases hk4 : k < 4
  · have hki : (k : Int) < 4 := by omega
    have h2 := hix k hk4
    have h3 := ones_any (wd M k) (wd_lt M k)
    have h4 := sumW_le M k
    have h5 := popAux_le 32 (wd M k)
    clear hix
    go_wp2_with (go_at_call 46; refine (h3 _).mono ?_; rintro e w1 ⟨rfl, rfl⟩)
    go_roundw
    case rel => exact ⟨k + 1, by simp, by omega, by simp only [sumW]; congr 1, hb.drew⟩
    case measure => simp only [vnat]; omega
  · have hk5 : k = 4 := by omega
    subst hk5
    go_wp2
    go_ret
    exact ⟨ret_int (by rw [sumW_4]), hb⟩
theorem hold4 {w : World} {b B M : Nat} (h : B ≠ b) : (set4 w b M).heap[B]? = w.heap[B]? := by
 unfold set4
 rw [Below.heap_setCell _ _ _ _ h, Below.heap_setCell _ _ _ _ h, Below.heap_setCell _ _ _ _ h, Below.heap_setCell _ _ _ _ h]
theorem subset_any (A B : Nat) (w : World) : Calls Tryz.prog 17 #[sv A, sv B] w fun e w' => e = .returned (.bool (decide (cln (dif A B) = 0))) ∧ Below w.heap.size w w' := by
 have hc := less_any A B
 have hq := eqn4 (cln (dif A B)) 0 (cln_lt' _) (by decide)
 generalize cln (dif A B) = M at *
 have e0 : sv 0 = .agg #[.int .u32 0, .int .u32 0, .int .u32 0, .int .u32 0] := by simp [sv, wd]
 rw [e0] at hq
 simp only [sv] at hc hq ⊢
 go_enter Tryz.func17, Tryz.ntmps17
 go_wp2_with (go_at_call 47; refine (hc _).mono ?_; rintro e w1 ⟨rfl, hb⟩; have hb2 : Below w.heap.size w w1 := (((Below.refl _ w).alloc (by simp) _).alloc (by simp) _).trans (hb.mono (by simp; omega)))
 go_ret
 exact ⟨rfl, hb2⟩
theorem and_bit (x i : Nat) : (x &&& 2 ^ i != 0) = x.testBit i := by
 cases h : x.testBit i with
 | true =>
  have : (x &&& 2 ^ i).testBit i = true := by rw [Nat.testBit_and, h, Nat.testBit_two_pow_self]; rfl
  have h2 : x &&& 2 ^ i ≠ 0 := fun e => by rw [e, Nat.zero_testBit] at this; cases this
  simpa using h2
 | false =>
  have : x &&& 2 ^ i = 0 := by
   apply Nat.eq_of_testBit_eq; intro j
   rw [Nat.testBit_and, Nat.testBit_two_pow, Nat.zero_testBit]
   by_cases e : i = j
   · subst e; rw [h]; rfl
   · simp [e]
  simp [this]
theorem bit_word (N i : Nat) : (wd N (i / 32)).testBit (i % 32) = N.testBit i := by
 rw [testBit_wd, Nat.div_add_mod]
 have := Nat.mod_lt i (show 32 > 0 by decide)
 simp [this]
theorem wd_bit (N i j : Nat) : wd (N ||| 2 ^ i) j = if j = i / 32 then wd N j ||| 2 ^ (i % 32) else wd N j := by
 apply Nat.eq_of_testBit_eq; intro b
 rw [testBit_wd, Nat.testBit_or, Nat.testBit_two_pow]
 split
 · rename_i h
   subst h
   rw [Nat.testBit_or, testBit_wd, Nat.testBit_two_pow]
   by_cases hb : b < 32
   · have e : (i = 32 * (i / 32) + b) = (i % 32 = b) := by simp; omega
     simp [hb, e]
   · have e : ¬ i % 32 = b := by omega
     simp [hb, e]
 · rename_i h
   rw [testBit_wd]
   by_cases hb : b < 32
   · have e : ¬ i = 32 * j + b := by omega
     simp [hb, e]
   · simp [hb]
theorem int_bne0 (a : Nat) : ((a : Int) != 0) = (a != 0) := by
 by_cases h : a = 0
 · subst h; rfl
 · have h2 : ¬ (a : Int) = 0 := by omega
   simp only [bne, beq_eq_false_iff_ne.2 h, beq_eq_false_iff_ne.2 h2]
def hasB (N : Nat) (id : Int) : Bool := decide (0 ≤ id ∧ id < 100) && N.testBit id.toNat
theorem has_any (N : Nat) (id : Int) (w : World) : Calls Tryz.prog 15 #[sv N, .int .i64 id] w fun e w' => e = .returned (.bool (hasB N id)) ∧ Below w.heap.size w w' := by
 have hmx := mixO
 have hid := isId_any id
 go_enter Tryz.func15, Tryz.ntmps15
 simp only [sv]
 go_wp2
 rename_i Q0 K0 hK
 refine wp_region_any hmx ?_
 by_cases h : 0 ≤ id ∧ id < 100
 · obtain ⟨i, rfl⟩ := Int.eq_ofNat_of_zero_le h.1
   have hi : i < 100 := by omega
   have hq : i / 32 < 4 := by omega
   simp only [h, and_self, decide_true] at hid
   refine zwp (fun i__ => ([(.int .i64 (i : Int)), (.bool true), (.bool true), (.int .i64 (i : Int)), (.int .i64 ((i / 32 : Nat) : Int)), (.pointer (some ⟨w.heap.size, i / 32, none⟩)), (.int .u32 ((wd N (i / 32) : Nat) : Int)), (.int .i64 (i : Int)), (.int .u32 ((2 ^ (i % 32) : Nat) : Int)), (.int .u32 ((wd N (i / 32) &&& 2 ^ (i % 32) : Nat) : Int)), (.bool (N.testBit i)), (.bool (N.testBit i)), (.bool (N.testBit i))] : List Value).getD i__ undef) (fun W => Zh4 W w.heap.size (wd N) ∧ Below w.heap.size w W) (by kernel_rfl) ⟨get_new (by simp), ((Below.refl _ w).alloc (by simp) _).drew⟩ ?_ ?_
   · refine (sqc ?_ (sqc ?_ (sqc ?_ (sqc ?_ (sqc ?_ (sqc ?_ (sqc ?_ (sqc ?_ (sqc ?_ (sqc ?_ (sqc ?_ (sqc ?_ (sqc ?_ trivial)))))))))))))
     · exact zmv rfl trivial _ rfl (by kernel_rfl)
     · exact zsc rfl trivial 43 _ _ [(.int .i64 (i : Int))] rfl (by kernel_rfl) (enters_of Tryz.func43 (by kernel_rfl) rfl) (fun w hw => (hid w).mono (by rintro e w' ⟨rfl, rfl⟩; exact ⟨rfl, hw⟩))
     · exact zmv rfl trivial _ rfl (by kernel_rfl)
     · exact zmv rfl (by exact ⟨_, rfl, by kernel_rfl⟩) _ rfl (by kernel_rfl)
     · exact zbo rfl (by exact ⟨_, rfl, by kernel_rfl⟩) _ _ _ _ _ _ _ rfl rfl rfl (fun w hw => bin_quo64 i 32 (by omega) (by omega))
     · exact zia rfl (by exact ⟨_, rfl, by kernel_rfl⟩) _ _ _ _ _ rfl rfl rfl (fun w hw => idx4 _ _ hq w)
     · exact zld rfl (by exact ⟨_, rfl, by kernel_rfl⟩) _ _ _ rfl rfl (fun w hw => load4 w _ _ _ hw.1 hq)
     · exact zmv rfl (by exact ⟨_, rfl, by kernel_rfl⟩) _ rfl (by kernel_rfl)
     · exact zsc rfl (by exact ⟨_, rfl, by kernel_rfl⟩) 44 _ _ [(.int .i64 (i : Int))] rfl (by kernel_rfl) (enters_of Tryz.func44 (by kernel_rfl) rfl) (fun w hw => (bit_any i (by omega) w).mono (by rintro e w' ⟨rfl, rfl⟩; exact ⟨rfl, hw⟩))
     · exact zbo rfl (by exact ⟨_, rfl, by kernel_rfl⟩) _ _ _ _ _ _ _ rfl rfl rfl (fun w hw => bin_and32 _ _ (wd_lt _ _) (Nat.pow_lt_pow_right (a := 2) (n := 32) (by decide) (Nat.mod_lt _ (by decide))))
     · exact zbo rfl (by exact ⟨_, rfl, by kernel_rfl⟩) _ _ _ _ _ _ _ rfl rfl rfl (fun w hw => (bin_neq .u32 _ _).trans (by rw [← bit_word, ← and_bit, int_bne0]; rfl))
     · exact step_pick rfl trivial _ _ _ true rfl (by kernel_rfl) (by kernel_rfl)
     · exact zas rfl trivial _ rfl (by kernel_rfl) (fun _ h => h)
   intro W hW
   first | refine hK _ _ ?_ | refine (‹∀ (a : Act) (w : World), Code.wp Tryz.prog _ _ a w → _›) _ _ ?_
   simp only [finL, List.getD_cons_zero, List.getD_cons_succ, Nat.zero_add, Nat.reduceAdd, List.setIfInBounds_toArray, List.set_cons_zero, List.set_cons_succ]
   go_wp2
   go_ret
   exact ⟨ret_bool (by simp [hasB]; omega), hW.2⟩
 · simp only [h, decide_false] at hid
   refine zwp (fun i__ => ([(.int .i64 id), (.bool false), (.bool false), undef, undef, undef, undef, undef, undef, undef, undef, (.bool false), (.bool false)] : List Value).getD i__ undef) (fun W => Zh4 W w.heap.size (wd N) ∧ Below w.heap.size w W) (by kernel_rfl) ⟨get_new (by simp), ((Below.refl _ w).alloc (by simp) _).drew⟩ ?_ ?_
   · refine (sqc ?_ (sqc ?_ (sqc ?_ (sqc ?_ (sqc ?_ (sqc ?_ (sqc ?_ (sqc ?_ (sqc ?_ (sqc ?_ (sqc ?_ (sqc ?_ (sqc ?_ trivial)))))))))))))
     · exact zmv rfl trivial _ rfl (by kernel_rfl)
     · exact zsc rfl trivial 43 _ _ [(.int .i64 id)] rfl (by kernel_rfl) (enters_of Tryz.func43 (by kernel_rfl) rfl) (fun w hw => (hid w).mono (by rintro e w' ⟨rfl, rfl⟩; exact ⟨rfl, hw⟩))
     · exact zmv rfl trivial _ rfl (by kernel_rfl)
     · exact zsk rfl 2 true 7 (.bool false) rfl rfl (by kernel_rfl) (by intro h; cases h) rfl
     · exact zsk rfl 2 true 7 (.bool false) rfl rfl (by kernel_rfl) (by intro h; cases h) rfl
     · exact zsk rfl 2 true 7 (.bool false) rfl rfl (by kernel_rfl) (by intro h; cases h) rfl
     · exact zsk rfl 2 true 7 (.bool false) rfl rfl (by kernel_rfl) (by intro h; cases h) rfl
     · exact zsk rfl 2 true 7 (.bool false) rfl rfl (by kernel_rfl) (by intro h; cases h) rfl
     · exact zsk rfl 2 true 7 (.bool false) rfl rfl (by kernel_rfl) (by intro h; cases h) rfl
     · exact zsk rfl 2 true 7 (.bool false) rfl rfl (by kernel_rfl) (by intro h; cases h) rfl
     · exact zsk rfl 2 true 7 (.bool false) rfl rfl (by kernel_rfl) (by intro h; cases h) rfl
     · exact step_pick rfl trivial _ _ _ false rfl (by kernel_rfl) (by kernel_rfl)
     · exact zas rfl trivial _ rfl (by kernel_rfl) (fun _ h => h)
   intro W hW
   first | refine hK _ _ ?_ | refine (‹∀ (a : Act) (w : World), Code.wp Tryz.prog _ _ a w → _›) _ _ ?_
   simp only [finL, List.getD_cons_zero, List.getD_cons_succ, Nat.zero_add, Nat.reduceAdd, List.setIfInBounds_toArray, List.set_cons_zero, List.set_cons_succ]
   go_wp2
   go_ret
   exact ⟨ret_bool (by simp [hasB, h]), hW.2⟩
def ofN : List Int → Nat → Option Nat
 | [], N => some N
 | i :: r, N => if 0 ≤ i ∧ i < 100 then ofN r (N ||| 2 ^ i.toNat) else none
def ofV (o : Option Nat) : Value := match o with | some N => .tuple #[sv N, .int .i64 0] | none => .tuple #[sv 0, .int .i64 30]
structure Ints (W : World) (a : Addr) (ids : List Int) : Prop where
 spot : a.spot = none
 cell : ∀ (k : Nat) (x : Int), ids[k]? = some x → W.cell? ⟨a.block, a.off + k, none⟩ = some (.int .i64 x)
 lt : a.block < W.heap.size
theorem ret4t {f : Func} {p q : Tmp} {R : Ending → World → Prop} {a : Act} {w : World} {b M : Nat} {x : Value} (hres : f.results = #[.cell p 33, .tmp q]) (hp : a.tmps.getD p undef = .pointer (some ⟨b, 0, none⟩)) (hq : a.tmps.getD q undef = x) (hd : a.defers = []) (h : Zh4 w b (wd M)) (hR : R (.returned (.tuple #[sv M, x])) w) : bodyPost Tryz.prog f R .ret a w := by
 refine bodyPost_ret (v := .tuple #[sv M, x]) ?_ hd hR
 have h1 := run_loadVar_row (P := Tryz.prog) w b 33 33 (cells4 (wd M)) (0, 0) _ h Tryz.underlying33 rfl (by kernel_rfl)
 have hp' : a.tmps[p]?.getD undef = .pointer (some ⟨b, 0, none⟩) := by simpa using hp
 have hq' : a.tmps[q]?.getD undef = x := by simpa using hq
 simp [results, hres, hp', hq', asAddr, h1]
 rfl
theorem of_anyO (ids : List Int) (ad : Option Addr) (cap : Nat) (hl : ids.length < 9223372036854775808) (w : World) (hI0 : ids ≠ [] → ∃ a, ad = some a ∧ Ints w a ids) : Calls Tryz.prog 18 #[.slice ad ids.length cap] w fun e w' => e = .returned (ofV (ofN ids 0)) ∧ Below w.heap.size w w' := by
 have hmx := mixO
 go_enter Tryz.func18, Tryz.ntmps18
 go_wp2
 go_loopw [9] (fun c wz => ∃ (k N : Nat), c = .int .i64 k ∧ k ≤ ids.length ∧ Hid (ofN (ids.drop k) N = ofN ids 0) ∧ Zh4 wz (w.heap.size + 1) (wd N) ∧ Zh4 wz w.heap.size (fun _ => 0) ∧ Below w.heap.size w wz) (fun c _ => ids.length - vnat c)
 case atStart => exact ⟨0, 0, rfl, by omega, rfl, get_new (by simp), get_old (get_new (by simp)), ((Below.refl _ w).alloc (by simp) _).alloc (by simp) _⟩
 case round =>
  obtain ⟨k, N, rfl, hk, HN, h1, h2, hb⟩ := hrel
  have hz : w.heap.size + 1 < wr.heap.size := (Array.getElem?_eq_some_iff.1 h1).1
  by_cases hkl : k < ids.length
  · have hki : (k : Int) < ids.length := by omega
    obtain ⟨⟨ab, ao, sp⟩, rfl, hI⟩ := hI0 (by rintro rfl; simp at hkl)
    have hsp : sp = none := hI.spot
    subst hsp
    clear hI0
    obtain ⟨x, hx⟩ : ∃ x, ids[k]? = some x := ⟨_, List.getElem?_eq_getElem hkl⟩
    have hcell : wr.cell? ⟨ab, ao + k, none⟩ = some (.int .i64 x) := (hb.cell (p := ⟨ab, ao + k, none⟩) hI.lt).trans (hI.cell k x hx)
    have hdrop : ids.drop k = x :: ids.drop (k + 1) := by rw [List.drop_eq_getElem_cons hkl]; congr 1; rw [List.getElem?_eq_getElem hkl] at hx; exact Option.some.inj hx
    have hid := isId_any x
    by_cases hr : 0 ≤ x ∧ x < 100
    · obtain ⟨i, rfl⟩ := Int.eq_ofNat_of_zero_le hr.1
      simp only [hr, and_self, decide_true] at hid
      have HN2 : Hid (ofN (ids.drop (k + 1)) (N ||| 2 ^ i) = ofN ids 0) := by
        show ofN (ids.drop (k + 1)) (N ||| 2 ^ i) = ofN ids 0
        rw [← HN.out, hdrop, ofN, if_pos hr]; rfl
      clear HN hdrop
      go_wp2_with (go_at_call 43; refine (hid _).mono ?_; rintro e w1 ⟨rfl, rfl⟩)
      rename_i Q0 K0 hK
      refine wp_region_any hmx ?_
      have hi : i < 100 := by omega
      have hq : i / 32 < 4 := by omega
      refine zwl 8 (fun i__ => ([(.int .i64 (i : Int)), (.int .i64 ((i / 32 : Nat) : Int)), (.pointer (some ⟨w.heap.size + 1, i / 32, none⟩)), (.int .u32 ((wd N (i / 32) : Nat) : Int)), (.int .i64 (i : Int)), (.int .u32 ((2 ^ (i % 32) : Nat) : Int)), (.int .u32 ((wd N (i / 32) ||| 2 ^ (i % 32) : Nat) : Int)), (.pointer (some ⟨w.heap.size + 1, i / 32, none⟩)), undef] : List Value).getD i__ undef) (fun W => Zh4 W (w.heap.size + 1) (wd N) ∧ Zh4 W w.heap.size (fun _ => 0) ∧ Below w.heap.size w W) (fun W => Zh4 W (w.heap.size + 1) (wd (N ||| 2 ^ i)) ∧ Zh4 W w.heap.size (fun _ => 0) ∧ Below w.heap.size w W) rfl (by kernel_rfl) (by kernel_rfl) ⟨h1, h2, hb.drew⟩ ?_ ?_  ?_
      · refine (sqc ?_ (sqc ?_ (sqc ?_ (sqc ?_ (sqc ?_ (sqc ?_ (sqc ?_ (sqc ?_ trivial))))))))
        · exact zmv rfl trivial _ rfl (by kernel_rfl)
        · exact zbo rfl trivial _ _ _ _ _ _ _ rfl rfl rfl (fun w hw => bin_quo64 i 32 (by omega) (by omega))
        · exact zia rfl trivial _ _ _ _ _ rfl rfl rfl (fun w hw => idx4 _ _ hq w)
        · exact zld rfl trivial _ _ _ rfl rfl (fun w hw => load4 w _ _ _ hw.1 hq)
        · exact zmv rfl trivial _ rfl (by kernel_rfl)
        · exact zsc rfl trivial 44 _ _ [(.int .i64 (i : Int))] rfl (by kernel_rfl) (enters_of Tryz.func44 (by kernel_rfl) rfl) (fun w hw => (bit_any i (by omega) w).mono (by rintro e w' ⟨rfl, rfl⟩; exact ⟨rfl, hw⟩))
        · exact zbo rfl trivial _ _ _ _ _ _ _ rfl rfl rfl (fun w hw => bin_or32 _ _ (wd_lt _ _) (Nat.pow_lt_pow_right (a := 2) (n := 32) (by decide) (Nat.mod_lt _ (by decide))))
        · exact zia rfl trivial _ _ _ _ _ rfl rfl rfl (fun w hw => idx4 _ _ hq w)
      · intro o ho
        cases ho
        exact step_store rfl trivial rfl _ _ _ _ _ rfl rfl rfl (fun w' hw => by obtain ⟨w2, e1, e2, e3, e4⟩ := store4 w' _ _ _ _ hw.1 hq; refine ⟨w2, e1, e2.congr (fun j hj => ?_), (e4 _ (by omega)).trans hw.2.1, hw.2.2.trans (e3 _ (by omega))⟩; rw [wd_bit]; split <;> simp_all)
      intro W hW
      first | refine hK _ _ ?_ | refine (‹∀ (a : Act) (w : World), Code.wp Tryz.prog _ _ a w → _›) _ _ ?_
      simp only [finL, List.getD_cons_zero, List.getD_cons_succ, Nat.zero_add, Nat.reduceAdd, List.setIfInBounds_toArray, List.set_cons_zero, List.set_cons_succ]
      obtain ⟨g1, g2, g3⟩ := hW
      go_wp2
      go_roundw
      case rel => exact ⟨k + 1, _, by simp, by omega, HN2, g1, g2, g3⟩
      case measure => simp only [vnat]; omega
    · simp only [hr, decide_false] at hid
      have HN2 : Hid (ofN ids 0 = none) := by
        show ofN ids 0 = none
        rw [← HN.out, hdrop, ofN, if_neg hr]
      obtain ⟨y0, y1, y2, y3, z0, z1, z2, z3⟩ := h2.facts
      have H2 : Hid (Zh4 wr w.heap.size (fun _ => 0)) := h2
      have e0 : sv 0 = .agg #[.int .u32 0, .int .u32 0, .int .u32 0, .int .u32 0] := by simp [sv, wd]
      clear HN hdrop h1 h2
      go_wp2_with (go_at_call 43; refine (hid _).mono ?_; rintro e w1 ⟨rfl, rfl⟩)
      show bodyPost Tryz.prog Tryz.f18 _ Exit.ret _ (set4 _ w.heap.size 0)
      refine ret4t rfl rfl rfl rfl (fin4 H2.out 0) ⟨?_, below4 hb (Nat.le_refl _) _⟩
      rw [HN2.out]
      rfl
  · have hk5 : k = ids.length := by omega
    subst hk5
    have HN2 : Hid (ofN ids 0 = some N) := by
      show ofN ids 0 = some N
      rw [← HN.out, List.drop_length]; rfl
    obtain ⟨x0, x1, x2, x3, _⟩ := h1.facts
    obtain ⟨y0, y1, y2, y3, z0, z1, z2, z3⟩ := h2.facts
    have H2 : Hid (Zh4 wr w.heap.size (fun _ => 0)) := h2
    clear HN h1 h2
    go_wp2
    refine ret4t rfl rfl rfl rfl (fin4 H2.out _) ⟨?_, below4 hb (Nat.le_refl _) _⟩
    rw [HN2.out]
    rfl
theorem of_any (ids : List Int) (a : Addr) (cap : Nat) (hl : ids.length < 9223372036854775808) (w : World) (hI : Ints w a ids) : Calls Tryz.prog 18 #[.slice (some a) ids.length cap] w fun e w' => e = .returned (ofV (ofN ids 0)) ∧ Below w.heap.size w w' := of_anyO ids (some a) cap hl w (fun _ => ⟨a, rfl, hI⟩)
end Go.Proofs.YtgiddgejlliefaaGreatDoor
