/- idset.Within; the document's Of, Full, Within: what they answer, at every input. -/
import Derived.Test.YtahlehgibcdfeaaRfs
import Derived.Test.YtahlehgibcdfeaaWth
namespace Go.Proofs.Ytahlehgibcdfeaa
open Go.RowKit Go.Shelf Go.Lib

theorem ofN_lt : ∀ (ids : List Int) (N M : Nat), N < S100 → ofN ids N = some M → M < S100
  | [], N, M, h, e => by simp [ofN] at e; omega
  | x :: r, N, M, h, e => by
    rw [ofN] at e
    split at e
    · rename_i hx
      refine ofN_lt r _ M ?_ e
      exact Nat.or_lt_two_pow (n := 100) h (Nat.pow_lt_pow_right (by decide) (by omega))
    · cases e
set_option maxHeartbeats 1000000 in
set_option maxRecDepth 100000 in
theorem rOf_any (ids : List Int) (ad : Option Addr) (cap : Nat) (hl : ids.length < 9223372036854775808) (w : World) (hI0 : ids ≠ [] → ∃ a, ad = some a ∧ Ints w a ids) : Calls Try.prog 17 #[.slice ad ids.length cap] w fun e w' => e = .returned (ofV (ofN ids 0)) ∧ Below w.heap.size w w' := by
  have hz := zeroB
  go_enter Try.func17, Try.ntmps17
  go_wp2
  clear hz
  go_loopw [5] (fun c wz => ∃ (k N : Nat), c = .int .i64 k ∧ k ≤ ids.length ∧ N < S100 ∧ Hid (ofN (ids.drop k) N = ofN ids 0) ∧ HoldsB wz (w.heap.size + 1) N.testBit ∧ Holds4 wz w.heap.size (fun _ => 0) ∧ Below w.heap.size w wz) (fun c _ => ids.length - vnat c)
  case atStart => exact ⟨0, 0, rfl, by omega, by decide, rfl, (show HoldsB _ _ (fun _ => false) from get_new (by simp)).congr (fun j _ => by simp), get_old (get_new (by simp)), ((Below.refl _ w).alloc (by simp) _).alloc (by simp) _⟩
  case round =>
    obtain ⟨k, N, rfl, hk, hN, HN, h1, h2, hb⟩ := hrel
    by_cases hkl : k < ids.length
    · have hki : (k : Int) < ids.length := by omega
      obtain ⟨⟨ab, ao, sp⟩, rfl, hI⟩ := hI0 (by rintro rfl; simp at hkl)
      have hsp : sp = none := hI.spot
      subst hsp
      clear hI0
      obtain ⟨x, hx⟩ : ∃ x, ids[k]? = some x := ⟨_, List.getElem?_eq_getElem hkl⟩
      have hcell : wr.cell? ⟨ab, ao + k, none⟩ = some (.int .i64 x) := (hb.cell (p := ⟨ab, ao + k, none⟩) hI.lt).trans (hI.cell k x hx)
      have hdrop : ids.drop k = x :: ids.drop (k + 1) := by rw [List.drop_eq_getElem_cons hkl]; congr 1; rw [List.getElem?_eq_getElem hkl] at hx; exact Option.some.inj hx
      by_cases hr : 0 ≤ x ∧ x < 100
      · obtain ⟨i, rfl⟩ := Int.eq_ofNat_of_zero_le hr.1
        have hi : i < 100 := by omega
        have t1 : ¬ (i : Int) < 0 := by omega
        have t2 : ¬ (i : Int) ≥ 100 := by omega
        have t3 : ¬ 100 ≤ (i : Int) := by omega
        have HN2 : Hid (ofN (ids.drop (k + 1)) (N ||| 2 ^ i) = ofN ids 0) := by
          show ofN (ids.drop (k + 1)) (N ||| 2 ^ i) = ofN ids 0
          rw [← HN.out, hdrop, ofN, if_pos hr]; rfl
        have hlt : N ||| 2 ^ i < S100 := Nat.or_lt_two_pow (n := 100) hN (Nat.pow_lt_pow_right (by decide) hi)
        have hc1 := h1.cell i hi
        have hf1 := h1.frozen i
        have g1 : Hid (HoldsB (wr.setCell ⟨w.heap.size + 1, i, none⟩ (.bool true)) (w.heap.size + 1) (N ||| 2 ^ i).testBit) := (h1.set i true).congr (fun j _ => by
          rw [Nat.testBit_or, Nat.testBit_two_pow]
          by_cases e : j = i
          · subst e; simp
          · have e2 : ¬ i = j := fun c => e c.symm
            simp [e, e2])
        clear HN hdrop hN h1
        go_wp2
        go_roundw
        case rel => exact ⟨k + 1, _, by simp, by omega, hlt, HN2, g1.out, (Below.heap_setCell _ _ _ _ (by simp)).trans h2, hb.setCell (p := ⟨w.heap.size + 1, i, none⟩) (by simp) _⟩
        case measure => simp only [vnat]; omega
      · have HN2 : Hid (ofN ids 0 = none) := by
          show ofN ids 0 = none
          rw [← HN.out, hdrop, ofN, if_neg hr]
        obtain ⟨y0, y1, y2, y3, z0, z1, z2, z3⟩ := h2.facts
        have H2 : Hid (Holds4 wr w.heap.size (fun _ => 0)) := h2
        clear HN hdrop h1 h2
        by_cases t1 : x < 0
        · go_wp2
          show bodyPost Try.prog Try.f17 _ Exit.ret _ (set4 _ w.heap.size 0)
          refine ret4t rfl rfl rfl rfl (fin4 H2.out 0) ⟨?_, below4 hb (Nat.le_refl _) _⟩
          rw [HN2.out]
          rfl
        · have t2 : x ≥ 100 := by omega
          have t3 : 100 ≤ x := by omega
          go_wp2
          show bodyPost Try.prog Try.f17 _ Exit.ret _ (set4 _ w.heap.size 0)
          refine ret4t rfl rfl rfl rfl (fin4 H2.out 0) ⟨?_, below4 hb (Nat.le_refl _) _⟩
          rw [HN2.out]
          rfl
    · have hk5 : k = ids.length := by omega
      subst hk5
      have HN2 : Hid (ofN ids 0 = some N) := by
        show ofN ids 0 = some N
        rw [← HN.out, List.drop_length]; rfl
      have hm := make_any N.testBit
      rw [mkN_cln, cln_of_lt hN] at hm
      simp only [sv] at hm
      have H2 : Hid (Holds4 wr w.heap.size (fun _ => 0)) := h2
      have hlr := h2.lt
      clear HN h2
      go_wp2_with (first | (refine wpList_load_row rfl 45 _ rfl (w.heap.size + 1) rfl _ _ _ _ h1 Try.underlying45 rfl (by rw [bC_size]; exact sizeB) ?_) | (go_at_call 28; refine (hm _).mono ?_; rintro e w2 ⟨rfl, hb2⟩; have q : Hid (Holds4 w2 w.heap.size (fun _ => 0)) := (hb2.block _ hlr).trans H2.out; obtain ⟨y0, y1, y2, y3, z0, z1, z2, z3⟩ := q.out.facts))
      refine ret4t rfl rfl rfl rfl (fin4 q.out _) ⟨?_, below4 (bcarry hb (Nat.le_refl _) hb2) (Nat.le_refl _) _⟩
      rw [HN2.out]
      rfl
set_option maxHeartbeats 1000000 in
set_option maxRecDepth 100000 in
theorem rFull_any (n : Int) (w : World) : Calls Try.prog 19 #[.int .i64 n] w fun e w' => e = .returned (fullV n) ∧ Below w.heap.size w w' := by
  have hz := zeroB
  by_cases h : 0 ≤ n ∧ n ≤ 100
  · obtain ⟨m, rfl⟩ := Int.eq_ofNat_of_zero_le h.1
    have h1 : ¬ (m : Int) < 0 := by omega
    have h2 : ¬ 100 < (m : Int) := by omega
    have hm := make_any (fun j => decide (j < m))
    have hmk : mkN (fun j => decide (j < m)) 100 = fullN m := mkN_eq (fun i => by
      rw [testBit_full]
      by_cases e : i < m
      · simp [e]; omega
      · simp [e])
    rw [hmk] at hm
    have hV : fullV (m : Int) = .tuple #[sv (fullN m), .int .i64 0] := by rw [fullV, if_pos h]; rfl
    rw [hV]
    clear hmk hV
    generalize fullN m = F at *
    simp only [sv] at hm ⊢
    go_enter Try.func19, Try.ntmps19
    go_wp2
    clear hz
    go_loopw [5] (fun c wz => ∃ k : Nat, c = .int .i64 k ∧ k ≤ m ∧ HoldsB wz (w.heap.size + 1) (fun j => decide (j < k)) ∧ Holds4 wz w.heap.size (fun _ => 0) ∧ Below w.heap.size w wz) (fun c _ => m - vnat c)
    case atStart => exact ⟨0, rfl, by omega, (show HoldsB _ _ (fun _ => false) from get_new (by simp)).congr (fun j _ => by simp), get_old (get_new (by simp)), ((Below.refl _ w).alloc (by simp) _).alloc (by simp) _⟩
    case round =>
      obtain ⟨k, rfl, hk, g1, g2, hb⟩ := hrel
      by_cases hk4 : k < m
      · have hki : (k : Int) < (m : Int) := by omega
        have hkh : (k : Int) < 100 := by omega
        have hk1 : k < 100 := by omega
        have hc := g1.cell k hk1
        have hf := g1.frozen k
        have g3 : Hid (HoldsB (wr.setCell ⟨w.heap.size + 1, k, none⟩ (.bool true)) (w.heap.size + 1) (fun j => decide (j < k + 1))) := (g1.set k true).congr (fun j _ => by
          by_cases e : j = k
          · subst e; simp
          · have e2 : (j < k + 1) = (j < k) := by simp; omega
            simp [e, e2])
        clear hm g1
        go_wp2
        go_roundw
        case rel => exact ⟨k + 1, by simp, by omega, g3.out, (Below.heap_setCell _ _ _ _ (by simp)).trans g2, hb.setCell (p := ⟨w.heap.size + 1, k, none⟩) (by simp) _⟩
        case measure => simp only [vnat]; omega
      · have hk5 : k = m := by omega
        subst hk5
        have H2 : Hid (Holds4 wr w.heap.size (fun _ => 0)) := g2
        have hlr := g2.lt
        clear g2
        go_wp2_with (first | (refine wpList_load_row rfl 45 _ rfl (w.heap.size + 1) rfl _ _ _ _ g1 Try.underlying45 rfl (by rw [bC_size]; exact sizeB) ?_) | (go_at_call 28; refine (hm _).mono ?_; rintro e w2 ⟨rfl, hb2⟩; have q : Hid (Holds4 w2 w.heap.size (fun _ => 0)) := (hb2.block _ hlr).trans H2.out; obtain ⟨y0, y1, y2, y3, z0, z1, z2, z3⟩ := q.out.facts))
        exact ret4t rfl rfl rfl rfl (fin4 q.out _) ⟨rfl, below4 (bcarry hb (Nat.le_refl _) hb2) (Nat.le_refl _) _⟩
  · have hV : fullV n = .tuple #[sv 0, .int .i64 1] := by rw [fullV, if_neg h]
    rw [hV]
    have g2 : Holds4 (w.alloc (.cells (cells4 (fun _ => 0)) 24)) w.heap.size (fun _ => 0) := get_new rfl
    have hb : Below w.heap.size w (w.alloc (.cells (cells4 (fun _ => 0)) 24)) := alloc_below w _
    by_cases h0 : n < 0
    · go_enter Try.func19, Try.ntmps19
      go_wp2
      exact ret4t rfl rfl rfl rfl (g2.congr (fun j _ => by simp [wd])) ⟨rfl, hb⟩
    · have h1 : 100 < n := by omega
      go_enter Try.func19, Try.ntmps19
      go_wp2
      exact ret4t rfl rfl rfl rfl (g2.congr (fun j _ => by simp [wd])) ⟨rfl, hb⟩
def topW (n : Int) : Nat := (min (max n 0) 100).toNat
def wthB (N : Nat) (n : Int) : Bool := decide (N = N % 2 ^ topW n)
theorem topW_le (n : Int) : topW n ≤ 100 := by unfold topW; omega
theorem topW_lt (n : Int) (i : Nat) : i < topW n ↔ (i : Int) < n ∧ i < 100 := by unfold topW; omega
theorem bi_max {P : Program} (cs : Array Bool) (ts : Array TypeId) (t : TypeId) (x y : Int) (w : World) : (builtin .max ts t cs #[.int .i64 x, .int .i64 y]).run P w = .ok (.value (.int .i64 (max x y))) w := by
  show ((do pure (.value (← Builtin.max_ ts t #[.int .i64 x, .int .i64 y]))) : Sem Next).run P w = _
  rw [Sem.run_bind, run_max_int2]
  simp only [Result.andThen_ok, Sem.run_pure]
  by_cases h : y > x
  · rw [if_pos h, show max x y = y by omega]
  · rw [if_neg h, show max x y = x by omega]
theorem bi_min {P : Program} (cs : Array Bool) (ts : Array TypeId) (t : TypeId) (x y : Int) (w : World) : (builtin .min ts t cs #[.int .i64 x, .int .i64 y]).run P w = .ok (.value (.int .i64 (min x y))) w := by
  show ((do pure (.value (← Builtin.min_ ts t #[.int .i64 x, .int .i64 y]))) : Sem Next).run P w = _
  rw [Sem.run_bind, run_min_int2]
  simp only [Result.andThen_ok, Sem.run_pure]
  by_cases h : y < x
  · rw [if_pos h, show min x y = y by omega]
  · rw [if_neg h, show min x y = x by omega]
set_option maxHeartbeats 1000000 in
set_option maxRecDepth 100000 in
theorem within_any (N : Nat) (hN : N < S128) (n : Int) (w : World) : Calls Try.prog 21 #[sv N, .int .i64 n] w fun e w' => e = .returned (.bool (wthB N n)) ∧ Below w.heap.size w w' := by
  have hmx : Try.prog.follows .mixedOrders = true := by kernel_rfl
  have hbl := below_any N (topW n) (by have := topW_le n; omega)
  have hq : (topW n : Int) = min (max n 0) 100 := by unfold topW; omega
  have hlt : N % 2 ^ topW n < S128 := Nat.lt_of_le_of_lt (Nat.mod_le _ _) hN
  go_enter Try.func21, Try.ntmps21
  simp only [sv]
  go_wp2
  rename_i Q0 K0 hK
  refine wp_region_any hmx ?_
  refine wpAny_pure (fun i__ => ([(sv N), (sv N), (.int .i64 n), (.int .i64 (max n 0)), (.int .i64 (topW n : Nat)), (sv (N % 2 ^ topW n)), (.bool (wthB N n)), (.bool (wthB N n))] : List Value).getD i__ undef) (fun W => Holds4 W w.heap.size (wd N) ∧ Below w.heap.size w W) (by kernel_rfl) ⟨get_new (by simp), (alloc_below w _).drew⟩ ?_ ?_
  · refine (stepsFrom_cons ?_ (stepsFrom_cons ?_ (stepsFrom_cons ?_ (stepsFrom_cons ?_ (stepsFrom_cons ?_ (stepsFrom_cons ?_ (stepsFrom_cons ?_ (stepsFrom_cons ?_ trivial))))))))
    · exact step_load rfl trivial _ _ _ rfl rfl (fun w hw => whole4 w _ N hw.1)
    · exact step_load rfl trivial _ _ _ rfl rfl (fun w hw => whole4 w _ N hw.1)
    · exact step_move rfl trivial _ rfl (by kernel_rfl)
    · exact step_bi rfl trivial _ _ _ [(.int .i64 n), (Go.Value.int Go.IntKind.i64 0)] rfl (by kernel_rfl) (fun cs w hw => bi_max cs _ _ n 0 w)
    · exact step_bi rfl trivial _ _ _ [(.int .i64 (max n 0)), (Go.Value.int Go.IntKind.i64 100)] rfl (by kernel_rfl) (fun cs w hw => by rw [hq]; exact bi_min cs _ _ _ 100 w)
    · exact step_call rfl trivial 24 _ _ [(sv N), (.int .i64 (topW n : Nat))] rfl (by kernel_rfl) (enters_of Try.func24 (by kernel_rfl) rfl) (fun w hw => (hbl w).mono (by rintro e w' ⟨rfl, hb⟩; exact ⟨rfl, hw.1.carry hb, bcarry hw.2 (Nat.le_refl _) hb⟩))
    · exact step_binOp rfl trivial _ _ _ _ _ _ _ rfl rfl rfl (fun w hw => eql4 _ _ _ _ hN hlt w)
    · exact step_assign rfl trivial _ rfl (by kernel_rfl) (fun _ h => h)
  intro W hW
  first | refine hK _ _ ?_ | refine (‹∀ (a : Act) (w : World), Code.wp Try.prog _ _ a w → _›) _ _ ?_
  simp only [finL, List.getD_cons_zero, List.getD_cons_succ, Nat.zero_add, Nat.reduceAdd, List.setIfInBounds_toArray, List.set_cons_zero, List.set_cons_succ]
  go_wp2
  go_ret
  exact ⟨rfl, hW.2⟩
set_option maxHeartbeats 1000000 in
set_option maxRecDepth 100000 in
theorem rWithin_any (N : Nat) (hN : N < S128) (n : Int) (w : World) : Calls Try.prog 22 #[sv N, .int .i64 n] w fun e w' => e = .returned (.bool (wthB N n)) ∧ Below w.heap.size w w' := by
  simp only [sv]
  go_enter Try.func22, Try.ntmps22
  go_wp2
  go_loopw [5] (fun c wz => ∃ k : Nat, c = .int .i64 k ∧ k ≤ 128 ∧ (∀ i, i < k → N.testBit i = true → i < topW n) ∧ Holds4 wz w.heap.size (wd N) ∧ Below w.heap.size w wz) (fun c _ => 128 - vnat c)
  case atStart => exact ⟨0, rfl, by omega, fun i h => by omega, get_new (by simp), alloc_below w _⟩
  case round =>
    obtain ⟨k, rfl, hk, he, h1, hb⟩ := hrel
    by_cases hk4 : k < 128
    · have hki : (k : Int) < 128 := by omega
      have hq : k / 32 < 4 := by omega
      have hq' : (k : Int) / 32 < 4 := by omega
      have hc1 := h1.cell (k / 32) hq
      have hbit : (bits BinOp.and IntKind.u32 ((wd N (k / 32) : Int) / 2 ^ (k % 32)) 1 == 1) = N.testBit k := by
        have e : (wd N (k / 32) : Int) / 2 ^ (k % 32) = ((wd N (k / 32) / 2 ^ (k % 32) : Nat) : Int) := by simp
        have hl : wd N (k / 32) / 2 ^ (k % 32) < 4294967296 := Nat.lt_of_le_of_lt (Nat.div_le_self _ _) (wd_lt N _)
        rw [e, show (1 : Int) = ((1 : Nat) : Int) from rfl, u32_and_nat _ _ hl (by omega), ← bit_word N k, ← shr_bit]
        by_cases h : wd N (k / 32) / 2 ^ (k % 32) &&& 1 = 1
        · rw [h]; rfl
        · have h2 : ¬ ((wd N (k / 32) / 2 ^ (k % 32) &&& 1 : Nat) : Int) = ((1 : Nat) : Int) := by omega
          rw [beq_eq_false_iff_ne.2 h, beq_eq_false_iff_ne.2 h2]
      have hbad : N.testBit k = true → ¬ k < topW n → wthB N n = false := by
        intro h2 h3
        unfold wthB
        rw [decide_eq_false_iff_not]
        intro h4
        have h5 : (N % 2 ^ topW n).testBit k = true := by rw [← h4]; exact h2
        rw [Nat.testBit_mod_two_pow] at h5
        simp [h3] at h5
      have htop := topW_lt n k
      cases hb0 : N.testBit k
      · rw [hb0] at hbit
        clear hbad htop
        go_wp2
        go_roundw
        case rel => exact ⟨k + 1, by simp, by omega, fun i hi h2 => by
          by_cases e : i = k
          · subst e; rw [hb0] at h2; cases h2
          · exact he i (by omega) h2, h1, hb⟩
        case measure => simp only [vnat]; omega
      · rw [hb0] at hbit hbad
        by_cases t1 : (k : Int) ≥ n
        · have t1' : n ≤ (k : Int) := t1
          have hres := hbad rfl (fun c => by have := htop.1 c; omega)
          clear hbad htop
          go_wp2
          go_ret
          first | exact ⟨rfl, hb⟩ | exact ⟨ret_bool hres.symm, hb⟩
        · by_cases t2 : (k : Int) ≥ 100
          · have t2' : 100 ≤ (k : Int) := t2
            have hres := hbad rfl (fun c => by have := htop.1 c; omega)
            clear hbad htop
            go_wp2
            go_ret
            first | exact ⟨rfl, hb⟩ | exact ⟨ret_bool hres.symm, hb⟩
          · have hkt : k < topW n := htop.2 ⟨by omega, by omega⟩
            clear hbad htop
            go_wp2
            go_roundw
            case rel => exact ⟨k + 1, by simp, by omega, fun i hi h2 => by
              by_cases e : i = k
              · subst e; exact hkt
              · exact he i (by omega) h2, h1, hb⟩
            case measure => simp only [vnat]; omega
    · have hk5 : k = 128 := by omega
      subst hk5
      have hres : wthB N n = true := by
        unfold wthB
        rw [decide_eq_true_eq]
        apply Nat.eq_of_testBit_eq; intro i
        rw [Nat.testBit_mod_two_pow]
        by_cases hi : i < 128
        · cases h2 : N.testBit i with
          | false => simp
          | true => simp [he i hi h2]
        · have : N.testBit i = false := Nat.testBit_lt_two_pow (Nat.lt_of_lt_of_le hN (Nat.pow_le_pow_right (n := 2) (i := 128) (by decide) (by omega)))
          simp [this]
      go_wp2
      go_ret
      first | exact ⟨rfl, hb⟩ | exact ⟨ret_bool hres.symm, hb⟩
end Go.Proofs.Ytahlehgibcdfeaa
