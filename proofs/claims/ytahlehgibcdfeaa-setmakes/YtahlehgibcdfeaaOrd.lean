/- idset.Order, Subset, Has; cmp.Compare: what they answer, at every input. -/
import Derived.Test.YtahlehgibcdfeaaCnt
namespace Go.Proofs.Ytahlehgibcdfeaa
open Go.RowKit Go.Shelf Go.Lib

def cmpN (a b : Nat) : Int := if a < b then -1 else if b < a then 1 else 0
theorem cmp_wd (M M' l : Nat) (hM : M < S128) (hM' : M' < S128) (hl : l < 4) (he : ∀ j, l < j → j < 4 → wd M j = wd M' j) (hn : wd M l ≠ wd M' l) : cmpN (wd M l) (wd M' l) = cmpN M M' := by
  have e1 := join_wd M hM
  have e2 := join_wd M' hM'
  have b0 := wd_lt M 0
  have b1 := wd_lt M 1
  have b2 := wd_lt M 2
  have b3 := wd_lt M 3
  have c0 := wd_lt M' 0
  have c1 := wd_lt M' 1
  have c2 := wd_lt M' 2
  have c3 := wd_lt M' 3
  have key : (wd M l < wd M' l → M < M') ∧ (wd M' l < wd M l → M' < M) := by
    unfold joinW at e1 e2
    match l, hl with
    | 0, _ =>
      have h1 := he 1 (by decide) (by decide)
      have h2 := he 2 (by decide) (by decide)
      have h3 := he 3 (by decide) (by decide)
      generalize wd M 0 = a0 at *; generalize wd M 1 = a1 at *; generalize wd M 2 = a2 at *; generalize wd M 3 = a3 at *
      generalize wd M' 0 = d0 at *; generalize wd M' 1 = d1 at *; generalize wd M' 2 = d2 at *; generalize wd M' 3 = d3 at *
      omega
    | 1, _ =>
      have h2 := he 2 (by decide) (by decide)
      have h3 := he 3 (by decide) (by decide)
      generalize wd M 0 = a0 at *; generalize wd M 1 = a1 at *; generalize wd M 2 = a2 at *; generalize wd M 3 = a3 at *
      generalize wd M' 0 = d0 at *; generalize wd M' 1 = d1 at *; generalize wd M' 2 = d2 at *; generalize wd M' 3 = d3 at *
      omega
    | 2, _ =>
      have h3 := he 3 (by decide) (by decide)
      generalize wd M 0 = a0 at *; generalize wd M 1 = a1 at *; generalize wd M 2 = a2 at *; generalize wd M 3 = a3 at *
      generalize wd M' 0 = d0 at *; generalize wd M' 1 = d1 at *; generalize wd M' 2 = d2 at *; generalize wd M' 3 = d3 at *
      omega
    | 3, _ =>
      generalize wd M 0 = a0 at *; generalize wd M 1 = a1 at *; generalize wd M 2 = a2 at *; generalize wd M 3 = a3 at *
      generalize wd M' 0 = d0 at *; generalize wd M' 1 = d1 at *; generalize wd M' 2 = d2 at *; generalize wd M' 3 = d3 at *
      omega
  unfold cmpN
  by_cases h : wd M l < wd M' l
  · rw [if_pos h, if_pos (key.1 h)]
  · have h2 : wd M' l < wd M l := by omega
    have := key.2 h2
    rw [if_neg h, if_pos h2, if_neg (by omega), if_pos this]
theorem cmpN_self (a : Nat) : cmpN a a = 0 := by simp [cmpN]

set_option maxHeartbeats 1000000 in
theorem compare_any (a b : Nat) (w : World) : Calls Try.prog 25 #[.int .u32 (a : Int), .int .u32 (b : Int)] w fun e w' => e = .returned (.int .i64 (cmpN a b)) ∧ w' = w := by
  have hn : ∀ (a : Nat) (w : World), Calls Try.prog 31 #[.int .u32 (a : Int)] w fun e w' => e = .returned (.bool false) ∧ w' = w := by
    intro a w
    go_enter Try.func31, Try.ntmps31
    go_wp2
    go_ret
    exact ⟨ret_bool (by simp), rfl⟩
  go_enter Try.func25, Try.ntmps25
  go_wp2_with (go_at_call 31; refine (hn _ _).mono ?_; rintro e w1 ⟨rfl, rfl⟩)
  all_goals
    go_ret
    refine ⟨ret_int ?_, rfl⟩
    unfold cmpN
    repeat' split
    all_goals first | rfl | (exfalso; omega)

theorem hold4 {w : World} {b B M : Nat} (h : B ≠ b) : (set4 w b M).heap[B]? = w.heap[B]? := by
  unfold set4
  rw [Below.heap_setCell _ _ _ _ h, Below.heap_setCell _ _ _ _ h, Below.heap_setCell _ _ _ _ h, Below.heap_setCell _ _ _ _ h]
theorem wstore4 (w : World) (b : Nat) (c : Nat → Nat) (M : Nat) (h : Holds4 w b c) : (Instr.storeAt 24 (.pointer (some ⟨b, 0, none⟩)) (sv M)).run Try.prog w = .ok () (set4 w b M) := by
  obtain ⟨y0, y1, y2, y3, z0, z1, z2, z3⟩ := h.facts
  unfold sv set4
  go_simp
theorem neg_ofNat4 (k : Nat) (hk : k < 4) : IntKind.i64.wrap (3 - (k : Int)) = ((3 - k : Nat) : Int) := by rw [IntKind.wrap_i64]; omega
set_option maxHeartbeats 2000000 in
set_option maxRecDepth 100000 in
theorem order_any (A B : Nat) (w : World) : Calls Try.prog 13 #[sv A, sv B] w fun e w' => e = .returned (.int .i64 (cmpN (cln A) (cln B))) ∧ Below w.heap.size w w' := by
  have hmx : Try.prog.follows .mixedOrders = true := by kernel_rfl
  have hA := clean_any A
  have hB := clean_any B
  have lA := cln_lt' A
  have lB := cln_lt' B
  generalize cln A = M at *
  generalize cln B = M' at *
  go_enter Try.func13, Try.ntmps13
  simp only [sv]
  go_wp2
  rename_i Q0 K0 hK
  refine wp_region_any hmx ?_
  refine wpAny_last2 4 (fun i__ => ([(sv A), (sv M), (sv B), (sv M'), undef, undef] : List Value).getD i__ undef) (fun W => Holds4 W w.heap.size (wd A) ∧ Holds4 W (w.heap.size + 1) (wd B) ∧ Below w.heap.size w W) (fun W => Holds4 W w.heap.size (wd M) ∧ Holds4 W (w.heap.size + 1) (wd B) ∧ Below w.heap.size w W) (fun W => Holds4 W w.heap.size (wd M) ∧ Holds4 W (w.heap.size + 1) (wd M') ∧ Below w.heap.size w W) rfl (by kernel_rfl) (by kernel_rfl) ⟨get_old (get_new (by simp)), get_new (by simp), (((Below.refl _ w).alloc (by simp) _).alloc (by simp) _).drew⟩ ?_ ?_ ?_  ?_
  · refine (stepsFrom_cons ?_ (stepsFrom_cons ?_ (stepsFrom_cons ?_ (stepsFrom_cons ?_ trivial))))
    · exact step_load rfl trivial _ _ _ rfl rfl (fun w hw => whole4 w _ A hw.1)
    · exact step_call rfl trivial 12 _ _ [(sv A)] rfl (by kernel_rfl) (enters_of Try.func12 (by kernel_rfl) rfl) (fun w hw => (hA w).mono (by rintro e w' ⟨rfl, hb⟩; exact ⟨rfl, hw.1.carry hb, hw.2.1.carry hb, bcarry hw.2.2 (Nat.le_refl _) hb⟩))
    · exact step_load rfl trivial _ _ _ rfl rfl (fun w hw => whole4 w _ B hw.2.1)
    · exact step_call rfl trivial 12 _ _ [(sv B)] rfl (by kernel_rfl) (enters_of Try.func12 (by kernel_rfl) rfl) (fun w hw => (hB w).mono (by rintro e w' ⟨rfl, hb⟩; exact ⟨rfl, hw.1.carry hb, hw.2.1.carry hb, bcarry hw.2.2 (Nat.le_refl _) hb⟩))
  · intro o ho
    cases ho
    exact step_store rfl trivial rfl _ _ _ _ _ rfl rfl rfl (fun w' hw => ⟨_, wstore4 w' _ _ M hw.1, fin4 hw.1 M, (hold4 (by omega)).trans hw.2.1, below4 hw.2.2 (Nat.le_refl _) M⟩)
  · intro o ho
    cases ho
    exact step_store rfl trivial rfl _ _ _ _ _ rfl rfl rfl (fun w' hw => ⟨_, wstore4 w' _ _ M' hw.2.1, (hold4 (by omega)).trans hw.1, fin4 hw.2.1 M', below4 hw.2.2 (Nat.le_succ _) M'⟩)
  intro W hW
  first | refine hK _ _ ?_ | refine (‹∀ (a : Act) (w : World), Code.wp Try.prog _ _ a w → _›) _ _ ?_
  simp only [finL, List.getD_cons_zero, List.getD_cons_succ, Nat.zero_add, Nat.reduceAdd, List.setIfInBounds_toArray, List.set_cons_zero, List.set_cons_succ]
  obtain ⟨g1, g2, g3⟩ := hW
  clear hK
  go_wp2
  go_loopw [11] (fun c wz => ∃ k : Nat, c = .int .i64 k ∧ k ≤ 4 ∧ (∀ j, 4 - k ≤ j → j < 4 → wd M j = wd M' j) ∧ Holds4 wz w.heap.size (wd M) ∧ Holds4 wz (w.heap.size + 1) (wd M') ∧ Below w.heap.size w wz) (fun c _ => 4 - vnat c)
  case atStart => exact ⟨0, rfl, by omega, fun j h1 h2 => by omega, g1, g2, g3⟩
  case round =>
    obtain ⟨k, rfl, hk, he, h1, h2, hb⟩ := hrel
    by_cases hk4 : k < 4
    · have hki : (k : Int) < 4 := by omega
      have hl4 : 3 - k < 4 := by omega
      have hwr := neg_ofNat4 k hk4
      have hwr2 : 3 - (k : Int) = ((3 - k : Nat) : Int) := by omega
      by_cases hne : wd M (3 - k) = wd M' (3 - k)
      · go_wp2
        rename_i Q1 K1 hK
        refine wp_region_any hmx ?_
        refine wpAny_pure (fun i__ => ([(.int .i64 ((3 - k : Nat) : Int)), (.pointer (some ⟨w.heap.size, 3 - k, none⟩)), (.int .u32 ((wd M (3 - k) : Nat) : Int)), (.int .i64 ((3 - k : Nat) : Int)), (.pointer (some ⟨w.heap.size + 1, 3 - k, none⟩)), (.int .u32 ((wd M' (3 - k) : Nat) : Int)), (.bool false)] : List Value).getD i__ undef) (fun W => Holds4 W w.heap.size (wd M) ∧ Holds4 W (w.heap.size + 1) (wd M') ∧ Below w.heap.size w W) (by kernel_rfl) ⟨h1, h2, hb.drew⟩ ?_ ?_
        · refine (stepsFrom_cons ?_ (stepsFrom_cons ?_ (stepsFrom_cons ?_ (stepsFrom_cons ?_ (stepsFrom_cons ?_ (stepsFrom_cons ?_ (stepsFrom_cons ?_ trivial)))))))
          · exact step_move rfl trivial _ rfl (by kernel_rfl)
          · exact step_indexAddr rfl trivial _ _ _ _ _ rfl rfl rfl (fun w hw => idx4 _ _ hl4 w)
          · exact step_load rfl trivial _ _ _ rfl rfl (fun w hw => load4 w _ _ _ hw.1 hl4)
          · exact step_move rfl trivial _ rfl (by kernel_rfl)
          · exact step_indexAddr rfl trivial _ _ _ _ _ rfl rfl rfl (fun w hw => idx4 _ _ hl4 w)
          · exact step_load rfl trivial _ _ _ rfl rfl (fun w hw => load4 w _ _ _ hw.2.1 hl4)
          · exact step_binOp rfl trivial _ _ _ _ _ _ _ rfl rfl rfl (fun w hw => (bin_neq .u32 _ _).trans (by rw [hne]; simp))
        intro W hW
        first | refine hK _ _ ?_ | refine (‹∀ (a : Act) (w : World), Code.wp Try.prog _ _ a w → _›) _ _ ?_
        simp only [finL, List.getD_cons_zero, List.getD_cons_succ, Nat.zero_add, Nat.reduceAdd, List.setIfInBounds_toArray, List.set_cons_zero, List.set_cons_succ]
        obtain ⟨f1, f2, f3⟩ := hW
        go_wp2
        go_roundw
        case rel =>
          refine ⟨k + 1, by simp, by omega, fun j h1 h2 => ?_, f1, f2, f3⟩
          by_cases e : j = 3 - k
          · subst e; exact hne
          · exact he j (by omega) h2
        case measure => simp only [vnat]; omega
      · have hres : cmpN (wd M (3 - k)) (wd M' (3 - k)) = cmpN M M' := cmp_wd M M' _ lA lB hl4 (fun j h1 h2 => he j (by omega) h2) hne
        go_wp2
        rename_i Q1 K1 hK
        refine wp_region_any hmx ?_
        refine wpAny_pure (fun i__ => ([(.int .i64 ((3 - k : Nat) : Int)), (.pointer (some ⟨w.heap.size, 3 - k, none⟩)), (.int .u32 ((wd M (3 - k) : Nat) : Int)), (.int .i64 ((3 - k : Nat) : Int)), (.pointer (some ⟨w.heap.size + 1, 3 - k, none⟩)), (.int .u32 ((wd M' (3 - k) : Nat) : Int)), (.bool true)] : List Value).getD i__ undef) (fun W => Holds4 W w.heap.size (wd M) ∧ Holds4 W (w.heap.size + 1) (wd M') ∧ Below w.heap.size w W) (by kernel_rfl) ⟨h1, h2, hb.drew⟩ ?_ ?_
        · refine (stepsFrom_cons ?_ (stepsFrom_cons ?_ (stepsFrom_cons ?_ (stepsFrom_cons ?_ (stepsFrom_cons ?_ (stepsFrom_cons ?_ (stepsFrom_cons ?_ trivial)))))))
          · exact step_move rfl trivial _ rfl (by kernel_rfl)
          · exact step_indexAddr rfl trivial _ _ _ _ _ rfl rfl rfl (fun w hw => idx4 _ _ hl4 w)
          · exact step_load rfl trivial _ _ _ rfl rfl (fun w hw => load4 w _ _ _ hw.1 hl4)
          · exact step_move rfl trivial _ rfl (by kernel_rfl)
          · exact step_indexAddr rfl trivial _ _ _ _ _ rfl rfl rfl (fun w hw => idx4 _ _ hl4 w)
          · exact step_load rfl trivial _ _ _ rfl rfl (fun w hw => load4 w _ _ _ hw.2.1 hl4)
          · exact step_binOp rfl trivial _ _ _ _ _ _ _ rfl rfl rfl (fun w hw => (bin_neq .u32 _ _).trans (by simp; omega))
        intro W hW
        first | refine hK _ _ ?_ | refine (‹∀ (a : Act) (w : World), Code.wp Try.prog _ _ a w → _›) _ _ ?_
        simp only [finL, List.getD_cons_zero, List.getD_cons_succ, Nat.zero_add, Nat.reduceAdd, List.setIfInBounds_toArray, List.set_cons_zero, List.set_cons_succ]
        clear hK
        obtain ⟨f1, f2, f3⟩ := hW
        go_wp2
        rename_i K2 hK
        refine wp_region_any hmx ?_
        refine wpAny_pure (fun i__ => ([(.int .i64 ((3 - k : Nat) : Int)), (.pointer (some ⟨w.heap.size, 3 - k, none⟩)), (.int .u32 ((wd M (3 - k) : Nat) : Int)), (.int .i64 ((3 - k : Nat) : Int)), (.pointer (some ⟨w.heap.size + 1, 3 - k, none⟩)), (.int .u32 ((wd M' (3 - k) : Nat) : Int)), (.int .i64 (cmpN (wd M (3 - k)) (wd M' (3 - k)))), (.int .i64 (cmpN (wd M (3 - k)) (wd M' (3 - k))))] : List Value).getD i__ undef) (fun W => Holds4 W w.heap.size (wd M) ∧ Holds4 W (w.heap.size + 1) (wd M') ∧ Below w.heap.size w W) (by kernel_rfl) ⟨f1, f2, f3.drew⟩ ?_ ?_
        · refine (stepsFrom_cons ?_ (stepsFrom_cons ?_ (stepsFrom_cons ?_ (stepsFrom_cons ?_ (stepsFrom_cons ?_ (stepsFrom_cons ?_ (stepsFrom_cons ?_ (stepsFrom_cons ?_ trivial))))))))
          · exact step_move rfl trivial _ rfl (by kernel_rfl)
          · exact step_indexAddr rfl trivial _ _ _ _ _ rfl rfl rfl (fun w hw => idx4 _ _ hl4 w)
          · exact step_load rfl trivial _ _ _ rfl rfl (fun w hw => load4 w _ _ _ hw.1 hl4)
          · exact step_move rfl trivial _ rfl (by kernel_rfl)
          · exact step_indexAddr rfl trivial _ _ _ _ _ rfl rfl rfl (fun w hw => idx4 _ _ hl4 w)
          · exact step_load rfl trivial _ _ _ rfl rfl (fun w hw => load4 w _ _ _ hw.2.1 hl4)
          · exact step_call rfl trivial 25 _ _ [(.int .u32 ((wd M (3 - k) : Nat) : Int)), (.int .u32 ((wd M' (3 - k) : Nat) : Int))] rfl (by kernel_rfl) (enters_of Try.func25 (by kernel_rfl) rfl) (fun w hw => (compare_any _ _ w).mono (by rintro e w' ⟨rfl, rfl⟩; exact ⟨rfl, hw⟩))
          · exact step_assign rfl trivial _ rfl (by kernel_rfl) (fun _ h => h)
        intro W hW
        first | refine hK _ _ ?_ | refine (‹∀ (a : Act) (w : World), Code.wp Try.prog _ _ a w → _›) _ _ ?_
        simp only [finL, List.getD_cons_zero, List.getD_cons_succ, Nat.zero_add, Nat.reduceAdd, List.setIfInBounds_toArray, List.set_cons_zero, List.set_cons_succ]
        go_wp2
        go_ret
        exact ⟨ret_int hres, hW.2.2⟩
    · have hk5 : k = 4 := by omega
      subst hk5
      have e : M = M' := ext_wd lA lB (he 0 (by omega) (by omega)) (he 1 (by omega) (by omega)) (he 2 (by omega) (by omega)) (he 3 (by omega) (by omega))

      go_wp2
      go_ret
      exact ⟨ret_int (by rw [e, cmpN_self]), hb⟩

set_option maxHeartbeats 1000000 in
theorem subset_any (A B : Nat) (w : World) : Calls Try.prog 14 #[sv A, sv B] w fun e w' => e = .returned (.bool (decide (cln (dif A B) = 0))) ∧ Below w.heap.size w w' := by
  have hc := less_any A B
  have hq := eqn4 (cln (dif A B)) 0 (cln_lt' _) (by decide)
  generalize cln (dif A B) = M at *
  have e0 : sv 0 = .agg #[.int .u32 0, .int .u32 0, .int .u32 0, .int .u32 0] := by simp [sv, wd]
  rw [e0] at hq
  simp only [sv] at hc hq ⊢
  go_enter Try.func14, Try.ntmps14
  go_wp2_with (go_at_call 10; refine (hc _).mono ?_; rintro e w1 ⟨rfl, hb⟩; have hb2 : Below w.heap.size w w1 := (((Below.refl _ w).alloc (by simp) _).alloc (by simp) _).trans (hb.mono (by simp; omega)))
  go_ret
  exact ⟨rfl, hb2⟩
end Go.Proofs.Ytahlehgibcdfeaa
