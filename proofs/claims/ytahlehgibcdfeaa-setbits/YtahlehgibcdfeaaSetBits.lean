/- SetBits: for every set and number: the id i is the bit i % 32 of the word i / 32, and nothing else is looked at; no condition. -/
import Derived.Test.YtahlehgibcdfeaaRows
import Derived.WalkKit
import Derived.ProofKit
import Derived.OpenShut
import Derived.Test.YtahlehgibcdfeaaSla
namespace Go.Proofs.Ytahlehgibcdfeaa
open Go.ChangeShapes Go.WideShapes Go.ChangeAt Go.RowKit
set_option linter.unusedVariables false

theorem own : ownKnob Try.prog.godebug = none := by kernel_rfl
theorem bit_shift (N k : Nat) : bits .and .u32 ((wd N (k / 32) : Int) / 2 ^ (k % 32)) 1 = ((N.testBit k).toNat : Int) := by
  have e : ((wd N (k / 32) : Int) / 2 ^ (k % 32)) = ((wd N (k / 32) / 2 ^ (k % 32) : Nat) : Int) := by simp
  have hl : wd N (k / 32) / 2 ^ (k % 32) < 4294967296 := Nat.lt_of_le_of_lt (Nat.div_le_self _ _) (wd_lt _ _)
  have h := u32_and_nat (wd N (k / 32) / 2 ^ (k % 32)) 1 hl (by decide)
  rw [e]
  refine h.trans ?_
  rw [Nat.and_one_is_mod, ← bit_word N k, Nat.testBit_eq_decide_div_mod_eq]
  have := Nat.mod_lt (wd N (k / 32) / 2 ^ (k % 32)) (show 2 > 0 by decide)
  rcases (show wd N (k / 32) / 2 ^ (k % 32) % 2 = 0 ∨ wd N (k / 32) / 2 ^ (k % 32) % 2 = 1 by omega) with h | h <;> rw [h] <;> rfl
theorem wd_xbit (N i j : Nat) : wd (N ^^^ 2 ^ i) j = if j = i / 32 then wd N j ^^^ 2 ^ (i % 32) else wd N j := by
  apply Nat.eq_of_testBit_eq; intro b
  rw [testBit_wd, Nat.testBit_xor, Nat.testBit_two_pow]
  split
  · rename_i h
    subst h
    rw [Nat.testBit_xor, testBit_wd, Nat.testBit_two_pow]
    by_cases hb : b < 32
    · have e : (i = 32 * (i / 32) + b) = (i % 32 = b) := by simp; omega
      simp [hb, e]
    · have e : ¬ i % 32 = b := by omega
      simp [hb, e]
  · rename_i h
    rw [testBit_wd]
    by_cases hb : b < 32
    · have e : ¬ i = 32 * j + b := by omega
      simp [hb, e]
    · simp [hb]
theorem tb_flip (N k : Nat) : (N ^^^ 2 ^ k).testBit k = !N.testBit k := by rw [Nat.testBit_xor, Nat.testBit_two_pow_self]; cases N.testBit k <;> rfl
theorem tb_else (N k i : Nat) (h : i ≠ k) : (N ^^^ 2 ^ k).testBit i = N.testBit i := by rw [Nat.testBit_xor, Nat.testBit_two_pow]; simp [Ne.symm h]
theorem cln_flip (N k : Nat) (h : ¬ k < 100) : cln N = cln (N ^^^ 2 ^ k) := cln_ext (fun i hi => (tb_else N k i (by omega)).symm)
theorem cnt_up (N k : Nat) (h : k < 100) (hb : N.testBit k = false) : cnt (cln (N ^^^ 2 ^ k)) = cnt (cln N) + 1 :=
  popAux_flip 128 (cln N) (cln (N ^^^ 2 ^ k)) k (by omega) (fun i _ hne => by rw [testBit_cln, testBit_cln, tb_else N k i hne]) (by rw [testBit_cln, hb]; simp) (by rw [testBit_cln, tb_flip, hb]; simp [h])
theorem cnt_down (N k : Nat) (h : k < 100) (hb : N.testBit k = true) : cnt (cln N) = cnt (cln (N ^^^ 2 ^ k)) + 1 :=
  popAux_flip 128 (cln (N ^^^ 2 ^ k)) (cln N) k (by omega) (fun i _ hne => by rw [testBit_cln, testBit_cln, tb_else N k i hne]) (by rw [testBit_cln, tb_flip, hb]; simp) (by rw [testBit_cln, hb]; simp [h])
theorem bin_neqb {x y : Operand} (a b : Bool) (w : World) : binRun Try.prog .neq 4 x y (.bool a) (.bool b) w = .ok (.bool (a != b)) w := by
  unfold binRun
  go_simp
  cases a <;> cases b <;> rfl
theorem bin_eqlb {x y : Operand} (a b : Bool) (w : World) : binRun Try.prog .eql 4 x y (.bool a) (.bool b) w = .ok (.bool (a == b)) w := by
  unfold binRun
  go_simp
structure JB (w : World) (A B : Nat) (W : World) : Prop where
  a : Holds4 W w.heap.size (wd A)
  b : Holds4 W (w.heap.size + 1) (wd B)
  below : Below w.heap.size w W
theorem JB.carry {w : World} {A B : Nat} {W W' : World} (h : JB w A B W) (hb : Below W.heap.size W W') : JB w A B W' :=
  ⟨h.a.carry hb, h.b.carry hb, bcarry h.below (Nat.le_refl _) hb⟩
set_option maxHeartbeats 4000000 in
set_option maxRecDepth 100000 in
theorem walk (N0 : Nat) (hN0 : N0 < S128) (a1 : Int) (w1 : (Lit.int .i64 a1).wf = true) (w : World) :
    Calls Try.prog 5 #[sv N0, .int .i64 a1] w fun e w' => e = .returned (.bool true) ∧ Below w.heap.size w w' := by
  have hmx : Try.prog.follows .mixedOrders = true := by kernel_rfl
  have hh := has_any N0 a1
  by_cases hr : 0 ≤ a1 ∧ a1 < 128
  · obtain ⟨k, rfl⟩ := Int.eq_ofNat_of_zero_le hr.1
    have hk : k < 128 := by omega
    have hq : k / 32 < 4 := by omega
    have hm : k % 32 < 32 := Nat.mod_lt _ (by decide)
    have h1 : ¬ (k : Int) < 0 := by omega
    have h2 : ¬ (k : Int) ≥ 128 := by omega
    have c : ∀ t, (w.alloc (.cells #[.int .u32 (wd N0 0 : Nat), .int .u32 (wd N0 1 : Nat), .int .u32 (wd N0 2 : Nat), .int .u32 (wd N0 3 : Nat)] t)).cell? ⟨w.heap.size, k / 32, none⟩ = some (.int .u32 (wd N0 (k / 32) : Nat)) := by
      intro t
      have : (w.alloc (.cells (cells4 (wd N0)) t)).heap[w.heap.size]? = some (.cells (cells4 (wd N0)) t) := get_new rfl
      simp only [World.cell?]
      show (match (w.alloc (.cells (cells4 (wd N0)) t)).heap[w.heap.size]? with | some (.cells cs _ _) => cs[k / 32]? | _ => none) = _
      rw [this]
      exact cells4_get (wd N0) _ hq
    rcases (show (N0.testBit k = true ∧ k < 100) ∨ (N0.testBit k = true ∧ ¬ k < 100) ∨ (N0.testBit k = false ∧ k < 100) ∨ (N0.testBit k = false ∧ ¬ k < 100) by cases N0.testBit k <;> by_cases k < 100 <;> simp_all) with ⟨htb, hs⟩ | ⟨htb, hs⟩ | ⟨htb, hs⟩ | ⟨htb, hs⟩
    · have hsi : (k : Int) < 100 := by omega
      have hb1 : bits .and .u32 ((wd N0 (k / 32) : Int) / 2 ^ (k % 32)) 1 = 1 := by rw [bit_shift, htb]; rfl
      have e1 : hasB N0 (k : Int) = true := by simp [hasB, htb, Int.toNat_natCast]; omega
      have e2 : hasB (N0 ^^^ 2 ^ k) (k : Int) = false := by simp [hasB, htb, Int.toNat_natCast]
      have hT : N0 ^^^ 2 ^ k < S128 := xor_lt hN0 (Nat.pow_lt_pow_right (a := 2) (n := 128) (by decide) hk)
      rw [e1] at hh
      have hh2 := has_any (N0 ^^^ 2 ^ k) (k : Int)
      rw [e2] at hh2
      have hmask : 2 ^ (k % 32) < 4294967296 := Nat.pow_lt_pow_right (a := 2) (n := 32) (by decide) hm
      simp only [sv]
      go_enter Try.func5, Try.ntmps5
      go_wp2
      refine wp_region_any hmx ?_
      refine wpAny_last 11 (fun i__ => ([(.int .i64 (k : Int)), (.int .i64 ((k / 32 : Nat) : Int)), (.int .i64 (k : Int)), (.int .i64 ((k / 32 : Nat) : Int)), (.pointer (some ⟨w.heap.size + 1, k / 32, none⟩)), (.int .u32 ((wd N0 (k / 32) : Nat) : Int)), (.int .i64 (k : Int)), (.int .i64 ((k % 32 : Nat) : Int)), (.int .u32 ((2 ^ (k % 32) : Nat) : Int)), (.int .u32 ((wd N0 (k / 32) ^^^ 2 ^ (k % 32) : Nat) : Int)), (.pointer (some ⟨w.heap.size + 1, k / 32, none⟩)), undef] : List Value).getD i__ undef) (fun W => JB w N0 N0 W) (fun W => JB w N0 (N0 ^^^ 2 ^ k) W) rfl (by kernel_rfl) (by kernel_rfl) ⟨get_old (get_new (by simp)), get_new (by simp), (((Below.refl _ w).alloc (by simp) _).alloc (by simp) _).drew⟩ ?_ ?_  ?_
      · refine (stepsFrom_cons ?_ (stepsFrom_cons ?_ (stepsFrom_cons ?_ (stepsFrom_cons ?_ (stepsFrom_cons ?_ (stepsFrom_cons ?_ (stepsFrom_cons ?_ (stepsFrom_cons ?_ (stepsFrom_cons ?_ (stepsFrom_cons ?_ (stepsFrom_cons ?_ trivial)))))))))))
        · exact step_move rfl trivial _ rfl (by kernel_rfl)
        · exact step_binOp rfl trivial _ _ _ _ _ _ _ rfl rfl rfl (fun w hw => bin_quo64 k 32 (by omega) (by omega))
        · exact step_move rfl trivial _ rfl (by kernel_rfl)
        · exact step_binOp rfl trivial _ _ _ _ _ _ _ rfl rfl rfl (fun w hw => bin_quo64 k 32 (by omega) (by omega))
        · exact step_indexAddr rfl trivial _ _ _ _ _ rfl rfl rfl (fun w hw => idx4 _ _ hq w)
        · exact step_load rfl trivial _ _ _ rfl rfl (fun w hw => load4 w _ _ _ hw.b hq)
        · exact step_move rfl trivial _ rfl (by kernel_rfl)
        · exact step_binOp rfl trivial _ _ _ _ _ _ _ rfl rfl rfl (fun w hw => bin_rem64 k 32 (by omega))
        · exact step_binOp rfl trivial _ _ _ _ _ _ _ rfl rfl rfl (fun w hw => bin_shl32 .i64 _ hm)
        · exact step_binOp rfl trivial _ _ _ _ _ _ _ rfl rfl rfl (fun w hw => bin_xor32 _ _ (wd_lt _ _) hmask)
        · exact step_indexAddr rfl trivial _ _ _ _ _ rfl rfl rfl (fun w hw => idx4 _ _ hq w)
      · intro o ho
        cases ho
        exact step_store rfl trivial rfl _ _ _ _ _ rfl rfl rfl (fun w' hw => by obtain ⟨w2, f1, f2, f3, f4⟩ := store4 w' _ _ _ _ hw.b hq; refine ⟨w2, f1, (f4 _ (by omega)).trans hw.a, f2.congr (fun j hj => ?_), hw.below.trans (f3 _ (by omega))⟩; rw [wd_xbit]; split <;> simp_all)
      intro W hW
      first | refine hK _ _ ?_ | refine (‹∀ (a : Act) (w : World), Code.wp Try.prog _ _ a w → _›) _ _ ?_
      simp only [finL, List.getD_cons_zero, List.getD_cons_succ, Nat.zero_add, Nat.reduceAdd, List.setIfInBounds_toArray, List.set_cons_zero, List.set_cons_succ]
      refine wp_seq (wp_seq (wp_region ?_))
      refine wpOps_pure (fun i__ => ([(sv N0), (.int .i64 (k : Int)), (.bool true), (.bool true), (.bool false), (.bool false), (sv (N0 ^^^ 2 ^ k)), (.int .i64 (k : Int)), (.bool false), (.bool true), (.bool false), (.bool false), undef, undef, (Go.Value.bool Bool.false), (Go.Value.bool Bool.false)] : List Value).getD i__ undef) (fun W => JB w N0 (N0 ^^^ 2 ^ k) W) (by kernel_rfl) hW ?_ ?_
      · refine (stepsFrom_cons ?_ (stepsFrom_cons ?_ (stepsFrom_cons ?_ (stepsFrom_cons ?_ (stepsFrom_cons ?_ (stepsFrom_cons ?_ (stepsFrom_cons ?_ (stepsFrom_cons ?_ (stepsFrom_cons ?_ (stepsFrom_cons ?_ (stepsFrom_cons ?_ (stepsFrom_cons ?_ (stepsFrom_cons ?_ (stepsFrom_cons ?_ (stepsFrom_cons ?_ (stepsFrom_cons ?_ trivial))))))))))))))))
        · exact step_load rfl trivial _ _ _ rfl rfl (fun w hw => whole4 w _ N0 hw.a)
        · exact step_move rfl trivial _ rfl (by kernel_rfl)
        · exact step_call rfl trivial 15 _ _ [(sv N0), (.int .i64 (k : Int))] rfl (by kernel_rfl) (enters_of Try.func15 (by kernel_rfl) rfl) (fun w hw => (hh w).mono (by rintro e w' ⟨rfl, hb⟩; exact ⟨rfl, hw.carry hb⟩))
        · exact step_move rfl trivial _ rfl (by kernel_rfl)
        · exact step_binOp rfl trivial _ _ _ _ _ _ _ rfl rfl rfl (fun w hw => bin_neqb true true w)
        · exact step_move rfl trivial _ rfl (by kernel_rfl)
        · exact step_load rfl (by exact ⟨_, rfl, by kernel_rfl⟩) _ _ _ rfl rfl (fun w hw => whole4 w _ (N0 ^^^ 2 ^ k) hw.b)
        · exact step_move rfl (by exact ⟨_, rfl, by kernel_rfl⟩) _ rfl (by kernel_rfl)
        · exact step_call rfl (by exact ⟨_, rfl, by kernel_rfl⟩) 15 _ _ [(sv (N0 ^^^ 2 ^ k)), (.int .i64 (k : Int))] rfl (by kernel_rfl) (enters_of Try.func15 (by kernel_rfl) rfl) (fun w hw => (hh2 w).mono (by rintro e w' ⟨rfl, hb⟩; exact ⟨rfl, hw.carry hb⟩))
        · exact step_move rfl (by exact ⟨_, rfl, by kernel_rfl⟩) _ rfl (by kernel_rfl)
        · exact step_binOp rfl (by exact ⟨_, rfl, by kernel_rfl⟩) _ _ _ _ _ _ _ rfl rfl rfl (fun w hw => bin_eqlb false true w)
        · exact step_move rfl (by exact ⟨_, rfl, by kernel_rfl⟩) _ rfl (by kernel_rfl)
        · exact step_skip rfl 11 true 57 (.bool false) rfl rfl (by kernel_rfl) (by intro h; cases h) rfl
        · exact step_skip rfl 11 true 57 (.bool false) rfl rfl (by kernel_rfl) (by intro h; cases h) rfl
        · exact step_pick rfl (by exact ⟨_, rfl, by kernel_rfl⟩) _ _ _ false rfl (by kernel_rfl) (by kernel_rfl)
        · exact step_pick rfl trivial _ _ _ false rfl (by kernel_rfl) (by kernel_rfl)
      intro W hW
      simp only [Exit.then, finL, List.getD_cons_zero, List.getD_cons_succ, Nat.zero_add, Nat.reduceAdd, List.setIfInBounds_toArray, List.set_cons_zero, List.set_cons_succ]
      clear hh hh2
      go_wp2
      refine wp_region_any hmx ?_
      have hcu := cnt_down N0 k (by omega) htb
      refine wpAny_pure (fun i__ => ([(sv (N0 ^^^ 2 ^ k)), (.int .i64 ((cnt (cln (N0 ^^^ 2 ^ k)) : Nat) : Int)), (sv N0), (.int .i64 ((cnt (cln N0) : Nat) : Int)), (.int .i64 (-1)), (.int .i64 (-1))] : List Value).getD i__ undef) (fun W => JB w N0 (N0 ^^^ 2 ^ k) W) (by kernel_rfl) (hW.carry (Below.refl _ _).drew) ?_ ?_
      · refine (stepsFrom_cons ?_ (stepsFrom_cons ?_ (stepsFrom_cons ?_ (stepsFrom_cons ?_ (stepsFrom_cons ?_ (stepsFrom_cons ?_ trivial))))))
        · exact step_load rfl trivial _ _ _ rfl rfl (fun w hw => whole4 w _ (N0 ^^^ 2 ^ k) hw.b)
        · exact step_call rfl trivial 9 _ _ [(sv (N0 ^^^ 2 ^ k))] rfl (by kernel_rfl) (enters_of Try.func9 (by kernel_rfl) rfl) (fun w hw => (count_any (N0 ^^^ 2 ^ k) w).mono (by rintro e w' ⟨rfl, hb⟩; exact ⟨rfl, hw.carry hb⟩))
        · exact step_load rfl trivial _ _ _ rfl rfl (fun w hw => whole4 w _ N0 hw.a)
        · exact step_call rfl trivial 9 _ _ [(sv N0)] rfl (by kernel_rfl) (enters_of Try.func9 (by kernel_rfl) rfl) (fun w hw => (count_any N0 w).mono (by rintro e w' ⟨rfl, hb⟩; exact ⟨rfl, hw.carry hb⟩))
        · exact step_binOp rfl trivial _ _ _ _ _ _ _ rfl rfl rfl (fun w hw => bin_sub64 _ _ _ (by rw [IntKind.wrap_i64]; omega))
        · exact step_assign rfl trivial _ rfl (by kernel_rfl) (fun _ h => h)
      intro W hW
      first | refine hK _ _ ?_ | refine (‹∀ (a : Act) (w : World), Code.wp Try.prog _ _ a w → _›) _ _ ?_
      simp only [finL, List.getD_cons_zero, List.getD_cons_succ, Nat.zero_add, Nat.reduceAdd, List.setIfInBounds_toArray, List.set_cons_zero, List.set_cons_succ]
      have hW9 := hW.below
      go_wp2_with (go_at_call 11; refine (alive_any _).mono ?_; rintro e w1 ⟨rfl, hb⟩)
      go_ret
      exact ⟨rfl, bcarry hW9 (Nat.le_refl _) hb⟩
    · have hsi : ¬ (k : Int) < 100 := by omega
      have hb1 : bits .and .u32 ((wd N0 (k / 32) : Int) / 2 ^ (k % 32)) 1 = 1 := by rw [bit_shift, htb]; rfl
      have e1 : hasB N0 (k : Int) = false := by simp [hasB, htb, Int.toNat_natCast]; omega
      have e2 : hasB (N0 ^^^ 2 ^ k) (k : Int) = false := by simp [hasB, htb, Int.toNat_natCast]
      have hT : N0 ^^^ 2 ^ k < S128 := xor_lt hN0 (Nat.pow_lt_pow_right (a := 2) (n := 128) (by decide) hk)
      rw [e1] at hh
      have hh2 := has_any (N0 ^^^ 2 ^ k) (k : Int)
      rw [e2] at hh2
      have hmask : 2 ^ (k % 32) < 4294967296 := Nat.pow_lt_pow_right (a := 2) (n := 32) (by decide) hm
      simp only [sv]
      go_enter Try.func5, Try.ntmps5
      go_wp2
      refine wp_region_any hmx ?_
      refine wpAny_last 11 (fun i__ => ([(.int .i64 (k : Int)), (.int .i64 ((k / 32 : Nat) : Int)), (.int .i64 (k : Int)), (.int .i64 ((k / 32 : Nat) : Int)), (.pointer (some ⟨w.heap.size + 1, k / 32, none⟩)), (.int .u32 ((wd N0 (k / 32) : Nat) : Int)), (.int .i64 (k : Int)), (.int .i64 ((k % 32 : Nat) : Int)), (.int .u32 ((2 ^ (k % 32) : Nat) : Int)), (.int .u32 ((wd N0 (k / 32) ^^^ 2 ^ (k % 32) : Nat) : Int)), (.pointer (some ⟨w.heap.size + 1, k / 32, none⟩)), undef] : List Value).getD i__ undef) (fun W => JB w N0 N0 W) (fun W => JB w N0 (N0 ^^^ 2 ^ k) W) rfl (by kernel_rfl) (by kernel_rfl) ⟨get_old (get_new (by simp)), get_new (by simp), (((Below.refl _ w).alloc (by simp) _).alloc (by simp) _).drew⟩ ?_ ?_  ?_
      · refine (stepsFrom_cons ?_ (stepsFrom_cons ?_ (stepsFrom_cons ?_ (stepsFrom_cons ?_ (stepsFrom_cons ?_ (stepsFrom_cons ?_ (stepsFrom_cons ?_ (stepsFrom_cons ?_ (stepsFrom_cons ?_ (stepsFrom_cons ?_ (stepsFrom_cons ?_ trivial)))))))))))
        · exact step_move rfl trivial _ rfl (by kernel_rfl)
        · exact step_binOp rfl trivial _ _ _ _ _ _ _ rfl rfl rfl (fun w hw => bin_quo64 k 32 (by omega) (by omega))
        · exact step_move rfl trivial _ rfl (by kernel_rfl)
        · exact step_binOp rfl trivial _ _ _ _ _ _ _ rfl rfl rfl (fun w hw => bin_quo64 k 32 (by omega) (by omega))
        · exact step_indexAddr rfl trivial _ _ _ _ _ rfl rfl rfl (fun w hw => idx4 _ _ hq w)
        · exact step_load rfl trivial _ _ _ rfl rfl (fun w hw => load4 w _ _ _ hw.b hq)
        · exact step_move rfl trivial _ rfl (by kernel_rfl)
        · exact step_binOp rfl trivial _ _ _ _ _ _ _ rfl rfl rfl (fun w hw => bin_rem64 k 32 (by omega))
        · exact step_binOp rfl trivial _ _ _ _ _ _ _ rfl rfl rfl (fun w hw => bin_shl32 .i64 _ hm)
        · exact step_binOp rfl trivial _ _ _ _ _ _ _ rfl rfl rfl (fun w hw => bin_xor32 _ _ (wd_lt _ _) hmask)
        · exact step_indexAddr rfl trivial _ _ _ _ _ rfl rfl rfl (fun w hw => idx4 _ _ hq w)
      · intro o ho
        cases ho
        exact step_store rfl trivial rfl _ _ _ _ _ rfl rfl rfl (fun w' hw => by obtain ⟨w2, f1, f2, f3, f4⟩ := store4 w' _ _ _ _ hw.b hq; refine ⟨w2, f1, (f4 _ (by omega)).trans hw.a, f2.congr (fun j hj => ?_), hw.below.trans (f3 _ (by omega))⟩; rw [wd_xbit]; split <;> simp_all)
      intro W hW
      first | refine hK _ _ ?_ | refine (‹∀ (a : Act) (w : World), Code.wp Try.prog _ _ a w → _›) _ _ ?_
      simp only [finL, List.getD_cons_zero, List.getD_cons_succ, Nat.zero_add, Nat.reduceAdd, List.setIfInBounds_toArray, List.set_cons_zero, List.set_cons_succ]
      refine wp_seq (wp_seq (wp_region ?_))
      refine wpOps_pure (fun i__ => ([(sv N0), (.int .i64 (k : Int)), (.bool false), (.bool false), (.bool false), (.bool false), (sv (N0 ^^^ 2 ^ k)), (.int .i64 (k : Int)), (.bool false), (.bool false), (.bool true), (.bool true), (.int .i64 (k : Int)), (.bool false), (.bool false), (.bool false)] : List Value).getD i__ undef) (fun W => JB w N0 (N0 ^^^ 2 ^ k) W) (by kernel_rfl) hW ?_ ?_
      · refine (stepsFrom_cons ?_ (stepsFrom_cons ?_ (stepsFrom_cons ?_ (stepsFrom_cons ?_ (stepsFrom_cons ?_ (stepsFrom_cons ?_ (stepsFrom_cons ?_ (stepsFrom_cons ?_ (stepsFrom_cons ?_ (stepsFrom_cons ?_ (stepsFrom_cons ?_ (stepsFrom_cons ?_ (stepsFrom_cons ?_ (stepsFrom_cons ?_ (stepsFrom_cons ?_ (stepsFrom_cons ?_ trivial))))))))))))))))
        · exact step_load rfl trivial _ _ _ rfl rfl (fun w hw => whole4 w _ N0 hw.a)
        · exact step_move rfl trivial _ rfl (by kernel_rfl)
        · exact step_call rfl trivial 15 _ _ [(sv N0), (.int .i64 (k : Int))] rfl (by kernel_rfl) (enters_of Try.func15 (by kernel_rfl) rfl) (fun w hw => (hh w).mono (by rintro e w' ⟨rfl, hb⟩; exact ⟨rfl, hw.carry hb⟩))
        · exact step_move rfl trivial _ rfl (by kernel_rfl)
        · exact step_binOp rfl trivial _ _ _ _ _ _ _ rfl rfl rfl (fun w hw => bin_neqb false false w)
        · exact step_move rfl trivial _ rfl (by kernel_rfl)
        · exact step_load rfl (by exact ⟨_, rfl, by kernel_rfl⟩) _ _ _ rfl rfl (fun w hw => whole4 w _ (N0 ^^^ 2 ^ k) hw.b)
        · exact step_move rfl (by exact ⟨_, rfl, by kernel_rfl⟩) _ rfl (by kernel_rfl)
        · exact step_call rfl (by exact ⟨_, rfl, by kernel_rfl⟩) 15 _ _ [(sv (N0 ^^^ 2 ^ k)), (.int .i64 (k : Int))] rfl (by kernel_rfl) (enters_of Try.func15 (by kernel_rfl) rfl) (fun w hw => (hh2 w).mono (by rintro e w' ⟨rfl, hb⟩; exact ⟨rfl, hw.carry hb⟩))
        · exact step_move rfl (by exact ⟨_, rfl, by kernel_rfl⟩) _ rfl (by kernel_rfl)
        · exact step_binOp rfl (by exact ⟨_, rfl, by kernel_rfl⟩) _ _ _ _ _ _ _ rfl rfl rfl (fun w hw => bin_eqlb false false w)
        · exact step_move rfl (by exact ⟨_, rfl, by kernel_rfl⟩) _ rfl (by kernel_rfl)
        · exact step_move rfl (by exact ⟨_, rfl, by kernel_rfl⟩) _ rfl (by kernel_rfl)
        · exact step_binOp rfl (by exact ⟨_, rfl, by kernel_rfl⟩) _ _ _ _ _ _ _ rfl rfl rfl (fun w hw => (bin_lss .i64 _ _).trans (by rw [decide_eq_false (by omega)]; rfl))
        · exact step_pick rfl (by exact ⟨_, rfl, by kernel_rfl⟩) _ _ _ true rfl (by kernel_rfl) (by kernel_rfl)
        · exact step_pick rfl trivial _ _ _ false rfl (by kernel_rfl) (by kernel_rfl)
      intro W hW
      simp only [Exit.then, finL, List.getD_cons_zero, List.getD_cons_succ, Nat.zero_add, Nat.reduceAdd, List.setIfInBounds_toArray, List.set_cons_zero, List.set_cons_succ]
      clear hh hh2
      go_wp2
      refine wp_region_any hmx ?_
      have hcf := cln_flip N0 k (by omega)
      refine wpAny_pure (fun i__ => ([(.bool true), (.bool true), (sv N0), (sv (cln N0)), (sv (N0 ^^^ 2 ^ k)), (sv (cln (N0 ^^^ 2 ^ k))), (.bool true), (.bool true), (.bool true), (sv N0), (.int .i64 ((cnt (cln N0) : Nat) : Int)), (sv (N0 ^^^ 2 ^ k)), (.int .i64 ((cnt (cln (N0 ^^^ 2 ^ k)) : Nat) : Int)), (.bool true), (.bool true), (.bool true), (sv N0), (sv (N0 ^^^ 2 ^ k)), (.int .i64 (cmpN (cln N0) (cln (N0 ^^^ 2 ^ k)))), (.bool true), (.bool true), (.bool true)] : List Value).getD i__ undef) (fun W => JB w N0 (N0 ^^^ 2 ^ k) W) (by kernel_rfl) (hW.carry (Below.refl _ _).drew) ?_ ?_
      · refine (stepsFrom_cons ?_ (stepsFrom_cons ?_ (stepsFrom_cons ?_ (stepsFrom_cons ?_ (stepsFrom_cons ?_ (stepsFrom_cons ?_ (stepsFrom_cons ?_ (stepsFrom_cons ?_ (stepsFrom_cons ?_ (stepsFrom_cons ?_ (stepsFrom_cons ?_ (stepsFrom_cons ?_ (stepsFrom_cons ?_ (stepsFrom_cons ?_ (stepsFrom_cons ?_ (stepsFrom_cons ?_ (stepsFrom_cons ?_ (stepsFrom_cons ?_ (stepsFrom_cons ?_ (stepsFrom_cons ?_ (stepsFrom_cons ?_ (stepsFrom_cons ?_ trivial))))))))))))))))))))))
        · exact step_call rfl trivial 11 _ _ [] rfl (by kernel_rfl) (enters_of Try.func11 (by kernel_rfl) rfl) (fun w hw => (alive_any  w).mono (by rintro e w' ⟨rfl, hb⟩; exact ⟨rfl, hw.carry hb⟩))
        · exact step_move rfl trivial _ rfl (by kernel_rfl)
        · exact step_load rfl (by exact ⟨_, rfl, by kernel_rfl⟩) _ _ _ rfl rfl (fun w hw => whole4 w _ N0 hw.a)
        · exact step_call rfl (by exact ⟨_, rfl, by kernel_rfl⟩) 12 _ _ [(sv N0)] rfl (by kernel_rfl) (enters_of Try.func12 (by kernel_rfl) rfl) (fun w hw => (clean_any N0 w).mono (by rintro e w' ⟨rfl, hb⟩; exact ⟨rfl, hw.carry hb⟩))
        · exact step_load rfl (by exact ⟨_, rfl, by kernel_rfl⟩) _ _ _ rfl rfl (fun w hw => whole4 w _ (N0 ^^^ 2 ^ k) hw.b)
        · exact step_call rfl (by exact ⟨_, rfl, by kernel_rfl⟩) 12 _ _ [(sv (N0 ^^^ 2 ^ k))] rfl (by kernel_rfl) (enters_of Try.func12 (by kernel_rfl) rfl) (fun w hw => (clean_any (N0 ^^^ 2 ^ k) w).mono (by rintro e w' ⟨rfl, hb⟩; exact ⟨rfl, hw.carry hb⟩))
        · exact step_binOp rfl (by exact ⟨_, rfl, by kernel_rfl⟩) _ _ _ _ _ _ _ rfl rfl rfl (fun w hw => eqls hcf (cln_lt' _) w)
        · exact step_pick rfl trivial _ _ _ true rfl (by kernel_rfl) (by kernel_rfl)
        · exact step_move rfl trivial _ rfl (by kernel_rfl)
        · exact step_load rfl (by exact ⟨_, rfl, by kernel_rfl⟩) _ _ _ rfl rfl (fun w hw => whole4 w _ N0 hw.a)
        · exact step_call rfl (by exact ⟨_, rfl, by kernel_rfl⟩) 9 _ _ [(sv N0)] rfl (by kernel_rfl) (enters_of Try.func9 (by kernel_rfl) rfl) (fun w hw => (count_any N0 w).mono (by rintro e w' ⟨rfl, hb⟩; exact ⟨rfl, hw.carry hb⟩))
        · exact step_load rfl (by exact ⟨_, rfl, by kernel_rfl⟩) _ _ _ rfl rfl (fun w hw => whole4 w _ (N0 ^^^ 2 ^ k) hw.b)
        · exact step_call rfl (by exact ⟨_, rfl, by kernel_rfl⟩) 9 _ _ [(sv (N0 ^^^ 2 ^ k))] rfl (by kernel_rfl) (enters_of Try.func9 (by kernel_rfl) rfl) (fun w hw => (count_any (N0 ^^^ 2 ^ k) w).mono (by rintro e w' ⟨rfl, hb⟩; exact ⟨rfl, hw.carry hb⟩))
        · exact step_binOp rfl (by exact ⟨_, rfl, by kernel_rfl⟩) _ _ _ _ _ _ _ rfl rfl rfl (fun w hw => (bin_eql .i64 _ _).trans (by rw [← hcf]; simp))
        · exact step_pick rfl trivial _ _ _ true rfl (by kernel_rfl) (by kernel_rfl)
        · exact step_move rfl trivial _ rfl (by kernel_rfl)
        · exact step_load rfl (by exact ⟨_, rfl, by kernel_rfl⟩) _ _ _ rfl rfl (fun w hw => whole4 w _ N0 hw.a)
        · exact step_load rfl (by exact ⟨_, rfl, by kernel_rfl⟩) _ _ _ rfl rfl (fun w hw => whole4 w _ (N0 ^^^ 2 ^ k) hw.b)
        · exact step_call rfl (by exact ⟨_, rfl, by kernel_rfl⟩) 13 _ _ [(sv N0), (sv (N0 ^^^ 2 ^ k))] rfl (by kernel_rfl) (enters_of Try.func13 (by kernel_rfl) rfl) (fun w hw => (order_any N0 (N0 ^^^ 2 ^ k) w).mono (by rintro e w' ⟨rfl, hb⟩; exact ⟨rfl, hw.carry hb⟩))
        · exact step_binOp rfl (by exact ⟨_, rfl, by kernel_rfl⟩) _ _ _ _ _ _ _ rfl rfl rfl (fun w hw => (bin_eql .i64 _ _).trans (by rw [← hcf, cmpN_self]; rfl))
        · exact step_pick rfl trivial _ _ _ true rfl (by kernel_rfl) (by kernel_rfl)
        · exact step_assign rfl trivial _ rfl (by kernel_rfl) (fun _ h => h)
      intro W hW
      first | refine hK _ _ ?_ | refine (‹∀ (a : Act) (w : World), Code.wp Try.prog _ _ a w → _›) _ _ ?_
      simp only [finL, List.getD_cons_zero, List.getD_cons_succ, Nat.zero_add, Nat.reduceAdd, List.setIfInBounds_toArray, List.set_cons_zero, List.set_cons_succ]
      go_wp2
      go_ret
      exact ⟨rfl, hW.below⟩
    · have hsi : (k : Int) < 100 := by omega
      have hb1 : bits .and .u32 ((wd N0 (k / 32) : Int) / 2 ^ (k % 32)) 1 = 0 := by rw [bit_shift, htb]; rfl
      have e1 : hasB N0 (k : Int) = false := by simp [hasB, htb, Int.toNat_natCast]
      have e2 : hasB (N0 ^^^ 2 ^ k) (k : Int) = true := by simp [hasB, htb, Int.toNat_natCast]; omega
      have hT : N0 ^^^ 2 ^ k < S128 := xor_lt hN0 (Nat.pow_lt_pow_right (a := 2) (n := 128) (by decide) hk)
      rw [e1] at hh
      have hh2 := has_any (N0 ^^^ 2 ^ k) (k : Int)
      rw [e2] at hh2
      have hmask : 2 ^ (k % 32) < 4294967296 := Nat.pow_lt_pow_right (a := 2) (n := 32) (by decide) hm
      simp only [sv]
      go_enter Try.func5, Try.ntmps5
      go_wp2
      refine wp_region_any hmx ?_
      refine wpAny_last 11 (fun i__ => ([(.int .i64 (k : Int)), (.int .i64 ((k / 32 : Nat) : Int)), (.int .i64 (k : Int)), (.int .i64 ((k / 32 : Nat) : Int)), (.pointer (some ⟨w.heap.size + 1, k / 32, none⟩)), (.int .u32 ((wd N0 (k / 32) : Nat) : Int)), (.int .i64 (k : Int)), (.int .i64 ((k % 32 : Nat) : Int)), (.int .u32 ((2 ^ (k % 32) : Nat) : Int)), (.int .u32 ((wd N0 (k / 32) ^^^ 2 ^ (k % 32) : Nat) : Int)), (.pointer (some ⟨w.heap.size + 1, k / 32, none⟩)), undef] : List Value).getD i__ undef) (fun W => JB w N0 N0 W) (fun W => JB w N0 (N0 ^^^ 2 ^ k) W) rfl (by kernel_rfl) (by kernel_rfl) ⟨get_old (get_new (by simp)), get_new (by simp), (((Below.refl _ w).alloc (by simp) _).alloc (by simp) _).drew⟩ ?_ ?_  ?_
      · refine (stepsFrom_cons ?_ (stepsFrom_cons ?_ (stepsFrom_cons ?_ (stepsFrom_cons ?_ (stepsFrom_cons ?_ (stepsFrom_cons ?_ (stepsFrom_cons ?_ (stepsFrom_cons ?_ (stepsFrom_cons ?_ (stepsFrom_cons ?_ (stepsFrom_cons ?_ trivial)))))))))))
        · exact step_move rfl trivial _ rfl (by kernel_rfl)
        · exact step_binOp rfl trivial _ _ _ _ _ _ _ rfl rfl rfl (fun w hw => bin_quo64 k 32 (by omega) (by omega))
        · exact step_move rfl trivial _ rfl (by kernel_rfl)
        · exact step_binOp rfl trivial _ _ _ _ _ _ _ rfl rfl rfl (fun w hw => bin_quo64 k 32 (by omega) (by omega))
        · exact step_indexAddr rfl trivial _ _ _ _ _ rfl rfl rfl (fun w hw => idx4 _ _ hq w)
        · exact step_load rfl trivial _ _ _ rfl rfl (fun w hw => load4 w _ _ _ hw.b hq)
        · exact step_move rfl trivial _ rfl (by kernel_rfl)
        · exact step_binOp rfl trivial _ _ _ _ _ _ _ rfl rfl rfl (fun w hw => bin_rem64 k 32 (by omega))
        · exact step_binOp rfl trivial _ _ _ _ _ _ _ rfl rfl rfl (fun w hw => bin_shl32 .i64 _ hm)
        · exact step_binOp rfl trivial _ _ _ _ _ _ _ rfl rfl rfl (fun w hw => bin_xor32 _ _ (wd_lt _ _) hmask)
        · exact step_indexAddr rfl trivial _ _ _ _ _ rfl rfl rfl (fun w hw => idx4 _ _ hq w)
      · intro o ho
        cases ho
        exact step_store rfl trivial rfl _ _ _ _ _ rfl rfl rfl (fun w' hw => by obtain ⟨w2, f1, f2, f3, f4⟩ := store4 w' _ _ _ _ hw.b hq; refine ⟨w2, f1, (f4 _ (by omega)).trans hw.a, f2.congr (fun j hj => ?_), hw.below.trans (f3 _ (by omega))⟩; rw [wd_xbit]; split <;> simp_all)
      intro W hW
      first | refine hK _ _ ?_ | refine (‹∀ (a : Act) (w : World), Code.wp Try.prog _ _ a w → _›) _ _ ?_
      simp only [finL, List.getD_cons_zero, List.getD_cons_succ, Nat.zero_add, Nat.reduceAdd, List.setIfInBounds_toArray, List.set_cons_zero, List.set_cons_succ]
      refine wp_seq (wp_seq (wp_region ?_))
      refine wpOps_pure (fun i__ => ([(sv N0), (.int .i64 (k : Int)), (.bool false), (.bool false), (.bool false), (.bool false), (sv (N0 ^^^ 2 ^ k)), (.int .i64 (k : Int)), (.bool true), (.bool false), (.bool false), (.bool false), undef, undef, (Go.Value.bool Bool.false), (Go.Value.bool Bool.false)] : List Value).getD i__ undef) (fun W => JB w N0 (N0 ^^^ 2 ^ k) W) (by kernel_rfl) hW ?_ ?_
      · refine (stepsFrom_cons ?_ (stepsFrom_cons ?_ (stepsFrom_cons ?_ (stepsFrom_cons ?_ (stepsFrom_cons ?_ (stepsFrom_cons ?_ (stepsFrom_cons ?_ (stepsFrom_cons ?_ (stepsFrom_cons ?_ (stepsFrom_cons ?_ (stepsFrom_cons ?_ (stepsFrom_cons ?_ (stepsFrom_cons ?_ (stepsFrom_cons ?_ (stepsFrom_cons ?_ (stepsFrom_cons ?_ trivial))))))))))))))))
        · exact step_load rfl trivial _ _ _ rfl rfl (fun w hw => whole4 w _ N0 hw.a)
        · exact step_move rfl trivial _ rfl (by kernel_rfl)
        · exact step_call rfl trivial 15 _ _ [(sv N0), (.int .i64 (k : Int))] rfl (by kernel_rfl) (enters_of Try.func15 (by kernel_rfl) rfl) (fun w hw => (hh w).mono (by rintro e w' ⟨rfl, hb⟩; exact ⟨rfl, hw.carry hb⟩))
        · exact step_move rfl trivial _ rfl (by kernel_rfl)
        · exact step_binOp rfl trivial _ _ _ _ _ _ _ rfl rfl rfl (fun w hw => bin_neqb false false w)
        · exact step_move rfl trivial _ rfl (by kernel_rfl)
        · exact step_load rfl (by exact ⟨_, rfl, by kernel_rfl⟩) _ _ _ rfl rfl (fun w hw => whole4 w _ (N0 ^^^ 2 ^ k) hw.b)
        · exact step_move rfl (by exact ⟨_, rfl, by kernel_rfl⟩) _ rfl (by kernel_rfl)
        · exact step_call rfl (by exact ⟨_, rfl, by kernel_rfl⟩) 15 _ _ [(sv (N0 ^^^ 2 ^ k)), (.int .i64 (k : Int))] rfl (by kernel_rfl) (enters_of Try.func15 (by kernel_rfl) rfl) (fun w hw => (hh2 w).mono (by rintro e w' ⟨rfl, hb⟩; exact ⟨rfl, hw.carry hb⟩))
        · exact step_move rfl (by exact ⟨_, rfl, by kernel_rfl⟩) _ rfl (by kernel_rfl)
        · exact step_binOp rfl (by exact ⟨_, rfl, by kernel_rfl⟩) _ _ _ _ _ _ _ rfl rfl rfl (fun w hw => bin_eqlb true false w)
        · exact step_move rfl (by exact ⟨_, rfl, by kernel_rfl⟩) _ rfl (by kernel_rfl)
        · exact step_skip rfl 11 true 57 (.bool false) rfl rfl (by kernel_rfl) (by intro h; cases h) rfl
        · exact step_skip rfl 11 true 57 (.bool false) rfl rfl (by kernel_rfl) (by intro h; cases h) rfl
        · exact step_pick rfl (by exact ⟨_, rfl, by kernel_rfl⟩) _ _ _ false rfl (by kernel_rfl) (by kernel_rfl)
        · exact step_pick rfl trivial _ _ _ false rfl (by kernel_rfl) (by kernel_rfl)
      intro W hW
      simp only [Exit.then, finL, List.getD_cons_zero, List.getD_cons_succ, Nat.zero_add, Nat.reduceAdd, List.setIfInBounds_toArray, List.set_cons_zero, List.set_cons_succ]
      clear hh hh2
      go_wp2
      refine wp_region_any hmx ?_
      have hcu := cnt_up N0 k (by omega) htb
      refine wpAny_pure (fun i__ => ([(sv (N0 ^^^ 2 ^ k)), (.int .i64 ((cnt (cln (N0 ^^^ 2 ^ k)) : Nat) : Int)), (sv N0), (.int .i64 ((cnt (cln N0) : Nat) : Int)), (.int .i64 1), (.int .i64 1)] : List Value).getD i__ undef) (fun W => JB w N0 (N0 ^^^ 2 ^ k) W) (by kernel_rfl) (hW.carry (Below.refl _ _).drew) ?_ ?_
      · refine (stepsFrom_cons ?_ (stepsFrom_cons ?_ (stepsFrom_cons ?_ (stepsFrom_cons ?_ (stepsFrom_cons ?_ (stepsFrom_cons ?_ trivial))))))
        · exact step_load rfl trivial _ _ _ rfl rfl (fun w hw => whole4 w _ (N0 ^^^ 2 ^ k) hw.b)
        · exact step_call rfl trivial 9 _ _ [(sv (N0 ^^^ 2 ^ k))] rfl (by kernel_rfl) (enters_of Try.func9 (by kernel_rfl) rfl) (fun w hw => (count_any (N0 ^^^ 2 ^ k) w).mono (by rintro e w' ⟨rfl, hb⟩; exact ⟨rfl, hw.carry hb⟩))
        · exact step_load rfl trivial _ _ _ rfl rfl (fun w hw => whole4 w _ N0 hw.a)
        · exact step_call rfl trivial 9 _ _ [(sv N0)] rfl (by kernel_rfl) (enters_of Try.func9 (by kernel_rfl) rfl) (fun w hw => (count_any N0 w).mono (by rintro e w' ⟨rfl, hb⟩; exact ⟨rfl, hw.carry hb⟩))
        · exact step_binOp rfl trivial _ _ _ _ _ _ _ rfl rfl rfl (fun w hw => bin_sub64 _ _ _ (by rw [IntKind.wrap_i64]; omega))
        · exact step_assign rfl trivial _ rfl (by kernel_rfl) (fun _ h => h)
      intro W hW
      first | refine hK _ _ ?_ | refine (‹∀ (a : Act) (w : World), Code.wp Try.prog _ _ a w → _›) _ _ ?_
      simp only [finL, List.getD_cons_zero, List.getD_cons_succ, Nat.zero_add, Nat.reduceAdd, List.setIfInBounds_toArray, List.set_cons_zero, List.set_cons_succ]
      have hW9 := hW.below
      go_wp2_with (go_at_call 11; refine (alive_any _).mono ?_; rintro e w1 ⟨rfl, hb⟩)
      go_ret
      exact ⟨rfl, bcarry hW9 (Nat.le_refl _) hb⟩
    · have hsi : ¬ (k : Int) < 100 := by omega
      have hb1 : bits .and .u32 ((wd N0 (k / 32) : Int) / 2 ^ (k % 32)) 1 = 0 := by rw [bit_shift, htb]; rfl
      have e1 : hasB N0 (k : Int) = false := by simp [hasB, htb, Int.toNat_natCast]
      have e2 : hasB (N0 ^^^ 2 ^ k) (k : Int) = false := by simp [hasB, htb, Int.toNat_natCast]; omega
      have hT : N0 ^^^ 2 ^ k < S128 := xor_lt hN0 (Nat.pow_lt_pow_right (a := 2) (n := 128) (by decide) hk)
      rw [e1] at hh
      have hh2 := has_any (N0 ^^^ 2 ^ k) (k : Int)
      rw [e2] at hh2
      have hmask : 2 ^ (k % 32) < 4294967296 := Nat.pow_lt_pow_right (a := 2) (n := 32) (by decide) hm
      simp only [sv]
      go_enter Try.func5, Try.ntmps5
      go_wp2
      refine wp_region_any hmx ?_
      refine wpAny_last 11 (fun i__ => ([(.int .i64 (k : Int)), (.int .i64 ((k / 32 : Nat) : Int)), (.int .i64 (k : Int)), (.int .i64 ((k / 32 : Nat) : Int)), (.pointer (some ⟨w.heap.size + 1, k / 32, none⟩)), (.int .u32 ((wd N0 (k / 32) : Nat) : Int)), (.int .i64 (k : Int)), (.int .i64 ((k % 32 : Nat) : Int)), (.int .u32 ((2 ^ (k % 32) : Nat) : Int)), (.int .u32 ((wd N0 (k / 32) ^^^ 2 ^ (k % 32) : Nat) : Int)), (.pointer (some ⟨w.heap.size + 1, k / 32, none⟩)), undef] : List Value).getD i__ undef) (fun W => JB w N0 N0 W) (fun W => JB w N0 (N0 ^^^ 2 ^ k) W) rfl (by kernel_rfl) (by kernel_rfl) ⟨get_old (get_new (by simp)), get_new (by simp), (((Below.refl _ w).alloc (by simp) _).alloc (by simp) _).drew⟩ ?_ ?_  ?_
      · refine (stepsFrom_cons ?_ (stepsFrom_cons ?_ (stepsFrom_cons ?_ (stepsFrom_cons ?_ (stepsFrom_cons ?_ (stepsFrom_cons ?_ (stepsFrom_cons ?_ (stepsFrom_cons ?_ (stepsFrom_cons ?_ (stepsFrom_cons ?_ (stepsFrom_cons ?_ trivial)))))))))))
        · exact step_move rfl trivial _ rfl (by kernel_rfl)
        · exact step_binOp rfl trivial _ _ _ _ _ _ _ rfl rfl rfl (fun w hw => bin_quo64 k 32 (by omega) (by omega))
        · exact step_move rfl trivial _ rfl (by kernel_rfl)
        · exact step_binOp rfl trivial _ _ _ _ _ _ _ rfl rfl rfl (fun w hw => bin_quo64 k 32 (by omega) (by omega))
        · exact step_indexAddr rfl trivial _ _ _ _ _ rfl rfl rfl (fun w hw => idx4 _ _ hq w)
        · exact step_load rfl trivial _ _ _ rfl rfl (fun w hw => load4 w _ _ _ hw.b hq)
        · exact step_move rfl trivial _ rfl (by kernel_rfl)
        · exact step_binOp rfl trivial _ _ _ _ _ _ _ rfl rfl rfl (fun w hw => bin_rem64 k 32 (by omega))
        · exact step_binOp rfl trivial _ _ _ _ _ _ _ rfl rfl rfl (fun w hw => bin_shl32 .i64 _ hm)
        · exact step_binOp rfl trivial _ _ _ _ _ _ _ rfl rfl rfl (fun w hw => bin_xor32 _ _ (wd_lt _ _) hmask)
        · exact step_indexAddr rfl trivial _ _ _ _ _ rfl rfl rfl (fun w hw => idx4 _ _ hq w)
      · intro o ho
        cases ho
        exact step_store rfl trivial rfl _ _ _ _ _ rfl rfl rfl (fun w' hw => by obtain ⟨w2, f1, f2, f3, f4⟩ := store4 w' _ _ _ _ hw.b hq; refine ⟨w2, f1, (f4 _ (by omega)).trans hw.a, f2.congr (fun j hj => ?_), hw.below.trans (f3 _ (by omega))⟩; rw [wd_xbit]; split <;> simp_all)
      intro W hW
      first | refine hK _ _ ?_ | refine (‹∀ (a : Act) (w : World), Code.wp Try.prog _ _ a w → _›) _ _ ?_
      simp only [finL, List.getD_cons_zero, List.getD_cons_succ, Nat.zero_add, Nat.reduceAdd, List.setIfInBounds_toArray, List.set_cons_zero, List.set_cons_succ]
      refine wp_seq (wp_seq (wp_region ?_))
      refine wpOps_pure (fun i__ => ([(sv N0), (.int .i64 (k : Int)), (.bool false), (.bool false), (.bool false), (.bool false), (sv (N0 ^^^ 2 ^ k)), (.int .i64 (k : Int)), (.bool false), (.bool false), (.bool true), (.bool true), (.int .i64 (k : Int)), (.bool false), (.bool false), (.bool false)] : List Value).getD i__ undef) (fun W => JB w N0 (N0 ^^^ 2 ^ k) W) (by kernel_rfl) hW ?_ ?_
      · refine (stepsFrom_cons ?_ (stepsFrom_cons ?_ (stepsFrom_cons ?_ (stepsFrom_cons ?_ (stepsFrom_cons ?_ (stepsFrom_cons ?_ (stepsFrom_cons ?_ (stepsFrom_cons ?_ (stepsFrom_cons ?_ (stepsFrom_cons ?_ (stepsFrom_cons ?_ (stepsFrom_cons ?_ (stepsFrom_cons ?_ (stepsFrom_cons ?_ (stepsFrom_cons ?_ (stepsFrom_cons ?_ trivial))))))))))))))))
        · exact step_load rfl trivial _ _ _ rfl rfl (fun w hw => whole4 w _ N0 hw.a)
        · exact step_move rfl trivial _ rfl (by kernel_rfl)
        · exact step_call rfl trivial 15 _ _ [(sv N0), (.int .i64 (k : Int))] rfl (by kernel_rfl) (enters_of Try.func15 (by kernel_rfl) rfl) (fun w hw => (hh w).mono (by rintro e w' ⟨rfl, hb⟩; exact ⟨rfl, hw.carry hb⟩))
        · exact step_move rfl trivial _ rfl (by kernel_rfl)
        · exact step_binOp rfl trivial _ _ _ _ _ _ _ rfl rfl rfl (fun w hw => bin_neqb false false w)
        · exact step_move rfl trivial _ rfl (by kernel_rfl)
        · exact step_load rfl (by exact ⟨_, rfl, by kernel_rfl⟩) _ _ _ rfl rfl (fun w hw => whole4 w _ (N0 ^^^ 2 ^ k) hw.b)
        · exact step_move rfl (by exact ⟨_, rfl, by kernel_rfl⟩) _ rfl (by kernel_rfl)
        · exact step_call rfl (by exact ⟨_, rfl, by kernel_rfl⟩) 15 _ _ [(sv (N0 ^^^ 2 ^ k)), (.int .i64 (k : Int))] rfl (by kernel_rfl) (enters_of Try.func15 (by kernel_rfl) rfl) (fun w hw => (hh2 w).mono (by rintro e w' ⟨rfl, hb⟩; exact ⟨rfl, hw.carry hb⟩))
        · exact step_move rfl (by exact ⟨_, rfl, by kernel_rfl⟩) _ rfl (by kernel_rfl)
        · exact step_binOp rfl (by exact ⟨_, rfl, by kernel_rfl⟩) _ _ _ _ _ _ _ rfl rfl rfl (fun w hw => bin_eqlb false false w)
        · exact step_move rfl (by exact ⟨_, rfl, by kernel_rfl⟩) _ rfl (by kernel_rfl)
        · exact step_move rfl (by exact ⟨_, rfl, by kernel_rfl⟩) _ rfl (by kernel_rfl)
        · exact step_binOp rfl (by exact ⟨_, rfl, by kernel_rfl⟩) _ _ _ _ _ _ _ rfl rfl rfl (fun w hw => (bin_lss .i64 _ _).trans (by rw [decide_eq_false (by omega)]; rfl))
        · exact step_pick rfl (by exact ⟨_, rfl, by kernel_rfl⟩) _ _ _ true rfl (by kernel_rfl) (by kernel_rfl)
        · exact step_pick rfl trivial _ _ _ false rfl (by kernel_rfl) (by kernel_rfl)
      intro W hW
      simp only [Exit.then, finL, List.getD_cons_zero, List.getD_cons_succ, Nat.zero_add, Nat.reduceAdd, List.setIfInBounds_toArray, List.set_cons_zero, List.set_cons_succ]
      clear hh hh2
      go_wp2
      refine wp_region_any hmx ?_
      have hcf := cln_flip N0 k (by omega)
      refine wpAny_pure (fun i__ => ([(.bool true), (.bool true), (sv N0), (sv (cln N0)), (sv (N0 ^^^ 2 ^ k)), (sv (cln (N0 ^^^ 2 ^ k))), (.bool true), (.bool true), (.bool true), (sv N0), (.int .i64 ((cnt (cln N0) : Nat) : Int)), (sv (N0 ^^^ 2 ^ k)), (.int .i64 ((cnt (cln (N0 ^^^ 2 ^ k)) : Nat) : Int)), (.bool true), (.bool true), (.bool true), (sv N0), (sv (N0 ^^^ 2 ^ k)), (.int .i64 (cmpN (cln N0) (cln (N0 ^^^ 2 ^ k)))), (.bool true), (.bool true), (.bool true)] : List Value).getD i__ undef) (fun W => JB w N0 (N0 ^^^ 2 ^ k) W) (by kernel_rfl) (hW.carry (Below.refl _ _).drew) ?_ ?_
      · refine (stepsFrom_cons ?_ (stepsFrom_cons ?_ (stepsFrom_cons ?_ (stepsFrom_cons ?_ (stepsFrom_cons ?_ (stepsFrom_cons ?_ (stepsFrom_cons ?_ (stepsFrom_cons ?_ (stepsFrom_cons ?_ (stepsFrom_cons ?_ (stepsFrom_cons ?_ (stepsFrom_cons ?_ (stepsFrom_cons ?_ (stepsFrom_cons ?_ (stepsFrom_cons ?_ (stepsFrom_cons ?_ (stepsFrom_cons ?_ (stepsFrom_cons ?_ (stepsFrom_cons ?_ (stepsFrom_cons ?_ (stepsFrom_cons ?_ (stepsFrom_cons ?_ trivial))))))))))))))))))))))
        · exact step_call rfl trivial 11 _ _ [] rfl (by kernel_rfl) (enters_of Try.func11 (by kernel_rfl) rfl) (fun w hw => (alive_any  w).mono (by rintro e w' ⟨rfl, hb⟩; exact ⟨rfl, hw.carry hb⟩))
        · exact step_move rfl trivial _ rfl (by kernel_rfl)
        · exact step_load rfl (by exact ⟨_, rfl, by kernel_rfl⟩) _ _ _ rfl rfl (fun w hw => whole4 w _ N0 hw.a)
        · exact step_call rfl (by exact ⟨_, rfl, by kernel_rfl⟩) 12 _ _ [(sv N0)] rfl (by kernel_rfl) (enters_of Try.func12 (by kernel_rfl) rfl) (fun w hw => (clean_any N0 w).mono (by rintro e w' ⟨rfl, hb⟩; exact ⟨rfl, hw.carry hb⟩))
        · exact step_load rfl (by exact ⟨_, rfl, by kernel_rfl⟩) _ _ _ rfl rfl (fun w hw => whole4 w _ (N0 ^^^ 2 ^ k) hw.b)
        · exact step_call rfl (by exact ⟨_, rfl, by kernel_rfl⟩) 12 _ _ [(sv (N0 ^^^ 2 ^ k))] rfl (by kernel_rfl) (enters_of Try.func12 (by kernel_rfl) rfl) (fun w hw => (clean_any (N0 ^^^ 2 ^ k) w).mono (by rintro e w' ⟨rfl, hb⟩; exact ⟨rfl, hw.carry hb⟩))
        · exact step_binOp rfl (by exact ⟨_, rfl, by kernel_rfl⟩) _ _ _ _ _ _ _ rfl rfl rfl (fun w hw => eqls hcf (cln_lt' _) w)
        · exact step_pick rfl trivial _ _ _ true rfl (by kernel_rfl) (by kernel_rfl)
        · exact step_move rfl trivial _ rfl (by kernel_rfl)
        · exact step_load rfl (by exact ⟨_, rfl, by kernel_rfl⟩) _ _ _ rfl rfl (fun w hw => whole4 w _ N0 hw.a)
        · exact step_call rfl (by exact ⟨_, rfl, by kernel_rfl⟩) 9 _ _ [(sv N0)] rfl (by kernel_rfl) (enters_of Try.func9 (by kernel_rfl) rfl) (fun w hw => (count_any N0 w).mono (by rintro e w' ⟨rfl, hb⟩; exact ⟨rfl, hw.carry hb⟩))
        · exact step_load rfl (by exact ⟨_, rfl, by kernel_rfl⟩) _ _ _ rfl rfl (fun w hw => whole4 w _ (N0 ^^^ 2 ^ k) hw.b)
        · exact step_call rfl (by exact ⟨_, rfl, by kernel_rfl⟩) 9 _ _ [(sv (N0 ^^^ 2 ^ k))] rfl (by kernel_rfl) (enters_of Try.func9 (by kernel_rfl) rfl) (fun w hw => (count_any (N0 ^^^ 2 ^ k) w).mono (by rintro e w' ⟨rfl, hb⟩; exact ⟨rfl, hw.carry hb⟩))
        · exact step_binOp rfl (by exact ⟨_, rfl, by kernel_rfl⟩) _ _ _ _ _ _ _ rfl rfl rfl (fun w hw => (bin_eql .i64 _ _).trans (by rw [← hcf]; simp))
        · exact step_pick rfl trivial _ _ _ true rfl (by kernel_rfl) (by kernel_rfl)
        · exact step_move rfl trivial _ rfl (by kernel_rfl)
        · exact step_load rfl (by exact ⟨_, rfl, by kernel_rfl⟩) _ _ _ rfl rfl (fun w hw => whole4 w _ N0 hw.a)
        · exact step_load rfl (by exact ⟨_, rfl, by kernel_rfl⟩) _ _ _ rfl rfl (fun w hw => whole4 w _ (N0 ^^^ 2 ^ k) hw.b)
        · exact step_call rfl (by exact ⟨_, rfl, by kernel_rfl⟩) 13 _ _ [(sv N0), (sv (N0 ^^^ 2 ^ k))] rfl (by kernel_rfl) (enters_of Try.func13 (by kernel_rfl) rfl) (fun w hw => (order_any N0 (N0 ^^^ 2 ^ k) w).mono (by rintro e w' ⟨rfl, hb⟩; exact ⟨rfl, hw.carry hb⟩))
        · exact step_binOp rfl (by exact ⟨_, rfl, by kernel_rfl⟩) _ _ _ _ _ _ _ rfl rfl rfl (fun w hw => (bin_eql .i64 _ _).trans (by rw [← hcf, cmpN_self]; rfl))
        · exact step_pick rfl trivial _ _ _ true rfl (by kernel_rfl) (by kernel_rfl)
        · exact step_assign rfl trivial _ rfl (by kernel_rfl) (fun _ h => h)
      intro W hW
      first | refine hK _ _ ?_ | refine (‹∀ (a : Act) (w : World), Code.wp Try.prog _ _ a w → _›) _ _ ?_
      simp only [finL, List.getD_cons_zero, List.getD_cons_succ, Nat.zero_add, Nat.reduceAdd, List.setIfInBounds_toArray, List.set_cons_zero, List.set_cons_succ]
      go_wp2
      go_ret
      exact ⟨rfl, hW.below⟩
  · have h0 : hasB N0 a1 = false := by
      unfold hasB
      have : ¬ (0 ≤ a1 ∧ a1 < 100) := by omega
      simp [this]
    rw [h0] at hh
    have hJ : ∀ (W W' : World), Holds4 W w.heap.size (wd N0) → Below W.heap.size W W' → Holds4 W' w.heap.size (wd N0) := fun _ _ h hb => h.carry hb
    simp only [sv] at hh ⊢
    go_enter Try.func5, Try.ntmps5
    go_wp2_with (first | (go_at_call 11; refine (alive_any _).mono ?_; rintro e w1 ⟨rfl, hb⟩; have q : Hid (Holds4 w1 w.heap.size (wd N0)) := hJ _ _ (get_new (by simp)) hb; obtain ⟨y0, y1, y2, y3, z0, z1, z2, z3⟩ := q.out.facts; have hb2 : Below w.heap.size w w1 := bcarry ((Below.refl _ w).alloc (by simp) _) (Nat.le_refl _) hb) | (go_at_call 15; refine (hh _).mono ?_; rintro e w2 ⟨rfl, hb3⟩))
    all_goals
      go_ret
      exact ⟨rfl, bcarry hb2 (Nat.le_refl _) hb3⟩

set_option maxRecDepth 100000 in
theorem lifted (os : Os) (started : os.Started) (H : Type) (enc : TypeId × Value → H) :
    ReturnsInHanded {} Try.checked os 5 .any (Rows.setBitsSpec.pre6 enc Try.prog Try.f5 Rows.setBitsRow.domain false) (Rows.setBitsSpec.post enc Try.prog Try.f5 false true false false) := by
  refine returnsInHanded_of_change (C := Try.checked) own started (by kernel_rfl) Try.func5
    (ChangeSpec.witness6 (enc := enc) (C := Try.checked) false ⟨#[], #[.agg #[.int .u32 0, .int .u32 0, .int .u32 0, .int .u32 0], .int .i64 0], []⟩ 8 (by kernel_rfl) (by kernel_rfl) (by kernel_rfl) (by kernel_rfl)) ?_
  intro W base args ds gs before hval0 hW hcnd _
  have hval : ∀ (j : Nat) t v, Try.f5.params[j]? = some t → args[j]? = some v → Value.okWide Try.prog W .any base t v := hval0
  have hW' := hW
  obtain ⟨p, q, hA0, hV, rfl, hfz, hnd⟩ := hW
  have hA : DataW.TrodAll enc Try.prog W 0 (fun _ => true) true Try.f5.params.toList args.toList ds p := hA0
  rw [Try.params5] at hA hval
  obtain ⟨v0, vs0, d0, ds0, p0, q0, hargs, rfl, rfl, h0, r0⟩ := trodAll_cons hA
  obtain ⟨v1, vs1, d1, ds1, p1, q1, rfl, rfl, rfl, h1, r1⟩ := trodAll_cons r0
  obtain ⟨rfl, rfl, rfl⟩ := trodAll_nil r1
  obtain rfl : args = #[v0, v1] := by cases args; simp_all
  obtain ⟨rfl, rfl⟩ := trodVars_none hV
  obtain ⟨N0, hN0, rfl, rfl, rfl⟩ := open_set (hval 0 24 v0 rfl rfl) h0
  obtain ⟨a1, rfl, rfl, rfl, w1⟩ := open_int Try.underlying3 (hval 1 3 v1 rfl rfl) h1
  clear hA0 hval0
  simp only [List.append_nil] at hW'
  refine (walk N0 hN0 a1 w1 W).mono fun e W' ⟨he, hg⟩ => ?_
  subst he
  exact ⟨_, rfl, _, _, _, [], _, [], hW', (trodAll_cons_mk (shut_bool Try.underlying4 _) trodAll_mk0), (trodAll_cons_mk (shut_set N0) (trodAll_cons_mk (shut_int Try.underlying3 w1) trodAll_mk0)), rfl, hg.frame _, fun h => by cases h⟩

theorem over : Rows.setBitsRow.holds Try.pinned (OpenSpec.ofChange Rows.setBitsSpec) :=
  OpenClaim.holds_of_wide 5 Try.f5 rfl rfl rfl rfl rfl rfl rfl ⟨rfl, rfl, rfl, rfl, rfl⟩ rfl rfl rfl rfl rfl (by kernel_rfl) Try.func5 (by kernel_rfl)
    (of_decide_eq_true (by kernel_rfl)) (by unfold Func.isWrapper; first | (rw [if_pos (by decide +kernel)]; kernel_rfl) | (rw [if_neg (by decide +kernel)]; exact ⟨rfl, rfl⟩))
    (fun os started H enc _ => lifted os started H enc)

theorem proved : Rows.SetBitsSaid :=
  over
#print axioms proved
end Go.Proofs.Ytahlehgibcdfeaa
