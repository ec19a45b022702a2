/- idset.Order, Subset, Has; cmp.Compare: what they answer, at every input. -/
import Derived.Test.YtnkpohkodkjkfaaGreatDoorJoJ20
set_option maxHeartbeats 40000000
set_option maxRecDepth 100000
set_option linter.unusedVariables false
namespace Go.Proofs.YtnkpohkodkjkfaaGreatDoor
open Go.RowKit Go.Shelf Go.Lib

theorem hold4 {w : World} {b B M : Nat} (h : B ≠ b) : (set4 w b M).heap[B]? = w.heap[B]? := by
  unfold set4
  rw [Below.heap_setCell _ _ _ _ h, Below.heap_setCell _ _ _ _ h, Below.heap_setCell _ _ _ _ h, Below.heap_setCell _ _ _ _ h]

theorem and_bit (x i : Nat) : (x &&& 2 ^ i != 0) = x.testBit i := by
  cases h : x.testBit i with
  | true =>
    have : (x &&& 2 ^ i).testBit i = true := by rw [Nat.testBit_and, h, Nat.testBit_two_pow_self]; rfl
    have h2 : x &&& 2 ^ i ≠ 0 := fun e => by rw [e, Nat.zero_testBit] at this; cases this
    simpa using h2
  | false =>
    have : x &&& 2 ^ i = 0 := by
      apply Nat.eq_of_testBit_eq; intro j
      rw [Nat.testBit_and, Nat.testBit_two_pow, Nat.zero_testBit]
      by_cases e : i = j
      · subst e; rw [h]; rfl
      · simp [e]
    simp [this]
theorem bit_word (N i : Nat) : (wd N (i / 32)).testBit (i % 32) = N.testBit i := by
  rw [testBit_wd, Nat.div_add_mod]
  have := Nat.mod_lt i (show 32 > 0 by decide)
  simp [this]
theorem wd_bit (N i j : Nat) : wd (N ||| 2 ^ i) j = if j = i / 32 then wd N j ||| 2 ^ (i % 32) else wd N j := by
  apply Nat.eq_of_testBit_eq; intro b
  rw [testBit_wd, Nat.testBit_or, Nat.testBit_two_pow]
  split
  · rename_i h
    subst h
    rw [Nat.testBit_or, testBit_wd, Nat.testBit_two_pow]
    by_cases hb : b < 32
    · have e : (i = 32 * (i / 32) + b) = (i % 32 = b) := by simp; omega
      simp [hb, e]
    · have e : ¬ i % 32 = b := by omega
      simp [hb, e]
  · rename_i h
    rw [testBit_wd]
    by_cases hb : b < 32
    · have e : ¬ i = 32 * j + b := by omega
      simp [hb, e]
    · simp [hb]
theorem int_bne0 (a : Nat) : ((a : Int) != 0) = (a != 0) := by
  by_cases h : a = 0
  · subst h; rfl
  · have h2 : ¬ (a : Int) = 0 := by omega
    simp only [bne, beq_eq_false_iff_ne.2 h, beq_eq_false_iff_ne.2 h2]
def hasB (N : Nat) (id : Int) : Bool := decide (0 ≤ id ∧ id < 100) && N.testBit id.toNat
set_option maxHeartbeats 1000000 in
set_option maxRecDepth 100000 in
theorem has_any (N : Nat) (id : Int) (w : World) : Calls Tryz.prog 147 #[sv N, .int .i64 id] w fun e w' => e = .returned (.bool (hasB N id)) ∧ Below w.heap.size w w' := by
  have hmx : Tryz.prog.follows .mixedOrders = true := by kernel_rfl
  have hid := isId_any id
  go_enter Tryz.func147, Tryz.ntmps147
  simp only [sv]
  go_wp2
  rename_i Q0 K0 hK
  refine wp_region_any hmx ?_
  by_cases h : 0 ≤ id ∧ id < 100
  · obtain ⟨i, rfl⟩ := Int.eq_ofNat_of_zero_le h.1
    have hi : i < 100 := by omega
    have hq : i / 32 < 4 := by omega
    simp only [h, and_self, decide_true] at hid
    refine wpAny_pure (fun i__ => ([(.int .i64 (i : Int)), (.bool true), (.bool true), (.int .i64 (i : Int)), (.int .i64 ((i / 32 : Nat) : Int)), (.pointer (some ⟨w.heap.size, i / 32, none⟩)), (.int .u32 ((wd N (i / 32) : Nat) : Int)), (.int .i64 (i : Int)), (.int .u32 ((2 ^ (i % 32) : Nat) : Int)), (.int .u32 ((wd N (i / 32) &&& 2 ^ (i % 32) : Nat) : Int)), (.bool (N.testBit i)), (.bool (N.testBit i)), (.bool (N.testBit i))] : List Value).getD i__ undef) (fun W => Holds4 W w.heap.size (wd N) ∧ Below w.heap.size w W) (by kernel_rfl) ⟨get_newQ (by simp), ((Below.refl _ w).alloc (by simp) _).drew⟩ ?_ ?_
    · refine (stepsFrom_cons ?_ (stepsFrom_cons ?_ (stepsFrom_cons ?_ (stepsFrom_cons ?_ (stepsFrom_cons ?_ (stepsFrom_cons ?_ (stepsFrom_cons ?_ (stepsFrom_cons ?_ (stepsFrom_cons ?_ (stepsFrom_cons ?_ (stepsFrom_cons ?_ (stepsFrom_cons ?_ (stepsFrom_cons ?_ trivial)))))))))))))
      · exact step_move rfl trivial _ rfl (by kernel_rfl)
      · exact step_call rfl trivial 155 _ _ [(.int .i64 (i : Int))] rfl (by kernel_rfl) (enters_of Tryz.func155 (by kernel_rfl) rfl) (fun w hw => (hid w).mono (by rintro e w' ⟨rfl, rfl⟩; exact ⟨rfl, hw⟩))
      · exact step_move rfl trivial _ rfl (by kernel_rfl)
      · exact step_move rfl (by exact ⟨_, rfl, by kernel_rfl⟩) _ rfl (by kernel_rfl)
      · exact step_binOp rfl (by exact ⟨_, rfl, by kernel_rfl⟩) _ _ _ _ _ _ _ rfl rfl rfl (fun w hw => bin_quo64 i 32 (by omega) (by omega))
      · exact step_indexAddr rfl (by exact ⟨_, rfl, by kernel_rfl⟩) _ _ _ _ _ rfl rfl rfl (fun w hw => idx4 _ _ hq w)
      · exact step_load rfl (by exact ⟨_, rfl, by kernel_rfl⟩) _ _ _ rfl rfl (fun w hw => load4 w _ _ _ hw.1 hq)
      · exact step_move rfl (by exact ⟨_, rfl, by kernel_rfl⟩) _ rfl (by kernel_rfl)
      · exact step_call rfl (by exact ⟨_, rfl, by kernel_rfl⟩) 156 _ _ [(.int .i64 (i : Int))] rfl (by kernel_rfl) (enters_of Tryz.func156 (by kernel_rfl) rfl) (fun w hw => (bit_any i (by omega) w).mono (by rintro e w' ⟨rfl, rfl⟩; exact ⟨rfl, hw⟩))
      · exact step_binOp rfl (by exact ⟨_, rfl, by kernel_rfl⟩) _ _ _ _ _ _ _ rfl rfl rfl (fun w hw => bin_and32 _ _ (wd_lt _ _) (Nat.pow_lt_pow_right (a := 2) (n := 32) (by decide) (Nat.mod_lt _ (by decide))))
      · exact step_binOp rfl (by exact ⟨_, rfl, by kernel_rfl⟩) _ _ _ _ _ _ _ rfl rfl rfl (fun w hw => (bin_neq .u32 _ _).trans (by rw [← bit_word, ← and_bit, int_bne0]; rfl))
      · exact step_pick rfl trivial _ _ _ true rfl (by kernel_rfl) (by kernel_rfl)
      · exact step_assign rfl trivial _ rfl (by kernel_rfl) (fun _ h => h)
    intro W hW
    first | refine hK _ _ ?_ | refine (‹∀ (a : Act) (w : World), Code.wp Tryz.prog _ _ a w → _›) _ _ ?_ | skip
    simp only [finL, List.getD_cons_zero, List.getD_cons_succ, Nat.zero_add, Nat.reduceAdd, List.setIfInBounds_toArray, List.set_cons_zero, List.set_cons_succ]
    go_wp2
    go_ret
    exact ⟨ret_bool (by simp [hasB]; omega), hW.2⟩
  · simp only [h, decide_false] at hid
    refine wpAny_pure (fun i__ => ([(.int .i64 id), (.bool false), (.bool false), undef, undef, undef, undef, undef, undef, undef, undef, (.bool false), (.bool false)] : List Value).getD i__ undef) (fun W => Holds4 W w.heap.size (wd N) ∧ Below w.heap.size w W) (by kernel_rfl) ⟨get_newQ (by simp), ((Below.refl _ w).alloc (by simp) _).drew⟩ ?_ ?_
    · refine (stepsFrom_cons ?_ (stepsFrom_cons ?_ (stepsFrom_cons ?_ (stepsFrom_cons ?_ (stepsFrom_cons ?_ (stepsFrom_cons ?_ (stepsFrom_cons ?_ (stepsFrom_cons ?_ (stepsFrom_cons ?_ (stepsFrom_cons ?_ (stepsFrom_cons ?_ (stepsFrom_cons ?_ (stepsFrom_cons ?_ trivial)))))))))))))
      · exact step_move rfl trivial _ rfl (by kernel_rfl)
      · exact step_call rfl trivial 155 _ _ [(.int .i64 id)] rfl (by kernel_rfl) (enters_of Tryz.func155 (by kernel_rfl) rfl) (fun w hw => (hid w).mono (by rintro e w' ⟨rfl, rfl⟩; exact ⟨rfl, hw⟩))
      · exact step_move rfl trivial _ rfl (by kernel_rfl)
      · exact step_skip rfl 2 true 7 (.bool false) rfl rfl (by kernel_rfl) (by intro h; cases h) rfl
      · exact step_skip rfl 2 true 7 (.bool false) rfl rfl (by kernel_rfl) (by intro h; cases h) rfl
      · exact step_skip rfl 2 true 7 (.bool false) rfl rfl (by kernel_rfl) (by intro h; cases h) rfl
      · exact step_skip rfl 2 true 7 (.bool false) rfl rfl (by kernel_rfl) (by intro h; cases h) rfl
      · exact step_skip rfl 2 true 7 (.bool false) rfl rfl (by kernel_rfl) (by intro h; cases h) rfl
      · exact step_skip rfl 2 true 7 (.bool false) rfl rfl (by kernel_rfl) (by intro h; cases h) rfl
      · exact step_skip rfl 2 true 7 (.bool false) rfl rfl (by kernel_rfl) (by intro h; cases h) rfl
      · exact step_skip rfl 2 true 7 (.bool false) rfl rfl (by kernel_rfl) (by intro h; cases h) rfl
      · exact step_pick rfl trivial _ _ _ false rfl (by kernel_rfl) (by kernel_rfl)
      · exact step_assign rfl trivial _ rfl (by kernel_rfl) (fun _ h => h)
    intro W hW
    first | refine hK _ _ ?_ | refine (‹∀ (a : Act) (w : World), Code.wp Tryz.prog _ _ a w → _›) _ _ ?_ | skip
    simp only [finL, List.getD_cons_zero, List.getD_cons_succ, Nat.zero_add, Nat.reduceAdd, List.setIfInBounds_toArray, List.set_cons_zero, List.set_cons_succ]
    go_wp2
    go_ret
    exact ⟨ret_bool (by simp [hasB, h]), hW.2⟩

theorem ret4t {f : Func} {p q : Tmp} {R : Ending → World → Prop} {a : Act} {w : World} {b M : Nat} {x : Value} (hres : f.results = #[.cell p 24, .tmp q]) (hp : a.tmps.getD p undef = .pointer (some ⟨b, 0, none⟩)) (hq : a.tmps.getD q undef = x) (hd : a.defers = []) (h : Holds4 w b (wd M)) (hR : R (.returned (.tuple #[sv M, x])) w) : bodyPost Tryz.prog f R .ret a w := by
  refine bodyPost_ret (v := .tuple #[sv M, x]) ?_ hd hR
  have h1 := run_loadVar_row (P := Tryz.prog) w b 24 24 (cells4 (wd M)) (0, 0) _ h Tryz.underlying24 rfl (by kernel_rfl)
  have hp' : a.tmps[p]?.getD undef = .pointer (some ⟨b, 0, none⟩) := by simpa using hp
  have hq' : a.tmps[q]?.getD undef = x := by simpa using hq
  simp [results, hres, hp', hq', asAddr, h1]
  rfl
end Go.Proofs.YtnkpohkodkjkfaaGreatDoor
