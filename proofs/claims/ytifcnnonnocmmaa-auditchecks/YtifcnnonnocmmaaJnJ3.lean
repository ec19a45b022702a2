import Derived.Test.YtifcnnonnocmmaaJnJ2
set_option maxHeartbeats 40000000
set_option maxRecDepth 100000
set_option linter.unusedVariables false
namespace Go.Proofs.Ytifcnnonnocmmaa
open Go.RowKit Go.Shelf Go.Lib
theorem subset_any (A B : Nat) (w : World) : Calls Try.prog 38 #[sv A, sv B] w fun e w' => e = .returned (.bool (decide (cln (dif A B) = 0))) ∧ Below w.heap.size w w' := by
 have hc := less_any A B
 have hq := eqn4 (cln (dif A B)) 0 (cln_lt' _) (by decide)
 generalize cln (dif A B) = M at *
 have e0 : sv 0 = .agg #[.int .u32 0, .int .u32 0, .int .u32 0, .int .u32 0] := by simp [sv, wd]
 rw [e0] at hq
 simp only [sv] at hc hq ⊢
 go_enter Try.func38, Try.ntmps38
 go_wp2_with (go_at_call 45; refine (hc _).mono ?_; rintro e w1 ⟨rfl, hb⟩; have hb2 : Below w.heap.size w w1 := (((Below.refl _ w).alloc (by simp) _).alloc (by simp) _).trans (hb.mono (by simp; omega)))
 go_ret
 exact ⟨rfl, hb2⟩
theorem and_bit (x i : Nat) : (x &&& 2 ^ i != 0) = x.testBit i := by
 cases h : x.testBit i with
 | true =>
  have : (x &&& 2 ^ i).testBit i = true := by rw [Nat.testBit_and, h, Nat.testBit_two_pow_self]; rfl
  have h2 : x &&& 2 ^ i ≠ 0 := fun e => by rw [e, Nat.zero_testBit] at this; cases this
  simpa using h2
 | false =>
  have : x &&& 2 ^ i = 0 := by
   apply Nat.eq_of_testBit_eq; intro j
   rw [Nat.testBit_and, Nat.testBit_two_pow, Nat.zero_testBit]
   by_cases e : i = j
   · subst e; rw [h]; rfl
   · simp [e]
  simp [this]
theorem bit_word (N i : Nat) : (wd N (i / 32)).testBit (i % 32) = N.testBit i := by
 rw [testBit_wd, Nat.div_add_mod]
 have := Nat.mod_lt i (show 32 > 0 by decide)
 simp [this]
theorem wd_bit (N i j : Nat) : wd (N ||| 2 ^ i) j = if j = i / 32 then wd N j ||| 2 ^ (i % 32) else wd N j := by
 apply Nat.eq_of_testBit_eq; intro b
 rw [testBit_wd, Nat.testBit_or, Nat.testBit_two_pow]
 split
 · rename_i h
   subst h
   rw [Nat.testBit_or, testBit_wd, Nat.testBit_two_pow]
   by_cases hb : b < 32
   · have e : (i = 32 * (i / 32) + b) = (i % 32 = b) := by simp; omega
     simp [hb, e]
   · have e : ¬ i % 32 = b := by omega
     simp [hb, e]
 · rename_i h
   rw [testBit_wd]
   by_cases hb : b < 32
   · have e : ¬ i = 32 * j + b := by omega
     simp [hb, e]
   · simp [hb]
theorem int_bne0 (a : Nat) : ((a : Int) != 0) = (a != 0) := by
 by_cases h : a = 0
 · subst h; rfl
 · have h2 : ¬ (a : Int) = 0 := by omega
   simp only [bne, beq_eq_false_iff_ne.2 h, beq_eq_false_iff_ne.2 h2]
def hasB (N : Nat) (id : Int) : Bool := decide (0 ≤ id ∧ id < 100) && N.testBit id.toNat
theorem has_any (N : Nat) (id : Int) (w : World) : Calls Try.prog 37 #[sv N, .int .i64 id] w fun e w' => e = .returned (.bool (hasB N id)) ∧ Below w.heap.size w w' := by
 have hmx : Try.prog.follows .mixedOrders = true := by kernel_rfl
 have hid := isId_any id
 go_enter Try.func37, Try.ntmps37
 simp only [sv]
 go_wp2
 rename_i Q0 K0 hK
 refine wp_region_any hmx ?_
 by_cases h : 0 ≤ id ∧ id < 100
 · obtain ⟨i, rfl⟩ := Int.eq_ofNat_of_zero_le h.1
   have hi : i < 100 := by omega
   have hq : i / 32 < 4 := by omega
   simp only [h, and_self, decide_true] at hid
   refine zwp (fun i__ => ([(.int .i64 (i : Int)), (.bool true), (.bool true), (.int .i64 (i : Int)), (.int .i64 ((i / 32 : Nat) : Int)), (.pointer (some ⟨w.heap.size, i / 32, none⟩)), (.int .u32 ((wd N (i / 32) : Nat) : Int)), (.int .i64 (i : Int)), (.int .u32 ((2 ^ (i % 32) : Nat) : Int)), (.int .u32 ((wd N (i / 32) &&& 2 ^ (i % 32) : Nat) : Int)), (.bool (N.testBit i)), (.bool (N.testBit i)), (.bool (N.testBit i))] : List Value).getD i__ undef) (fun W => Zh4 W w.heap.size (wd N) ∧ Below w.heap.size w W) (by kernel_rfl) ⟨get_new (by simp), ((Below.refl _ w).alloc (by simp) _).drew⟩ ?_ ?_
   · refine (sqc ?_ (sqc ?_ (sqc ?_ (sqc ?_ (sqc ?_ (sqc ?_ (sqc ?_ (sqc ?_ (sqc ?_ (sqc ?_ (sqc ?_ (sqc ?_ (sqc ?_ trivial)))))))))))))
     · exact zmv rfl trivial _ rfl (by kernel_rfl)
     · exact zsc rfl trivial 43 _ _ [(.int .i64 (i : Int))] rfl (by kernel_rfl) (enters_of Try.func43 (by kernel_rfl) rfl) (fun w hw => (hid w).mono (by rintro e w' ⟨rfl, rfl⟩; exact ⟨rfl, hw⟩))
     · exact zmv rfl trivial _ rfl (by kernel_rfl)
     · exact zmv rfl ⟨_, rfl, by kernel_rfl⟩ _ rfl (by kernel_rfl)
     · exact zbo rfl ⟨_, rfl, by kernel_rfl⟩ _ _ _ _ _ _ _ rfl rfl rfl (fun w hw => bin_quo64 i 32 (by omega) (by omega))
     · exact zia rfl ⟨_, rfl, by kernel_rfl⟩ _ _ _ _ _ rfl rfl rfl (fun w hw => idx4 _ _ hq w)
     · exact zld rfl ⟨_, rfl, by kernel_rfl⟩ _ _ _ rfl rfl (fun w hw => load4 w _ _ _ hw.1 hq)
     · exact zmv rfl ⟨_, rfl, by kernel_rfl⟩ _ rfl (by kernel_rfl)
     · exact zsc rfl ⟨_, rfl, by kernel_rfl⟩ 44 _ _ [(.int .i64 (i : Int))] rfl (by kernel_rfl) (enters_of Try.func44 (by kernel_rfl) rfl) (fun w hw => (bit_any i (by omega) w).mono (by rintro e w' ⟨rfl, rfl⟩; exact ⟨rfl, hw⟩))
     · exact zbo rfl ⟨_, rfl, by kernel_rfl⟩ _ _ _ _ _ _ _ rfl rfl rfl (fun w hw => bin_and32 _ _ (wd_lt _ _) (Nat.pow_lt_pow_right (a := 2) (n := 32) (by decide) (Nat.mod_lt _ (by decide))))
     · exact zbo rfl ⟨_, rfl, by kernel_rfl⟩ _ _ _ _ _ _ _ rfl rfl rfl (fun w hw => (bin_neq .u32 _ _).trans (by rw [← bit_word, ← and_bit, int_bne0]; rfl))
     · exact step_pick rfl trivial _ _ _ true rfl (by kernel_rfl) (by kernel_rfl)
     · exact zas rfl trivial _ rfl (by kernel_rfl) (fun _ h => h)
   intro W hW
   first | refine hK _ _ ?_ | refine (‹∀ (a : Act) (w : World), Code.wp Try.prog _ _ a w → _›) _ _ ?_
   simp only [finL, List.getD_cons_zero, List.getD_cons_succ, Nat.zero_add, Nat.reduceAdd, List.setIfInBounds_toArray, List.set_cons_zero, List.set_cons_succ]
   go_wp2
   go_ret
   exact ⟨ret_bool (by simp [hasB]; omega), hW.2⟩
 · simp only [h, decide_false] at hid
   refine zwp (fun i__ => ([(.int .i64 id), (.bool false), (.bool false), undef, undef, undef, undef, undef, undef, undef, undef, (.bool false), (.bool false)] : List Value).getD i__ undef) (fun W => Zh4 W w.heap.size (wd N) ∧ Below w.heap.size w W) (by kernel_rfl) ⟨get_new (by simp), ((Below.refl _ w).alloc (by simp) _).drew⟩ ?_ ?_
   · refine (sqc ?_ (sqc ?_ (sqc ?_ (sqc ?_ (sqc ?_ (sqc ?_ (sqc ?_ (sqc ?_ (sqc ?_ (sqc ?_ (sqc ?_ (sqc ?_ (sqc ?_ trivial)))))))))))))
     · exact zmv rfl trivial _ rfl (by kernel_rfl)
     · exact zsc rfl trivial 43 _ _ [(.int .i64 id)] rfl (by kernel_rfl) (enters_of Try.func43 (by kernel_rfl) rfl) (fun w hw => (hid w).mono (by rintro e w' ⟨rfl, rfl⟩; exact ⟨rfl, hw⟩))
     · exact zmv rfl trivial _ rfl (by kernel_rfl)
     · exact zsk rfl 2 true 7 (.bool false) rfl rfl (by kernel_rfl) (by intro h; cases h) rfl
     · exact zsk rfl 2 true 7 (.bool false) rfl rfl (by kernel_rfl) (by intro h; cases h) rfl
     · exact zsk rfl 2 true 7 (.bool false) rfl rfl (by kernel_rfl) (by intro h; cases h) rfl
     · exact zsk rfl 2 true 7 (.bool false) rfl rfl (by kernel_rfl) (by intro h; cases h) rfl
     · exact zsk rfl 2 true 7 (.bool false) rfl rfl (by kernel_rfl) (by intro h; cases h) rfl
     · exact zsk rfl 2 true 7 (.bool false) rfl rfl (by kernel_rfl) (by intro h; cases h) rfl
     · exact zsk rfl 2 true 7 (.bool false) rfl rfl (by kernel_rfl) (by intro h; cases h) rfl
     · exact zsk rfl 2 true 7 (.bool false) rfl rfl (by kernel_rfl) (by intro h; cases h) rfl
     · exact step_pick rfl trivial _ _ _ false rfl (by kernel_rfl) (by kernel_rfl)
     · exact zas rfl trivial _ rfl (by kernel_rfl) (fun _ h => h)
   intro W hW
   first | refine hK _ _ ?_ | refine (‹∀ (a : Act) (w : World), Code.wp Try.prog _ _ a w → _›) _ _ ?_
   simp only [finL, List.getD_cons_zero, List.getD_cons_succ, Nat.zero_add, Nat.reduceAdd, List.setIfInBounds_toArray, List.set_cons_zero, List.set_cons_succ]
   go_wp2
   go_ret
   exact ⟨ret_bool (by simp [hasB, h]), hW.2⟩
end Go.Proofs.Ytifcnnonnocmmaa
