import Derived.Test.YtmahamdmapbilaaGreatDoorJwJ8
import Derived.Test.YtmahamdmapbilaaGreatDoorRows
import Derived.ProofKit
import Derived.OpenShut
import Derived.Laws.IdiomArrays
set_option maxHeartbeats 40000000
set_option maxRecDepth 100000
set_option linter.unusedVariables false
namespace Go.Proofs.YtmahamdmapbilaaGreatDoor
open Go.RowKit Go.Shelf Go.Lib
theorem Zh4.carry {w w' : World} {b : Nat} {c : Nat → Nat} (h : Zh4 w b c) (hb : Below w.heap.size w w') : Zh4 w' b c := h.keep hb (Array.getElem?_eq_some_iff.1 h).1
theorem bcarry {w0 w w' : World} {B : Nat} (h : Below B w0 w) (hB : B ≤ w0.heap.size) (hb : Below w.heap.size w w') : Below B w0 w' := h.trans (hb.mono (Nat.le_trans hB h.size))
theorem eqStep (A B j : Nat) (hj : j < 4) (is : List Nat) (w : World) : (Op.eqItems 9999 34 1 (cells4 (wd A)) (cells4 (wd B)) (j :: is)).run Tryz.prog w = if wd A j = wd B j then (Op.eqItems 9999 34 1 (cells4 (wd A)) (cells4 (wd B)) is).run Tryz.prog w else .ok false w := by
 have he : Tryz.prog.plainKey 34 = true := by kernel_rfl
 have p1 := run_part_plain (P := Tryz.prog) w he (off := j * 1) (by rw [Nat.mul_one]; exact cells4_get (wd A) j hj)
 have p2 := run_part_plain (P := Tryz.prog) w he (off := j * 1) (by rw [Nat.mul_one]; exact cells4_get (wd B) j hj)
 have p3 := run_equalIn_int (P := Tryz.prog) w 9998 34 .u32 .u32 (wd A j : Int) (wd B j : Int) Tryz.underlying34
 rw [Op.eqItems]
 simp only [Sem.run_bind, p1, p2, Result.andThen_ok]
 rw [p3]
 simp only [Result.andThen_ok]
 by_cases h : wd A j = wd B j
 · simp [h]
 · have h2 : ((wd A j : Int) == (wd B j : Int)) = false := by simp; omega
   simp [h, h2]
theorem eqn4 (A B : Nat) (hA : A < S128) (hB : B < S128) (w : World) : (Op.equalIn 10000 36 (sv A) (sv B)).run Tryz.prog w = .ok (decide (A = B)) w := by
 have hi : (Tryz.prog.info? 34).isSome = true := by kernel_rfl
 obtain ⟨i, hi⟩ := Option.isSome_iff_exists.1 hi
 have hc : Tryz.prog.cellsOf 34 = 1 := by kernel_rfl
 rw [sv_cells, sv_cells, run_equalIn_array w 9999 _ _ Tryz.underlying36 hi, hc, show List.range 4 = [0, 1, 2, 3] from rfl]
 rw [eqStep A B 0 (by decide), eqStep A B 1 (by decide), eqStep A B 2 (by decide), eqStep A B 3 (by decide)]
 by_cases e : A = B
 · subst e; simp [Op.eqItems]
 · have hn : ¬ (wd A 0 = wd B 0 ∧ wd A 1 = wd B 1 ∧ wd A 2 = wd B 2 ∧ wd A 3 = wd B 3) := fun h => e (ext_wd hA hB h.1 h.2.1 h.2.2.1 h.2.2.2)
   simp only [e, decide_false]
   by_cases h0 : wd A 0 = wd B 0
   · by_cases h1 : wd A 1 = wd B 1
     · by_cases h2 : wd A 2 = wd B 2
       · by_cases h3 : wd A 3 = wd B 3
         · exact absurd ⟨h0, h1, h2, h3⟩ hn
         · simp [h0, h1, h2, h3]
       · simp [h0, h1, h2]
     · simp [h0, h1]
   · simp [h0]
theorem eql4 (x y : Operand) (A B : Nat) (hA : A < S128) (hB : B < S128) (w : World) : binRun Tryz.prog .eql 36 x y (sv A) (sv B) w = .ok (.bool (decide (A = B))) w := by
 have h := eqn4 A B hA hB w
 unfold sv at h
 unfold binRun sv
 go_simp
theorem hold4 {w : World} {b B M : Nat} (h : B ≠ b) : (set4 w b M).heap[B]? = w.heap[B]? := by
 unfold set4
 rw [Below.heap_setCell _ _ _ _ h, Below.heap_setCell _ _ _ _ h, Below.heap_setCell _ _ _ _ h, Below.heap_setCell _ _ _ _ h]
theorem and_bit (x i : Nat) : (x &&& 2 ^ i != 0) = x.testBit i := by
 cases h : x.testBit i with
 | true =>
  have : (x &&& 2 ^ i).testBit i = true := by rw [Nat.testBit_and, h, Nat.testBit_two_pow_self]; rfl
  have h2 : x &&& 2 ^ i ≠ 0 := fun e => by rw [e, Nat.zero_testBit] at this; cases this
  simpa using h2
 | false =>
  have : x &&& 2 ^ i = 0 := by
   apply Nat.eq_of_testBit_eq; intro j
   rw [Nat.testBit_and, Nat.testBit_two_pow, Nat.zero_testBit]
   by_cases e : i = j
   · subst e; rw [h]; rfl
   · simp [e]
  simp [this]
theorem bit_word (N i : Nat) : (wd N (i / 32)).testBit (i % 32) = N.testBit i := by
 rw [testBit_wd, Nat.div_add_mod]
 have := Nat.mod_lt i (show 32 > 0 by decide)
 simp [this]
theorem wd_bit (N i j : Nat) : wd (N ||| 2 ^ i) j = if j = i / 32 then wd N j ||| 2 ^ (i % 32) else wd N j := by
 apply Nat.eq_of_testBit_eq; intro b
 rw [testBit_wd, Nat.testBit_or, Nat.testBit_two_pow]
 split
 · rename_i h
   subst h
   rw [Nat.testBit_or, testBit_wd, Nat.testBit_two_pow]
   by_cases hb : b < 32
   · have e : (i = 32 * (i / 32) + b) = (i % 32 = b) := by simp; omega
     simp [hb, e]
   · have e : ¬ i % 32 = b := by omega
     simp [hb, e]
 · rename_i h
   rw [testBit_wd]
   by_cases hb : b < 32
   · have e : ¬ i = 32 * j + b := by omega
     simp [hb, e]
   · simp [hb]
theorem int_bne0 (a : Nat) : ((a : Int) != 0) = (a != 0) := by
 by_cases h : a = 0
 · subst h; rfl
 · have h2 : ¬ (a : Int) = 0 := by omega
   simp only [bne, beq_eq_false_iff_ne.2 h, beq_eq_false_iff_ne.2 h2]
def hasB (N : Nat) (id : Int) : Bool := decide (0 ≤ id ∧ id < 100) && N.testBit id.toNat
theorem has_any (N : Nat) (id : Int) (w : World) : Calls Tryz.prog 229 #[sv N, .int .i64 id] w fun e w' => e = .returned (.bool (hasB N id)) ∧ Below w.heap.size w w' := by
 have hmx := mixO
 have hid := isId_any id
 go_enter Tryz.func229, Tryz.ntmps229
 simp only [sv]
 go_wp2
 rename_i Q0 K0 hK
 refine wp_region_any hmx ?_
 by_cases h : 0 ≤ id ∧ id < 100
 · obtain ⟨i, rfl⟩ := Int.eq_ofNat_of_zero_le h.1
   have hi : i < 100 := by omega
   have hq : i / 32 < 4 := by omega
   simp only [h, and_self, decide_true] at hid
   refine zwp (fun i__ => ([(.int .i64 (i : Int)), (.bool true), (.bool true), (.int .i64 (i : Int)), (.int .i64 ((i / 32 : Nat) : Int)), (.pointer (some ⟨w.heap.size, i / 32, none⟩)), (.int .u32 ((wd N (i / 32) : Nat) : Int)), (.int .i64 (i : Int)), (.int .u32 ((2 ^ (i % 32) : Nat) : Int)), (.int .u32 ((wd N (i / 32) &&& 2 ^ (i % 32) : Nat) : Int)), (.bool (N.testBit i)), (.bool (N.testBit i)), (.bool (N.testBit i))] : List Value).getD i__ undef) (fun W => Zh4 W w.heap.size (wd N) ∧ Below w.heap.size w W) (by kernel_rfl) ⟨get_newQ (by simp), ((Below.refl _ w).alloc (by simp) _).drew⟩ ?_ ?_
   · refine (sqc ?_ (sqc ?_ (sqc ?_ (sqc ?_ (sqc ?_ (sqc ?_ (sqc ?_ (sqc ?_ (sqc ?_ (sqc ?_ (sqc ?_ (sqc ?_ (sqc ?_ trivial)))))))))))))
     · exact zmv rfl trivial _ rfl (by kernel_rfl)
     · exact zsc rfl trivial 244 _ _ [(.int .i64 (i : Int))] rfl (by kernel_rfl) (enters_of Tryz.func244 (by kernel_rfl) rfl) (fun w hw => (hid w).mono (by rintro e w' ⟨rfl, rfl⟩; exact ⟨rfl, hw⟩))
     · exact zmv rfl trivial _ rfl (by kernel_rfl)
     · exact zmv rfl ⟨_, rfl, by kernel_rfl⟩ _ rfl (by kernel_rfl)
     · exact zbo rfl ⟨_, rfl, by kernel_rfl⟩ _ _ _ _ _ _ _ rfl rfl rfl (fun w hw => bin_quo64 i 32 (by omega) (by omega))
     · exact zia rfl ⟨_, rfl, by kernel_rfl⟩ _ _ _ _ _ rfl rfl rfl (fun w hw => idx4 _ _ hq w)
     · exact zld rfl ⟨_, rfl, by kernel_rfl⟩ _ _ _ rfl rfl (fun w hw => load4 w _ _ _ hw.1 hq)
     · exact zmv rfl ⟨_, rfl, by kernel_rfl⟩ _ rfl (by kernel_rfl)
     · exact zsc rfl ⟨_, rfl, by kernel_rfl⟩ 245 _ _ [(.int .i64 (i : Int))] rfl (by kernel_rfl) (enters_of Tryz.func245 (by kernel_rfl) rfl) (fun w hw => (bit_any i (by omega) w).mono (by rintro e w' ⟨rfl, rfl⟩; exact ⟨rfl, hw⟩))
     · exact zbo rfl ⟨_, rfl, by kernel_rfl⟩ _ _ _ _ _ _ _ rfl rfl rfl (fun w hw => bin_and32 _ _ (wd_lt _ _) (Nat.pow_lt_pow_right (a := 2) (n := 32) (by decide) (Nat.mod_lt _ (by decide))))
     · exact zbo rfl ⟨_, rfl, by kernel_rfl⟩ _ _ _ _ _ _ _ rfl rfl rfl (fun w hw => (bin_neq .u32 _ _).trans (by rw [← bit_word, ← and_bit, int_bne0]; rfl))
     · exact step_pick rfl trivial _ _ _ true rfl (by kernel_rfl) (by kernel_rfl)
     · exact zas rfl trivial _ rfl (by kernel_rfl) (fun _ h => h)
   intro W hW
   first | refine hK _ _ ?_ | refine (‹∀ (a : Act) (w : World), Code.wp Tryz.prog _ _ a w → _›) _ _ ?_ | skip
   simp only [finL, List.getD_cons_zero, List.getD_cons_succ, Nat.zero_add, Nat.reduceAdd, List.setIfInBounds_toArray, List.set_cons_zero, List.set_cons_succ]
   go_wp2
   go_ret
   exact ⟨ret_bool (by simp [hasB]; omega), hW.2⟩
 · simp only [h, decide_false] at hid
   refine zwp (fun i__ => ([(.int .i64 id), (.bool false), (.bool false), undef, undef, undef, undef, undef, undef, undef, undef, (.bool false), (.bool false)] : List Value).getD i__ undef) (fun W => Zh4 W w.heap.size (wd N) ∧ Below w.heap.size w W) (by kernel_rfl) ⟨get_newQ (by simp), ((Below.refl _ w).alloc (by simp) _).drew⟩ ?_ ?_
   · refine (sqc ?_ (sqc ?_ (sqc ?_ (sqc ?_ (sqc ?_ (sqc ?_ (sqc ?_ (sqc ?_ (sqc ?_ (sqc ?_ (sqc ?_ (sqc ?_ (sqc ?_ trivial)))))))))))))
     · exact zmv rfl trivial _ rfl (by kernel_rfl)
     · exact zsc rfl trivial 244 _ _ [(.int .i64 id)] rfl (by kernel_rfl) (enters_of Tryz.func244 (by kernel_rfl) rfl) (fun w hw => (hid w).mono (by rintro e w' ⟨rfl, rfl⟩; exact ⟨rfl, hw⟩))
     · exact zmv rfl trivial _ rfl (by kernel_rfl)
     · exact zsk rfl 2 true 7 (.bool false) rfl rfl (by kernel_rfl) (by intro h; cases h) rfl
     · exact zsk rfl 2 true 7 (.bool false) rfl rfl (by kernel_rfl) (by intro h; cases h) rfl
     · exact zsk rfl 2 true 7 (.bool false) rfl rfl (by kernel_rfl) (by intro h; cases h) rfl
     · exact zsk rfl 2 true 7 (.bool false) rfl rfl (by kernel_rfl) (by intro h; cases h) rfl
     · exact zsk rfl 2 true 7 (.bool false) rfl rfl (by kernel_rfl) (by intro h; cases h) rfl
     · exact zsk rfl 2 true 7 (.bool false) rfl rfl (by kernel_rfl) (by intro h; cases h) rfl
     · exact zsk rfl 2 true 7 (.bool false) rfl rfl (by kernel_rfl) (by intro h; cases h) rfl
     · exact zsk rfl 2 true 7 (.bool false) rfl rfl (by kernel_rfl) (by intro h; cases h) rfl
     · exact step_pick rfl trivial _ _ _ false rfl (by kernel_rfl) (by kernel_rfl)
     · exact zas rfl trivial _ rfl (by kernel_rfl) (fun _ h => h)
   intro W hW
   first | refine hK _ _ ?_ | refine (‹∀ (a : Act) (w : World), Code.wp Tryz.prog _ _ a w → _›) _ _ ?_ | skip
   simp only [finL, List.getD_cons_zero, List.getD_cons_succ, Nat.zero_add, Nat.reduceAdd, List.setIfInBounds_toArray, List.set_cons_zero, List.set_cons_succ]
   go_wp2
   go_ret
   exact ⟨ret_bool (by simp [hasB, h]), hW.2⟩
theorem ret4t {f : Func} {p q : Tmp} {R : Ending → World → Prop} {a : Act} {w : World} {b M : Nat} {x : Value} (hres : f.results = #[.cell p 36, .tmp q]) (hp : a.tmps.getD p undef = .pointer (some ⟨b, 0, none⟩)) (hq : a.tmps.getD q undef = x) (hd : a.defers = []) (h : Zh4 w b (wd M)) (hR : R (.returned (.tuple #[sv M, x])) w) : bodyPost Tryz.prog f R .ret a w := by
 refine bodyPost_ret (v := .tuple #[sv M, x]) ?_ hd hR
 have h1 := run_loadVar_row (P := Tryz.prog) w b 36 36 (cells4 (wd M)) (0, 0) _ h Tryz.underlying36 rfl (by kernel_rfl)
 have hp' : a.tmps[p]?.getD undef = .pointer (some ⟨b, 0, none⟩) := by simpa using hp
 have hq' : a.tmps[q]?.getD undef = x := by simpa using hq
 simp [results, hres, hp', hq', asAddr, h1]
 rfl
end Go.Proofs.YtmahamdmapbilaaGreatDoor
namespace Go.Proofs.YtmahamdmapbilaaGreatDoor
open Go.ChangeShapes Go.WideShapes Go.ChangeAt Go.RowKit
end Go.Proofs.YtmahamdmapbilaaGreatDoor
