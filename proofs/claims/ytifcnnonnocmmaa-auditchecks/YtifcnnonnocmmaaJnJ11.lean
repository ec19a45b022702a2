import Derived.Test.YtifcnnonnocmmaaJnJ5
import Derived.Laws.Tables
import Derived.Deep.WholeRow
import Derived.Test.YtifcnnonnocmmaaJnJ0
set_option maxHeartbeats 40000000
set_option maxRecDepth 100000
set_option linter.unusedVariables false
namespace Go.Proofs.Ytifcnnonnocmmaa
open Go.RowKit Go.Shelf Go.Lib
def bC (p : Nat → Bool) : Array Value := ((List.range 100).map fun i => Value.bool (p i)).toArray
def HoldsB (w : World) (b : Nat) (p : Nat → Bool) : Prop := w.heap[b]? = some (.cells (bC p) 68)
theorem bC_size (p : Nat → Bool) : (bC p).size = 100 := by simp [bC]
theorem bC_get (p : Nat → Bool) (k : Nat) (h : k < 100) : (bC p)[k]? = some (.bool (p k)) := by simp [bC, h]
theorem bC_set (p : Nat → Bool) (k : Nat) (b : Bool) : (bC p).setIfInBounds k (.bool b) = bC (fun j => if j = k then b else p j) := by
 apply Array.ext_getElem?; intro i
 rw [Array.getElem?_setIfInBounds, bC_size]
 by_cases h : i < 100
 · rw [bC_get _ _ h, bC_get _ _ h]
   by_cases e : k = i
   · subst e; simp [h]
   · have e2 : ¬ i = k := fun c => e c.symm
     simp [e, e2]
 · have h2 : ∀ q, (bC q)[i]? = none := fun q => Array.getElem?_eq_none (by rw [bC_size]; omega)
   rw [h2, h2]
   by_cases e : k = i
   · subst e; simp [h]
   · simp [e]
theorem bC_congr {p q : Nat → Bool} (h : ∀ i, i < 100 → p i = q i) : bC p = bC q := by
 unfold bC
 congr 1
 apply List.map_congr_left
 intro i hi
 rw [h i (List.mem_range.1 hi)]
theorem bC_one (p : Nat → Bool) : (bC p).all (·.oneCell') = true := by
 rw [Array.all_eq_true_iff_forall_mem]
 intro v hv
 simp [bC] at hv
 obtain ⟨i, _, rfl⟩ := hv
 rfl
theorem zeroB : ∀ w, (zeroValue 68).run Try.prog w = .ok (.agg (bC (fun _ => false))) w := (zero_of_info (P := Try.prog) (n := 100) (by kernel_rfl)).1
theorem sizeB : (Try.prog.info? 68).map (·.size) = some 100 := by kernel_rfl
theorem setRow_get {W : World} {b : Nat} {cs cs' : Array Value} {t : TypeId} {z : Nat × Nat} (h : W.heap[b]? = some (.cells cs t z)) : (W.setRow b cs').heap[b]? = some (.cells cs' t z) := by
 simp [World.setRow, Array.getElem?_modify, h]
theorem setRow_other {W : World} {b k : Nat} {cs : Array Value} (h : k ≠ b) : (W.setRow b cs).heap[k]? = W.heap[k]? := by
 have h2 : ¬ b = k := fun e => h e.symm
 simp [World.setRow, Array.getElem?_modify, h2]
theorem below_setRow {n b : Nat} {w W : World} {cs : Array Value} (h : Below n w W) (hn : n ≤ b) : Below n w (W.setRow b cs) :=
 h.trans ⟨rfl, rfl, rfl, by simp [World.setRow], fun k hk => setRow_other (by omega)⟩
theorem HoldsB.lt {w : World} {b : Nat} {p : Nat → Bool} (h : HoldsB w b p) : b < w.heap.size := (Array.getElem?_eq_some_iff.1 h).1
theorem HoldsB.carry {w w' : World} {b : Nat} {p : Nat → Bool} (h : HoldsB w b p) (hb : Below w.heap.size w w') : HoldsB w' b p := (hb.block _ h.lt).trans h
theorem HoldsB.cell {w : World} {b : Nat} {p : Nat → Bool} (h : HoldsB w b p) (k : Nat) (hk : k < 100) : w.cell? ⟨b, k, none⟩ = some (.bool (p k)) := by
 unfold HoldsB at h
 simp [World.cell?, h, bC_get p k hk]
theorem HoldsB.frozen {w : World} {b : Nat} {p : Nat → Bool} (h : HoldsB w b p) (k : Nat) : w.frozen? ⟨b, k, none⟩ = false := by
 unfold HoldsB at h
 simp [World.frozen?, h]
theorem HoldsB.congr {w : World} {b : Nat} {p q : Nat → Bool} (h : HoldsB w b p) (e : ∀ j, j < 100 → p j = q j) : HoldsB w b q := by
 unfold HoldsB at *
 rw [h, bC_congr e]
theorem HoldsB.set {w : World} {b : Nat} {p : Nat → Bool} (h : HoldsB w b p) (k : Nat) (v : Bool) : HoldsB (w.setCell ⟨b, k, none⟩ (.bool v)) b (fun j => if j = k then v else p j) := by
 unfold HoldsB at *
 have hlt := (Array.getElem?_eq_some_iff.1 h).1
 rw [← bC_set p k v]
 simp [World.setCell, h, Array.getElem?_modify]
theorem HoldsB.store {w : World} {b : Nat} {p : Nat → Bool} (h : HoldsB w b p) (q : Nat → Bool) : (storeVar 68 ⟨b, 0, none⟩ (.agg (bC q))).run Try.prog w = .ok () (w.setRow b (bC q)) :=
 run_storeVar_row (P := Try.prog) w b _ _ (bC p) (bC q) h (by rw [bC_size]; exact sizeB) (by rw [bC_size, bC_size]) (bC_one q)
theorem HoldsB.row {w : World} {b : Nat} {p : Nat → Bool} (h : HoldsB w b p) (q : Nat → Bool) : HoldsB (w.setRow b (bC q)) b q := setRow_get h
theorem retB {f : Func} {p : Tmp} {R : Ending → World → Prop} {a : Act} {w : World} {b : Nat} {q : Nat → Bool} (hres : f.results = #[.cell p 68]) (hp : a.tmps.getD p undef = .pointer (some ⟨b, 0, none⟩)) (hd : a.defers = []) (h : HoldsB w b q) (hR : R (.returned (.agg (bC q))) w) : bodyPost Try.prog f R .ret a w :=
 bodyPost_ret (results_cell_row hres a.tmps w b _ _ (0, 0) _ hp h Try.underlying68 rfl (by rw [bC_size]; exact sizeB)) hd hR
theorem shr_bit (x n : Nat) : ((x / 2 ^ n &&& 1 : Nat) == 1) = x.testBit n := by
 rw [Nat.and_one_is_mod, Nat.testBit_eq_decide_div_mod_eq]
 by_cases h : x / 2 ^ n % 2 = 1 <;> simp [h]
theorem mixB (p : Nat → Bool) (k j : Nat) : (if j = k then p k else if j < k then p j else false) = if j < k + 1 then p j else false := by
 by_cases q : j = k
 · subst q; simp
 · by_cases q2 : j < k
   · rw [if_neg q, if_pos q2, if_pos (by omega)]
   · rw [if_neg q, if_neg q2, if_neg (by omega)]
theorem row_any (N : Nat) (w : World) : Calls Try.prog 32 #[sv N] w fun e w' => e = .returned (.agg (bC N.testBit)) ∧ Below w.heap.size w w' := by
 have hz := zeroB
 simp only [sv]
 go_enter Try.func32, Try.ntmps32
 go_wp2
 clear hz
 go_loopw [4] (fun c wz => ∃ k : Nat, c = .int .i64 k ∧ k ≤ 100 ∧ Zh4 wz w.heap.size (wd N) ∧ HoldsB wz (w.heap.size + 1) (fun _ => false) ∧ HoldsB wz (w.heap.size + 2) (fun j => if j < k then N.testBit j else false) ∧ Below w.heap.size w wz) (fun c _ => 100 - vnat c)
 case atStart => exact ⟨0, rfl, by omega, get_old (get_old (get_new (by simp))), get_old (get_new (by simp)), get_new (by simp), (((Below.refl _ w).alloc (by simp) _).alloc (by simp) _).alloc (by simp; omega) _⟩
 case round =>
  obtain ⟨k, rfl, hk, h1, h2, h3, hb⟩ := hrel
  by_cases hk4 : k < 100
  · have hki : (k : Int) < 100 := by omega
    have hq : k / 32 < 4 := by omega
    have hq' : (k : Int) / 32 < 4 := by omega
    have hc1 := h1.cell (k / 32) hq
    have hc3 := h3.cell k hk4
    have hf3 := h3.frozen k
    have hbit : (bits BinOp.and IntKind.u32 ((wd N (k / 32) : Int) / 2 ^ (k % 32)) 1 == 1) = N.testBit k := by
     have e : (wd N (k / 32) : Int) / 2 ^ (k % 32) = ((wd N (k / 32) / 2 ^ (k % 32) : Nat) : Int) := by simp
     have hl : wd N (k / 32) / 2 ^ (k % 32) < 4294967296 := Nat.lt_of_le_of_lt (Nat.div_le_self _ _) (wd_lt N _)
     rw [e, show (1 : Int) = ((1 : Nat) : Int) from rfl, u32_and_nat _ _ hl (by omega), ← bit_word N k, ← shr_bit]
     by_cases h : wd N (k / 32) / 2 ^ (k % 32) &&& 1 = 1
     · rw [h]; rfl
     · have h2 : ¬ ((wd N (k / 32) / 2 ^ (k % 32) &&& 1 : Nat) : Int) = ((1 : Nat) : Int) := by omega
       rw [beq_eq_false_iff_ne.2 h, beq_eq_false_iff_ne.2 h2]
    go_wp2
    go_roundw
    case rel => exact ⟨k + 1, by simp, by omega, (Below.heap_setCell _ _ _ _ (by simp; omega)).trans h1, (Below.heap_setCell _ _ _ _ (by simp)).trans h2, (h3.set k _).congr (fun j _ => mixB N.testBit k j), hb.setCell (p := ⟨w.heap.size + 1 + 1, k, none⟩) (by simp; omega) _⟩
    case measure => simp only [vnat]; omega
  · have hk5 : k = 100 := by omega
    subst hk5
    have h3' : HoldsB wr (w.heap.size + 2) N.testBit := h3.congr (fun j hj => by simp [hj])
    clear h3
    go_wp2_with (first | (refine wpList_load_row rfl 68 _ rfl (w.heap.size + 1 + 1) rfl _ _ _ _ h3' Try.underlying68 rfl (by rw [bC_size]; exact sizeB) ?_) | (refine wpList_store_row rfl 68 _ _ rfl (w.heap.size + 1) (bC N.testBit) rfl rfl _ _ h2 (by rw [bC_size]; exact sizeB) (by rw [bC_size, bC_size]) (bC_one _) ?_))
    exact retB rfl rfl rfl (h2.row _) ⟨rfl, below_setRow hb (by omega)⟩
def mkN (p : Nat → Bool) : Nat → Nat
 | 0 => 0
 | k + 1 => if p k then mkN p k ||| 2 ^ k else mkN p k
theorem testBit_mkN (p : Nat → Bool) : ∀ k i, (mkN p k).testBit i = (decide (i < k) && p i)
 | 0, i => by simp [mkN]
 | k + 1, i => by
  have ih := testBit_mkN p k i
  by_cases e : i = k
  · subst e
    cases h : p i <;> simp [mkN, h, ih]
  · have e2 : decide (i < k + 1) = decide (i < k) := by simp; omega
    rw [e2]
    cases h : p k
    · simp [mkN, h, ih]
    · rw [mkN, if_pos h, Nat.testBit_or, ih, Nat.testBit_two_pow]
      have e3 : ¬ k = i := fun c => e c.symm
      simp [e3]
theorem mkN_eq {p : Nat → Bool} {X : Nat} (h : ∀ i, X.testBit i = (decide (i < 100) && p i)) : mkN p 100 = X := by
 apply Nat.eq_of_testBit_eq; intro i
 rw [testBit_mkN, h]
theorem pow_bit' (i : Nat) : 2 ^ (i % 32) < 4294967296 := Nat.pow_lt_pow_right (a := 2) (n := 32) (by decide) (Nat.mod_lt _ (by decide))
theorem make_any (p : Nat → Bool) (w : World) : Calls Try.prog 39 #[.agg (bC p)] w fun e w' => e = .returned (sv (mkN p 100)) ∧ Below w.heap.size w w' := by
 have hmx : Try.prog.follows .mixedOrders = true := by kernel_rfl
 go_enter Try.func39, Try.ntmps39
 go_wp2
 go_loopw [4] (fun c wz => ∃ k : Nat, c = .int .i64 k ∧ k ≤ 100 ∧ HoldsB wz w.heap.size p ∧ Zh4 wz (w.heap.size + 1) (fun _ => 0) ∧ Zh4 wz (w.heap.size + 2) (wd (mkN p k)) ∧ Below w.heap.size w wz) (fun c _ => 100 - vnat c)
 case atStart => exact ⟨0, rfl, by omega, get_old (get_old (get_new (by simp))), get_old (get_new (by simp)), (show Zh4 _ _ (fun _ => 0) from get_new (by simp)).congr (fun j _ => by simp [mkN, wd]), (((Below.refl _ w).alloc (by simp) _).alloc (by simp) _).alloc (by simp; omega) _⟩
 case round =>
  obtain ⟨k, rfl, hk, h1, h2, h3, hb⟩ := hrel
  by_cases hk4 : k < 100
  · have hki : (k : Int) < 100 := by omega
    have hq : k / 32 < 4 := by omega
    have hc1 := h1.cell k hk4
    cases hp : p k
    · rw [hp] at hc1
      go_wp2
      go_roundw
      case rel => exact ⟨k + 1, by simp, by omega, h1, h2, by simp only [mkN, hp]; exact h3, hb⟩
      case measure => simp only [vnat]; omega
    · rw [hp] at hc1
      go_wp2
      rename_i Q0 K0 hK
      refine wp_region_any hmx ?_
      refine zwl 11 (fun i__ => ([(.int .i64 (k : Int)), (.int .i64 ((k / 32 : Nat) : Int)), (.int .i64 (k : Int)), (.int .i64 ((k / 32 : Nat) : Int)), (.pointer (some ⟨w.heap.size + 2, k / 32, none⟩)), (.int .u32 ((wd (mkN p k) (k / 32) : Nat) : Int)), (.int .i64 (k : Int)), (.int .i64 ((k % 32 : Nat) : Int)), (.int .u32 ((2 ^ (k % 32) : Nat) : Int)), (.int .u32 ((wd (mkN p k) (k / 32) ||| 2 ^ (k % 32) : Nat) : Int)), (.pointer (some ⟨w.heap.size + 2, k / 32, none⟩)), undef] : List Value).getD i__ undef) (fun W => HoldsB W w.heap.size p ∧ Zh4 W (w.heap.size + 1) (fun _ => 0) ∧ Zh4 W (w.heap.size + 2) (wd (mkN p k)) ∧ Below w.heap.size w W) (fun W => HoldsB W w.heap.size p ∧ Zh4 W (w.heap.size + 1) (fun _ => 0) ∧ Zh4 W (w.heap.size + 2) (wd (mkN p k ||| 2 ^ k)) ∧ Below w.heap.size w W) rfl (by kernel_rfl) (by kernel_rfl) ⟨h1, h2, h3, hb.drew⟩ ?_ ?_  ?_
      · refine (sqc ?_ (sqc ?_ (sqc ?_ (sqc ?_ (sqc ?_ (sqc ?_ (sqc ?_ (sqc ?_ (sqc ?_ (sqc ?_ (sqc ?_ trivial)))))))))))
        · exact zmv rfl trivial _ rfl (by kernel_rfl)
        · exact zbo rfl trivial _ _ _ _ _ _ _ rfl rfl rfl (fun w hw => bin_quo64 k 32 (by omega) (by omega))
        · exact zmv rfl trivial _ rfl (by kernel_rfl)
        · exact zbo rfl trivial _ _ _ _ _ _ _ rfl rfl rfl (fun w hw => bin_quo64 k 32 (by omega) (by omega))
        · exact zia rfl trivial _ _ _ _ _ rfl rfl rfl (fun w hw => idx4 _ _ hq w)
        · exact zld rfl trivial _ _ _ rfl rfl (fun w hw => load4 w _ _ _ hw.2.2.1 hq)
        · exact zmv rfl trivial _ rfl (by kernel_rfl)
        · exact zbo rfl trivial _ _ _ _ _ _ _ rfl rfl rfl (fun w hw => bin_rem64 k 32 (by omega))
        · exact zbo rfl trivial _ _ _ _ _ _ _ rfl rfl rfl (fun w hw => bin_shl32 .i64 (k % 32) (by omega))
        · exact zbo rfl trivial _ _ _ _ _ _ _ rfl rfl rfl (fun w hw => bin_or32 _ _ (wd_lt _ _) (pow_bit' k))
        · exact zia rfl trivial _ _ _ _ _ rfl rfl rfl (fun w hw => idx4 _ _ hq w)
      · intro o ho
        cases ho
        exact step_store rfl trivial rfl _ _ _ _ _ rfl rfl rfl (fun w' hw => by obtain ⟨w2, e1, e2, e3, e4⟩ := store4 w' _ _ _ _ hw.2.2.1 hq; refine ⟨w2, e1, (e4 _ (by omega)).trans hw.1, (e4 _ (by omega)).trans hw.2.1, e2.congr (fun j hj => ?_), hw.2.2.2.trans (e3 _ (by omega))⟩; rw [wd_bit]; split <;> simp_all)
      intro W hW
      first | refine hK _ _ ?_ | refine (‹∀ (a : Act) (w : World), Code.wp Try.prog _ _ a w → _›) _ _ ?_ | skip
      simp only [finL, List.getD_cons_zero, List.getD_cons_succ, Nat.zero_add, Nat.reduceAdd, List.setIfInBounds_toArray, List.set_cons_zero, List.set_cons_succ]
      obtain ⟨g1, g2, g3, g4⟩ := hW
      go_wp2
      go_roundw
      case rel => exact ⟨k + 1, by simp, by omega, g1, g2, by simp only [mkN, hp, if_true]; exact g3, g4⟩
      case measure => simp only [vnat]; omega
  · have hk5 : k = 100 := by omega
    subst hk5
    obtain ⟨x0, x1, x2, x3, _⟩ := h3.facts
    obtain ⟨y0, y1, y2, y3, z0, z1, z2, z3⟩ := h2.facts
    have H2 : Hid (Zh4 wr (w.heap.size + 1) (fun _ => 0)) := h2
    clear h3 h2
    go_wp2
    exact ret4 rfl rfl rfl (fin4 H2.out _) ⟨rfl, below4 hb (by omega) _⟩
theorem stepB_alloc {ops : Array Oper} {Q : Exit → Act → World → Prop} {i : Nat} {o : Oper} {a : Act} {w : World} {K : Act → World → Prop} (hi : ops[i]? = some o) (hg : o.guard = none) (ho : o.op = .alloc 68)
  (hK : K (a.put o.dst (.pointer (some ⟨w.heap.size, 0, none⟩))) (w.alloc (.cells (bC (fun _ => false)) 68))) : wpOp Try.prog ops Q i K a w := by
 have hz := zeroB
 have hr : (Instr.alloc 68 true (.tuple #[])).run Try.prog w = .ok (.pointer (some ⟨w.heap.size, 0, none⟩)) (w.alloc (.cells (bC (fun _ => false)) 68)) := by
  go_simp
 unfold wpOp
 rw [hi]
 simp only [Region.wanted, hg, if_true]
 refine .inl ?_
 unfold Oper.wp execOp
 simp only [ho, Sem.run_bind, hr, Result.andThen_ok, Sem.run_pure, Oper.upon_value]
 exact hK
structure JR (w0 : World) (A B : Nat) (p q : Nat → Bool) (ba bb : Nat) (g : Nat × Nat) (x4 x5 x6 x7 : Bool) (W : World) : Prop where
 a : Zh4 W ba (wd A)
 b : Zh4 W bb (wd B)
 la : ba < w0.heap.size
 lb : bb < w0.heap.size
 below : Below w0.heap.size w0 W
 u : x4 = true → w0.heap.size ≤ g.1 ∧ HoldsB W g.1 (if x6 = true then p else fun _ => false)
 m : x5 = true → w0.heap.size ≤ g.2 ∧ HoldsB W g.2 (if x7 = true then q else fun _ => false)
 ne : x4 = true → x5 = true → g.1 ≠ g.2
theorem JR.carry {w0 : World} {A B : Nat} {p q : Nat → Bool} {ba bb : Nat} {g : Nat × Nat} {x4 x5 x6 x7 : Bool} {W W' : World} (h : JR w0 A B p q ba bb g x4 x5 x6 x7 W) (hb : Below W.heap.size W W') : JR w0 A B p q ba bb g x4 x5 x6 x7 W' :=
 ⟨h.a.carry hb, h.b.carry hb, h.la, h.lb, bcarry h.below (Nat.le_refl _) hb, fun e => ⟨(h.u e).1, (h.u e).2.carry hb⟩, fun e => ⟨(h.m e).1, (h.m e).2.carry hb⟩, h.ne⟩
theorem runB_store {w : World} {b : Nat} {p : Nat → Bool} (h : HoldsB w b p) (q : Nat → Bool) : (Instr.storeAt 68 (.pointer (some ⟨b, 0, none⟩)) (.agg (bC q))).run Try.prog w = .ok () (w.setRow b (bC q)) := by
 have := h.store q
 simp only [Instr.storeAt, Instr.sureAddr, Sem.run_bind, Sem.run_pure, Result.andThen_ok, this]
theorem rLess_any (A B : Nat) (w : World) : Calls Try.prog 33 #[sv A, sv B] w fun e w' => e = .returned (sv (cln (dif A B))) ∧ Below w.heap.size w w' := by
 have hmx : Try.prog.follows .mixedOrders = true := by kernel_rfl
 have hmk := make_any (fun i => (A.testBit i && !B.testBit i))
 have hres : mkN (fun i => (A.testBit i && !B.testBit i)) 100 = cln (dif A B) := mkN_eq (fun i => by rw [testBit_cln, testBit_dif])
 rw [hres] at hmk
 clear hres
 generalize cln (dif A B) = M at *
 go_enter Try.func33, Try.ntmps33
 simp only [sv] at hmk ⊢
 go_wp2
 obtain ⟨W0, hW0⟩ : ∃ W0, ((w.alloc (.cells (cells4 (wd A)) 32)).alloc (.cells (cells4 (wd B)) 32)).alloc (.cells (cells4 (fun _ => 0)) 32) = W0 := ⟨_, rfl⟩
 have h0a : Zh4 W0 w.heap.size (wd A) := by rw [← hW0]; exact get_old (get_old (get_new (by simp)))
 have h0b : Zh4 W0 (w.heap.size + 1) (wd B) := by rw [← hW0]; exact get_old (get_new (by simp))
 have h0c : Zh4 W0 (w.heap.size + 2) (fun _ => 0) := by rw [← hW0]; exact get_new (by simp)
 have hs0 : W0.heap.size = w.heap.size + 3 := by rw [← hW0]; simp
 have hb0 : Below w.heap.size w W0 := by rw [← hW0]; exact (((Below.refl _ w).alloc (by simp) _).alloc (by simp) _).alloc (by simp; omega) _
 have hW0' : (((w.alloc (.cells #[.int .u32 (wd A 0 : Nat), .int .u32 (wd A 1 : Nat), .int .u32 (wd A 2 : Nat), .int .u32 (wd A 3 : Nat)] 32)).alloc (.cells #[.int .u32 (wd B 0 : Nat), .int .u32 (wd B 1 : Nat), .int .u32 (wd B 2 : Nat), .int .u32 (wd B 3 : Nat)] 32)).alloc (.cells #[.int .u32 0, .int .u32 0, .int .u32 0, .int .u32 0] 32)) = W0 := hW0
 rw [hW0']
 clear hW0 hW0'
 rename_i Q0 K0 hK
 refine wp_region_any hmx ?_
 refine zwt (G := Nat × Nat) (fun g i__ => ([sv A, .agg (bC A.testBit), sv B, .agg (bC B.testBit), .pointer (some ⟨g.1, 0, none⟩), .pointer (some ⟨g.2, 0, none⟩), undef, undef] : List Value).getD i__ undef)
  (fun g d W => JR W0 A B A.testBit B.testBit w.heap.size (w.heap.size + 1) g (d 4) (d 5) (d 6) (d 7) W) (by kernel_rfl) (0, 0)
  ⟨h0a, h0b, by omega, by omega, (Below.refl _ W0).drew, (fun e => by cases e), (fun e => by cases e), (fun e => by cases e)⟩ ?step ?fin
 case step =>
  intro i o ho
  have hi : i < 8 := getElem?_lt ho
  match i, hi, ho with
  | 0, _, ho =>
   cases ho
   refine zgo (fun g d _ => ?_)
   exact zld rfl trivial _ _ _ rfl rfl (fun w hw => whole4 w _ A hw.a)
  | 1, _, ho =>
   cases ho
   refine zgo (fun g d _ => ?_)
   exact zsc rfl trivial 32 _ _ [sv A] rfl (by kernel_rfl) (enters_of Try.func32 (by kernel_rfl) rfl) (fun w hw => (row_any A w).mono (by rintro e w' ⟨rfl, hb⟩; exact ⟨rfl, hw.carry hb⟩))
  | 2, _, ho =>
   cases ho
   refine zgo (fun g d _ => ?_)
   exact zld rfl trivial _ _ _ rfl rfl (fun w hw => whole4 w _ B hw.b)
  | 3, _, ho =>
   cases ho
   refine zgo (fun g d _ => ?_)
   exact zsc rfl trivial 32 _ _ [sv B] rfl (by kernel_rfl) (enters_of Try.func32 (by kernel_rfl) rfl) (fun w hw => (row_any B w).mono (by rintro e w' ⟨rfl, hb⟩; exact ⟨rfl, hw.carry hb⟩))
  | 4, _, ho =>
   cases ho
   intro g d a W hJ hun hdep hcl hS
   have h6 : d 6 = false := by
     cases h : d 6 with
     | false => rfl
     | true => rw [hcl 6 _ rfl h 4 (by kernel_rfl)] at hun; cases hun
   refine stepB_alloc rfl rfl rfl ⟨(W.heap.size, g.2), ?_, rfl, ?_⟩
   · intro j hj
     match j with
     | 4 => rw [hj] at hun; cases hun
     | 0 => rfl
     | 1 => rfl
     | 2 => rfl
     | 3 => rfl
     | 5 => rfl
     | 6 => rfl
     | 7 => rfl
     | j + 8 => rfl
   · have hc := hJ.carry (alloc_below W (.cells (bC (fun _ => false)) 68))
     have hl := hJ.below.size
     refine ⟨hc.a, hc.b, hc.la, hc.lb, hc.below, fun _ => ⟨?_, ?_⟩, hc.m, fun _ h7 => ?_⟩
     · show W0.heap.size ≤ W.heap.size; omega
     · have : (if (6 : Nat) = 4 then true else d 6) = false := by simp [h6]
       simp only [this]
       exact get_new rfl
     · have := (hJ.m h7).2.lt
       show W.heap.size ≠ g.2
       omega
  | 5, _, ho =>
   cases ho
   intro g d a W hJ hun hdep hcl hS
   have h7 : d 7 = false := by
     cases h : d 7 with
     | false => rfl
     | true => rw [hcl 7 _ rfl h 5 (by kernel_rfl)] at hun; cases hun
   refine stepB_alloc rfl rfl rfl ⟨(g.1, W.heap.size), ?_, rfl, ?_⟩
   · intro j hj
     match j with
     | 5 => rw [hj] at hun; cases hun
     | 0 => rfl
     | 1 => rfl
     | 2 => rfl
     | 3 => rfl
     | 4 => rfl
     | 6 => rfl
     | 7 => rfl
     | j + 8 => rfl
   · have hc := hJ.carry (alloc_below W (.cells (bC (fun _ => false)) 68))
     have hl := hJ.below.size
     refine ⟨hc.a, hc.b, hc.la, hc.lb, hc.below, hc.u, fun _ => ⟨?_, ?_⟩, fun h4 _ => ?_⟩
     · show W0.heap.size ≤ W.heap.size; omega
     · have : (if (7 : Nat) = 5 then true else d 7) = false := by simp [h7]
       simp only [this]
       exact get_new rfl
     · have := (hJ.u h4).2.lt
       show g.1 ≠ W.heap.size
       omega
  | 6, _, ho =>
   cases ho
   refine zgo (fun g d hdep => ?_)
   have h4 : d 4 = true := hdep 4 (by kernel_rfl)
   refine step_store rfl trivial rfl _ _ _ _ _ rfl rfl rfl (fun w' hw => ⟨_, runB_store (hw.u h4).2 A.testBit, ?_⟩)
   have hu := hw.u h4
   have hla := hw.la
   have hlb := hw.lb
   exact ⟨(setRow_other (by omega)).trans hw.a, (setRow_other (by omega)).trans hw.b, hw.la, hw.lb, below_setRow hw.below hu.1, fun _ => ⟨hu.1, hu.2.row _⟩, fun h5 => ⟨(hw.m h5).1, (setRow_other (hw.ne h4 h5).symm).trans (hw.m h5).2⟩, hw.ne⟩
  | 7, _, ho =>
   cases ho
   refine zgo (fun g d hdep => ?_)
   have h5 : d 5 = true := hdep 5 (by kernel_rfl)
   refine step_store rfl trivial rfl _ _ _ _ _ rfl rfl rfl (fun w' hw => ⟨_, runB_store (hw.m h5).2 B.testBit, ?_⟩)
   have hm := hw.m h5
   have hla := hw.la
   have hlb := hw.lb
   exact ⟨(setRow_other (by omega)).trans hw.a, (setRow_other (by omega)).trans hw.b, hw.la, hw.lb, below_setRow hw.below hm.1, fun h4 => ⟨(hw.u h4).1, (setRow_other (hw.ne h4 h5)).trans (hw.u h4).2⟩, fun _ => ⟨hm.1, hm.2.row _⟩, hw.ne⟩
 case fin =>
  intro g d W hall hJ
  rw [hall 4 (by decide), hall 5 (by decide), hall 6 (by decide), hall 7 (by decide)] at hJ
  obtain ⟨_, _, _, _, hbel, hu, hm, hne⟩ := hJ
  obtain ⟨hu1, hu2⟩ := hu rfl
  obtain ⟨hm1, hm2⟩ := hm rfl
  simp only [if_true] at hu2 hm2
  obtain ⟨gu, gm⟩ := g
  have hgg : gu ≠ gm := hne rfl rfl
  simp only at hu1 hm1 hu2 hm2
  refine hK _ _ ?_
  simp only [finL, List.getD_cons_zero, List.getD_cons_succ, Nat.zero_add, Nat.reduceAdd, List.setIfInBounds_toArray, List.set_cons_zero, List.set_cons_succ]
  clear hK hu hm hne
  have c0 := (hbel.block _ (by omega)).trans h0c
  have hbW : Below w.heap.size w W := hb0.trans (hbel.mono (by omega))
  clear h0a h0b h0c hb0 hbel
  go_wp2
  go_loopw [7] (fun c wz => ∃ k : Nat, c = .int .i64 k ∧ k ≤ 100 ∧ HoldsB wz gu (fun j => if j < k then (A.testBit j && !B.testBit j) else A.testBit j) ∧ HoldsB wz gm B.testBit ∧ Zh4 wz (w.heap.size + 2) (fun _ => 0) ∧ Below w.heap.size w wz) (fun c _ => 100 - vnat c)
  case atStart => exact ⟨0, rfl, by omega, hu2, hm2, c0, hbW⟩
  case round =>
   obtain ⟨k, rfl, hk, h1, h2, h3, hb⟩ := hrel
   clear hu2 hm2 c0 hbW
   by_cases hk4 : k < 100
   · have hki : (k : Int) < 100 := by omega
     have hc1 := h1.cell k hk4
     have hf1 := h1.frozen k
     have hc2 := h2.cell k hk4
     have hlt : ¬ k < k := by omega
     simp only [hlt, if_false] at hc1
     have hstep : ∀ v, v = (A.testBit k && !B.testBit k) → HoldsB (wr.setCell ⟨gu, k, none⟩ (.bool v)) gu (fun j => if j < k + 1 then (A.testBit j && !B.testBit j) else A.testBit j) := by
       intro v hv
       subst hv
       refine (h1.set k _).congr (fun j _ => ?_)
       by_cases e : j = k
       · subst e; simp
       · by_cases e2 : j < k
         · rw [if_neg e, if_pos e2, if_pos (by omega)]
         · rw [if_neg e, if_neg e2, if_neg (by omega)]
     clear hmk h1
     cases hA : A.testBit k <;> cases hB : B.testBit k
     all_goals
       rw [hA] at hc1
       rw [hB] at hc2
       rw [hA, hB] at hstep
       go_wp2
       go_roundw
       case rel => exact ⟨k + 1, by simp, by omega, hstep _ rfl, (Below.heap_setCell _ _ _ _ (by simp; omega)).trans h2, (Below.heap_setCell _ _ _ _ (by simp; omega)).trans h3, hb.setCell (p := ⟨gu, k, none⟩) (by simp; omega) _⟩
       case measure => simp only [vnat]; omega
   · have hk5 : k = 100 := by omega
     subst hk5
     have h1' : HoldsB wr gu (fun j => (A.testBit j && !B.testBit j)) := h1.congr (fun j hj => by simp [hj])
     have H3 : Hid (Zh4 wr (w.heap.size + 2) (fun _ => 0)) := h3
     have hlr : w.heap.size + 2 < wr.heap.size := h3.lt
     clear h1 h2 h3
     go_wp2_with (first | (refine wpList_load_row rfl 68 _ rfl gu rfl _ _ _ _ h1' Try.underlying68 rfl (by rw [bC_size]; exact sizeB) ?_) | (go_at_call 39; refine (hmk _).mono ?_; rintro e w2 ⟨rfl, hb2⟩; have q : Hid (Zh4 w2 (w.heap.size + 2) (fun _ => 0)) := (hb2.block _ hlr).trans H3.out; obtain ⟨y0, y1, y2, y3, z0, z1, z2, z3⟩ := q.out.facts))
     exact ret4 rfl rfl rfl (fin4 q.out _) ⟨rfl, below4 (bcarry hb (Nat.le_refl _) hb2) (by omega) _⟩
end Go.Proofs.Ytifcnnonnocmmaa
namespace Go.Proofs.Ytifcnnonnocmmaa
open Go.Lib
def idsTo (M n : Nat) : List Nat := (List.range n).filter M.testBit
theorem idsTo_succ (M n : Nat) : idsTo M (n + 1) = idsTo M n ++ (if M.testBit n then [n] else []) := by
 unfold idsTo
 rw [List.range_succ, List.filter_append]
 cases h : M.testBit n <;> simp [h]
theorem idsTo_gap (M n : Nat) : ∀ k, (∀ i, n ≤ i → i < n + k → M.testBit i = false) → idsTo M (n + k) = idsTo M n
 | 0, _ => rfl
 | k + 1, h => by
  rw [← Nat.add_assoc, idsTo_succ, h (n + k) (by omega) (by omega), idsTo_gap M n k (fun i h1 h2 => h i h1 (by omega))]
  simp
theorem idsTo_length (M : Nat) : ∀ n, (idsTo M n).length = popAux n M
 | 0 => rfl
 | n + 1 => by rw [idsTo_succ, List.length_append, idsTo_length M n, popAux_succ']; cases M.testBit n <;> rfl
theorem mem_idsTo {M n i : Nat} : i ∈ idsTo M n ↔ i < n ∧ M.testBit i = true := by simp [idsTo]
theorem idsTo_cln (N : Nat) : idsTo (cln N) 128 = idsTo N 100 := by
 have h1 : idsTo (cln N) (100 + 28) = idsTo (cln N) 100 := idsTo_gap _ _ _ (fun i h1 _ => by rw [testBit_cln]; simp; omega)
 have h2 : idsTo (cln N) 100 = idsTo N 100 := by
  unfold idsTo
  apply List.filter_congr
  intro i hi
  rw [testBit_cln]
  simp [List.mem_range.1 hi]
 exact h1.trans h2
def intsV (l : List Nat) : List Value := l.map fun x : Nat => .int .i64 (x : Int)
end Go.Proofs.Ytifcnnonnocmmaa
