/- The document's own answers on sets, by rows of bools: what they answer, at every input. -/
import Derived.Test.YtgehmidalfajgaaRow
namespace Go.Proofs.Ytgehmidalfajgaa
open Go.RowKit Go.Shelf Go.Lib

theorem stepB_alloc {ops : Array Oper} {Q : Exit → Act → World → Prop} {i : Nat} {o : Oper} {a : Act} {w : World} {K : Act → World → Prop} (hi : ops[i]? = some o) (hg : o.guard = none) (ho : o.op = .alloc 76)
    (hK : K (a.put o.dst (.pointer (some ⟨w.heap.size, 0, none⟩))) (w.alloc (.cells (bC (fun _ => false)) 76))) : wpOp Try.prog ops Q i K a w := by
  have hz := zeroB
  have hr : (Instr.alloc 76 true (.tuple #[])).run Try.prog w = .ok (.pointer (some ⟨w.heap.size, 0, none⟩)) (w.alloc (.cells (bC (fun _ => false)) 76)) := by
    go_simp
  unfold wpOp
  rw [hi]
  simp only [Region.wanted, hg, if_true]
  refine .inl ?_
  unfold Oper.wp execOp
  simp only [ho, Sem.run_bind, hr, Result.andThen_ok, Sem.run_pure, Oper.upon_value]
  exact hK
/-- What lies where, while two rows are made. -/
structure JR (w0 : World) (A B : Nat) (p q : Nat → Bool) (ba bb : Nat) (g : Nat × Nat) (x4 x5 x6 x7 : Bool) (W : World) : Prop where
  a : Holds4 W ba (wd A)
  b : Holds4 W bb (wd B)
  la : ba < w0.heap.size
  lb : bb < w0.heap.size
  below : Below w0.heap.size w0 W
  u : x4 = true → w0.heap.size ≤ g.1 ∧ HoldsB W g.1 (if x6 = true then p else fun _ => false)
  m : x5 = true → w0.heap.size ≤ g.2 ∧ HoldsB W g.2 (if x7 = true then q else fun _ => false)
  ne : x4 = true → x5 = true → g.1 ≠ g.2
theorem JR.carry {w0 : World} {A B : Nat} {p q : Nat → Bool} {ba bb : Nat} {g : Nat × Nat} {x4 x5 x6 x7 : Bool} {W W' : World} (h : JR w0 A B p q ba bb g x4 x5 x6 x7 W) (hb : Below W.heap.size W W') : JR w0 A B p q ba bb g x4 x5 x6 x7 W' :=
  ⟨h.a.carry hb, h.b.carry hb, h.la, h.lb, bcarry h.below (Nat.le_refl _) hb, fun e => ⟨(h.u e).1, (h.u e).2.carry hb⟩, fun e => ⟨(h.m e).1, (h.m e).2.carry hb⟩, h.ne⟩
theorem runB_store {w : World} {b : Nat} {p : Nat → Bool} (h : HoldsB w b p) (q : Nat → Bool) : (Instr.storeAt 76 (.pointer (some ⟨b, 0, none⟩)) (.agg (bC q))).run Try.prog w = .ok () (w.setRow b (bC q)) := by
  have := h.store q
  simp only [Instr.storeAt, Instr.sureAddr, Sem.run_bind, Sem.run_pure, Result.andThen_ok, this]
set_option maxHeartbeats 4000000 in
set_option maxRecDepth 100000 in
theorem rUnion_any (A B : Nat) (w : World) : Calls Try.prog 39 #[sv A, sv B] w fun e w' => e = .returned (sv (cln (A ||| B))) ∧ Below w.heap.size w w' := by
  have hmx : Try.prog.follows .mixedOrders = true := by kernel_rfl
  have hmk := make_any (fun i => (A.testBit i || B.testBit i))
  have hres : mkN (fun i => (A.testBit i || B.testBit i)) 100 = cln (A ||| B) := mkN_eq (fun i => by rw [testBit_cln, Nat.testBit_or])
  rw [hres] at hmk
  clear hres
  generalize cln (A ||| B) = M at *
  go_enter Try.func39, Try.ntmps39
  simp only [sv] at hmk ⊢
  go_wp2
  obtain ⟨W0, hW0⟩ : ∃ W0, ((w.alloc (.cells (cells4 (wd A)) 24)).alloc (.cells (cells4 (wd B)) 24)).alloc (.cells (cells4 (fun _ => 0)) 24) = W0 := ⟨_, rfl⟩
  have h0a : Holds4 W0 w.heap.size (wd A) := by rw [← hW0]; exact get_old (get_old (get_new (by simp)))
  have h0b : Holds4 W0 (w.heap.size + 1) (wd B) := by rw [← hW0]; exact get_old (get_new (by simp))
  have h0c : Holds4 W0 (w.heap.size + 2) (fun _ => 0) := by rw [← hW0]; exact get_new (by simp)
  have hs0 : W0.heap.size = w.heap.size + 3 := by rw [← hW0]; simp
  have hb0 : Below w.heap.size w W0 := by rw [← hW0]; exact (((Below.refl _ w).alloc (by simp) _).alloc (by simp) _).alloc (by simp; omega) _
  have hW0' : (((w.alloc (.cells #[.int .u32 (wd A 0 : Nat), .int .u32 (wd A 1 : Nat), .int .u32 (wd A 2 : Nat), .int .u32 (wd A 3 : Nat)] 24)).alloc (.cells #[.int .u32 (wd B 0 : Nat), .int .u32 (wd B 1 : Nat), .int .u32 (wd B 2 : Nat), .int .u32 (wd B 3 : Nat)] 24)).alloc (.cells #[.int .u32 0, .int .u32 0, .int .u32 0, .int .u32 0] 24)) = W0 := hW0
  rw [hW0']
  clear hW0 hW0'
  rename_i Q0 K0 hK
  refine wp_region_any hmx ?_
  refine wpAny_tabG (G := Nat × Nat) (fun g i__ => ([sv A, .agg (bC A.testBit), sv B, .agg (bC B.testBit), .pointer (some ⟨g.1, 0, none⟩), .pointer (some ⟨g.2, 0, none⟩), undef, undef] : List Value).getD i__ undef)
    (fun g d W => JR W0 A B A.testBit B.testBit w.heap.size (w.heap.size + 1) g (d 4) (d 5) (d 6) (d 7) W) (by kernel_rfl) (0, 0)
    ⟨h0a, h0b, by omega, by omega, (Below.refl _ W0).drew, (fun e => by cases e), (fun e => by cases e), (fun e => by cases e)⟩ ?step ?fin
  case step =>
    intro i o ho
    have hi : i < 8 := getElem?_lt ho
    match i, hi, ho with
    | 0, _, ho =>
      cases ho
      refine stepG_of (fun g d _ => ?_)
      exact step_load rfl trivial _ _ _ rfl rfl (fun w hw => whole4 w _ A hw.a)
    | 1, _, ho =>
      cases ho
      refine stepG_of (fun g d _ => ?_)
      exact step_call rfl trivial 53 _ _ [sv A] rfl (by kernel_rfl) (enters_of Try.func53 (by kernel_rfl) rfl) (fun w hw => (row_any A w).mono (by rintro e w' ⟨rfl, hb⟩; exact ⟨rfl, hw.carry hb⟩))
    | 2, _, ho =>
      cases ho
      refine stepG_of (fun g d _ => ?_)
      exact step_load rfl trivial _ _ _ rfl rfl (fun w hw => whole4 w _ B hw.b)
    | 3, _, ho =>
      cases ho
      refine stepG_of (fun g d _ => ?_)
      exact step_call rfl trivial 53 _ _ [sv B] rfl (by kernel_rfl) (enters_of Try.func53 (by kernel_rfl) rfl) (fun w hw => (row_any B w).mono (by rintro e w' ⟨rfl, hb⟩; exact ⟨rfl, hw.carry hb⟩))
    | 4, _, ho =>
      cases ho
      intro g d a W hJ hun hdep hcl hS
      have h6 : d 6 = false := by
        cases h : d 6 with
        | false => rfl
        | true => rw [hcl 6 _ rfl h 4 (by kernel_rfl)] at hun; cases hun
      refine stepB_alloc rfl rfl rfl ⟨(W.heap.size, g.2), ?_, rfl, ?_⟩
      · intro j hj
        match j with
        | 4 => rw [hj] at hun; cases hun
        | 0 => rfl
        | 1 => rfl
        | 2 => rfl
        | 3 => rfl
        | 5 => rfl
        | 6 => rfl
        | 7 => rfl
        | j + 8 => rfl
      · have hc := hJ.carry (alloc_below W (.cells (bC (fun _ => false)) 76))
        have hl := hJ.below.size
        refine ⟨hc.a, hc.b, hc.la, hc.lb, hc.below, fun _ => ⟨?_, ?_⟩, hc.m, fun _ h7 => ?_⟩
        · show W0.heap.size ≤ W.heap.size; omega
        · have : (if (6 : Nat) = 4 then true else d 6) = false := by simp [h6]
          simp only [this]
          exact get_new rfl
        · have := (hJ.m h7).2.lt
          show W.heap.size ≠ g.2
          omega
    | 5, _, ho =>
      cases ho
      intro g d a W hJ hun hdep hcl hS
      have h7 : d 7 = false := by
        cases h : d 7 with
        | false => rfl
        | true => rw [hcl 7 _ rfl h 5 (by kernel_rfl)] at hun; cases hun
      refine stepB_alloc rfl rfl rfl ⟨(g.1, W.heap.size), ?_, rfl, ?_⟩
      · intro j hj
        match j with
        | 5 => rw [hj] at hun; cases hun
        | 0 => rfl
        | 1 => rfl
        | 2 => rfl
        | 3 => rfl
        | 4 => rfl
        | 6 => rfl
        | 7 => rfl
        | j + 8 => rfl
      · have hc := hJ.carry (alloc_below W (.cells (bC (fun _ => false)) 76))
        have hl := hJ.below.size
        refine ⟨hc.a, hc.b, hc.la, hc.lb, hc.below, hc.u, fun _ => ⟨?_, ?_⟩, fun h4 _ => ?_⟩
        · show W0.heap.size ≤ W.heap.size; omega
        · have : (if (7 : Nat) = 5 then true else d 7) = false := by simp [h7]
          simp only [this]
          exact get_new rfl
        · have := (hJ.u h4).2.lt
          show g.1 ≠ W.heap.size
          omega
    | 6, _, ho =>
      cases ho
      refine stepG_of (fun g d hdep => ?_)
      have h4 : d 4 = true := hdep 4 (by kernel_rfl)
      refine step_store rfl trivial rfl _ _ _ _ _ rfl rfl rfl (fun w' hw => ⟨_, runB_store (hw.u h4).2 A.testBit, ?_⟩)
      have hu := hw.u h4
      have hla := hw.la
      have hlb := hw.lb
      exact ⟨(setRow_other (by omega)).trans hw.a, (setRow_other (by omega)).trans hw.b, hw.la, hw.lb, below_setRow hw.below hu.1, fun _ => ⟨hu.1, hu.2.row _⟩, fun h5 => ⟨(hw.m h5).1, (setRow_other (hw.ne h4 h5).symm).trans (hw.m h5).2⟩, hw.ne⟩
    | 7, _, ho =>
      cases ho
      refine stepG_of (fun g d hdep => ?_)
      have h5 : d 5 = true := hdep 5 (by kernel_rfl)
      refine step_store rfl trivial rfl _ _ _ _ _ rfl rfl rfl (fun w' hw => ⟨_, runB_store (hw.m h5).2 B.testBit, ?_⟩)
      have hm := hw.m h5
      have hla := hw.la
      have hlb := hw.lb
      exact ⟨(setRow_other (by omega)).trans hw.a, (setRow_other (by omega)).trans hw.b, hw.la, hw.lb, below_setRow hw.below hm.1, fun h4 => ⟨(hw.u h4).1, (setRow_other (hw.ne h4 h5)).trans (hw.u h4).2⟩, fun _ => ⟨hm.1, hm.2.row _⟩, hw.ne⟩
  case fin =>
    intro g d W hall hJ
    rw [hall 4 (by decide), hall 5 (by decide), hall 6 (by decide), hall 7 (by decide)] at hJ
    obtain ⟨_, _, _, _, hbel, hu, hm, hne⟩ := hJ
    obtain ⟨hu1, hu2⟩ := hu rfl
    obtain ⟨hm1, hm2⟩ := hm rfl
    simp only [if_true] at hu2 hm2
    obtain ⟨gu, gm⟩ := g
    have hgg : gu ≠ gm := hne rfl rfl
    simp only at hu1 hm1 hu2 hm2
    refine hK _ _ ?_
    simp only [finL, List.getD_cons_zero, List.getD_cons_succ, Nat.zero_add, Nat.reduceAdd, List.setIfInBounds_toArray, List.set_cons_zero, List.set_cons_succ]
    clear hK hu hm hne
    have c0 := (hbel.block _ (by omega)).trans h0c
    have hbW : Below w.heap.size w W := hb0.trans (hbel.mono (by omega))
    clear h0a h0b h0c hb0 hbel
    go_wp2
    go_loopw [7] (fun c wz => ∃ k : Nat, c = .int .i64 k ∧ k ≤ 100 ∧ HoldsB wz gu (fun j => if j < k then (A.testBit j || B.testBit j) else A.testBit j) ∧ HoldsB wz gm B.testBit ∧ Holds4 wz (w.heap.size + 2) (fun _ => 0) ∧ Below w.heap.size w wz) (fun c _ => 100 - vnat c)
    case atStart => exact ⟨0, rfl, by omega, hu2, hm2, c0, hbW⟩
    case round =>
      obtain ⟨k, rfl, hk, h1, h2, h3, hb⟩ := hrel
      clear hu2 hm2 c0 hbW
      by_cases hk4 : k < 100
      · have hki : (k : Int) < 100 := by omega
        have hc1 := h1.cell k hk4
        have hf1 := h1.frozen k
        have hc2 := h2.cell k hk4
        have hlt : ¬ k < k := by omega
        simp only [hlt, if_false] at hc1
        have hstep : ∀ v, v = (A.testBit k || B.testBit k) → HoldsB (wr.setCell ⟨gu, k, none⟩ (.bool v)) gu (fun j => if j < k + 1 then (A.testBit j || B.testBit j) else A.testBit j) := by
          intro v hv
          subst hv
          refine (h1.set k _).congr (fun j _ => ?_)
          by_cases e : j = k
          · subst e; simp
          · by_cases e2 : j < k
            · rw [if_neg e, if_pos e2, if_pos (by omega)]
            · rw [if_neg e, if_neg e2, if_neg (by omega)]
        clear hmk h1
        cases hA : A.testBit k <;> cases hB : B.testBit k
        all_goals
          rw [hA] at hc1
          rw [hB] at hc2
          rw [hA, hB] at hstep
          go_wp2
          go_roundw
          case rel => exact ⟨k + 1, by simp, by omega, hstep _ rfl, (Below.heap_setCell _ _ _ _ (by simp; omega)).trans h2, (Below.heap_setCell _ _ _ _ (by simp; omega)).trans h3, hb.setCell (p := ⟨gu, k, none⟩) (by simp; omega) _⟩
          case measure => simp only [vnat]; omega
      · have hk5 : k = 100 := by omega
        subst hk5
        have h1' : HoldsB wr gu (fun j => (A.testBit j || B.testBit j)) := h1.congr (fun j hj => by simp [hj])
        have H3 : Hid (Holds4 wr (w.heap.size + 2) (fun _ => 0)) := h3
        have hlr : w.heap.size + 2 < wr.heap.size := h3.lt
        clear h1 h2 h3
        go_wp2_with (first | (refine wpList_load_row rfl 76 _ rfl gu rfl _ _ _ _ h1' Try.underlying76 rfl (by rw [bC_size]; exact sizeB) ?_) | (go_at_call 54; refine (hmk _).mono ?_; rintro e w2 ⟨rfl, hb2⟩; have q : Hid (Holds4 w2 (w.heap.size + 2) (fun _ => 0)) := (hb2.block _ hlr).trans H3.out; obtain ⟨y0, y1, y2, y3, z0, z1, z2, z3⟩ := q.out.facts))
        exact ret4 rfl rfl rfl (fin4 q.out _) ⟨rfl, below4 (bcarry hb (Nat.le_refl _) hb2) (by omega) _⟩
set_option maxHeartbeats 4000000 in
set_option maxRecDepth 100000 in
theorem rLess_any (A B : Nat) (w : World) : Calls Try.prog 42 #[sv A, sv B] w fun e w' => e = .returned (sv (cln (dif A B))) ∧ Below w.heap.size w w' := by
  have hmx : Try.prog.follows .mixedOrders = true := by kernel_rfl
  have hmk := make_any (fun i => (A.testBit i && !B.testBit i))
  have hres : mkN (fun i => (A.testBit i && !B.testBit i)) 100 = cln (dif A B) := mkN_eq (fun i => by rw [testBit_cln, testBit_dif])
  rw [hres] at hmk
  clear hres
  generalize cln (dif A B) = M at *
  go_enter Try.func42, Try.ntmps42
  simp only [sv] at hmk ⊢
  go_wp2
  obtain ⟨W0, hW0⟩ : ∃ W0, ((w.alloc (.cells (cells4 (wd A)) 24)).alloc (.cells (cells4 (wd B)) 24)).alloc (.cells (cells4 (fun _ => 0)) 24) = W0 := ⟨_, rfl⟩
  have h0a : Holds4 W0 w.heap.size (wd A) := by rw [← hW0]; exact get_old (get_old (get_new (by simp)))
  have h0b : Holds4 W0 (w.heap.size + 1) (wd B) := by rw [← hW0]; exact get_old (get_new (by simp))
  have h0c : Holds4 W0 (w.heap.size + 2) (fun _ => 0) := by rw [← hW0]; exact get_new (by simp)
  have hs0 : W0.heap.size = w.heap.size + 3 := by rw [← hW0]; simp
  have hb0 : Below w.heap.size w W0 := by rw [← hW0]; exact (((Below.refl _ w).alloc (by simp) _).alloc (by simp) _).alloc (by simp; omega) _
  have hW0' : (((w.alloc (.cells #[.int .u32 (wd A 0 : Nat), .int .u32 (wd A 1 : Nat), .int .u32 (wd A 2 : Nat), .int .u32 (wd A 3 : Nat)] 24)).alloc (.cells #[.int .u32 (wd B 0 : Nat), .int .u32 (wd B 1 : Nat), .int .u32 (wd B 2 : Nat), .int .u32 (wd B 3 : Nat)] 24)).alloc (.cells #[.int .u32 0, .int .u32 0, .int .u32 0, .int .u32 0] 24)) = W0 := hW0
  rw [hW0']
  clear hW0 hW0'
  rename_i Q0 K0 hK
  refine wp_region_any hmx ?_
  refine wpAny_tabG (G := Nat × Nat) (fun g i__ => ([sv A, .agg (bC A.testBit), sv B, .agg (bC B.testBit), .pointer (some ⟨g.1, 0, none⟩), .pointer (some ⟨g.2, 0, none⟩), undef, undef] : List Value).getD i__ undef)
    (fun g d W => JR W0 A B A.testBit B.testBit w.heap.size (w.heap.size + 1) g (d 4) (d 5) (d 6) (d 7) W) (by kernel_rfl) (0, 0)
    ⟨h0a, h0b, by omega, by omega, (Below.refl _ W0).drew, (fun e => by cases e), (fun e => by cases e), (fun e => by cases e)⟩ ?step ?fin
  case step =>
    intro i o ho
    have hi : i < 8 := getElem?_lt ho
    match i, hi, ho with
    | 0, _, ho =>
      cases ho
      refine stepG_of (fun g d _ => ?_)
      exact step_load rfl trivial _ _ _ rfl rfl (fun w hw => whole4 w _ A hw.a)
    | 1, _, ho =>
      cases ho
      refine stepG_of (fun g d _ => ?_)
      exact step_call rfl trivial 53 _ _ [sv A] rfl (by kernel_rfl) (enters_of Try.func53 (by kernel_rfl) rfl) (fun w hw => (row_any A w).mono (by rintro e w' ⟨rfl, hb⟩; exact ⟨rfl, hw.carry hb⟩))
    | 2, _, ho =>
      cases ho
      refine stepG_of (fun g d _ => ?_)
      exact step_load rfl trivial _ _ _ rfl rfl (fun w hw => whole4 w _ B hw.b)
    | 3, _, ho =>
      cases ho
      refine stepG_of (fun g d _ => ?_)
      exact step_call rfl trivial 53 _ _ [sv B] rfl (by kernel_rfl) (enters_of Try.func53 (by kernel_rfl) rfl) (fun w hw => (row_any B w).mono (by rintro e w' ⟨rfl, hb⟩; exact ⟨rfl, hw.carry hb⟩))
    | 4, _, ho =>
      cases ho
      intro g d a W hJ hun hdep hcl hS
      have h6 : d 6 = false := by
        cases h : d 6 with
        | false => rfl
        | true => rw [hcl 6 _ rfl h 4 (by kernel_rfl)] at hun; cases hun
      refine stepB_alloc rfl rfl rfl ⟨(W.heap.size, g.2), ?_, rfl, ?_⟩
      · intro j hj
        match j with
        | 4 => rw [hj] at hun; cases hun
        | 0 => rfl
        | 1 => rfl
        | 2 => rfl
        | 3 => rfl
        | 5 => rfl
        | 6 => rfl
        | 7 => rfl
        | j + 8 => rfl
      · have hc := hJ.carry (alloc_below W (.cells (bC (fun _ => false)) 76))
        have hl := hJ.below.size
        refine ⟨hc.a, hc.b, hc.la, hc.lb, hc.below, fun _ => ⟨?_, ?_⟩, hc.m, fun _ h7 => ?_⟩
        · show W0.heap.size ≤ W.heap.size; omega
        · have : (if (6 : Nat) = 4 then true else d 6) = false := by simp [h6]
          simp only [this]
          exact get_new rfl
        · have := (hJ.m h7).2.lt
          show W.heap.size ≠ g.2
          omega
    | 5, _, ho =>
      cases ho
      intro g d a W hJ hun hdep hcl hS
      have h7 : d 7 = false := by
        cases h : d 7 with
        | false => rfl
        | true => rw [hcl 7 _ rfl h 5 (by kernel_rfl)] at hun; cases hun
      refine stepB_alloc rfl rfl rfl ⟨(g.1, W.heap.size), ?_, rfl, ?_⟩
      · intro j hj
        match j with
        | 5 => rw [hj] at hun; cases hun
        | 0 => rfl
        | 1 => rfl
        | 2 => rfl
        | 3 => rfl
        | 4 => rfl
        | 6 => rfl
        | 7 => rfl
        | j + 8 => rfl
      · have hc := hJ.carry (alloc_below W (.cells (bC (fun _ => false)) 76))
        have hl := hJ.below.size
        refine ⟨hc.a, hc.b, hc.la, hc.lb, hc.below, hc.u, fun _ => ⟨?_, ?_⟩, fun h4 _ => ?_⟩
        · show W0.heap.size ≤ W.heap.size; omega
        · have : (if (7 : Nat) = 5 then true else d 7) = false := by simp [h7]
          simp only [this]
          exact get_new rfl
        · have := (hJ.u h4).2.lt
          show g.1 ≠ W.heap.size
          omega
    | 6, _, ho =>
      cases ho
      refine stepG_of (fun g d hdep => ?_)
      have h4 : d 4 = true := hdep 4 (by kernel_rfl)
      refine step_store rfl trivial rfl _ _ _ _ _ rfl rfl rfl (fun w' hw => ⟨_, runB_store (hw.u h4).2 A.testBit, ?_⟩)
      have hu := hw.u h4
      have hla := hw.la
      have hlb := hw.lb
      exact ⟨(setRow_other (by omega)).trans hw.a, (setRow_other (by omega)).trans hw.b, hw.la, hw.lb, below_setRow hw.below hu.1, fun _ => ⟨hu.1, hu.2.row _⟩, fun h5 => ⟨(hw.m h5).1, (setRow_other (hw.ne h4 h5).symm).trans (hw.m h5).2⟩, hw.ne⟩
    | 7, _, ho =>
      cases ho
      refine stepG_of (fun g d hdep => ?_)
      have h5 : d 5 = true := hdep 5 (by kernel_rfl)
      refine step_store rfl trivial rfl _ _ _ _ _ rfl rfl rfl (fun w' hw => ⟨_, runB_store (hw.m h5).2 B.testBit, ?_⟩)
      have hm := hw.m h5
      have hla := hw.la
      have hlb := hw.lb
      exact ⟨(setRow_other (by omega)).trans hw.a, (setRow_other (by omega)).trans hw.b, hw.la, hw.lb, below_setRow hw.below hm.1, fun h4 => ⟨(hw.u h4).1, (setRow_other (hw.ne h4 h5)).trans (hw.u h4).2⟩, fun _ => ⟨hm.1, hm.2.row _⟩, hw.ne⟩
  case fin =>
    intro g d W hall hJ
    rw [hall 4 (by decide), hall 5 (by decide), hall 6 (by decide), hall 7 (by decide)] at hJ
    obtain ⟨_, _, _, _, hbel, hu, hm, hne⟩ := hJ
    obtain ⟨hu1, hu2⟩ := hu rfl
    obtain ⟨hm1, hm2⟩ := hm rfl
    simp only [if_true] at hu2 hm2
    obtain ⟨gu, gm⟩ := g
    have hgg : gu ≠ gm := hne rfl rfl
    simp only at hu1 hm1 hu2 hm2
    refine hK _ _ ?_
    simp only [finL, List.getD_cons_zero, List.getD_cons_succ, Nat.zero_add, Nat.reduceAdd, List.setIfInBounds_toArray, List.set_cons_zero, List.set_cons_succ]
    clear hK hu hm hne
    have c0 := (hbel.block _ (by omega)).trans h0c
    have hbW : Below w.heap.size w W := hb0.trans (hbel.mono (by omega))
    clear h0a h0b h0c hb0 hbel
    go_wp2
    go_loopw [7] (fun c wz => ∃ k : Nat, c = .int .i64 k ∧ k ≤ 100 ∧ HoldsB wz gu (fun j => if j < k then (A.testBit j && !B.testBit j) else A.testBit j) ∧ HoldsB wz gm B.testBit ∧ Holds4 wz (w.heap.size + 2) (fun _ => 0) ∧ Below w.heap.size w wz) (fun c _ => 100 - vnat c)
    case atStart => exact ⟨0, rfl, by omega, hu2, hm2, c0, hbW⟩
    case round =>
      obtain ⟨k, rfl, hk, h1, h2, h3, hb⟩ := hrel
      clear hu2 hm2 c0 hbW
      by_cases hk4 : k < 100
      · have hki : (k : Int) < 100 := by omega
        have hc1 := h1.cell k hk4
        have hf1 := h1.frozen k
        have hc2 := h2.cell k hk4
        have hlt : ¬ k < k := by omega
        simp only [hlt, if_false] at hc1
        have hstep : ∀ v, v = (A.testBit k && !B.testBit k) → HoldsB (wr.setCell ⟨gu, k, none⟩ (.bool v)) gu (fun j => if j < k + 1 then (A.testBit j && !B.testBit j) else A.testBit j) := by
          intro v hv
          subst hv
          refine (h1.set k _).congr (fun j _ => ?_)
          by_cases e : j = k
          · subst e; simp
          · by_cases e2 : j < k
            · rw [if_neg e, if_pos e2, if_pos (by omega)]
            · rw [if_neg e, if_neg e2, if_neg (by omega)]
        clear hmk h1
        cases hA : A.testBit k <;> cases hB : B.testBit k
        all_goals
          rw [hA] at hc1
          rw [hB] at hc2
          rw [hA, hB] at hstep
          go_wp2
          go_roundw
          case rel => exact ⟨k + 1, by simp, by omega, hstep _ rfl, (Below.heap_setCell _ _ _ _ (by simp; omega)).trans h2, (Below.heap_setCell _ _ _ _ (by simp; omega)).trans h3, hb.setCell (p := ⟨gu, k, none⟩) (by simp; omega) _⟩
          case measure => simp only [vnat]; omega
      · have hk5 : k = 100 := by omega
        subst hk5
        have h1' : HoldsB wr gu (fun j => (A.testBit j && !B.testBit j)) := h1.congr (fun j hj => by simp [hj])
        have H3 : Hid (Holds4 wr (w.heap.size + 2) (fun _ => 0)) := h3
        have hlr : w.heap.size + 2 < wr.heap.size := h3.lt
        clear h1 h2 h3
        go_wp2_with (first | (refine wpList_load_row rfl 76 _ rfl gu rfl _ _ _ _ h1' Try.underlying76 rfl (by rw [bC_size]; exact sizeB) ?_) | (go_at_call 54; refine (hmk _).mono ?_; rintro e w2 ⟨rfl, hb2⟩; have q : Hid (Holds4 w2 (w.heap.size + 2) (fun _ => 0)) := (hb2.block _ hlr).trans H3.out; obtain ⟨y0, y1, y2, y3, z0, z1, z2, z3⟩ := q.out.facts))
        exact ret4 rfl rfl rfl (fin4 q.out _) ⟨rfl, below4 (bcarry hb (Nat.le_refl _) hb2) (by omega) _⟩
end Go.Proofs.Ytgehmidalfajgaa
