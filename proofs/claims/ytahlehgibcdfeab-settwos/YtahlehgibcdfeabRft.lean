/- The document's Ids, Count, Subset, Order, Least, Nth, Has, With, Without: what they answer, at every input. -/
import Derived.Test.YtahlehgibcdfeabRfs
import Derived.Test.YtahlehgibcdfeabOwn
namespace Go.Proofs.Ytahlehgibcdfeab
open Go.RowKit Go.Shelf Go.Lib

set_option maxHeartbeats 1000000 in
set_option maxRecDepth 100000 in
theorem rIds_any (N : Nat) (w : World) : Calls Try.prog 26 #[sv N] w fun e w' => ∃ v, e = .returned v ∧ w'.ownsRow w.heap.size 3 1 v (idsTo N 100).length (intsV (idsTo N 100)) ∧ Below w.heap.size w w' := by
  obtain ⟨ic, hic, hz0, hz1, hz2⟩ := info_parts infoInt
  have hz := zeroB
  have hr := row_any N
  have hlen : ∀ k, (idsTo N k).length ≤ k := fun k => by rw [idsTo_length]; exact popAux_le k N
  simp only [sv] at hr ⊢
  go_enter Try.func26, Try.ntmps26
  go_wp2_with (first | (go_at_call 16; refine (hr _).mono ?_; rintro e w1 ⟨rfl, hb1⟩) | (refine wpList_store_row rfl 30 _ _ rfl w1.heap.size (bC N.testBit) rfl rfl _ _ (get_new rfl) (by rw [bC_size]; exact sizeB) (by rw [bC_size, bC_size]) (bC_one _) ?_; simp only [World.setRow_alloc_new]))
  have hs1 := hb1.size
  simp only [World.size_alloc] at hs1
  have b1 : Below w.heap.size w w1 := ((Below.refl _ w).alloc (by simp) _).trans (hb1.mono (by simp))
  clear hz hr
  go_loopw [5, 4] (fun c v wz => ∃ k : Nat, c = .int .i64 k ∧ k ≤ 100 ∧ HoldsB wz w1.heap.size N.testBit ∧ wz.ownsRow (w1.heap.size + 1) 3 1 v (idsTo N k).length (intsV (idsTo N k)) ∧ Below w.heap.size w wz) (fun c _ _ => 100 - vnat c)
  case atStart => exact ⟨0, rfl, by omega, get_new rfl, World.ownsRow_nil _ _ _ _, b1.alloc (by omega) _⟩
  case round =>
    obtain ⟨k, rfl, hk, h1, hown, hb⟩ := hrel
    by_cases hk4 : k < 100
    · have hki : (k : Int) < 100 := by omega
      have hc1 := h1.cell k hk4
      have hlt := h1.lt
      have hle := hlen k
      have hsucc := idsTo_succ N k
      cases hp : N.testBit k
      · rw [hp] at hc1 hsucc
        go_wp2
        go_roundw
        case rel => exact ⟨k + 1, by simp, by omega, h1, by rw [hsucc]; simpa using hown, hb⟩
        case measure => simp only [vnat]; omega
      · rw [hp] at hc1 hsucc
        have hsu : Hid (idsTo N (k + 1) = idsTo N k ++ [k]) := hsucc
        clear hsucc
        go_wp2_with (at_builtin; refine wpList_append_own _ rfl _ _ 39 rfl (w1.heap.size + 1) 3 ic _ 1 8 Try.underlying39 hic hz0 hz1 hz2 rfl (by decide) _ _ _ rfl (hown.alloc _) ⟨wr.heap.size, 0, none⟩ 1 1 [.int .i64 (k : Nat)] rfl rfl (one_new _ _ _) (by simp [Value.oneCell']) (by unfold maxLen; omega) (by omega) (by simp; omega) ?_; intro v' w2 hown' hgrow _)
        have hne := ownsRow_block hown
        go_roundw
        case rel =>
          refine ⟨k + 1, by simp, by omega, ?_, ?_, ?_⟩
          · exact (hgrow.block _ (by simp; omega) (fun e => by have := (hne _ e.symm).1; omega)).trans (get_old h1)
          · rw [hsu.out]
            have e1 : (idsTo N k ++ [k]).length = (idsTo N k).length + 1 := by simp
            have e2 : intsV (idsTo N k ++ [k]) = intsV (idsTo N k) ++ [.int .i64 (k : Nat)] := by simp [intsV]
            rw [e1, e2]
            exact hown'
          · exact (hb.alloc (by omega) _).grown hgrow (by simp; omega) (fun g hg => by have := (hne g hg).1; omega)
        case measure => simp only [vnat]; omega
    · have hk5 : k = 100 := by omega
      subst hk5
      go_wp2
      go_ret
      exact ⟨_, rfl, ownsRow_base hown (by omega), hb⟩
theorem ownsRow_form {w : World} {base : Nat} {e : TypeId} {size : Nat} {v : Value} {n : Nat} {xs : List Value} (h : w.ownsRow base e size v n xs) : ∃ ad cap, v = .slice ad n cap ∧ (0 < n → ∃ g, ad = some ⟨g, 0, none⟩ ∧ base ≤ g ∧ g < w.heap.size ∧ n ≤ cap ∧ ∀ j u, xs[j]? = some u → w.cell? ⟨g, j, none⟩ = some u) := by
  obtain ⟨h1, h2⟩ := h
  rcases h2 with ⟨rfl, rfl⟩ | ⟨g, cap, cur, rfl, h4, h5, h6, h7, h8, h9⟩
  · exact ⟨none, 0, rfl, fun h => absurd h (by omega)⟩
  · refine ⟨some ⟨g, 0, none⟩, cap, rfl, fun _ => ⟨g, rfl, h4, (Array.getElem?_eq_some_iff.1 h5).1, h6, fun j u hj => ?_⟩⟩
    rw [cell_of h5 j, ← hj, ← h9, List.getElem?_take]
    have hjl : j < n * size := by have := (List.getElem?_eq_some_iff.1 hj).1; omega
    rw [if_pos hjl, Array.getElem?_toList]
set_option maxHeartbeats 1000000 in
theorem rCount_any (N : Nat) (w : World) : Calls Try.prog 20 #[sv N] w fun e w' => e = .returned (.int .i64 ((idsTo N 100).length : Nat)) ∧ Below w.heap.size w w' := by
  have hr := rIds_any N
  simp only [sv] at hr ⊢
  go_enter Try.func20, Try.ntmps20
  go_wp2_with (go_at_call 26; refine (hr _).mono ?_; rintro e w1 ⟨v, rfl, hown, hb1⟩; obtain ⟨ad, cap, rfl, _⟩ := ownsRow_form hown)
  go_ret
  exact ⟨rfl, bcarry (alloc_below w _) (Nat.le_refl _) (by simpa using hb1)⟩
theorem sub_iff (A B : Nat) : ((idsTo (cln (dif A B)) 100).length = 0) = (cln (dif A B) = 0) := by
  rw [idsTo_length]
  apply propext
  constructor
  · intro h
    apply Nat.eq_of_testBit_eq; intro i
    rw [Nat.zero_testBit]
    cases hb : (cln (dif A B)).testBit i with
    | false => rfl
    | true =>
      have hi : i < 100 := by rw [testBit_cln] at hb; simp at hb; exact hb.1
      have hm : i ∈ idsTo (cln (dif A B)) 100 := mem_idsTo.2 ⟨hi, hb⟩
      have hl := idsTo_length (cln (dif A B)) 100
      rw [h] at hl
      rw [List.length_eq_zero_iff.1 hl] at hm
      cases hm
  · intro h; rw [h]; exact popAux_zero 100
set_option maxHeartbeats 1000000 in
theorem rSubset_any (A B : Nat) (w : World) : Calls Try.prog 12 #[sv A, sv B] w fun e w' => e = .returned (.bool (decide (cln (dif A B) = 0))) ∧ Below w.heap.size w w' := by
  have hl := rLess_any A B
  have hc := rCount_any (cln (dif A B))
  have he : (((idsTo (cln (dif A B)) 100).length : Int) == 0) = decide (cln (dif A B) = 0) := by
    have := sub_iff A B
    by_cases h : (idsTo (cln (dif A B)) 100).length = 0
    · have h2 : cln (dif A B) = 0 := by rw [← this]; exact h
      rw [h]; simp [h2]
    · have h2 : ¬ cln (dif A B) = 0 := by rw [← this]; exact h
      have h3 : ¬ ((idsTo (cln (dif A B)) 100).length : Int) = 0 := by omega
      rw [beq_eq_false_iff_ne.2 h3]; simp [h2]
  generalize (idsTo (cln (dif A B)) 100).length = z at *
  generalize cln (dif A B) = M at *
  simp only [sv] at hl hc ⊢
  go_enter Try.func12, Try.ntmps12
  go_wp2_with (first | (go_at_call 9; refine (hl _).mono ?_; rintro e w1 ⟨rfl, hb1⟩) | (go_at_call 20; refine (hc _).mono ?_; rintro e w2 ⟨rfl, hb2⟩))
  go_ret
  exact ⟨rfl, bcarry (bcarry (((Below.refl _ w).alloc (by simp) _).alloc (by simp) _) (Nat.le_refl _) hb1) (Nat.le_refl _) hb2⟩
/-- The greatest bit that just one of two numbers has decides. -/
theorem cmp_top (A B k : Nat) (h : ∀ i, k < i → A.testBit i = B.testBit i) (hk : A.testBit k = true) (hk2 : B.testBit k = false) : B < A := by
  have e : A / 2 ^ k / 2 = B / 2 ^ k / 2 := by
    rw [Nat.div_div_eq_div_mul, Nat.div_div_eq_div_mul, ← Nat.pow_succ]
    apply Nat.eq_of_testBit_eq; intro i
    rw [Nat.testBit_div_two_pow, Nat.testBit_div_two_pow]
    exact h _ (by omega)
  rw [Nat.testBit_eq_decide_div_mod_eq] at hk hk2
  have h1 : A / 2 ^ k % 2 = 1 := of_decide_eq_true hk
  have h2 : ¬ B / 2 ^ k % 2 = 1 := of_decide_eq_false hk2
  apply Nat.lt_of_not_le
  intro hle
  have := Nat.div_le_div_right (c := 2 ^ k) hle
  omega
set_option maxHeartbeats 4000000 in
set_option maxRecDepth 100000 in
theorem rOrder_any (A B : Nat) (w : World) : Calls Try.prog 14 #[sv A, sv B] w fun e w' => e = .returned (.int .i64 (cmpN (cln A) (cln B))) ∧ Below w.heap.size w w' := by
  have hmx : Try.prog.follows .mixedOrders = true := by kernel_rfl
  go_enter Try.func14, Try.ntmps14
  simp only [sv]
  go_wp2
  obtain ⟨W0, hW0⟩ : ∃ W0, (w.alloc (.cells (cells4 (wd A)) 24)).alloc (.cells (cells4 (wd B)) 24) = W0 := ⟨_, rfl⟩
  have h0a : Holds4 W0 w.heap.size (wd A) := by rw [← hW0]; exact get_old (get_new (by simp))
  have h0b : Holds4 W0 (w.heap.size + 1) (wd B) := by rw [← hW0]; exact get_new (by simp)
  have hs0 : W0.heap.size = w.heap.size + 2 := by rw [← hW0]; simp
  have hb0 : Below w.heap.size w W0 := by rw [← hW0]; exact ((Below.refl _ w).alloc (by simp) _).alloc (by simp) _
  have hW0' : ((w.alloc (.cells #[.int .u32 (wd A 0 : Nat), .int .u32 (wd A 1 : Nat), .int .u32 (wd A 2 : Nat), .int .u32 (wd A 3 : Nat)] 24)).alloc (.cells #[.int .u32 (wd B 0 : Nat), .int .u32 (wd B 1 : Nat), .int .u32 (wd B 2 : Nat), .int .u32 (wd B 3 : Nat)] 24)) = W0 := hW0
  rw [hW0']
  clear hW0 hW0'
  rename_i Q0 K0 hK
  refine wp_region_any hmx ?_
  refine wpAny_tabG (G := Nat × Nat) (fun g i__ => ([sv A, .agg (bC A.testBit), sv B, .agg (bC B.testBit), .pointer (some ⟨g.1, 0, none⟩), .pointer (some ⟨g.2, 0, none⟩), undef, undef] : List Value).getD i__ undef)
    (fun g d W => JR W0 A B A.testBit B.testBit w.heap.size (w.heap.size + 1) g (d 4) (d 5) (d 6) (d 7) W) (by kernel_rfl) (0, 0)
    ⟨h0a, h0b, by omega, by omega, (Below.refl _ W0).drew, (fun e => by cases e), (fun e => by cases e), (fun e => by cases e)⟩ ?step ?fin
  case step =>
    intro i o ho
    have hi : i < 8 := getElem?_lt ho
    match i, hi, ho with
    | 0, _, ho =>
      cases ho
      refine stepG_of (fun g d _ => ?_)
      exact step_load rfl trivial _ _ _ rfl rfl (fun w hw => whole4 w _ A hw.a)
    | 1, _, ho =>
      cases ho
      refine stepG_of (fun g d _ => ?_)
      exact step_call rfl trivial 16 _ _ [sv A] rfl (by kernel_rfl) (enters_of Try.func16 (by kernel_rfl) rfl) (fun w hw => (row_any A w).mono (by rintro e w' ⟨rfl, hb⟩; exact ⟨rfl, hw.carry hb⟩))
    | 2, _, ho =>
      cases ho
      refine stepG_of (fun g d _ => ?_)
      exact step_load rfl trivial _ _ _ rfl rfl (fun w hw => whole4 w _ B hw.b)
    | 3, _, ho =>
      cases ho
      refine stepG_of (fun g d _ => ?_)
      exact step_call rfl trivial 16 _ _ [sv B] rfl (by kernel_rfl) (enters_of Try.func16 (by kernel_rfl) rfl) (fun w hw => (row_any B w).mono (by rintro e w' ⟨rfl, hb⟩; exact ⟨rfl, hw.carry hb⟩))
    | 4, _, ho =>
      cases ho
      intro g d a W hJ hun hdep hcl hS
      have h6 : d 6 = false := by
        cases h : d 6 with
        | false => rfl
        | true => rw [hcl 6 _ rfl h 4 (by kernel_rfl)] at hun; cases hun
      refine stepB_alloc rfl rfl rfl ⟨(W.heap.size, g.2), ?_, rfl, ?_⟩
      · intro j hj
        match j with
        | 4 => rw [hj] at hun; cases hun
        | 0 => rfl
        | 1 => rfl
        | 2 => rfl
        | 3 => rfl
        | 5 => rfl
        | 6 => rfl
        | 7 => rfl
        | j + 8 => rfl
      · have hc := hJ.carry (alloc_below W (.cells (bC (fun _ => false)) 30))
        have hl := hJ.below.size
        refine ⟨hc.a, hc.b, hc.la, hc.lb, hc.below, fun _ => ⟨?_, ?_⟩, hc.m, fun _ h7 => ?_⟩
        · show W0.heap.size ≤ W.heap.size; omega
        · have : (if (6 : Nat) = 4 then true else d 6) = false := by simp [h6]
          simp only [this]
          exact get_new rfl
        · have := (hJ.m h7).2.lt
          show W.heap.size ≠ g.2
          omega
    | 5, _, ho =>
      cases ho
      intro g d a W hJ hun hdep hcl hS
      have h7 : d 7 = false := by
        cases h : d 7 with
        | false => rfl
        | true => rw [hcl 7 _ rfl h 5 (by kernel_rfl)] at hun; cases hun
      refine stepB_alloc rfl rfl rfl ⟨(g.1, W.heap.size), ?_, rfl, ?_⟩
      · intro j hj
        match j with
        | 5 => rw [hj] at hun; cases hun
        | 0 => rfl
        | 1 => rfl
        | 2 => rfl
        | 3 => rfl
        | 4 => rfl
        | 6 => rfl
        | 7 => rfl
        | j + 8 => rfl
      · have hc := hJ.carry (alloc_below W (.cells (bC (fun _ => false)) 30))
        have hl := hJ.below.size
        refine ⟨hc.a, hc.b, hc.la, hc.lb, hc.below, hc.u, fun _ => ⟨?_, ?_⟩, fun h4 _ => ?_⟩
        · show W0.heap.size ≤ W.heap.size; omega
        · have : (if (7 : Nat) = 5 then true else d 7) = false := by simp [h7]
          simp only [this]
          exact get_new rfl
        · have := (hJ.u h4).2.lt
          show g.1 ≠ W.heap.size
          omega
    | 6, _, ho =>
      cases ho
      refine stepG_of (fun g d hdep => ?_)
      have h4 : d 4 = true := hdep 4 (by kernel_rfl)
      refine step_store rfl trivial rfl _ _ _ _ _ rfl rfl rfl (fun w' hw => ⟨_, runB_store (hw.u h4).2 A.testBit, ?_⟩)
      have hu := hw.u h4
      have hla := hw.la
      have hlb := hw.lb
      exact ⟨(setRow_other (by omega)).trans hw.a, (setRow_other (by omega)).trans hw.b, hw.la, hw.lb, below_setRow hw.below hu.1, fun _ => ⟨hu.1, hu.2.row _⟩, fun h5 => ⟨(hw.m h5).1, (setRow_other (hw.ne h4 h5).symm).trans (hw.m h5).2⟩, hw.ne⟩
    | 7, _, ho =>
      cases ho
      refine stepG_of (fun g d hdep => ?_)
      have h5 : d 5 = true := hdep 5 (by kernel_rfl)
      refine step_store rfl trivial rfl _ _ _ _ _ rfl rfl rfl (fun w' hw => ⟨_, runB_store (hw.m h5).2 B.testBit, ?_⟩)
      have hm := hw.m h5
      have hla := hw.la
      have hlb := hw.lb
      exact ⟨(setRow_other (by omega)).trans hw.a, (setRow_other (by omega)).trans hw.b, hw.la, hw.lb, below_setRow hw.below hm.1, fun h4 => ⟨(hw.u h4).1, (setRow_other (hw.ne h4 h5)).trans (hw.u h4).2⟩, fun _ => ⟨hm.1, hm.2.row _⟩, hw.ne⟩
  case fin =>
    intro g d W hall hJ
    rw [hall 4 (by decide), hall 5 (by decide), hall 6 (by decide), hall 7 (by decide)] at hJ
    obtain ⟨_, _, _, _, hbel, hu, hm, hne⟩ := hJ
    obtain ⟨hu1, hu2⟩ := hu rfl
    obtain ⟨hm1, hm2⟩ := hm rfl
    simp only [if_true] at hu2 hm2
    obtain ⟨gu, gm⟩ := g
    have hgg : gu ≠ gm := hne rfl rfl
    simp only at hu1 hm1 hu2 hm2
    refine hK _ _ ?_
    simp only [finL, List.getD_cons_zero, List.getD_cons_succ, Nat.zero_add, Nat.reduceAdd, List.setIfInBounds_toArray, List.set_cons_zero, List.set_cons_succ]
    clear hK hu hm hne

    have hbW : Below w.heap.size w W := hb0.trans (hbel.mono (by omega))
    clear h0a h0b hb0 hbel
    go_wp2
    go_loopw [7] (fun c wz => ∃ k : Nat, c = .int .i64 ((k : Int) - 1) ∧ k ≤ 100 ∧ (∀ i, k ≤ i → i < 100 → A.testBit i = B.testBit i) ∧ HoldsB wz gu A.testBit ∧ HoldsB wz gm B.testBit ∧ Below w.heap.size w wz) (fun c _ => match c with | .int _ n => (n + 1).toNat | _ => 0)
    case atStart => exact ⟨100, rfl, by omega, fun i h1 h2 => by omega, hu2, hm2, hbW⟩
    case round =>
      obtain ⟨k, rfl, hk, he, h1, h2, hb⟩ := hrel
      clear hu2 hm2 hbW
      cases k with
      | zero =>
        have e : cln A = cln B := cln_ext (fun i hi => he i (by omega) hi)
        go_wp2
        go_ret
        exact ⟨ret_int (by rw [e, cmpN_self]), hb⟩
      | succ k =>
        have e1 : ((k + 1 : Nat) : Int) - 1 = (k : Int) := by omega
        rw [e1]
        have hk4 : k < 100 := by omega
        have hki : (k : Int) < 100 := by omega
        have hge : (k : Int) ≥ 0 := by omega
        have hge' : 0 ≤ (k : Int) := by omega
        have hc1 := h1.cell k hk4
        have hc2 := h2.cell k hk4
        have hclA : ∀ i, (cln A).testBit i = (decide (i < 100) && A.testBit i) := testBit_cln A
        have hclB : ∀ i, (cln B).testBit i = (decide (i < 100) && B.testBit i) := testBit_cln B
        have heq : ∀ i, k < i → (cln A).testBit i = (cln B).testBit i := fun i hi => by
          rw [hclA, hclB]
          by_cases h : i < 100
          · rw [he i (by omega) h]
          · simp [h]
        cases hA : A.testBit k <;> cases hB : B.testBit k
        · rw [hA] at hc1; rw [hB] at hc2
          clear heq hclA hclB
          go_wp2
          go_roundw
          case rel => exact ⟨k, by simp, by omega, fun i h3 h4 => by
            by_cases e : i = k
            · subst e; rw [hA, hB]
            · exact he i (by omega) h4, h1, h2, hb⟩
          case measure => simp
        · have hlt : cln A < cln B := cmp_top (cln B) (cln A) k (fun i hi => (heq i hi).symm) (by rw [hclB, hB]; simp [hk4]) (by rw [hclA, hA]; simp)
          have hres : cmpN (cln A) (cln B) = -1 := by rw [cmpN, if_pos hlt]
          rw [hA] at hc1; rw [hB] at hc2
          clear heq hclA hclB hlt
          go_wp2
          go_ret
          exact ⟨ret_int hres.symm, hb⟩
        · have hlt : cln B < cln A := cmp_top (cln A) (cln B) k heq (by rw [hclA, hA]; simp [hk4]) (by rw [hclB, hB]; simp)
          have hres : cmpN (cln A) (cln B) = 1 := by rw [cmpN, if_neg (by omega), if_pos hlt]
          rw [hA] at hc1; rw [hB] at hc2
          clear heq hclA hclB hlt
          go_wp2
          go_ret
          exact ⟨ret_int hres.symm, hb⟩
        · rw [hA] at hc1; rw [hB] at hc2
          clear heq hclA hclB
          go_wp2
          go_roundw
          case rel => exact ⟨k, by simp, by omega, fun i h3 h4 => by
            by_cases e : i = k
            · subst e; rw [hA, hB]
            · exact he i (by omega) h4, h1, h2, hb⟩
          case measure => simp
end Go.Proofs.Ytahlehgibcdfeab
