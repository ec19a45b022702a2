/- infer's Known and Missing; the first call: what they answer. -/
import Derived.Test.YtgehmidalfajgaaDoorIna
import Derived.Test.YtgehmidalfajgaaDoorTyn
namespace Go.Proofs.YtgehmidalfajgaaDoor
open Go.RowKit Go.Shelf

theorem RdS.lit {W : World} {b : Nat} (l : List Nat) (h : W.heap[b]? = some (.cells (fs l).toArray 27 (0, 0))) : RdS W (some ⟨b, 0, none⟩) l := fun _ => by
  refine ⟨b, 0, rfl, lt_at h, fun k x hk => ?_⟩
  obtain ⟨c0, c1, c2, c3⟩ := fs_get l k x hk
  rw [Nat.zero_add]
  exact ⟨(cell_at h _).trans (by simpa using c0), (cell_at h _).trans (by simpa using c1), (cell_at h _).trans (by simpa using c2), (cell_at h _).trans (by simpa using c3)⟩
theorem hold_row {V : World} {b b' : Nat} {c : Nat → Nat} (h : Holds4 V b c) (hne : b ≠ b') (cs : Array Value) : Holds4 (V.setRow b' cs) b c := (setRow_other _ _ _ _ hne).trans h
/-- Who has replied, and whom they have heard. -/
def kn (t : Tl) : Nat := unis t.reps t.hs
theorem kn_lt {t : Tl} (h : Tv t) : kn t < S100 := unis_lt h.reps _
section
variable {w W V : World} {base q : Nat} {ad : Option Addr} {cap : Nat} {t : Tl}
set_option maxHeartbeats 1000000 in
set_option maxRecDepth 100000 in
theorem known_any (h : Ta W base q ad cap t) (hl : t.hs.length ≤ 100000) : Calls Tryd.prog 15 #[.pointer (some ⟨q, 0, none⟩)] W fun e w' => e = .returned (sv (kn t)) ∧ Below W.heap.size W w' := by
  obtain ⟨w1, hw1⟩ : ∃ w1, W.alloc (.cells #[.int .u32 0, .int .u32 0, .int .u32 0, .int .u32 0] 27) = w1 := ⟨_, rfl⟩
  have hb1 : Below W.heap.size W w1 := by rw [← hw1]; exact al1' _ _
  have g1 : Holds4 w1 W.heap.size (fun _ => 0) := by rw [← hw1]; exact new_at rfl
  have hh := heards_any (h.carry hb1) hl
  obtain ⟨M, hM⟩ : ∃ M, kn t = M := ⟨_, rfl⟩
  have HM : Hid (unis t.reps t.hs = M) := hM
  rw [hM]
  clear hM
  simp only [sv]
  go_enter Tryd.func15, Tryd.ntmps15
  go_wp2_with (first
    | (go_at_call 40; (with_reducible refine hh.mono ?_); rintro e u ⟨a, c, rfl, ho, hb⟩; have hT2 := (h.carry hb1).carry hb; have hre := reps_any hT2; have hrd := RdS.own ho; simp only [sv] at hre)
    | (go_at_call 41; (with_reducible refine hre.mono ?_); rintro e v ⟨rfl, hbv⟩; have hf := fold_any a c t.hs t.reps v (hrd.carry hbv) (by omega); rw [HM.out] at hf; simp only [sv] at hf)
    | (go_at_call 39; (with_reducible refine hf.mono ?_); rintro e v2 ⟨rfl, hb2⟩; have hbb : Below W.heap.size W v2 := bel2 (bel2 (bel2 hb1 hb) hbv) hb2; have g2 : Holds4 v2 W.heap.size (fun _ => 0) := ((g1.carry hb).carry hbv).carry hb2)
    | (refine wpList_store_row rfl 27 (.tmp 2) (.tmp 7) rfl W.heap.size (cells4 (wd M)) rfl rfl 27 _ g2 infoS rfl (by simp [cells4, Value.oneCell']) ?_; obtain ⟨w4, hw4⟩ : ∃ v, v2.setRow W.heap.size (cells4 (wd M)) = v := ⟨_, rfl⟩; have g6 : Hid (Holds4 w4 W.heap.size (wd M)) := (by rw [← hw4]; exact setRow_heap _ _ _ _ _ _ g2); have hb4 : Hid (Below W.heap.size W w4) := (by rw [← hw4]; exact below_row hbb (Nat.le_refl _) _); rw [hw4]))
  exact ret4 rfl rfl rfl g6.out ⟨rfl, hb4.out⟩
set_option maxHeartbeats 1000000 in
set_option maxRecDepth 100000 in
theorem known_nil (W : World) : Calls Tryd.prog 15 #[.pointer none] W fun e w' => e = .returned (sv 0) ∧ Below W.heap.size W w' := by
  obtain ⟨w1, hw1⟩ : ∃ w1, W.alloc (.cells #[.int .u32 0, .int .u32 0, .int .u32 0, .int .u32 0] 27) = w1 := ⟨_, rfl⟩
  have hb1 : Below W.heap.size W w1 := by rw [← hw1]; exact al1' _ _
  have g1 : Holds4 w1 W.heap.size (fun _ => 0) := by rw [← hw1]; exact new_at rfl
  have hh := heards_nil w1
  have hre := reps_nil
  have hff : ∀ (a : Option Addr) (c : Nat) (V : World), Calls Tryd.prog 39 #[.slice a 0 c, sv 0, .func (.func 23) #[] #[]] V fun e w' => e = .returned (sv 0) ∧ Below V.heap.size V w' := fun a c V => fold_any a c [] 0 V (fun e => absurd rfl e) (by simp)
  have e0 : sv 0 = .agg (cells4 (wd 0)) := rfl
  generalize hZ : wd 0 = Z at *
  rw [e0] at hre hff ⊢
  go_enter Tryd.func15, Tryd.ntmps15
  go_wp2_with (first
    | (go_at_call 40; (with_reducible refine hh.mono ?_); rintro e u ⟨a, c, rfl, hb⟩)
    | (go_at_call 41; refine (hre _).mono ?_; rintro e v ⟨rfl, hbv⟩)
    | (go_at_call 39; refine (hff a c _).mono ?_; rintro e v2 ⟨rfl, hb2⟩; have hbb : Below W.heap.size W v2 := bel2 (bel2 (bel2 hb1 hb) hbv) hb2; have g2 : Holds4 v2 W.heap.size (fun _ => 0) := ((g1.carry hb).carry hbv).carry hb2)
    | (refine wpList_store_row rfl 27 (.tmp 2) (.tmp 7) rfl W.heap.size (cells4 Z) rfl rfl 27 _ g2 infoS rfl (by simp [cells4, Value.oneCell']) ?_; obtain ⟨w4, hw4⟩ : ∃ v, v2.setRow W.heap.size (cells4 Z) = v := ⟨_, rfl⟩; have g6 : Hid (Holds4 w4 W.heap.size Z) := (by rw [← hw4]; exact setRow_heap _ _ _ _ _ _ g2); have hb4 : Hid (Below W.heap.size W w4) := (by rw [← hw4]; exact below_row hbb (Nat.le_refl _) _); rw [hw4]))
  have g7 : Holds4 w4 W.heap.size (wd 0) := by rw [hZ]; exact g6.out
  exact ret4 rfl rfl rfl g7 ⟨by rw [e0], hb4.out⟩
set_option maxHeartbeats 1000000 in
theorem isSize_any (n : Int) (W : World) : Calls Tryd.prog 27 #[.int .i64 n] W fun e w' => e = .returned (.bool (decide (1 ≤ n ∧ n ≤ 100))) ∧ w' = W := by
  go_enter Tryd.func27, Tryd.ntmps27
  go_wp2
  all_goals
    go_ret
    refine ⟨ret_bool ?_, rfl⟩
    first
    | (have h : 1 ≤ n := by omega
       simp [h])
    | (have h : ¬ 1 ≤ n := by omega
       simp [h])
/-- What Missing answers: a set, an error. -/
def msE (n : Int) (r : Bool) : Int := if 1 ≤ n ∧ n ≤ 100 then (if r = true then 0 else 170) else 1
def msN (n : Int) (r : Bool) (K : Nat) : Nat := if 1 ≤ n ∧ n ≤ 100 ∧ r = true then cln (dif (fullN n.toNat) K) else 0
theorem infoE : (Tryd.prog.info? 27).map (·.size) = some 4 := by kernel_rfl
theorem store_s {W : World} {b : Nat} {c : Nat → Nat} (h : Holds4 W b c) (M : Nat) : (Instr.storeAt 27 (.pointer (some ⟨b, 0, none⟩)) (sv M)).run Tryd.prog W = .ok () (set4 W b M) := by
  obtain ⟨y0, y1, y2, y3, z0, z1, z2, z3⟩ := h.facts
  unfold sv set4
  go_simp
/-- The tally, or none, as it is asked. -/
structure Pt (W : World) (p : Value) (r : Bool) (K : Nat) : Prop where
  rd : ∀ V, Below W.heap.size W V → Calls Tryd.prog 11 #[p] V fun e w' => e = .returned (.bool r) ∧ w' = V
  kw : ∀ V, Below W.heap.size W V → Calls Tryd.prog 15 #[p] V fun e w' => e = .returned (sv K) ∧ Below V.heap.size V w'
theorem Pt.of (h : Ta W base q ad cap t) (hl : t.hs.length ≤ 100000) : Pt W (.pointer (some ⟨q, 0, none⟩)) (rdy t) (kn t) := ⟨fun _ hb => ready_any (h.carry hb), fun _ hb => known_any (h.carry hb) hl⟩
set_option maxHeartbeats 4000000 in
set_option maxRecDepth 100000 in
theorem missing_any (n : Int) {p : Option Addr} {r : Bool} {K : Nat} (h : Pt W (.pointer p) r K) : Calls Tryd.prog 10 #[.int .i64 n, .pointer p] W fun e w' => e = .returned (.tuple #[sv (msN n r K), .int .i64 (msE n r)]) ∧ Below W.heap.size W w' := by
  have hmx : Tryd.prog.follows .mixedOrders = true := by kernel_rfl
  obtain ⟨w1, hw1⟩ : ∃ w1, W.alloc (.cells #[.int .u32 0, .int .u32 0, .int .u32 0, .int .u32 0] 27) = w1 := ⟨_, rfl⟩
  have hb1 : Below W.heap.size W w1 := by rw [← hw1]; exact al1' _ _
  have hs1 : w1.heap.size = W.heap.size + 1 := by rw [← hw1]; simp
  have g1 : Holds4 w1 W.heap.size (fun _ => 0) := by rw [← hw1]; exact new_at rfl
  obtain ⟨y0, y1, y2, y3, z0, z1, z2, z3⟩ := g1.facts
  have his := isSize_any n w1
  have e00 : set4 w1 W.heap.size 0 = (((w1.setCell ⟨W.heap.size, 0, none⟩ (.int .u32 0)).setCell ⟨W.heap.size, 1, none⟩ (.int .u32 0)).setCell ⟨W.heap.size, 2, none⟩ (.int .u32 0)).setCell ⟨W.heap.size, 3, none⟩ (.int .u32 0) := by simp [set4, wd]
  by_cases hn : 1 ≤ n ∧ n ≤ 100
  case neg =>
    have e1 : msN n r K = 0 := if_neg (fun e => hn ⟨e.1, e.2.1⟩)
    have e2 : msE n r = 1 := if_neg hn
    rw [e1, e2]
    rw [decide_eq_false hn] at his
    clear e1 e2
    go_enter Tryd.func10, Tryd.ntmps10
    go_wp2_with (go_at_call 27; (with_reducible refine his.mono ?_); rintro e u ⟨rfl, hu⟩; obtain rfl := hu.symm)
    rw [← e00]
    exact ret4t rfl rfl rfl rfl (fin4 g1 0) ⟨rfl, below4 hb1 (Nat.le_refl _) _⟩
  rw [decide_eq_true hn] at his
  have hrd := h.rd w1 hb1
  cases hr : r with
  | false =>
    subst hr
    have e1 : msN n false K = 0 := if_neg (fun e => by cases e.2.2)
    have e2 : msE n false = 170 := by unfold msE; rw [if_pos hn]; rfl
    rw [e1, e2]
    clear e1 e2
    go_enter Tryd.func10, Tryd.ntmps10
    go_wp2_with (first | (go_at_call 27; (with_reducible refine his.mono ?_); rintro e u ⟨rfl, hu⟩; obtain rfl := hu.symm) | (go_at_call 11; (with_reducible refine hrd.mono ?_); rintro e u ⟨rfl, hu⟩; obtain rfl := hu.symm))
    rw [← e00]
    exact ret4t rfl rfl rfl rfl (fin4 g1 0) ⟨rfl, below4 hb1 (Nat.le_refl _) _⟩
  | true =>
    subst hr
    have e1 : msN n true K = cln (dif (fullN n.toNat) K) := if_pos ⟨hn.1, hn.2, rfl⟩
    have e2 : msE n true = 0 := by unfold msE; rw [if_pos hn]; rfl
    have hfu := full_any n w1
    have e3 : fullV n = .tuple #[sv (fullN n.toNat), .int .i64 0] := if_pos (by omega)
    rw [e3] at hfu
    rw [e1, e2]
    clear e1 e2 e3 e00
    obtain ⟨FN, hFN⟩ : ∃ FN, fullN n.toNat = FN := ⟨_, rfl⟩
    rw [hFN] at hfu ⊢
    clear hFN
    have G1 : Hid (Holds4 w1 W.heap.size (fun _ => 0)) := g1
    clear y0 y1 y2 y3 z0 z1 z2 z3 g1
    simp only [sv] at hfu
    go_enter Tryd.func10, Tryd.ntmps10
    go_wp2_with (first
      | (go_at_call 27; (with_reducible refine his.mono ?_); rintro e u ⟨rfl, hu⟩; obtain rfl := hu.symm)
      | (go_at_call 11; (with_reducible refine hrd.mono ?_); rintro e u ⟨rfl, hu⟩; obtain rfl := hu.symm)
      | (go_at_call 22; (with_reducible refine hfu.mono ?_); rintro e u ⟨rfl, hbu⟩; obtain ⟨u2, hu2⟩ : ∃ u2, u.alloc (.cells #[.int .u32 0, .int .u32 0, .int .u32 0, .int .u32 0] 27) = u2 := ⟨_, rfl⟩; have k0 : W.heap.size < u.heap.size := Nat.lt_of_lt_of_le G1.out.lt hbu.size; have k1 : Hid (Holds4 u2 u.heap.size (fun _ => 0)) := (by rw [← hu2]; exact new_at rfl); have k2 : Hid (Holds4 u2 W.heap.size (fun _ => 0)) := (by rw [← hu2]; exact old_at (G1.out.carry hbu)); have k3 : Hid (Below W.heap.size W u2) := (by rw [← hu2]; exact bel2 (bel2 hb1 hbu) (al1' _ _)))
      | (refine wpList_store_row rfl 27 (.tmp 6) (.tmp 21) rfl u.heap.size (cells4 (wd FN)) rfl rfl 27 _ k1.out infoS rfl (by simp [cells4, Value.oneCell']) ?_; obtain ⟨w4, hw4⟩ : ∃ v, u2.setRow u.heap.size (cells4 (wd FN)) = v := ⟨_, rfl⟩; have j1 : Hid (Holds4 w4 u.heap.size (wd FN)) := (by rw [← hw4]; exact setRow_heap _ _ _ _ _ _ k1.out); have j2 : Hid (Holds4 w4 W.heap.size (fun _ => 0)) := (by rw [← hw4]; exact (setRow_other _ _ _ _ (by omega)).trans k2.out); have j3 : Hid (Below W.heap.size W w4) := (by rw [← hw4]; exact below_row k3.out (by omega) _); rw [hw4]))
    rename_i hK
    refine wp_region_any hmx ?_
    refine wpAny_last2 4 (fun i__ => ([(sv FN), (.pointer p), (sv K), (sv (cln (dif FN K))), undef, (Go.Value.int Go.IntKind.i64 0)] : List Value).getD i__ undef) (fun V => Below w4.heap.size w4 V) (fun V => Holds4 V W.heap.size (wd (cln (dif FN K))) ∧ Below W.heap.size W V) (fun V => Holds4 V W.heap.size (wd (cln (dif FN K))) ∧ Below W.heap.size W V) rfl (by kernel_rfl) (by kernel_rfl) (Below.refl _ _).drew ?_ ?_ ?_  ?_
    · refine (stepsFrom_cons ?_ (stepsFrom_cons ?_ (stepsFrom_cons ?_ (stepsFrom_cons ?_ trivial))))
      · exact step_load rfl trivial _ _ _ rfl rfl (fun v hw => whole4 v _ FN (j1.out.carry hw))
      · exact step_move rfl trivial _ rfl (by kernel_rfl)
      · exact step_call rfl trivial 15 _ _ [(.pointer p)] rfl (by kernel_rfl) (enters_of Tryd.func15 (by kernel_rfl) rfl) (fun v hw => (h.kw v (bel2 j3.out hw)).mono (by rintro e w2 ⟨rfl, hb2⟩; exact ⟨rfl, bel2 hw hb2⟩))
      · exact step_call rfl trivial 34 _ _ [(sv FN), (sv K)] rfl (by kernel_rfl) (enters_of Tryd.func34 (by kernel_rfl) rfl) (fun w hw => (less_any FN K w).mono (by rintro e w' ⟨rfl, hb⟩; exact ⟨rfl, bel2 hw hb⟩))
    · intro o ho
      cases ho
      exact step_store rfl trivial rfl _ _ _ _ _ rfl rfl rfl (fun v hw => ⟨set4 v W.heap.size (cln (dif FN K)), store_s (j2.out.carry hw) _, fin4 (j2.out.carry hw) _, below4 (bel2 j3.out hw) (Nat.le_refl _) _⟩)
    · intro o ho
      cases ho
      exact step_assign rfl trivial _ rfl (by kernel_rfl) (fun _ h => h)
    intro W hW
    first | refine hK _ _ ?_ | refine (‹∀ (a : Act) (w : World), Code.wp Tryd.prog _ _ a w → _›) _ _ ?_
    simp only [finL, List.getD_cons_zero, List.getD_cons_succ, Nat.zero_add, Nat.reduceAdd, List.setIfInBounds_toArray, List.set_cons_zero, List.set_cons_succ]
    clear hK
    go_wp2
    exact ret4t rfl rfl rfl rfl hW.1 ⟨rfl, hW.2⟩
set_option maxHeartbeats 4000000 in
set_option maxRecDepth 100000 in
theorem alive_any (W : World) : Calls Tryd.prog 6 #[] W fun e w' => e = .returned (.bool true) ∧ Below W.heap.size W w' := by
  have hn := new_ok 4 2 0 1 1 (by decide) (by decide) W
  have e1 : sv 1 = .agg #[.int .u32 1, .int .u32 0, .int .u32 0, .int .u32 0] := by kernel_rfl
  have e6 : sv 6 = .agg #[.int .u32 6, .int .u32 0, .int .u32 0, .int .u32 0] := by kernel_rfl
  have e5 : sv 5 = .agg #[.int .u32 5, .int .u32 0, .int .u32 0, .int .u32 0] := by kernel_rfl
  have e8 : sv 8 = .agg #[.int .u32 8, .int .u32 0, .int .u32 0, .int .u32 0] := by kernel_rfl
  have hq := eqn4 5 5 (by decide) (by decide)
  have hq8 := eqn4 8 8 (by decide) (by decide)
  have hT0 : Tv (nwT 4 2 0 1 1) := Tv.new (by decide) (by decide)
  have hf : fate (nwT 4 2 0 1 1) 1 1 6 = 5 := by decide
  have hk : tk (nwT 4 2 0 1 1) 1 1 6 = ⟨4, 2, 1, 3, [1, 6]⟩ := by rfl
  have hms : msN 4 (rdy ⟨4, 2, 1, 3, [1, 6]⟩) (kn ⟨4, 2, 1, 3, [1, 6]⟩) = 8 := by decide
  have hme : msE 4 (rdy ⟨4, 2, 1, 3, [1, 6]⟩) = 0 := by decide
  have hun : unis 0 [1, 4] = 5 := by decide
  have hi5 : ∀ (ad : Option Addr) (V : World), RdS V ad [1, 4] → Calls Tryd.prog 26 #[.slice ad 2 2] V fun e w' => e = .returned (.agg #[.int .u32 5, .int .u32 0, .int .u32 0, .int .u32 0]) ∧ Below V.heap.size V w' := fun ad V h => by
    have := iunion_any ad 2 [1, 4] V h (by decide)
    rw [hun, e5] at this
    exact this
  rw [e1] at hn
  rw [e5] at hq
  rw [e8] at hq8
  go_enter Tryd.func6, Tryd.ntmps6
  go_wp2_with (first
    | (go_at_call 8; (with_reducible refine hn.mono ?_); rintro e u ⟨q, ad, cap, rfl, hT, hb⟩; have htk := take_any hT hT0 hb.size 1 1 6 (by decide); rw [hf, hk, e6] at htk)
    | (go_at_call 9; (with_reducible refine htk.mono ?_); rintro e u2 ⟨rfl, ad2, cap2, hT2, hn2, _⟩; have hmi := missing_any 4 (Pt.of hT2 (by decide)); rw [hms, hme, e8] at hmi; have hbb : Hid (Below W.heap.size W u2) := hb.trans (hT.below hn2))
    | (go_at_call 10; (with_reducible refine hmi.mono ?_); rintro e v ⟨rfl, hbv⟩; have hb3 : Hid (Below W.heap.size W v) := bel2 hbb.out hbv)
    | (go_at_call 26; refine (hi5 _ _ ?_).mono ?_; (exact RdS.lit [1, 4] (get_new (by simp))); rintro e v2 ⟨rfl, hb4⟩; have hb5 : Hid (Below W.heap.size W v2) := bel2 (bel2 (bel2 hb3.out (al1' _ _)) (al1' _ _)) hb4))
  go_ret
  exact ⟨rfl, hb5.out⟩
end
end Go.Proofs.YtgehmidalfajgaaDoor
