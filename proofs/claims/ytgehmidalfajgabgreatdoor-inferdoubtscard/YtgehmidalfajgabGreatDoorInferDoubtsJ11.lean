/- infer's Known and Missing; the first call: what they answer. -/
import Derived.Test.YtgehmidalfajgabGreatDoorInferDoubtsJ9
import Derived.Test.YtgehmidalfajgabGreatDoorInferDoubtsJ10
import Derived.Test.YtgehmidalfajgabGreatDoorInferDoubtsJ7
import Derived.Test.YtgehmidalfajgabGreatDoorInferDoubtsJ6
namespace Go.Proofs.YtgehmidalfajgabGreatDoor
open Go.RowKit Go.Shelf

theorem RdS.lit {W : World} {b : Nat} (l : List Nat) (h : W.heap[b]? = some (.cells (fs l).toArray 25 (0, 0))) : RdS W (some ⟨b, 0, none⟩) l := fun _ => by
  refine ⟨b, 0, rfl, lt_at h, fun k x hk => ?_⟩
  obtain ⟨c0, c1, c2, c3⟩ := fs_get l k x hk
  rw [Nat.zero_add]
  exact ⟨(cell_at h _).trans (by simpa using c0), (cell_at h _).trans (by simpa using c1), (cell_at h _).trans (by simpa using c2), (cell_at h _).trans (by simpa using c3)⟩
theorem hold_row {V : World} {b b' : Nat} {c : Nat → Nat} (h : Holds4 V b c) (hne : b ≠ b') (cs : Array Value) : Holds4 (V.setRow b' cs) b c := (setRow_other _ _ _ _ hne).trans h
/-- Who has replied, and whom they have heard. -/
def kn (t : Tl) : Nat := unis t.reps t.hs
theorem kn_lt {t : Tl} (h : Tv t) : kn t < S100 := unis_lt h.reps _
section
variable {w W V : World} {base q : Nat} {ad : Option Addr} {cap : Nat} {t : Tl}
set_option maxHeartbeats 1000000 in
set_option maxRecDepth 100000 in
theorem known_any (h : Ta W base q ad cap t) (hl : t.hs.length ≤ 100000) : Calls Tryz.prog 91 #[.pointer (some ⟨q, 0, none⟩)] W fun e w' => e = .returned (sv (kn t)) ∧ Below W.heap.size W w' := by
  obtain ⟨w1, hw1⟩ : ∃ w1, W.alloc (.cells #[.int .u32 0, .int .u32 0, .int .u32 0, .int .u32 0] 25) = w1 := ⟨_, rfl⟩
  have hb1 : Below W.heap.size W w1 := by rw [← hw1]; exact al1' _ _
  have g1 : Holds4 w1 W.heap.size (fun _ => 0) := by rw [← hw1]; exact new_at rfl
  have hh := heards_any (h.carry hb1) hl
  obtain ⟨M, hM⟩ : ∃ M, kn t = M := ⟨_, rfl⟩
  have HM : Hid (unis t.reps t.hs = M) := hM
  rw [hM]
  clear hM
  simp only [sv]
  go_enter Tryz.func91, Tryz.ntmps91
  go_wp2_with (first
    | (go_at_call 138; (with_reducible refine hh.mono ?_); rintro e u ⟨a, c, rfl, ho, hb⟩; have hT2 := (h.carry hb1).carry hb; have hre := reps_any hT2; have hrd := RdS.own ho; simp only [sv] at hre)
    | (go_at_call 139; (with_reducible refine hre.mono ?_); rintro e v ⟨rfl, hbv⟩; have hf := fold_any a c t.hs t.reps v (hrd.carry hbv) (by omega); rw [HM.out] at hf; simp only [sv] at hf)
    | (go_at_call 92; (with_reducible refine hf.mono ?_); rintro e v2 ⟨rfl, hb2⟩; have hbb : Below W.heap.size W v2 := bel2 (bel2 (bel2 hb1 hb) hbv) hb2; have g2 : Holds4 v2 W.heap.size (fun _ => 0) := ((g1.carry hb).carry hbv).carry hb2)
    | (refine wpList_store_row rfl 25 (.tmp 2) (.tmp 7) rfl W.heap.size (cells4 (wd M)) rfl rfl 25 _ g2 infoS rfl (by simp [cells4, Value.oneCell']) ?_; obtain ⟨w4, hw4⟩ : ∃ v, v2.setRow W.heap.size (cells4 (wd M)) = v := ⟨_, rfl⟩; have g6 : Hid (Holds4 w4 W.heap.size (wd M)) := (by rw [← hw4]; exact setRow_heap _ _ _ _ _ _ g2); have hb4 : Hid (Below W.heap.size W w4) := (by rw [← hw4]; exact below_row hbb (Nat.le_refl _) _); rw [hw4]))
  exact ret4 rfl rfl rfl g6.out ⟨rfl, hb4.out⟩
set_option maxHeartbeats 1000000 in
set_option maxRecDepth 100000 in
theorem known_nil (W : World) : Calls Tryz.prog 91 #[.pointer none] W fun e w' => e = .returned (sv 0) ∧ Below W.heap.size W w' := by
  obtain ⟨w1, hw1⟩ : ∃ w1, W.alloc (.cells #[.int .u32 0, .int .u32 0, .int .u32 0, .int .u32 0] 25) = w1 := ⟨_, rfl⟩
  have hb1 : Below W.heap.size W w1 := by rw [← hw1]; exact al1' _ _
  have g1 : Holds4 w1 W.heap.size (fun _ => 0) := by rw [← hw1]; exact new_at rfl
  have hh := heards_nil w1
  have hre := reps_nil
  have hff : ∀ (a : Option Addr) (c : Nat) (V : World), Calls Tryz.prog 92 #[.slice a 0 c, sv 0, .func (.func 93) #[] #[]] V fun e w' => e = .returned (sv 0) ∧ Below V.heap.size V w' := fun a c V => fold_any a c [] 0 V (fun e => absurd rfl e) (by simp)
  have e0 : sv 0 = .agg (cells4 (wd 0)) := rfl
  generalize hZ : wd 0 = Z at *
  rw [e0] at hre hff ⊢
  go_enter Tryz.func91, Tryz.ntmps91
  go_wp2_with (first
    | (go_at_call 138; (with_reducible refine hh.mono ?_); rintro e u ⟨a, c, rfl, hb⟩)
    | (go_at_call 139; refine (hre _).mono ?_; rintro e v ⟨rfl, hbv⟩)
    | (go_at_call 92; refine (hff a c _).mono ?_; rintro e v2 ⟨rfl, hb2⟩; have hbb : Below W.heap.size W v2 := bel2 (bel2 (bel2 hb1 hb) hbv) hb2; have g2 : Holds4 v2 W.heap.size (fun _ => 0) := ((g1.carry hb).carry hbv).carry hb2)
    | (refine wpList_store_row rfl 25 (.tmp 2) (.tmp 7) rfl W.heap.size (cells4 Z) rfl rfl 25 _ g2 infoS rfl (by simp [cells4, Value.oneCell']) ?_; obtain ⟨w4, hw4⟩ : ∃ v, v2.setRow W.heap.size (cells4 Z) = v := ⟨_, rfl⟩; have g6 : Hid (Holds4 w4 W.heap.size Z) := (by rw [← hw4]; exact setRow_heap _ _ _ _ _ _ g2); have hb4 : Hid (Below W.heap.size W w4) := (by rw [← hw4]; exact below_row hbb (Nat.le_refl _) _); rw [hw4]))
  have g7 : Holds4 w4 W.heap.size (wd 0) := by rw [hZ]; exact g6.out
  exact ret4 rfl rfl rfl g7 ⟨by rw [e0], hb4.out⟩
set_option maxHeartbeats 1000000 in
theorem isSize_any (n : Int) (W : World) : Calls Tryz.prog 87 #[.int .i64 n] W fun e w' => e = .returned (.bool (decide (1 ≤ n ∧ n ≤ 100))) ∧ w' = W := by
  go_enter Tryz.func87, Tryz.ntmps87
  go_wp2
  all_goals
    go_ret
    refine ⟨ret_bool ?_, rfl⟩
    first
    | (have h : 1 ≤ n := by omega
       simp [h])
    | (have h : ¬ 1 ≤ n := by omega
       simp [h])
/-- What Missing answers: a set, an error. -/
def msE (n : Int) (r : Bool) : Int := if 1 ≤ n ∧ n ≤ 100 then (if r = true then 0 else 170) else 1
def msN (n : Int) (r : Bool) (K : Nat) : Nat := if 1 ≤ n ∧ n ≤ 100 ∧ r = true then cln (dif (fullN n.toNat) K) else 0
theorem infoE : (Tryz.prog.info? 25).map (·.size) = some 4 := by kernel_rfl
theorem store_s {W : World} {b : Nat} {c : Nat → Nat} (h : Holds4 W b c) (M : Nat) : (Instr.storeAt 25 (.pointer (some ⟨b, 0, none⟩)) (sv M)).run Tryz.prog W = .ok () (set4 W b M) := by
  obtain ⟨y0, y1, y2, y3, z0, z1, z2, z3⟩ := h.facts
  unfold sv set4
  go_simp
/-- The tally, or none, as it is asked. -/
structure Pt (W : World) (p : Value) (r : Bool) (K : Nat) : Prop where
  rd : ∀ V, Below W.heap.size W V → Calls Tryz.prog 88 #[p] V fun e w' => e = .returned (.bool r) ∧ w' = V
  kw : ∀ V, Below W.heap.size W V → Calls Tryz.prog 91 #[p] V fun e w' => e = .returned (sv K) ∧ Below V.heap.size V w'
theorem Pt.of (h : Ta W base q ad cap t) (hl : t.hs.length ≤ 100000) : Pt W (.pointer (some ⟨q, 0, none⟩)) (rdy t) (kn t) := ⟨fun _ hb => ready_any (h.carry hb), fun _ hb => known_any (h.carry hb) hl⟩
set_option maxHeartbeats 4000000 in
set_option maxRecDepth 100000 in
theorem missing_any (n : Int) {p : Option Addr} {r : Bool} {K : Nat} (h : Pt W (.pointer p) r K) : Calls Tryz.prog 17 #[.int .i64 n, .pointer p] W fun e w' => e = .returned (.tuple #[sv (msN n r K), .int .i64 (msE n r)]) ∧ Below W.heap.size W w' := by
  have hmx : Tryz.prog.follows .mixedOrders = true := by kernel_rfl
  obtain ⟨w1, hw1⟩ : ∃ w1, W.alloc (.cells #[.int .u32 0, .int .u32 0, .int .u32 0, .int .u32 0] 25) = w1 := ⟨_, rfl⟩
  have hb1 : Below W.heap.size W w1 := by rw [← hw1]; exact al1' _ _
  have hs1 : w1.heap.size = W.heap.size + 1 := by rw [← hw1]; simp
  have g1 : Holds4 w1 W.heap.size (fun _ => 0) := by rw [← hw1]; exact new_at rfl
  obtain ⟨y0, y1, y2, y3, z0, z1, z2, z3⟩ := g1.facts
  have his := isSize_any n w1
  have e00 : set4 w1 W.heap.size 0 = (((w1.setCell ⟨W.heap.size, 0, none⟩ (.int .u32 0)).setCell ⟨W.heap.size, 1, none⟩ (.int .u32 0)).setCell ⟨W.heap.size, 2, none⟩ (.int .u32 0)).setCell ⟨W.heap.size, 3, none⟩ (.int .u32 0) := by simp [set4, wd]
  by_cases hn : 1 ≤ n ∧ n ≤ 100
  case neg =>
    have e1 : msN n r K = 0 := if_neg (fun e => hn ⟨e.1, e.2.1⟩)
    have e2 : msE n r = 1 := if_neg hn
    rw [e1, e2]
    rw [decide_eq_false hn] at his
    clear e1 e2
    go_enter Tryz.func17, Tryz.ntmps17
    go_wp2_with (go_at_call 87; (with_reducible refine his.mono ?_); rintro e u ⟨rfl, hu⟩; obtain rfl := hu.symm)
    rw [← e00]
    exact ret4t rfl rfl rfl rfl (fin4 g1 0) ⟨rfl, below4 hb1 (Nat.le_refl _) _⟩
  rw [decide_eq_true hn] at his
  have hrd := h.rd w1 hb1
  cases hr : r with
  | false =>
    subst hr
    have e1 : msN n false K = 0 := if_neg (fun e => by cases e.2.2)
    have e2 : msE n false = 170 := by unfold msE; rw [if_pos hn]; rfl
    rw [e1, e2]
    clear e1 e2
    go_enter Tryz.func17, Tryz.ntmps17
    go_wp2_with (first | (go_at_call 87; (with_reducible refine his.mono ?_); rintro e u ⟨rfl, hu⟩; obtain rfl := hu.symm) | (go_at_call 88; (with_reducible refine hrd.mono ?_); rintro e u ⟨rfl, hu⟩; obtain rfl := hu.symm))
    rw [← e00]
    exact ret4t rfl rfl rfl rfl (fin4 g1 0) ⟨rfl, below4 hb1 (Nat.le_refl _) _⟩
  | true =>
    subst hr
    have e1 : msN n true K = cln (dif (fullN n.toNat) K) := if_pos ⟨hn.1, hn.2, rfl⟩
    have e2 : msE n true = 0 := by unfold msE; rw [if_pos hn]; rfl
    have hfu := full_any n w1
    have e3 : fullV n = .tuple #[sv (fullN n.toNat), .int .i64 0] := if_pos (by omega)
    rw [e3] at hfu
    rw [e1, e2]
    clear e1 e2 e3 e00
    obtain ⟨FN, hFN⟩ : ∃ FN, fullN n.toNat = FN := ⟨_, rfl⟩
    rw [hFN] at hfu ⊢
    clear hFN
    have G1 : Hid (Holds4 w1 W.heap.size (fun _ => 0)) := g1
    clear y0 y1 y2 y3 z0 z1 z2 z3 g1
    simp only [sv] at hfu
    go_enter Tryz.func17, Tryz.ntmps17
    go_wp2_with (first
      | (go_at_call 87; (with_reducible refine his.mono ?_); rintro e u ⟨rfl, hu⟩; obtain rfl := hu.symm)
      | (go_at_call 88; (with_reducible refine hrd.mono ?_); rintro e u ⟨rfl, hu⟩; obtain rfl := hu.symm)
      | (go_at_call 89; (with_reducible refine hfu.mono ?_); rintro e u ⟨rfl, hbu⟩; obtain ⟨u2, hu2⟩ : ∃ u2, u.alloc (.cells #[.int .u32 0, .int .u32 0, .int .u32 0, .int .u32 0] 25) = u2 := ⟨_, rfl⟩; have k0 : W.heap.size < u.heap.size := Nat.lt_of_lt_of_le G1.out.lt hbu.size; have k1 : Hid (Holds4 u2 u.heap.size (fun _ => 0)) := (by rw [← hu2]; exact new_at rfl); have k2 : Hid (Holds4 u2 W.heap.size (fun _ => 0)) := (by rw [← hu2]; exact old_at (G1.out.carry hbu)); have k3 : Hid (Below W.heap.size W u2) := (by rw [← hu2]; exact bel2 (bel2 hb1 hbu) (al1' _ _)))
      | (refine wpList_store_row rfl 25 (.tmp 6) (.tmp 21) rfl u.heap.size (cells4 (wd FN)) rfl rfl 25 _ k1.out infoS rfl (by simp [cells4, Value.oneCell']) ?_; obtain ⟨w4, hw4⟩ : ∃ v, u2.setRow u.heap.size (cells4 (wd FN)) = v := ⟨_, rfl⟩; have j1 : Hid (Holds4 w4 u.heap.size (wd FN)) := (by rw [← hw4]; exact setRow_heap _ _ _ _ _ _ k1.out); have j2 : Hid (Holds4 w4 W.heap.size (fun _ => 0)) := (by rw [← hw4]; exact (setRow_other _ _ _ _ (by omega)).trans k2.out); have j3 : Hid (Below W.heap.size W w4) := (by rw [← hw4]; exact below_row k3.out (by omega) _); rw [hw4]))
    rename_i hK
    refine wp_region_any hmx ?_
    refine wpAny_last2 4 (fun i__ => ([(sv FN), (.pointer p), (sv K), (sv (cln (dif FN K))), undef, (Go.Value.int Go.IntKind.i64 0)] : List Value).getD i__ undef) (fun V => Below w4.heap.size w4 V) (fun V => Holds4 V W.heap.size (wd (cln (dif FN K))) ∧ Below W.heap.size W V) (fun V => Holds4 V W.heap.size (wd (cln (dif FN K))) ∧ Below W.heap.size W V) rfl (by kernel_rfl) (by kernel_rfl) (Below.refl _ _).drew ?_ ?_ ?_  ?_
    · refine (stepsFrom_cons ?_ (stepsFrom_cons ?_ (stepsFrom_cons ?_ (stepsFrom_cons ?_ trivial))))
      · exact step_load rfl trivial _ _ _ rfl rfl (fun v hw => whole4 v _ FN (j1.out.carry hw))
      · exact step_move rfl trivial _ rfl (by kernel_rfl)
      · exact step_call rfl trivial 91 _ _ [(.pointer p)] rfl (by kernel_rfl) (enters_of Tryz.func91 (by kernel_rfl) rfl) (fun v hw => (h.kw v (bel2 j3.out hw)).mono (by rintro e w2 ⟨rfl, hb2⟩; exact ⟨rfl, bel2 hw hb2⟩))
      · exact step_call rfl trivial 90 _ _ [(sv FN), (sv K)] rfl (by kernel_rfl) (enters_of Tryz.func90 (by kernel_rfl) rfl) (fun w hw => (less_any FN K w).mono (by rintro e w' ⟨rfl, hb⟩; exact ⟨rfl, bel2 hw hb⟩))
    · intro o ho
      cases ho
      exact step_store rfl trivial rfl _ _ _ _ _ rfl rfl rfl (fun v hw => ⟨set4 v W.heap.size (cln (dif FN K)), store_s (j2.out.carry hw) _, fin4 (j2.out.carry hw) _, below4 (bel2 j3.out hw) (Nat.le_refl _) _⟩)
    · intro o ho
      cases ho
      exact step_assign rfl trivial _ rfl (by kernel_rfl) (fun _ h => h)
    intro W hW
    first | refine hK _ _ ?_ | refine (‹∀ (a : Act) (w : World), Code.wp Tryz.prog _ _ a w → _›) _ _ ?_
    simp only [finL, List.getD_cons_zero, List.getD_cons_succ, Nat.zero_add, Nat.reduceAdd, List.setIfInBounds_toArray, List.set_cons_zero, List.set_cons_succ]
    clear hK
    go_wp2
    exact ret4t rfl rfl rfl rfl hW.1 ⟨rfl, hW.2⟩
set_option maxHeartbeats 4000000 in
set_option maxRecDepth 100000 in
theorem alive_any (W : World) : Calls Tryz.prog 4 #[] W fun e w' => e = .returned (.bool true) ∧ Below W.heap.size W w' := by
  have hn := new_ok 4 2 0 1 1 (by decide) (by decide) W
  have e1 : sv 1 = .agg #[.int .u32 1, .int .u32 0, .int .u32 0, .int .u32 0] := by kernel_rfl
  have e6 : sv 6 = .agg #[.int .u32 6, .int .u32 0, .int .u32 0, .int .u32 0] := by kernel_rfl
  have e5 : sv 5 = .agg #[.int .u32 5, .int .u32 0, .int .u32 0, .int .u32 0] := by kernel_rfl
  have e8 : sv 8 = .agg #[.int .u32 8, .int .u32 0, .int .u32 0, .int .u32 0] := by kernel_rfl
  have hq := eqn4 5 5 (by decide) (by decide)
  have hq8 := eqn4 8 8 (by decide) (by decide)
  have hT0 : Tv (nwT 4 2 0 1 1) := Tv.new (by decide) (by decide)
  have hf : fate (nwT 4 2 0 1 1) 1 1 6 = 5 := by decide
  have hk : tk (nwT 4 2 0 1 1) 1 1 6 = ⟨4, 2, 1, 3, [1, 6]⟩ := by rfl
  have hms : msN 4 (rdy ⟨4, 2, 1, 3, [1, 6]⟩) (kn ⟨4, 2, 1, 3, [1, 6]⟩) = 8 := by decide
  have hme : msE 4 (rdy ⟨4, 2, 1, 3, [1, 6]⟩) = 0 := by decide
  have hun : unis 0 [1, 4] = 5 := by decide
  have hi5 : ∀ (ad : Option Addr) (V : World), RdS V ad [1, 4] → Calls Tryz.prog 18 #[.slice ad 2 2] V fun e w' => e = .returned (.agg #[.int .u32 5, .int .u32 0, .int .u32 0, .int .u32 0]) ∧ Below V.heap.size V w' := fun ad V h => by
    have := iunion_any ad 2 [1, 4] V h (by decide)
    rw [hun, e5] at this
    exact this
  rw [e1] at hn
  rw [e5] at hq
  rw [e8] at hq8
  go_enter Tryz.func4, Tryz.ntmps4
  go_wp2_with (first
    | (go_at_call 15; (with_reducible refine hn.mono ?_); rintro e u ⟨q, ad, cap, rfl, hT, hb⟩; have htk := take_any hT hT0 hb.size 1 1 6 (by decide); rw [hf, hk, e6] at htk)
    | (go_at_call 16; (with_reducible refine htk.mono ?_); rintro e u2 ⟨rfl, ad2, cap2, hT2, hn2, _⟩; have hmi := missing_any 4 (Pt.of hT2 (by decide)); rw [hms, hme, e8] at hmi; have hbb : Hid (Below W.heap.size W u2) := hb.trans (hT.below hn2))
    | (go_at_call 17; (with_reducible refine hmi.mono ?_); rintro e v ⟨rfl, hbv⟩; have hb3 : Hid (Below W.heap.size W v) := bel2 hbb.out hbv)
    | (go_at_call 18; refine (hi5 _ _ ?_).mono ?_; (exact RdS.lit [1, 4] (get_new (by simp))); rintro e v2 ⟨rfl, hb4⟩; have hb5 : Hid (Below W.heap.size W v2) := bel2 (bel2 (bel2 hb3.out (al1' _ _)) (al1' _ _)) hb4))
  go_ret
  exact ⟨rfl, hb5.out⟩
end
end Go.Proofs.YtgehmidalfajgabGreatDoor
namespace Go.Proofs.YtgehmidalfajgabGreatDoor
open Go.RowKit Go.Shelf

theorem fate_5 {t : Tl} {f r : Int} {N : Nat} : fate t f r N = 5 ↔ isN f t.n = true ∧ wthB N t.n = true ∧ r = t.ro ∧ wthN t.reps f ≠ t.reps ∧ rdy t = false := by
  unfold fate
  by_cases h1 : isN f t.n = false
  · simp [h1]
  by_cases h2 : wthB N t.n = false
  · simp [h1, h2]
  by_cases h3 : r = t.ro
  · by_cases h4 : wthN t.reps f = t.reps
    · simp_all
    · cases h5 : rdy t <;> simp_all
  · simp_all
theorem isN_id {f n : Int} (h : isN f n = true) (hn : n ≤ 100) : 0 ≤ f ∧ f < 100 := by
  simp [isN] at h
  omega
theorem wthN_in {N : Nat} {f : Int} (h : 0 ≤ f ∧ f < 100) (hN : N < S100) : wthN N f = N ||| 2 ^ f.toNat := by
  unfold wthN
  rw [if_pos h, cln_id hN]
theorem wthN_twice {N : Nat} {f : Int} (h : 0 ≤ f ∧ f < 100) (hN : N < S100) : wthN (wthN N f) f = wthN N f := by
  rw [wthN_in h (wthN_lt _ _), wthN_in h hN, Nat.or_assoc, Nat.or_self]
theorem wthN_bit {N : Nat} {f : Int} (h : 0 ≤ f ∧ f < 100) (hN : N < S100) : wthN N f = N ↔ hasB N f = true := by
  rw [wthN_in h hN]
  unfold hasB
  simp only [h, and_self, decide_true, Bool.true_and]
  constructor
  · intro e
    rw [← e, Nat.testBit_or, Nat.testBit_two_pow_self, Bool.or_true]
  · intro e
    apply Nat.eq_of_testBit_eq
    intro i
    rw [Nat.testBit_or]
    by_cases q : f.toNat = i
    · subst q
      rw [e, Bool.true_or]
    · rw [Nat.testBit_two_pow_of_ne q, Bool.or_false]
theorem bit_S100 {N i : Nat} (hN : N < S100) (h : N.testBit i = true) : i < 100 := by
  rcases Nat.lt_or_ge i 100 with q | q
  · exact q
  · have hx : N < 2 ^ i := Nat.lt_of_lt_of_le (show N < 2 ^ 100 from hN) (Nat.pow_le_pow_right (by decide) q)
    rw [Nat.testBit_lt_two_pow hx] at h
    cases h
theorem wthB_bit {N : Nat} {n : Int} (h : wthB N n = true) {i : Nat} (hi : N.testBit i = true) : (i : Int) < n ∧ i < 100 := by
  have e : N = N % 2 ^ topW n := by simpa [wthB] using h
  rw [e, Nat.testBit_mod_two_pow] at hi
  simp only [Bool.and_eq_true, decide_eq_true_eq] at hi
  exact (topW_lt n i).1 hi.1
theorem kn_bit {t : Tl} (h : Tv t) (i : Nat) : (kn t).testBit i = (t.reps.testBit i || (decide (i < 100) && t.hs.any (fun x => x.testBit i))) := unis_bit h.reps _ _
theorem wthN_test {N : Nat} {f : Int} (h : 0 ≤ f ∧ f < 100) (hN : N < S100) (i : Nat) : (wthN N f).testBit i = (N.testBit i || decide (f.toNat = i)) := by
  rw [wthN_in h hN, Nat.testBit_or, Nat.testBit_two_pow]
/-- What is known, behind a reply that counts. -/
theorem kn_cnt {t : Tl} (h : Tv t) {f r : Int} {N : Nat} (hN : N < S128) (h5 : fate t f r N = 5) : kn (cntT t f N) = cln (cln (kn t ||| N)) ||| 2 ^ f.toNat := by
  have h5' := fate_5.1 h5
  have hf := isN_id h5'.1 h.n1
  apply Nat.eq_of_testBit_eq
  intro i
  have e1 := kn_bit (h.count hN h5) i
  have e2 := kn_bit h i
  rw [e1]
  show ((wthN t.reps f).testBit i || (decide (i < 100) && (t.hs ++ [N]).any (fun x => x.testBit i))) = _
  rw [wthN_test hf h.reps, Nat.testBit_or, testBit_cln, testBit_cln, Nat.testBit_or, e2, Nat.testBit_two_pow, List.any_append]
  have hr : t.reps.testBit i = true → i < 100 := bit_S100 h.reps
  cases h1 : t.reps.testBit i <;> cases h2 : decide (i < 100) <;> cases h3 : decide (f.toNat = i) <;> simp_all
theorem kn_new {n f self ro : Int} {N : Nat} (hN : N < S128) (h : nwE n f self ro N = 0) : kn (nwT n f self ro N) = cln (cln (N ||| 0)) ||| 2 ^ self.toNat := by
  have hv := Tv.new hN h
  obtain ⟨h1, h2, h3, h4, h5, _⟩ := nw_ok h
  have hf := isN_id h5 h2
  apply Nat.eq_of_testBit_eq
  intro i
  rw [kn_bit hv i]
  show ((wthN 0 self).testBit i || (decide (i < 100) && ([] ++ [N]).any (fun x => x.testBit i))) = _
  rw [wthN_test hf (by decide), Nat.testBit_or, testBit_cln, testBit_cln, Nat.or_zero, Nat.testBit_two_pow]
  cases h2 : decide (i < 100) <;> cases h3 : decide (self.toNat = i) <;> simp_all
/-- All that is known is below n. -/
def Kin (t : Tl) : Prop := ∀ i, (kn t).testBit i = true → (i : Int) < t.n
theorem Kin.new {n f self ro : Int} {N : Nat} (hN : N < S128) (h : nwE n f self ro N = 0) : Kin (nwT n f self ro N) := by
  intro i hi
  obtain ⟨h1, h2, h3, h4, h5, _, _, h8⟩ := nw_ok h
  rw [kn_new hN h, Nat.testBit_or, testBit_cln, testBit_cln, Nat.or_zero, Nat.testBit_two_pow] at hi
  show (i : Int) < n
  simp only [Bool.or_eq_true, Bool.and_eq_true, decide_eq_true_eq] at hi
  simp only [isN, decide_eq_true_eq] at h5
  rcases hi with hi | hi
  · exact (wthB_bit h8 hi.2.2).1
  · omega
theorem Kin.step {t : Tl} (hk : Kin t) (h : Tv t) {f r : Int} {N : Nat} (hN : N < S128) : Kin (tk t f r N) := by
  unfold tk
  split
  · next h5 =>
    intro i hi
    have h5' := fate_5.1 h5
    rw [kn_cnt h hN h5, Nat.testBit_or, testBit_cln, testBit_cln, Nat.testBit_or, Nat.testBit_two_pow] at hi
    show (i : Int) < t.n
    have h6 := h5'.1
    simp only [Bool.or_eq_true, Bool.and_eq_true, decide_eq_true_eq] at hi
    simp only [isN, decide_eq_true_eq] at h6
    rcases hi with ⟨_, _, hi | hi⟩ | hi
    · exact hk i hi
    · exact (wthB_bit h5'.2.1 hi).1
    · omega
  · exact hk
theorem full_bit (n i : Nat) : (fullN n).testBit i = decide (i < n) := by
  unfold fullN
  exact Nat.testBit_two_pow_sub_one n i
/-- What is missing, and what is known. -/
theorem ms_union {t : Tl} (hk : Kin t) (h : Tv t) (h1 : 1 ≤ t.n) : cln (cln (dif (fullN t.n.toNat) (kn t)) ||| kn t) = fullN t.n.toNat := by
  have hn := h.n1
  apply Nat.eq_of_testBit_eq
  intro i
  rw [testBit_cln, Nat.testBit_or, testBit_cln, testBit_dif, full_bit]
  have hki := hk i
  cases h2 : (kn t).testBit i
  · by_cases h3 : i < t.n.toNat
    · simp [h3, show i < 100 by omega]
    · simp [h3]
  · have := hki h2
    have h3 : i < t.n.toNat := by omega
    simp [h3, show i < 100 by omega]
theorem ms_meet {t : Tl} : cln (cln (dif (fullN t.n.toNat) (kn t)) &&& kn t) = 0 := by
  apply Nat.eq_of_testBit_eq
  intro i
  rw [testBit_cln, Nat.testBit_and, testBit_cln, testBit_dif, Nat.zero_testBit]
  cases (kn t).testBit i <;> simp
theorem msN_lt (n : Int) (r : Bool) (K : Nat) : msN n r K < S100 := by
  unfold msN
  split
  · exact cln_lt _
  · decide
section
variable {W V : World} {B q : Nat} {ad ad' : Option Addr} {cap : Nat} {t : Tl}
/-- A box of one's own abides while a reply is taken. -/
theorem tn_box {bs : Nat} {c : Nat → Nat} (hT : Ta W B q ad cap t) (hn : Tn q (ob ad) (ob ad') W V) (h : Holds4 W bs c) (hne : ob ad ≠ some bs) : Holds4 V bs c ∧ ob ad' ≠ some bs := by
  refine ⟨(hn.block bs h.lt (fun e => ?_) (fun e => hne e.symm)).trans h, fun e => ?_⟩
  · subst e
    have h1 : W.heap[bs]? = some (.cells (cells4 c) 25 (0, 0)) := h
    have := h1.symm.trans hT.obj
    simp only [Option.some.injEq, Obj.cells.injEq] at this
    exact absurd this.2.1 (by decide)
  · rcases hn.own with k | k
    · exact hne (k.symm.trans e)
    · have h1 := k bs e
      have h2 := h.lt
      omega
end
section
variable {P : Program} {md : Region.Mode} {ops : Array Oper} {Q : Exit → Act → World → Prop} {X0 : Array Value} {val : Nat → Value} {J : World → Prop} {i : Nat} {o : Oper}
theorem step_bld0 (hi : ops[i]? = some o) (hg : GOk md ops X0 val i o) (t : TypeId) (ho : o.op = .build t #[]) (hr : ∀ w, J w → (Instr.build t #[]).run P w = .ok (val i) w) : StepAt P md ops Q X0 val J J i o :=
  step_of hi hg fun a w hJ hS => by
    unfold Oper.wp execOp
    simp only [ho, List.map_toArray, List.map_nil, Sem.run_bind, hr w hJ, Result.andThen_ok, Sem.run_pure, Oper.upon_value]
    exact ⟨trivial, hJ⟩
end
theorem bld0_set (w : World) : (Instr.build 25 #[]).run Tryz.prog w = .ok (sv 0) w := by
  have e0 : sv 0 = .agg #[.int .u32 0, .int .u32 0, .int .u32 0, .int .u32 0] := by kernel_rfl
  rw [e0]
  go_simp
end Go.Proofs.YtgehmidalfajgabGreatDoor
namespace Go.Proofs.YtgehmidalfajgabGreatDoor

/-- Doubts of a book: each of another node, of which the book has the mistake at that tag. -/
structure Dok (L D : List N3) : Prop where
  each : ∀ d ∈ D, ∃ (i : Nat) (t : Int), d = ((i : Int), t, 2) ∧ L[i]? = some ((i : Int), t, 1)
  apart : D.Pairwise (fun a b => a.1 ≠ b.1)
theorem dbF_some {L : List N3} (hb : Bok L) {i : Nat} {d : N3} (h : dbF L i = some d) : ∃ t, d = ((i : Int), t, 2) ∧ L[i]? = some ((i : Int), t, 1) := by
  unfold dbF at h
  cases hx : L[i]? with
  | none => rw [hx] at h; cases h
  | some x =>
    rw [hx] at h
    have hx1 := (hb i x hx).1
    obtain ⟨a, t, k⟩ := x
    dsimp only at h hx1
    split at h
    · next hk =>
      subst hk hx1
      cases h
      exact ⟨t, rfl, rfl⟩
    · cases h
theorem dbF_none {L : List N3} {i : Nat} (h : L[i]? = none) : dbF L i = none := by
  unfold dbF
  rw [h]
theorem dbF_at {L : List N3} {i : Nat} {x : N3} (h : L[i]? = some x) : dbF L i = if x.2.2 = 1 then some ((i : Int), x.2.1, 2) else none := by
  unfold dbF
  rw [h]
theorem dbs_ok {L : List N3} (hb : Bok L) {ids : List Nat} (hn : ids.Nodup) : Dok L (dbs L ids) := by
  refine ⟨fun d hd => ?_, ?_⟩
  · obtain ⟨i, _, hi⟩ := List.mem_filterMap.1 hd
    obtain ⟨t, h1, h2⟩ := dbF_some hb hi
    exact ⟨i, t, h1, h2⟩
  · unfold dbs
    rw [List.pairwise_filterMap]
    refine List.Pairwise.imp ?_ hn
    intro a b hab x hx y hy e
    obtain ⟨_, rfl, _⟩ := dbF_some hb hx
    obtain ⟨_, rfl, _⟩ := dbF_some hb hy
    have e' : (a : Int) = (b : Int) := e
    exact hab (by omega)
theorem ids_nodup (M n : Nat) : (idsTo M n).Nodup := List.Pairwise.filter _ List.nodup_range
theorem dbs_count {L : List N3} {n : Nat} (hl : L.length = n) (hn : n ≤ 128) (M : Nat) : (dbs L (idsTo M 128)).length = (List.range n).countP (fun i => M.testBit i && (dbF L i).isSome) := by
  unfold dbs idsTo
  rw [List.length_filterMap_eq_countP, List.countP_filter]
  have e : List.range 128 = List.range n ++ (List.range (128 - n)).map (fun i => n + i) := by
    rw [← List.range_add]
    congr 1
    omega
  rw [e, List.countP_append]
  have z : ((List.range (128 - n)).map (fun i => n + i)).countP (fun a => (dbF L a).isSome && M.testBit a) = 0 := by
    rw [List.countP_eq_zero]
    intro a ha
    obtain ⟨i, _, rfl⟩ := List.mem_map.1 ha
    rw [dbF_none (List.getElem?_eq_none (by omega))]
    simp
  rw [z, Nat.add_zero]
  congr 1
  funext i
  exact Bool.and_comm _ _
/-- Whether a node is doubted. -/
def isD (D : List N3) (o : Int) : Bool := D.any (fun d => decide (d.1 = o))
/-- The book in which these doubts were taken. -/
def upF (L D : List N3) : List N3 := L.map (fun x => if isD D x.1 = true then (x.1, x.2.1, 2) else x)
theorem upF_len (L D : List N3) : (upF L D).length = L.length := by simp [upF]
theorem upF_nil (L : List N3) : upF L [] = L := by
  unfold upF isD
  simp
theorem upF_get (L D : List N3) (i : Nat) (x : N3) (h : L[i]? = some x) : (upF L D)[i]? = some (if isD D x.1 = true then (x.1, x.2.1, 2) else x) := by
  simp [upF, h]
theorem upF_bok {L D : List N3} (hb : Bok L) : Bok (upF L D) := by
  intro i y hy
  cases hx : L[i]? with
  | none =>
    have : (upF L D)[i]? = none := by simp [upF, hx]
    rw [this] at hy
    cases hy
  | some x =>
    rw [upF_get L D i x hx] at hy
    obtain ⟨h1, h2⟩ := hb i x hx
    split at hy
    · cases hy
      refine ⟨h1, ?_⟩
      have := rk_ok.1 h2
      exact rk_ok.2 ⟨this.1, this.2.1, .inr rfl⟩
    · cases hy
      exact ⟨h1, h2⟩
section
variable {L D : List N3} {k : Nat} {d : N3}
/-- What is looked at and taken in a round. -/
theorem Dok.round (h : Dok L D) (hb : Bok L) (h1 : L.length ≤ 100) (hk : D[k]? = some d) : ∃ (i : Nat) (t : Int), d = ((i : Int), t, 2) ∧ i < L.length ∧ (upF L (D.take k))[i]? = some ((i : Int), t, 1) ∧ vlx (upF L (D.take k)).length d = true ∧ bat (upF L (D.take k)) d = true ∧ tke (upF L (D.take k)) d = upF L (D.take (k + 1)) := by
  obtain ⟨i, t, rfl, hL⟩ := h.each d (List.mem_of_getElem? hk)
  have hi : i < L.length := (List.getElem?_eq_some_iff.1 hL).1
  have hr := rk_ok.1 (hb i _ hL).2
  dsimp only at hr
  have hne : isD (D.take k) (i : Int) = false := by
    unfold isD
    rw [List.any_eq_false]
    intro e he
    have he' : e.1 ≠ (i : Int) := by
      obtain ⟨j, hj⟩ := List.getElem?_of_mem he
      rw [List.getElem?_take] at hj
      split at hj
      · next hjk =>
        have := (List.pairwise_iff_getElem.1 h.apart) j k (List.getElem?_eq_some_iff.1 hj).1 (List.getElem?_eq_some_iff.1 hk).1 hjk
        rw [(List.getElem?_eq_some_iff.1 hj).2, (List.getElem?_eq_some_iff.1 hk).2] at this
        exact this
      · cases hj
    simpa using he'
  have hg := upF_get L (D.take k) i _ hL
  rw [if_neg (by rw [hne]; decide)] at hg
  have hv : vlx (upF L (D.take k)).length ((i : Int), t, 2) = true := by
    rw [upF_len]
    exact vlx_iff.2 ⟨by omega, h1, by simp, by simpa using hi, rk_ok.2 ⟨hr.1, hr.2.1, .inr rfl⟩⟩
  have hbt : bat (upF L (D.take k)) ((i : Int), t, 2) = true := by
    unfold bat
    rw [show ((i : Int), t, (2 : Int)).1.toNat = i by simp, hg]
    show btx ((i : Int), t, 2) ((i : Int), t, 1) = true
    unfold btx bt
    have q : ¬ (t < 0 ∨ 1048576 < t) := by omega
    simp only [rk_m q, rk_s q]
    simp
    omega
  refine ⟨i, t, rfl, hi, hg, hv, hbt, ?_⟩
  unfold tke
  rw [if_pos hv]
  unfold rse
  rw [if_pos hbt]
  have e : D.take (k + 1) = D.take k ++ [((i : Int), t, 2)] := by rw [List.take_add_one, hk]; rfl
  apply List.ext_getElem?
  intro j
  rw [show ((i : Int), t, (2 : Int)).1.toNat = i by simp, List.getElem?_set]
  by_cases hij : i = j
  · subst hij
    rw [if_pos rfl, if_pos (by rw [upF_len]; exact hi), upF_get L (D.take (k + 1)) i _ hL, if_pos]
    rw [e]
    simp [isD]
  · rw [if_neg hij]
    cases hx : L[j]? with
    | none =>
      have e1 : (upF L (D.take k))[j]? = none := by simp [upF, hx]
      have e2 : (upF L (D.take (k + 1)))[j]? = none := by simp [upF, hx]
      rw [e1, e2]
    | some x =>
      have hx1 := (hb j x hx).1
      rw [upF_get L _ j x hx, upF_get L _ j x hx]
      have e3 : isD (D.take (k + 1)) x.1 = isD (D.take k) x.1 := by
        rw [e]
        unfold isD
        rw [List.any_append]
        have : ¬ (i : Int) = x.1 := by rw [hx1]; omega
        simp [this]
      rw [e3]
end
/-- Whom the doubts are of. -/
theorem isD_dbs {L : List N3} (hb : Bok L) (ids : List Nat) {i : Nat} {x : N3} (hx : L[i]? = some x) : isD (dbs L ids) (i : Int) = (decide (i ∈ ids) && decide (x.2.2 = 1)) := by
  unfold isD
  rw [Bool.eq_iff_iff, List.any_eq_true, Bool.and_eq_true, decide_eq_true_eq, decide_eq_true_eq]
  constructor
  · rintro ⟨d, hd, he⟩
    obtain ⟨j, hj, hjd⟩ := List.mem_filterMap.1 hd
    obtain ⟨t, rfl, hL⟩ := dbF_some hb hjd
    have he' : (j : Int) = (i : Int) := by simpa using he
    obtain rfl : j = i := by omega
    rw [hx] at hL
    cases hL
    exact ⟨hj, rfl⟩
  · rintro ⟨h1, h2⟩
    refine ⟨((i : Int), x.2.1, 2), List.mem_filterMap.2 ⟨i, h1, ?_⟩, by simp⟩
    unfold dbF
    rw [hx]
    simp [h2]
/-- Behind all doubts: who is suspected; that nobody is doubted any more. -/
theorem up_sus {L : List N3} (hb : Bok L) (h1 : L.length ≤ 100) (M : Nat) : sus (upF L (dbs L (idsTo (cln M) 128))) = cln (sus L ||| cln (M &&& fullN L.length)) := by
  apply Nat.eq_of_testBit_eq
  intro i
  rw [testBit_cln, Nat.testBit_or, testBit_cln, Nat.testBit_and, full_bit]
  by_cases hi : i < L.length
  · obtain ⟨x, hx⟩ : ∃ x, L[i]? = some x := ⟨_, List.getElem?_eq_getElem hi⟩
    have hx1 := (hb i x hx).1
    have hk := (rk_ok.1 (hb i x hx).2).2.2
    rw [sus_bit (upF_bok hb) (upF_get L _ i x hx), sus_bit hb hx, hx1, isD_dbs hb _ hx]
    have hm : decide (i ∈ idsTo (cln M) 128) = M.testBit i := by
      rw [Bool.eq_iff_iff, decide_eq_true_eq, mem_idsTo, testBit_cln]
      have q1 : i < 100 := by omega
      have q2 : i < 128 := by omega
      simp [q1, q2]
    rw [hm]
    have h100 : i < 100 := by omega
    rcases hk with hk | hk <;> cases hb2 : M.testBit i <;> simp [hk, hi, h100]
  · rw [sus_hi (upF_bok hb) (by rw [upF_len]; omega), sus_hi hb (by omega)]
    simp [hi]
theorem up_dbs {L : List N3} (hb : Bok L) (ids : List Nat) : dbs (upF L (dbs L ids)) ids = [] := by
  unfold dbs
  rw [List.filterMap_eq_nil_iff]
  intro i hi
  cases hx : L[i]? with
  | none =>
    exact dbF_none (show (upF L (List.filterMap (dbF L) ids))[i]? = none by simp [upF, hx])
  | some x =>
    have hx1 := (hb i x hx).1
    have hk := (rk_ok.1 (hb i x hx).2).2.2
    have hg := upF_get L (dbs L ids) i x hx
    rw [hx1, isD_dbs hb _ hx] at hg
    rw [dbF_at (show (upF L (List.filterMap (dbF L) ids))[i]? = _ from hg)]
    rcases hk with hk | hk <;> simp [hi, hk]
end Go.Proofs.YtgehmidalfajgabGreatDoor
