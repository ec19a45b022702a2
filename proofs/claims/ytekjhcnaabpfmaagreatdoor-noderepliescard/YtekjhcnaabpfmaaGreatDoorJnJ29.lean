import Derived.Test.YtekjhcnaabpfmaaGreatDoorJnJ28
import Derived.Test.YtekjhcnaabpfmaaGreatDoorJnJ6
import Derived.Test.YtekjhcnaabpfmaaGreatDoorJnJ7
set_option maxHeartbeats 40000000
set_option maxRecDepth 100000
set_option linter.unusedVariables false
namespace Go.Proofs.YtekjhcnaabpfmaaGreatDoor
open Go.RowKit Go.Shelf
def unis (H : Nat) (l : List Nat) : Nat := l.foldl (fun a b => cln (a ||| b)) H
theorem unis_append (H : Nat) (a b : List Nat) : unis H (a ++ b) = unis (unis H a) b := List.foldl_append
theorem unis_succ (H : Nat) (l : List Nat) (k x : Nat) (h : l[k]? = some x) : unis H (l.take (k + 1)) = cln (unis H (l.take k) ||| x) := by
 have e : l.take (k + 1) = l.take k ++ [x] := by rw [List.take_add_one, h]; rfl
 rw [e, unis_append]
 rfl
theorem fold_any (ad : Option Addr) (cap : Nat) (l : List Nat) (H : Nat) (w : World) (h : RdS w ad l) (hl : l.length ≤ 4611686018427387904) :
  Calls Tryz.prog 131 #[.slice ad l.length cap, sv H, .func (.func 133) #[] #[]] w fun e w' => e = .returned (sv (unis H l)) ∧ Below w.heap.size w w' := by
 obtain ⟨w1, hw1⟩ : ∃ w1, w.alloc (.cells #[.int .u32 (wd H 0 : Nat), .int .u32 (wd H 1 : Nat), .int .u32 (wd H 2 : Nat), .int .u32 (wd H 3 : Nat)] 35) = w1 := ⟨_, rfl⟩
 obtain ⟨w2, hw2⟩ : ∃ w2, w1.alloc (.cells #[.int .u32 0, .int .u32 0, .int .u32 0, .int .u32 0] 35) = w2 := ⟨_, rfl⟩
 have hb1 : Below w.heap.size w w1 := by rw [← hw1]; exact al1' _ _
 have hb2 : Below w.heap.size w w2 := by rw [← hw2]; exact bel2 hb1 (al1' _ _)
 have hs1 : w1.heap.size = w.heap.size + 1 := by rw [← hw1]; simp
 have hs2 : w2.heap.size = w.heap.size + 2 := by rw [← hw2]; simp [hs1]
 have g1 : Zh4 w2 w.heap.size (wd H) := by rw [← hw2]; exact zoa (by rw [← hw1]; exact zna rfl)
 have g2 : Zh4 w2 (w.heap.size + 1) (fun _ => 0) := by rw [← hw2]; rw [← hs1]; exact zna rfl
 have hu := union_any
 obtain ⟨R, hR⟩ : ∃ R, unis H l = R := ⟨_, rfl⟩
 rw [hR]
 simp only [sv] at hu ⊢
 go_enter Tryz.func131, Tryz.ntmps131
 go_wp2
 go_loopw [11] (fun c wz => ∃ k : Nat, c = .int .i64 k ∧ k ≤ l.length ∧ Zh4 wz w.heap.size (wd (unis H (l.take k))) ∧ Zh4 wz (w.heap.size + 1) (fun _ => 0) ∧ Below w.heap.size w wz) (fun c _ => l.length - vnat c)
 case atStart => exact ⟨0, rfl, Nat.zero_le _, g1, g2, hb2⟩
 case round =>
  obtain ⟨k, rfl, hk, q1, q2, hbw⟩ := hrel
  by_cases hkl : k < l.length
  · have hki : (k : Int) < (l.length : Int) := by omega
    have hne : l ≠ [] := fun e => by subst e; simp at hkl
    obtain ⟨b, off, rfl, hgl, hat⟩ := h hne
    obtain ⟨x, hx⟩ : ∃ x, l[k]? = some x := ⟨_, List.getElem?_eq_getElem hkl⟩
    have hix := idx_s b off l.length cap k hkl
    obtain ⟨c0, c1, c2, c3⟩ := (hat.carry (hbw.block _ hgl)) k x hx
    have hes := unis_succ H l k x hx
    generalize unis H (l.take k) = M at *
    obtain ⟨M2, hM2⟩ : ∃ M2, unis H (l.take (k + 1)) = M2 := ⟨_, rfl⟩
    have HM2 : Hid (unis H (l.take (k + 1)) = M2) := hM2
    rw [hM2] at hes
    clear hM2
    obtain ⟨w3, hw3⟩ : ∃ w3, wr.alloc (.cells #[.int .u32 0, .int .u32 0, .int .u32 0, .int .u32 0] 35) = w3 := ⟨_, rfl⟩
    have hz : (w.heap.size + 1) < wr.heap.size := q2.lt
    have g3 : Hid (Zh4 w3 wr.heap.size (fun _ => 0)) := by rw [← hw3]; exact zna rfl
    have g4 : Hid (Zh4 w3 w.heap.size (wd M)) := by rw [← hw3]; exact zoa q1
    have g5 : Hid (Zh4 w3 (w.heap.size + 1) (fun _ => 0)) := by rw [← hw3]; exact zoa q2
    have hb3 : Hid (Below w.heap.size w w3) := by rw [← hw3]; exact hbw.trans ((al1' _ _).mono hbw.size)
    have hhu := hu M x
    rw [← hes] at hhu
    clear hes
    go_wp2_with (first
     | (refine wpList_store_row rfl 35 (.tmp 8) (.tmp 14) rfl wr.heap.size (cells4 (wd x)) rfl rfl 35 _ g3.out infoS rfl (by simp [cells4, Value.oneCell']) ?_; obtain ⟨w4, hw4⟩ : ∃ v, w3.setRow wr.heap.size (cells4 (wd x)) = v := ⟨_, rfl⟩; have k1 : Hid (Zh4 w4 wr.heap.size (wd x)) := (by rw [← hw4]; exact setRow_heap _ _ _ _ _ _ g3.out); have k2 : Hid (Zh4 w4 w.heap.size (wd M)) := (by rw [← hw4]; exact (setRow_other _ _ _ _ (by omega)).trans g4.out); have k3 : Hid (Zh4 w4 (w.heap.size + 1) (fun _ => 0)) := (by rw [← hw4]; exact (setRow_other _ _ _ _ (by omega)).trans g5.out); have k4 : Hid (Below w.heap.size w w4) := (by rw [← hw4]; exact below_row hb3.out (by omega) _); rw [hw4])
     | (refine wpList_load_row rfl 35 (.tmp 4) rfl w.heap.size rfl 35 _ (0, 0) _ k2.out Tryz.underlying35 rfl infoS ?_)
     | (refine wpList_load_row rfl 35 (.tmp 8) rfl wr.heap.size rfl 35 _ (0, 0) _ k1.out Tryz.underlying35 rfl infoS ?_)
     | (go_at_call 133; refine (hhu _).mono ?_; rintro e u ⟨rfl, hb⟩; have j2 := k2.out.carry hb; have j3 := k3.out.carry hb; have j4 := k4.out.trans (hb.mono k4.out.size))
     | (refine wpList_store_row rfl 35 (.tmp 4) (.tmp 18) rfl w.heap.size (cells4 (wd M2)) rfl rfl 35 _ j2 infoS rfl (by simp [cells4, Value.oneCell']) ?_))
    go_roundw
    case rel => exact ⟨k + 1, by simp, by omega, by rw [HM2.out]; exact setRow_heap _ _ _ _ _ _ j2, (setRow_other _ _ _ _ (by omega)).trans j3, below_row j4 (Nat.le_refl _) _⟩
    case measure => simp [vnat]; omega
  · have hkk : k = l.length := by omega
    subst hkk
    rw [List.take_length, hR] at q1
    have hki : ¬ ((l.length : Int) < (l.length : Int)) := by omega
    go_wp2_with (first
     | (refine wpList_load_row rfl 35 (.tmp 4) rfl w.heap.size rfl 35 _ (0, 0) _ q1 Tryz.underlying35 rfl infoS ?_)
     | (refine wpList_store_row rfl 35 (.tmp 6) (.tmp 20) rfl (w.heap.size + 1) (cells4 (wd R)) rfl rfl 35 _ q2 infoS rfl (by simp [cells4, Value.oneCell']) ?_; obtain ⟨w4, hw4⟩ : ∃ v, wr.setRow (w.heap.size + 1) (cells4 (wd R)) = v := ⟨_, rfl⟩; have g6 : Hid (Zh4 w4 (w.heap.size + 1) (wd R)) := (by rw [← hw4]; exact setRow_heap _ _ _ _ _ _ q2); have hb4 : Hid (Below w.heap.size w w4) := (by rw [← hw4]; exact below_row hbw (by omega) _); rw [hw4]))
    exact ret4 rfl rfl rfl g6.out ⟨rfl, hb4.out⟩
def kn (t : Tl) : Nat := unis t.reps t.hs
section
variable {w W V : World} {base q : Nat} {ad : Option Addr} {cap : Nat} {t : Tl}
theorem known_any (h : Ta W base q ad cap t) (hl : t.hs.length ≤ 100000) : Calls Tryz.prog 98 #[.pointer (some ⟨q, 0, none⟩)] W fun e w' => e = .returned (sv (kn t)) ∧ Below W.heap.size W w' := by
 obtain ⟨w1, hw1⟩ : ∃ w1, W.alloc (.cells #[.int .u32 0, .int .u32 0, .int .u32 0, .int .u32 0] 35) = w1 := ⟨_, rfl⟩
 have hb1 : Below W.heap.size W w1 := by rw [← hw1]; exact al1' _ _
 have g1 : Zh4 w1 W.heap.size (fun _ => 0) := by rw [← hw1]; exact zna rfl
 have hh := heards_any (h.carry hb1) hl
 obtain ⟨M, hM⟩ : ∃ M, kn t = M := ⟨_, rfl⟩
 have HM : Hid (unis t.reps t.hs = M) := hM
 rw [hM]
 clear hM
 simp only [sv]
 go_enter Tryz.func98, Tryz.ntmps98
 go_wp2_with (first
  | (go_at_call 132; (with_reducible refine hh.mono ?_); rintro e u ⟨a, c, rfl, ho, hb⟩; have hT2 := (h.carry hb1).carry hb; have hre := reps_any hT2; have hrd := RdS.own ho; simp only [sv] at hre)
  | (go_at_call 32; (with_reducible refine hre.mono ?_); rintro e v ⟨rfl, hbv⟩; have hf := fold_any a c t.hs t.reps v (hrd.carry hbv) (by omega); rw [HM.out] at hf; simp only [sv] at hf)
  | (go_at_call 131; (with_reducible refine hf.mono ?_); rintro e v2 ⟨rfl, hb2⟩; have hbb : Below W.heap.size W v2 := bel2 (bel2 (bel2 hb1 hb) hbv) hb2; have g2 : Zh4 v2 W.heap.size (fun _ => 0) := ((g1.carry hb).carry hbv).carry hb2)
  | (refine wpList_store_row rfl 35 (.tmp 2) (.tmp 7) rfl W.heap.size (cells4 (wd M)) rfl rfl 35 _ g2 infoS rfl (by simp [cells4, Value.oneCell']) ?_; obtain ⟨w4, hw4⟩ : ∃ v, v2.setRow W.heap.size (cells4 (wd M)) = v := ⟨_, rfl⟩; have g6 : Hid (Zh4 w4 W.heap.size (wd M)) := (by rw [← hw4]; exact setRow_heap _ _ _ _ _ _ g2); have hb4 : Hid (Below W.heap.size W w4) := (by rw [← hw4]; exact below_row hbb (Nat.le_refl _) _); rw [hw4]))
 exact ret4 rfl rfl rfl g6.out ⟨rfl, hb4.out⟩
theorem isSize_any (n : Int) (W : World) : Calls Tryz.prog 156 #[.int .i64 n] W fun e w' => e = .returned (.bool (decide (1 ≤ n ∧ n ≤ 100))) ∧ w' = W := by
  go_enter Tryz.func156, Tryz.ntmps156
  go_wp2
  all_goals
    go_ret
    refine ⟨ret_bool ?_, rfl⟩
    first
    | (have h : 1 ≤ n := by omega
       simp [h])
    | (have h : ¬ 1 ≤ n := by omega
       simp [h])
def msE (n : Int) (r : Bool) : Int := if 1 ≤ n ∧ n ≤ 100 then (if r = true then 0 else 170) else 1
def msN (n : Int) (r : Bool) (K : Nat) : Nat := if 1 ≤ n ∧ n ≤ 100 ∧ r = true then cln (dif (fullN n.toNat) K) else 0
theorem store_s {W : World} {b : Nat} {c : Nat → Nat} (h : Zh4 W b c) (M : Nat) : (Instr.storeAt 35 (.pointer (some ⟨b, 0, none⟩)) (sv M)).run Tryz.prog W = .ok () (set4 W b M) := by
 obtain ⟨y0, y1, y2, y3, z0, z1, z2, z3⟩ := h.facts
 unfold sv set4
 go_simp
structure Pt (W : World) (p : Value) (r : Bool) (K : Nat) : Prop where
 rd : ∀ V, Below W.heap.size W V → Calls Tryz.prog 49 #[p] V fun e w' => e = .returned (.bool r) ∧ w' = V
 kw : ∀ V, Below W.heap.size W V → Calls Tryz.prog 98 #[p] V fun e w' => e = .returned (sv K) ∧ Below V.heap.size V w'
theorem Pt.of (h : Ta W base q ad cap t) (hl : t.hs.length ≤ 100000) : Pt W (.pointer (some ⟨q, 0, none⟩)) (rdy t) (kn t) := ⟨fun _ hb => ready_any (h.carry hb), fun _ hb => known_any (h.carry hb) hl⟩
theorem missing_any (n : Int) {p : Option Addr} {r : Bool} {K : Nat} (h : Pt W (.pointer p) r K) : Calls Tryz.prog 134 #[.int .i64 n, .pointer p] W fun e w' => e = .returned (.tuple #[sv (msN n r K), .int .i64 (msE n r)]) ∧ Below W.heap.size W w' := by
 have hmx := mixO
 obtain ⟨w1, hw1⟩ : ∃ w1, W.alloc (.cells #[.int .u32 0, .int .u32 0, .int .u32 0, .int .u32 0] 35) = w1 := ⟨_, rfl⟩
 have hb1 : Below W.heap.size W w1 := by rw [← hw1]; exact al1' _ _
 have hs1 : w1.heap.size = W.heap.size + 1 := by rw [← hw1]; simp
 have g1 : Zh4 w1 W.heap.size (fun _ => 0) := by rw [← hw1]; exact zna rfl
 obtain ⟨y0, y1, y2, y3, z0, z1, z2, z3⟩ := g1.facts
 have his := isSize_any n w1
 have e00 : set4 w1 W.heap.size 0 = (((w1.setCell ⟨W.heap.size, 0, none⟩ (.int .u32 0)).setCell ⟨W.heap.size, 1, none⟩ (.int .u32 0)).setCell ⟨W.heap.size, 2, none⟩ (.int .u32 0)).setCell ⟨W.heap.size, 3, none⟩ (.int .u32 0) := by simp [set4, wd]
 by_cases hn : 1 ≤ n ∧ n ≤ 100
 case neg =>
  have e1 : msN n r K = 0 := if_neg (fun e => hn ⟨e.1, e.2.1⟩)
  have e2 : msE n r = 1 := if_neg hn
  rw [e1, e2]
  rw [decide_eq_false hn] at his
  clear e1 e2
  go_enter Tryz.func134, Tryz.ntmps134
  go_wp2_with (go_at_call 156; (with_reducible refine his.mono ?_); rintro e u ⟨rfl, hu⟩; obtain rfl := hu.symm)
  rw [← e00]
  exact ret4t rfl rfl rfl rfl (fin4 g1 0) ⟨rfl, below4 hb1 (Nat.le_refl _) _⟩
 rw [decide_eq_true hn] at his
 have hrd := h.rd w1 hb1
 cases hr : r with
 | false =>
  subst hr
  have e1 : msN n false K = 0 := if_neg (fun e => by cases e.2.2)
  have e2 : msE n false = 170 := by unfold msE; rw [if_pos hn]; rfl
  rw [e1, e2]
  clear e1 e2
  go_enter Tryz.func134, Tryz.ntmps134
  go_wp2_with (first | (go_at_call 156; (with_reducible refine his.mono ?_); rintro e u ⟨rfl, hu⟩; obtain rfl := hu.symm) | (go_at_call 49; (with_reducible refine hrd.mono ?_); rintro e u ⟨rfl, hu⟩; obtain rfl := hu.symm))
  rw [← e00]
  exact ret4t rfl rfl rfl rfl (fin4 g1 0) ⟨rfl, below4 hb1 (Nat.le_refl _) _⟩
 | true =>
  subst hr
  have e1 : msN n true K = cln (dif (fullN n.toNat) K) := if_pos ⟨hn.1, hn.2, rfl⟩
  have e2 : msE n true = 0 := by unfold msE; rw [if_pos hn]; rfl
  have hfu := full_any n w1
  have e3 : fullV n = .tuple #[sv (fullN n.toNat), .int .i64 0] := if_pos (by omega)
  rw [e3] at hfu
  rw [e1, e2]
  clear e1 e2 e3 e00
  obtain ⟨FN, hFN⟩ : ∃ FN, fullN n.toNat = FN := ⟨_, rfl⟩
  rw [hFN] at hfu ⊢
  clear hFN
  have G1 : Hid (Zh4 w1 W.heap.size (fun _ => 0)) := g1
  clear y0 y1 y2 y3 z0 z1 z2 z3 g1
  simp only [sv] at hfu
  go_enter Tryz.func134, Tryz.ntmps134
  go_wp2_with (first
    | (go_at_call 156; (with_reducible refine his.mono ?_); rintro e u ⟨rfl, hu⟩; obtain rfl := hu.symm)
    | (go_at_call 49; (with_reducible refine hrd.mono ?_); rintro e u ⟨rfl, hu⟩; obtain rfl := hu.symm)
    | (go_at_call 25; (with_reducible refine hfu.mono ?_); rintro e u ⟨rfl, hbu⟩; obtain ⟨u2, hu2⟩ : ∃ u2, u.alloc (.cells #[.int .u32 0, .int .u32 0, .int .u32 0, .int .u32 0] 35) = u2 := ⟨_, rfl⟩; have k0 : W.heap.size < u.heap.size := Nat.lt_of_lt_of_le G1.out.lt hbu.size; have k1 : Hid (Zh4 u2 u.heap.size (fun _ => 0)) := (by rw [← hu2]; exact zna rfl); have k2 : Hid (Zh4 u2 W.heap.size (fun _ => 0)) := (by rw [← hu2]; exact zoa (G1.out.carry hbu)); have k3 : Hid (Below W.heap.size W u2) := (by rw [← hu2]; exact bel2 (bel2 hb1 hbu) (al1' _ _)))
    | (refine wpList_store_row rfl 35 (.tmp 6) (.tmp 21) rfl u.heap.size (cells4 (wd FN)) rfl rfl 35 _ k1.out infoS rfl (by simp [cells4, Value.oneCell']) ?_; obtain ⟨w4, hw4⟩ : ∃ v, u2.setRow u.heap.size (cells4 (wd FN)) = v := ⟨_, rfl⟩; have j1 : Hid (Zh4 w4 u.heap.size (wd FN)) := (by rw [← hw4]; exact setRow_heap _ _ _ _ _ _ k1.out); have j2 : Hid (Zh4 w4 W.heap.size (fun _ => 0)) := (by rw [← hw4]; exact (setRow_other _ _ _ _ (by omega)).trans k2.out); have j3 : Hid (Below W.heap.size W w4) := (by rw [← hw4]; exact below_row k3.out (by omega) _); rw [hw4]))
  rename_i hK
  refine wp_region_any hmx ?_
  refine wpAny_last2 4 (fun i__ => ([(sv FN), (.pointer p), (sv K), (sv (cln (dif FN K))), undef, (Go.Value.int Go.IntKind.i64 0)] : List Value).getD i__ undef) (fun V => Below w4.heap.size w4 V) (fun V => Zh4 V W.heap.size (wd (cln (dif FN K))) ∧ Below W.heap.size W V) (fun V => Zh4 V W.heap.size (wd (cln (dif FN K))) ∧ Below W.heap.size W V) rfl (by kernel_rfl) (by kernel_rfl) (Below.refl _ _).drew ?_ ?_ ?_  ?_
  · refine (sqc ?_ (sqc ?_ (sqc ?_ (sqc ?_ trivial))))
    · exact zld rfl trivial _ _ _ rfl rfl (fun v hw => whole4 v _ FN (j1.out.carry hw))
    · exact zmv rfl trivial _ rfl (by kernel_rfl)
    · exact zsc rfl trivial 98 _ _ [(.pointer p)] rfl (by kernel_rfl) (enters_of Tryz.func98 (by kernel_rfl) rfl) (fun v hw => (h.kw v (bel2 j3.out hw)).mono (by rintro e w2 ⟨rfl, hb2⟩; exact ⟨rfl, bel2 hw hb2⟩))
    · exact zsc rfl trivial 157 _ _ [(sv FN), (sv K)] rfl (by kernel_rfl) (enters_of Tryz.func157 (by kernel_rfl) rfl) (fun w hw => (less_any FN K w).mono (by rintro e w' ⟨rfl, hb⟩; exact ⟨rfl, bel2 hw hb⟩))
  · intro o ho
    cases ho
    exact step_store rfl trivial rfl _ _ _ _ _ rfl rfl rfl (fun v hw => ⟨set4 v W.heap.size (cln (dif FN K)), store_s (j2.out.carry hw) _, fin4 (j2.out.carry hw) _, below4 (bel2 j3.out hw) (Nat.le_refl _) _⟩)
  · intro o ho
    cases ho
    exact zas rfl trivial _ rfl (by kernel_rfl) (fun _ h => h)
  intro W hW
  first | refine hK _ _ ?_ | refine (‹∀ (a : Act) (w : World), Code.wp Tryz.prog _ _ a w → _›) _ _ ?_
  simp only [finL, List.getD_cons_zero, List.getD_cons_succ, Nat.zero_add, Nat.reduceAdd, List.setIfInBounds_toArray, List.set_cons_zero, List.set_cons_succ]
  clear hK
  go_wp2
  exact ret4t rfl rfl rfl rfl hW.1 ⟨rfl, hW.2⟩
end
end Go.Proofs.YtekjhcnaabpfmaaGreatDoor
namespace Go.Proofs.YtekjhcnaabpfmaaGreatDoor
open Go.RowKit Go.Shelf Go.Lib
attribute [local go_sem] Oper.semAt_some
structure Env (W : World) : Prop where
 et : Et W
 sn : ∃ a, Sn W a
 tab : Tab W
theorem Env.low {W V : World} {base : Nat} (h : Env W) (hb : Below base W V) (h2 : 2 < base) : Env V := by
 obtain ⟨a, ha⟩ := h.sn
 refine ⟨(hb.cell (p := ⟨0, 0, none⟩) (by simp; omega)).trans h.et, ⟨a, ha.same (hb.block _ (by omega))⟩, h.tab.keep hb (by omega)⟩
theorem Env.carry {W V : World} (h : Env W) (hb : Below W.heap.size W V) : Env V := by
 obtain ⟨a, ha⟩ := h.sn
 exact ⟨h.et.carry hb, ⟨a, ha.carry hb⟩, h.tab.carry hb⟩
theorem Nd.lt {W : World} {base x : Nat} {A : NA} {s : Ns} (h : Nd W base x A s) {k : Nat} (e : nown x A k) : k < W.heap.size := by
 rcases e with e | e | e | e | e | e | e
 · exact e ▸ h.obj.lt
 · exact e ▸ zla h.bt
 · exact e ▸ h.dk.lt
 · exact e ▸ h.bk.glt
 · exact e ▸ h.ta.lt
 · exact (row_lt2 h.ta.row k (by rw [ob_eq]; exact e.symm)).2
 · exact (row_lt2 h.past k (by rw [ob_eq]; exact e.symm)).2
def evDb (ro : Int) (y : N3) : Ev := ⟨4, 0, 0, ro, y.2.1, y.1, 0, 0, 0⟩
def stDb (s : Ns) (y : N3) : Ns := { s with l := tke s.l y, ev := s.ev ++ [(evDb s.t.ro y).at (s.s : Int) s.b.r.li] }
def dMiss (s : Ns) : Nat := msN (s.n : Int) (rdy s.t) (kn s.t)
def dDoubts (s : Ns) : List N3 := dbs s.l (idsTo (cln (dMiss s)) 128)
def dDb (s : Ns) : Ns := (dDoubts s).foldl stDb s
theorem stDb_keep : ∀ (D : List N3) (s : Ns), (D.foldl stDb s).n = s.n ∧ (D.foldl stDb s).f = s.f ∧ (D.foldl stDb s).s = s.s ∧ (D.foldl stDb s).d = s.d ∧ (D.foldl stDb s).b = s.b ∧ (D.foldl stDb s).H = s.H ∧ (D.foldl stDb s).t = s.t ∧ (D.foldl stDb s).ev.length = s.ev.length + D.length
 | [], s => ⟨rfl, rfl, rfl, rfl, rfl, rfl, rfl, rfl⟩
 | y :: D, s => by
  obtain ⟨h1, h2, h3, h4, h5, h6, h7, h8⟩ := stDb_keep D (stDb s y)
  refine ⟨h1, h2, h3, h4, h5, h6, h7, ?_⟩
  rw [List.foldl_cons, h8]
  simp [stDb]; omega
theorem stDb_succ (D : List N3) (s : Ns) (j : Nat) (y : N3) (h : D[j]? = some y) : (D.take (j + 1)).foldl stDb s = stDb ((D.take j).foldl stDb s) y := by
 rw [List.take_add_one, h]
 simp [List.foldl_append]
theorem bld_E4 (o t ro : Int) (w : World) : (Instr.build 90 #[(0, .int .i64 4), (5, .int .i64 o), (4, .int .i64 t), (3, .int .i64 ro)]).run Tryz.prog w = .ok (.agg #[.int .i64 4, .int .i64 0, .int .i64 0, .int .i64 ro, .int .i64 t, .int .i64 o, .int .i64 0, .int .u32 0, .int .u32 0, .int .u32 0, .int .u32 0, .int .u32 0, .int .u32 0, .int .u32 0, .int .u32 0]) w := by go_simp
theorem evDb_V (o t k ro : Int) : evV (evDb ro (o, t, k)) = .agg #[.int .i64 4, .int .i64 0, .int .i64 0, .int .i64 ro, .int .i64 t, .int .i64 o, .int .i64 0, .int .u32 0, .int .u32 0, .int .u32 0, .int .u32 0, .int .u32 0, .int .u32 0, .int .u32 0, .int .u32 0] := by simp [evV, ecA, evDb, wd_zero]
theorem idsTo_len (M : Nat) : ∀ n, (idsTo M n).length ≤ n
 | 0 => Nat.le_refl _
 | n + 1 => by
  have := idsTo_len M n
  rw [idsTo_succ, List.length_append]
  cases M.testBit n <;> simp <;> omega
def JDb (u : World) (bx M : Nat) (D : List N3) (g : Option Addr × Nat) (d5 : Bool) (V : World) : Prop := Below u.heap.size u V ∧ Zh4 V bx (wd M) ∧ (d5 = true → V.ownsRow u.heap.size 65 3 (.slice g.1 D.length g.2) D.length (fl D))
theorem doubt_any {w : World} {base x : Nat} {A : NA} {s : Ns} (h : Nd w base x A s) (hE : Env w) (ht : s.t.hs.length ≤ 100000) (hev : s.ev.length ≤ 100000) :
  Calls Tryz.prog 99 #[.pointer (some ⟨x, 0, none⟩), .pointer (some ⟨A.tq, 0, none⟩)] w fun r w' => r = .returned (.tuple #[]) ∧ ∃ A', Nd w' base x A' (dDb s) ∧ Mv x A A' w w' := by
 have hmx := mixO
 have c1 := h.obj.c1
 have hmi := missing_any (s.n : Int) (Pt.of h.ta ht)
 obtain ⟨M, hM⟩ : ∃ M, dMiss s = M := ⟨_, rfl⟩
 have HM : Hid (dMiss s = M) := hM
 unfold dMiss at hM
 rw [hM] at hmi
 obtain ⟨D, hD⟩ : ∃ D, dDoubts s = D := ⟨_, rfl⟩
 have HD : Hid (dbs s.l (idsTo (cln M) 128) = D) := by show _ = D; rw [← hD, ← HM.out]; rfl
 have HDb : Hid (dDb s = D.foldl stDb s) := by show _ = _; rw [← hD]; rfl
 have hDl : D.length ≤ 128 := by
  rw [← HD.out]
  exact Nat.le_trans (dbs_len _ _) (idsTo_len _ _)
 clear hM hD
 simp only [sv] at hmi
 go_enter Tryz.func99, Tryz.ntmps99
 go_wp2_with (go_at_call 134; (with_reducible refine hmi.mono ?_); rintro r u ⟨rfl, hu⟩; obtain ⟨u1, hu1⟩ : ∃ u1, u.alloc (.cells #[.int .u32 (wd M 0 : Nat), .int .u32 (wd M 1 : Nat), .int .u32 (wd M 2 : Nat), .int .u32 (wd M 3 : Nat)] 35) = u1 := ⟨_, rfl⟩; have hb1 : Below w.heap.size w u1 := (by rw [← hu1]; exact bel2 hu (al1' _ _)); have g1 : Zh4 u1 u.heap.size (wd M) := (by rw [← hu1]; exact zna rfl))
 have hN1 := h.carry hb1
 have hdb := doubts_any (h.carry hb1).bk M (hE.carry hb1).tab
 rw [HD.out] at hdb
 have hgb : u.heap.size < u1.heap.size := zla g1
 clear hmi c1 hu1
 rename_i hK
 refine wp_region_any hmx ?_
 refine zwt (G := (Option Addr × Nat)) (fun g i__ => ([(.pointer (some ⟨x, 0, none⟩)), (.pointer (some ⟨x, 0, none⟩)), (.pointer (some ⟨x, 4, none⟩)), (.pointer (some ⟨A.bp, 0, none⟩)), (sv M), (.slice g.1 D.length g.2), (.int .i64 (D.length : Int)), (Go.Value.int Go.IntKind.i64 0)] : List Value).getD i__ undef) (fun g d V => JDb u1 u.heap.size M D g (d 5) V) (by kernel_rfl) ((none, 0)) (show JDb u1 u.heap.size M D (none, 0) false _ from ⟨(Below.refl _ _).drew, g1.carry (Below.refl _ _).drew, fun e => (by cases e)⟩) ?step13 ?fin13
 case step13 =>
  intro i o ho
  have hi : i < 8 := getElem?_lt ho
  match i, hi, ho with
  | 0, _, ho => cases ho; exact zgo fun g d hdep => zmv rfl trivial _ rfl (by kernel_rfl)
  | 1, _, ho => cases ho; exact zgo fun g d hdep => znc rfl trivial _ _ _ rfl rfl rfl
  | 2, _, ho => cases ho; exact zgo fun g d hdep => zfa rfl trivial _ _ _ _ rfl rfl (fun v hw => (zfn v _).2.2.2.2.1)
  | 3, _, ho => cases ho; exact zgo fun g d hdep => zld rfl trivial _ _ _ rfl rfl (fun v hw => load_bk0 (hN1.obj.carry hw.1).c4)
  | 4, _, ho => cases ho; exact zgo fun g d hdep => zld rfl trivial _ _ _ rfl rfl (fun v hw => whole4 v _ M hw.2.1)
  | 5, _, ho => cases ho; exact stepG_call rfl (fun _ => trivial) 135 _ _ (fun _ => [.pointer (some ⟨A.bp, 0, none⟩), sv M]) rfl (fun g => by kernel_rfl) (enters_of Tryz.func135 (by kernel_rfl) rfl) (fun g d V hJ hun hdep hcl => (doubts_any (hN1.bk.carry hJ.1) M ((hE.carry hb1).carry hJ.1).tab).mono (by rintro e V' ⟨v, rfl, hm, hb⟩; rw [HD.out] at hm; obtain ⟨a, c, rfl, hrow⟩ := hm.form; refine ⟨(a, c), rfl, (fun j hj => match j, hj with | 5, hj => (by rw [hj] at hun; cases hun)  | 0, _ => rfl | 1, _ => rfl | 2, _ => rfl | 3, _ => rfl | 4, _ => rfl | 6, _ => rfl | 7, _ => rfl | _ + 8, _ => rfl), ?_⟩; exact ⟨bel2 hJ.1 hb, hJ.2.1.carry hb, fun _ => row_base hrow hJ.1.size⟩))
  | 6, _, ho => cases ho; exact zgo fun g d hdep => step_bi rfl trivial _ _ _ [(.slice g.1 D.length g.2)] rfl (by kernel_rfl) (fun cs v hw => rfl)
  | 7, _, ho => cases ho; exact zgo fun g d hdep => zmv rfl trivial _ rfl (by kernel_rfl)
 intro g d W hall hW
 first | refine hK _ _ ?_ | refine (‹∀ (a : Act) (w : World), Code.wp Tryz.prog _ _ a w → _›) _ _ ?_ | skip
 simp only [finL, List.getD_cons_zero, List.getD_cons_succ, Nat.zero_add, Nat.reduceAdd, List.setIfInBounds_toArray, List.set_cons_zero, List.set_cons_succ]
 rw [hall 5 (by decide)] at hW
 obtain ⟨ra, rc⟩ := g
 obtain ⟨hbW, hhW, hrow⟩ := hW
 have hrow := hrow rfl
 simp only at hrow ⊢
 have hNW := hN1.carry hbW
 have hnW : ∀ k, ob ra = some k → k < W.heap.size ∧ ¬ nown x A k := fun k e => by
  have h1 := row_lt2 hrow k (by rw [ob_eq]; exact e)
  exact ⟨h1.2, fun e2 => by have := hN1.lt e2; omega⟩
 clear hK hall hdb g1 hhW hN1
 have hEW := (hE.carry hb1).carry hbW
 have HR : Hid (W.ownsRow u1.heap.size 65 3 (.slice ra D.length rc) D.length (fl D)) := hrow
 have hrd := RdN.ofRow hrow
 have HRD : Hid (RdN W ra D) := hrd
 clear hrow hrd
 go_wp2
 go_loopw [24] (fun c wz => ∃ (k : Nat) (A' : NA), c = .int .i64 k ∧ k ≤ D.length ∧ Nd wz base x A' ((D.take k).foldl stDb s) ∧ A'.tq = A.tq ∧ Mv x A A' W wz) (fun c _ => D.length - vnat c)
 case atStart => exact ⟨0, A, rfl, Nat.zero_le _, hNW, rfl, Mv.of _ _ (Below.refl _ _)⟩
 case round =>
  obtain ⟨k, A', rfl, hk, hn, htq, hm⟩ := hrel
  by_cases hkl : k < D.length
  · have hki : (k : Int) < (D.length : Int) := by omega
    obtain ⟨⟨o, t, q⟩, hx⟩ : ∃ y, D[k]? = some y := ⟨_, List.getElem?_eq_getElem hkl⟩
    obtain ⟨b, off, e1, hbl, hat⟩ := HRD.out (fun e => by rw [e] at hkl; simp at hkl)
    subst e1
    have hsm : wr.heap[b]? = W.heap[b]? := hm.block b hbl (hnW b rfl).2
    obtain ⟨c0, c1, c2⟩ := hat k _ hx
    dsimp only at c0 c1 c2
    rw [← World.cell?_of_block (w := W) (w' := wr) hsm] at c0 c1 c2
    have HX : Hid (D[k]? = some (o, t, q)) := hx
    obtain ⟨s1, hs1⟩ : ∃ s1, (D.take k).foldl stDb s = s1 := ⟨_, rfl⟩
    obtain ⟨k1, k2, k3, k4, k5, k6, k7, k8⟩ := stDb_keep (D.take k) s
    rw [hs1] at k1 k2 k3 k4 k5 k6 k7 k8 hn
    have HS1 : Hid ((D.take k).foldl stDb s = s1) := hs1
    have hevl : s1.ev.length ≤ 1000000 := by rw [k8, List.length_take]; omega
    obtain ⟨w1, hw1⟩ : ∃ w1, wr.alloc (.cells #[.int .i64 o, .int .i64 t, .int .i64 q] 65) = w1 := ⟨_, rfl⟩
    have hb2 : Below wr.heap.size wr w1 := by rw [← hw1]; exact al1' _ _
    have hn1 : NB w1 wr.heap.size o t q := by rw [← hw1]; exact NB.new _ _ _ _
    have htk := fun V (hV : Bk V A'.bp A'.g s1.l) => bktake_any hV o t q
    obtain ⟨T1, hT1⟩ : ∃ T1, tkb s1.l (o, t, q) = T1 := ⟨_, rfl⟩
    obtain ⟨T2, hT2⟩ : ∃ T2 : Int, (if vlx s1.l.length (o, t, q) = true then (0 : Int) else 50) = T2 := ⟨_, rfl⟩
    rw [hT1, hT2] at htk
    have hgl := hn.bk.glt
    clear hx hat hs1 k1 k2 k4 k6 k8 hT1 hT2 hsm
    go_wp2
    rename_i Q0 K0 hK
    refine wp_region_any hmx ?_
    refine zwl 5 (fun i__ => ([(.pointer (some ⟨x, 0, none⟩)), (.pointer (some ⟨x, 0, none⟩)), (.pointer (some ⟨x, 4, none⟩)), (.pointer (some ⟨A'.bp, 0, none⟩)), (nt o t q), (.tuple #[.bool T1, .int .i64 T2])] : List Value).getD i__ undef) (fun V => NB V wr.heap.size o t q ∧ Below wr.heap.size wr V) (fun V => NB V wr.heap.size o t q ∧ Bk V A'.bp A'.g (tke s1.l (o, t, q)) ∧ wr.grownBy V (some A'.g)) rfl (by kernel_rfl) (by kernel_rfl) ⟨hn1.carry (Below.refl _ _).drew, hb2.drew⟩ ?_ ?_  ?_
    · refine (sqc ?_ (sqc ?_ (sqc ?_ (sqc ?_ (sqc ?_ trivial)))))
      · exact zmv rfl trivial _ rfl (by kernel_rfl)
      · exact znc rfl trivial _ _ _ rfl rfl rfl
      · exact zfa rfl trivial _ _ _ _ rfl rfl (fun v hw => (zfn v _).2.2.2.2.1)
      · exact zld rfl trivial _ _ _ rfl rfl (fun v hw => load_bk0 (hn.obj.carry hw.2).c4)
      · exact zld rfl trivial _ _ _ rfl rfl (fun v hw => load_nt hw.1)
    · intro o ho
      cases ho
      exact zsc rfl trivial 136 _ _ [(.pointer (some ⟨A'.bp, 0, none⟩)), (nt o t q)] rfl (by kernel_rfl) (enters_of Tryz.func136 (by kernel_rfl) rfl) (fun v hw => (htk v (hn.bk.carry hw.2)).mono (by rintro e w' ⟨rfl, h1, h2⟩; exact ⟨rfl, (h2.block _ hw.1.lt (by simp; omega)).trans hw.1, h1, grown_then hw.2 h2⟩))
    intro W hW
    first | refine hK _ _ ?_ | refine (‹∀ (a : Act) (w : World), Code.wp Tryz.prog _ _ a w → _›) _ _ ?_
    simp only [finL, List.getD_cons_zero, List.getD_cons_succ, Nat.zero_add, Nat.reduceAdd, List.setIfInBounds_toArray, List.set_cons_zero, List.set_cons_succ]
    obtain ⟨hn2, hbk2, hg2⟩ := hW
    obtain ⟨hN2, hM2⟩ := hn.book hbk2 hg2
    clear hK hn1 htk hbk2 hg2
    have hro := fun V (hV : Below W.heap.size W V) => tround_any (hN2.ta.carry hV)
    simp only [k7] at hro
    rw [htq] at hro
    have hrm : ∀ V, Below W.heap.size W V → Calls Tryz.prog 27 #[.pointer (some ⟨x, 0, none⟩), .agg #[.int .i64 4, .int .i64 0, .int .i64 0, .int .i64 s.t.ro, .int .i64 t, .int .i64 o, .int .i64 0, .int .u32 0, .int .u32 0, .int .u32 0, .int .u32 0, .int .u32 0, .int .u32 0, .int .u32 0, .int .u32 0]] V fun r w' => r = .returned (.tuple #[]) ∧ ∃ A2, Nd w' base x A2 (stDb s1 (o, t, q)) ∧ A2.tq = A.tq ∧ Mv x A' A2 W w' := fun V hV => by
      have h0 := hN2.carry hV
      have h1 := remember_any h0.obj h0.bt h0.past h0.sz hevl (evDb s.t.ro (o, t, q))
      rw [evDb_V] at h1
      refine h1.mono ?_
      rintro r w' ⟨rfl, ad, cap, n1, r1, t1⟩
      obtain ⟨h2, h3⟩ := h0.rem n1 r1 t1
      refine ⟨rfl, { A' with pa := ad, pc := cap }, ?_, htq, (Mv.of _ _ hV).trans h3⟩
      rw [← k7] at h2
      exact h2
    go_wp2
    rename_i hK
    refine wp_region_any hmx ?_
    refine zwl 8 (fun i__ => ([(.pointer (some ⟨x, 0, none⟩)), (.pointer (some ⟨wr.heap.size, 0, none⟩)), (.int .i64 o), (.pointer (some ⟨wr.heap.size, 1, none⟩)), (.int .i64 t), (.pointer (some ⟨A.tq, 0, none⟩)), (.int .i64 s.t.ro), (.agg #[.int .i64 4, .int .i64 0, .int .i64 0, .int .i64 s.t.ro, .int .i64 t, .int .i64 o, .int .i64 0, .int .u32 0, .int .u32 0, .int .u32 0, .int .u32 0, .int .u32 0, .int .u32 0, .int .u32 0, .int .u32 0]), (.tuple #[])] : List Value).getD i__ undef) (fun V => NB V wr.heap.size o t q ∧ Below W.heap.size W V) (fun V => ∃ A2, Nd V base x A2 (stDb s1 (o, t, q)) ∧ A2.tq = A.tq ∧ Mv x A' A2 W V) rfl (by kernel_rfl) (by kernel_rfl) ⟨hn2.carry (Below.refl _ _).drew, (Below.refl _ _).drew⟩ ?_ ?_  ?_
    · refine (sqc ?_ (sqc ?_ (sqc ?_ (sqc ?_ (sqc ?_ (sqc ?_ (sqc ?_ (sqc ?_ trivial))))))))
      · exact zmv rfl trivial _ rfl (by kernel_rfl)
      · exact zfa rfl trivial _ _ _ _ rfl rfl (fun v hw => field_n0 v _)
      · exact zld rfl trivial _ _ _ rfl rfl (fun v hw => load_n0 hw.1)
      · exact zfa rfl trivial _ _ _ _ rfl rfl (fun v hw => field_n1 v _)
      · exact zld rfl trivial _ _ _ rfl rfl (fun v hw => load_n1 hw.1)
      · exact zmv rfl trivial _ rfl (by kernel_rfl)
      · exact zsc rfl trivial 30 _ _ [(.pointer (some ⟨A.tq, 0, none⟩))] rfl (by kernel_rfl) (enters_of Tryz.func30 (by kernel_rfl) rfl) (fun v hw => (hro v hw.2).mono (by rintro e w' ⟨rfl, rfl⟩; exact ⟨rfl, hw⟩))
      · exact step_bld4 rfl trivial _ _ _ _ _ _ _ _ _ (Go.Value.int Go.IntKind.i64 4) (.int .i64 o) (.int .i64 t) (.int .i64 s.t.ro) rfl rfl rfl rfl rfl (fun v hw => bld_E4 o t s.t.ro v)
    · intro o ho
      cases ho
      exact zsc rfl trivial 27 _ _ [(.pointer (some ⟨x, 0, none⟩)), (.agg #[.int .i64 4, .int .i64 0, .int .i64 0, .int .i64 s.t.ro, .int .i64 t, .int .i64 o, .int .i64 0, .int .u32 0, .int .u32 0, .int .u32 0, .int .u32 0, .int .u32 0, .int .u32 0, .int .u32 0, .int .u32 0])] rfl (by kernel_rfl) (enters_of Tryz.func27 (by kernel_rfl) rfl) (fun v hw => hrm v hw.2)
    intro W hW
    first | refine hK _ _ ?_ | refine (‹∀ (a : Act) (w : World), Code.wp Tryz.prog _ _ a w → _›) _ _ ?_
    simp only [finL, List.getD_cons_zero, List.getD_cons_succ, Nat.zero_add, Nat.reduceAdd, List.setIfInBounds_toArray, List.set_cons_zero, List.set_cons_succ]
    rename_i W4
    obtain ⟨A2, h4, htq4, hm4⟩ := hW
    have HE2 : Hid (stDb s1 (o, t, q) = (D.take (k + 1)).foldl stDb s) := by show _ = _; rw [stDb_succ D s k _ HX.out, HS1.out]
    clear hrm hro
    go_wp2
    go_roundw
    case rel => exact ⟨k + 1, A2, by simp, by omega, HE2.out ▸ h4, htq4, (hm.trans hM2).trans hm4⟩
    case measure => simp [vnat]; omega
  · have hki : ¬ (k : Int) < (D.length : Int) := by omega
    obtain rfl : k = D.length := by omega
    go_wp2
    go_end0
    refine ⟨rfl, A', ?_, (Mv.of _ _ (bel2 hb1 hbW)).trans hm⟩
    rw [HDb.out]
    rw [List.take_length] at hn
    exact hn
end Go.Proofs.YtekjhcnaabpfmaaGreatDoor
