/- infer's Cover: what it answers. -/
import Derived.Test.YtgehmidalfajgaaDoorInh
namespace Go.Proofs.YtgehmidalfajgaaDoor
open Go.RowKit Go.Shelf Go.Lib

/-- The ids below k that are in more than f of the sets. -/
def covTo (l : List Nat) (f : Int) : Nat → Nat
  | 0 => 0
  | k + 1 => if f < (tms l k : Int) then covTo l f k ||| 2 ^ k else covTo l f k
theorem covTo_lt (l : List Nat) (f : Int) : ∀ k, covTo l f k < 2 ^ k
  | 0 => by simp [covTo]
  | k + 1 => by
    have ih := covTo_lt l f k
    have h2 : 2 ^ k < 2 ^ (k + 1) := Nat.pow_lt_pow_right (by decide) (by omega)
    unfold covTo
    split
    · exact Nat.or_lt_two_pow (Nat.lt_trans ih h2) h2
    · exact Nat.lt_trans ih h2
theorem covTo_S (l : List Nat) (f : Int) {k : Nat} (h : k ≤ 100) : covTo l f k < S100 := Nat.lt_of_lt_of_le (covTo_lt l f k) (Nat.pow_le_pow_right (by decide) h)
theorem covTo_bit (l : List Nat) (f : Int) : ∀ (k i : Nat), (covTo l f k).testBit i = (decide (i < k) && decide (f < (tms l i : Int)))
  | 0, i => by simp [covTo]
  | k + 1, i => by
    have ih := covTo_bit l f k i
    unfold covTo
    by_cases h : f < (tms l k : Int)
    · rw [if_pos h, Nat.testBit_or, ih, Nat.testBit_two_pow]
      by_cases e : k = i
      · subst e
        simp [h]
      · have e1 : decide (i < k + 1) = decide (i < k) := decide_eq_decide.2 (by omega)
        simp [e, e1]
    · rw [if_neg h, ih]
      by_cases e : k = i
      · subst e
        simp [h]
      · have e1 : decide (i < k + 1) = decide (i < k) := decide_eq_decide.2 (by omega)
        rw [e1]
/-- What Cover answers: a set, an error. -/
def cvE (n f : Int) (l : List Nat) : Int := if (1 ≤ n ∧ n ≤ 100) ∧ 0 ≤ f ∧ f < n then (if l.all (fun N => wthB N n) = true then 0 else 74) else 1
def cvN (n f : Int) (l : List Nat) : Nat := if cvE n f l = 0 then covTo l f n.toNat else 0
theorem cvN_lt (n f : Int) (l : List Nat) : cvN n f l < S100 := by
  unfold cvN
  split
  · next h =>
    unfold cvE at h
    split at h
    · next q => exact covTo_S l f (by omega)
    · cases h
  · decide
theorem ne_int {W : World} {g b : Nat} {C : Array Value} {c : Nat → Nat} (h1 : W.heap[g]? = some (.cells C 3 (0, 0))) (h2 : Holds4 W b c) : g ≠ b := fun e => by
  subst e
  have h3 : W.heap[g]? = some (.cells (cells4 c) 27 (0, 0)) := h2
  have := h1.symm.trans h3
  simp only [Option.some.injEq, Obj.cells.injEq] at this
  exact absurd this.2.1 (by decide)
theorem zero4 (W : World) (b : Nat) : set4 W b 0 = (((W.setCell ⟨b, 0, none⟩ (.int .u32 0)).setCell ⟨b, 1, none⟩ (.int .u32 0)).setCell ⟨b, 2, none⟩ (.int .u32 0)).setCell ⟨b, 3, none⟩ (.int .u32 0) := by simp [set4, wd]
set_option maxHeartbeats 4000000 in
set_option maxRecDepth 100000 in
theorem cover_any (n f : Int) (ad : Option Addr) (cap : Nat) (l : List Nat) (w : World) (h : RdS w ad l) (hs : ∀ N ∈ l, N < S128) (hT : Tab w) (hl : l.length ≤ 1000000) :
    Calls Tryd.prog 7 #[.int .i64 n, .int .i64 f, .slice ad l.length cap] w fun e w' => e = .returned (.tuple #[sv (cvN n f l), .int .i64 (cvE n f l)]) ∧ Below w.heap.size w w' := by
  obtain ⟨w1, hw1⟩ : ∃ w1, w.alloc (.cells #[.int .u32 0, .int .u32 0, .int .u32 0, .int .u32 0] 27) = w1 := ⟨_, rfl⟩
  have hb1 : Below w.heap.size w w1 := by rw [← hw1]; exact al1' _ _
  have g1 : Holds4 w1 w.heap.size (fun _ => 0) := by rw [← hw1]; exact new_at rfl
  obtain ⟨y0, y1, y2, y3, z0, z1, z2, z3⟩ := g1.facts
  have his := isSize_any n w1
  by_cases hn : 1 ≤ n ∧ n ≤ 100
  case neg =>
    have e2 : cvE n f l = 1 := if_neg (fun e => hn e.1)
    have e1 : cvN n f l = 0 := if_neg (by rw [e2]; decide)
    rw [e1, e2]
    rw [decide_eq_false hn] at his
    clear e1 e2
    go_enter Tryd.func7, Tryd.ntmps7
    go_wp2_with (go_at_call 27; (with_reducible refine his.mono ?_); rintro e u ⟨rfl, hu⟩; obtain rfl := hu.symm)
    rw [← zero4]
    exact ret4t rfl rfl rfl rfl (fin4 g1 0) ⟨rfl, below4 hb1 (Nat.le_refl _) _⟩
  rw [decide_eq_true hn] at his
  by_cases hf0 : f < 0
  case pos =>
    have e2 : cvE n f l = 1 := if_neg (fun e => by omega)
    have e1 : cvN n f l = 0 := if_neg (by rw [e2]; decide)
    rw [e1, e2]
    clear e1 e2
    go_enter Tryd.func7, Tryd.ntmps7
    go_wp2_with (go_at_call 27; (with_reducible refine his.mono ?_); rintro e u ⟨rfl, hu⟩; obtain rfl := hu.symm)
    rw [← zero4]
    exact ret4t rfl rfl rfl rfl (fin4 g1 0) ⟨rfl, below4 hb1 (Nat.le_refl _) _⟩
  by_cases hf1 : f ≥ n
  case pos =>
    have e2 : cvE n f l = 1 := if_neg (fun e => by omega)
    have e1 : cvN n f l = 0 := if_neg (by rw [e2]; decide)
    rw [e1, e2]
    clear e1 e2
    go_enter Tryd.func7, Tryd.ntmps7
    go_wp2_with (go_at_call 27; (with_reducible refine his.mono ?_); rintro e u ⟨rfl, hu⟩; obtain rfl := hu.symm)
    rw [← zero4]
    exact ret4t rfl rfl rfl rfl (fin4 g1 0) ⟨rfl, below4 hb1 (Nat.le_refl _) _⟩
  have haw := allWithin_any ad cap l n w1 (h.carry hb1) hs (by omega)
  have hk : ∀ V, Below w1.heap.size w1 V → Holds4 V w.heap.size (fun _ => 0) := fun V hV => g1.carry hV
  clear y0 y1 y2 y3 z0 z1 z2 z3
  cases hall : l.all (fun N => wthB N n) with
  | false =>
    have e2 : cvE n f l = 74 := by unfold cvE; rw [if_pos ⟨hn, by omega, by omega⟩, hall]; rfl
    have e1 : cvN n f l = 0 := if_neg (by rw [e2]; decide)
    rw [e1, e2]
    rw [hall] at haw
    clear e1 e2
    go_enter Tryd.func7, Tryd.ntmps7
    go_wp2_with (first
      | (go_at_call 27; (with_reducible refine his.mono ?_); rintro e u ⟨rfl, hu⟩; obtain rfl := hu.symm)
      | (go_at_call 28; (with_reducible refine haw.mono ?_); rintro e u ⟨rfl, hu⟩; have g2 := hk u hu; obtain ⟨y0, y1, y2, y3, z0, z1, z2, z3⟩ := g2.facts))
    rw [← zero4]
    exact ret4t rfl rfl rfl rfl (fin4 g2 0) ⟨rfl, below4 (bel2 hb1 hu) (Nat.le_refl _) _⟩
  | true =>
    have e2 : cvE n f l = 0 := by unfold cvE; rw [if_pos ⟨hn, by omega, by omega⟩, hall]; rfl
    have e1 : cvN n f l = covTo l f n.toNat := if_pos e2
    rw [e1, e2]
    rw [hall] at haw
    clear e1 e2
    obtain ⟨m, hm, hm1⟩ : ∃ m : Nat, n = (m : Int) ∧ m ≤ 100 := ⟨n.toNat, by omega, by omega⟩
    subst hm
    have hwn : ∀ N ∈ l, wthB N (m : Int) = true := fun N hN => List.all_eq_true.1 hall N hN
    have hco := fun V hV => counts_any ad cap l (m : Int) ⟨by omega, by omega⟩ V (h.carry (W' := V) hV) hwn (hT.carry hV) hl
    rw [Int.toNat_natCast] at hco ⊢
    obtain ⟨RR, hRR⟩ : ∃ RR, covTo l f m = RR := ⟨_, rfl⟩
    rw [hRR]
    go_enter Tryd.func7, Tryd.ntmps7
    go_wp2_with (first
      | (go_at_call 27; (with_reducible refine his.mono ?_); rintro e u ⟨rfl, hu⟩; obtain rfl := hu.symm)
      | (go_at_call 28; (with_reducible refine haw.mono ?_); rintro e u ⟨rfl, hu⟩; have g2 := hk u hu; obtain ⟨u2, hu2⟩ : ∃ u2, u.alloc (.cells #[.int .u32 0, .int .u32 0, .int .u32 0, .int .u32 0] 27) = u2 := ⟨_, rfl⟩; have k1 : Hid (Holds4 u2 u.heap.size (fun _ => 0)) := (by rw [← hu2]; exact new_at rfl); have k2 : Hid (Holds4 u2 w.heap.size (fun _ => 0)) := (by rw [← hu2]; exact old_at g2); have k3 : Hid (Below w.heap.size w u2) := (by rw [← hu2]; exact bel2 (bel2 hb1 hu) (al1' _ _)); have k4 : w.heap.size < u.heap.size := g2.lt)
      | (go_at_call 29; refine (hco _ k3.out).mono ?_; rintro e u3 ⟨g, rfl, hr3, hb3⟩))
    have j1 : Holds4 u3 u.heap.size (wd 0) := by rw [show wd 0 = (fun _ => 0) by funext j; exact wd_zero j]; exact k1.out.carry hb3
    have j2 := k2.out.carry hb3
    have j3 := bel2 k3.out hb3
    obtain ⟨b8, hb8⟩ : ∃ b8, u.heap.size = b8 := ⟨_, rfl⟩
    rw [hb8] at j1 k4 ⊢
    clear k1 k2 k3 hu2 hco haw his hk g2
    go_loopw [35] (fun c wz => ∃ k : Nat, c = .int .i64 k ∧ k ≤ m ∧ Holds4 wz w.heap.size (fun _ => 0) ∧ Holds4 wz b8 (wd (covTo l f k)) ∧ wz.heap[g]? = some (.cells (cvR m (tms l)) 3 (0, 0)) ∧ Below w.heap.size w wz) (fun c _ => m - vnat c)
    case atStart => exact ⟨0, rfl, Nat.zero_le _, j2, j1, hr3, j3⟩
    case round =>
      obtain ⟨k, rfl, hk, q1, q2, q3, hbw⟩ := hrel
      by_cases hkl : k < m
      · have hki : (k : Int) < (m : Int) := by omega
        have hix : ∀ V : World, (Instr.indexAt 23 (.slice (some ⟨g, 0, none⟩) m m) (.int .i64 (k : Int))).run Tryd.prog V = .ok (.pointer (some ⟨g, k, none⟩)) V := fun V => by
          have h1 : (k : Int) < (m : Int) := hki
          go_simp
        have hcell : wr.cell? ⟨g, k, none⟩ = some (.int .i64 ((tms l k : Nat) : Int)) := (cell_at q3 k).trans (cvR_get m _ k hkl)
        have hes : covTo l f (k + 1) = if f < (tms l k : Int) then covTo l f k ||| 2 ^ k else covTo l f k := rfl
        have hne := ne_int q3 q2
        have hS := covTo_S l f (show k ≤ 100 by omega)
        obtain ⟨TK, hTK⟩ : ∃ TK, tms l k = TK := ⟨_, rfl⟩
        rw [hTK] at hcell hes
        obtain ⟨M, hM⟩ : ∃ M, covTo l f k = M := ⟨_, rfl⟩
        rw [hM] at hes q2 hS
        by_cases hf : (TK : Int) > f
        · have hwi := with_any M (k : Int)
          rw [show withV M (k : Int) = .tuple #[sv (cln M ||| 2 ^ k), .int .i64 0] by unfold withV; rw [if_pos (by omega), Int.toNat_natCast], cln_id hS] at hwi
          rw [if_pos (show f < (TK : Int) from hf)] at hes
          have HES : Hid (covTo l f (k + 1) = M ||| 2 ^ k) := hes
          obtain ⟨M2, hM2⟩ : ∃ M2, M ||| 2 ^ k = M2 := ⟨_, rfl⟩
          rw [hM2] at hwi HES
          clear hes hM2 hM hTK
          simp only [sv] at hwi
          go_wp2_with (first
            | (refine wpList_load_row rfl 27 (.tmp 8) rfl b8 rfl 27 _ (0, 0) _ q2 Tryd.underlying27 rfl infoS ?_)
            | (go_at_call 25; refine (hwi _).mono ?_; rintro e v ⟨rfl, hb⟩; have r2 := q2.carry hb; have r1 := q1.carry hb; have r3 := (hb.block _ (lt_at q3)).trans q3; have r4 := bel2 hbw hb)
            | (refine wpList_store_row rfl 27 (.tmp 8) (.tmp 47) rfl b8 (cells4 (wd M2)) rfl rfl 27 _ r2 infoS rfl (by simp [cells4, Value.oneCell']) ?_))
          go_roundw
          case rel => exact ⟨k + 1, by simp, by omega, hold_row r1 (by omega) _, by rw [HES.out]; exact setRow_heap _ _ _ _ _ _ r2, (setRow_other _ _ _ _ hne).trans r3, below_row r4 (by omega) _⟩
          case measure => simp [vnat]; omega
        · rw [if_neg (show ¬ f < (TK : Int) from hf)] at hes
          have HES : Hid (covTo l f (k + 1) = M) := hes
          clear hes hM hTK
          go_wp2
          go_roundw
          case rel => exact ⟨k + 1, by simp, by omega, q1, by rw [HES.out]; exact q2, q3, hbw⟩
          case measure => simp [vnat]; omega
      · have hkk : k = m := by omega
        subst hkk
        have hki : ¬ ((k : Int) < (k : Int)) := by omega
        rw [hRR] at q2
        obtain ⟨y0, y1, y2, y3, z0, z1, z2, z3⟩ := q1.facts
        obtain ⟨x0, x1, x2, x3, _⟩ := q2.facts
        have H1 : Hid (Holds4 wr w.heap.size (fun _ => 0)) := q1
        clear q1 q2
        go_wp2
        exact ret4t rfl rfl rfl rfl (fin4 H1.out _) ⟨rfl, below4 hbw (Nat.le_refl _) _⟩
end Go.Proofs.YtgehmidalfajgaaDoor
