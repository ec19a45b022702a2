/- The document's Cover: what it answers. -/
import Derived.Test.YtgehmidalfajgabDoorIni
import Derived.Test.YtgehmidalfajgabDoorRft
import Derived.Test.YtgehmidalfajgabDoorRfm
namespace Go.Proofs.YtgehmidalfajgabDoor
open Go.RowKit Go.Shelf Go.Lib

set_option maxHeartbeats 1000000 in
set_option maxRecDepth 100000 in
theorem rPut_any (N : Nat) (hN : N < 2 ^ 100) (i : Nat) (hi : i < 100) (w : World) : Calls Tryd.prog 17 #[sv N, .int .i64 (i : Int)] w fun e w' => e = .returned (sv (N ||| 2 ^ i)) ∧ Below w.heap.size w w' := by
  have hw := rWith_any N (i : Int)
  have e3 : withV N (i : Int) = .tuple #[sv (N ||| 2 ^ i), .int .i64 0] := by
    unfold withV
    rw [if_pos (by omega), Int.toNat_natCast, cln_id hN]
  rw [e3] at hw
  clear e3
  generalize N ||| 2 ^ i = N2 at *
  simp only [sv] at hw ⊢
  go_enter Tryd.func17, Tryd.ntmps17
  go_wp2_with (go_at_call 37; refine (hw _).mono ?_; rintro e w1 ⟨rfl, hb1⟩; have q : Holds4 w1 (w.heap.size + 1) (fun _ => 0) := (hb1.block _ (by simp)).trans (get_new (by simp)); have hs1 := q.lt; obtain ⟨y0, y1, y2, y3, z0, z1, z2, z3⟩ := q.facts; have H1 : Hid (Holds4 w1 (w.heap.size + 1) (fun _ => 0)) := q; clear q)
  have k5 : Below w.heap.size w ((set4 w1 (w.heap.size + 1) N2).alloc (.cells (cells4 (wd N2)) 26)) := (below4 (bcarry (((Below.refl _ w).alloc (by simp) _).alloc (by simp) _) (Nat.le_refl _) hb1) (by omega) _).alloc (Nat.le_of_lt (Nat.lt_of_le_of_lt (Nat.le_add_right _ _) (Holds4.lt (fin4 H1.out N2)))) _
  exact ret4 rfl rfl rfl (get_old (fin4 H1.out N2)) ⟨rfl, k5⟩
set_option maxHeartbeats 4000000 in
set_option maxRecDepth 100000 in
theorem rCover_any (n f : Int) (ad : Option Addr) (cap : Nat) (l : List Nat) (w : World) (h : RdS w ad l) (hs : ∀ N ∈ l, N < S128) (hl : l.length ≤ 1000000) :
    Calls Tryd.prog 6 #[.int .i64 n, .int .i64 f, .slice ad l.length cap] w fun e w' => e = .returned (.tuple #[sv (cvN n f l), .int .i64 (cvE n f l)]) ∧ Below w.heap.size w w' := by
  obtain ⟨w1, hw1⟩ : ∃ w1, w.alloc (.cells #[.int .u32 0, .int .u32 0, .int .u32 0, .int .u32 0] 26) = w1 := ⟨_, rfl⟩
  have hb1 : Below w.heap.size w w1 := by rw [← hw1]; exact al1' _ _
  have g1 : Holds4 w1 w.heap.size (fun _ => 0) := by rw [← hw1]; exact new_at rfl
  obtain ⟨y0, y1, y2, y3, z0, z1, z2, z3⟩ := g1.facts
  by_cases hn1 : n < 1
  case pos =>
    have e2 : cvE n f l = 1 := if_neg (fun e => by omega)
    have e1 : cvN n f l = 0 := if_neg (by rw [e2]; decide)
    rw [e1, e2]
    clear e1 e2
    go_enter Tryd.func6, Tryd.ntmps6
    go_wp2
    rw [← zero4]
    exact ret4t rfl rfl rfl rfl (fin4 g1 0) ⟨rfl, below4 hb1 (Nat.le_refl _) _⟩
  by_cases hn2 : n > 100
  case pos =>
    have e2 : cvE n f l = 1 := if_neg (fun e => by omega)
    have e1 : cvN n f l = 0 := if_neg (by rw [e2]; decide)
    rw [e1, e2]
    clear e1 e2
    go_enter Tryd.func6, Tryd.ntmps6
    go_wp2
    rw [← zero4]
    exact ret4t rfl rfl rfl rfl (fin4 g1 0) ⟨rfl, below4 hb1 (Nat.le_refl _) _⟩
  by_cases hf0 : f < 0
  case pos =>
    have e2 : cvE n f l = 1 := if_neg (fun e => by omega)
    have e1 : cvN n f l = 0 := if_neg (by rw [e2]; decide)
    rw [e1, e2]
    clear e1 e2
    go_enter Tryd.func6, Tryd.ntmps6
    go_wp2
    rw [← zero4]
    exact ret4t rfl rfl rfl rfl (fin4 g1 0) ⟨rfl, below4 hb1 (Nat.le_refl _) _⟩
  by_cases hf1 : f ≥ n
  case pos =>
    have e2 : cvE n f l = 1 := if_neg (fun e => by omega)
    have e1 : cvN n f l = 0 := if_neg (by rw [e2]; decide)
    rw [e1, e2]
    clear e1 e2
    go_enter Tryd.func6, Tryd.ntmps6
    go_wp2
    rw [← zero4]
    exact ret4t rfl rfl rfl rfl (fin4 g1 0) ⟨rfl, below4 hb1 (Nat.le_refl _) _⟩
  have hn : 1 ≤ n ∧ n ≤ 100 := by omega
  clear y0 y1 y2 y3 z0 z1 z2 z3
  obtain ⟨CE, hCE⟩ : ∃ CE, cvE n f l = CE := ⟨_, rfl⟩
  obtain ⟨CN, hCN⟩ : ∃ CN, cvN n f l = CN := ⟨_, rfl⟩
  rw [hCE, hCN]
  go_enter Tryd.func6, Tryd.ntmps6
  go_wp2
  go_loopw [8] (fun c wz => ∃ k : Nat, c = .int .i64 k ∧ k ≤ l.length ∧ (l.take k).all (fun N => wthB N n) = true ∧ Holds4 wz w.heap.size (fun _ => 0) ∧ Below w.heap.size w wz) (fun c _ => l.length - vnat c)
  case atStart => exact ⟨0, rfl, Nat.zero_le _, rfl, g1, hb1⟩
  case round =>
    obtain ⟨k, rfl, hk, hall, q1, hbw⟩ := hrel
    by_cases hkl : k < l.length
    · have hki : (k : Int) < (l.length : Int) := by omega
      have hne : l ≠ [] := fun e => by subst e; simp at hkl
      obtain ⟨b, off, rfl, hgl, hat⟩ := h hne
      obtain ⟨x, hx⟩ : ∃ x, l[k]? = some x := ⟨_, List.getElem?_eq_getElem hkl⟩
      have hxm := List.mem_of_getElem? hx
      have hix := idx_s b off l.length cap k hkl
      obtain ⟨c0, c1, c2, c3⟩ := (hat.carry (hbw.block _ hgl)) k x hx
      have hwi := rWithin_any x (hs x hxm) n wr
      have hes := all_succ l (fun N => wthB N n) k x hx
      rw [hall] at hes
      simp only [sv] at hwi
      cases hwx : wthB x n with
      | false =>
        rw [hwx] at hwi
        have ha : l.all (fun N => wthB N n) = false := by
          cases q : l.all (fun N => wthB N n)
          · rfl
          · have := List.all_eq_true.1 q x hxm
            rw [hwx] at this
            cases this
        have e2 : cvE n f l = 74 := by unfold cvE; rw [if_pos ⟨hn, by omega, by omega⟩, ha]; rfl
        obtain rfl : CE = 74 := by rw [← hCE, e2]
        obtain rfl : CN = 0 := by rw [← hCN]; exact if_neg (by rw [e2]; decide)
        clear hes e2
        go_wp2_with (go_at_call 15; (with_reducible refine hwi.mono ?_); rintro e u ⟨rfl, hu⟩; have q2 := q1.carry hu; obtain ⟨y0, y1, y2, y3, z0, z1, z2, z3⟩ := q2.facts)
        rw [← zero4]
        exact ret4t rfl rfl rfl rfl (fin4 q2 0) ⟨rfl, below4 (bel2 hbw hu) (Nat.le_refl _) _⟩
      | true =>
        rw [hwx] at hwi hes
        go_wp2_with (go_at_call 15; (with_reducible refine hwi.mono ?_); rintro e u ⟨rfl, hu⟩; have q2 := q1.carry hu)
        go_roundw
        case rel => exact ⟨k + 1, by simp, by omega, by rw [hes]; rfl, q2, bel2 hbw hu⟩
        case measure => simp [vnat]; omega
    · have hkk : k = l.length := by omega
      subst hkk
      have hki : ¬ ((l.length : Int) < (l.length : Int)) := by omega
      rw [List.take_length] at hall
      have e2 : cvE n f l = 0 := by unfold cvE; rw [if_pos ⟨hn, by omega, by omega⟩, hall]; rfl
      obtain rfl : CE = 0 := by rw [← hCE, e2]
      obtain ⟨m, hm, hm1⟩ : ∃ m : Nat, n = (m : Int) ∧ m ≤ 100 := ⟨n.toNat, by omega, by omega⟩
      subst hm
      have hRR : covTo l f m = CN := by rw [← hCN]; unfold cvN; rw [if_pos e2, Int.toNat_natCast]
      clear hCE hCN e2 hall
      obtain ⟨u2, hu2⟩ : ∃ u2, wr.alloc (.cells #[.int .u32 0, .int .u32 0, .int .u32 0, .int .u32 0] 26) = u2 := ⟨_, rfl⟩
      have k1 : Holds4 u2 wr.heap.size (wd 0) := by rw [← hu2, show wd 0 = (fun _ => 0) by funext j; exact wd_zero j]; exact new_at rfl
      have k2 : Holds4 u2 w.heap.size (fun _ => 0) := by rw [← hu2]; exact old_at q1
      have k3 : Below w.heap.size w u2 := by rw [← hu2]; exact bel2 hbw (al1' _ _)
      have k4 : w.heap.size < wr.heap.size := q1.lt
      go_wp2
      obtain ⟨b9, hb9⟩ : ∃ b9, wr.heap.size = b9 := ⟨_, rfl⟩
      rw [hb9] at k1 k4 ⊢
      clear q1 hu2 hbw
      go_loopw [10] (fun c wz => ∃ i : Nat, c = .int .i64 i ∧ i ≤ m ∧ Holds4 wz w.heap.size (fun _ => 0) ∧ Holds4 wz b9 (wd (covTo l f i)) ∧ Below w.heap.size w wz) (fun c _ => m - vnat c)
      case atStart => exact ⟨0, rfl, Nat.zero_le _, k2, k1, k3⟩
      case round =>
        obtain ⟨id, rfl, hid, p1, p2, hbz⟩ := hrel
        by_cases hil : id < m
        · have hii : (id : Int) < (m : Int) := by omega
          go_wp2
          go_loopw [11, 12] (fun kk c wz => ∃ j : Nat, c = .int .i64 j ∧ j ≤ l.length ∧ kk = .int .i64 ((tms (l.take j) id : Nat) : Int) ∧ Holds4 wz w.heap.size (fun _ => 0) ∧ Holds4 wz b9 (wd (covTo l f id)) ∧ Below w.heap.size w wz) (fun _ c _ => l.length - vnat c)
          case atStart => exact ⟨0, rfl, Nat.zero_le _, rfl, p1, p2, hbz⟩
          case round =>
            obtain ⟨j, rfl, hj, rfl, p1, p2, hbz⟩ := hrel
            by_cases hjl : j < l.length
            · have hji : (j : Int) < (l.length : Int) := by omega
              have hne : l ≠ [] := fun e => by subst e; simp at hjl
              obtain ⟨b, off, rfl, hgl, hat⟩ := h hne
              obtain ⟨x, hx⟩ : ∃ x, l[j]? = some x := ⟨_, List.getElem?_eq_getElem hjl⟩
              have hix := idx_s b off l.length cap j hjl
              obtain ⟨c0, c1, c2, c3⟩ := (hat.carry (hbz.block _ hgl)) j x hx
              have hha := rHas_any x (id : Int)
              have hhb : hasB x (id : Int) = x.testBit id := by unfold hasB; simp [show (id : Int) < 100 by omega]
              rw [hhb] at hha
              have hes := tms_succ l j x id hx
              have htl : tms (l.take j) id ≤ 1000000 := Nat.le_trans (tms_le _ _) (by rw [List.length_take]; omega)
              obtain ⟨TK, hTK⟩ : ∃ TK, tms (l.take j) id = TK := ⟨_, rfl⟩
              rw [hTK] at hes htl ⊢
              have hadd := i64_id ((TK : Int) + 1) (by omega) (by omega)
              have HES := hes
              clear hes hTK hhb
              simp only [sv] at hha
              cases hxb : x.testBit id with
              | false =>
                rw [hxb] at hha HES
                have HE0 : tms (l.take (j + 1)) id = TK := by simpa using HES
                have HE : Hid (tms (l.take (j + 1)) id = TK) := HE0
                clear HE0
                clear HES
                go_wp2_with (go_at_call 16; (with_reducible refine (hha _).mono ?_); rintro e u ⟨rfl, hu⟩)
                go_roundw
                case rel => exact ⟨j + 1, by simp, by omega, by rw [HE.out], p1.carry hu, p2.carry hu, bel2 hbz hu⟩
                case measure => simp [vnat]; omega
              | true =>
                rw [hxb] at hha HES
                have HE0 : tms (l.take (j + 1)) id = TK + 1 := by simpa using HES
                have HE : Hid (tms (l.take (j + 1)) id = TK + 1) := HE0
                clear HE0
                clear HES
                go_wp2_with (go_at_call 16; (with_reducible refine (hha _).mono ?_); rintro e u ⟨rfl, hu⟩)
                go_roundw
                case rel => exact ⟨j + 1, by simp, by omega, by rw [HE.out]; simp, p1.carry hu, p2.carry hu, bel2 hbz hu⟩
                case measure => simp [vnat]; omega
            · have hjj : j = l.length := by omega
              subst hjj
              have hji : ¬ ((l.length : Int) < (l.length : Int)) := by omega
              rw [List.take_length]
              have hes : covTo l f (id + 1) = if f < (tms l id : Int) then covTo l f id ||| 2 ^ id else covTo l f id := rfl
              have hS := covTo_S l f (show id ≤ 100 by omega)
              obtain ⟨TK, hTK⟩ : ∃ TK, tms l id = TK := ⟨_, rfl⟩
              rw [hTK] at hes ⊢
              obtain ⟨M, hM⟩ : ∃ M, covTo l f id = M := ⟨_, rfl⟩
              rw [hM] at hes p2 hS
              by_cases hf : (TK : Int) > f
              · have hwi := rPut_any M hS id (by omega)
                rw [if_pos (show f < (TK : Int) from hf)] at hes
                have HES : Hid (covTo l f (id + 1) = M ||| 2 ^ id) := hes
                obtain ⟨M2, hM2⟩ : ∃ M2, M ||| 2 ^ id = M2 := ⟨_, rfl⟩
                rw [hM2] at HES
                simp only [hM2] at hwi
                clear hes hM2 hM hTK
                simp only [sv] at hwi
                go_wp2_with (first
                  | (refine wpList_load_row rfl 26 (.tmp 9) rfl b9 rfl 26 _ (0, 0) _ p2 Tryd.underlying26 rfl infoS ?_)
                  | (go_at_call 17; refine (hwi _).mono ?_; rintro e v ⟨rfl, hb⟩; have r2 := p2.carry hb; have r1 := p1.carry hb; have r4 := bel2 hbz hb)
                  | (refine wpList_store_row rfl 26 (.tmp 9) (.tmp 67) rfl b9 (cells4 (wd M2)) rfl rfl 26 _ r2 infoS rfl (by simp [cells4, Value.oneCell']) ?_))
                go_roundw
                case rel => exact ⟨id + 1, by simp, by omega, hold_row r1 (by omega) _, by rw [HES.out]; exact setRow_heap _ _ _ _ _ _ r2, below_row r4 (by omega) _⟩
                case measure => simp [vnat]; omega
              · rw [if_neg (show ¬ f < (TK : Int) from hf)] at hes
                have HES : Hid (covTo l f (id + 1) = M) := hes
                clear hes hM hTK
                go_wp2
                go_roundw
                case rel => exact ⟨id + 1, by simp, by omega, p1, by rw [HES.out]; exact p2, hbz⟩
                case measure => simp [vnat]; omega
        · have hii : id = m := by omega
          subst hii
          have hij : ¬ ((id : Int) < (id : Int)) := by omega
          rw [hRR] at p2
          obtain ⟨y0, y1, y2, y3, z0, z1, z2, z3⟩ := p1.facts
          obtain ⟨x0, x1, x2, x3, _⟩ := p2.facts
          have H1 : Hid (Holds4 wr w.heap.size (fun _ => 0)) := p1
          clear p1 p2
          go_wp2
          exact ret4t rfl rfl rfl rfl (fin4 H1.out _) ⟨rfl, below4 hbz (Nat.le_refl _) _⟩
end Go.Proofs.YtgehmidalfajgabDoor
