/- tally's New; alive: what they answer. -/
import Derived.Test.YtgehmidalfajgaaDoorTye
namespace Go.Proofs.YtgehmidalfajgaaDoor
open Go.RowKit Go.Shelf

theorem i64_id (x : Int) (h1 : -9223372036854775808 ≤ x) (h2 : x ≤ 9223372036854775807) : IntKind.i64.wrap x = x := by
  rw [IntKind.wrap_i64]
  omega
/-- The error that New tells. -/
def nwE (n f self ro : Int) (N : Nat) : Int := if n < 1 ∨ 100 < n ∨ f < 0 ∨ n ≤ f then 1 else if isN self n = false then 30 else if ro < 1 ∨ 1099511627775 < ro then 73 else if wthB N n = false then 74 else 0
def tl0 (n f ro : Int) : Tl := ⟨n, n - f, ro, 0, []⟩
def nwT (n f self ro : Int) (N : Nat) : Tl := cntT (tl0 n f ro) self N
theorem new_tl0 (u : World) (n f ro : Int) : (u.alloc (.cells #[.int .i64 n, .int .i64 (n - f), .int .i64 ro, .int .u32 0, .int .u32 0, .int .u32 0, .int .u32 0, .slice none 0 0] 67)).heap[u.heap.size]? = some (.cells (taC (tl0 n f ro) (.slice none (tl0 n f ro).hs.length 0)) 67 (0, 0)) := by
  rw [show taC (tl0 n f ro) (.slice none (tl0 n f ro).hs.length 0) = #[.int .i64 n, .int .i64 (n - f), .int .i64 ro, .int .u32 0, .int .u32 0, .int .u32 0, .int .u32 0, .slice none 0 0] by simp [taC, tl0, wd]]
  exact new_at rfl
theorem nw_ok {n f self ro : Int} {N : Nat} (h : nwE n f self ro N = 0) : 1 ≤ n ∧ n ≤ 100 ∧ 0 ≤ f ∧ f < n ∧ isN self n = true ∧ 1 ≤ ro ∧ ro ≤ 1099511627775 ∧ wthB N n = true := by
  unfold nwE at h
  repeat' split at h
  all_goals first | omega | skip
  rename_i h1 h2 h3 h4
  refine ⟨by omega, by omega, by omega, by omega, by simpa using h2, by omega, by omega, by simpa using h4⟩
theorem Tv.new {n f self ro : Int} {N : Nat} (hN : N < S128) (h : nwE n f self ro N = 0) : Tv (nwT n f self ro N) := by
  obtain ⟨h1, h2, h3, h4, h5, _⟩ := nw_ok h
  refine ⟨by simp only [nwT, cntT, tl0]; omega, by simp only [nwT, cntT, tl0]; omega, by simp only [nwT, cntT, tl0]; omega, by simp only [nwT, cntT, tl0]; omega, by simp only [nwT, cntT, tl0]; omega, ?_, wthN_lt _ _, fun M hM => ?_⟩
  · simp only [nwT, cntT, tl0, List.nil_append, List.length_cons, List.length_nil]
    omega
  · simp [nwT, cntT, tl0] at hM
    subst hM
    exact hN
set_option maxHeartbeats 4000000 in
set_option maxRecDepth 100000 in
theorem new_no (n f self ro : Int) (N : Nat) (hN : N < S128) (he : nwE n f self ro N ≠ 0) (W : World) : Calls Tryd.prog 8 #[.int .i64 n, .int .i64 f, .int .i64 self, .int .i64 ro, sv N] W fun e w' => e = .returned (.tuple #[.pointer none, .int .i64 (nwE n f self ro N)]) ∧ Below W.heap.size W w' := by
  obtain ⟨w1, hw1⟩ : ∃ w1, W.alloc (.cells #[.int .u32 (wd N 0 : Nat), .int .u32 (wd N 1 : Nat), .int .u32 (wd N 2 : Nat), .int .u32 (wd N 3 : Nat)] 27) = w1 := ⟨_, rfl⟩
  have hb1 : Below W.heap.size W w1 := by rw [← hw1]; exact al1' _ _
  have g1 : Holds4 w1 W.heap.size (wd N) := by rw [← hw1]; exact new_at rfl
  obtain ⟨y0, y1, y2, y3, _⟩ := g1.facts
  clear g1
  have hwi := within_any N hN n w1
  have his := isNode_any self n w1
  by_cases c1 : n < 1
  · rw [show nwE n f self ro N = 1 by unfold nwE; rw [if_pos (by omega)]]
    simp only [sv]
    go_enter Tryd.func8, Tryd.ntmps8
    go_wp2
    go_ret2
    exact ⟨rfl, hb1⟩
  by_cases c2 : 100 < n
  · rw [show nwE n f self ro N = 1 by unfold nwE; rw [if_pos (by omega)]]
    simp only [sv]
    go_enter Tryd.func8, Tryd.ntmps8
    go_wp2
    go_ret2
    exact ⟨rfl, hb1⟩
  by_cases c3 : f < 0
  · rw [show nwE n f self ro N = 1 by unfold nwE; rw [if_pos (by omega)]]
    simp only [sv]
    go_enter Tryd.func8, Tryd.ntmps8
    go_wp2
    go_ret2
    exact ⟨rfl, hb1⟩
  by_cases c4 : n ≤ f
  · rw [show nwE n f self ro N = 1 by unfold nwE; rw [if_pos (by omega)]]
    simp only [sv]
    go_enter Tryd.func8, Tryd.ntmps8
    go_wp2
    go_ret2
    exact ⟨rfl, hb1⟩
  have hE1 : nwE n f self ro N = if isN self n = false then 30 else if ro < 1 ∨ 1099511627775 < ro then 73 else if wthB N n = false then 74 else 0 := by unfold nwE; rw [if_neg (by omega)]
  rw [hE1] at he ⊢
  clear hE1
  cases hs : isN self n with
  | false =>
    rw [hs] at his
    simp only [if_true, sv]
    go_enter Tryd.func8, Tryd.ntmps8
    go_wp2_with (go_at_call 30; (with_reducible refine his.mono ?_); rintro e u ⟨rfl, hu⟩; obtain rfl := hu.symm)
    go_ret2
    exact ⟨rfl, hb1⟩
  | true =>
    rw [hs] at his he
    by_cases c5 : ro < 1
    · rw [if_neg (by simp), if_pos (by omega)]
      simp only [sv]
      go_enter Tryd.func8, Tryd.ntmps8
      go_wp2_with (go_at_call 30; (with_reducible refine his.mono ?_); rintro e u ⟨rfl, hu⟩; obtain rfl := hu.symm)
      go_ret2
      exact ⟨rfl, hb1⟩
    by_cases c6 : 1099511627775 < ro
    · rw [if_neg (by simp), if_pos (by omega)]
      simp only [sv]
      go_enter Tryd.func8, Tryd.ntmps8
      go_wp2_with (go_at_call 30; (with_reducible refine his.mono ?_); rintro e u ⟨rfl, hu⟩; obtain rfl := hu.symm)
      go_ret2
      exact ⟨rfl, hb1⟩
    rw [if_neg (by simp), if_neg (by omega)] at he ⊢
    cases hb : wthB N n with
    | true => simp [hb] at he
    | false =>
      rw [hb] at hwi
      rw [if_pos rfl]
      simp only [sv] at hwi ⊢
      go_enter Tryd.func8, Tryd.ntmps8
      go_wp2_with (first | (go_at_call 30; (with_reducible refine his.mono ?_); rintro e u ⟨rfl, hu⟩; obtain rfl := hu.symm) | (go_at_call 31; (with_reducible refine hwi.mono ?_); rintro e u ⟨rfl, hu⟩))
      go_ret2
      exact ⟨rfl, bel2 hb1 hu⟩
set_option maxHeartbeats 4000000 in
set_option maxRecDepth 100000 in
theorem new_ok (n f self ro : Int) (N : Nat) (hN : N < S128) (he : nwE n f self ro N = 0) (W : World) : Calls Tryd.prog 8 #[.int .i64 n, .int .i64 f, .int .i64 self, .int .i64 ro, sv N] W fun e w' => ∃ q ad cap, e = .returned (.tuple #[.pointer (some ⟨q, 0, none⟩), .int .i64 0]) ∧ Ta w' W.heap.size q ad cap (nwT n f self ro N) ∧ Below W.heap.size W w' := by
  obtain ⟨h1, h2, h3, h4, h5, h6, h7, h8⟩ := nw_ok he
  obtain ⟨w1, hw1⟩ : ∃ w1, W.alloc (.cells #[.int .u32 (wd N 0 : Nat), .int .u32 (wd N 1 : Nat), .int .u32 (wd N 2 : Nat), .int .u32 (wd N 3 : Nat)] 27) = w1 := ⟨_, rfl⟩
  have hb1 : Below W.heap.size W w1 := by rw [← hw1]; exact al1' _ _
  have g1 : Holds4 w1 W.heap.size (wd N) := by rw [← hw1]; exact new_at rfl
  obtain ⟨y0, y1, y2, y3, _⟩ := g1.facts
  have G1 : Hid (Holds4 w1 W.heap.size (wd N)) := g1
  clear g1
  have hwi := within_any N hN n w1
  have his := isNode_any self n w1
  rw [h8] at hwi
  rw [h5] at his
  clear h8 h5 he
  have c1 : ¬ n < 1 := by omega
  have c2 : ¬ 100 < n := by omega
  have c3 : ¬ f < 0 := by omega
  have c4 : ¬ n ≤ f := by omega
  have c5 : ¬ ro < 1 := by omega
  have c6 : ¬ 1099511627775 < ro := by omega
  have hid := i64_id (n - f) (by omega) (by omega)
  simp only [sv] at hwi ⊢
  go_enter Tryd.func8, Tryd.ntmps8
  go_wp2_with (first
    | (go_at_call 30; (with_reducible refine his.mono ?_); rintro e u ⟨rfl, hu⟩; obtain rfl := hu.symm)
    | (go_at_call 31; (with_reducible refine hwi.mono ?_); rintro e u ⟨rfl, hu⟩; obtain ⟨u2, hu2⟩ : ∃ u2, u.alloc (.cells #[.int .i64 n, .int .i64 (n - f), .int .i64 ro, .int .u32 0, .int .u32 0, .int .u32 0, .int .u32 0, .slice none 0 0] 67) = u2 := ⟨_, rfl⟩; have hb2 : Hid (Below W.heap.size W u2) := (by rw [← hu2]; exact bel2 (bel2 hb1 hu) (al1' _ _)); have hT : Hid (Ta u2 W.heap.size u.heap.size none 0 (tl0 n f ro)) := (by rw [← hu2]; exact ⟨(bel2 hb1 hu).size, new_tl0 u n f ro, World.ownsRow_nil _ _ _ _⟩); have G2 : Hid (Holds4 u2 W.heap.size (wd N)) := (by rw [← hu2]; exact old_at (G1.out.carry hu)); obtain ⟨x0, x1, x2, x3, _⟩ := G2.out.facts; have hco := tcount_any hT.out hb2.out.size (by simp [tl0]) self N; simp only [sv] at hco)
    | (go_at_call 32; (with_reducible refine hco.mono ?_); rintro e u3 ⟨rfl, ad', cap', hT2, hn2⟩))
  go_ret2
  exact ⟨u.heap.size, ad', cap', rfl, hT2, hb2.out.trans (hT.out.below hn2)⟩
end Go.Proofs.YtgehmidalfajgaaDoor
