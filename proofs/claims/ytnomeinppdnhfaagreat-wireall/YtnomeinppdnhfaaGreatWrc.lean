/- wire.addNumber, addSet, and the small ones: what they answer. -/
import Derived.Test.YtnomeinppdnhfaaGreatWrb
import Derived.Maps.AppendAt
import Derived.OwnWalk
import Derived.Laws.OwnMore
namespace Go.Proofs.YtnomeinppdnhfaaGreat
open Go.RowKit Go.Shelf

theorem infoB : (Tryz.prog.info? 5).map (fun i => (i.zero, i.size, i.bytes)) = some (some (.int .u8 0), 1, 1) := by kernel_rfl
theorem info_partsB : ∃ i, Tryz.prog.info? 5 = some i ∧ i.zero = some (.int .u8 0) ∧ i.size = 1 ∧ i.bytes = 1 := by
  have h := infoB
  cases hi : Tryz.prog.info? 5 with
  | none => rw [hi] at h; cases h
  | some i =>
    rw [hi] at h
    simp only [Option.map_some, Option.some.injEq, Prod.mk.injEq] at h
    exact ⟨i, rfl, h.1, h.2.1, h.2.2⟩
theorem row_below {w w' : World} {base : Nat} {e : TypeId} {size : Nat} {v : Value} {n : Nat} {xs : List Value} (h : w.ownsRow base e size v n xs) (hb : Below w.heap.size w w') : w'.ownsRow base e size v n xs := by
  obtain ⟨h1, h2⟩ := h
  refine ⟨h1, ?_⟩
  rcases h2 with h2 | ⟨g, cap, cur, h3, h4, h5, h6⟩
  · exact .inl h2
  · exact .inr ⟨g, cap, cur, h3, h4, (hb.block g (lt_at h5)).trans h5, h6⟩
theorem bs1 (W : World) (x : Int) : (Instr.buildSlice 46 1 #[(0, .int .u8 x)]).run Tryz.prog W = .ok (.slice (some ⟨W.heap.size, 0, none⟩) 1 1) (W.alloc (.cells #[.int .u8 x] 5)) := by
  go_simp
theorem bs2 (W : World) (x y : Int) : (Instr.buildSlice 46 2 #[(0, .int .u8 x), (1, .int .u8 y)]).run Tryz.prog W = .ok (.slice (some ⟨W.heap.size, 0, none⟩) 2 2) (W.alloc (.cells #[.int .u8 x, .int .u8 y] 5)) := by
  go_simp
theorem bs3 (W : World) (x y z : Int) : (Instr.buildSlice 46 3 #[(0, .int .u8 x), (1, .int .u8 y), (2, .int .u8 z)]).run Tryz.prog W = .ok (.slice (some ⟨W.heap.size, 0, none⟩) 3 3) (W.alloc (.cells #[.int .u8 x, .int .u8 y, .int .u8 z] 5)) := by
  go_simp
theorem own_lt {w : World} {base : Nat} {e : TypeId} {size : Nat} {v : Value} {n : Nat} {xs : List Value} (h : w.ownsRow base e size v n xs) : ∀ g, v.ownBlock = some g → g < w.heap.size := by
  intro g hg
  rcases h.2 with ⟨rfl, _⟩ | ⟨g', cap, cur, rfl, h4, h5, _⟩
  · simp [Value.ownBlock] at hg
  · simp [Value.ownBlock] at hg
    subst hg
    exact lt_at h5
/-- The call's own bytes. -/
def OwB (W : World) (base : Nat) (v : Value) (l : List Nat) : Prop := W.ownsRow base 5 1 v l.length (cB l)
theorem OwB.out {W : World} {base : Nat} {v : Value} {l : List Nat} (h : OwB W base v l) : W.ownsRow base 5 1 v l.length (cB l) := h
theorem OwB.below {W W' : World} {base : Nat} {v : Value} {l : List Nat} (h : OwB W base v l) (hb : Below W.heap.size W W') : OwB W' base v l := row_below h hb
theorem owB_nil (W : World) (base : Nat) : OwB W base (.slice none 0 0) [] := ⟨rfl, .inl ⟨rfl, rfl⟩⟩
theorem byte_of (v k : Nat) : ((v : Int) / 2 ^ k) % 256 = ((v / 2 ^ k % 256 : Nat) : Int) := by
  have : ((2 : Int) ^ k) = ((2 ^ k : Nat) : Int) := by simp
  rw [this]
  simp
set_option maxHeartbeats 2000000 in
set_option maxRecDepth 100000 in
theorem addNumber_any (base : Nat) (b0 : Value) (L : List Nat) (v m : Nat) (w : World) (hbase : base ≤ w.heap.size) (h : OwB w base b0 L) (hL : L.length ≤ 100000) (hm : m ≤ 8) : Calls Tryz.prog 114 #[b0, .int .i64 (v : Int), .int .i64 (m : Int)] w fun e w' => ∃ b', e = .returned b' ∧ OwB w' base b' (L ++ numB v m) ∧ Below base w w' := by
  obtain ⟨ic, hic, hz0, hz1, hz2⟩ := info_partsB
  go_enter Tryz.func114, Tryz.ntmps114
  go_wp2
  go_loopw [0, 9] (fun b i wz => ∃ (k : Nat) (C : List Nat), i = .int .i64 k ∧ k ≤ m ∧ C.length = L.length + k ∧ Hid (C ++ numB v (m - k) = L ++ numB v m) ∧ OwB wz base b C ∧ Below base w wz) (fun _ i _ => m - vnatW i)
  case atStart => exact ⟨0, L, rfl, Nat.zero_le _, rfl, rfl, h, Below.refl _ _⟩
  case round =>
    obtain ⟨k, C, rfl, hk, hC, HC, hrow, hbw⟩ := hrel
    have hsw := hbw.size
    by_cases hkl : k < m
    · have hki : (k : Int) < (m : Int) := by omega
      obtain ⟨j, hj⟩ : ∃ j, m - k = j + 1 := ⟨m - k - 1, by omega⟩
      have HN : Hid ((C ++ [v / 2 ^ (8 * j) % 256]) ++ numB v (m - (k + 1)) = L ++ numB v m) := by
        show (C ++ [v / 2 ^ (8 * j) % 256]) ++ numB v (m - (k + 1)) = L ++ numB v m
        rw [← HC.out, hj, numB, List.append_assoc, show m - (k + 1) = j by omega]
        rfl
      have h8 : (8 : Int) * ((m : Int) - 1 - (k : Int)) = ((8 * j : Nat) : Int) := by omega
      have hby := byte_of v (8 * j)
      obtain ⟨D, hD⟩ : ∃ D : Nat, D = v / 2 ^ (8 * j) % 256 := ⟨_, rfl⟩
      rw [← hD] at hby HN
      clear hD
      unfold OwB at hrow
      clear h HC
      have hbs := bs1
      go_wp2_with (at_builtin; refine wpList_append_own _ rfl _ _ 46 rfl base 5 ic _ 1 1 Tryz.underlying46 hic hz0 hz1 hz2 rfl (by decide) _ C.length (cB C) rfl (hrow.alloc _) ⟨wr.heap.size, 0, none⟩ 1 1 [_] rfl rfl (rowN _ #[_] _) (by simp [Value.oneCell']) (by unfold maxLen; omega) (by omega) (by simp; omega) ?_; intro v' w2 hown' hgrow _)
      go_roundw
      case rel =>
        refine ⟨k + 1, C ++ [D], by simp, by omega, by simp [hC]; omega, HN, ?_, (hbw.alloc (by omega) _).grown hgrow (by simp; omega) (fun q e => own_block hrow q e)⟩
        unfold OwB
        rw [cB_app, List.length_append]
        exact hown'
      case measure => simp [vnatW]; omega
    · have hkk : k = m := by omega
      subst hkk
      have hki : ¬ ((k : Int) < (k : Int)) := by omega
      have HE : Hid (C = L ++ numB v k) := by have := HC.out; rw [Nat.sub_self, numB, List.append_nil] at this; exact this
      clear HC
      go_wp2
      go_ret
      exact ⟨_, rfl, HE.out ▸ hrow, hbw⟩
theorem hsz_le {n : Nat} (h : n ≤ 100) : hsz n ≤ 13 := by unfold hsz; omega
theorem heardSize_any (n : Nat) (hn : n ≤ 100) (w : World) : Calls Tryz.prog 88 #[.int .i64 (n : Int)] w fun e w' => e = .returned (.int .i64 (hsz n : Nat)) ∧ w' = w := by
  have h : (hsz n : Int) = ((n : Int) + 7) / 8 := by unfold hsz; omega
  rw [h]
  go_enter Tryz.func88, Tryz.ntmps88
  go_wp2
  go_ret
  exact ⟨by simp, rfl⟩
theorem isSize_any (n : Int) (w : World) : Calls Tryz.prog 24 #[.int .i64 n] w fun e w' => e = .returned (.bool (decide (1 ≤ n ∧ n ≤ 100))) ∧ w' = w := by
  by_cases h1 : 1 ≤ n
  · by_cases h2 : n ≤ 100
    · rw [decide_eq_true (And.intro h1 h2)]
      go_enter Tryz.func24, Tryz.ntmps24
      go_wp2
      go_ret
      exact ⟨by simp, rfl⟩
    · rw [decide_eq_false (fun q : 1 ≤ n ∧ n ≤ 100 => h2 q.2)]
      go_enter Tryz.func24, Tryz.ntmps24
      go_wp2
      go_ret
      exact ⟨by simp, rfl⟩
  · rw [decide_eq_false (fun q : 1 ≤ n ∧ n ≤ 100 => h1 q.1)]
    go_enter Tryz.func24, Tryz.ntmps24
    go_wp2
    go_ret
    exact ⟨by simp, rfl⟩
theorem isRound_any (n : Int) (w : World) : Calls Tryz.prog 84 #[.int .i64 n] w fun e w' => e = .returned (.bool (decide (1 ≤ n ∧ n ≤ 1099511627775))) ∧ w' = w := by
  by_cases h1 : 1 ≤ n
  · by_cases h2 : n ≤ 1099511627775
    · rw [decide_eq_true (And.intro h1 h2)]
      go_enter Tryz.func84, Tryz.ntmps84
      go_wp2
      go_ret
      exact ⟨by simp, rfl⟩
    · rw [decide_eq_false (fun q : 1 ≤ n ∧ n ≤ 1099511627775 => h2 q.2)]
      go_enter Tryz.func84, Tryz.ntmps84
      go_wp2
      go_ret
      exact ⟨by simp, rfl⟩
  · rw [decide_eq_false (fun q : 1 ≤ n ∧ n ≤ 1099511627775 => h1 q.1)]
    go_enter Tryz.func84, Tryz.ntmps84
    go_wp2
    go_ret
    exact ⟨by simp, rfl⟩
theorem hasRound_any (kd : Nat) (w : World) : Calls Tryz.prog 83 #[.int .i64 (kd : Int)] w fun e w' => e = .returned (.bool (decide (kd ≠ 3))) ∧ w' = w := by
  go_enter Tryz.func83, Tryz.ntmps83
  go_wp2
  go_ret
  refine ⟨?_, rfl⟩
  by_cases h : kd = 3
  · subst h; rfl
  · have h2 : (kd : Int) ≠ 3 := by omega
    simp [h, h2]
theorem hasHeard_any (kd : Nat) (w : World) : Calls Tryz.prog 85 #[.int .i64 (kd : Int)] w fun e w' => e = .returned (.bool (decide (kd = 2))) ∧ w' = w := by
  go_enter Tryz.func85, Tryz.ntmps85
  go_wp2
  go_ret
  refine ⟨?_, rfl⟩
  by_cases h : kd = 2
  · subst h; rfl
  · have h2 : (kd : Int) ≠ 2 := by omega
    simp [h, h2]
/-- A byte of a set's word. -/
theorem wd_byte (N i : Nat) : wd N (i / 4) / 2 ^ (8 * (i % 4)) % 256 = N / 2 ^ (8 * i) % 256 := by
  apply Nat.eq_of_testBit_eq
  intro j
  rw [show (256 : Nat) = 2 ^ 8 from rfl, Nat.testBit_mod_two_pow, Nat.testBit_mod_two_pow, Nat.testBit_div_two_pow, Nat.testBit_div_two_pow, testBit_wd]
  by_cases hj : j < 8
  · rw [decide_eq_true (show j + 8 * (i % 4) < 32 by omega), Bool.true_and, show 32 * (i / 4) + (j + 8 * (i % 4)) = j + 8 * i by omega]
  · simp [hj]
set_option maxHeartbeats 2000000 in
set_option maxRecDepth 100000 in
theorem addSet_any (base : Nat) (b0 : Value) (L : List Nat) (N n : Nat) (w : World) (hbase : base ≤ w.heap.size) (h : OwB w base b0 L) (hL : L.length ≤ 100000) (hn : n ≤ 100) : Calls Tryz.prog 115 #[b0, sv N, .int .i64 (n : Int)] w fun e w' => ∃ b', e = .returned b' ∧ OwB w' base b' (L ++ stB N 0 (hsz n)) ∧ Below base w w' := by
  obtain ⟨ic, hic, hz0, hz1, hz2⟩ := info_partsB
  have hhs := heardSize_any n hn
  have hm13 := hsz_le hn
  obtain ⟨m, hm⟩ : ∃ m, hsz n = m := ⟨_, rfl⟩
  rw [hm] at hhs hm13
  rw [hm]
  simp only [sv]
  have h0 : OwB (w.alloc (.cells #[.int .u32 (wd N 0 : Nat), .int .u32 (wd N 1 : Nat), .int .u32 (wd N 2 : Nat), .int .u32 (wd N 3 : Nat)] 41)) base b0 L := h.below (alloc_below w _)
  have hH0 : Holds4 (w.alloc (.cells #[.int .u32 (wd N 0 : Nat), .int .u32 (wd N 1 : Nat), .int .u32 (wd N 2 : Nat), .int .u32 (wd N 3 : Nat)] 41)) w.heap.size (wd N) := get_new rfl
  go_enter Tryz.func115, Tryz.ntmps115
  go_wp2_with (go_at_call 88; (with_reducible refine (hhs _).mono ?_); rintro e u1 ⟨rfl, rfl⟩)
  go_loopw [0, 10] (fun b i wz => ∃ (k : Nat) (C : List Nat), i = .int .i64 k ∧ k ≤ m ∧ C.length = L.length + k ∧ Hid (C ++ stB N k (m - k) = L ++ stB N 0 m) ∧ OwB wz base b C ∧ Holds4 wz w.heap.size (wd N) ∧ (∀ g, b.ownBlock = some g → g ≠ w.heap.size) ∧ Below base w wz) (fun _ i _ => m - vnatW i)
  case atStart => exact ⟨0, L, rfl, Nat.zero_le _, rfl, rfl, h0, hH0, fun g hg => Nat.ne_of_lt (own_lt h g hg), (Below.refl _ _).alloc hbase _⟩
  case round =>
    obtain ⟨k, C, rfl, hk, hC, HC, hrow, hH, hne, hbw⟩ := hrel
    have hsw := hbw.size
    by_cases hkl : k < m
    · have hki : (k : Int) < (m : Int) := by omega
      obtain ⟨j, hj⟩ : ∃ j, m - k = j + 1 := ⟨m - k - 1, by omega⟩
      have HN : Hid ((C ++ [N / 2 ^ (8 * k) % 256]) ++ stB N (k + 1) (m - (k + 1)) = L ++ stB N 0 m) := by
        show (C ++ [N / 2 ^ (8 * k) % 256]) ++ stB N (k + 1) (m - (k + 1)) = L ++ stB N 0 m
        rw [← HC.out, hj, stB, List.append_assoc, show m - (k + 1) = j by omega]
        rfl
      have hwb := wd_byte N k
      obtain ⟨q, hq⟩ : ∃ q, k / 4 = q := ⟨_, rfl⟩
      obtain ⟨r, hr⟩ : ∃ r, k % 4 = r := ⟨_, rfl⟩
      have hqi : (k : Int) / 4 = (q : Int) := by omega
      have hri : (k : Int) % 4 = (r : Int) := by omega
      have hq4 : (q : Int) < 4 := by omega
      have hr8 : 8 * r < 32 := by omega
      rw [hq, hr] at hwb
      have hby := byte_of (wd N q) (8 * r)
      obtain ⟨D, hD⟩ : ∃ D : Nat, D = N / 2 ^ (8 * k) % 256 := ⟨_, rfl⟩
      rw [← hD] at hwb HN
      rw [hwb] at hby
      have c0 := hH.cell q (by omega)
      obtain ⟨V, hV⟩ : ∃ V, wd N q = V := ⟨_, rfl⟩
      rw [hV] at hby c0
      unfold OwB at hrow
      have hbs := bs1
      have HH : Hid (Holds4 wr w.heap.size (wd N)) := hH
      have hwl := hH.lt
      clear h HC hD hwb hV hH hH0 h0 hhs
      go_wp2_with (at_builtin; refine wpList_append_own_at _ rfl _ _ 46 rfl base 5 ic _ 1 1 Tryz.underlying46 hic hz0 hz1 hz2 rfl (by decide) _ C.length (cB C) rfl (hrow.alloc _) ⟨wr.heap.size, 0, none⟩ 1 1 [_] rfl rfl (rowN _ #[_] _) (by simp [Value.oneCell']) (by unfold maxLen; omega) (by omega) (by simp; omega) ?_; intro v' w2 hown' hgrow _ hob)
      go_roundw
      case rel =>
        refine ⟨k + 1, C ++ [D], by simp, by omega, by simp [hC]; omega, HN, ?_, ?_, ?_, (hbw.alloc (by omega) _).grown hgrow (by simp; omega) (fun q e => own_block hrow q e)⟩
        · unfold OwB
          rw [cB_app, List.length_append]
          exact hown'
        · exact (hgrow.block _ (by simp; omega) (fun e => hne _ e.symm rfl)).trans (get_old HH.out)
        · intro g hg
          rcases hob with e | e
          · exact hne g (e ▸ hg)
          · rw [e] at hg
            simp at hg
            omega
      case measure => simp [vnatW]; omega
    · have hkk : k = m := by omega
      subst hkk
      have hki : ¬ ((k : Int) < (k : Int)) := by omega
      have HE : Hid (C = L ++ stB N 0 k) := by have := HC.out; rw [Nat.sub_self, stB, List.append_nil] at this; exact this
      clear HC h0 hH0 hhs
      go_wp2
      go_ret
      exact ⟨_, rfl, HE.out ▸ hrow, hbw⟩
end Go.Proofs.YtnomeinppdnhfaaGreat
