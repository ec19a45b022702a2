/- Slices of bytes; wire.Sum, numberOf, and the document's Sum, value: what they answer, at all bytes. -/
import Derived.Test.YtnkpohkodkjkfaaGreatDoorJpJ30
import Derived.Laws.Shifts
import Derived.Maps.AppendAt
import Derived.OwnWalk
import Derived.Laws.OwnMore
import Derived.Test.YtnkpohkodkjkfaaGreatDoorJpJ29
set_option maxHeartbeats 40000000
set_option maxRecDepth 100000
set_option linter.unusedVariables false
namespace Go.Proofs.YtnkpohkodkjkfaaGreatDoor
open Go.RowKit Go.Shelf

/-- The cells of bytes. -/
def cB (l : List Nat) : List Value := l.map fun (x : Nat) => .int .u8 (x : Int)
theorem cB_app (a b : List Nat) : cB (a ++ b) = cB a ++ cB b := by simp [cB]
theorem cB_get {l : List Nat} {k x : Nat} (h : l[k]? = some x) : (cB l)[k]? = some (.int .u8 (x : Int)) := by simp [cB, h]
/-- From there on these bytes lie. -/
def BAt (W : World) (b off : Nat) (l : List Nat) : Prop := ∀ (k x : Nat), l[k]? = some x → W.cell? ⟨b, off + k, none⟩ = some (.int .u8 (x : Int))
/-- A slice of these bytes. -/
def RdB (W : World) (ad : Option Addr) (l : List Nat) : Prop := l ≠ [] → ∃ b off, ad = some ⟨b, off, none⟩ ∧ b < W.heap.size ∧ BAt W b off l
theorem b_own {W : World} {base g n cap : Nat} {l : List Nat} (h : W.ownsRow base 5 1 (.slice (some ⟨g, 0, none⟩) n cap) n (cB l)) (hn : n = l.length) : BAt W g 0 l := by
  intro k x hk
  have hlt : k < l.length := (List.getElem?_eq_some_iff.1 hk).1
  rw [Nat.zero_add]
  exact (h.cellAt _ (by omega)).trans (cB_get hk)
theorem RdB.own {W : World} {base : Nat} {v : Value} {l : List Nat} (h : W.ownsRow base 5 1 v l.length (cB l)) : ∃ ad cap, v = .slice ad l.length cap ∧ RdB W ad l := by
  rcases own_form h with ⟨rfl, e⟩ | ⟨g, cap, rfl, h1, h2, h3⟩
  · exact ⟨none, 0, by rw [e], fun q => absurd (List.length_eq_zero_iff.1 e) q⟩
  · exact ⟨_, cap, rfl, fun _ => ⟨g, 0, rfl, h2, b_own h rfl⟩⟩
theorem get_lt {l : List Nat} {k : Nat} (h : k < l.length) : ∃ x, l[k]? = some x := ⟨_, List.getElem?_eq_getElem h⟩
theorem byt_get8 {l : List Nat} {k x : Nat} (h : Byt l) (hk : l[k]? = some x) : x < 256 := h x (List.mem_of_getElem? hk)
def vnatW (v : Value) : Nat := match v with | .int _ n => n.toNat | _ => 0
set_option maxHeartbeats 1000000 in
set_option maxRecDepth 100000 in
theorem sum_any (ad : Option Addr) (cap : Nat) (l : List Nat) (w : World) (h : RdB w ad l) (hb : Byt l) (hl : l.length ≤ 140737488355328) : Calls Tryz.prog 186 #[.slice ad l.length cap] w fun e w' => e = .returned (.int .i64 (sumV l : Nat)) ∧ w' = w := by
  obtain ⟨R, hR⟩ : ∃ R, sumF 1 0 l = R := ⟨_, rfl⟩
  have hlt := sumF_lt l 1 0 (by decide) (by decide)
  rw [sumV, hR]
  rw [hR] at hlt
  have HR : Hid (sumF 1 0 (l.drop 0) = R) := hR
  clear hR
  go_enter Tryz.func186, Tryz.ntmps186
  go_wp2
  go_loopw [3, 4, 9] (fun p q i wz => ∃ (k a b : Nat), p = .int .i64 a ∧ q = .int .i64 b ∧ i = .int .i64 k ∧ k ≤ l.length ∧ a < 65521 ∧ b < 65521 ∧ Hid (sumF a b (l.drop k) = R) ∧ wz = w) (fun _ _ i _ => l.length - vnatW i)
  case atStart => exact ⟨0, 1, 0, rfl, rfl, rfl, Nat.zero_le _, by decide, by decide, HR, rfl⟩
  case round =>
    obtain ⟨k, a, b, rfl, rfl, rfl, hk, ha, hbb, HK, rfl⟩ := hrel
    by_cases hkl : k < l.length
    · obtain ⟨g, off, e1, hbl, hat⟩ := h (fun e => by subst e; simp at hkl)
      subst e1
      obtain ⟨x, hx⟩ := get_lt hkl
      have c0 := hat k _ hx
      have hx8 := byt_get8 hb hx
      have HS := sumF_drop l k a b x hx
      rw [HK.out] at HS
      have HS2 : Hid (R = sumF ((a + x) % 65521) ((b + (a + x) % 65521) % 65521) (l.drop (k + 1))) := HS
      clear HS HK HR
      have hki : (k : Int) < (l.length : Int) := by omega
      go_wp2
      go_roundw
      case rel => exact ⟨k + 1, (a + x) % 65521, (b + (a + x) % 65521) % 65521, by simp, by simp, by simp, by omega, Nat.mod_lt _ (by decide), Nat.mod_lt _ (by decide), HS2.out.symm, trivial⟩
      case measure => simp [vnatW]; omega
    · have hkk : k = l.length := by omega
      subst hkk
      have hki : ¬ ((l.length : Int) < (l.length : Int)) := by omega
      have HE : Hid (R = (a, b)) := by have := HK.out; rw [List.drop_length] at this; exact this.symm
      clear HK HR h hb
      go_wp2
      go_ret
      rw [HE.out]
      exact ⟨by simp, rfl⟩

theorem infoB : (Tryz.prog.info? 5).map (fun i => (i.zero, i.size, i.bytes)) = some (some (.int .u8 0), 1, 1) := by kernel_rfl
theorem info_partsB : ∃ i, Tryz.prog.info? 5 = some i ∧ i.zero = some (.int .u8 0) ∧ i.size = 1 ∧ i.bytes = 1 := by
  have h := infoB
  cases hi : Tryz.prog.info? 5 with
  | none => rw [hi] at h; cases h
  | some i =>
    rw [hi] at h
    simp only [Option.map_some, Option.some.injEq, Prod.mk.injEq] at h
    exact ⟨i, rfl, h.1, h.2.1, h.2.2⟩
theorem row_belowQ {w w' : World} {base : Nat} {e : TypeId} {size : Nat} {v : Value} {n : Nat} {xs : List Value} (h : w.ownsRow base e size v n xs) (hb : Below w.heap.size w w') : w'.ownsRow base e size v n xs := by
  obtain ⟨h1, h2⟩ := h
  refine ⟨h1, ?_⟩
  rcases h2 with h2 | ⟨g, cap, cur, h3, h4, h5, h6⟩
  · exact .inl h2
  · exact .inr ⟨g, cap, cur, h3, h4, (hb.block g (lt_at h5)).trans h5, h6⟩
theorem bs1 (W : World) (x : Int) : (Instr.buildSlice 47 1 #[(0, .int .u8 x)]).run Tryz.prog W = .ok (.slice (some ⟨W.heap.size, 0, none⟩) 1 1) (W.alloc (.cells #[.int .u8 x] 5)) := by
  go_simp
theorem bs2 (W : World) (x y : Int) : (Instr.buildSlice 47 2 #[(0, .int .u8 x), (1, .int .u8 y)]).run Tryz.prog W = .ok (.slice (some ⟨W.heap.size, 0, none⟩) 2 2) (W.alloc (.cells #[.int .u8 x, .int .u8 y] 5)) := by
  go_simp
theorem bs3 (W : World) (x y z : Int) : (Instr.buildSlice 47 3 #[(0, .int .u8 x), (1, .int .u8 y), (2, .int .u8 z)]).run Tryz.prog W = .ok (.slice (some ⟨W.heap.size, 0, none⟩) 3 3) (W.alloc (.cells #[.int .u8 x, .int .u8 y, .int .u8 z] 5)) := by
  go_simp
theorem own_lt {w : World} {base : Nat} {e : TypeId} {size : Nat} {v : Value} {n : Nat} {xs : List Value} (h : w.ownsRow base e size v n xs) : ∀ g, v.ownBlock = some g → g < w.heap.size := by
  intro g hg
  rcases h.2 with ⟨rfl, _⟩ | ⟨g', cap, cur, rfl, h4, h5, _⟩
  · simp [Value.ownBlock] at hg
  · simp [Value.ownBlock] at hg
    subst hg
    exact lt_at h5
/-- The call's own bytes. -/
def OwB (W : World) (base : Nat) (v : Value) (l : List Nat) : Prop := W.ownsRow base 5 1 v l.length (cB l)
theorem OwB.out {W : World} {base : Nat} {v : Value} {l : List Nat} (h : OwB W base v l) : W.ownsRow base 5 1 v l.length (cB l) := h
theorem OwB.below {W W' : World} {base : Nat} {v : Value} {l : List Nat} (h : OwB W base v l) (hb : Below W.heap.size W W') : OwB W' base v l := row_belowQ h hb
theorem owB_nil (W : World) (base : Nat) : OwB W base (.slice none 0 0) [] := ⟨rfl, .inl ⟨rfl, rfl⟩⟩
theorem byte_of (v k : Nat) : ((v : Int) / 2 ^ k) % 256 = ((v / 2 ^ k % 256 : Nat) : Int) := by
  have : ((2 : Int) ^ k) = ((2 ^ k : Nat) : Int) := by simp
  rw [this]
  simp
set_option maxHeartbeats 2000000 in
set_option maxRecDepth 100000 in
theorem addNumber_any (base : Nat) (b0 : Value) (L : List Nat) (v m : Nat) (w : World) (hbase : base ≤ w.heap.size) (h : OwB w base b0 L) (hL : L.length ≤ 100000) (hm : m ≤ 8) : Calls Tryz.prog 182 #[b0, .int .i64 (v : Int), .int .i64 (m : Int)] w fun e w' => ∃ b', e = .returned b' ∧ OwB w' base b' (L ++ numB v m) ∧ Below base w w' := by
  obtain ⟨ic, hic, hz0, hz1, hz2⟩ := info_partsB
  go_enter Tryz.func182, Tryz.ntmps182
  go_wp2
  go_loopw [0, 9] (fun b i wz => ∃ (k : Nat) (C : List Nat), i = .int .i64 k ∧ k ≤ m ∧ C.length = L.length + k ∧ Hid (C ++ numB v (m - k) = L ++ numB v m) ∧ OwB wz base b C ∧ Below base w wz) (fun _ i _ => m - vnatW i)
  case atStart => exact ⟨0, L, rfl, Nat.zero_le _, rfl, rfl, h, Below.refl _ _⟩
  case round =>
    obtain ⟨k, C, rfl, hk, hC, HC, hrow, hbw⟩ := hrel
    have hsw := hbw.size
    by_cases hkl : k < m
    · have hki : (k : Int) < (m : Int) := by omega
      obtain ⟨j, hj⟩ : ∃ j, m - k = j + 1 := ⟨m - k - 1, by omega⟩
      have HN : Hid ((C ++ [v / 2 ^ (8 * j) % 256]) ++ numB v (m - (k + 1)) = L ++ numB v m) := by
        show (C ++ [v / 2 ^ (8 * j) % 256]) ++ numB v (m - (k + 1)) = L ++ numB v m
        rw [← HC.out, hj, numB, List.append_assoc, show m - (k + 1) = j by omega]
        rfl
      have h8 : (8 : Int) * ((m : Int) - 1 - (k : Int)) = ((8 * j : Nat) : Int) := by omega
      have hby := byte_of v (8 * j)
      obtain ⟨D, hD⟩ : ∃ D : Nat, D = v / 2 ^ (8 * j) % 256 := ⟨_, rfl⟩
      rw [← hD] at hby HN
      clear hD
      unfold OwB at hrow
      clear h HC
      have hbs := bs1
      go_wp2_with (at_builtin; refine wpList_append_own _ rfl _ _ 47 rfl base 5 ic _ 1 1 Tryz.underlying47 hic hz0 hz1 hz2 rfl (by decide) _ C.length (cB C) rfl (hrow.alloc _) ⟨wr.heap.size, 0, none⟩ 1 1 [_] rfl rfl (rowN _ #[_] _) (by simp [Value.oneCell']) (by unfold maxLen; omega) (by omega) (by simp; omega) ?_; intro v' w2 hown' hgrow _)
      go_roundw
      case rel =>
        refine ⟨k + 1, C ++ [D], by simp, by omega, by simp [hC]; omega, HN, ?_, (hbw.alloc (by omega) _).grown hgrow (by simp; omega) (fun q e => own_block hrow q e)⟩
        unfold OwB
        rw [cB_app, List.length_append]
        exact hown'
      case measure => simp [vnatW]; omega
    · have hkk : k = m := by omega
      subst hkk
      have hki : ¬ ((k : Int) < (k : Int)) := by omega
      have HE : Hid (C = L ++ numB v k) := by have := HC.out; rw [Nat.sub_self, numB, List.append_nil] at this; exact this
      clear HC
      go_wp2
      go_ret
      exact ⟨_, rfl, HE.out ▸ hrow, hbw⟩
theorem hsz_le {n : Nat} (h : n ≤ 100) : hsz n ≤ 13 := by unfold hsz; omega
theorem heardSize_any (n : Nat) (hn : n ≤ 100) (w : World) : Calls Tryz.prog 190 #[.int .i64 (n : Int)] w fun e w' => e = .returned (.int .i64 (hsz n : Nat)) ∧ w' = w := by
  have h : (hsz n : Int) = ((n : Int) + 7) / 8 := by unfold hsz; omega
  rw [h]
  go_enter Tryz.func190, Tryz.ntmps190
  go_wp2
  go_ret
  exact ⟨by simp, rfl⟩
theorem isSize_any (n : Int) (w : World) : Calls Tryz.prog 187 #[.int .i64 n] w fun e w' => e = .returned (.bool (decide (1 ≤ n ∧ n ≤ 100))) ∧ w' = w := by
  by_cases h1 : 1 ≤ n
  · by_cases h2 : n ≤ 100
    · rw [decide_eq_true (And.intro h1 h2)]
      go_enter Tryz.func187, Tryz.ntmps187
      go_wp2
      go_ret
      exact ⟨by simp, rfl⟩
    · rw [decide_eq_false (fun q : 1 ≤ n ∧ n ≤ 100 => h2 q.2)]
      go_enter Tryz.func187, Tryz.ntmps187
      go_wp2
      go_ret
      exact ⟨by simp, rfl⟩
  · rw [decide_eq_false (fun q : 1 ≤ n ∧ n ≤ 100 => h1 q.1)]
    go_enter Tryz.func187, Tryz.ntmps187
    go_wp2
    go_ret
    exact ⟨by simp, rfl⟩
theorem isRound_any (n : Int) (w : World) : Calls Tryz.prog 188 #[.int .i64 n] w fun e w' => e = .returned (.bool (decide (1 ≤ n ∧ n ≤ 1099511627775))) ∧ w' = w := by
  by_cases h1 : 1 ≤ n
  · by_cases h2 : n ≤ 1099511627775
    · rw [decide_eq_true (And.intro h1 h2)]
      go_enter Tryz.func188, Tryz.ntmps188
      go_wp2
      go_ret
      exact ⟨by simp, rfl⟩
    · rw [decide_eq_false (fun q : 1 ≤ n ∧ n ≤ 1099511627775 => h2 q.2)]
      go_enter Tryz.func188, Tryz.ntmps188
      go_wp2
      go_ret
      exact ⟨by simp, rfl⟩
  · rw [decide_eq_false (fun q : 1 ≤ n ∧ n ≤ 1099511627775 => h1 q.1)]
    go_enter Tryz.func188, Tryz.ntmps188
    go_wp2
    go_ret
    exact ⟨by simp, rfl⟩
theorem hasRound_any (kd : Nat) (w : World) : Calls Tryz.prog 183 #[.int .i64 (kd : Int)] w fun e w' => e = .returned (.bool (decide (kd ≠ 3))) ∧ w' = w := by
  go_enter Tryz.func183, Tryz.ntmps183
  go_wp2
  go_ret
  refine ⟨?_, rfl⟩
  by_cases h : kd = 3
  · subst h; rfl
  · have h2 : (kd : Int) ≠ 3 := by omega
    simp [h, h2]
theorem hasHeard_any (kd : Nat) (w : World) : Calls Tryz.prog 184 #[.int .i64 (kd : Int)] w fun e w' => e = .returned (.bool (decide (kd = 2))) ∧ w' = w := by
  go_enter Tryz.func184, Tryz.ntmps184
  go_wp2
  go_ret
  refine ⟨?_, rfl⟩
  by_cases h : kd = 2
  · subst h; rfl
  · have h2 : (kd : Int) ≠ 2 := by omega
    simp [h, h2]
/-- A byte of a set's word. -/
theorem wd_byte (N i : Nat) : wd N (i / 4) / 2 ^ (8 * (i % 4)) % 256 = N / 2 ^ (8 * i) % 256 := by
  apply Nat.eq_of_testBit_eq
  intro j
  rw [show (256 : Nat) = 2 ^ 8 from rfl, Nat.testBit_mod_two_pow, Nat.testBit_mod_two_pow, Nat.testBit_div_two_pow, Nat.testBit_div_two_pow, testBit_wd]
  by_cases hj : j < 8
  · rw [decide_eq_true (show j + 8 * (i % 4) < 32 by omega), Bool.true_and, show 32 * (i / 4) + (j + 8 * (i % 4)) = j + 8 * i by omega]
  · simp [hj]
set_option maxHeartbeats 2000000 in
set_option maxRecDepth 100000 in
theorem addSet_any (base : Nat) (b0 : Value) (L : List Nat) (N n : Nat) (w : World) (hbase : base ≤ w.heap.size) (h : OwB w base b0 L) (hL : L.length ≤ 100000) (hn : n ≤ 100) : Calls Tryz.prog 185 #[b0, sv N, .int .i64 (n : Int)] w fun e w' => ∃ b', e = .returned b' ∧ OwB w' base b' (L ++ stB N 0 (hsz n)) ∧ Below base w w' := by
  obtain ⟨ic, hic, hz0, hz1, hz2⟩ := info_partsB
  have hhs := heardSize_any n hn
  have hm13 := hsz_le hn
  obtain ⟨m, hm⟩ : ∃ m, hsz n = m := ⟨_, rfl⟩
  rw [hm] at hhs hm13
  rw [hm]
  simp only [sv]
  have h0 : OwB (w.alloc (.cells #[.int .u32 (wd N 0 : Nat), .int .u32 (wd N 1 : Nat), .int .u32 (wd N 2 : Nat), .int .u32 (wd N 3 : Nat)] 24)) base b0 L := h.below (alloc_below w _)
  have hH0 : Holds4 (w.alloc (.cells #[.int .u32 (wd N 0 : Nat), .int .u32 (wd N 1 : Nat), .int .u32 (wd N 2 : Nat), .int .u32 (wd N 3 : Nat)] 24)) w.heap.size (wd N) := get_newQ rfl
  go_enter Tryz.func185, Tryz.ntmps185
  go_wp2_with (go_at_call 190; (with_reducible refine (hhs _).mono ?_); rintro e u1 ⟨rfl, rfl⟩)
  go_loopw [0, 10] (fun b i wz => ∃ (k : Nat) (C : List Nat), i = .int .i64 k ∧ k ≤ m ∧ C.length = L.length + k ∧ Hid (C ++ stB N k (m - k) = L ++ stB N 0 m) ∧ OwB wz base b C ∧ Holds4 wz w.heap.size (wd N) ∧ (∀ g, b.ownBlock = some g → g ≠ w.heap.size) ∧ Below base w wz) (fun _ i _ => m - vnatW i)
  case atStart => exact ⟨0, L, rfl, Nat.zero_le _, rfl, rfl, h0, hH0, fun g hg => Nat.ne_of_lt (own_lt h g hg), (Below.refl _ _).alloc hbase _⟩
  case round =>
    obtain ⟨k, C, rfl, hk, hC, HC, hrow, hH, hne, hbw⟩ := hrel
    have hsw := hbw.size
    by_cases hkl : k < m
    · have hki : (k : Int) < (m : Int) := by omega
      obtain ⟨j, hj⟩ : ∃ j, m - k = j + 1 := ⟨m - k - 1, by omega⟩
      have HN : Hid ((C ++ [N / 2 ^ (8 * k) % 256]) ++ stB N (k + 1) (m - (k + 1)) = L ++ stB N 0 m) := by
        show (C ++ [N / 2 ^ (8 * k) % 256]) ++ stB N (k + 1) (m - (k + 1)) = L ++ stB N 0 m
        rw [← HC.out, hj, stB, List.append_assoc, show m - (k + 1) = j by omega]
        rfl
      have hwb := wd_byte N k
      obtain ⟨q, hq⟩ : ∃ q, k / 4 = q := ⟨_, rfl⟩
      obtain ⟨r, hr⟩ : ∃ r, k % 4 = r := ⟨_, rfl⟩
      have hqi : (k : Int) / 4 = (q : Int) := by omega
      have hri : (k : Int) % 4 = (r : Int) := by omega
      have hq4 : (q : Int) < 4 := by omega
      have hr8 : 8 * r < 32 := by omega
      rw [hq, hr] at hwb
      have hby := byte_of (wd N q) (8 * r)
      obtain ⟨D, hD⟩ : ∃ D : Nat, D = N / 2 ^ (8 * k) % 256 := ⟨_, rfl⟩
      rw [← hD] at hwb HN
      rw [hwb] at hby
      have c0 := hH.cell q (by omega)
      obtain ⟨V, hV⟩ : ∃ V, wd N q = V := ⟨_, rfl⟩
      rw [hV] at hby c0
      unfold OwB at hrow
      have hbs := bs1
      have HH : Hid (Holds4 wr w.heap.size (wd N)) := hH
      have hwl := hH.lt
      clear h HC hD hwb hV hH hH0 h0 hhs
      go_wp2_with (at_builtin; refine wpList_append_own_at _ rfl _ _ 47 rfl base 5 ic _ 1 1 Tryz.underlying47 hic hz0 hz1 hz2 rfl (by decide) _ C.length (cB C) rfl (hrow.alloc _) ⟨wr.heap.size, 0, none⟩ 1 1 [_] rfl rfl (rowN _ #[_] _) (by simp [Value.oneCell']) (by unfold maxLen; omega) (by omega) (by simp; omega) ?_; intro v' w2 hown' hgrow _ hob)
      go_roundw
      case rel =>
        refine ⟨k + 1, C ++ [D], by simp, by omega, by simp [hC]; omega, HN, ?_, ?_, ?_, (hbw.alloc (by omega) _).grown hgrow (by simp; omega) (fun q e => own_block hrow q e)⟩
        · unfold OwB
          rw [cB_app, List.length_append]
          exact hown'
        · exact (hgrow.block _ (by simp; omega) (fun e => hne _ e.symm rfl)).trans (get_oldQ HH.out)
        · intro g hg
          rcases hob with e | e
          · exact hne g (e ▸ hg)
          · rw [e] at hg
            simp at hg
            omega
      case measure => simp [vnatW]; omega
    · have hkk : k = m := by omega
      subst hkk
      have hki : ¬ ((k : Int) < (k : Int)) := by omega
      have HE : Hid (C = L ++ stB N 0 k) := by have := HC.out; rw [Nat.sub_self, stB, List.append_nil] at this; exact this
      clear HC h0 hH0 hhs
      go_wp2
      go_ret
      exact ⟨_, rfl, HE.out ▸ hrow, hbw⟩
end Go.Proofs.YtnkpohkodkjkfaaGreatDoor
namespace Go.Proofs.YtnkpohkodkjkfaaGreatDoor
open Go.RowKit Go.Shelf Go.Lib

abbrev N3t := Int × Int × Int
/-- The words of some notices, between their marks, from the place i on. -/
structure NwA (L : List Int) (l : List Tk4) (i : Nat) (ns : List N3t) : Prop where
  beg : ∃ x : Tk4, l[i]? = some x ∧ (x.1 == 5 && x.2.1.toList == [91]) = true
  fin : ∃ x : Tk4, l[i + 1 + 3 * ns.length]? = some x ∧ x.1 = 5 ∧ x.2.1.toList = [93] ∧ x.2.1.size ≤ 100000
  nt : ∀ k o t q, ns[k]? = some (o, t, q) → ∃ x y z : Tk4, l[i + 1 + 3 * k]? = some x ∧ l[i + 1 + 3 * k + 1]? = some y ∧ l[i + 1 + 3 * k + 1 + 1]? = some z ∧ x.1 = 2 ∧ ((starts x.2.1).length : Int) = 1 ∧ ((rn x.2.1 0 : Nat) : Int) ∈ L ∧ ((L.idxOf ((rn x.2.1 0 : Nat) : Int) : Nat) : Int) = o ∧ x.2.1.size ≤ 100000 ∧ ((y.1 == 5 && y.2.1.toList == [63]) || (y.1 == 5 && y.2.1.toList == [33])) = true ∧ y.2.1.size ≤ 100000 ∧ z.1 = 3 ∧ z.2.1.size ≤ 100000 ∧ rdP L (x.2.1 ++ y.2.1 ++ z.2.1) = (o, t, q, 0)
  rise : ∀ k (x y : N3t), ns[k]? = some x → ns[k + 1]? = some y → x.1 < y.1
theorem leq_no {x y : Operand} {a b : Int} (h : b < a) (w : World) : binRun Tryz.prog .leq 3 x y (.int .i64 a) (.int .i64 b) w = .ok (.bool false) w := by rw [bin_leq, decide_eq_false (by omega)]
theorem Ob.low {nb B : Nat} {w W V : World} (h : Ob nb w W) (hb : Below B W V) (h1 : w.heap.size ≤ B) : Ob nb w V := ⟨hb.os.trans h.os, hb.tape.trans h.tape, hb.output.trans h.output, Nat.le_trans h.size hb.size, fun q h3 h4 => (hb.block q (by omega)).trans (h.block q h3 h4)⟩
theorem ownsRow_ob {w w' : World} {nb base : Nat} {e : TypeId} {size : Nat} {v : Value} {n : Nat} {xs : List Value} (h : w.ownsRow base e size v n xs) (hk : Ob nb w w') (hne : ∀ g, v.ownBlock = some g → g ≠ nb) : w'.ownsRow base e size v n xs := by
  obtain ⟨h1, h2⟩ := h
  refine ⟨h1, ?_⟩
  rcases h2 with h2 | ⟨g, cap, cur, h3, h4, h5, h6⟩
  · exact .inl h2
  · exact .inr ⟨g, cap, cur, h3, h4, (hk.block g (lt_at h5) (hne g (by rw [h3]; rfl))).trans h5, h6⟩
/-- A word's box, and the reader's, while a notice's sign is looked at. -/
structure JW4 (b p nb wb : Nat) (sl mp : Value) (x : Tk4) (Z W : World) : Prop where
  below : Below Z.heap.size Z W
  rd : RdBx W b sl mp nb wb
  bx : W.heap[p]? = some (.cells (tkC x) 56 (0, 0))
theorem JW4.carry {b p nb wb : Nat} {sl mp : Value} {x : Tk4} {Z W V : World} (h : JW4 b p nb wb sl mp x Z W) (hb : Below W.heap.size W V) : JW4 b p nb wb sl mp x Z V := ⟨bel3 h.below hb, (hb.block _ (lt_at h.rd)).trans h.rd, (hb.block _ (lt_at h.bx)).trans h.bx⟩
def slN (v : Value) : Nat := match v with | .slice _ n _ => n | _ => 0
theorem own_slN {w : World} {base : Nat} {e : TypeId} {size : Nat} {v : Value} {n : Nat} {xs : List Value} (h : w.ownsRow base e size v n xs) : slN v = n := by
  obtain ⟨a, c, rfl, _⟩ := ownsRow_form h
  rfl
set_option maxHeartbeats 8000000 in
set_option maxRecDepth 100000 in
theorem news_ok {M : Nat} {sl mp : Value} {L : List Int} {nb wb : Nat} {l : List Tk4} {i : Nat} {w : World} (hE : En M L sl mp nb w) (h : Tk nb wb l i w) (ns : List N3t) (hA : NwA L l i ns) (hn : ns.length ≤ 1000) (hl : l.length ≤ 1000000) : Calls Tryz.prog 81 #[.agg #[sl, mp, rdF nb wb]] w fun e w' => ∃ v, e = .returned v ∧ w'.ownsRow w.heap.size 99 3 v ns.length (fl ns) ∧ Tk nb wb l (i + 1 + 3 * ns.length + 1) w' ∧ Ob nb w w' := by
  have hmx : Tryz.prog.follows .mixedOrders = true := by kernel_rfl
  obtain ⟨W1, hW1⟩ : ∃ W1, w.alloc (.cells #[sl, mp, rdF nb wb] 84) = W1 := ⟨_, rfl⟩
  have hb1 : Below w.heap.size w W1 := by rw [← hW1]; exact al1t _ _
  have hr1 : W1.heap[w.heap.size]? = some (.cells #[sl, mp, rdF nb wb] 84 (0, 0)) := by rw [← hW1]; exact new_at rfl
  have hnb := lt_at h.nx
  have hs1 : W1.heap.size = w.heap.size + 1 := by rw [← hW1]; simp
  obtain ⟨x0, hx0, hk0⟩ := hA.beg
  have HK := tk_of (w := W1) 105 (enters_of Tryz.func105 (by kernel_rfl) rfl) (h.carry hb1) x0 hx0 hl _ (isNewsBegin_any _ _ _ _) hk0
  have h0 : Hid (Tk nb wb l i W1) := h.carry hb1
  have hE1 : Hid (En M L sl mp nb W1) := hE.on (Ob.of hb1)
  have HA : Hid (NwA L l i ns) := hA
  have HRD : Hid (rdF nb wb = .func (.func 47) #[] #[.pointer (some ⟨nb, 0, none⟩), .pointer (some ⟨wb, 0, none⟩)]) := rfl
  have c2 : W1.cell? ⟨w.heap.size, 2, none⟩ = some (.func (.func 47) #[] #[.pointer (some ⟨nb, 0, none⟩), .pointer (some ⟨wb, 0, none⟩)]) := (cell_at hr1 2).trans rfl
  have HR1 : Hid (RdBx W1 w.heap.size sl mp nb wb) := hr1
  clear h hE hx0 hk0 hA
  unfold rdF at hW1 ⊢
  go_enter Tryz.func81, Tryz.ntmps81
  go_wp2_with (go_at_call 47; (with_reducible refine HK.mono ?_); rintro e u0 ⟨rfl, hT0, hO0⟩)
  clear HK c2
  go_loopw [3, 4] (fun v a wz => ∃ (k : Nat) (A : Int) (vv : Value), vv = v ∧ a = .int .i64 A ∧ k ≤ ns.length ∧ wz.ownsRow W1.heap.size 99 3 v k (fl (ns.take k)) ∧ Tk nb wb l (i + 1 + 3 * k) wz ∧ Ob nb W1 wz ∧ Hid (∀ x, ns[k]? = some x → A < x.1)) (fun v _ _ => ns.length - slN v)
  case atStart => exact ⟨0, -1, _, rfl, rfl, Nat.zero_le _, World.ownsRow_nil _ _ _ _, hT0, hO0, fun x hx => by
    obtain ⟨o, t, q⟩ := x
    obtain ⟨a1, a2, a3, _, _, _, _, _, _, h7, _⟩ := HA.out.nt 0 o t q hx
    show (-1 : Int) < o
    omega⟩
  case round =>
    obtain ⟨k, A, v, hvv, rfl, hk, hrow, hT, hO, HA1⟩ := hrel
    subst hvv
    clear hT0 hO0
    have hrdw := HR1.out.ob hO (show w.heap.size ≠ nb by omega)
    have hwl := lt_at hrdw
    have hsO := hO.size
    have c2 : wr.cell? ⟨w.heap.size, 2, none⟩ = some (.func (.func 47) #[] #[.pointer (some ⟨nb, 0, none⟩), .pointer (some ⟨wb, 0, none⟩)]) := (cell_at hrdw 2).trans rfl
    by_cases hkl : k < ns.length
    case neg =>
      have hkk : k = ns.length := by omega
      obtain ⟨x, hx, hx5, hx93, hxs⟩ := HA.out.fin
      rw [← hkk] at hx
      have HK := tk_of (w := wr) 106 (enters_of Tryz.func106 (by kernel_rfl) rfl) hT x hx hl _ (isSignOr_any _ _ _ _ (by unfold maxLen; omega)) (by rw [hx5, hx93]; simp)
      have HN := isNewsEnd_any x.1 x.2.2.1 x.2.2.2 x.2.1
      rw [hx5, hx93] at HN
      rw [← hx5] at HN
      have e93 : ((5 : Int) == 5 && ([93] : List UInt8) == [93]) = true := by decide
      rw [hx5, e93, ← hx5] at HN
      unfold tkV at HN
      unfold tkC at HK
      clear hx hx5 hx93
      have HROW : Hid (wr.ownsRow W1.heap.size 99 3 v k (fl (ns.take k))) := hrow
      clear hrow
      go_wp2_with (first
        | (go_at_call 107; (with_reducible refine (HN _).mono ?_); rintro e u4 ⟨rfl, hb4⟩)
        | (refine wpList_store_row rfl 56 (.tmp 5) (.tmp 12) rfl u.heap.size (tkC x) rfl rfl 56 _ hr2 infoTk rfl (by simp [tkC, Value.oneCell']) ?_; rw [hu3]; (have p0 : u3.cell? ⟨u.heap.size, 0, none⟩ = some (.int .i64 x.1) := (cell_at hr3 0).trans rfl); (have p1 : u3.cell? ⟨u.heap.size, 1, none⟩ = some (.string x.2.1) := (cell_at hr3 1).trans rfl); (have p2 : u3.cell? ⟨u.heap.size, 2, none⟩ = some (.int .i64 x.2.2.1) := (cell_at hr3 2).trans rfl); (have p3 : u3.cell? ⟨u.heap.size, 3, none⟩ = some (.int .i64 x.2.2.2) := (cell_at hr3 3).trans rfl))
        | (go_at_call 47; (with_reducible refine HK.mono ?_); rintro e u ⟨rfl, hTu, hOu⟩; obtain ⟨u2, u3, hu2, hu3, hr2, hr3, hb3, hs3⟩ := box_word u x))
      go_ret
      have hbb := bel3 hb3 hb4
      subst hkk
      rw [List.take_length] at HROW
      refine ⟨_, rfl, ?_, hTu.carry hbb, (Ob.of hb1).trans (hO.trans (hOu.trans (Ob.of hbb)))⟩
      exact ownsRow_base (row_below (ownsRow_ob HROW.out hOu (fun g hg => by have := own_block HROW.out g hg; omega)) hbb) (by omega)
    case pos =>
      obtain ⟨⟨o, t, q⟩, hoq⟩ : ∃ x, ns[k]? = some x := ⟨_, List.getElem?_eq_getElem hkl⟩
      obtain ⟨x, y, z, hx, hy, hz, hx2, hxs, hxL, hxi, hxz, hym, hyz, hz3, hzz, hrd⟩ := HA.out.nt k o t q hoq
      have hAo : A < o := HA1.out _ hoq
      have HK := tk_of (w := wr) 106 (enters_of Tryz.func106 (by kernel_rfl) rfl) hT x hx hl _ (isSignOr_any _ _ _ _ (by unfold maxLen; omega)) (by rw [hx2, hxs]; rfl)
      have HN := isNewsEnd_any x.1 x.2.2.1 x.2.2.2 x.2.1
      have e2 : (x.1 == 5 && x.2.1.toList == [93]) = false := by rw [hx2]; rfl
      rw [e2] at HN
      unfold tkV at HN
      have HROW : Hid (wr.ownsRow W1.heap.size 99 3 v k (fl (ns.take k))) := hrow
      have HT : Hid (Tk nb wb l (i + 1 + 3 * k) wr) := hT
      have HX : Hid (∀ V, Ob nb W1 V → Calls Tryz.prog 102 #[.agg #[sl, mp, rdF nb wb], tk4 x] V fun e w' => e = .returned (.int .i64 o) ∧ Below V.heap.size V w') := fun V hV => by
        rw [← hxi]
        exact tid_ok (hE1.out.ros V hV) (Nat.le_trans hE1.out.le hV.size) nb wb x.1 x.2.2.1 x.2.2.2 x.2.1 (by unfold maxLen; omega) (pos_of_one hxs) hxL
      have HZ : Hid (∀ V, Ob nb W1 V → Tk nb wb l (i + 1 + 3 * k + 1) V → Calls Tryz.prog 108 #[.agg #[sl, mp, rdF nb wb], tk4 x] V fun e w' => e = .returned (nt o t q) ∧ Tk nb wb l (i + 1 + 3 * k + 1 + 2) w' ∧ Ob nb V w') := fun V hV hT' => notice_ok (hE1.out.on hV) hT' x y z hy hz hl hym hz3 hxz hyz hzz o t q hrd
      have HF : ∀ c, Calls Tryz.prog 48 #[.bool false, .int .i64 75, tk4 x] c fun en w' => en = .returned (.tuple #[]) ∧ Below c.heap.size c w' := trefuse_no 75 x.1 x.2.2.1 x.2.2.2 x.2.1
      have hrise : Hid (∀ x, ns[k + 1]? = some x → o < x.1) := fun x hx' => HA.out.rise k (o, t, q) x hoq hx'
      have htk : Hid (fl (ns.take (k + 1)) = fl (ns.take k) ++ [.int .i64 o, .int .i64 t, .int .i64 q]) := by
        show fl (ns.take (k + 1)) = _
        rw [List.take_add_one, hoq, fl_append]
        rfl
      unfold tkC at HK
      have hxd : Hid (tk4 x = .agg #[.int .i64 x.1, .string x.2.1, .int .i64 x.2.2.1, .int .i64 x.2.2.2]) := rfl
      clear hx hy hz hx2 hxs hxL hxi hxz hym hyz hz3 hzz hrd hoq e2 HA1 hrow hT
      go_wp2_with (first
        | (go_at_call 107; (with_reducible refine (HN _).mono ?_); rintro e u4 ⟨rfl, hb4⟩)
        | (refine wpList_store_row rfl 56 (.tmp 5) (.tmp 12) rfl u.heap.size (tkC x) rfl rfl 56 _ hr2 infoTk rfl (by simp [tkC, Value.oneCell']) ?_; rw [hu3]; (have p0 : u3.cell? ⟨u.heap.size, 0, none⟩ = some (.int .i64 x.1) := (cell_at hr3 0).trans rfl); (have p1 : u3.cell? ⟨u.heap.size, 1, none⟩ = some (.string x.2.1) := (cell_at hr3 1).trans rfl); (have p2 : u3.cell? ⟨u.heap.size, 2, none⟩ = some (.int .i64 x.2.2.1) := (cell_at hr3 2).trans rfl); (have p3 : u3.cell? ⟨u.heap.size, 3, none⟩ = some (.int .i64 x.2.2.2) := (cell_at hr3 3).trans rfl))
        | (go_at_call 47; (with_reducible refine HK.mono ?_); rintro e u ⟨rfl, hTu, hOu⟩; obtain ⟨u2, u3, hu2, hu3, hr2, hr3, hb3, hs3⟩ := box_word u x))
      clear HK HN p0 p1 p2 p3
      have hsu := hOu.size
      have hb34 := bel3 hb3 hb4
      have hr4 := (hb4.block _ (lt_at hr3)).trans hr3
      have hrd4 : RdBx u4 w.heap.size sl mp nb wb := (hb34.block _ (by omega)).trans ((hOu.block _ hwl (by omega)).trans hrdw)
      have hO4 : Ob nb W1 u4 := hO.trans (hOu.trans (Ob.of hb34))
      have hJ : Hid (JW4 w.heap.size u.heap.size nb wb sl mp x u4 u4) := ⟨Below.refl _ _, hrd4, hr4⟩
      rename_i Q0 K0 hK
      refine wp_region_any hmx ?_
      refine wpAny_pure (fun i__ => ([(.agg #[sl, mp, rdF nb wb]), (tk4 x), (.int .i64 o), (.int .i64 A), (.bool false), (tk4 x), (.tuple #[])] : List Value).getD i__ undef) (fun V => JW4 w.heap.size u.heap.size nb wb sl mp x u4 V) (by kernel_rfl) (hJ.out.carry (Below.refl _ _).drew) ?_ ?_
      · refine (stepsFrom_cons ?_ (stepsFrom_cons ?_ (stepsFrom_cons ?_ (stepsFrom_cons ?_ (stepsFrom_cons ?_ (stepsFrom_cons ?_ (stepsFrom_cons ?_ trivial)))))))
        · exact step_load rfl trivial _ _ _ rfl rfl (fun v hw => load_rd hw.rd)
        · exact step_load rfl trivial _ _ _ rfl rfl (fun v hw => box_tk hw.bx)
        · exact step_call rfl trivial 102 _ _ [(.agg #[sl, mp, rdF nb wb]), (tk4 x)] rfl (by kernel_rfl) (enters_of Tryz.func102 (by kernel_rfl) rfl) (fun V hw => (HX.out V (hO4.trans (Ob.of hw.below))).mono (by rintro e w' ⟨rfl, hb⟩; exact ⟨rfl, hw.carry hb⟩))
        · exact step_move rfl trivial _ rfl (by kernel_rfl)
        · exact step_binOp rfl trivial _ _ _ _ _ _ _ rfl rfl rfl (fun w hw => leq_no hAo w)
        · exact step_load rfl trivial _ _ _ rfl rfl (fun v hw => box_tk hw.bx)
        · exact step_call rfl trivial 48 _ _ [(.bool false), (Go.Value.int Go.IntKind.i64 75), (tk4 x)] rfl (by kernel_rfl) (enters_of Tryz.func48 (by kernel_rfl) rfl) (fun V hw => (HF V).mono (by rintro e w' ⟨rfl, hb⟩; exact ⟨rfl, hw.carry hb⟩))
      intro W hW
      first | refine hK _ _ ?_ | refine (‹∀ (a : Act) (w : World), Code.wp Tryz.prog _ _ a w → _›) _ _ ?_ | skip
      simp only [finL, List.getD_cons_zero, List.getD_cons_succ, Nat.zero_add, Nat.reduceAdd, List.setIfInBounds_toArray, List.set_cons_zero, List.set_cons_succ]
      clear hK HF hJ
      obtain ⟨hbW, hrdW, hbxW⟩ := hW
      have hOW : Ob nb W1 W := hO4.trans (Ob.of hbW)
      have hTW : Tk nb wb l (i + 1 + 3 * k + 1) W := (hTu.carry hb34).carry hbW
      have hNO := HZ.out W hOW hTW
      have r0 : W.cell? ⟨w.heap.size, 0, none⟩ = some sl := (cell_at hrdW 0).trans rfl
      have r1 : W.cell? ⟨w.heap.size, 1, none⟩ = some mp := (cell_at hrdW 1).trans rfl
      have r2 : W.cell? ⟨w.heap.size, 2, none⟩ = some (.func (.func 47) #[] #[.pointer (some ⟨nb, 0, none⟩), .pointer (some ⟨wb, 0, none⟩)]) := (cell_at hrdW 2).trans rfl
      have p0 : W.cell? ⟨u.heap.size, 0, none⟩ = some (.int .i64 x.1) := (cell_at hbxW 0).trans rfl
      have p1 : W.cell? ⟨u.heap.size, 1, none⟩ = some (.string x.2.1) := (cell_at hbxW 1).trans rfl
      have p2 : W.cell? ⟨u.heap.size, 2, none⟩ = some (.int .i64 x.2.2.1) := (cell_at hbxW 2).trans rfl
      have p3 : W.cell? ⟨u.heap.size, 3, none⟩ = some (.int .i64 x.2.2.2) := (cell_at hbxW 3).trans rfl
      have hbuW := bel3 hb34 hbW
      have hsW := hbuW.size
      have hrowW := row_below (ownsRow_ob HROW.out hOu (fun g hg => by have := own_block HROW.out g hg; omega)) hbuW
      obtain ⟨ic, hic, hz0, hz1, hz2⟩ := info_partsN
      have HROWW : Hid (W.ownsRow W1.heap.size 99 3 v k (fl (ns.take k))) := hrowW
      unfold rdF tk4 tkV nt at hNO
      clear hrowW hO4 hrd4 hr4 hr3 hr2 hu2 hu3 hb3 hb4 hTu HX HZ hbW hrdW hbxW
      go_wp2_with (first
        | (at_builtin; refine wpList_append_own_at _ rfl _ _ 25 rfl W1.heap.size 99 ic _ 3 24 Tryz.underlying25 hic hz0 hz1 hz2 rfl (by decide) _ k (fl (ns.take k)) rfl (World.ownsRow.alloc hrowX _) ⟨X1.heap.size, 0, none⟩ 1 1 [_, _, _] rfl rfl (rowN _ #[_, _, _] _) (by simp [Value.oneCell']) (by unfold maxLen; omega) (by omega) (by simp; omega) ?_; intro v' w2 hown' hgrow _ hob; have hn2 : NB w2 X.heap.size o t q := (hgrow.block _ (by simp; omega) (fun e => by have := hol _ e.symm; omega)).trans (old_at hn1); have m3 := hn2.c0)
        | (go_at_call 108; (with_reducible refine hNO.mono ?_); rintro e X ⟨rfl, hTX, hOX⟩; obtain ⟨X1, hX1⟩ : ∃ X1, X.alloc (.cells #[.int .i64 o, .int .i64 t, .int .i64 q] 99) = X1 := ⟨_, rfl⟩; (have hbX : Below X.heap.size X X1 := by rw [← hX1]; exact al1t _ _); (have hn1 : NB X1 X.heap.size o t q := by rw [← hX1]; exact new_at rfl); (have n0 := hn1.c0); (have n1 := hn1.c1); (have n2 := hn1.c2); (have hrX := ownsRow_ob HROWW.out hOX (fun g hg => by have := own_block HROWW.out g hg; omega)); (have hol := own_lt hrX); (have hrowX := row_below hrX hbX); (have hsX := hOX.size); (have hsX1 := hbX.size); (have hlX := hn1.lt)))
      have hbXw : Below W1.heap.size X w2 := ((hbX.mono (by omega)).alloc (by omega) _).grown hgrow (by simp; omega) (fun g e => own_block HROWW.out g e)
      have hOXw : Ob nb W1 w2 := (hOW.trans hOX).low hbXw (Nat.le_refl _)
      have hTw2 := h0.out.move hTX hOXw (hbXw.block nb (by omega))
      go_roundw
      case rel =>
        refine ⟨k + 1, o, _, rfl, rfl, by omega, ?_, ?_, hOXw, hrise⟩
        · rw [htk.out]; exact hown'
        · rw [show i + 1 + 3 * (k + 1) = i + 1 + 3 * k + 1 + 2 by omega]; exact hTw2
      case measure =>
        have e1 := own_slN hown'
        have e2 := own_slN HROW.out
        rw [e1, e2]
        omega
end Go.Proofs.YtnkpohkodkjkfaaGreatDoor
