/- The words of a line, reckoned: plain mathematics. -/
import Derived.Test.YtngjjcmoekeciaaGreatDoorJnJ2
import Derived.Test.YtngjjcmoekeciaaGreatDoorJnJ6
import Derived.Test.YtngjjcmoekeciaaGreatDoorJnJ5
import Derived.Shelf.Strings.Search1
import Derived.Test.YtngjjcmoekeciaaGreatDoorBas2
namespace Go.Proofs.YtngjjcmoekeciaaGreatDoor
open Go.RowKit Go.Shelf

inductive Stp where
  | gap | stop
  | bad (e off : Nat)
  | word (k : Int) (sz : Nat)

/-- What begins at a place of a line. -/
def stepR (s : ByteArray) (p : Nat) : Stp :=
  if kindR (rn s p : Int) = -1 then .gap
  else if kindR (rn s p : Int) = -2 then .stop
  else if kindR (rn s p : Int) = 2 then (if 128 < (runR (s.extract p s.size)).2 then .bad 22 0 else .word 2 (runR (s.extract p s.size)).1)
  else if kindR (rn s p : Int) = 3 then (if numR (s.extract p (p + (runR (s.extract p s.size)).1)) = none then .bad 21 0 else .word 3 (runR (s.extract p s.size)).1)
  else if kindR (rn s p : Int) = 4 then (if (leadR (s.extract p s.size)).2.2 ≠ 0 then .bad (leadR (s.extract p s.size)).2.2 (starts (s.extract p (p + (leadR (s.extract p s.size)).2.1))).length else .word 4 (leadR (s.extract p s.size)).2.1)
  else if kindR (rn s p : Int) = 5 then .word 5 1
  else .bad 20 0

abbrev Tok := Int × ByteArray × Nat
/-- The words of a line from the place p on; the error, its column. -/
def cutAt (s : ByteArray) : Nat → Nat → Nat → Nat → List Tok → List Tok × Nat × Nat
  | 0, _, _, _, acc => (acc, 0, 0)
  | f + 1, p, nx, col, acc =>
    if ¬ p < s.size then (acc, 0, 0)
    else if p < nx then cutAt s f (p + wd s p) nx (col + 1) acc
    else match stepR s p with
      | .gap => cutAt s f (p + wd s p) nx (col + 1) acc
      | .stop => (acc, 0, 0)
      | .bad e off => (acc, e, col + 1 + off)
      | .word k sz => cutAt s f (p + wd s p) (p + sz) (col + 1) (acc ++ [(k, s.extract p (p + sz), col + 1)])
def cutR (s : ByteArray) : List Tok × Nat × Nat := cutAt s (s.size + 1) 0 0 0 []

theorem runAt_le (s : ByteArray) : ∀ (f p n : Nat), p ≤ s.size → (runAt s f p n).1 ≤ s.size
  | 0, p, n, h => h
  | f + 1, p, n, h => by
    unfold runAt
    split
    · exact Nat.le_refl _
    · rename_i hp
      split
      · exact runAt_le s f _ _ (wd_le s p (by omega))
      · exact h
theorem runR_le (s : ByteArray) : (runR s).1 ≤ s.size := runAt_le s _ _ _ (Nat.zero_le _)
theorem lead_le (s : ByteArray) : ∀ (f p : Nat) (acc : List UInt8), p ≤ s.size → (lead s f p acc).2.1 ≤ s.size
  | 0, p, acc, h => Nat.le_refl _
  | f + 1, p, acc, h => by
    by_cases hp : p < s.size
    case neg => rw [lead_end s _ p acc hp]; exact Nat.le_refl _
    by_cases c1 : byt s p = 34
    · rw [lead_quote s f p acc hp c1]; exact hp
    by_cases c2 : byt s p = 92
    · cases ho : esc (fun k => byt s (p + k)) with
      | none => rw [lead_none s f p acc hp c2 ho]; exact h
      | some x =>
        obtain ⟨l, n⟩ := x
        obtain ⟨k1, k2, k3, k4⟩ := esc_ok _ l n ho
        have := (k4 (n - 1) (by omega) (by omega)).1
        have := byt_in (s := s) (i := p + (n - 1)) (by omega)
        rw [lead_some s f p acc l n hp c2 ho]
        exact lead_le s f _ _ (by omega)
    by_cases hb : ctl (rn s p : Int) = true ∨ looseB s p = true
    · rw [lead_bad s f p acc hp c1 c2 hb]; exact h
    · rw [lead_char s f p acc hp c1 c2 hb]; exact lead_le s f _ _ (wd_le s p hp)
theorem leadR_le (s : ByteArray) : (leadR s).2.1 ≤ s.size := by
  unfold leadR
  split
  · rename_i h
    have : 0 < s.size := byt_in (by omega)
    exact lead_le s _ _ _ this
  · exact Nat.zero_le _

theorem cut_end (s : ByteArray) (f p nx col : Nat) (acc : List Tok) (h : ¬ p < s.size) : cutAt s (f + 1) p nx col acc = (acc, 0, 0) := by rw [cutAt, if_pos h]
theorem cut_skip (s : ByteArray) (f p nx col : Nat) (acc : List Tok) (h : p < s.size) (hn : p < nx) : cutAt s (f + 1) p nx col acc = cutAt s f (p + wd s p) nx (col + 1) acc := by rw [cutAt, if_neg (by omega), if_pos hn]
theorem cut_step (s : ByteArray) (f p nx col : Nat) (acc : List Tok) (h : p < s.size) (hn : ¬ p < nx) : cutAt s (f + 1) p nx col acc = (match stepR s p with
      | .gap => cutAt s f (p + wd s p) nx (col + 1) acc
      | .stop => (acc, 0, 0)
      | .bad e off => (acc, e, col + 1 + off)
      | .word k sz => cutAt s f (p + wd s p) (p + sz) (col + 1) (acc ++ [(k, s.extract p (p + sz), col + 1)])) := by rw [cutAt, if_neg (by omega), if_neg hn]
end Go.Proofs.YtngjjcmoekeciaaGreatDoor
namespace Go.Proofs.YtngjjcmoekeciaaGreatDoor
open Go.RowKit Go.Shelf

/-- A text that is read to its quote ends behind its place. -/
theorem lead_gt (s : ByteArray) : ∀ (f p : Nat) (acc : List UInt8), (lead s f p acc).2.2 = 0 → p ≤ (lead s f p acc).2.1
  | 0, p, acc, h => by
    by_cases hp : p < s.size
    · unfold lead at h ⊢
      first | omega | simp_all
    · rw [lead_end s 0 p acc hp] at h
      simp at h
  | f + 1, p, acc, h => by
    by_cases hp : p < s.size
    · by_cases hq : byt s p = 34
      · rw [lead_quote s f p acc hp hq]
        show p ≤ p + 1
        omega
      · cases hpr : pieceR s p with
        | inl x =>
          obtain ⟨l, n⟩ := x
          obtain ⟨e, _, _, _⟩ := piece_ok s f p acc l n hp hq hpr
          rw [e] at h ⊢
          have := lead_gt s f (p + n) (acc ++ l) h
          omega
        | inr k =>
          obtain ⟨e, hk⟩ := piece_err s f p acc k hp hq hpr
          rw [e] at h
          exact absurd h hk
    · rw [lead_end s (f + 1) p acc hp] at h
      simp at h
theorem nx_bounds (s : ByteArray) (i E : Nat) (hi : i < s.size) (hE : LEnd s (i + 1) E) (h : (nxD s i E).2.2 = 0) : i < (nxD s i E).2.1 ∧ (nxD s i E).2.1 ≤ s.size := by
  have hw := wd_pos s i
  have hwl := wd_le s i hi
  have hEs := hE.2.1
  unfold nxD at h ⊢
  by_cases h1 : looseB s i = true ∨ cls (rn s i : Int) = 6
  · rw [if_pos h1] at h
    cases h
  rw [if_neg h1] at h ⊢
  have hrun : cls (rn s i : Int) = 3 ∨ cls (rn s i : Int) = 4 → i < runD s s.size i ∧ runD s s.size i ≤ s.size := fun hc => by
    have hlo : looseB s i = false := by
      cases e : looseB s i with
      | false => rfl
      | true => exact absurd (.inl e) h1
    obtain ⟨g, hg⟩ : ∃ g, s.size = g + 1 := ⟨s.size - 1, by omega⟩
    have h2 := runD_le s g (i + wd s i) hwl
    have h3 : runD s (g + 1) i = runD s g (i + wd s i) := runD_on s g i hi hlo hc
    rw [← hg] at h3
    rw [h3]
    omega
  by_cases h4 : cls (rn s i : Int) = 4
  · rw [if_pos h4] at h ⊢
    by_cases hc : 128 < (starts (s.extract i (runD s s.size i))).length
    · rw [if_pos hc] at h
      cases h
    · rw [if_neg hc]
      exact hrun (.inr h4)
  rw [if_neg h4] at h ⊢
  by_cases h3 : cls (rn s i : Int) = 3
  · rw [if_pos h3] at h ⊢
    cases hv : numR (s.extract i (runD s s.size i)) with
    | none =>
      rw [hv] at h
      cases h
    | some v => exact hrun (.inl h3)
  rw [if_neg h3] at h ⊢
  by_cases h34 : byt s i = 34
  · rw [if_pos h34] at h ⊢
    have h5 := lead_gt (s.extract 0 E) E (i + 1) [] h
    have hsz : (s.extract 0 E).size = E := by simp; omega
    have h6 := lead_le (s.extract 0 E) E (i + 1) [] (by have := hE.1; omega)
    dsimp only
    omega
  · rw [if_neg h34]
    dsimp only
    omega
end Go.Proofs.YtngjjcmoekeciaaGreatDoor
namespace Go.Proofs.YtngjjcmoekeciaaGreatDoor
open Go.RowKit Go.Shelf

def ren217 : Go.Shelf.Ren := ⟨fun | 217 => 129 | 266 => 137 | n => n, fun | 3 => 3 | 5 => 5 | 9 => 9 | n => n, fun | n => n⟩
theorem lays217 : Lays.n217 Tryz.prog ren217 := {
  mixed := by kernel_rfl
  f217 := Tryz.func129.trans (congrArg some (by kernel_rfl))
  f266 := Tryz.func137.trans (congrArg some (by kernel_rfl))
  t3 := Tryz.underlying3
  a3 := Tryz.isAgg3
  z3 := Tryz.sizeOf3
  v3 := Tryz.zeroValue3
  t5 := Tryz.underlying5
  a5 := Tryz.isAgg5
  z5 := Tryz.sizeOf5
  v5 := Tryz.zeroValue5
  t9 := Tryz.underlying9
  a9 := Tryz.isAgg9
  z9 := Tryz.sizeOf9
  v9 := Tryz.zeroValue9 }

/-- Where the first line ends; -1: nowhere. -/
def nlAt (s : ByteArray) : Int := Lib.indexByte s.data.toList 10
theorem indexByte_any (s : ByteArray) (w : World) :
    Calls Tryz.prog 129 #[.string s, .int .u8 10] w fun e w' => e = .returned (.int .i64 (nlAt s)) ∧ w' = w := Any.stringslite_IndexByte lays217 s 10 w
set_option maxHeartbeats 1000000 in
set_option maxRecDepth 100000 in
theorem liteIndex_any (s : ByteArray) (w : World) :
    Calls Tryz.prog 119 #[.string s, .string ⟨#[10]⟩] w fun e w' => e = .returned (.int .i64 (nlAt s)) ∧ w' = w := by
  cases hq : (([10] : List UInt8) == s.toList) with
  | true =>
    have HN : Hid (nlAt s = 0) := by
      show nlAt s = 0
      have h := eq_of_beq hq
      rw [Lib.toList_data] at h
      unfold nlAt
      rw [← h]
      rfl
    go_enter Tryz.func119, Tryz.ntmps119
    go_wp2
    go_ret
    rw [HN.out]
    exact ⟨rfl, rfl⟩
  | false =>
    go_enter Tryz.func119, Tryz.ntmps119
    go_wp2_with (go_at_call 129; refine (indexByte_any s _).mono ?_; rintro e w9 ⟨rfl, rfl⟩)
    go_ret
    exact ⟨rfl, rfl⟩
set_option maxHeartbeats 1000000 in
theorem index_any (s : ByteArray) (w : World) :
    Calls Tryz.prog 107 #[.string s, .string ⟨#[10]⟩] w fun e w' => e = .returned (.int .i64 (nlAt s)) ∧ w' = w := by
  go_enter Tryz.func107, Tryz.ntmps107
  go_wp2_with (go_at_call 119; refine (liteIndex_any s _).mono ?_; rintro e w9 ⟨rfl, rfl⟩)
  go_ret
  exact ⟨rfl, rfl⟩
end Go.Proofs.YtngjjcmoekeciaaGreatDoor
