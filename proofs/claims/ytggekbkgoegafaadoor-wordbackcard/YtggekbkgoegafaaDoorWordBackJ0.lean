/- The document's next: what it answers of a text at a place. -/
import Derived.Test.YtggekbkgoegafaaDoorRqt
import Derived.Test.YtggekbkgoegafaaDoorNum
import Derived.Test.YtggekbkgoegafaaDoorKin
import Derived.Test.YtggekbkgoegafaaDoorLea
import Derived.Shelf.Strings.Search1
import Derived.Test.YtggekbkgoegafaaDoorBas2
import Derived.Test.YtggekbkgoegafaaDoorSeq
namespace Go.Proofs.YtggekbkgoegafaaDoor
open Go.RowKit Go.Shelf

theorem runD_le (s : ByteArray) : ∀ (f p : Nat), p ≤ s.size → p ≤ runD s f p ∧ runD s f p ≤ s.size
  | 0, p, h => ⟨Nat.le_refl _, h⟩
  | f + 1, p, h => by
    rw [runD]
    by_cases hc : p < s.size ∧ looseB s p = false ∧ (cls (rn s p : Int) = 3 ∨ cls (rn s p : Int) = 4)
    · rw [if_pos hc]
      have h1 := wd_le s p hc.1
      have h2 := runD_le s f (p + wd s p) h1
      exact ⟨by omega, h2.2⟩
    · rw [if_neg hc]
      exact ⟨Nat.le_refl _, h⟩
/-- The word at the place i of a line that ends at E: its kind, its end, an error. -/
def nxD (s : ByteArray) (i E : Nat) : Nat × Nat × Nat :=
  if looseB s i = true ∨ cls (rn s i : Int) = 6 then (0, i, 20)
  else if cls (rn s i : Int) = 4 then (if 128 < (starts (s.extract i (runD s s.size i))).length then (0, i, 22) else (2, runD s s.size i, 0))
  else if cls (rn s i : Int) = 3 then (match numR (s.extract i (runD s s.size i)) with | none => (0, i, 21) | some _ => (3, runD s s.size i, 0))
  else if byt s i = 34 then (4, (lead (s.extract 0 E) E (i + 1) []).2.1, (lead (s.extract 0 E) E (i + 1) []).2.2)
  else (5, i + wd s i, 0)
def nxV (x : Nat × Nat × Nat) : Value := .tuple #[.int .i64 x.1, .int .i64 x.2.1, .int .i64 x.2.2]
set_option maxHeartbeats 8000000 in
set_option maxRecDepth 100000 in
theorem next_any (s : ByteArray) (hs : s.size ≤ 65536) (i E : Nat) (hi : i < s.size) (hE : LEnd s (i + 1) E) (w : World) : Calls Tryd.prog 29 #[.string s, .int .i64 (i : Int)] w fun e w' => e = .returned (nxV (nxD s i E)) ∧ Below w.heap.size w w' := by
  have hat := at_w s hs i hi
  have hcl := refClass_any (rn s i : Int)
  have hwl := wd_le s i hi
  have hby := byt_get hi
  have hii : (i : Int) < (s.size : Int) := by omega
  have hi0 : (0 : Int) ≤ (i : Int) := by omega
  obtain ⟨N, hN⟩ : ∃ N, nxD s i E = N := ⟨_, rfl⟩
  rw [hN]
  unfold nxD at hN
  by_cases h1 : looseB s i = true ∨ cls (rn s i : Int) = 6
  · rw [if_pos h1] at hN
    have HN : Hid (N = (0, i, 20)) := hN.symm
    clear hN
    cases hlo : looseB s i with
    | true =>
      rw [hlo] at hat
      generalize cls (rn s i : Int) = C at *
      generalize rn s i = r at *
      clear h1 hlo hby
      go_enter Tryd.func29, Tryd.ntmps29
      go_wp2_with (first | (go_at_call 41; (with_reducible refine (hat _).mono ?_); rintro e u1 ⟨rfl, hb1⟩) | (go_at_call 42; (with_reducible refine (hcl _).mono ?_); rintro e u2 ⟨rfl, rfl⟩))
      go_ret3
      rw [HN.out]
      exact ⟨rfl, hb1⟩
    | false =>
      have h6 : cls (rn s i : Int) = 6 := by
        rcases h1 with e | e
        · rw [hlo] at e; cases e
        · exact e
      rw [hlo] at hat
      rw [h6] at hcl
      generalize rn s i = r at *
      clear h1 hlo h6 hby
      go_enter Tryd.func29, Tryd.ntmps29
      go_wp2_with (first | (go_at_call 41; (with_reducible refine (hat _).mono ?_); rintro e u1 ⟨rfl, hb1⟩) | (go_at_call 42; (with_reducible refine (hcl _).mono ?_); rintro e u2 ⟨rfl, rfl⟩))
      go_ret3
      rw [HN.out]
      exact ⟨rfl, hb1⟩
  rw [if_neg h1] at hN
  have hlo : looseB s i = false := by
    cases e : looseB s i with
    | false => rfl
    | true => exact absurd (.inl e) h1
  have h6 : ¬ cls (rn s i : Int) = 6 := fun e => h1 (.inr e)
  rw [hlo] at hat
  clear h1 hlo
  have hrn := rRun_any s hs i (by omega)
  obtain ⟨he1, he2⟩ := runD_le s s.size i (by omega)
  have hes : (s.extract i (runD s s.size i)).size ≤ 65536 := by simp; omega
  have hct := refCount_any (s.extract i (runD s s.size i)) (by omega)
  have hvl := refValue_any (s.extract i (runD s s.size i)) (by unfold maxLen; omega)
  have hqt := quoted_any s hs i E hi hE
  generalize runD s s.size i = D at *
  have hd1 : (i : Int) ≤ (D : Int) := by omega
  have hd2 : (D : Int) ≤ (s.size : Int) := by omega
  generalize hX : s.extract i D = X at *
  by_cases h4 : cls (rn s i : Int) = 4
  · rw [if_pos h4] at hN
    rw [h4] at hcl
    generalize rn s i = r at *
    by_cases hc : 128 < (starts X).length
    · rw [if_pos hc] at hN
      have HN : Hid (N = (0, i, 22)) := hN.symm
      have hci : (128 : Int) < ((starts X).length : Int) := by omega
      generalize (starts X).length = Y at *
      clear hN h6 h4 hc hby hvl hqt hE
      go_enter Tryd.func29, Tryd.ntmps29
      go_wp2_with (first | (go_at_call 41; (with_reducible refine (hat _).mono ?_); rintro e u1 ⟨rfl, hb1⟩) | (go_at_call 42; (with_reducible refine (hcl _).mono ?_); rintro e u2 ⟨rfl, rfl⟩) | (go_at_call 43; (with_reducible refine (hrn _).mono ?_); rintro e u3 ⟨rfl, hb3⟩) | (go_at_call 44; (with_reducible refine (hct _).mono ?_); rintro e u4 ⟨rfl, hb4⟩))
      go_ret3
      rw [HN.out]
      exact ⟨by first | rfl | (push_cast; rfl), (hb1.trans (hb3.mono hb1.size)).trans (hb4.mono (Nat.le_trans hb1.size hb3.size))⟩
    · rw [if_neg hc] at hN
      have HN : Hid (N = (2, D, 0)) := hN.symm
      have hci : ¬ (128 : Int) < ((starts X).length : Int) := by omega
      generalize (starts X).length = Y at *
      clear hN h6 h4 hc hby hvl hqt hE
      go_enter Tryd.func29, Tryd.ntmps29
      go_wp2_with (first | (go_at_call 41; (with_reducible refine (hat _).mono ?_); rintro e u1 ⟨rfl, hb1⟩) | (go_at_call 42; (with_reducible refine (hcl _).mono ?_); rintro e u2 ⟨rfl, rfl⟩) | (go_at_call 43; (with_reducible refine (hrn _).mono ?_); rintro e u3 ⟨rfl, hb3⟩) | (go_at_call 44; (with_reducible refine (hct _).mono ?_); rintro e u4 ⟨rfl, hb4⟩))
      go_ret3
      rw [HN.out]
      exact ⟨by first | rfl | (push_cast; rfl), (hb1.trans (hb3.mono hb1.size)).trans (hb4.mono (Nat.le_trans hb1.size hb3.size))⟩
  rw [if_neg h4] at hN
  by_cases h3 : cls (rn s i : Int) = 3
  · rw [if_pos h3] at hN
    rw [h3] at hcl
    generalize rn s i = r at *
    cases hv : numR X with
    | none =>
      rw [hv] at hN hvl
      have HN : Hid (N = (0, i, 21)) := hN.symm
      unfold valR at hvl
      clear hN h6 h4 h3 hby hct hqt hE hv
      go_enter Tryd.func29, Tryd.ntmps29
      go_wp2_with (first | (go_at_call 41; (with_reducible refine (hat _).mono ?_); rintro e u1 ⟨rfl, hb1⟩) | (go_at_call 42; (with_reducible refine (hcl _).mono ?_); rintro e u2 ⟨rfl, rfl⟩) | (go_at_call 43; (with_reducible refine (hrn _).mono ?_); rintro e u3 ⟨rfl, hb3⟩) | (go_at_call 45; (with_reducible refine (hvl _).mono ?_); rintro e u4 ⟨rfl, rfl⟩))
      go_ret3
      rw [HN.out]
      exact ⟨by first | rfl | (push_cast; rfl), hb1.trans (hb3.mono hb1.size)⟩
    | some v =>
      rw [hv] at hN hvl
      have HN : Hid (N = (3, D, 0)) := hN.symm
      unfold valR at hvl
      have hv0 : ¬ (v : Int) < 0 := by omega
      clear hN h6 h4 h3 hby hct hqt hE hv
      go_enter Tryd.func29, Tryd.ntmps29
      go_wp2_with (first | (go_at_call 41; (with_reducible refine (hat _).mono ?_); rintro e u1 ⟨rfl, hb1⟩) | (go_at_call 42; (with_reducible refine (hcl _).mono ?_); rintro e u2 ⟨rfl, rfl⟩) | (go_at_call 43; (with_reducible refine (hrn _).mono ?_); rintro e u3 ⟨rfl, hb3⟩) | (go_at_call 45; (with_reducible refine (hvl _).mono ?_); rintro e u4 ⟨rfl, rfl⟩))
      go_ret3
      rw [HN.out]
      exact ⟨by first | rfl | (push_cast; rfl), hb1.trans (hb3.mono hb1.size)⟩
  rw [if_neg h3] at hN
  clear hrn hct hvl hes he1 he2 hd1 hd2 hX
  by_cases h34 : byt s i = 34
  · rw [if_pos h34] at hN
    have hq' : (s[i]'hi).toNat = 34 := by omega
    generalize (lead (s.extract 0 E) E (i + 1) []).2.1 = L1 at *
    generalize (lead (s.extract 0 E) E (i + 1) []).2.2 = L2 at *
    have HN : Hid (N = (4, L1, L2)) := hN.symm
    generalize cls (rn s i : Int) = C at *
    generalize rn s i = r at *
    clear hN h34 hby hE
    go_enter Tryd.func29, Tryd.ntmps29
    go_wp2_with (first | (go_at_call 41; (with_reducible refine (hat _).mono ?_); rintro e u1 ⟨rfl, hb1⟩) | (go_at_call 42; (with_reducible refine (hcl _).mono ?_); rintro e u2 ⟨rfl, rfl⟩) | (go_at_call 46; (with_reducible refine (hqt _).mono ?_); rintro e u3 ⟨rfl, hb3⟩))
    go_ret3
    rw [HN.out]
    exact ⟨by first | rfl | (push_cast; rfl), hb1.trans (hb3.mono hb1.size)⟩
  · rw [if_neg h34] at hN
    have hq' : (((s[i]'hi).toNat : Int) == 34) = false := beq_eq_false_iff_ne.2 (by omega)
    have HN : Hid (N = (5, i + wd s i, 0)) := hN.symm
    generalize cls (rn s i : Int) = C at *
    generalize rn s i = r at *
    clear hN h34 hby hE hqt
    go_enter Tryd.func29, Tryd.ntmps29
    go_wp2_with (first | (go_at_call 41; (with_reducible refine (hat _).mono ?_); rintro e u1 ⟨rfl, hb1⟩) | (go_at_call 42; (with_reducible refine (hcl _).mono ?_); rintro e u2 ⟨rfl, rfl⟩))
    go_ret3
    rw [HN.out]
    exact ⟨by first | rfl | (push_cast; rfl), hb1⟩
end Go.Proofs.YtggekbkgoegafaaDoor
namespace Go.Proofs.YtggekbkgoegafaaDoor
open Go.RowKit Go.Shelf

inductive Stp where
  | gap | stop
  | bad (e off : Nat)
  | word (k : Int) (sz : Nat)

/-- What begins at a place of a line. -/
def stepR (s : ByteArray) (p : Nat) : Stp :=
  if kindR (rn s p : Int) = -1 then .gap
  else if kindR (rn s p : Int) = -2 then .stop
  else if kindR (rn s p : Int) = 2 then (if 128 < (runR (s.extract p s.size)).2 then .bad 22 0 else .word 2 (runR (s.extract p s.size)).1)
  else if kindR (rn s p : Int) = 3 then (if numR (s.extract p (p + (runR (s.extract p s.size)).1)) = none then .bad 21 0 else .word 3 (runR (s.extract p s.size)).1)
  else if kindR (rn s p : Int) = 4 then (if (leadR (s.extract p s.size)).2.2 ≠ 0 then .bad (leadR (s.extract p s.size)).2.2 (starts (s.extract p (p + (leadR (s.extract p s.size)).2.1))).length else .word 4 (leadR (s.extract p s.size)).2.1)
  else if kindR (rn s p : Int) = 5 then .word 5 1
  else .bad 20 0

abbrev Tok := Int × ByteArray × Nat
/-- The words of a line from the place p on; the error, its column. -/
def cutAt (s : ByteArray) : Nat → Nat → Nat → Nat → List Tok → List Tok × Nat × Nat
  | 0, _, _, _, acc => (acc, 0, 0)
  | f + 1, p, nx, col, acc =>
    if ¬ p < s.size then (acc, 0, 0)
    else if p < nx then cutAt s f (p + wd s p) nx (col + 1) acc
    else match stepR s p with
      | .gap => cutAt s f (p + wd s p) nx (col + 1) acc
      | .stop => (acc, 0, 0)
      | .bad e off => (acc, e, col + 1 + off)
      | .word k sz => cutAt s f (p + wd s p) (p + sz) (col + 1) (acc ++ [(k, s.extract p (p + sz), col + 1)])
def cutR (s : ByteArray) : List Tok × Nat × Nat := cutAt s (s.size + 1) 0 0 0 []

theorem runAt_le (s : ByteArray) : ∀ (f p n : Nat), p ≤ s.size → (runAt s f p n).1 ≤ s.size
  | 0, p, n, h => h
  | f + 1, p, n, h => by
    unfold runAt
    split
    · exact Nat.le_refl _
    · rename_i hp
      split
      · exact runAt_le s f _ _ (wd_le s p (by omega))
      · exact h
theorem runR_le (s : ByteArray) : (runR s).1 ≤ s.size := runAt_le s _ _ _ (Nat.zero_le _)
theorem lead_le (s : ByteArray) : ∀ (f p : Nat) (acc : List UInt8), p ≤ s.size → (lead s f p acc).2.1 ≤ s.size
  | 0, p, acc, h => Nat.le_refl _
  | f + 1, p, acc, h => by
    by_cases hp : p < s.size
    case neg => rw [lead_end s _ p acc hp]; exact Nat.le_refl _
    by_cases c1 : byt s p = 34
    · rw [lead_quote s f p acc hp c1]; exact hp
    by_cases c2 : byt s p = 92
    · cases ho : esc (fun k => byt s (p + k)) with
      | none => rw [lead_none s f p acc hp c2 ho]; exact h
      | some x =>
        obtain ⟨l, n⟩ := x
        obtain ⟨k1, k2, k3, k4⟩ := esc_ok _ l n ho
        have := (k4 (n - 1) (by omega) (by omega)).1
        have := byt_in (s := s) (i := p + (n - 1)) (by omega)
        rw [lead_some s f p acc l n hp c2 ho]
        exact lead_le s f _ _ (by omega)
    by_cases hb : ctl (rn s p : Int) = true ∨ looseB s p = true
    · rw [lead_bad s f p acc hp c1 c2 hb]; exact h
    · rw [lead_char s f p acc hp c1 c2 hb]; exact lead_le s f _ _ (wd_le s p hp)
theorem leadR_le (s : ByteArray) : (leadR s).2.1 ≤ s.size := by
  unfold leadR
  split
  · rename_i h
    have : 0 < s.size := byt_in (by omega)
    exact lead_le s _ _ _ this
  · exact Nat.zero_le _

theorem cut_end (s : ByteArray) (f p nx col : Nat) (acc : List Tok) (h : ¬ p < s.size) : cutAt s (f + 1) p nx col acc = (acc, 0, 0) := by rw [cutAt, if_pos h]
theorem cut_skip (s : ByteArray) (f p nx col : Nat) (acc : List Tok) (h : p < s.size) (hn : p < nx) : cutAt s (f + 1) p nx col acc = cutAt s f (p + wd s p) nx (col + 1) acc := by rw [cutAt, if_neg (by omega), if_pos hn]
theorem cut_step (s : ByteArray) (f p nx col : Nat) (acc : List Tok) (h : p < s.size) (hn : ¬ p < nx) : cutAt s (f + 1) p nx col acc = (match stepR s p with
      | .gap => cutAt s f (p + wd s p) nx (col + 1) acc
      | .stop => (acc, 0, 0)
      | .bad e off => (acc, e, col + 1 + off)
      | .word k sz => cutAt s f (p + wd s p) (p + sz) (col + 1) (acc ++ [(k, s.extract p (p + sz), col + 1)])) := by rw [cutAt, if_neg (by omega), if_neg hn]
end Go.Proofs.YtggekbkgoegafaaDoor
namespace Go.Proofs.YtggekbkgoegafaaDoor
open Go.RowKit Go.Shelf

/-- A text that is read to its quote ends behind its place. -/
theorem lead_gt (s : ByteArray) : ∀ (f p : Nat) (acc : List UInt8), (lead s f p acc).2.2 = 0 → p ≤ (lead s f p acc).2.1
  | 0, p, acc, h => by
    by_cases hp : p < s.size
    · unfold lead at h ⊢
      first | omega | simp_all
    · rw [lead_end s 0 p acc hp] at h
      simp at h
  | f + 1, p, acc, h => by
    by_cases hp : p < s.size
    · by_cases hq : byt s p = 34
      · rw [lead_quote s f p acc hp hq]
        show p ≤ p + 1
        omega
      · cases hpr : pieceR s p with
        | inl x =>
          obtain ⟨l, n⟩ := x
          obtain ⟨e, _, _, _⟩ := piece_ok s f p acc l n hp hq hpr
          rw [e] at h ⊢
          have := lead_gt s f (p + n) (acc ++ l) h
          omega
        | inr k =>
          obtain ⟨e, hk⟩ := piece_err s f p acc k hp hq hpr
          rw [e] at h
          exact absurd h hk
    · rw [lead_end s (f + 1) p acc hp] at h
      simp at h
theorem nx_bounds (s : ByteArray) (i E : Nat) (hi : i < s.size) (hE : LEnd s (i + 1) E) (h : (nxD s i E).2.2 = 0) : i < (nxD s i E).2.1 ∧ (nxD s i E).2.1 ≤ s.size := by
  have hw := wd_pos s i
  have hwl := wd_le s i hi
  have hEs := hE.2.1
  unfold nxD at h ⊢
  by_cases h1 : looseB s i = true ∨ cls (rn s i : Int) = 6
  · rw [if_pos h1] at h
    cases h
  rw [if_neg h1] at h ⊢
  have hrun : cls (rn s i : Int) = 3 ∨ cls (rn s i : Int) = 4 → i < runD s s.size i ∧ runD s s.size i ≤ s.size := fun hc => by
    have hlo : looseB s i = false := by
      cases e : looseB s i with
      | false => rfl
      | true => exact absurd (.inl e) h1
    obtain ⟨g, hg⟩ : ∃ g, s.size = g + 1 := ⟨s.size - 1, by omega⟩
    have h2 := runD_le s g (i + wd s i) hwl
    have h3 : runD s (g + 1) i = runD s g (i + wd s i) := runD_on s g i hi hlo hc
    rw [← hg] at h3
    rw [h3]
    omega
  by_cases h4 : cls (rn s i : Int) = 4
  · rw [if_pos h4] at h ⊢
    by_cases hc : 128 < (starts (s.extract i (runD s s.size i))).length
    · rw [if_pos hc] at h
      cases h
    · rw [if_neg hc]
      exact hrun (.inr h4)
  rw [if_neg h4] at h ⊢
  by_cases h3 : cls (rn s i : Int) = 3
  · rw [if_pos h3] at h ⊢
    cases hv : numR (s.extract i (runD s s.size i)) with
    | none =>
      rw [hv] at h
      cases h
    | some v => exact hrun (.inl h3)
  rw [if_neg h3] at h ⊢
  by_cases h34 : byt s i = 34
  · rw [if_pos h34] at h ⊢
    have h5 := lead_gt (s.extract 0 E) E (i + 1) [] h
    have hsz : (s.extract 0 E).size = E := by simp; omega
    have h6 := lead_le (s.extract 0 E) E (i + 1) [] (by have := hE.1; omega)
    dsimp only
    omega
  · rw [if_neg h34]
    dsimp only
    omega
end Go.Proofs.YtggekbkgoegafaaDoor
namespace Go.Proofs.YtggekbkgoegafaaDoor
open Go.RowKit Go.Shelf

def ren217 : Go.Shelf.Ren := ⟨fun | 217 => 58 | 266 => 64 | n => n, fun | 3 => 3 | 5 => 5 | 9 => 9 | n => n, fun | n => n⟩
theorem lays217 : Lays.n217 Tryd.prog ren217 := {
  mixed := by kernel_rfl
  f217 := Tryd.func58.trans (congrArg some (by kernel_rfl))
  f266 := Tryd.func64.trans (congrArg some (by kernel_rfl))
  t3 := Tryd.underlying3
  a3 := Tryd.isAgg3
  z3 := Tryd.sizeOf3
  v3 := Tryd.zeroValue3
  t5 := Tryd.underlying5
  a5 := Tryd.isAgg5
  z5 := Tryd.sizeOf5
  v5 := Tryd.zeroValue5
  t9 := Tryd.underlying9
  a9 := Tryd.isAgg9
  z9 := Tryd.sizeOf9
  v9 := Tryd.zeroValue9 }

/-- Where the first line ends; -1: nowhere. -/
def nlAt (s : ByteArray) : Int := Lib.indexByte s.data.toList 10
theorem indexByte_any (s : ByteArray) (w : World) :
    Calls Tryd.prog 58 #[.string s, .int .u8 10] w fun e w' => e = .returned (.int .i64 (nlAt s)) ∧ w' = w := Any.stringslite_IndexByte lays217 s 10 w
set_option maxHeartbeats 1000000 in
set_option maxRecDepth 100000 in
theorem liteIndex_any (s : ByteArray) (w : World) :
    Calls Tryd.prog 48 #[.string s, .string ⟨#[10]⟩] w fun e w' => e = .returned (.int .i64 (nlAt s)) ∧ w' = w := by
  cases hq : (([10] : List UInt8) == s.toList) with
  | true =>
    have HN : Hid (nlAt s = 0) := by
      show nlAt s = 0
      have h := eq_of_beq hq
      rw [Lib.toList_data] at h
      unfold nlAt
      rw [← h]
      rfl
    go_enter Tryd.func48, Tryd.ntmps48
    go_wp2
    go_ret
    rw [HN.out]
    exact ⟨rfl, rfl⟩
  | false =>
    go_enter Tryd.func48, Tryd.ntmps48
    go_wp2_with (go_at_call 58; refine (indexByte_any s _).mono ?_; rintro e w9 ⟨rfl, rfl⟩)
    go_ret
    exact ⟨rfl, rfl⟩
set_option maxHeartbeats 1000000 in
theorem index_any (s : ByteArray) (w : World) :
    Calls Tryd.prog 32 #[.string s, .string ⟨#[10]⟩] w fun e w' => e = .returned (.int .i64 (nlAt s)) ∧ w' = w := by
  go_enter Tryd.func32, Tryd.ntmps32
  go_wp2_with (go_at_call 48; refine (liteIndex_any s _).mono ?_; rintro e w9 ⟨rfl, rfl⟩)
  go_ret
  exact ⟨rfl, rfl⟩
end Go.Proofs.YtggekbkgoegafaaDoor
namespace Go.Proofs.YtggekbkgoegafaaDoor
open Go.RowKit Go.Shelf
attribute [local go_sem] Oper.semAt_some

theorem wfn (k : Nat) : Fence.wide.fn k := trivial
theorem wdep : Fence.wide.depth = none := rfl

theorem splitSeq_any (s : ByteArray) (w : World) :
    Calls Tryd.prog 21 #[.string s, .string ⟨#[10]⟩, .int .i64 0] w fun e w' => e = .returned (.func (.func 30) #[] #[.pointer (some ⟨w.heap.size + 1, 0, none⟩), .pointer (some ⟨w.heap.size, 0, none⟩), .pointer (some ⟨w.heap.size + 2, 0, none⟩)]) ∧ w' = ((w.alloc (.cells #[.string s] 9)).alloc (.cells #[.string ⟨#[10]⟩] 9)).alloc (.cells #[.int .i64 0] 3) := by
  go_enter Tryd.func21, Tryd.ntmps21
  go_wp2
  go_ret
  exact ⟨rfl, rfl⟩
theorem split_any (s : ByteArray) (w : World) :
    Calls Tryd.prog 11 #[.string s, .string ⟨#[10]⟩] w fun e w' => e = .returned (.func (.func 30) #[] #[.pointer (some ⟨w.heap.size + 1, 0, none⟩), .pointer (some ⟨w.heap.size, 0, none⟩), .pointer (some ⟨w.heap.size + 2, 0, none⟩)]) ∧ w' = ((w.alloc (.cells #[.string s] 9)).alloc (.cells #[.string ⟨#[10]⟩] 9)).alloc (.cells #[.int .i64 0] 3) := by
  go_enter Tryd.func11, Tryd.ntmps11
  go_wp2_with (go_at_call 21; refine (splitSeq_any s _).mono ?_; rintro e w9 ⟨rfl, rfl⟩)
  go_ret
  exact ⟨rfl, rfl⟩

set_option maxHeartbeats 1000000 in
theorem split1_seq (s : ByteArray) (hn : nlAt s = -1) (k : Nat) (w : World) (h1 : Boxed w k 9 (.string s)) (h2 : Boxed w (k + 1) 9 (.string ⟨#[10]⟩)) :
    SeqM Tryd.prog 30 #[.pointer (some ⟨k + 1, 0, none⟩), .pointer (some ⟨k, 0, none⟩), .pointer (some ⟨k + 2, 0, none⟩)] (fun t : ByteArray => #[.string t]) k 0 [s] w := by
  intro l J Jx W hW hJ hJx hY h0
  have b1 : Boxed W k 9 (.string s) := (hW.block k h1.lt).trans h1
  have b2 : Boxed W (k + 1) 9 (.string ⟨#[10]⟩) := (hW.block (k + 1) h2.lt).trans h2
  have c1 := b1.cell
  have c2 := b2.cell
  have hi := index_any s
  rw [hn] at hi
  refine callsIn_of_wp Tryd.func30 rfl trivial ?_ rfl
  simp only [Tryd.ntmps30, List.size_toArray, List.length_cons, List.length_nil, Nat.reduceAdd, Nat.reduceSub, Array.replicate_succ, Array.replicate_zero, List.push_toArray, List.append_toArray, List.nil_append, List.cons_append]
  gi_wp2
  gi_loopw [] (fun wr => wr = W) (fun _ => 0)
  case atStart => rfl
  case round =>
    subst hrel
    obtain ⟨fn, tmps, assign, body, hy, hR⟩ := hY [] s wr h0 (by omega) ⟨[], by simp⟩
    have hy' : (Instr.yield l #[.string s]).run Tryd.prog wr = .ok (.round l fn tmps assign body) wr := hy
    clear hy
    gi_wp2_with (with_reducible (refine And.intro (wfn _) (And.intro wdep ?_)); gi_at_call 32; refine (callsIn_wide.2 (hi _)).mono ?_; rintro e w' ⟨rfl, hw9⟩; rw [hw9])
    refine ⟨rfl, hR.mono ?_⟩
    rintro e W3 ⟨hkp, (⟨rfl, hj3⟩ | ⟨rfl, hjx⟩)⟩
    · gi_wp2
      go_end0
      exact ⟨⟨_, rfl⟩, .inl hj3⟩
    · gi_wp2
      go_end0
      exact ⟨⟨_, rfl⟩, .inr ⟨_, ⟨[], by simp⟩, hjx⟩⟩
end Go.Proofs.YtggekbkgoegafaaDoor
namespace Go.Proofs.YtggekbkgoegafaaDoor
open Go.RowKit
/-- The nb blocks from bx on and the m blocks from B on lie as they lay; no block has gone. -/
structure KeptW (bx nb B m : Nat) (W W' : World) : Prop where
  size : W.heap.size ≤ W'.heap.size
  box : ∀ k, bx ≤ k → k < bx + nb → W'.heap[k]? = W.heap[k]?
  rng : ∀ k, B ≤ k → k < B + m → W'.heap[k]? = W.heap[k]?
theorem KeptW.refl (bx nb B m : Nat) (W : World) : KeptW bx nb B m W W := ⟨Nat.le_refl _, fun _ _ _ => rfl, fun _ _ _ => rfl⟩
theorem KeptW.trans {bx nb B m : Nat} {X Y Z : World} (h : KeptW bx nb B m X Y) (k : KeptW bx nb B m Y Z) : KeptW bx nb B m X Z :=
  ⟨Nat.le_trans h.size k.size, fun i h1 h2 => (k.box i h1 h2).trans (h.box i h1 h2), fun i h1 h2 => (k.rng i h1 h2).trans (h.rng i h1 h2)⟩
theorem KeptW.putObj {bx nb B m : Nat} {W : World} {l : Nat} (o : Obj) (h1 : l < bx ∨ bx + nb ≤ l) (h2 : l < B ∨ B + m ≤ l) : KeptW bx nb B m W (W.putObj l o) :=
  ⟨by simp, fun k h3 h4 => World.putObj_heap_other (by omega), fun k h3 h4 => World.putObj_heap_other (by omega)⟩
theorem KeptW.less {bx nb B m B' m' : Nat} {W W' : World} (h : KeptW bx nb B m W W') (h1 : B ≤ B') (h2 : B' + m' ≤ B + m) : KeptW bx nb B' m' W W' :=
  ⟨h.size, h.box, fun k h3 h4 => h.rng k (by omega) (by omega)⟩
/-- The word of an iterator that gives xs, one by one: every round keeps block bx and the m blocks that the iterator lays first. -/
def SeqW {α : Type} (P : Program) (g : Nat) (lb : Array Value) (encs : α → Array Value) (bx nb m : Nat) (xs : List α) (w : World) : Prop :=
  ∀ (l : Nat) (J Jx : List α → World → Prop) (W : World), Below w.heap.size w W → OwnFrom W.heap.size J → OwnFrom W.heap.size Jx → (∀ pre W1 v, J pre W1 → bx < W.heap.size → J pre (W1.setCell ⟨bx, 0, none⟩ v)) →
    (∀ pre x W1, J pre W1 → W.heap.size + m ≤ W1.heap.size → pre ++ [x] <+: xs → YieldAt Fence.wide 0 P l (encs x) W1 fun e W' =>
      KeptW bx nb W.heap.size m W1 W' ∧ ((e = .returned (.bool true) ∧ J (pre ++ [x]) W') ∨ (e = .returned (.bool false) ∧ Jx (pre ++ [x]) W'))) →
    J [] W →
    CallsIn Fence.wide 0 P g (#[.func (.yield l) #[] #[]] ++ lb) W fun e W' => (∃ v, e = .returned v) ∧ (J xs W' ∨ ∃ pre, pre <+: xs ∧ Jx pre W')

/-- How the body of a round may be left. -/
def postW {α : Type} (bx nb B m : Nat) (I : List α → World → Prop) (Ix : Code → List α → World → Prop) (xs : List α) (W : World) : Exit → Act → World → Prop
  | .normal, _, W' => KeptW bx nb B m W W' ∧ I xs W'
  | .ret, _, W' => KeptW bx nb B m W W' ∧ Ix .ret xs W'
  | .exit id, _, W' => KeptW bx nb B m W W' ∧ Ix (.exit id) xs W'
  | .goto t, _, W' => KeptW bx nb B m W W' ∧ Ix (.goto t) xs W'
  | .panic _, _, _ => False
  | .outgrown, _, _ => False

/-- The statement for .. := range g, in a plain frame. -/
theorem wp_rangeW {α : Type} {P : Program} {n kb : Nat} {g : Operand} {ps : Array Tmp} {assign body : Code} {Q : Exit → Act → World → Prop} {a : Act} {w : World}
    {gf : Nat} {lb : Array Value} (hg : a.eval g = .func (.func gf) #[] lb) (eg : ∀ args w, (callFunc gf args).run P w = .ok (.enter gf args) w)
    {encs : α → Array Value} {bx nb m : Nat} {xs : List α} (hseq : SeqW P gf lb encs bx nb m xs w) (hbx : bx + nb ≤ w.heap.size) (hnb : 0 < nb) (hps : ∀ x, (encs x).size = ps.size)
    (I : List α → World → Prop) (Ix : Code → List α → World → Prop) (hI : OwnFrom w.heap.size I) (hIx : ∀ c, OwnFrom w.heap.size (Ix c)) (h0 : I [] w) (hIw : ∀ pre W v, I pre W → I pre (W.setCell ⟨bx, 0, none⟩ v))
    (Ax : α → Act → World → Prop) (hAx : ∀ x a', OwnFrom w.heap.size (fun (_ : Unit) W => Ax x a' W))
    (hassign : ∀ (l : Nat) (pre : List α) (x : α) (W : World) (K : Act → World → Prop), I pre W → w.heap.size + (m + 2) ≤ W.heap.size →
      (∀ a' W', KeptW bx nb w.heap.size (m + 2) W W' → I pre W' → Ax x a' W' → K a' W') →
      assign.wpIn (Fence.wide.inRound l) kb P (Exit.then K (fun _ _ _ => False)) { tmps := (ps.zip (encs x)).foldl (fun t (p, v) => t.setIfInBounds p v) a.tmps, defers := [] } W)
    (hbody : ∀ (l : Nat) (pre : List α) (x : α) (a' : Act) (W : World), I pre W → Ax x a' W → w.heap.size + (m + 2) ≤ W.heap.size → pre ++ [x] <+: xs →
      body.wpIn (Fence.wide.inRound l) kb P (postW bx nb w.heap.size (m + 2) I Ix (pre ++ [x]) W) a' W)
    (hdone : ∀ (W : World), I xs W → W.heap[w.heap.size]? = some (.deferred (some [])) → Q .normal { a with defers := { target := .collected w.heap.size, args := #[] } :: a.defers } W)
    (hstop : ∀ (c : Code) (pre : List α) (W : World), pre <+: xs → Ix c pre W → W.heap[w.heap.size]? = some (.deferred (some [])) →
      c.wpIn Fence.wide n P Q { a with defers := { target := .collected w.heap.size, args := #[] } :: a.defers } W) :
    (Code.rangeFunc g ps assign body).wpIn Fence.wide n P Q a w := by
  refine wpIn_rangeFunc ?_
  intro fn hfn
  obtain ⟨rec, hrec⟩ : ∃ rec : LoopState → Option Code → Loop, rec = fun st pe => { state := st, pending := pe, fn, tmps := a.tmps, params := ps, assign, body, defers := w.heap.size } := ⟨_, rfl⟩
  obtain ⟨W1, hW1⟩ : ∃ W1, (w.alloc (.deferred (some []))).alloc (.loop (rec .ready none)) = W1 := ⟨_, rfl⟩
  have hz1 : W1.heap.size = w.heap.size + 2 := by rw [← hW1]; simp
  have hL1 : W1.heap[w.heap.size + 1]? = some (.loop (rec .ready none)) := by
    rw [← hW1]; have := World.alloc_heap_new (w.alloc (.deferred (some []))) (.loop (rec .ready none)); rwa [World.size_alloc] at this
  have hK1 : W1.heap[w.heap.size]? = some (.deferred (some [])) := by
    rw [← hW1]; exact (Below.heap_alloc _ _ _ (by simp)).trans (World.alloc_heap_new w _)
  have hI1 : I [] W1 := by rw [← hW1]; exact hI.alloc _ (hI.alloc _ h0)
  have hb1 : Below w.heap.size w W1 := by rw [← hW1]; exact ((Below.refl _ w).alloc (Nat.le_refl _) _).alloc (by simp) _
  refine ⟨w.heap.size + 1, [{ target := .collected w.heap.size, args := #[] }], W1, { target := .fn (.func gf) lb, args := #[.func (.yield (w.heap.size + 1)) #[] #[]] }, W1, gf,
    #[.func (.yield (w.heap.size + 1)) #[] #[]] ++ lb, W1, ?_, ?_, ?_, ?_, (fun h => by cases h), ?_⟩
  · rw [← hW1, hrec]; exact run_enterLoop_outer _ _ _ _ _
  · simp only [resolve, hg]
    simp [go_sem]
  · intro f' _; trivial
  · simp [invoke, go_sem, eg]
  · have fresh : ∀ {A : World} {row : Option Nat}, (∀ r, row = some r → W1.heap.size ≤ r ∧ ∃ o : Obj, A.heap[r]? = some o ∧ o.isCells = false) → (∀ r, row = some r → w.heap.size ≤ r ∧ ∃ o : Obj, A.heap[r]? = some o ∧ o.isCells = false) :=
      fun hr r e => ⟨by have := (hr r e).1; omega, (hr r e).2⟩
    have stays : ∀ {A B : World} {row : Option Nat} {k : Nat} {o : Obj}, A.grownBy B row → (∀ r, row = some r → W1.heap.size ≤ r ∧ ∃ o : Obj, A.heap[r]? = some o ∧ o.isCells = false) → A.heap[k]? = some o → k < w.heap.size + 2 → B.heap[k]? = some o :=
      fun hg' hr hk hlt => (hg'.block _ (Array.getElem?_eq_some_iff.1 hk).1 (fun e => by have := (hr _ e.symm).1; omega)).trans hk
    refine calls_any ((hseq (w.heap.size + 1)
      (fun pre W => I pre W ∧ W.heap[w.heap.size + 1]? = some (.loop (rec .ready none)) ∧ W.heap[w.heap.size]? = some (.deferred (some [])))
      (fun pre W => ∃ c, Ix c pre W ∧ W.heap[w.heap.size + 1]? = some (.loop (rec .done (some c))) ∧ W.heap[w.heap.size]? = some (.deferred (some [])))
      W1 hb1
      (fun s A B row hs hg' hr => ⟨hI s A B row hs.1 hg' (fresh hr), stays hg' hr hs.2.1 (by omega), stays hg' hr hs.2.2 (by omega)⟩)
      (fun s A B row hs hg' hr => by
        obtain ⟨c, hc, hl, hk⟩ := hs
        exact ⟨c, hIx c s A B row hc hg' (fresh hr), stays hg' hr hl (by omega), stays hg' hr hk (by omega)⟩)
      (fun pre A v hs _ => ⟨hIw pre A v hs.1, (Below.heap_setCell _ _ _ _ (by simp; omega)).trans hs.2.1, (Below.heap_setCell _ _ _ _ (by simp; omega)).trans hs.2.2⟩)
      ?_ ⟨hI1, hL1, hK1⟩).mono ?_)
    · rintro pre x W ⟨hi, hl, hk⟩ hsz hlen
      have hy := run_yield (P := P) (args := encs x) hl (by rw [hrec]; exact hps x)
      rw [hrec] at hy
      refine yield_any (n := kb) ⟨fn, _, assign, body, hy, roundIn_of_wpIn hfn (hassign _ pre x W _ hi (by omega) ?_)⟩
      clear hy
      intro a' Wa hka hia hax
      have hla := (hka.rng (w.heap.size + 1) (by omega) (by omega)).trans hl
      have hda := (hka.rng w.heap.size (by omega) (by omega)).trans hk
      have hza : w.heap.size + (m + 2) ≤ Wa.heap.size := by have := hka.size; omega
      refine ⟨_, run_beginRound hla (by rw [hrec]), ?_⟩
      have hl2 : (Wa.putObj (w.heap.size + 1) (.loop { rec .ready none with state := .busy })).heap[w.heap.size + 1]? = some (.loop { rec .ready none with state := .busy }) := World.putObj_heap_same (by omega)
      have hk2 : (Wa.putObj (w.heap.size + 1) (.loop { rec .ready none with state := .busy })).heap[w.heap.size]? = some (.deferred (some [])) := (World.putObj_heap_other (by omega)).trans hda
      have hp2 : KeptW bx nb W1.heap.size m Wa (Wa.putObj (w.heap.size + 1) (.loop { rec .ready none with state := .busy })) := KeptW.putObj _ (by omega) (by omega)
      refine wpIn_mono (hbody _ pre x a' _ (hI.putObj _ hia (by omega) hla rfl) ((hAx x a').putObj (s := ()) _ hax (by omega) hla rfl) (by simpa using hza) hlen) ?_
      have fin : ∀ (jump : Option Code) (W3 : World), KeptW bx nb w.heap.size (m + 2) (Wa.putObj (w.heap.size + 1) (.loop { rec .ready none with state := .busy })) W3 →
          (Instr.endRound (w.heap.size + 1) jump).run P W3 = .ok (.bool jump.isNone) (W3.putObj (w.heap.size + 1) (.loop (rec (if jump.isNone then .ready else .done) jump))) ∧
          W3.heap[w.heap.size + 1]? = some (.loop { rec .ready none with state := .busy }) ∧
          (W3.putObj (w.heap.size + 1) (.loop (rec (if jump.isNone then .ready else .done) jump))).heap[w.heap.size + 1]? = some (.loop (rec (if jump.isNone then .ready else .done) jump)) ∧
          (W3.putObj (w.heap.size + 1) (.loop (rec (if jump.isNone then .ready else .done) jump))).heap[w.heap.size]? = some (.deferred (some [])) ∧
          KeptW bx nb W1.heap.size m W (W3.putObj (w.heap.size + 1) (.loop (rec (if jump.isNone then .ready else .done) jump))) := fun jump W3 hk3 => by
        have hl3 := (hk3.rng (w.heap.size + 1) (by omega) (by omega)).trans hl2
        have hrun := run_endRound (P := P) jump hl3
        rw [hrec] at hrun
        refine ⟨by rw [hrec]; exact hrun, hl3, World.putObj_heap_same (Array.getElem?_eq_some_iff.1 hl3).1, (World.putObj_heap_other (by omega)).trans ((hk3.rng w.heap.size (by omega) (by omega)).trans hk2), ?_⟩
        exact (((hka.less (by omega) (by omega)).trans hp2).trans (hk3.less (by omega) (by omega))).trans (KeptW.putObj _ (by omega) (by omega))
      rintro e a3 W3 hp
      cases e with
      | normal =>
        obtain ⟨hk3, hi3⟩ := hp
        obtain ⟨hr, hl3, hl4, hk4, hq⟩ := fin none W3 hk3
        exact ⟨_, _, hr, hq, .inl ⟨rfl, hI.putObj _ hi3 (by omega) hl3 rfl, hl4, hk4⟩⟩
      | ret =>
        obtain ⟨hk3, hi3⟩ := hp
        obtain ⟨hr, hl3, hl4, hk4, hq⟩ := fin (some .ret) W3 hk3
        exact ⟨_, _, hr, hq, .inr ⟨rfl, .ret, (hIx _).putObj _ hi3 (by omega) hl3 rfl, hl4, hk4⟩⟩
      | exit id =>
        obtain ⟨hk3, hi3⟩ := hp
        obtain ⟨hr, hl3, hl4, hk4, hq⟩ := fin (some (.exit id)) W3 hk3
        exact ⟨_, _, hr, hq, .inr ⟨rfl, .exit id, (hIx _).putObj _ hi3 (by omega) hl3 rfl, hl4, hk4⟩⟩
      | goto t =>
        obtain ⟨hk3, hi3⟩ := hp
        obtain ⟨hr, hl3, hl4, hk4, hq⟩ := fin (some (.goto t)) W3 hk3
        exact ⟨_, _, hr, hq, .inr ⟨rfl, .goto t, (hIx _).putObj _ hi3 (by omega) hl3 rfl, hl4, hk4⟩⟩
      | panic ch => exact hp.elim
      | outgrown => exact hp.elim
    · rintro e W2 ⟨⟨v, rfl⟩, (⟨hi, hl, hk⟩ | ⟨pre, hpre, c, hi, hl, hk⟩)⟩
      · exact ⟨none, _, by have := run_endLoop (P := P) hl (by rw [hrec]; simp); rw [hrec] at this; exact this, hdone _ (hI.putObj _ hi (by omega) hl rfl) ((World.putObj_heap_other (by omega)).trans hk)⟩
      · exact ⟨some c, _, by have := run_endLoop (P := P) hl (by rw [hrec]; simp); rw [hrec] at this; exact this, hstop c pre _ hpre ((hIx c).putObj _ hi (by omega) hl rfl) ((World.putObj_heap_other (by omega)).trans hk)⟩

end Go.Proofs.YtggekbkgoegafaaDoor
