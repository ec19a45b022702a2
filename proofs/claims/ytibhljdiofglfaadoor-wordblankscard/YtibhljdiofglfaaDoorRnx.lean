/- The document's next: what it answers of a text at a place. -/
import Derived.Test.YtibhljdiofglfaaDoorRqt
import Derived.Test.YtibhljdiofglfaaDoorNum
namespace Go.Proofs.YtibhljdiofglfaaDoor
open Go.RowKit Go.Shelf

theorem runD_le (s : ByteArray) : ∀ (f p : Nat), p ≤ s.size → p ≤ runD s f p ∧ runD s f p ≤ s.size
  | 0, p, h => ⟨Nat.le_refl _, h⟩
  | f + 1, p, h => by
    rw [runD]
    by_cases hc : p < s.size ∧ looseB s p = false ∧ (cls (rn s p : Int) = 3 ∨ cls (rn s p : Int) = 4)
    · rw [if_pos hc]
      have h1 := wd_le s p hc.1
      have h2 := runD_le s f (p + wd s p) h1
      exact ⟨by omega, h2.2⟩
    · rw [if_neg hc]
      exact ⟨Nat.le_refl _, h⟩
/-- The word at the place i of a line that ends at E: its kind, its end, an error. -/
def nxD (s : ByteArray) (i E : Nat) : Nat × Nat × Nat :=
  if looseB s i = true ∨ cls (rn s i : Int) = 6 then (0, i, 20)
  else if cls (rn s i : Int) = 4 then (if 128 < (starts (s.extract i (runD s s.size i))).length then (0, i, 22) else (2, runD s s.size i, 0))
  else if cls (rn s i : Int) = 3 then (match numR (s.extract i (runD s s.size i)) with | none => (0, i, 21) | some _ => (3, runD s s.size i, 0))
  else if byt s i = 34 then (4, (lead (s.extract 0 E) E (i + 1) []).2.1, (lead (s.extract 0 E) E (i + 1) []).2.2)
  else (5, i + wd s i, 0)
def nxV (x : Nat × Nat × Nat) : Value := .tuple #[.int .i64 x.1, .int .i64 x.2.1, .int .i64 x.2.2]
set_option maxHeartbeats 8000000 in
set_option maxRecDepth 100000 in
theorem next_any (s : ByteArray) (hs : s.size ≤ 65536) (i E : Nat) (hi : i < s.size) (hE : LEnd s (i + 1) E) (w : World) : Calls Tryd.prog 27 #[.string s, .int .i64 (i : Int)] w fun e w' => e = .returned (nxV (nxD s i E)) ∧ Below w.heap.size w w' := by
  have hat := at_w s hs i hi
  have hcl := refClass_any (rn s i : Int)
  have hwl := wd_le s i hi
  have hby := byt_get hi
  have hii : (i : Int) < (s.size : Int) := by omega
  have hi0 : (0 : Int) ≤ (i : Int) := by omega
  obtain ⟨N, hN⟩ : ∃ N, nxD s i E = N := ⟨_, rfl⟩
  rw [hN]
  unfold nxD at hN
  by_cases h1 : looseB s i = true ∨ cls (rn s i : Int) = 6
  · rw [if_pos h1] at hN
    have HN : Hid (N = (0, i, 20)) := hN.symm
    clear hN
    cases hlo : looseB s i with
    | true =>
      rw [hlo] at hat
      generalize cls (rn s i : Int) = C at *
      generalize rn s i = r at *
      clear h1 hlo hby
      go_enter Tryd.func27, Tryd.ntmps27
      go_wp2_with (first | (go_at_call 38; (with_reducible refine (hat _).mono ?_); rintro e u1 ⟨rfl, hb1⟩) | (go_at_call 39; (with_reducible refine (hcl _).mono ?_); rintro e u2 ⟨rfl, rfl⟩))
      go_ret3
      rw [HN.out]
      exact ⟨rfl, hb1⟩
    | false =>
      have h6 : cls (rn s i : Int) = 6 := by
        rcases h1 with e | e
        · rw [hlo] at e; cases e
        · exact e
      rw [hlo] at hat
      rw [h6] at hcl
      generalize rn s i = r at *
      clear h1 hlo h6 hby
      go_enter Tryd.func27, Tryd.ntmps27
      go_wp2_with (first | (go_at_call 38; (with_reducible refine (hat _).mono ?_); rintro e u1 ⟨rfl, hb1⟩) | (go_at_call 39; (with_reducible refine (hcl _).mono ?_); rintro e u2 ⟨rfl, rfl⟩))
      go_ret3
      rw [HN.out]
      exact ⟨rfl, hb1⟩
  rw [if_neg h1] at hN
  have hlo : looseB s i = false := by
    cases e : looseB s i with
    | false => rfl
    | true => exact absurd (.inl e) h1
  have h6 : ¬ cls (rn s i : Int) = 6 := fun e => h1 (.inr e)
  rw [hlo] at hat
  clear h1 hlo
  have hrn := rRun_any s hs i (by omega)
  obtain ⟨he1, he2⟩ := runD_le s s.size i (by omega)
  have hes : (s.extract i (runD s s.size i)).size ≤ 65536 := by simp; omega
  have hct := refCount_any (s.extract i (runD s s.size i)) (by omega)
  have hvl := refValue_any (s.extract i (runD s s.size i)) (by unfold maxLen; omega)
  have hqt := quoted_any s hs i E hi hE
  generalize runD s s.size i = D at *
  have hd1 : (i : Int) ≤ (D : Int) := by omega
  have hd2 : (D : Int) ≤ (s.size : Int) := by omega
  generalize hX : s.extract i D = X at *
  by_cases h4 : cls (rn s i : Int) = 4
  · rw [if_pos h4] at hN
    rw [h4] at hcl
    generalize rn s i = r at *
    by_cases hc : 128 < (starts X).length
    · rw [if_pos hc] at hN
      have HN : Hid (N = (0, i, 22)) := hN.symm
      have hci : (128 : Int) < ((starts X).length : Int) := by omega
      generalize (starts X).length = Y at *
      clear hN h6 h4 hc hby hvl hqt hE
      go_enter Tryd.func27, Tryd.ntmps27
      go_wp2_with (first | (go_at_call 38; (with_reducible refine (hat _).mono ?_); rintro e u1 ⟨rfl, hb1⟩) | (go_at_call 39; (with_reducible refine (hcl _).mono ?_); rintro e u2 ⟨rfl, rfl⟩) | (go_at_call 40; (with_reducible refine (hrn _).mono ?_); rintro e u3 ⟨rfl, hb3⟩) | (go_at_call 26; (with_reducible refine (hct _).mono ?_); rintro e u4 ⟨rfl, hb4⟩))
      go_ret3
      rw [HN.out]
      exact ⟨by first | rfl | (push_cast; rfl), (hb1.trans (hb3.mono hb1.size)).trans (hb4.mono (Nat.le_trans hb1.size hb3.size))⟩
    · rw [if_neg hc] at hN
      have HN : Hid (N = (2, D, 0)) := hN.symm
      have hci : ¬ (128 : Int) < ((starts X).length : Int) := by omega
      generalize (starts X).length = Y at *
      clear hN h6 h4 hc hby hvl hqt hE
      go_enter Tryd.func27, Tryd.ntmps27
      go_wp2_with (first | (go_at_call 38; (with_reducible refine (hat _).mono ?_); rintro e u1 ⟨rfl, hb1⟩) | (go_at_call 39; (with_reducible refine (hcl _).mono ?_); rintro e u2 ⟨rfl, rfl⟩) | (go_at_call 40; (with_reducible refine (hrn _).mono ?_); rintro e u3 ⟨rfl, hb3⟩) | (go_at_call 26; (with_reducible refine (hct _).mono ?_); rintro e u4 ⟨rfl, hb4⟩))
      go_ret3
      rw [HN.out]
      exact ⟨by first | rfl | (push_cast; rfl), (hb1.trans (hb3.mono hb1.size)).trans (hb4.mono (Nat.le_trans hb1.size hb3.size))⟩
  rw [if_neg h4] at hN
  by_cases h3 : cls (rn s i : Int) = 3
  · rw [if_pos h3] at hN
    rw [h3] at hcl
    generalize rn s i = r at *
    cases hv : numR X with
    | none =>
      rw [hv] at hN hvl
      have HN : Hid (N = (0, i, 21)) := hN.symm
      unfold valR at hvl
      clear hN h6 h4 h3 hby hct hqt hE hv
      go_enter Tryd.func27, Tryd.ntmps27
      go_wp2_with (first | (go_at_call 38; (with_reducible refine (hat _).mono ?_); rintro e u1 ⟨rfl, hb1⟩) | (go_at_call 39; (with_reducible refine (hcl _).mono ?_); rintro e u2 ⟨rfl, rfl⟩) | (go_at_call 40; (with_reducible refine (hrn _).mono ?_); rintro e u3 ⟨rfl, hb3⟩) | (go_at_call 41; (with_reducible refine (hvl _).mono ?_); rintro e u4 ⟨rfl, rfl⟩))
      go_ret3
      rw [HN.out]
      exact ⟨by first | rfl | (push_cast; rfl), hb1.trans (hb3.mono hb1.size)⟩
    | some v =>
      rw [hv] at hN hvl
      have HN : Hid (N = (3, D, 0)) := hN.symm
      unfold valR at hvl
      have hv0 : ¬ (v : Int) < 0 := by omega
      clear hN h6 h4 h3 hby hct hqt hE hv
      go_enter Tryd.func27, Tryd.ntmps27
      go_wp2_with (first | (go_at_call 38; (with_reducible refine (hat _).mono ?_); rintro e u1 ⟨rfl, hb1⟩) | (go_at_call 39; (with_reducible refine (hcl _).mono ?_); rintro e u2 ⟨rfl, rfl⟩) | (go_at_call 40; (with_reducible refine (hrn _).mono ?_); rintro e u3 ⟨rfl, hb3⟩) | (go_at_call 41; (with_reducible refine (hvl _).mono ?_); rintro e u4 ⟨rfl, rfl⟩))
      go_ret3
      rw [HN.out]
      exact ⟨by first | rfl | (push_cast; rfl), hb1.trans (hb3.mono hb1.size)⟩
  rw [if_neg h3] at hN
  clear hrn hct hvl hes he1 he2 hd1 hd2 hX
  by_cases h34 : byt s i = 34
  · rw [if_pos h34] at hN
    have hq' : (s[i]'hi).toNat = 34 := by omega
    generalize (lead (s.extract 0 E) E (i + 1) []).2.1 = L1 at *
    generalize (lead (s.extract 0 E) E (i + 1) []).2.2 = L2 at *
    have HN : Hid (N = (4, L1, L2)) := hN.symm
    generalize cls (rn s i : Int) = C at *
    generalize rn s i = r at *
    clear hN h34 hby hE
    go_enter Tryd.func27, Tryd.ntmps27
    go_wp2_with (first | (go_at_call 38; (with_reducible refine (hat _).mono ?_); rintro e u1 ⟨rfl, hb1⟩) | (go_at_call 39; (with_reducible refine (hcl _).mono ?_); rintro e u2 ⟨rfl, rfl⟩) | (go_at_call 42; (with_reducible refine (hqt _).mono ?_); rintro e u3 ⟨rfl, hb3⟩))
    go_ret3
    rw [HN.out]
    exact ⟨by first | rfl | (push_cast; rfl), hb1.trans (hb3.mono hb1.size)⟩
  · rw [if_neg h34] at hN
    have hq' : (((s[i]'hi).toNat : Int) == 34) = false := beq_eq_false_iff_ne.2 (by omega)
    have HN : Hid (N = (5, i + wd s i, 0)) := hN.symm
    generalize cls (rn s i : Int) = C at *
    generalize rn s i = r at *
    clear hN h34 hby hE hqt
    go_enter Tryd.func27, Tryd.ntmps27
    go_wp2_with (first | (go_at_call 38; (with_reducible refine (hat _).mono ?_); rintro e u1 ⟨rfl, hb1⟩) | (go_at_call 39; (with_reducible refine (hcl _).mono ?_); rintro e u2 ⟨rfl, rfl⟩))
    go_ret3
    rw [HN.out]
    exact ⟨by first | rfl | (push_cast; rfl), hb1⟩
end Go.Proofs.YtibhljdiofglfaaDoor
