import Derived.Test.YtmahamdmapbilaaGreatDoorJwJ28
import Derived.Test.YtmahamdmapbilaaGreatDoorJwJ3
import Derived.Test.YtmahamdmapbilaaGreatDoorJwJ4
import Derived.Test.YtmahamdmapbilaaGreatDoorJwJ10
import Derived.Laws.Tables
import Derived.Deep.WholeRow
set_option maxHeartbeats 40000000
set_option maxRecDepth 100000
set_option linter.unusedVariables false
namespace Go.Proofs.YtmahamdmapbilaaGreatDoor
open Go.RowKit Go.Shelf
def LEnd (s : ByteArray) (p E : Nat) : Prop := p ≤ E ∧ E ≤ s.size ∧ (∀ j, p ≤ j → j < E → byt s j ≠ 10) ∧ (E = s.size ∨ byt s E = 10)
theorem LEnd.next {s : ByteArray} {p q E : Nat} (h : LEnd s p E) (h1 : p ≤ q) (h2 : q ≤ E) : LEnd s q E := ⟨h2, h.2.1, fun j a b => h.2.2.1 j (by omega) b, h.2.2.2⟩
theorem byt_pre {s : ByteArray} {E k : Nat} (hE : E ≤ s.size) (hk : k < E) : byt (s.extract 0 E) k = byt s k := by
 have hsz : (s.extract 0 E).size = E := by simp; omega
 rw [byt_get (s := s.extract 0 E) (by omega), byt_get (s := s) (by omega)]
 congr 1
 rw [ByteArray.getElem_extract]
 simp
theorem quoted_any (s : ByteArray) (hs : s.size ≤ 65536) (i E : Nat) (hi : i < s.size) (hE : LEnd s (i + 1) E) (w : World) : Calls Tryz.prog 173 #[.string s, .int .i64 (i : Int)] w fun e w' => e = .returned (.tuple #[.int .i64 (lead (s.extract 0 E) E (i + 1) []).2.1, .int .i64 (lead (s.extract 0 E) E (i + 1) []).2.2]) ∧ Below w.heap.size w w' := by
 obtain ⟨R, hR⟩ : ∃ R, (lead (s.extract 0 E) E (i + 1) []).2 = R := ⟨_, rfl⟩
 rw [hR]
 have HR : Hid ((lead (s.extract 0 E) E (i + 1) []).2 = R) := hR
 clear hR
 have hEs := hE.2.1
 have hTs : (s.extract 0 E).size = E := by simp; omega
 go_enter Tryz.func173, Tryz.ntmps173
 go_wp2
 go_loopw [6] (fun c wz => ∃ (k f : Nat) (acc : List UInt8), c = .int .i64 (k : Int) ∧ LEnd s k E ∧ E ≤ k + f ∧ Hid ((lead (s.extract 0 E) f k acc).2 = R) ∧ Below w.heap.size w wz) (fun c _ => s.size - vnatD c)
 case atStart => exact ⟨i + 1, E, [], by push_cast; rfl, hE, by omega, HR, Below.refl _ _⟩
 case round =>
  obtain ⟨k, f, acc, rfl, hL, hf, HK, hbw⟩ := hrel
  have hkE := hL.1
  by_cases hkl : k < s.size
  · have hki : (k : Int) < (s.size : Int) := by omega
    have hby := byt_get hkl
    by_cases hq : byt s k = 34
    · have hkE2 : k < E := by
        rcases hL.2.2.2 with e | e
        · omega
        · rcases Nat.lt_or_ge k E with h | h
          · exact h
          · have : k = E := by omega
            subst this
            omega
      obtain ⟨g, rfl⟩ : ∃ g, f = g + 1 := ⟨f - 1, by omega⟩
      have hq' : (s[k]'hkl).toNat = 34 := by omega
      have HE : Hid (R = (k + 1, 0)) := by
        show R = (k + 1, 0)
        rw [← HK.out, lead_quote _ g k acc (by omega) (by rw [byt_pre hEs hkE2]; exact hq)]
      clear HK HR hby
      go_wp2
      go_ret2
      rw [HE.out]
      exact ⟨by first | rfl | (push_cast; rfl), hbw⟩
    · have hq' : (((s[k]'hkl).toNat : Int) != 34) = true := by simp; omega
      by_cases hn : byt s k = 10
      · have hkk : k = E := by
          rcases Nat.lt_or_ge k E with h | h
          · exact absurd hn (hL.2.2.1 k (Nat.le_refl _) h)
          · omega
        have HE : Hid (R = (k, 11)) := by
          show R = (k, 11)
          rw [← HK.out, lead_end _ f k acc (by omega), hTs, hkk]
        have hn' : (s[k]'hkl).toNat = 10 := by omega
        clear HK HR hby hkk
        go_wp2
        go_ret2
        rw [HE.out]
        exact ⟨by first | rfl | (push_cast; rfl), hbw⟩
      · have hkE2 : k < E := by
          rcases hL.2.2.2 with e | e
          · omega
          · rcases Nat.lt_or_ge k E with h | h
            · exact h
            · have hkk : k = E := by omega
              rw [← hkk] at e
              exact absurd e hn
        obtain ⟨g, rfl⟩ : ∃ g, f = g + 1 := ⟨f - 1, by omega⟩
        have hn' : (((s[k]'hkl).toNat : Int) == 10) = false := beq_eq_false_iff_ne.2 (by omega)
        have hpc := refPiece_any (s.extract 0 E) (by omega) k (by omega)
        have h34 : byt (s.extract 0 E) k ≠ 34 := by rw [byt_pre hEs hkE2]; exact hq
        have HP1 : Hid (∀ l n, pieceR (s.extract 0 E) k = .inl (l, n) → (lead (s.extract 0 E) g (k + n) (acc ++ l)).2 = R ∧ k + n ≤ E ∧ 1 ≤ n) := fun l n hp => by
          obtain ⟨a1, a2, a3, _⟩ := piece_ok (s.extract 0 E) g k acc l n (by omega) h34 hp
          exact ⟨by rw [← a1]; exact HK.out, by omega, a3⟩
        have HP2 : Hid (∀ q, pieceR (s.extract 0 E) k = .inr q → R = (k, q) ∧ q ≠ 0) := fun q hp => by
          obtain ⟨a1, a2⟩ := piece_err (s.extract 0 E) g k acc q (by omega) h34 hp
          exact ⟨by rw [← HK.out, a1], a2⟩
        generalize pieceR (s.extract 0 E) k = PR at *
        have HL : Hid (LEnd s k E) := hL
        generalize hTT : s.extract 0 E = TT at *
        clear HK HR hL h34 hby
        go_wp2
        go_loopw [7] (fun c wz => ∃ j : Nat, c = .int .i64 (j : Int) ∧ k ≤ j ∧ j ≤ E ∧ wz = wr) (fun c _ => s.size - vnatD c)
        case atStart => exact ⟨k, rfl, Nat.le_refl _, by omega, rfl⟩
        case round =>
          obtain ⟨j, rfl, hj1, hj2, rfl⟩ := hrel
          by_cases hjE : j < E
          · have hjs : j < s.size := by omega
            have hji : (j : Int) < (s.size : Int) := by omega
            have hjn : byt s j ≠ 10 := HL.out.2.2.1 j hj1 hjE
            have hjb := byt_get hjs
            have hjq : (((s[j]'hjs).toNat : Int) != 10) = true := by simp; omega
            clear hjb hjn
            go_wp2
            go_roundw
            case rel => exact ⟨j + 1, by push_cast; rfl, by omega, by omega, trivial⟩
            case measure => simp [vnatD]; omega
          · obtain rfl : j = E := by omega
            have hj0 : (0 : Int) ≤ (j : Int) := by omega
            have hjs2 : (j : Int) ≤ (s.size : Int) := by omega
            rcases Nat.lt_or_ge j s.size with hlt | hge
            · have hjb := byt_get hlt
              have hj10 : byt s j = 10 := by
               rcases HL.out.2.2.2 with e | e
               · omega
               · exact e
              have hji : (j : Int) < (s.size : Int) := by omega
              have hjq : (s[j]'hlt).toNat = 10 := by omega
              clear hjb hj10
              cases PR with
              | inr q =>
               obtain ⟨r1, r2⟩ := HP2.out q rfl
               have HE : Hid (R = (k, q)) := r1
               have hq0 : ¬ (q : Int) = 0 := by omega
               clear r1 HP1 HP2
               go_wp2_with (go_at_call 202; (with_reducible refine (hpc _).mono ?_); rintro e u1 ⟨v, m, q2, rfl, ⟨rfl, rfl, rfl⟩, hb1⟩)
               go_ret2
               rw [HE.out]
               exact ⟨by first | rfl | (push_cast; rfl), hbw.trans (hb1.mono hbw.size)⟩
              | inl x =>
               obtain ⟨xl, xn⟩ := x
               obtain ⟨r1, r2, r3⟩ := HP1.out xl xn rfl
               have HN : Hid ((lead TT g (k + xn) (acc ++ xl)).2 = R) := r1
               clear r1 HP1 HP2
               go_wp2_with (go_at_call 202; (with_reducible refine (hpc _).mono ?_); rintro e u1 ⟨v, m, q2, rfl, ⟨rfl, rfl, _⟩, hb1⟩)
               refine ⟨⟨k + m, g, acc ++ xl, by push_cast; rfl, HL.out.next (by omega) r2, by omega, HN, hbw.trans (hb1.mono hbw.size)⟩, ?_⟩
               simp [vnatD]
               omega
            · have hji : ¬ (j : Int) < (s.size : Int) := by omega
              cases PR with
              | inr q =>
               obtain ⟨r1, r2⟩ := HP2.out q rfl
               have HE : Hid (R = (k, q)) := r1
               have hq0 : ¬ (q : Int) = 0 := by omega
               clear r1 HP1 HP2
               go_wp2_with (go_at_call 202; (with_reducible refine (hpc _).mono ?_); rintro e u1 ⟨v, m, q2, rfl, ⟨rfl, rfl, rfl⟩, hb1⟩)
               go_ret2
               rw [HE.out]
               exact ⟨by first | rfl | (push_cast; rfl), hbw.trans (hb1.mono hbw.size)⟩
              | inl x =>
               obtain ⟨xl, xn⟩ := x
               obtain ⟨r1, r2, r3⟩ := HP1.out xl xn rfl
               have HN : Hid ((lead TT g (k + xn) (acc ++ xl)).2 = R) := r1
               clear r1 HP1 HP2
               go_wp2_with (go_at_call 202; (with_reducible refine (hpc _).mono ?_); rintro e u1 ⟨v, m, q2, rfl, ⟨rfl, rfl, _⟩, hb1⟩)
               refine ⟨⟨k + m, g, acc ++ xl, by push_cast; rfl, HL.out.next (by omega) r2, by omega, HN, hbw.trans (hb1.mono hbw.size)⟩, ?_⟩
               simp [vnatD]
               omega
  · have hkk : k = E := by omega
    have hks : ¬ (k : Int) < (s.size : Int) := by omega
    have hkg : (s.size : Int) ≤ (k : Int) := by omega
    have HE : Hid (R = (s.size, 11)) := by
      show R = (s.size, 11)
      rw [← HK.out, lead_end _ f k acc (by omega), hTs]
      have : E = s.size := by omega
      rw [this]
    clear HK HR hkk
    go_wp2
    go_ret2
    rw [HE.out]
    exact ⟨by first | rfl | (push_cast; rfl), hbw⟩
theorem runD_le (s : ByteArray) : ∀ (f p : Nat), p ≤ s.size → p ≤ runD s f p ∧ runD s f p ≤ s.size
 | 0, p, h => ⟨Nat.le_refl _, h⟩
 | f + 1, p, h => by
  rw [runD]
  by_cases hc : p < s.size ∧ looseB s p = false ∧ (cls (rn s p : Int) = 3 ∨ cls (rn s p : Int) = 4)
  · rw [if_pos hc]
    have h1 := wdt_le s p hc.1
    have h2 := runD_le s f (p + wdt s p) h1
    exact ⟨by omega, h2.2⟩
  · rw [if_neg hc]
    exact ⟨Nat.le_refl _, h⟩
def nxD (s : ByteArray) (i E : Nat) : Nat × Nat × Nat :=
 if looseB s i = true ∨ cls (rn s i : Int) = 6 then (0, i, 20)
 else if cls (rn s i : Int) = 4 then (if 128 < (starts (s.extract i (runD s s.size i))).length then (0, i, 22) else (2, runD s s.size i, 0))
 else if cls (rn s i : Int) = 3 then (match numR (s.extract i (runD s s.size i)) with | none => (0, i, 21) | some _ => (3, runD s s.size i, 0))
 else if byt s i = 34 then (4, (lead (s.extract 0 E) E (i + 1) []).2.1, (lead (s.extract 0 E) E (i + 1) []).2.2)
 else (5, i + wdt s i, 0)
def nxV (x : Nat × Nat × Nat) : Value := .tuple #[.int .i64 x.1, .int .i64 x.2.1, .int .i64 x.2.2]
theorem next_any (s : ByteArray) (hs : s.size ≤ 65536) (i E : Nat) (hi : i < s.size) (hE : LEnd s (i + 1) E) (w : World) : Calls Tryz.prog 112 #[.string s, .int .i64 (i : Int)] w fun e w' => e = .returned (nxV (nxD s i E)) ∧ Below w.heap.size w w' := by
 have hat := at_w s hs i hi
 have hcl := refClass_any (rn s i : Int)
 have hwl := wdt_le s i hi
 have hby := byt_get hi
 have hii : (i : Int) < (s.size : Int) := by omega
 have hi0 : (0 : Int) ≤ (i : Int) := by omega
 obtain ⟨N, hN⟩ : ∃ N, nxD s i E = N := ⟨_, rfl⟩
 rw [hN]
 unfold nxD at hN
 by_cases h1 : looseB s i = true ∨ cls (rn s i : Int) = 6
 · rw [if_pos h1] at hN
   have HN : Hid (N = (0, i, 20)) := hN.symm
   clear hN
   cases hlo : looseB s i with
   | true =>
     rw [hlo] at hat
     generalize cls (rn s i : Int) = C at *
     generalize rn s i = r at *
     clear h1 hlo hby
     go_enter Tryz.func112, Tryz.ntmps112
     go_wp2_with (first | (go_at_call 33; (with_reducible refine (hat _).mono ?_); rintro e u1 ⟨rfl, hb1⟩) | (go_at_call 34; (with_reducible refine (hcl _).mono ?_); rintro e u2 ⟨rfl, rfl⟩))
     go_ret3
     rw [HN.out]
     exact ⟨rfl, hb1⟩
   | false =>
     have h6 : cls (rn s i : Int) = 6 := by
      rcases h1 with e | e
      · rw [hlo] at e; cases e
      · exact e
     rw [hlo] at hat
     rw [h6] at hcl
     generalize rn s i = r at *
     clear h1 hlo h6 hby
     go_enter Tryz.func112, Tryz.ntmps112
     go_wp2_with (first | (go_at_call 33; (with_reducible refine (hat _).mono ?_); rintro e u1 ⟨rfl, hb1⟩) | (go_at_call 34; (with_reducible refine (hcl _).mono ?_); rintro e u2 ⟨rfl, rfl⟩))
     go_ret3
     rw [HN.out]
     exact ⟨rfl, hb1⟩
 rw [if_neg h1] at hN
 have hlo : looseB s i = false := by
   cases e : looseB s i with
   | false => rfl
   | true => exact absurd (.inl e) h1
 have h6 : ¬ cls (rn s i : Int) = 6 := fun e => h1 (.inr e)
 rw [hlo] at hat
 clear h1 hlo
 have hrn := rRun_any s hs i (by omega)
 obtain ⟨he1, he2⟩ := runD_le s s.size i (by omega)
 have hes : (s.extract i (runD s s.size i)).size ≤ 65536 := by simp; omega
 have hct := refCount_any (s.extract i (runD s s.size i)) (by omega)
 have hvl := refValue_any (s.extract i (runD s s.size i)) (by unfold maxLen; omega)
 have hqt := quoted_any s hs i E hi hE
 generalize runD s s.size i = D at *
 have hd1 : (i : Int) ≤ (D : Int) := by omega
 have hd2 : (D : Int) ≤ (s.size : Int) := by omega
 generalize hX : s.extract i D = X at *
 by_cases h4 : cls (rn s i : Int) = 4
 · rw [if_pos h4] at hN
   rw [h4] at hcl
   generalize rn s i = r at *
   by_cases hc : 128 < (starts X).length
   · rw [if_pos hc] at hN
     have HN : Hid (N = (0, i, 22)) := hN.symm
     have hci : (128 : Int) < ((starts X).length : Int) := by omega
     generalize (starts X).length = Y at *
     clear hN h6 h4 hc hby hvl hqt hE
     go_enter Tryz.func112, Tryz.ntmps112
     go_wp2_with (first | (go_at_call 33; (with_reducible refine (hat _).mono ?_); rintro e u1 ⟨rfl, hb1⟩) | (go_at_call 34; (with_reducible refine (hcl _).mono ?_); rintro e u2 ⟨rfl, rfl⟩) | (go_at_call 171; (with_reducible refine (hrn _).mono ?_); rintro e u3 ⟨rfl, hb3⟩) | (go_at_call 111; (with_reducible refine (hct _).mono ?_); rintro e u4 ⟨rfl, hb4⟩))
     go_ret3
     rw [HN.out]
     exact ⟨by first | rfl | (push_cast; rfl), (hb1.trans (hb3.mono hb1.size)).trans (hb4.mono (Nat.le_trans hb1.size hb3.size))⟩
   · rw [if_neg hc] at hN
     have HN : Hid (N = (2, D, 0)) := hN.symm
     have hci : ¬ (128 : Int) < ((starts X).length : Int) := by omega
     generalize (starts X).length = Y at *
     clear hN h6 h4 hc hby hvl hqt hE
     go_enter Tryz.func112, Tryz.ntmps112
     go_wp2_with (first | (go_at_call 33; (with_reducible refine (hat _).mono ?_); rintro e u1 ⟨rfl, hb1⟩) | (go_at_call 34; (with_reducible refine (hcl _).mono ?_); rintro e u2 ⟨rfl, rfl⟩) | (go_at_call 171; (with_reducible refine (hrn _).mono ?_); rintro e u3 ⟨rfl, hb3⟩) | (go_at_call 111; (with_reducible refine (hct _).mono ?_); rintro e u4 ⟨rfl, hb4⟩))
     go_ret3
     rw [HN.out]
     exact ⟨by first | rfl | (push_cast; rfl), (hb1.trans (hb3.mono hb1.size)).trans (hb4.mono (Nat.le_trans hb1.size hb3.size))⟩
 rw [if_neg h4] at hN
 by_cases h3 : cls (rn s i : Int) = 3
 · rw [if_pos h3] at hN
   rw [h3] at hcl
   generalize rn s i = r at *
   cases hv : numR X with
   | none =>
     rw [hv] at hN hvl
     have HN : Hid (N = (0, i, 21)) := hN.symm
     unfold valR at hvl
     clear hN h6 h4 h3 hby hct hqt hE hv
     go_enter Tryz.func112, Tryz.ntmps112
     go_wp2_with (first | (go_at_call 33; (with_reducible refine (hat _).mono ?_); rintro e u1 ⟨rfl, hb1⟩) | (go_at_call 34; (with_reducible refine (hcl _).mono ?_); rintro e u2 ⟨rfl, rfl⟩) | (go_at_call 171; (with_reducible refine (hrn _).mono ?_); rintro e u3 ⟨rfl, hb3⟩) | (go_at_call 172; (with_reducible refine (hvl _).mono ?_); rintro e u4 ⟨rfl, rfl⟩))
     go_ret3
     rw [HN.out]
     exact ⟨by first | rfl | (push_cast; rfl), hb1.trans (hb3.mono hb1.size)⟩
   | some v =>
     rw [hv] at hN hvl
     have HN : Hid (N = (3, D, 0)) := hN.symm
     unfold valR at hvl
     have hv0 : ¬ (v : Int) < 0 := by omega
     clear hN h6 h4 h3 hby hct hqt hE hv
     go_enter Tryz.func112, Tryz.ntmps112
     go_wp2_with (first | (go_at_call 33; (with_reducible refine (hat _).mono ?_); rintro e u1 ⟨rfl, hb1⟩) | (go_at_call 34; (with_reducible refine (hcl _).mono ?_); rintro e u2 ⟨rfl, rfl⟩) | (go_at_call 171; (with_reducible refine (hrn _).mono ?_); rintro e u3 ⟨rfl, hb3⟩) | (go_at_call 172; (with_reducible refine (hvl _).mono ?_); rintro e u4 ⟨rfl, rfl⟩))
     go_ret3
     rw [HN.out]
     exact ⟨by first | rfl | (push_cast; rfl), hb1.trans (hb3.mono hb1.size)⟩
 rw [if_neg h3] at hN
 clear hrn hct hvl hes he1 he2 hd1 hd2 hX
 by_cases h34 : byt s i = 34
 · rw [if_pos h34] at hN
   have hq' : (s[i]'hi).toNat = 34 := by omega
   generalize (lead (s.extract 0 E) E (i + 1) []).2.1 = L1 at *
   generalize (lead (s.extract 0 E) E (i + 1) []).2.2 = L2 at *
   have HN : Hid (N = (4, L1, L2)) := hN.symm
   generalize cls (rn s i : Int) = C at *
   generalize rn s i = r at *
   clear hN h34 hby hE
   go_enter Tryz.func112, Tryz.ntmps112
   go_wp2_with (first | (go_at_call 33; (with_reducible refine (hat _).mono ?_); rintro e u1 ⟨rfl, hb1⟩) | (go_at_call 34; (with_reducible refine (hcl _).mono ?_); rintro e u2 ⟨rfl, rfl⟩) | (go_at_call 173; (with_reducible refine (hqt _).mono ?_); rintro e u3 ⟨rfl, hb3⟩))
   go_ret3
   rw [HN.out]
   exact ⟨by first | rfl | (push_cast; rfl), hb1.trans (hb3.mono hb1.size)⟩
 · rw [if_neg h34] at hN
   have hq' : (((s[i]'hi).toNat : Int) == 34) = false := beq_eq_false_iff_ne.2 (by omega)
   have HN : Hid (N = (5, i + wdt s i, 0)) := hN.symm
   generalize cls (rn s i : Int) = C at *
   generalize rn s i = r at *
   clear hN h34 hby hE hqt
   go_enter Tryz.func112, Tryz.ntmps112
   go_wp2_with (first | (go_at_call 33; (with_reducible refine (hat _).mono ?_); rintro e u1 ⟨rfl, hb1⟩) | (go_at_call 34; (with_reducible refine (hcl _).mono ?_); rintro e u2 ⟨rfl, rfl⟩))
   go_ret3
   rw [HN.out]
   exact ⟨by first | rfl | (push_cast; rfl), hb1⟩
theorem lead_gt (s : ByteArray) : ∀ (f p : Nat) (acc : List UInt8), (lead s f p acc).2.2 = 0 → p ≤ (lead s f p acc).2.1
 | 0, p, acc, h => by
  by_cases hp : p < s.size
  · unfold lead at h ⊢
    first | omega | simp_all
  · rw [lead_end s 0 p acc hp] at h
    simp at h
 | f + 1, p, acc, h => by
  by_cases hp : p < s.size
  · by_cases hq : byt s p = 34
    · rw [lead_quote s f p acc hp hq]
      show p ≤ p + 1
      omega
    · cases hpr : pieceR s p with
      | inl x =>
       obtain ⟨l, n⟩ := x
       obtain ⟨e, _, _, _⟩ := piece_ok s f p acc l n hp hq hpr
       rw [e] at h ⊢
       have := lead_gt s f (p + n) (acc ++ l) h
       omega
      | inr k =>
       obtain ⟨e, hk⟩ := piece_err s f p acc k hp hq hpr
       rw [e] at h
       exact absurd h hk
  · rw [lead_end s (f + 1) p acc hp] at h
    simp at h
theorem nx_bounds (s : ByteArray) (i E : Nat) (hi : i < s.size) (hE : LEnd s (i + 1) E) (h : (nxD s i E).2.2 = 0) : i < (nxD s i E).2.1 ∧ (nxD s i E).2.1 ≤ s.size := by
 have hw := wdt_pos s i
 have hwl := wdt_le s i hi
 have hEs := hE.2.1
 unfold nxD at h ⊢
 by_cases h1 : looseB s i = true ∨ cls (rn s i : Int) = 6
 · rw [if_pos h1] at h
   cases h
 rw [if_neg h1] at h ⊢
 have hrun : cls (rn s i : Int) = 3 ∨ cls (rn s i : Int) = 4 → i < runD s s.size i ∧ runD s s.size i ≤ s.size := fun hc => by
   have hlo : looseB s i = false := by
     cases e : looseB s i with
     | false => rfl
     | true => exact absurd (.inl e) h1
   obtain ⟨g, hg⟩ : ∃ g, s.size = g + 1 := ⟨s.size - 1, by omega⟩
   have h2 := runD_le s g (i + wdt s i) hwl
   have h3 : runD s (g + 1) i = runD s g (i + wdt s i) := runD_on s g i hi hlo hc
   rw [← hg] at h3
   rw [h3]
   omega
 by_cases h4 : cls (rn s i : Int) = 4
 · rw [if_pos h4] at h ⊢
   by_cases hc : 128 < (starts (s.extract i (runD s s.size i))).length
   · rw [if_pos hc] at h
     cases h
   · rw [if_neg hc]
     exact hrun (.inr h4)
 rw [if_neg h4] at h ⊢
 by_cases h3 : cls (rn s i : Int) = 3
 · rw [if_pos h3] at h ⊢
   cases hv : numR (s.extract i (runD s s.size i)) with
   | none =>
     rw [hv] at h
     cases h
   | some v => exact hrun (.inl h3)
 rw [if_neg h3] at h ⊢
 by_cases h34 : byt s i = 34
 · rw [if_pos h34] at h ⊢
   have h5 := lead_gt (s.extract 0 E) E (i + 1) [] h
   have hsz : (s.extract 0 E).size = E := by simp; omega
   have h6 := lead_le (s.extract 0 E) E (i + 1) [] (by have := hE.1; omega)
   dsimp only
   omega
 · rw [if_neg h34]
   dsimp only
   omega
end Go.Proofs.YtmahamdmapbilaaGreatDoor
namespace Go.Proofs.YtmahamdmapbilaaGreatDoor
open Go.RowKit Go.Shelf Go.Lib
theorem setRow_other {W : World} {b k : Nat} {cs : Array Value} (h : k ≠ b) : (W.setRow b cs).heap[k]? = W.heap[k]? := by
 have h2 : ¬ b = k := fun e => h e.symm
 simp [World.setRow, Array.getElem?_modify, h2]
end Go.Proofs.YtmahamdmapbilaaGreatDoor
