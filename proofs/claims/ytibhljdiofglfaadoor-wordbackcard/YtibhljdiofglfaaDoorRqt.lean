/- The document's quoted: what it answers of a text at a quote. -/
import Derived.Test.YtibhljdiofglfaaDoorRefX
import Derived.Test.YtibhljdiofglfaaDoorRct
namespace Go.Proofs.YtibhljdiofglfaaDoor
open Go.RowKit Go.Shelf

/-- E is the end of the line that the place p stands in. -/
def LEnd (s : ByteArray) (p E : Nat) : Prop := p ≤ E ∧ E ≤ s.size ∧ (∀ j, p ≤ j → j < E → byt s j ≠ 10) ∧ (E = s.size ∨ byt s E = 10)
theorem LEnd.next {s : ByteArray} {p q E : Nat} (h : LEnd s p E) (h1 : p ≤ q) (h2 : q ≤ E) : LEnd s q E := ⟨h2, h.2.1, fun j a b => h.2.2.1 j (by omega) b, h.2.2.2⟩
theorem lend_ex (s : ByteArray) : ∀ (f p : Nat), p ≤ s.size → s.size ≤ p + f → ∃ E, LEnd s p E
  | 0, p, h, hf => ⟨p, Nat.le_refl _, h, fun j a b => by omega, .inl (by omega)⟩
  | f + 1, p, h, hf => by
    by_cases hp : p = s.size
    · exact ⟨p, Nat.le_refl _, h, fun j a b => by omega, .inl hp⟩
    by_cases hn : byt s p = 10
    · exact ⟨p, Nat.le_refl _, h, fun j a b => by omega, .inr hn⟩
    · obtain ⟨E, h1, h2, h3, h4⟩ := lend_ex s f (p + 1) (by omega) (by omega)
      refine ⟨E, by omega, h2, fun j a b => ?_, h4⟩
      by_cases hj : j = p
      · subst hj; exact hn
      · exact h3 j (by omega) b
theorem byt_pre {s : ByteArray} {E k : Nat} (hE : E ≤ s.size) (hk : k < E) : byt (s.extract 0 E) k = byt s k := by
  have hsz : (s.extract 0 E).size = E := by simp; omega
  rw [byt_get (s := s.extract 0 E) (by omega), byt_get (s := s) (by omega)]
  congr 1
  rw [ByteArray.getElem_extract]
  simp
set_option maxHeartbeats 8000000 in
set_option maxRecDepth 100000 in
theorem quoted_any (s : ByteArray) (hs : s.size ≤ 65536) (i E : Nat) (hi : i < s.size) (hE : LEnd s (i + 1) E) (w : World) : Calls Tryd.prog 42 #[.string s, .int .i64 (i : Int)] w fun e w' => e = .returned (.tuple #[.int .i64 (lead (s.extract 0 E) E (i + 1) []).2.1, .int .i64 (lead (s.extract 0 E) E (i + 1) []).2.2]) ∧ Below w.heap.size w w' := by
  obtain ⟨R, hR⟩ : ∃ R, (lead (s.extract 0 E) E (i + 1) []).2 = R := ⟨_, rfl⟩
  rw [hR]
  have HR : Hid ((lead (s.extract 0 E) E (i + 1) []).2 = R) := hR
  clear hR
  have hEs := hE.2.1
  have hTs : (s.extract 0 E).size = E := by simp; omega
  go_enter Tryd.func42, Tryd.ntmps42
  go_wp2
  go_loopw [6] (fun c wz => ∃ (k f : Nat) (acc : List UInt8), c = .int .i64 (k : Int) ∧ LEnd s k E ∧ E ≤ k + f ∧ Hid ((lead (s.extract 0 E) f k acc).2 = R) ∧ Below w.heap.size w wz) (fun c _ => s.size - vnatD c)
  case atStart => exact ⟨i + 1, E, [], by push_cast; rfl, hE, by omega, HR, Below.refl _ _⟩
  case round =>
    obtain ⟨k, f, acc, rfl, hL, hf, HK, hbw⟩ := hrel
    have hkE := hL.1
    by_cases hkl : k < s.size
    · have hki : (k : Int) < (s.size : Int) := by omega
      have hby := byt_get hkl
      by_cases hq : byt s k = 34
      · have hkE2 : k < E := by
          rcases hL.2.2.2 with e | e
          · omega
          · rcases Nat.lt_or_ge k E with h | h
            · exact h
            · have : k = E := by omega
              subst this
              omega
        obtain ⟨g, rfl⟩ : ∃ g, f = g + 1 := ⟨f - 1, by omega⟩
        have hq' : (s[k]'hkl).toNat = 34 := by omega
        have HE : Hid (R = (k + 1, 0)) := by
          show R = (k + 1, 0)
          rw [← HK.out, lead_quote _ g k acc (by omega) (by rw [byt_pre hEs hkE2]; exact hq)]
        clear HK HR hby
        go_wp2
        go_ret2
        rw [HE.out]
        exact ⟨by first | rfl | (push_cast; rfl), hbw⟩
      · have hq' : (((s[k]'hkl).toNat : Int) != 34) = true := by simp; omega
        by_cases hn : byt s k = 10
        · have hkk : k = E := by
            rcases Nat.lt_or_ge k E with h | h
            · exact absurd hn (hL.2.2.1 k (Nat.le_refl _) h)
            · omega
          have HE : Hid (R = (k, 11)) := by
            show R = (k, 11)
            rw [← HK.out, lead_end _ f k acc (by omega), hTs, hkk]
          have hn' : (s[k]'hkl).toNat = 10 := by omega
          clear HK HR hby hkk
          go_wp2
          go_ret2
          rw [HE.out]
          exact ⟨by first | rfl | (push_cast; rfl), hbw⟩
        · have hkE2 : k < E := by
            rcases hL.2.2.2 with e | e
            · omega
            · rcases Nat.lt_or_ge k E with h | h
              · exact h
              · have hkk : k = E := by omega
                rw [← hkk] at e
                exact absurd e hn
          obtain ⟨g, rfl⟩ : ∃ g, f = g + 1 := ⟨f - 1, by omega⟩
          have hn' : (((s[k]'hkl).toNat : Int) == 10) = false := beq_eq_false_iff_ne.2 (by omega)
          have hpc := refPiece_any (s.extract 0 E) (by omega) k (by omega)
          have h34 : byt (s.extract 0 E) k ≠ 34 := by rw [byt_pre hEs hkE2]; exact hq
          have HP1 : Hid (∀ l n, pieceR (s.extract 0 E) k = .inl (l, n) → (lead (s.extract 0 E) g (k + n) (acc ++ l)).2 = R ∧ k + n ≤ E ∧ 1 ≤ n) := fun l n hp => by
            obtain ⟨a1, a2, a3, _⟩ := piece_ok (s.extract 0 E) g k acc l n (by omega) h34 hp
            exact ⟨by rw [← a1]; exact HK.out, by omega, a3⟩
          have HP2 : Hid (∀ q, pieceR (s.extract 0 E) k = .inr q → R = (k, q) ∧ q ≠ 0) := fun q hp => by
            obtain ⟨a1, a2⟩ := piece_err (s.extract 0 E) g k acc q (by omega) h34 hp
            exact ⟨by rw [← HK.out, a1], a2⟩
          generalize pieceR (s.extract 0 E) k = PR at *
          have HL : Hid (LEnd s k E) := hL
          generalize hTT : s.extract 0 E = TT at *
          clear HK HR hL h34 hby
          go_wp2
          go_loopw [7] (fun c wz => ∃ j : Nat, c = .int .i64 (j : Int) ∧ k ≤ j ∧ j ≤ E ∧ wz = wr) (fun c _ => s.size - vnatD c)
          case atStart => exact ⟨k, rfl, Nat.le_refl _, by omega, rfl⟩
          case round =>
            obtain ⟨j, rfl, hj1, hj2, rfl⟩ := hrel
            by_cases hjE : j < E
            · have hjs : j < s.size := by omega
              have hji : (j : Int) < (s.size : Int) := by omega
              have hjn : byt s j ≠ 10 := HL.out.2.2.1 j hj1 hjE
              have hjb := byt_get hjs
              have hjq : (((s[j]'hjs).toNat : Int) != 10) = true := by simp; omega
              clear hjb hjn
              go_wp2
              go_roundw
              case rel => exact ⟨j + 1, by push_cast; rfl, by omega, by omega, trivial⟩
              case measure => simp [vnatD]; omega
            · obtain rfl : j = E := by omega
              have hj0 : (0 : Int) ≤ (j : Int) := by omega
              have hjs2 : (j : Int) ≤ (s.size : Int) := by omega
              rcases Nat.lt_or_ge j s.size with hlt | hge
              · have hjb := byt_get hlt
                have hj10 : byt s j = 10 := by
                  rcases HL.out.2.2.2 with e | e
                  · omega
                  · exact e
                have hji : (j : Int) < (s.size : Int) := by omega
                have hjq : (s[j]'hlt).toNat = 10 := by omega
                clear hjb hj10
                cases PR with
                | inr q =>
                  obtain ⟨r1, r2⟩ := HP2.out q rfl
                  have HE : Hid (R = (k, q)) := r1
                  have hq0 : ¬ (q : Int) = 0 := by omega
                  clear r1 HP1 HP2
                  go_wp2_with (go_at_call 54; (with_reducible refine (hpc _).mono ?_); rintro e u1 ⟨v, m, q2, rfl, ⟨rfl, rfl, rfl⟩, hb1⟩)
                  go_ret2
                  rw [HE.out]
                  exact ⟨by first | rfl | (push_cast; rfl), hbw.trans (hb1.mono hbw.size)⟩
                | inl x =>
                  obtain ⟨xl, xn⟩ := x
                  obtain ⟨r1, r2, r3⟩ := HP1.out xl xn rfl
                  have HN : Hid ((lead TT g (k + xn) (acc ++ xl)).2 = R) := r1
                  clear r1 HP1 HP2
                  go_wp2_with (go_at_call 54; (with_reducible refine (hpc _).mono ?_); rintro e u1 ⟨v, m, q2, rfl, ⟨rfl, rfl, _⟩, hb1⟩)
                  refine ⟨⟨k + m, g, acc ++ xl, by push_cast; rfl, HL.out.next (by omega) r2, by omega, HN, hbw.trans (hb1.mono hbw.size)⟩, ?_⟩
                  simp [vnatD]
                  omega
              · have hji : ¬ (j : Int) < (s.size : Int) := by omega
                cases PR with
                | inr q =>
                  obtain ⟨r1, r2⟩ := HP2.out q rfl
                  have HE : Hid (R = (k, q)) := r1
                  have hq0 : ¬ (q : Int) = 0 := by omega
                  clear r1 HP1 HP2
                  go_wp2_with (go_at_call 54; (with_reducible refine (hpc _).mono ?_); rintro e u1 ⟨v, m, q2, rfl, ⟨rfl, rfl, rfl⟩, hb1⟩)
                  go_ret2
                  rw [HE.out]
                  exact ⟨by first | rfl | (push_cast; rfl), hbw.trans (hb1.mono hbw.size)⟩
                | inl x =>
                  obtain ⟨xl, xn⟩ := x
                  obtain ⟨r1, r2, r3⟩ := HP1.out xl xn rfl
                  have HN : Hid ((lead TT g (k + xn) (acc ++ xl)).2 = R) := r1
                  clear r1 HP1 HP2
                  go_wp2_with (go_at_call 54; (with_reducible refine (hpc _).mono ?_); rintro e u1 ⟨v, m, q2, rfl, ⟨rfl, rfl, _⟩, hb1⟩)
                  refine ⟨⟨k + m, g, acc ++ xl, by push_cast; rfl, HL.out.next (by omega) r2, by omega, HN, hbw.trans (hb1.mono hbw.size)⟩, ?_⟩
                  simp [vnatD]
                  omega
    · have hkk : k = E := by omega
      have hks : ¬ (k : Int) < (s.size : Int) := by omega
      have hkg : (s.size : Int) ≤ (k : Int) := by omega
      have HE : Hid (R = (s.size, 11)) := by
        show R = (s.size, 11)
        rw [← HK.out, lead_end _ f k acc (by omega), hTs]
        have : E = s.size := by omega
        rw [this]
      clear HK HR hkk
      go_wp2
      go_ret2
      rw [HE.out]
      exact ⟨by first | rfl | (push_cast; rfl), hbw⟩
end Go.Proofs.YtibhljdiofglfaaDoor
