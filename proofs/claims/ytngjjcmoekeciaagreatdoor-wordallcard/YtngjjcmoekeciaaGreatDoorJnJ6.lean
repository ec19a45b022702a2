/- The document's quoted: what it answers of a text at a quote. -/
import Derived.Test.YtngjjcmoekeciaaGreatDoorJnJ5
import Derived.Test.YtngjjcmoekeciaaGreatDoorJnJ3
import Derived.Test.YtngjjcmoekeciaaGreatDoorJnJ1
namespace Go.Proofs.YtngjjcmoekeciaaGreatDoor
open Go.RowKit Go.Shelf

/-- E is the end of the line that the place p stands in. -/
def LEnd (s : ByteArray) (p E : Nat) : Prop := p ≤ E ∧ E ≤ s.size ∧ (∀ j, p ≤ j → j < E → byt s j ≠ 10) ∧ (E = s.size ∨ byt s E = 10)
theorem LEnd.next {s : ByteArray} {p q E : Nat} (h : LEnd s p E) (h1 : p ≤ q) (h2 : q ≤ E) : LEnd s q E := ⟨h2, h.2.1, fun j a b => h.2.2.1 j (by omega) b, h.2.2.2⟩
theorem lend_ex (s : ByteArray) : ∀ (f p : Nat), p ≤ s.size → s.size ≤ p + f → ∃ E, LEnd s p E
  | 0, p, h, hf => ⟨p, Nat.le_refl _, h, fun j a b => by omega, .inl (by omega)⟩
  | f + 1, p, h, hf => by
    by_cases hp : p = s.size
    · exact ⟨p, Nat.le_refl _, h, fun j a b => by omega, .inl hp⟩
    by_cases hn : byt s p = 10
    · exact ⟨p, Nat.le_refl _, h, fun j a b => by omega, .inr hn⟩
    · obtain ⟨E, h1, h2, h3, h4⟩ := lend_ex s f (p + 1) (by omega) (by omega)
      refine ⟨E, by omega, h2, fun j a b => ?_, h4⟩
      by_cases hj : j = p
      · subst hj; exact hn
      · exact h3 j (by omega) b
theorem byt_pre {s : ByteArray} {E k : Nat} (hE : E ≤ s.size) (hk : k < E) : byt (s.extract 0 E) k = byt s k := by
  have hsz : (s.extract 0 E).size = E := by simp; omega
  rw [byt_get (s := s.extract 0 E) (by omega), byt_get (s := s) (by omega)]
  congr 1
  rw [ByteArray.getElem_extract]
  simp
set_option maxHeartbeats 8000000 in
set_option maxRecDepth 100000 in
theorem quoted_any (s : ByteArray) (hs : s.size ≤ 65536) (i E : Nat) (hi : i < s.size) (hE : LEnd s (i + 1) E) (w : World) : Calls Tryz.prog 82 #[.string s, .int .i64 (i : Int)] w fun e w' => e = .returned (.tuple #[.int .i64 (lead (s.extract 0 E) E (i + 1) []).2.1, .int .i64 (lead (s.extract 0 E) E (i + 1) []).2.2]) ∧ Below w.heap.size w w' := by
  obtain ⟨R, hR⟩ : ∃ R, (lead (s.extract 0 E) E (i + 1) []).2 = R := ⟨_, rfl⟩
  rw [hR]
  have HR : Hid ((lead (s.extract 0 E) E (i + 1) []).2 = R) := hR
  clear hR
  have hEs := hE.2.1
  have hTs : (s.extract 0 E).size = E := by simp; omega
  go_enter Tryz.func82, Tryz.ntmps82
  go_wp2
  go_loopw [6] (fun c wz => ∃ (k f : Nat) (acc : List UInt8), c = .int .i64 (k : Int) ∧ LEnd s k E ∧ E ≤ k + f ∧ Hid ((lead (s.extract 0 E) f k acc).2 = R) ∧ Below w.heap.size w wz) (fun c _ => s.size - vnatD c)
  case atStart => exact ⟨i + 1, E, [], by push_cast; rfl, hE, by omega, HR, Below.refl _ _⟩
  case round =>
    obtain ⟨k, f, acc, rfl, hL, hf, HK, hbw⟩ := hrel
    have hkE := hL.1
    by_cases hkl : k < s.size
    · have hki : (k : Int) < (s.size : Int) := by omega
      have hby := byt_get hkl
      by_cases hq : byt s k = 34
      · have hkE2 : k < E := by
          rcases hL.2.2.2 with e | e
          · omega
          · rcases Nat.lt_or_ge k E with h | h
            · exact h
            · have : k = E := by omega
              subst this
              omega
        obtain ⟨g, rfl⟩ : ∃ g, f = g + 1 := ⟨f - 1, by omega⟩
        have hq' : (s[k]'hkl).toNat = 34 := by omega
        have HE : Hid (R = (k + 1, 0)) := by
          show R = (k + 1, 0)
          rw [← HK.out, lead_quote _ g k acc (by omega) (by rw [byt_pre hEs hkE2]; exact hq)]
        clear HK HR hby
        go_wp2
        go_ret2
        rw [HE.out]
        exact ⟨by first | rfl | (push_cast; rfl), hbw⟩
      · have hq' : (((s[k]'hkl).toNat : Int) != 34) = true := by simp; omega
        by_cases hn : byt s k = 10
        · have hkk : k = E := by
            rcases Nat.lt_or_ge k E with h | h
            · exact absurd hn (hL.2.2.1 k (Nat.le_refl _) h)
            · omega
          have HE : Hid (R = (k, 11)) := by
            show R = (k, 11)
            rw [← HK.out, lead_end _ f k acc (by omega), hTs, hkk]
          have hn' : (s[k]'hkl).toNat = 10 := by omega
          clear HK HR hby hkk
          go_wp2
          go_ret2
          rw [HE.out]
          exact ⟨by first | rfl | (push_cast; rfl), hbw⟩
        · have hkE2 : k < E := by
            rcases hL.2.2.2 with e | e
            · omega
            · rcases Nat.lt_or_ge k E with h | h
              · exact h
              · have hkk : k = E := by omega
                rw [← hkk] at e
                exact absurd e hn
          obtain ⟨g, rfl⟩ : ∃ g, f = g + 1 := ⟨f - 1, by omega⟩
          have hn' : (((s[k]'hkl).toNat : Int) == 10) = false := beq_eq_false_iff_ne.2 (by omega)
          have hpc := refPiece_any (s.extract 0 E) (by omega) k (by omega)
          have h34 : byt (s.extract 0 E) k ≠ 34 := by rw [byt_pre hEs hkE2]; exact hq
          have HP1 : Hid (∀ l n, pieceR (s.extract 0 E) k = .inl (l, n) → (lead (s.extract 0 E) g (k + n) (acc ++ l)).2 = R ∧ k + n ≤ E ∧ 1 ≤ n) := fun l n hp => by
            obtain ⟨a1, a2, a3, _⟩ := piece_ok (s.extract 0 E) g k acc l n (by omega) h34 hp
            exact ⟨by rw [← a1]; exact HK.out, by omega, a3⟩
          have HP2 : Hid (∀ q, pieceR (s.extract 0 E) k = .inr q → R = (k, q) ∧ q ≠ 0) := fun q hp => by
            obtain ⟨a1, a2⟩ := piece_err (s.extract 0 E) g k acc q (by omega) h34 hp
            exact ⟨by rw [← HK.out, a1], a2⟩
          generalize pieceR (s.extract 0 E) k = PR at *
          have HL : Hid (LEnd s k E) := hL
          generalize hTT : s.extract 0 E = TT at *
          clear HK HR hL h34 hby
          go_wp2
          go_loopw [7] (fun c wz => ∃ j : Nat, c = .int .i64 (j : Int) ∧ k ≤ j ∧ j ≤ E ∧ wz = wr) (fun c _ => s.size - vnatD c)
          case atStart => exact ⟨k, rfl, Nat.le_refl _, by omega, rfl⟩
          case round =>
            obtain ⟨j, rfl, hj1, hj2, rfl⟩ := hrel
            by_cases hjE : j < E
            · have hjs : j < s.size := by omega
              have hji : (j : Int) < (s.size : Int) := by omega
              have hjn : byt s j ≠ 10 := HL.out.2.2.1 j hj1 hjE
              have hjb := byt_get hjs
              have hjq : (((s[j]'hjs).toNat : Int) != 10) = true := by simp; omega
              clear hjb hjn
              go_wp2
              go_roundw
              case rel => exact ⟨j + 1, by push_cast; rfl, by omega, by omega, trivial⟩
              case measure => simp [vnatD]; omega
            · obtain rfl : j = E := by omega
              have hj0 : (0 : Int) ≤ (j : Int) := by omega
              have hjs2 : (j : Int) ≤ (s.size : Int) := by omega
              rcases Nat.lt_or_ge j s.size with hlt | hge
              · have hjb := byt_get hlt
                have hj10 : byt s j = 10 := by
                  rcases HL.out.2.2.2 with e | e
                  · omega
                  · exact e
                have hji : (j : Int) < (s.size : Int) := by omega
                have hjq : (s[j]'hlt).toNat = 10 := by omega
                clear hjb hj10
                cases PR with
                | inr q =>
                  obtain ⟨r1, r2⟩ := HP2.out q rfl
                  have HE : Hid (R = (k, q)) := r1
                  have hq0 : ¬ (q : Int) = 0 := by omega
                  clear r1 HP1 HP2
                  go_wp2_with (go_at_call 117; (with_reducible refine (hpc _).mono ?_); rintro e u1 ⟨v, m, q2, rfl, ⟨rfl, rfl, rfl⟩, hb1⟩)
                  go_ret2
                  rw [HE.out]
                  exact ⟨by first | rfl | (push_cast; rfl), hbw.trans (hb1.mono hbw.size)⟩
                | inl x =>
                  obtain ⟨xl, xn⟩ := x
                  obtain ⟨r1, r2, r3⟩ := HP1.out xl xn rfl
                  have HN : Hid ((lead TT g (k + xn) (acc ++ xl)).2 = R) := r1
                  clear r1 HP1 HP2
                  go_wp2_with (go_at_call 117; (with_reducible refine (hpc _).mono ?_); rintro e u1 ⟨v, m, q2, rfl, ⟨rfl, rfl, _⟩, hb1⟩)
                  refine ⟨⟨k + m, g, acc ++ xl, by push_cast; rfl, HL.out.next (by omega) r2, by omega, HN, hbw.trans (hb1.mono hbw.size)⟩, ?_⟩
                  simp [vnatD]
                  omega
              · have hji : ¬ (j : Int) < (s.size : Int) := by omega
                cases PR with
                | inr q =>
                  obtain ⟨r1, r2⟩ := HP2.out q rfl
                  have HE : Hid (R = (k, q)) := r1
                  have hq0 : ¬ (q : Int) = 0 := by omega
                  clear r1 HP1 HP2
                  go_wp2_with (go_at_call 117; (with_reducible refine (hpc _).mono ?_); rintro e u1 ⟨v, m, q2, rfl, ⟨rfl, rfl, rfl⟩, hb1⟩)
                  go_ret2
                  rw [HE.out]
                  exact ⟨by first | rfl | (push_cast; rfl), hbw.trans (hb1.mono hbw.size)⟩
                | inl x =>
                  obtain ⟨xl, xn⟩ := x
                  obtain ⟨r1, r2, r3⟩ := HP1.out xl xn rfl
                  have HN : Hid ((lead TT g (k + xn) (acc ++ xl)).2 = R) := r1
                  clear r1 HP1 HP2
                  go_wp2_with (go_at_call 117; (with_reducible refine (hpc _).mono ?_); rintro e u1 ⟨v, m, q2, rfl, ⟨rfl, rfl, _⟩, hb1⟩)
                  refine ⟨⟨k + m, g, acc ++ xl, by push_cast; rfl, HL.out.next (by omega) r2, by omega, HN, hbw.trans (hb1.mono hbw.size)⟩, ?_⟩
                  simp [vnatD]
                  omega
    · have hkk : k = E := by omega
      have hks : ¬ (k : Int) < (s.size : Int) := by omega
      have hkg : (s.size : Int) ≤ (k : Int) := by omega
      have HE : Hid (R = (s.size, 11)) := by
        show R = (s.size, 11)
        rw [← HK.out, lead_end _ f k acc (by omega), hTs]
        have : E = s.size := by omega
        rw [this]
      clear HK HR hkk
      go_wp2
      go_ret2
      rw [HE.out]
      exact ⟨by first | rfl | (push_cast; rfl), hbw⟩
end Go.Proofs.YtngjjcmoekeciaaGreatDoor
namespace Go.Proofs.YtngjjcmoekeciaaGreatDoor
open Go.RowKit Go.Shelf

/-- The value of the digits from the place p on, behind v; none: they are no number. -/
def numAt (s : ByteArray) : Nat → Nat → Nat → Option Nat
  | 0, _, v => some v
  | f + 1, p, v =>
    if ¬ p < s.size then some v
    else if 48 ≤ byt s p ∧ byt s p ≤ 57 then (if 1099511627776 < v * 10 + (byt s p - 48) then none else numAt s f (p + 1) (v * 10 + (byt s p - 48)))
    else none
def numR (s : ByteArray) : Option Nat := if s.size = 0 ∨ (byt s 0 = 48 ∧ 1 < s.size) then none else numAt s s.size 0 0
def numV (o : Option Nat) : Value := match o with | none => .tuple #[.int .i64 0, .int .i64 21] | some v => .tuple #[.int .i64 (v : Nat), .int .i64 0]

def valR (o : Option Nat) : Int := match o with | none => -1 | some v => (v : Int)
theorem numAt_end (s : ByteArray) (f p v : Nat) (h : ¬ p < s.size) : numAt s f p v = some v := by
  cases f with
  | zero => rfl
  | succ f => rw [numAt, if_pos h]
theorem numAt_no (s : ByteArray) (f p v : Nat) (h : p < s.size) (hd : ¬ (48 ≤ byt s p ∧ byt s p ≤ 57)) : numAt s (f + 1) p v = none := by
  rw [numAt, if_neg (by omega), if_neg hd]
theorem numAt_great (s : ByteArray) (f p v : Nat) (h : p < s.size) (hd : 48 ≤ byt s p ∧ byt s p ≤ 57) (hg : 1099511627776 < v * 10 + (byt s p - 48)) : numAt s (f + 1) p v = none := by
  rw [numAt, if_neg (by omega), if_pos hd, if_pos hg]
theorem numAt_on (s : ByteArray) (f p v : Nat) (h : p < s.size) (hd : 48 ≤ byt s p ∧ byt s p ≤ 57) (hg : ¬ 1099511627776 < v * 10 + (byt s p - 48)) : numAt s (f + 1) p v = numAt s f (p + 1) (v * 10 + (byt s p - 48)) := by
  rw [numAt, if_neg (by omega), if_pos hd, if_neg hg]
theorem cls_digit (r : Int) : (cls r = 3) ↔ (48 ≤ r ∧ r ≤ 57) := by
  unfold cls
  constructor
  · intro h
    repeat' split at h
    all_goals omega
  · intro h
    rw [if_neg (by omega), if_neg (by omega), if_pos h]
theorem eq_empty (s : ByteArray) : (s.toList == ([] : List UInt8)) = decide (s.size = 0) := by
  rw [Lib.toList_data]
  obtain ⟨⟨l⟩⟩ := s
  cases l with
  | nil => rfl
  | cons a l => rfl

set_option maxHeartbeats 2000000 in
set_option maxRecDepth 100000 in
theorem number_any (s : ByteArray) (hs : s.size ≤ maxLen) (w : World) :
    Calls Tryz.prog 75 #[.string s] w fun e w' => e = .returned (numV (numR s)) ∧ Below w.heap.size w w' := by
  unfold maxLen at hs
  by_cases h0 : s.size = 0
  · have HR : Hid (numR s = none) := by show numR s = none; unfold numR; rw [if_pos (Or.inl h0)]
    have he : s = ⟨#[]⟩ := by
      obtain ⟨⟨l⟩⟩ := s
      cases l with
      | nil => rfl
      | cons a l => simp [ByteArray.size] at h0
    subst he
    go_enter Tryz.func75, Tryz.ntmps75
    go_wp2
    go_ret2
    rw [HR.out]
    exact ⟨rfl, Below.refl _ _⟩
  have hp0 : 0 < s.size := by omega
  have hne : (s.toList == ([] : List UInt8)) = false := by rw [eq_empty]; exact decide_eq_false h0
  have hb := byt_get hp0
  have h0i : (0 : Int) < (s.size : Int) := by omega
  by_cases h1 : byt s 0 = 48 ∧ 1 < s.size
  · have HR : Hid (numR s = none) := by show numR s = none; unfold numR; rw [if_pos (Or.inr h1)]
    have hq : (s[0]'hp0).toNat = 48 := by omega
    have h1i : (1 : Int) < (s.size : Int) := by omega
    go_enter Tryz.func75, Tryz.ntmps75
    go_wp2
    go_ret2
    rw [HR.out]
    exact ⟨rfl, Below.refl _ _⟩
  have HR : Hid (numR s = numAt s s.size 0 0) := by show numR s = _; unfold numR; rw [if_neg (fun h => h.elim h0 h1)]
  have hcase : ((s[0]'hp0).toNat = 48 ∧ ¬ 1 < (s.size : Int)) ∨ (((s[0]'hp0).toNat : Int) == 48) = false := by
    by_cases hx : byt s 0 = 48
    · exact Or.inl ⟨by omega, fun h => h1 ⟨hx, by omega⟩⟩
    · exact Or.inr (beq_eq_false_iff_ne.2 (by omega))
  clear h1
  rcases hcase with ⟨q1, q2⟩ | q1
  all_goals
    go_enter Tryz.func75, Tryz.ntmps75
    go_wp2
    go_loopw [4] (fun c wz => ∃ (pos v f : Nat), c = .int .i64 v ∧ s.size ≤ pos + f ∧ v ≤ 1099511627776 ∧ pos ≤ s.size ∧ Hid (numAt s f pos v = numR s) ∧ wz.heap[w.heap.size]? = some (.stringIter s pos) ∧ Below w.heap.size w wz) (fun _ wz => s.size - wz.iterPos w.heap.size)
    case atStart =>
      refine ⟨0, 0, s.size, rfl, by omega, by omega, by omega, HR.out.symm, ?_, (Below.refl _ w).alloc (Nat.le_refl _) _⟩
      exact World.iter_heap w s 0
    case round =>
      obtain ⟨pos, v, f, rfl, hfu, hv, hps, HN, hit, hbw⟩ := hrel
      have hsz : w.heap.size < wr.heap.size := (Array.getElem?_eq_some_iff.1 hit).1
      by_cases hp : pos < s.size
      · obtain ⟨g, rfl⟩ : ∃ g, f = g + 1 := ⟨f - 1, by omega⟩
        have hnx : ∀ ty, (Instr.next (.pointer (some ⟨w.heap.size, 0, none⟩)) true ty).run Tryz.prog wr = _ := fun ty => Lib.run_next_any_at wr w.heap.size s pos ty hit hp
        have hit2 := Lib.iterAt_heap wr w.heap.size s pos (pos + wd s pos) hit
        have hbw2 := Lib.below_iterAt hbw (k := w.heap.size) (Nat.le_refl _) s (pos + wd s pos)
        have hsz3 : wr.iterPos w.heap.size = pos := by simp only [World.iterPos, hit]
        have erw : (Utf8.decode s pos).1 = rn s pos := rfl
        have eww : (Utf8.decode s pos).2 = wd s pos := rfl
        rw [erw, eww] at hnx
        clear erw eww
        have hc := class_any (rn s pos : Int)
        have hiff := cls_digit (rn s pos : Int)
        by_cases hd : 48 ≤ byt s pos ∧ byt s pos ≤ 57
        · obtain ⟨o1, o2⟩ := one_byte s pos hp (by omega)
          have h3 : cls (rn s pos : Int) = 3 := hiff.2 (by omega)
          rw [h3, o1] at hc
          rw [o1, o2] at hnx
          rw [o2] at hit2 hbw2
          have hd1 : 48 ≤ (byt s pos : Int) := by omega
          have hd2 : (byt s pos : Int) ≤ 57 := by omega
          clear hiff h3 o1 o2
          by_cases hg : 1099511627776 < v * 10 + (byt s pos - 48)
          · have HV : Hid (numR s = none) := by show numR s = none; rw [← HN.out, numAt_great s g pos v hp hd hg]
            have hgi : 1099511627776 < (v : Int) * 10 + ((byt s pos : Int) - 48) := by omega
            clear HN hbw hd hg
            go_wp2_with (go_at_call 108; refine (hc _).mono ?_; rintro e w9 ⟨rfl, rfl⟩)
            go_ret2
            rw [HV.out]
            exact ⟨rfl, hbw2⟩
          · have HV : Hid (numAt s g (pos + 1) (v * 10 + (byt s pos - 48)) = numR s) := by show numAt s g (pos + 1) (v * 10 + (byt s pos - 48)) = numR s; rw [← HN.out, numAt_on s g pos v hp hd hg]
            have hgi : ¬ 1099511627776 < (v : Int) * 10 + ((byt s pos : Int) - 48) := by omega
            have HE : Hid ((v : Int) * 10 + ((byt s pos : Int) - 48) = ((v * 10 + (byt s pos - 48) : Nat) : Int)) := by show (v : Int) * 10 + ((byt s pos : Int) - 48) = _; omega
            have HG : Hid (v * 10 + (byt s pos - 48) ≤ 1099511627776) := by show v * 10 + (byt s pos - 48) ≤ 1099511627776; omega
            clear HN hbw hd hg
            go_wp2_with (go_at_call 108; refine (hc _).mono ?_; rintro e w9 ⟨rfl, rfl⟩)
            go_roundw
            case rel => exact ⟨pos + 1, v * 10 + (byt s pos - 48), g, by rw [HE.out], by omega, HG.out, by omega, HV, hit2, hbw2⟩
            case measure =>
              rw [hsz3]
              simp only [World.iterPos, hit2]
              omega
        · have HV : Hid (numR s = none) := by show numR s = none; rw [← HN.out, numAt_no s g pos v hp hd]
          have h3 : (cls (rn s pos : Int) == 3) = false := by
            refine beq_eq_false_iff_ne.2 (fun h => hd ?_)
            have h := hiff.1 h
            by_cases h8 : byt s pos < 128
            · have := (one_byte s pos hp h8).1
              omega
            · have := more_byte s pos hp (by omega)
              omega
          clear HN hbw hd hiff
          go_wp2_with (go_at_call 108; refine (hc _).mono ?_; rintro e w9 ⟨rfl, rfl⟩)
          go_ret2
          rw [HV.out]
          exact ⟨rfl, hbw2⟩
      · have hnx : ∀ ty, (Instr.next (.pointer (some ⟨w.heap.size, 0, none⟩)) true ty).run Tryz.prog wr = _ := fun ty => Lib.run_next_end_at wr w.heap.size s pos ty hit hp
        have HV : Hid (numR s = some v) := by show numR s = some v; rw [← HN.out, numAt_end s f pos v hp]
        clear HN
        go_wp2
        go_ret2
        rw [HV.out]
        exact ⟨rfl, hbw⟩

set_option maxHeartbeats 2000000 in
theorem refValue_any (s : ByteArray) (hs : s.size ≤ maxLen) (w : World) :
    Calls Tryz.prog 81 #[.string s] w fun e w' => e = .returned (.int .i64 (valR (numR s))) ∧ w' = w := by
  unfold maxLen at hs
  by_cases h0 : s.size = 0
  · have HR : Hid (numR s = none) := by show numR s = none; unfold numR; rw [if_pos (Or.inl h0)]
    have h0i : (s.size : Int) = 0 := by omega
    go_enter Tryz.func81, Tryz.ntmps81
    go_wp2
    go_ret
    rw [HR.out]
    exact ⟨rfl, rfl⟩
  have hp0 : 0 < s.size := by omega
  have hb := byt_get hp0
  have h0i : (0 : Int) < (s.size : Int) := by omega
  have h0n : ((s.size : Int) == 0) = false := beq_eq_false_iff_ne.2 (by omega)
  by_cases h1 : byt s 0 = 48 ∧ 1 < s.size
  · have HR : Hid (numR s = none) := by show numR s = none; unfold numR; rw [if_pos (Or.inr h1)]
    have hq : (s[0]'hp0).toNat = 48 := by omega
    have h1i : (1 : Int) < (s.size : Int) := by omega
    go_enter Tryz.func81, Tryz.ntmps81
    go_wp2
    go_ret
    rw [HR.out]
    exact ⟨rfl, rfl⟩
  have HR : Hid (numR s = numAt s s.size 0 0) := by show numR s = _; unfold numR; rw [if_neg (fun h => h.elim h0 h1)]
  have hcase : ((s[0]'hp0).toNat = 48 ∧ ¬ 1 < (s.size : Int)) ∨ (((s[0]'hp0).toNat : Int) == 48) = false := by
    by_cases hx : byt s 0 = 48
    · exact Or.inl ⟨by omega, fun h => h1 ⟨hx, by omega⟩⟩
    · exact Or.inr (beq_eq_false_iff_ne.2 (by omega))
  clear h1
  rcases hcase with ⟨q1, q2⟩ | q1
  all_goals
    go_enter Tryz.func81, Tryz.ntmps81
    go_wp2
    go_loopw [3, 4] (fun c i wz => ∃ (pos v f : Nat), c = .int .i64 v ∧ i = .int .i64 pos ∧ s.size ≤ pos + f ∧ v ≤ 1099511627776 ∧ pos ≤ s.size ∧ Hid (numAt s f pos v = numR s) ∧ wz = w) (fun _ i _ => s.size - (intOf i).toNat)
    case atStart => exact ⟨0, 0, s.size, rfl, rfl, by omega, by omega, by omega, HR.out.symm, rfl⟩
    case round =>
      obtain ⟨pos, v, f, rfl, rfl, hfu, hv, hps, HN, rfl⟩ := hrel
      by_cases hp : pos < s.size
      · obtain ⟨g, rfl⟩ : ∃ g, f = g + 1 := ⟨f - 1, by omega⟩
        have hbp := byt_get hp
        have hpi : (pos : Int) < (s.size : Int) := by omega
        have hlt := (s[pos]'hp).toNat_lt
        by_cases hd : 48 ≤ byt s pos ∧ byt s pos ≤ 57
        · have hd1 : ¬ ((s[pos]'hp).toNat : Int) < 48 := by omega
          have hd2 : ¬ 57 < ((s[pos]'hp).toNat : Int) := by omega
          by_cases hg : 1099511627776 < v * 10 + (byt s pos - 48)
          · have HV : Hid (numR s = none) := by show numR s = none; rw [← HN.out, numAt_great s g pos v hp hd hg]
            have hgi : 1099511627776 < (v : Int) * 10 + (((s[pos]'hp).toNat : Int) - 48) := by omega
            clear HN hd hg hbp
            go_wp2
            go_ret
            rw [HV.out]
            exact ⟨rfl, rfl⟩
          · have HV : Hid (numAt s g (pos + 1) (v * 10 + (byt s pos - 48)) = numR s) := by show numAt s g (pos + 1) (v * 10 + (byt s pos - 48)) = numR s; rw [← HN.out, numAt_on s g pos v hp hd hg]
            have hgi : ¬ 1099511627776 < (v : Int) * 10 + (((s[pos]'hp).toNat : Int) - 48) := by omega
            have HE : Hid ((v : Int) * 10 + (((s[pos]'hp).toNat : Int) - 48) = ((v * 10 + (byt s pos - 48) : Nat) : Int)) := by show (v : Int) * 10 + (((s[pos]'hp).toNat : Int) - 48) = _; omega
            have HG : Hid (v * 10 + (byt s pos - 48) ≤ 1099511627776) := by show v * 10 + (byt s pos - 48) ≤ 1099511627776; omega
            clear HN hd hg hbp
            go_wp2
            go_roundw
            case rel => exact ⟨pos + 1, v * 10 + (byt s pos - 48), g, by rw [HE.out], by go_num, by omega, HG.out, by omega, HV, trivial⟩
            case measure =>
              simp [intOf]
              omega
        · have HV : Hid (numR s = none) := by show numR s = none; rw [← HN.out, numAt_no s g pos v hp hd]
          by_cases h4 : ((s[pos]'hp).toNat : Int) < 48
          · clear HN hd hbp
            go_wp2
            go_ret
            rw [HV.out]
            exact ⟨rfl, rfl⟩
          · have h5 : 57 < ((s[pos]'hp).toNat : Int) := by omega
            clear HN hd hbp
            go_wp2
            go_ret
            rw [HV.out]
            exact ⟨rfl, rfl⟩
      · have HV : Hid (numR s = some v) := by show numR s = some v; rw [← HN.out, numAt_end s f pos v hp]
        have hpi : ¬ (pos : Int) < (s.size : Int) := by omega
        clear HN
        go_wp2
        go_ret
        rw [HV.out]
        exact ⟨rfl, rfl⟩

end Go.Proofs.YtngjjcmoekeciaaGreatDoor
namespace Go.Proofs.YtngjjcmoekeciaaGreatDoor
open Go.RowKit Go.Shelf

theorem runD_le (s : ByteArray) : ∀ (f p : Nat), p ≤ s.size → p ≤ runD s f p ∧ runD s f p ≤ s.size
  | 0, p, h => ⟨Nat.le_refl _, h⟩
  | f + 1, p, h => by
    rw [runD]
    by_cases hc : p < s.size ∧ looseB s p = false ∧ (cls (rn s p : Int) = 3 ∨ cls (rn s p : Int) = 4)
    · rw [if_pos hc]
      have h1 := wd_le s p hc.1
      have h2 := runD_le s f (p + wd s p) h1
      exact ⟨by omega, h2.2⟩
    · rw [if_neg hc]
      exact ⟨Nat.le_refl _, h⟩
/-- The word at the place i of a line that ends at E: its kind, its end, an error. -/
def nxD (s : ByteArray) (i E : Nat) : Nat × Nat × Nat :=
  if looseB s i = true ∨ cls (rn s i : Int) = 6 then (0, i, 20)
  else if cls (rn s i : Int) = 4 then (if 128 < (starts (s.extract i (runD s s.size i))).length then (0, i, 22) else (2, runD s s.size i, 0))
  else if cls (rn s i : Int) = 3 then (match numR (s.extract i (runD s s.size i)) with | none => (0, i, 21) | some _ => (3, runD s s.size i, 0))
  else if byt s i = 34 then (4, (lead (s.extract 0 E) E (i + 1) []).2.1, (lead (s.extract 0 E) E (i + 1) []).2.2)
  else (5, i + wd s i, 0)
def nxV (x : Nat × Nat × Nat) : Value := .tuple #[.int .i64 x.1, .int .i64 x.2.1, .int .i64 x.2.2]
set_option maxHeartbeats 8000000 in
set_option maxRecDepth 100000 in
theorem next_any (s : ByteArray) (hs : s.size ≤ 65536) (i E : Nat) (hi : i < s.size) (hE : LEnd s (i + 1) E) (w : World) : Calls Tryz.prog 20 #[.string s, .int .i64 (i : Int)] w fun e w' => e = .returned (nxV (nxD s i E)) ∧ Below w.heap.size w w' := by
  have hat := at_w s hs i hi
  have hcl := refClass_any (rn s i : Int)
  have hwl := wd_le s i hi
  have hby := byt_get hi
  have hii : (i : Int) < (s.size : Int) := by omega
  have hi0 : (0 : Int) ≤ (i : Int) := by omega
  obtain ⟨N, hN⟩ : ∃ N, nxD s i E = N := ⟨_, rfl⟩
  rw [hN]
  unfold nxD at hN
  by_cases h1 : looseB s i = true ∨ cls (rn s i : Int) = 6
  · rw [if_pos h1] at hN
    have HN : Hid (N = (0, i, 20)) := hN.symm
    clear hN
    cases hlo : looseB s i with
    | true =>
      rw [hlo] at hat
      generalize cls (rn s i : Int) = C at *
      generalize rn s i = r at *
      clear h1 hlo hby
      go_enter Tryz.func20, Tryz.ntmps20
      go_wp2_with (first | (go_at_call 78; (with_reducible refine (hat _).mono ?_); rintro e u1 ⟨rfl, hb1⟩) | (go_at_call 79; (with_reducible refine (hcl _).mono ?_); rintro e u2 ⟨rfl, rfl⟩))
      go_ret3
      rw [HN.out]
      exact ⟨rfl, hb1⟩
    | false =>
      have h6 : cls (rn s i : Int) = 6 := by
        rcases h1 with e | e
        · rw [hlo] at e; cases e
        · exact e
      rw [hlo] at hat
      rw [h6] at hcl
      generalize rn s i = r at *
      clear h1 hlo h6 hby
      go_enter Tryz.func20, Tryz.ntmps20
      go_wp2_with (first | (go_at_call 78; (with_reducible refine (hat _).mono ?_); rintro e u1 ⟨rfl, hb1⟩) | (go_at_call 79; (with_reducible refine (hcl _).mono ?_); rintro e u2 ⟨rfl, rfl⟩))
      go_ret3
      rw [HN.out]
      exact ⟨rfl, hb1⟩
  rw [if_neg h1] at hN
  have hlo : looseB s i = false := by
    cases e : looseB s i with
    | false => rfl
    | true => exact absurd (.inl e) h1
  have h6 : ¬ cls (rn s i : Int) = 6 := fun e => h1 (.inr e)
  rw [hlo] at hat
  clear h1 hlo
  have hrn := rRun_any s hs i (by omega)
  obtain ⟨he1, he2⟩ := runD_le s s.size i (by omega)
  have hes : (s.extract i (runD s s.size i)).size ≤ 65536 := by simp; omega
  have hct := refCount_any (s.extract i (runD s s.size i)) (by omega)
  have hvl := refValue_any (s.extract i (runD s s.size i)) (by unfold maxLen; omega)
  have hqt := quoted_any s hs i E hi hE
  generalize runD s s.size i = D at *
  have hd1 : (i : Int) ≤ (D : Int) := by omega
  have hd2 : (D : Int) ≤ (s.size : Int) := by omega
  generalize hX : s.extract i D = X at *
  by_cases h4 : cls (rn s i : Int) = 4
  · rw [if_pos h4] at hN
    rw [h4] at hcl
    generalize rn s i = r at *
    by_cases hc : 128 < (starts X).length
    · rw [if_pos hc] at hN
      have HN : Hid (N = (0, i, 22)) := hN.symm
      have hci : (128 : Int) < ((starts X).length : Int) := by omega
      generalize (starts X).length = Y at *
      clear hN h6 h4 hc hby hvl hqt hE
      go_enter Tryz.func20, Tryz.ntmps20
      go_wp2_with (first | (go_at_call 78; (with_reducible refine (hat _).mono ?_); rintro e u1 ⟨rfl, hb1⟩) | (go_at_call 79; (with_reducible refine (hcl _).mono ?_); rintro e u2 ⟨rfl, rfl⟩) | (go_at_call 80; (with_reducible refine (hrn _).mono ?_); rintro e u3 ⟨rfl, hb3⟩) | (go_at_call 19; (with_reducible refine (hct _).mono ?_); rintro e u4 ⟨rfl, hb4⟩))
      go_ret3
      rw [HN.out]
      exact ⟨by first | rfl | (push_cast; rfl), (hb1.trans (hb3.mono hb1.size)).trans (hb4.mono (Nat.le_trans hb1.size hb3.size))⟩
    · rw [if_neg hc] at hN
      have HN : Hid (N = (2, D, 0)) := hN.symm
      have hci : ¬ (128 : Int) < ((starts X).length : Int) := by omega
      generalize (starts X).length = Y at *
      clear hN h6 h4 hc hby hvl hqt hE
      go_enter Tryz.func20, Tryz.ntmps20
      go_wp2_with (first | (go_at_call 78; (with_reducible refine (hat _).mono ?_); rintro e u1 ⟨rfl, hb1⟩) | (go_at_call 79; (with_reducible refine (hcl _).mono ?_); rintro e u2 ⟨rfl, rfl⟩) | (go_at_call 80; (with_reducible refine (hrn _).mono ?_); rintro e u3 ⟨rfl, hb3⟩) | (go_at_call 19; (with_reducible refine (hct _).mono ?_); rintro e u4 ⟨rfl, hb4⟩))
      go_ret3
      rw [HN.out]
      exact ⟨by first | rfl | (push_cast; rfl), (hb1.trans (hb3.mono hb1.size)).trans (hb4.mono (Nat.le_trans hb1.size hb3.size))⟩
  rw [if_neg h4] at hN
  by_cases h3 : cls (rn s i : Int) = 3
  · rw [if_pos h3] at hN
    rw [h3] at hcl
    generalize rn s i = r at *
    cases hv : numR X with
    | none =>
      rw [hv] at hN hvl
      have HN : Hid (N = (0, i, 21)) := hN.symm
      unfold valR at hvl
      clear hN h6 h4 h3 hby hct hqt hE hv
      go_enter Tryz.func20, Tryz.ntmps20
      go_wp2_with (first | (go_at_call 78; (with_reducible refine (hat _).mono ?_); rintro e u1 ⟨rfl, hb1⟩) | (go_at_call 79; (with_reducible refine (hcl _).mono ?_); rintro e u2 ⟨rfl, rfl⟩) | (go_at_call 80; (with_reducible refine (hrn _).mono ?_); rintro e u3 ⟨rfl, hb3⟩) | (go_at_call 81; (with_reducible refine (hvl _).mono ?_); rintro e u4 ⟨rfl, rfl⟩))
      go_ret3
      rw [HN.out]
      exact ⟨by first | rfl | (push_cast; rfl), hb1.trans (hb3.mono hb1.size)⟩
    | some v =>
      rw [hv] at hN hvl
      have HN : Hid (N = (3, D, 0)) := hN.symm
      unfold valR at hvl
      have hv0 : ¬ (v : Int) < 0 := by omega
      clear hN h6 h4 h3 hby hct hqt hE hv
      go_enter Tryz.func20, Tryz.ntmps20
      go_wp2_with (first | (go_at_call 78; (with_reducible refine (hat _).mono ?_); rintro e u1 ⟨rfl, hb1⟩) | (go_at_call 79; (with_reducible refine (hcl _).mono ?_); rintro e u2 ⟨rfl, rfl⟩) | (go_at_call 80; (with_reducible refine (hrn _).mono ?_); rintro e u3 ⟨rfl, hb3⟩) | (go_at_call 81; (with_reducible refine (hvl _).mono ?_); rintro e u4 ⟨rfl, rfl⟩))
      go_ret3
      rw [HN.out]
      exact ⟨by first | rfl | (push_cast; rfl), hb1.trans (hb3.mono hb1.size)⟩
  rw [if_neg h3] at hN
  clear hrn hct hvl hes he1 he2 hd1 hd2 hX
  by_cases h34 : byt s i = 34
  · rw [if_pos h34] at hN
    have hq' : (s[i]'hi).toNat = 34 := by omega
    generalize (lead (s.extract 0 E) E (i + 1) []).2.1 = L1 at *
    generalize (lead (s.extract 0 E) E (i + 1) []).2.2 = L2 at *
    have HN : Hid (N = (4, L1, L2)) := hN.symm
    generalize cls (rn s i : Int) = C at *
    generalize rn s i = r at *
    clear hN h34 hby hE
    go_enter Tryz.func20, Tryz.ntmps20
    go_wp2_with (first | (go_at_call 78; (with_reducible refine (hat _).mono ?_); rintro e u1 ⟨rfl, hb1⟩) | (go_at_call 79; (with_reducible refine (hcl _).mono ?_); rintro e u2 ⟨rfl, rfl⟩) | (go_at_call 82; (with_reducible refine (hqt _).mono ?_); rintro e u3 ⟨rfl, hb3⟩))
    go_ret3
    rw [HN.out]
    exact ⟨by first | rfl | (push_cast; rfl), hb1.trans (hb3.mono hb1.size)⟩
  · rw [if_neg h34] at hN
    have hq' : (((s[i]'hi).toNat : Int) == 34) = false := beq_eq_false_iff_ne.2 (by omega)
    have HN : Hid (N = (5, i + wd s i, 0)) := hN.symm
    generalize cls (rn s i : Int) = C at *
    generalize rn s i = r at *
    clear hN h34 hby hE hqt
    go_enter Tryz.func20, Tryz.ntmps20
    go_wp2_with (first | (go_at_call 78; (with_reducible refine (hat _).mono ?_); rintro e u1 ⟨rfl, hb1⟩) | (go_at_call 79; (with_reducible refine (hcl _).mono ?_); rintro e u2 ⟨rfl, rfl⟩))
    go_ret3
    rw [HN.out]
    exact ⟨by first | rfl | (push_cast; rfl), hb1⟩
end Go.Proofs.YtngjjcmoekeciaaGreatDoor
