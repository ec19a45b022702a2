/- What the document's Escape answers: at every text of at most 2^20 bytes. -/
import Derived.Test.YtngjjcmoekeciaaGreatDoorJnJ3
import Derived.Shelf.Strings.BuilderK
import Derived.Test.YtngjjcmoekeciaaGreatDoorProg
namespace Go.Proofs.YtngjjcmoekeciaaGreatDoor
open Go.RowKit Go.Shelf

/-- What Escape's list is. -/
def EscP (B : Nat) (o : Option (List UInt8 × Nat)) (v : Value) (n : Nat) (w' : World) : Prop :=
  match o with
  | none => v = .slice none 0 0 ∧ n = 0
  | some x => n = x.2 ∧ w'.ownsRow B 5 1 v x.1.length (Lib.byteCells x.1)
theorem escP_none {B : Nat} {o : Option (List UInt8 × Nat)} {w' : World} (h : o = none) : EscP B o (.slice none 0 0) 0 w' := by subst h; exact ⟨rfl, rfl⟩
theorem escP_some {B : Nat} {o : Option (List UInt8 × Nat)} {l : List UInt8} {n : Nat} {v : Value} {w' : World} (h : o = some (l, n)) (hv : w'.ownsRow B 5 1 v l.length (Lib.byteCells l)) : EscP B o v n w' := by subst h; exact ⟨rfl, hv⟩

theorem refDigit_at (s : ByteArray) (k : Nat) (z : Int) (hz : z = (k : Int)) (w : World) :
    Calls Tryz.prog 135 #[.string s, .int .i64 z] w fun e w' => e = .returned (.int .i64 (hexV (byt s k))) ∧ w' = w := by
  subst hz
  exact refDigit_any s k w

set_option maxHeartbeats 4000000 in
set_option maxRecDepth 100000 in
theorem refEscape_x (s : ByteArray) (hs : s.size ≤ 1048576) (i : Nat) (h1 : i + 1 < s.size) (c5 : byt s (i + 1) = 120) (w : World) :
    Calls Tryz.prog 128 #[.string s, .int .i64 i] w fun e w' => ∃ v n, e = .returned (.tuple #[v, .int .i64 (n : Nat)]) ∧ EscP w.heap.size (esc (fun k => byt s (i + k))) v n w' ∧ Below w.heap.size w w' := by
  have h1i : (i : Int) + 1 < (s.size : Int) := by omega
  have hb := byt_get h1
  have hidx := idx_any s (i + 1) ((i : Int) + 1) (by omega) h1
  have hq : (s[i + 1]'h1).toNat = 120 := by omega
  have HS := esc_pair (fun k => byt s (i + k)) c5
  generalize esc (fun k => byt s (i + k)) = o at HS ⊢
  have v2 := hexV_lt (byt s (i + 2))
  have v3 := hexV_lt (byt s (i + 3))
  clear hb c5
  by_cases hd : 0 ≤ hexV (byt s (i + 2)) ∧ 0 ≤ hexV (byt s (i + 3))
  · rw [if_pos hd] at HS
    have HS2 : Hid (o = _) := HS
    clear HS
    obtain ⟨d2, d3⟩ := hd
    have HM : Hid ((hexV (byt s (i + 2)) * 16 + hexV (byt s (i + 3))) = (((hexV (byt s (i + 2))).toNat * 16 + (hexV (byt s (i + 3))).toNat : Nat) : Int)) := by
      show (hexV (byt s (i + 2)) * 16 + hexV (byt s (i + 3))) = _
      omega
    go_enter Tryz.func128, Tryz.ntmps128
    go_wp2_with fail
    refine (refDigit_at s (i + 2) _ (by omega) _).mono ?_
    rintro e w1 ⟨rfl, rfl⟩
    go_wp2_with fail
    refine (refDigit_at s (i + 3) _ (by omega) _).mono ?_
    rintro e w1 ⟨rfl, rfl⟩
    go_wp2
    go_ret2
    exact ⟨_, _, rfl, escP_some HS2.out (one_row _ _ _ (by rw [HM.out]) (by omega)), (Below.refl _ _).alloc (Nat.le_refl _) _⟩
  · rw [if_neg hd] at HS
    have HN : Hid (o = none) := HS
    clear HS
    by_cases d2 : 0 ≤ hexV (byt s (i + 2))
    · have d3 : ¬ 0 ≤ hexV (byt s (i + 3)) := fun h => hd ⟨d2, h⟩
      clear hd
      go_enter Tryz.func128, Tryz.ntmps128
      go_wp2_with fail
      refine (refDigit_at s (i + 2) _ (by omega) _).mono ?_
      rintro e w1 ⟨rfl, rfl⟩
      go_wp2_with fail
      refine (refDigit_at s (i + 3) _ (by omega) _).mono ?_
      rintro e w1 ⟨rfl, rfl⟩
      go_wp2
      go_ret2
      exact ⟨_, _, rfl, escP_none HN.out, Below.refl _ _⟩
    · clear hd
      go_enter Tryz.func128, Tryz.ntmps128
      go_wp2_with fail
      refine (refDigit_at s (i + 2) _ (by omega) _).mono ?_
      rintro e w1 ⟨rfl, rfl⟩
      go_wp2_with fail
      refine (refDigit_at s (i + 3) _ (by omega) _).mono ?_
      rintro e w1 ⟨rfl, rfl⟩
      go_wp2
      go_ret2
      exact ⟨_, _, rfl, escP_none HN.out, Below.refl _ _⟩

theorem tup2 {v : Value} {a b : Int} (h : a = b) : Ending.returned (.tuple #[v, .int .i64 a]) = .returned (.tuple #[v, .int .i64 b]) := by rw [h]
set_option maxHeartbeats 4000000 in
set_option maxRecDepth 20000 in
theorem refEscape_u (s : ByteArray) (hs : s.size ≤ 1048576) (i : Nat) (h1 : i + 1 < s.size) (c6 : byt s (i + 1) = 117) (w : World) :
    Calls Tryz.prog 128 #[.string s, .int .i64 i] w fun e w' => ∃ v n, e = .returned (.tuple #[v, .int .i64 (n : Nat)]) ∧ EscP w.heap.size (esc (fun k => byt s (i + k))) v n w' ∧ Below w.heap.size w w' := by
  have h1i : (i : Int) + 1 < (s.size : Int) := by omega
  have hb := byt_get h1
  have hidx := idx_any s (i + 1) ((i : Int) + 1) (by omega) h1
  have hq : (s[i + 1]'h1).toNat = 117 := by omega
  have HS := esc_brace (fun k => byt s (i + k)) c6
  generalize esc (fun k => byt s (i + k)) = o at HS ⊢
  clear hb c6
  by_cases c7 : byt s (i + 2) = 123
  case neg =>
    rw [if_neg c7] at HS
    have HN : Hid (o = none) := HS
    clear HS
    by_cases h2 : i + 2 < s.size
    · have hb2 := byt_get h2
      have h2i : (i : Int) + 2 < (s.size : Int) := by omega
      have g1 : ¬ ((s[i + 2]'h2).toNat : Int) = 123 := by omega
      have g2 : (((s[i + 2]'h2).toNat : Int) != 123) = true := bne_iff_ne.2 g1
      have hidx2 := idx_any s (i + 2) ((i : Int) + 2) (by omega) h2
      clear c7 hb2
      go_enter Tryz.func128, Tryz.ntmps128
      go_wp2
      all_goals first | (exfalso; omega) | (go_ret2; exact ⟨_, _, rfl, escP_none HN.out, Below.refl _ _⟩)
    · have h2i : ¬ (i : Int) + 2 < (s.size : Int) := by omega
      go_enter Tryz.func128, Tryz.ntmps128
      go_wp2
      go_ret2
      exact ⟨_, _, rfl, escP_none HN.out, Below.refl _ _⟩
  have h2 : i + 2 < s.size := byt_in (by omega)
  have h2i : (i : Int) + 2 < (s.size : Int) := by omega
  have hb2 := byt_get h2
  have hq2 : (s[i + 2]'h2).toNat = 123 := by omega
  have hidx2 := idx_any s (i + 2) ((i : Int) + 2) (by omega) h2
  rw [if_pos c7] at HS
  have HM : Hid (o = (num (fun k => byt s (i + k)) 6 3 0).map (fun x => ((Utf8.encode (x.1 : Int)).data.toList, x.2))) := HS
  clear HS c7 hb2
  go_enter Tryz.func128, Tryz.ntmps128
  go_wp2
  go_loopw [8, 9] (fun r k wx => ∃ (c d : Nat), r = .int .i64 c ∧ k = .int .i64 (i + 3 + d : Nat) ∧ d ≤ 6 ∧ c < 16 ^ d ∧ Hid (num (fun k => byt s (i + k)) 6 3 0 = num (fun k => byt s (i + k)) (6 - d) (3 + d) c) ∧ wx = w) (fun _ k _ => i + 9 - (intOf k).toNat)
  case atStart => exact ⟨0, 0, rfl, rfl, by omega, by omega, rfl, rfl⟩
  case round =>
    obtain ⟨c, d, rfl, rfl, hd, hc, HNUM, rfl⟩ := hrel
    have hc6 : (16 : Nat) ^ d ≤ 16 ^ 6 := Nat.pow_le_pow_right (by omega) hd
    have hcb : c < 16777216 := by omega
    have hv := hexV_lt (byt s (i + 3 + d))
    have hk1 : i + (3 + d) = i + 3 + d := by omega
    by_cases hgo : d < 6 ∧ 0 ≤ hexV (byt s (i + 3 + d))
    · obtain ⟨g1, g2⟩ := hgo
      have HN2 : Hid (num (fun k => byt s (i + k)) 6 3 0 = num (fun k => byt s (i + k)) (6 - (d + 1)) (3 + (d + 1)) (c * 16 + (hexV (byt s (i + 3 + d))).toNat)) := by
        show num (fun k => byt s (i + k)) 6 3 0 = _
        rw [HNUM.out, show 6 - d = (6 - (d + 1)) + 1 by omega, num_pos (fun k => byt s (i + k)) _ _ _ (by rw [hk1]; exact g2)]
        show num _ _ (3 + d + 1) (c * 16 + (hexV (byt s (i + (3 + d)))).toNat) = _
        rw [hk1]
        rfl
      have HC : Hid (c * 16 + (hexV (byt s (i + 3 + d))).toNat < 16 ^ (d + 1)) := by
        show c * 16 + (hexV (byt s (i + 3 + d))).toNat < 16 ^ (d + 1)
        rw [Nat.pow_succ]
        omega
      have HV : Hid ((c : Int) * 16 + hexV (byt s (i + 3 + d)) = ((c * 16 + (hexV (byt s (i + 3 + d))).toNat : Nat) : Int)) := by
        show (c : Int) * 16 + hexV (byt s (i + 3 + d)) = _
        omega
      have hki : (i : Int) + 3 + d < (i : Int) + 9 := by omega
      clear HNUM hc hc6 HM
      go_wp2_with (go_at_call 135; refine (refDigit_at s (i + 3 + d) _ (by omega) _).mono ?_; rintro e w9 ⟨rfl, rfl⟩)
      go_roundw
      case rel =>
        refine ⟨c * 16 + (hexV (byt s (i + 3 + d))).toNat, d + 1, ?_, by go_num, by omega, HC.out, HN2, trivial⟩
        rw [HV.out]
      case measure =>
        simp [intOf]
        omega
    · have HCL : Hid (o = (closeN (fun k => byt s (i + k)) (6 - d) (3 + d) c).map (fun x => ((Utf8.encode (x.1 : Int)).data.toList, x.2))) := by
        show o = _
        rw [HM.out, HNUM.out]
        by_cases h6 : d = 6
        · subst h6; rfl
        · rw [num_neg (fun k => byt s (i + k)) _ _ _ (by rw [hk1]; omega)]
      clear HM HNUM hc hc6
      by_cases hok : 6 - d ≠ 6 ∧ byt s (i + (3 + d)) = 125 ∧ okR c = true
      · obtain ⟨k1, k2, ho⟩ := hok
        have HO : Hid (o = some ((Utf8.encode (c : Int)).data.toList, 3 + d + 1)) := by
          have h := HCL.out
          rw [closeN, if_pos ⟨k1, k2, ho⟩, Option.map_some] at h
          dsimp only at h
          exact h
        have HP := refPut_any c ho
        have hr := HO.out
        clear HO HCL
        generalize (Utf8.encode (c : Int)).data.toList = L at HP hr
        have HO : Hid (o = some (L, 3 + d + 1)) := hr
        rw [hk1] at k2
        have k3 : i + 3 + d < s.size := byt_in (by omega)
        have k4 := byt_get k3
        have k5 : (s[i + 3 + d]'k3).toNat = 125 := by omega
        have k6 : (i : Int) + 3 + d < (s.size : Int) := by omega
        have k7 : (i : Int) + 3 < (i : Int) + 3 + d := by omega
        have k8 := idx_any s (i + 3 + d) ((i : Int) + 3 + d) (by omega) k3
        have k9 : c < 55296 ∨ (57344 ≤ c ∧ c ≤ 1114111) := of_decide_eq_true ho
        have kA : (c : Int) ≤ 1114111 := by omega
        clear k1 k2 k4 hk1 hr
        by_cases h6 : d = 6
        · have e1 : ¬ (i : Int) + 3 + d < (i : Int) + 9 := by omega
          clear hgo h6
          rcases k9 with k9 | k9
          · have kB : (c : Int) < 55296 := by omega
            go_wp2_with (go_at_call 136; refine (HP _).mono ?_; rintro e W1 ⟨v, rfl, hrow, hbl⟩)
            go_ret2
            exact ⟨_, 3 + d + 1, tup2 (by omega), escP_some HO.out hrow, hbl⟩
          · have kB : ¬ (c : Int) < 55296 := by omega
            have kC : 57343 < (c : Int) := by omega
            go_wp2_with (go_at_call 136; refine (HP _).mono ?_; rintro e W1 ⟨v, rfl, hrow, hbl⟩)
            go_ret2
            exact ⟨_, 3 + d + 1, tup2 (by omega), escP_some HO.out hrow, hbl⟩
        · have e1 : (i : Int) + 3 + d < (i : Int) + 9 := by omega
          have e2 : ¬ 0 ≤ hexV (byt s (i + 3 + d)) := fun h => hgo ⟨by omega, h⟩
          have HK : Hid (c < 55296 ∨ (57344 ≤ c ∧ c ≤ 1114111)) := k9
          clear hgo h6 k9
          go_wp2_with (first | (go_at_call 135; refine (refDigit_at s (i + 3 + d) _ (by omega) _).mono ?_; rintro e w9 ⟨rfl, rfl⟩) | (go_at_call 136; refine (HP _).mono ?_; rintro e W1 ⟨v, rfl, hrow, hbl⟩))
          all_goals first | (go_ret2; exact ⟨_, 3 + d + 1, tup2 (by omega), escP_some HO.out hrow, hbl⟩) | (exfalso; have := HK.out; omega)
      · have HN : Hid (o = none) := by show o = none; rw [HCL.out, closeN, if_neg hok, Option.map_none]
        rw [hk1] at hok
        clear HCL hk1
        by_cases j1 : d = 0
        · have k7 : ¬ (i : Int) + 3 < (i : Int) + 3 + d := by omega
          have e1 : (i : Int) + 3 + d < (i : Int) + 9 := by omega
          have e2 : ¬ 0 ≤ hexV (byt s (i + 3 + d)) := fun h => hgo ⟨by omega, h⟩
          clear hgo hok j1
          go_wp2_with (go_at_call 135; refine (refDigit_at s (i + 3 + d) _ (by omega) _).mono ?_; rintro e w9 ⟨rfl, rfl⟩)
          go_ret2
          exact ⟨_, _, rfl, escP_none HN.out, Below.refl _ _⟩
        have k7 : (i : Int) + 3 < (i : Int) + 3 + d := by omega
        by_cases k3 : i + 3 + d < s.size
        case neg =>
          have k6 : ¬ (i : Int) + 3 + d < (s.size : Int) := by omega
          clear hok
          by_cases h6 : d = 6
          · have e1 : ¬ (i : Int) + 3 + d < (i : Int) + 9 := by omega
            clear hgo h6
            go_wp2
            go_ret2
            exact ⟨_, _, rfl, escP_none HN.out, Below.refl _ _⟩
          · have e1 : (i : Int) + 3 + d < (i : Int) + 9 := by omega
            have e2 : ¬ 0 ≤ hexV (byt s (i + 3 + d)) := fun h => hgo ⟨by omega, h⟩
            clear hgo h6
            go_wp2_with (go_at_call 135; refine (refDigit_at s (i + 3 + d) _ (by omega) _).mono ?_; rintro e w9 ⟨rfl, rfl⟩)
            go_ret2
            exact ⟨_, _, rfl, escP_none HN.out, Below.refl _ _⟩
        have k6 : (i : Int) + 3 + d < (s.size : Int) := by omega
        have k8 := idx_any s (i + 3 + d) ((i : Int) + 3 + d) (by omega) k3
        have k4 := byt_get k3
        by_cases k2 : byt s (i + 3 + d) = 125
        case neg =>
          have k5 : (((s[i + 3 + d]'k3).toNat : Int) == 125) = false := beq_eq_false_iff_ne.2 (by omega)
          clear hok k4 k2
          by_cases h6 : d = 6
          · have e1 : ¬ (i : Int) + 3 + d < (i : Int) + 9 := by omega
            clear hgo h6
            go_wp2
            go_ret2
            exact ⟨_, _, rfl, escP_none HN.out, Below.refl _ _⟩
          · have e1 : (i : Int) + 3 + d < (i : Int) + 9 := by omega
            have e2 : ¬ 0 ≤ hexV (byt s (i + 3 + d)) := fun h => hgo ⟨by omega, h⟩
            clear hgo h6
            go_wp2_with (go_at_call 135; refine (refDigit_at s (i + 3 + d) _ (by omega) _).mono ?_; rintro e w9 ⟨rfl, rfl⟩)
            go_ret2
            exact ⟨_, _, rfl, escP_none HN.out, Below.refl _ _⟩
        have k5 : (s[i + 3 + d]'k3).toNat = 125 := by omega
        have k9 : ¬ (c < 55296 ∨ (57344 ≤ c ∧ c ≤ 1114111)) := fun h => hok ⟨by omega, k2, decide_eq_true h⟩
        clear hok k4 k2
        by_cases kA : (c : Int) ≤ 1114111
        · have kB : ¬ (c : Int) < 55296 := by omega
          have kC : ¬ 57343 < (c : Int) := by omega
          clear k9
          by_cases h6 : d = 6
          · have e1 : ¬ (i : Int) + 3 + d < (i : Int) + 9 := by omega
            clear hgo h6
            go_wp2
            go_ret2
            exact ⟨_, _, rfl, escP_none HN.out, Below.refl _ _⟩
          · have e1 : (i : Int) + 3 + d < (i : Int) + 9 := by omega
            have e2 : ¬ 0 ≤ hexV (byt s (i + 3 + d)) := fun h => hgo ⟨by omega, h⟩
            clear hgo h6
            go_wp2_with (go_at_call 135; refine (refDigit_at s (i + 3 + d) _ (by omega) _).mono ?_; rintro e w9 ⟨rfl, rfl⟩)
            go_ret2
            exact ⟨_, _, rfl, escP_none HN.out, Below.refl _ _⟩
        · clear k9
          by_cases h6 : d = 6
          · have e1 : ¬ (i : Int) + 3 + d < (i : Int) + 9 := by omega
            clear hgo h6
            go_wp2
            go_ret2
            exact ⟨_, _, rfl, escP_none HN.out, Below.refl _ _⟩
          · have e1 : (i : Int) + 3 + d < (i : Int) + 9 := by omega
            have e2 : ¬ 0 ≤ hexV (byt s (i + 3 + d)) := fun h => hgo ⟨by omega, h⟩
            clear hgo h6
            go_wp2_with (go_at_call 135; refine (refDigit_at s (i + 3 + d) _ (by omega) _).mono ?_; rintro e w9 ⟨rfl, rfl⟩)
            go_ret2
            exact ⟨_, _, rfl, escP_none HN.out, Below.refl _ _⟩
end Go.Proofs.YtngjjcmoekeciaaGreatDoor
namespace Go.Proofs.YtngjjcmoekeciaaGreatDoor
open Go.RowKit Go.Shelf

set_option maxHeartbeats 4000000 in
set_option maxRecDepth 100000 in
theorem refEscape_any (s : ByteArray) (hs : s.size ≤ 1048576) (i : Nat) (hi : i < s.size) (w : World) :
    Calls Tryz.prog 128 #[.string s, .int .i64 i] w fun e w' => ∃ v n, e = .returned (.tuple #[v, .int .i64 (n : Nat)]) ∧ EscP w.heap.size (esc (fun k => byt s (i + k))) v n w' ∧ Below w.heap.size w w' := by
  by_cases c5 : byt s (i + 1) = 120
  · exact refEscape_x s hs i (byt_in (by omega)) c5 w
  by_cases c6 : byt s (i + 1) = 117
  · exact refEscape_u s hs i (byt_in (by omega)) c6 w
  obtain ⟨o, ho⟩ : ∃ o, o = esc (fun k => byt s (i + k)) := ⟨_, rfl⟩
  rw [← ho]
  rw [esc] at ho
  have HX : Hid (o = _) := ho
  clear ho
  by_cases h1 : i + 1 < s.size
  case neg =>
    have hb := byt_out h1
    have HN : Hid (o = none) := by
      show o = none
      rw [HX.out, if_neg (by omega), if_neg (by omega), if_neg (by omega), if_neg (by omega), if_neg (by omega), if_neg (by omega)]
    clear HX
    have h1i : ¬ (i : Int) + 1 < (s.size : Int) := by omega
    go_enter Tryz.func128, Tryz.ntmps128
    go_wp2
    go_ret2
    exact ⟨_, _, rfl, escP_none HN.out, Below.refl _ _⟩
  have h1i : (i : Int) + 1 < (s.size : Int) := by omega
  have hb := byt_get h1
  have hlt := (s[i + 1]'h1).toNat_lt
  have hidx := idx_any s (i + 1) ((i : Int) + 1) (by omega) h1
  by_cases c1 : byt s (i + 1) = 34 ∨ byt s (i + 1) = 92
  · have HS : Hid (o = some ([UInt8.ofNat (byt s (i + 1))], 2)) := by show o = _; rw [HX.out, if_pos c1]
    clear HX
    rcases c1 with c1 | c1
    · rw [c1] at HS
      have hq : (s[i + 1]'h1).toNat = 34 := by omega
      go_enter Tryz.func128, Tryz.ntmps128
      go_wp2
      go_ret2
      exact ⟨_, _, rfl, escP_some HS.out (one_row w _ 34 rfl (by omega)), (Below.refl _ _).alloc (Nat.le_refl _) _⟩
    · rw [c1] at HS
      have hq : (s[i + 1]'h1).toNat = 92 := by omega
      go_enter Tryz.func128, Tryz.ntmps128
      go_wp2
      go_ret2
      exact ⟨_, _, rfl, escP_some HS.out (one_row w _ 92 rfl (by omega)), (Below.refl _ _).alloc (Nat.le_refl _) _⟩
  by_cases c2 : byt s (i + 1) = 110
  · have HS : Hid (o = some ([10], 2)) := by show o = _; rw [HX.out, if_neg c1, if_pos c2]
    clear HX c1
    have hq : (s[i + 1]'h1).toNat = 110 := by omega
    go_enter Tryz.func128, Tryz.ntmps128
    go_wp2
    go_ret2
    exact ⟨_, _, rfl, escP_some HS.out (one_row w _ 10 rfl (by omega)), (Below.refl _ _).alloc (Nat.le_refl _) _⟩
  by_cases c3 : byt s (i + 1) = 116
  · have HS : Hid (o = some ([9], 2)) := by show o = _; rw [HX.out, if_neg c1, if_neg c2, if_pos c3]
    clear HX c1
    have hq : (s[i + 1]'h1).toNat = 116 := by omega
    go_enter Tryz.func128, Tryz.ntmps128
    go_wp2
    go_ret2
    exact ⟨_, _, rfl, escP_some HS.out (one_row w _ 9 rfl (by omega)), (Below.refl _ _).alloc (Nat.le_refl _) _⟩
  by_cases c4 : byt s (i + 1) = 114
  · have HS : Hid (o = some ([13], 2)) := by show o = _; rw [HX.out, if_neg c1, if_neg c2, if_neg c3, if_pos c4]
    clear HX c1
    have hq : (s[i + 1]'h1).toNat = 114 := by omega
    go_enter Tryz.func128, Tryz.ntmps128
    go_wp2
    go_ret2
    exact ⟨_, _, rfl, escP_some HS.out (one_row w _ 13 rfl (by omega)), (Below.refl _ _).alloc (Nat.le_refl _) _⟩
  have HN : Hid (o = none) := by show o = _; rw [HX.out, if_neg c1, if_neg c2, if_neg c3, if_neg c4, if_neg c5, if_neg c6]
  have g1 : ¬ ((s[i + 1]'h1).toNat : Int) = 34 := by omega
  have g2 : ¬ ((s[i + 1]'h1).toNat : Int) = 92 := by omega
  have g3 : ¬ ((s[i + 1]'h1).toNat : Int) = 110 := by omega
  have g4 : ¬ ((s[i + 1]'h1).toNat : Int) = 116 := by omega
  have g5 : ¬ ((s[i + 1]'h1).toNat : Int) = 114 := by omega
  have g6 : ¬ ((s[i + 1]'h1).toNat : Int) = 120 := by omega
  have g7 : ¬ ((s[i + 1]'h1).toNat : Int) = 117 := by omega
  clear HX c1 c2 c3 c4 c5 c6 hb
  go_enter Tryz.func128, Tryz.ntmps128
  go_wp2
  go_ret2
  exact ⟨_, _, rfl, escP_none HN.out, Below.refl _ _⟩
end Go.Proofs.YtngjjcmoekeciaaGreatDoor
namespace Go.Proofs.YtngjjcmoekeciaaGreatDoor
open Go.Shelf Go.RowKit
def ren166 : Go.Shelf.Ren := ⟨fun | 166 => 112 | 240 => 126 | 276 => 133 | n => n, fun | 0 => 0 | 3 => 3 | 4 => 4 | 9 => 9 | 20 => 20 | 37 => 106 | 70 => 152 | 72 => 154 | 75 => 159 | 164 => 181 | 5 => 5 | 80 => 155 | n => n, fun | n => n⟩
theorem lays166 : Lays.n166 Tryz.prog ren166 := {
  mixed := by kernel_rfl
  f166 := Tryz.func112.trans (congrArg some (by kernel_rfl))
  f240 := Tryz.func126.trans (congrArg some (by kernel_rfl))
  f276 := Tryz.func133.trans (congrArg some (by kernel_rfl))
  t0 := Tryz.underlying0
  a0 := Tryz.isAgg0
  z0 := Tryz.sizeOf0
  v0 := Tryz.zeroValue0
  t3 := Tryz.underlying3
  a3 := Tryz.isAgg3
  z3 := Tryz.sizeOf3
  v3 := Tryz.zeroValue3
  t4 := Tryz.underlying4
  a4 := Tryz.isAgg4
  z4 := Tryz.sizeOf4
  v4 := Tryz.zeroValue4
  t9 := Tryz.underlying9
  a9 := Tryz.isAgg9
  z9 := Tryz.sizeOf9
  v9 := Tryz.zeroValue9
  t20 := Tryz.underlying20
  a20 := Tryz.isAgg20
  z20 := Tryz.sizeOf20
  v20 := Tryz.zeroValue20
  t37 := Tryz.underlying106
  a37 := Tryz.isAgg106
  z37 := Tryz.sizeOf106
  v37 := Tryz.zeroValue106
  t70 := Tryz.underlying152
  a70 := Tryz.isAgg152
  z70 := Tryz.sizeOf152
  v70 := Tryz.zeroValue152
  t72 := Tryz.underlying154
  a72 := Tryz.isAgg154
  z72 := Tryz.sizeOf154
  v72 := Tryz.zeroValue154
  t75 := Tryz.underlying159
  a75 := Tryz.isAgg159
  z75 := Tryz.sizeOf159
  v75 := Tryz.zeroValue159
  t164 := Tryz.underlying181
  a164 := Tryz.isAgg181
  z164 := Tryz.sizeOf181
  v164 := Tryz.zeroValue181 }
theorem extra166 : Builder.Extra Tryz.prog ren166 := {
  sizeBuilder := by kernel_rfl
  liesBuilder := by kernel_rfl
  t5 := Tryz.underlying5
  a5 := Tryz.isAgg5
  z5 := Tryz.sizeOf5
  v5 := Tryz.zeroValue5
  infoByte := by kernel_rfl
  cellsByte := by kernel_rfl
  sizeByte := by kernel_rfl
  neB5 := by decide }
theorem writeString_any (B b : Nat) (bs : List Value) (s : ByteArray) (w : World) (h : Lib.IsBuilderF 154 5 B b bs w) (hlen : bs.length + s.size ≤ 140737488355328) (hBw : B ≤ w.heap.size) :
    Calls Tryz.prog 112 #[.pointer (some ⟨b, 0, none⟩), .string s] w fun e w' => e = .returned (.tuple #[.int .i64 s.size, .nilIface]) ∧ (Lib.BuilderAtF 154 5 B b (.pointer (some ⟨b, 0, none⟩)) (bs ++ Lib.strCells s) w' ∧ Below B w w' ∧ Lib.OthersKept 5 (some b) w w') := Any.Builder_WriteString_k lays166 extra166 B b bs s w h hlen hBw
end Go.Proofs.YtngjjcmoekeciaaGreatDoor
