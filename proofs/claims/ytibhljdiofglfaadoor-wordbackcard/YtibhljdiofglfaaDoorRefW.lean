/- What the document's Escape answers: at every text of at most 2^20 bytes and every place in it. -/
import Derived.Test.YtibhljdiofglfaaDoorRefV
namespace Go.Proofs.YtibhljdiofglfaaDoor
open Go.RowKit Go.Shelf

set_option maxHeartbeats 4000000 in
set_option maxRecDepth 100000 in
theorem refEscape_any (s : ByteArray) (hs : s.size ≤ 1048576) (i : Nat) (hi : i < s.size) (w : World) :
    Calls Tryd.prog 62 #[.string s, .int .i64 i] w fun e w' => ∃ v n, e = .returned (.tuple #[v, .int .i64 (n : Nat)]) ∧ EscP w.heap.size (esc (fun k => byt s (i + k))) v n w' ∧ Below w.heap.size w w' := by
  by_cases c5 : byt s (i + 1) = 120
  · exact refEscape_x s hs i (byt_in (by omega)) c5 w
  by_cases c6 : byt s (i + 1) = 117
  · exact refEscape_u s hs i (byt_in (by omega)) c6 w
  obtain ⟨o, ho⟩ : ∃ o, o = esc (fun k => byt s (i + k)) := ⟨_, rfl⟩
  rw [← ho]
  rw [esc] at ho
  have HX : Hid (o = _) := ho
  clear ho
  by_cases h1 : i + 1 < s.size
  case neg =>
    have hb := byt_out h1
    have HN : Hid (o = none) := by
      show o = none
      rw [HX.out, if_neg (by omega), if_neg (by omega), if_neg (by omega), if_neg (by omega), if_neg (by omega), if_neg (by omega)]
    clear HX
    have h1i : ¬ (i : Int) + 1 < (s.size : Int) := by omega
    go_enter Tryd.func62, Tryd.ntmps62
    go_wp2
    go_ret2
    exact ⟨_, _, rfl, escP_none HN.out, Below.refl _ _⟩
  have h1i : (i : Int) + 1 < (s.size : Int) := by omega
  have hb := byt_get h1
  have hlt := (s[i + 1]'h1).toNat_lt
  have hidx := idx_any s (i + 1) ((i : Int) + 1) (by omega) h1
  by_cases c1 : byt s (i + 1) = 34 ∨ byt s (i + 1) = 92
  · have HS : Hid (o = some ([UInt8.ofNat (byt s (i + 1))], 2)) := by show o = _; rw [HX.out, if_pos c1]
    clear HX
    rcases c1 with c1 | c1
    · rw [c1] at HS
      have hq : (s[i + 1]'h1).toNat = 34 := by omega
      go_enter Tryd.func62, Tryd.ntmps62
      go_wp2
      go_ret2
      exact ⟨_, _, rfl, escP_some HS.out (one_row w _ 34 rfl (by omega)), (Below.refl _ _).alloc (Nat.le_refl _) _⟩
    · rw [c1] at HS
      have hq : (s[i + 1]'h1).toNat = 92 := by omega
      go_enter Tryd.func62, Tryd.ntmps62
      go_wp2
      go_ret2
      exact ⟨_, _, rfl, escP_some HS.out (one_row w _ 92 rfl (by omega)), (Below.refl _ _).alloc (Nat.le_refl _) _⟩
  by_cases c2 : byt s (i + 1) = 110
  · have HS : Hid (o = some ([10], 2)) := by show o = _; rw [HX.out, if_neg c1, if_pos c2]
    clear HX c1
    have hq : (s[i + 1]'h1).toNat = 110 := by omega
    go_enter Tryd.func62, Tryd.ntmps62
    go_wp2
    go_ret2
    exact ⟨_, _, rfl, escP_some HS.out (one_row w _ 10 rfl (by omega)), (Below.refl _ _).alloc (Nat.le_refl _) _⟩
  by_cases c3 : byt s (i + 1) = 116
  · have HS : Hid (o = some ([9], 2)) := by show o = _; rw [HX.out, if_neg c1, if_neg c2, if_pos c3]
    clear HX c1
    have hq : (s[i + 1]'h1).toNat = 116 := by omega
    go_enter Tryd.func62, Tryd.ntmps62
    go_wp2
    go_ret2
    exact ⟨_, _, rfl, escP_some HS.out (one_row w _ 9 rfl (by omega)), (Below.refl _ _).alloc (Nat.le_refl _) _⟩
  by_cases c4 : byt s (i + 1) = 114
  · have HS : Hid (o = some ([13], 2)) := by show o = _; rw [HX.out, if_neg c1, if_neg c2, if_neg c3, if_pos c4]
    clear HX c1
    have hq : (s[i + 1]'h1).toNat = 114 := by omega
    go_enter Tryd.func62, Tryd.ntmps62
    go_wp2
    go_ret2
    exact ⟨_, _, rfl, escP_some HS.out (one_row w _ 13 rfl (by omega)), (Below.refl _ _).alloc (Nat.le_refl _) _⟩
  have HN : Hid (o = none) := by show o = _; rw [HX.out, if_neg c1, if_neg c2, if_neg c3, if_neg c4, if_neg c5, if_neg c6]
  have g1 : ¬ ((s[i + 1]'h1).toNat : Int) = 34 := by omega
  have g2 : ¬ ((s[i + 1]'h1).toNat : Int) = 92 := by omega
  have g3 : ¬ ((s[i + 1]'h1).toNat : Int) = 110 := by omega
  have g4 : ¬ ((s[i + 1]'h1).toNat : Int) = 116 := by omega
  have g5 : ¬ ((s[i + 1]'h1).toNat : Int) = 114 := by omega
  have g6 : ¬ ((s[i + 1]'h1).toNat : Int) = 120 := by omega
  have g7 : ¬ ((s[i + 1]'h1).toNat : Int) = 117 := by omega
  clear HX c1 c2 c3 c4 c5 c6 hb
  go_enter Tryd.func62, Tryd.ntmps62
  go_wp2
  go_ret2
  exact ⟨_, _, rfl, escP_none HN.out, Below.refl _ _⟩
end Go.Proofs.YtibhljdiofglfaaDoor
