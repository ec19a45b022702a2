/- What word.Number and the document's Number answer: at every text. -/
import Derived.Test.YtibhljdiofglfabDoorCls
import Derived.Test.YtibhljdiofglfabDoorEsc
namespace Go.Proofs.YtibhljdiofglfabDoor
open Go.RowKit Go.Shelf

/-- The value of the digits from the place p on, behind v; none: they are no number. -/
def numAt (s : ByteArray) : Nat → Nat → Nat → Option Nat
  | 0, _, v => some v
  | f + 1, p, v =>
    if ¬ p < s.size then some v
    else if 48 ≤ byt s p ∧ byt s p ≤ 57 then (if 1099511627776 < v * 10 + (byt s p - 48) then none else numAt s f (p + 1) (v * 10 + (byt s p - 48)))
    else none
def numR (s : ByteArray) : Option Nat := if s.size = 0 ∨ (byt s 0 = 48 ∧ 1 < s.size) then none else numAt s s.size 0 0
def numV (o : Option Nat) : Value := match o with | none => .tuple #[.int .i64 0, .int .i64 21] | some v => .tuple #[.int .i64 (v : Nat), .int .i64 0]

def valR (o : Option Nat) : Int := match o with | none => -1 | some v => (v : Int)
theorem numAt_end (s : ByteArray) (f p v : Nat) (h : ¬ p < s.size) : numAt s f p v = some v := by
  cases f with
  | zero => rfl
  | succ f => rw [numAt, if_pos h]
theorem numAt_no (s : ByteArray) (f p v : Nat) (h : p < s.size) (hd : ¬ (48 ≤ byt s p ∧ byt s p ≤ 57)) : numAt s (f + 1) p v = none := by
  rw [numAt, if_neg (by omega), if_neg hd]
theorem numAt_great (s : ByteArray) (f p v : Nat) (h : p < s.size) (hd : 48 ≤ byt s p ∧ byt s p ≤ 57) (hg : 1099511627776 < v * 10 + (byt s p - 48)) : numAt s (f + 1) p v = none := by
  rw [numAt, if_neg (by omega), if_pos hd, if_pos hg]
theorem numAt_on (s : ByteArray) (f p v : Nat) (h : p < s.size) (hd : 48 ≤ byt s p ∧ byt s p ≤ 57) (hg : ¬ 1099511627776 < v * 10 + (byt s p - 48)) : numAt s (f + 1) p v = numAt s f (p + 1) (v * 10 + (byt s p - 48)) := by
  rw [numAt, if_neg (by omega), if_pos hd, if_neg hg]
theorem cls_digit (r : Int) : (cls r = 3) ↔ (48 ≤ r ∧ r ≤ 57) := by
  unfold cls
  constructor
  · intro h
    repeat' split at h
    all_goals omega
  · intro h
    rw [if_neg (by omega), if_neg (by omega), if_pos h]
theorem eq_empty (s : ByteArray) : (s.toList == ([] : List UInt8)) = decide (s.size = 0) := by
  rw [Lib.toList_data]
  obtain ⟨⟨l⟩⟩ := s
  cases l with
  | nil => rfl
  | cons a l => rfl

set_option maxHeartbeats 2000000 in
set_option maxRecDepth 100000 in
theorem number_any (s : ByteArray) (hs : s.size ≤ maxLen) (w : World) :
    Calls Tryd.prog 5 #[.string s] w fun e w' => e = .returned (numV (numR s)) ∧ Below w.heap.size w w' := by
  unfold maxLen at hs
  by_cases h0 : s.size = 0
  · have HR : Hid (numR s = none) := by show numR s = none; unfold numR; rw [if_pos (Or.inl h0)]
    have he : s = ⟨#[]⟩ := by
      obtain ⟨⟨l⟩⟩ := s
      cases l with
      | nil => rfl
      | cons a l => simp [ByteArray.size] at h0
    subst he
    go_enter Tryd.func5, Tryd.ntmps5
    go_wp2
    go_ret2
    rw [HR.out]
    exact ⟨rfl, Below.refl _ _⟩
  have hp0 : 0 < s.size := by omega
  have hne : (s.toList == ([] : List UInt8)) = false := by rw [eq_empty]; exact decide_eq_false h0
  have hb := byt_get hp0
  have h0i : (0 : Int) < (s.size : Int) := by omega
  by_cases h1 : byt s 0 = 48 ∧ 1 < s.size
  · have HR : Hid (numR s = none) := by show numR s = none; unfold numR; rw [if_pos (Or.inr h1)]
    have hq : (s[0]'hp0).toNat = 48 := by omega
    have h1i : (1 : Int) < (s.size : Int) := by omega
    go_enter Tryd.func5, Tryd.ntmps5
    go_wp2
    go_ret2
    rw [HR.out]
    exact ⟨rfl, Below.refl _ _⟩
  have HR : Hid (numR s = numAt s s.size 0 0) := by show numR s = _; unfold numR; rw [if_neg (fun h => h.elim h0 h1)]
  have hcase : ((s[0]'hp0).toNat = 48 ∧ ¬ 1 < (s.size : Int)) ∨ (((s[0]'hp0).toNat : Int) == 48) = false := by
    by_cases hx : byt s 0 = 48
    · exact Or.inl ⟨by omega, fun h => h1 ⟨hx, by omega⟩⟩
    · exact Or.inr (beq_eq_false_iff_ne.2 (by omega))
  clear h1
  rcases hcase with ⟨q1, q2⟩ | q1
  all_goals
    go_enter Tryd.func5, Tryd.ntmps5
    go_wp2
    go_loopw [4] (fun c wz => ∃ (pos v f : Nat), c = .int .i64 v ∧ s.size ≤ pos + f ∧ v ≤ 1099511627776 ∧ pos ≤ s.size ∧ Hid (numAt s f pos v = numR s) ∧ wz.heap[w.heap.size]? = some (.stringIter s pos) ∧ Below w.heap.size w wz) (fun _ wz => s.size - wz.iterPos w.heap.size)
    case atStart =>
      refine ⟨0, 0, s.size, rfl, by omega, by omega, by omega, HR.out.symm, ?_, (Below.refl _ w).alloc (Nat.le_refl _) _⟩
      exact World.iter_heap w s 0
    case round =>
      obtain ⟨pos, v, f, rfl, hfu, hv, hps, HN, hit, hbw⟩ := hrel
      have hsz : w.heap.size < wr.heap.size := (Array.getElem?_eq_some_iff.1 hit).1
      by_cases hp : pos < s.size
      · obtain ⟨g, rfl⟩ : ∃ g, f = g + 1 := ⟨f - 1, by omega⟩
        have hnx : ∀ ty, (Instr.next (.pointer (some ⟨w.heap.size, 0, none⟩)) true ty).run Tryd.prog wr = _ := fun ty => Lib.run_next_any_at wr w.heap.size s pos ty hit hp
        have hit2 := Lib.iterAt_heap wr w.heap.size s pos (pos + wd s pos) hit
        have hbw2 := Lib.below_iterAt hbw (k := w.heap.size) (Nat.le_refl _) s (pos + wd s pos)
        have hsz3 : wr.iterPos w.heap.size = pos := by simp only [World.iterPos, hit]
        have erw : (Utf8.decode s pos).1 = rn s pos := rfl
        have eww : (Utf8.decode s pos).2 = wd s pos := rfl
        rw [erw, eww] at hnx
        clear erw eww
        have hc := class_any (rn s pos : Int)
        have hiff := cls_digit (rn s pos : Int)
        by_cases hd : 48 ≤ byt s pos ∧ byt s pos ≤ 57
        · obtain ⟨o1, o2⟩ := one_byte s pos hp (by omega)
          have h3 : cls (rn s pos : Int) = 3 := hiff.2 (by omega)
          rw [h3, o1] at hc
          rw [o1, o2] at hnx
          rw [o2] at hit2 hbw2
          have hd1 : 48 ≤ (byt s pos : Int) := by omega
          have hd2 : (byt s pos : Int) ≤ 57 := by omega
          clear hiff h3 o1 o2
          by_cases hg : 1099511627776 < v * 10 + (byt s pos - 48)
          · have HV : Hid (numR s = none) := by show numR s = none; rw [← HN.out, numAt_great s g pos v hp hd hg]
            have hgi : 1099511627776 < (v : Int) * 10 + ((byt s pos : Int) - 48) := by omega
            clear HN hbw hd hg
            go_wp2_with (go_at_call 11; refine (hc _).mono ?_; rintro e w9 ⟨rfl, rfl⟩)
            go_ret2
            rw [HV.out]
            exact ⟨rfl, hbw2⟩
          · have HV : Hid (numAt s g (pos + 1) (v * 10 + (byt s pos - 48)) = numR s) := by show numAt s g (pos + 1) (v * 10 + (byt s pos - 48)) = numR s; rw [← HN.out, numAt_on s g pos v hp hd hg]
            have hgi : ¬ 1099511627776 < (v : Int) * 10 + ((byt s pos : Int) - 48) := by omega
            have HE : Hid ((v : Int) * 10 + ((byt s pos : Int) - 48) = ((v * 10 + (byt s pos - 48) : Nat) : Int)) := by show (v : Int) * 10 + ((byt s pos : Int) - 48) = _; omega
            have HG : Hid (v * 10 + (byt s pos - 48) ≤ 1099511627776) := by show v * 10 + (byt s pos - 48) ≤ 1099511627776; omega
            clear HN hbw hd hg
            go_wp2_with (go_at_call 11; refine (hc _).mono ?_; rintro e w9 ⟨rfl, rfl⟩)
            go_roundw
            case rel => exact ⟨pos + 1, v * 10 + (byt s pos - 48), g, by rw [HE.out], by omega, HG.out, by omega, HV, hit2, hbw2⟩
            case measure =>
              rw [hsz3]
              simp only [World.iterPos, hit2]
              omega
        · have HV : Hid (numR s = none) := by show numR s = none; rw [← HN.out, numAt_no s g pos v hp hd]
          have h3 : (cls (rn s pos : Int) == 3) = false := by
            refine beq_eq_false_iff_ne.2 (fun h => hd ?_)
            have h := hiff.1 h
            by_cases h8 : byt s pos < 128
            · have := (one_byte s pos hp h8).1
              omega
            · have := more_byte s pos hp (by omega)
              omega
          clear HN hbw hd hiff
          go_wp2_with (go_at_call 11; refine (hc _).mono ?_; rintro e w9 ⟨rfl, rfl⟩)
          go_ret2
          rw [HV.out]
          exact ⟨rfl, hbw2⟩
      · have hnx : ∀ ty, (Instr.next (.pointer (some ⟨w.heap.size, 0, none⟩)) true ty).run Tryd.prog wr = _ := fun ty => Lib.run_next_end_at wr w.heap.size s pos ty hit hp
        have HV : Hid (numR s = some v) := by show numR s = some v; rw [← HN.out, numAt_end s f pos v hp]
        clear HN
        go_wp2
        go_ret2
        rw [HV.out]
        exact ⟨rfl, hbw⟩

set_option maxHeartbeats 2000000 in
theorem refValue_any (s : ByteArray) (hs : s.size ≤ maxLen) (w : World) :
    Calls Tryd.prog 12 #[.string s] w fun e w' => e = .returned (.int .i64 (valR (numR s))) ∧ w' = w := by
  unfold maxLen at hs
  by_cases h0 : s.size = 0
  · have HR : Hid (numR s = none) := by show numR s = none; unfold numR; rw [if_pos (Or.inl h0)]
    have h0i : (s.size : Int) = 0 := by omega
    go_enter Tryd.func12, Tryd.ntmps12
    go_wp2
    go_ret
    rw [HR.out]
    exact ⟨rfl, rfl⟩
  have hp0 : 0 < s.size := by omega
  have hb := byt_get hp0
  have h0i : (0 : Int) < (s.size : Int) := by omega
  have h0n : ((s.size : Int) == 0) = false := beq_eq_false_iff_ne.2 (by omega)
  by_cases h1 : byt s 0 = 48 ∧ 1 < s.size
  · have HR : Hid (numR s = none) := by show numR s = none; unfold numR; rw [if_pos (Or.inr h1)]
    have hq : (s[0]'hp0).toNat = 48 := by omega
    have h1i : (1 : Int) < (s.size : Int) := by omega
    go_enter Tryd.func12, Tryd.ntmps12
    go_wp2
    go_ret
    rw [HR.out]
    exact ⟨rfl, rfl⟩
  have HR : Hid (numR s = numAt s s.size 0 0) := by show numR s = _; unfold numR; rw [if_neg (fun h => h.elim h0 h1)]
  have hcase : ((s[0]'hp0).toNat = 48 ∧ ¬ 1 < (s.size : Int)) ∨ (((s[0]'hp0).toNat : Int) == 48) = false := by
    by_cases hx : byt s 0 = 48
    · exact Or.inl ⟨by omega, fun h => h1 ⟨hx, by omega⟩⟩
    · exact Or.inr (beq_eq_false_iff_ne.2 (by omega))
  clear h1
  rcases hcase with ⟨q1, q2⟩ | q1
  all_goals
    go_enter Tryd.func12, Tryd.ntmps12
    go_wp2
    go_loopw [3, 4] (fun c i wz => ∃ (pos v f : Nat), c = .int .i64 v ∧ i = .int .i64 pos ∧ s.size ≤ pos + f ∧ v ≤ 1099511627776 ∧ pos ≤ s.size ∧ Hid (numAt s f pos v = numR s) ∧ wz = w) (fun _ i _ => s.size - (intOf i).toNat)
    case atStart => exact ⟨0, 0, s.size, rfl, rfl, by omega, by omega, by omega, HR.out.symm, rfl⟩
    case round =>
      obtain ⟨pos, v, f, rfl, rfl, hfu, hv, hps, HN, rfl⟩ := hrel
      by_cases hp : pos < s.size
      · obtain ⟨g, rfl⟩ : ∃ g, f = g + 1 := ⟨f - 1, by omega⟩
        have hbp := byt_get hp
        have hpi : (pos : Int) < (s.size : Int) := by omega
        have hlt := (s[pos]'hp).toNat_lt
        by_cases hd : 48 ≤ byt s pos ∧ byt s pos ≤ 57
        · have hd1 : ¬ ((s[pos]'hp).toNat : Int) < 48 := by omega
          have hd2 : ¬ 57 < ((s[pos]'hp).toNat : Int) := by omega
          by_cases hg : 1099511627776 < v * 10 + (byt s pos - 48)
          · have HV : Hid (numR s = none) := by show numR s = none; rw [← HN.out, numAt_great s g pos v hp hd hg]
            have hgi : 1099511627776 < (v : Int) * 10 + (((s[pos]'hp).toNat : Int) - 48) := by omega
            clear HN hd hg hbp
            go_wp2
            go_ret
            rw [HV.out]
            exact ⟨rfl, rfl⟩
          · have HV : Hid (numAt s g (pos + 1) (v * 10 + (byt s pos - 48)) = numR s) := by show numAt s g (pos + 1) (v * 10 + (byt s pos - 48)) = numR s; rw [← HN.out, numAt_on s g pos v hp hd hg]
            have hgi : ¬ 1099511627776 < (v : Int) * 10 + (((s[pos]'hp).toNat : Int) - 48) := by omega
            have HE : Hid ((v : Int) * 10 + (((s[pos]'hp).toNat : Int) - 48) = ((v * 10 + (byt s pos - 48) : Nat) : Int)) := by show (v : Int) * 10 + (((s[pos]'hp).toNat : Int) - 48) = _; omega
            have HG : Hid (v * 10 + (byt s pos - 48) ≤ 1099511627776) := by show v * 10 + (byt s pos - 48) ≤ 1099511627776; omega
            clear HN hd hg hbp
            go_wp2
            go_roundw
            case rel => exact ⟨pos + 1, v * 10 + (byt s pos - 48), g, by rw [HE.out], by go_num, by omega, HG.out, by omega, HV, trivial⟩
            case measure =>
              simp [intOf]
              omega
        · have HV : Hid (numR s = none) := by show numR s = none; rw [← HN.out, numAt_no s g pos v hp hd]
          by_cases h4 : ((s[pos]'hp).toNat : Int) < 48
          · clear HN hd hbp
            go_wp2
            go_ret
            rw [HV.out]
            exact ⟨rfl, rfl⟩
          · have h5 : 57 < ((s[pos]'hp).toNat : Int) := by omega
            clear HN hd hbp
            go_wp2
            go_ret
            rw [HV.out]
            exact ⟨rfl, rfl⟩
      · have HV : Hid (numR s = some v) := by show numR s = some v; rw [← HN.out, numAt_end s f pos v hp]
        have hpi : ¬ (pos : Int) < (s.size : Int) := by omega
        clear HN
        go_wp2
        go_ret
        rw [HV.out]
        exact ⟨rfl, rfl⟩

set_option maxHeartbeats 400000 in
theorem refNumber_any (s : ByteArray) (hs : s.size ≤ maxLen) (w : World) :
    Calls Tryd.prog 6 #[.string s] w fun e w' => e = .returned (numV (numR s)) ∧ w' = w := by
  have hc := refValue_any s hs
  generalize numR s = o at hc ⊢
  cases o with
  | none =>
    have hc : ∀ w, Calls Tryd.prog 12 #[.string s] w fun e w' => e = .returned (.int .i64 (-1)) ∧ w' = w := hc
    go_enter Tryd.func6, Tryd.ntmps6
    go_wp2_with (go_at_call 12; refine (hc _).mono ?_; rintro e w9 ⟨rfl, rfl⟩)
    go_ret2
    exact ⟨rfl, rfl⟩
  | some v =>
    have hc : ∀ w, Calls Tryd.prog 12 #[.string s] w fun e w' => e = .returned (.int .i64 v) ∧ w' = w := hc
    have hv : ¬ (v : Int) < 0 := by omega
    go_enter Tryd.func6, Tryd.ntmps6
    go_wp2_with (go_at_call 12; refine (hc _).mono ?_; rintro e w9 ⟨rfl, rfl⟩)
    go_ret2
    exact ⟨rfl, rfl⟩
end Go.Proofs.YtibhljdiofglfabDoor
