/- What word.kindAt and word.run answer: of every rune; at every text. -/
import Derived.Test.YtibhljdiofglfabDoorCls
import Derived.Test.YtibhljdiofglfabDoorEsc
namespace Go.Proofs.YtibhljdiofglfabDoor
open Go.RowKit Go.Shelf

theorem cls_range (r : Int) : cls r = 1 ∨ cls r = 2 ∨ cls r = 3 ∨ cls r = 4 ∨ cls r = 5 ∨ cls r = 6 := by
  unfold cls
  repeat' split
  all_goals simp
/-- What begins at a character. -/
def kindR (r : Int) : Int := if r = 34 then 4 else if r = 35 then -2 else if cls r = 1 then -1 else if cls r = 3 then 3 else if cls r = 4 then 2 else if cls r = 5 then 5 else 0

set_option maxHeartbeats 2000000 in
theorem kindAt_any (r : Int) (w : World) : Calls Tryd.prog 25 #[.int .i32 r] w fun e w' => e = .returned (.int .i64 (kindR r)) ∧ Below w.heap.size w w' := by
  by_cases c1 : r = 34
  · subst c1
    go_enter Tryd.func25, Tryd.ntmps25
    go_wp2
    go_ret
    exact ⟨rfl, (Below.refl _ _).alloc (Nat.le_refl _) _⟩
  by_cases c2 : r = 35
  · subst c2
    go_enter Tryd.func25, Tryd.ntmps25
    go_wp2
    go_ret
    exact ⟨rfl, (Below.refl _ _).alloc (Nat.le_refl _) _⟩
  have g1 : (r == 34) = false := beq_eq_false_iff_ne.2 c1
  have g2 : (r == 35) = false := beq_eq_false_iff_ne.2 c2
  have hc := class_any r
  have HK : Hid (kindR r = if cls r = 1 then -1 else if cls r = 3 then 3 else if cls r = 4 then 2 else if cls r = 5 then 5 else 0) := by show kindR r = _; unfold kindR; rw [if_neg c1, if_neg c2]
  clear c1 c2
  rcases cls_range r with h | h | h | h | h | h
  all_goals
    rw [h] at hc HK
    have HV : Hid (kindR r = _) := HK
    clear HK h
    go_enter Tryd.func25, Tryd.ntmps25
    go_wp2_with (go_at_call 11; refine (hc _).mono ?_; rintro e w9 ⟨rfl, rfl⟩)
    go_ret
    rw [HV.out]
    exact ⟨rfl, (Below.refl _ _).alloc (Nat.le_refl _) _⟩

/-- The letters and digits from the place p on: where they end, how many there are. -/
def runAt (s : ByteArray) : Nat → Nat → Nat → Nat × Nat
  | 0, p, n => (p, n)
  | f + 1, p, n => if ¬ p < s.size then (s.size, n) else if cls (rn s p : Int) = 4 ∨ cls (rn s p : Int) = 3 then runAt s f (p + wd s p) (n + 1) else (p, n)
def runR (s : ByteArray) : Nat × Nat := runAt s (s.size + 1) 0 0

set_option maxHeartbeats 2000000 in
theorem run_any (s : ByteArray) (hs : s.size ≤ maxLen) (w : World) :
    Calls Tryd.prog 26 #[.string s] w fun e w' => e = .returned (.tuple #[.int .i64 (runR s).1, .int .i64 (runR s).2]) ∧ Below w.heap.size w w' := by
  unfold maxLen at hs
  go_enter Tryd.func26, Tryd.ntmps26
  go_wp2
  go_loopw [3] (fun c wz => ∃ (pos n f : Nat), c = .int .i64 n ∧ s.size < pos + f ∧ n ≤ pos ∧ pos ≤ s.size ∧ Hid (runAt s f pos n = runR s) ∧ wz.heap[w.heap.size]? = some (.stringIter s pos) ∧ Below w.heap.size w wz) (fun _ wz => s.size - wz.iterPos w.heap.size)
  case atStart =>
    refine ⟨0, 0, s.size + 1, rfl, by omega, by omega, by omega, rfl, ?_, (Below.refl _ w).alloc (Nat.le_refl _) _⟩
    exact World.iter_heap w s 0
  case round =>
    obtain ⟨pos, n, f, rfl, hfu, hnp, hps, HR, hit, hbw⟩ := hrel
    have hsz : w.heap.size < wr.heap.size := (Array.getElem?_eq_some_iff.1 hit).1
    obtain ⟨g, rfl⟩ : ∃ g, f = g + 1 := ⟨f - 1, by omega⟩
    by_cases hp : pos < s.size
    · have hnx : ∀ ty, (Instr.next (.pointer (some ⟨w.heap.size, 0, none⟩)) true ty).run Tryd.prog wr = _ := fun ty => Lib.run_next_any_at wr w.heap.size s pos ty hit hp
      have hwd := wd_pos s pos
      have hwl := wd_le s pos hp
      have hit2 := Lib.iterAt_heap wr w.heap.size s pos (pos + wd s pos) hit
      have hbw2 := Lib.below_iterAt hbw (k := w.heap.size) (Nat.le_refl _) s (pos + wd s pos)
      have hsz3 : wr.iterPos w.heap.size = pos := by simp only [World.iterPos, hit]
      have erw : (Utf8.decode s pos).1 = rn s pos := rfl
      have eww : (Utf8.decode s pos).2 = wd s pos := rfl
      rw [erw, eww] at hnx
      clear erw eww
      have hc := class_any (rn s pos : Int)
      by_cases hk : cls (rn s pos : Int) = 4 ∨ cls (rn s pos : Int) = 3
      · have HR2 : Hid (runAt s g (pos + wd s pos) (n + 1) = runR s) := by
          have h := HR.out
          rw [runAt, if_neg (by omega), if_pos hk] at h
          exact h
        clear HR hbw
        rcases hk with hk | hk
        all_goals
          rw [hk] at hc
          clear hk
          go_wp2_with (go_at_call 11; refine (hc _).mono ?_; rintro e w9 ⟨rfl, rfl⟩)
          go_roundw
          case rel => exact ⟨pos + wd s pos, n + 1, g, by go_num, by omega, by omega, hwl, HR2, hit2, hbw2⟩
          case measure =>
            rw [hsz3]
            simp only [World.iterPos, hit2]
            omega
      · have HV : Hid (runR s = (pos, n)) := by
          have h := HR.out
          rw [runAt, if_neg (by omega), if_neg hk] at h
          exact h.symm
        have q1 : (cls (rn s pos : Int) == 4) = false := beq_eq_false_iff_ne.2 (fun h => hk (Or.inl h))
        have q2 : (cls (rn s pos : Int) == 3) = false := beq_eq_false_iff_ne.2 (fun h => hk (Or.inr h))
        clear HR hbw hk
        go_wp2_with (go_at_call 11; refine (hc _).mono ?_; rintro e w9 ⟨rfl, rfl⟩)
        go_ret2
        rw [HV.out]
        exact ⟨rfl, hbw2⟩
    · have hnx : ∀ ty, (Instr.next (.pointer (some ⟨w.heap.size, 0, none⟩)) true ty).run Tryd.prog wr = _ := fun ty => Lib.run_next_end_at wr w.heap.size s pos ty hit hp
      have HV : Hid (runR s = (s.size, n)) := by
        have h := HR.out
        rw [runAt, if_pos hp] at h
        exact h.symm
      clear HR
      go_wp2
      go_ret2
      rw [HV.out]
      exact ⟨rfl, hbw⟩
end Go.Proofs.YtibhljdiofglfabDoor
