/- The document's run and Count: what they answer, at every text and place. -/
import Derived.Test.YtibhljdiofglfaaDoorRef
import Derived.Test.YtibhljdiofglfaaDoorKin
namespace Go.Proofs.YtibhljdiofglfaaDoor
open Go.RowKit Go.Shelf

/-- Where the letters and digits from the place p on end. -/
def runD (s : ByteArray) : Nat → Nat → Nat
  | 0, p => p
  | f + 1, p => if p < s.size ∧ looseB s p = false ∧ (cls (rn s p : Int) = 3 ∨ cls (rn s p : Int) = 4) then runD s f (p + wd s p) else p
theorem runD_on (s : ByteArray) (f p : Nat) (h : p < s.size) (hl : looseB s p = false) (hc : cls (rn s p : Int) = 3 ∨ cls (rn s p : Int) = 4) : runD s (f + 1) p = runD s f (p + wd s p) := by rw [runD, if_pos ⟨h, hl, hc⟩]
theorem runD_end (s : ByteArray) (f p : Nat) (h : ¬ (p < s.size ∧ looseB s p = false ∧ (cls (rn s p : Int) = 3 ∨ cls (rn s p : Int) = 4))) : runD s f p = p := by
  cases f with
  | zero => rfl
  | succ f => rw [runD, if_neg h]
def vnatD (v : Value) : Nat := match v with | .int _ n => n.toNat | _ => 0
theorem at_w (s : ByteArray) (hs : s.size ≤ 65536) (p : Nat) (hp : p < s.size) (w : World) : Calls Tryd.prog 38 #[.string s, .int .i64 (p : Int)] w fun e w' => e = .returned (.tuple #[.int .i64 (rn s p), .int .i64 (wd s p), .bool (looseB s p)]) ∧ Below w.heap.size w w' := by
  refine (at_any s (by omega) p hp w).mono ?_
  rintro e w' ⟨he, n, rfl⟩
  exact ⟨he, ⟨rfl, rfl, rfl, Nat.le_refl _, fun _ _ => rfl⟩⟩
set_option maxHeartbeats 4000000 in
set_option maxRecDepth 100000 in
theorem rRun_any (s : ByteArray) (hs : s.size ≤ 65536) (p : Nat) (hp : p ≤ s.size) (w : World) : Calls Tryd.prog 40 #[.string s, .int .i64 (p : Int)] w fun e w' => e = .returned (.int .i64 (runD s s.size p)) ∧ Below w.heap.size w w' := by
  obtain ⟨R, hR⟩ : ∃ R, runD s s.size p = R := ⟨_, rfl⟩
  rw [hR]
  have HR : Hid (runD s s.size p = R) := hR
  clear hR
  go_enter Tryd.func40, Tryd.ntmps40
  go_wp2
  go_loopw [1] (fun i wz => ∃ (k f : Nat), i = .int .i64 (k : Int) ∧ k ≤ s.size ∧ s.size ≤ k + f ∧ Hid (runD s f k = R) ∧ Below w.heap.size w wz) (fun i _ => s.size - vnatD i)
  case atStart => exact ⟨p, s.size, rfl, hp, by omega, HR, Below.refl _ _⟩
  case round =>
    obtain ⟨k, f, rfl, hk, hf, HK, hbw⟩ := hrel
    by_cases hkl : k < s.size
    · obtain ⟨g, rfl⟩ : ∃ g, f = g + 1 := ⟨f - 1, by omega⟩
      have hat := at_w s hs k hkl
      have hwp := wd_pos s k
      have hwl := wd_le s k hkl
      have hcl := refClass_any (rn s k : Int)
      have hki : (k : Int) < (s.size : Int) := by omega
      by_cases hc : looseB s k = false ∧ (cls (rn s k : Int) = 3 ∨ cls (rn s k : Int) = 4)
      · have HN : Hid (runD s g (k + wd s k) = R) := by show runD s g (k + wd s k) = R; rw [← HK.out, runD_on s g k hkl hc.1 hc.2]
        rw [hc.1] at hat
        obtain ⟨_, hc⟩ := hc
        generalize cls (rn s k : Int) = C at *
        generalize rn s k = r at *
        clear HK HR
        rcases hc with rfl | rfl
        all_goals
          go_wp2_with (first | (go_at_call 38; (with_reducible refine (hat _).mono ?_); rintro e u1 ⟨rfl, hb1⟩) | (go_at_call 39; (with_reducible refine (hcl _).mono ?_); rintro e u2 ⟨rfl, rfl⟩))
          go_roundw
          case rel => exact ⟨k + wd s k, g, by push_cast; rfl, hwl, by omega, HN, hbw.trans (hb1.mono hbw.size)⟩
          case measure => simp [vnatD]; omega
      · have HE : Hid (R = k) := by
          show R = k
          rw [← HK.out]
          exact runD_end s _ k (fun h => hc h.2)
        clear HK HR
        cases hlo : looseB s k with
        | true =>
          rw [hlo] at hat
          generalize cls (rn s k : Int) = C at *
          generalize rn s k = r at *
          clear hc hlo
          go_wp2_with (first | (go_at_call 38; (with_reducible refine (hat _).mono ?_); rintro e u1 ⟨rfl, hb1⟩) | (go_at_call 39; (with_reducible refine (hcl _).mono ?_); rintro e u2 ⟨rfl, rfl⟩))
          go_ret
          rw [HE.out]
          exact ⟨rfl, hbw.trans (hb1.mono hbw.size)⟩
        | false =>
          rw [hlo] at hat
          have h3 : ¬ cls (rn s k : Int) = 3 := fun e => hc ⟨hlo, .inl e⟩
          have h4 : ¬ cls (rn s k : Int) = 4 := fun e => hc ⟨hlo, .inr e⟩
          generalize cls (rn s k : Int) = C at *
          generalize rn s k = r at *
          have h34 : (C != 3 && C != 4) = true := by simp [h3, h4]
          clear hc hlo
          go_wp2_with (first | (go_at_call 38; (with_reducible refine (hat _).mono ?_); rintro e u1 ⟨rfl, hb1⟩) | (go_at_call 39; (with_reducible refine (hcl _).mono ?_); rintro e u2 ⟨rfl, rfl⟩))
          go_ret
          rw [HE.out]
          exact ⟨rfl, hbw.trans (hb1.mono hbw.size)⟩
    · have HE : Hid (R = k) := by
        show R = k
        rw [← HK.out]
        exact runD_end s _ k (fun h => hkl h.1)
      clear HK HR
      go_wp2
      go_ret
      rw [HE.out]
      exact ⟨rfl, hbw⟩
end Go.Proofs.YtibhljdiofglfaaDoor
