/- infer's fold over sets, Union: what they answer. -/
import Derived.Test.YtgehmidalfajgaaDoorSsr
import Derived.Test.YtgehmidalfajgaaDoorTyb
namespace Go.Proofs.YtgehmidalfajgaaDoor
open Go.RowKit Go.Shelf

/-- Sets put together, one behind the other. -/
def unis (H : Nat) (l : List Nat) : Nat := l.foldl (fun a b => cln (a ||| b)) H
theorem unis_nil (H : Nat) : unis H [] = H := rfl
theorem unis_cons (H x : Nat) (l : List Nat) : unis H (x :: l) = unis (cln (H ||| x)) l := rfl
theorem unis_append (H : Nat) (a b : List Nat) : unis H (a ++ b) = unis (unis H a) b := List.foldl_append
theorem unis_succ (H : Nat) (l : List Nat) (k x : Nat) (h : l[k]? = some x) : unis H (l.take (k + 1)) = cln (unis H (l.take k) ||| x) := by
  have e : l.take (k + 1) = l.take k ++ [x] := by rw [List.take_add_one, h]; rfl
  rw [e, unis_append]
  rfl
theorem unis_lt {H : Nat} (hH : H < S100) (l : List Nat) : unis H l < S100 := by
  induction l generalizing H with
  | nil => exact hH
  | cons x l ih => exact ih (cln_lt _)
theorem unis_bit {H : Nat} (hH : H < S100) (l : List Nat) (i : Nat) : (unis H l).testBit i = (H.testBit i || (decide (i < 100) && l.any (fun x => x.testBit i))) := by
  induction l generalizing H with
  | nil => simp [unis]
  | cons x l ih =>
    rw [unis_cons, ih (cln_lt _), testBit_cln]
    have h : H.testBit i = true → i < 100 := fun e => by
      rcases Nat.lt_or_ge i 100 with q | q
      · exact q
      · have hx : H < 2 ^ i := Nat.lt_of_lt_of_le (show H < 2 ^ 100 from hH) (Nat.pow_le_pow_right (by decide) q)
        rw [Nat.testBit_lt_two_pow hx] at e
        cases e
    rw [Nat.testBit_or, List.any_cons]
    cases h1 : H.testBit i <;> cases h2 : decide (i < 100) <;> simp_all
set_option maxHeartbeats 2000000 in
set_option maxRecDepth 100000 in
theorem fold_any (ad : Option Addr) (cap : Nat) (l : List Nat) (H : Nat) (w : World) (h : RdS w ad l) (hl : l.length ≤ 4611686018427387904) :
    Calls Tryd.prog 39 #[.slice ad l.length cap, sv H, .func (.func 23) #[] #[]] w fun e w' => e = .returned (sv (unis H l)) ∧ Below w.heap.size w w' := by
  obtain ⟨w1, hw1⟩ : ∃ w1, w.alloc (.cells #[.int .u32 (wd H 0 : Nat), .int .u32 (wd H 1 : Nat), .int .u32 (wd H 2 : Nat), .int .u32 (wd H 3 : Nat)] 27) = w1 := ⟨_, rfl⟩
  obtain ⟨w2, hw2⟩ : ∃ w2, w1.alloc (.cells #[.int .u32 0, .int .u32 0, .int .u32 0, .int .u32 0] 27) = w2 := ⟨_, rfl⟩
  have hb1 : Below w.heap.size w w1 := by rw [← hw1]; exact al1' _ _
  have hb2 : Below w.heap.size w w2 := by rw [← hw2]; exact bel2 hb1 (al1' _ _)
  have hs1 : w1.heap.size = w.heap.size + 1 := by rw [← hw1]; simp
  have hs2 : w2.heap.size = w.heap.size + 2 := by rw [← hw2]; simp [hs1]
  have g1 : Holds4 w2 w.heap.size (wd H) := by rw [← hw2]; exact old_at (by rw [← hw1]; exact new_at rfl)
  have g2 : Holds4 w2 (w.heap.size + 1) (fun _ => 0) := by rw [← hw2]; rw [← hs1]; exact new_at rfl
  have hu := union_any
  obtain ⟨R, hR⟩ : ∃ R, unis H l = R := ⟨_, rfl⟩
  rw [hR]
  simp only [sv] at hu ⊢
  go_enter Tryd.func39, Tryd.ntmps39
  go_wp2
  go_loopw [11] (fun c wz => ∃ k : Nat, c = .int .i64 k ∧ k ≤ l.length ∧ Holds4 wz w.heap.size (wd (unis H (l.take k))) ∧ Holds4 wz (w.heap.size + 1) (fun _ => 0) ∧ Below w.heap.size w wz) (fun c _ => l.length - vnat c)
  case atStart => exact ⟨0, rfl, Nat.zero_le _, g1, g2, hb2⟩
  case round =>
    obtain ⟨k, rfl, hk, q1, q2, hbw⟩ := hrel
    by_cases hkl : k < l.length
    · have hki : (k : Int) < (l.length : Int) := by omega
      have hne : l ≠ [] := fun e => by subst e; simp at hkl
      obtain ⟨b, off, rfl, hgl, hat⟩ := h hne
      obtain ⟨x, hx⟩ : ∃ x, l[k]? = some x := ⟨_, List.getElem?_eq_getElem hkl⟩
      have hix := idx_s b off l.length cap k hkl
      obtain ⟨c0, c1, c2, c3⟩ := (hat.carry (hbw.block _ hgl)) k x hx
      have hes := unis_succ H l k x hx
      generalize unis H (l.take k) = M at *
      obtain ⟨M2, hM2⟩ : ∃ M2, unis H (l.take (k + 1)) = M2 := ⟨_, rfl⟩
      have HM2 : Hid (unis H (l.take (k + 1)) = M2) := hM2
      rw [hM2] at hes
      clear hM2
      obtain ⟨w3, hw3⟩ : ∃ w3, wr.alloc (.cells #[.int .u32 0, .int .u32 0, .int .u32 0, .int .u32 0] 27) = w3 := ⟨_, rfl⟩
      have hz : (w.heap.size + 1) < wr.heap.size := q2.lt
      have g3 : Hid (Holds4 w3 wr.heap.size (fun _ => 0)) := by rw [← hw3]; exact new_at rfl
      have g4 : Hid (Holds4 w3 w.heap.size (wd M)) := by rw [← hw3]; exact old_at q1
      have g5 : Hid (Holds4 w3 (w.heap.size + 1) (fun _ => 0)) := by rw [← hw3]; exact old_at q2
      have hb3 : Hid (Below w.heap.size w w3) := by rw [← hw3]; exact hbw.trans ((al1' _ _).mono hbw.size)
      have hhu := hu M x
      rw [← hes] at hhu
      clear hes
      go_wp2_with (first
        | (refine wpList_store_row rfl 27 (.tmp 8) (.tmp 14) rfl wr.heap.size (cells4 (wd x)) rfl rfl 27 _ g3.out infoS rfl (by simp [cells4, Value.oneCell']) ?_; obtain ⟨w4, hw4⟩ : ∃ v, w3.setRow wr.heap.size (cells4 (wd x)) = v := ⟨_, rfl⟩; have k1 : Hid (Holds4 w4 wr.heap.size (wd x)) := (by rw [← hw4]; exact setRow_heap _ _ _ _ _ _ g3.out); have k2 : Hid (Holds4 w4 w.heap.size (wd M)) := (by rw [← hw4]; exact (setRow_other _ _ _ _ (by omega)).trans g4.out); have k3 : Hid (Holds4 w4 (w.heap.size + 1) (fun _ => 0)) := (by rw [← hw4]; exact (setRow_other _ _ _ _ (by omega)).trans g5.out); have k4 : Hid (Below w.heap.size w w4) := (by rw [← hw4]; exact below_row hb3.out (by omega) _); rw [hw4])
        | (refine wpList_load_row rfl 27 (.tmp 4) rfl w.heap.size rfl 27 _ (0, 0) _ k2.out Tryd.underlying27 rfl infoS ?_)
        | (refine wpList_load_row rfl 27 (.tmp 8) rfl wr.heap.size rfl 27 _ (0, 0) _ k1.out Tryd.underlying27 rfl infoS ?_)
        | (go_at_call 23; refine (hhu _).mono ?_; rintro e u ⟨rfl, hb⟩; have j2 := k2.out.carry hb; have j3 := k3.out.carry hb; have j4 := k4.out.trans (hb.mono k4.out.size))
        | (refine wpList_store_row rfl 27 (.tmp 4) (.tmp 18) rfl w.heap.size (cells4 (wd M2)) rfl rfl 27 _ j2 infoS rfl (by simp [cells4, Value.oneCell']) ?_))
      go_roundw
      case rel => exact ⟨k + 1, by simp, by omega, by rw [HM2.out]; exact setRow_heap _ _ _ _ _ _ j2, (setRow_other _ _ _ _ (by omega)).trans j3, below_row j4 (Nat.le_refl _) _⟩
      case measure => simp [vnat]; omega
    · have hkk : k = l.length := by omega
      subst hkk
      rw [List.take_length, hR] at q1
      have hki : ¬ ((l.length : Int) < (l.length : Int)) := by omega
      go_wp2_with (first
        | (refine wpList_load_row rfl 27 (.tmp 4) rfl w.heap.size rfl 27 _ (0, 0) _ q1 Tryd.underlying27 rfl infoS ?_)
        | (refine wpList_store_row rfl 27 (.tmp 6) (.tmp 20) rfl (w.heap.size + 1) (cells4 (wd R)) rfl rfl 27 _ q2 infoS rfl (by simp [cells4, Value.oneCell']) ?_; obtain ⟨w4, hw4⟩ : ∃ v, wr.setRow (w.heap.size + 1) (cells4 (wd R)) = v := ⟨_, rfl⟩; have g6 : Hid (Holds4 w4 (w.heap.size + 1) (wd R)) := (by rw [← hw4]; exact setRow_heap _ _ _ _ _ _ q2); have hb4 : Hid (Below w.heap.size w w4) := (by rw [← hw4]; exact below_row hbw (by omega) _); rw [hw4]))
      exact ret4 rfl rfl rfl g6.out ⟨rfl, hb4.out⟩
set_option maxHeartbeats 1000000 in
set_option maxRecDepth 100000 in
theorem iunion_any (ad : Option Addr) (cap : Nat) (l : List Nat) (w : World) (h : RdS w ad l) (hl : l.length ≤ 4611686018427387904) :
    Calls Tryd.prog 26 #[.slice ad l.length cap] w fun e w' => e = .returned (sv (unis 0 l)) ∧ Below w.heap.size w w' := by
  obtain ⟨w1, hw1⟩ : ∃ w1, w.alloc (.cells #[.int .u32 0, .int .u32 0, .int .u32 0, .int .u32 0] 27) = w1 := ⟨_, rfl⟩
  have hb1 : Below w.heap.size w w1 := by rw [← hw1]; exact al1' _ _
  have g1 : Hid (Holds4 w1 w.heap.size (fun _ => 0)) := by rw [← hw1]; exact new_at rfl
  have hf := fold_any ad cap l 0 w1 (h.carry hb1) hl
  have e0 : sv 0 = .agg #[.int .u32 0, .int .u32 0, .int .u32 0, .int .u32 0] := by kernel_rfl
  rw [e0] at hf
  generalize unis 0 l = M at *
  simp only [sv] at hf ⊢
  go_enter Tryd.func26, Tryd.ntmps26
  go_wp2_with (first
    | (go_at_call 39; (with_reducible refine hf.mono ?_); rintro e u ⟨rfl, hb⟩; have g2 := g1.out.carry hb; have hb2 := bel2 hb1 hb)
    | (refine wpList_store_row rfl 27 (.tmp 2) (.tmp 5) rfl w.heap.size (cells4 (wd M)) rfl rfl 27 _ g2 infoS rfl (by simp [cells4, Value.oneCell']) ?_; obtain ⟨w4, hw4⟩ : ∃ v, u.setRow w.heap.size (cells4 (wd M)) = v := ⟨_, rfl⟩; have g6 : Hid (Holds4 w4 w.heap.size (wd M)) := (by rw [← hw4]; exact setRow_heap _ _ _ _ _ _ g2); have hb4 : Hid (Below w.heap.size w w4) := (by rw [← hw4]; exact below_row hb2 (Nat.le_refl _) _); rw [hw4]))
  exact ret4 rfl rfl rfl g6.out ⟨rfl, hb4.out⟩
end Go.Proofs.YtgehmidalfajgaaDoor
