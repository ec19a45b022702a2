/- spread.Absorb: what it answers, at every book and list. -/
import Derived.Test.YtddblfffjhoiaaaSpc
namespace Go.Proofs.Ytddblfffjhoiaaa
open Go.RowKit Go.Shelf Go.Lib
attribute [local go_sem] Oper.semAt_some

/-- Valid of n nodes. -/
def vln (n : Int) (x : N3) : Bool := vl n x.1 x.2.1 x.2.2
set_option maxHeartbeats 1000000 in
theorem allv1_any {w : World} (b : Nat) (n o t k : Int) (hb : w.heap[b]? = some (.cells #[.int .i64 n] 3 (0, 0))) : Calls Try.prog 53 #[nt o t k, .pointer (some ⟨b, 0, none⟩)] w fun e w' => e = .returned (.bool (!vln n (o, t, k))) ∧ Below w.heap.size w w' := by
  obtain ⟨w1, hw1⟩ : ∃ w1, w.alloc (.cells #[.int .i64 o, .int .i64 t, .int .i64 k] 32) = w1 := ⟨_, rfl⟩
  have hb1 : Below w.heap.size w w1 := by rw [← hw1]; exact al1 _ _
  have hn : NB w1 w.heap.size o t k := by rw [← hw1]; exact NB.new _ _ _ _
  have c0 : w1.cell? ⟨b, 0, none⟩ = some (.int .i64 n) := cell_at ((hb1.block _ (lt_at hb)).trans hb) 0
  have n0 := hn.c0
  have n1 := hn.c1
  have n2 := hn.c2
  have hv := valid_any n o t k w1
  unfold nt at hv ⊢
  unfold vln
  go_enter Try.func53, Try.ntmps53
  go_wp2_with (go_at_call 37; (with_reducible refine hv.mono ?_); rintro e u1 ⟨rfl, hb2⟩)
  go_ret
  exact ⟨rfl, bel2 hb1 hb2⟩
set_option maxHeartbeats 4000000 in
set_option maxRecDepth 100000 in
theorem idxV_any {w : World} (b : Nat) (n : Int) (ad : Option Addr) (cap : Nat) (l : List N3) (hb : w.heap[b]? = some (.cells #[.int .i64 n] 3 (0, 0))) (h : RdN w ad l) (hl : l.length ≤ 6000000000000) : Calls Try.prog 60 #[.slice ad l.length cap, .func (.func 53) #[] #[.pointer (some ⟨b, 0, none⟩)]] w fun e w' => ∃ z : Int, e = .returned (.int .i64 z) ∧ decide (z ≥ 0) = !l.all (vln n) ∧ Below w.heap.size w w' := by
  obtain ⟨N, hN⟩ : ∃ N, l.length = N := ⟨_, rfl⟩
  have HN : Hid (l.length = N) := hN
  have HR : Hid (RdN w ad l) := h
  rw [hN] at hl ⊢
  clear hN h
  go_enter Try.func60, Try.ntmps60
  go_wp2
  go_loopw [8] (fun i wz => ∃ (k : Nat), i = .int .i64 k ∧ k ≤ N ∧ (l.take k).all (vln n) = true ∧ Below w.heap.size w wz) (fun i _ => N - vnatR i)
  case atStart => exact ⟨0, rfl, Nat.zero_le _, rfl, Below.refl _ _⟩
  case round =>
    obtain ⟨k, rfl, hk, hall, hbw⟩ := hrel
    have HK : Hid ((l.take k).all (vln n) = true) := hall
    clear hall
    by_cases hkl : k < N
    · have hki : (k : Int) < (N : Int) := by omega
      have hkl1 : k < l.length := by rw [HN.out]; exact hkl
      obtain ⟨⟨o, t, q⟩, hx⟩ : ∃ x, l[k]? = some x := ⟨_, List.getElem?_eq_getElem hkl1⟩
      obtain ⟨gb, off, rfl, hgl, hat⟩ := (HR.out.carry hbw) (fun e => by rw [e] at hkl1; simp at hkl1)
      obtain ⟨c0, c1, c2⟩ := hat k _ hx
      dsimp only at c0 c1 c2
      have hc := allv1_any b n o t q ((hbw.block _ (lt_at hb)).trans hb)
      have HX : Hid (l[k]? = some (o, t, q)) := hx
      generalize hv : vln n (o, t, q) = V at hc
      have HV : Hid (vln n (o, t, q) = V) := hv
      unfold nt at hc
      clear hx hat hkl1 hv
      cases V with
      | false =>
        go_wp2_with (go_at_call 53; (with_reducible refine hc.mono ?_); rintro e u1 ⟨rfl, hb2⟩)
        go_ret
        refine ⟨_, rfl, ?_, bel2 hbw hb2⟩
        have : l.all (vln n) = false := by
          rw [Bool.eq_false_iff]
          intro e
          have := List.all_eq_true.1 e _ (List.mem_of_getElem? HX.out)
          rw [HV.out] at this
          cases this
        rw [this]
        simp
      | true =>
        go_wp2_with (go_at_call 53; (with_reducible refine hc.mono ?_); rintro e u1 ⟨rfl, hb2⟩)
        go_roundw
        case rel =>
          refine ⟨k + 1, by simp, by omega, ?_, bel2 hbw hb2⟩
          rw [List.take_add_one, HX.out, List.all_append, HK.out]
          simpa using HV.out
        case measure => simp [vnatR]; omega
    · have hkk : k = N := by omega
      subst hkk
      go_wp2
      go_ret
      refine ⟨_, rfl, ?_, hbw⟩
      have := HK.out
      rw [List.take_of_length_le (by rw [HN.out]; exact Nat.le_refl _)] at this
      rw [this]
      rfl
set_option maxHeartbeats 1000000 in
theorem conV_any {w : World} (b : Nat) (n : Int) (ad : Option Addr) (cap : Nat) (l : List N3) (hb : w.heap[b]? = some (.cells #[.int .i64 n] 3 (0, 0))) (h : RdN w ad l) (hl : l.length ≤ 6000000000000) : Calls Try.prog 52 #[.slice ad l.length cap, .func (.func 53) #[] #[.pointer (some ⟨b, 0, none⟩)]] w fun e w' => e = .returned (.bool (!l.all (vln n))) ∧ Below w.heap.size w w' := by
  have hi := idxV_any b n ad cap l hb h hl
  go_enter Try.func52, Try.ntmps52
  go_wp2_with (go_at_call 60; (with_reducible refine hi.mono ?_); rintro e u1 ⟨z, rfl, hz, hb2⟩; have HZ : Hid (decide (z ≥ 0) = !l.all (vln n)) := hz; clear hz)
  go_ret
  refine ⟨?_, hb2⟩
  rw [← HZ.out]
  rfl
set_option maxHeartbeats 1000000 in
theorem allv_any (n : Int) (ad : Option Addr) (cap : Nat) (l : List N3) (w : World) (h : RdN w ad l) (hl : l.length ≤ 6000000000000) : Calls Try.prog 30 #[.int .i64 n, .slice ad l.length cap] w fun e w' => e = .returned (.bool (l.all (vln n))) ∧ Below w.heap.size w w' := by
  have hc := conV_any (w := w.alloc (.cells #[.int .i64 n] 3)) w.heap.size n ad cap l (new_at rfl) (h.carry (al1 _ _)) hl
  go_enter Try.func30, Try.ntmps30
  go_wp2_with (go_at_call 52; (with_reducible refine hc.mono ?_); rintro e u1 ⟨rfl, hb2⟩)
  go_ret
  exact ⟨by simp, bel2 (al1 _ _) hb2⟩
/-- No mistake of self. -/
def nm (self : Int) (x : N3) : Bool := !decide (x.1 = self ∧ x.2.2 = 1)
set_option maxHeartbeats 1000000 in
theorem own1_any {w : World} (b : Nat) (self o t k : Int) (hb : w.heap[b]? = some (.cells #[.int .i64 self] 3 (0, 0))) : Calls Try.prog 31 #[nt o t k, .pointer (some ⟨b, 0, none⟩)] w fun e w' => e = .returned (.bool (!nm self (o, t, k))) ∧ Below w.heap.size w w' := by
  obtain ⟨w1, hw1⟩ : ∃ w1, w.alloc (.cells #[.int .i64 o, .int .i64 t, .int .i64 k] 32) = w1 := ⟨_, rfl⟩
  have hb1 : Below w.heap.size w w1 := by rw [← hw1]; exact al1 _ _
  have hn : NB w1 w.heap.size o t k := by rw [← hw1]; exact NB.new _ _ _ _
  have c0 : w1.cell? ⟨b, 0, none⟩ = some (.int .i64 self) := cell_at ((hb1.block _ (lt_at hb)).trans hb) 0
  have n0 := hn.c0
  have n1 := hn.c1
  have n2 := hn.c2
  have HG : Hid (∀ B : Bool, B = decide (o = self ∧ k = 1) → Ending.returned (Value.bool B) = Ending.returned (Value.bool (!nm self (o, t, k)))) := by
    rintro B rfl
    simp [nm]
  unfold nt
  go_enter Try.func31, Try.ntmps31
  by_cases h1 : o = self
  · subst h1
    go_wp2
    go_ret
    exact ⟨HG.out _ (by rw [Bool.eq_iff_iff]; simp), hb1⟩
  · have h2 : (o == self) = false := by simpa using h1
    go_wp2
    go_ret
    exact ⟨HG.out _ (by simp [h1]), hb1⟩
end Go.Proofs.Ytddblfffjhoiaaa
