/- The document's Read: what it says, at every roster and text; and that both say one thing. -/
import Derived.Test.YtebpngapkkdifabDoorNrf
import Derived.Test.YtebpngapkkdifabDoorRfa
import Derived.Test.YtebpngapkkdifabDoorNte
namespace Go.Proofs.YtebpngapkkdifabDoor
open Go.RowKit Go.Shelf Go.Lib

theorem RosR.lift {M M' : Nat} {W : World} {v : Value} {l : List Int} (h : RosR M W v l) (hM : M ≤ M') : RosR M' W v l := by
  obtain ⟨h0, sl, rfl, ⟨ad, cap, rfl, hf⟩⟩ := h
  refine ⟨h0, _, rfl, ⟨ad, cap, rfl, fun hl => ?_⟩⟩
  obtain ⟨g, h1, h2, h3⟩ := hf hl
  exact ⟨g, h1, Nat.lt_of_lt_of_le h2 hM, h3⟩
/-- What the document's Read answers. -/
def rdD (l : List Int) (s : ByteArray) : Int × Int × Int × Int :=
  if 65536 < s.size then (0, 0, 0, 2)
  else if s.size = 0 ∨ looseB s 0 = true ∨ ¬ (rn s 0 : Int) ∈ l ∨ s.size ≤ wdt s 0 + 1 ∨ (byt s (wdt s 0) ≠ 63 ∧ byt s (wdt s 0) ≠ 33) then (0, 0, 0, 80)
  else match numR (s.extract (wdt s 0 + 1) s.size) with
    | none => (0, 0, 0, 80)
    | some v => if 1048576 < v then (0, 0, 0, 80) else ((l.idxOf (rn s 0 : Int) : Int), (v : Int), (if byt s (wdt s 0) = 63 then 2 else 1), 0)
set_option maxHeartbeats 4000000 in
set_option maxRecDepth 100000 in
theorem rNread_any {M : Nat} {v : Value} {l : List Int} (w : World) (h : RosR M w v l) (hM : M ≤ w.heap.size) (s : ByteArray) (hs : s.size ≤ maxLen) : Calls Tryd.prog 11 #[v, .string s] w fun e w' => e = .returned (rdPV (rdD l s)) ∧ Below w.heap.size w w' := by
  have hls := h.1.short
  obtain ⟨ad, cap, rfl⟩ := h.form
  unfold maxLen at hs
  by_cases hg : 65536 < s.size
  · have e : rdD l s = (0, 0, 0, 2) := by rw [rdD, if_pos hg]
    rw [e]
    go_enter Tryd.func11, Tryd.ntmps11
    go_wp2
    exact retNt rfl rfl rfl rfl (new_at (by simp)) ⟨rfl, al2 _ _ _⟩
  by_cases hz : s.size = 0
  · have e : rdD l s = (0, 0, 0, 80) := by rw [rdD, if_neg hg, if_pos (.inl hz)]
    rw [e]
    go_enter Tryd.func11, Tryd.ntmps11
    go_wp2
    exact retNt rfl rfl rfl rfl (new_at (by simp)) ⟨rfl, al2 _ _ _⟩
  have hat : ∀ w, Calls Tryd.prog 14 #[.string s, .int .i64 0] w fun e w' => e = .returned (.tuple #[.int .i64 (rn s 0), .int .i64 (wdt s 0), .bool (looseB s 0)]) ∧ Below w.heap.size w w' := at_below s (by omega) 0 (by omega)
  have hwl := wdt_le s 0 (by omega)
  have HE : Hid (rdD l s = ((if looseB s 0 = true ∨ ¬ (rn s 0 : Int) ∈ l ∨ s.size ≤ wdt s 0 + 1 ∨ (byt s (wdt s 0) ≠ 63 ∧ byt s (wdt s 0) ≠ 33) then (0, 0, 0, 80)
    else match numR (s.extract (wdt s 0 + 1) s.size) with
    | none => (0, 0, 0, 80)
    | some v => if 1048576 < v then (0, 0, 0, 80) else ((l.idxOf (rn s 0 : Int) : Int), (v : Int), (if byt s (wdt s 0) = 63 then 2 else 1), 0)) : Int × Int × Int × Int)) := by
    show rdD l s = _
    unfold rdD
    rw [if_neg hg]
    simp only [hz, false_or]
  have hnm := refNumber_any (s.extract (wdt s 0 + 1) s.size) (by unfold maxLen; simp; omega)
  generalize rdD l s = RR at *
  generalize looseB s 0 = lo at *
  obtain ⟨c, hc⟩ : ∃ c : Int, c = (rn s 0 : Int) := ⟨_, rfl⟩
  rw [← hc] at hat HE
  clear hc
  generalize wdt s 0 = n at *
  cases lo with
  | true =>
    have e : RR = (0, 0, 0, 80) := by rw [HE.out, if_pos (.inl rfl)]
    rw [e]
    obtain ⟨fv, hfv⟩ : ∃ fv, findV l c = fv := ⟨_, rfl⟩
    clear HE e hnm
    go_enter Tryd.func11, Tryd.ntmps11
    go_wp2_with (first | (go_at_call 14; (with_reducible refine (hat _).mono ?_); rintro e u1 ⟨rfl, hb1⟩; have hn1 : NB u1 (w.heap.size + 1) 0 0 0 := NB.carry (NB.at _ _ _ (by simp)) hb1; have c10 := hn1.c0; have c11 := hn1.c1; have c12 := hn1.c2; have z10 := hn1.thaw 0; have z11 := hn1.thaw 1; have z12 := hn1.thaw 2; have hl1 := hn1.lt; have hx1 : u1.heap[w.heap.size]? = some (.cells #[.slice ad l.length cap] 33 (0, 0)) := (hb1.block _ (by simp; omega)).trans (old_at (new_at rfl)); have x1a := cell_at hx1 0; have hr1 : RosR w.heap.size u1 (.agg #[.slice ad l.length cap]) l := ((h.below ((al2 w _ _).mono hM)).lift hM).call (by simp; omega) hb1; have hid := rId_any u1 hr1 (Nat.le_of_lt (lt_at hx1)) c; rw [hfv] at hid) | (go_at_call 29; (with_reducible refine (hid).mono ?_); rintro e u2 ⟨rfl, hb2⟩; have hn2 : NB u2 (w.heap.size + 1) 0 0 0 := NB.carry hn1 hb2; have c20 := hn2.c0; have c21 := hn2.c1; have c22 := hn2.c2; have z20 := hn2.thaw 0; have z21 := hn2.thaw 1; have z22 := hn2.thaw 2; have hl2 := hn2.lt))
    exact retNt rfl rfl rfl rfl (hn2.set 0 0 0) ⟨rfl, below3 (bel2 (bel2 (al2 _ _ _) hb1) hb2) (by omega) _ _ _⟩
  | false =>
    by_cases hm : c ∈ l
    case neg =>
      have e : RR = (0, 0, 0, 80) := by rw [HE.out, if_pos (.inr (.inl hm))]
      rw [e]
      have hfv : findV l c = -1 := if_neg hm
      clear HE e hnm hm
      go_enter Tryd.func11, Tryd.ntmps11
      go_wp2_with (first | (go_at_call 14; (with_reducible refine (hat _).mono ?_); rintro e u1 ⟨rfl, hb1⟩; have hn1 : NB u1 (w.heap.size + 1) 0 0 0 := NB.carry (NB.at _ _ _ (by simp)) hb1; have c10 := hn1.c0; have c11 := hn1.c1; have c12 := hn1.c2; have z10 := hn1.thaw 0; have z11 := hn1.thaw 1; have z12 := hn1.thaw 2; have hl1 := hn1.lt; have hx1 : u1.heap[w.heap.size]? = some (.cells #[.slice ad l.length cap] 33 (0, 0)) := (hb1.block _ (by simp; omega)).trans (old_at (new_at rfl)); have x1a := cell_at hx1 0; have hr1 : RosR w.heap.size u1 (.agg #[.slice ad l.length cap]) l := ((h.below ((al2 w _ _).mono hM)).lift hM).call (by simp; omega) hb1; have hid := rId_any u1 hr1 (Nat.le_of_lt (lt_at hx1)) c; rw [hfv] at hid) | (go_at_call 29; (with_reducible refine (hid).mono ?_); rintro e u2 ⟨rfl, hb2⟩; have hn2 : NB u2 (w.heap.size + 1) 0 0 0 := NB.carry hn1 hb2; have c20 := hn2.c0; have c21 := hn2.c1; have c22 := hn2.c2; have z20 := hn2.thaw 0; have z21 := hn2.thaw 1; have z22 := hn2.thaw 2; have hl2 := hn2.lt))
      exact retNt rfl rfl rfl rfl (hn2.set 0 0 0) ⟨rfl, below3 (bel2 (bel2 (al2 _ _ _) hb1) hb2) (by omega) _ _ _⟩
    have hfv : findV l c = (l.idxOf c : Int) := if_pos hm
    generalize l.idxOf c = ix at *
    by_cases hn : s.size ≤ n + 1
    · have e : RR = (0, 0, 0, 80) := by rw [HE.out, if_pos (.inr (.inr (.inl hn)))]
      rw [e]
      have hnI : (s.size : Int) ≤ (n : Int) + 1 := by omega
      clear HE e hnm hm hn
      go_enter Tryd.func11, Tryd.ntmps11
      go_wp2_with (first | (go_at_call 14; (with_reducible refine (hat _).mono ?_); rintro e u1 ⟨rfl, hb1⟩; have hn1 : NB u1 (w.heap.size + 1) 0 0 0 := NB.carry (NB.at _ _ _ (by simp)) hb1; have c10 := hn1.c0; have c11 := hn1.c1; have c12 := hn1.c2; have z10 := hn1.thaw 0; have z11 := hn1.thaw 1; have z12 := hn1.thaw 2; have hl1 := hn1.lt; have hx1 : u1.heap[w.heap.size]? = some (.cells #[.slice ad l.length cap] 33 (0, 0)) := (hb1.block _ (by simp; omega)).trans (old_at (new_at rfl)); have x1a := cell_at hx1 0; have hr1 : RosR w.heap.size u1 (.agg #[.slice ad l.length cap]) l := ((h.below ((al2 w _ _).mono hM)).lift hM).call (by simp; omega) hb1; have hid := rId_any u1 hr1 (Nat.le_of_lt (lt_at hx1)) c; rw [hfv] at hid) | (go_at_call 29; (with_reducible refine (hid).mono ?_); rintro e u2 ⟨rfl, hb2⟩; have hn2 : NB u2 (w.heap.size + 1) 0 0 0 := NB.carry hn1 hb2; have c20 := hn2.c0; have c21 := hn2.c1; have c22 := hn2.c2; have z20 := hn2.thaw 0; have z21 := hn2.thaw 1; have z22 := hn2.thaw 2; have hl2 := hn2.lt))
      exact retNt rfl rfl rfl rfl (hn2.set 0 0 0) ⟨rfl, below3 (bel2 (bel2 (al2 _ _ _) hb1) hb2) (by omega) _ _ _⟩
    have hnn : n < s.size := by omega
    have hnI : ¬ (s.size : Int) ≤ (n : Int) + 1 := by omega
    have hnJ : (n : Int) < (s.size : Int) := by omega
    have hby := byt_get hnn
    by_cases hbb : byt s n ≠ 63 ∧ byt s n ≠ 33
    · have e : RR = (0, 0, 0, 80) := by rw [HE.out, if_pos (.inr (.inr (.inr hbb)))]
      rw [e]
      have q1 : ¬ (s[n]'hnn).toNat = 63 := by rw [← hby]; exact hbb.1
      have q2 : ¬ (s[n]'hnn).toNat = 33 := by rw [← hby]; exact hbb.2
      have q3 : ((((s[n]'hnn).toNat : Int) != 63) && (((s[n]'hnn).toNat : Int) != 33)) = true := by simp; omega
      have q4 : (((s[n]'hnn).toNat : Int) != 63) = true := by simp; omega
      have q5 : (((s[n]'hnn).toNat : Int) != 33) = true := by simp; omega
      clear HE e hnm hm hn hbb hby
      go_enter Tryd.func11, Tryd.ntmps11
      go_wp2_with (first | (go_at_call 14; (with_reducible refine (hat _).mono ?_); rintro e u1 ⟨rfl, hb1⟩; have hn1 : NB u1 (w.heap.size + 1) 0 0 0 := NB.carry (NB.at _ _ _ (by simp)) hb1; have c10 := hn1.c0; have c11 := hn1.c1; have c12 := hn1.c2; have z10 := hn1.thaw 0; have z11 := hn1.thaw 1; have z12 := hn1.thaw 2; have hl1 := hn1.lt; have hx1 : u1.heap[w.heap.size]? = some (.cells #[.slice ad l.length cap] 33 (0, 0)) := (hb1.block _ (by simp; omega)).trans (old_at (new_at rfl)); have x1a := cell_at hx1 0; have hr1 : RosR w.heap.size u1 (.agg #[.slice ad l.length cap]) l := ((h.below ((al2 w _ _).mono hM)).lift hM).call (by simp; omega) hb1; have hid := rId_any u1 hr1 (Nat.le_of_lt (lt_at hx1)) c; rw [hfv] at hid) | (go_at_call 29; (with_reducible refine (hid).mono ?_); rintro e u2 ⟨rfl, hb2⟩; have hn2 : NB u2 (w.heap.size + 1) 0 0 0 := NB.carry hn1 hb2; have c20 := hn2.c0; have c21 := hn2.c1; have c22 := hn2.c2; have z20 := hn2.thaw 0; have z21 := hn2.thaw 1; have z22 := hn2.thaw 2; have hl2 := hn2.lt))
      exact retNt rfl rfl rfl rfl (hn2.set 0 0 0) ⟨rfl, below3 (bel2 (bel2 (al2 _ _ _) hb1) hb2) (by omega) _ _ _⟩
    have hnc : ¬ (false = true ∨ ¬ c ∈ l ∨ s.size ≤ n + 1 ∨ (byt s n ≠ 63 ∧ byt s n ≠ 33)) := by
      rintro (h | h | h | h)
      · cases h
      · exact h hm
      · exact hn h
      · exact hbb h
    have HF : Hid (RR = ((match numR (s.extract (n + 1) s.size) with
    | none => (0, 0, 0, 80)
    | some v => if 1048576 < v then (0, 0, 0, 80) else ((ix : Int), (v : Int), (if byt s n = 63 then 2 else 1), 0)) : Int × Int × Int × Int)) := by
      show RR = _
      rw [HE.out, if_neg hnc]
    clear HE hnc
    cases hv : numR (s.extract (n + 1) s.size) with
    | none =>
      rw [hv, numV] at hnm
      have e : RR = (0, 0, 0, 80) := by rw [HF.out, hv]
      rw [e]
      by_cases q1 : (s[n]'hnn).toNat = 63
      · clear HF e hm hn hbb hby hv
        go_enter Tryd.func11, Tryd.ntmps11
        go_wp2_with (first | (go_at_call 14; (with_reducible refine (hat _).mono ?_); rintro e u1 ⟨rfl, hb1⟩; have hn1 : NB u1 (w.heap.size + 1) 0 0 0 := NB.carry (NB.at _ _ _ (by simp)) hb1; have c10 := hn1.c0; have c11 := hn1.c1; have c12 := hn1.c2; have z10 := hn1.thaw 0; have z11 := hn1.thaw 1; have z12 := hn1.thaw 2; have hl1 := hn1.lt; have hx1 : u1.heap[w.heap.size]? = some (.cells #[.slice ad l.length cap] 33 (0, 0)) := (hb1.block _ (by simp; omega)).trans (old_at (new_at rfl)); have x1a := cell_at hx1 0; have hr1 : RosR w.heap.size u1 (.agg #[.slice ad l.length cap]) l := ((h.below ((al2 w _ _).mono hM)).lift hM).call (by simp; omega) hb1; have hid := rId_any u1 hr1 (Nat.le_of_lt (lt_at hx1)) c; rw [hfv] at hid) | (go_at_call 29; (with_reducible refine (hid).mono ?_); rintro e u2 ⟨rfl, hb2⟩; have hn2 : NB u2 (w.heap.size + 1) 0 0 0 := NB.carry hn1 hb2; have c20 := hn2.c0; have c21 := hn2.c1; have c22 := hn2.c2; have z20 := hn2.thaw 0; have z21 := hn2.thaw 1; have z22 := hn2.thaw 2; have hl2 := hn2.lt) | (go_at_call 30; (with_reducible refine (hnm _).mono ?_); rintro e u3 ⟨rfl, rfl⟩))
        exact retNt rfl rfl rfl rfl (hn2.set 0 0 0) ⟨rfl, below3 (bel2 (bel2 (al2 _ _ _) hb1) hb2) (by omega) _ _ _⟩
      · have q2 : (s[n]'hnn).toNat = 33 := by
          rw [hby] at hbb
          omega
        clear HF e hm hn hbb hby hv
        go_enter Tryd.func11, Tryd.ntmps11
        go_wp2_with (first | (go_at_call 14; (with_reducible refine (hat _).mono ?_); rintro e u1 ⟨rfl, hb1⟩; have hn1 : NB u1 (w.heap.size + 1) 0 0 0 := NB.carry (NB.at _ _ _ (by simp)) hb1; have c10 := hn1.c0; have c11 := hn1.c1; have c12 := hn1.c2; have z10 := hn1.thaw 0; have z11 := hn1.thaw 1; have z12 := hn1.thaw 2; have hl1 := hn1.lt; have hx1 : u1.heap[w.heap.size]? = some (.cells #[.slice ad l.length cap] 33 (0, 0)) := (hb1.block _ (by simp; omega)).trans (old_at (new_at rfl)); have x1a := cell_at hx1 0; have hr1 : RosR w.heap.size u1 (.agg #[.slice ad l.length cap]) l := ((h.below ((al2 w _ _).mono hM)).lift hM).call (by simp; omega) hb1; have hid := rId_any u1 hr1 (Nat.le_of_lt (lt_at hx1)) c; rw [hfv] at hid) | (go_at_call 29; (with_reducible refine (hid).mono ?_); rintro e u2 ⟨rfl, hb2⟩; have hn2 : NB u2 (w.heap.size + 1) 0 0 0 := NB.carry hn1 hb2; have c20 := hn2.c0; have c21 := hn2.c1; have c22 := hn2.c2; have z20 := hn2.thaw 0; have z21 := hn2.thaw 1; have z22 := hn2.thaw 2; have hl2 := hn2.lt) | (go_at_call 30; (with_reducible refine (hnm _).mono ?_); rintro e u3 ⟨rfl, rfl⟩))
        exact retNt rfl rfl rfl rfl (hn2.set 0 0 0) ⟨rfl, below3 (bel2 (bel2 (al2 _ _ _) hb1) hb2) (by omega) _ _ _⟩
    | some x =>
      rw [hv, numV] at hnm
      by_cases hx : 1048576 < x
      · have e : RR = (0, 0, 0, 80) := by rw [HF.out, hv]; exact if_pos hx
        rw [e]
        have hxI : (1048576 : Int) < (x : Int) := by omega
        by_cases q1 : (s[n]'hnn).toNat = 63
        · clear HF e hm hn hbb hby hv
          go_enter Tryd.func11, Tryd.ntmps11
          go_wp2_with (first | (go_at_call 14; (with_reducible refine (hat _).mono ?_); rintro e u1 ⟨rfl, hb1⟩; have hn1 : NB u1 (w.heap.size + 1) 0 0 0 := NB.carry (NB.at _ _ _ (by simp)) hb1; have c10 := hn1.c0; have c11 := hn1.c1; have c12 := hn1.c2; have z10 := hn1.thaw 0; have z11 := hn1.thaw 1; have z12 := hn1.thaw 2; have hl1 := hn1.lt; have hx1 : u1.heap[w.heap.size]? = some (.cells #[.slice ad l.length cap] 33 (0, 0)) := (hb1.block _ (by simp; omega)).trans (old_at (new_at rfl)); have x1a := cell_at hx1 0; have hr1 : RosR w.heap.size u1 (.agg #[.slice ad l.length cap]) l := ((h.below ((al2 w _ _).mono hM)).lift hM).call (by simp; omega) hb1; have hid := rId_any u1 hr1 (Nat.le_of_lt (lt_at hx1)) c; rw [hfv] at hid) | (go_at_call 29; (with_reducible refine (hid).mono ?_); rintro e u2 ⟨rfl, hb2⟩; have hn2 : NB u2 (w.heap.size + 1) 0 0 0 := NB.carry hn1 hb2; have c20 := hn2.c0; have c21 := hn2.c1; have c22 := hn2.c2; have z20 := hn2.thaw 0; have z21 := hn2.thaw 1; have z22 := hn2.thaw 2; have hl2 := hn2.lt) | (go_at_call 30; (with_reducible refine (hnm _).mono ?_); rintro e u3 ⟨rfl, rfl⟩))
          exact retNt rfl rfl rfl rfl (hn2.set 0 0 0) ⟨rfl, below3 (bel2 (bel2 (al2 _ _ _) hb1) hb2) (by omega) _ _ _⟩
        · have q2 : (s[n]'hnn).toNat = 33 := by
            rw [hby] at hbb
            omega
          clear HF e hm hn hbb hby hv
          go_enter Tryd.func11, Tryd.ntmps11
          go_wp2_with (first | (go_at_call 14; (with_reducible refine (hat _).mono ?_); rintro e u1 ⟨rfl, hb1⟩; have hn1 : NB u1 (w.heap.size + 1) 0 0 0 := NB.carry (NB.at _ _ _ (by simp)) hb1; have c10 := hn1.c0; have c11 := hn1.c1; have c12 := hn1.c2; have z10 := hn1.thaw 0; have z11 := hn1.thaw 1; have z12 := hn1.thaw 2; have hl1 := hn1.lt; have hx1 : u1.heap[w.heap.size]? = some (.cells #[.slice ad l.length cap] 33 (0, 0)) := (hb1.block _ (by simp; omega)).trans (old_at (new_at rfl)); have x1a := cell_at hx1 0; have hr1 : RosR w.heap.size u1 (.agg #[.slice ad l.length cap]) l := ((h.below ((al2 w _ _).mono hM)).lift hM).call (by simp; omega) hb1; have hid := rId_any u1 hr1 (Nat.le_of_lt (lt_at hx1)) c; rw [hfv] at hid) | (go_at_call 29; (with_reducible refine (hid).mono ?_); rintro e u2 ⟨rfl, hb2⟩; have hn2 : NB u2 (w.heap.size + 1) 0 0 0 := NB.carry hn1 hb2; have c20 := hn2.c0; have c21 := hn2.c1; have c22 := hn2.c2; have z20 := hn2.thaw 0; have z21 := hn2.thaw 1; have z22 := hn2.thaw 2; have hl2 := hn2.lt) | (go_at_call 30; (with_reducible refine (hnm _).mono ?_); rintro e u3 ⟨rfl, rfl⟩))
          exact retNt rfl rfl rfl rfl (hn2.set 0 0 0) ⟨rfl, below3 (bel2 (bel2 (al2 _ _ _) hb1) hb2) (by omega) _ _ _⟩
      · have hxI : ¬ (1048576 : Int) < (x : Int) := by omega
        by_cases q1 : (s[n]'hnn).toNat = 63
        · have e : RR = ((ix : Int), (x : Int), 2, 0) := by rw [HF.out, hv, hby, if_pos q1]; exact if_neg hx
          rw [e]
          clear HF e hm hn hbb hby hv
          go_enter Tryd.func11, Tryd.ntmps11
          go_wp2_with (first | (go_at_call 14; (with_reducible refine (hat _).mono ?_); rintro e u1 ⟨rfl, hb1⟩; have hn1 : NB u1 (w.heap.size + 1) 0 0 0 := NB.carry (NB.at _ _ _ (by simp)) hb1; have c10 := hn1.c0; have c11 := hn1.c1; have c12 := hn1.c2; have z10 := hn1.thaw 0; have z11 := hn1.thaw 1; have z12 := hn1.thaw 2; have hl1 := hn1.lt; have hx1 : u1.heap[w.heap.size]? = some (.cells #[.slice ad l.length cap] 33 (0, 0)) := (hb1.block _ (by simp; omega)).trans (old_at (new_at rfl)); have x1a := cell_at hx1 0; have hr1 : RosR w.heap.size u1 (.agg #[.slice ad l.length cap]) l := ((h.below ((al2 w _ _).mono hM)).lift hM).call (by simp; omega) hb1; have hid := rId_any u1 hr1 (Nat.le_of_lt (lt_at hx1)) c; rw [hfv] at hid) | (go_at_call 29; (with_reducible refine (hid).mono ?_); rintro e u2 ⟨rfl, hb2⟩; have hn2 : NB u2 (w.heap.size + 1) 0 0 0 := NB.carry hn1 hb2; have c20 := hn2.c0; have c21 := hn2.c1; have c22 := hn2.c2; have z20 := hn2.thaw 0; have z21 := hn2.thaw 1; have z22 := hn2.thaw 2; have hl2 := hn2.lt) | (go_at_call 30; (with_reducible refine (hnm _).mono ?_); rintro e u3 ⟨rfl, rfl⟩))
          exact retNt rfl rfl rfl rfl (hn2.set _ _ _) ⟨rfl, below3 (bel2 (bel2 (al2 _ _ _) hb1) hb2) (by omega) _ _ _⟩
        · have q2 : (s[n]'hnn).toNat = 33 := by
            rw [hby] at hbb
            omega
          have e : RR = ((ix : Int), (x : Int), 1, 0) := by rw [HF.out, hv, hby, if_neg q1]; exact if_neg hx
          rw [e]
          clear HF e hm hn hbb hby hv
          go_enter Tryd.func11, Tryd.ntmps11
          go_wp2_with (first | (go_at_call 14; (with_reducible refine (hat _).mono ?_); rintro e u1 ⟨rfl, hb1⟩; have hn1 : NB u1 (w.heap.size + 1) 0 0 0 := NB.carry (NB.at _ _ _ (by simp)) hb1; have c10 := hn1.c0; have c11 := hn1.c1; have c12 := hn1.c2; have z10 := hn1.thaw 0; have z11 := hn1.thaw 1; have z12 := hn1.thaw 2; have hl1 := hn1.lt; have hx1 : u1.heap[w.heap.size]? = some (.cells #[.slice ad l.length cap] 33 (0, 0)) := (hb1.block _ (by simp; omega)).trans (old_at (new_at rfl)); have x1a := cell_at hx1 0; have hr1 : RosR w.heap.size u1 (.agg #[.slice ad l.length cap]) l := ((h.below ((al2 w _ _).mono hM)).lift hM).call (by simp; omega) hb1; have hid := rId_any u1 hr1 (Nat.le_of_lt (lt_at hx1)) c; rw [hfv] at hid) | (go_at_call 29; (with_reducible refine (hid).mono ?_); rintro e u2 ⟨rfl, hb2⟩; have hn2 : NB u2 (w.heap.size + 1) 0 0 0 := NB.carry hn1 hb2; have c20 := hn2.c0; have c21 := hn2.c1; have c22 := hn2.c2; have z20 := hn2.thaw 0; have z21 := hn2.thaw 1; have z22 := hn2.thaw 2; have hl2 := hn2.lt) | (go_at_call 30; (with_reducible refine (hnm _).mono ?_); rintro e u3 ⟨rfl, rfl⟩))
          exact retNt rfl rfl rfl rfl (hn2.set _ _ _) ⟨rfl, below3 (bel2 (bel2 (al2 _ _ _) hb1) hb2) (by omega) _ _ _⟩
end Go.Proofs.YtebpngapkkdifabDoor
