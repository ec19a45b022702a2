/- wire.reader.fields: what it answers. Made by mkwrl.py. -/
import Derived.Test.YtndogopllcpiiaaWrk
namespace Go.Proofs.Ytndogopllcpiiaa
open Go.RowKit Go.Shelf

theorem sf_start {w : World} {p : Nat} {ad : Option Addr} {cap : Nat} {bs : List Nat} (h : Rdr w p ad cap bs 0) : SF w p ad cap bs 0 0 0 0 0 (.slice none 0 0) ((w.alloc (.cells #[.int .i64 0, .int .i64 0, .int .i64 0, .int .u32 0, .int .u32 0, .int .u32 0, .int .u32 0, .slice none 0 0] 90)).alloc (.cells #[.int .i64 0, .int .i64 0, .int .i64 0, .int .u32 0, .int .u32 0, .int .u32 0, .int .u32 0, .slice none 0 0] 90)) := by
  have hb := ((Below.refl w.heap.size w).alloc (Nat.le_refl _) (.cells #[.int .i64 0, .int .i64 0, .int .i64 0, .int .u32 0, .int .u32 0, .int .u32 0, .int .u32 0, .slice none 0 0] 90)).alloc (by simp) (.cells #[.int .i64 0, .int .i64 0, .int .i64 0, .int .u32 0, .int .u32 0, .int .u32 0, .int .u32 0, .slice none 0 0] 90)
  have e : fcs 0 0 0 0 (.slice none 0 0) = #[.int .i64 0, .int .i64 0, .int .i64 0, .int .u32 0, .int .u32 0, .int .u32 0, .int .u32 0, .slice none 0 0] := by simp [fcs, wd]
  refine ⟨h.carry hb, Kb.below hb (Nat.le_of_lt h.lt), ?_, ?_, h.lt⟩
  · unfold FB
    rw [e]
    exact new_at (by simp)
  · unfold FB
    rw [e]
    exact old_at (new_at rfl)
set_option maxHeartbeats 4000000 in
set_option maxRecDepth 100000 in
theorem fd1 {w : World} {p : Nat} {ad : Option Addr} {cap : Nat} {bs : List Nat} (h : Rdr w p ad cap bs 0) (n : Nat) (h1 : bs.length < 2) : Calls Try.prog 45 #[.pointer (some ⟨p, 0, none⟩), .int .i64 (n : Int)] w (FdO p ad cap bs (.error 76) w) := by
  have hS0 := sf_start h
  have hx : ∀ W, SF w p ad cap bs 0 0 0 0 0 (.slice none 0 0) W → Calls Try.prog 56 #[.pointer (some ⟨p, 0, none⟩), .int .i64 2] W fun e W' => e = .panicked (rfu 76) ∧ Kb p w W' := fun W h => SF.numx h 2 (by omega)
  obtain ⟨⟨c0, c1, c2, c3, c4, c5, c6, c7⟩, z0, z1, z2, z3, z4, z5, z6, z7⟩ := hS0.facts
  go_enter Try.func45, Try.ntmps45
  go_wp2_with (first | (go_at_call 56; (with_reducible refine (hx _ hS0).mono ?_); rintro e ux ⟨rfl, hkx⟩))
  exact ⟨rfl, fdo_err rfl hkx⟩
set_option maxHeartbeats 4000000 in
set_option maxRecDepth 100000 in
theorem fd2 {w : World} {p : Nat} {ad : Option Addr} {cap : Nat} {bs : List Nat} (h : Rdr w p ad cap bs 0) (n : Nat) (h1 : 2 ≤ bs.length) (M : Nat) (hM : nm bs 0 2 = M) (hM2 : M ≠ 25971) : Calls Try.prog 45 #[.pointer (some ⟨p, 0, none⟩), .int .i64 (n : Int)] w (FdO p ad cap bs (.error 70) w) := by
  have hS0 := sf_start h
  have hm : ∀ W, SF w p ad cap bs 0 0 0 0 0 (.slice none 0 0) W → Calls Try.prog 56 #[.pointer (some ⟨p, 0, none⟩), .int .i64 2] W fun e W' => e = .returned (.int .i64 (M : Nat)) ∧ SF w p ad cap bs 2 0 0 0 0 (.slice none 0 0) W' := fun W h => by
    have := SF.num h 2 (by decide) (by decide) (by omega)
    rwa [hM] at this
  have hr70 := refuse_yes 70
  have hMi : ((M : Int) != 25971) = true := by simp; omega
  obtain ⟨⟨c0, c1, c2, c3, c4, c5, c6, c7⟩, z0, z1, z2, z3, z4, z5, z6, z7⟩ := hS0.facts
  go_enter Try.func45, Try.ntmps45
  go_wp2_with (first | (go_at_call 56; (with_reducible refine (hm _ hS0).mono ?_); rintro e u1 ⟨rfl, hS1⟩; clear c0 c1 c2 c3 c4 c5 c6 c7 z0 z1 z2 z3 z4 z5 z6 z7; obtain ⟨⟨c0, c1, c2, c3, c4, c5, c6, c7⟩, z0, z1, z2, z3, z4, z5, z6, z7⟩ := hS1.facts) | (go_at_call 55; (with_reducible refine (hr70 _).mono ?_); rintro e ur ⟨rfl, hu⟩; rw [hu]; clear hu ur))
  exact ⟨rfl, fdo_err rfl hS1.kb⟩
set_option maxHeartbeats 4000000 in
set_option maxRecDepth 100000 in
theorem fd3 {w : World} {p : Nat} {ad : Option Addr} {cap : Nat} {bs : List Nat} (h : Rdr w p ad cap bs 0) (n : Nat) (h1 : 2 ≤ bs.length) (hM : nm bs 0 2 = 25971) (h2 : bs.length < 3) : Calls Try.prog 45 #[.pointer (some ⟨p, 0, none⟩), .int .i64 (n : Int)] w (FdO p ad cap bs (.error 76) w) := by
  have hS0 := sf_start h
  have hm : ∀ W, SF w p ad cap bs 0 0 0 0 0 (.slice none 0 0) W → Calls Try.prog 56 #[.pointer (some ⟨p, 0, none⟩), .int .i64 2] W fun e W' => e = .returned (.int .i64 (25971 : Nat)) ∧ SF w p ad cap bs 2 0 0 0 0 (.slice none 0 0) W' := fun W h => by
    have := SF.num h 2 (by decide) (by decide) (by omega)
    rwa [hM] at this
  have hr70 := refuse_no 70
  have hx : ∀ W, SF w p ad cap bs 2 0 0 0 0 (.slice none 0 0) W → Calls Try.prog 56 #[.pointer (some ⟨p, 0, none⟩), .int .i64 1] W fun e W' => e = .panicked (rfu 76) ∧ Kb p w W' := fun W h => SF.numx h 1 (by omega)
  obtain ⟨⟨c0, c1, c2, c3, c4, c5, c6, c7⟩, z0, z1, z2, z3, z4, z5, z6, z7⟩ := hS0.facts
  go_enter Try.func45, Try.ntmps45
  go_wp2_with (first | (go_at_call 56; (with_reducible refine (hm _ hS0).mono ?_); rintro e u1 ⟨rfl, hS1⟩; clear c0 c1 c2 c3 c4 c5 c6 c7 z0 z1 z2 z3 z4 z5 z6 z7; obtain ⟨⟨c0, c1, c2, c3, c4, c5, c6, c7⟩, z0, z1, z2, z3, z4, z5, z6, z7⟩ := hS1.facts) | (go_at_call 55; (with_reducible refine (hr70 _).mono ?_); rintro e ur ⟨rfl, hu⟩; rw [hu]; clear hu ur) | (go_at_call 56; (with_reducible refine (hx _ hS1).mono ?_); rintro e ux ⟨rfl, hkx⟩))
  exact ⟨rfl, fdo_err rfl hkx⟩
set_option maxHeartbeats 4000000 in
set_option maxRecDepth 100000 in
theorem fd4a {w : World} {p : Nat} {ad : Option Addr} {cap : Nat} {bs : List Nat} (h : Rdr w p ad cap bs 0) (n : Nat) (h1 : 2 ≤ bs.length) (hM : nm bs 0 2 = 25971) (h2 : 3 ≤ bs.length) (K : Nat) (hK : nm bs 2 1 = K) (hk1 : K < 1) : Calls Try.prog 45 #[.pointer (some ⟨p, 0, none⟩), .int .i64 (n : Int)] w (FdO p ad cap bs (.error 71) w) := by
  have hS0 := sf_start h
  have hm : ∀ W, SF w p ad cap bs 0 0 0 0 0 (.slice none 0 0) W → Calls Try.prog 56 #[.pointer (some ⟨p, 0, none⟩), .int .i64 2] W fun e W' => e = .returned (.int .i64 (25971 : Nat)) ∧ SF w p ad cap bs 2 0 0 0 0 (.slice none 0 0) W' := fun W h => by
    have := SF.num h 2 (by decide) (by decide) (by omega)
    rwa [hM] at this
  have hr70 := refuse_no 70
  have hk : ∀ W, SF w p ad cap bs 2 0 0 0 0 (.slice none 0 0) W → Calls Try.prog 56 #[.pointer (some ⟨p, 0, none⟩), .int .i64 1] W fun e W' => e = .returned (.int .i64 (K : Nat)) ∧ SF w p ad cap bs 3 0 0 0 0 (.slice none 0 0) W' := fun W h => by
    have := SF.num h 1 (by decide) (by decide) (by omega)
    rwa [hK] at this
  have hr71 := refuse_yes 71
  have q1 : decide ((K : Int) < 1) = true := decide_eq_true (by omega)
  obtain ⟨⟨c0, c1, c2, c3, c4, c5, c6, c7⟩, z0, z1, z2, z3, z4, z5, z6, z7⟩ := hS0.facts
  go_enter Try.func45, Try.ntmps45
  go_wp2_with (first | (go_at_call 56; (with_reducible refine (hm _ hS0).mono ?_); rintro e u1 ⟨rfl, hS1⟩; clear c0 c1 c2 c3 c4 c5 c6 c7 z0 z1 z2 z3 z4 z5 z6 z7; obtain ⟨⟨c0, c1, c2, c3, c4, c5, c6, c7⟩, z0, z1, z2, z3, z4, z5, z6, z7⟩ := hS1.facts) | (go_at_call 55; (with_reducible refine (hr70 _).mono ?_); rintro e ur ⟨rfl, hu⟩; rw [hu]; clear hu ur) | (go_at_call 56; (with_reducible refine (hk _ hS1).mono ?_); rintro e u2 ⟨rfl, hS2⟩; clear c0 c1 c2 c3 c4 c5 c6 c7 z0 z1 z2 z3 z4 z5 z6 z7; obtain ⟨⟨c0, c1, c2, c3, c4, c5, c6, c7⟩, z0, z1, z2, z3, z4, z5, z6, z7⟩ := hS2.facts; have hS3 := hS2.s0 K) | (go_at_call 55; (with_reducible refine (hr71 _).mono ?_); rintro e ur ⟨rfl, hu⟩; rw [hu]; clear hu ur))
  exact ⟨rfl, fdo_err rfl hS3.kb⟩
set_option maxHeartbeats 4000000 in
set_option maxRecDepth 100000 in
theorem fd4b {w : World} {p : Nat} {ad : Option Addr} {cap : Nat} {bs : List Nat} (h : Rdr w p ad cap bs 0) (n : Nat) (h1 : 2 ≤ bs.length) (hM : nm bs 0 2 = 25971) (h2 : 3 ≤ bs.length) (K : Nat) (hK : nm bs 2 1 = K) (hk1 : 3 < K) : Calls Try.prog 45 #[.pointer (some ⟨p, 0, none⟩), .int .i64 (n : Int)] w (FdO p ad cap bs (.error 71) w) := by
  have hS0 := sf_start h
  have hm : ∀ W, SF w p ad cap bs 0 0 0 0 0 (.slice none 0 0) W → Calls Try.prog 56 #[.pointer (some ⟨p, 0, none⟩), .int .i64 2] W fun e W' => e = .returned (.int .i64 (25971 : Nat)) ∧ SF w p ad cap bs 2 0 0 0 0 (.slice none 0 0) W' := fun W h => by
    have := SF.num h 2 (by decide) (by decide) (by omega)
    rwa [hM] at this
  have hr70 := refuse_no 70
  have hk : ∀ W, SF w p ad cap bs 2 0 0 0 0 (.slice none 0 0) W → Calls Try.prog 56 #[.pointer (some ⟨p, 0, none⟩), .int .i64 1] W fun e W' => e = .returned (.int .i64 (K : Nat)) ∧ SF w p ad cap bs 3 0 0 0 0 (.slice none 0 0) W' := fun W h => by
    have := SF.num h 1 (by decide) (by decide) (by omega)
    rwa [hK] at this
  have hr71 := refuse_yes 71
  have q0 : decide ((K : Int) < 1) = false := decide_eq_false (by omega)
  have q1 : decide ((3 : Int) < (K : Int)) = true := decide_eq_true (by omega)
  obtain ⟨⟨c0, c1, c2, c3, c4, c5, c6, c7⟩, z0, z1, z2, z3, z4, z5, z6, z7⟩ := hS0.facts
  go_enter Try.func45, Try.ntmps45
  go_wp2_with (first | (go_at_call 56; (with_reducible refine (hm _ hS0).mono ?_); rintro e u1 ⟨rfl, hS1⟩; clear c0 c1 c2 c3 c4 c5 c6 c7 z0 z1 z2 z3 z4 z5 z6 z7; obtain ⟨⟨c0, c1, c2, c3, c4, c5, c6, c7⟩, z0, z1, z2, z3, z4, z5, z6, z7⟩ := hS1.facts) | (go_at_call 55; (with_reducible refine (hr70 _).mono ?_); rintro e ur ⟨rfl, hu⟩; rw [hu]; clear hu ur) | (go_at_call 56; (with_reducible refine (hk _ hS1).mono ?_); rintro e u2 ⟨rfl, hS2⟩; clear c0 c1 c2 c3 c4 c5 c6 c7 z0 z1 z2 z3 z4 z5 z6 z7; obtain ⟨⟨c0, c1, c2, c3, c4, c5, c6, c7⟩, z0, z1, z2, z3, z4, z5, z6, z7⟩ := hS2.facts; have hS3 := hS2.s0 K) | (go_at_call 55; (with_reducible refine (hr71 _).mono ?_); rintro e ur ⟨rfl, hu⟩; rw [hu]; clear hu ur))
  exact ⟨rfl, fdo_err rfl hS3.kb⟩
set_option maxHeartbeats 4000000 in
set_option maxRecDepth 100000 in
theorem fd5 {w : World} {p : Nat} {ad : Option Addr} {cap : Nat} {bs : List Nat} (h : Rdr w p ad cap bs 0) (n : Nat) (h1 : 2 ≤ bs.length) (hM : nm bs 0 2 = 25971) (h2 : 3 ≤ bs.length) (K : Nat) (hK : nm bs 2 1 = K) (hk1 : 1 ≤ K) (hk3 : K ≤ 3) (h3 : bs.length < 4) : Calls Try.prog 45 #[.pointer (some ⟨p, 0, none⟩), .int .i64 (n : Int)] w (FdO p ad cap bs (.error 76) w) := by
  have hS0 := sf_start h
  have hm : ∀ W, SF w p ad cap bs 0 0 0 0 0 (.slice none 0 0) W → Calls Try.prog 56 #[.pointer (some ⟨p, 0, none⟩), .int .i64 2] W fun e W' => e = .returned (.int .i64 (25971 : Nat)) ∧ SF w p ad cap bs 2 0 0 0 0 (.slice none 0 0) W' := fun W h => by
    have := SF.num h 2 (by decide) (by decide) (by omega)
    rwa [hM] at this
  have hr70 := refuse_no 70
  have hk : ∀ W, SF w p ad cap bs 2 0 0 0 0 (.slice none 0 0) W → Calls Try.prog 56 #[.pointer (some ⟨p, 0, none⟩), .int .i64 1] W fun e W' => e = .returned (.int .i64 (K : Nat)) ∧ SF w p ad cap bs 3 0 0 0 0 (.slice none 0 0) W' := fun W h => by
    have := SF.num h 1 (by decide) (by decide) (by omega)
    rwa [hK] at this
  have hr71 := refuse_no 71
  have q0 : decide ((K : Int) < 1) = false := decide_eq_false (by omega)
  have q1 : decide ((3 : Int) < (K : Int)) = false := decide_eq_false (by omega)
  have hx : ∀ W, SF w p ad cap bs 3 K 0 0 0 (.slice none 0 0) W → Calls Try.prog 56 #[.pointer (some ⟨p, 0, none⟩), .int .i64 1] W fun e W' => e = .panicked (rfu 76) ∧ Kb p w W' := fun W h => SF.numx h 1 (by omega)
  obtain ⟨⟨c0, c1, c2, c3, c4, c5, c6, c7⟩, z0, z1, z2, z3, z4, z5, z6, z7⟩ := hS0.facts
  go_enter Try.func45, Try.ntmps45
  go_wp2_with (first | (go_at_call 56; (with_reducible refine (hm _ hS0).mono ?_); rintro e u1 ⟨rfl, hS1⟩; clear c0 c1 c2 c3 c4 c5 c6 c7 z0 z1 z2 z3 z4 z5 z6 z7; obtain ⟨⟨c0, c1, c2, c3, c4, c5, c6, c7⟩, z0, z1, z2, z3, z4, z5, z6, z7⟩ := hS1.facts) | (go_at_call 55; (with_reducible refine (hr70 _).mono ?_); rintro e ur ⟨rfl, hu⟩; rw [hu]; clear hu ur) | (go_at_call 56; (with_reducible refine (hk _ hS1).mono ?_); rintro e u2 ⟨rfl, hS2⟩; clear c0 c1 c2 c3 c4 c5 c6 c7 z0 z1 z2 z3 z4 z5 z6 z7; obtain ⟨⟨c0, c1, c2, c3, c4, c5, c6, c7⟩, z0, z1, z2, z3, z4, z5, z6, z7⟩ := hS2.facts; have hS3 := hS2.s0 K) | (go_at_call 55; (with_reducible refine (hr71 _).mono ?_); rintro e ur ⟨rfl, hu⟩; rw [hu]; clear hu ur) | (go_at_call 56; (with_reducible refine (hx _ hS3).mono ?_); rintro e ux ⟨rfl, hkx⟩))
  exact ⟨rfl, fdo_err rfl hkx⟩
set_option maxHeartbeats 4000000 in
set_option maxRecDepth 100000 in
theorem fd6 {w : World} {p : Nat} {ad : Option Addr} {cap : Nat} {bs : List Nat} (h : Rdr w p ad cap bs 0) (n : Nat) (h1 : 2 ≤ bs.length) (hM : nm bs 0 2 = 25971) (h2 : 3 ≤ bs.length) (K : Nat) (hK : nm bs 2 1 = K) (hk1 : 1 ≤ K) (hk3 : K ≤ 3) (h3 : 4 ≤ bs.length) (S : Nat) (hSz : nm bs 3 1 = S) (hs1 : S ≠ n) : Calls Try.prog 45 #[.pointer (some ⟨p, 0, none⟩), .int .i64 (n : Int)] w (FdO p ad cap bs (.error 102) w) := by
  have hS0 := sf_start h
  have hm : ∀ W, SF w p ad cap bs 0 0 0 0 0 (.slice none 0 0) W → Calls Try.prog 56 #[.pointer (some ⟨p, 0, none⟩), .int .i64 2] W fun e W' => e = .returned (.int .i64 (25971 : Nat)) ∧ SF w p ad cap bs 2 0 0 0 0 (.slice none 0 0) W' := fun W h => by
    have := SF.num h 2 (by decide) (by decide) (by omega)
    rwa [hM] at this
  have hr70 := refuse_no 70
  have hk : ∀ W, SF w p ad cap bs 2 0 0 0 0 (.slice none 0 0) W → Calls Try.prog 56 #[.pointer (some ⟨p, 0, none⟩), .int .i64 1] W fun e W' => e = .returned (.int .i64 (K : Nat)) ∧ SF w p ad cap bs 3 0 0 0 0 (.slice none 0 0) W' := fun W h => by
    have := SF.num h 1 (by decide) (by decide) (by omega)
    rwa [hK] at this
  have hr71 := refuse_no 71
  have q0 : decide ((K : Int) < 1) = false := decide_eq_false (by omega)
  have q1 : decide ((3 : Int) < (K : Int)) = false := decide_eq_false (by omega)
  have hs : ∀ W, SF w p ad cap bs 3 K 0 0 0 (.slice none 0 0) W → Calls Try.prog 56 #[.pointer (some ⟨p, 0, none⟩), .int .i64 1] W fun e W' => e = .returned (.int .i64 (S : Nat)) ∧ SF w p ad cap bs 4 K 0 0 0 (.slice none 0 0) W' := fun W h => by
    have := SF.num h 1 (by decide) (by decide) (by omega)
    rwa [hSz] at this
  have hr102 := refuse_yes 102
  have q2 : ((S : Int) != (n : Int)) = true := by simp; omega
  obtain ⟨⟨c0, c1, c2, c3, c4, c5, c6, c7⟩, z0, z1, z2, z3, z4, z5, z6, z7⟩ := hS0.facts
  go_enter Try.func45, Try.ntmps45
  go_wp2_with (first | (go_at_call 56; (with_reducible refine (hm _ hS0).mono ?_); rintro e u1 ⟨rfl, hS1⟩; clear c0 c1 c2 c3 c4 c5 c6 c7 z0 z1 z2 z3 z4 z5 z6 z7; obtain ⟨⟨c0, c1, c2, c3, c4, c5, c6, c7⟩, z0, z1, z2, z3, z4, z5, z6, z7⟩ := hS1.facts) | (go_at_call 55; (with_reducible refine (hr70 _).mono ?_); rintro e ur ⟨rfl, hu⟩; rw [hu]; clear hu ur) | (go_at_call 56; (with_reducible refine (hk _ hS1).mono ?_); rintro e u2 ⟨rfl, hS2⟩; clear c0 c1 c2 c3 c4 c5 c6 c7 z0 z1 z2 z3 z4 z5 z6 z7; obtain ⟨⟨c0, c1, c2, c3, c4, c5, c6, c7⟩, z0, z1, z2, z3, z4, z5, z6, z7⟩ := hS2.facts; have hS3 := hS2.s0 K) | (go_at_call 55; (with_reducible refine (hr71 _).mono ?_); rintro e ur ⟨rfl, hu⟩; rw [hu]; clear hu ur) | (go_at_call 56; (with_reducible refine (hs _ hS3).mono ?_); rintro e u4 ⟨rfl, hS4⟩; clear c0 c1 c2 c3 c4 c5 c6 c7 z0 z1 z2 z3 z4 z5 z6 z7; obtain ⟨⟨c0, c1, c2, c3, c4, c5, c6, c7⟩, z0, z1, z2, z3, z4, z5, z6, z7⟩ := hS4.facts) | (go_at_call 55; (with_reducible refine (hr102 _).mono ?_); rintro e ur ⟨rfl, hu⟩; rw [hu]; clear hu ur))
  exact ⟨rfl, fdo_err rfl hS4.kb⟩
set_option maxHeartbeats 4000000 in
set_option maxRecDepth 100000 in
theorem fd7 {w : World} {p : Nat} {ad : Option Addr} {cap : Nat} {bs : List Nat} (h : Rdr w p ad cap bs 0) (n : Nat) (h1 : 2 ≤ bs.length) (hM : nm bs 0 2 = 25971) (h2 : 3 ≤ bs.length) (K : Nat) (hK : nm bs 2 1 = K) (hk1 : 1 ≤ K) (hk3 : K ≤ 3) (h3 : 4 ≤ bs.length) (hSz : nm bs 3 1 = n) (h4 : bs.length < 5) : Calls Try.prog 45 #[.pointer (some ⟨p, 0, none⟩), .int .i64 (n : Int)] w (FdO p ad cap bs (.error 76) w) := by
  have hS0 := sf_start h
  have hm : ∀ W, SF w p ad cap bs 0 0 0 0 0 (.slice none 0 0) W → Calls Try.prog 56 #[.pointer (some ⟨p, 0, none⟩), .int .i64 2] W fun e W' => e = .returned (.int .i64 (25971 : Nat)) ∧ SF w p ad cap bs 2 0 0 0 0 (.slice none 0 0) W' := fun W h => by
    have := SF.num h 2 (by decide) (by decide) (by omega)
    rwa [hM] at this
  have hr70 := refuse_no 70
  have hk : ∀ W, SF w p ad cap bs 2 0 0 0 0 (.slice none 0 0) W → Calls Try.prog 56 #[.pointer (some ⟨p, 0, none⟩), .int .i64 1] W fun e W' => e = .returned (.int .i64 (K : Nat)) ∧ SF w p ad cap bs 3 0 0 0 0 (.slice none 0 0) W' := fun W h => by
    have := SF.num h 1 (by decide) (by decide) (by omega)
    rwa [hK] at this
  have hr71 := refuse_no 71
  have q0 : decide ((K : Int) < 1) = false := decide_eq_false (by omega)
  have q1 : decide ((3 : Int) < (K : Int)) = false := decide_eq_false (by omega)
  have hs : ∀ W, SF w p ad cap bs 3 K 0 0 0 (.slice none 0 0) W → Calls Try.prog 56 #[.pointer (some ⟨p, 0, none⟩), .int .i64 1] W fun e W' => e = .returned (.int .i64 (n : Nat)) ∧ SF w p ad cap bs 4 K 0 0 0 (.slice none 0 0) W' := fun W h => by
    have := SF.num h 1 (by decide) (by decide) (by omega)
    rwa [hSz] at this
  have hr102 := refuse_no 102
  have hx : ∀ W, SF w p ad cap bs 4 K 0 0 0 (.slice none 0 0) W → Calls Try.prog 56 #[.pointer (some ⟨p, 0, none⟩), .int .i64 1] W fun e W' => e = .panicked (rfu 76) ∧ Kb p w W' := fun W h => SF.numx h 1 (by omega)
  obtain ⟨⟨c0, c1, c2, c3, c4, c5, c6, c7⟩, z0, z1, z2, z3, z4, z5, z6, z7⟩ := hS0.facts
  go_enter Try.func45, Try.ntmps45
  go_wp2_with (first | (go_at_call 56; (with_reducible refine (hm _ hS0).mono ?_); rintro e u1 ⟨rfl, hS1⟩; clear c0 c1 c2 c3 c4 c5 c6 c7 z0 z1 z2 z3 z4 z5 z6 z7; obtain ⟨⟨c0, c1, c2, c3, c4, c5, c6, c7⟩, z0, z1, z2, z3, z4, z5, z6, z7⟩ := hS1.facts) | (go_at_call 55; (with_reducible refine (hr70 _).mono ?_); rintro e ur ⟨rfl, hu⟩; rw [hu]; clear hu ur) | (go_at_call 56; (with_reducible refine (hk _ hS1).mono ?_); rintro e u2 ⟨rfl, hS2⟩; clear c0 c1 c2 c3 c4 c5 c6 c7 z0 z1 z2 z3 z4 z5 z6 z7; obtain ⟨⟨c0, c1, c2, c3, c4, c5, c6, c7⟩, z0, z1, z2, z3, z4, z5, z6, z7⟩ := hS2.facts; have hS3 := hS2.s0 K) | (go_at_call 55; (with_reducible refine (hr71 _).mono ?_); rintro e ur ⟨rfl, hu⟩; rw [hu]; clear hu ur) | (go_at_call 56; (with_reducible refine (hs _ hS3).mono ?_); rintro e u4 ⟨rfl, hS4⟩; clear c0 c1 c2 c3 c4 c5 c6 c7 z0 z1 z2 z3 z4 z5 z6 z7; obtain ⟨⟨c0, c1, c2, c3, c4, c5, c6, c7⟩, z0, z1, z2, z3, z4, z5, z6, z7⟩ := hS4.facts) | (go_at_call 55; (with_reducible refine (hr102 _).mono ?_); rintro e ur ⟨rfl, hu⟩; rw [hu]; clear hu ur) | (go_at_call 56; (with_reducible refine (hx _ hS4).mono ?_); rintro e ux ⟨rfl, hkx⟩))
  exact ⟨rfl, fdo_err rfl hkx⟩
set_option maxHeartbeats 4000000 in
set_option maxRecDepth 100000 in
theorem fd8 {w : World} {p : Nat} {ad : Option Addr} {cap : Nat} {bs : List Nat} (h : Rdr w p ad cap bs 0) (n : Nat) (h1 : 2 ≤ bs.length) (hM : nm bs 0 2 = 25971) (h2 : 3 ≤ bs.length) (K : Nat) (hK : nm bs 2 1 = K) (hk1 : 1 ≤ K) (hk3 : K ≤ 3) (h3 : 4 ≤ bs.length) (hSz : nm bs 3 1 = n) (h4 : 5 ≤ bs.length) (G : Nat) (hG : nm bs 4 1 = G) (hg1 : n ≤ G) : Calls Try.prog 45 #[.pointer (some ⟨p, 0, none⟩), .int .i64 (n : Int)] w (FdO p ad cap bs (.error 72) w) := by
  have hS0 := sf_start h
  have hm : ∀ W, SF w p ad cap bs 0 0 0 0 0 (.slice none 0 0) W → Calls Try.prog 56 #[.pointer (some ⟨p, 0, none⟩), .int .i64 2] W fun e W' => e = .returned (.int .i64 (25971 : Nat)) ∧ SF w p ad cap bs 2 0 0 0 0 (.slice none 0 0) W' := fun W h => by
    have := SF.num h 2 (by decide) (by decide) (by omega)
    rwa [hM] at this
  have hr70 := refuse_no 70
  have hk : ∀ W, SF w p ad cap bs 2 0 0 0 0 (.slice none 0 0) W → Calls Try.prog 56 #[.pointer (some ⟨p, 0, none⟩), .int .i64 1] W fun e W' => e = .returned (.int .i64 (K : Nat)) ∧ SF w p ad cap bs 3 0 0 0 0 (.slice none 0 0) W' := fun W h => by
    have := SF.num h 1 (by decide) (by decide) (by omega)
    rwa [hK] at this
  have hr71 := refuse_no 71
  have q0 : decide ((K : Int) < 1) = false := decide_eq_false (by omega)
  have q1 : decide ((3 : Int) < (K : Int)) = false := decide_eq_false (by omega)
  have hs : ∀ W, SF w p ad cap bs 3 K 0 0 0 (.slice none 0 0) W → Calls Try.prog 56 #[.pointer (some ⟨p, 0, none⟩), .int .i64 1] W fun e W' => e = .returned (.int .i64 (n : Nat)) ∧ SF w p ad cap bs 4 K 0 0 0 (.slice none 0 0) W' := fun W h => by
    have := SF.num h 1 (by decide) (by decide) (by omega)
    rwa [hSz] at this
  have hr102 := refuse_no 102
  have hf : ∀ W, SF w p ad cap bs 4 K 0 0 0 (.slice none 0 0) W → Calls Try.prog 56 #[.pointer (some ⟨p, 0, none⟩), .int .i64 1] W fun e W' => e = .returned (.int .i64 (G : Nat)) ∧ SF w p ad cap bs 5 K 0 0 0 (.slice none 0 0) W' := fun W h => by
    have := SF.num h 1 (by decide) (by decide) (by omega)
    rwa [hG] at this
  have hr72 := refuse_yes 72
  have q3 : decide (n ≤ G) = true := decide_eq_true (by omega)
  obtain ⟨⟨c0, c1, c2, c3, c4, c5, c6, c7⟩, z0, z1, z2, z3, z4, z5, z6, z7⟩ := hS0.facts
  go_enter Try.func45, Try.ntmps45
  go_wp2_with (first | (go_at_call 56; (with_reducible refine (hm _ hS0).mono ?_); rintro e u1 ⟨rfl, hS1⟩; clear c0 c1 c2 c3 c4 c5 c6 c7 z0 z1 z2 z3 z4 z5 z6 z7; obtain ⟨⟨c0, c1, c2, c3, c4, c5, c6, c7⟩, z0, z1, z2, z3, z4, z5, z6, z7⟩ := hS1.facts) | (go_at_call 55; (with_reducible refine (hr70 _).mono ?_); rintro e ur ⟨rfl, hu⟩; rw [hu]; clear hu ur) | (go_at_call 56; (with_reducible refine (hk _ hS1).mono ?_); rintro e u2 ⟨rfl, hS2⟩; clear c0 c1 c2 c3 c4 c5 c6 c7 z0 z1 z2 z3 z4 z5 z6 z7; obtain ⟨⟨c0, c1, c2, c3, c4, c5, c6, c7⟩, z0, z1, z2, z3, z4, z5, z6, z7⟩ := hS2.facts; have hS3 := hS2.s0 K) | (go_at_call 55; (with_reducible refine (hr71 _).mono ?_); rintro e ur ⟨rfl, hu⟩; rw [hu]; clear hu ur) | (go_at_call 56; (with_reducible refine (hs _ hS3).mono ?_); rintro e u4 ⟨rfl, hS4⟩; clear c0 c1 c2 c3 c4 c5 c6 c7 z0 z1 z2 z3 z4 z5 z6 z7; obtain ⟨⟨c0, c1, c2, c3, c4, c5, c6, c7⟩, z0, z1, z2, z3, z4, z5, z6, z7⟩ := hS4.facts) | (go_at_call 55; (with_reducible refine (hr102 _).mono ?_); rintro e ur ⟨rfl, hu⟩; rw [hu]; clear hu ur) | (go_at_call 56; (with_reducible refine (hf _ hS4).mono ?_); rintro e u5 ⟨rfl, hS5⟩; clear c0 c1 c2 c3 c4 c5 c6 c7 z0 z1 z2 z3 z4 z5 z6 z7; obtain ⟨⟨c0, c1, c2, c3, c4, c5, c6, c7⟩, z0, z1, z2, z3, z4, z5, z6, z7⟩ := hS5.facts; have hS6 := hS5.s1 (G : Int)) | (go_at_call 55; (with_reducible refine (hr72 _).mono ?_); rintro e ur ⟨rfl, hu⟩; rw [hu]; clear hu ur))
  exact ⟨rfl, fdo_err rfl hS6.kb⟩
theorem SF.newsx {w W : World} {p : Nat} {ad : Option Addr} {cap : Nat} {bs : List Nat} {i kd : Nat} {fr rd : Int} {N : Nat} {v : Value} (h : SF w p ad cap bs i kd fr rd N v W) (n : Nat) (hn : n ≤ 100) (er : Int) (hR : rdW n bs i = .error er) : Calls Try.prog 64 #[.pointer (some ⟨p, 0, none⟩), .int .i64 (n : Int)] W fun e W' => e = .panicked (rfu er) ∧ Kb p w W' :=
  (news_any h.rr n hn).mono (by
    intro e W' q
    rw [hR] at q
    exact ⟨q.1, h.kb.trans q.2⟩)
theorem SF.newso {w W : World} {p : Nat} {ad : Option Addr} {cap : Nat} {bs : List Nat} {i kd : Nat} {fr rd : Int} {N : Nat} {v : Value} (h : SF w p ad cap bs i kd fr rd N v W) (n : Nat) (hn : n ≤ 100) (l : List (Int × Int × Int)) (j : Nat) (hR : rdW n bs i = .ok (l, j)) : Calls Try.prog 64 #[.pointer (some ⟨p, 0, none⟩), .int .i64 (n : Int)] W fun e W' => ∃ a2 c2, e = .returned (.slice a2 l.length c2) ∧ W'.ownsRow (w.heap.size + 2) 82 3 (.slice a2 l.length c2) l.length (fl l) ∧ SF w p ad cap bs j kd fr rd N v W' :=
  (news_any h.rr n hn).mono (by
    intro e W' q
    rw [hR] at q
    obtain ⟨x, h1, h2, h3, h4⟩ := q
    obtain ⟨a2, c2, rfl⟩ : ∃ a2 c2, x = .slice a2 l.length c2 := by
      rcases own_form h2 with ⟨e1, e2⟩ | ⟨g, c, e1, _⟩
      · exact ⟨none, 0, by rw [e1, e2]⟩
      · exact ⟨_, _, e1⟩
    exact ⟨a2, c2, h1, ownsRow_base h2 (by have := h.sz; omega), h.kbs h3 h4⟩)
theorem own_set8 {W : World} {b b' kd : Nat} {fr rd : Int} {N : Nat} {v x : Value} {e : TypeId} {size n : Nat} {xs : List Value} (h : W.ownsRow (b + 2) e size x n xs) (hb : b' ≤ b + 1) : (W8 (W.setCell ⟨b', 7, none⟩ x) b kd fr rd N v).ownsRow (b + 2) e size x n xs := by
  have k1 : ∀ g, x.ownBlock = some g → g ≠ b' := fun g hg => by have := own_block h g hg; omega
  have k2 : ∀ g, x.ownBlock = some g → g ≠ b := fun g hg => by have := own_block h g hg; omega
  unfold W8
  exact ownsRow_set (ownsRow_set (ownsRow_set (ownsRow_set (ownsRow_set (ownsRow_set (ownsRow_set (ownsRow_set (ownsRow_set h k1 _) k2 _) k2 _) k2 _) k2 _) k2 _) k2 _) k2 _) k2 _
theorem SF.end8 {w W : World} {p : Nat} {ad : Option Addr} {cap : Nat} {bs : List Nat} {i kd fr rd : Nat} {N : Nat} {x : Value} {l : List (Int × Int × Int)} (h : SF w p ad cap bs i kd fr rd N (.slice none 0 0) W) (ho : W.ownsRow (w.heap.size + 2) 82 3 x l.length (fl l)) : FB (W8 (W.setCell ⟨w.heap.size + 1, 7, none⟩ x) w.heap.size kd fr rd N x) w.heap.size kd fr rd N x ∧ FdO p ad cap bs (.ok ((kd, fr, rd, N, l), i)) w (.returned (fv kd fr rd N x)) (W8 (W.setCell ⟨w.heap.size + 1, 7, none⟩ x) w.heap.size kd fr rd N x) := by
  have h7 := h.s7 x
  have hp := h.pl
  refine ⟨h7.f0.set8 _ _ _ _ _, x, rfl, ownsRow_base (own_set8 ho (Nat.le_refl _)) (by omega), ?_, ?_⟩
  · unfold W8
    exact (((((((h7.rr.other hp _ _).other hp _ _).other hp _ _).other hp _ _).other hp _ _).other hp _ _).other hp _ _).other hp _ _
  · unfold W8
    exact (((((((h7.kb.other hp (Nat.le_refl _) _ _).other hp (Nat.le_refl _) _ _).other hp (Nat.le_refl _) _ _).other hp (Nat.le_refl _) _ _).other hp (Nat.le_refl _) _ _).other hp (Nat.le_refl _) _ _).other hp (Nat.le_refl _) _ _).other hp (Nat.le_refl _) _ _
set_option maxHeartbeats 4000000 in
set_option maxRecDepth 100000 in
theorem fd9x {w : World} {p : Nat} {ad : Option Addr} {cap : Nat} {bs : List Nat} (h : Rdr w p ad cap bs 0) (n : Nat) (h1 : 2 ≤ bs.length) (hM : nm bs 0 2 = 25971) (h2 : 3 ≤ bs.length) (K : Nat) (hK : nm bs 2 1 = K) (h3 : 4 ≤ bs.length) (hSz : nm bs 3 1 = n) (h4 : 5 ≤ bs.length) (G : Nat) (hG : nm bs 4 1 = G) (hg1 : G < n) (hk4 : K = 3) (hn : n ≤ 100) (er : Int) (hW : rdW n bs (5) = .error er) : Calls Try.prog 45 #[.pointer (some ⟨p, 0, none⟩), .int .i64 (n : Int)] w (FdO p ad cap bs (.error er) w) := by
  have hS0 := sf_start h
  have hm : ∀ W, SF w p ad cap bs 0 0 0 0 0 (.slice none 0 0) W → Calls Try.prog 56 #[.pointer (some ⟨p, 0, none⟩), .int .i64 2] W fun e W' => e = .returned (.int .i64 (25971 : Nat)) ∧ SF w p ad cap bs 2 0 0 0 0 (.slice none 0 0) W' := fun W h => by
    have := SF.num h 2 (by decide) (by decide) (by omega)
    rwa [hM] at this
  have hr70 := refuse_no 70
  have hk : ∀ W, SF w p ad cap bs 2 0 0 0 0 (.slice none 0 0) W → Calls Try.prog 56 #[.pointer (some ⟨p, 0, none⟩), .int .i64 1] W fun e W' => e = .returned (.int .i64 (K : Nat)) ∧ SF w p ad cap bs 3 0 0 0 0 (.slice none 0 0) W' := fun W h => by
    have := SF.num h 1 (by decide) (by decide) (by omega)
    rwa [hK] at this
  have hr71 := refuse_no 71
  have q0 : decide ((K : Int) < 1) = false := decide_eq_false (by omega)
  have q1 : decide ((3 : Int) < (K : Int)) = false := decide_eq_false (by omega)
  have hs : ∀ W, SF w p ad cap bs 3 K 0 0 0 (.slice none 0 0) W → Calls Try.prog 56 #[.pointer (some ⟨p, 0, none⟩), .int .i64 1] W fun e W' => e = .returned (.int .i64 (n : Nat)) ∧ SF w p ad cap bs 4 K 0 0 0 (.slice none 0 0) W' := fun W h => by
    have := SF.num h 1 (by decide) (by decide) (by omega)
    rwa [hSz] at this
  have hr102 := refuse_no 102
  have hf : ∀ W, SF w p ad cap bs 4 K 0 0 0 (.slice none 0 0) W → Calls Try.prog 56 #[.pointer (some ⟨p, 0, none⟩), .int .i64 1] W fun e W' => e = .returned (.int .i64 (G : Nat)) ∧ SF w p ad cap bs 5 K 0 0 0 (.slice none 0 0) W' := fun W h => by
    have := SF.num h 1 (by decide) (by decide) (by omega)
    rwa [hG] at this
  have hr72 := refuse_no 72
  have q3 : decide (n ≤ G) = false := decide_eq_false (by omega)
  have hhr : ∀ w, Calls Try.prog 57 #[.int .i64 (K : Int)] w _ := hasRound_any K
  rw [decide_eq_false (fun q : K ≠ 3 => q hk4)] at hhr
  have hhh : ∀ w, Calls Try.prog 59 #[.int .i64 (K : Int)] w _ := hasHeard_any K
  rw [decide_eq_false (by omega : ¬ K = 2)] at hhh
  clear hk4
  have hx : ∀ W, SF w p ad cap bs 5 K (G : Int) 0 0 (.slice none 0 0) W → Calls Try.prog 64 #[.pointer (some ⟨p, 0, none⟩), .int .i64 (n : Int)] W fun e W' => e = .panicked (rfu er) ∧ Kb p w W' := fun W h => SF.newsx h n hn er hW
  obtain ⟨⟨c0, c1, c2, c3, c4, c5, c6, c7⟩, z0, z1, z2, z3, z4, z5, z6, z7⟩ := hS0.facts
  go_enter Try.func45, Try.ntmps45
  go_wp2_with (first | (go_at_call 56; (with_reducible refine (hm _ hS0).mono ?_); rintro e u1 ⟨rfl, hS1⟩; clear c0 c1 c2 c3 c4 c5 c6 c7 z0 z1 z2 z3 z4 z5 z6 z7; obtain ⟨⟨c0, c1, c2, c3, c4, c5, c6, c7⟩, z0, z1, z2, z3, z4, z5, z6, z7⟩ := hS1.facts) | (go_at_call 55; (with_reducible refine (hr70 _).mono ?_); rintro e ur ⟨rfl, hu⟩; rw [hu]; clear hu ur) | (go_at_call 56; (with_reducible refine (hk _ hS1).mono ?_); rintro e u2 ⟨rfl, hS2⟩; clear c0 c1 c2 c3 c4 c5 c6 c7 z0 z1 z2 z3 z4 z5 z6 z7; obtain ⟨⟨c0, c1, c2, c3, c4, c5, c6, c7⟩, z0, z1, z2, z3, z4, z5, z6, z7⟩ := hS2.facts; have hS3 := hS2.s0 K) | (go_at_call 55; (with_reducible refine (hr71 _).mono ?_); rintro e ur ⟨rfl, hu⟩; rw [hu]; clear hu ur) | (go_at_call 56; (with_reducible refine (hs _ hS3).mono ?_); rintro e u4 ⟨rfl, hS4⟩; clear c0 c1 c2 c3 c4 c5 c6 c7 z0 z1 z2 z3 z4 z5 z6 z7; obtain ⟨⟨c0, c1, c2, c3, c4, c5, c6, c7⟩, z0, z1, z2, z3, z4, z5, z6, z7⟩ := hS4.facts) | (go_at_call 55; (with_reducible refine (hr102 _).mono ?_); rintro e ur ⟨rfl, hu⟩; rw [hu]; clear hu ur) | (go_at_call 56; (with_reducible refine (hf _ hS4).mono ?_); rintro e u5 ⟨rfl, hS5⟩; clear c0 c1 c2 c3 c4 c5 c6 c7 z0 z1 z2 z3 z4 z5 z6 z7; obtain ⟨⟨c0, c1, c2, c3, c4, c5, c6, c7⟩, z0, z1, z2, z3, z4, z5, z6, z7⟩ := hS5.facts; have hS6 := hS5.s1 (G : Int)) | (go_at_call 55; (with_reducible refine (hr72 _).mono ?_); rintro e ur ⟨rfl, hu⟩; rw [hu]; clear hu ur) | (go_at_call 57; (with_reducible refine (hhr _).mono ?_); rintro e ur ⟨rfl, hu⟩; rw [hu]; clear hu ur) | (go_at_call 59; (with_reducible refine (hhh _).mono ?_); rintro e ur ⟨rfl, hu⟩; rw [hu]; clear hu ur) | (go_at_call 64; (with_reducible refine (hx _ hS6).mono ?_); rintro e ux ⟨rfl, hkx⟩))
  exact ⟨rfl, fdo_err rfl hkx⟩
set_option maxHeartbeats 4000000 in
set_option maxRecDepth 100000 in
theorem fd9o {w : World} {p : Nat} {ad : Option Addr} {cap : Nat} {bs : List Nat} (h : Rdr w p ad cap bs 0) (n : Nat) (h1 : 2 ≤ bs.length) (hM : nm bs 0 2 = 25971) (h2 : 3 ≤ bs.length) (K : Nat) (hK : nm bs 2 1 = K) (h3 : 4 ≤ bs.length) (hSz : nm bs 3 1 = n) (h4 : 5 ≤ bs.length) (G : Nat) (hG : nm bs 4 1 = G) (hg1 : G < n) (hk4 : K = 3) (hn : n ≤ 100) (l : List (Int × Int × Int)) (j : Nat) (hW : rdW n bs (5) = .ok (l, j)) : Calls Try.prog 45 #[.pointer (some ⟨p, 0, none⟩), .int .i64 (n : Int)] w (FdO p ad cap bs (.ok ((K, G, 0, 0, l), j)) w) := by
  have hS0 := sf_start h
  have hm : ∀ W, SF w p ad cap bs 0 0 0 0 0 (.slice none 0 0) W → Calls Try.prog 56 #[.pointer (some ⟨p, 0, none⟩), .int .i64 2] W fun e W' => e = .returned (.int .i64 (25971 : Nat)) ∧ SF w p ad cap bs 2 0 0 0 0 (.slice none 0 0) W' := fun W h => by
    have := SF.num h 2 (by decide) (by decide) (by omega)
    rwa [hM] at this
  have hr70 := refuse_no 70
  have hk : ∀ W, SF w p ad cap bs 2 0 0 0 0 (.slice none 0 0) W → Calls Try.prog 56 #[.pointer (some ⟨p, 0, none⟩), .int .i64 1] W fun e W' => e = .returned (.int .i64 (K : Nat)) ∧ SF w p ad cap bs 3 0 0 0 0 (.slice none 0 0) W' := fun W h => by
    have := SF.num h 1 (by decide) (by decide) (by omega)
    rwa [hK] at this
  have hr71 := refuse_no 71
  have q0 : decide ((K : Int) < 1) = false := decide_eq_false (by omega)
  have q1 : decide ((3 : Int) < (K : Int)) = false := decide_eq_false (by omega)
  have hs : ∀ W, SF w p ad cap bs 3 K 0 0 0 (.slice none 0 0) W → Calls Try.prog 56 #[.pointer (some ⟨p, 0, none⟩), .int .i64 1] W fun e W' => e = .returned (.int .i64 (n : Nat)) ∧ SF w p ad cap bs 4 K 0 0 0 (.slice none 0 0) W' := fun W h => by
    have := SF.num h 1 (by decide) (by decide) (by omega)
    rwa [hSz] at this
  have hr102 := refuse_no 102
  have hf : ∀ W, SF w p ad cap bs 4 K 0 0 0 (.slice none 0 0) W → Calls Try.prog 56 #[.pointer (some ⟨p, 0, none⟩), .int .i64 1] W fun e W' => e = .returned (.int .i64 (G : Nat)) ∧ SF w p ad cap bs 5 K 0 0 0 (.slice none 0 0) W' := fun W h => by
    have := SF.num h 1 (by decide) (by decide) (by omega)
    rwa [hG] at this
  have hr72 := refuse_no 72
  have q3 : decide (n ≤ G) = false := decide_eq_false (by omega)
  have hhr : ∀ w, Calls Try.prog 57 #[.int .i64 (K : Int)] w _ := hasRound_any K
  rw [decide_eq_false (fun q : K ≠ 3 => q hk4)] at hhr
  have hhh : ∀ w, Calls Try.prog 59 #[.int .i64 (K : Int)] w _ := hasHeard_any K
  rw [decide_eq_false (by omega : ¬ K = 2)] at hhh
  clear hk4
  have ho : ∀ W, SF w p ad cap bs 5 K (G : Int) 0 0 (.slice none 0 0) W → Calls Try.prog 64 #[.pointer (some ⟨p, 0, none⟩), .int .i64 (n : Int)] W fun e W' => ∃ a2 c2, e = .returned (.slice a2 l.length c2) ∧ W'.ownsRow (w.heap.size + 2) 82 3 (.slice a2 l.length c2) l.length (fl l) ∧ SF w p ad cap bs j K (G : Int) 0 0 (.slice none 0 0) W' := fun W h => SF.newso h n hn l j hW
  obtain ⟨⟨c0, c1, c2, c3, c4, c5, c6, c7⟩, z0, z1, z2, z3, z4, z5, z6, z7⟩ := hS0.facts
  go_enter Try.func45, Try.ntmps45
  go_wp2_with (first | (go_at_call 56; (with_reducible refine (hm _ hS0).mono ?_); rintro e u1 ⟨rfl, hS1⟩; clear c0 c1 c2 c3 c4 c5 c6 c7 z0 z1 z2 z3 z4 z5 z6 z7; obtain ⟨⟨c0, c1, c2, c3, c4, c5, c6, c7⟩, z0, z1, z2, z3, z4, z5, z6, z7⟩ := hS1.facts) | (go_at_call 55; (with_reducible refine (hr70 _).mono ?_); rintro e ur ⟨rfl, hu⟩; rw [hu]; clear hu ur) | (go_at_call 56; (with_reducible refine (hk _ hS1).mono ?_); rintro e u2 ⟨rfl, hS2⟩; clear c0 c1 c2 c3 c4 c5 c6 c7 z0 z1 z2 z3 z4 z5 z6 z7; obtain ⟨⟨c0, c1, c2, c3, c4, c5, c6, c7⟩, z0, z1, z2, z3, z4, z5, z6, z7⟩ := hS2.facts; have hS3 := hS2.s0 K) | (go_at_call 55; (with_reducible refine (hr71 _).mono ?_); rintro e ur ⟨rfl, hu⟩; rw [hu]; clear hu ur) | (go_at_call 56; (with_reducible refine (hs _ hS3).mono ?_); rintro e u4 ⟨rfl, hS4⟩; clear c0 c1 c2 c3 c4 c5 c6 c7 z0 z1 z2 z3 z4 z5 z6 z7; obtain ⟨⟨c0, c1, c2, c3, c4, c5, c6, c7⟩, z0, z1, z2, z3, z4, z5, z6, z7⟩ := hS4.facts) | (go_at_call 55; (with_reducible refine (hr102 _).mono ?_); rintro e ur ⟨rfl, hu⟩; rw [hu]; clear hu ur) | (go_at_call 56; (with_reducible refine (hf _ hS4).mono ?_); rintro e u5 ⟨rfl, hS5⟩; clear c0 c1 c2 c3 c4 c5 c6 c7 z0 z1 z2 z3 z4 z5 z6 z7; obtain ⟨⟨c0, c1, c2, c3, c4, c5, c6, c7⟩, z0, z1, z2, z3, z4, z5, z6, z7⟩ := hS5.facts; have hS6 := hS5.s1 (G : Int)) | (go_at_call 55; (with_reducible refine (hr72 _).mono ?_); rintro e ur ⟨rfl, hu⟩; rw [hu]; clear hu ur) | (go_at_call 57; (with_reducible refine (hhr _).mono ?_); rintro e ur ⟨rfl, hu⟩; rw [hu]; clear hu ur) | (go_at_call 59; (with_reducible refine (hhh _).mono ?_); rintro e ur ⟨rfl, hu⟩; rw [hu]; clear hu ur) | (go_at_call 64; (with_reducible refine (ho _ hS6).mono ?_); rintro e uz ⟨ax, cx, rfl, hox, hSz⟩; have hE := SF.end8 (fr := G) (rd := 0) hSz hox; clear c0 c1 c2 c3 c4 c5 c6 c7 z0 z1 z2 z3 z4 z5 z6 z7; obtain ⟨⟨c0, c1, c2, c3, c4, c5, c6, c7⟩, z0, z1, z2, z3, z4, z5, z6, z7⟩ := hSz.facts; obtain ⟨d0, d1, d2, d3, d4, d5, d6, d7⟩ := hSz.f0.cells; have y0 := hSz.f0.thaw 0; have y1 := hSz.f0.thaw 1; have y2 := hSz.f0.thaw 2; have y3 := hSz.f0.thaw 3; have y4 := hSz.f0.thaw 4; have y5 := hSz.f0.thaw 5; have y6 := hSz.f0.thaw 6; have y7 := hSz.f0.thaw 7))
  exact retF rfl rfl rfl hE.1 hE.2
set_option maxHeartbeats 4000000 in
set_option maxRecDepth 100000 in
theorem fd10 {w : World} {p : Nat} {ad : Option Addr} {cap : Nat} {bs : List Nat} (h : Rdr w p ad cap bs 0) (n : Nat) (h1 : 2 ≤ bs.length) (hM : nm bs 0 2 = 25971) (h2 : 3 ≤ bs.length) (K : Nat) (hK : nm bs 2 1 = K) (hk1 : 1 ≤ K) (hk3 : K ≤ 3) (hk4 : K ≠ 3) (h3 : 4 ≤ bs.length) (hSz : nm bs 3 1 = n) (h4 : 5 ≤ bs.length) (G : Nat) (hG : nm bs 4 1 = G) (hg1 : G < n) (h5 : bs.length < 10) : Calls Try.prog 45 #[.pointer (some ⟨p, 0, none⟩), .int .i64 (n : Int)] w (FdO p ad cap bs (.error 76) w) := by
  have hS0 := sf_start h
  have hm : ∀ W, SF w p ad cap bs 0 0 0 0 0 (.slice none 0 0) W → Calls Try.prog 56 #[.pointer (some ⟨p, 0, none⟩), .int .i64 2] W fun e W' => e = .returned (.int .i64 (25971 : Nat)) ∧ SF w p ad cap bs 2 0 0 0 0 (.slice none 0 0) W' := fun W h => by
    have := SF.num h 2 (by decide) (by decide) (by omega)
    rwa [hM] at this
  have hr70 := refuse_no 70
  have hk : ∀ W, SF w p ad cap bs 2 0 0 0 0 (.slice none 0 0) W → Calls Try.prog 56 #[.pointer (some ⟨p, 0, none⟩), .int .i64 1] W fun e W' => e = .returned (.int .i64 (K : Nat)) ∧ SF w p ad cap bs 3 0 0 0 0 (.slice none 0 0) W' := fun W h => by
    have := SF.num h 1 (by decide) (by decide) (by omega)
    rwa [hK] at this
  have hr71 := refuse_no 71
  have q0 : decide ((K : Int) < 1) = false := decide_eq_false (by omega)
  have q1 : decide ((3 : Int) < (K : Int)) = false := decide_eq_false (by omega)
  have hs : ∀ W, SF w p ad cap bs 3 K 0 0 0 (.slice none 0 0) W → Calls Try.prog 56 #[.pointer (some ⟨p, 0, none⟩), .int .i64 1] W fun e W' => e = .returned (.int .i64 (n : Nat)) ∧ SF w p ad cap bs 4 K 0 0 0 (.slice none 0 0) W' := fun W h => by
    have := SF.num h 1 (by decide) (by decide) (by omega)
    rwa [hSz] at this
  have hr102 := refuse_no 102
  have hf : ∀ W, SF w p ad cap bs 4 K 0 0 0 (.slice none 0 0) W → Calls Try.prog 56 #[.pointer (some ⟨p, 0, none⟩), .int .i64 1] W fun e W' => e = .returned (.int .i64 (G : Nat)) ∧ SF w p ad cap bs 5 K 0 0 0 (.slice none 0 0) W' := fun W h => by
    have := SF.num h 1 (by decide) (by decide) (by omega)
    rwa [hG] at this
  have hr72 := refuse_no 72
  have q3 : decide (n ≤ G) = false := decide_eq_false (by omega)
  have hhr : ∀ w, Calls Try.prog 57 #[.int .i64 (K : Int)] w _ := hasRound_any K
  rw [decide_eq_true hk4] at hhr
  have hx : ∀ W, SF w p ad cap bs 5 K (G : Int) 0 0 (.slice none 0 0) W → Calls Try.prog 56 #[.pointer (some ⟨p, 0, none⟩), .int .i64 5] W fun e W' => e = .panicked (rfu 76) ∧ Kb p w W' := fun W h => SF.numx h 5 (by omega)
  obtain ⟨⟨c0, c1, c2, c3, c4, c5, c6, c7⟩, z0, z1, z2, z3, z4, z5, z6, z7⟩ := hS0.facts
  go_enter Try.func45, Try.ntmps45
  go_wp2_with (first | (go_at_call 56; (with_reducible refine (hm _ hS0).mono ?_); rintro e u1 ⟨rfl, hS1⟩; clear c0 c1 c2 c3 c4 c5 c6 c7 z0 z1 z2 z3 z4 z5 z6 z7; obtain ⟨⟨c0, c1, c2, c3, c4, c5, c6, c7⟩, z0, z1, z2, z3, z4, z5, z6, z7⟩ := hS1.facts) | (go_at_call 55; (with_reducible refine (hr70 _).mono ?_); rintro e ur ⟨rfl, hu⟩; rw [hu]; clear hu ur) | (go_at_call 56; (with_reducible refine (hk _ hS1).mono ?_); rintro e u2 ⟨rfl, hS2⟩; clear c0 c1 c2 c3 c4 c5 c6 c7 z0 z1 z2 z3 z4 z5 z6 z7; obtain ⟨⟨c0, c1, c2, c3, c4, c5, c6, c7⟩, z0, z1, z2, z3, z4, z5, z6, z7⟩ := hS2.facts; have hS3 := hS2.s0 K) | (go_at_call 55; (with_reducible refine (hr71 _).mono ?_); rintro e ur ⟨rfl, hu⟩; rw [hu]; clear hu ur) | (go_at_call 56; (with_reducible refine (hs _ hS3).mono ?_); rintro e u4 ⟨rfl, hS4⟩; clear c0 c1 c2 c3 c4 c5 c6 c7 z0 z1 z2 z3 z4 z5 z6 z7; obtain ⟨⟨c0, c1, c2, c3, c4, c5, c6, c7⟩, z0, z1, z2, z3, z4, z5, z6, z7⟩ := hS4.facts) | (go_at_call 55; (with_reducible refine (hr102 _).mono ?_); rintro e ur ⟨rfl, hu⟩; rw [hu]; clear hu ur) | (go_at_call 56; (with_reducible refine (hf _ hS4).mono ?_); rintro e u5 ⟨rfl, hS5⟩; clear c0 c1 c2 c3 c4 c5 c6 c7 z0 z1 z2 z3 z4 z5 z6 z7; obtain ⟨⟨c0, c1, c2, c3, c4, c5, c6, c7⟩, z0, z1, z2, z3, z4, z5, z6, z7⟩ := hS5.facts; have hS6 := hS5.s1 (G : Int)) | (go_at_call 55; (with_reducible refine (hr72 _).mono ?_); rintro e ur ⟨rfl, hu⟩; rw [hu]; clear hu ur) | (go_at_call 57; (with_reducible refine (hhr _).mono ?_); rintro e ur ⟨rfl, hu⟩; rw [hu]; clear hu ur) | (go_at_call 56; (with_reducible refine (hx _ hS6).mono ?_); rintro e ux ⟨rfl, hkx⟩))
  exact ⟨rfl, fdo_err rfl hkx⟩
set_option maxHeartbeats 4000000 in
set_option maxRecDepth 100000 in
theorem fd11 {w : World} {p : Nat} {ad : Option Addr} {cap : Nat} {bs : List Nat} (h : Rdr w p ad cap bs 0) (n : Nat) (h1 : 2 ≤ bs.length) (hM : nm bs 0 2 = 25971) (h2 : 3 ≤ bs.length) (K : Nat) (hK : nm bs 2 1 = K) (hk1 : 1 ≤ K) (hk3 : K ≤ 3) (hk4 : K ≠ 3) (h3 : 4 ≤ bs.length) (hSz : nm bs 3 1 = n) (h4 : 5 ≤ bs.length) (G : Nat) (hG : nm bs 4 1 = G) (hg1 : G < n) (h5 : 10 ≤ bs.length) (Rd : Nat) (hRd : nm bs 5 5 = Rd) (hrd : ¬ (1 ≤ Rd ∧ Rd ≤ 1099511627775)) : Calls Try.prog 45 #[.pointer (some ⟨p, 0, none⟩), .int .i64 (n : Int)] w (FdO p ad cap bs (.error 73) w) := by
  have hS0 := sf_start h
  have hm : ∀ W, SF w p ad cap bs 0 0 0 0 0 (.slice none 0 0) W → Calls Try.prog 56 #[.pointer (some ⟨p, 0, none⟩), .int .i64 2] W fun e W' => e = .returned (.int .i64 (25971 : Nat)) ∧ SF w p ad cap bs 2 0 0 0 0 (.slice none 0 0) W' := fun W h => by
    have := SF.num h 2 (by decide) (by decide) (by omega)
    rwa [hM] at this
  have hr70 := refuse_no 70
  have hk : ∀ W, SF w p ad cap bs 2 0 0 0 0 (.slice none 0 0) W → Calls Try.prog 56 #[.pointer (some ⟨p, 0, none⟩), .int .i64 1] W fun e W' => e = .returned (.int .i64 (K : Nat)) ∧ SF w p ad cap bs 3 0 0 0 0 (.slice none 0 0) W' := fun W h => by
    have := SF.num h 1 (by decide) (by decide) (by omega)
    rwa [hK] at this
  have hr71 := refuse_no 71
  have q0 : decide ((K : Int) < 1) = false := decide_eq_false (by omega)
  have q1 : decide ((3 : Int) < (K : Int)) = false := decide_eq_false (by omega)
  have hs : ∀ W, SF w p ad cap bs 3 K 0 0 0 (.slice none 0 0) W → Calls Try.prog 56 #[.pointer (some ⟨p, 0, none⟩), .int .i64 1] W fun e W' => e = .returned (.int .i64 (n : Nat)) ∧ SF w p ad cap bs 4 K 0 0 0 (.slice none 0 0) W' := fun W h => by
    have := SF.num h 1 (by decide) (by decide) (by omega)
    rwa [hSz] at this
  have hr102 := refuse_no 102
  have hf : ∀ W, SF w p ad cap bs 4 K 0 0 0 (.slice none 0 0) W → Calls Try.prog 56 #[.pointer (some ⟨p, 0, none⟩), .int .i64 1] W fun e W' => e = .returned (.int .i64 (G : Nat)) ∧ SF w p ad cap bs 5 K 0 0 0 (.slice none 0 0) W' := fun W h => by
    have := SF.num h 1 (by decide) (by decide) (by omega)
    rwa [hG] at this
  have hr72 := refuse_no 72
  have q3 : decide (n ≤ G) = false := decide_eq_false (by omega)
  have hhr : ∀ w, Calls Try.prog 57 #[.int .i64 (K : Int)] w _ := hasRound_any K
  rw [decide_eq_true hk4] at hhr
  have hq : ∀ W, SF w p ad cap bs 5 K (G : Int) 0 0 (.slice none 0 0) W → Calls Try.prog 56 #[.pointer (some ⟨p, 0, none⟩), .int .i64 5] W fun e W' => e = .returned (.int .i64 (Rd : Nat)) ∧ SF w p ad cap bs 10 K (G : Int) 0 0 (.slice none 0 0) W' := fun W h => by
    have := SF.num h 5 (by decide) (by decide) (by omega)
    rwa [hRd] at this
  have hir : ∀ w, Calls Try.prog 58 #[.int .i64 (Rd : Int)] w _ := isRound_any (Rd : Int)
  rw [decide_eq_false (by omega)] at hir
  have hr73 := refuse_yes 73
  obtain ⟨⟨c0, c1, c2, c3, c4, c5, c6, c7⟩, z0, z1, z2, z3, z4, z5, z6, z7⟩ := hS0.facts
  go_enter Try.func45, Try.ntmps45
  go_wp2_with (first | (go_at_call 56; (with_reducible refine (hm _ hS0).mono ?_); rintro e u1 ⟨rfl, hS1⟩; clear c0 c1 c2 c3 c4 c5 c6 c7 z0 z1 z2 z3 z4 z5 z6 z7; obtain ⟨⟨c0, c1, c2, c3, c4, c5, c6, c7⟩, z0, z1, z2, z3, z4, z5, z6, z7⟩ := hS1.facts) | (go_at_call 55; (with_reducible refine (hr70 _).mono ?_); rintro e ur ⟨rfl, hu⟩; rw [hu]; clear hu ur) | (go_at_call 56; (with_reducible refine (hk _ hS1).mono ?_); rintro e u2 ⟨rfl, hS2⟩; clear c0 c1 c2 c3 c4 c5 c6 c7 z0 z1 z2 z3 z4 z5 z6 z7; obtain ⟨⟨c0, c1, c2, c3, c4, c5, c6, c7⟩, z0, z1, z2, z3, z4, z5, z6, z7⟩ := hS2.facts; have hS3 := hS2.s0 K) | (go_at_call 55; (with_reducible refine (hr71 _).mono ?_); rintro e ur ⟨rfl, hu⟩; rw [hu]; clear hu ur) | (go_at_call 56; (with_reducible refine (hs _ hS3).mono ?_); rintro e u4 ⟨rfl, hS4⟩; clear c0 c1 c2 c3 c4 c5 c6 c7 z0 z1 z2 z3 z4 z5 z6 z7; obtain ⟨⟨c0, c1, c2, c3, c4, c5, c6, c7⟩, z0, z1, z2, z3, z4, z5, z6, z7⟩ := hS4.facts) | (go_at_call 55; (with_reducible refine (hr102 _).mono ?_); rintro e ur ⟨rfl, hu⟩; rw [hu]; clear hu ur) | (go_at_call 56; (with_reducible refine (hf _ hS4).mono ?_); rintro e u5 ⟨rfl, hS5⟩; clear c0 c1 c2 c3 c4 c5 c6 c7 z0 z1 z2 z3 z4 z5 z6 z7; obtain ⟨⟨c0, c1, c2, c3, c4, c5, c6, c7⟩, z0, z1, z2, z3, z4, z5, z6, z7⟩ := hS5.facts; have hS6 := hS5.s1 (G : Int)) | (go_at_call 55; (with_reducible refine (hr72 _).mono ?_); rintro e ur ⟨rfl, hu⟩; rw [hu]; clear hu ur) | (go_at_call 57; (with_reducible refine (hhr _).mono ?_); rintro e ur ⟨rfl, hu⟩; rw [hu]; clear hu ur) | (go_at_call 56; (with_reducible refine (hq _ hS6).mono ?_); rintro e u7 ⟨rfl, hS7⟩; clear c0 c1 c2 c3 c4 c5 c6 c7 z0 z1 z2 z3 z4 z5 z6 z7; obtain ⟨⟨c0, c1, c2, c3, c4, c5, c6, c7⟩, z0, z1, z2, z3, z4, z5, z6, z7⟩ := hS7.facts; have hS8 := hS7.s2 (Rd : Int)) | (go_at_call 58; (with_reducible refine (hir _).mono ?_); rintro e ur ⟨rfl, hu⟩; rw [hu]; clear hu ur) | (go_at_call 55; (with_reducible refine (hr73 _).mono ?_); rintro e ur ⟨rfl, hu⟩; rw [hu]; clear hu ur))
  exact ⟨rfl, fdo_err rfl hS8.kb⟩
set_option maxHeartbeats 4000000 in
set_option maxRecDepth 100000 in
theorem fd12x {w : World} {p : Nat} {ad : Option Addr} {cap : Nat} {bs : List Nat} (h : Rdr w p ad cap bs 0) (n : Nat) (h1 : 2 ≤ bs.length) (hM : nm bs 0 2 = 25971) (h2 : 3 ≤ bs.length) (K : Nat) (hK : nm bs 2 1 = K) (hk1 : 1 ≤ K) (hk3 : K ≤ 3) (hk4 : K ≠ 3) (h3 : 4 ≤ bs.length) (hSz : nm bs 3 1 = n) (h4 : 5 ≤ bs.length) (G : Nat) (hG : nm bs 4 1 = G) (hg1 : G < n) (h5 : 10 ≤ bs.length) (Rd : Nat) (hRd : nm bs 5 5 = Rd) (hrd : 1 ≤ Rd ∧ Rd ≤ 1099511627775) (hk5 : ¬ K = 2) (hn : n ≤ 100) (er : Int) (hW : rdW n bs (10) = .error er) : Calls Try.prog 45 #[.pointer (some ⟨p, 0, none⟩), .int .i64 (n : Int)] w (FdO p ad cap bs (.error er) w) := by
  have hS0 := sf_start h
  have hm : ∀ W, SF w p ad cap bs 0 0 0 0 0 (.slice none 0 0) W → Calls Try.prog 56 #[.pointer (some ⟨p, 0, none⟩), .int .i64 2] W fun e W' => e = .returned (.int .i64 (25971 : Nat)) ∧ SF w p ad cap bs 2 0 0 0 0 (.slice none 0 0) W' := fun W h => by
    have := SF.num h 2 (by decide) (by decide) (by omega)
    rwa [hM] at this
  have hr70 := refuse_no 70
  have hk : ∀ W, SF w p ad cap bs 2 0 0 0 0 (.slice none 0 0) W → Calls Try.prog 56 #[.pointer (some ⟨p, 0, none⟩), .int .i64 1] W fun e W' => e = .returned (.int .i64 (K : Nat)) ∧ SF w p ad cap bs 3 0 0 0 0 (.slice none 0 0) W' := fun W h => by
    have := SF.num h 1 (by decide) (by decide) (by omega)
    rwa [hK] at this
  have hr71 := refuse_no 71
  have q0 : decide ((K : Int) < 1) = false := decide_eq_false (by omega)
  have q1 : decide ((3 : Int) < (K : Int)) = false := decide_eq_false (by omega)
  have hs : ∀ W, SF w p ad cap bs 3 K 0 0 0 (.slice none 0 0) W → Calls Try.prog 56 #[.pointer (some ⟨p, 0, none⟩), .int .i64 1] W fun e W' => e = .returned (.int .i64 (n : Nat)) ∧ SF w p ad cap bs 4 K 0 0 0 (.slice none 0 0) W' := fun W h => by
    have := SF.num h 1 (by decide) (by decide) (by omega)
    rwa [hSz] at this
  have hr102 := refuse_no 102
  have hf : ∀ W, SF w p ad cap bs 4 K 0 0 0 (.slice none 0 0) W → Calls Try.prog 56 #[.pointer (some ⟨p, 0, none⟩), .int .i64 1] W fun e W' => e = .returned (.int .i64 (G : Nat)) ∧ SF w p ad cap bs 5 K 0 0 0 (.slice none 0 0) W' := fun W h => by
    have := SF.num h 1 (by decide) (by decide) (by omega)
    rwa [hG] at this
  have hr72 := refuse_no 72
  have q3 : decide (n ≤ G) = false := decide_eq_false (by omega)
  have hhr : ∀ w, Calls Try.prog 57 #[.int .i64 (K : Int)] w _ := hasRound_any K
  rw [decide_eq_true hk4] at hhr
  have hq : ∀ W, SF w p ad cap bs 5 K (G : Int) 0 0 (.slice none 0 0) W → Calls Try.prog 56 #[.pointer (some ⟨p, 0, none⟩), .int .i64 5] W fun e W' => e = .returned (.int .i64 (Rd : Nat)) ∧ SF w p ad cap bs 10 K (G : Int) 0 0 (.slice none 0 0) W' := fun W h => by
    have := SF.num h 5 (by decide) (by decide) (by omega)
    rwa [hRd] at this
  have hir : ∀ w, Calls Try.prog 58 #[.int .i64 (Rd : Int)] w _ := isRound_any (Rd : Int)
  rw [decide_eq_true (by omega)] at hir
  have hr73 := refuse_no 73
  have hhh : ∀ w, Calls Try.prog 59 #[.int .i64 (K : Int)] w _ := hasHeard_any K
  rw [decide_eq_false hk5] at hhh
  have hx : ∀ W, SF w p ad cap bs 10 K (G : Int) (Rd : Int) 0 (.slice none 0 0) W → Calls Try.prog 64 #[.pointer (some ⟨p, 0, none⟩), .int .i64 (n : Int)] W fun e W' => e = .panicked (rfu er) ∧ Kb p w W' := fun W h => SF.newsx h n hn er hW
  obtain ⟨⟨c0, c1, c2, c3, c4, c5, c6, c7⟩, z0, z1, z2, z3, z4, z5, z6, z7⟩ := hS0.facts
  go_enter Try.func45, Try.ntmps45
  go_wp2_with (first | (go_at_call 56; (with_reducible refine (hm _ hS0).mono ?_); rintro e u1 ⟨rfl, hS1⟩; clear c0 c1 c2 c3 c4 c5 c6 c7 z0 z1 z2 z3 z4 z5 z6 z7; obtain ⟨⟨c0, c1, c2, c3, c4, c5, c6, c7⟩, z0, z1, z2, z3, z4, z5, z6, z7⟩ := hS1.facts) | (go_at_call 55; (with_reducible refine (hr70 _).mono ?_); rintro e ur ⟨rfl, hu⟩; rw [hu]; clear hu ur) | (go_at_call 56; (with_reducible refine (hk _ hS1).mono ?_); rintro e u2 ⟨rfl, hS2⟩; clear c0 c1 c2 c3 c4 c5 c6 c7 z0 z1 z2 z3 z4 z5 z6 z7; obtain ⟨⟨c0, c1, c2, c3, c4, c5, c6, c7⟩, z0, z1, z2, z3, z4, z5, z6, z7⟩ := hS2.facts; have hS3 := hS2.s0 K) | (go_at_call 55; (with_reducible refine (hr71 _).mono ?_); rintro e ur ⟨rfl, hu⟩; rw [hu]; clear hu ur) | (go_at_call 56; (with_reducible refine (hs _ hS3).mono ?_); rintro e u4 ⟨rfl, hS4⟩; clear c0 c1 c2 c3 c4 c5 c6 c7 z0 z1 z2 z3 z4 z5 z6 z7; obtain ⟨⟨c0, c1, c2, c3, c4, c5, c6, c7⟩, z0, z1, z2, z3, z4, z5, z6, z7⟩ := hS4.facts) | (go_at_call 55; (with_reducible refine (hr102 _).mono ?_); rintro e ur ⟨rfl, hu⟩; rw [hu]; clear hu ur) | (go_at_call 56; (with_reducible refine (hf _ hS4).mono ?_); rintro e u5 ⟨rfl, hS5⟩; clear c0 c1 c2 c3 c4 c5 c6 c7 z0 z1 z2 z3 z4 z5 z6 z7; obtain ⟨⟨c0, c1, c2, c3, c4, c5, c6, c7⟩, z0, z1, z2, z3, z4, z5, z6, z7⟩ := hS5.facts; have hS6 := hS5.s1 (G : Int)) | (go_at_call 55; (with_reducible refine (hr72 _).mono ?_); rintro e ur ⟨rfl, hu⟩; rw [hu]; clear hu ur) | (go_at_call 57; (with_reducible refine (hhr _).mono ?_); rintro e ur ⟨rfl, hu⟩; rw [hu]; clear hu ur) | (go_at_call 56; (with_reducible refine (hq _ hS6).mono ?_); rintro e u7 ⟨rfl, hS7⟩; clear c0 c1 c2 c3 c4 c5 c6 c7 z0 z1 z2 z3 z4 z5 z6 z7; obtain ⟨⟨c0, c1, c2, c3, c4, c5, c6, c7⟩, z0, z1, z2, z3, z4, z5, z6, z7⟩ := hS7.facts; have hS8 := hS7.s2 (Rd : Int)) | (go_at_call 58; (with_reducible refine (hir _).mono ?_); rintro e ur ⟨rfl, hu⟩; rw [hu]; clear hu ur) | (go_at_call 55; (with_reducible refine (hr73 _).mono ?_); rintro e ur ⟨rfl, hu⟩; rw [hu]; clear hu ur) | (go_at_call 59; (with_reducible refine (hhh _).mono ?_); rintro e ur ⟨rfl, hu⟩; rw [hu]; clear hu ur) | (go_at_call 64; (with_reducible refine (hx _ hS8).mono ?_); rintro e ux ⟨rfl, hkx⟩))
  exact ⟨rfl, fdo_err rfl hkx⟩
set_option maxHeartbeats 4000000 in
set_option maxRecDepth 100000 in
theorem fd12o {w : World} {p : Nat} {ad : Option Addr} {cap : Nat} {bs : List Nat} (h : Rdr w p ad cap bs 0) (n : Nat) (h1 : 2 ≤ bs.length) (hM : nm bs 0 2 = 25971) (h2 : 3 ≤ bs.length) (K : Nat) (hK : nm bs 2 1 = K) (hk1 : 1 ≤ K) (hk3 : K ≤ 3) (hk4 : K ≠ 3) (h3 : 4 ≤ bs.length) (hSz : nm bs 3 1 = n) (h4 : 5 ≤ bs.length) (G : Nat) (hG : nm bs 4 1 = G) (hg1 : G < n) (h5 : 10 ≤ bs.length) (Rd : Nat) (hRd : nm bs 5 5 = Rd) (hrd : 1 ≤ Rd ∧ Rd ≤ 1099511627775) (hk5 : ¬ K = 2) (hn : n ≤ 100) (l : List (Int × Int × Int)) (j : Nat) (hW : rdW n bs (10) = .ok (l, j)) : Calls Try.prog 45 #[.pointer (some ⟨p, 0, none⟩), .int .i64 (n : Int)] w (FdO p ad cap bs (.ok ((K, G, Rd, 0, l), j)) w) := by
  have hS0 := sf_start h
  have hm : ∀ W, SF w p ad cap bs 0 0 0 0 0 (.slice none 0 0) W → Calls Try.prog 56 #[.pointer (some ⟨p, 0, none⟩), .int .i64 2] W fun e W' => e = .returned (.int .i64 (25971 : Nat)) ∧ SF w p ad cap bs 2 0 0 0 0 (.slice none 0 0) W' := fun W h => by
    have := SF.num h 2 (by decide) (by decide) (by omega)
    rwa [hM] at this
  have hr70 := refuse_no 70
  have hk : ∀ W, SF w p ad cap bs 2 0 0 0 0 (.slice none 0 0) W → Calls Try.prog 56 #[.pointer (some ⟨p, 0, none⟩), .int .i64 1] W fun e W' => e = .returned (.int .i64 (K : Nat)) ∧ SF w p ad cap bs 3 0 0 0 0 (.slice none 0 0) W' := fun W h => by
    have := SF.num h 1 (by decide) (by decide) (by omega)
    rwa [hK] at this
  have hr71 := refuse_no 71
  have q0 : decide ((K : Int) < 1) = false := decide_eq_false (by omega)
  have q1 : decide ((3 : Int) < (K : Int)) = false := decide_eq_false (by omega)
  have hs : ∀ W, SF w p ad cap bs 3 K 0 0 0 (.slice none 0 0) W → Calls Try.prog 56 #[.pointer (some ⟨p, 0, none⟩), .int .i64 1] W fun e W' => e = .returned (.int .i64 (n : Nat)) ∧ SF w p ad cap bs 4 K 0 0 0 (.slice none 0 0) W' := fun W h => by
    have := SF.num h 1 (by decide) (by decide) (by omega)
    rwa [hSz] at this
  have hr102 := refuse_no 102
  have hf : ∀ W, SF w p ad cap bs 4 K 0 0 0 (.slice none 0 0) W → Calls Try.prog 56 #[.pointer (some ⟨p, 0, none⟩), .int .i64 1] W fun e W' => e = .returned (.int .i64 (G : Nat)) ∧ SF w p ad cap bs 5 K 0 0 0 (.slice none 0 0) W' := fun W h => by
    have := SF.num h 1 (by decide) (by decide) (by omega)
    rwa [hG] at this
  have hr72 := refuse_no 72
  have q3 : decide (n ≤ G) = false := decide_eq_false (by omega)
  have hhr : ∀ w, Calls Try.prog 57 #[.int .i64 (K : Int)] w _ := hasRound_any K
  rw [decide_eq_true hk4] at hhr
  have hq : ∀ W, SF w p ad cap bs 5 K (G : Int) 0 0 (.slice none 0 0) W → Calls Try.prog 56 #[.pointer (some ⟨p, 0, none⟩), .int .i64 5] W fun e W' => e = .returned (.int .i64 (Rd : Nat)) ∧ SF w p ad cap bs 10 K (G : Int) 0 0 (.slice none 0 0) W' := fun W h => by
    have := SF.num h 5 (by decide) (by decide) (by omega)
    rwa [hRd] at this
  have hir : ∀ w, Calls Try.prog 58 #[.int .i64 (Rd : Int)] w _ := isRound_any (Rd : Int)
  rw [decide_eq_true (by omega)] at hir
  have hr73 := refuse_no 73
  have hhh : ∀ w, Calls Try.prog 59 #[.int .i64 (K : Int)] w _ := hasHeard_any K
  rw [decide_eq_false hk5] at hhh
  have ho : ∀ W, SF w p ad cap bs 10 K (G : Int) (Rd : Int) 0 (.slice none 0 0) W → Calls Try.prog 64 #[.pointer (some ⟨p, 0, none⟩), .int .i64 (n : Int)] W fun e W' => ∃ a2 c2, e = .returned (.slice a2 l.length c2) ∧ W'.ownsRow (w.heap.size + 2) 82 3 (.slice a2 l.length c2) l.length (fl l) ∧ SF w p ad cap bs j K (G : Int) (Rd : Int) 0 (.slice none 0 0) W' := fun W h => SF.newso h n hn l j hW
  obtain ⟨⟨c0, c1, c2, c3, c4, c5, c6, c7⟩, z0, z1, z2, z3, z4, z5, z6, z7⟩ := hS0.facts
  go_enter Try.func45, Try.ntmps45
  go_wp2_with (first | (go_at_call 56; (with_reducible refine (hm _ hS0).mono ?_); rintro e u1 ⟨rfl, hS1⟩; clear c0 c1 c2 c3 c4 c5 c6 c7 z0 z1 z2 z3 z4 z5 z6 z7; obtain ⟨⟨c0, c1, c2, c3, c4, c5, c6, c7⟩, z0, z1, z2, z3, z4, z5, z6, z7⟩ := hS1.facts) | (go_at_call 55; (with_reducible refine (hr70 _).mono ?_); rintro e ur ⟨rfl, hu⟩; rw [hu]; clear hu ur) | (go_at_call 56; (with_reducible refine (hk _ hS1).mono ?_); rintro e u2 ⟨rfl, hS2⟩; clear c0 c1 c2 c3 c4 c5 c6 c7 z0 z1 z2 z3 z4 z5 z6 z7; obtain ⟨⟨c0, c1, c2, c3, c4, c5, c6, c7⟩, z0, z1, z2, z3, z4, z5, z6, z7⟩ := hS2.facts; have hS3 := hS2.s0 K) | (go_at_call 55; (with_reducible refine (hr71 _).mono ?_); rintro e ur ⟨rfl, hu⟩; rw [hu]; clear hu ur) | (go_at_call 56; (with_reducible refine (hs _ hS3).mono ?_); rintro e u4 ⟨rfl, hS4⟩; clear c0 c1 c2 c3 c4 c5 c6 c7 z0 z1 z2 z3 z4 z5 z6 z7; obtain ⟨⟨c0, c1, c2, c3, c4, c5, c6, c7⟩, z0, z1, z2, z3, z4, z5, z6, z7⟩ := hS4.facts) | (go_at_call 55; (with_reducible refine (hr102 _).mono ?_); rintro e ur ⟨rfl, hu⟩; rw [hu]; clear hu ur) | (go_at_call 56; (with_reducible refine (hf _ hS4).mono ?_); rintro e u5 ⟨rfl, hS5⟩; clear c0 c1 c2 c3 c4 c5 c6 c7 z0 z1 z2 z3 z4 z5 z6 z7; obtain ⟨⟨c0, c1, c2, c3, c4, c5, c6, c7⟩, z0, z1, z2, z3, z4, z5, z6, z7⟩ := hS5.facts; have hS6 := hS5.s1 (G : Int)) | (go_at_call 55; (with_reducible refine (hr72 _).mono ?_); rintro e ur ⟨rfl, hu⟩; rw [hu]; clear hu ur) | (go_at_call 57; (with_reducible refine (hhr _).mono ?_); rintro e ur ⟨rfl, hu⟩; rw [hu]; clear hu ur) | (go_at_call 56; (with_reducible refine (hq _ hS6).mono ?_); rintro e u7 ⟨rfl, hS7⟩; clear c0 c1 c2 c3 c4 c5 c6 c7 z0 z1 z2 z3 z4 z5 z6 z7; obtain ⟨⟨c0, c1, c2, c3, c4, c5, c6, c7⟩, z0, z1, z2, z3, z4, z5, z6, z7⟩ := hS7.facts; have hS8 := hS7.s2 (Rd : Int)) | (go_at_call 58; (with_reducible refine (hir _).mono ?_); rintro e ur ⟨rfl, hu⟩; rw [hu]; clear hu ur) | (go_at_call 55; (with_reducible refine (hr73 _).mono ?_); rintro e ur ⟨rfl, hu⟩; rw [hu]; clear hu ur) | (go_at_call 59; (with_reducible refine (hhh _).mono ?_); rintro e ur ⟨rfl, hu⟩; rw [hu]; clear hu ur) | (go_at_call 64; (with_reducible refine (ho _ hS8).mono ?_); rintro e uz ⟨ax, cx, rfl, hox, hSz⟩; have hE := SF.end8 (fr := G) (rd := Rd) hSz hox; clear c0 c1 c2 c3 c4 c5 c6 c7 z0 z1 z2 z3 z4 z5 z6 z7; obtain ⟨⟨c0, c1, c2, c3, c4, c5, c6, c7⟩, z0, z1, z2, z3, z4, z5, z6, z7⟩ := hSz.facts; obtain ⟨d0, d1, d2, d3, d4, d5, d6, d7⟩ := hSz.f0.cells; have y0 := hSz.f0.thaw 0; have y1 := hSz.f0.thaw 1; have y2 := hSz.f0.thaw 2; have y3 := hSz.f0.thaw 3; have y4 := hSz.f0.thaw 4; have y5 := hSz.f0.thaw 5; have y6 := hSz.f0.thaw 6; have y7 := hSz.f0.thaw 7))
  exact retF rfl rfl rfl hE.1 hE.2
set_option maxHeartbeats 4000000 in
set_option maxRecDepth 100000 in
theorem fd13 {w : World} {p : Nat} {ad : Option Addr} {cap : Nat} {bs : List Nat} (h : Rdr w p ad cap bs 0) (n : Nat) (h1 : 2 ≤ bs.length) (hM : nm bs 0 2 = 25971) (h2 : 3 ≤ bs.length) (K : Nat) (hK : nm bs 2 1 = K) (hk4 : K ≠ 3) (h3 : 4 ≤ bs.length) (hSz : nm bs 3 1 = n) (h4 : 5 ≤ bs.length) (G : Nat) (hG : nm bs 4 1 = G) (hg1 : G < n) (h5 : 10 ≤ bs.length) (Rd : Nat) (hRd : nm bs 5 5 = Rd) (hrd : 1 ≤ Rd ∧ Rd ≤ 1099511627775) (hk5 : K = 2) (hn : n ≤ 100) (hn1 : 1 ≤ n) (h6 : bs.length < 10 + hsz n) : Calls Try.prog 45 #[.pointer (some ⟨p, 0, none⟩), .int .i64 (n : Int)] w (FdO p ad cap bs (.error 76) w) := by
  have hS0 := sf_start h
  have hm : ∀ W, SF w p ad cap bs 0 0 0 0 0 (.slice none 0 0) W → Calls Try.prog 56 #[.pointer (some ⟨p, 0, none⟩), .int .i64 2] W fun e W' => e = .returned (.int .i64 (25971 : Nat)) ∧ SF w p ad cap bs 2 0 0 0 0 (.slice none 0 0) W' := fun W h => by
    have := SF.num h 2 (by decide) (by decide) (by omega)
    rwa [hM] at this
  have hr70 := refuse_no 70
  have hk : ∀ W, SF w p ad cap bs 2 0 0 0 0 (.slice none 0 0) W → Calls Try.prog 56 #[.pointer (some ⟨p, 0, none⟩), .int .i64 1] W fun e W' => e = .returned (.int .i64 (K : Nat)) ∧ SF w p ad cap bs 3 0 0 0 0 (.slice none 0 0) W' := fun W h => by
    have := SF.num h 1 (by decide) (by decide) (by omega)
    rwa [hK] at this
  have hr71 := refuse_no 71
  have q0 : decide ((K : Int) < 1) = false := decide_eq_false (by omega)
  have q1 : decide ((3 : Int) < (K : Int)) = false := decide_eq_false (by omega)
  have hs : ∀ W, SF w p ad cap bs 3 K 0 0 0 (.slice none 0 0) W → Calls Try.prog 56 #[.pointer (some ⟨p, 0, none⟩), .int .i64 1] W fun e W' => e = .returned (.int .i64 (n : Nat)) ∧ SF w p ad cap bs 4 K 0 0 0 (.slice none 0 0) W' := fun W h => by
    have := SF.num h 1 (by decide) (by decide) (by omega)
    rwa [hSz] at this
  have hr102 := refuse_no 102
  have hf : ∀ W, SF w p ad cap bs 4 K 0 0 0 (.slice none 0 0) W → Calls Try.prog 56 #[.pointer (some ⟨p, 0, none⟩), .int .i64 1] W fun e W' => e = .returned (.int .i64 (G : Nat)) ∧ SF w p ad cap bs 5 K 0 0 0 (.slice none 0 0) W' := fun W h => by
    have := SF.num h 1 (by decide) (by decide) (by omega)
    rwa [hG] at this
  have hr72 := refuse_no 72
  have q3 : decide (n ≤ G) = false := decide_eq_false (by omega)
  have hhr : ∀ w, Calls Try.prog 57 #[.int .i64 (K : Int)] w _ := hasRound_any K
  rw [decide_eq_true hk4] at hhr
  have hq : ∀ W, SF w p ad cap bs 5 K (G : Int) 0 0 (.slice none 0 0) W → Calls Try.prog 56 #[.pointer (some ⟨p, 0, none⟩), .int .i64 5] W fun e W' => e = .returned (.int .i64 (Rd : Nat)) ∧ SF w p ad cap bs 10 K (G : Int) 0 0 (.slice none 0 0) W' := fun W h => by
    have := SF.num h 5 (by decide) (by decide) (by omega)
    rwa [hRd] at this
  have hir : ∀ w, Calls Try.prog 58 #[.int .i64 (Rd : Int)] w _ := isRound_any (Rd : Int)
  rw [decide_eq_true (by omega)] at hir
  have hr73 := refuse_no 73
  have hhh : ∀ w, Calls Try.prog 59 #[.int .i64 (K : Int)] w _ := hasHeard_any K
  rw [decide_eq_true hk5] at hhh
  clear hk5
  have hhs : ∀ w, Calls Try.prog 62 #[.int .i64 (n : Int)] w _ := heardSize_any n hn
  obtain ⟨Z, hZ⟩ : ∃ Z, hsz n = Z := ⟨_, rfl⟩
  have hZ0 : 0 < Z := by rw [← hZ]; unfold hsz; omega
  have hZ13 : Z ≤ 13 := by rw [← hZ]; exact hsz_le hn
  rw [hZ] at hhs
  have hx : ∀ W, SF w p ad cap bs 10 K (G : Int) (Rd : Int) 0 (.slice none 0 0) W → Calls Try.prog 61 #[.pointer (some ⟨p, 0, none⟩), .int .i64 (Z : Int)] W fun e W' => e = .panicked (rfu 76) ∧ Kb p w W' := fun W h => (take_no h.rr Z (by omega)).mono (by rintro e W' ⟨rfl, hb⟩; exact ⟨rfl, (h.below hb).kb⟩)
  clear hZ
  obtain ⟨⟨c0, c1, c2, c3, c4, c5, c6, c7⟩, z0, z1, z2, z3, z4, z5, z6, z7⟩ := hS0.facts
  go_enter Try.func45, Try.ntmps45
  go_wp2_with (first | (go_at_call 56; (with_reducible refine (hm _ hS0).mono ?_); rintro e u1 ⟨rfl, hS1⟩; clear c0 c1 c2 c3 c4 c5 c6 c7 z0 z1 z2 z3 z4 z5 z6 z7; obtain ⟨⟨c0, c1, c2, c3, c4, c5, c6, c7⟩, z0, z1, z2, z3, z4, z5, z6, z7⟩ := hS1.facts) | (go_at_call 55; (with_reducible refine (hr70 _).mono ?_); rintro e ur ⟨rfl, hu⟩; rw [hu]; clear hu ur) | (go_at_call 56; (with_reducible refine (hk _ hS1).mono ?_); rintro e u2 ⟨rfl, hS2⟩; clear c0 c1 c2 c3 c4 c5 c6 c7 z0 z1 z2 z3 z4 z5 z6 z7; obtain ⟨⟨c0, c1, c2, c3, c4, c5, c6, c7⟩, z0, z1, z2, z3, z4, z5, z6, z7⟩ := hS2.facts; have hS3 := hS2.s0 K) | (go_at_call 55; (with_reducible refine (hr71 _).mono ?_); rintro e ur ⟨rfl, hu⟩; rw [hu]; clear hu ur) | (go_at_call 56; (with_reducible refine (hs _ hS3).mono ?_); rintro e u4 ⟨rfl, hS4⟩; clear c0 c1 c2 c3 c4 c5 c6 c7 z0 z1 z2 z3 z4 z5 z6 z7; obtain ⟨⟨c0, c1, c2, c3, c4, c5, c6, c7⟩, z0, z1, z2, z3, z4, z5, z6, z7⟩ := hS4.facts) | (go_at_call 55; (with_reducible refine (hr102 _).mono ?_); rintro e ur ⟨rfl, hu⟩; rw [hu]; clear hu ur) | (go_at_call 56; (with_reducible refine (hf _ hS4).mono ?_); rintro e u5 ⟨rfl, hS5⟩; clear c0 c1 c2 c3 c4 c5 c6 c7 z0 z1 z2 z3 z4 z5 z6 z7; obtain ⟨⟨c0, c1, c2, c3, c4, c5, c6, c7⟩, z0, z1, z2, z3, z4, z5, z6, z7⟩ := hS5.facts; have hS6 := hS5.s1 (G : Int)) | (go_at_call 55; (with_reducible refine (hr72 _).mono ?_); rintro e ur ⟨rfl, hu⟩; rw [hu]; clear hu ur) | (go_at_call 57; (with_reducible refine (hhr _).mono ?_); rintro e ur ⟨rfl, hu⟩; rw [hu]; clear hu ur) | (go_at_call 56; (with_reducible refine (hq _ hS6).mono ?_); rintro e u7 ⟨rfl, hS7⟩; clear c0 c1 c2 c3 c4 c5 c6 c7 z0 z1 z2 z3 z4 z5 z6 z7; obtain ⟨⟨c0, c1, c2, c3, c4, c5, c6, c7⟩, z0, z1, z2, z3, z4, z5, z6, z7⟩ := hS7.facts; have hS8 := hS7.s2 (Rd : Int)) | (go_at_call 58; (with_reducible refine (hir _).mono ?_); rintro e ur ⟨rfl, hu⟩; rw [hu]; clear hu ur) | (go_at_call 55; (with_reducible refine (hr73 _).mono ?_); rintro e ur ⟨rfl, hu⟩; rw [hu]; clear hu ur) | (go_at_call 59; (with_reducible refine (hhh _).mono ?_); rintro e ur ⟨rfl, hu⟩; rw [hu]; clear hu ur) | (go_at_call 62; (with_reducible refine (hhs _).mono ?_); rintro e ur ⟨rfl, hu⟩; rw [hu]; clear hu ur) | (go_at_call 61; (with_reducible refine (hx _ hS8).mono ?_); rintro e ux ⟨rfl, hkx⟩))
  exact ⟨rfl, fdo_err rfl hkx⟩
set_option maxHeartbeats 4000000 in
set_option maxRecDepth 100000 in
theorem fd14 {w : World} {p : Nat} {ad : Option Addr} {cap : Nat} {bs : List Nat} (h : Rdr w p ad cap bs 0) (n : Nat) (h1 : 2 ≤ bs.length) (hM : nm bs 0 2 = 25971) (h2 : 3 ≤ bs.length) (K : Nat) (hK : nm bs 2 1 = K) (hk4 : K ≠ 3) (h3 : 4 ≤ bs.length) (hSz : nm bs 3 1 = n) (h4 : 5 ≤ bs.length) (G : Nat) (hG : nm bs 4 1 = G) (hg1 : G < n) (h5 : 10 ≤ bs.length) (Rd : Nat) (hRd : nm bs 5 5 = Rd) (hrd : 1 ≤ Rd ∧ Rd ≤ 1099511627775) (hk5 : K = 2) (hn : n ≤ 100) (hn1 : 1 ≤ n) (h6 : 10 + hsz n ≤ bs.length) (M : Nat) (hMs : vlS ((bs.drop 10).take (hsz n)) = M) (hw : wthB M n = false) : Calls Try.prog 45 #[.pointer (some ⟨p, 0, none⟩), .int .i64 (n : Int)] w (FdO p ad cap bs (.error 74) w) := by
  have hS0 := sf_start h
  have hm : ∀ W, SF w p ad cap bs 0 0 0 0 0 (.slice none 0 0) W → Calls Try.prog 56 #[.pointer (some ⟨p, 0, none⟩), .int .i64 2] W fun e W' => e = .returned (.int .i64 (25971 : Nat)) ∧ SF w p ad cap bs 2 0 0 0 0 (.slice none 0 0) W' := fun W h => by
    have := SF.num h 2 (by decide) (by decide) (by omega)
    rwa [hM] at this
  have hr70 := refuse_no 70
  have hk : ∀ W, SF w p ad cap bs 2 0 0 0 0 (.slice none 0 0) W → Calls Try.prog 56 #[.pointer (some ⟨p, 0, none⟩), .int .i64 1] W fun e W' => e = .returned (.int .i64 (K : Nat)) ∧ SF w p ad cap bs 3 0 0 0 0 (.slice none 0 0) W' := fun W h => by
    have := SF.num h 1 (by decide) (by decide) (by omega)
    rwa [hK] at this
  have hr71 := refuse_no 71
  have q0 : decide ((K : Int) < 1) = false := decide_eq_false (by omega)
  have q1 : decide ((3 : Int) < (K : Int)) = false := decide_eq_false (by omega)
  have hs : ∀ W, SF w p ad cap bs 3 K 0 0 0 (.slice none 0 0) W → Calls Try.prog 56 #[.pointer (some ⟨p, 0, none⟩), .int .i64 1] W fun e W' => e = .returned (.int .i64 (n : Nat)) ∧ SF w p ad cap bs 4 K 0 0 0 (.slice none 0 0) W' := fun W h => by
    have := SF.num h 1 (by decide) (by decide) (by omega)
    rwa [hSz] at this
  have hr102 := refuse_no 102
  have hf : ∀ W, SF w p ad cap bs 4 K 0 0 0 (.slice none 0 0) W → Calls Try.prog 56 #[.pointer (some ⟨p, 0, none⟩), .int .i64 1] W fun e W' => e = .returned (.int .i64 (G : Nat)) ∧ SF w p ad cap bs 5 K 0 0 0 (.slice none 0 0) W' := fun W h => by
    have := SF.num h 1 (by decide) (by decide) (by omega)
    rwa [hG] at this
  have hr72 := refuse_no 72
  have q3 : decide (n ≤ G) = false := decide_eq_false (by omega)
  have hhr : ∀ w, Calls Try.prog 57 #[.int .i64 (K : Int)] w _ := hasRound_any K
  rw [decide_eq_true hk4] at hhr
  have hq : ∀ W, SF w p ad cap bs 5 K (G : Int) 0 0 (.slice none 0 0) W → Calls Try.prog 56 #[.pointer (some ⟨p, 0, none⟩), .int .i64 5] W fun e W' => e = .returned (.int .i64 (Rd : Nat)) ∧ SF w p ad cap bs 10 K (G : Int) 0 0 (.slice none 0 0) W' := fun W h => by
    have := SF.num h 5 (by decide) (by decide) (by omega)
    rwa [hRd] at this
  have hir : ∀ w, Calls Try.prog 58 #[.int .i64 (Rd : Int)] w _ := isRound_any (Rd : Int)
  rw [decide_eq_true (by omega)] at hir
  have hr73 := refuse_no 73
  have hhh : ∀ w, Calls Try.prog 59 #[.int .i64 (K : Int)] w _ := hasHeard_any K
  rw [decide_eq_true hk5] at hhh
  clear hk5
  have hhs : ∀ w, Calls Try.prog 62 #[.int .i64 (n : Int)] w _ := heardSize_any n hn
  obtain ⟨Z, hZ⟩ : ∃ Z, hsz n = Z := ⟨_, rfl⟩
  have hZ0 : 0 < Z := by rw [← hZ]; unfold hsz; omega
  have hZ13 : Z ≤ 13 := by rw [← hZ]; exact hsz_le hn
  rw [hZ] at hhs
  have hto : ∀ W, SF w p ad cap bs 10 K (G : Int) (Rd : Int) 0 (.slice none 0 0) W → Calls Try.prog 61 #[.pointer (some ⟨p, 0, none⟩), .int .i64 (Z : Int)] W fun e W' => ∃ a c, e = .returned (.slice a Z c) ∧ RdB W' a ((bs.drop 10).take Z) ∧ SF w p ad cap bs (10 + Z) K (G : Int) (Rd : Int) 0 (.slice none 0 0) W' := fun W h => (take_ok h.rr Z hZ0 (by omega)).mono (by rintro e W' ⟨a, c, rfl, _, hr, h1, h2⟩; exact ⟨a, c, rfl, hr, h.kbs h1 h2⟩)
  have hso : ∀ a c W, RdB W a ((bs.drop 10).take Z) → Calls Try.prog 60 #[.slice a Z c] W fun e W' => e = .returned (.agg #[.int .u32 (wd M 0 : Nat), .int .u32 (wd M 1 : Nat), .int .u32 (wd M 2 : Nat), .int .u32 (wd M 3 : Nat)]) ∧ Below W.heap.size W W' := fun a c W hr => by
    have := setOf_any a c ((bs.drop 10).take Z) W hr ((h.byt.drop _).take _) (by rw [sub_len (by omega)]; omega)
    rw [sub_len (by omega), ← hZ, hMs] at this
    rw [← hZ]
    exact this
  have hM128 : M < S128 := by
    have := vlS_lt _ ((h.byt.drop 10).take (hsz n))
    rw [sub_len h6, hMs] at this
    exact Nat.lt_of_lt_of_le this (Nat.le_trans (Nat.pow_le_pow_right (n := 2) (by decide) (show 8 * hsz n ≤ 128 by omega)) (by decide))
  have hwi := within_any M hM128 (n : Int)
  simp only [sv] at hwi
  rw [hw] at hwi
  have hr74 := refuse_yes 74
  clear hZ
  obtain ⟨⟨c0, c1, c2, c3, c4, c5, c6, c7⟩, z0, z1, z2, z3, z4, z5, z6, z7⟩ := hS0.facts
  go_enter Try.func45, Try.ntmps45
  go_wp2_with (first | (go_at_call 56; (with_reducible refine (hm _ hS0).mono ?_); rintro e u1 ⟨rfl, hS1⟩; clear c0 c1 c2 c3 c4 c5 c6 c7 z0 z1 z2 z3 z4 z5 z6 z7; obtain ⟨⟨c0, c1, c2, c3, c4, c5, c6, c7⟩, z0, z1, z2, z3, z4, z5, z6, z7⟩ := hS1.facts) | (go_at_call 55; (with_reducible refine (hr70 _).mono ?_); rintro e ur ⟨rfl, hu⟩; rw [hu]; clear hu ur) | (go_at_call 56; (with_reducible refine (hk _ hS1).mono ?_); rintro e u2 ⟨rfl, hS2⟩; clear c0 c1 c2 c3 c4 c5 c6 c7 z0 z1 z2 z3 z4 z5 z6 z7; obtain ⟨⟨c0, c1, c2, c3, c4, c5, c6, c7⟩, z0, z1, z2, z3, z4, z5, z6, z7⟩ := hS2.facts; have hS3 := hS2.s0 K) | (go_at_call 55; (with_reducible refine (hr71 _).mono ?_); rintro e ur ⟨rfl, hu⟩; rw [hu]; clear hu ur) | (go_at_call 56; (with_reducible refine (hs _ hS3).mono ?_); rintro e u4 ⟨rfl, hS4⟩; clear c0 c1 c2 c3 c4 c5 c6 c7 z0 z1 z2 z3 z4 z5 z6 z7; obtain ⟨⟨c0, c1, c2, c3, c4, c5, c6, c7⟩, z0, z1, z2, z3, z4, z5, z6, z7⟩ := hS4.facts) | (go_at_call 55; (with_reducible refine (hr102 _).mono ?_); rintro e ur ⟨rfl, hu⟩; rw [hu]; clear hu ur) | (go_at_call 56; (with_reducible refine (hf _ hS4).mono ?_); rintro e u5 ⟨rfl, hS5⟩; clear c0 c1 c2 c3 c4 c5 c6 c7 z0 z1 z2 z3 z4 z5 z6 z7; obtain ⟨⟨c0, c1, c2, c3, c4, c5, c6, c7⟩, z0, z1, z2, z3, z4, z5, z6, z7⟩ := hS5.facts; have hS6 := hS5.s1 (G : Int)) | (go_at_call 55; (with_reducible refine (hr72 _).mono ?_); rintro e ur ⟨rfl, hu⟩; rw [hu]; clear hu ur) | (go_at_call 57; (with_reducible refine (hhr _).mono ?_); rintro e ur ⟨rfl, hu⟩; rw [hu]; clear hu ur) | (go_at_call 56; (with_reducible refine (hq _ hS6).mono ?_); rintro e u7 ⟨rfl, hS7⟩; clear c0 c1 c2 c3 c4 c5 c6 c7 z0 z1 z2 z3 z4 z5 z6 z7; obtain ⟨⟨c0, c1, c2, c3, c4, c5, c6, c7⟩, z0, z1, z2, z3, z4, z5, z6, z7⟩ := hS7.facts; have hS8 := hS7.s2 (Rd : Int)) | (go_at_call 58; (with_reducible refine (hir _).mono ?_); rintro e ur ⟨rfl, hu⟩; rw [hu]; clear hu ur) | (go_at_call 55; (with_reducible refine (hr73 _).mono ?_); rintro e ur ⟨rfl, hu⟩; rw [hu]; clear hu ur) | (go_at_call 59; (with_reducible refine (hhh _).mono ?_); rintro e ur ⟨rfl, hu⟩; rw [hu]; clear hu ur) | (go_at_call 62; (with_reducible refine (hhs _).mono ?_); rintro e ur ⟨rfl, hu⟩; rw [hu]; clear hu ur) | (go_at_call 61; (with_reducible refine (hto _ hS8).mono ?_); rintro e u9 ⟨a9, e9, rfl, hr9, hS9⟩) | (go_at_call 60; (with_reducible refine (hso _ _ _ hr9).mono ?_); rintro e u10 ⟨rfl, hb10⟩; have hS10 := hS9.below hb10; clear c0 c1 c2 c3 c4 c5 c6 c7 z0 z1 z2 z3 z4 z5 z6 z7; obtain ⟨⟨c0, c1, c2, c3, c4, c5, c6, c7⟩, z0, z1, z2, z3, z4, z5, z6, z7⟩ := hS10.facts; have hS11 := hS10.s3 M; unfold W4 at hS11) | (go_at_call 63; (with_reducible refine (hwi _).mono ?_); rintro e u12 ⟨rfl, hb12⟩; have hS12 := hS11.below hb12; clear c0 c1 c2 c3 c4 c5 c6 c7 z0 z1 z2 z3 z4 z5 z6 z7; obtain ⟨⟨c0, c1, c2, c3, c4, c5, c6, c7⟩, z0, z1, z2, z3, z4, z5, z6, z7⟩ := hS12.facts) | (go_at_call 55; (with_reducible refine (hr74 _).mono ?_); rintro e ur ⟨rfl, hu⟩; rw [hu]; clear hu ur))
  exact ⟨rfl, fdo_err rfl hS12.kb⟩
set_option maxHeartbeats 4000000 in
set_option maxRecDepth 100000 in
theorem fd15x {w : World} {p : Nat} {ad : Option Addr} {cap : Nat} {bs : List Nat} (h : Rdr w p ad cap bs 0) (n : Nat) (h1 : 2 ≤ bs.length) (hM : nm bs 0 2 = 25971) (h2 : 3 ≤ bs.length) (K : Nat) (hK : nm bs 2 1 = K) (hk4 : K ≠ 3) (h3 : 4 ≤ bs.length) (hSz : nm bs 3 1 = n) (h4 : 5 ≤ bs.length) (G : Nat) (hG : nm bs 4 1 = G) (hg1 : G < n) (h5 : 10 ≤ bs.length) (Rd : Nat) (hRd : nm bs 5 5 = Rd) (hrd : 1 ≤ Rd ∧ Rd ≤ 1099511627775) (hk5 : K = 2) (hn1 : 1 ≤ n) (h6 : 10 + hsz n ≤ bs.length) (M : Nat) (hMs : vlS ((bs.drop 10).take (hsz n)) = M) (hw : wthB M n = true) (hn : n ≤ 100) (er : Int) (hW : rdW n bs (10 + hsz n) = .error er) : Calls Try.prog 45 #[.pointer (some ⟨p, 0, none⟩), .int .i64 (n : Int)] w (FdO p ad cap bs (.error er) w) := by
  have hS0 := sf_start h
  have hm : ∀ W, SF w p ad cap bs 0 0 0 0 0 (.slice none 0 0) W → Calls Try.prog 56 #[.pointer (some ⟨p, 0, none⟩), .int .i64 2] W fun e W' => e = .returned (.int .i64 (25971 : Nat)) ∧ SF w p ad cap bs 2 0 0 0 0 (.slice none 0 0) W' := fun W h => by
    have := SF.num h 2 (by decide) (by decide) (by omega)
    rwa [hM] at this
  have hr70 := refuse_no 70
  have hk : ∀ W, SF w p ad cap bs 2 0 0 0 0 (.slice none 0 0) W → Calls Try.prog 56 #[.pointer (some ⟨p, 0, none⟩), .int .i64 1] W fun e W' => e = .returned (.int .i64 (K : Nat)) ∧ SF w p ad cap bs 3 0 0 0 0 (.slice none 0 0) W' := fun W h => by
    have := SF.num h 1 (by decide) (by decide) (by omega)
    rwa [hK] at this
  have hr71 := refuse_no 71
  have q0 : decide ((K : Int) < 1) = false := decide_eq_false (by omega)
  have q1 : decide ((3 : Int) < (K : Int)) = false := decide_eq_false (by omega)
  have hs : ∀ W, SF w p ad cap bs 3 K 0 0 0 (.slice none 0 0) W → Calls Try.prog 56 #[.pointer (some ⟨p, 0, none⟩), .int .i64 1] W fun e W' => e = .returned (.int .i64 (n : Nat)) ∧ SF w p ad cap bs 4 K 0 0 0 (.slice none 0 0) W' := fun W h => by
    have := SF.num h 1 (by decide) (by decide) (by omega)
    rwa [hSz] at this
  have hr102 := refuse_no 102
  have hf : ∀ W, SF w p ad cap bs 4 K 0 0 0 (.slice none 0 0) W → Calls Try.prog 56 #[.pointer (some ⟨p, 0, none⟩), .int .i64 1] W fun e W' => e = .returned (.int .i64 (G : Nat)) ∧ SF w p ad cap bs 5 K 0 0 0 (.slice none 0 0) W' := fun W h => by
    have := SF.num h 1 (by decide) (by decide) (by omega)
    rwa [hG] at this
  have hr72 := refuse_no 72
  have q3 : decide (n ≤ G) = false := decide_eq_false (by omega)
  have hhr : ∀ w, Calls Try.prog 57 #[.int .i64 (K : Int)] w _ := hasRound_any K
  rw [decide_eq_true hk4] at hhr
  have hq : ∀ W, SF w p ad cap bs 5 K (G : Int) 0 0 (.slice none 0 0) W → Calls Try.prog 56 #[.pointer (some ⟨p, 0, none⟩), .int .i64 5] W fun e W' => e = .returned (.int .i64 (Rd : Nat)) ∧ SF w p ad cap bs 10 K (G : Int) 0 0 (.slice none 0 0) W' := fun W h => by
    have := SF.num h 5 (by decide) (by decide) (by omega)
    rwa [hRd] at this
  have hir : ∀ w, Calls Try.prog 58 #[.int .i64 (Rd : Int)] w _ := isRound_any (Rd : Int)
  rw [decide_eq_true (by omega)] at hir
  have hr73 := refuse_no 73
  have hhh : ∀ w, Calls Try.prog 59 #[.int .i64 (K : Int)] w _ := hasHeard_any K
  rw [decide_eq_true hk5] at hhh
  clear hk5
  have hhs : ∀ w, Calls Try.prog 62 #[.int .i64 (n : Int)] w _ := heardSize_any n hn
  obtain ⟨Z, hZ⟩ : ∃ Z, hsz n = Z := ⟨_, rfl⟩
  have hZ0 : 0 < Z := by rw [← hZ]; unfold hsz; omega
  have hZ13 : Z ≤ 13 := by rw [← hZ]; exact hsz_le hn
  rw [hZ] at hhs
  have hto : ∀ W, SF w p ad cap bs 10 K (G : Int) (Rd : Int) 0 (.slice none 0 0) W → Calls Try.prog 61 #[.pointer (some ⟨p, 0, none⟩), .int .i64 (Z : Int)] W fun e W' => ∃ a c, e = .returned (.slice a Z c) ∧ RdB W' a ((bs.drop 10).take Z) ∧ SF w p ad cap bs (10 + Z) K (G : Int) (Rd : Int) 0 (.slice none 0 0) W' := fun W h => (take_ok h.rr Z hZ0 (by omega)).mono (by rintro e W' ⟨a, c, rfl, _, hr, h1, h2⟩; exact ⟨a, c, rfl, hr, h.kbs h1 h2⟩)
  have hso : ∀ a c W, RdB W a ((bs.drop 10).take Z) → Calls Try.prog 60 #[.slice a Z c] W fun e W' => e = .returned (.agg #[.int .u32 (wd M 0 : Nat), .int .u32 (wd M 1 : Nat), .int .u32 (wd M 2 : Nat), .int .u32 (wd M 3 : Nat)]) ∧ Below W.heap.size W W' := fun a c W hr => by
    have := setOf_any a c ((bs.drop 10).take Z) W hr ((h.byt.drop _).take _) (by rw [sub_len (by omega)]; omega)
    rw [sub_len (by omega), ← hZ, hMs] at this
    rw [← hZ]
    exact this
  have hM128 : M < S128 := by
    have := vlS_lt _ ((h.byt.drop 10).take (hsz n))
    rw [sub_len h6, hMs] at this
    exact Nat.lt_of_lt_of_le this (Nat.le_trans (Nat.pow_le_pow_right (n := 2) (by decide) (show 8 * hsz n ≤ 128 by omega)) (by decide))
  have hwi := within_any M hM128 (n : Int)
  simp only [sv] at hwi
  rw [hw] at hwi
  have hr74 := refuse_no 74
  rw [hZ] at hW
  clear hZ
  have hx : ∀ W, SF w p ad cap bs (10 + Z) K (G : Int) (Rd : Int) M (.slice none 0 0) W → Calls Try.prog 64 #[.pointer (some ⟨p, 0, none⟩), .int .i64 (n : Int)] W fun e W' => e = .panicked (rfu er) ∧ Kb p w W' := fun W h => SF.newsx h n hn er hW
  obtain ⟨⟨c0, c1, c2, c3, c4, c5, c6, c7⟩, z0, z1, z2, z3, z4, z5, z6, z7⟩ := hS0.facts
  go_enter Try.func45, Try.ntmps45
  go_wp2_with (first | (go_at_call 56; (with_reducible refine (hm _ hS0).mono ?_); rintro e u1 ⟨rfl, hS1⟩; clear c0 c1 c2 c3 c4 c5 c6 c7 z0 z1 z2 z3 z4 z5 z6 z7; obtain ⟨⟨c0, c1, c2, c3, c4, c5, c6, c7⟩, z0, z1, z2, z3, z4, z5, z6, z7⟩ := hS1.facts) | (go_at_call 55; (with_reducible refine (hr70 _).mono ?_); rintro e ur ⟨rfl, hu⟩; rw [hu]; clear hu ur) | (go_at_call 56; (with_reducible refine (hk _ hS1).mono ?_); rintro e u2 ⟨rfl, hS2⟩; clear c0 c1 c2 c3 c4 c5 c6 c7 z0 z1 z2 z3 z4 z5 z6 z7; obtain ⟨⟨c0, c1, c2, c3, c4, c5, c6, c7⟩, z0, z1, z2, z3, z4, z5, z6, z7⟩ := hS2.facts; have hS3 := hS2.s0 K) | (go_at_call 55; (with_reducible refine (hr71 _).mono ?_); rintro e ur ⟨rfl, hu⟩; rw [hu]; clear hu ur) | (go_at_call 56; (with_reducible refine (hs _ hS3).mono ?_); rintro e u4 ⟨rfl, hS4⟩; clear c0 c1 c2 c3 c4 c5 c6 c7 z0 z1 z2 z3 z4 z5 z6 z7; obtain ⟨⟨c0, c1, c2, c3, c4, c5, c6, c7⟩, z0, z1, z2, z3, z4, z5, z6, z7⟩ := hS4.facts) | (go_at_call 55; (with_reducible refine (hr102 _).mono ?_); rintro e ur ⟨rfl, hu⟩; rw [hu]; clear hu ur) | (go_at_call 56; (with_reducible refine (hf _ hS4).mono ?_); rintro e u5 ⟨rfl, hS5⟩; clear c0 c1 c2 c3 c4 c5 c6 c7 z0 z1 z2 z3 z4 z5 z6 z7; obtain ⟨⟨c0, c1, c2, c3, c4, c5, c6, c7⟩, z0, z1, z2, z3, z4, z5, z6, z7⟩ := hS5.facts; have hS6 := hS5.s1 (G : Int)) | (go_at_call 55; (with_reducible refine (hr72 _).mono ?_); rintro e ur ⟨rfl, hu⟩; rw [hu]; clear hu ur) | (go_at_call 57; (with_reducible refine (hhr _).mono ?_); rintro e ur ⟨rfl, hu⟩; rw [hu]; clear hu ur) | (go_at_call 56; (with_reducible refine (hq _ hS6).mono ?_); rintro e u7 ⟨rfl, hS7⟩; clear c0 c1 c2 c3 c4 c5 c6 c7 z0 z1 z2 z3 z4 z5 z6 z7; obtain ⟨⟨c0, c1, c2, c3, c4, c5, c6, c7⟩, z0, z1, z2, z3, z4, z5, z6, z7⟩ := hS7.facts; have hS8 := hS7.s2 (Rd : Int)) | (go_at_call 58; (with_reducible refine (hir _).mono ?_); rintro e ur ⟨rfl, hu⟩; rw [hu]; clear hu ur) | (go_at_call 55; (with_reducible refine (hr73 _).mono ?_); rintro e ur ⟨rfl, hu⟩; rw [hu]; clear hu ur) | (go_at_call 59; (with_reducible refine (hhh _).mono ?_); rintro e ur ⟨rfl, hu⟩; rw [hu]; clear hu ur) | (go_at_call 62; (with_reducible refine (hhs _).mono ?_); rintro e ur ⟨rfl, hu⟩; rw [hu]; clear hu ur) | (go_at_call 61; (with_reducible refine (hto _ hS8).mono ?_); rintro e u9 ⟨a9, e9, rfl, hr9, hS9⟩) | (go_at_call 60; (with_reducible refine (hso _ _ _ hr9).mono ?_); rintro e u10 ⟨rfl, hb10⟩; have hS10 := hS9.below hb10; clear c0 c1 c2 c3 c4 c5 c6 c7 z0 z1 z2 z3 z4 z5 z6 z7; obtain ⟨⟨c0, c1, c2, c3, c4, c5, c6, c7⟩, z0, z1, z2, z3, z4, z5, z6, z7⟩ := hS10.facts; have hS11 := hS10.s3 M; unfold W4 at hS11) | (go_at_call 63; (with_reducible refine (hwi _).mono ?_); rintro e u12 ⟨rfl, hb12⟩; have hS12 := hS11.below hb12; clear c0 c1 c2 c3 c4 c5 c6 c7 z0 z1 z2 z3 z4 z5 z6 z7; obtain ⟨⟨c0, c1, c2, c3, c4, c5, c6, c7⟩, z0, z1, z2, z3, z4, z5, z6, z7⟩ := hS12.facts) | (go_at_call 55; (with_reducible refine (hr74 _).mono ?_); rintro e ur ⟨rfl, hu⟩; rw [hu]; clear hu ur) | (go_at_call 64; (with_reducible refine (hx _ hS12).mono ?_); rintro e ux ⟨rfl, hkx⟩))
  exact ⟨rfl, fdo_err rfl hkx⟩
set_option maxHeartbeats 4000000 in
set_option maxRecDepth 100000 in
theorem fd15o {w : World} {p : Nat} {ad : Option Addr} {cap : Nat} {bs : List Nat} (h : Rdr w p ad cap bs 0) (n : Nat) (h1 : 2 ≤ bs.length) (hM : nm bs 0 2 = 25971) (h2 : 3 ≤ bs.length) (K : Nat) (hK : nm bs 2 1 = K) (hk4 : K ≠ 3) (h3 : 4 ≤ bs.length) (hSz : nm bs 3 1 = n) (h4 : 5 ≤ bs.length) (G : Nat) (hG : nm bs 4 1 = G) (hg1 : G < n) (h5 : 10 ≤ bs.length) (Rd : Nat) (hRd : nm bs 5 5 = Rd) (hrd : 1 ≤ Rd ∧ Rd ≤ 1099511627775) (hk5 : K = 2) (hn1 : 1 ≤ n) (h6 : 10 + hsz n ≤ bs.length) (M : Nat) (hMs : vlS ((bs.drop 10).take (hsz n)) = M) (hw : wthB M n = true) (hn : n ≤ 100) (l : List (Int × Int × Int)) (j : Nat) (hW : rdW n bs (10 + hsz n) = .ok (l, j)) : Calls Try.prog 45 #[.pointer (some ⟨p, 0, none⟩), .int .i64 (n : Int)] w (FdO p ad cap bs (.ok ((K, G, Rd, M, l), j)) w) := by
  have hS0 := sf_start h
  have hm : ∀ W, SF w p ad cap bs 0 0 0 0 0 (.slice none 0 0) W → Calls Try.prog 56 #[.pointer (some ⟨p, 0, none⟩), .int .i64 2] W fun e W' => e = .returned (.int .i64 (25971 : Nat)) ∧ SF w p ad cap bs 2 0 0 0 0 (.slice none 0 0) W' := fun W h => by
    have := SF.num h 2 (by decide) (by decide) (by omega)
    rwa [hM] at this
  have hr70 := refuse_no 70
  have hk : ∀ W, SF w p ad cap bs 2 0 0 0 0 (.slice none 0 0) W → Calls Try.prog 56 #[.pointer (some ⟨p, 0, none⟩), .int .i64 1] W fun e W' => e = .returned (.int .i64 (K : Nat)) ∧ SF w p ad cap bs 3 0 0 0 0 (.slice none 0 0) W' := fun W h => by
    have := SF.num h 1 (by decide) (by decide) (by omega)
    rwa [hK] at this
  have hr71 := refuse_no 71
  have q0 : decide ((K : Int) < 1) = false := decide_eq_false (by omega)
  have q1 : decide ((3 : Int) < (K : Int)) = false := decide_eq_false (by omega)
  have hs : ∀ W, SF w p ad cap bs 3 K 0 0 0 (.slice none 0 0) W → Calls Try.prog 56 #[.pointer (some ⟨p, 0, none⟩), .int .i64 1] W fun e W' => e = .returned (.int .i64 (n : Nat)) ∧ SF w p ad cap bs 4 K 0 0 0 (.slice none 0 0) W' := fun W h => by
    have := SF.num h 1 (by decide) (by decide) (by omega)
    rwa [hSz] at this
  have hr102 := refuse_no 102
  have hf : ∀ W, SF w p ad cap bs 4 K 0 0 0 (.slice none 0 0) W → Calls Try.prog 56 #[.pointer (some ⟨p, 0, none⟩), .int .i64 1] W fun e W' => e = .returned (.int .i64 (G : Nat)) ∧ SF w p ad cap bs 5 K 0 0 0 (.slice none 0 0) W' := fun W h => by
    have := SF.num h 1 (by decide) (by decide) (by omega)
    rwa [hG] at this
  have hr72 := refuse_no 72
  have q3 : decide (n ≤ G) = false := decide_eq_false (by omega)
  have hhr : ∀ w, Calls Try.prog 57 #[.int .i64 (K : Int)] w _ := hasRound_any K
  rw [decide_eq_true hk4] at hhr
  have hq : ∀ W, SF w p ad cap bs 5 K (G : Int) 0 0 (.slice none 0 0) W → Calls Try.prog 56 #[.pointer (some ⟨p, 0, none⟩), .int .i64 5] W fun e W' => e = .returned (.int .i64 (Rd : Nat)) ∧ SF w p ad cap bs 10 K (G : Int) 0 0 (.slice none 0 0) W' := fun W h => by
    have := SF.num h 5 (by decide) (by decide) (by omega)
    rwa [hRd] at this
  have hir : ∀ w, Calls Try.prog 58 #[.int .i64 (Rd : Int)] w _ := isRound_any (Rd : Int)
  rw [decide_eq_true (by omega)] at hir
  have hr73 := refuse_no 73
  have hhh : ∀ w, Calls Try.prog 59 #[.int .i64 (K : Int)] w _ := hasHeard_any K
  rw [decide_eq_true hk5] at hhh
  clear hk5
  have hhs : ∀ w, Calls Try.prog 62 #[.int .i64 (n : Int)] w _ := heardSize_any n hn
  obtain ⟨Z, hZ⟩ : ∃ Z, hsz n = Z := ⟨_, rfl⟩
  have hZ0 : 0 < Z := by rw [← hZ]; unfold hsz; omega
  have hZ13 : Z ≤ 13 := by rw [← hZ]; exact hsz_le hn
  rw [hZ] at hhs
  have hto : ∀ W, SF w p ad cap bs 10 K (G : Int) (Rd : Int) 0 (.slice none 0 0) W → Calls Try.prog 61 #[.pointer (some ⟨p, 0, none⟩), .int .i64 (Z : Int)] W fun e W' => ∃ a c, e = .returned (.slice a Z c) ∧ RdB W' a ((bs.drop 10).take Z) ∧ SF w p ad cap bs (10 + Z) K (G : Int) (Rd : Int) 0 (.slice none 0 0) W' := fun W h => (take_ok h.rr Z hZ0 (by omega)).mono (by rintro e W' ⟨a, c, rfl, _, hr, h1, h2⟩; exact ⟨a, c, rfl, hr, h.kbs h1 h2⟩)
  have hso : ∀ a c W, RdB W a ((bs.drop 10).take Z) → Calls Try.prog 60 #[.slice a Z c] W fun e W' => e = .returned (.agg #[.int .u32 (wd M 0 : Nat), .int .u32 (wd M 1 : Nat), .int .u32 (wd M 2 : Nat), .int .u32 (wd M 3 : Nat)]) ∧ Below W.heap.size W W' := fun a c W hr => by
    have := setOf_any a c ((bs.drop 10).take Z) W hr ((h.byt.drop _).take _) (by rw [sub_len (by omega)]; omega)
    rw [sub_len (by omega), ← hZ, hMs] at this
    rw [← hZ]
    exact this
  have hM128 : M < S128 := by
    have := vlS_lt _ ((h.byt.drop 10).take (hsz n))
    rw [sub_len h6, hMs] at this
    exact Nat.lt_of_lt_of_le this (Nat.le_trans (Nat.pow_le_pow_right (n := 2) (by decide) (show 8 * hsz n ≤ 128 by omega)) (by decide))
  have hwi := within_any M hM128 (n : Int)
  simp only [sv] at hwi
  rw [hw] at hwi
  have hr74 := refuse_no 74
  rw [hZ] at hW
  clear hZ
  have ho : ∀ W, SF w p ad cap bs (10 + Z) K (G : Int) (Rd : Int) M (.slice none 0 0) W → Calls Try.prog 64 #[.pointer (some ⟨p, 0, none⟩), .int .i64 (n : Int)] W fun e W' => ∃ a2 c2, e = .returned (.slice a2 l.length c2) ∧ W'.ownsRow (w.heap.size + 2) 82 3 (.slice a2 l.length c2) l.length (fl l) ∧ SF w p ad cap bs j K (G : Int) (Rd : Int) M (.slice none 0 0) W' := fun W h => SF.newso h n hn l j hW
  obtain ⟨⟨c0, c1, c2, c3, c4, c5, c6, c7⟩, z0, z1, z2, z3, z4, z5, z6, z7⟩ := hS0.facts
  go_enter Try.func45, Try.ntmps45
  go_wp2_with (first | (go_at_call 56; (with_reducible refine (hm _ hS0).mono ?_); rintro e u1 ⟨rfl, hS1⟩; clear c0 c1 c2 c3 c4 c5 c6 c7 z0 z1 z2 z3 z4 z5 z6 z7; obtain ⟨⟨c0, c1, c2, c3, c4, c5, c6, c7⟩, z0, z1, z2, z3, z4, z5, z6, z7⟩ := hS1.facts) | (go_at_call 55; (with_reducible refine (hr70 _).mono ?_); rintro e ur ⟨rfl, hu⟩; rw [hu]; clear hu ur) | (go_at_call 56; (with_reducible refine (hk _ hS1).mono ?_); rintro e u2 ⟨rfl, hS2⟩; clear c0 c1 c2 c3 c4 c5 c6 c7 z0 z1 z2 z3 z4 z5 z6 z7; obtain ⟨⟨c0, c1, c2, c3, c4, c5, c6, c7⟩, z0, z1, z2, z3, z4, z5, z6, z7⟩ := hS2.facts; have hS3 := hS2.s0 K) | (go_at_call 55; (with_reducible refine (hr71 _).mono ?_); rintro e ur ⟨rfl, hu⟩; rw [hu]; clear hu ur) | (go_at_call 56; (with_reducible refine (hs _ hS3).mono ?_); rintro e u4 ⟨rfl, hS4⟩; clear c0 c1 c2 c3 c4 c5 c6 c7 z0 z1 z2 z3 z4 z5 z6 z7; obtain ⟨⟨c0, c1, c2, c3, c4, c5, c6, c7⟩, z0, z1, z2, z3, z4, z5, z6, z7⟩ := hS4.facts) | (go_at_call 55; (with_reducible refine (hr102 _).mono ?_); rintro e ur ⟨rfl, hu⟩; rw [hu]; clear hu ur) | (go_at_call 56; (with_reducible refine (hf _ hS4).mono ?_); rintro e u5 ⟨rfl, hS5⟩; clear c0 c1 c2 c3 c4 c5 c6 c7 z0 z1 z2 z3 z4 z5 z6 z7; obtain ⟨⟨c0, c1, c2, c3, c4, c5, c6, c7⟩, z0, z1, z2, z3, z4, z5, z6, z7⟩ := hS5.facts; have hS6 := hS5.s1 (G : Int)) | (go_at_call 55; (with_reducible refine (hr72 _).mono ?_); rintro e ur ⟨rfl, hu⟩; rw [hu]; clear hu ur) | (go_at_call 57; (with_reducible refine (hhr _).mono ?_); rintro e ur ⟨rfl, hu⟩; rw [hu]; clear hu ur) | (go_at_call 56; (with_reducible refine (hq _ hS6).mono ?_); rintro e u7 ⟨rfl, hS7⟩; clear c0 c1 c2 c3 c4 c5 c6 c7 z0 z1 z2 z3 z4 z5 z6 z7; obtain ⟨⟨c0, c1, c2, c3, c4, c5, c6, c7⟩, z0, z1, z2, z3, z4, z5, z6, z7⟩ := hS7.facts; have hS8 := hS7.s2 (Rd : Int)) | (go_at_call 58; (with_reducible refine (hir _).mono ?_); rintro e ur ⟨rfl, hu⟩; rw [hu]; clear hu ur) | (go_at_call 55; (with_reducible refine (hr73 _).mono ?_); rintro e ur ⟨rfl, hu⟩; rw [hu]; clear hu ur) | (go_at_call 59; (with_reducible refine (hhh _).mono ?_); rintro e ur ⟨rfl, hu⟩; rw [hu]; clear hu ur) | (go_at_call 62; (with_reducible refine (hhs _).mono ?_); rintro e ur ⟨rfl, hu⟩; rw [hu]; clear hu ur) | (go_at_call 61; (with_reducible refine (hto _ hS8).mono ?_); rintro e u9 ⟨a9, e9, rfl, hr9, hS9⟩) | (go_at_call 60; (with_reducible refine (hso _ _ _ hr9).mono ?_); rintro e u10 ⟨rfl, hb10⟩; have hS10 := hS9.below hb10; clear c0 c1 c2 c3 c4 c5 c6 c7 z0 z1 z2 z3 z4 z5 z6 z7; obtain ⟨⟨c0, c1, c2, c3, c4, c5, c6, c7⟩, z0, z1, z2, z3, z4, z5, z6, z7⟩ := hS10.facts; have hS11 := hS10.s3 M; unfold W4 at hS11) | (go_at_call 63; (with_reducible refine (hwi _).mono ?_); rintro e u12 ⟨rfl, hb12⟩; have hS12 := hS11.below hb12; clear c0 c1 c2 c3 c4 c5 c6 c7 z0 z1 z2 z3 z4 z5 z6 z7; obtain ⟨⟨c0, c1, c2, c3, c4, c5, c6, c7⟩, z0, z1, z2, z3, z4, z5, z6, z7⟩ := hS12.facts) | (go_at_call 55; (with_reducible refine (hr74 _).mono ?_); rintro e ur ⟨rfl, hu⟩; rw [hu]; clear hu ur) | (go_at_call 64; (with_reducible refine (ho _ hS12).mono ?_); rintro e uz ⟨ax, cx, rfl, hox, hSz⟩; have hE := SF.end8 (fr := G) (rd := Rd) hSz hox; clear c0 c1 c2 c3 c4 c5 c6 c7 z0 z1 z2 z3 z4 z5 z6 z7; obtain ⟨⟨c0, c1, c2, c3, c4, c5, c6, c7⟩, z0, z1, z2, z3, z4, z5, z6, z7⟩ := hSz.facts; obtain ⟨d0, d1, d2, d3, d4, d5, d6, d7⟩ := hSz.f0.cells; have y0 := hSz.f0.thaw 0; have y1 := hSz.f0.thaw 1; have y2 := hSz.f0.thaw 2; have y3 := hSz.f0.thaw 3; have y4 := hSz.f0.thaw 4; have y5 := hSz.f0.thaw 5; have y6 := hSz.f0.thaw 6; have y7 := hSz.f0.thaw 7))
  exact retF rfl rfl rfl hE.1 hE.2
end Go.Proofs.Ytndogopllcpiiaa
