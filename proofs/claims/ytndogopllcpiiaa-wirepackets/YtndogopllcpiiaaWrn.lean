/- wire.Decode: what it answers, at all bytes. -/
import Derived.Test.YtndogopllcpiiaaWrm
import Derived.Defers
import Derived.Recover
namespace Go.Proofs.Ytndogopllcpiiaa
open Go.RowKit Go.Shelf

theorem assertR_yes (v : Value) (w : World) : (Instr.typeAssert (.iface 84 v) 20 84 true).run Try.prog w = .ok (.tuple #[v, .bool true]) w := by kernel_rfl
theorem assertR_nil (w : World) : (Instr.typeAssert .nilIface 20 84 true).run Try.prog w = .ok (.tuple #[.int .i64 0, .bool false]) w := by kernel_rfl
set_option maxHeartbeats 1000000 in
set_option maxRecDepth 100000 in
theorem catch_panic (a b : Nat) (x : Value) (y er : Int) (older : List PanicEntry) (w : World) (ha : w.cell? ⟨a, 0, none⟩ = some x) (hb : w.cell? ⟨b, 0, none⟩ = some (.int .i64 y)) (hza : w.frozen? ⟨a, 0, none⟩ = false) (hzb : w.frozen? ⟨b, 0, none⟩ = false) (hab : ¬ b = a) :
    CallsD Try.prog 44 #[.pointer (some ⟨a, 0, none⟩), .pointer (some ⟨b, 0, none⟩)] (.panicking ({ v := .iface 84 (.int .i64 er), recovered := false } :: older)) w fun e u' w' =>
      e = .returned (.tuple #[]) ∧ u' = .panicking ({ v := .iface 84 (.int .i64 er), recovered := true } :: older) ∧ w' = (w.setCell ⟨a, 0, none⟩ .nilIface).setCell ⟨b, 0, none⟩ (.int .i64 er) := by
  revert hab
  intro hab
  refine callsD_of_wpS Try.func44 rfl fun c₀ cs hu => ?_
  apply wpS_seq
  apply wpS_region
  simp [wpOpsS, go_sem, recoverD, hu, Try.ntmps44, Exit.thenS, assertR_yes]
  apply wpS_seq
  apply wpS_region
  simp [wpOpsS, go_sem, Exit.thenS]
  refine wpS_cond (t := true) (by simp [Act.eval, Array.replicate]) ?_
  simp only [if_true]
  apply wpS_region
  simp [wpOpsS, go_sem, ha, hb, hza, hzb, bodyPostS, results, Try.results44]
set_option maxHeartbeats 1000000 in
set_option maxRecDepth 100000 in
theorem catch_idle (a b : Nat) (w : World) :
    CallsD Try.prog 44 #[.pointer (some ⟨a, 0, none⟩), .pointer (some ⟨b, 0, none⟩)] .returning w fun e u' w' => e = .returned (.tuple #[]) ∧ u' = .returning ∧ w' = w := by
  refine callsD_of_wpS Try.func44 rfl fun c₀ cs hu => ?_
  apply wpS_seq
  apply wpS_region
  simp [wpOpsS, go_sem, recoverD, hu, Try.ntmps44, Exit.thenS, assertR_nil]
  apply wpS_seq
  apply wpS_region
  simp [wpOpsS, go_sem, Exit.thenS]
  refine wpS_cond (t := false) (by simp [Act.eval, Array.replicate]) ?_
  simp only [Bool.false_eq_true, if_false]
  refine wpS_of_wp (wp_skip ?_)
  cases c₀
  simp_all [bodyPostS, results, Try.results44]
/-- What Decode answers. -/
def DcO (n : Int) (bs : List Nat) (w : World) (e : Ending) (w' : World) : Prop :=
  match dec n bs with
  | .error er => e = .returned (.tuple #[.nilIface, .int .i64 er]) ∧ Below w.heap.size w w'
  | .ok (kd, fr, rd, N, l) => ∃ a c, e = .returned (.tuple #[noteV kd (fr : Int) (rd : Int) N (.slice a l.length c), .int .i64 0]) ∧ w'.ownsRow w.heap.size 82 3 (.slice a l.length c) l.length (fl l) ∧ Below w.heap.size w w'
theorem dco_err {n : Int} {bs : List Nat} {w w' : World} {er : Int} (h : dec n bs = .error er) (hb : Below w.heap.size w w') : DcO n bs w (.returned (.tuple #[.nilIface, .int .i64 er])) w' := by
  unfold DcO
  rw [h]
  exact ⟨rfl, hb⟩
theorem hmf : ∀ (fn : Fn) (first cap : Array Value) (w : World), (Instr.makeFunc fn first cap).run Try.prog w = .ok (.func fn first cap) w := fun _ _ _ _ => rfl
theorem noteV_form (kd : Nat) (fr rd : Int) (N : Nat) (v : Value) : ∃ t x, noteV kd fr rd N v = .iface t x := by
  unfold noteV
  split
  · exact ⟨_, _, rfl⟩
  split
  · exact ⟨_, _, rfl⟩
  · exact ⟨_, _, rfl⟩
theorem res2 {tmps : Array Value} {W : World} {a b : Nat} {x : Value} {y : Int} (h4 : tmps[4]?.getD undef = .pointer (some ⟨a, 0, none⟩)) (h5 : tmps[5]?.getD undef = .pointer (some ⟨b, 0, none⟩)) (hx : W.heap[a]? = some (.cells #[x] 25 (0, 0))) (hy : W.heap[b]? = some (.cells #[.int .i64 y] 28 (0, 0))) : (results Try.f23 tmps).run Try.prog W = .ok (.tuple #[x, .int .i64 y]) W := by
  have c1 := cell_at hx 0
  have c2 := cell_at hy 0
  simp at c1 c2
  simp [results, Try.results23, go_sem, h4, h5, c1, c2]
set_option maxHeartbeats 2000000 in
set_option maxRecDepth 100000 in
theorem decode_any (ad : Option Addr) (cap : Nat) (bs : List Nat) (n : Int) (w : World) (h : RdB w ad bs) (hb : Byt bs) (hc : bs.length ≤ cap) : Calls Try.prog 23 #[.slice ad bs.length cap, .int .i64 n] w (DcO n bs w) := by
  have hmf := hmf
  have hsz := isSize_any n
  by_cases h1 : 1 ≤ n ∧ n ≤ 100
  case neg =>
    rw [decide_eq_false h1] at hsz
    have HD : Hid (dec n bs = .error 1) := if_pos h1
    go_enter_defers Try.func23, Try.ntmps23
    go_wp2_with (go_at_call 43; (with_reducible refine (hsz _).mono ?_); rintro e u ⟨rfl, hu⟩; rw [hu]; clear hu u)
    exact ⟨_, res2 rfl rfl (old_at (new_at rfl)) (new_at (by simp)), dco_err HD.out (((Below.refl _ w).alloc (Nat.le_refl _) _).alloc (by simp) _)⟩
  rw [decide_eq_true h1] at hsz
  by_cases h2 : 1024 < bs.length
  · have HD : Hid (dec n bs = .error 2) := (if_neg (fun q => q h1)).trans (if_pos h2)
    have h2i : (1024 : Int) < (bs.length : Int) := by omega
    go_enter_defers Try.func23, Try.ntmps23
    go_wp2_with (go_at_call 43; (with_reducible refine (hsz _).mono ?_); rintro e u ⟨rfl, hu⟩; rw [hu]; clear hu u)
    exact ⟨_, res2 rfl rfl (old_at (new_at rfl)) (new_at (by simp)), dco_err HD.out (((Below.refl _ w).alloc (Nat.le_refl _) _).alloc (by simp) _)⟩
  have h2i : ¬ (1024 : Int) < (bs.length : Int) := by omega
  obtain ⟨m, rfl⟩ := Int.eq_ofNat_of_zero_le (show 0 ≤ n by omega)
  have HDC : Hid (dec (m : Int) bs = rdE m bs) := (if_neg (fun q => q h1)).trans ((if_neg h2).trans (by rw [Int.toNat_natCast]))
  -- the three new blocks
  have hbW := ((((Below.refl w.heap.size w).alloc (Nat.le_refl _) (.cells #[.nilIface] 25)).alloc (by simp) (.cells #[.int .i64 0] 28))).alloc (by simp; omega) (.cells #[.slice ad bs.length cap, .int .i64 0] 88)
  have hA : (((w.alloc (.cells #[.nilIface] 25)).alloc (.cells #[.int .i64 0] 28)).alloc (.cells #[.slice ad bs.length cap, .int .i64 0] 88)).heap[w.heap.size]? = some (.cells #[.nilIface] 25 (0, 0)) := old_at (old_at (new_at rfl))
  have hB : (((w.alloc (.cells #[.nilIface] 25)).alloc (.cells #[.int .i64 0] 28)).alloc (.cells #[.slice ad bs.length cap, .int .i64 0] 88)).heap[w.heap.size + 1]? = some (.cells #[.int .i64 0] 28 (0, 0)) := old_at (new_at (by simp))
  have hR : Rdr (((w.alloc (.cells #[.nilIface] 25)).alloc (.cells #[.int .i64 0] 28)).alloc (.cells #[.slice ad bs.length cap, .int .i64 0] 88)) (w.heap.size + 1 + 1) ad cap bs 0 := by
    refine ⟨new_at (by simp), fun hne => ?_, Nat.zero_le _, hb, by omega, hc⟩
    obtain ⟨b, off, e1, e2, e3⟩ := h hne
    exact ⟨b, off, e1, by omega, e3.carry (hbW.block b e2)⟩
  have hfa := fields_any hR m (by omega) (by omega)
  unfold FdO at hfa
  obtain ⟨W0, hW0⟩ : ∃ W0, (((w.alloc (.cells #[.nilIface] 25)).alloc (.cells #[.int .i64 0] 28)).alloc (.cells #[.slice ad bs.length cap, .int .i64 0] 88)) = W0 := ⟨_, rfl⟩
  rw [hW0] at hbW hA hB hR hfa
  have hcat : ∀ (W' : World) (er : Int), Kb (w.heap.size + 1 + 1) W0 W' → CallsD Try.prog 44 #[.pointer (some ⟨w.heap.size, 0, none⟩), .pointer (some ⟨w.heap.size + 1, 0, none⟩)] (.panicking (rfu er)) W' fun e u' w' => e = .returned (.tuple #[]) ∧ u' = .panicking [{ v := .iface 84 (.int .i64 er), recovered := true }] ∧ w'.heap[w.heap.size]? = some (.cells #[.nilIface] 25 (0, 0)) ∧ w'.heap[w.heap.size + 1]? = some (.cells #[.int .i64 er] 28 (0, 0)) ∧ Below w.heap.size w w' := fun W' er hk => by
    have a1 := (hk.2 _ (by omega) (lt_at hA)).trans hA
    have b1 := (hk.2 _ (by omega) (lt_at hB)).trans hB
    have ca := cell_at a1 0
    have cb := cell_at b1 0
    simp at ca cb
    refine (catch_panic w.heap.size (w.heap.size + 1) .nilIface 0 er [] W' ca cb (thaw_at a1 0) (thaw_at b1 0) (by omega)).mono ?_
    rintro e u' w' ⟨rfl, rfl, rfl⟩
    refine ⟨rfl, rfl, ?_, ?_, ?_⟩
    · rw [Below.heap_setCell _ _ _ _ (by simp)]
      exact (set_get 0 _ a1).trans (by simp)
    · have b2 := (Below.heap_setCell W' ⟨w.heap.size, 0, none⟩ .nilIface (w.heap.size + 1) (by simp)).trans b1
      exact (set_get 0 _ b2).trans (by simp)
    · exact ((hbW.trans (hk.1.mono (by omega))).setCell (Nat.le_refl _) _).setCell (Nat.le_succ _) _
  cases hF : rdF m bs with
  | error er =>
    rw [hF] at hfa
    have HD : Hid (dec (m : Int) bs = .error er) := HDC.out.trans (by rw [rdE, hF])
    go_enter_defers Try.func23, Try.ntmps23
    go_wp2_with (first | (go_at_call 43; (with_reducible refine (hsz _).mono ?_); rintro e u ⟨rfl, hu⟩; rw [hu]; clear hu u) | (go_at_call 45; refine hfa.mono ?_; rintro e u1 ⟨rfl, hk1⟩))
    refine leaves_cons (f := 44) (args := #[.pointer (some ⟨w.heap.size, 0, none⟩), .pointer (some ⟨w.heap.size + 1, 0, none⟩)]) (by simp) (by simp [go_sem]) ?_
    refine (hcat _ er hk1).mono ?_
    rintro e u' w'' ⟨rfl, rfl, ha, hb', hbl⟩
    exact ⟨_, res2 rfl rfl ha hb', dco_err HD.out hbl⟩
  | ok q =>
    obtain ⟨⟨kd, fr, rd, N, l⟩, j⟩ := q
    rw [hF] at hfa
    have hne : bs ≠ [] := by
      rintro rfl
      simp [rdF] at hF
    have hfa2 : Calls Try.prog 45 #[.pointer (some ⟨w.heap.size + 1 + 1, 0, none⟩), .int .i64 (m : Int)] W0 fun e w' => ∃ a c, e = .returned (fv kd (fr : Int) (rd : Int) N (.slice a l.length c)) ∧ w'.ownsRow W0.heap.size 82 3 (.slice a l.length c) l.length (fl l) ∧ Rdr w' (w.heap.size + 1 + 1) ad cap bs j ∧ Kb (w.heap.size + 1 + 1) W0 w' := hfa.mono (by
      rintro e w' ⟨v, rfl, q1, q2, q3⟩
      rcases own_form q1 with ⟨e1, e2⟩ | ⟨g, c, e1, _⟩
      · exact ⟨none, 0, by rw [e1, e2], by rw [e2]; rw [e1, e2] at q1; exact q1, q2, q3⟩
      · exact ⟨_, _, by rw [e1], e1 ▸ q1, q2, q3⟩)
    clear hfa
    simp only [fv, fcs] at hfa2
    have hend : ∀ W, Rdr W (w.heap.size + 1 + 1) ad cap bs j → Calls Try.prog 46 #[.pointer (some ⟨w.heap.size + 1 + 1, 0, none⟩)] W (EnO (w.heap.size + 1 + 1) bs j W) := fun W hW => end_any hW hne
    unfold EnO at hend
    obtain ⟨D, hD⟩ : ∃ D, rdE m bs = D := ⟨_, rfl⟩
    have hD2 := hD
    rw [rdE, hF] at hD2
    dsimp only at hD2
    have HD : Hid (dec (m : Int) bs = D) := HDC.out.trans hD
    clear hD HDC hF
    have key : ∀ er, D = .error er → (∀ W, Rdr W (w.heap.size + 1 + 1) ad cap bs j → Calls Try.prog 46 #[.pointer (some ⟨w.heap.size + 1 + 1, 0, none⟩)] W fun e w' => e = .panicked (rfu er) ∧ Kb (w.heap.size + 1 + 1) W w') → Calls Try.prog 23 #[.slice ad bs.length cap, .int .i64 (m : Int)] w (DcO m bs w) := by
      intro er hDe hen
      have HDe : Hid (dec (m : Int) bs = .error er) := HD.out.trans hDe
      clear hend hD2 hDe HD
      go_enter_defers Try.func23, Try.ntmps23
      go_wp2_with (first | (go_at_call 43; (with_reducible refine (hsz _).mono ?_); rintro e u ⟨rfl, hu⟩; rw [hu]; clear hu u) | (go_at_call 45; refine hfa2.mono ?_; rintro e u1 ⟨a, c, rfl, ho1, hr1, hk1⟩; have hb1 := al1' u1 (.cells #[.int .i64 (kd : Int), .int .i64 (fr : Int), .int .i64 (rd : Int), .int .u32 (wd N 0 : Nat), .int .u32 (wd N 1 : Nat), .int .u32 (wd N 2 : Nat), .int .u32 (wd N 3 : Nat), .slice a l.length c] 90); have hr1' := hr1.carry hb1) | (go_at_call 46; refine (hen _ hr1').mono ?_; rintro e u2 ⟨rfl, hk2⟩))
      refine leaves_cons (f := 44) (args := #[.pointer (some ⟨w.heap.size, 0, none⟩), .pointer (some ⟨w.heap.size + 1, 0, none⟩)]) (by simp) (by simp [go_sem]) ?_
      refine (hcat _ er ((hk1.trans (Kb.below hb1 (Nat.le_of_lt hr1.lt))).trans hk2)).mono ?_
      rintro e u' w'' ⟨rfl, rfl, ha, hb', hbl⟩
      exact ⟨_, res2 rfl rfl ha hb', dco_err HDe.out hbl⟩
    by_cases g1 : bs.length < j + 4
    · rw [if_pos g1] at hD2
      refine key 76 hD2.symm (fun W hW => ?_)
      have := hend W hW
      rw [if_pos g1] at this
      exact this
    rw [if_neg g1] at hD2
    by_cases g2 : nm bs j 4 ≠ sumV (bs.take j)
    · rw [if_pos g2] at hD2
      refine key 77 hD2.symm (fun W hW => ?_)
      have := hend W hW
      rw [if_neg g1, if_pos g2] at this
      exact this
    rw [if_neg g2] at hD2
    by_cases g3 : j + 4 < bs.length
    · rw [if_pos g3] at hD2
      refine key 2 hD2.symm (fun W hW => ?_)
      have := hend W hW
      rw [if_neg g1, if_neg g2, if_pos g3] at this
      exact this
    rw [if_neg g3] at hD2
    have hen : ∀ W, Rdr W (w.heap.size + 1 + 1) ad cap bs j → Calls Try.prog 46 #[.pointer (some ⟨w.heap.size + 1 + 1, 0, none⟩)] W fun e w' => e = .returned (.tuple #[]) ∧ Kb (w.heap.size + 1 + 1) W w' := fun W hW => by
      have := hend W hW
      rw [if_neg g1, if_neg g2, if_neg g3] at this
      exact this
    have HDo : Hid (dec (m : Int) bs = .ok (kd, fr, rd, N, l)) := HD.out.trans hD2.symm
    have hno := note_any kd (fr : Int) (rd : Int) N
    simp only [fv, fcs] at hno
    clear hend hD2 HD key g1 g2 g3
    have hW0s : w.heap.size + 1 + 1 < W0.heap.size := hR.lt
    go_enter_defers Try.func23, Try.ntmps23
    go_wp2_with (first | (go_at_call 43; (with_reducible refine (hsz _).mono ?_); rintro e u ⟨rfl, hu⟩; rw [hu]; clear hu u) | (go_at_call 45; refine hfa2.mono ?_; rintro e u1 ⟨a, c, rfl, ho1, hr1, hk1⟩; have hb1 := al1' u1 (.cells #[.int .i64 (kd : Int), .int .i64 (fr : Int), .int .i64 (rd : Int), .int .u32 (wd N 0 : Nat), .int .u32 (wd N 1 : Nat), .int .u32 (wd N 2 : Nat), .int .u32 (wd N 3 : Nat), .slice a l.length c] 90); have hr1' := hr1.carry hb1; have hfb1 : FB (u1.alloc (.cells #[.int .i64 (kd : Int), .int .i64 (fr : Int), .int .i64 (rd : Int), .int .u32 (wd N 0 : Nat), .int .u32 (wd N 1 : Nat), .int .u32 (wd N 2 : Nat), .int .u32 (wd N 3 : Nat), .slice a l.length c] 90)) u1.heap.size kd fr rd N (.slice a l.length c) := new_at rfl) | (go_at_call 46; refine (hen _ hr1').mono ?_; rintro e u2 ⟨rfl, hk2⟩; have hfb2 := hfb1.carry (hk2.2 _ (by have := hr1.lt; omega) hfb1.lt); obtain ⟨c0, c1, c2, c3, c4, c5, c6, c7⟩ := hfb2.cells) | (go_at_call 47; refine (hno _ _ _ _).mono ?_; rintro e u3 ⟨rfl, hb3⟩; obtain ⟨ty, xv, hxv⟩ := noteV_form kd fr rd N (.slice a l.length c); rw [hxv]; have HXV : Hid (noteV kd fr rd N (.slice a l.length c) = .iface ty xv) := hxv; clear hxv; have hk3 : Kb (w.heap.size + 1 + 1) W0 u3 := ((hk1.trans (Kb.below hb1 (Nat.le_of_lt hr1.lt))).trans hk2).trans (Kb.below hb3 (by have := hfb2.lt; have := hr1.lt; omega)); have a3 := (hk3.2 _ (by omega) (lt_at hA)).trans hA; have b3 := (hk3.2 _ (by omega) (lt_at hB)).trans hB; have ca := cell_at a3 0; have cb := cell_at b3 0; simp at ca cb; have za := thaw_at a3 0; have zb := thaw_at b3 0))
    refine leaves_cons (f := 44) (args := #[.pointer (some ⟨w.heap.size, 0, none⟩), .pointer (some ⟨w.heap.size + 1, 0, none⟩)]) (by simp) (by simp [go_sem]) ?_
    refine (catch_idle w.heap.size (w.heap.size + 1) _).mono ?_
    rintro e u' w'' ⟨rfl, rfl, rfl⟩
    have hown3 : u3.ownsRow W0.heap.size 82 3 (.slice a l.length c) l.length (fl l) := row_below (ownsRow_kb (row_below ho1 hb1) hk2 (fun g hg => by have := own_block ho1 g hg; omega)) hb3
    have hA4 : ((u3.setCell ⟨w.heap.size, 0, none⟩ (.iface ty xv)).setCell ⟨w.heap.size + 1, 0, none⟩ (.int .i64 0)).heap[w.heap.size]? = some (.cells #[.iface ty xv] 25 (0, 0)) := by
      rw [Below.heap_setCell _ _ _ _ (by simp)]
      exact (set_get 0 _ a3).trans (by simp)
    have hB4 : ((u3.setCell ⟨w.heap.size, 0, none⟩ (.iface ty xv)).setCell ⟨w.heap.size + 1, 0, none⟩ (.int .i64 0)).heap[w.heap.size + 1]? = some (.cells #[.int .i64 0] 28 (0, 0)) :=
      (set_get 0 _ ((Below.heap_setCell u3 ⟨w.heap.size, 0, none⟩ (.iface ty xv) (w.heap.size + 1) (by simp)).trans b3)).trans (by simp)
    refine ⟨_, res2 rfl rfl hA4 hB4, ?_⟩
    unfold DcO
    rw [HDo.out]
    refine ⟨a, c, by rw [HXV.out], ownsRow_base (ownsRow_set (ownsRow_set hown3 (fun g hg => by have := own_block hown3 g hg; omega) _) (fun g hg => by have := own_block hown3 g hg; omega) _) (by omega), ?_⟩
    exact (Below.setCell (p := ⟨w.heap.size + 1, 0, none⟩) (Below.setCell (p := ⟨w.heap.size, 0, none⟩) (hbW.trans (hk3.1.mono (by omega))) (Nat.le_refl _) _) (Nat.le_succ _) _)
end Go.Proofs.Ytndogopllcpiiaa
