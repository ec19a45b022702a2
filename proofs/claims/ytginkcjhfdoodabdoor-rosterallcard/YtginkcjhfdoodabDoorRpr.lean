/- The document's Put of a set, Parse: what they answer, at every roster and text. -/
import Derived.Test.YtginkcjhfdoodabDoorRps
import Derived.Test.YtginkcjhfdoodabDoorRfa
import Derived.Test.YtginkcjhfdoodabDoorRft
namespace Go.Proofs.YtginkcjhfdoodabDoor
open Go.RowKit Go.Shelf Go.Lib

set_option maxHeartbeats 1000000 in
set_option maxRecDepth 100000 in
theorem rPut_any (N : Nat) (hN : N < S100) (i : Nat) (hi : i < 100) (w : World) : Calls Tryd.prog 30 #[sv N, .int .i64 (i : Int)] w fun e w' => e = .returned (sv (N ||| 2 ^ i)) ∧ Below w.heap.size w w' := by
  have hw := rWith_any N (i : Int)
  have e3 : withV N (i : Int) = .tuple #[sv (N ||| 2 ^ i), .int .i64 0] := by
    unfold withV
    rw [if_pos (by omega), Int.toNat_natCast, cln_self hN]
  rw [e3] at hw
  clear e3
  generalize N ||| 2 ^ i = N2 at *
  simp only [sv] at hw ⊢
  go_enter Tryd.func30, Tryd.ntmps30
  go_wp2_with (go_at_call 42; refine (hw _).mono ?_; rintro e w1 ⟨rfl, hb1⟩; have q : Holds4 w1 (w.heap.size + 1) (fun _ => 0) := (hb1.block _ (by simp)).trans (get_new (by simp)); have hs1 := q.lt; obtain ⟨y0, y1, y2, y3, z0, z1, z2, z3⟩ := q.facts; have H1 : Hid (Holds4 w1 (w.heap.size + 1) (fun _ => 0)) := q; clear q)
  have k5 : Below w.heap.size w ((set4 w1 (w.heap.size + 1) N2).alloc (.cells (cells4 (wd N2)) 24)) := (below4 (bcarry (((Below.refl _ w).alloc (by simp) _).alloc (by simp) _) (Nat.le_refl _) hb1) (by omega) _).alloc (Nat.le_of_lt (Nat.lt_of_le_of_lt (Nat.le_add_right _ _) (Holds4.lt (fin4 H1.out N2)))) _
  exact ret4 rfl rfl rfl (get_old (fin4 H1.out N2)) ⟨rfl, k5⟩

set_option maxHeartbeats 4000000 in
set_option maxRecDepth 100000 in
theorem rParse_any {M : Nat} {v : Value} {l : List Int} (w : World) (h : RosR M w v l) (hM : M ≤ w.heap.size) (s : ByteArray) (hs : s.size ≤ maxLen) : Calls Tryd.prog 11 #[v, .string s] w fun e w' => e = .returned (psV (parseR l s)) ∧ Below w.heap.size w w' := by
  obtain ⟨ad, cap, rfl⟩ := h.form
  have hsg := h.1
  have hls := hsg.short
  unfold maxLen at hs
  have g0 : Holds4 ((w.alloc (.cells #[.slice ad l.length cap] 34)).alloc (.cells (cells4 (fun _ => 0)) 24)) (w.heap.size + 1) (fun _ => 0) := get_new (by simp)
  have b0 : Below w.heap.size w ((w.alloc (.cells #[.slice ad l.length cap] 34)).alloc (.cells (cells4 (fun _ => 0)) 24)) := ((Below.refl _ w).alloc (by simp) _).alloc (by simp) _
  have hz0 : ∀ j, j < 4 → (fun _ => 0) j = wd 0 j := fun j _ => by simp [wd]
  by_cases h1 : 65536 < s.size
  · have hR : parseR l s = (0, 0, 2) := by rw [parseR, if_pos h1]
    rw [hR]
    go_enter Tryd.func11, Tryd.ntmps11
    go_wp2
    exact ret4u (M := 0) rfl rfl rfl rfl rfl (g0.congr hz0) ⟨rfl, b0⟩
  by_cases h2 : s.size = 0
  · have hR : parseR l s = (0, 0, 40) := by rw [parseR, if_neg h1, if_pos h2]
    rw [hR]
    go_enter Tryd.func11, Tryd.ntmps11
    go_wp2
    exact ret4u (M := 0) rfl rfl rfl rfl rfl (g0.congr hz0) ⟨rfl, b0⟩
  by_cases h3 : s = dash
  · have hR : parseR l s = (0, 0, 0) := by rw [parseR, if_neg h1, if_neg h2, if_pos h3]
    rw [hR]
    subst h3
    unfold dash
    clear h1 h2 hR
    go_enter Tryd.func11, Tryd.ntmps11
    go_wp2
    exact ret4u (M := 0) rfl rfl rfl rfl rfl (g0.congr hz0) ⟨rfl, b0⟩
  have HR : Hid (parseR l s = psGo l 0 0 (charsOf s)) := by show parseR l s = _; rw [parseR, if_neg h1, if_neg h2, if_neg h3]
  have hd := dash_ne h3
  clear h3
  have hs16 : s.size ≤ 65536 := by omega
  go_enter Tryd.func11, Tryd.ntmps11
  go_wp2
  go_loopw [8, 9] (fun a c wz => ∃ (pos fuel k N : Nat), Hid (psGo l N k (charsFrom s fuel pos) = psGo l 0 0 (charsOf s)) ∧ s.size ≤ pos + fuel ∧ k ≤ pos ∧ pos ≤ s.size ∧ a = .int .i64 k ∧ c = .int .i64 pos ∧ N < S100 ∧ wz.heap[w.heap.size]? = some (.cells #[.slice ad l.length cap] 34 (0, 0)) ∧ Holds4 wz (w.heap.size + 1) (fun _ => 0) ∧ Holds4 wz (w.heap.size + 2) (wd N) ∧ Below w.heap.size w wz) (fun _ c _ => s.size - (intOf c).toNat)
  case atStart =>
    have hr : Hid (psGo l 0 0 (charsFrom s s.size 0) = psGo l 0 0 (charsOf s)) := rfl
    have hset0 : Holds4 (((w.alloc (.cells #[.slice ad l.length cap] 34)).alloc (.cells (cells4 (fun _ => 0)) 24)).alloc (.cells (cells4 (fun _ => 0)) 24)) (w.heap.size + 2) (fun _ => 0) := get_new (by simp)
    exact ⟨0, s.size, 0, 0, hr, by omega, by omega, by omega, rfl, rfl, by decide, old_at (old_at (new_at rfl)), old_at g0, hset0.congr hz0, b0.alloc (by simp; omega) _⟩
  case round =>
    obtain ⟨pos, fuel, k, N, hgo, hfu, hkp, hps, rfl, rfl, hN, hvar, hres, hset, hbw⟩ := hrel
    have hlt := hset.lt
    by_cases hp : pos < s.size
    · have hwd := wdt_pos s pos
      have hwl := wdt_le s pos hp
      have hrn := rn_le s pos
      have hpi : (pos : Int) < (s.size : Int) := by omega
      have hat := at_below s hs16 pos hp wr
      obtain ⟨f, rfl⟩ : ∃ f, fuel = f + 1 := ⟨fuel - 1, by omega⟩
      rw [charsFrom_step s f pos hp] at hgo
      have hros := h.below (hbw.mono hM)
      obtain ⟨_, sl, esl, hS⟩ := hros
      simp at esl
      subst esl
      have hfi := fun (W : World) (hb : Below wr.heap.size wr W) => find_any W (hS.below (hb.mono (by omega))) (Nat.le_trans (by omega) hb.size) hls (rn s pos : Int)
      have H1 : Hid (Holds4 wr (w.heap.size + 1) (fun _ => 0)) := hres
      have H2 : Hid (Holds4 wr (w.heap.size + 2) (wd N)) := hset
      clear hres hset
      by_cases q1 : (rn s pos : Int) ∈ l
      · rw [loose_no_letter (hsg.letter _ q1)] at hat
        have hi := idx_lt hsg q1
        have hfv : findV l (rn s pos : Int) = ((l.idxOf (rn s pos : Int) : Nat) : Int) := by rw [findV, if_pos q1]
        simp only [hfv] at hfi
        have hhas := rHas_any N ((l.idxOf (rn s pos : Int) : Nat) : Int)
        have hput := rPut_any N hN (l.idxOf (rn s pos : Int)) hi
        have e2 : hasB N ((l.idxOf (rn s pos : Int) : Nat) : Int) = N.testBit (l.idxOf (rn s pos : Int)) := by
          unfold hasB
          rw [decide_eq_true (by omega), Int.toNat_natCast, Bool.true_and]
        rw [e2] at hhas
        have hN2 := or_lt100 hN hi
        by_cases q2 : N.testBit (l.idxOf (rn s pos : Int))
        · have HE : Hid (parseR l s = (0, (k : Int), 42)) := by
            have := HR.out.trans hgo.out.symm
            rw [psGo, if_pos q1, if_pos q2] at this
            exact this
          rw [q2] at hhas
          clear hgo HR hfv e2 q2 q1 hput hN2
          generalize l.idxOf (rn s pos : Int) = i at *
          generalize (rn s pos : Int) = c at *
          simp only [sv] at hhas
          go_wp2_with (first | (go_at_call 16; refine hat.mono ?_; rintro e u1 ⟨rfl, hb1⟩; have hsz1 := hb1.size; have g1 := (hb1.block _ (by omega)).trans hvar; have c0 := cell_at g1 0; have k1 := (H1.out).carry hb1; have k2 := (H2.out).carry hb1) | (go_at_call 18; refine (hfi _ hb1).mono ?_; rintro e u2 ⟨rfl, rfl⟩; obtain ⟨y0, y1, y2, y3, z0, z1, z2, z3⟩ := k2.facts; have H3 : Hid (Holds4 u2 (w.heap.size + 1) (fun _ => 0)) := k1; clear k1 k2) | (go_at_call 29; refine (hhas _).mono ?_; rintro e u3 ⟨rfl, hb3⟩; have k3 := (H3.out).carry hb3; have hs3 := k3.lt; obtain ⟨x0, x1, x2, x3, r0, r1, r2, r3⟩ := k3.facts; have H4 : Hid (Holds4 u3 (w.heap.size + 1) (fun _ => 0)) := k3; clear k3))
          rw [← set4z, HE.out]
          exact ret4u rfl rfl rfl rfl rfl (fin4 H4.out 0) ⟨rfl, below4 ((hbw.trans (hb1.mono (by omega))).trans (hb3.mono (by omega))) (by omega) _⟩
        · have HG : Hid (psGo l (N ||| 2 ^ l.idxOf (rn s pos : Int)) (k + 1) (charsFrom s f (pos + wdt s pos)) = psGo l 0 0 (charsOf s)) := by
            have := hgo.out
            rw [psGo, if_pos q1, if_neg q2] at this
            exact this
          rw [Bool.not_eq_true] at q2
          rw [q2] at hhas
          clear hgo hfv e2 q2 q1
          generalize N ||| 2 ^ l.idxOf (rn s pos : Int) = N2 at *
          generalize l.idxOf (rn s pos : Int) = i at *
          generalize (rn s pos : Int) = c at *
          simp only [sv] at hhas hput
          go_wp2_with (first | (go_at_call 16; refine hat.mono ?_; rintro e u1 ⟨rfl, hb1⟩; have hsz1 := hb1.size; have g1 := (hb1.block _ (by omega)).trans hvar; have c0 := cell_at g1 0; have k1 := (H1.out).carry hb1; have k2 := (H2.out).carry hb1) | (go_at_call 18; refine (hfi _ hb1).mono ?_; rintro e u2 ⟨rfl, rfl⟩; obtain ⟨y0, y1, y2, y3, z0, z1, z2, z3⟩ := k2.facts; have H3 : Hid (Holds4 u2 (w.heap.size + 1) (fun _ => 0)) := k1; have H5 : Hid (Holds4 u2 (w.heap.size + 2) (wd N)) := k2; clear k1 k2) | (go_at_call 29; refine (hhas _).mono ?_; rintro e u3 ⟨rfl, hb3⟩; have hsz3 := hb3.size; have k3 := (H5.out).carry hb3; have hs3 := k3.lt; obtain ⟨x0, x1, x2, x3, r0, r1, r2, r3⟩ := k3.facts; have H6 : Hid (Holds4 u3 (w.heap.size + 2) (wd N)) := k3; clear k3) | (go_at_call 30; refine (hput _).mono ?_; rintro e u4 ⟨rfl, hb4⟩; have k4 := (H6.out).carry hb4; have hs4 := k4.lt; obtain ⟨m0, m1, m2, m3, n0, n1, n2, n3⟩ := k4.facts; have H7 : Hid (Holds4 u4 (w.heap.size + 2) (wd N)) := k4; clear k4))
          go_roundw
          case rel =>
            have k1 : Holds4 (set4 u4 (w.heap.size + 2) N2) (w.heap.size + 2) (wd N2) := fin4 H7.out N2
            have k2 : (set4 u4 (w.heap.size + 2) N2).heap[w.heap.size]? = some (.cells #[.slice ad l.length cap] 34 (0, 0)) := (set4_other _ _ _ _ (by omega)).trans ((hb4.block _ (by omega)).trans ((hb3.block _ (by omega)).trans g1))
            have k3 : Holds4 (set4 u4 (w.heap.size + 2) N2) (w.heap.size + 1) (fun _ => 0) := (set4_other _ _ _ _ (by omega)).trans (((H3.out).carry hb3).carry hb4)
            have k5 : Below w.heap.size w (set4 u4 (w.heap.size + 2) N2) := below4 (((hbw.trans (hb1.mono (by omega))).trans (hb3.mono (by omega))).trans (hb4.mono (by omega))) (by omega) _
            exact ⟨pos + wdt s pos, f, k + 1, N2, HG, by omega, by omega, hwl, by simp, by simp, hN2, k2, k3, k1, k5⟩
          case measure => simp [intOf]; omega
      · have HE : Hid (parseR l s = (0, (k : Int), 41)) := by
          have := HR.out.trans hgo.out.symm
          rw [psGo, if_neg q1] at this
          exact this
        have hfv : findV l (rn s pos : Int) = -1 := by rw [findV, if_neg q1]
        simp only [hfv] at hfi
        clear hgo HR hfv q1
        generalize (rn s pos : Int) = c at *
        generalize looseB s pos = lo at *
        cases lo with
        | true =>
          go_wp2_with (first | (go_at_call 16; refine hat.mono ?_; rintro e u1 ⟨rfl, hb1⟩; have hsz1 := hb1.size; have g1 := (hb1.block _ (by omega)).trans hvar; have c0 := cell_at g1 0; have k1 := (H1.out).carry hb1; have hs1 := k1.lt) | (go_at_call 18; refine (hfi _ hb1).mono ?_; rintro e u2 ⟨rfl, rfl⟩; obtain ⟨y0, y1, y2, y3, z0, z1, z2, z3⟩ := k1.facts; have H3 : Hid (Holds4 u2 (w.heap.size + 1) (fun _ => 0)) := k1; clear k1))
          rw [← set4z, HE.out]
          exact ret4u rfl rfl rfl rfl rfl (fin4 H3.out 0) ⟨rfl, below4 (hbw.trans (hb1.mono (by omega))) (by omega) _⟩
        | false =>
          go_wp2_with (first | (go_at_call 16; refine hat.mono ?_; rintro e u1 ⟨rfl, hb1⟩; have hsz1 := hb1.size; have g1 := (hb1.block _ (by omega)).trans hvar; have c0 := cell_at g1 0; have k1 := (H1.out).carry hb1; have hs1 := k1.lt) | (go_at_call 18; refine (hfi _ hb1).mono ?_; rintro e u2 ⟨rfl, rfl⟩; obtain ⟨y0, y1, y2, y3, z0, z1, z2, z3⟩ := k1.facts; have H3 : Hid (Holds4 u2 (w.heap.size + 1) (fun _ => 0)) := k1; clear k1))
          rw [← set4z, HE.out]
          exact ret4u rfl rfl rfl rfl rfl (fin4 H3.out 0) ⟨rfl, below4 (hbw.trans (hb1.mono (by omega))) (by omega) _⟩
    · have hpi : ¬ (pos : Int) < (s.size : Int) := by omega
      have HE : Hid (parseR l s = (N, 0, 0)) := by
        have := hgo.out
        rw [charsFrom_end s fuel pos hp, psGo] at this
        exact HR.out.trans this.symm
      clear hgo HR
      obtain ⟨y0, y1, y2, y3, z0, z1, z2, z3⟩ := hset.facts
      obtain ⟨x0, x1, x2, x3, r0, r1, r2, r3⟩ := hres.facts
      have H1 : Hid (Holds4 wr (w.heap.size + 1) (fun _ => 0)) := hres
      clear hset hres
      go_wp2
      rw [HE.out]
      exact ret4u rfl rfl rfl rfl rfl (fin4 H1.out N) ⟨rfl, below4 hbw (by omega) _⟩
end Go.Proofs.YtginkcjhfdoodabDoor
