/- withSign, Parse: what they answer, at every roster and text. -/
import Derived.Test.YtginkcjhfdoodabDoorPsm
import Derived.Test.YtginkcjhfdoodabDoorRsc
import Derived.Test.YtginkcjhfdoodabDoorWth
namespace Go.Proofs.YtginkcjhfdoodabDoor
open Go.RowKit Go.Shelf Go.Lib

theorem set4z (w : World) (b : Nat) : set4 w b 0 = (((w.setCell ⟨b, 0, none⟩ (.int .u32 0)).setCell ⟨b, 1, none⟩ (.int .u32 0)).setCell ⟨b, 2, none⟩ (.int .u32 0)).setCell ⟨b, 3, none⟩ (.int .u32 0) := by simp [set4, wd]
theorem set4_other (w : World) (b M j : Nat) (h : j ≠ b) : (set4 w b M).heap[j]? = w.heap[j]? := by
  unfold set4
  rw [Below.heap_setCell _ _ _ _ h, Below.heap_setCell _ _ _ _ h, Below.heap_setCell _ _ _ _ h, Below.heap_setCell _ _ _ _ h]
/-- What withSign answers. -/
def wsV (l : List Int) (N : Nat) (c : Int) : Value := if c ∈ l then (if N.testBit (l.idxOf c) then .tuple #[sv 0, .int .i64 42] else .tuple #[sv (N ||| 2 ^ l.idxOf c), .int .i64 0]) else .tuple #[sv 0, .int .i64 41]
set_option maxHeartbeats 1000000 in
set_option maxRecDepth 100000 in
theorem withSign_any {M : Nat} {v : Value} {l : List Int} (w : World) (h : Ros M w v l) (hM : M ≤ w.heap.size) (N : Nat) (hN : N < S100) {c : Int} (h0 : -2147483648 ≤ c) (h1 : c ≤ 2147483647) : Calls Tryd.prog 28 #[v, sv N, .int .i32 c] w fun e w' => e = .returned (wsV l N c) ∧ Below w.heap.size w w' := by
  obtain ⟨ad, cap, mb, rfl⟩ := h.form
  have hid := fun (W : World) (hb : Below w.heap.size w W) => id_any W (h.below (hb.mono hM)) (Nat.le_trans hM hb.size) h0 h1
  have hsg := h.1
  have hhas := has_any N
  have hwth := with_any N
  by_cases hc : c ∈ l
  · have hi := idx_lt hsg hc
    have e1 : idV l c = .tuple #[.int .i64 ((l.idxOf c : Nat) : Int), .int .i64 0] := by rw [idV, if_pos hc]
    rw [e1] at hid
    have e2 : hasB N ((l.idxOf c : Nat) : Int) = N.testBit (l.idxOf c) := by
      unfold hasB
      rw [decide_eq_true (by omega), Int.toNat_natCast, Bool.true_and]
    have e3 : withV N ((l.idxOf c : Nat) : Int) = .tuple #[sv (N ||| 2 ^ l.idxOf c), .int .i64 0] := by
      unfold withV
      rw [if_pos (by omega), Int.toNat_natCast, cln_self hN]
    have hhas1 := hhas ((l.idxOf c : Nat) : Int)
    have hwth1 := hwth ((l.idxOf c : Nat) : Int)
    rw [e2] at hhas1
    rw [e3] at hwth1
    clear hhas hwth e1 e2 e3
    by_cases hb : N.testBit (l.idxOf c)
    · have hV : wsV l N c = .tuple #[sv 0, .int .i64 42] := by rw [wsV, if_pos hc, if_pos hb]
      rw [hV]
      rw [hb] at hhas1
      clear hV hb hwth1 hc
      generalize l.idxOf c = i at *
      simp only [sv] at hhas1 ⊢
      go_enter Tryd.func28, Tryd.ntmps28
      go_wp2_with (first | (go_at_call 27; refine (hid _ ((((Below.refl _ w).alloc (by simp) _).alloc (by simp) _).alloc (by simp; omega) _)).mono ?_; rintro e w1 ⟨rfl, hb1⟩; have q1 : Holds4 w1 (w.heap.size + 1) (wd N) := (hb1.block _ (by simp)).trans (get_old (get_new (by simp))); have q2 : Holds4 w1 (w.heap.size + 2) (fun _ => 0) := (hb1.block _ (by simp)).trans (get_new (by simp)); obtain ⟨y0, y1, y2, y3, z0, z1, z2, z3⟩ := q1.facts; have hs1 := q2.lt; have H2 : Hid (Holds4 w1 (w.heap.size + 2) (fun _ => 0)) := q2; clear q1 q2) | (go_at_call 40; refine (hhas1 _).mono ?_; rintro e w2 ⟨rfl, hb2⟩; have q3 := (H2.out).carry hb2; have hs2 := q3.lt; obtain ⟨u0, u1, u2, u3, v0, v1, v2, v3⟩ := q3.facts; have H3 : Hid (Holds4 w2 (w.heap.size + 2) (fun _ => 0)) := q3; clear q3))
      rw [← set4z]
      refine ret4t rfl rfl rfl rfl (fin4 H3.out 0) ⟨rfl, below4 (bcarry (bcarry ((((Below.refl _ w).alloc (by simp) _).alloc (by simp) _).alloc (by simp; omega) _) (Nat.le_refl _) hb1) (Nat.le_refl _) hb2) (by omega) _⟩
    · have hV : wsV l N c = .tuple #[sv (N ||| 2 ^ l.idxOf c), .int .i64 0] := by rw [wsV, if_pos hc, if_neg hb]
      rw [hV]
      rw [Bool.not_eq_true] at hb
      rw [hb] at hhas1
      clear hV hb hc
      generalize l.idxOf c = i at *
      generalize N ||| 2 ^ i = N2 at *
      simp only [sv] at hhas1 hwth1 ⊢
      go_enter Tryd.func28, Tryd.ntmps28
      go_wp2_with (first | (go_at_call 27; refine (hid _ ((((Below.refl _ w).alloc (by simp) _).alloc (by simp) _).alloc (by simp; omega) _)).mono ?_; rintro e w1 ⟨rfl, hb1⟩; have q1 : Holds4 w1 (w.heap.size + 1) (wd N) := (hb1.block _ (by simp)).trans (get_old (get_new (by simp))); have q2 : Holds4 w1 (w.heap.size + 2) (fun _ => 0) := (hb1.block _ (by simp)).trans (get_new (by simp)); obtain ⟨y0, y1, y2, y3, z0, z1, z2, z3⟩ := q1.facts; have hs1 := q2.lt; have H2 : Hid (Holds4 w1 (w.heap.size + 2) (fun _ => 0)) := q2; have H1 : Hid (Holds4 w1 (w.heap.size + 1) (wd N)) := q1; clear q1 q2) | (go_at_call 40; refine (hhas1 _).mono ?_; rintro e w2 ⟨rfl, hb2⟩; have q3 := (H2.out).carry hb2; have q4 := (H1.out).carry hb2; have hs2 := q3.lt; obtain ⟨x0, x1, x2, x3, _⟩ := q4.facts; have H3 : Hid (Holds4 w2 (w.heap.size + 2) (fun _ => 0)) := q3; clear q3 q4) | (go_at_call 41; refine (hwth1 _).mono ?_; rintro e w3 ⟨rfl, hb3⟩; have q3 := (H3.out).carry hb3; have hs3 := q3.lt; obtain ⟨u0, u1, u2, u3, v0, v1, v2, v3⟩ := q3.facts; have H4 : Hid (Holds4 w3 (w.heap.size + 2) (fun _ => 0)) := q3; clear q3))
      refine ret4t rfl rfl rfl rfl (fin4 H4.out N2) ⟨rfl, below4 (bcarry (bcarry (bcarry ((((Below.refl _ w).alloc (by simp) _).alloc (by simp) _).alloc (by simp; omega) _) (Nat.le_refl _) hb1) (Nat.le_refl _) hb2) (Nat.le_refl _) hb3) (by omega) _⟩
  · have e1 : idV l c = .tuple #[.int .i64 0, .int .i64 41] := by rw [idV, if_neg hc]
    rw [e1] at hid
    have hV : wsV l N c = .tuple #[sv 0, .int .i64 41] := by rw [wsV, if_neg hc]
    rw [hV]
    clear hV e1 hc hhas hwth
    simp only [sv]
    go_enter Tryd.func28, Tryd.ntmps28
    go_wp2_with (go_at_call 27; refine (hid _ ((((Below.refl _ w).alloc (by simp) _).alloc (by simp) _).alloc (by simp; omega) _)).mono ?_; rintro e w1 ⟨rfl, hb1⟩; have q2 : Holds4 w1 (w.heap.size + 2) (fun _ => 0) := (hb1.block _ (by simp)).trans (get_new (by simp)); obtain ⟨y0, y1, y2, y3, z0, z1, z2, z3⟩ := q2.facts; have hs1 := q2.lt; have H2 : Hid (Holds4 w1 (w.heap.size + 2) (fun _ => 0)) := q2; clear q2)
    rw [← set4z]
    refine ret4t rfl rfl rfl rfl (fin4 H2.out 0) ⟨rfl, below4 (bcarry ((((Below.refl _ w).alloc (by simp) _).alloc (by simp) _).alloc (by simp; omega) _) (Nat.le_refl _) hb1) (by omega) _⟩
theorem ret4u {f : Func} {p q r : Tmp} {R : Ending → World → Prop} {a : Act} {w : World} {b M : Nat} {x y : Value} (hres : f.results = #[.cell p 24, .tmp q, .tmp r]) (hp : a.tmps.getD p undef = .pointer (some ⟨b, 0, none⟩)) (hq : a.tmps.getD q undef = x) (hr : a.tmps.getD r undef = y) (hd : a.defers = []) (h : Holds4 w b (wd M)) (hR : R (.returned (.tuple #[sv M, x, y])) w) : bodyPost Tryd.prog f R .ret a w := by
  refine bodyPost_ret (v := .tuple #[sv M, x, y]) ?_ hd hR
  have h1 := run_loadVar_row (P := Tryd.prog) w b 24 24 (cells4 (wd M)) (0, 0) _ h Tryd.underlying24 rfl (by kernel_rfl)
  have hp' : a.tmps[p]?.getD undef = .pointer (some ⟨b, 0, none⟩) := by simpa using hp
  have hq' : a.tmps[q]?.getD undef = x := by simpa using hq
  have hr' : a.tmps[r]?.getD undef = y := by simpa using hr
  simp [results, hres, hp', hq', hr', asAddr, h1]
  rfl
/-- What Parse answers. -/
def psV (R : Nat × Int × Int) : Value := .tuple #[sv R.1, .int .i64 R.2.1, .int .i64 R.2.2]
theorem dash_ne {s : ByteArray} (h : s ≠ dash) : (s.toList == [45]) = false := by
  rw [beq_eq_false_iff_ne]
  intro e
  rw [Lib.toList_data] at e
  exact h (ByteArray.ext (Array.toList_inj.1 e))
set_option maxHeartbeats 4000000 in
set_option maxRecDepth 100000 in
theorem parse_any {M : Nat} {v : Value} {l : List Int} (w : World) (h : Ros M w v l) (hM : M ≤ w.heap.size) (s : ByteArray) (hs : s.size ≤ maxLen) : Calls Tryd.prog 10 #[v, .string s] w fun e w' => e = .returned (psV (parseR l s)) ∧ Below w.heap.size w w' := by
  obtain ⟨ad, cap, mb, rfl⟩ := h.form
  have hsg := h.1
  have hsz := sizeError_any s hs
  have g0 : Holds4 ((w.alloc (.cells #[.slice ad l.length cap, .map mb] 28)).alloc (.cells (cells4 (fun _ => 0)) 24)) (w.heap.size + 1) (fun _ => 0) := get_new (by simp)
  have b0 : Below w.heap.size w ((w.alloc (.cells #[.slice ad l.length cap, .map mb] 28)).alloc (.cells (cells4 (fun _ => 0)) 24)) := ((Below.refl _ w).alloc (by simp) _).alloc (by simp) _
  have hz0 : ∀ j, j < 4 → (fun _ => 0) j = wd 0 j := fun j _ => by simp [wd]
  by_cases h1 : 65536 < s.size
  · have hR : parseR l s = (0, 0, 2) := by rw [parseR, if_pos h1]
    rw [show szE s = 2 by rw [szE, if_pos h1]] at hsz
    rw [hR]
    go_enter Tryd.func10, Tryd.ntmps10
    go_wp2_with (go_at_call 14; refine (hsz _).mono ?_; rintro e w1 ⟨rfl, rfl⟩)
    exact ret4u (M := 0) rfl rfl rfl rfl rfl (g0.congr hz0) ⟨rfl, b0⟩
  by_cases h2 : s.size = 0
  · have hR : parseR l s = (0, 0, 40) := by rw [parseR, if_neg h1, if_pos h2]
    rw [show szE s = 40 by rw [szE, if_neg h1, if_pos h2]] at hsz
    rw [hR]
    go_enter Tryd.func10, Tryd.ntmps10
    go_wp2_with (go_at_call 14; refine (hsz _).mono ?_; rintro e w1 ⟨rfl, rfl⟩)
    exact ret4u (M := 0) rfl rfl rfl rfl rfl (g0.congr hz0) ⟨rfl, b0⟩
  rw [show szE s = 0 by rw [szE, if_neg h1, if_neg h2]] at hsz
  by_cases h3 : s = dash
  · have hR : parseR l s = (0, 0, 0) := by rw [parseR, if_neg h1, if_neg h2, if_pos h3]
    rw [hR]
    subst h3
    unfold dash at hsz ⊢
    clear h1 h2 hR
    go_enter Tryd.func10, Tryd.ntmps10
    go_wp2_with (go_at_call 14; refine (hsz _).mono ?_; rintro e w1 ⟨rfl, rfl⟩)
    exact ret4u (M := 0) rfl rfl rfl rfl rfl (g0.congr hz0) ⟨rfl, b0⟩
  have HR : Hid (parseR l s = psGo l 0 0 (charsOf s)) := by show parseR l s = _; rw [parseR, if_neg h1, if_neg h2, if_neg h3]
  have hd := dash_ne h3
  clear h3
  have hs16 : s.size ≤ 65536 := by omega
  go_enter Tryd.func10, Tryd.ntmps10
  go_wp2_with (go_at_call 14; refine (hsz _).mono ?_; rintro e w1 ⟨rfl, rfl⟩)
  clear hsz
  go_loopw [9] (fun c wz => ∃ (pos fuel k N : Nat), Hid (psGo l N k (charsFrom s fuel pos) = psGo l 0 0 (charsOf s)) ∧ s.size ≤ pos + fuel ∧ k ≤ pos ∧ pos ≤ s.size ∧ c = .int .i64 k ∧ N < S100 ∧ wz.heap[w.heap.size]? = some (.cells #[.slice ad l.length cap, .map mb] 28 (0, 0)) ∧ Holds4 wz (w.heap.size + 1) (fun _ => 0) ∧ Holds4 wz (w.heap.size + 2) (wd N) ∧ wz.heap[w.heap.size + 3]? = some (.stringIter s pos) ∧ Below w.heap.size w wz) (fun _ wz => s.size - wz.iterPos (w.heap.size + 3))
  case atStart =>
    have hr : Hid (psGo l 0 0 (charsFrom s s.size 0) = psGo l 0 0 (charsOf s)) := rfl
    have hset0 : Holds4 ((((w.alloc (.cells #[.slice ad l.length cap, .map mb] 28)).alloc (.cells (cells4 (fun _ => 0)) 24)).alloc (.cells (cells4 (fun _ => 0)) 24)).alloc (.stringIter s 0)) (w.heap.size + 2) (fun _ => 0) := old_at (get_new (by simp))
    exact ⟨0, s.size, 0, 0, hr, by omega, by omega, by omega, rfl, by decide, old_at (old_at (old_at (new_at rfl))), old_at (old_at g0), hset0.congr hz0, new_at (by simp), (b0.alloc (by simp; omega) _).alloc (by simp; omega) _⟩
  case round =>
    obtain ⟨pos, fuel, k, N, hgo, hfu, hkp, hps, rfl, hN, hvar, hres, hset, hit, hbw⟩ := hrel
    have hlt := lt_at hit
    by_cases hp : pos < s.size
    · have hnx : ∀ ty, (Instr.next (.pointer (some ⟨w.heap.size + 3, 0, none⟩)) true ty).run Tryd.prog wr = .ok (.tuple #[.bool true, .int .i64 pos, .int .i32 (rn s pos)]) (wr.iterAt (w.heap.size + 3) s (pos + wdt s pos)) := fun ty => Lib.run_next_any_at wr (w.heap.size + 3) s pos ty hit hp
      have hwd := wdt_pos s pos
      have hwl := wdt_le s pos hp
      have hrn := rn_le s pos
      have hbi := Lib.below_iterAt (Below.refl (w.heap.size + 3) wr) (Nat.le_refl _) s (pos + wdt s pos)
      have hit2 := Lib.iterAt_heap wr (w.heap.size + 3) s pos (pos + wdt s pos) hit
      have hmeas : wr.iterPos (w.heap.size + 3) = pos := by simp only [World.iterPos, hit]
      have hwsz := Lib.iterAt_size wr (w.heap.size + 3) s (pos + wdt s pos)
      obtain ⟨f, rfl⟩ : ∃ f, fuel = f + 1 := ⟨fuel - 1, by omega⟩
      rw [charsFrom_step s f pos hp] at hgo
      generalize wr.iterAt (w.heap.size + 3) s (pos + wdt s pos) = W1 at *
      have hvar1 := (hbi.block _ (by omega)).trans hvar
      have hres1 := hres.keep hbi (by omega)
      have hset1 := hset.keep hbi (by omega)
      have hb1 : Below w.heap.size w W1 := hbw.trans (hbi.mono (by omega))
      have c0 := cell_at hvar1 0
      have c1 := cell_at hvar1 1
      obtain ⟨y0, y1, y2, y3, z0, z1, z2, z3⟩ := hset1.facts
      have hws := withSign_any W1 (h.below (hb1.mono hM)) (by omega) N hN (c := (rn s pos : Int)) (by omega) (by omega)
      have H1 : Hid (Holds4 W1 (w.heap.size + 1) (fun _ => 0)) := hres1
      have H2 : Hid (Holds4 W1 (w.heap.size + 2) (wd N)) := hset1
      clear hres1 hset1 hset hres
      by_cases hC : (rn s pos : Int) ∈ l ∧ N.testBit (l.idxOf (rn s pos : Int)) = false
      · have e1 : wsV l N (rn s pos : Int) = .tuple #[sv (N ||| 2 ^ l.idxOf (rn s pos : Int)), .int .i64 0] := by rw [wsV, if_pos hC.1, if_neg (by rw [hC.2]; decide)]
        have HG : Hid (psGo l (N ||| 2 ^ l.idxOf (rn s pos : Int)) (k + 1) (charsFrom s f (pos + wdt s pos)) = psGo l 0 0 (charsOf s)) := by
          have := hgo.out
          rw [psGo, if_pos hC.1, if_neg (by rw [hC.2]; decide)] at this
          exact this
        have hN2 := or_lt100 hN (idx_lt hsg hC.1)
        rw [e1] at hws
        clear e1 hC hgo
        generalize N ||| 2 ^ l.idxOf (rn s pos : Int) = N2 at *
        generalize (rn s pos : Int) = c at *
        simp only [sv] at hws
        go_wp2_with (go_at_call 28; refine hws.mono ?_; rintro e w2 ⟨rfl, hb2⟩; have hsz2 := hb2.size; have q2 := (H2.out).carry hb2; have hs2 := q2.lt; obtain ⟨x0, x1, x2, x3, r0, r1, r2, r3⟩ := q2.facts; have H3 : Hid (Holds4 w2 (w.heap.size + 2) (wd N)) := q2; clear q2)
        go_roundw
        case rel =>
          have k1 : Holds4 ((set4 w2 (w.heap.size + 2) N2).alloc (.cells (cells4 (wd N2)) 24)) (w.heap.size + 2) (wd N2) := get_old (fin4 H3.out N2)
          have k2 : ((set4 w2 (w.heap.size + 2) N2).alloc (.cells (cells4 (wd N2)) 24)).heap[w.heap.size]? = some (.cells #[.slice ad l.length cap, .map mb] 28 (0, 0)) := old_at ((set4_other _ _ _ _ (by omega)).trans ((hb2.block _ (by omega)).trans hvar1))
          have k3 : Holds4 ((set4 w2 (w.heap.size + 2) N2).alloc (.cells (cells4 (wd N2)) 24)) (w.heap.size + 1) (fun _ => 0) := old_at ((set4_other _ _ _ _ (by omega)).trans ((H1.out).carry hb2))
          have k4 : ((set4 w2 (w.heap.size + 2) N2).alloc (.cells (cells4 (wd N2)) 24)).heap[w.heap.size + 3]? = some (.stringIter s (pos + wdt s pos)) := old_at ((set4_other _ _ _ _ (by omega)).trans ((hb2.block _ (by omega)).trans hit2))
          have k5 : Below w.heap.size w ((set4 w2 (w.heap.size + 2) N2).alloc (.cells (cells4 (wd N2)) 24)) := (below4 (hb1.trans (hb2.mono (by omega))) (by omega) _).alloc (Nat.le_trans (Nat.le_of_lt (Nat.lt_of_le_of_lt (Nat.le_add_right _ _) (Holds4.lt (fin4 H3.out N2)))) (Nat.le_refl _)) _
          exact ⟨pos + wdt s pos, f, k + 1, N2, HG, by omega, by omega, hwl, by simp, hN2, k2, k3, k1, k4, k5⟩
        case measure =>
          have hI : ((set4 w2 (w.heap.size + 2) N2).alloc (.cells (cells4 (wd N2)) 24)).iterPos (w.heap.size + 3) = pos + wdt s pos := by
            have k4 : ((set4 w2 (w.heap.size + 2) N2).alloc (.cells (cells4 (wd N2)) 24)).heap[w.heap.size + 3]? = some (.stringIter s (pos + wdt s pos)) := old_at ((set4_other _ _ _ _ (by omega)).trans ((hb2.block _ (by omega)).trans hit2))
            simp only [World.iterPos, k4]
          change s.size - ((set4 w2 (w.heap.size + 2) N2).alloc (.cells (cells4 (wd N2)) 24)).iterPos (w.heap.size + 3) < s.size - wr.iterPos (w.heap.size + 3)
          rw [hI, hmeas]
          omega
      · have e0 : ∃ x : Int, x ≠ 0 ∧ wsV l N (rn s pos : Int) = .tuple #[sv 0, .int .i64 x] ∧ parseR l s = (0, (k : Int), x) := by
          have hq := HR.out.trans hgo.out.symm
          rw [psGo] at hq
          unfold wsV
          by_cases q1 : (rn s pos : Int) ∈ l
          · rw [if_pos q1] at hq ⊢
            by_cases q2 : N.testBit (l.idxOf (rn s pos : Int))
            · rw [if_pos q2] at hq ⊢; exact ⟨42, by decide, rfl, hq⟩
            · exact absurd ⟨q1, by simpa using q2⟩ hC
          · rw [if_neg q1] at hq ⊢; exact ⟨41, by decide, rfl, hq⟩
        obtain ⟨x, hx, e1, e2⟩ := e0
        have hne : (x == 0) = false := beq_eq_false_iff_ne.2 hx
        have HE : Hid (parseR l s = (0, (k : Int), x)) := e2
        rw [e1] at hws
        clear e1 e2 hC hgo hx HR
        generalize (rn s pos : Int) = c at *
        simp only [sv] at hws
        go_wp2_with (go_at_call 28; refine hws.mono ?_; rintro e w2 ⟨rfl, hb2⟩; have hsz2 := hb2.size; have q2 := (H1.out).carry hb2; have hs2 := q2.lt; obtain ⟨x0, x1, x2, x3, r0, r1, r2, r3⟩ := q2.facts; have H3 : Hid (Holds4 w2 (w.heap.size + 1) (fun _ => 0)) := q2; clear q2)
        rw [← set4z, HE.out]
        have k5 : Below w.heap.size w ((set4 w2 (w.heap.size + 1) 0).alloc (.cells (cells4 (wd 0)) 24)) := (below4 (hb1.trans (hb2.mono (by omega))) (by omega) _).alloc (Nat.le_of_lt (Nat.lt_of_le_of_lt (Nat.le_add_right _ _) (Holds4.lt (fin4 H3.out 0)))) _
        exact ret4u rfl rfl rfl rfl rfl (get_old (fin4 H3.out 0)) ⟨rfl, k5⟩
    · have hnx : ∀ ty, (Instr.next (.pointer (some ⟨w.heap.size + 3, 0, none⟩)) true ty).run Tryd.prog wr = .ok (.tuple #[.bool false]) wr := fun ty => Lib.run_next_end_at wr (w.heap.size + 3) s pos ty hit hp
      have HE : Hid (parseR l s = (N, 0, 0)) := by
        have := hgo.out
        rw [charsFrom_end s fuel pos hp, psGo] at this
        exact HR.out.trans this.symm
      clear hgo HR
      obtain ⟨y0, y1, y2, y3, z0, z1, z2, z3⟩ := hset.facts
      obtain ⟨x0, x1, x2, x3, r0, r1, r2, r3⟩ := hres.facts
      have H1 : Hid (Holds4 wr (w.heap.size + 1) (fun _ => 0)) := hres
      clear hset hres
      go_wp2
      rw [HE.out]
      exact ret4u rfl rfl rfl rfl rfl (fin4 H1.out N) ⟨rfl, below4 hbw (by omega) _⟩
end Go.Proofs.YtginkcjhfdoodabDoor
