/- RosterAsks: at every text, id and sign: Sign and Id answer as the document says. -/
import Derived.Test.YtginkcjhfdoodaaRows
import Derived.WalkKit
import Derived.ProofKit
import Derived.OpenShut
import Derived.ChangeMaps5
import Derived.Test.YtginkcjhfdoodaaRsc
import Derived.Test.YtginkcjhfdoodaaRfa
namespace Go.Proofs.Ytginkcjhfdoodaa
open Go.ChangeShapes Go.WideShapes Go.ChangeAt Go.RowKit Go.ChangeMaps
set_option linter.unusedVariables false


theorem own : ownKnob Try.prog.godebug = none := by kernel_rfl
open Go.Shelf Go.Lib
theorem sign_out {l : List Int} {i : Int} (h : ¬ (0 ≤ i ∧ i < l.length)) : signV l i = .tuple #[.int .i32 0, .int .i64 30] := by
  unfold signV
  by_cases h1 : i < 0
  · rw [if_pos h1]
  · rw [if_neg h1, List.getElem?_eq_none (by omega)]
theorem sign_in {l : List Int} {k : Nat} (h : k < l.length) : signV l (k : Int) = .tuple #[.int .i32 l[k], .int .i64 0] := by
  unfold signV
  rw [if_neg (by omega), Int.toNat_natCast, List.getElem?_eq_getElem h]
theorem bounds_i32 {x : Int} (h : (Lit.int .i32 x).wf = true) : -2147483648 ≤ x ∧ x ≤ 2147483647 := by
  simp [Lit.wf, IntKind.min, IntKind.max, IntKind.signed, IntKind.bits] at h
  omega
theorem RosR.cell {M : Nat} {W : World} {ad : Option Addr} {n cap : Nat} {l : List Int} (h : RosR M W (.agg #[.slice ad n cap]) l) {k : Nat} (hk : k < l.length) : ∃ g, ad = some ⟨g, 0, none⟩ ∧ n = l.length ∧ g < M ∧ l.length ≤ cap ∧ W.cell? ⟨g, k, none⟩ = some (.int .i64 l[k]) := by
  obtain ⟨_, sl, e, ⟨ad', cap', rfl, hf⟩⟩ := h
  simp at e
  obtain ⟨rfl, rfl, rfl⟩ := e
  obtain ⟨g, rfl, g1, g2, g3⟩ := hf (fun e => by subst e; simp at hk)
  exact ⟨g, rfl, rfl, g1, g2, g3 k _ (List.getElem?_eq_getElem hk)⟩
set_option maxHeartbeats 4000000 in
set_option maxRecDepth 100000 in
theorem walk (s0 : ByteArray) (w0 : s0.size ≤ maxLen) (a1 : Int) (w1 : (Lit.int .i64 a1).wf = true) (a2 : Int) (w2 : (Lit.int .i32 a2).wf = true) (w : World) :
    Calls Try.prog 6 #[.string s0, .int .i64 a1, .int .i32 a2] w fun e w' => e = .returned (.bool true) ∧ Below w.heap.size w w' := by
  have hrd := read_any s0 w0
  have hrr := rRead_any s0 w0
  have hal := alive_any
  unfold RdV at hrd
  unfold RdR at hrr
  have hsg := readR_signs s0
  generalize readR s0 = R at *
  obtain ⟨l, x, y⟩ := R
  dsimp only at hrd hrr hsg
  have hls := hsg.short
  obtain ⟨q1, q2⟩ := bounds_i32 w2
  by_cases hi : 0 ≤ a1 ∧ a1 < l.length
  · obtain ⟨k, rfl⟩ := Int.eq_ofNat_of_zero_le hi.1
    have hk : k < l.length := by omega
    have HS : Hid (signV l (k : Int) = .tuple #[.int .i32 l[k], .int .i64 0]) := sign_in hk
    have hlet := cls_letter (hsg.letter l[k] (List.getElem_mem hk))
    have HK : Hid (∀ {M : Nat} {W : World} {ad : Option Addr} {n cap : Nat}, RosR M W (.agg #[.slice ad n cap]) l → ∃ g, ad = some ⟨g, 0, none⟩ ∧ n = l.length ∧ g < M ∧ l.length ≤ cap ∧ W.cell? ⟨g, k, none⟩ = some (.int .i64 l[k])) := fun h => h.cell hk
    generalize l[k] = c at *
    clear hi
    by_cases hm : a2 ∈ l
    · have HI : Hid (idV l a2 = .tuple #[.int .i64 ((l.idxOf a2 : Nat) : Int), .int .i64 0]) := by show idV l a2 = _; rw [idV, if_pos hm]
      have HF : Hid (findV l a2 = ((l.idxOf a2 : Nat) : Int)) := by show findV l a2 = _; rw [findV, if_pos hm]
      have hkn : ¬ ((l.idxOf a2 : Nat) : Int) < 0 := by omega
      clear hm
      generalize l.idxOf a2 = m at *
      go_enter Try.func6, Try.ntmps6
      go_wp2_with (first | (go_at_call 7; refine (hrd _).mono ?_; rintro e u1 ⟨⟨v, rfl, hv⟩, hb1⟩; obtain ⟨ad, cap, mb, rfl⟩ := hv.form; have hz1 := hb1.size; have hv1 := hv.alloc (Nat.le_refl _) (.cells #[.slice ad l.length cap, .map mb] 25)) | (go_at_call 14; refine (hrr _).mono ?_; rintro e u2 ⟨⟨v, rfl, hr⟩, hb2⟩; obtain ⟨ar, cr, rfl⟩ := hr.form; have hz2 : u1.heap.size + 1 ≤ u2.heap.size := (by simpa using hb2.size); have hv2 := (hv1.call (by simp) hb2).alloc (by omega) (.cells #[.slice ar l.length cr] 45); have g2 : (u2.alloc (.cells #[.slice ar l.length cr] 45)).heap[u1.heap.size]? = some (.cells #[.slice ad l.length cap, .map mb] 25 (0, 0)) := old_at ((hb2.block _ (by simp)).trans (new_at rfl)); have c0 := cell_at g2 0; have c1 := cell_at g2 1; have hr2 := hr.alloc (Nat.le_refl _) (.cells #[.slice ar l.length cr] 45)) | (go_at_call 12; refine (sign_any _ hv2 (by simp; omega) _).mono ?_; rintro e u3 ⟨rfl, hb3⟩; rw [HS.out]; have hz3 : u2.heap.size + 1 ≤ u3.heap.size := (by simpa using hb3.size); have hv3 := hv2.call (by simp; omega) hb3; have hr3 := hr2.call (by simp) hb3; have g3 := (hb3.block _ (by simp; omega)).trans g2; have k3 : u3.heap[u2.heap.size]? = some (.cells #[.slice ar l.length cr] 45 (0, 0)) := (hb3.block _ (by simp)).trans (new_at rfl); have d0 := cell_at g3 0; have d1 := cell_at g3 1; have d2 := cell_at k3 0; have hlt3 := lt_at k3; obtain ⟨g, rfl, _, hgl, hgc, hcell⟩ := HK.out hr3; have hgs : g < u3.heap.size := (by omega)) | (go_at_call 13; refine (id_any _ hv3 (by omega) q1 q2).mono ?_; rintro e u4 ⟨rfl, hb4⟩; rw [HI.out]; have hz4 := hb4.size; have k4 := (hb4.block _ (by omega)).trans k3; have e0 := cell_at k4 0; have hr4 := hr3.call (by omega) hb4; have hlt4 := lt_at k4) | (go_at_call 16; refine (rId_any _ hr4 (by omega) _).mono ?_; rintro e u5 ⟨rfl, hb5⟩; rw [HF.out]; have hz5 := hb5.size) | (go_at_call 9; refine (hal _).mono ?_; rintro e u6 ⟨rfl, hb6⟩))
      go_ret
      exact ⟨rfl, (((((hb1.alloc hz1 _).trans (hb2.mono (by simp; omega))).alloc (by omega) _).trans (hb3.mono (by simp; omega))).trans (hb4.mono (by omega))).trans ((hb5.mono (by omega)).trans (hb6.mono (by omega)))⟩
    · have HI : Hid (idV l a2 = .tuple #[.int .i64 0, .int .i64 41]) := by show idV l a2 = _; rw [idV, if_neg hm]
      have HF : Hid (findV l a2 = -1) := by show findV l a2 = _; rw [findV, if_neg hm]
      clear hm
      go_enter Try.func6, Try.ntmps6
      go_wp2_with (first | (go_at_call 7; refine (hrd _).mono ?_; rintro e u1 ⟨⟨v, rfl, hv⟩, hb1⟩; obtain ⟨ad, cap, mb, rfl⟩ := hv.form; have hz1 := hb1.size; have hv1 := hv.alloc (Nat.le_refl _) (.cells #[.slice ad l.length cap, .map mb] 25)) | (go_at_call 14; refine (hrr _).mono ?_; rintro e u2 ⟨⟨v, rfl, hr⟩, hb2⟩; obtain ⟨ar, cr, rfl⟩ := hr.form; have hz2 : u1.heap.size + 1 ≤ u2.heap.size := (by simpa using hb2.size); have hv2 := (hv1.call (by simp) hb2).alloc (by omega) (.cells #[.slice ar l.length cr] 45); have g2 : (u2.alloc (.cells #[.slice ar l.length cr] 45)).heap[u1.heap.size]? = some (.cells #[.slice ad l.length cap, .map mb] 25 (0, 0)) := old_at ((hb2.block _ (by simp)).trans (new_at rfl)); have c0 := cell_at g2 0; have c1 := cell_at g2 1; have hr2 := hr.alloc (Nat.le_refl _) (.cells #[.slice ar l.length cr] 45)) | (go_at_call 12; refine (sign_any _ hv2 (by simp; omega) _).mono ?_; rintro e u3 ⟨rfl, hb3⟩; rw [HS.out]; have hz3 : u2.heap.size + 1 ≤ u3.heap.size := (by simpa using hb3.size); have hv3 := hv2.call (by simp; omega) hb3; have hr3 := hr2.call (by simp) hb3; have g3 := (hb3.block _ (by simp; omega)).trans g2; have k3 : u3.heap[u2.heap.size]? = some (.cells #[.slice ar l.length cr] 45 (0, 0)) := (hb3.block _ (by simp)).trans (new_at rfl); have d0 := cell_at g3 0; have d1 := cell_at g3 1; have d2 := cell_at k3 0; have hlt3 := lt_at k3; obtain ⟨g, rfl, _, hgl, hgc, hcell⟩ := HK.out hr3; have hgs : g < u3.heap.size := (by omega)) | (go_at_call 13; refine (id_any _ hv3 (by omega) q1 q2).mono ?_; rintro e u4 ⟨rfl, hb4⟩; rw [HI.out]; have hz4 := hb4.size; have k4 := (hb4.block _ (by omega)).trans k3; have e0 := cell_at k4 0; have hr4 := hr3.call (by omega) hb4; have hlt4 := lt_at k4) | (go_at_call 16; refine (rId_any _ hr4 (by omega) _).mono ?_; rintro e u5 ⟨rfl, hb5⟩; rw [HF.out]; have hz5 := hb5.size) | (go_at_call 9; refine (hal _).mono ?_; rintro e u6 ⟨rfl, hb6⟩))
      go_ret
      exact ⟨rfl, (((((hb1.alloc hz1 _).trans (hb2.mono (by simp; omega))).alloc (by omega) _).trans (hb3.mono (by simp; omega))).trans (hb4.mono (by omega))).trans ((hb5.mono (by omega)).trans (hb6.mono (by omega)))⟩
  · have HS : Hid (signV l a1 = .tuple #[.int .i32 0, .int .i64 30]) := sign_out hi
    by_cases h1 : a1 < 0
    · clear hi
      by_cases hm : a2 ∈ l
      · have HI : Hid (idV l a2 = .tuple #[.int .i64 ((l.idxOf a2 : Nat) : Int), .int .i64 0]) := by show idV l a2 = _; rw [idV, if_pos hm]
        have HF : Hid (findV l a2 = ((l.idxOf a2 : Nat) : Int)) := by show findV l a2 = _; rw [findV, if_pos hm]
        have hkn : ¬ ((l.idxOf a2 : Nat) : Int) < 0 := by omega
        clear hm
        generalize l.idxOf a2 = m at *
        go_enter Try.func6, Try.ntmps6
        go_wp2_with (first | (go_at_call 7; refine (hrd _).mono ?_; rintro e u1 ⟨⟨v, rfl, hv⟩, hb1⟩; obtain ⟨ad, cap, mb, rfl⟩ := hv.form; have hz1 := hb1.size; have hv1 := hv.alloc (Nat.le_refl _) (.cells #[.slice ad l.length cap, .map mb] 25)) | (go_at_call 14; refine (hrr _).mono ?_; rintro e u2 ⟨⟨v, rfl, hr⟩, hb2⟩; obtain ⟨ar, cr, rfl⟩ := hr.form; have hz2 : u1.heap.size + 1 ≤ u2.heap.size := (by simpa using hb2.size); have hv2 := (hv1.call (by simp) hb2).alloc (by omega) (.cells #[.slice ar l.length cr] 45); have g2 : (u2.alloc (.cells #[.slice ar l.length cr] 45)).heap[u1.heap.size]? = some (.cells #[.slice ad l.length cap, .map mb] 25 (0, 0)) := old_at ((hb2.block _ (by simp)).trans (new_at rfl)); have c0 := cell_at g2 0; have c1 := cell_at g2 1; have hr2 := hr.alloc (Nat.le_refl _) (.cells #[.slice ar l.length cr] 45)) | (go_at_call 12; refine (sign_any _ hv2 (by simp; omega) _).mono ?_; rintro e u3 ⟨rfl, hb3⟩; rw [HS.out]; have hz3 : u2.heap.size + 1 ≤ u3.heap.size := (by simpa using hb3.size); have hv3 := hv2.call (by simp; omega) hb3; have hr3 := hr2.call (by simp) hb3; have g3 := (hb3.block _ (by simp; omega)).trans g2; have k3 : u3.heap[u2.heap.size]? = some (.cells #[.slice ar l.length cr] 45 (0, 0)) := (hb3.block _ (by simp)).trans (new_at rfl); have d0 := cell_at g3 0; have d1 := cell_at g3 1; have d2 := cell_at k3 0; have hlt3 := lt_at k3) | (go_at_call 13; refine (id_any _ hv3 (by omega) q1 q2).mono ?_; rintro e u4 ⟨rfl, hb4⟩; rw [HI.out]; have hz4 := hb4.size; have k4 := (hb4.block _ (by omega)).trans k3; have e0 := cell_at k4 0; have hr4 := hr3.call (by omega) hb4; have hlt4 := lt_at k4) | (go_at_call 16; refine (rId_any _ hr4 (by omega) _).mono ?_; rintro e u5 ⟨rfl, hb5⟩; rw [HF.out]; have hz5 := hb5.size) | (go_at_call 9; refine (hal _).mono ?_; rintro e u6 ⟨rfl, hb6⟩))
        go_ret
        exact ⟨rfl, (((((hb1.alloc hz1 _).trans (hb2.mono (by simp; omega))).alloc (by omega) _).trans (hb3.mono (by simp; omega))).trans (hb4.mono (by omega))).trans ((hb5.mono (by omega)).trans (hb6.mono (by omega)))⟩
      · have HI : Hid (idV l a2 = .tuple #[.int .i64 0, .int .i64 41]) := by show idV l a2 = _; rw [idV, if_neg hm]
        have HF : Hid (findV l a2 = -1) := by show findV l a2 = _; rw [findV, if_neg hm]
        clear hm
        go_enter Try.func6, Try.ntmps6
        go_wp2_with (first | (go_at_call 7; refine (hrd _).mono ?_; rintro e u1 ⟨⟨v, rfl, hv⟩, hb1⟩; obtain ⟨ad, cap, mb, rfl⟩ := hv.form; have hz1 := hb1.size; have hv1 := hv.alloc (Nat.le_refl _) (.cells #[.slice ad l.length cap, .map mb] 25)) | (go_at_call 14; refine (hrr _).mono ?_; rintro e u2 ⟨⟨v, rfl, hr⟩, hb2⟩; obtain ⟨ar, cr, rfl⟩ := hr.form; have hz2 : u1.heap.size + 1 ≤ u2.heap.size := (by simpa using hb2.size); have hv2 := (hv1.call (by simp) hb2).alloc (by omega) (.cells #[.slice ar l.length cr] 45); have g2 : (u2.alloc (.cells #[.slice ar l.length cr] 45)).heap[u1.heap.size]? = some (.cells #[.slice ad l.length cap, .map mb] 25 (0, 0)) := old_at ((hb2.block _ (by simp)).trans (new_at rfl)); have c0 := cell_at g2 0; have c1 := cell_at g2 1; have hr2 := hr.alloc (Nat.le_refl _) (.cells #[.slice ar l.length cr] 45)) | (go_at_call 12; refine (sign_any _ hv2 (by simp; omega) _).mono ?_; rintro e u3 ⟨rfl, hb3⟩; rw [HS.out]; have hz3 : u2.heap.size + 1 ≤ u3.heap.size := (by simpa using hb3.size); have hv3 := hv2.call (by simp; omega) hb3; have hr3 := hr2.call (by simp) hb3; have g3 := (hb3.block _ (by simp; omega)).trans g2; have k3 : u3.heap[u2.heap.size]? = some (.cells #[.slice ar l.length cr] 45 (0, 0)) := (hb3.block _ (by simp)).trans (new_at rfl); have d0 := cell_at g3 0; have d1 := cell_at g3 1; have d2 := cell_at k3 0; have hlt3 := lt_at k3) | (go_at_call 13; refine (id_any _ hv3 (by omega) q1 q2).mono ?_; rintro e u4 ⟨rfl, hb4⟩; rw [HI.out]; have hz4 := hb4.size; have k4 := (hb4.block _ (by omega)).trans k3; have e0 := cell_at k4 0; have hr4 := hr3.call (by omega) hb4; have hlt4 := lt_at k4) | (go_at_call 16; refine (rId_any _ hr4 (by omega) _).mono ?_; rintro e u5 ⟨rfl, hb5⟩; rw [HF.out]; have hz5 := hb5.size) | (go_at_call 9; refine (hal _).mono ?_; rintro e u6 ⟨rfl, hb6⟩))
        go_ret
        exact ⟨rfl, (((((hb1.alloc hz1 _).trans (hb2.mono (by simp; omega))).alloc (by omega) _).trans (hb3.mono (by simp; omega))).trans (hb4.mono (by omega))).trans ((hb5.mono (by omega)).trans (hb6.mono (by omega)))⟩
    · have h2 : (l.length : Int) ≤ a1 := by omega
      clear hi
      by_cases hm : a2 ∈ l
      · have HI : Hid (idV l a2 = .tuple #[.int .i64 ((l.idxOf a2 : Nat) : Int), .int .i64 0]) := by show idV l a2 = _; rw [idV, if_pos hm]
        have HF : Hid (findV l a2 = ((l.idxOf a2 : Nat) : Int)) := by show findV l a2 = _; rw [findV, if_pos hm]
        have hkn : ¬ ((l.idxOf a2 : Nat) : Int) < 0 := by omega
        clear hm
        generalize l.idxOf a2 = m at *
        go_enter Try.func6, Try.ntmps6
        go_wp2_with (first | (go_at_call 7; refine (hrd _).mono ?_; rintro e u1 ⟨⟨v, rfl, hv⟩, hb1⟩; obtain ⟨ad, cap, mb, rfl⟩ := hv.form; have hz1 := hb1.size; have hv1 := hv.alloc (Nat.le_refl _) (.cells #[.slice ad l.length cap, .map mb] 25)) | (go_at_call 14; refine (hrr _).mono ?_; rintro e u2 ⟨⟨v, rfl, hr⟩, hb2⟩; obtain ⟨ar, cr, rfl⟩ := hr.form; have hz2 : u1.heap.size + 1 ≤ u2.heap.size := (by simpa using hb2.size); have hv2 := (hv1.call (by simp) hb2).alloc (by omega) (.cells #[.slice ar l.length cr] 45); have g2 : (u2.alloc (.cells #[.slice ar l.length cr] 45)).heap[u1.heap.size]? = some (.cells #[.slice ad l.length cap, .map mb] 25 (0, 0)) := old_at ((hb2.block _ (by simp)).trans (new_at rfl)); have c0 := cell_at g2 0; have c1 := cell_at g2 1; have hr2 := hr.alloc (Nat.le_refl _) (.cells #[.slice ar l.length cr] 45)) | (go_at_call 12; refine (sign_any _ hv2 (by simp; omega) _).mono ?_; rintro e u3 ⟨rfl, hb3⟩; rw [HS.out]; have hz3 : u2.heap.size + 1 ≤ u3.heap.size := (by simpa using hb3.size); have hv3 := hv2.call (by simp; omega) hb3; have hr3 := hr2.call (by simp) hb3; have g3 := (hb3.block _ (by simp; omega)).trans g2; have k3 : u3.heap[u2.heap.size]? = some (.cells #[.slice ar l.length cr] 45 (0, 0)) := (hb3.block _ (by simp)).trans (new_at rfl); have d0 := cell_at g3 0; have d1 := cell_at g3 1; have d2 := cell_at k3 0; have hlt3 := lt_at k3) | (go_at_call 13; refine (id_any _ hv3 (by omega) q1 q2).mono ?_; rintro e u4 ⟨rfl, hb4⟩; rw [HI.out]; have hz4 := hb4.size; have k4 := (hb4.block _ (by omega)).trans k3; have e0 := cell_at k4 0; have hr4 := hr3.call (by omega) hb4; have hlt4 := lt_at k4) | (go_at_call 16; refine (rId_any _ hr4 (by omega) _).mono ?_; rintro e u5 ⟨rfl, hb5⟩; rw [HF.out]; have hz5 := hb5.size) | (go_at_call 9; refine (hal _).mono ?_; rintro e u6 ⟨rfl, hb6⟩))
        go_ret
        exact ⟨rfl, (((((hb1.alloc hz1 _).trans (hb2.mono (by simp; omega))).alloc (by omega) _).trans (hb3.mono (by simp; omega))).trans (hb4.mono (by omega))).trans ((hb5.mono (by omega)).trans (hb6.mono (by omega)))⟩
      · have HI : Hid (idV l a2 = .tuple #[.int .i64 0, .int .i64 41]) := by show idV l a2 = _; rw [idV, if_neg hm]
        have HF : Hid (findV l a2 = -1) := by show findV l a2 = _; rw [findV, if_neg hm]
        clear hm
        go_enter Try.func6, Try.ntmps6
        go_wp2_with (first | (go_at_call 7; refine (hrd _).mono ?_; rintro e u1 ⟨⟨v, rfl, hv⟩, hb1⟩; obtain ⟨ad, cap, mb, rfl⟩ := hv.form; have hz1 := hb1.size; have hv1 := hv.alloc (Nat.le_refl _) (.cells #[.slice ad l.length cap, .map mb] 25)) | (go_at_call 14; refine (hrr _).mono ?_; rintro e u2 ⟨⟨v, rfl, hr⟩, hb2⟩; obtain ⟨ar, cr, rfl⟩ := hr.form; have hz2 : u1.heap.size + 1 ≤ u2.heap.size := (by simpa using hb2.size); have hv2 := (hv1.call (by simp) hb2).alloc (by omega) (.cells #[.slice ar l.length cr] 45); have g2 : (u2.alloc (.cells #[.slice ar l.length cr] 45)).heap[u1.heap.size]? = some (.cells #[.slice ad l.length cap, .map mb] 25 (0, 0)) := old_at ((hb2.block _ (by simp)).trans (new_at rfl)); have c0 := cell_at g2 0; have c1 := cell_at g2 1; have hr2 := hr.alloc (Nat.le_refl _) (.cells #[.slice ar l.length cr] 45)) | (go_at_call 12; refine (sign_any _ hv2 (by simp; omega) _).mono ?_; rintro e u3 ⟨rfl, hb3⟩; rw [HS.out]; have hz3 : u2.heap.size + 1 ≤ u3.heap.size := (by simpa using hb3.size); have hv3 := hv2.call (by simp; omega) hb3; have hr3 := hr2.call (by simp) hb3; have g3 := (hb3.block _ (by simp; omega)).trans g2; have k3 : u3.heap[u2.heap.size]? = some (.cells #[.slice ar l.length cr] 45 (0, 0)) := (hb3.block _ (by simp)).trans (new_at rfl); have d0 := cell_at g3 0; have d1 := cell_at g3 1; have d2 := cell_at k3 0; have hlt3 := lt_at k3) | (go_at_call 13; refine (id_any _ hv3 (by omega) q1 q2).mono ?_; rintro e u4 ⟨rfl, hb4⟩; rw [HI.out]; have hz4 := hb4.size; have k4 := (hb4.block _ (by omega)).trans k3; have e0 := cell_at k4 0; have hr4 := hr3.call (by omega) hb4; have hlt4 := lt_at k4) | (go_at_call 16; refine (rId_any _ hr4 (by omega) _).mono ?_; rintro e u5 ⟨rfl, hb5⟩; rw [HF.out]; have hz5 := hb5.size) | (go_at_call 9; refine (hal _).mono ?_; rintro e u6 ⟨rfl, hb6⟩))
        go_ret
        exact ⟨rfl, (((((hb1.alloc hz1 _).trans (hb2.mono (by simp; omega))).alloc (by omega) _).trans (hb3.mono (by simp; omega))).trans (hb4.mono (by omega))).trans ((hb5.mono (by omega)).trans (hb6.mono (by omega)))⟩

set_option maxRecDepth 100000 in
theorem lifted (os : Os) (started : os.Started) (H : Type) (enc : TypeId × Value → H) :
    ReturnsInHanded {} Try.checked os 6 .any (Rows.rosterAsksSpec.pre6 enc Try.prog Try.f6 Rows.rosterAsksRow.domain false) (Rows.rosterAsksSpec.post enc Try.prog Try.f6 false true false false) := by
  refine returnsInHanded_of_change (C := Try.checked) own started (by kernel_rfl) Try.func6
    (ChangeSpec.witness6 (enc := enc) (C := Try.checked) false ⟨#[], #[.string ByteArray.empty, .int .i64 0, .int .i32 0], []⟩ 8 (by kernel_rfl) (by kernel_rfl) (by kernel_rfl) (by kernel_rfl)) ?_
  intro W base args ds gs before hval0 hW hcnd _
  have hval : ∀ (j : Nat) t v, Try.f6.params[j]? = some t → args[j]? = some v → Value.okWide Try.prog W .any base t v := hval0
  have hW' := hW
  obtain ⟨p, q, hA0, hV, rfl, hfz, hnd⟩ := hW
  have hA : DataW.TrodAll enc Try.prog W 0 (fun _ => true) true Try.f6.params.toList args.toList ds p := hA0
  rw [Try.params6] at hA hval
  obtain ⟨v0, vs0, d0, ds0, p0, q0, hargs, rfl, rfl, h0, r0⟩ := trodAll_cons hA
  obtain ⟨v1, vs1, d1, ds1, p1, q1, rfl, rfl, rfl, h1, r1⟩ := trodAll_cons r0
  obtain ⟨v2, vs2, d2, ds2, p2, q2, rfl, rfl, rfl, h2, r2⟩ := trodAll_cons r1
  obtain ⟨rfl, rfl, rfl⟩ := trodAll_nil r2
  obtain rfl : args = #[v0, v1, v2] := by cases args; simp_all
  obtain ⟨rfl, rfl⟩ := trodVars_none hV
  obtain ⟨s0, rfl, rfl, rfl, w0⟩ := open_string Try.underlying9 (hval 0 9 v0 rfl rfl) h0
  obtain ⟨a1, rfl, rfl, rfl, w1⟩ := open_int Try.underlying3 (hval 1 3 v1 rfl rfl) h1
  obtain ⟨a2, rfl, rfl, rfl, w2⟩ := open_int Try.underlying21 (hval 2 21 v2 rfl rfl) h2
  clear hA0 hval0
  simp only [List.append_nil] at hW'
  refine (walk s0 w0 a1 w1 a2 w2 W).mono fun e W' ⟨he, hg⟩ => ?_
  subst he
  exact ⟨_, rfl, _, _, _, [], _, [], hW', (trodAll_cons_mk (shut_bool Try.underlying4 _) trodAll_mk0), (trodAll_cons_mk (shut_string Try.underlying9 w0) (trodAll_cons_mk (shut_int Try.underlying3 w1) (trodAll_cons_mk (shut_int Try.underlying21 w2) trodAll_mk0))), rfl, hg.frame _, fun h => by cases h⟩

theorem over : Rows.rosterAsksRow.holds Try.pinned (OpenSpec.ofChange Rows.rosterAsksSpec) :=
  OpenClaim.holds_of_wide 6 Try.f6 rfl rfl rfl rfl rfl rfl rfl ⟨rfl, rfl, rfl, rfl, rfl⟩ rfl rfl rfl rfl rfl (by kernel_rfl) Try.func6 (by kernel_rfl)
    (of_decide_eq_true (by kernel_rfl)) (by unfold Func.isWrapper; first | (rw [if_pos (by decide +kernel)]; kernel_rfl) | (rw [if_neg (by decide +kernel)]; exact ⟨rfl, rfl⟩))
    (fun os started H enc _ => lifted os started H enc)

theorem proved : Rows.RosterAsksSaid :=
  over
#print axioms proved
end Go.Proofs.Ytginkcjhfdoodaa
