/- The document's Least and Nth; two lists of numbers held against each other: what they answer, at every input. -/
import Derived.Test.YtahlehgibcdfeabDoorRft
import Derived.Test.YtahlehgibcdfeabDoorLst
namespace Go.Proofs.YtahlehgibcdfeabDoor
open Go.RowKit Go.Shelf Go.Lib

set_option maxHeartbeats 1000000 in
theorem rLeast_any (N : Nat) (w : World) : Calls Tryd.prog 18 #[sv N] w fun e w' => e = .returned (.int .i64 (leastZ (cln N))) ∧ Below w.heap.size w w' := by
  have hr := rIds_any N
  have hl : leastZ (cln N) = headZ (idsTo N 100) := by rw [leastZ, idsTo_cln]
  rw [hl]
  have hlen : (idsTo N 100).length ≤ 100 := by rw [idsTo_length]; exact popAux_le 100 N
  generalize idsTo N 100 = l at *
  simp only [sv] at hr ⊢
  go_enter Tryd.func18, Tryd.ntmps18
  cases l with
  | nil =>
    go_wp2_with (go_at_call 21; refine (hr _).mono ?_; rintro e w1 ⟨v, rfl, hown, hb1⟩; obtain ⟨ad, cap, rfl, _⟩ := ownsRow_form hown)
    go_ret
    exact ⟨rfl, bcarry (alloc_below w _) (Nat.le_refl _) (by simpa using hb1)⟩
  | cons x r =>
    have hz : (((r.length : Int) + 1) == 0) = false := by simp; omega
    go_wp2_with (go_at_call 21; refine (hr _).mono ?_; rintro e w1 ⟨v, rfl, hown, hb1⟩; obtain ⟨ad, cap, rfl, hf⟩ := ownsRow_form hown; obtain ⟨g, rfl, hg1, hg2, hg3, hg4⟩ := hf (by simp); have hc0 := hg4 0 _ (intsV_get (x := x) rfl); clear hg4 hf)
    go_ret
    exact ⟨rfl, bcarry (alloc_below w _) (Nat.le_refl _) (by simpa using hb1)⟩
set_option maxHeartbeats 1000000 in
theorem rNth_any (N : Nat) (k : Int) (w : World) : Calls Tryd.prog 9 #[sv N, .int .i64 k] w fun e w' => e = .returned (nthV (cln N) k) ∧ Below w.heap.size w w' := by
  have hr := rIds_any N
  have hl : nthO (cln N) k = if k < 0 then none else (idsTo N 100)[k.toNat]? := by rw [nthO, idsTo_cln]
  have hlen : (idsTo N 100).length ≤ 100 := by rw [idsTo_length]; exact popAux_le 100 N
  unfold nthV
  rw [hl]
  clear hl
  generalize idsTo N 100 = l at *
  simp only [sv] at hr ⊢
  go_enter Tryd.func9, Tryd.ntmps9
  by_cases h0 : k < 0
  · simp only [h0, if_true]
    go_wp2_with (go_at_call 21; refine (hr _).mono ?_; rintro e w1 ⟨v, rfl, hown, hb1⟩; obtain ⟨ad, cap, rfl, _⟩ := ownsRow_form hown)
    exact bodyPost_ret (v := .tuple #[.int .i64 0, .int .i64 3]) (by simp [results, Tryd.results9, go_sem]) rfl ⟨rfl, bcarry (alloc_below w _) (Nat.le_refl _) (by simpa using hb1)⟩
  · obtain ⟨i, rfl⟩ := Int.eq_ofNat_of_zero_le (show 0 ≤ k by omega)
    simp only [h0, if_false, Int.toNat_natCast]
    by_cases h1 : i < l.length
    · obtain ⟨x, hx⟩ : ∃ x, l[i]? = some x := ⟨_, List.getElem?_eq_getElem h1⟩
      rw [hx]
      have t1 : ¬ (i : Int) ≥ (l.length : Int) := by omega
      have t2 : ¬ (l.length : Int) ≤ (i : Int) := by omega
      have t3 : (i : Int) < (l.length : Int) := by omega
      go_wp2_with (go_at_call 21; refine (hr _).mono ?_; rintro e w1 ⟨v, rfl, hown, hb1⟩; obtain ⟨ad, cap, rfl, hf⟩ := ownsRow_form hown; obtain ⟨g, rfl, hg1, hg2, hg3, hg4⟩ := hf (by omega); have hc0 := hg4 i _ (intsV_get hx); clear hg4 hf)
      exact bodyPost_ret (v := .tuple #[.int .i64 (x : Nat), .int .i64 0]) (by simp [results, Tryd.results9, go_sem]) rfl ⟨rfl, bcarry (alloc_below w _) (Nat.le_refl _) (by simpa using hb1)⟩
    · rw [List.getElem?_eq_none (by omega)]
      have t1 : (i : Int) ≥ (l.length : Int) := by omega
      have t2 : (l.length : Int) ≤ (i : Int) := by omega
      go_wp2_with (go_at_call 21; refine (hr _).mono ?_; rintro e w1 ⟨v, rfl, hown, hb1⟩; obtain ⟨ad, cap, rfl, _⟩ := ownsRow_form hown)
      exact bodyPost_ret (v := .tuple #[.int .i64 0, .int .i64 3]) (by simp [results, Tryd.results9, go_sem]) rfl ⟨rfl, bcarry (alloc_below w _) (Nat.le_refl _) (by simpa using hb1)⟩
set_option maxHeartbeats 1000000 in
set_option maxRecDepth 100000 in
theorem same_any (l : List Nat) (hl : l.length < 9223372036854775807) (v u : Value) (w : World) (hv : RdL w v l) (hu : RdL w u l) : Calls Tryd.prog 19 #[v, u] w fun e w' => e = .returned (.bool true) ∧ Below w.heap.size w w' := by
  have hmx : Tryd.prog.follows .mixedOrders = true := by kernel_rfl
  obtain ⟨a, ca, rfl, ha⟩ := hv
  obtain ⟨b, cb, rfl, hb⟩ := hu
  go_enter Tryd.func19, Tryd.ntmps19
  go_wp2
  go_loopw [5] (fun c wz => ∃ k : Nat, c = .int .i64 k ∧ k ≤ l.length ∧ Below w.heap.size w wz) (fun c _ => l.length - vnat c)
  case atStart => exact ⟨0, rfl, by omega, Below.refl _ w⟩
  case round =>
    obtain ⟨k, rfl, hk, hB⟩ := hrel
    by_cases hk4 : k < l.length
    · obtain ⟨x, hx⟩ : ∃ x, l[k]? = some x := ⟨_, List.getElem?_eq_getElem hk4⟩
      obtain ⟨g, o, rfl, g1, g2, g3⟩ := ha k x hx
      obtain ⟨g', o', rfl, g1', g2', g3'⟩ := hb k x hx
      have hki : (k : Int) < (l.length : Int) := by omega
      have c1 := (hB.cell (p := ⟨g, o + k, none⟩) g1).trans g3
      have c2 := (hB.cell (p := ⟨g', o' + k, none⟩) g1').trans g3'
      clear g3 g3'
      clear ha hb
      go_wp2
      rename_i Q0 K0 hK
      refine wp_region_any hmx ?_
      refine wpAny_pure (fun i__ => ([(.slice (some ⟨g, o, none⟩) l.length ca), (.int .i64 (k : Int)), (.pointer (some ⟨g, o + k, none⟩)), (.int .i64 ((x : Nat) : Int)), (.slice (some ⟨g', o', none⟩) l.length cb), (.int .i64 (k : Int)), (.pointer (some ⟨g', o' + k, none⟩)), (.int .i64 ((x : Nat) : Int)), (.bool true), (.bool false)] : List Value).getD i__ undef) (fun W => W.cell? ⟨g, o + k, none⟩ = some (.int .i64 ((x : Nat) : Int)) ∧ W.cell? ⟨g', o' + k, none⟩ = some (.int .i64 ((x : Nat) : Int)) ∧ Below w.heap.size w W) (by kernel_rfl) ⟨c1, c2, hB.drew⟩ ?_ ?_
      · refine (stepsFrom_cons ?_ (stepsFrom_cons ?_ (stepsFrom_cons ?_ (stepsFrom_cons ?_ (stepsFrom_cons ?_ (stepsFrom_cons ?_ (stepsFrom_cons ?_ (stepsFrom_cons ?_ (stepsFrom_cons ?_ (stepsFrom_cons ?_ trivial))))))))))
        · exact step_move rfl trivial _ rfl (by kernel_rfl)
        · exact step_move rfl trivial _ rfl (by kernel_rfl)
        · exact step_indexAddr rfl trivial _ _ _ _ _ rfl rfl rfl (fun w hw => by go_simp)
        · exact step_load rfl trivial _ _ _ rfl rfl (fun w hw => by have := hw.1; go_simp)
        · exact step_move rfl trivial _ rfl (by kernel_rfl)
        · exact step_move rfl trivial _ rfl (by kernel_rfl)
        · exact step_indexAddr rfl trivial _ _ _ _ _ rfl rfl rfl (fun w hw => by go_simp)
        · exact step_load rfl trivial _ _ _ rfl rfl (fun w hw => by have := hw.2.1; go_simp)
        · exact step_binOp rfl trivial _ _ _ _ _ _ _ rfl rfl rfl (fun w hw => (bin_eql .i64 _ _).trans (by simp))
        · exact step_unOp rfl trivial _ _ _ _ rfl rfl (fun w hw => by go_simp)
      intro W hW
      first | refine hK _ _ ?_ | refine (‹∀ (a : Act) (w : World), Code.wp Tryd.prog _ _ a w → _›) _ _ ?_
      simp only [finL, List.getD_cons_zero, List.getD_cons_succ, Nat.zero_add, Nat.reduceAdd, List.setIfInBounds_toArray, List.set_cons_zero, List.set_cons_succ]
      go_wp2
      go_roundw
      case rel => exact ⟨k + 1, by simp, by omega, hW.2.2⟩
      case measure => simp only [vnat]; omega
    · have hk5 : k = l.length := by omega
      subst hk5
      go_wp2
      go_ret
      exact ⟨rfl, hB⟩
end Go.Proofs.YtahlehgibcdfeabDoor
