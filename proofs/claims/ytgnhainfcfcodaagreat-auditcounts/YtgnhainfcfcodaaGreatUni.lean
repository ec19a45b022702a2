/- idset.Union, Meet, Less: what they answer, at every input. -/
import Derived.Test.YtgnhainfcfcodaaGreatBlw
namespace Go.Proofs.YtgnhainfcfcodaaGreat
open Go.RowKit Go.Shelf Go.Lib

set_option maxHeartbeats 1000000 in
set_option maxRecDepth 100000 in
theorem less_any (A B : Nat) (w : World) : Calls Tryz.prog 115 #[sv A, sv B] w fun e w' => e = .returned (sv (cln (dif A B))) ∧ Below w.heap.size w w' := by
  have hmx : Tryz.prog.follows .mixedOrders = true := by kernel_rfl
  have hc := clean_any (dif A B)
  have hmix : ∀ k j, (if j = k then wd A k &&& (4294967295 - wd B k) else if j < k then wd (dif A B) j else wd A j) = if j < k + 1 then wd (dif A B) j else wd A j := by
    intro k j
    by_cases q : j = k
    · subst q; simp [wd_dif]
    · by_cases q2 : j < k
      · rw [if_neg q, if_pos q2, if_pos (by omega)]
      · rw [if_neg q, if_neg q2, if_neg (by omega)]
  simp only [sv] at hc ⊢
  go_enter Tryz.func115, Tryz.ntmps115
  go_wp2
  go_loopw [6] (fun c wz => ∃ k : Nat, c = .int .i64 k ∧ k ≤ 4 ∧ Holds4 wz w.heap.size (fun j => if j < k then wd (dif A B) j else wd A j) ∧ Holds4 wz (w.heap.size + 1) (wd B) ∧ Holds4 wz (w.heap.size + 2) (fun _ => 0) ∧ Below w.heap.size w wz) (fun c _ => 4 - vnat c)
  case atStart =>
    refine ⟨0, rfl, by omega, ?_, ?_, ?_, ?_⟩
    · exact get_old (get_old (get_new (by simp)))
    · exact get_old (get_new (by simp))
    · exact get_new (by simp)
    · exact (((Below.refl _ w).alloc (by simp) _).alloc (by simp) _).alloc (by simp; omega) _
  case round =>
    obtain ⟨k, rfl, hk, h1, h3, h2, hb⟩ := hrel
    have hz : w.heap.size + 2 < wr.heap.size := (Array.getElem?_eq_some_iff.1 h2).1
    by_cases hk4 : k < 4
    · have hki : (k : Int) < 4 := by omega
      have ha : wd A k < 4294967296 := wd_lt A k
      have hbb : wd B k < 4294967296 := wd_lt B k
      clear hc
      go_wp2
      rename_i Q0 K0 hK
      refine wp_region_any hmx ?_
      refine wpAny_last 8 (fun i__ => ([(.int .i64 (k : Int)), (.pointer (some ⟨w.heap.size, k, none⟩)), (.int .u32 ((wd A k : Nat) : Int)), (.int .i64 (k : Int)), (.pointer (some ⟨w.heap.size + 1, k, none⟩)), (.int .u32 ((wd B k : Nat) : Int)), (.int .u32 ((wd A k &&& (4294967295 - wd B k) : Nat) : Int)), (.pointer (some ⟨w.heap.size, k, none⟩)), undef] : List Value).getD i__ undef) (fun W => Holds4 W w.heap.size (fun j => if j < k then wd (dif A B) j else wd A j) ∧ Holds4 W (w.heap.size + 1) (wd B) ∧ Holds4 W (w.heap.size + 2) (fun _ => 0) ∧ Below w.heap.size w W) (fun W => Holds4 W w.heap.size (fun j => if j < k + 1 then wd (dif A B) j else wd A j) ∧ Holds4 W (w.heap.size + 1) (wd B) ∧ Holds4 W (w.heap.size + 2) (fun _ => 0) ∧ Below w.heap.size w W) rfl (by kernel_rfl) (by kernel_rfl) ⟨h1, h3, h2, hb.drew⟩ ?_ ?_  ?_
      · refine (stepsFrom_cons ?_ (stepsFrom_cons ?_ (stepsFrom_cons ?_ (stepsFrom_cons ?_ (stepsFrom_cons ?_ (stepsFrom_cons ?_ (stepsFrom_cons ?_ (stepsFrom_cons ?_ trivial))))))))
        · exact step_move rfl trivial _ rfl (by kernel_rfl)
        · exact step_indexAddr rfl trivial _ _ _ _ _ rfl rfl rfl (fun w hw => idx4 _ k hk4 w)
        · exact step_load rfl trivial _ _ _ rfl rfl (fun w hw => by have := load4 w _ k _ hw.1 hk4; simpa using this)
        · exact step_move rfl trivial _ rfl (by kernel_rfl)
        · exact step_indexAddr rfl trivial _ _ _ _ _ rfl rfl rfl (fun w hw => idx4 _ k hk4 w)
        · exact step_load rfl trivial _ _ _ rfl rfl (fun w hw => load4 w _ k _ hw.2.1 hk4)
        · exact step_binOp rfl trivial _ _ _ _ _ _ _ rfl rfl rfl (fun w hw => bin_andNot32 _ _ ha hbb)
        · exact step_indexAddr rfl trivial _ _ _ _ _ rfl rfl rfl (fun w hw => idx4 _ k hk4 w)
      · intro o ho
        cases ho
        exact step_store rfl trivial rfl _ _ _ _ _ rfl rfl rfl (fun w' hw => by obtain ⟨w2, e1, e2, e3, e4⟩ := store4 w' _ k _ _ hw.1 hk4; refine ⟨w2, e1, e2.congr (fun j hj => ?_), (e4 _ (by omega)).trans hw.2.1, (e4 _ (by omega)).trans hw.2.2.1, hw.2.2.2.trans (e3 _ (Nat.le_refl _))⟩; exact hmix k j)
      intro W hW
      first | refine hK _ _ ?_ | refine (‹∀ (a : Act) (w : World), Code.wp Tryz.prog _ _ a w → _›) _ _ ?_ | skip
      simp only [finL, List.getD_cons_zero, List.getD_cons_succ, Nat.zero_add, Nat.reduceAdd, List.setIfInBounds_toArray, List.set_cons_zero, List.set_cons_succ]
      obtain ⟨g1, g3, g2, g4⟩ := hW
      go_wp2
      go_roundw
      case rel => exact ⟨k + 1, by simp, by omega, g1, g3, g2, g4⟩
      case measure => simp only [vnat]; omega
    · have hk5 : k = 4 := by omega
      subst hk5
      have h1' : Holds4 wr w.heap.size (wd (dif A B)) := h1.congr (fun j hj => by simp [hj])
      obtain ⟨x0, x1, x2, x3, _⟩ := h1'.facts
      have H2 : Hid (Holds4 wr (w.heap.size + 2) (fun _ => 0)) := h2
      clear h1 h1' h2 hmix
      go_wp2_with (go_at_call 111; refine (hc _).mono ?_; rintro e w' ⟨rfl, hb'⟩; have q : Hid (Holds4 w' (w.heap.size + 2) (fun _ => 0)) := (hb'.block _ (by omega)).trans H2.out; obtain ⟨y0, y1, y2, y3, z0, z1, z2, z3⟩ := q.out.facts; have hb2 : Below w.heap.size w w' := hb.trans (hb'.mono (by omega)))
      exact ret4 rfl rfl rfl (fin4 q.out _) ⟨rfl, below4 hb2 (by omega) _⟩

end Go.Proofs.YtgnhainfcfcodaaGreat
