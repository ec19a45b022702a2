/- SameNotices, StaysNotices: what they answer of lists that are alike. -/
import Derived.Test.YtojegojeolkgpaaGreatRnu
namespace Go.Proofs.YtojegojeolkgpaaGreat
open Go.RowKit Go.Shelf

set_option maxHeartbeats 4000000 in
set_option maxRecDepth 100000 in
theorem same_any (ad ad2 : Option Addr) (cap cap2 : Nat) (l : List (Int × Int × Int)) (w : World) (h : RdN w ad l) (h2 : RdN w ad2 l) (hl : l.length ≤ 6000000000000) : Calls Tryz.prog 13 #[.slice ad l.length cap, .slice ad2 l.length cap2] w fun e w' => e = .returned (.bool true) ∧ Below w.heap.size w w' := by
  have hmx : Tryz.prog.follows .mixedOrders = true := by kernel_rfl
  go_enter Tryz.func13, Tryz.ntmps13
  go_wp2
  go_loopw [5] (fun i wz => ∃ (k : Nat), i = .int .i64 k ∧ k ≤ l.length ∧ Below w.heap.size w wz) (fun i _ => l.length - vnatR i)
  case atStart => exact ⟨0, rfl, Nat.zero_le _, Below.refl _ _⟩
  case round =>
    obtain ⟨k, rfl, hk, hbw⟩ := hrel
    by_cases hkl : k < l.length
    · have hne : l ≠ [] := fun e => by subst e; simp at hkl
      obtain ⟨b, off, e1, hbl, hat⟩ := h.carry hbw hne
      obtain ⟨c, of, e2, hcl, hat2⟩ := h2.carry hbw hne
      subst e1 e2
      have hj : JI w b off l c of l wr := ⟨hbl, hat, hcl, hat2, hbw⟩
      obtain ⟨⟨o, t, q⟩, hx⟩ : ∃ x, l[k]? = some x := ⟨_, List.getElem?_eq_getElem hkl⟩
      have hki : (k : Int) < (l.length : Int) := by omega
      clear hat hat2
      go_wp2
      rename_i Q0 K0 hK
      refine wp_region_any hmx ?_
      refine wpAny_pure (fun i__ => ([(.slice (some ⟨b, off, none⟩) l.length cap), (.int .i64 (k : Int)), (.pointer (some ⟨b, off + k * 3, none⟩)), (nt o t q), (.slice (some ⟨c, of, none⟩) l.length cap2), (.int .i64 (k : Int)), (.pointer (some ⟨c, of + k * 3, none⟩)), (nt o t q), (.bool true), (.bool false)] : List Value).getD i__ undef) (fun W => JI w b off l c of l W) (by kernel_rfl) (hj.carry (Below.refl _ _).drew) ?_ ?_
      · refine (stepsFrom_cons ?_ (stepsFrom_cons ?_ (stepsFrom_cons ?_ (stepsFrom_cons ?_ (stepsFrom_cons ?_ (stepsFrom_cons ?_ (stepsFrom_cons ?_ (stepsFrom_cons ?_ (stepsFrom_cons ?_ (stepsFrom_cons ?_ trivial))))))))))
        · exact step_move rfl trivial _ rfl (by kernel_rfl)
        · exact step_move rfl trivial _ rfl (by kernel_rfl)
        · exact step_indexAddr rfl trivial _ _ _ _ _ rfl rfl rfl (fun w hw => idx_n b off l.length cap k hkl w)
        · exact step_load rfl trivial _ _ _ rfl rfl (fun w hw => load_at hw.at' hx)
        · exact step_move rfl trivial _ rfl (by kernel_rfl)
        · exact step_move rfl trivial _ rfl (by kernel_rfl)
        · exact step_indexAddr rfl trivial _ _ _ _ _ rfl rfl rfl (fun w hw => idx_n c of l.length cap2 k hkl w)
        · exact step_load rfl trivial _ _ _ rfl rfl (fun w hw => load_at hw.at2 hx)
        · exact step_binOp rfl trivial _ _ _ _ _ _ _ rfl rfl rfl (fun w hw => (bin_eqn _ _ _ _ _ _).trans (by simp))
        · exact step_unOp rfl trivial _ _ _ _ rfl rfl (fun w hw => un_not _ w)
      intro W hW
      first | refine hK _ _ ?_ | refine (‹∀ (a : Act) (w : World), Code.wp Tryz.prog _ _ a w → _›) _ _ ?_
      simp only [finL, List.getD_cons_zero, List.getD_cons_succ, Nat.zero_add, Nat.reduceAdd, List.setIfInBounds_toArray, List.set_cons_zero, List.set_cons_succ]
      clear hK
      go_wp2
      go_roundw
      case rel => exact ⟨k + 1, by simp, by omega, hW.below⟩
      case measure => simp [vnatR]; omega
    · have hkk : k = l.length := by omega
      subst hkk
      go_wp2
      go_ret
      exact ⟨rfl, hbw⟩
/-- The marks behind what is lent. -/
def mks : List (Int × Int × Int) := [(-7, 0, 0), (-7, 1, 0), (-7, 2, 0)]
set_option maxHeartbeats 4000000 in
set_option maxRecDepth 100000 in
theorem stays_any (g : Nat) (ad2 : Option Addr) (cap cap2 : Nat) (l : List (Int × Int × Int)) (w : World) (hg : g < w.heap.size) (h : NtsAt w g 0 (l ++ mks)) (hc : l.length + 3 ≤ cap) (h2 : RdN w ad2 l) (hl : l.length ≤ 6000000000000) : Calls Tryz.prog 84 #[.slice (some ⟨g, 0, none⟩) l.length cap, .slice ad2 l.length cap2] w fun e w' => e = .returned (.bool true) ∧ Below w.heap.size w w' := by
  have hsm := same_any (some ⟨g, 0, none⟩) ad2 cap cap2 l w (fun _ => ⟨g, 0, rfl, hg, fun k x hk => h k x (by rw [List.getElem?_append_left (List.getElem?_eq_some_iff.1 hk).1]; exact hk)⟩) h2 hl
  have hci : (l.length : Int) + 3 ≤ (cap : Int) := by omega
  have h3 : (3 : Int) ≤ (l.length : Int) + 3 := by omega
  go_enter Tryz.func84, Tryz.ntmps84
  go_wp2_with (go_at_call 13; (with_reducible refine hsm.mono ?_); rintro e u1 ⟨rfl, hb1⟩)
  have HA : Hid (NtsAt u1 g 0 (l ++ mks)) := h.carry hg hb1
  have hg1 : g < u1.heap.size := Nat.lt_of_lt_of_le hg hb1.size
  clear h h2 hsm
  go_loopw [6] (fun i wz => ∃ (k : Nat), i = .int .i64 k ∧ k ≤ 3 ∧ Below u1.heap.size u1 wz) (fun i _ => 3 - vnatR i)
  case atStart => exact ⟨0, rfl, Nat.zero_le _, Below.refl _ _⟩
  case round =>
    obtain ⟨k, rfl, hk, hbw⟩ := hrel
    by_cases hkl : k < 3
    · have hx : (l ++ mks)[l.length + k]? = some (-7, (k : Int), 0) := by
        rw [List.getElem?_append_right (by omega), Nat.add_sub_cancel_left]
        match k, hkl with
        | 0, _ => rfl
        | 1, _ => rfl
        | 2, _ => rfl
      obtain ⟨c0, c1, c2⟩ := (HA.out.carry hg1 hbw) _ _ hx
      rw [Nat.zero_add] at c0 c1 c2
      dsimp only at c0 c1 c2
      have hki : (k : Int) < 3 := by omega
      have hkj : (l.length : Int) + (k : Int) < (l.length : Int) + 3 := by omega
      have hgw : g < wr.heap.size := Nat.lt_of_lt_of_le hg1 hbw.size
      clear hx
      go_wp2
      go_roundw
      case rel => exact ⟨k + 1, by simp, by omega, hbw⟩
      case measure => simp [vnatR]; omega
    · have hkk : k = 3 := by omega
      subst hkk
      go_wp2
      go_ret
      exact ⟨rfl, bel2 hb1 hbw⟩
end Go.Proofs.YtojegojeolkgpaaGreat
