/- SameNotices, StaysNotices: what they answer of lists that are alike. -/
import Derived.Test.YtgehmidalfajgabGreatDoorInferDoubtsJ2
import Derived.Maps.AppendAt
import Derived.OwnWalk
import Derived.Laws.OwnMore
import Derived.Test.YtgehmidalfajgabGreatDoorInferDoubtsJ14
namespace Go.Proofs.YtgehmidalfajgabGreatDoor
open Go.RowKit Go.Shelf

set_option maxHeartbeats 4000000 in
set_option maxRecDepth 100000 in
theorem same_any (ad ad2 : Option Addr) (cap cap2 : Nat) (l : List (Int × Int × Int)) (w : World) (h : RdN w ad l) (h2 : RdN w ad2 l) (hl : l.length ≤ 6000000000000) : Calls Tryz.prog 12 #[.slice ad l.length cap, .slice ad2 l.length cap2] w fun e w' => e = .returned (.bool true) ∧ Below w.heap.size w w' := by
  have hmx : Tryz.prog.follows .mixedOrders = true := by kernel_rfl
  go_enter Tryz.func12, Tryz.ntmps12
  go_wp2
  go_loopw [5] (fun i wz => ∃ (k : Nat), i = .int .i64 k ∧ k ≤ l.length ∧ Below w.heap.size w wz) (fun i _ => l.length - vnatR i)
  case atStart => exact ⟨0, rfl, Nat.zero_le _, Below.refl _ _⟩
  case round =>
    obtain ⟨k, rfl, hk, hbw⟩ := hrel
    by_cases hkl : k < l.length
    · have hne : l ≠ [] := fun e => by subst e; simp at hkl
      obtain ⟨b, off, e1, hbl, hat⟩ := h.carry hbw hne
      obtain ⟨c, of, e2, hcl, hat2⟩ := h2.carry hbw hne
      subst e1 e2
      have hj : JI w b off l c of l wr := ⟨hbl, hat, hcl, hat2, hbw⟩
      obtain ⟨⟨o, t, q⟩, hx⟩ : ∃ x, l[k]? = some x := ⟨_, List.getElem?_eq_getElem hkl⟩
      have hki : (k : Int) < (l.length : Int) := by omega
      clear hat hat2
      go_wp2
      rename_i Q0 K0 hK
      refine wp_region_any hmx ?_
      refine wpAny_pure (fun i__ => ([(.slice (some ⟨b, off, none⟩) l.length cap), (.int .i64 (k : Int)), (.pointer (some ⟨b, off + k * 3, none⟩)), (nt o t q), (.slice (some ⟨c, of, none⟩) l.length cap2), (.int .i64 (k : Int)), (.pointer (some ⟨c, of + k * 3, none⟩)), (nt o t q), (.bool true), (.bool false)] : List Value).getD i__ undef) (fun W => JI w b off l c of l W) (by kernel_rfl) (hj.carry (Below.refl _ _).drew) ?_ ?_
      · refine (stepsFrom_cons ?_ (stepsFrom_cons ?_ (stepsFrom_cons ?_ (stepsFrom_cons ?_ (stepsFrom_cons ?_ (stepsFrom_cons ?_ (stepsFrom_cons ?_ (stepsFrom_cons ?_ (stepsFrom_cons ?_ (stepsFrom_cons ?_ trivial))))))))))
        · exact step_move rfl trivial _ rfl (by kernel_rfl)
        · exact step_move rfl trivial _ rfl (by kernel_rfl)
        · exact step_indexAddr rfl trivial _ _ _ _ _ rfl rfl rfl (fun w hw => idx_n b off l.length cap k hkl w)
        · exact step_load rfl trivial _ _ _ rfl rfl (fun w hw => load_at hw.at' hx)
        · exact step_move rfl trivial _ rfl (by kernel_rfl)
        · exact step_move rfl trivial _ rfl (by kernel_rfl)
        · exact step_indexAddr rfl trivial _ _ _ _ _ rfl rfl rfl (fun w hw => idx_n c of l.length cap2 k hkl w)
        · exact step_load rfl trivial _ _ _ rfl rfl (fun w hw => load_at hw.at2 hx)
        · exact step_binOp rfl trivial _ _ _ _ _ _ _ rfl rfl rfl (fun w hw => (bin_eqn _ _ _ _ _ _).trans (by simp))
        · exact step_unOp rfl trivial _ _ _ _ rfl rfl (fun w hw => un_notN _ w)
      intro W hW
      first | refine hK _ _ ?_ | refine (‹∀ (a : Act) (w : World), Code.wp Tryz.prog _ _ a w → _›) _ _ ?_
      simp only [finL, List.getD_cons_zero, List.getD_cons_succ, Nat.zero_add, Nat.reduceAdd, List.setIfInBounds_toArray, List.set_cons_zero, List.set_cons_succ]
      clear hK
      go_wp2
      go_roundw
      case rel => exact ⟨k + 1, by simp, by omega, hW.below⟩
      case measure => simp [vnatR]; omega
    · have hkk : k = l.length := by omega
      subst hkk
      go_wp2
      go_ret
      exact ⟨rfl, hbw⟩
end Go.Proofs.YtgehmidalfajgabGreatDoor
namespace Go.Proofs.YtgehmidalfajgabGreatDoor
open Go.RowKit Go.Shelf

end Go.Proofs.YtgehmidalfajgabGreatDoor
namespace Go.Proofs.YtgehmidalfajgabGreatDoor
open Go.RowKit Go.Shelf Go.Lib

/-- The marks of the list i, from a place on, so many. -/
def mkM (i f n : Nat) : List N3 := (List.range n).map fun k => (-1 - (i : Int), ((f + k : Nat) : Int), 0)
theorem mkM_len (i f n : Nat) : (mkM i f n).length = n := by simp [mkM]
theorem mkM_succ (i f n : Nat) : mkM i f (n + 1) = mkM i f n ++ [(-1 - (i : Int), ((f + n : Nat) : Int), 0)] := by simp [mkM, List.range_succ]
theorem mkM_app (i f n : Nat) : ∀ m, mkM i f n ++ mkM i (f + n) m = mkM i f (n + m)
  | 0 => by simp [mkM]
  | m + 1 => by rw [mkM_succ, ← List.append_assoc, mkM_app i f n m, show n + (m + 1) = n + m + 1 by omega, mkM_succ, Nat.add_assoc f n m]
theorem mkM_get (i n k : Nat) (hk : k < n) : (mkM i 0 n)[k]? = some (-1 - (i : Int), (k : Int), 0) := by
  unfold mkM
  rw [List.getElem?_map, List.getElem?_range hk]
  simp
theorem mkM_take (i n k : Nat) (hk : k ≤ n) : (mkM i 0 n).take k = mkM i 0 k := by
  have h := mkM_app i 0 k (n - k)
  rw [show k + (n - k) = n by omega] at h
  rw [← h, List.take_append_of_le_length (by rw [mkM_len]; omega), List.take_of_length_le (by rw [mkM_len]; omega)]
set_option maxHeartbeats 4000000 in
set_option maxRecDepth 100000 in
theorem markn_any (i f n : Nat) (hi : i ≤ 400) (hf : f ≤ 5000) (hn : n ≤ 5000) (w : World) : Calls Tryz.prog 120 #[.int .i64 (i : Int), .int .i64 (f : Int), .int .i64 (n : Int)] w fun e w' => ∃ v, e = .returned v ∧ w'.ownsRow w.heap.size 70 3 v n (fl (mkM i f n)) ∧ Below w.heap.size w w' := by
  obtain ⟨ic, hic, hz0, hz1, hz2⟩ := info_partsN
  go_enter Tryz.func120, Tryz.ntmps120
  go_wp2
  go_loopw [7, 8] (fun v k wz => ∃ j : Nat, k = .int .i64 ((f + j : Nat) : Int) ∧ j ≤ n ∧ wz.ownsRow w.heap.size 70 3 v j (fl (mkM i f j)) ∧ Below w.heap.size w wz) (fun _ k _ => f + n - vnatR k)
  case atStart => exact ⟨0, rfl, Nat.zero_le _, World.ownsRow_nil _ _ _ _, Below.refl _ _⟩
  case round =>
    obtain ⟨j, rfl, hj, hrow, hbw⟩ := hrel
    have hsw := hbw.size
    by_cases hjn : j < n
    · have hji : ((f + j : Nat) : Int) < (f : Int) + (n : Int) := by omega
      obtain ⟨q, hq⟩ : ∃ q, f + j = q := ⟨_, rfl⟩
      rw [hq] at hji ⊢
      have hq2 : q ≤ 10000 := by omega
      have hfl : fl (mkM i f (j + 1)) = fl (mkM i f j) ++ [.int .i64 (-1 - (i : Int)), .int .i64 (q : Int), .int .i64 0] := by
        rw [mkM_succ, fl_append, hq]
        rfl
      have HF : Hid (fl (mkM i f (j + 1)) = fl (mkM i f j) ++ [.int .i64 (-1 - (i : Int)), .int .i64 (q : Int), .int .i64 0]) := hfl
      have HQ : Hid (f + j = q) := hq
      clear hq hfl
      go_wp2_with (at_builtin; refine wpList_append_own _ rfl _ _ 22 rfl w.heap.size 70 ic _ 3 24 Tryz.underlying22 hic hz0 hz1 hz2 rfl (by decide) _ j (fl (mkM i f j)) rfl (hrow.alloc _) ⟨wr.heap.size, 0, none⟩ 1 1 [_, _, _] rfl rfl (rowN _ #[_, _, _] _) (by simp [Value.oneCell']) (by unfold maxLen; omega) (by omega) (Nat.le_trans hsw (by simp)) ?_; intro v' w2 hown' hgrow _)
      go_roundw
      case rel =>
        refine ⟨j + 1, by have := HQ.out; simp; omega, by omega, ?_, (hbw.alloc hsw _).grown hgrow (Nat.le_trans hsw (by simp)) (fun q e => own_block hrow q e)⟩
        rw [HF.out]
        exact hown'
      case measure => have := HQ.out; simp [vnatR]; omega
    · have hjj : j = n := by omega
      subst hjj
      have hji : ¬ ((f + j : Nat) : Int) < (f : Int) + (j : Int) := by omega
      go_wp2
      go_ret
      exact ⟨_, rfl, hrow, hbw⟩
end Go.Proofs.YtgehmidalfajgabGreatDoor
