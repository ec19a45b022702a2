/- earshotbook's markSets: what it answers. -/
import Derived.Test.YtcdefcaoocnlbaaZkz
namespace Go.Proofs.Ytcdefcaoocnlbaa
open Go.RowKit Go.Shelf Go.Lib

/-- The marks of the list i, from a place on, so many. -/
def mkM (i f n : Nat) : List Nat := (List.range n).map fun k => joinW i (f + k) 7 9
theorem mkM_len (i f n : Nat) : (mkM i f n).length = n := by simp [mkM]
theorem mkM_succ (i f n : Nat) : mkM i f (n + 1) = mkM i f n ++ [joinW i (f + n) 7 9] := by simp [mkM, List.range_succ]
theorem mkM_app (i f n : Nat) : ∀ m, mkM i f n ++ mkM i (f + n) m = mkM i f (n + m)
  | 0 => by simp [mkM]
  | m + 1 => by rw [mkM_succ, ← List.append_assoc, mkM_app i f n m, show n + (m + 1) = n + m + 1 by omega, mkM_succ, Nat.add_assoc f n m]
theorem mkM_get (i n k : Nat) (hk : k < n) : (mkM i 0 n)[k]? = some (joinW i k 7 9) := by
  unfold mkM
  rw [List.getElem?_map, List.getElem?_range hk]
  simp
theorem mkM_take (i n k : Nat) (hk : k ≤ n) : (mkM i 0 n).take k = mkM i 0 k := by
  have h := mkM_app i 0 k (n - k)
  rw [show k + (n - k) = n by omega] at h
  rw [← h, List.take_append_of_le_length (by rw [mkM_len]; omega), List.take_of_length_le (by rw [mkM_len]; omega)]
set_option maxHeartbeats 4000000 in
set_option maxRecDepth 100000 in
theorem markn_any (i f n : Nat) (hi : i ≤ 400) (hf : f ≤ 5000) (hn : n ≤ 5000) (w : World) : Calls Try.prog 107 #[.int .i64 (i : Int), .int .i64 (f : Int), .int .i64 (n : Int)] w fun e w' => ∃ v, e = .returned v ∧ w'.ownsRow w.heap.size 24 4 v n (fs (mkM i f n)) ∧ Below w.heap.size w w' := by
  obtain ⟨ic, hic, hz0, hz1, hz2⟩ := info_partsZ
  go_enter Try.func107, Try.ntmps107
  go_wp2
  go_loopw [7, 8] (fun v k wz => ∃ j : Nat, k = .int .i64 ((f + j : Nat) : Int) ∧ j ≤ n ∧ wz.ownsRow w.heap.size 24 4 v j (fs (mkM i f j)) ∧ Below w.heap.size w wz) (fun _ k _ => f + n - vnatR k)
  case atStart => exact ⟨0, rfl, Nat.zero_le _, World.ownsRow_nil _ _ _ _, Below.refl _ _⟩
  case round =>
    obtain ⟨j, rfl, hj, hrow, hbw⟩ := hrel
    have hsw := hbw.size
    by_cases hjn : j < n
    · have hji : ((f + j : Nat) : Int) < (f : Int) + (n : Int) := by omega
      obtain ⟨q, hq⟩ : ∃ q, f + j = q := ⟨_, rfl⟩
      rw [hq] at hji ⊢
      have hq2 : q ≤ 10000 := by omega
      have hfl : fs (mkM i f (j + 1)) = fs (mkM i f j) ++ [.int .u32 (i : Int), .int .u32 (q : Int), .int .u32 7, .int .u32 9] := by
        rw [mkM_succ, fs_append, hq]
        show fs (mkM i f j) ++ f4 (joinW i q 7 9) = _
        rw [f4, wd_join0 _ _ _ _ (by omega), wd_join1 _ _ _ _ (by omega) (by omega), wd_join2 _ _ _ _ (by omega) (by omega) (by omega), wd_join3 _ _ _ _ (by omega) (by omega) (by omega) (by omega)]
        rfl
      have HF : Hid (fs (mkM i f (j + 1)) = fs (mkM i f j) ++ [.int .u32 (i : Int), .int .u32 (q : Int), .int .u32 7, .int .u32 9]) := hfl
      have HQ : Hid (f + j = q) := hq
      clear hq hfl
      go_wp2_with (at_builtin; refine wpList_append_own _ rfl _ _ 31 rfl w.heap.size 24 ic _ 4 16 Try.underlying31 hic hz0 hz1 hz2 rfl (by decide) _ j (fs (mkM i f j)) rfl (hrow.alloc _) ⟨wr.heap.size, 0, none⟩ 1 1 [_, _, _, _] rfl rfl (rowN _ #[_, _, _, _] _) (by simp [Value.oneCell']) (by unfold maxLen; omega) (by omega) (Nat.le_trans hsw (by simp)) ?_; intro v' w2 hown' hgrow _)
      go_roundw
      case rel =>
        refine ⟨j + 1, by have := HQ.out; simp; omega, by omega, ?_, (hbw.alloc hsw _).grown hgrow (Nat.le_trans hsw (by simp)) (fun q e => own_block hrow q e)⟩
        rw [HF.out]
        exact hown'
      case measure => have := HQ.out; simp [vnatR]; omega
    · have hjj : j = n := by omega
      subst hjj
      have hji : ¬ ((f + j : Nat) : Int) < (f : Int) + (j : Int) := by omega
      go_wp2
      go_ret
      exact ⟨_, rfl, hrow, hbw⟩
end Go.Proofs.Ytcdefcaoocnlbaa
