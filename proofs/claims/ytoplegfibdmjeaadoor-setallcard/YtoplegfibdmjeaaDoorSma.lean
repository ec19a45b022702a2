/- earshotbook's markInts: what it answers. -/
import Derived.Test.YtoplegfibdmjeaaDoorSib
namespace Go.Proofs.YtoplegfibdmjeaaDoor
open Go.RowKit Go.Shelf Go.Lib

/-- The marks of the list i, from a place on, so many. -/
def mkB (i f n : Nat) : List Int := (List.range n).map fun k => -1000000 * (i : Int) - ((f + k : Nat) : Int) - 7
theorem mkB_len (i f n : Nat) : (mkB i f n).length = n := by simp [mkB]
theorem mkB_byt (i f n : Nat) : Byt (mkB i f n) := by
  intro x hx
  obtain ⟨k, _, rfl⟩ := List.mem_map.1 hx
  omega
theorem mkB_succ (i f n : Nat) : mkB i f (n + 1) = mkB i f n ++ [-1000000 * (i : Int) - ((f + n : Nat) : Int) - 7] := by simp [mkB, List.range_succ]
theorem mkB_app (i f n : Nat) : ∀ m, mkB i f n ++ mkB i (f + n) m = mkB i f (n + m)
  | 0 => by simp [mkB]
  | m + 1 => by rw [mkB_succ, ← List.append_assoc, mkB_app i f n m, show n + (m + 1) = n + m + 1 by omega, mkB_succ, Nat.add_assoc f n m]
theorem mkB_get (i n k : Nat) (hk : k < n) : ∃ x, (mkB i 0 n)[k]? = some x := ⟨_, List.getElem?_eq_getElem (by rw [mkB_len]; exact hk)⟩
theorem bs1 (W : World) (x : Int) : (Instr.buildSlice 42 1 #[(0, .int .i64 x)]).run Tryd.prog W = .ok (.slice (some ⟨W.heap.size, 0, none⟩) 1 1) (W.alloc (.cells #[.int .i64 x] 3)) := by
  go_simp
theorem rowN (W : World) (cs : Array Value) (t : TypeId) : ∀ j u, cs.toList[j]? = some u → (W.alloc (.cells cs t)).cell? ((⟨W.heap.size, 0, none⟩ : Addr).add j) = some u := by
  intro j u h
  have hg : (W.alloc (.cells cs t)).heap[W.heap.size]? = some (.cells cs t) := new_at rfl
  rw [add_pl, Nat.zero_add, cell_at hg j, ← h]
  simp
set_option maxHeartbeats 2000000 in
set_option maxRecDepth 100000 in
theorem mark_any (i f n : Nat) (hi : i ≤ 400) (hf : f ≤ 5000) (hn : n ≤ 5000) (w : World) : Calls Tryd.prog 82 #[.int .i64 (i : Int), .int .i64 (f : Int), .int .i64 (n : Int)] w fun e w' => ∃ v, e = .returned v ∧ w'.ownsRow w.heap.size 3 1 v n (cB (mkB i f n)) ∧ Below w.heap.size w w' := by
  obtain ⟨ic, hic, hz0, hz1, hz2⟩ := info_parts infoInt
  go_enter Tryd.func82, Tryd.ntmps82
  go_wp2
  go_loopw [7, 8] (fun v k wz => ∃ j : Nat, k = .int .i64 ((f + j : Nat) : Int) ∧ j ≤ n ∧ wz.ownsRow w.heap.size 3 1 v j (cB (mkB i f j)) ∧ Below w.heap.size w wz) (fun _ k _ => f + n - vnat k)
  case atStart => exact ⟨0, rfl, Nat.zero_le _, ⟨rfl, .inl ⟨rfl, rfl⟩⟩, Below.refl _ _⟩
  case round =>
    obtain ⟨j, rfl, hj, hrow, hbw⟩ := hrel
    by_cases hjn : j < n
    · have hji : ((f + j : Nat) : Int) < (f : Int) + (n : Int) := by omega
      obtain ⟨q, hq⟩ : ∃ q, f + j = q := ⟨_, rfl⟩
      rw [hq] at hji ⊢
      have hq2 : q ≤ 10000 := by omega
      have HM : Hid (mkB i f (j + 1) = mkB i f j ++ [-1000000 * (i : Int) - (q : Int) - 7]) := by rw [← hq]; exact mkB_succ i f j
      have HQ : Hid (f + j = q) := hq
      have hbs := bs1
      have hsw := hbw.size
      clear hq
      go_wp2_with (at_builtin; refine wpList_append_own _ rfl _ _ 42 rfl w.heap.size 3 ic _ 1 8 Tryd.underlying42 hic hz0 hz1 hz2 rfl (by decide) _ j (cB (mkB i f j)) rfl (hrow.alloc _) ⟨wr.heap.size, 0, none⟩ 1 1 [_] rfl rfl (rowN _ #[_] _) (by simp [Value.oneCell']) (by unfold maxLen; omega) (by omega) (by simp; omega) ?_; intro v' w2 hown' hgrow _)
      go_roundw
      case rel =>
        refine ⟨j + 1, by have := HQ.out; simp; omega, by omega, ?_, (hbw.alloc (by omega) _).grown hgrow (by simp; omega) (fun q e => own_block hrow q e)⟩
        rw [HM.out, cB_app]
        exact hown'
      case measure => have := HQ.out; simp [vnat]; omega
    · have hjj : j = n := by omega
      subst hjj
      have hji : ¬ ((f + j : Nat) : Int) < (f : Int) + (j : Int) := by omega
      go_wp2
      go_ret
      exact ⟨_, rfl, hrow, hbw⟩
end Go.Proofs.YtoplegfibdmjeaaDoor
