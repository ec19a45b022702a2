/- Sets, handed in. -/
import Derived.Test.YtoplegfibdmjeaaDoorSsr
import Derived.Test.YtoplegfibdmjeaaDoorRows
import Derived.ProofKit
import Derived.OpenShut
import Derived.ChangeOld
import Derived.ChangeSlices
import Derived.Below
import Derived.Deep.Slices
import Derived.Deep.Strs
namespace Go.Proofs.YtoplegfibdmjeaaDoor
open Go.ChangeShapes Go.WideShapes Go.ChangeAt Go.RowKit

theorem cellsOss : Tryd.prog.cellsOf 41 = 4 := by kernel_rfl
theorem cell_ltOss {W : World} {a : Addr} {v : Value} (h : W.cell? a = some v) : a.block < W.heap.size := by
  unfold World.cell? at h
  cases hb : W.heap[a.block]? with
  | none => simp [hb] at h
  | some o => exact (Array.getElem?_eq_some_iff.1 hb).1
set_option maxRecDepth 100000 in
theorem one_Oss {H : Type} {enc : TypeId × Value → H} {W : World} {n : Nat} {cs : List Value} {x : DataW H × List MemPlace} (hl : cs.length = 4) (h : DataW.trod enc Tryd.prog W 0 (fun _ => true) true n 41 cs = some x) : ∃ N : Nat, cs = [.int .u32 (wd N 0 : Nat), .int .u32 (wd N 1 : Nat), .int .u32 (wd N 2 : Nat), .int .u32 (wd N 3 : Nat)] ∧ N < S128 := by
  match cs, hl with
  | [c0, c1, c2, c3], _ =>
    obtain ⟨z0, z1, z2, z3, m2, hx, hy0, hy1, hy2, hy3⟩ := trod_array4 Tryd.underlying41 cellsW h
    obtain ⟨u0, f0, _, v0⟩ := DataW.trod_int Tryd.underlying39 hy0
    obtain ⟨u1, f1, _, v1⟩ := DataW.trod_int Tryd.underlying39 hy1
    obtain ⟨u2, f2, _, v2⟩ := DataW.trod_int Tryd.underlying39 hy2
    obtain ⟨u3, f3, _, v3⟩ := DataW.trod_int Tryd.underlying39 hy3
    simp at f0 f1 f2 f3
    subst f0 f1 f2 f3
    obtain ⟨n0, rfl, b0⟩ := nat_of_u32 v0
    obtain ⟨n1, rfl, b1⟩ := nat_of_u32 v1
    obtain ⟨n2, rfl, b2⟩ := nat_of_u32 v2
    obtain ⟨n3, rfl, b3⟩ := nat_of_u32 v3
    refine ⟨joinW n0 n1 n2 n3, ?_, join_lt _ _ _ _ b0 b1 b2 b3⟩
    rw [wd_join0 _ _ _ _ b0, wd_join1 _ _ _ _ b0 b1, wd_join2 _ _ _ _ b0 b1 b2, wd_join3 _ _ _ _ b0 b1 b2 b3]
set_option maxRecDepth 100000 in
theorem open_sets {H : Type} {enc : TypeId × Value → H} {W : World} {base : Nat} {v : Value} {d : DataW H} {p : List MemPlace} (hval : Value.okWide Tryd.prog W .any base 22 v)
    (h : DataW.Trod enc Tryd.prog W 0 (fun _ => true) true 22 v d p) : ∃ (ad : Option Addr) (cap : Nat) (l : List Nat), v = .slice ad l.length cap ∧ RdS W ad l ∧ (∀ N ∈ l, N < S128) ∧ l.length ≤ cap ∧ cap ≤ maxLen := by
  obtain ⟨a0, len0, cap0, rfl⟩ := okWide_slice Tryd.underlying22 hval
  obtain ⟨fuel, hf⟩ := h
  rcases Deep.open_slice Tryd.underlying22 hf with ⟨hcs, _⟩ | ⟨a, len, cap, m, n, D, Pl, hcs, _, hlc, hcm, hmm, hx, hel⟩
  · simp [Value.cells] at hcs
    obtain ⟨rfl, rfl, rfl⟩ := hcs
    exact ⟨none, 0, [], rfl, fun h => absurd rfl h, fun N h => by simp at h, Nat.le_refl _, by unfold maxLen; simp⟩
  · simp [Value.cells] at hcs
    obtain ⟨rfl, rfl, rfl⟩ := hcs
    have hm : m = cap0 := by simpa using hmm
    have each : ∀ i, i < len0 → ∃ N : Nat, (W.cell? (a.add (i * 4)) = some (.int .u32 (wd N 0 : Nat)) ∧ W.cell? (a.add (i * 4 + 1)) = some (.int .u32 (wd N 1 : Nat)) ∧ W.cell? (a.add (i * 4 + 2)) = some (.int .u32 (wd N 2 : Nat)) ∧ W.cell? (a.add (i * 4 + 3)) = some (.int .u32 (wd N 3 : Nat))) ∧ N < S128 := by
      intro i hi
      obtain ⟨cs, h1, h2⟩ := hel i (by omega)
      rw [cellsOss] at h1
      obtain ⟨_, hlen, hcell⟩ := World.cells?_some h1
      obtain ⟨N, rfl, hwf⟩ := one_Oss hlen h2
      have e0 := hcell 0 (by omega)
      have e1 := hcell 1 (by omega)
      have e2 := hcell 2 (by omega)
      have e3 := hcell 3 (by omega)
      rw [Deep.add_add] at e0 e1 e2 e3
      exact ⟨N, ⟨by simpa using e0, by simpa using e1, by simpa using e2, by simpa using e3⟩, hwf⟩
    obtain ⟨q, hq⟩ := Deep.choose_lt each
    have hget : ∀ k y, ((List.range len0).map q)[k]? = some y → k < len0 ∧ y = q k := fun k y hy => by
      rw [List.getElem?_map] at hy
      obtain ⟨k', hk', rfl⟩ := Option.map_eq_some_iff.1 hy
      have hk := (List.getElem?_eq_some_iff.1 hk').1
      simp at hk
      rw [List.getElem?_range hk] at hk'
      cases hk'
      exact ⟨hk, rfl⟩
    refine ⟨some a, cap0, (List.range len0).map q, by simp, fun hne => ?_, fun N hN => ?_, by simpa using hlc, hcm⟩
    · have h0 : 0 < len0 := by
        rcases Nat.eq_zero_or_pos len0 with e | e
        · subst e; simp at hne
        · exact e
      obtain ⟨⟨c00, _⟩, _⟩ := hq 0 h0
      obtain ⟨b', off', x'⟩ := a
      have hx' : x' = none := by simpa [Addr.add] using World.cell?_spot c00
      subst hx'
      have hadd : ∀ j, (⟨b', off', none⟩ : Addr).add j = ⟨b', off' + j, none⟩ := fun j => add_pl b' off' j
      have hlt := cell_ltOss c00
      rw [hadd] at hlt
      refine ⟨b', off', rfl, hlt, fun k y hy => ?_⟩
      obtain ⟨hk, rfl⟩ := hget k y hy
      obtain ⟨⟨c0, c1, c2, c3⟩, _⟩ := hq k hk
      rw [hadd] at c0 c1 c2 c3
      exact ⟨c0, by simpa [Nat.add_assoc] using c1, by simpa [Nat.add_assoc] using c2, by simpa [Nat.add_assoc] using c3⟩
    · obtain ⟨k, hk⟩ := List.getElem?_of_mem hN
      obtain ⟨hk1, rfl⟩ := hget k N hk
      exact (hq k hk1).2
end Go.Proofs.YtoplegfibdmjeaaDoor
