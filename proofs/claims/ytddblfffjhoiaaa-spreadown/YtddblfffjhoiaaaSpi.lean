/- spread.Level: what it answers, at any books, nil ones too. -/
import Derived.Test.YtddblfffjhoiaaaSph
namespace Go.Proofs.Ytddblfffjhoiaaa
open Go.RowKit Go.Shelf Go.Lib
attribute [local go_sem] Oper.semAt_some

/-- The greatest of a node. -/
def lvA (ls : List (List N3)) (i : Nat) : N3 := grt (ls.map fun l => atN l (i : Int))
def lvs (ls : List (List N3)) (n : Nat) : List N3 := (List.range n).map (lvA ls)
/-- What Level tells. -/
def lvl (ls : List (List N3)) : List N3 := if ls ≠ [] ∧ ones ls = true then lvs ls (ls.headD []).length else []
def lvE (ls : List (List N3)) : Int := if ls ≠ [] ∧ ones ls = true then 0 else 1
theorem lvs_len (ls : List (List N3)) (n : Nat) : (lvs ls n).length = n := by simp [lvs]
theorem lvs_succ (ls : List (List N3)) (n : Nat) : lvs ls (n + 1) = lvs ls n ++ [lvA ls n] := by simp [lvs, List.range_succ]
set_option maxHeartbeats 4000000 in
set_option maxRecDepth 100000 in
theorem level_any {w : World} (ad : Option Addr) (cap : Nat) (vs : List Value) (ls : List (List N3)) (h : BVs w ad vs ls) (hl : ls.length ≤ 1000000) : Calls Try.prog 10 #[.slice ad ls.length cap] w fun e w' => ∃ v, e = .returned (.tuple #[v, .int .i64 (lvE ls)]) ∧ Made w w' v (lvl ls) ∧ Below w.heap.size w w' := by
  obtain ⟨ic, hic, hz0, hz1, hz2⟩ := info_partsN
  cases hls : ls with
  | nil =>
    have e1 : lvE ([] : List (List N3)) = 1 := by simp [lvE]
    have e2 : lvl ([] : List (List N3)) = [] := by simp [lvl]
    rw [e1, e2]
    clear h hl hls
    go_enter Try.func10, Try.ntmps10
    go_wp2
    go_ret2
    exact ⟨_, rfl, World.ownsRow_nil _ _ _ _, Below.refl _ _⟩
  | cons l0 lt =>
    have hne : ls ≠ [] := by rw [hls]; simp
    have h0 : 0 < ls.length := by rw [hls]; simp
    have hhd : ls.headD [] = l0 := by rw [hls]; rfl
    have hg0 : ls[0]? = some l0 := by rw [hls]; rfl
    rw [← hls]
    have ho := one_any ad cap vs ls h h0 hl
    have HE : Hid (lvE ls = if ones ls = true then 0 else 1) := by show _ = _; simp [lvE, hne]
    have HL : Hid (lvl ls = if ones ls = true then lvs ls l0.length else []) := by
      show _ = _
      unfold lvl
      rw [hhd]
      simp [hne]
    obtain ⟨K, hK⟩ : ∃ K, ls.length = K := ⟨_, rfl⟩
    have HK : Hid (ls.length = K) := hK
    have HB : Hid (BVs w ad vs ls) := h
    rw [hK] at h0 hl ho ⊢
    have hki : ((K : Int) == 0) = false := by
      rw [beq_eq_false_iff_ne]
      omega
    clear hls hne hhd hK h
    generalize ones ls = B at ho HE HL
    cases B with
    | false =>
      clear hg0
      go_enter Try.func10, Try.ntmps10
      go_wp2_with (go_at_call 22; (with_reducible refine ho.mono ?_); rintro e u1 ⟨rfl, hb1⟩)
      go_ret2
      rw [HE.out, HL.out]
      exact ⟨_, rfl, World.ownsRow_nil _ _ _ _, hb1⟩
    | true =>
      obtain ⟨v0, gb, off, _, hv0, rfl, hc0, hgl⟩ := HB.out.at hg0
      obtain ⟨a0, rfl⟩ := hv0.ptr
      have hn0 := hv0.len
      have hsz := fun (W : World) (hW : Below w.heap.size w W) => sizeV_any (hv0.carry hW)
      rw [Nat.add_zero] at hc0
      clear hg0 hv0
      obtain ⟨N, hN⟩ : ∃ N, l0.length = N := ⟨_, rfl⟩
      rw [hN] at hsz hn0 HL
      clear hN
      go_enter Try.func10, Try.ntmps10
      go_wp2_with (first | (go_at_call 22; (with_reducible refine ho.mono ?_); rintro e u1 ⟨rfl, hb1⟩; have hc1 : u1.cell? ⟨gb, off, none⟩ = some (.pointer a0) := (hb1.cell (p := ⟨gb, _, none⟩) hgl).trans hc0; have hs1 := hsz _ hb1; clear hsz) | (go_at_call 23; (with_reducible refine hs1.mono ?_); rintro e u2 ⟨rfl, hb2⟩; have hbb : Below w.heap.size w u2 := bel2 hb1 hb2))
      go_loopw [4, 18] (fun c i wz => ∃ (k : Nat), i = .int .i64 k ∧ k ≤ N ∧ wz.ownsRow w.heap.size 32 3 c k (fl (lvs ls k)) ∧ Below w.heap.size w wz) (fun _ i _ => N - vnatR i)
      case atStart => exact ⟨0, rfl, Nat.zero_le _, World.ownsRow_nil _ _ _ _, hbb⟩
      case round =>
        obtain ⟨k, rfl, hk, hrow, hbr⟩ := hrel
        by_cases hkl : k < N
        · have hki : (k : Int) < (N : Int) := by omega
          have hsd := said_any wr (k : Int) (some ⟨gb, off, none⟩) K cap
          have HS : Hid (lvs ls (k + 1) = lvs ls k ++ [lvA ls k]) := lvs_succ ls k
          have HA : Hid (lvA ls k = grt (ls.map fun l => atN l (k : Int))) := rfl
          generalize lvA ls k = y at HS HA
          obtain ⟨o, t, q⟩ := y
          go_wp2_with (first | (go_at_call 25; (with_reducible refine hsd.mono ?_); rintro e v1 ⟨rfl, hx1, hi1, hc1'⟩; have hsq := said_seq (w := v1) wr.heap.size (wr.heap.size + 1) wr.heap.size (k : Int) (some ⟨gb, off, none⟩) cap vs ls (by rw [HK.out]; exact hl) (by rw [HK.out]; exact hx1); have hgr := callsIn_wide.1 (great_in (wr.heap.size + 1) wr.heap.size hsq (lt_at hi1) (fun W hW => ⟨((HB.out.carry hbr).carry hc1').carry hW, (hW.block _ (lt_at hi1)).trans hi1⟩)); rw [← HA.out] at hgr; unfold nt at hgr; dsimp only at hgr; clear hsq) | (go_at_call 24; (with_reducible refine hgr.mono ?_); rintro e v2 ⟨rfl, hb3⟩; have hbv : Below wr.heap.size wr v2 := bel2 hc1' hb3; have hrow2 := row_below hrow hbv; have hbr2 := bel2 hbr hbv) | (at_builtin; refine wpList_append_own_at _ rfl _ _ 22 rfl w.heap.size 32 ic _ 3 24 Try.underlying22 hic hz0 hz1 hz2 rfl (by decide) _ k (fl (lvs ls k)) rfl (hrow2.alloc _) ⟨v2.heap.size, 0, none⟩ 1 1 [_, _, _] rfl rfl (rowN _ #[_, _, _] _) (by simp [Value.oneCell']) (by unfold maxLen; omega) (by omega) (Nat.le_trans hbr2.size (by simp)) ?_; intro v' w2 hown' hgrow _ hob))
          go_roundw
          case rel =>
            refine ⟨k + 1, by simp, by omega, ?_, (hbr2.alloc hbr2.size _).grown hgrow (by have := hbr2.size; simp; omega) (fun q hq' => own_block hrow2 q hq')⟩
            rw [HS.out, fl_append]
            exact hown'
          case measure => simp [vnatR]; omega
        · have hkk : k = N := by omega
          subst hkk
          go_wp2
          go_ret2
          rw [HE.out, HL.out]
          refine ⟨_, rfl, ?_, hbr⟩
          show _
          unfold Made
          rw [if_pos trivial, lvs_len]
          exact hrow
end Go.Proofs.Ytddblfffjhoiaaa
