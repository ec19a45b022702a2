/- LentNotices: what it answers. -/
import Derived.Test.YtnkpohkodkjkfaaGreatDoorJpJ40
import Derived.Test.YtnkpohkodkjkfaaGreatDoorJpJ30
import Derived.Maps.AppendAt
import Derived.OwnWalk
import Derived.Laws.OwnMore
import Derived.Test.YtnkpohkodkjkfaaGreatDoorJpJ13
import Derived.Test.YtnkpohkodkjkfaaGreatDoorRows
import Derived.ProofKit
import Derived.OpenShut
import Derived.Laws.IdiomArrays
import Derived.Deep.Strs
set_option maxHeartbeats 40000000
set_option maxRecDepth 100000
set_option linter.unusedVariables false
namespace Go.Proofs.YtnkpohkodkjkfaaGreatDoor
open Go.RowKit Go.Shelf

/-- What LentNotices answers. -/
def LentV (w : World) (l : List (Int × Int × Int)) (e : Ending) (w' : World) : Prop := ∃ g cap, e = .returned (.slice (some ⟨g, 0, none⟩) l.length cap) ∧ l.length + 3 ≤ cap ∧ g < w'.heap.size ∧ NtsAt w' g 0 (l ++ mks) ∧ Below w.heap.size w w' ∧ w.heap.size ≤ g
theorem mks_step (k : Nat) (hk : k < 3) : mks.take (k + 1) = mks.take k ++ [(-7, (k : Int), 0)] := by
  match k, hk with
  | 0, _ => rfl
  | 1, _ => rfl
  | 2, _ => rfl
set_option maxHeartbeats 4000000 in
set_option maxRecDepth 100000 in
theorem lent_any (ad : Option Addr) (cap : Nat) (l : List (Int × Int × Int)) (w : World) (h : RdN w ad l) (hcap : ad = none → cap = 0) (hl : l.length * 24 ≤ 140737488351232) : Calls Tryz.prog 18 #[.slice ad l.length cap] w fun e w' => LentV w l e w' := by
  obtain ⟨ic, hic, hz0, hz1, hz2⟩ := info_partsN
  have hnil := World.ownsRow_nil w w.heap.size 99 3
  cases ad with
  | none =>
    have hl0 : l = [] := by
      cases l with
      | nil => rfl
      | cons x r => obtain ⟨b, off, e, _⟩ := h (by simp); cases e
    subst hl0
    obtain rfl := hcap rfl
    have hap := run_append_owned_none (P := Tryz.prog) w w.heap.size 25 25 99 ic 3 Tryz.underlying25 hic _ _ _ hnil
    go_enter Tryz.func18, Tryz.ntmps18
    have hbu := Below.refl w.heap.size w
    have ho := hnil
    go_wp2
    go_loopw [3, 4] (fun b i wz => ∃ (k : Nat), i = .int .i64 k ∧ k ≤ 3 ∧ wz.ownsRow w.heap.size 99 3 b (([] : List (Int × Int × Int)).length + k) (fl (([] : List (Int × Int × Int)) ++ mks.take k)) ∧ Below w.heap.size w wz) (fun _ i _ => 3 - vnatR i)
    case atStart => exact ⟨0, rfl, Nat.zero_le _, by simpa [fl_append, fl_nil] using ho, hbu⟩
    case round =>
      obtain ⟨k, rfl, hk, hrow, hbw⟩ := hrel
      have hsw := hbw.size
      by_cases hkl : k < 3
      · have hki : (k : Int) < 3 := by omega
        have hst := mks_step k hkl
        have hfl : fl (([] : List (Int × Int × Int)) ++ mks.take (k + 1)) = fl (([] : List (Int × Int × Int)) ++ mks.take k) ++ [.int .i64 (-7), .int .i64 (k : Int), .int .i64 0] := by
          rw [hst, ← List.append_assoc, fl_append (([] : List (Int × Int × Int)) ++ mks.take k)]
          rfl
        have HF : Hid (fl (([] : List (Int × Int × Int)) ++ mks.take (k + 1)) = fl (([] : List (Int × Int × Int)) ++ mks.take k) ++ [.int .i64 (-7), .int .i64 (k : Int), .int .i64 0]) := hfl
        clear hst hfl
        go_wp2_with (at_builtin; refine wpList_append_own _ rfl _ _ 25 rfl w.heap.size 99 ic _ 3 24 Tryz.underlying25 hic hz0 hz1 hz2 rfl (by decide) _ (([] : List (Int × Int × Int)).length + k) (fl (([] : List (Int × Int × Int)) ++ mks.take k)) rfl (hrow.alloc _) ⟨wr.heap.size, 0, none⟩ 1 1 [_, _, _] rfl rfl (rowN _ #[_, _, _] _) (by simp [Value.oneCell']) (by unfold maxLen; omega) (by omega) (Nat.le_trans hsw (by simp)) ?_; intro v' w2 hown' hgrow _)
        go_roundw
        case rel =>
          refine ⟨k + 1, by simp, by omega, ?_, (hbw.alloc hsw _).grown hgrow (Nat.le_trans hsw (by simp)) (fun q e => own_block hrow q e)⟩
          rw [HF.out, ← Nat.add_assoc]
          exact hown'
        case measure => simp [vnatR]; omega
      · have hkk : k = 3 := by omega
        subst hkk
        rcases own_form hrow with ⟨_, e⟩ | ⟨g, cp, rfl, hg0, hg1, hcp⟩
        · omega
        have hnt := nts_own hrow (by simp [mks])
        have hcpi : ((([] : List (Int × Int × Int)).length + 3 : Nat) : Int) ≤ (cp : Int) := by omega
        have hl0 : (([] : List (Int × Int × Int)).length : Int) ≤ ((([] : List (Int × Int × Int)).length + 3 : Nat) : Int) := by omega
        have hlc : (([] : List (Int × Int × Int)).length : Int) ≤ (cp : Int) := by omega
        have HQ : Hid (NtsAt wr g 0 (([] : List (Int × Int × Int)) ++ mks)) := hnt
        clear hnt
        go_wp2
        go_ret
        exact ⟨g, cp, rfl, by omega, hg1, HQ.out, hbw, hg0⟩
  | some a =>
    have hnews : ∀ j u, (fl l)[j]? = some u → w.cell? (a.add j) = some u := by
      intro j u hj
      obtain ⟨b, off, e, _, hat⟩ := h (fun e => by subst e; simp [fl_nil] at hj)
      obtain rfl := Option.some.inj e
      exact nts_src hat j u hj
    have hfl : (fl l).length = l.length * 3 := fl_len l
    clear h hcap
    go_enter Tryz.func18, Tryz.ntmps18
    go_wp2_with (at_builtin; refine wpList_append_own _ rfl _ _ 25 rfl w.heap.size 99 ic _ 3 24 Tryz.underlying25 hic hz0 hz1 hz2 rfl (by decide) _ 0 [] rfl hnil a l.length cap (fl l) rfl hfl hnews (fl_one l) (by unfold maxLen; omega) (by omega) (Nat.le_refl _) ?_; intro v u ho0 hgu _)
    have hbu : Below w.heap.size w u := (Below.refl w.heap.size w).grown hgu (Nat.le_refl _) (fun q e => own_block hnil q e)
    have ho : u.ownsRow w.heap.size 99 3 v l.length (fl l) := by simpa using ho0
    clear ho0 hgu hnews
    go_loopw [3, 4] (fun b i wz => ∃ (k : Nat), i = .int .i64 k ∧ k ≤ 3 ∧ wz.ownsRow w.heap.size 99 3 b (l.length + k) (fl (l ++ mks.take k)) ∧ Below w.heap.size w wz) (fun _ i _ => 3 - vnatR i)
    case atStart => exact ⟨0, rfl, Nat.zero_le _, by simpa [fl_append, fl_nil] using ho, hbu⟩
    case round =>
      obtain ⟨k, rfl, hk, hrow, hbw⟩ := hrel
      have hsw := hbw.size
      by_cases hkl : k < 3
      · have hki : (k : Int) < 3 := by omega
        have hst := mks_step k hkl
        have hfl : fl (l ++ mks.take (k + 1)) = fl (l ++ mks.take k) ++ [.int .i64 (-7), .int .i64 (k : Int), .int .i64 0] := by
          rw [hst, ← List.append_assoc, fl_append (l ++ mks.take k)]
          rfl
        have HF : Hid (fl (l ++ mks.take (k + 1)) = fl (l ++ mks.take k) ++ [.int .i64 (-7), .int .i64 (k : Int), .int .i64 0]) := hfl
        clear hst hfl
        go_wp2_with (at_builtin; refine wpList_append_own _ rfl _ _ 25 rfl w.heap.size 99 ic _ 3 24 Tryz.underlying25 hic hz0 hz1 hz2 rfl (by decide) _ (l.length + k) (fl (l ++ mks.take k)) rfl (hrow.alloc _) ⟨wr.heap.size, 0, none⟩ 1 1 [_, _, _] rfl rfl (rowN _ #[_, _, _] _) (by simp [Value.oneCell']) (by unfold maxLen; omega) (by omega) (Nat.le_trans hsw (by simp)) ?_; intro v' w2 hown' hgrow _)
        go_roundw
        case rel =>
          refine ⟨k + 1, by simp, by omega, ?_, (hbw.alloc hsw _).grown hgrow (Nat.le_trans hsw (by simp)) (fun q e => own_block hrow q e)⟩
          rw [HF.out, ← Nat.add_assoc]
          exact hown'
        case measure => simp [vnatR]; omega
      · have hkk : k = 3 := by omega
        subst hkk
        rcases own_form hrow with ⟨_, e⟩ | ⟨g, cp, rfl, hg0, hg1, hcp⟩
        · omega
        have hnt := nts_own hrow (by simp [mks])
        have hcpi : ((l.length + 3 : Nat) : Int) ≤ (cp : Int) := by omega
        have hl0 : (l.length : Int) ≤ ((l.length + 3 : Nat) : Int) := by omega
        have hlc : (l.length : Int) ≤ (cp : Int) := by omega
        have HQ : Hid (NtsAt wr g 0 (l ++ mks)) := hnt
        clear hnt
        go_wp2
        go_ret
        exact ⟨g, cp, rfl, by omega, hg1, HQ.out, hbw, hg0⟩
end Go.Proofs.YtnkpohkodkjkfaaGreatDoor
namespace Go.Proofs.YtnkpohkodkjkfaaGreatDoor
open Go.ChangeShapes Go.WideShapes Go.ChangeAt Go.RowKit

end Go.Proofs.YtnkpohkodkjkfaaGreatDoor
