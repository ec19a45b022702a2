/- What List, Count and Plain of the document answer: at every text of at most 2^20 bytes. -/
import Derived.Test.YtgihafldphpncabRef
import Derived.Test.YtgihafldphpncabChs
namespace Go.Proofs.Ytgihafldphpncab
open Go.RowKit Go.Shelf

set_option maxHeartbeats 1000000 in
theorem list_any (s : ByteArray) (hs : s.size ≤ 1048576) (w : World) :
    Calls Try.prog 28 #[.string s] w fun e w' => ∃ v, e = .returned v ∧ w'.ownsRow w.heap.size 32 4 v (starts s).length (flat s (starts s)) ∧ Below w.heap.size w w' := by
  have hlen := starts_length s
  obtain ⟨ic, hic, hz0, hz1, hz2⟩ := info_parts infoChar
  go_enter Try.func28, Try.ntmps28
  go_wp2
  go_loopw [3, 4] (fun l i wr => ∃ (pos fuel : Nat) (pre : List Nat), starts s = pre ++ startsFrom s fuel pos ∧ s.size ≤ pos + fuel ∧ i = .int .i64 pos ∧ wr.ownsRow w.heap.size 32 4 l pre.length (flat s pre) ∧ Below w.heap.size w wr) (fun _ i _ => s.size - (intOf i).toNat)
  case atStart =>
    exact ⟨0, s.size, [], rfl, by omega, rfl, World.ownsRow_nil _ _ _ _, Below.refl _ w⟩
  case round =>
    obtain ⟨pos, fuel, pre, hst, hfu, rfl, hrow, hb⟩ := hrel
    by_cases hp : pos < s.size
    · obtain ⟨f, rfl⟩ : ∃ f, fuel = f + 1 := ⟨fuel - 1, by omega⟩
      rw [startsFrom_step s f pos hp] at hst
      have hll : pre.length + 1 ≤ s.size := by rw [hst] at hlen; simp at hlen; omega
      have hw1 := wd_le s pos hp
      have hw0 := wd_pos s pos
      have hrn := rn_le s pos
      have hpi : (pos : Int) < (s.size : Int) := by omega
      have HS : Hid (starts s = pre ++ pos :: startsFrom s f (pos + wd s pos)) := hst
      clear hst
      go_wp2_with fail
      refine (at_any s (by omega) pos hp _).mono ?_
      rintro e w1 ⟨rfl, nq, rfl⟩
      have hrow1 : (wr.drewN nq).ownsRow w.heap.size 32 4 u3 pre.length (flat s pre) := hrow
      have hb1 : Below w.heap.size w (wr.drewN nq) := hb.trans ⟨rfl, rfl, rfl, Nat.le_refl _, fun _ _ => rfl⟩
      clear hrow hb
      generalize wr.drewN nq = wx at *
      have hsx := hb1.size
      go_wp2_with (at_builtin; refine wpList_append_own _ rfl _ _ 23 rfl w.heap.size 32 ic _ 4 32 Try.underlying23 hic hz0 hz1 hz2 rfl (by decide) _ _ _ rfl (hrow1.alloc _) ⟨wx.heap.size, 0, none⟩ 1 1 [.int .i32 (rn s pos), .int .i64 pos, .int .i64 (wd s pos), .bool (looseB s pos)] rfl rfl (four_new _ _ _ _ _ _) (by simp [Value.oneCell']) (by unfold maxLen; omega) (by omega) (by simp; omega) ?_; intro v' w2 hown' hgrow _)
      go_roundw
      case rel =>
        refine ⟨pos + wd s pos, f, pre ++ [pos], by rw [HS.out]; simp, by omega, by go_num, ?_, ?_⟩
        · rw [flat_append]
          have e : (pre ++ [pos]).length = pre.length + 1 := by simp
          rw [e]
          exact hown'
        · exact (hb1.alloc (by omega) _).grown hgrow (by simp; omega) (fun k hk => (ownsRow_block hrow1 k hk).1)
      case measure =>
        simp [intOf]
        omega
    · rw [startsFrom_end s fuel pos hp, List.append_nil] at hst
      subst hst
      go_wp2
      go_ret
      exact ⟨_, rfl, hrow, hb⟩
end Go.Proofs.Ytgihafldphpncab
