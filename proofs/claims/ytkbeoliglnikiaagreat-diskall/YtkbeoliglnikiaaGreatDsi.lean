/- One step of the play, whatever it is. -/
import Derived.Test.YtkbeoliglnikiaaGreatDsh
namespace Go.Proofs.YtkbeoliglnikiaaGreat
open Go.RowKit Go.Shelf
/-- The disk behind a step. -/
def dStep (d : Dst) (k a : Int) (x : List Nat) : Dst := if k = 1 then (dWr d a x).2 else if k = 3 then dFuse d a else if k = 4 then { d with off := true } else if k = 5 then { d with off := false } else d
theorem step_any {σ : Sg} {lb off bb p r c : Nat} {d : Dst} {w w0 : World} (h : Sd σ w0.heap.size lb off bb p r c d w) (hlb : w0.heap.size ≤ lb) (hpb : w0.heap.size ≤ p) (hB : Below w0.heap.size w0 w) (k who a : Int) (ad : Option Addr) (cap : Nat) (x : List Nat) (hx : RdB w0 ad x) (hbx : Byt x) (hxl : x.length ≤ 300) (hf : Fz d) (hw0 : 0 ≤ d.writes) (hwm : d.writes ≤ 4611686018427387904) : Calls Tryz.prog 12 #[.pointer (some ⟨lb, off, none⟩), .agg #[.int .i64 k, .int .i64 who, .int .i64 a, .slice ad x.length cap]] w fun e w' => e = .returned (.bool true) ∧ Sd σ w0.heap.size lb off bb p r c (dStep d k a x) w' ∧ Ev w0.heap.size lb off p r w w' := by
  unfold dStep
  by_cases h1 : k = 1
  · subst h1
    rw [if_pos rfl]
    exact step_1 h hlb hpb hB who a ad cap x hx hbx hxl hf hw0 hwm
  rw [if_neg h1]
  by_cases h3 : k = 3
  · subst h3
    rw [if_pos rfl]
    exact step_3 h who a ad x.length cap
  rw [if_neg h3]
  by_cases h4 : k = 4
  · subst h4
    rw [if_pos rfl]
    exact step_4 h who a ad x.length cap
  rw [if_neg h4]
  by_cases h5 : k = 5
  · subst h5
    rw [if_pos rfl]
    exact step_5 h who a ad x.length cap
  rw [if_neg h5]
  by_cases h7 : k = 7
  · subst h7
    exact step_7 h who a ad x.length cap
  by_cases h2 : k = 2
  · subst h2
    cases ho : d.off with
    | true => exact step_2no h who a 100 ad x.length cap (fun V hV => read_off hV a ho) (fun V hV => rread_off hV a ho)
    | false =>
      by_cases hs : 0 ≤ a ∧ a < 8
      · obtain ⟨m, rfl⟩ := Int.eq_ofNat_of_zero_le hs.1
        exact step_2ok h who m (by omega) ho ad x.length cap
      · exact step_2no h who a 101 ad x.length cap (fun V hV => read_sec hV a ho hs) (fun V hV => rread_sec hV a ho hs)
  · exact step_0 h k who a ad x.length cap h1 h2 h3 h4 h5 h7
theorem dStep_fz {d : Dst} {k a : Int} {x : List Nat} (hf : Fz d) (ha : a ≤ 9223372036854775807) (hw : 0 ≤ d.writes) : Fz (dStep d k a x) ∧ 0 ≤ (dStep d k a x).writes ∧ (dStep d k a x).writes ≤ d.writes + 1 := by
  unfold dStep
  split
  · refine ⟨?_, ?_, ?_⟩
    · unfold dWr
      split
      · exact hf
      · split
        · exact hf
        · split
          · exact hf
          · split
            · intro q
              simp [dFuse] at q
            · rename_i h4
              intro q
              have q' : d.fused = true := q
              obtain ⟨h1, h2⟩ := hf q'
              have h3 : d.fuse ≠ 0 := fun e => h4 (by simp [left, q', e])
              have e : ({ dBurn { d with l := putS d.l a.toNat x } with writes := d.writes + 1 } : Dst).fuse = d.fuse - 1 := by simp [dBurn, q']
              rw [e]
              omega
    all_goals
      unfold dWr
      split
      · dsimp only; omega
      · split
        · dsimp only; omega
        · split
          · dsimp only; omega
          · split
            · dsimp only [dFuse]; omega
            · dsimp only; omega
  · split
    · refine ⟨fun q => ?_, hw, by show d.writes ≤ _; omega⟩
      have h1 : 0 ≤ a := by simpa [dFuse] using q
      have e : (dFuse d a).fuse = a := by simp [dFuse, h1]
      rw [e]
      exact ⟨h1, ha⟩
    · split
      · exact ⟨hf, hw, by show d.writes ≤ _; omega⟩
      · split
        · exact ⟨hf, hw, by show d.writes ≤ _; omega⟩
        · exact ⟨hf, hw, by omega⟩
end Go.Proofs.YtkbeoliglnikiaaGreat
