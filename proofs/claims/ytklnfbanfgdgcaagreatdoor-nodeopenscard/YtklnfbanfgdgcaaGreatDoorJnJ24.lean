/- refute's Defend: what it answers. -/
import Derived.Test.YtklnfbanfgdgcaaGreatDoorJnJ23
import Derived.Test.YtklnfbanfgdgcaaGreatDoorJnJ13
import Derived.Test.YtklnfbanfgdgcaaGreatDoorJnJ16
import Derived.Test.YtklnfbanfgdgcaaGreatDoorJnJ22
import Derived.Test.YtklnfbanfgdgcaaGreatDoorJnJ21
import Derived.Test.YtklnfbanfgdgcaaGreatDoorJnJ19
import Derived.Maps.AppendAt
import Derived.Maps.OwnIn
set_option maxHeartbeats 40000000
set_option maxRecDepth 100000
set_option linter.unusedVariables false
namespace Go.Proofs.YtklnfbanfgdgcaaGreatDoor
open Go.RowKit Go.Shelf Go.Lib


theorem bR_ge {x : Int} (h : x < 1099511627775) : x + 1 ≤ bR x ∧ bR x ≤ 1099511627775 := by
  unfold bR
  split <;> constructor <;> omega
theorem bR_le {x : Int} (h : x ≤ 1099511627775) : x ≤ bR x ∧ bR x ≤ 1099511627775 := by
  unfold bR
  split <;> constructor <;> omega
theorem bT_ge {x : Int} (h : x < 1048576) : x + 1 ≤ bT x ∧ bT x ≤ 1048576 := by
  unfold bT
  split <;> constructor <;> omega
theorem bT_le {x : Int} (h : x ≤ 1048576) : x ≤ bT x ∧ bT x ≤ 1048576 := by
  unfold bT
  split <;> constructor <;> omega
/-- A disk between two lives. -/
structure Sd0 (d : Dst) (n : Nat) (r : Rec) : Prop where
  ss : Ss d.l n r
  fz : Fz d
  may : 1 ≤ n → May r
  zr : n = 0 → r = rec0
/-- A disk while a life goes on. -/
structure Lv (d : Dst) (n : Nat) (b : Bo) : Prop where
  ss : Ss d.l n b.r
  n1 : 1 ≤ n
  fz : Fz d
  may : May b.r
  ro : 0 ≤ b.ro ∧ b.ro ≤ b.r.ro
  ta : 0 ≤ b.ta ∧ b.ta ≤ b.r.ta
section
variable {d : Dst} {n : Nat} {b : Bo} {r : Rec}
theorem Lv.ok (h : Lv d n b) : OkB b := by
  obtain ⟨⟨m1, m2⟩, ⟨m3, m4⟩, m5, m6⟩ := h.may
  have h1 := h.ro
  have h2 := h.ta
  refine ⟨⟨?_, ?_⟩, ⟨?_, ?_⟩, ⟨?_, ?_⟩, ⟨?_, ?_⟩, ?_, ?_⟩ <;> omega
theorem Sd0.nr (h : Sd0 d n r) (ho : d.off = false) : (nwTZ d).r = r := by
  rw [h.ss.nt ho]
  split
  · rename_i e
    rw [h.zr e]
  · rfl
theorem Sd0.bd (h : Sd0 d n r) : (0 ≤ r.li ∧ r.li ≤ 1073741824) ∧ (0 ≤ r.ro ∧ r.ro ≤ 1099511627775) ∧ 0 ≤ r.ta ∧ r.ta ≤ 1048576 := by
  rcases Nat.eq_zero_or_pos n with e | e
  · rw [h.zr e]
    decide
  · obtain ⟨⟨m1, m2⟩, ⟨m3, m4⟩, m5, m6⟩ := h.may e
    exact ⟨⟨by omega, m2⟩, ⟨m3, m4⟩, m5, m6⟩
theorem Sd0.open (h : Sd0 d n r) (ho : d.off = false) (hl : r.li < 1073741824) (hn : n ≤ 999999) : ((dOp d).e = 0 ∧ Lv (dOp d).d (n + 1) (dOp d).b ∧ (dOp d).b.r.li = r.li + 1 ∧ (dOp d).b.ro = r.ro ∧ (dOp d).b.ta = r.ta ∧ (dOp d).d.writes = d.writes + 2) ∨ ((dOp d).e = 100 ∧ Sd0 (dOp d).d n r ∧ d.writes ≤ (dOp d).d.writes ∧ (dOp d).d.writes ≤ d.writes + 2) := by
  have hb := h.bd
  rw [dOp, if_neg (by rw [ho]; decide), h.nr ho, if_neg (by omega)]
  have h1 := bR_le (x := r.ro) (by omega)
  have h2 := bT_le (x := r.ta) (by omega)
  have hmay : May (nxL r) := ⟨⟨by show 1 ≤ r.li + 1; omega, by show r.li + 1 ≤ _; omega⟩, ⟨by show 0 ≤ bR r.ro; omega, h1.2⟩, by show 0 ≤ bT r.ta; omega, h2.2⟩
  rcases h.ss.save ho h.fz hmay (by omega) with ⟨s1, s2, s3, s4, s5⟩ | ⟨s1, s2, s3, s4, s5, s6, s7⟩
  · exact .inl ⟨s1, ⟨s5, by omega, s4, hmay, ⟨hb.2.1.1, h1.1⟩, ⟨hb.2.2.1, h2.1⟩⟩, rfl, rfl, rfl, s3⟩
  · exact .inr ⟨s1, ⟨s7, s6, h.may, h.zr⟩, s4, by dsimp only; omega⟩
end
theorem Sd0.zero : Sd0 d0 0 rec0 := ⟨Ss.zero _, fun e => (by cases e), fun e => absurd e (by omega), fun _ => rfl⟩
theorem on0 : d0.off = false := rfl
theorem op0 : (dOp d0).e = 0 ∧ (dOp d0).b = ⟨⟨1, 16, 4⟩, 0, 0⟩ ∧ (dOp d0).d.writes = 2 ∧ (dOp d0).d.off = false ∧ Lv (dOp d0).d 1 ⟨⟨1, 16, 4⟩, 0, 0⟩ ∧ (dOp d0).d.fused = false := by
  have hr := Sd0.zero.nr on0
  have e : dOp d0 = ⟨(dSv d0 ⟨1, 16, 4⟩).1, (dSv d0 ⟨1, 16, 4⟩).2, ⟨⟨1, 16, 4⟩, 0, 0⟩⟩ := by
    rw [dOp, if_neg (by rw [on0]; decide), hr, if_neg (by decide)]
    rfl
  have hd : dSv d0 ⟨1, 16, 4⟩ = (0, ⟨put2 d0.l 0 (slB ⟨1, 16, 4⟩ 1), false, false, 0, 2⟩) := by
    rw [(Ss.zero rec0).dsv on0 (by decide) (by omega), dW2_ok on0 (by omega) (slB_len _ _) (fun h => by cases h)]
    rfl
  rcases Sd0.zero.open on0 (by decide) (by omega) with ⟨h1, h2, _⟩ | ⟨h1, _⟩
  · refine ⟨h1, by rw [e], by rw [e]; dsimp only; rw [hd], by rw [e]; dsimp only; rw [hd], ?_, by rw [e]; dsimp only; rw [hd]⟩
    have e2 : (dOp d0).b = ⟨⟨1, 16, 4⟩, 0, 0⟩ := by rw [e]
    rw [e2] at h2
    exact h2
  · rw [e] at h1
    dsimp only at h1
    rw [hd] at h1
    exact absurd h1 (by decide)

section
variable {w W : World} {bp g q p n : Nat} {l : List N3} {b : Bo} {d : Dst} {a : Addr} {P : Option Addr}
end
/-! ### alive -/
attribute [local go_sem] Oper.semAt_some

end Go.Proofs.YtklnfbanfgdgcaaGreatDoor
