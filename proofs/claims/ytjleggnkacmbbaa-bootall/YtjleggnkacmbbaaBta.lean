/- What Boots leave on a disk that nothing but they have written, whatever the power does: mathematics. -/
import Derived.Test.YtjleggnkacmbbaaLtj
namespace Go.Proofs.Ytjleggnkacmbbaa
open Go.RowKit Go.Shelf Go.Lib

/-- What lies on a disk behind n Saves that were done, the last one of r; others were cut off. -/
structure Ss (l : List Nat) (n : Nat) (r : Rec) : Prop where
  len : l.length = 256
  byt : Byt l
  new : 1 ≤ n → say (slt l ((n + 1) % 2)) = some (r, (n : Int))
  nil : n = 0 → say (slt l 1) = none ∧ ((slt l 1).drop 36).take 8 = numB 0 8
  old : ∀ x, say (slt l (n % 2)) = some x → x.2 < (n : Int)
  seq : ∃ m : Nat, m ≤ n ∧ ((slt l (n % 2)).drop 36).take 8 = numB m 8
theorem Ss.zero (r : Rec) : Ss d0.l 0 r := ⟨d0_len, byt_zero 256, fun h => absurd h (by omega), fun _ => ⟨say_zero.2, by kernel_rfl⟩, fun x hx => (by rw [show say (slt d0.l (0 % 2)) = none from say_zero.1] at hx; cases hx), ⟨0, Nat.le_refl _, by kernel_rfl⟩⟩
theorem Ss.nw {l : List Nat} {n : Nat} {r : Rec} (h : Ss l n r) : nw l = if n = 0 then none else some ((r, (n : Int)), (n + 1) % 2) := by
  split
  · rename_i e
    subst e
    have h0 : say (slt l 0) = none := by
      cases hs : say (slt l 0) with
      | none => rfl
      | some x =>
        have h1 := h.old x hs
        have h2 := (say_some hs).1.2.1
        exfalso
        have h3 : x.2 < (0 : Int) := h1
        omega
    show nwo (say (slt l 0)) (say (slt l 1)) = none
    rw [h0, (h.nil rfl).1]
    rfl
  · exact nw_of (h.new (by omega)) h.old
theorem Ss.step {l : List Nat} {n : Nat} {r r' : Rec} (h : Ss l n r) (hm : May r') (hn : n ≤ 1000000) : Ss (put2 l (n % 2) (slB r' ((n : Int) + 1))) (n + 1) r' := by
  have hq : n % 2 < 2 := Nat.mod_lt _ (by omega)
  have hl := slB_len r' ((n : Int) + 1)
  have hne : (n + 1) % 2 ≠ n % 2 := by omega
  have hfit : Fit r' ((n : Int) + 1) := ⟨hm, by omega, by omega⟩
  refine ⟨put2_len h.len hl hq, putS_byt (putS_byt h.byt ((slB_byt _ _).take 32)) ((slB_byt _ _).drop 32), fun _ => ?_, fun e => by omega, fun x hx => ?_, ?_⟩
  · rw [show (n + 1 + 1) % 2 = n % 2 by omega, slt_put h.len hl hq, say_sl hfit]
    rfl
  · rw [slt_put_ne h.len hl hq hne] at hx
    rcases Nat.eq_zero_or_pos n with e | e
    · subst e
      rw [show say (slt l ((0 + 1) % 2)) = none from (h.nil rfl).1] at hx
      cases hx
    · rw [h.new e] at hx
      cases hx
      show (n : Int) < ((n + 1 : Nat) : Int)
      omega
  · rw [slt_put_ne h.len hl hq hne]
    rcases Nat.eq_zero_or_pos n with e | e
    · subst e
      exact ⟨0, by omega, (h.nil rfl).2⟩
    · exact ⟨n, by omega, (say_seq (h.new e)).2⟩
/-- A Save that was cut off behind its first sector. -/
theorem Ss.torn {l : List Nat} {n : Nat} {r r' : Rec} (h : Ss l n r) (hn : n ≤ 1000000) : Ss (putS l (2 * (n % 2)) ((slB r' ((n : Int) + 1)).take 32)) n r := by
  have hq : n % 2 < 2 := Nat.mod_lt _ (by omega)
  have hl := slB_len r' ((n : Int) + 1)
  have hne : (n + 1) % 2 ≠ n % 2 := by omega
  obtain ⟨m, hm, hs⟩ := h.seq
  have ho := slt_torn_ne h.len hl hq hne
  have ht : say (slt (putS l (2 * (n % 2)) ((slB r' ((n : Int) + 1)).take 32)) (n % 2)) = none := by
    rw [slt_torn h.len hl hq]
    exact say_torn ⟨by omega, by omega⟩ hs (by omega) (by omega)
  refine ⟨put1_len h.len hl hq, putS_byt h.byt ((slB_byt _ _).take 32), fun e => (by rw [ho]; exact h.new e), fun e => ?_, fun x hx => (by rw [ht] at hx; cases hx), m, hm, ?_⟩
  · subst e
    have h0 : slt (putS l (2 * (0 % 2)) ((slB r' (((0 : Nat) : Int) + 1)).take 32)) 1 = slt l 1 := ho
    rw [h0]
    exact h.nil rfl
  · rw [slt_torn h.len hl hq, List.drop_append, List.drop_of_length_le (by rw [(half_len hl).1]; omega), List.nil_append, (half_len hl).1, List.drop_drop]
    exact hs
theorem Ss.nt {d : Dst} {n : Nat} {r : Rec} (h : Ss d.l n r) (ho : d.off = false) : nwT d = if n = 0 then ⟨rec0, 0, 0, 40⟩ else ⟨r, (n : Int), ((n + 1) % 2 : Nat), 0⟩ := by
  rw [nwT, if_neg (by rw [ho]; decide), h.nw]
  split <;> rfl
theorem Ss.dsv {d : Dst} {n : Nat} {r r' : Rec} (h : Ss d.l n r) (ho : d.off = false) (hm : May r') (hn : n ≤ 1000000) : dSv d r' = dW2 d (n % 2) (slB r' ((n : Int) + 1)) := by
  rw [dSv, if_neg (fun q => q hm), if_neg (by rw [ho]; decide), h.nt ho]
  split
  · rename_i e
    subst e
    rw [if_neg (by decide), if_neg (by decide)]
    rfl
  · dsimp only
    rw [if_neg (by omega), if_pos rfl]
    congr 1
    omega
/-- A Save on such a disk: done, or the power is gone and all is told as ahead of it. -/
theorem Ss.save {d : Dst} {n : Nat} {r r' : Rec} (h : Ss d.l n r) (ho : d.off = false) (hf : Fz d) (hm : May r') (hn : n ≤ 1000000) : ((dSv d r').1 = 0 ∧ (dSv d r').2.off = false ∧ (dSv d r').2.writes = d.writes + 2 ∧ Fz (dSv d r').2 ∧ Ss (dSv d r').2.l (n + 1) r') ∨ ((dSv d r').1 = 100 ∧ (dSv d r').2.off = true ∧ d.fused = true ∧ d.writes ≤ (dSv d r').2.writes ∧ (dSv d r').2.writes ≤ d.writes + 1 ∧ Fz (dSv d r').2 ∧ Ss (dSv d r').2.l n r) := by
  rw [h.dsv ho hm hn]
  have hq : n % 2 < 2 := Nat.mod_lt _ (by omega)
  have hl := slB_len r' ((n : Int) + 1)
  by_cases hb : d.fused = true
  case neg =>
    rw [dW2_ok ho hq hl (fun e => absurd e hb)]
    refine .inl ⟨rfl, rfl, rfl, fun e => absurd e hb, h.step hm hn⟩
  have hz := hf hb
  rcases Int.lt_or_le d.fuse 1 with a | a
  · have e0 : d.fuse = 0 := by omega
    rw [dW2_cut0 ho hq hl hb e0]
    exact .inr ⟨rfl, rfl, hb, Int.le_refl _, by show d.writes ≤ d.writes + 1; omega, fun e => (by cases e), h⟩
  rcases Int.lt_or_le d.fuse 2 with a' | a'
  · have e1 : d.fuse = 1 := by omega
    rw [dW2_cut1 ho hq hl hb e1]
    exact .inr ⟨rfl, rfl, hb, by show d.writes ≤ d.writes + 1; omega, Int.le_refl _, fun e => (by cases e), h.torn hn⟩
  · rw [dW2_ok ho hq hl (fun _ => a')]
    refine .inl ⟨rfl, rfl, rfl, fun _ => ?_, h.step hm hn⟩
    dsimp only
    rw [if_pos hb]
    omega
end Go.Proofs.Ytjleggnkacmbbaa
