/- What a row of Saves leaves on a new disk: mathematics. -/
import Derived.Test.YtlpmehmoeladjaaGreatDoorJnJ16
import Derived.Test.YtlpmehmoeladjaaGreatDoorJnJ13
import Derived.Laws.EntriesVeiled
namespace Go.Proofs.YtlpmehmoeladjaaGreatDoor
open Go.RowKit Go.Shelf Go.Lib

/-- A slot's bytes are put. -/
def put2 (l : List Nat) (q : Nat) (S : List Nat) : List Nat := putS (putS l (2 * q) (S.take 32)) (2 * q + 1) (S.drop 32)
section
variable {l S : List Nat} {q : Nat}
theorem half_len (hS : S.length = 64) : (S.take 32).length = 32 ∧ (S.drop 32).length = 32 := ⟨by rw [List.length_take]; omega, by rw [List.length_drop]; omega⟩
theorem put1_len (h : l.length = 256) (hS : S.length = 64) (hq : q < 2) : (putS l (2 * q) (S.take 32)).length = 256 := (putS_len (by rw [(half_len hS).1, h]; omega)).trans h
theorem put2_len (h : l.length = 256) (hS : S.length = 64) (hq : q < 2) : (put2 l q S).length = 256 := (putS_len (by rw [(half_len hS).2, put1_len h hS hq]; omega)).trans (put1_len h hS hq)
theorem slt_put (h : l.length = 256) (hS : S.length = 64) (hq : q < 2) : slt (put2 l q S) q = S := by
  obtain ⟨e1, e2⟩ := half_len hS
  rw [slt_secs, put2, secs_put_ne (put1_len h hS hq) e2 (by omega) (by omega), secs_put h e1 (by omega), secs_put (put1_len h hS hq) e2 (by omega), List.take_append_drop]
theorem slt_put_ne (h : l.length = 256) (hS : S.length = 64) (hq : q < 2) {t : Nat} (ht : t ≠ q) : slt (put2 l q S) t = slt l t := by
  obtain ⟨e1, e2⟩ := half_len hS
  rw [slt_secs, slt_secs, put2, secs_put_ne (put1_len h hS hq) e2 (by omega) (by omega), secs_put_ne h e1 (by omega) (by omega), secs_put_ne (put1_len h hS hq) e2 (by omega) (by omega), secs_put_ne h e1 (by omega) (by omega)]
theorem slt_torn (h : l.length = 256) (hS : S.length = 64) (hq : q < 2) : slt (putS l (2 * q) (S.take 32)) q = S.take 32 ++ (slt l q).drop 32 := by
  obtain ⟨e1, e2⟩ := half_len hS
  rw [slt_secs, secs_put h e1 (by omega), secs_put_ne h e1 (by omega) (by omega), slt_secs, List.drop_append, List.drop_of_length_le (by rw [secs_len h (by omega)]; omega), secs_len h (by omega), List.nil_append]
  rfl
theorem slt_torn_ne (h : l.length = 256) (hS : S.length = 64) (hq : q < 2) {t : Nat} (ht : t ≠ q) : slt (putS l (2 * q) (S.take 32)) t = slt l t := by
  obtain ⟨e1, e2⟩ := half_len hS
  rw [slt_secs, slt_secs, secs_put_ne h e1 (by omega) (by omega), secs_put_ne h e1 (by omega) (by omega)]
end
theorem numB_inj {a b : Nat} (ha : a < 18446744073709551616) (hb : b < 18446744073709551616) (h : numB a 8 = numB b 8) : a = b := by
  have h1 : valB 0 (numB a 8) = a := val_num (by show a < 18446744073709551616; exact ha)
  have h2 : valB 0 (numB b 8) = b := val_num (by show b < 18446744073709551616; exact hb)
  rw [← h1, h, h2]
/-- A torn slot says nothing. -/
theorem say_torn {r : Rec} {s : Int} {X : List Nat} {m : Nat} (hs : 0 ≤ s ∧ s < 9223372036854775808) (hX : (X.drop 36).take 8 = numB m 8) (hm : m < 9223372036854775808) (hn : s ≠ (m : Int)) : say ((slB r s).take 32 ++ X.drop 32) = none := by
  cases h : say ((slB r s).take 32 ++ X.drop 32) with
  | none => rfl
  | some x =>
    exfalso
    obtain ⟨r', s'⟩ := x
    obtain ⟨h1, h2⟩ := say_seq h
    have e1 : (((slB r s).take 32 ++ X.drop 32).drop 4).take 8 = numB s.toNat 8 := rfl
    have hl : ((slB r s).take 32).length = 32 := rfl
    have e2 : (((slB r s).take 32 ++ X.drop 32).drop 36).take 8 = numB m 8 := by
      rw [List.drop_append, List.drop_of_length_le (by rw [hl]; omega), List.nil_append, hl, List.drop_drop]
      exact hX
    have e3 : numB s.toNat 8 = numB m 8 := by rw [← e1, ← e2, h1, h2]
    have := numB_inj (by omega) (by omega) e3
    omega
/-- What lies on a disk behind n Saves, the last one of r. -/
structure Sv (l : List Nat) (n : Nat) (r : Rec) : Prop where
  len : l.length = 256
  byt : Byt l
  new : 1 ≤ n → say (slt l ((n + 1) % 2)) = some (r, (n : Int))
  old : ∀ x, say (slt l (n % 2)) = some x → x.2 < (n : Int)
  seq : ∃ m : Nat, m ≤ n ∧ ((slt l (n % 2)).drop 36).take 8 = numB m 8
  zer : n = 0 → l = List.replicate 256 0
theorem say_zero : say (slt (List.replicate 256 0) 0) = none ∧ say (slt (List.replicate 256 0) 1) = none := ⟨by kernel_rfl, by kernel_rfl⟩
theorem Sv.zero (r : Rec) : Sv d0.l 0 r := ⟨d0_len, byt_zero 256, fun h => absurd h (by omega), fun x hx => (by rw [show say (slt d0.l (0 % 2)) = none from say_zero.1] at hx; cases hx), ⟨0, Nat.le_refl _, by kernel_rfl⟩, fun _ => rfl⟩
theorem nw_of {l : List Nat} {n : Nat} {r : Rec} (h1 : say (slt l ((n + 1) % 2)) = some (r, (n : Int))) (h2 : ∀ x, say (slt l (n % 2)) = some x → x.2 < (n : Int)) : nw l = some ((r, (n : Int)), (n + 1) % 2) := by
  unfold nw
  rcases Nat.mod_two_eq_zero_or_one n with e | e
  · have e2 : (n + 1) % 2 = 1 := by omega
    rw [e2] at h1 ⊢
    rw [e] at h2
    rw [h1]
    cases hs : say (slt l 0) with
    | none => rfl
    | some x =>
      have := h2 x hs
      show (if x.2 < (n : Int) then some ((r, (n : Int)), 1) else some (x, 0)) = _
      rw [if_pos this]
  · have e2 : (n + 1) % 2 = 0 := by omega
    rw [e2] at h1 ⊢
    rw [e] at h2
    rw [h1]
    cases hs : say (slt l 1) with
    | none => rfl
    | some x =>
      have := h2 x hs
      show (if (n : Int) < x.2 then some (x, 1) else some ((r, (n : Int)), 0)) = _
      rw [if_neg (by omega)]
theorem Sv.nw {l : List Nat} {n : Nat} {r : Rec} (h : Sv l n r) : nw l = if n = 0 then none else some ((r, (n : Int)), (n + 1) % 2) := by
  split
  · rename_i e
    rw [h.zer e]
    show nwo (say (slt (List.replicate 256 0) 0)) (say (slt (List.replicate 256 0) 1)) = none
    rw [say_zero.1, say_zero.2]
    rfl
  · exact nw_of (h.new (by omega)) h.old
theorem Sv.step {l : List Nat} {n : Nat} {r r' : Rec} (h : Sv l n r) (hm : May r') (hn : n ≤ 1000) : Sv (put2 l (n % 2) (slB r' ((n : Int) + 1))) (n + 1) r' := by
  have hq : n % 2 < 2 := Nat.mod_lt _ (by omega)
  have hl := slB_len r' ((n : Int) + 1)
  have hne : (n + 1) % 2 ≠ n % 2 := by omega
  have hfit : Fit r' ((n : Int) + 1) := ⟨hm, by omega, by omega⟩
  refine ⟨put2_len h.len hl hq, putS_byt (putS_byt h.byt ((slB_byt _ _).take 32)) ((slB_byt _ _).drop 32), fun _ => ?_, fun x hx => ?_, ?_, fun e => by omega⟩
  · rw [show (n + 1 + 1) % 2 = n % 2 by omega, slt_put h.len hl hq, say_sl hfit]
    rfl
  · rw [slt_put_ne h.len hl hq hne] at hx
    rcases Nat.eq_zero_or_pos n with e | e
    · rw [h.zer e] at hx
      subst e
      rw [show say (slt (List.replicate 256 0) ((0 + 1) % 2)) = none from say_zero.2] at hx
      cases hx
    · rw [h.new e] at hx
      cases hx
      show (n : Int) < ((n + 1 : Nat) : Int)
      omega
  · rw [slt_put_ne h.len hl hq hne]
    rcases Nat.eq_zero_or_pos n with e | e
    · refine ⟨0, by omega, ?_⟩
      rw [h.zer e]
      subst e
      kernel_rfl
    · exact ⟨n, by omega, (say_seq (h.new e)).2⟩
/-- What is told behind a Save that was cut off behind its first sector. -/
theorem Sv.torn {l : List Nat} {n : Nat} {r r' : Rec} (h : Sv l n r) (hn : n ≤ 1000) : Go.Proofs.YtlpmehmoeladjaaGreatDoor.nw (putS l (2 * (n % 2)) ((slB r' ((n : Int) + 1)).take 32)) = Go.Proofs.YtlpmehmoeladjaaGreatDoor.nw l := by
  have hq : n % 2 < 2 := Nat.mod_lt _ (by omega)
  have hl := slB_len r' ((n : Int) + 1)
  have hne : (n + 1) % 2 ≠ n % 2 := by omega
  obtain ⟨m, hm, hs⟩ := h.seq
  have ht : say (slt (putS l (2 * (n % 2)) ((slB r' ((n : Int) + 1)).take 32)) (n % 2)) = none := by
    rw [slt_torn h.len hl hq]
    exact say_torn ⟨by omega, by omega⟩ hs (by omega) (by omega)
  have ho := congrArg say (slt_torn_ne h.len hl hq hne)
  rcases Nat.eq_zero_or_pos n with e | e
  · rw [h.nw, if_pos e]
    subst e
    rw [show ((0 : Nat) + 1) % 2 = 1 from rfl, h.zer rfl, say_zero.2] at ho
    rw [h.zer rfl] at ht ⊢
    show nwo _ _ = _
    rw [show (0 : Nat) % 2 = 0 from rfl] at ht ho ⊢
    rw [ht, ho]
    rfl
  · rw [h.nw, if_neg (by omega)]
    exact nw_of (by rw [ho]; exact h.new e) (fun x hx => by rw [ht] at hx; cases hx)
theorem Sv.nt {d : Dst} {n : Nat} {r : Rec} (h : Sv d.l n r) (ho : d.off = false) : nwT d = if n = 0 then ⟨rec0, 0, 0, 40⟩ else ⟨r, (n : Int), ((n + 1) % 2 : Nat), 0⟩ := by
  rw [nwT, if_neg (by rw [ho]; decide), h.nw]
  split <;> rfl
theorem Sv.save {d : Dst} {n : Nat} {r r' : Rec} (h : Sv d.l n r) (ho : d.off = false) (hm : May r') (hn : n ≤ 1000) : dSv d r' = dW2 d (n % 2) (slB r' ((n : Int) + 1)) := by
  rw [dSv, if_neg (fun q => q hm), if_neg (by rw [ho]; decide), h.nt ho]
  split
  · rename_i e
    subst e
    rw [if_neg (by decide), if_neg (by decide)]
    rfl
  · dsimp only
    rw [if_neg (by omega), if_pos rfl]
    congr 1
    omega
theorem dSv_no {d : Dst} {r' : Rec} (hm : ¬ May r') : dSv d r' = (1, d) := by rw [dSv, if_pos hm]
theorem dW2_ok {d : Dst} {q : Nat} {S : List Nat} (ho : d.off = false) (hq : q < 2) (hS : S.length = 64) (hf : d.fused = true → 2 ≤ d.fuse) : dW2 d q S = (0, ⟨put2 d.l q S, false, d.fused, if d.fused then d.fuse - 2 else d.fuse, d.writes + 2⟩) := by
  obtain ⟨e1, e2⟩ := half_len hS
  obtain ⟨l, of, fd, fu, wr⟩ := d
  dsimp only at ho hf ⊢
  subst ho
  have h1 : ¬ left ⟨l, false, fd, fu, wr⟩ = 0 := by
    unfold left
    cases fd
    · simp
    · have := hf rfl
      simp
      omega
  have w1 : dWr ⟨l, false, fd, fu, wr⟩ (2 * q : Nat) (S.take 32) = (0, ⟨putS l (2 * q) (S.take 32), false, fd, if fd then fu - 1 else fu, wr + 1⟩) := by
    rw [dWr_ok rfl (by omega) e1 h1, Int.toNat_natCast]
    rfl
  have h2 : ¬ left ⟨putS l (2 * q) (S.take 32), false, fd, if fd then fu - 1 else fu, wr + 1⟩ = 0 := by
    unfold left
    cases fd
    · simp
    · have := hf rfl
      simp
      omega
  rw [dW2, w1, if_pos rfl]
  dsimp only
  rw [dWr_ok rfl (by omega) e2 h2, Int.toNat_natCast]
  unfold dBurn put2
  cases fd
  · simp
    omega
  · simp
    constructor <;> omega
theorem dW2_cut0 {d : Dst} {q : Nat} {S : List Nat} (ho : d.off = false) (hq : q < 2) (hS : S.length = 64) (hf : d.fused = true) (h0 : d.fuse = 0) : dW2 d q S = (100, ⟨d.l, true, false, 0, d.writes⟩) := by
  obtain ⟨e1, e2⟩ := half_len hS
  have w1 : dWr d (2 * q : Nat) (S.take 32) = (100, dFuse { d with off := true } (-1)) := dWr_blow ho (by omega) e1 (by unfold left; rw [if_pos hf, h0])
  rw [dW2, w1, if_neg (by show ¬ (100 : Int) = 0; decide)]
  rfl
theorem dW2_cut1 {d : Dst} {q : Nat} {S : List Nat} (ho : d.off = false) (hq : q < 2) (hS : S.length = 64) (hf : d.fused = true) (h0 : d.fuse = 1) : dW2 d q S = (100, ⟨putS d.l (2 * q) (S.take 32), true, false, 0, d.writes + 1⟩) := by
  obtain ⟨e1, e2⟩ := half_len hS
  obtain ⟨l, of, fd, fu, wr⟩ := d
  dsimp only at ho hf h0 ⊢
  subst ho hf h0
  have w1 : dWr ⟨l, false, true, 1, wr⟩ (2 * q : Nat) (S.take 32) = (0, ⟨putS l (2 * q) (S.take 32), false, true, 0, wr + 1⟩) := by
    rw [dWr_ok rfl (by omega) e1 (by show ¬ (1 : Int) = 0; decide), Int.toNat_natCast]
    rfl
  rw [dW2, w1, if_pos rfl]
  dsimp only
  rw [dWr_blow rfl (by omega) e2 rfl]
  rfl
end Go.Proofs.YtlpmehmoeladjaaGreatDoor
namespace Go.Proofs.YtlpmehmoeladjaaGreatDoor
open Go.RowKit Go.Shelf Go.Lib

/-- What lies on a disk behind n Saves that were done, the last one of r; others were cut off. -/
structure Ss (l : List Nat) (n : Nat) (r : Rec) : Prop where
  len : l.length = 256
  byt : Byt l
  new : 1 ≤ n → say (slt l ((n + 1) % 2)) = some (r, (n : Int))
  nil : n = 0 → say (slt l 1) = none ∧ ((slt l 1).drop 36).take 8 = numB 0 8
  old : ∀ x, say (slt l (n % 2)) = some x → x.2 < (n : Int)
  seq : ∃ m : Nat, m ≤ n ∧ ((slt l (n % 2)).drop 36).take 8 = numB m 8
theorem Ss.zero (r : Rec) : Ss d0.l 0 r := ⟨d0_len, byt_zero 256, fun h => absurd h (by omega), fun _ => ⟨say_zero.2, by kernel_rfl⟩, fun x hx => (by rw [show say (slt d0.l (0 % 2)) = none from say_zero.1] at hx; cases hx), ⟨0, Nat.le_refl _, by kernel_rfl⟩⟩
theorem Ss.nw {l : List Nat} {n : Nat} {r : Rec} (h : Ss l n r) : nw l = if n = 0 then none else some ((r, (n : Int)), (n + 1) % 2) := by
  split
  · rename_i e
    subst e
    have h0 : say (slt l 0) = none := by
      cases hs : say (slt l 0) with
      | none => rfl
      | some x =>
        have h1 := h.old x hs
        have h2 := (say_some hs).1.2.1
        exfalso
        have h3 : x.2 < (0 : Int) := h1
        omega
    show nwo (say (slt l 0)) (say (slt l 1)) = none
    rw [h0, (h.nil rfl).1]
    rfl
  · exact nw_of (h.new (by omega)) h.old
theorem Ss.step {l : List Nat} {n : Nat} {r r' : Rec} (h : Ss l n r) (hm : May r') (hn : n ≤ 1000000) : Ss (put2 l (n % 2) (slB r' ((n : Int) + 1))) (n + 1) r' := by
  have hq : n % 2 < 2 := Nat.mod_lt _ (by omega)
  have hl := slB_len r' ((n : Int) + 1)
  have hne : (n + 1) % 2 ≠ n % 2 := by omega
  have hfit : Fit r' ((n : Int) + 1) := ⟨hm, by omega, by omega⟩
  refine ⟨put2_len h.len hl hq, putS_byt (putS_byt h.byt ((slB_byt _ _).take 32)) ((slB_byt _ _).drop 32), fun _ => ?_, fun e => by omega, fun x hx => ?_, ?_⟩
  · rw [show (n + 1 + 1) % 2 = n % 2 by omega, slt_put h.len hl hq, say_sl hfit]
    rfl
  · rw [slt_put_ne h.len hl hq hne] at hx
    rcases Nat.eq_zero_or_pos n with e | e
    · subst e
      rw [show say (slt l ((0 + 1) % 2)) = none from (h.nil rfl).1] at hx
      cases hx
    · rw [h.new e] at hx
      cases hx
      show (n : Int) < ((n + 1 : Nat) : Int)
      omega
  · rw [slt_put_ne h.len hl hq hne]
    rcases Nat.eq_zero_or_pos n with e | e
    · subst e
      exact ⟨0, by omega, (h.nil rfl).2⟩
    · exact ⟨n, by omega, (say_seq (h.new e)).2⟩
/-- A Save that was cut off behind its first sector. -/
theorem Ss.torn {l : List Nat} {n : Nat} {r r' : Rec} (h : Ss l n r) (hn : n ≤ 1000000) : Ss (putS l (2 * (n % 2)) ((slB r' ((n : Int) + 1)).take 32)) n r := by
  have hq : n % 2 < 2 := Nat.mod_lt _ (by omega)
  have hl := slB_len r' ((n : Int) + 1)
  have hne : (n + 1) % 2 ≠ n % 2 := by omega
  obtain ⟨m, hm, hs⟩ := h.seq
  have ho := slt_torn_ne h.len hl hq hne
  have ht : say (slt (putS l (2 * (n % 2)) ((slB r' ((n : Int) + 1)).take 32)) (n % 2)) = none := by
    rw [slt_torn h.len hl hq]
    exact say_torn ⟨by omega, by omega⟩ hs (by omega) (by omega)
  refine ⟨put1_len h.len hl hq, putS_byt h.byt ((slB_byt _ _).take 32), fun e => (by rw [ho]; exact h.new e), fun e => ?_, fun x hx => (by rw [ht] at hx; cases hx), m, hm, ?_⟩
  · subst e
    have h0 : slt (putS l (2 * (0 % 2)) ((slB r' (((0 : Nat) : Int) + 1)).take 32)) 1 = slt l 1 := ho
    rw [h0]
    exact h.nil rfl
  · rw [slt_torn h.len hl hq, List.drop_append, List.drop_of_length_le (by rw [(half_len hl).1]; omega), List.nil_append, (half_len hl).1, List.drop_drop]
    exact hs
theorem Ss.nt {d : Dst} {n : Nat} {r : Rec} (h : Ss d.l n r) (ho : d.off = false) : nwT d = if n = 0 then ⟨rec0, 0, 0, 40⟩ else ⟨r, (n : Int), ((n + 1) % 2 : Nat), 0⟩ := by
  rw [nwT, if_neg (by rw [ho]; decide), h.nw]
  split <;> rfl
theorem Ss.dsv {d : Dst} {n : Nat} {r r' : Rec} (h : Ss d.l n r) (ho : d.off = false) (hm : May r') (hn : n ≤ 1000000) : dSv d r' = dW2 d (n % 2) (slB r' ((n : Int) + 1)) := by
  rw [dSv, if_neg (fun q => q hm), if_neg (by rw [ho]; decide), h.nt ho]
  split
  · rename_i e
    subst e
    rw [if_neg (by decide), if_neg (by decide)]
    rfl
  · dsimp only
    rw [if_neg (by omega), if_pos rfl]
    congr 1
    omega
/-- A Save on such a disk: done, or the power is gone and all is told as ahead of it. -/
theorem Ss.save {d : Dst} {n : Nat} {r r' : Rec} (h : Ss d.l n r) (ho : d.off = false) (hf : Fz d) (hm : May r') (hn : n ≤ 1000000) : ((dSv d r').1 = 0 ∧ (dSv d r').2.off = false ∧ (dSv d r').2.writes = d.writes + 2 ∧ Fz (dSv d r').2 ∧ Ss (dSv d r').2.l (n + 1) r') ∨ ((dSv d r').1 = 100 ∧ (dSv d r').2.off = true ∧ d.fused = true ∧ d.writes ≤ (dSv d r').2.writes ∧ (dSv d r').2.writes ≤ d.writes + 1 ∧ Fz (dSv d r').2 ∧ Ss (dSv d r').2.l n r) := by
  rw [h.dsv ho hm hn]
  have hq : n % 2 < 2 := Nat.mod_lt _ (by omega)
  have hl := slB_len r' ((n : Int) + 1)
  by_cases hb : d.fused = true
  case neg =>
    rw [dW2_ok ho hq hl (fun e => absurd e hb)]
    refine .inl ⟨rfl, rfl, rfl, fun e => absurd e hb, h.step hm hn⟩
  have hz := hf hb
  rcases Int.lt_or_le d.fuse 1 with a | a
  · have e0 : d.fuse = 0 := by omega
    rw [dW2_cut0 ho hq hl hb e0]
    exact .inr ⟨rfl, rfl, hb, Int.le_refl _, by show d.writes ≤ d.writes + 1; omega, fun e => (by cases e), h⟩
  rcases Int.lt_or_le d.fuse 2 with a' | a'
  · have e1 : d.fuse = 1 := by omega
    rw [dW2_cut1 ho hq hl hb e1]
    exact .inr ⟨rfl, rfl, hb, by show d.writes ≤ d.writes + 1; omega, Int.le_refl _, fun e => (by cases e), h.torn hn⟩
  · rw [dW2_ok ho hq hl (fun _ => a')]
    refine .inl ⟨rfl, rfl, rfl, fun _ => ?_, h.step hm hn⟩
    dsimp only
    rw [if_pos hb]
    omega
end Go.Proofs.YtlpmehmoeladjaaGreatDoor
namespace Go.Proofs.YtlpmehmoeladjaaGreatDoor
open Go.RowKit Go.Shelf Go.Lib

/-- What a Boot has: the durable record, the round, the tag. -/
structure Bo where
  r : Rec
  ro : Int
  ta : Int
def btC (b : Bo) (P : Option Addr) : Array Value := #[.int .i64 b.r.li, .int .i64 b.r.ro, .int .i64 b.r.ta, .pointer P, .int .i64 b.ro, .int .i64 b.ta]
/-- A Boot lies at q; its disk's pointer is P. -/
def Bt (W : World) (q : Nat) (P : Option Addr) (b : Bo) : Prop := W.heap[q]? = some (.cells (btC b P) 85 (0, 0))
theorem Bt.carry {W V : World} {q : Nat} {P : Option Addr} {b : Bo} (h : Bt W q P b) (hb : Below W.heap.size W V) : Bt V q P b := (hb.block _ (lt_at h)).trans h
/-- Beyond a round, beyond a tag. -/
def bR (x : Int) : Int := if 1099511627775 < x + 16 then 1099511627775 else x + 16
def bT (x : Int) : Int := if 1048576 < x + 4 then 1048576 else x + 4
set_option maxHeartbeats 1000000 in
set_option maxRecDepth 100000 in
theorem rounds_any (x : Int) (h1 : -9223372036854775808 ≤ x) (h2 : x ≤ 9223372036854775791) (W : World) : Calls Tryz.prog 28 #[.int .i64 x] W fun e w' => e = .returned (.int .i64 (bR x)) ∧ w' = W := by
  have hw := i64_id (x + 16) (by omega) (by omega)
  by_cases h : 1099511627775 < x + 16
  · rw [bR, if_pos h]
    go_enter Tryz.func28, Tryz.ntmps28
    go_wp2
    all_goals (go_ret; first | exact ⟨rfl, rfl⟩ | omega)
  · rw [bR, if_neg h]
    go_enter Tryz.func28, Tryz.ntmps28
    go_wp2
    all_goals (go_ret; first | exact ⟨rfl, rfl⟩ | omega)
set_option maxHeartbeats 1000000 in
set_option maxRecDepth 100000 in
theorem tags_any (x : Int) (h1 : -9223372036854775808 ≤ x) (h2 : x ≤ 9223372036854775791) (W : World) : Calls Tryz.prog 29 #[.int .i64 x] W fun e w' => e = .returned (.int .i64 (bT x)) ∧ w' = W := by
  have hw := i64_id (x + 4) (by omega) (by omega)
  by_cases h : 1048576 < x + 4
  · rw [bT, if_pos h]
    go_enter Tryz.func29, Tryz.ntmps29
    go_wp2
    all_goals (go_ret; first | exact ⟨rfl, rfl⟩ | omega)
  · rw [bT, if_neg h]
    go_enter Tryz.func29, Tryz.ntmps29
    go_wp2
    all_goals (go_ret; first | exact ⟨rfl, rfl⟩ | omega)
section
variable {W : World} {q p : Nat} {P : Option Addr} {b : Bo} {d : Dst}
set_option maxHeartbeats 1000000 in
set_option maxRecDepth 100000 in
theorem ready_any (h : Bt W q (some ⟨p, 0, none⟩) b) (hd : Dk W p d) : Calls Tryz.prog 83 #[.pointer (some ⟨q, 0, none⟩)] W fun e w' => e = .returned (.int .i64 (if d.off then 100 else 0)) ∧ w' = W := by
  have c := cell_at h 3
  have ho := on_any hd
  unfold btC at c
  simp at c
  cases hf : d.off
  all_goals
    rw [hf] at ho
    simp only [Bool.not_false, Bool.not_true] at ho
    go_enter Tryz.func83, Tryz.ntmps83
    go_wp2_with (go_at_call 71; (with_reducible refine ho.mono ?_); rintro e u ⟨rfl, hu⟩; obtain rfl := hu.symm)
    go_ret
    exact ⟨rfl, rfl⟩
set_option maxHeartbeats 1000000 in
set_option maxRecDepth 100000 in
theorem btag_any (h : Bt W q P b) : Calls Tryz.prog 20 #[.pointer (some ⟨q, 0, none⟩)] W fun e w' => e = .returned (.int .i64 b.ta) ∧ w' = W := by
  have c := cell_at h 5
  unfold btC at c
  simp at c
  go_enter Tryz.func20, Tryz.ntmps20
  go_wp2
  go_ret
  exact ⟨rfl, rfl⟩
set_option maxHeartbeats 1000000 in
set_option maxRecDepth 100000 in
theorem durable_any (h : Bt W q P b) : Calls Tryz.prog 21 #[.pointer (some ⟨q, 0, none⟩)] W fun e w' => e = .returned (rV b.r) ∧ Below W.heap.size W w' := by
  obtain ⟨w1, hw1⟩ : ∃ w1, W.alloc (.cells #[.int .i64 0, .int .i64 0, .int .i64 0] 35) = w1 := ⟨_, rfl⟩
  have hb1 : Below W.heap.size W w1 := by rw [← hw1]; exact al1' _ _
  have hg1 : w1.heap[W.heap.size]? = some (.cells #[.int .i64 0, .int .i64 0, .int .i64 0] 35 (0, 0)) := by rw [← hw1]; exact new_at rfl
  have h1 := h.carry hb1
  have c0 := cell_at h1 0
  have c1 := cell_at h1 1
  have c2 := cell_at h1 2
  unfold btC at c0 c1 c2
  simp at c0 c1 c2
  go_enter Tryz.func21, Tryz.ntmps21
  go_wp2_with (refine wpList_store_row rfl 35 (.tmp 2) (.tmp 10) rfl W.heap.size #[.int .i64 b.r.li, .int .i64 b.r.ro, .int .i64 b.r.ta] rfl rfl 35 _ hg1 infoR rfl (by simp [Value.oneCell']) ?_; obtain ⟨v, hv⟩ : ∃ v, w1.setRow W.heap.size #[.int .i64 b.r.li, .int .i64 b.r.ro, .int .i64 b.r.ta] = v := ⟨_, rfl⟩; have HV : Hid (v.heap[W.heap.size]? = some (.cells #[.int .i64 b.r.li, .int .i64 b.r.ro, .int .i64 b.r.ta] 35 (0, 0))) := (by rw [← hv]; exact setRow_heap _ _ _ _ _ _ hg1); have HB : Hid (Below W.heap.size W v) := (by rw [← hv]; exact below_setRow hb1 (Nat.le_refl _) _); rw [hv])
  (try simp only [Exit.inBlock, Exit.then])
  refine bodyPost_ret (results_cell_row rfl _ _ W.heap.size _ _ (0, 0) _ rfl HV.out undR rfl infoR) rfl ?_
  exact ⟨rfl, HB.out⟩
theorem field_R0 (x y z : Int) (w : World) : (Instr.field 35 (.agg #[.int .i64 x, .int .i64 y, .int .i64 z]) 0).run Tryz.prog w = .ok (.int .i64 x) w := by kernel_rfl
end
end Go.Proofs.YtlpmehmoeladjaaGreatDoor
