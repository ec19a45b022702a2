/- A row of lives on a disk that nothing but Boots has written: mathematics; the statements' alive. -/
import Derived.Test.YtjleggnkacmbbaaBtg
namespace Go.Proofs.Ytjleggnkacmbbaa
open Go.RowKit Go.Shelf Go.Lib

theorem bR_ge {x : Int} (h : x < 1099511627775) : x + 1 ≤ bR x ∧ bR x ≤ 1099511627775 := by
  unfold bR
  split <;> constructor <;> omega
theorem bR_le {x : Int} (h : x ≤ 1099511627775) : x ≤ bR x ∧ bR x ≤ 1099511627775 := by
  unfold bR
  split <;> constructor <;> omega
theorem bT_ge {x : Int} (h : x < 1048576) : x + 1 ≤ bT x ∧ bT x ≤ 1048576 := by
  unfold bT
  split <;> constructor <;> omega
theorem bT_le {x : Int} (h : x ≤ 1048576) : x ≤ bT x ∧ bT x ≤ 1048576 := by
  unfold bT
  split <;> constructor <;> omega
/-- A disk between two lives. -/
structure Sd0 (d : Dst) (n : Nat) (r : Rec) : Prop where
  ss : Ss d.l n r
  fz : Fz d
  may : 1 ≤ n → May r
  zr : n = 0 → r = rec0
/-- A disk while a life goes on. -/
structure Lv (d : Dst) (n : Nat) (b : Bo) : Prop where
  ss : Ss d.l n b.r
  n1 : 1 ≤ n
  fz : Fz d
  may : May b.r
  ro : 0 ≤ b.ro ∧ b.ro ≤ b.r.ro
  ta : 0 ≤ b.ta ∧ b.ta ≤ b.r.ta
section
variable {d : Dst} {n : Nat} {b : Bo} {r : Rec}
theorem Lv.sd (h : Lv d n b) : Sd0 d n b.r := ⟨h.ss, h.fz, fun _ => h.may, fun e => by have := h.n1; omega⟩
theorem Lv.ok (h : Lv d n b) : OkB b := by
  obtain ⟨⟨m1, m2⟩, ⟨m3, m4⟩, m5, m6⟩ := h.may
  have h1 := h.ro
  have h2 := h.ta
  refine ⟨⟨?_, ?_⟩, ⟨?_, ?_⟩, ⟨?_, ?_⟩, ⟨?_, ?_⟩, ?_, ?_⟩ <;> omega
theorem Lv.next (h : Lv d n b) (hn : n ≤ 999999) : ∃ n', n ≤ n' ∧ n' ≤ n + 1 ∧ Lv (dNx d b).d n' (dNx d b).b ∧ d.writes ≤ (dNx d b).d.writes ∧ (dNx d b).d.writes ≤ d.writes + 2 ∧ (dNx d b).b.r.li = b.r.li ∧ (((dNx d b).e = 0 ∧ (dNx d b).x = b.ro + 1 ∧ (dNx d b).b.ro = b.ro + 1 ∧ (dNx d b).b.ta = b.ta) ∨ ((dNx d b).e ≠ 0 ∧ (dNx d b).b = b)) := by
  have hro := h.ro
  obtain ⟨⟨m1, m2⟩, ⟨m3, m4⟩, m5, m6⟩ := h.may
  unfold dNx
  split
  · exact ⟨n, Nat.le_refl _, by omega, h, Int.le_refl _, by dsimp only; omega, rfl, .inr ⟨by show (100 : Int) ≠ 0; decide, rfl⟩⟩
  rename_i ho
  have ho' : d.off = false := by simpa using ho
  split
  · exact ⟨n, Nat.le_refl _, by omega, h, Int.le_refl _, by dsimp only; omega, rfl, .inr ⟨by show (120 : Int) ≠ 0; decide, rfl⟩⟩
  rename_i hm
  split
  · rename_i he
    have hb := bR_ge (x := b.ro) (by omega)
    have hmay : May (rNx b) := ⟨⟨m1, m2⟩, ⟨by show 0 ≤ bR b.ro; omega, hb.2⟩, m5, m6⟩
    rcases h.ss.save ho' h.fz hmay (by omega) with ⟨s1, s2, s3, s4, s5⟩ | ⟨s1, s2, s3, s4, s5, s6, s7⟩
    · rw [if_pos s1]
      exact ⟨n + 1, by omega, Nat.le_refl _, ⟨s5, by omega, s4, hmay, ⟨by dsimp only; omega, hb.1⟩, h.ta⟩, by dsimp only; omega, by dsimp only; omega, rfl, .inl ⟨rfl, rfl, rfl, rfl⟩⟩
    · rw [if_neg (by rw [s1]; decide)]
      exact ⟨n, Nat.le_refl _, by omega, ⟨s7, h.n1, s6, h.may, h.ro, h.ta⟩, s4, by dsimp only; omega, rfl, .inr ⟨by dsimp only; rw [s1]; decide, rfl⟩⟩
  · rename_i he
    exact ⟨n, Nat.le_refl _, by omega, ⟨h.ss, h.n1, h.fz, h.may, ⟨by dsimp only; omega, by dsimp only; omega⟩, h.ta⟩, Int.le_refl _, by dsimp only; omega, rfl, .inl ⟨rfl, rfl, rfl, rfl⟩⟩
theorem Lv.raise (h : Lv d n b) (hn : n ≤ 999999) (t : Int) : ∃ n', n ≤ n' ∧ n' ≤ n + 1 ∧ Lv (dRa d b t).d n' (dRa d b t).b ∧ d.writes ≤ (dRa d b t).d.writes ∧ (dRa d b t).d.writes ≤ d.writes + 2 ∧ (dRa d b t).b.r.li = b.r.li ∧ (dRa d b t).b.ro = b.ro ∧ b.ta ≤ (dRa d b t).b.ta := by
  have hta := h.ta
  obtain ⟨⟨m1, m2⟩, ⟨m3, m4⟩, m5, m6⟩ := h.may
  unfold dRa
  split
  · exact ⟨n, Nat.le_refl _, by omega, h, Int.le_refl _, by dsimp only; omega, rfl, rfl, Int.le_refl _⟩
  rename_i ho
  have ho' : d.off = false := by simpa using ho
  split
  · exact ⟨n, Nat.le_refl _, by omega, h, Int.le_refl _, by dsimp only; omega, rfl, rfl, Int.le_refl _⟩
  rename_i hn0
  split
  · exact ⟨n, Nat.le_refl _, by omega, h, Int.le_refl _, by dsimp only; omega, rfl, rfl, Int.le_refl _⟩
  rename_i hm
  split
  · exact ⟨n, Nat.le_refl _, by omega, h, Int.le_refl _, by dsimp only; omega, rfl, rfl, Int.le_refl _⟩
  rename_i hl
  split
  · rename_i hg
    have hb := bT_ge (x := t - 1) (by omega)
    have hmay : May (rRa b t) := ⟨⟨m1, m2⟩, ⟨m3, m4⟩, by show 0 ≤ bT (t - 1); omega, hb.2⟩
    rcases h.ss.save ho' h.fz hmay (by omega) with ⟨s1, s2, s3, s4, s5⟩ | ⟨s1, s2, s3, s4, s5, s6, s7⟩
    · rw [if_pos s1]
      exact ⟨n + 1, by omega, Nat.le_refl _, ⟨s5, by omega, s4, hmay, h.ro, ⟨by dsimp only; omega, by show t ≤ bT (t - 1); omega⟩⟩, by dsimp only; omega, by dsimp only; omega, rfl, rfl, by dsimp only; omega⟩
    · rw [if_neg (by rw [s1]; decide)]
      exact ⟨n, Nat.le_refl _, by omega, ⟨s7, h.n1, s6, h.may, h.ro, h.ta⟩, s4, by dsimp only; omega, rfl, rfl, Int.le_refl _⟩
  · rename_i hg
    exact ⟨n, Nat.le_refl _, by omega, ⟨h.ss, h.n1, h.fz, h.may, h.ro, ⟨by dsimp only; omega, by dsimp only; omega⟩⟩, Int.le_refl _, by dsimp only; omega, rfl, rfl, by dsimp only; omega⟩
theorem Sd0.nr (h : Sd0 d n r) (ho : d.off = false) : (nwT d).r = r := by
  rw [h.ss.nt ho]
  split
  · rename_i e
    rw [h.zr e]
  · rfl
theorem Sd0.bd (h : Sd0 d n r) : (0 ≤ r.li ∧ r.li ≤ 1073741824) ∧ (0 ≤ r.ro ∧ r.ro ≤ 1099511627775) ∧ 0 ≤ r.ta ∧ r.ta ≤ 1048576 := by
  rcases Nat.eq_zero_or_pos n with e | e
  · rw [h.zr e]
    decide
  · obtain ⟨⟨m1, m2⟩, ⟨m3, m4⟩, m5, m6⟩ := h.may e
    exact ⟨⟨by omega, m2⟩, ⟨m3, m4⟩, m5, m6⟩
theorem Sd0.open (h : Sd0 d n r) (ho : d.off = false) (hl : r.li < 1073741824) (hn : n ≤ 999999) : ((dOp d).e = 0 ∧ Lv (dOp d).d (n + 1) (dOp d).b ∧ (dOp d).b.r.li = r.li + 1 ∧ (dOp d).b.ro = r.ro ∧ (dOp d).b.ta = r.ta ∧ (dOp d).d.writes = d.writes + 2) ∨ ((dOp d).e = 100 ∧ Sd0 (dOp d).d n r ∧ d.writes ≤ (dOp d).d.writes ∧ (dOp d).d.writes ≤ d.writes + 2) := by
  have hb := h.bd
  rw [dOp, if_neg (by rw [ho]; decide), h.nr ho, if_neg (by omega)]
  have h1 := bR_le (x := r.ro) (by omega)
  have h2 := bT_le (x := r.ta) (by omega)
  have hmay : May (nxL r) := ⟨⟨by show 1 ≤ r.li + 1; omega, by show r.li + 1 ≤ _; omega⟩, ⟨by show 0 ≤ bR r.ro; omega, h1.2⟩, by show 0 ≤ bT r.ta; omega, h2.2⟩
  rcases h.ss.save ho h.fz hmay (by omega) with ⟨s1, s2, s3, s4, s5⟩ | ⟨s1, s2, s3, s4, s5, s6, s7⟩
  · exact .inl ⟨s1, ⟨s5, by omega, s4, hmay, ⟨hb.2.1.1, h1.1⟩, ⟨hb.2.2.1, h2.1⟩⟩, rfl, rfl, rfl, s3⟩
  · exact .inr ⟨s1, ⟨s7, s6, h.may, h.zr⟩, s4, by dsimp only; omega⟩
theorem Sd0.fuse (h : Sd0 d n r) {k : Int} (hk : k ≤ 9223372036854775807) : Sd0 (dFuse { d with off := false } k) n r := by
  refine ⟨h.ss, fun e => ?_, h.may, h.zr⟩
  have e1 : 0 ≤ k := of_decide_eq_true e
  have e2 : (dFuse { d with off := false } k).fuse = k := if_pos e1
  rw [e2]
  exact ⟨e1, hk⟩
end
theorem Sd0.zero : Sd0 d0 0 rec0 := ⟨Ss.zero _, fun e => (by cases e), fun e => absurd e (by omega), fun _ => rfl⟩
theorem on0 : d0.off = false := rfl
theorem op0 : (dOp d0).e = 0 ∧ (dOp d0).b = ⟨⟨1, 16, 4⟩, 0, 0⟩ ∧ (dOp d0).d.writes = 2 ∧ (dOp d0).d.off = false ∧ Lv (dOp d0).d 1 ⟨⟨1, 16, 4⟩, 0, 0⟩ ∧ (dOp d0).d.fused = false := by
  have hr := Sd0.zero.nr on0
  have e : dOp d0 = ⟨(dSv d0 ⟨1, 16, 4⟩).1, (dSv d0 ⟨1, 16, 4⟩).2, ⟨⟨1, 16, 4⟩, 0, 0⟩⟩ := by
    rw [dOp, if_neg (by rw [on0]; decide), hr, if_neg (by decide)]
    rfl
  have hd : dSv d0 ⟨1, 16, 4⟩ = (0, ⟨put2 d0.l 0 (slB ⟨1, 16, 4⟩ 1), false, false, 0, 2⟩) := by
    rw [(Ss.zero rec0).dsv on0 (by decide) (by omega), dW2_ok on0 (by omega) (slB_len _ _) (fun h => by cases h)]
    rfl
  rcases Sd0.zero.open on0 (by decide) (by omega) with ⟨h1, h2, _⟩ | ⟨h1, _⟩
  · refine ⟨h1, by rw [e], by rw [e]; dsimp only; rw [hd], by rw [e]; dsimp only; rw [hd], ?_, by rw [e]; dsimp only; rw [hd]⟩
    have e2 : (dOp d0).b = ⟨⟨1, 16, 4⟩, 0, 0⟩ := by rw [e]
    rw [e2] at h2
    exact h2
  · rw [e] at h1
    dsimp only at h1
    rw [hd] at h1
    exact absurd h1 (by decide)
set_option maxHeartbeats 4000000 in
set_option maxRecDepth 100000 in
theorem alive_any (w : World) : Calls Try.prog 9 #[] w fun e w' => e = .returned (.bool true) ∧ Below w.heap.size w w' := by
  obtain ⟨a1, a2, a3, a4, a5, a6⟩ := op0
  have hn := dnew_any w
  have ho : ∀ V, Dk V w.heap.size d0 → Calls Try.prog 12 #[.pointer (some ⟨w.heap.size, 0, none⟩)] V fun e w' => ∃ q, e = .returned (.tuple #[.pointer (some ⟨q, 0, none⟩), .int .i64 0]) ∧ V.heap.size ≤ q ∧ Bt w' q (some ⟨w.heap.size, 0, none⟩) ⟨⟨1, 16, 4⟩, 0, 0⟩ ∧ Dk w' w.heap.size (dOp d0).d ∧ Tp w.heap.size V w' := fun V hV =>
    (open_any hV (fun e => by cases e) (by decide) (by decide)).mono (by
      rintro e w' ⟨h1, _, h3, h4⟩
      obtain ⟨q, rfl, hq, hb⟩ := h1 a1
      rw [a2] at hb
      exact ⟨q, rfl, hq, hb, h3, h4⟩)
  have hx : dNx (dOp d0).d ⟨⟨1, 16, 4⟩, 0, 0⟩ = ⟨1, 0, (dOp d0).d, ⟨⟨1, 16, 4⟩, 1, 0⟩⟩ := by
    rw [dNx, if_neg (by rw [a4]; decide), if_neg (by decide), if_neg (by decide)]
    rfl
  have hne : ∀ V q, Dk V w.heap.size (dOp d0).d → Bt V q (some ⟨w.heap.size, 0, none⟩) ⟨⟨1, 16, 4⟩, 0, 0⟩ → Calls Try.prog 13 #[.pointer (some ⟨q, 0, none⟩)] V fun e w' => e = .returned (.tuple #[.int .i64 1, .int .i64 0]) ∧ Dk w' w.heap.size (dOp d0).d ∧ Bt w' q (some ⟨w.heap.size, 0, none⟩) ⟨⟨1, 16, 4⟩, 1, 0⟩ ∧ Tq w.heap.size q V w' := fun V q hV hB => by
    have := next_any hB hV a5.ok a5.fz (by rw [a3]; decide) (by rw [a3]; decide)
    rw [hx] at this
    exact this
  have hwr : ∀ V, Dk V w.heap.size (dOp d0).d → Calls Try.prog 14 #[.pointer (some ⟨w.heap.size, 0, none⟩)] V fun e w' => e = .returned (.int .i64 2) ∧ w' = V := fun V hV => by
    have := writes_any hV
    rw [a3] at this
    exact this
  have hbl : ∀ (x : World), Tp w.heap.size w x → Below w.heap.size w x := fun x h => h.below (Nat.le_refl _) (Nat.le_refl _)
  obtain ⟨D, hD⟩ : ∃ D, (dOp d0).d = D := ⟨_, rfl⟩
  rw [hD] at ho hne hwr
  clear hD a1 a2 a3 a4 a5 a6 hx
  go_enter Try.func9, Try.ntmps9
  go_wp2_with (first | (go_at_call 11; (with_reducible refine hn.mono ?_); rintro e u1 ⟨rfl, h1, hlt, hu1⟩; have ha := ho _ h1) | (go_at_call 12; (with_reducible refine ha.mono ?_); rintro e u2 ⟨q, rfl, hq, hB2, hD2, hT2⟩; have hb := hne _ _ hD2 hB2) | (go_at_call 13; (with_reducible refine hb.mono ?_); rintro e u3 ⟨rfl, hD3, hB3, hT3⟩; have hc := life_any hB3) | (go_at_call 18; (with_reducible refine hc.mono ?_); rintro e u4 ⟨rfl, hu4⟩; have hd := durable_any (hB3.carry hu4); unfold rV at hd; dsimp only at hd) | (go_at_call 15; (with_reducible refine hd.mono ?_); rintro e u5 ⟨rfl, hu5⟩; have hf := hwr _ ((hD3.carry hu4).carry hu5)) | (go_at_call 14; (with_reducible refine hf.mono ?_); rintro e u6 ⟨rfl, hu6⟩; obtain rfl := hu6.symm))
  go_ret
  refine ⟨rfl, ?_⟩
  have g1 := hu1.size
  have b2 : Below w.heap.size w u2 := hu1.trans (hT2.below (Nat.le_refl _) (by omega))
  have b3 : Below w.heap.size w u3 := b2.trans (hT3.below (Nat.le_refl _) (by omega) b2.size)
  exact bel2 (bel2 b3 hu4) hu5
end Go.Proofs.Ytjleggnkacmbbaa
