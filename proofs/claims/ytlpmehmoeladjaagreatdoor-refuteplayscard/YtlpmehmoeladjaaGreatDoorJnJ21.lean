/- boot's Open: what it answers. -/
import Derived.Test.YtlpmehmoeladjaaGreatDoorJnJ19
import Derived.Test.YtlpmehmoeladjaaGreatDoorJnJ20
import Derived.Test.YtlpmehmoeladjaaGreatDoorJnJ3
namespace Go.Proofs.YtlpmehmoeladjaaGreatDoor
open Go.RowKit Go.Shelf Go.Lib

def bo0 : Bo := ⟨rec0, 0, 0⟩
/-- Open: the error, the disk and the Boot behind it. -/
def dOp (d : Dst) : Ra :=
  if d.off = true then ⟨100, d, bo0⟩ else if (nwT d).r.li = 1073741824 then ⟨120, d, bo0⟩ else ⟨(dSv d (nxL (nwT d).r)).1, (dSv d (nxL (nwT d).r)).2, ⟨nxL (nwT d).r, (nwT d).r.ro, (nwT d).r.ta⟩⟩
theorem nwT_r (d : Dst) : (0 ≤ (nwT d).r.li ∧ (nwT d).r.li ≤ 1073741824) ∧ (0 ≤ (nwT d).r.ro ∧ (nwT d).r.ro ≤ 1099511627775) ∧ 0 ≤ (nwT d).r.ta ∧ (nwT d).r.ta ≤ 1048576 := by
  unfold nwT
  split
  · decide
  · cases h : nw d.l with
    | none => decide
    | some x =>
      obtain ⟨⟨r, s⟩, k⟩ := x
      obtain ⟨⟨⟨⟨h1, h2⟩, ⟨h3, h4⟩, h5, h6⟩, _⟩, _⟩ := nw_fit h
      exact ⟨⟨by show 0 ≤ r.li; omega, h2⟩, ⟨h3, h4⟩, h5, h6⟩
theorem nwT_e2 (d : Dst) (h : ¬ d.off = true) : (nwT d).e = 0 ∨ (nwT d).e = 40 := by
  unfold nwT
  rw [if_neg h]
  cases nw d.l with
  | none => exact .inr rfl
  | some x => exact .inl rfl
theorem Tq.out {p q : Nat} {W W' W'' : World} (h : Below W.heap.size W W') (k : Tq p q W' W'') (hq : W.heap.size ≤ q) : Tp p W W'' :=
  ⟨k.os.trans h.os, k.tape.trans h.tape, k.output.trans h.output, Nat.le_trans h.size k.size, fun j hj hn => (k.block j (Nat.lt_of_lt_of_le hj h.size) hn (by omega)).trans (h.block j hj)⟩
section
variable {W V : World} {q p : Nat} {P : Option Addr} {b : Bo} {d : Dst} {t : Int}
set_option maxHeartbeats 8000000 in
set_option maxRecDepth 100000 in
theorem open_any {Wi : World} (hd : Dk Wi p d) (hf : Fz d) (hw0 : 0 ≤ d.writes) (hw : d.writes ≤ 4611686018427387903) : Calls Tryz.prog 7 #[.pointer (some ⟨p, 0, none⟩)] Wi fun e w' => ((dOp d).e = 0 → ∃ q, e = .returned (.tuple #[.pointer (some ⟨q, 0, none⟩), .int .i64 0]) ∧ Wi.heap.size ≤ q ∧ Bt w' q (some ⟨p, 0, none⟩) (dOp d).b) ∧ ((dOp d).e ≠ 0 → e = .returned (.tuple #[.pointer none, .int .i64 (dOp d).e])) ∧ Dk w' p (dOp d).d ∧ Tp p Wi w' := by
  have hld := load_any hd
  have hr := nwT_r d
  have he2 := nwT_e2 d
  have hoe := nwT_e d
  unfold dOp
  obtain ⟨t, ht⟩ : ∃ t, nwT d = t := ⟨_, rfl⟩
  rw [ht] at hld hr he2 hoe ⊢
  clear ht
  obtain ⟨⟨l, r, a⟩, s, k, e⟩ := t
  unfold ldV rV at hld
  dsimp only at hld hr he2 hoe ⊢
  by_cases ho : d.off = true
  case pos =>
    obtain rfl := hoe.2 ho
    rw [if_pos ho]
    clear he2 hoe
    go_enter Tryz.func7, Tryz.ntmps7
    go_wp2_with (go_at_call 25; (with_reducible refine hld.mono ?_); rintro e u1 ⟨rfl, hu1⟩)
    go_ret2
    exact ⟨fun h => absurd (show (100 : Int) = 0 from h) (by decide), fun _ => rfl, hd.carry (bel2Z hu1 (al1' _ _)), Tp.of _ (bel2Z hu1 (al1' _ _))⟩
  rw [if_neg ho]
  have he := he2 ho
  clear he2 hoe
  by_cases hl : l = 1073741824
  case pos =>
    rw [if_pos hl]
    subst hl
    rcases he with rfl | rfl
    all_goals
      go_enter Tryz.func7, Tryz.ntmps7
      go_wp2_with (go_at_call 25; (with_reducible refine hld.mono ?_); rintro e u1 ⟨rfl, hu1⟩)
      go_ret2
      exact ⟨fun h => absurd (show (120 : Int) = 0 from h) (by decide), fun _ => rfl, hd.carry (bel2Z hu1 (al1' _ _)), Tp.of _ (bel2Z hu1 (al1' _ _))⟩
  rw [if_neg hl]
  have ho1 := open1_any ⟨l, r, a⟩ (by dsimp only; omega)
  have hsv := fun V q (h : Bt V q (some ⟨p, 0, none⟩) ⟨⟨l, r, a⟩, r, a⟩) (hV : Dk V p d) => bsave_O h hV hf hw0 hw (ho1 V)
  obtain ⟨x, hx⟩ : ∃ x, nxL ⟨l, r, a⟩ = x := ⟨_, rfl⟩
  rw [hx] at hsv ⊢
  clear ho1 hx
  obtain ⟨E, hE⟩ : ∃ E, (dSv d x).1 = E := ⟨_, rfl⟩
  obtain ⟨D1, hD1⟩ : ∃ D1, (dSv d x).2 = D1 := ⟨_, rfl⟩
  rw [hE, hD1] at hsv
  rw [hE, hD1]
  clear hE hD1
  by_cases hz : E = 0
  case neg =>
    rw [svB, if_neg hz] at hsv
    rcases he with rfl | rfl
    all_goals
      go_enter Tryz.func7, Tryz.ntmps7
      go_wp2_with (first | (go_at_call 25; (with_reducible refine hld.mono ?_); rintro e u1 ⟨rfl, hu1⟩; obtain ⟨u2, hu2⟩ : ∃ u2, u1.alloc (.cells #[.int .i64 l, .int .i64 r, .int .i64 a] 35) = u2 := ⟨_, rfl⟩; have hb2 : Below Wi.heap.size Wi u2 := (by rw [← hu2]; exact bel2Z hu1 (al1' _ _)); have hg2 : u2.heap[u1.heap.size]? = some (.cells #[.int .i64 l, .int .i64 r, .int .i64 a] 35 (0, 0)) := (by rw [← hu2]; exact new_at rfl); have c0 := cell_at hg2 0; have c1 := cell_at hg2 1; have c2 := cell_at hg2 2; simp at c0 c1 c2; obtain ⟨u3, hu3⟩ : ∃ u3, u2.alloc (.cells #[.int .i64 l, .int .i64 r, .int .i64 a, .pointer (some ⟨p, 0, none⟩), .int .i64 r, .int .i64 a] 85) = u3 := ⟨_, rfl⟩; have hb3 : Below Wi.heap.size Wi u3 := (by rw [← hu3]; exact bel2Z hb2 (al1' _ _)); have hB3 : Bt u3 u2.heap.size (some ⟨p, 0, none⟩) ⟨⟨l, r, a⟩, r, a⟩ := (by rw [← hu3]; exact new_at rfl); have hs3 := hsv u3 u2.heap.size hB3 (hd.carry hb3)) | (go_at_call 26; (with_reducible refine hs3.mono ?_); rintro e u4 ⟨rfl, hv1, hv2, hv3⟩))
      go_ret2
      exact ⟨fun h => absurd h hz, fun _ => rfl, hv1, Tq.out hb3 hv3 hb2.size⟩
  subst hz
  rw [svB, if_pos rfl] at hsv
  rcases he with rfl | rfl
  all_goals
    go_enter Tryz.func7, Tryz.ntmps7
    go_wp2_with (first | (go_at_call 25; (with_reducible refine hld.mono ?_); rintro e u1 ⟨rfl, hu1⟩; obtain ⟨u2, hu2⟩ : ∃ u2, u1.alloc (.cells #[.int .i64 l, .int .i64 r, .int .i64 a] 35) = u2 := ⟨_, rfl⟩; have hb2 : Below Wi.heap.size Wi u2 := (by rw [← hu2]; exact bel2Z hu1 (al1' _ _)); have hg2 : u2.heap[u1.heap.size]? = some (.cells #[.int .i64 l, .int .i64 r, .int .i64 a] 35 (0, 0)) := (by rw [← hu2]; exact new_at rfl); have c0 := cell_at hg2 0; have c1 := cell_at hg2 1; have c2 := cell_at hg2 2; simp at c0 c1 c2; obtain ⟨u3, hu3⟩ : ∃ u3, u2.alloc (.cells #[.int .i64 l, .int .i64 r, .int .i64 a, .pointer (some ⟨p, 0, none⟩), .int .i64 r, .int .i64 a] 85) = u3 := ⟨_, rfl⟩; have hb3 : Below Wi.heap.size Wi u3 := (by rw [← hu3]; exact bel2Z hb2 (al1' _ _)); have hB3 : Bt u3 u2.heap.size (some ⟨p, 0, none⟩) ⟨⟨l, r, a⟩, r, a⟩ := (by rw [← hu3]; exact new_at rfl); have hs3 := hsv u3 u2.heap.size hB3 (hd.carry hb3)) | (go_at_call 26; (with_reducible refine hs3.mono ?_); rintro e u4 ⟨rfl, hv1, hv2, hv3⟩))
    go_ret2
    exact ⟨fun _ => ⟨_, rfl, hb2.size, hv2⟩, fun h => absurd rfl h, hv1, Tq.out hb3 hv3 hb2.size⟩
end
end Go.Proofs.YtlpmehmoeladjaaGreatDoor
namespace Go.Proofs.YtlpmehmoeladjaaGreatDoor
open Go.RowKit Go.Shelf Go.Lib

theorem bR_ge {x : Int} (h : x < 1099511627775) : x + 1 ≤ bR x ∧ bR x ≤ 1099511627775 := by
  unfold bR
  split <;> constructor <;> omega
theorem bR_le {x : Int} (h : x ≤ 1099511627775) : x ≤ bR x ∧ bR x ≤ 1099511627775 := by
  unfold bR
  split <;> constructor <;> omega
theorem bT_ge {x : Int} (h : x < 1048576) : x + 1 ≤ bT x ∧ bT x ≤ 1048576 := by
  unfold bT
  split <;> constructor <;> omega
theorem bT_le {x : Int} (h : x ≤ 1048576) : x ≤ bT x ∧ bT x ≤ 1048576 := by
  unfold bT
  split <;> constructor <;> omega
/-- A disk between two lives. -/
structure Sd0 (d : Dst) (n : Nat) (r : Rec) : Prop where
  ss : Ss d.l n r
  fz : Fz d
  may : 1 ≤ n → May r
  zr : n = 0 → r = rec0
/-- A disk while a life goes on. -/
structure Lv (d : Dst) (n : Nat) (b : Bo) : Prop where
  ss : Ss d.l n b.r
  n1 : 1 ≤ n
  fz : Fz d
  may : May b.r
  ro : 0 ≤ b.ro ∧ b.ro ≤ b.r.ro
  ta : 0 ≤ b.ta ∧ b.ta ≤ b.r.ta
section
variable {d : Dst} {n : Nat} {b : Bo} {r : Rec}
theorem Lv.sd (h : Lv d n b) : Sd0 d n b.r := ⟨h.ss, h.fz, fun _ => h.may, fun e => by have := h.n1; omega⟩
theorem Lv.ok (h : Lv d n b) : OkB b := by
  obtain ⟨⟨m1, m2⟩, ⟨m3, m4⟩, m5, m6⟩ := h.may
  have h1 := h.ro
  have h2 := h.ta
  refine ⟨⟨?_, ?_⟩, ⟨?_, ?_⟩, ⟨?_, ?_⟩, ⟨?_, ?_⟩, ?_, ?_⟩ <;> omega
theorem Lv.next (h : Lv d n b) (hn : n ≤ 999999) : ∃ n', n ≤ n' ∧ n' ≤ n + 1 ∧ Lv (dNx d b).d n' (dNx d b).b ∧ d.writes ≤ (dNx d b).d.writes ∧ (dNx d b).d.writes ≤ d.writes + 2 ∧ (dNx d b).b.r.li = b.r.li ∧ (((dNx d b).e = 0 ∧ (dNx d b).x = b.ro + 1 ∧ (dNx d b).b.ro = b.ro + 1 ∧ (dNx d b).b.ta = b.ta) ∨ ((dNx d b).e ≠ 0 ∧ (dNx d b).b = b)) := by
  have hro := h.ro
  obtain ⟨⟨m1, m2⟩, ⟨m3, m4⟩, m5, m6⟩ := h.may
  unfold dNx
  split
  · exact ⟨n, Nat.le_refl _, by omega, h, Int.le_refl _, by dsimp only; omega, rfl, .inr ⟨by show (100 : Int) ≠ 0; decide, rfl⟩⟩
  rename_i ho
  have ho' : d.off = false := by simpa using ho
  split
  · exact ⟨n, Nat.le_refl _, by omega, h, Int.le_refl _, by dsimp only; omega, rfl, .inr ⟨by show (120 : Int) ≠ 0; decide, rfl⟩⟩
  rename_i hm
  split
  · rename_i he
    have hb := bR_ge (x := b.ro) (by omega)
    have hmay : May (rNx b) := ⟨⟨m1, m2⟩, ⟨by show 0 ≤ bR b.ro; omega, hb.2⟩, m5, m6⟩
    rcases h.ss.save ho' h.fz hmay (by omega) with ⟨s1, s2, s3, s4, s5⟩ | ⟨s1, s2, s3, s4, s5, s6, s7⟩
    · rw [if_pos s1]
      exact ⟨n + 1, by omega, Nat.le_refl _, ⟨s5, by omega, s4, hmay, ⟨by dsimp only; omega, hb.1⟩, h.ta⟩, by dsimp only; omega, by dsimp only; omega, rfl, .inl ⟨rfl, rfl, rfl, rfl⟩⟩
    · rw [if_neg (by rw [s1]; decide)]
      exact ⟨n, Nat.le_refl _, by omega, ⟨s7, h.n1, s6, h.may, h.ro, h.ta⟩, s4, by dsimp only; omega, rfl, .inr ⟨by dsimp only; rw [s1]; decide, rfl⟩⟩
  · rename_i he
    exact ⟨n, Nat.le_refl _, by omega, ⟨h.ss, h.n1, h.fz, h.may, ⟨by dsimp only; omega, by dsimp only; omega⟩, h.ta⟩, Int.le_refl _, by dsimp only; omega, rfl, .inl ⟨rfl, rfl, rfl, rfl⟩⟩
theorem Lv.raise (h : Lv d n b) (hn : n ≤ 999999) (t : Int) : ∃ n', n ≤ n' ∧ n' ≤ n + 1 ∧ Lv (dRa d b t).d n' (dRa d b t).b ∧ d.writes ≤ (dRa d b t).d.writes ∧ (dRa d b t).d.writes ≤ d.writes + 2 ∧ (dRa d b t).b.r.li = b.r.li ∧ (dRa d b t).b.ro = b.ro ∧ b.ta ≤ (dRa d b t).b.ta := by
  have hta := h.ta
  obtain ⟨⟨m1, m2⟩, ⟨m3, m4⟩, m5, m6⟩ := h.may
  unfold dRa
  split
  · exact ⟨n, Nat.le_refl _, by omega, h, Int.le_refl _, by dsimp only; omega, rfl, rfl, Int.le_refl _⟩
  rename_i ho
  have ho' : d.off = false := by simpa using ho
  split
  · exact ⟨n, Nat.le_refl _, by omega, h, Int.le_refl _, by dsimp only; omega, rfl, rfl, Int.le_refl _⟩
  rename_i hn0
  split
  · exact ⟨n, Nat.le_refl _, by omega, h, Int.le_refl _, by dsimp only; omega, rfl, rfl, Int.le_refl _⟩
  rename_i hm
  split
  · exact ⟨n, Nat.le_refl _, by omega, h, Int.le_refl _, by dsimp only; omega, rfl, rfl, Int.le_refl _⟩
  rename_i hl
  split
  · rename_i hg
    have hb := bT_ge (x := t - 1) (by omega)
    have hmay : May (rRa b t) := ⟨⟨m1, m2⟩, ⟨m3, m4⟩, by show 0 ≤ bT (t - 1); omega, hb.2⟩
    rcases h.ss.save ho' h.fz hmay (by omega) with ⟨s1, s2, s3, s4, s5⟩ | ⟨s1, s2, s3, s4, s5, s6, s7⟩
    · rw [if_pos s1]
      exact ⟨n + 1, by omega, Nat.le_refl _, ⟨s5, by omega, s4, hmay, h.ro, ⟨by dsimp only; omega, by show t ≤ bT (t - 1); omega⟩⟩, by dsimp only; omega, by dsimp only; omega, rfl, rfl, by dsimp only; omega⟩
    · rw [if_neg (by rw [s1]; decide)]
      exact ⟨n, Nat.le_refl _, by omega, ⟨s7, h.n1, s6, h.may, h.ro, h.ta⟩, s4, by dsimp only; omega, rfl, rfl, Int.le_refl _⟩
  · rename_i hg
    exact ⟨n, Nat.le_refl _, by omega, ⟨h.ss, h.n1, h.fz, h.may, h.ro, ⟨by dsimp only; omega, by dsimp only; omega⟩⟩, Int.le_refl _, by dsimp only; omega, rfl, rfl, by dsimp only; omega⟩
theorem Sd0.nr (h : Sd0 d n r) (ho : d.off = false) : (nwT d).r = r := by
  rw [h.ss.nt ho]
  split
  · rename_i e
    rw [h.zr e]
  · rfl
theorem Sd0.bd (h : Sd0 d n r) : (0 ≤ r.li ∧ r.li ≤ 1073741824) ∧ (0 ≤ r.ro ∧ r.ro ≤ 1099511627775) ∧ 0 ≤ r.ta ∧ r.ta ≤ 1048576 := by
  rcases Nat.eq_zero_or_pos n with e | e
  · rw [h.zr e]
    decide
  · obtain ⟨⟨m1, m2⟩, ⟨m3, m4⟩, m5, m6⟩ := h.may e
    exact ⟨⟨by omega, m2⟩, ⟨m3, m4⟩, m5, m6⟩
theorem Sd0.open (h : Sd0 d n r) (ho : d.off = false) (hl : r.li < 1073741824) (hn : n ≤ 999999) : ((dOp d).e = 0 ∧ Lv (dOp d).d (n + 1) (dOp d).b ∧ (dOp d).b.r.li = r.li + 1 ∧ (dOp d).b.ro = r.ro ∧ (dOp d).b.ta = r.ta ∧ (dOp d).d.writes = d.writes + 2) ∨ ((dOp d).e = 100 ∧ Sd0 (dOp d).d n r ∧ d.writes ≤ (dOp d).d.writes ∧ (dOp d).d.writes ≤ d.writes + 2) := by
  have hb := h.bd
  rw [dOp, if_neg (by rw [ho]; decide), h.nr ho, if_neg (by omega)]
  have h1 := bR_le (x := r.ro) (by omega)
  have h2 := bT_le (x := r.ta) (by omega)
  have hmay : May (nxL r) := ⟨⟨by show 1 ≤ r.li + 1; omega, by show r.li + 1 ≤ _; omega⟩, ⟨by show 0 ≤ bR r.ro; omega, h1.2⟩, by show 0 ≤ bT r.ta; omega, h2.2⟩
  rcases h.ss.save ho h.fz hmay (by omega) with ⟨s1, s2, s3, s4, s5⟩ | ⟨s1, s2, s3, s4, s5, s6, s7⟩
  · exact .inl ⟨s1, ⟨s5, by omega, s4, hmay, ⟨hb.2.1.1, h1.1⟩, ⟨hb.2.2.1, h2.1⟩⟩, rfl, rfl, rfl, s3⟩
  · exact .inr ⟨s1, ⟨s7, s6, h.may, h.zr⟩, s4, by dsimp only; omega⟩
theorem Sd0.fuse (h : Sd0 d n r) {k : Int} (hk : k ≤ 9223372036854775807) : Sd0 (dFuse { d with off := false } k) n r := by
  refine ⟨h.ss, fun e => ?_, h.may, h.zr⟩
  have e1 : 0 ≤ k := of_decide_eq_true e
  have e2 : (dFuse { d with off := false } k).fuse = k := if_pos e1
  rw [e2]
  exact ⟨e1, hk⟩
end
theorem Sd0.zero : Sd0 d0 0 rec0 := ⟨Ss.zero _, fun e => (by cases e), fun e => absurd e (by omega), fun _ => rfl⟩
theorem on0 : d0.off = false := rfl
theorem op0 : (dOp d0).e = 0 ∧ (dOp d0).b = ⟨⟨1, 16, 4⟩, 0, 0⟩ ∧ (dOp d0).d.writes = 2 ∧ (dOp d0).d.off = false ∧ Lv (dOp d0).d 1 ⟨⟨1, 16, 4⟩, 0, 0⟩ ∧ (dOp d0).d.fused = false := by
  have hr := Sd0.zero.nr on0
  have e : dOp d0 = ⟨(dSv d0 ⟨1, 16, 4⟩).1, (dSv d0 ⟨1, 16, 4⟩).2, ⟨⟨1, 16, 4⟩, 0, 0⟩⟩ := by
    rw [dOp, if_neg (by rw [on0]; decide), hr, if_neg (by decide)]
    rfl
  have hd : dSv d0 ⟨1, 16, 4⟩ = (0, ⟨put2 d0.l 0 (slB ⟨1, 16, 4⟩ 1), false, false, 0, 2⟩) := by
    rw [(Ss.zero rec0).dsv on0 (by decide) (by omega), dW2_ok on0 (by omega) (slB_len _ _) (fun h => by cases h)]
    rfl
  rcases Sd0.zero.open on0 (by decide) (by omega) with ⟨h1, h2, _⟩ | ⟨h1, _⟩
  · refine ⟨h1, by rw [e], by rw [e]; dsimp only; rw [hd], by rw [e]; dsimp only; rw [hd], ?_, by rw [e]; dsimp only; rw [hd]⟩
    have e2 : (dOp d0).b = ⟨⟨1, 16, 4⟩, 0, 0⟩ := by rw [e]
    rw [e2] at h2
    exact h2
  · rw [e] at h1
    dsimp only at h1
    rw [hd] at h1
    exact absurd h1 (by decide)
end Go.Proofs.YtlpmehmoeladjaaGreatDoor
namespace Go.Proofs.YtlpmehmoeladjaaGreatDoor
open Go.RowKit Go.Shelf Go.Lib

theorem grown_low {w W : World} {g base : Nat} (h : w.grownBy W (some g)) (hg : base ≤ g) (hb : base ≤ w.heap.size) : Below base w W := ⟨h.os, h.tape, h.output, h.size, fun k hk => h.block k (by omega) (by simp; omega)⟩
/-- What Defend does. -/
structure Df where
  x : N3
  did : Bool
  e : Int
  l : List N3
  d : Dst
  b : Bo
def dDf (l : List N3) (self : Int) (d : Dst) (b : Bo) : Df :=
  match dueN l self with
  | none => ⟨(0, 0, 0), false, 0, l, d, b⟩
  | some x => if (dRa d b x.2.1).e = 0 then ⟨x, true, 0, tke l x, (dRa d b x.2.1).d, (dRa d b x.2.1).b⟩ else ⟨(0, 0, 0), false, (dRa d b x.2.1).e, l, (dRa d b x.2.1).d, (dRa d b x.2.1).b⟩
def Df.v (f : Df) : Value := .tuple #[nt f.x.1 f.x.2.1 f.x.2.2, .bool f.did, .int .i64 f.e]
/-- What is due is taken. -/
theorem due_tk {l : List N3} {self : Int} {x : N3} (hb : Bok l) (hl : l.length ≤ 100) (h : dueN l self = some x) : tkb l x = true ∧ x.1 = self ∧ 0 ≤ self ∧ self < (l.length : Int) ∧ 1 ≤ x.2.1 ∧ x.2.1 ≤ 1048576 ∧ x.2.2 = 1 := by
  by_cases hi : 0 ≤ self ∧ self < (l.length : Int)
  case neg => rw [dueN_out hi] at h; cases h
  obtain ⟨i, rfl⟩ : ∃ i : Nat, self = (i : Int) := ⟨self.toNat, by omega⟩
  obtain ⟨⟨o, t, k⟩, hx⟩ : ∃ x, l[i]? = some x := ⟨_, List.getElem?_eq_getElem (by omega)⟩
  obtain ⟨ho, hr⟩ := hb i _ hx
  dsimp only at ho
  subst ho
  have ht : ¬ (t < 0 ∨ 1048576 < t) := fun e => hr (rk_lo e)
  rw [dueN_in hx] at h
  dsimp only at h
  split at h
  case isFalse => cases h
  rename_i hk
  obtain rfl := (Option.some.inj h).symm
  obtain ⟨rfl, hk2⟩ := hk
  have hr2 : rkx ((i : Int), t + 1, 1) = 2 * (t + 1) := (show rk (t + 1) 1 = 2 * (t + 1) from rk_m (by omega))
  have hv : vlx l.length ((i : Int), t + 1, 1) = true := vlx_iff.2 ⟨by omega, hl, by dsimp only; omega, by dsimp only; omega, by rw [hr2]; omega⟩
  refine ⟨?_, rfl, by omega, by omega, by dsimp only; omega, by dsimp only; omega, rfl⟩
  unfold tkb
  rw [hv, bat_iff hb hv, Bool.true_and]
  refine decide_eq_true ?_
  rw [hr2]
  dsimp only
  rw [Int.toNat_natCast, rkl_some hx]
  show rk t 2 < _
  rw [rk_s ht]
  omega
section
variable {w W : World} {bp g q p n : Nat} {l : List N3} {b : Bo} {d : Dst} {a : Addr} {P : Option Addr}
theorem Bk.low (h : Bk w bp g l) (hb : Below n w W) (h1 : bp < n) (h2 : g < n) : Bk W bp g l := ⟨(hb.block _ h1).trans h.obj, (hb.block _ h2).trans h.row⟩
theorem Bt.low (h : Bt w q P b) (hb : Below n w W) (h1 : q < n) : Bt W q P b := (hb.block _ h1).trans h
theorem Dk.low (h : Dk w p d) (hb : Below n w W) (h1 : p < n) : Dk W p d := ⟨(hb.block _ h1).trans h.obj, h.len, h.byt⟩
theorem Td.low {V : World} (h : Below w.heap.size w W) (ht : Td g q p W V) {U : World} (hb : Below w.heap.size V U) : Td g q p w U :=
  ⟨hb.os.trans (ht.os.trans h.os), hb.tape.trans (ht.tape.trans h.tape), hb.output.trans (ht.output.trans h.output), Nat.le_trans h.size (Nat.le_trans ht.size hb.size), fun k hk h1 h2 h3 => (hb.block k hk).trans ((ht.block k (Nat.lt_of_lt_of_le hk h.size) h1 h2 h3).trans (h.block k hk))⟩
theorem defend_any (h : Bk w bp g l) (hbo : Bok l) (hl : l.length ≤ 100) (hB : Bt w q (some ⟨p, 0, none⟩) b) (hD : Dk w p d) (hf : Fz d) (hw0 : 0 ≤ d.writes) (hw : d.writes ≤ 4611686018427387903) (hs : Sn w a) (g0 : 0 < g) (q0 : 0 < q) (p0 : 0 < p) (self : Int) :
    Calls Tryz.prog 16 #[.pointer (some ⟨bp, 0, none⟩), .int .i64 self, .pointer (some ⟨q, 0, none⟩)] w fun e w' => e = .returned (dDf l self d b).v ∧ Bk w' bp g (dDf l self d b).l ∧ Dk w' p (dDf l self d b).d ∧ Bt w' q (some ⟨p, 0, none⟩) (dDf l self d b).b ∧ Td g q p w w' := by
  have hdu : ∀ W, Below w.heap.size w W → Calls Tryz.prog 44 #[.agg #[.pointer (some ⟨bp, 0, none⟩), .int .i64 self]] W fun e w' => e = .returned (dueV (dueN l self)) ∧ Below W.heap.size W w' := fun W hW => due_any (h.carry hW) hbo self
  rcases hdn : dueN l self with _ | x
  · rw [hdn] at hdu
    have e : dDf l self d b = ⟨(0, 0, 0), false, 0, l, d, b⟩ := by unfold dDf; rw [hdn]
    rw [e]
    exact (defend_no _ _ self (.inr ⟨bp, rfl⟩) hdu).mono (by
      rintro e w' ⟨rfl, hb⟩
      exact ⟨rfl, h.carry hb, hD.carry hb, hB.carry hb, Td.of _ _ _ hb⟩)
  rw [hdn] at hdu
  obtain ⟨htk, -⟩ := due_tk hbo hl hdn
  have e : dDf l self d b = if (dRa d b x.2.1).e = 0 then ⟨x, true, 0, tke l x, (dRa d b x.2.1).d, (dRa d b x.2.1).b⟩ else ⟨(0, 0, 0), false, (dRa d b x.2.1).e, l, (dRa d b x.2.1).d, (dRa d b x.2.1).b⟩ := by unfold dDf; rw [hdn]
  rw [e]
  have hpl := h.plt
  have hgl := h.glt
  have hql := lt_at hB
  have hdl := hD.lt
  by_cases he : (dRa d b x.2.1).e = 0
  · rw [if_pos he]
    refine (defend_of (w := w) bp (.pointer (some ⟨q, 0, none⟩)) self x 0 (fun W V => Bk V bp g (tke l x) ∧ Dk V p (dRa d b x.2.1).d ∧ Bt V q (some ⟨p, 0, none⟩) (dRa d b x.2.1).b ∧ Td g q p W V) ?_ hdu ?_).mono ?_
    · rintro W V hW ⟨_, _, _, ht⟩ k hk1 hk2
      exact ht.block k hk2 (by omega) (by omega) (by omega)
    · intro W hW
      exact durably_ok (h.carry hW) (hB.carry hW) (hD.carry hW) hf hw0 hw (hs.carry hW) g0 q0 p0 self x.1 x.2.1 x.2.2 htk he
    · rintro e w' ⟨rfl, W, V, hW, ⟨k1, k2, k3, k4⟩, hV⟩
      exact ⟨by unfold DfV Df.v; rw [if_pos rfl], k1.low hV hpl hgl, k2.low hV hdl, k3.low hV hql, Td.low hW k4 hV⟩
  · rw [if_neg he]
    refine (defend_of (w := w) bp (.pointer (some ⟨q, 0, none⟩)) self x (dRa d b x.2.1).e (fun W V => Bk V bp g l ∧ Dk V p (dRa d b x.2.1).d ∧ Bt V q (some ⟨p, 0, none⟩) (dRa d b x.2.1).b ∧ Tq p q W V) ?_ hdu ?_).mono ?_
    · rintro W V hW ⟨_, _, _, ht⟩ k hk1 hk2
      exact ht.block k hk2 (by omega) (by omega)
    · intro W hW
      exact durably_no (h.carry hW) (hB.carry hW) (hD.carry hW) hf hw0 hw self x.1 x.2.1 x.2.2 he
    · rintro e w' ⟨rfl, W, V, hW, ⟨k1, k2, k3, k4⟩, hV⟩
      exact ⟨by unfold DfV Df.v; rw [if_neg he], k1.low hV hpl hgl, k2.low hV hdl, k3.low hV hql, Td.low hW (Td.tq g k4) hV⟩
end
/-! ### alive -/
theorem alive_df : dDf (tke (bk0 3 1 0) (1, 0, 2)) 1 (dOp d0).d ⟨⟨1, 16, 4⟩, 0, 0⟩ = ⟨(1, 1, 1), true, 0, tke (tke (bk0 3 1 0) (1, 0, 2)) (1, 1, 1), (dOp d0).d, ⟨⟨1, 16, 4⟩, 0, 1⟩⟩ := by
  obtain ⟨a1, a2, a3, a4, a5, a6⟩ := op0
  have hdn : dueN (tke (bk0 3 1 0) (1, 0, 2)) 1 = some (1, 1, 1) := by decide
  have hra : dRa (dOp d0).d ⟨⟨1, 16, 4⟩, 0, 0⟩ 1 = ⟨0, (dOp d0).d, ⟨⟨1, 16, 4⟩, 0, 1⟩⟩ := by
    rw [dRa, if_neg (by rw [a4]; decide), if_neg (by decide), if_neg (by decide), if_neg (by decide), if_neg (by decide)]
  unfold dDf
  rw [hdn]
  dsimp only
  rw [hra, if_pos rfl]
set_option maxHeartbeats 4000000 in
set_option maxRecDepth 100000 in
theorem alive_any {w : World} {a : Addr} (hs : Sn w a) : Calls Tryz.prog 4 #[] w fun e w' => e = .returned (.bool true) ∧ Below w.heap.size w w' := by
  obtain ⟨a1, a2, a3, a4, a5, a6⟩ := op0
  have hn := dnew_any w
  have ho : ∀ V, Dk V w.heap.size d0 → Calls Tryz.prog 7 #[.pointer (some ⟨w.heap.size, 0, none⟩)] V fun e w' => ∃ q, e = .returned (.tuple #[.pointer (some ⟨q, 0, none⟩), .int .i64 0]) ∧ V.heap.size ≤ q ∧ Bt w' q (some ⟨w.heap.size, 0, none⟩) ⟨⟨1, 16, 4⟩, 0, 0⟩ ∧ Dk w' w.heap.size (dOp d0).d ∧ Tp w.heap.size V w' := fun V hV =>
    (open_any hV (fun e => by cases e) (by decide) (by decide)).mono (by
      rintro e w' ⟨h1, _, h3, h4⟩
      obtain ⟨q, rfl, hq, hb⟩ := h1 a1
      rw [a2] at hb
      exact ⟨q, rfl, hq, hb, h3, h4⟩)
  have hnw : ∀ V, Calls Tryz.prog 9 #[.int .i64 3, .int .i64 1, .int .i64 0] V fun e w' => ∃ p g, e = .returned (.tuple #[.pointer (some ⟨p, 0, none⟩), .int .i64 0]) ∧ V.heap.size ≤ p ∧ V.heap.size ≤ g ∧ Bk w' p g (bk0 3 1 0) ∧ Below V.heap.size V w' := fun V =>
    (new_any 3 1 0 V).mono (by
      rintro e w' h
      obtain ⟨p, g, rfl, h1, h2, h3⟩ := h.ok (by decide) (by decide) (by decide)
      exact ⟨p, g, rfl, h1, h2, h3, h.1⟩)
  have htk : ∀ V p g, Bk V p g (bk0 3 1 0) → Calls Tryz.prog 24 #[.pointer (some ⟨p, 0, none⟩), .agg #[.int .i64 1, .int .i64 0, .int .i64 2]] V fun e w' => e = .returned (.tuple #[.bool true, .int .i64 0]) ∧ Bk w' p g (tke (bk0 3 1 0) (1, 0, 2)) ∧ V.grownBy w' (some g) := fun V p g hV => by
    have := take_any hV 1 0 2
    rw [show tkb (bk0 3 1 0) (1, 0, 2) = true by decide, show vlx (bk0 3 1 0).length (1, 0, 2) = true by decide, if_pos rfl] at this
    exact this
  have hbo : Bok (tke (bk0 3 1 0) (1, 0, 2)) := tke_bok (bk0_bok (by decide) (by decide)) _
  have hdf : ∀ V p g q, Bk V p g (tke (bk0 3 1 0) (1, 0, 2)) → Dk V w.heap.size (dOp d0).d → Bt V q (some ⟨w.heap.size, 0, none⟩) ⟨⟨1, 16, 4⟩, 0, 0⟩ → Sn V a → 0 < g → 0 < q → Calls Tryz.prog 16 #[.pointer (some ⟨p, 0, none⟩), .int .i64 1, .pointer (some ⟨q, 0, none⟩)] V fun e w' => e = .returned (.tuple #[.agg #[.int .i64 1, .int .i64 1, .int .i64 1], .bool true, .int .i64 0]) ∧ Bt w' q (some ⟨w.heap.size, 0, none⟩) ⟨⟨1, 16, 4⟩, 0, 1⟩ ∧ Td g q w.heap.size V w' := fun V p g q k1 k2 k3 k4 k5 k6 => by
    have := defend_any k1 hbo (by decide) k3 k2 a5.fz (by rw [a3]; decide) (by rw [a3]; decide) k4 k5 k6 hs.lt 1
    rw [alive_df] at this
    exact this.mono (by rintro e w' ⟨rfl, _, _, h3, h4⟩; exact ⟨rfl, h3, h4⟩)
  obtain ⟨D, hD⟩ : ∃ D, (dOp d0).d = D := ⟨_, rfl⟩
  rw [hD] at ho hdf
  obtain ⟨L0, hL0⟩ : ∃ L, bk0 3 1 0 = L := ⟨_, rfl⟩
  rw [hL0] at hnw htk hdf
  obtain ⟨L1, hL1⟩ : ∃ L, tke L0 (1, 0, 2) = L := ⟨_, rfl⟩
  rw [hL1] at htk hdf
  have w0 := hs.lt
  clear hD a1 a2 a3 a4 a5 a6 hL0 hL1 hbo
  go_enter Tryz.func4, Tryz.ntmps4
  go_wp2_with (first | (go_at_call 5; (with_reducible refine hn.mono ?_); rintro e u1 ⟨rfl, h1, hlt, hu1⟩; have ha := ho _ h1) | (go_at_call 7; (with_reducible refine ha.mono ?_); rintro e u2 ⟨q, rfl, hq, hB2, hD2, hT2⟩; have hb := hnw u2; have B2 : Below w.heap.size w u2 := hu1.trans (hT2.below (Nat.le_refl _) hu1.size)) | (go_at_call 9; (with_reducible refine hb.mono ?_); rintro e u3 ⟨p, g, rfl, hp3, hg3, hK3, hu3⟩; have hc := htk _ _ _ hK3; have B3 := bel2 B2 hu3; have hB3 := hB2.carry hu3; have hD3 := hD2.carry hu3) | (go_at_call 24; (with_reducible refine hc.mono ?_); rintro e u4 ⟨rfl, hK4, hg4⟩; have hq0 : 0 < q := (by have := hu1.size; omega); have hg0 : 0 < g := (by have := B2.size; omega); have hs4 : Sn u4 a := (hs.carry B3).same (hg4.block 0 (Nat.lt_of_lt_of_le w0 B3.size) (by simp; omega)); have hd := hdf _ _ _ _ hK4 (hD3.gr hK3 hg4) (hB3.gr hK3 hg4) hs4 hg0 hq0) | (go_at_call 16; (with_reducible refine hd.mono ?_); rintro e u5 ⟨rfl, hB5, hT5⟩; obtain ⟨u6, hu6⟩ : ∃ u6, u5.alloc (.cells #[.int .i64 1, .int .i64 1, .int .i64 1] 60) = u6 := ⟨_, rfl⟩; have B6 : Below u5.heap.size u5 u6 := (by rw [← hu6]; exact al1 _ _); have hm6 : NB u6 u5.heap.size 1 1 1 := (by rw [← hu6]; exact NB.new _ _ _ _); have c0 := hm6.c0; have c1 := hm6.c1; have c2 := hm6.c2; have hf := btag_any (hB5.carry B6)) | (go_at_call 20; (with_reducible refine hf.mono ?_); rintro e u7 ⟨rfl, hu7⟩; obtain rfl := hu7.symm))
  go_ret
  refine ⟨rfl, ?_⟩
  have s1 := hu1.size
  have s2 := B2.size
  have s3 := B3.size
  have b4 : Below w.heap.size w u4 := B3.trans (grown_low hg4 (by omega) (by omega))
  exact bel2 (b4.trans (hT5.below (by omega) (Nat.le_refl _) (by omega) b4.size)) B6
end Go.Proofs.YtlpmehmoeladjaaGreatDoor
