/- boot's Open: what it answers. -/
import Derived.Test.YtjleggnkacmbbaaBte
namespace Go.Proofs.Ytjleggnkacmbbaa
open Go.RowKit Go.Shelf Go.Lib

def bo0 : Bo := ⟨rec0, 0, 0⟩
/-- Open: the error, the disk and the Boot behind it. -/
def dOp (d : Dst) : Ra :=
  if d.off = true then ⟨100, d, bo0⟩ else if (nwT d).r.li = 1073741824 then ⟨120, d, bo0⟩ else ⟨(dSv d (nxL (nwT d).r)).1, (dSv d (nxL (nwT d).r)).2, ⟨nxL (nwT d).r, (nwT d).r.ro, (nwT d).r.ta⟩⟩
theorem nwT_r (d : Dst) : (0 ≤ (nwT d).r.li ∧ (nwT d).r.li ≤ 1073741824) ∧ (0 ≤ (nwT d).r.ro ∧ (nwT d).r.ro ≤ 1099511627775) ∧ 0 ≤ (nwT d).r.ta ∧ (nwT d).r.ta ≤ 1048576 := by
  unfold nwT
  split
  · decide
  · cases h : nw d.l with
    | none => decide
    | some x =>
      obtain ⟨⟨r, s⟩, k⟩ := x
      obtain ⟨⟨⟨⟨h1, h2⟩, ⟨h3, h4⟩, h5, h6⟩, _⟩, _⟩ := nw_fit h
      exact ⟨⟨by show 0 ≤ r.li; omega, h2⟩, ⟨h3, h4⟩, h5, h6⟩
theorem nwT_e2 (d : Dst) (h : ¬ d.off = true) : (nwT d).e = 0 ∨ (nwT d).e = 40 := by
  unfold nwT
  rw [if_neg h]
  cases nw d.l with
  | none => exact .inr rfl
  | some x => exact .inl rfl
theorem Tq.out {p q : Nat} {W W' W'' : World} (h : Below W.heap.size W W') (k : Tq p q W' W'') (hq : W.heap.size ≤ q) : Tp p W W'' :=
  ⟨k.os.trans h.os, k.tape.trans h.tape, k.output.trans h.output, Nat.le_trans h.size k.size, fun j hj hn => (k.block j (Nat.lt_of_lt_of_le hj h.size) hn (by omega)).trans (h.block j hj)⟩
section
variable {W V : World} {q p : Nat} {P : Option Addr} {b : Bo} {d : Dst} {t : Int}
set_option maxHeartbeats 8000000 in
set_option maxRecDepth 100000 in
theorem open_any {Wi : World} (hd : Dk Wi p d) (hf : Fz d) (hw0 : 0 ≤ d.writes) (hw : d.writes ≤ 4611686018427387903) : Calls Try.prog 12 #[.pointer (some ⟨p, 0, none⟩)] Wi fun e w' => ((dOp d).e = 0 → ∃ q, e = .returned (.tuple #[.pointer (some ⟨q, 0, none⟩), .int .i64 0]) ∧ Wi.heap.size ≤ q ∧ Bt w' q (some ⟨p, 0, none⟩) (dOp d).b) ∧ ((dOp d).e ≠ 0 → e = .returned (.tuple #[.pointer none, .int .i64 (dOp d).e])) ∧ Dk w' p (dOp d).d ∧ Tp p Wi w' := by
  have hld := load_any hd
  have hr := nwT_r d
  have he2 := nwT_e2 d
  have hoe := nwT_e d
  unfold dOp
  obtain ⟨t, ht⟩ : ∃ t, nwT d = t := ⟨_, rfl⟩
  rw [ht] at hld hr he2 hoe ⊢
  clear ht
  obtain ⟨⟨l, r, a⟩, s, k, e⟩ := t
  unfold ldV rV at hld
  dsimp only at hld hr he2 hoe ⊢
  by_cases ho : d.off = true
  case pos =>
    obtain rfl := hoe.2 ho
    rw [if_pos ho]
    clear he2 hoe
    go_enter Try.func12, Try.ntmps12
    go_wp2_with (go_at_call 23; (with_reducible refine hld.mono ?_); rintro e u1 ⟨rfl, hu1⟩)
    go_ret2
    exact ⟨fun h => absurd (show (100 : Int) = 0 from h) (by decide), fun _ => rfl, hd.carry (bel2 hu1 (al1' _ _)), Tp.of _ (bel2 hu1 (al1' _ _))⟩
  rw [if_neg ho]
  have he := he2 ho
  clear he2 hoe
  by_cases hl : l = 1073741824
  case pos =>
    rw [if_pos hl]
    subst hl
    rcases he with rfl | rfl
    all_goals
      go_enter Try.func12, Try.ntmps12
      go_wp2_with (go_at_call 23; (with_reducible refine hld.mono ?_); rintro e u1 ⟨rfl, hu1⟩)
      go_ret2
      exact ⟨fun h => absurd (show (120 : Int) = 0 from h) (by decide), fun _ => rfl, hd.carry (bel2 hu1 (al1' _ _)), Tp.of _ (bel2 hu1 (al1' _ _))⟩
  rw [if_neg hl]
  have ho1 := open1_any ⟨l, r, a⟩ (by dsimp only; omega)
  have hsv := fun V q (h : Bt V q (some ⟨p, 0, none⟩) ⟨⟨l, r, a⟩, r, a⟩) (hV : Dk V p d) => bsave_O h hV hf hw0 hw (ho1 V)
  obtain ⟨x, hx⟩ : ∃ x, nxL ⟨l, r, a⟩ = x := ⟨_, rfl⟩
  rw [hx] at hsv ⊢
  clear ho1 hx
  obtain ⟨E, hE⟩ : ∃ E, (dSv d x).1 = E := ⟨_, rfl⟩
  obtain ⟨D1, hD1⟩ : ∃ D1, (dSv d x).2 = D1 := ⟨_, rfl⟩
  rw [hE, hD1] at hsv
  rw [hE, hD1]
  clear hE hD1
  by_cases hz : E = 0
  case neg =>
    rw [svB, if_neg hz] at hsv
    rcases he with rfl | rfl
    all_goals
      go_enter Try.func12, Try.ntmps12
      go_wp2_with (first | (go_at_call 23; (with_reducible refine hld.mono ?_); rintro e u1 ⟨rfl, hu1⟩; obtain ⟨u2, hu2⟩ : ∃ u2, u1.alloc (.cells #[.int .i64 l, .int .i64 r, .int .i64 a] 36) = u2 := ⟨_, rfl⟩; have hb2 : Below Wi.heap.size Wi u2 := (by rw [← hu2]; exact bel2 hu1 (al1' _ _)); have hg2 : u2.heap[u1.heap.size]? = some (.cells #[.int .i64 l, .int .i64 r, .int .i64 a] 36 (0, 0)) := (by rw [← hu2]; exact new_at rfl); have c0 := cell_at hg2 0; have c1 := cell_at hg2 1; have c2 := cell_at hg2 2; simp at c0 c1 c2; obtain ⟨u3, hu3⟩ : ∃ u3, u2.alloc (.cells #[.int .i64 l, .int .i64 r, .int .i64 a, .pointer (some ⟨p, 0, none⟩), .int .i64 r, .int .i64 a] 57) = u3 := ⟨_, rfl⟩; have hb3 : Below Wi.heap.size Wi u3 := (by rw [← hu3]; exact bel2 hb2 (al1' _ _)); have hB3 : Bt u3 u2.heap.size (some ⟨p, 0, none⟩) ⟨⟨l, r, a⟩, r, a⟩ := (by rw [← hu3]; exact new_at rfl); have hs3 := hsv u3 u2.heap.size hB3 (hd.carry hb3)) | (go_at_call 24; (with_reducible refine hs3.mono ?_); rintro e u4 ⟨rfl, hv1, hv2, hv3⟩))
      go_ret2
      exact ⟨fun h => absurd h hz, fun _ => rfl, hv1, Tq.out hb3 hv3 hb2.size⟩
  subst hz
  rw [svB, if_pos rfl] at hsv
  rcases he with rfl | rfl
  all_goals
    go_enter Try.func12, Try.ntmps12
    go_wp2_with (first | (go_at_call 23; (with_reducible refine hld.mono ?_); rintro e u1 ⟨rfl, hu1⟩; obtain ⟨u2, hu2⟩ : ∃ u2, u1.alloc (.cells #[.int .i64 l, .int .i64 r, .int .i64 a] 36) = u2 := ⟨_, rfl⟩; have hb2 : Below Wi.heap.size Wi u2 := (by rw [← hu2]; exact bel2 hu1 (al1' _ _)); have hg2 : u2.heap[u1.heap.size]? = some (.cells #[.int .i64 l, .int .i64 r, .int .i64 a] 36 (0, 0)) := (by rw [← hu2]; exact new_at rfl); have c0 := cell_at hg2 0; have c1 := cell_at hg2 1; have c2 := cell_at hg2 2; simp at c0 c1 c2; obtain ⟨u3, hu3⟩ : ∃ u3, u2.alloc (.cells #[.int .i64 l, .int .i64 r, .int .i64 a, .pointer (some ⟨p, 0, none⟩), .int .i64 r, .int .i64 a] 57) = u3 := ⟨_, rfl⟩; have hb3 : Below Wi.heap.size Wi u3 := (by rw [← hu3]; exact bel2 hb2 (al1' _ _)); have hB3 : Bt u3 u2.heap.size (some ⟨p, 0, none⟩) ⟨⟨l, r, a⟩, r, a⟩ := (by rw [← hu3]; exact new_at rfl); have hs3 := hsv u3 u2.heap.size hB3 (hd.carry hb3)) | (go_at_call 24; (with_reducible refine hs3.mono ?_); rintro e u4 ⟨rfl, hv1, hv2, hv3⟩))
    go_ret2
    exact ⟨fun _ => ⟨_, rfl, hb2.size, hv2⟩, fun h => absurd rfl h, hv1, Tq.out hb3 hv3 hb2.size⟩
end
end Go.Proofs.Ytjleggnkacmbbaa
