/- The document's Raise and Open: what they answer. -/
import Derived.Test.YtjleggnkacmbbaaPya
import Derived.Test.YtjleggnkacmbbaaBtg
namespace Go.Proofs.Ytjleggnkacmbbaa
open Go.RowKit Go.Shelf Go.Lib

section
variable {W V : World} {g q p lb base r c : Nat} {b : Bo} {d : Dst}
set_option maxHeartbeats 8000000 in
set_option maxRecDepth 100000 in
theorem rRaise_any {W : World} (hB0 : BB W g q p lb b) (hd : RfD W lb 0 base r c d) (hf : Fz d) (hw0 : 0 ≤ d.writes) (hw : d.writes ≤ 4611686018427387903) (t : Int) : Calls Try.prog 51 #[.pointer (some ⟨g, 2, none⟩), .pointer (some ⟨lb, 0, none⟩), .int .i64 t] W fun e w' => e = .returned (.int .i64 (dRa d b t).e) ∧ RfD w' lb 0 base r c (dRa d b t).d ∧ BB w' g q p lb (dRa d b t).b ∧ T3 g lb r W w' := by
  have cf := hd.f
  rw [Nat.zero_add] at cf
  obtain ⟨q0, q1, q2, q3, q4, q5, q6, q7, q8⟩ := hB0.cs
  by_cases ho : d.off = true
  case pos =>
    rw [dRa, if_pos ho]
    rw [ho] at cf
    go_enter Try.func51, Try.ntmps51
    go_wp2
    go_ret
    exact ⟨rfl, hd, hB0, T3.of _ _ _ (Below.refl _ _)⟩
  have ho' : d.off = false := by simpa using ho
  rw [ho'] at cf
  by_cases hn : t < 0
  case pos =>
    rw [dRa, if_neg ho, if_pos hn]
    go_enter Try.func51, Try.ntmps51
    go_wp2
    go_ret
    exact ⟨rfl, hd, hB0, T3.of _ _ _ (Below.refl _ _)⟩
  by_cases hm : 1048576 < t
  case pos =>
    rw [dRa, if_neg ho, if_neg hn, if_pos hm]
    go_enter Try.func51, Try.ntmps51
    go_wp2
    go_ret
    exact ⟨rfl, hd, hB0, T3.of _ _ _ (Below.refl _ _)⟩
  by_cases hl : t ≤ b.ta
  case pos =>
    rw [dRa, if_neg ho, if_neg hn, if_neg hm, if_pos hl]
    go_enter Try.func51, Try.ntmps51
    go_wp2
    go_ret
    exact ⟨rfl, hd, hB0, T3.of _ _ _ (Below.refl _ _)⟩
  by_cases hg : b.r.ta < t
  case neg =>
    rw [dRa, if_neg ho, if_neg hn, if_neg hm, if_neg hl, if_neg hg]
    have t4 := thaw_at hB0 7
    obtain ⟨hB2, hT2⟩ := hB0.set7 t
    have hD2 := hd.tg hB0 hT2
    obtain ⟨V, hV⟩ : ∃ V, W.setCell ⟨g, 7, none⟩ (.int .i64 t) = V := ⟨_, rfl⟩
    rw [hV] at hB2 hT2 hD2
    go_enter Try.func51, Try.ntmps51
    go_wp2
    go_ret
    exact ⟨rfl, hD2, hB2, T3.tp _ _ hT2⟩
  rw [dRa, if_neg ho, if_neg hn, if_neg hm, if_neg hl, if_pos hg]
  obtain ⟨E, hE⟩ : ∃ E, (dSv d (rRa b t)).1 = E := ⟨_, rfl⟩
  obtain ⟨D1, hD1⟩ : ∃ D1, (dSv d (rRa b t)).2 = D1 := ⟨_, rfl⟩
  have hbr : (if 1048576 < t + 3 then 1048576 else t + 3) = (rRa b t).ta := by
    show _ = bT (t - 1)
    unfold bT
    split <;> split <;> omega
  have hw16 := i64_id (t + 3) (by omega) (by omega)
  have hle := least_any (t + 3) 1048576
  rw [hbr] at hle
  have hsvx := fun V (hV : RfD V lb 0 base r c d) => rSave_any hV (rRa b t) hf hw0 hw
  rw [hE, hD1] at hsvx
  rw [hE, hD1]
  have HX1 : Hid ((rRa b t).li = b.r.li) := rfl
  have HX2 : Hid ((rRa b t).ro = b.r.ro) := rfl
  obtain ⟨x, hx⟩ : ∃ x, rRa b t = x := ⟨_, rfl⟩
  rw [hx] at hle hsvx HX1 HX2
  rw [hx]
  clear hE hD1 hx hbr
  obtain ⟨xl, xr, xt⟩ := x
  have hx1 : xl = b.r.li := HX1.out
  have hx2 : xr = b.r.ro := HX2.out
  subst hx1 hx2
  unfold rV at hsvx
  dsimp only at hle hsvx
  clear HX1 HX2
  obtain ⟨V1, hV1⟩ : ∃ V1, W.alloc (.cells #[.int .i64 b.r.li, .int .i64 b.r.ro, .int .i64 b.r.ta] 36) = V1 := ⟨_, rfl⟩
  have hb1 : Below W.heap.size W V1 := by rw [← hV1]; exact al1' _ _
  have hg1 : V1.heap[W.heap.size]? = some (.cells #[.int .i64 b.r.li, .int .i64 b.r.ro, .int .i64 b.r.ta] 36 (0, 0)) := by rw [← hV1]; exact new_at rfl
  have y1 : V1.cell? ⟨W.heap.size, 2, none⟩ = some (.int .i64 b.r.ta) := by rw [cell_at hg1]; rfl
  have ty := thaw_at hg1 2
  obtain ⟨V2, hV2⟩ : ∃ V2, V1.setCell ⟨W.heap.size, 2, none⟩ (.int .i64 xt) = V2 := ⟨_, rfl⟩
  have hb2 : Below W.heap.size W V2 := by rw [← hV2]; exact hb1.setCell (p := ⟨W.heap.size, 2, none⟩) (Nat.le_refl _) _
  have hg2 : V2.heap[W.heap.size]? = some (.cells #[.int .i64 b.r.li, .int .i64 b.r.ro, .int .i64 xt] 36 (0, 0)) := by rw [← hV2]; exact heap_setCell_same _ _ _ _ _ _ hg1
  have hsv := hsvx V2 (hd.carry hb2)
  have hle1 := hle V1
  clear hle hsvx
  by_cases hz : E = 0
  case neg =>
    go_enter Try.func51, Try.ntmps51
    go_wp2_with (first | (go_at_call 48; (with_reducible refine hle1.mono ?_); rintro e u ⟨rfl, hu⟩; obtain rfl := hu.symm) | (refine wpList_load_row rfl 36 (.tmp 7) rfl W.heap.size rfl 36 _ (0, 0) _ hg2 undR rfl infoR ?_) | (go_at_call 49; (with_reducible refine hsv.mono ?_); rintro e u1 ⟨rfl, hu1, hu2⟩))
    go_ret
    exact ⟨rfl, hu1, (hB0.carry hb2).tf (hd.carry hb2) hu2, (T3.of _ _ _ hb2).trans (T3.tf _ hu2)⟩
  subst hz
  go_enter Try.func51, Try.ntmps51
  go_wp2_with (first | (go_at_call 48; (with_reducible refine hle1.mono ?_); rintro e u ⟨rfl, hu⟩; obtain rfl := hu.symm) | (refine wpList_load_row rfl 36 (.tmp 7) rfl W.heap.size rfl 36 _ (0, 0) _ hg2 undR rfl infoR ?_) | (go_at_call 49; (with_reducible refine hsv.mono ?_); rintro e u1 ⟨rfl, hu1, hu2⟩; have hbb1 := (hB0.carry hb2).tf (hd.carry hb2) hu2; have hg3 := (hu2.block _ (lt_at hg2) (by have := hd.lt; omega) (by have := hd.lt; omega)).trans hg2; obtain ⟨hbb2, htp2⟩ := hbb1.put ⟨b.r.li, b.r.ro, xt⟩ rfl; have hrf2 := hu1.tg hbb1 htp2; obtain ⟨Y, hY⟩ : ∃ Y, u1.setRow g (splice (boC q p lb b) 2 (r3 ⟨b.r.li, b.r.ro, xt⟩)).toArray = Y := ⟨_, rfl⟩; rw [hY] at hbb2 htp2 hrf2; have HY : Hid (u1.setRow g (splice (boC q p lb b) 2 (r3 ⟨b.r.li, b.r.ro, xt⟩)).toArray = Y) := hY; clear hY; have z7 := hbb2.cs.2.2.2.2.2.2.2.1; have tz := thaw_at hbb2 7; obtain ⟨hbb3, htp3⟩ := hbb2.set7 t; have hrf3 := hrf2.tg hbb2 htp3; obtain ⟨Z, hZ⟩ : ∃ Z, Y.setCell ⟨g, 7, none⟩ (.int .i64 t) = Z := ⟨_, rfl⟩; rw [hZ] at hbb3 htp3 hrf3) | (refine wpList_load_row rfl 36 (.tmp 7) rfl W.heap.size rfl 36 _ (0, 0) _ hg3 undR rfl infoR ?_) | (refine wpList_store_in rfl 36 (.tmp 47) (.tmp 45) rfl g 2 77 (boC q p lb b) (r3 ⟨b.r.li, b.r.ro, xt⟩) rfl rfl hbb1 infoR (by unfold boC r3; simp) (by simp [r3, Value.oneCell']) ?_; rw [HY.out]))
  go_ret
  exact ⟨rfl, hrf3, hbb3, (((T3.of _ _ _ hb2).trans (T3.tf _ hu2)).trans (T3.tp _ _ htp2)).trans (T3.tp _ _ htp3)⟩
/-- The document's Boot as a value. -/
def rbA (b : Bo) : Array Value := #[.int .i64 b.r.li, .int .i64 b.r.ro, .int .i64 b.r.ta, .int .i64 b.r.li, .int .i64 b.ro, .int .i64 b.ta]
def z6A : Array Value := #[.int .i64 0, .int .i64 0, .int .i64 0, .int .i64 0, .int .i64 0, .int .i64 0]
theorem undRB : Try.prog.underlying 71 = some (.struct ((match Try.prog.underlying 71 with | some (.struct f) => f | _ => #[]))) := by kernel_rfl
theorem infoRB : (Try.prog.info? 71).map (·.size) = some 6 := by kernel_rfl
/-- While the document's Open goes on: the result, its Boot at X. -/
structure JWo (W0 : World) (X lb base r c : Nat) (C : Array Value) (d : Dst) (W : World) : Prop where
  z : W.heap[W0.heap.size]? = some (.cells z6A 71 (0, 0))
  x : W.heap[X]? = some (.cells C 71 (0, 0))
  d : RfD W lb 0 base r c d
  t : Tf lb 0 r W0 W
  n : W0.heap.size < X
theorem JWo.carry {W0 : World} {X : Nat} {C : Array Value} (h : JWo W0 X lb base r c C d W) (hb : Below W.heap.size W V) : JWo W0 X lb base r c C d V := ⟨(hb.block _ (lt_at h.z)).trans h.z, (hb.block _ (lt_at h.x)).trans h.x, h.d.carry hb, h.t.trans (Tf.of _ _ _ hb), h.n⟩
theorem Tf.row {lb r X : Nat} {W0 W : World} (h : Tf lb 0 r W0 W) (h1 : W0.heap.size ≤ X) (h2 : lb < W0.heap.size) (C : Array Value) : Tf lb 0 r W0 (W.setRow X C) := by
  have k := Tp.row X W C
  exact ⟨k.os.trans h.os, k.tape.trans h.tape, k.output.trans h.output, Nat.le_trans h.size k.size, fun j hj a b => (k.block j (Nat.lt_of_lt_of_le hj h.size) (by omega)).trans (h.block j hj a b), fun cur hc => by
    obtain ⟨c1, a1, a2⟩ := h.lk cur hc
    exact ⟨c1, (k.block _ (Nat.lt_of_lt_of_le h2 h.size) (by omega)).trans a1, a2⟩⟩
theorem JWo.put {W0 : World} {X : Nat} {C : Array Value} (h : JWo W0 X lb base r c C d W) (hl : lb < W0.heap.size) (hr : r < W0.heap.size) (D : Array Value) : JWo W0 X lb base r c D d (W.setRow X D) := by
  have k := Tp.row X W D
  have n := h.n
  exact ⟨(k.block _ (lt_at h.z) (by omega)).trans h.z, setRow_heap _ _ _ _ _ _ h.x, h.d.same (k.block _ h.d.lt.1 (by omega)) (k.block _ h.d.lt.2 (by omega)), h.t.row (by omega) hl D, n⟩
theorem load_i64' {W : World} {B o : Nat} {C : Array Value} {t : TypeId} {x : Int} (h : W.heap[B]? = some (.cells C t (0, 0))) (hx : C[o]? = some (.int .i64 x)) : (Instr.loadAt 3 (.pointer (some ⟨B, o, none⟩))).run Try.prog W = .ok (.int .i64 x) W := load_i64 (by rw [cell_at h]; exact hx)
end
end Go.Proofs.Ytjleggnkacmbbaa
