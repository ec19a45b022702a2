/- The document's Boot in a block of its own. -/
import Derived.Test.YtlpmehmoeladjaaGreatDoorJnJ24
import Derived.Test.YtlpmehmoeladjaaGreatDoorJnJ21
import Derived.Test.YtlpmehmoeladjaaGreatDoorJnJ19
namespace Go.Proofs.YtlpmehmoeladjaaGreatDoor
open Go.RowKit Go.Shelf Go.Lib

def boC (_q _p _lb : Nat) (b : Bo) : List Value := [.int .i64 b.r.li, .int .i64 b.r.ro, .int .i64 b.r.ta, .int .i64 b.r.li, .int .i64 b.ro, .int .i64 b.ta]
/-- The document's Boot. -/
def BB (W : World) (g q p lb : Nat) (b : Bo) : Prop := W.heap[g]? = some (.cells (boC q p lb b).toArray 37 (0, 0))
/-- What turns these three blocks alone. -/
structure T3 (x y z : Nat) (W W' : World) : Prop where
  os : W'.os = W.os
  tape : W'.tape = W.tape
  output : W'.output = W.output
  size : W.heap.size ≤ W'.heap.size
  block : ∀ k, k < W.heap.size → k ≠ x → k ≠ y → k ≠ z → W'.heap[k]? = W.heap[k]?
section
variable {x y z base : Nat} {W W' W'' : World}
theorem T3.of (x y z : Nat) (hb : Below W.heap.size W W') : T3 x y z W W' := ⟨hb.os, hb.tape, hb.output, hb.size, fun k hk _ _ _ => hb.block k hk⟩
theorem T3.tf (x : Nat) (h : Tf y 0 z W W') : T3 x y z W W' := ⟨h.os, h.tape, h.output, h.size, fun k hk _ h1 h2 => h.block k hk h1 h2⟩
theorem T3.tp (y z : Nat) (h : Tp x W W') : T3 x y z W W' := ⟨h.os, h.tape, h.output, h.size, fun k hk hn _ _ => h.block k hk hn⟩
theorem T3.trans (h : T3 x y z W W') (k : T3 x y z W' W'') : T3 x y z W W'' :=
  ⟨k.os.trans h.os, k.tape.trans h.tape, k.output.trans h.output, Nat.le_trans h.size k.size, fun j hj a b c => (k.block j (Nat.lt_of_lt_of_le hj h.size) a b c).trans (h.block j hj a b c)⟩
theorem T3.below (h : T3 x y z W W') (hx : base ≤ x) (hy : base ≤ y) (hz : base ≤ z) (hb : base ≤ W.heap.size) : Below base W W' :=
  ⟨h.os, h.tape, h.output, h.size, fun k hk => h.block k (by omega) (by omega) (by omega) (by omega)⟩
end
theorem RfD.same {W V : World} {lb o base r c : Nat} {d : Dst} (h : RfD W lb o base r c d) (e : V.heap[lb]? = W.heap[lb]?) (e2 : V.heap[r]? = W.heap[r]?) : RfD V lb o base r c d := by
  obtain ⟨cur, h1⟩ := h.lk
  refine ⟨(World.cell?_of_block (a := ⟨lb, _, none⟩) e).trans h.b, (World.cell?_of_block (a := ⟨lb, _, none⟩) e).trans h.f, (World.cell?_of_block (a := ⟨lb, _, none⟩) e).trans h.u, (World.cell?_of_block (a := ⟨lb, _, none⟩) e).trans h.n, ?_, ⟨cur, e.trans h1⟩, h.len, h.byt⟩
  refine ⟨h.row.1, ?_⟩
  rcases h.row.2 with ⟨q, _⟩ | ⟨g1, c1, cur1, q, h2, h3, h4⟩
  · cases q
  · cases q
    exact .inr ⟨r, c, cur1, rfl, h2, e2.trans h3, h4⟩
section
variable {W V : World} {g q p lb base r c : Nat} {b : Bo} {d : Dst}
theorem BB.carry (h : BB W g q p lb b) (hb : Below W.heap.size W V) : BB V g q p lb b := (hb.block _ (lt_at h)).trans h
theorem BB.ne (h : BB W g q p lb b) (hd : RfD W lb 0 base r c d) : g ≠ lb ∧ g ≠ r := by
  obtain ⟨cur, h1⟩ := hd.lk
  obtain ⟨_, cur2, h2⟩ := hd.rb
  unfold BB at h
  constructor
  · intro e
    rw [e, h1] at h
    simp only [Option.some.injEq, Obj.cells.injEq] at h
    exact absurd h.2.1 (by decide)
  · intro e
    rw [e, h2] at h
    simp only [Option.some.injEq, Obj.cells.injEq] at h
    exact absurd h.2.1 (by decide)
theorem BB.tf (h : BB W g q p lb b) (hd : RfD W lb 0 base r c d) (ht : Tf lb 0 r W V) : BB V g q p lb b := (ht.block _ (lt_at h) (h.ne hd).1 (h.ne hd).2).trans h
theorem RfD.tg (hd : RfD W lb 0 base r c d) (h : BB W g q p lb b) (ht : Tp g W V) : RfD V lb 0 base r c d := hd.same (ht.block _ hd.lt.1 (Ne.symm (h.ne hd).1)) (ht.block _ hd.lt.2 (Ne.symm (h.ne hd).2))
theorem BB.put (h : BB W g q p lb b) (x : Rec) (hx : x.li = b.r.li) : BB (W.setRow g (splice (boC q p lb b) 0 (r3 x)).toArray) g q p lb { b with r := x } ∧ Tp g W (W.setRow g (splice (boC q p lb b) 0 (r3 x)).toArray) := by
  refine ⟨?_, Tp.row _ _ _⟩
  unfold BB
  rw [setRow_heap _ _ _ _ _ _ h]
  unfold boC
  dsimp only
  rw [← hx]
  rfl
theorem BB.set6 (h : BB W g q p lb b) (x : Int) : BB (W.setCell ⟨g, 4, none⟩ (.int .i64 x)) g q p lb ⟨b.r, x, b.ta⟩ ∧ Tp g W (W.setCell ⟨g, 4, none⟩ (.int .i64 x)) := ⟨heap_setCell_same _ _ _ _ _ _ h, Tp.set _ _ _ _⟩
theorem BB.set7 (h : BB W g q p lb b) (x : Int) : BB (W.setCell ⟨g, 5, none⟩ (.int .i64 x)) g q p lb ⟨b.r, b.ro, x⟩ ∧ Tp g W (W.setCell ⟨g, 5, none⟩ (.int .i64 x)) := ⟨heap_setCell_same _ _ _ _ _ _ h, Tp.set _ _ _ _⟩
theorem BB.cs (h : BB W g q p lb b) : True ∧ True ∧ W.cell? ⟨g, 0, none⟩ = some (.int .i64 b.r.li) ∧ W.cell? ⟨g, 1, none⟩ = some (.int .i64 b.r.ro) ∧ W.cell? ⟨g, 2, none⟩ = some (.int .i64 b.r.ta) ∧ W.cell? ⟨g, 3, none⟩ = some (.int .i64 b.r.li) ∧ W.cell? ⟨g, 4, none⟩ = some (.int .i64 b.ro) ∧ W.cell? ⟨g, 5, none⟩ = some (.int .i64 b.ta) ∧ True := ⟨trivial, trivial, cell_at h 0, cell_at h 1, cell_at h 2, cell_at h 3, cell_at h 4, cell_at h 5, trivial⟩
theorem field_rbZ (W : World) (B o : Nat) : (Instr.fieldAt 37 (.pointer (some ⟨B, o, none⟩)) 0).run Tryz.prog W = .ok (.pointer (some ⟨B, o, none⟩)) W ∧ (Instr.fieldAt 37 (.pointer (some ⟨B, o, none⟩)) 1).run Tryz.prog W = .ok (.pointer (some ⟨B, o + 3, none⟩)) W ∧ (Instr.fieldAt 37 (.pointer (some ⟨B, o, none⟩)) 2).run Tryz.prog W = .ok (.pointer (some ⟨B, o + 4, none⟩)) W ∧ (Instr.fieldAt 37 (.pointer (some ⟨B, o, none⟩)) 3).run Tryz.prog W = .ok (.pointer (some ⟨B, o + 5, none⟩)) W := by
  refine ⟨?_, ?_, ?_, ?_⟩ <;> go_simp
theorem field_Ro (W : World) (B o : Nat) : (Instr.fieldAt 35 (.pointer (some ⟨B, o, none⟩)) 1).run Tryz.prog W = .ok (.pointer (some ⟨B, o + 1, none⟩)) W := by go_simp
set_option maxHeartbeats 1000000 in
theorem least_any (a b : Int) (W : World) : Calls Tryz.prog 31 #[.int .i64 a, .int .i64 b] W fun e w' => e = .returned (.int .i64 (if b < a then b else a)) ∧ w' = W := by
  by_cases h : a < b
  · rw [if_neg (by omega)]
    go_enter Tryz.func31, Tryz.ntmps31
    go_wp2
    go_ret
    exact ⟨rfl, rfl⟩
  · have e : (if b < a then b else a) = b := by split <;> omega
    rw [e]
    go_enter Tryz.func31, Tryz.ntmps31
    go_wp2
    go_ret
    exact ⟨rfl, rfl⟩
end
end Go.Proofs.YtlpmehmoeladjaaGreatDoor
namespace Go.Proofs.YtlpmehmoeladjaaGreatDoor
open Go.RowKit Go.Shelf Go.Lib

section
variable {W V : World} {g q p lb base r c : Nat} {b : Bo} {d : Dst}
set_option maxHeartbeats 8000000 in
set_option maxRecDepth 100000 in
theorem rRaise_any {W : World} (hB0 : BB W g q p lb b) (hd : RfD W lb 0 base r c d) (hf : Fz d) (hw0 : 0 ≤ d.writes) (hw : d.writes ≤ 4611686018427387903) (t : Int) : Calls Tryz.prog 48 #[.pointer (some ⟨g, 0, none⟩), .pointer (some ⟨lb, 0, none⟩), .int .i64 t] W fun e w' => e = .returned (.int .i64 (dRa d b t).e) ∧ RfD w' lb 0 base r c (dRa d b t).d ∧ BB w' g q p lb (dRa d b t).b ∧ T3 g lb r W w' := by
  have cf := hd.f
  rw [Nat.zero_add] at cf
  obtain ⟨q0, q1, q2, q3, q4, q5, q6, q7, q8⟩ := hB0.cs
  by_cases ho : d.off = true
  case pos =>
    rw [dRa, if_pos ho]
    rw [ho] at cf
    go_enter Tryz.func48, Tryz.ntmps48
    go_wp2
    go_ret
    exact ⟨rfl, hd, hB0, T3.of _ _ _ (Below.refl _ _)⟩
  have ho' : d.off = false := by simpa using ho
  rw [ho'] at cf
  by_cases hn : t < 0
  case pos =>
    rw [dRa, if_neg ho, if_pos hn]
    go_enter Tryz.func48, Tryz.ntmps48
    go_wp2
    go_ret
    exact ⟨rfl, hd, hB0, T3.of _ _ _ (Below.refl _ _)⟩
  by_cases hm : 1048576 < t
  case pos =>
    rw [dRa, if_neg ho, if_neg hn, if_pos hm]
    go_enter Tryz.func48, Tryz.ntmps48
    go_wp2
    go_ret
    exact ⟨rfl, hd, hB0, T3.of _ _ _ (Below.refl _ _)⟩
  by_cases hl : t ≤ b.ta
  case pos =>
    rw [dRa, if_neg ho, if_neg hn, if_neg hm, if_pos hl]
    go_enter Tryz.func48, Tryz.ntmps48
    go_wp2
    go_ret
    exact ⟨rfl, hd, hB0, T3.of _ _ _ (Below.refl _ _)⟩
  by_cases hg : b.r.ta < t
  case neg =>
    rw [dRa, if_neg ho, if_neg hn, if_neg hm, if_neg hl, if_neg hg]
    have t4 := thaw_at hB0 5
    obtain ⟨hB2, hT2⟩ := hB0.set7 t
    have hD2 := hd.tg hB0 hT2
    obtain ⟨V, hV⟩ : ∃ V, W.setCell ⟨g, 5, none⟩ (.int .i64 t) = V := ⟨_, rfl⟩
    rw [hV] at hB2 hT2 hD2
    go_enter Tryz.func48, Tryz.ntmps48
    go_wp2
    go_ret
    exact ⟨rfl, hD2, hB2, T3.tp _ _ hT2⟩
  rw [dRa, if_neg ho, if_neg hn, if_neg hm, if_neg hl, if_pos hg]
  obtain ⟨E, hE⟩ : ∃ E, (dSv d (rRa b t)).1 = E := ⟨_, rfl⟩
  obtain ⟨D1, hD1⟩ : ∃ D1, (dSv d (rRa b t)).2 = D1 := ⟨_, rfl⟩
  have hbr : (if 1048576 < t + 3 then 1048576 else t + 3) = (rRa b t).ta := by
    show _ = bT (t - 1)
    unfold bT
    split <;> split <;> omega
  have hw16 := i64_id (t + 3) (by omega) (by omega)
  have hle := least_any (t + 3) 1048576
  rw [hbr] at hle
  have hsvx := fun V (hV : RfD V lb 0 base r c d) => rSave_any hV (rRa b t) hf hw0 hw
  rw [hE, hD1] at hsvx
  rw [hE, hD1]
  have HX1 : Hid ((rRa b t).li = b.r.li) := rfl
  have HX2 : Hid ((rRa b t).ro = b.r.ro) := rfl
  obtain ⟨x, hx⟩ : ∃ x, rRa b t = x := ⟨_, rfl⟩
  rw [hx] at hle hsvx HX1 HX2
  rw [hx]
  clear hE hD1 hx hbr
  obtain ⟨xl, xr, xt⟩ := x
  have hx1 : xl = b.r.li := HX1.out
  have hx2 : xr = b.r.ro := HX2.out
  subst hx1 hx2
  unfold rV at hsvx
  dsimp only at hle hsvx
  clear HX1 HX2
  obtain ⟨V1, hV1⟩ : ∃ V1, W.alloc (.cells #[.int .i64 b.r.li, .int .i64 b.r.ro, .int .i64 b.r.ta] 35) = V1 := ⟨_, rfl⟩
  have hb1 : Below W.heap.size W V1 := by rw [← hV1]; exact al1' _ _
  have hg1 : V1.heap[W.heap.size]? = some (.cells #[.int .i64 b.r.li, .int .i64 b.r.ro, .int .i64 b.r.ta] 35 (0, 0)) := by rw [← hV1]; exact new_at rfl
  have y1 : V1.cell? ⟨W.heap.size, 2, none⟩ = some (.int .i64 b.r.ta) := by rw [cell_at hg1]; rfl
  have ty := thaw_at hg1 2
  obtain ⟨V2, hV2⟩ : ∃ V2, V1.setCell ⟨W.heap.size, 2, none⟩ (.int .i64 xt) = V2 := ⟨_, rfl⟩
  have hb2 : Below W.heap.size W V2 := by rw [← hV2]; exact hb1.setCell (p := ⟨W.heap.size, 2, none⟩) (Nat.le_refl _) _
  have hg2 : V2.heap[W.heap.size]? = some (.cells #[.int .i64 b.r.li, .int .i64 b.r.ro, .int .i64 xt] 35 (0, 0)) := by rw [← hV2]; exact heap_setCell_same _ _ _ _ _ _ hg1
  have hsv := hsvx V2 (hd.carry hb2)
  have hle1 := hle V1
  clear hle hsvx
  by_cases hz : E = 0
  case neg =>
    go_enter Tryz.func48, Tryz.ntmps48
    go_wp2_with (first | (go_at_call 31; (with_reducible refine hle1.mono ?_); rintro e u ⟨rfl, hu⟩; obtain rfl := hu.symm) | (refine wpList_load_row rfl 35 (.tmp 7) rfl W.heap.size rfl 35 _ (0, 0) _ hg2 undR rfl infoR ?_) | (go_at_call 32; (with_reducible refine hsv.mono ?_); rintro e u1 ⟨rfl, hu1, hu2⟩))
    go_ret
    exact ⟨rfl, hu1, (hB0.carry hb2).tf (hd.carry hb2) hu2, (T3.of _ _ _ hb2).trans (T3.tf _ hu2)⟩
  subst hz
  go_enter Tryz.func48, Tryz.ntmps48
  go_wp2_with (first | (go_at_call 31; (with_reducible refine hle1.mono ?_); rintro e u ⟨rfl, hu⟩; obtain rfl := hu.symm) | (refine wpList_load_row rfl 35 (.tmp 7) rfl W.heap.size rfl 35 _ (0, 0) _ hg2 undR rfl infoR ?_) | (go_at_call 32; (with_reducible refine hsv.mono ?_); rintro e u1 ⟨rfl, hu1, hu2⟩; have hbb1 := (hB0.carry hb2).tf (hd.carry hb2) hu2; have hg3 := (hu2.block _ (lt_at hg2) (by have := hd.lt; omega) (by have := hd.lt; omega)).trans hg2; obtain ⟨hbb2, htp2⟩ := hbb1.put ⟨b.r.li, b.r.ro, xt⟩ rfl; have hrf2 := hu1.tg hbb1 htp2; obtain ⟨Y, hY⟩ : ∃ Y, u1.setRow g (splice (boC q p lb b) 0 (r3 ⟨b.r.li, b.r.ro, xt⟩)).toArray = Y := ⟨_, rfl⟩; rw [hY] at hbb2 htp2 hrf2; have HY : Hid (u1.setRow g (splice (boC q p lb b) 0 (r3 ⟨b.r.li, b.r.ro, xt⟩)).toArray = Y) := hY; clear hY; have z7 := hbb2.cs.2.2.2.2.2.2.2.1; have tz := thaw_at hbb2 5; obtain ⟨hbb3, htp3⟩ := hbb2.set7 t; have hrf3 := hrf2.tg hbb2 htp3; obtain ⟨Z, hZ⟩ : ∃ Z, Y.setCell ⟨g, 5, none⟩ (.int .i64 t) = Z := ⟨_, rfl⟩; rw [hZ] at hbb3 htp3 hrf3) | (refine wpList_load_row rfl 35 (.tmp 7) rfl W.heap.size rfl 35 _ (0, 0) _ hg3 undR rfl infoR ?_) | (refine wpList_store_in rfl 35 (.tmp 47) (.tmp 45) rfl g 0 37 (boC q p lb b) (r3 ⟨b.r.li, b.r.ro, xt⟩) rfl rfl hbb1 infoR (by unfold boC r3; simp) (by simp [r3, Value.oneCell']) ?_; rw [HY.out]))
  go_ret
  exact ⟨rfl, hrf3, hbb3, (((T3.of _ _ _ hb2).trans (T3.tf _ hu2)).trans (T3.tp _ _ htp2)).trans (T3.tp _ _ htp3)⟩
/-- The document's Boot as a value. -/
def rbA (b : Bo) : Array Value := #[.int .i64 b.r.li, .int .i64 b.r.ro, .int .i64 b.r.ta, .int .i64 b.r.li, .int .i64 b.ro, .int .i64 b.ta]
def z6A : Array Value := #[.int .i64 0, .int .i64 0, .int .i64 0, .int .i64 0, .int .i64 0, .int .i64 0]
theorem undRB : Tryz.prog.underlying 37 = some (.struct ((match Tryz.prog.underlying 37 with | some (.struct f) => f | _ => #[]))) := by kernel_rfl
theorem infoRB : (Tryz.prog.info? 37).map (·.size) = some 6 := by kernel_rfl
/-- While the document's Open goes on: the result, its Boot at X. -/
structure JWo (W0 : World) (X lb base r c : Nat) (C : Array Value) (d : Dst) (W : World) : Prop where
  z : W.heap[W0.heap.size]? = some (.cells z6A 37 (0, 0))
  x : W.heap[X]? = some (.cells C 37 (0, 0))
  d : RfD W lb 0 base r c d
  t : Tf lb 0 r W0 W
  n : W0.heap.size < X
theorem JWo.carry {W0 : World} {X : Nat} {C : Array Value} (h : JWo W0 X lb base r c C d W) (hb : Below W.heap.size W V) : JWo W0 X lb base r c C d V := ⟨(hb.block _ (lt_at h.z)).trans h.z, (hb.block _ (lt_at h.x)).trans h.x, h.d.carry hb, h.t.trans (Tf.of _ _ _ hb), h.n⟩
theorem Tf.row {lb r X : Nat} {W0 W : World} (h : Tf lb 0 r W0 W) (h1 : W0.heap.size ≤ X) (h2 : lb < W0.heap.size) (C : Array Value) : Tf lb 0 r W0 (W.setRow X C) := by
  have k := Tp.row X W C
  exact ⟨k.os.trans h.os, k.tape.trans h.tape, k.output.trans h.output, Nat.le_trans h.size k.size, fun j hj a b => (k.block j (Nat.lt_of_lt_of_le hj h.size) (by omega)).trans (h.block j hj a b), fun cur hc => by
    obtain ⟨c1, a1, a2⟩ := h.lk cur hc
    exact ⟨c1, (k.block _ (Nat.lt_of_lt_of_le h2 h.size) (by omega)).trans a1, a2⟩⟩
theorem JWo.put {W0 : World} {X : Nat} {C : Array Value} (h : JWo W0 X lb base r c C d W) (hl : lb < W0.heap.size) (hr : r < W0.heap.size) (D : Array Value) : JWo W0 X lb base r c D d (W.setRow X D) := by
  have k := Tp.row X W D
  have n := h.n
  exact ⟨(k.block _ (lt_at h.z) (by omega)).trans h.z, setRow_heap _ _ _ _ _ _ h.x, h.d.same (k.block _ h.d.lt.1 (by omega)) (k.block _ h.d.lt.2 (by omega)), h.t.row (by omega) hl D, n⟩
theorem load_i64' {W : World} {B o : Nat} {C : Array Value} {t : TypeId} {x : Int} (h : W.heap[B]? = some (.cells C t (0, 0))) (hx : C[o]? = some (.int .i64 x)) : (Instr.loadAt 3 (.pointer (some ⟨B, o, none⟩))).run Tryz.prog W = .ok (.int .i64 x) W := load_i64 (by rw [cell_at h]; exact hx)
end
end Go.Proofs.YtlpmehmoeladjaaGreatDoor
namespace Go.Proofs.YtlpmehmoeladjaaGreatDoor
open Go.RowKit Go.Shelf Go.Lib

section
variable {W V : World} {lb base r c : Nat} {d : Dst}
theorem nwT_40 (d : Dst) (h : (nwT d).e = 40) : (nwT d).r = rec0 := by
  unfold nwT at h ⊢
  split at h
  · exact absurd h (by decide)
  · rename_i ho
    rw [if_neg ho]
    cases hn : nw d.l with
    | none => rfl
    | some x => rw [hn] at h; exact absurd (show (0 : Int) = 40 from h) (by decide)
def kA (k : List Value) (L R T : Int) : Array Value := (k ++ ([.int .i64 L, .int .i64 R, .int .i64 T] : List Value)).toArray
def z3L : List Value := [.int .i64 0, .int .i64 0, .int .i64 0]
theorem store_kA {W : World} {X : Nat} {L R T : Int} {k : List Value} (x : Rec) (hk : k.length = 3) (h : W.heap[X]? = some (.cells (kA k L R T) 37 (0, 0))) : (Instr.storeAt 35 (.pointer (some ⟨X, 0, none⟩)) (.agg #[.int .i64 x.li, .int .i64 x.ro, .int .i64 x.ta])).run Tryz.prog W = .ok () (W.setRow X (kA (r3 x) L R T)) := by
  have h1 := run_store_in (P := Tryz.prog) W X 0 37 35 (kA k L R T).toList (r3 x) (by simpa using h) infoR (by unfold kA r3; simp) (by simp [r3, Value.oneCell'])
  have e : (splice (kA k L R T).toList 0 (r3 x)).toArray = kA (r3 x) L R T := by
    match k, hk with
    | [a, b, c], _ => rfl
  rw [e] at h1
  exact h1
theorem kA_get {k : List Value} {L R T : Int} (hk : k.length = 3) : (kA k L R T)[3]? = some (.int .i64 L) ∧ (kA k L R T)[4]? = some (.int .i64 R) ∧ (kA k L R T)[5]? = some (.int .i64 T) := by
  match k, hk with
  | [a, b, c], _ => exact ⟨rfl, rfl, rfl⟩
theorem if_len {b : Bool} {x : Rec} : (if b = true then r3 x else z3L).length = 3 := by split <;> rfl
set_option maxHeartbeats 16000000 in
set_option maxRecDepth 100000 in
theorem rOpen_any {Wi : World} (hd : RfD Wi lb 0 base r c d) (hf : Fz d) (hw0 : 0 ≤ d.writes) (hw : d.writes ≤ 4611686018427387903) : Calls Tryz.prog 8 #[.pointer (some ⟨lb, 0, none⟩)] Wi fun e w' => ((dOp d).e = 0 → e = .returned (.tuple #[.agg (rbA (dOp d).b), .int .i64 0])) ∧ ((dOp d).e ≠ 0 → e = .returned (.tuple #[.agg z6A, .int .i64 (dOp d).e])) ∧ RfD w' lb 0 base r c (dOp d).d ∧ Tf lb 0 r Wi w' := by
  have hmx : Tryz.prog.follows .mixedOrders = true := by kernel_rfl
  obtain ⟨w1, hw1⟩ : ∃ w1, Wi.alloc (.cells #[.int .i64 0, .int .i64 0, .int .i64 0, .int .i64 0, .int .i64 0, .int .i64 0] 37) = w1 := ⟨_, rfl⟩
  have hb1 : Below Wi.heap.size Wi w1 := by rw [← hw1]; exact al1' _ _
  have hg1 : w1.heap[Wi.heap.size]? = some (.cells z6A 37 (0, 0)) := by rw [← hw1]; exact new_at rfl
  have hd1 := hd.carry hb1
  have hlt := hd.lt
  have hld := rLoad_any hd1
  have hr := nwT_r d
  have he2 := nwT_e2 d
  have hoe := nwT_e d
  have h40 := nwT_40 d
  unfold dOp
  obtain ⟨t, ht⟩ : ∃ t, nwT d = t := ⟨_, rfl⟩
  rw [ht] at hld hr he2 hoe h40 ⊢
  clear ht
  obtain ⟨⟨l, ro, a⟩, s, k, e⟩ := t
  unfold ldV rV at hld
  dsimp only at hld hr he2 hoe h40 ⊢
  by_cases ho : d.off = true
  case pos =>
    obtain rfl := hoe.2 ho
    rw [if_pos ho]
    clear he2 hoe h40
    go_enter Tryz.func8, Tryz.ntmps8
    go_wp2_with (first | (go_at_call 30; (with_reducible refine hld.mono ?_); rintro e u1 ⟨rfl, hu1⟩; obtain ⟨u2, hu2⟩ : ∃ u2, u1.alloc (.cells #[.int .i64 l, .int .i64 ro, .int .i64 a] 35) = u2 := ⟨_, rfl⟩; have hb2 : Below w1.heap.size w1 u2 := (by rw [← hu2]; exact bel2Z hu1 (al1' _ _)); have hz2 := (hb2.block _ (lt_at hg1)).trans hg1; have ht2 := Tf.of lb 0 r (bel2Z hb1 hb2)) | (refine wpList_store_row rfl 37 (.tmp 2) (.tmp 16) rfl Wi.heap.size z6A rfl rfl 37 _ hz2 infoRB rfl (by simp [z6A, Value.oneCell']) ?_; obtain ⟨v, hv⟩ : ∃ v, u2.setRow Wi.heap.size z6A = v := ⟨_, rfl⟩; have HV : Hid (v.heap[Wi.heap.size]? = some (.cells z6A 37 (0, 0))) := (by rw [← hv]; exact setRow_heap _ _ _ _ _ _ hz2); have HT : Hid (Tf lb 0 r Wi v) := (by rw [← hv]; exact ht2.row (Nat.le_refl _) hlt.1 _); have HD : Hid (RfD v lb 0 base r c d) := (by rw [← hv]; exact (hd1.carry hb2).same ((Tp.row _ u2 _).block _ (hd1.carry hb2).lt.1 (by omega)) ((Tp.row _ u2 _).block _ (hd1.carry hb2).lt.2 (by omega))); rw [hv]))
    (try simp only [Exit.inBlock, Exit.then])
    exact retC2 rfl rfl rfl rfl HV.out undRB infoRB ⟨fun h => absurd (show (100 : Int) = 0 from h) (by decide), fun _ => rfl, HD.out, HT.out⟩
  rw [if_neg ho]
  have he := he2 ho
  clear he2 hoe
  by_cases hl : l = 1073741824
  case pos =>
    rw [if_pos hl]
    subst hl
    obtain rfl : e = 0 := by
      rcases he with q | q
      · exact q
      · have := h40 q
        simp only [rec0, Rec.mk.injEq] at this
        exact absurd this.1 (by decide)
    clear h40
    go_enter Tryz.func8, Tryz.ntmps8
    go_wp2_with (first | (go_at_call 30; (with_reducible refine hld.mono ?_); rintro e u1 ⟨rfl, hu1⟩; obtain ⟨u2, hu2⟩ : ∃ u2, u1.alloc (.cells #[.int .i64 1073741824, .int .i64 ro, .int .i64 a] 35) = u2 := ⟨_, rfl⟩; have hb2 : Below w1.heap.size w1 u2 := (by rw [← hu2]; exact bel2Z hu1 (al1' _ _)); have hz2 := (hb2.block _ (lt_at hg1)).trans hg1; have hrec2 : u2.heap[u1.heap.size]? = some (.cells #[.int .i64 1073741824, .int .i64 ro, .int .i64 a] 35 (0, 0)) := (by rw [← hu2]; exact new_at rfl); obtain ⟨u3, hu3⟩ : ∃ u3, u2.alloc (.cells #[.int .i64 0, .int .i64 0, .int .i64 0, .int .i64 0, .int .i64 0, .int .i64 0] 37) = u3 := ⟨_, rfl⟩; have hb3 : Below u2.heap.size u2 u3 := (by rw [← hu3]; exact al1' _ _); have hx3 : u3.heap[u2.heap.size]? = some (.cells z6A 37 (0, 0)) := (by rw [← hu3]; exact new_at rfl); have hJ3 : JWo Wi u2.heap.size lb base r c z6A d u3 := ⟨(hb3.block _ (lt_at hz2)).trans hz2, hx3, (hd1.carry hb2).carry hb3, Tf.of lb 0 r (bel2Z (bel2Z hb1 hb2) hb3), Nat.lt_of_lt_of_le (lt_at hg1) hb2.size⟩; have hrec3 := (hb3.block _ (lt_at hrec2)).trans hrec2; have hne3 := lt_at hrec2) | (refine wpList_store_row rfl 37 (.tmp 7) (.tmp 18) rfl u2.heap.size (kA z3L 1 0 0) rfl rfl 37 _ hJ3.x infoRB rfl (by simp [kA, z3L, Value.oneCell']) ?_; obtain ⟨u4, hu4⟩ : ∃ u4, u3.setRow u2.heap.size (kA z3L 1 0 0) = u4 := ⟨_, rfl⟩; have hJ4 : JWo Wi u2.heap.size lb base r c (kA z3L 1 0 0) d u4 := (by rw [← hu4]; exact hJ3.put hlt.1 hlt.2 _); have hrec4 : u4.heap[u1.heap.size]? = some (.cells #[.int .i64 1073741824, .int .i64 ro, .int .i64 a] 35 (0, 0)) := (by rw [← hu4]; exact (setRow_other _ _ _ _ (by omega)).trans hrec3); have c0 := cell_at hrec4 0; simp at c0; rw [hu4]) | (refine wpList_store_row rfl 37 (.tmp 2) (.tmp 24) rfl Wi.heap.size z6A rfl rfl 37 _ hJ4.z infoRB rfl (by simp [z6A, Value.oneCell']) ?_; obtain ⟨v, hv⟩ : ∃ v, u4.setRow Wi.heap.size z6A = v := ⟨_, rfl⟩; have HV : Hid (v.heap[Wi.heap.size]? = some (.cells z6A 37 (0, 0))) := (by rw [← hv]; exact setRow_heap _ _ _ _ _ _ hJ4.z); have HT : Hid (Tf lb 0 r Wi v) := (by rw [← hv]; exact hJ4.t.row (Nat.le_refl _) hlt.1 _); have HD : Hid (RfD v lb 0 base r c d) := (by rw [← hv]; exact hJ4.d.same ((Tp.row _ u4 _).block _ hJ4.d.lt.1 (by omega)) ((Tp.row _ u4 _).block _ hJ4.d.lt.2 (by omega))); rw [hv]))
    (try simp only [Exit.inBlock, Exit.then])
    exact retC2 rfl rfl rfl rfl HV.out undRB infoRB ⟨fun h => absurd (show (120 : Int) = 0 from h) (by decide), fun _ => rfl, HD.out, HT.out⟩
  rw [if_neg hl]
  obtain ⟨E, hE⟩ : ∃ E, (dSv d (nxL ⟨l, ro, a⟩)).1 = E := ⟨_, rfl⟩
  obtain ⟨D1, hD1⟩ : ∃ D1, (dSv d (nxL ⟨l, ro, a⟩)).2 = D1 := ⟨_, rfl⟩
  have HE : Hid ((dSv d (nxL ⟨l, ro, a⟩)).1 = E) := hE
  have HD1 : Hid ((dSv d (nxL ⟨l, ro, a⟩)).2 = D1) := hD1
  rw [hE, hD1]
  clear hE hD1
  have hwl := i64_id (l + 1) (by omega) (by omega)
  have hw16 := i64_id (ro + 16) (by omega) (by omega)
  have hw4 := i64_id (a + 4) (by omega) (by omega)
  rcases he with rfl | rfl
  · clear h40
    go_enter Tryz.func8, Tryz.ntmps8
    go_wp2_with (first | (go_at_call 30; (with_reducible refine hld.mono ?_); rintro e u1 ⟨rfl, hu1⟩; obtain ⟨u2, hu2⟩ : ∃ u2, u1.alloc (.cells #[.int .i64 l, .int .i64 ro, .int .i64 a] 35) = u2 := ⟨_, rfl⟩; have hb2 : Below w1.heap.size w1 u2 := (by rw [← hu2]; exact bel2Z hu1 (al1' _ _)); have hz2 := (hb2.block _ (lt_at hg1)).trans hg1; have hrec2 : u2.heap[u1.heap.size]? = some (.cells #[.int .i64 l, .int .i64 ro, .int .i64 a] 35 (0, 0)) := (by rw [← hu2]; exact new_at rfl); obtain ⟨u3, hu3⟩ : ∃ u3, u2.alloc (.cells #[.int .i64 0, .int .i64 0, .int .i64 0, .int .i64 0, .int .i64 0, .int .i64 0] 37) = u3 := ⟨_, rfl⟩; have hb3 : Below u2.heap.size u2 u3 := (by rw [← hu3]; exact al1' _ _); have hx3 : u3.heap[u2.heap.size]? = some (.cells z6A 37 (0, 0)) := (by rw [← hu3]; exact new_at rfl); have hJ3 : JWo Wi u2.heap.size lb base r c z6A d u3 := ⟨(hb3.block _ (lt_at hz2)).trans hz2, hx3, (hd1.carry hb2).carry hb3, Tf.of lb 0 r (bel2Z (bel2Z hb1 hb2) hb3), Nat.lt_of_lt_of_le (lt_at hg1) hb2.size⟩; have hrec3 := (hb3.block _ (lt_at hrec2)).trans hrec2; have hne3 := lt_at hrec2) | (refine wpList_store_row rfl 37 (.tmp 7) (.tmp 18) rfl u2.heap.size (kA z3L 1 0 0) rfl rfl 37 _ hJ3.x infoRB rfl (by simp [kA, z3L, Value.oneCell']) ?_; obtain ⟨u4, hu4⟩ : ∃ u4, u3.setRow u2.heap.size (kA z3L 1 0 0) = u4 := ⟨_, rfl⟩; have hJ4 : JWo Wi u2.heap.size lb base r c (kA z3L 1 0 0) d u4 := (by rw [← hu4]; exact hJ3.put hlt.1 hlt.2 _); have hrec4 : u4.heap[u1.heap.size]? = some (.cells #[.int .i64 l, .int .i64 ro, .int .i64 a] 35 (0, 0)) := (by rw [← hu4]; exact (setRow_other _ _ _ _ (by omega)).trans hrec3); have c0 := cell_at hrec4 0; have c1 := cell_at hrec4 1; have c2 := cell_at hrec4 2; simp at c0 c1 c2; rw [hu4]) | (refine wpList_store_row rfl 37 (.tmp 7) (.tmp 32) rfl u2.heap.size (kA z3L (l + 1) ro a) rfl rfl 37 _ hJ4.x infoRB rfl (by simp [kA, z3L, Value.oneCell']) ?_; obtain ⟨u5, hu5⟩ : ∃ u5, u4.setRow u2.heap.size (kA z3L (l + 1) ro a) = u5 := ⟨_, rfl⟩; have hJ5 : JWo Wi u2.heap.size lb base r c (kA z3L (l + 1) ro a) d u5 := (by rw [← hu5]; exact hJ4.put hlt.1 hlt.2 _); rw [hu5]))
    rename_i hK
    refine wp_region_any hmx ?_
    refine wpAny_tabG (G := Unit) (fun g i__ => ([(.pointer (some ⟨u2.heap.size, 3, none⟩)), (.int .i64 (l + 1)), (.pointer (some ⟨u2.heap.size, 4, none⟩)), (.int .i64 ro), (.int .i64 (ro + 16)), (.int .i64 (bR ro)), (.pointer (some ⟨u2.heap.size, 5, none⟩)), (.int .i64 a), (.int .i64 (a + 4)), (.int .i64 (bT a)), (.agg #[.int .i64 ((l + 1)), .int .i64 (bR ro), .int .i64 (bT a)]), (.pointer (some ⟨u2.heap.size, 0, none⟩)), undef] : List Value).getD i__ undef) (fun g f V => JWo Wi u2.heap.size lb base r c (kA (if f 12 = true then r3 ⟨(l + 1), bR ro, bT a⟩ else z3L) (l + 1) ro a) d V) (by kernel_rfl) (()) (show JWo Wi u2.heap.size lb base r c (kA z3L (l + 1) ro a) d _ from hJ5.carry (Below.refl _ _).drew) ?step1 ?fin1
    case step1 =>
      intro i o ho
      have hi : i < 13 := getElem?_lt ho
      match i, hi, ho with
      | 0, _, ho =>
        cases ho
        refine stepG_of (fun g d hdep => ?_)
        exact step_fieldAddr rfl trivial _ _ _ _ rfl rfl (fun v hw => (field_rbZ v _ 0).2.1)
      | 1, _, ho =>
        cases ho
        refine stepG_of (fun g d hdep => ?_)
        exact step_load rfl trivial _ _ _ rfl rfl (fun v hw => load_i64' hw.x (kA_get if_len).1)
      | 2, _, ho =>
        cases ho
        refine stepG_of (fun g d hdep => ?_)
        exact step_fieldAddr rfl trivial _ _ _ _ rfl rfl (fun v hw => (field_rbZ v _ 0).2.2.1)
      | 3, _, ho =>
        cases ho
        refine stepG_of (fun g d hdep => ?_)
        exact step_load rfl trivial _ _ _ rfl rfl (fun v hw => load_i64' hw.x (kA_get if_len).2.1)
      | 4, _, ho =>
        cases ho
        refine stepG_of (fun g d hdep => ?_)
        exact step_binOp rfl trivial _ _ _ _ _ _ _ rfl rfl rfl (fun v hw => bin_add64 _ _ _ hw16)
      | 5, _, ho =>
        cases ho
        refine stepG_of (fun g d hdep => ?_)
        exact step_call rfl trivial 31 _ _ [(.int .i64 (ro + 16)), (Go.Value.int Go.IntKind.i64 1099511627775)] rfl (by kernel_rfl) (enters_of Tryz.func31 (by kernel_rfl) rfl) (fun v hw => (least_any (ro + 16) 1099511627775 v).mono (by rintro e w' ⟨rfl, rfl⟩; exact ⟨rfl, hw⟩))
      | 6, _, ho =>
        cases ho
        refine stepG_of (fun g d hdep => ?_)
        exact step_fieldAddr rfl trivial _ _ _ _ rfl rfl (fun v hw => (field_rbZ v _ 0).2.2.2)
      | 7, _, ho =>
        cases ho
        refine stepG_of (fun g d hdep => ?_)
        exact step_load rfl trivial _ _ _ rfl rfl (fun v hw => load_i64' hw.x (kA_get if_len).2.2)
      | 8, _, ho =>
        cases ho
        refine stepG_of (fun g d hdep => ?_)
        exact step_binOp rfl trivial _ _ _ _ _ _ _ rfl rfl rfl (fun v hw => bin_add64 _ _ _ hw4)
      | 9, _, ho =>
        cases ho
        refine stepG_of (fun g d hdep => ?_)
        exact step_call rfl trivial 31 _ _ [(.int .i64 (a + 4)), (Go.Value.int Go.IntKind.i64 1048576)] rfl (by kernel_rfl) (enters_of Tryz.func31 (by kernel_rfl) rfl) (fun v hw => (least_any (a + 4) 1048576 v).mono (by rintro e w' ⟨rfl, rfl⟩; exact ⟨rfl, hw⟩))
      | 10, _, ho =>
        cases ho
        exact stepG_struct3 rfl rfl _ _ _ _ (fun g => .int .i64 ((l + 1))) (fun g => .int .i64 (bR ro)) (fun g => .int .i64 (bT a)) rfl (fun g => ⟨rfl, rfl, rfl⟩) (fun g d V hJ hun => ⟨build_R _ _ _ V, hJ⟩)
      | 11, _, ho =>
        cases ho
        refine stepG_of (fun g d hdep => ?_)
        exact step_fieldAddr rfl trivial _ _ _ _ rfl rfl (fun v hw => (field_rbZ v _ 0).1)
      | 12, _, ho =>
        cases ho
        refine stepG_of (fun g d hdep => ?_)
        exact step_store rfl trivial rfl _ _ _ _ _ rfl rfl rfl (fun v hw => ⟨_, store_kA ⟨(l + 1), bR ro, bT a⟩ if_len hw.x, hw.put hlt.1 hlt.2 _⟩)
    intro g d W hall hW
    first | refine hK _ _ ?_ | refine (‹∀ (a : Act) (w : World), Code.wp Tryz.prog _ _ a w → _›) _ _ ?_ | skip
    simp only [finL, List.getD_cons_zero, List.getD_cons_succ, Nat.zero_add, Nat.reduceAdd, List.setIfInBounds_toArray, List.set_cons_zero, List.set_cons_succ]
    simp only [hall 12 (by decide), if_true] at hW
    clear hK
    have c0 := cell_at hW.x 0
    have c1 := cell_at hW.x 1
    have c2 := cell_at hW.x 2
    unfold kA r3 at c0 c1 c2
    simp at c0 c1 c2
    have hsv := rSave_any hW.d ⟨(l + 1), bR ro, bT a⟩ hf hw0 hw
    have hdef : nxL ⟨l, ro, a⟩ = ⟨(l + 1), bR ro, bT a⟩ := rfl
    rw [← hdef] at hsv
    rw [HE.out, HD1.out, hdef] at hsv
    unfold rV at hsv
    dsimp only at hsv
    have hzW := lt_at hW.z
    have hnx := hW.n
    by_cases hz : E = 0
    case neg =>
      go_wp2_with (first | (go_at_call 32; (with_reducible refine hsv.mono ?_); rintro e v1 ⟨rfl, hv1, hv2⟩; have hz6 := (hv2.block _ hzW (by omega) (by omega)).trans hW.z; have ht6 := hW.t.trans hv2) | (refine wpList_store_row rfl 37 (.tmp 2) (.tmp 51) rfl Wi.heap.size z6A rfl rfl 37 _ hz6 infoRB rfl (by simp [z6A, Value.oneCell']) ?_; obtain ⟨v, hv⟩ : ∃ v, v1.setRow Wi.heap.size z6A = v := ⟨_, rfl⟩; have HV : Hid (v.heap[Wi.heap.size]? = some (.cells z6A 37 (0, 0))) := (by rw [← hv]; exact setRow_heap _ _ _ _ _ _ hz6); have HT : Hid (Tf lb 0 r Wi v) := (by rw [← hv]; exact ht6.row (Nat.le_refl _) hlt.1 _); have HD : Hid (RfD v lb 0 base r c D1) := (by rw [← hv]; exact hv1.same ((Tp.row _ v1 _).block _ hv1.lt.1 (by omega)) ((Tp.row _ v1 _).block _ hv1.lt.2 (by omega))); rw [hv]))
      (try simp only [Exit.inBlock, Exit.then])
      exact retC2 rfl rfl rfl rfl HV.out undRB infoRB ⟨fun h => absurd h hz, fun _ => rfl, HD.out, HT.out⟩
    subst hz
    go_wp2_with (first | (go_at_call 32; (with_reducible refine hsv.mono ?_); rintro e v1 ⟨rfl, hv1, hv2⟩; have hz6 := (hv2.block _ hzW (by omega) (by omega)).trans hW.z; have ht6 := hW.t.trans hv2; have hx6 := (hv2.block _ (lt_at hW.x) (by omega) (by omega)).trans hW.x) | (refine wpList_load_row rfl 37 (.tmp 7) rfl u2.heap.size rfl 37 _ (0, 0) _ hx6 undRB rfl infoRB ?_) | (refine wpList_store_row rfl 37 (.tmp 2) (.tmp 53) rfl Wi.heap.size (kA (r3 ⟨(l + 1), bR ro, bT a⟩) (l + 1) ro a) rfl rfl 37 _ hz6 infoRB rfl (by simp [kA, r3, Value.oneCell']) ?_; obtain ⟨v, hv⟩ : ∃ v, v1.setRow Wi.heap.size (kA (r3 ⟨(l + 1), bR ro, bT a⟩) (l + 1) ro a) = v := ⟨_, rfl⟩; have HV : Hid (v.heap[Wi.heap.size]? = some (.cells (kA (r3 ⟨(l + 1), bR ro, bT a⟩) (l + 1) ro a) 37 (0, 0))) := (by rw [← hv]; exact setRow_heap _ _ _ _ _ _ hz6); have HT : Hid (Tf lb 0 r Wi v) := (by rw [← hv]; exact ht6.row (Nat.le_refl _) hlt.1 _); have HD : Hid (RfD v lb 0 base r c D1) := (by rw [← hv]; exact hv1.same ((Tp.row _ v1 _).block _ hv1.lt.1 (by omega)) ((Tp.row _ v1 _).block _ hv1.lt.2 (by omega))); rw [hv]))
    (try simp only [Exit.inBlock, Exit.then])
    exact retC2 rfl rfl rfl rfl HV.out undRB infoRB ⟨rfl, HD.out, HT.out⟩
  · have h4 := h40 rfl
    simp only [rec0, Rec.mk.injEq] at h4
    obtain ⟨rfl, rfl, rfl⟩ := h4
    clear h40
    go_enter Tryz.func8, Tryz.ntmps8
    go_wp2_with (first | (go_at_call 30; (with_reducible refine hld.mono ?_); rintro e u1 ⟨rfl, hu1⟩; obtain ⟨ua, hua⟩ : ∃ ua, u1.alloc (.cells #[.int .i64 0, .int .i64 0, .int .i64 0] 35) = ua := ⟨_, rfl⟩; have hba : Below w1.heap.size w1 ua := (by rw [← hua]; exact bel2Z hu1 (al1' _ _)); have hga : ua.heap[u1.heap.size]? = some (.cells #[.int .i64 0, .int .i64 0, .int .i64 0] 35 (0, 0)) := (by rw [← hua]; exact new_at rfl)) | (refine wpList_store_row rfl 35 (.tmp 4) (.tmp 11) rfl u1.heap.size #[.int .i64 0, .int .i64 0, .int .i64 0] rfl rfl 35 _ hga infoR rfl (by simp [Value.oneCell']) ?_; obtain ⟨u2, hu2⟩ : ∃ u2, ua.setRow u1.heap.size #[.int .i64 0, .int .i64 0, .int .i64 0] = u2 := ⟨_, rfl⟩; have hb2 : Below w1.heap.size w1 u2 := (by rw [← hu2]; exact below_setRow hba hu1.size _); have hz2 := (hb2.block _ (lt_at hg1)).trans hg1; have hrec2 : u2.heap[u1.heap.size]? = some (.cells #[.int .i64 0, .int .i64 0, .int .i64 0] 35 (0, 0)) := (by rw [← hu2]; exact setRow_heap _ _ _ _ _ _ hga); obtain ⟨u3, hu3⟩ : ∃ u3, u2.alloc (.cells #[.int .i64 0, .int .i64 0, .int .i64 0, .int .i64 0, .int .i64 0, .int .i64 0] 37) = u3 := ⟨_, rfl⟩; have hb3 : Below u2.heap.size u2 u3 := (by rw [← hu3]; exact al1' _ _); have hx3 : u3.heap[u2.heap.size]? = some (.cells z6A 37 (0, 0)) := (by rw [← hu3]; exact new_at rfl); have hJ3 : JWo Wi u2.heap.size lb base r c z6A d u3 := ⟨(hb3.block _ (lt_at hz2)).trans hz2, hx3, (hd1.carry hb2).carry hb3, Tf.of lb 0 r (bel2Z (bel2Z hb1 hb2) hb3), Nat.lt_of_lt_of_le (lt_at hg1) hb2.size⟩; have hrec3 := (hb3.block _ (lt_at hrec2)).trans hrec2; have hne3 := lt_at hrec2; rw [hu2]) | (refine wpList_store_row rfl 37 (.tmp 7) (.tmp 18) rfl u2.heap.size (kA z3L 1 0 0) rfl rfl 37 _ hJ3.x infoRB rfl (by simp [kA, z3L, Value.oneCell']) ?_; obtain ⟨u4, hu4⟩ : ∃ u4, u3.setRow u2.heap.size (kA z3L 1 0 0) = u4 := ⟨_, rfl⟩; have hJ4 : JWo Wi u2.heap.size lb base r c (kA z3L 1 0 0) d u4 := (by rw [← hu4]; exact hJ3.put hlt.1 hlt.2 _); have hrec4 : u4.heap[u1.heap.size]? = some (.cells #[.int .i64 0, .int .i64 0, .int .i64 0] 35 (0, 0)) := (by rw [← hu4]; exact (setRow_other _ _ _ _ (by omega)).trans hrec3); have c0 := cell_at hrec4 0; have c1 := cell_at hrec4 1; have c2 := cell_at hrec4 2; simp at c0 c1 c2; rw [hu4]))
    rename_i hK
    refine wp_region_any hmx ?_
    refine wpAny_tabG (G := Unit) (fun g i__ => ([(.pointer (some ⟨u2.heap.size, 3, none⟩)), (.int .i64 1), (.pointer (some ⟨u2.heap.size, 4, none⟩)), (.int .i64 0), (.int .i64 (0 + 16)), (.int .i64 (bR 0)), (.pointer (some ⟨u2.heap.size, 5, none⟩)), (.int .i64 0), (.int .i64 (0 + 4)), (.int .i64 (bT 0)), (.agg #[.int .i64 (1), .int .i64 (bR 0), .int .i64 (bT 0)]), (.pointer (some ⟨u2.heap.size, 0, none⟩)), undef] : List Value).getD i__ undef) (fun g f V => JWo Wi u2.heap.size lb base r c (kA (if f 12 = true then r3 ⟨1, bR 0, bT 0⟩ else z3L) 1 0 0) d V) (by kernel_rfl) (()) (show JWo Wi u2.heap.size lb base r c (kA z3L 1 0 0) d _ from hJ4.carry (Below.refl _ _).drew) ?step2 ?fin2
    case step2 =>
      intro i o ho
      have hi : i < 13 := getElem?_lt ho
      match i, hi, ho with
      | 0, _, ho =>
        cases ho
        refine stepG_of (fun g d hdep => ?_)
        exact step_fieldAddr rfl trivial _ _ _ _ rfl rfl (fun v hw => (field_rbZ v _ 0).2.1)
      | 1, _, ho =>
        cases ho
        refine stepG_of (fun g d hdep => ?_)
        exact step_load rfl trivial _ _ _ rfl rfl (fun v hw => load_i64' hw.x (kA_get if_len).1)
      | 2, _, ho =>
        cases ho
        refine stepG_of (fun g d hdep => ?_)
        exact step_fieldAddr rfl trivial _ _ _ _ rfl rfl (fun v hw => (field_rbZ v _ 0).2.2.1)
      | 3, _, ho =>
        cases ho
        refine stepG_of (fun g d hdep => ?_)
        exact step_load rfl trivial _ _ _ rfl rfl (fun v hw => load_i64' hw.x (kA_get if_len).2.1)
      | 4, _, ho =>
        cases ho
        refine stepG_of (fun g d hdep => ?_)
        exact step_binOp rfl trivial _ _ _ _ _ _ _ rfl rfl rfl (fun v hw => bin_add64 _ _ _ hw16)
      | 5, _, ho =>
        cases ho
        refine stepG_of (fun g d hdep => ?_)
        exact step_call rfl trivial 31 _ _ [(.int .i64 (0 + 16)), (Go.Value.int Go.IntKind.i64 1099511627775)] rfl (by kernel_rfl) (enters_of Tryz.func31 (by kernel_rfl) rfl) (fun v hw => (least_any (0 + 16) 1099511627775 v).mono (by rintro e w' ⟨rfl, rfl⟩; exact ⟨rfl, hw⟩))
      | 6, _, ho =>
        cases ho
        refine stepG_of (fun g d hdep => ?_)
        exact step_fieldAddr rfl trivial _ _ _ _ rfl rfl (fun v hw => (field_rbZ v _ 0).2.2.2)
      | 7, _, ho =>
        cases ho
        refine stepG_of (fun g d hdep => ?_)
        exact step_load rfl trivial _ _ _ rfl rfl (fun v hw => load_i64' hw.x (kA_get if_len).2.2)
      | 8, _, ho =>
        cases ho
        refine stepG_of (fun g d hdep => ?_)
        exact step_binOp rfl trivial _ _ _ _ _ _ _ rfl rfl rfl (fun v hw => bin_add64 _ _ _ hw4)
      | 9, _, ho =>
        cases ho
        refine stepG_of (fun g d hdep => ?_)
        exact step_call rfl trivial 31 _ _ [(.int .i64 (0 + 4)), (Go.Value.int Go.IntKind.i64 1048576)] rfl (by kernel_rfl) (enters_of Tryz.func31 (by kernel_rfl) rfl) (fun v hw => (least_any (0 + 4) 1048576 v).mono (by rintro e w' ⟨rfl, rfl⟩; exact ⟨rfl, hw⟩))
      | 10, _, ho =>
        cases ho
        exact stepG_struct3 rfl rfl _ _ _ _ (fun g => .int .i64 (1)) (fun g => .int .i64 (bR 0)) (fun g => .int .i64 (bT 0)) rfl (fun g => ⟨rfl, rfl, rfl⟩) (fun g d V hJ hun => ⟨build_R _ _ _ V, hJ⟩)
      | 11, _, ho =>
        cases ho
        refine stepG_of (fun g d hdep => ?_)
        exact step_fieldAddr rfl trivial _ _ _ _ rfl rfl (fun v hw => (field_rbZ v _ 0).1)
      | 12, _, ho =>
        cases ho
        refine stepG_of (fun g d hdep => ?_)
        exact step_store rfl trivial rfl _ _ _ _ _ rfl rfl rfl (fun v hw => ⟨_, store_kA ⟨1, bR 0, bT 0⟩ if_len hw.x, hw.put hlt.1 hlt.2 _⟩)
    intro g d W hall hW
    first | refine hK _ _ ?_ | refine (‹∀ (a : Act) (w : World), Code.wp Tryz.prog _ _ a w → _›) _ _ ?_ | skip
    simp only [finL, List.getD_cons_zero, List.getD_cons_succ, Nat.zero_add, Nat.reduceAdd, List.setIfInBounds_toArray, List.set_cons_zero, List.set_cons_succ]
    simp only [hall 12 (by decide), if_true] at hW
    clear hK
    have c0 := cell_at hW.x 0
    have c1 := cell_at hW.x 1
    have c2 := cell_at hW.x 2
    unfold kA r3 at c0 c1 c2
    simp at c0 c1 c2
    have hsv := rSave_any hW.d ⟨1, bR 0, bT 0⟩ hf hw0 hw
    have hdef : nxL ⟨0, 0, 0⟩ = ⟨1, bR 0, bT 0⟩ := rfl
    rw [← hdef] at hsv
    rw [HE.out, HD1.out, hdef] at hsv
    unfold rV at hsv
    dsimp only at hsv
    have hzW := lt_at hW.z
    have hnx := hW.n
    by_cases hz : E = 0
    case neg =>
      go_wp2_with (first | (go_at_call 32; (with_reducible refine hsv.mono ?_); rintro e v1 ⟨rfl, hv1, hv2⟩; have hz6 := (hv2.block _ hzW (by omega) (by omega)).trans hW.z; have ht6 := hW.t.trans hv2) | (refine wpList_store_row rfl 37 (.tmp 2) (.tmp 51) rfl Wi.heap.size z6A rfl rfl 37 _ hz6 infoRB rfl (by simp [z6A, Value.oneCell']) ?_; obtain ⟨v, hv⟩ : ∃ v, v1.setRow Wi.heap.size z6A = v := ⟨_, rfl⟩; have HV : Hid (v.heap[Wi.heap.size]? = some (.cells z6A 37 (0, 0))) := (by rw [← hv]; exact setRow_heap _ _ _ _ _ _ hz6); have HT : Hid (Tf lb 0 r Wi v) := (by rw [← hv]; exact ht6.row (Nat.le_refl _) hlt.1 _); have HD : Hid (RfD v lb 0 base r c D1) := (by rw [← hv]; exact hv1.same ((Tp.row _ v1 _).block _ hv1.lt.1 (by omega)) ((Tp.row _ v1 _).block _ hv1.lt.2 (by omega))); rw [hv]))
      (try simp only [Exit.inBlock, Exit.then])
      exact retC2 rfl rfl rfl rfl HV.out undRB infoRB ⟨fun h => absurd h hz, fun _ => rfl, HD.out, HT.out⟩
    subst hz
    go_wp2_with (first | (go_at_call 32; (with_reducible refine hsv.mono ?_); rintro e v1 ⟨rfl, hv1, hv2⟩; have hz6 := (hv2.block _ hzW (by omega) (by omega)).trans hW.z; have ht6 := hW.t.trans hv2; have hx6 := (hv2.block _ (lt_at hW.x) (by omega) (by omega)).trans hW.x) | (refine wpList_load_row rfl 37 (.tmp 7) rfl u2.heap.size rfl 37 _ (0, 0) _ hx6 undRB rfl infoRB ?_) | (refine wpList_store_row rfl 37 (.tmp 2) (.tmp 53) rfl Wi.heap.size (kA (r3 ⟨1, bR 0, bT 0⟩) 1 0 0) rfl rfl 37 _ hz6 infoRB rfl (by simp [kA, r3, Value.oneCell']) ?_; obtain ⟨v, hv⟩ : ∃ v, v1.setRow Wi.heap.size (kA (r3 ⟨1, bR 0, bT 0⟩) 1 0 0) = v := ⟨_, rfl⟩; have HV : Hid (v.heap[Wi.heap.size]? = some (.cells (kA (r3 ⟨1, bR 0, bT 0⟩) 1 0 0) 37 (0, 0))) := (by rw [← hv]; exact setRow_heap _ _ _ _ _ _ hz6); have HT : Hid (Tf lb 0 r Wi v) := (by rw [← hv]; exact ht6.row (Nat.le_refl _) hlt.1 _); have HD : Hid (RfD v lb 0 base r c D1) := (by rw [← hv]; exact hv1.same ((Tp.row _ v1 _).block _ hv1.lt.1 (by omega)) ((Tp.row _ v1 _).block _ hv1.lt.2 (by omega))); rw [hv]))
    (try simp only [Exit.inBlock, Exit.then])
    exact retC2 rfl rfl rfl rfl HV.out undRB infoRB ⟨rfl, HD.out, HT.out⟩
end
end Go.Proofs.YtlpmehmoeladjaaGreatDoor
