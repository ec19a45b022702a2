/- One that is played with: the program's Boot and disk, the document's; the document's Next and Raise: what they answer. -/
import Derived.Test.YtjleggnkacmbbaaRtd
import Derived.Test.YtjleggnkacmbbaaBth
import Derived.Test.YtjleggnkacmbbaaBtf
namespace Go.Proofs.Ytjleggnkacmbbaa
open Go.RowKit Go.Shelf Go.Lib

def boC (q p lb : Nat) (b : Bo) : List Value := [.pointer (some ⟨q, 0, none⟩), .pointer (some ⟨p, 0, none⟩), .int .i64 b.r.li, .int .i64 b.r.ro, .int .i64 b.r.ta, .int .i64 b.r.li, .int .i64 b.ro, .int .i64 b.ta, .pointer (some ⟨lb, 0, none⟩)]
/-- Both: the pointers, and the document's Boot. -/
def BB (W : World) (g q p lb : Nat) (b : Bo) : Prop := W.heap[g]? = some (.cells (boC q p lb b).toArray 77 (0, 0))
/-- What turns these three blocks alone. -/
structure T3 (x y z : Nat) (W W' : World) : Prop where
  os : W'.os = W.os
  tape : W'.tape = W.tape
  output : W'.output = W.output
  size : W.heap.size ≤ W'.heap.size
  block : ∀ k, k < W.heap.size → k ≠ x → k ≠ y → k ≠ z → W'.heap[k]? = W.heap[k]?
section
variable {x y z base : Nat} {W W' W'' : World}
theorem T3.of (x y z : Nat) (hb : Below W.heap.size W W') : T3 x y z W W' := ⟨hb.os, hb.tape, hb.output, hb.size, fun k hk _ _ _ => hb.block k hk⟩
theorem T3.tf (x : Nat) (h : Tf y 0 z W W') : T3 x y z W W' := ⟨h.os, h.tape, h.output, h.size, fun k hk _ h1 h2 => h.block k hk h1 h2⟩
theorem T3.tp (y z : Nat) (h : Tp x W W') : T3 x y z W W' := ⟨h.os, h.tape, h.output, h.size, fun k hk hn _ _ => h.block k hk hn⟩
theorem T3.trans (h : T3 x y z W W') (k : T3 x y z W' W'') : T3 x y z W W'' :=
  ⟨k.os.trans h.os, k.tape.trans h.tape, k.output.trans h.output, Nat.le_trans h.size k.size, fun j hj a b c => (k.block j (Nat.lt_of_lt_of_le hj h.size) a b c).trans (h.block j hj a b c)⟩
theorem T3.below (h : T3 x y z W W') (hx : base ≤ x) (hy : base ≤ y) (hz : base ≤ z) (hb : base ≤ W.heap.size) : Below base W W' :=
  ⟨h.os, h.tape, h.output, h.size, fun k hk => h.block k (by omega) (by omega) (by omega) (by omega)⟩
end
theorem RfD.same {W V : World} {lb o base r c : Nat} {d : Dst} (h : RfD W lb o base r c d) (e : V.heap[lb]? = W.heap[lb]?) (e2 : V.heap[r]? = W.heap[r]?) : RfD V lb o base r c d := by
  obtain ⟨cur, h1⟩ := h.lk
  refine ⟨(World.cell?_of_block (a := ⟨lb, _, none⟩) e).trans h.b, (World.cell?_of_block (a := ⟨lb, _, none⟩) e).trans h.f, (World.cell?_of_block (a := ⟨lb, _, none⟩) e).trans h.u, (World.cell?_of_block (a := ⟨lb, _, none⟩) e).trans h.n, ?_, ⟨cur, e.trans h1⟩, h.len, h.byt⟩
  refine ⟨h.row.1, ?_⟩
  rcases h.row.2 with ⟨q, _⟩ | ⟨g1, c1, cur1, q, h2, h3, h4⟩
  · cases q
  · cases q
    exact .inr ⟨r, c, cur1, rfl, h2, e2.trans h3, h4⟩
section
variable {W V : World} {g q p lb base r c : Nat} {b : Bo} {d : Dst}
theorem BB.carry (h : BB W g q p lb b) (hb : Below W.heap.size W V) : BB V g q p lb b := (hb.block _ (lt_at h)).trans h
theorem BB.ne (h : BB W g q p lb b) (hd : RfD W lb 0 base r c d) : g ≠ lb ∧ g ≠ r := by
  obtain ⟨cur, h1⟩ := hd.lk
  obtain ⟨_, cur2, h2⟩ := hd.rb
  unfold BB at h
  constructor
  · intro e
    rw [e, h1] at h
    simp only [Option.some.injEq, Obj.cells.injEq] at h
    exact absurd h.2.1 (by decide)
  · intro e
    rw [e, h2] at h
    simp only [Option.some.injEq, Obj.cells.injEq] at h
    exact absurd h.2.1 (by decide)
theorem BB.tf (h : BB W g q p lb b) (hd : RfD W lb 0 base r c d) (ht : Tf lb 0 r W V) : BB V g q p lb b := (ht.block _ (lt_at h) (h.ne hd).1 (h.ne hd).2).trans h
theorem RfD.tg (hd : RfD W lb 0 base r c d) (h : BB W g q p lb b) (ht : Tp g W V) : RfD V lb 0 base r c d := hd.same (ht.block _ hd.lt.1 (Ne.symm (h.ne hd).1)) (ht.block _ hd.lt.2 (Ne.symm (h.ne hd).2))
theorem BB.put (h : BB W g q p lb b) (x : Rec) (hx : x.li = b.r.li) : BB (W.setRow g (splice (boC q p lb b) 2 (r3 x)).toArray) g q p lb { b with r := x } ∧ Tp g W (W.setRow g (splice (boC q p lb b) 2 (r3 x)).toArray) := by
  refine ⟨?_, Tp.row _ _ _⟩
  unfold BB
  rw [setRow_heap _ _ _ _ _ _ h]
  unfold boC
  dsimp only
  rw [← hx]
  rfl
theorem BB.set6 (h : BB W g q p lb b) (x : Int) : BB (W.setCell ⟨g, 6, none⟩ (.int .i64 x)) g q p lb ⟨b.r, x, b.ta⟩ ∧ Tp g W (W.setCell ⟨g, 6, none⟩ (.int .i64 x)) := ⟨heap_setCell_same _ _ _ _ _ _ h, Tp.set _ _ _ _⟩
theorem BB.set7 (h : BB W g q p lb b) (x : Int) : BB (W.setCell ⟨g, 7, none⟩ (.int .i64 x)) g q p lb ⟨b.r, b.ro, x⟩ ∧ Tp g W (W.setCell ⟨g, 7, none⟩ (.int .i64 x)) := ⟨heap_setCell_same _ _ _ _ _ _ h, Tp.set _ _ _ _⟩
theorem BB.cs (h : BB W g q p lb b) : W.cell? ⟨g, 0, none⟩ = some (.pointer (some ⟨q, 0, none⟩)) ∧ W.cell? ⟨g, 1, none⟩ = some (.pointer (some ⟨p, 0, none⟩)) ∧ W.cell? ⟨g, 2, none⟩ = some (.int .i64 b.r.li) ∧ W.cell? ⟨g, 3, none⟩ = some (.int .i64 b.r.ro) ∧ W.cell? ⟨g, 4, none⟩ = some (.int .i64 b.r.ta) ∧ W.cell? ⟨g, 5, none⟩ = some (.int .i64 b.r.li) ∧ W.cell? ⟨g, 6, none⟩ = some (.int .i64 b.ro) ∧ W.cell? ⟨g, 7, none⟩ = some (.int .i64 b.ta) ∧ W.cell? ⟨g, 8, none⟩ = some (.pointer (some ⟨lb, 0, none⟩)) := ⟨cell_at h 0, cell_at h 1, cell_at h 2, cell_at h 3, cell_at h 4, cell_at h 5, cell_at h 6, cell_at h 7, cell_at h 8⟩
theorem field_rb (W : World) (B o : Nat) : (Instr.fieldAt 71 (.pointer (some ⟨B, o, none⟩)) 0).run Try.prog W = .ok (.pointer (some ⟨B, o, none⟩)) W ∧ (Instr.fieldAt 71 (.pointer (some ⟨B, o, none⟩)) 1).run Try.prog W = .ok (.pointer (some ⟨B, o + 3, none⟩)) W ∧ (Instr.fieldAt 71 (.pointer (some ⟨B, o, none⟩)) 2).run Try.prog W = .ok (.pointer (some ⟨B, o + 4, none⟩)) W ∧ (Instr.fieldAt 71 (.pointer (some ⟨B, o, none⟩)) 3).run Try.prog W = .ok (.pointer (some ⟨B, o + 5, none⟩)) W := by
  refine ⟨?_, ?_, ?_, ?_⟩ <;> go_simp
theorem field_Ro (W : World) (B o : Nat) : (Instr.fieldAt 36 (.pointer (some ⟨B, o, none⟩)) 1).run Try.prog W = .ok (.pointer (some ⟨B, o + 1, none⟩)) W := by go_simp
set_option maxHeartbeats 1000000 in
theorem least_any (a b : Int) (W : World) : Calls Try.prog 48 #[.int .i64 a, .int .i64 b] W fun e w' => e = .returned (.int .i64 (if b < a then b else a)) ∧ w' = W := by
  by_cases h : a < b
  · rw [if_neg (by omega)]
    go_enter Try.func48, Try.ntmps48
    go_wp2
    go_ret
    exact ⟨rfl, rfl⟩
  · have e : (if b < a then b else a) = b := by split <;> omega
    rw [e]
    go_enter Try.func48, Try.ntmps48
    go_wp2
    go_ret
    exact ⟨rfl, rfl⟩
/-- While the document's Next goes on. -/
def JM (W0 : World) (g q p lb base r c : Nat) (b : Bo) (d : Dst) (W : World) : Prop := BB W g q p lb b ∧ RfD W lb 0 base r c d ∧ T3 g lb r W0 W
theorem JM.drew {W0 : World} (h : JM W0 g q p lb base r c b d W) : JM W0 g q p lb base r c b d W.drew := ⟨h.1.carry (Below.refl _ _).drew, h.2.1.carry (Below.refl _ _).drew, h.2.2.trans (T3.of _ _ _ (Below.refl _ _).drew)⟩
set_option maxHeartbeats 8000000 in
set_option maxRecDepth 100000 in
theorem rNext_any {Wi : World} (h : BB Wi g q p lb b) (hd : RfD Wi lb 0 base r c d) (hk : OkB b) (hf : Fz d) (hw0 : 0 ≤ d.writes) (hw : d.writes ≤ 4611686018427387903) : Calls Try.prog 50 #[.pointer (some ⟨g, 2, none⟩), .pointer (some ⟨lb, 0, none⟩)] Wi fun e w' => e = .returned (.tuple #[.int .i64 (dNx d b).x, .int .i64 (dNx d b).e]) ∧ RfD w' lb 0 base r c (dNx d b).d ∧ BB w' g q p lb (dNx d b).b ∧ T3 g lb r Wi w' := by
  have hmx : Try.prog.follows .mixedOrders = true := by kernel_rfl
  have cf := hd.f
  rw [Nat.zero_add] at cf
  obtain ⟨q0, q1, q2, q3, q4, q5, q6, q7, q8⟩ := h.cs
  by_cases ho : d.off = true
  case pos =>
    rw [dNx, if_pos ho]
    rw [ho] at cf
    go_enter Try.func50, Try.ntmps50
    go_wp2
    go_ret2
    exact ⟨rfl, hd, h, T3.of _ _ _ (Below.refl _ _)⟩
  have ho' : d.off = false := by simpa using ho
  rw [ho'] at cf
  by_cases hm : b.ro = 1099511627775
  case pos =>
    rw [dNx, if_neg ho, if_pos hm]
    rw [hm] at q6
    go_enter Try.func50, Try.ntmps50
    go_wp2
    go_ret2
    exact ⟨rfl, hd, h, T3.of _ _ _ (Below.refl _ _)⟩
  have hwi := i64_id (b.ro + 1) (by have := hk.2.2.2.1; omega) (by have := hk.2.2.2.1; omega)
  by_cases he : b.ro = b.r.ro
  case neg =>
    rw [dNx, if_neg ho, if_neg hm, if_neg he]
    go_enter Try.func50, Try.ntmps50
    go_wp2
    rename_i hK
    refine wp_region_any hmx ?_
    refine wpAny_pure (fun i__ => ([(.pointer (some ⟨g, 2, none⟩)), (.pointer (some ⟨g, 2, none⟩)), (.pointer (some ⟨g, 6, none⟩)), (.int .i64 b.ro), (.pointer (some ⟨g, 2, none⟩)), (.pointer (some ⟨g, 2, none⟩)), (.pointer (some ⟨g, 2, none⟩)), (.pointer (some ⟨g, 3, none⟩)), (.int .i64 b.r.ro), (.bool false)] : List Value).getD i__ undef) (JM Wi g q p lb base r c b d) (by kernel_rfl) (JM.drew ⟨h, hd, T3.of _ _ _ (Below.refl _ _)⟩) ?_ ?_
    · refine (stepsFrom_cons ?_ (stepsFrom_cons ?_ (stepsFrom_cons ?_ (stepsFrom_cons ?_ (stepsFrom_cons ?_ (stepsFrom_cons ?_ (stepsFrom_cons ?_ (stepsFrom_cons ?_ (stepsFrom_cons ?_ (stepsFrom_cons ?_ trivial))))))))))
      · exact step_move rfl trivial _ rfl (by kernel_rfl)
      · exact step_nilCheck rfl trivial _ _ _ rfl rfl rfl
      · exact step_fieldAddr rfl trivial _ _ _ _ rfl rfl (fun v hw => (field_rb v _ _).2.2.1)
      · exact step_load rfl trivial _ _ _ rfl rfl (fun v hw => load_i64 hw.1.cs.2.2.2.2.2.2.1)
      · exact step_move rfl trivial _ rfl (by kernel_rfl)
      · exact step_nilCheck rfl trivial _ _ _ rfl rfl rfl
      · exact step_fieldAddr rfl trivial _ _ _ _ rfl rfl (fun v hw => (field_rb v _ _).1)
      · exact step_fieldAddr rfl trivial _ _ _ _ rfl rfl (fun v hw => field_Ro v _ _)
      · exact step_load rfl trivial _ _ _ rfl rfl (fun v hw => load_i64 hw.1.cs.2.2.2.1)
      · exact step_binOp rfl trivial _ _ _ _ _ _ _ rfl rfl rfl (fun v hw => by have e1 : (b.ro == b.r.ro) = false := beq_eq_false_iff_ne.2 he; rw [← e1]; exact bin_eql _ _ _)
    intro W hW
    first | refine hK _ _ ?_ | refine (‹∀ (a : Act) (w : World), Code.wp Try.prog _ _ a w → _›) _ _ ?_
    simp only [finL, List.getD_cons_zero, List.getD_cons_succ, Nat.zero_add, Nat.reduceAdd, List.setIfInBounds_toArray, List.set_cons_zero, List.set_cons_succ]
    clear hK q0 q1 q2 q3 q4 q5 q6 q7 q8
    obtain ⟨q0, q1, q2, q3, q4, q5, q6, q7, q8⟩ := hW.1.cs
    have t4 := thaw_at hW.1 6
    obtain ⟨hB2, hT2⟩ := hW.1.set6 (b.ro + 1)
    have hD2 := hW.2.1.tg hW.1 hT2
    have q4' := hB2.cs.2.2.2.2.2.2.1
    obtain ⟨V, hV⟩ : ∃ V, W.setCell ⟨g, 6, none⟩ (.int .i64 (b.ro + 1)) = V := ⟨_, rfl⟩
    rw [hV] at hB2 hT2 hD2 q4'
    go_wp2
    go_ret2
    exact ⟨rfl, hD2, hB2, hW.2.2.trans (T3.tp _ _ hT2)⟩
  rw [dNx, if_neg ho, if_neg hm, if_pos he]
  obtain ⟨E, hE⟩ : ∃ E, (dSv d (rNx b)).1 = E := ⟨_, rfl⟩
  obtain ⟨D1, hD1⟩ : ∃ D1, (dSv d (rNx b)).2 = D1 := ⟨_, rfl⟩
  have HE : Hid ((dSv d (rNx b)).1 = E) := hE
  have HD : Hid ((dSv d (rNx b)).2 = D1) := hD1
  have HH : Hid (b.ro = b.r.ro) := he
  have hbr : (if 1099511627775 < b.r.ro + 16 then 1099511627775 else b.r.ro + 16) = (rNx b).ro := by show _ = bR b.ro; rw [he]; rfl
  have hw16 := i64_id (b.r.ro + 16) (by have := hk.2.1; omega) (by have := hk.2.1; omega)
  have hle := least_any (b.r.ro + 16) 1099511627775
  rw [hbr] at hle
  have hsvx := fun V (hV : RfD V lb 0 base r c d) => rSave_any hV (rNx b) hf hw0 hw
  rw [hE, hD1] at hsvx
  rw [hE, hD1]
  have HX1 : Hid ((rNx b).li = b.r.li) := rfl
  have HX2 : Hid ((rNx b).ta = b.r.ta) := rfl
  obtain ⟨x, hx⟩ : ∃ x, rNx b = x := ⟨_, rfl⟩
  rw [hx] at hle hsvx HX1 HX2
  rw [hx]
  clear hE hD1 hx he hbr HE HD
  obtain ⟨xl, xr, xt⟩ := x
  have hx1 : xl = b.r.li := HX1.out
  have hx2 : xt = b.r.ta := HX2.out
  subst hx1 hx2
  unfold rV at hsvx
  dsimp only at hle hsvx
  clear HX1 HX2
  go_enter Try.func50, Try.ntmps50
  go_wp2
  rename_i hK
  refine wp_region_any hmx ?_
  refine wpAny_pure (fun i__ => ([(.pointer (some ⟨g, 2, none⟩)), (.pointer (some ⟨g, 2, none⟩)), (.pointer (some ⟨g, 6, none⟩)), (.int .i64 b.ro), (.pointer (some ⟨g, 2, none⟩)), (.pointer (some ⟨g, 2, none⟩)), (.pointer (some ⟨g, 2, none⟩)), (.pointer (some ⟨g, 3, none⟩)), (.int .i64 b.r.ro), (.bool true)] : List Value).getD i__ undef) (JM Wi g q p lb base r c b d) (by kernel_rfl) (JM.drew ⟨h, hd, T3.of _ _ _ (Below.refl _ _)⟩) ?_ ?_
  · refine (stepsFrom_cons ?_ (stepsFrom_cons ?_ (stepsFrom_cons ?_ (stepsFrom_cons ?_ (stepsFrom_cons ?_ (stepsFrom_cons ?_ (stepsFrom_cons ?_ (stepsFrom_cons ?_ (stepsFrom_cons ?_ (stepsFrom_cons ?_ trivial))))))))))
    · exact step_move rfl trivial _ rfl (by kernel_rfl)
    · exact step_nilCheck rfl trivial _ _ _ rfl rfl rfl
    · exact step_fieldAddr rfl trivial _ _ _ _ rfl rfl (fun v hw => (field_rb v _ _).2.2.1)
    · exact step_load rfl trivial _ _ _ rfl rfl (fun v hw => load_i64 hw.1.cs.2.2.2.2.2.2.1)
    · exact step_move rfl trivial _ rfl (by kernel_rfl)
    · exact step_nilCheck rfl trivial _ _ _ rfl rfl rfl
    · exact step_fieldAddr rfl trivial _ _ _ _ rfl rfl (fun v hw => (field_rb v _ _).1)
    · exact step_fieldAddr rfl trivial _ _ _ _ rfl rfl (fun v hw => field_Ro v _ _)
    · exact step_load rfl trivial _ _ _ rfl rfl (fun v hw => load_i64 hw.1.cs.2.2.2.1)
    · exact step_binOp rfl trivial _ _ _ _ _ _ _ rfl rfl rfl (fun v hw => by have e1 : (b.ro == b.r.ro) = true := beq_iff_eq.2 HH.out; rw [← e1]; exact bin_eql _ _ _)
  intro W hW
  first | refine hK _ _ ?_ | refine (‹∀ (a : Act) (w : World), Code.wp Try.prog _ _ a w → _›) _ _ ?_
  simp only [finL, List.getD_cons_zero, List.getD_cons_succ, Nat.zero_add, Nat.reduceAdd, List.setIfInBounds_toArray, List.set_cons_zero, List.set_cons_succ]
  clear hK q0 q1 q2 q3 q4 q5 q6 q7 q8
  obtain ⟨q0, q1, q2, q3, q4, q5, q6, q7, q8⟩ := hW.1.cs
  obtain ⟨V1, hV1⟩ : ∃ V1, W.alloc (.cells #[.int .i64 b.r.li, .int .i64 b.r.ro, .int .i64 b.r.ta] 36) = V1 := ⟨_, rfl⟩
  have hb1 : Below W.heap.size W V1 := by rw [← hV1]; exact al1' _ _
  have hg1 : V1.heap[W.heap.size]? = some (.cells #[.int .i64 b.r.li, .int .i64 b.r.ro, .int .i64 b.r.ta] 36 (0, 0)) := by rw [← hV1]; exact new_at rfl
  have y1 : V1.cell? ⟨W.heap.size, 1, none⟩ = some (.int .i64 b.r.ro) := by rw [cell_at hg1]; rfl
  have ty := thaw_at hg1 1
  obtain ⟨V2, hV2⟩ : ∃ V2, V1.setCell ⟨W.heap.size, 1, none⟩ (.int .i64 xr) = V2 := ⟨_, rfl⟩
  have hb2 : Below W.heap.size W V2 := by rw [← hV2]; exact hb1.setCell (p := ⟨W.heap.size, 1, none⟩) (Nat.le_refl _) _
  have hg2 : V2.heap[W.heap.size]? = some (.cells #[.int .i64 b.r.li, .int .i64 xr, .int .i64 b.r.ta] 36 (0, 0)) := by rw [← hV2]; exact heap_setCell_same _ _ _ _ _ _ hg1
  have hsv := hsvx V2 (hW.2.1.carry hb2)
  have hle1 := hle V1
  clear hle hsvx
  by_cases hz : E = 0
  case neg =>
    go_wp2_with (first | (go_at_call 48; (with_reducible refine hle1.mono ?_); rintro e u ⟨rfl, hu⟩; obtain rfl := hu.symm) | (refine wpList_load_row rfl 36 (.tmp 6) rfl W.heap.size rfl 36 _ (0, 0) _ hg2 undR rfl infoR ?_) | (go_at_call 49; (with_reducible refine hsv.mono ?_); rintro e u1 ⟨rfl, hu1, hu2⟩))
    go_ret2
    exact ⟨rfl, hu1, (hW.1.carry hb2).tf (hW.2.1.carry hb2) hu2, (hW.2.2.trans (T3.of _ _ _ hb2)).trans (T3.tf _ hu2)⟩
  subst hz
  go_wp2_with (first | (go_at_call 48; (with_reducible refine hle1.mono ?_); rintro e u ⟨rfl, hu⟩; obtain rfl := hu.symm) | (refine wpList_load_row rfl 36 (.tmp 6) rfl W.heap.size rfl 36 _ (0, 0) _ hg2 undR rfl infoR ?_) | (go_at_call 49; (with_reducible refine hsv.mono ?_); rintro e u1 ⟨rfl, hu1, hu2⟩; have hbb1 := (hW.1.carry hb2).tf (hW.2.1.carry hb2) hu2; have hg3 := (hu2.block _ (lt_at hg2) (by have := hW.2.1.lt; omega) (by have := hW.2.1.lt; omega)).trans hg2; obtain ⟨hbb2, htp2⟩ := hbb1.put ⟨b.r.li, xr, b.r.ta⟩ rfl; have hrf2 := hu1.tg hbb1 htp2; obtain ⟨Y, hY⟩ : ∃ Y, u1.setRow g (splice (boC q p lb b) 2 (r3 ⟨b.r.li, xr, b.r.ta⟩)).toArray = Y := ⟨_, rfl⟩; rw [hY] at hbb2 htp2 hrf2; have HY : Hid (u1.setRow g (splice (boC q p lb b) 2 (r3 ⟨b.r.li, xr, b.r.ta⟩)).toArray = Y) := hY; clear hY; have z6 := hbb2.cs.2.2.2.2.2.2.1; have tz := thaw_at hbb2 6; obtain ⟨hbb3, htp3⟩ := hbb2.set6 (b.ro + 1); have hrf3 := hrf2.tg hbb2 htp3; have z6' := hbb3.cs.2.2.2.2.2.2.1; obtain ⟨Z, hZ⟩ : ∃ Z, Y.setCell ⟨g, 6, none⟩ (.int .i64 (b.ro + 1)) = Z := ⟨_, rfl⟩; rw [hZ] at hbb3 htp3 hrf3 z6') | (refine wpList_load_row rfl 36 (.tmp 6) rfl W.heap.size rfl 36 _ (0, 0) _ hg3 undR rfl infoR ?_) | (refine wpList_store_in rfl 36 (.tmp 45) (.tmp 43) rfl g 2 77 (boC q p lb b) (r3 ⟨b.r.li, xr, b.r.ta⟩) rfl rfl hbb1 infoR (by unfold boC r3; simp) (by simp [r3, Value.oneCell']) ?_; rw [HY.out]))
  go_ret2
  exact ⟨rfl, hrf3, hbb3, (((hW.2.2.trans (T3.of _ _ _ hb2)).trans (T3.tf _ hu2)).trans (T3.tp _ _ htp2)).trans (T3.tp _ _ htp3)⟩
end
end Go.Proofs.Ytjleggnkacmbbaa
