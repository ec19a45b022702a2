/- Sign, Text; alive: what they answer, at every roster. -/
import Derived.Test.YtnkpohkodkjkfaaGreatDoorJpJ15
import Derived.Test.YtnkpohkodkjkfaaGreatDoorJpJ12
import Derived.Test.YtnkpohkodkjkfaaGreatDoorJpJ5
import Derived.Test.YtnkpohkodkjkfaaGreatDoorJpJ14
set_option maxHeartbeats 40000000
set_option maxRecDepth 100000
set_option linter.unusedVariables false
namespace Go.Proofs.YtnkpohkodkjkfaaGreatDoor
open Go.RowKit Go.Shelf Go.Lib

/-- What Sign answers. -/
def signV (l : List Int) (i : Int) : Value := match (if i < 0 then none else l[i.toNat]?) with
  | some c => .tuple #[.int .i32 c, .int .i64 0]
  | none => .tuple #[.int .i32 0, .int .i64 30]
set_option maxHeartbeats 400000 in
theorem sign_any {M : Nat} {v : Value} {l : List Int} (w : World) (h : Ros M w v l) (hM : M ≤ w.heap.size) (i : Int) : Calls Tryz.prog 69 #[v, .int .i64 i] w fun e w' => e = .returned (signV l i) ∧ Below w.heap.size w w' := by
  obtain ⟨h0, sl, mp, rfl, ⟨ad, cap, rfl, hf⟩, _⟩ := h
  have hls := h0.short
  have hsz := sizeP_any ad l.length cap mp
  by_cases hi : 0 ≤ i ∧ i < l.length
  · obtain ⟨k, rfl⟩ := Int.eq_ofNat_of_zero_le hi.1
    have hk : k < l.length := by omega
    obtain ⟨g, rfl, g1, g2, g3⟩ := hf (fun e => by subst e; simp at hk)
    have hV : signV l (k : Int) = .tuple #[.int .i32 l[k], .int .i64 0] := by
      unfold signV
      rw [if_neg (by omega), Int.toNat_natCast, List.getElem?_eq_getElem hk]
    have gk := g3 k l[k] (List.getElem?_eq_getElem hk)
    rw [hV]
    generalize l[k] = c at *
    generalize l.length = n at *
    clear hf g3 hV
    have hglt : g < w.heap.size := by omega
    go_enter Tryz.func69, Tryz.ntmps69
    go_wp2_with (go_at_call 15; refine (hsz _).mono ?_; rintro e w1 ⟨rfl, hb1⟩; have hg1 : w1.cell? ⟨g, k, none⟩ = some (.int .i32 c) := (hb1.cell (p := ⟨g, k, none⟩) (by simp; omega)).trans (((Below.refl w.heap.size w).alloc (Nat.le_refl _) _).cell (p := ⟨g, k, none⟩) hglt |>.trans gk); have hs1 := hb1.size; have hv1 : w1.heap[w.heap.size]? = some (.cells #[.slice (some ⟨g, 0, none⟩) n cap, mp] 33 (0, 0)) := (hb1.block _ (by simp)).trans (new_at rfl); have y0 := cell_at hv1 0; have hlt1 := lt_at hv1)
    go_ret2
    exact ⟨rfl, ((Below.refl _ w).alloc (Nat.le_refl _) _).trans (hb1.mono (by simp))⟩
  · have hV : signV l i = .tuple #[.int .i32 0, .int .i64 30] := by
      unfold signV
      by_cases h1 : i < 0
      · rw [if_pos h1]
      · rw [if_neg h1, List.getElem?_eq_none (by omega)]
    rw [hV]
    by_cases h1 : i < 0
    · clear hi hf hV
      go_enter Tryz.func69, Tryz.ntmps69
      go_wp2
      go_ret2
      exact ⟨rfl, (Below.refl _ w).alloc (Nat.le_refl _) _⟩
    · have h2 : (l.length : Int) ≤ i := by omega
      have h3 : 0 ≤ i := by omega
      clear hi hf hV
      go_enter Tryz.func69, Tryz.ntmps69
      go_wp2_with (go_at_call 15; refine (hsz _).mono ?_; rintro e w1 ⟨rfl, hb1⟩)
      go_ret2
      exact ⟨rfl, ((Below.refl _ w).alloc (Nat.le_refl _) _).trans (hb1.mono (by simp))⟩


/-- What lies there as a notice is read. -/
structure JQ (w : World) (ad : Option Addr) (cap : Nat) (mb : Option Nat) (l : List Int) (L : List (Nat × Int × Int × Int)) (W : World) : Prop where
  box : W.heap[w.heap.size]? = some (.cells #[.slice ad l.length cap, .map mb] 33 (0, 0))
  ros : Ros w.heap.size W (.agg #[.slice ad l.length cap, .map mb]) l
  j : JL w L W
theorem JQ.carry {w : World} {ad : Option Addr} {cap : Nat} {mb : Option Nat} {l : List Int} {L : List (Nat × Int × Int × Int)} {W W' : World} (h : JQ w ad cap mb l L W) (hb : Below W.heap.size W W') : JQ w ad cap mb l L W' :=
  ⟨(hb.block _ (lt_at h.box)).trans h.box, h.ros.call (Nat.le_of_lt (lt_at h.box)) hb, h.j.carry hb⟩
theorem JQ.get {w : World} {ad : Option Addr} {cap : Nat} {mb : Option Nat} {l : List Int} {L : List (Nat × Int × Int × Int)} {W : World} (h : JQ w ad cap mb l L W) (i : Nat) {B : Nat} {o t k : Int} (hx : L[i]? = some (B, o, t, k)) : NB W B o t k := h.j.get i hx
theorem load_ros {W : World} {B : Nat} {u v : Value} (h : W.heap[B]? = some (.cells #[u, v] 33 (0, 0))) : (Instr.loadAt 33 (.pointer (some ⟨B, 0, none⟩))).run Tryz.prog W = .ok (.agg #[u, v]) W := by
  have c0 := cell_at h 0
  have c1 := cell_at h 1
  go_simp
theorem Ros.lift {M M' : Nat} {W : World} {v : Value} {l : List Int} (h : Ros M W v l) (hM : M ≤ M') : Ros M' W v l := by
  obtain ⟨h0, sl, mp, rfl, ⟨ad, cap, rfl, hf⟩, hm⟩ := h
  refine ⟨h0, _, mp, rfl, ⟨ad, cap, rfl, fun hl => ?_⟩, ?_⟩
  · obtain ⟨g, h1, h2, h3⟩ := hf hl
    exact ⟨g, h1, Nat.lt_of_lt_of_le h2 hM, h3⟩
  · rcases hm with hm | ⟨b, n, D, h1, h2, h3⟩
    · exact .inl hm
    · exact .inr ⟨b, n, D, h1, Nat.lt_of_lt_of_le h2 hM, h3⟩
theorem un_not {P : Program} (a : Bool) (w : World) : (Op.unary .not (.bool a)).run P w = .ok (.bool (!a)) w := by
  cases a <;> simp [go_sem]
/-- What Read answers, by the characters as they are cut. -/
def rdP (l : List Int) (s : ByteArray) : Int × Int × Int × Int :=
  if 65536 < s.size then (0, 0, 0, 2)
  else if ((decodeGo s).1 : Int) ∈ l then
    match numR (cutFr (cutFr s)) with
    | some v => if rk (v : Int) (kd (decodeGo (cutFr s)).1) = -1 then (0, 0, 0, 80) else ((l.idxOf ((decodeGo s).1 : Int) : Int), (v : Int), kd (decodeGo (cutFr s)).1, 0)
    | none => (0, 0, 0, 80)
  else (0, 0, 0, 80)
def rdPV (x : Int × Int × Int × Int) : Value := .tuple #[nt x.1 x.2.1 x.2.2.1, .int .i64 x.2.2.2]
theorem numV_form (o : Option Nat) : ∃ a b : Int, numV o = .tuple #[.int .i64 a, .int .i64 b] := by
  cases o with
  | none => exact ⟨_, _, rfl⟩
  | some v => exact ⟨_, _, rfl⟩
theorem dec_rune (s : ByteArray) : (decodeGo s).1 ≤ 1114111 := by
  unfold decodeGo
  split
  · decide
  · exact rn_le s 0
set_option maxHeartbeats 4000000 in
set_option maxRecDepth 100000 in
theorem nread_any {M : Nat} {v : Value} {l : List Int} (w : World) (h : Ros M w v l) (hM : M ≤ w.heap.size) (s : ByteArray) (hs : s.size ≤ maxLen) (hT : Ut w) : Calls Tryz.prog 131 #[v, .string s] w fun e w' => e = .returned (rdPV (rdP l s)) ∧ Below w.heap.size w w' := by
  have hmx : Tryz.prog.follows .mixedOrders = true := by kernel_rfl
  have hls := h.1.short
  obtain ⟨ad, cap, mb, rfl⟩ := h.form
  unfold maxLen at hs
  have hsI : (s.size : Int) ≤ 9223372036854775807 := by omega
  by_cases hg : 65536 < s.size
  · have e : rdP l s = (0, 0, 0, 2) := by rw [rdP, if_pos hg]
    rw [e]
    go_enter Tryz.func131, Tryz.ntmps131
    go_wp2
    exact retNt rfl rfl rfl rfl (new_at (by simp)) ⟨rfl, al2 _ _ _⟩
  have hq0 : JQ w ad cap mb l [(w.heap.size + 1, 0, 0, 0)] ((w.alloc (.cells #[.slice ad l.length cap, .map mb] 33)).alloc (.cells #[.int .i64 0, .int .i64 0, .int .i64 0] 99)) :=
    ⟨old_at (new_at rfl), (h.below ((al2 w _ _).mono hM)).lift hM, by simpa using ((JL.nil w).old _).new 0 0 0⟩
  have hU0 : Ut ((w.alloc (.cells #[.slice ad l.length cap, .map mb] 33)).alloc (.cells #[.int .i64 0, .int .i64 0, .int .i64 0] 99)) := hT.carry (al2 _ _ _)
  have hc1 := cut_any s _ hU0
  have hc2 := cut_any (cutFr s)
  have hkd := kindOf_any ((decodeGo (cutFr s)).1 : Int)
  have hsz : (cutFr (cutFr s)).size ≤ maxLen := by
    have h1 : (cutFr (cutFr s)).size ≤ (cutFr s).size := by unfold cutFr; simp
    have h2 : (cutFr s).size ≤ s.size := by unfold cutFr; simp
    unfold maxLen
    omega
  have hnm := number_any (cutFr (cutFr s)) hsz
  have hrn := dec_rune s
  have HE : Hid (rdP l s = (if ((decodeGo s).1 : Int) ∈ l then
    (match numR (cutFr (cutFr s)) with
    | some v => if rk (v : Int) (kd (decodeGo (cutFr s)).1) = -1 then (0, 0, 0, 80) else ((l.idxOf ((decodeGo s).1 : Int) : Int), (v : Int), kd (decodeGo (cutFr s)).1, 0)
    | none => (0, 0, 0, 80))
  else (0, 0, 0, 80) : Int × Int × Int × Int)) := by show rdP l s = _; rw [rdP, if_neg hg]
  generalize rdP l s = RR at *
  generalize cutFr (cutFr s) = D at *
  generalize (decodeGo (cutFr s)).1 = b at *
  generalize cutFr s = R at *
  generalize (decodeGo s).1 = a at *
  by_cases ha : (a : Int) ∈ l
  case neg =>
    have e : RR = (0, 0, 0, 80) := by rw [HE.out, if_neg ha]
    have hiv : idV l (a : Int) = .tuple #[.int .i64 0, .int .i64 41] := by rw [idV, if_neg ha]
    rw [e]
    obtain ⟨na, ne, hnf⟩ := numV_form (numR (D))
    rw [hnf] at hnm
    clear e ha h hnf HE
    go_enter Tryz.func131, Tryz.ntmps131
    go_wp2_with (first | (go_at_call 145; (with_reducible refine (hc1).mono ?_); rintro e u1 ⟨rfl, hb1⟩; have hq1 : JQ w ad cap mb l [(w.heap.size + 1, 0, 0, 0)] u1 := hq0.carry hb1; have hU1 := hU0.carry hb1; have y1a := cell_at hq1.box 0; have y1b := cell_at hq1.box 1; have y1l := lt_at hq1.box; have hc2' := hc2 u1 hU1) | (go_at_call 145; (with_reducible refine (hc2').mono ?_); rintro e u2 ⟨rfl, hb2⟩; have hq2 : JQ w ad cap mb l [(w.heap.size + 1, 0, 0, 0)] u2 := hq1.carry hb2; have hU2 := hU1.carry hb2; have y2a := cell_at hq2.box 0; have y2b := cell_at hq2.box 1; have y2l := lt_at hq2.box; have hid := id_any u2 hq2.ros (Nat.le_of_lt (lt_at hq2.box)) (c := (a : Int)) (by omega) (by omega); rw [hiv] at hid) | (go_at_call 128; (with_reducible refine (hid).mono ?_); rintro e u3 ⟨rfl, hb3⟩; have hq3 : JQ w ad cap mb l [(w.heap.size + 1, 0, 0, 0)] u3 := hq2.carry hb3; have hU3 := hU2.carry hb3; have y3a := cell_at hq3.box 0; have y3b := cell_at hq3.box 1; have y3l := lt_at hq3.box) | (go_at_call 58; (with_reducible refine (hnm _).mono ?_); rintro e u4 ⟨rfl, hb4⟩; have hq4 : JQ w ad cap mb l [(w.heap.size + 1, 0, 0, 0)] u4 := hq3.carry hb4; have hU4 := hU3.carry hb4; have y4a := cell_at hq4.box 0; have y4b := cell_at hq4.box 1; have y4l := lt_at hq4.box) | (go_at_call 146; (with_reducible refine (hkd _).mono ?_); rintro e u5 ⟨rfl, hb5⟩; have hq5 : JQ w ad cap mb l [(w.heap.size + 1, 0, 0, 0)] u5 := hq4.carry hb5))
    have hqx : JQ w ad cap mb l [(w.heap.size + 1, 0, 0, 0), (u5.heap.size, 0, na, kd (b : Int))] (u5.alloc (.cells #[.int .i64 0, .int .i64 na, .int .i64 (kd (b : Int))] 99)) := ⟨old_at hq5.box, hq5.ros.alloc (Nat.le_of_lt (lt_at hq5.box)) _, by simpa using hq5.j.new (0) (na) (kd (b : Int))⟩
    clear hc1 hc2 hc2' hid hnm hkd hq0 hq1 hq2 hq3 hq4 hU0 hU1 hU2 hU3 hU4
    rename_i Q0 K0 hK
    refine wp_region_any hmx ?_
    refine wpAny_pure (fun i__ => ([(.int .i64 41), (.bool true), (.bool true), undef, undef, (.bool true), (.bool true), undef, undef, undef, undef, undef, (.bool true)] : List Value).getD i__ undef) (fun W => JQ w ad cap mb l [(w.heap.size + 1, 0, 0, 0), (u5.heap.size, 0, na, kd (b : Int))] W) (by kernel_rfl) (hqx.carry (Below.refl _ _).drew) ?_ ?_
    · refine (stepsFrom_cons ?_ (stepsFrom_cons ?_ (stepsFrom_cons ?_ (stepsFrom_cons ?_ (stepsFrom_cons ?_ (stepsFrom_cons ?_ (stepsFrom_cons ?_ (stepsFrom_cons ?_ (stepsFrom_cons ?_ (stepsFrom_cons ?_ (stepsFrom_cons ?_ (stepsFrom_cons ?_ (stepsFrom_cons ?_ trivial)))))))))))))
      · exact step_move rfl trivial _ rfl (by kernel_rfl)
      · exact step_binOp rfl trivial _ _ _ _ _ _ _ rfl rfl rfl (fun w hw => (bin_neq .i64 _ _).trans rfl)
      · exact step_move rfl trivial _ rfl (by kernel_rfl)
      · exact step_skip rfl 2 false 47 (.bool true) rfl rfl (by kernel_rfl) (by intro h; cases h) rfl
      · exact step_skip rfl 2 false 47 (.bool true) rfl rfl (by kernel_rfl) (by intro h; cases h) rfl
      · exact step_pick rfl trivial _ _ _ true rfl (by kernel_rfl) (by kernel_rfl)
      · exact step_move rfl trivial _ rfl (by kernel_rfl)
      · exact step_skip rfl 6 false 51 (.bool true) rfl rfl (by kernel_rfl) (by intro h; cases h) rfl
      · exact step_skip rfl 6 false 51 (.bool true) rfl rfl (by kernel_rfl) (by intro h; cases h) rfl
      · exact step_skip rfl 6 false 51 (.bool true) rfl rfl (by kernel_rfl) (by intro h; cases h) rfl
      · exact step_skip rfl 6 false 51 (.bool true) rfl rfl (by kernel_rfl) (by intro h; cases h) rfl
      · exact step_skip rfl 6 false 51 (.bool true) rfl rfl (by kernel_rfl) (by intro h; cases h) rfl
      · exact step_pick rfl trivial _ _ _ true rfl (by kernel_rfl) (by kernel_rfl)
    intro W hW
    first | refine hK _ _ ?_ | refine (‹∀ (a : Act) (w : World), Code.wp Tryz.prog _ _ a w → _›) _ _ ?_ | skip
    simp only [finL, List.getD_cons_zero, List.getD_cons_succ, Nat.zero_add, Nat.reduceAdd, List.setIfInBounds_toArray, List.set_cons_zero, List.set_cons_succ]
    clear hK hqx hq5
    have hn := hW.get 0 rfl
    have c0 := hn.c0
    have c1 := hn.c1
    have c2 := hn.c2
    have z0 := hn.thaw 0
    have z1 := hn.thaw 1
    have z2 := hn.thaw 2
    have hx := hW.get 1 rfl
    have x0 := hx.c0
    have x1 := hx.c1
    have x2 := hx.c2
    have hlt := hn.lt
    have hbz := hW.j.below
    go_wp2
    exact retNt rfl rfl rfl rfl (hn.set 0 0 0) ⟨rfl, below3 hbz (by omega) _ _ _⟩
  have hiv : idV l (a : Int) = .tuple #[.int .i64 (l.idxOf (a : Int) : Int), .int .i64 0] := by rw [idV, if_pos ha]
  have hix : l.idxOf (a : Int) < l.length := List.idxOf_lt_length_of_mem ha
  cases hn : numR (D) with
  | none =>
    have e : RR = (0, 0, 0, 80) := by rw [HE.out, if_pos ha, hn]
    rw [e]
    rw [hn, numV] at hnm
    generalize l.idxOf (a : Int) = ix at *
    clear e ha h hn HE
    go_enter Tryz.func131, Tryz.ntmps131
    go_wp2_with (first | (go_at_call 145; (with_reducible refine (hc1).mono ?_); rintro e u1 ⟨rfl, hb1⟩; have hq1 : JQ w ad cap mb l [(w.heap.size + 1, 0, 0, 0)] u1 := hq0.carry hb1; have hU1 := hU0.carry hb1; have y1a := cell_at hq1.box 0; have y1b := cell_at hq1.box 1; have y1l := lt_at hq1.box; have hc2' := hc2 u1 hU1) | (go_at_call 145; (with_reducible refine (hc2').mono ?_); rintro e u2 ⟨rfl, hb2⟩; have hq2 : JQ w ad cap mb l [(w.heap.size + 1, 0, 0, 0)] u2 := hq1.carry hb2; have hU2 := hU1.carry hb2; have y2a := cell_at hq2.box 0; have y2b := cell_at hq2.box 1; have y2l := lt_at hq2.box; have hid := id_any u2 hq2.ros (Nat.le_of_lt (lt_at hq2.box)) (c := (a : Int)) (by omega) (by omega); rw [hiv] at hid) | (go_at_call 128; (with_reducible refine (hid).mono ?_); rintro e u3 ⟨rfl, hb3⟩; have hq3 : JQ w ad cap mb l [(w.heap.size + 1, 0, 0, 0)] u3 := hq2.carry hb3; have hU3 := hU2.carry hb3; have y3a := cell_at hq3.box 0; have y3b := cell_at hq3.box 1; have y3l := lt_at hq3.box) | (go_at_call 58; (with_reducible refine (hnm _).mono ?_); rintro e u4 ⟨rfl, hb4⟩; have hq4 : JQ w ad cap mb l [(w.heap.size + 1, 0, 0, 0)] u4 := hq3.carry hb4; have hU4 := hU3.carry hb4; have y4a := cell_at hq4.box 0; have y4b := cell_at hq4.box 1; have y4l := lt_at hq4.box) | (go_at_call 146; (with_reducible refine (hkd _).mono ?_); rintro e u5 ⟨rfl, hb5⟩; have hq5 : JQ w ad cap mb l [(w.heap.size + 1, 0, 0, 0)] u5 := hq4.carry hb5))
    have hqx : JQ w ad cap mb l [(w.heap.size + 1, 0, 0, 0), (u5.heap.size, ix, 0, kd (b : Int))] (u5.alloc (.cells #[.int .i64 ix, .int .i64 0, .int .i64 (kd (b : Int))] 99)) := ⟨old_at hq5.box, hq5.ros.alloc (Nat.le_of_lt (lt_at hq5.box)) _, by simpa using hq5.j.new (ix) (0) (kd (b : Int))⟩
    clear hc1 hc2 hc2' hid hnm hkd hq0 hq1 hq2 hq3 hq4 hU0 hU1 hU2 hU3 hU4
    rename_i Q0 K0 hK
    refine wp_region_any hmx ?_
    refine wpAny_pure (fun i__ => ([(.int .i64 0), (.bool false), (.bool false), (.int .i64 21), (.bool true), (.bool true), (.bool true), undef, undef, undef, undef, undef, (.bool true)] : List Value).getD i__ undef) (fun W => JQ w ad cap mb l [(w.heap.size + 1, 0, 0, 0), (u5.heap.size, ix, 0, kd (b : Int))] W) (by kernel_rfl) (hqx.carry (Below.refl _ _).drew) ?_ ?_
    · refine (stepsFrom_cons ?_ (stepsFrom_cons ?_ (stepsFrom_cons ?_ (stepsFrom_cons ?_ (stepsFrom_cons ?_ (stepsFrom_cons ?_ (stepsFrom_cons ?_ (stepsFrom_cons ?_ (stepsFrom_cons ?_ (stepsFrom_cons ?_ (stepsFrom_cons ?_ (stepsFrom_cons ?_ (stepsFrom_cons ?_ trivial)))))))))))))
      · exact step_move rfl trivial _ rfl (by kernel_rfl)
      · exact step_binOp rfl trivial _ _ _ _ _ _ _ rfl rfl rfl (fun w hw => (bin_neq .i64 _ _).trans rfl)
      · exact step_move rfl trivial _ rfl (by kernel_rfl)
      · exact step_move rfl (by exact ⟨_, rfl, by kernel_rfl⟩) _ rfl (by kernel_rfl)
      · exact step_binOp rfl (by exact ⟨_, rfl, by kernel_rfl⟩) _ _ _ _ _ _ _ rfl rfl rfl (fun w hw => (bin_neq .i64 _ _).trans rfl)
      · exact step_pick rfl trivial _ _ _ false rfl (by kernel_rfl) (by kernel_rfl)
      · exact step_move rfl trivial _ rfl (by kernel_rfl)
      · exact step_skip rfl 6 false 51 (.bool true) rfl rfl (by kernel_rfl) (by intro h; cases h) rfl
      · exact step_skip rfl 6 false 51 (.bool true) rfl rfl (by kernel_rfl) (by intro h; cases h) rfl
      · exact step_skip rfl 6 false 51 (.bool true) rfl rfl (by kernel_rfl) (by intro h; cases h) rfl
      · exact step_skip rfl 6 false 51 (.bool true) rfl rfl (by kernel_rfl) (by intro h; cases h) rfl
      · exact step_skip rfl 6 false 51 (.bool true) rfl rfl (by kernel_rfl) (by intro h; cases h) rfl
      · exact step_pick rfl trivial _ _ _ true rfl (by kernel_rfl) (by kernel_rfl)
    intro W hW
    first | refine hK _ _ ?_ | refine (‹∀ (a : Act) (w : World), Code.wp Tryz.prog _ _ a w → _›) _ _ ?_ | skip
    simp only [finL, List.getD_cons_zero, List.getD_cons_succ, Nat.zero_add, Nat.reduceAdd, List.setIfInBounds_toArray, List.set_cons_zero, List.set_cons_succ]
    clear hK hqx hq5
    have hn := hW.get 0 rfl
    have c0 := hn.c0
    have c1 := hn.c1
    have c2 := hn.c2
    have z0 := hn.thaw 0
    have z1 := hn.thaw 1
    have z2 := hn.thaw 2
    have hx := hW.get 1 rfl
    have x0 := hx.c0
    have x1 := hx.c1
    have x2 := hx.c2
    have hlt := hn.lt
    have hbz := hW.j.below
    go_wp2
    exact retNt rfl rfl rfl rfl (hn.set 0 0 0) ⟨rfl, below3 hbz (by omega) _ _ _⟩
  | some v =>
    rw [hn, numV] at hnm
    have hvl := valid_any l.length (l.idxOf (a : Int)) v (kd b)
    by_cases hk : rk (v : Int) (kd b) = -1
    · have e : RR = (0, 0, 0, 80) := by rw [HE.out, if_pos ha, hn]; exact if_pos hk
      have ev : vl l.length (l.idxOf (a : Int)) v (kd b) = false := decide_eq_false (fun h => h.2.2.2.2 hk)
      rw [e]
      rw [ev] at hvl
      generalize l.idxOf (a : Int) = ix at *
      clear e ha h hn ev hk HE
      go_enter Tryz.func131, Tryz.ntmps131
      go_wp2_with (first | (go_at_call 145; (with_reducible refine (hc1).mono ?_); rintro e u1 ⟨rfl, hb1⟩; have hq1 : JQ w ad cap mb l [(w.heap.size + 1, 0, 0, 0)] u1 := hq0.carry hb1; have hU1 := hU0.carry hb1; have y1a := cell_at hq1.box 0; have y1b := cell_at hq1.box 1; have y1l := lt_at hq1.box; have hc2' := hc2 u1 hU1) | (go_at_call 145; (with_reducible refine (hc2').mono ?_); rintro e u2 ⟨rfl, hb2⟩; have hq2 : JQ w ad cap mb l [(w.heap.size + 1, 0, 0, 0)] u2 := hq1.carry hb2; have hU2 := hU1.carry hb2; have y2a := cell_at hq2.box 0; have y2b := cell_at hq2.box 1; have y2l := lt_at hq2.box; have hid := id_any u2 hq2.ros (Nat.le_of_lt (lt_at hq2.box)) (c := (a : Int)) (by omega) (by omega); rw [hiv] at hid) | (go_at_call 128; (with_reducible refine (hid).mono ?_); rintro e u3 ⟨rfl, hb3⟩; have hq3 : JQ w ad cap mb l [(w.heap.size + 1, 0, 0, 0)] u3 := hq2.carry hb3; have hU3 := hU2.carry hb3; have y3a := cell_at hq3.box 0; have y3b := cell_at hq3.box 1; have y3l := lt_at hq3.box) | (go_at_call 58; (with_reducible refine (hnm _).mono ?_); rintro e u4 ⟨rfl, hb4⟩; have hq4 : JQ w ad cap mb l [(w.heap.size + 1, 0, 0, 0)] u4 := hq3.carry hb4; have hU4 := hU3.carry hb4; have y4a := cell_at hq4.box 0; have y4b := cell_at hq4.box 1; have y4l := lt_at hq4.box) | (go_at_call 146; (with_reducible refine (hkd _).mono ?_); rintro e u5 ⟨rfl, hb5⟩; have hq5 : JQ w ad cap mb l [(w.heap.size + 1, 0, 0, 0)] u5 := hq4.carry hb5))
      have hqx : JQ w ad cap mb l [(w.heap.size + 1, 0, 0, 0), (u5.heap.size, ix, v, kd (b : Int))] (u5.alloc (.cells #[.int .i64 ix, .int .i64 v, .int .i64 (kd (b : Int))] 99)) := ⟨old_at hq5.box, hq5.ros.alloc (Nat.le_of_lt (lt_at hq5.box)) _, by simpa using hq5.j.new (ix) (v) (kd (b : Int))⟩
      clear hc1 hc2 hc2' hid hnm hkd hq0 hq1 hq2 hq3 hq4 hU0 hU1 hU2 hU3 hU4
      rename_i Q0 K0 hK
      refine wp_region_any hmx ?_
      refine wpAny_pure (fun i__ => ([(.int .i64 0), (.bool false), (.bool false), (.int .i64 0), (.bool false), (.bool false), (.bool false), (.agg #[.slice ad l.length cap, .map mb]), (.int .i64 l.length), (nt ix v (kd (b : Int))), (.bool false), (.bool true), (.bool true)] : List Value).getD i__ undef) (fun W => JQ w ad cap mb l [(w.heap.size + 1, 0, 0, 0), (u5.heap.size, ix, v, kd (b : Int))] W) (by kernel_rfl) (hqx.carry (Below.refl _ _).drew) ?_ ?_
      · refine (stepsFrom_cons ?_ (stepsFrom_cons ?_ (stepsFrom_cons ?_ (stepsFrom_cons ?_ (stepsFrom_cons ?_ (stepsFrom_cons ?_ (stepsFrom_cons ?_ (stepsFrom_cons ?_ (stepsFrom_cons ?_ (stepsFrom_cons ?_ (stepsFrom_cons ?_ (stepsFrom_cons ?_ (stepsFrom_cons ?_ trivial)))))))))))))
        · exact step_move rfl trivial _ rfl (by kernel_rfl)
        · exact step_binOp rfl trivial _ _ _ _ _ _ _ rfl rfl rfl (fun w hw => (bin_neq .i64 _ _).trans rfl)
        · exact step_move rfl trivial _ rfl (by kernel_rfl)
        · exact step_move rfl (by exact ⟨_, rfl, by kernel_rfl⟩) _ rfl (by kernel_rfl)
        · exact step_binOp rfl (by exact ⟨_, rfl, by kernel_rfl⟩) _ _ _ _ _ _ _ rfl rfl rfl (fun w hw => (bin_neq .i64 _ _).trans rfl)
        · exact step_pick rfl trivial _ _ _ false rfl (by kernel_rfl) (by kernel_rfl)
        · exact step_move rfl trivial _ rfl (by kernel_rfl)
        · exact step_load rfl (by exact ⟨_, rfl, by kernel_rfl⟩) _ _ _ rfl rfl (fun w hw => load_ros hw.box)
        · exact step_call rfl (by exact ⟨_, rfl, by kernel_rfl⟩) 15 _ _ [(.agg #[.slice ad l.length cap, .map mb])] rfl (by kernel_rfl) (enters_of Tryz.func15 (by kernel_rfl) rfl) (fun w hw => (size_any w hw.ros).mono (by rintro e w' ⟨rfl, hb⟩; exact ⟨rfl, hw.carry hb⟩))
        · exact step_load rfl (by exact ⟨_, rfl, by kernel_rfl⟩) _ _ _ rfl rfl (fun w hw => load_nt (hw.get 1 rfl))
        · exact step_call rfl (by exact ⟨_, rfl, by kernel_rfl⟩) 117 _ _ [(.int .i64 l.length), (nt ix v (kd (b : Int)))] rfl (by kernel_rfl) (enters_of Tryz.func117 (by kernel_rfl) rfl) (fun w hw => (hvl w).mono (by rintro e w' ⟨rfl, hb⟩; exact ⟨rfl, hw.carry hb⟩))
        · exact step_unOp rfl (by exact ⟨_, rfl, by kernel_rfl⟩) _ _ _ _ rfl rfl (fun w hw => un_not _ w)
        · exact step_pick rfl trivial _ _ _ false rfl (by kernel_rfl) (by kernel_rfl)
      intro W hW
      first | refine hK _ _ ?_ | refine (‹∀ (a : Act) (w : World), Code.wp Tryz.prog _ _ a w → _›) _ _ ?_ | skip
      simp only [finL, List.getD_cons_zero, List.getD_cons_succ, Nat.zero_add, Nat.reduceAdd, List.setIfInBounds_toArray, List.set_cons_zero, List.set_cons_succ]
      clear hK hqx hq5
      have hn := hW.get 0 rfl
      have c0 := hn.c0
      have c1 := hn.c1
      have c2 := hn.c2
      have z0 := hn.thaw 0
      have z1 := hn.thaw 1
      have z2 := hn.thaw 2
      have hx := hW.get 1 rfl
      have x0 := hx.c0
      have x1 := hx.c1
      have x2 := hx.c2
      have hlt := hn.lt
      have hbz := hW.j.below
      go_wp2
      exact retNt rfl rfl rfl rfl (hn.set 0 0 0) ⟨rfl, below3 hbz (by omega) _ _ _⟩
    · have e : RR = ((l.idxOf (a : Int) : Int), (v : Int), kd b, 0) := by rw [HE.out, if_pos ha, hn]; exact if_neg hk
      have ev : vl l.length (l.idxOf (a : Int)) v (kd b) = true := decide_eq_true ⟨by omega, by omega, by omega, by omega, hk⟩
      rw [e]
      rw [ev] at hvl
      generalize l.idxOf (a : Int) = ix at *
      clear e ha h hn ev hk HE
      go_enter Tryz.func131, Tryz.ntmps131
      go_wp2_with (first | (go_at_call 145; (with_reducible refine (hc1).mono ?_); rintro e u1 ⟨rfl, hb1⟩; have hq1 : JQ w ad cap mb l [(w.heap.size + 1, 0, 0, 0)] u1 := hq0.carry hb1; have hU1 := hU0.carry hb1; have y1a := cell_at hq1.box 0; have y1b := cell_at hq1.box 1; have y1l := lt_at hq1.box; have hc2' := hc2 u1 hU1) | (go_at_call 145; (with_reducible refine (hc2').mono ?_); rintro e u2 ⟨rfl, hb2⟩; have hq2 : JQ w ad cap mb l [(w.heap.size + 1, 0, 0, 0)] u2 := hq1.carry hb2; have hU2 := hU1.carry hb2; have y2a := cell_at hq2.box 0; have y2b := cell_at hq2.box 1; have y2l := lt_at hq2.box; have hid := id_any u2 hq2.ros (Nat.le_of_lt (lt_at hq2.box)) (c := (a : Int)) (by omega) (by omega); rw [hiv] at hid) | (go_at_call 128; (with_reducible refine (hid).mono ?_); rintro e u3 ⟨rfl, hb3⟩; have hq3 : JQ w ad cap mb l [(w.heap.size + 1, 0, 0, 0)] u3 := hq2.carry hb3; have hU3 := hU2.carry hb3; have y3a := cell_at hq3.box 0; have y3b := cell_at hq3.box 1; have y3l := lt_at hq3.box) | (go_at_call 58; (with_reducible refine (hnm _).mono ?_); rintro e u4 ⟨rfl, hb4⟩; have hq4 : JQ w ad cap mb l [(w.heap.size + 1, 0, 0, 0)] u4 := hq3.carry hb4; have hU4 := hU3.carry hb4; have y4a := cell_at hq4.box 0; have y4b := cell_at hq4.box 1; have y4l := lt_at hq4.box) | (go_at_call 146; (with_reducible refine (hkd _).mono ?_); rintro e u5 ⟨rfl, hb5⟩; have hq5 : JQ w ad cap mb l [(w.heap.size + 1, 0, 0, 0)] u5 := hq4.carry hb5))
      have hqx : JQ w ad cap mb l [(w.heap.size + 1, 0, 0, 0), (u5.heap.size, ix, v, kd (b : Int))] (u5.alloc (.cells #[.int .i64 ix, .int .i64 v, .int .i64 (kd (b : Int))] 99)) := ⟨old_at hq5.box, hq5.ros.alloc (Nat.le_of_lt (lt_at hq5.box)) _, by simpa using hq5.j.new (ix) (v) (kd (b : Int))⟩
      clear hc1 hc2 hc2' hid hnm hkd hq0 hq1 hq2 hq3 hq4 hU0 hU1 hU2 hU3 hU4
      rename_i Q0 K0 hK
      refine wp_region_any hmx ?_
      refine wpAny_pure (fun i__ => ([(.int .i64 0), (.bool false), (.bool false), (.int .i64 0), (.bool false), (.bool false), (.bool false), (.agg #[.slice ad l.length cap, .map mb]), (.int .i64 l.length), (nt ix v (kd (b : Int))), (.bool true), (.bool false), (.bool false)] : List Value).getD i__ undef) (fun W => JQ w ad cap mb l [(w.heap.size + 1, 0, 0, 0), (u5.heap.size, ix, v, kd (b : Int))] W) (by kernel_rfl) (hqx.carry (Below.refl _ _).drew) ?_ ?_
      · refine (stepsFrom_cons ?_ (stepsFrom_cons ?_ (stepsFrom_cons ?_ (stepsFrom_cons ?_ (stepsFrom_cons ?_ (stepsFrom_cons ?_ (stepsFrom_cons ?_ (stepsFrom_cons ?_ (stepsFrom_cons ?_ (stepsFrom_cons ?_ (stepsFrom_cons ?_ (stepsFrom_cons ?_ (stepsFrom_cons ?_ trivial)))))))))))))
        · exact step_move rfl trivial _ rfl (by kernel_rfl)
        · exact step_binOp rfl trivial _ _ _ _ _ _ _ rfl rfl rfl (fun w hw => (bin_neq .i64 _ _).trans rfl)
        · exact step_move rfl trivial _ rfl (by kernel_rfl)
        · exact step_move rfl (by exact ⟨_, rfl, by kernel_rfl⟩) _ rfl (by kernel_rfl)
        · exact step_binOp rfl (by exact ⟨_, rfl, by kernel_rfl⟩) _ _ _ _ _ _ _ rfl rfl rfl (fun w hw => (bin_neq .i64 _ _).trans rfl)
        · exact step_pick rfl trivial _ _ _ false rfl (by kernel_rfl) (by kernel_rfl)
        · exact step_move rfl trivial _ rfl (by kernel_rfl)
        · exact step_load rfl (by exact ⟨_, rfl, by kernel_rfl⟩) _ _ _ rfl rfl (fun w hw => load_ros hw.box)
        · exact step_call rfl (by exact ⟨_, rfl, by kernel_rfl⟩) 15 _ _ [(.agg #[.slice ad l.length cap, .map mb])] rfl (by kernel_rfl) (enters_of Tryz.func15 (by kernel_rfl) rfl) (fun w hw => (size_any w hw.ros).mono (by rintro e w' ⟨rfl, hb⟩; exact ⟨rfl, hw.carry hb⟩))
        · exact step_load rfl (by exact ⟨_, rfl, by kernel_rfl⟩) _ _ _ rfl rfl (fun w hw => load_nt (hw.get 1 rfl))
        · exact step_call rfl (by exact ⟨_, rfl, by kernel_rfl⟩) 117 _ _ [(.int .i64 l.length), (nt ix v (kd (b : Int)))] rfl (by kernel_rfl) (enters_of Tryz.func117 (by kernel_rfl) rfl) (fun w hw => (hvl w).mono (by rintro e w' ⟨rfl, hb⟩; exact ⟨rfl, hw.carry hb⟩))
        · exact step_unOp rfl (by exact ⟨_, rfl, by kernel_rfl⟩) _ _ _ _ rfl rfl (fun w hw => un_not _ w)
        · exact step_pick rfl trivial _ _ _ false rfl (by kernel_rfl) (by kernel_rfl)
      intro W hW
      first | refine hK _ _ ?_ | refine (‹∀ (a : Act) (w : World), Code.wp Tryz.prog _ _ a w → _›) _ _ ?_ | skip
      simp only [finL, List.getD_cons_zero, List.getD_cons_succ, Nat.zero_add, Nat.reduceAdd, List.setIfInBounds_toArray, List.set_cons_zero, List.set_cons_succ]
      clear hK hqx hq5
      have hn := hW.get 0 rfl
      have c0 := hn.c0
      have c1 := hn.c1
      have c2 := hn.c2
      have z0 := hn.thaw 0
      have z1 := hn.thaw 1
      have z2 := hn.thaw 2
      have hx := hW.get 1 rfl
      have x0 := hx.c0
      have x1 := hx.c1
      have x2 := hx.c2
      have hlt := hn.lt
      have hbz := hW.j.below
      go_wp2
      exact retNt rfl rfl rfl rfl (hn.set _ _ _) ⟨rfl, below3 hbz (by omega) _ _ _⟩

/-- What the document's Read answers. -/
def rdD (l : List Int) (s : ByteArray) : Int × Int × Int × Int :=
  if 65536 < s.size then (0, 0, 0, 2)
  else if s.size = 0 ∨ looseB s 0 = true ∨ ¬ (rn s 0 : Int) ∈ l ∨ s.size ≤ wdt s 0 + 1 ∨ (byt s (wdt s 0) ≠ 63 ∧ byt s (wdt s 0) ≠ 33) then (0, 0, 0, 80)
  else match numR (s.extract (wdt s 0 + 1) s.size) with
    | none => (0, 0, 0, 80)
    | some v => if 1048576 < v then (0, 0, 0, 80) else ((l.idxOf (rn s 0 : Int) : Int), (v : Int), (if byt s (wdt s 0) = 63 then 2 else 1), 0)
theorem cls_repl : cls 65533 ≠ 4 := by decide
theorem dec_empty {s : ByteArray} (h : s.size = 0) : decodeGo s = (65533, 0) := if_pos h
theorem dec_full {s : ByteArray} (h : s.size ≠ 0) : decodeGo s = (rn s 0, wdt s 0) := if_neg h
theorem numR_empty {s : ByteArray} (h : s.size = 0) : numR s = none := if_pos (.inl h)
theorem cut_cut (s : ByteArray) (n : Nat) (h : n + 1 ≤ s.size) : (s.extract n s.size).extract 1 (s.extract n s.size).size = s.extract (n + 1) s.size := by
  apply ByteArray.ext
  simp only [ByteArray.data_extract, ByteArray.size_extract, Array.extract_extract]
  congr 1
  have : s.size = s.data.size := rfl
  omega
set_option maxHeartbeats 1000000 in
theorem rd_eq {l : List Int} (hS : Signs l) (s : ByteArray) : rdP l s = rdD l s := by
  unfold rdP rdD
  by_cases hg : 65536 < s.size
  · rw [if_pos hg, if_pos hg]
  rw [if_neg hg, if_neg hg]
  by_cases hz : s.size = 0
  · rw [dec_empty hz, if_neg (show ¬ ((65533 : Nat) : Int) ∈ l from fun h => cls_repl (hS.letter _ h)), if_pos (.inl hz)]
  rw [dec_full hz]
  dsimp only
  by_cases hm : (rn s 0 : Int) ∈ l
  case neg => rw [if_neg hm, if_pos (.inr (.inr (.inl hm)))]
  rw [if_pos hm]
  have hlo : looseB s 0 = false := by
    cases h : looseB s 0 with
    | false => rfl
    | true =>
      have := (of_decide_eq_true h).1
      rw [this] at hm
      exact absurd (hS.letter _ hm) cls_repl
  have hn1 := wdt_pos s 0
  have hnl := wdt_le s 0 (by omega)
  have hR : cutFr s = s.extract (wdt s 0) s.size := by unfold cutFr; rw [dec_full hz]
  have hRs : (cutFr s).size = s.size - wdt s 0 := by rw [hR]; simp
  by_cases hn : s.size ≤ wdt s 0 + 1
  · rw [if_pos (.inr (.inr (.inr (.inl hn))))]
    have hD : (cutFr (cutFr s)).size = 0 := by
      by_cases h0 : (cutFr s).size = 0
      · have : (cutFr (cutFr s)).size ≤ (cutFr s).size := by rw [cutFr]; simp
        omega
      · have h1 := wdt_pos (cutFr s) 0
        rw [cutFr, dec_full h0]
        simp
        omega
    rw [numR_empty hD]
  have h0 : (cutFr s).size ≠ 0 := by omega
  have hb0 : byt (cutFr s) 0 = byt s (wdt s 0) := by
    rw [hR, byt_extract s _ 0 (by omega)]
    rfl
  rw [dec_full h0]
  dsimp only
  by_cases hbb : byt s (wdt s 0) ≠ 63 ∧ byt s (wdt s 0) ≠ 33
  · rw [if_pos (.inr (.inr (.inr (.inr hbb))))]
    have hk : kd (rn (cutFr s) 0 : Int) = 0 := by
      by_cases h8 : byt (cutFr s) 0 < 128
      · have := (one_byte (cutFr s) 0 (by omega) h8).1
        rw [this, hb0, kd, if_neg (by omega), if_neg (by omega)]
      · have := more_byte (cutFr s) 0 (by omega) (by omega)
        rw [kd, if_neg (by omega), if_neg (by omega)]
    rw [hk]
    generalize cutFr (cutFr s) = D
    cases numR D with
    | none => rfl
    | some v => exact if_pos (rk_n (by decide) (by decide))
  have h8 : byt (cutFr s) 0 < 128 := by rw [hb0]; omega
  obtain ⟨o1, o2⟩ := one_byte (cutFr s) 0 (by omega) h8
  have hnc : ¬ (s.size = 0 ∨ looseB s 0 = true ∨ ¬ (rn s 0 : Int) ∈ l ∨ s.size ≤ wdt s 0 + 1 ∨ (byt s (wdt s 0) ≠ 63 ∧ byt s (wdt s 0) ≠ 33)) := by
    rintro (h | h | h | h | h)
    · exact hz h
    · rw [hlo] at h; cases h
    · exact h hm
    · exact hn h
    · exact hbb h
  rw [if_neg hnc]
  have hD : cutFr (cutFr s) = s.extract (wdt s 0 + 1) s.size := by
    rw [cutFr, dec_full h0, o2, hR]
    exact cut_cut s _ (by omega)
  rw [o1, hb0, hD]
  cases numR (s.extract (wdt s 0 + 1) s.size) with
  | none => rfl
  | some v =>
    dsimp only
    by_cases hx : 1048576 < v
    · rw [if_pos hx, if_pos (rk_lo (.inr (by omega)))]
    · rw [if_neg hx]
      by_cases hq : byt s (wdt s 0) = 63
      · rw [hq, if_pos rfl]
        have : rk (v : Int) (kd ((63 : Nat) : Int)) = 2 * v + 1 := rk_s (by omega)
        rw [this, if_neg (by omega)]
        rfl
      · have hq2 : byt s (wdt s 0) = 33 := by omega
        rw [hq2]
        have : rk (v : Int) (kd ((33 : Nat) : Int)) = 2 * v := rk_m (by omega)
        rw [this, if_neg (by omega)]
        rfl
end Go.Proofs.YtnkpohkodkjkfaaGreatDoor
