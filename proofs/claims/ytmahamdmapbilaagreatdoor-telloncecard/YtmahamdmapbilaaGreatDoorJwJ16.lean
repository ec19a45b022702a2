import Derived.Test.YtmahamdmapbilaaGreatDoorJwJ15
import Derived.Test.YtmahamdmapbilaaGreatDoorJwJ14
import Derived.Test.YtmahamdmapbilaaGreatDoorJwJ3
import Derived.Test.YtmahamdmapbilaaGreatDoorJwJ7
import Derived.Shelf.Strconv.Itoa3
import Derived.Test.YtmahamdmapbilaaGreatDoorProg
import Derived.Lib.SmallJoins
import Derived.Lib.AppendIntMem
import Derived.Lib.LaidU8
import Derived.LaidMore
import Derived.Lay
import Derived.MakeChecks
import Derived.Test.YtmahamdmapbilaaGreatDoorRows
import Derived.Lib.ItoaNum
import Derived.Lib.ItoaLen
set_option maxHeartbeats 40000000
set_option maxRecDepth 100000
set_option linter.unusedVariables false
namespace Go.Proofs.YtmahamdmapbilaaGreatDoor
open Go.RowKit Go.Shelf Go.Lib
structure JQ (w : World) (ad : Option Addr) (cap : Nat) (mb : Option Nat) (l : List Int) (L : List (Nat × Int × Int × Int)) (W : World) : Prop where
 box : W.heap[w.heap.size]? = some (.cells #[.slice ad l.length cap, .map mb] 25 (0, 0))
 ros : Ros w.heap.size W (.agg #[.slice ad l.length cap, .map mb]) l
 j : JL w L W
theorem JQ.carry {w : World} {ad : Option Addr} {cap : Nat} {mb : Option Nat} {l : List Int} {L : List (Nat × Int × Int × Int)} {W W' : World} (h : JQ w ad cap mb l L W) (hb : Below W.heap.size W W') : JQ w ad cap mb l L W' :=
 ⟨(hb.block _ (zla h.box)).trans h.box, h.ros.call (Nat.le_of_lt (zla h.box)) hb, h.j.carry hb⟩
theorem JQ.get {w : World} {ad : Option Addr} {cap : Nat} {mb : Option Nat} {l : List Int} {L : List (Nat × Int × Int × Int)} {W : World} (h : JQ w ad cap mb l L W) (i : Nat) {B : Nat} {o t k : Int} (hx : L[i]? = some (B, o, t, k)) : NB W B o t k := h.j.get i hx
theorem load_ros {W : World} {B : Nat} {u v : Value} (h : W.heap[B]? = some (.cells #[u, v] 25 (0, 0))) : (Instr.loadAt 25 (.pointer (some ⟨B, 0, none⟩))).run Tryz.prog W = .ok (.agg #[u, v]) W := by
 have c0 := zca h 0
 have c1 := zca h 1
 go_simp
theorem Ros.lift {M M' : Nat} {W : World} {v : Value} {l : List Int} (h : Ros M W v l) (hM : M ≤ M') : Ros M' W v l := by
 obtain ⟨h0, sl, mp, rfl, ⟨ad, cap, rfl, hf⟩, hm⟩ := h
 refine ⟨h0, _, mp, rfl, ⟨ad, cap, rfl, fun hl => ?_⟩, ?_⟩
 · obtain ⟨g, h1, h2, h3⟩ := hf hl
   exact ⟨g, h1, Nat.lt_of_lt_of_le h2 hM, h3⟩
 · rcases hm with hm | ⟨b, n, D, h1, h2, h3⟩
   · exact .inl hm
   · exact .inr ⟨b, n, D, h1, Nat.lt_of_lt_of_le h2 hM, h3⟩
theorem un_not {P : Program} (a : Bool) (w : World) : (Op.unary .not (.bool a)).run P w = .ok (.bool (!a)) w := by
 cases a <;> simp [go_sem]
def rdP (l : List Int) (s : ByteArray) : Int × Int × Int × Int :=
 if 65536 < s.size then (0, 0, 0, 2)
 else if ((decodeGo s).1 : Int) ∈ l then
  match numR (cutFr (cutFr s)) with
  | some v => if rk (v : Int) (kd (decodeGo (cutFr s)).1) = -1 then (0, 0, 0, 80) else ((l.idxOf ((decodeGo s).1 : Int) : Int), (v : Int), kd (decodeGo (cutFr s)).1, 0)
  | none => (0, 0, 0, 80)
 else (0, 0, 0, 80)
def rdPV (x : Int × Int × Int × Int) : Value := .tuple #[nt x.1 x.2.1 x.2.2.1, .int .i64 x.2.2.2]
theorem numV_form (o : Option Nat) : ∃ a b : Int, numV o = .tuple #[.int .i64 a, .int .i64 b] := by
 cases o with
 | none => exact ⟨_, _, rfl⟩
 | some v => exact ⟨_, _, rfl⟩
theorem dec_rune (s : ByteArray) : (decodeGo s).1 ≤ 1114111 := by
 unfold decodeGo
 split
 · decide
 · exact rn_le s 0
theorem nread_any {M : Nat} {v : Value} {l : List Int} (w : World) (h : Ros M w v l) (hM : M ≤ w.heap.size) (s : ByteArray) (hs : s.size ≤ maxLen) (hT : Ut w) : Calls Tryz.prog 208 #[v, .string s] w fun e w' => e = .returned (rdPV (rdP l s)) ∧ Below w.heap.size w w' := by
 have hmx := mixO
 have hls := h.1.short
 obtain ⟨ad, cap, mb, rfl⟩ := h.form
 unfold maxLen at hs
 have hsI : (s.size : Int) ≤ 9223372036854775807 := by omega
 by_cases hg : 65536 < s.size
 · have e : rdP l s = (0, 0, 0, 2) := by rw [rdP, if_pos hg]
   rw [e]
   go_enter Tryz.func208, Tryz.ntmps208
   go_wp2
   exact retNt rfl rfl rfl rfl (zna (by simp)) ⟨rfl, al2 _ _ _⟩
 have hq0 : JQ w ad cap mb l [(w.heap.size + 1, 0, 0, 0)] ((w.alloc (.cells #[.slice ad l.length cap, .map mb] 25)).alloc (.cells #[.int .i64 0, .int .i64 0, .int .i64 0] 124)) :=
   ⟨zoa (zna rfl), (h.below ((al2 w _ _).mono hM)).lift hM, by simpa using ((JL.nil w).old _).new 0 0 0⟩
 have hU0 : Ut ((w.alloc (.cells #[.slice ad l.length cap, .map mb] 25)).alloc (.cells #[.int .i64 0, .int .i64 0, .int .i64 0] 124)) := hT.carry (al2 _ _ _)
 have hc1 := cut_any s _ hU0
 have hc2 := cut_any (cutFr s)
 have hkd := kindOf_any ((decodeGo (cutFr s)).1 : Int)
 have hsz : (cutFr (cutFr s)).size ≤ maxLen := by
   have h1 : (cutFr (cutFr s)).size ≤ (cutFr s).size := by unfold cutFr; simp
   have h2 : (cutFr s).size ≤ s.size := by unfold cutFr; simp
   unfold maxLen
   omega
 have hnm := number_any (cutFr (cutFr s)) hsz
 have hrn := dec_rune s
 have HE : Hid (rdP l s = (if ((decodeGo s).1 : Int) ∈ l then
   (match numR (cutFr (cutFr s)) with
   | some v => if rk (v : Int) (kd (decodeGo (cutFr s)).1) = -1 then (0, 0, 0, 80) else ((l.idxOf ((decodeGo s).1 : Int) : Int), (v : Int), kd (decodeGo (cutFr s)).1, 0)
   | none => (0, 0, 0, 80))
 else (0, 0, 0, 80) : Int × Int × Int × Int)) := by show rdP l s = _; rw [rdP, if_neg hg]
 generalize rdP l s = RR at *
 generalize cutFr (cutFr s) = D at *
 generalize (decodeGo (cutFr s)).1 = b at *
 generalize cutFr s = R at *
 generalize (decodeGo s).1 = a at *
 by_cases ha : (a : Int) ∈ l
 case neg =>
   have e : RR = (0, 0, 0, 80) := by rw [HE.out, if_neg ha]
   have hiv : idV l (a : Int) = .tuple #[.int .i64 0, .int .i64 41] := by rw [idV, if_neg ha]
   rw [e]
   obtain ⟨na, ne, hnf⟩ := numV_form (numR (D))
   rw [hnf] at hnm
   clear e ha h hnf HE
   go_enter Tryz.func208, Tryz.ntmps208
   go_wp2_with (first | (go_at_call 227; (with_reducible refine (hc1).mono ?_); rintro e u1 ⟨rfl, hb1⟩; have hq1 : JQ w ad cap mb l [(w.heap.size + 1, 0, 0, 0)] u1 := hq0.carry hb1; have hU1 := hU0.carry hb1; have y1a := zca hq1.box 0; have y1b := zca hq1.box 1; have y1l := zla hq1.box; have hc2' := hc2 u1 hU1) | (go_at_call 227; (with_reducible refine (hc2').mono ?_); rintro e u2 ⟨rfl, hb2⟩; have hq2 : JQ w ad cap mb l [(w.heap.size + 1, 0, 0, 0)] u2 := hq1.carry hb2; have hU2 := hU1.carry hb2; have y2a := zca hq2.box 0; have y2b := zca hq2.box 1; have y2l := zla hq2.box; have hid := id_any u2 hq2.ros (Nat.le_of_lt (zla hq2.box)) (c := (a : Int)) (by omega) (by omega); rw [hiv] at hid) | (go_at_call 205; (with_reducible refine (hid).mono ?_); rintro e u3 ⟨rfl, hb3⟩; have hq3 : JQ w ad cap mb l [(w.heap.size + 1, 0, 0, 0)] u3 := hq2.carry hb3; have hU3 := hU2.carry hb3; have y3a := zca hq3.box 0; have y3b := zca hq3.box 1; have y3l := zla hq3.box) | (go_at_call 107; (with_reducible refine (hnm _).mono ?_); rintro e u4 ⟨rfl, hb4⟩; have hq4 : JQ w ad cap mb l [(w.heap.size + 1, 0, 0, 0)] u4 := hq3.carry hb4; have hU4 := hU3.carry hb4; have y4a := zca hq4.box 0; have y4b := zca hq4.box 1; have y4l := zla hq4.box) | (go_at_call 228; (with_reducible refine (hkd _).mono ?_); rintro e u5 ⟨rfl, hb5⟩; have hq5 : JQ w ad cap mb l [(w.heap.size + 1, 0, 0, 0)] u5 := hq4.carry hb5))
   have hqx : JQ w ad cap mb l [(w.heap.size + 1, 0, 0, 0), (u5.heap.size, 0, na, kd (b : Int))] (u5.alloc (.cells #[.int .i64 0, .int .i64 na, .int .i64 (kd (b : Int))] 124)) := ⟨zoa hq5.box, hq5.ros.alloc (Nat.le_of_lt (zla hq5.box)) _, by simpa using hq5.j.new (0) (na) (kd (b : Int))⟩
   clear hc1 hc2 hc2' hid hnm hkd hq0 hq1 hq2 hq3 hq4 hU0 hU1 hU2 hU3 hU4
   rename_i Q0 K0 hK
   refine wp_region_any hmx ?_
   refine zwp (fun i__ => ([(.int .i64 41), (.bool true), (.bool true), undef, undef, (.bool true), (.bool true), undef, undef, undef, undef, undef, (.bool true)] : List Value).getD i__ undef) (fun W => JQ w ad cap mb l [(w.heap.size + 1, 0, 0, 0), (u5.heap.size, 0, na, kd (b : Int))] W) (by kernel_rfl) (hqx.carry (Below.refl _ _).drew) ?_ ?_
   · refine (sqc ?_ (sqc ?_ (sqc ?_ (sqc ?_ (sqc ?_ (sqc ?_ (sqc ?_ (sqc ?_ (sqc ?_ (sqc ?_ (sqc ?_ (sqc ?_ (sqc ?_ trivial)))))))))))))
     · exact zmv rfl trivial _ rfl (by kernel_rfl)
     · exact zbo rfl trivial _ _ _ _ _ _ _ rfl rfl rfl (fun w hw => (bin_neq .i64 _ _).trans rfl)
     · exact zmv rfl trivial _ rfl (by kernel_rfl)
     · exact zsk rfl 2 false 47 (.bool true) rfl rfl (by kernel_rfl) (by intro h; cases h) rfl
     · exact zsk rfl 2 false 47 (.bool true) rfl rfl (by kernel_rfl) (by intro h; cases h) rfl
     · exact step_pick rfl trivial _ _ _ true rfl (by kernel_rfl) (by kernel_rfl)
     · exact zmv rfl trivial _ rfl (by kernel_rfl)
     · exact zsk rfl 6 false 51 (.bool true) rfl rfl (by kernel_rfl) (by intro h; cases h) rfl
     · exact zsk rfl 6 false 51 (.bool true) rfl rfl (by kernel_rfl) (by intro h; cases h) rfl
     · exact zsk rfl 6 false 51 (.bool true) rfl rfl (by kernel_rfl) (by intro h; cases h) rfl
     · exact zsk rfl 6 false 51 (.bool true) rfl rfl (by kernel_rfl) (by intro h; cases h) rfl
     · exact zsk rfl 6 false 51 (.bool true) rfl rfl (by kernel_rfl) (by intro h; cases h) rfl
     · exact step_pick rfl trivial _ _ _ true rfl (by kernel_rfl) (by kernel_rfl)
   intro W hW
   first | refine hK _ _ ?_ | refine (‹∀ (a : Act) (w : World), Code.wp Tryz.prog _ _ a w → _›) _ _ ?_ | skip
   simp only [finL, List.getD_cons_zero, List.getD_cons_succ, Nat.zero_add, Nat.reduceAdd, List.setIfInBounds_toArray, List.set_cons_zero, List.set_cons_succ]
   clear hK hqx hq5
   have hn := hW.get 0 rfl
   have c0 := hn.c0
   have c1 := hn.c1
   have c2 := hn.c2
   have z0 := hn.thaw 0
   have z1 := hn.thaw 1
   have z2 := hn.thaw 2
   have hx := hW.get 1 rfl
   have x0 := hx.c0
   have x1 := hx.c1
   have x2 := hx.c2
   have hlt := hn.lt
   have hbz := hW.j.below
   go_wp2
   exact retNt rfl rfl rfl rfl (hn.set 0 0 0) ⟨rfl, below3 hbz (by omega) _ _ _⟩
 have hiv : idV l (a : Int) = .tuple #[.int .i64 (l.idxOf (a : Int) : Int), .int .i64 0] := by rw [idV, if_pos ha]
 have hix : l.idxOf (a : Int) < l.length := List.idxOf_lt_length_of_mem ha
 cases hn : numR (D) with
 | none =>
   have e : RR = (0, 0, 0, 80) := by rw [HE.out, if_pos ha, hn]
   rw [e]
   rw [hn, numV] at hnm
   generalize l.idxOf (a : Int) = ix at *
   clear e ha h hn HE
   go_enter Tryz.func208, Tryz.ntmps208
   go_wp2_with (first | (go_at_call 227; (with_reducible refine (hc1).mono ?_); rintro e u1 ⟨rfl, hb1⟩; have hq1 : JQ w ad cap mb l [(w.heap.size + 1, 0, 0, 0)] u1 := hq0.carry hb1; have hU1 := hU0.carry hb1; have y1a := zca hq1.box 0; have y1b := zca hq1.box 1; have y1l := zla hq1.box; have hc2' := hc2 u1 hU1) | (go_at_call 227; (with_reducible refine (hc2').mono ?_); rintro e u2 ⟨rfl, hb2⟩; have hq2 : JQ w ad cap mb l [(w.heap.size + 1, 0, 0, 0)] u2 := hq1.carry hb2; have hU2 := hU1.carry hb2; have y2a := zca hq2.box 0; have y2b := zca hq2.box 1; have y2l := zla hq2.box; have hid := id_any u2 hq2.ros (Nat.le_of_lt (zla hq2.box)) (c := (a : Int)) (by omega) (by omega); rw [hiv] at hid) | (go_at_call 205; (with_reducible refine (hid).mono ?_); rintro e u3 ⟨rfl, hb3⟩; have hq3 : JQ w ad cap mb l [(w.heap.size + 1, 0, 0, 0)] u3 := hq2.carry hb3; have hU3 := hU2.carry hb3; have y3a := zca hq3.box 0; have y3b := zca hq3.box 1; have y3l := zla hq3.box) | (go_at_call 107; (with_reducible refine (hnm _).mono ?_); rintro e u4 ⟨rfl, hb4⟩; have hq4 : JQ w ad cap mb l [(w.heap.size + 1, 0, 0, 0)] u4 := hq3.carry hb4; have hU4 := hU3.carry hb4; have y4a := zca hq4.box 0; have y4b := zca hq4.box 1; have y4l := zla hq4.box) | (go_at_call 228; (with_reducible refine (hkd _).mono ?_); rintro e u5 ⟨rfl, hb5⟩; have hq5 : JQ w ad cap mb l [(w.heap.size + 1, 0, 0, 0)] u5 := hq4.carry hb5))
   have hqx : JQ w ad cap mb l [(w.heap.size + 1, 0, 0, 0), (u5.heap.size, ix, 0, kd (b : Int))] (u5.alloc (.cells #[.int .i64 ix, .int .i64 0, .int .i64 (kd (b : Int))] 124)) := ⟨zoa hq5.box, hq5.ros.alloc (Nat.le_of_lt (zla hq5.box)) _, by simpa using hq5.j.new (ix) (0) (kd (b : Int))⟩
   clear hc1 hc2 hc2' hid hnm hkd hq0 hq1 hq2 hq3 hq4 hU0 hU1 hU2 hU3 hU4
   rename_i Q0 K0 hK
   refine wp_region_any hmx ?_
   refine zwp (fun i__ => ([(.int .i64 0), (.bool false), (.bool false), (.int .i64 21), (.bool true), (.bool true), (.bool true), undef, undef, undef, undef, undef, (.bool true)] : List Value).getD i__ undef) (fun W => JQ w ad cap mb l [(w.heap.size + 1, 0, 0, 0), (u5.heap.size, ix, 0, kd (b : Int))] W) (by kernel_rfl) (hqx.carry (Below.refl _ _).drew) ?_ ?_
   · refine (sqc ?_ (sqc ?_ (sqc ?_ (sqc ?_ (sqc ?_ (sqc ?_ (sqc ?_ (sqc ?_ (sqc ?_ (sqc ?_ (sqc ?_ (sqc ?_ (sqc ?_ trivial)))))))))))))
     · exact zmv rfl trivial _ rfl (by kernel_rfl)
     · exact zbo rfl trivial _ _ _ _ _ _ _ rfl rfl rfl (fun w hw => (bin_neq .i64 _ _).trans rfl)
     · exact zmv rfl trivial _ rfl (by kernel_rfl)
     · exact zmv rfl ⟨_, rfl, by kernel_rfl⟩ _ rfl (by kernel_rfl)
     · exact zbo rfl ⟨_, rfl, by kernel_rfl⟩ _ _ _ _ _ _ _ rfl rfl rfl (fun w hw => (bin_neq .i64 _ _).trans rfl)
     · exact step_pick rfl trivial _ _ _ false rfl (by kernel_rfl) (by kernel_rfl)
     · exact zmv rfl trivial _ rfl (by kernel_rfl)
     · exact zsk rfl 6 false 51 (.bool true) rfl rfl (by kernel_rfl) (by intro h; cases h) rfl
     · exact zsk rfl 6 false 51 (.bool true) rfl rfl (by kernel_rfl) (by intro h; cases h) rfl
     · exact zsk rfl 6 false 51 (.bool true) rfl rfl (by kernel_rfl) (by intro h; cases h) rfl
     · exact zsk rfl 6 false 51 (.bool true) rfl rfl (by kernel_rfl) (by intro h; cases h) rfl
     · exact zsk rfl 6 false 51 (.bool true) rfl rfl (by kernel_rfl) (by intro h; cases h) rfl
     · exact step_pick rfl trivial _ _ _ true rfl (by kernel_rfl) (by kernel_rfl)
   intro W hW
   first | refine hK _ _ ?_ | refine (‹∀ (a : Act) (w : World), Code.wp Tryz.prog _ _ a w → _›) _ _ ?_ | skip
   simp only [finL, List.getD_cons_zero, List.getD_cons_succ, Nat.zero_add, Nat.reduceAdd, List.setIfInBounds_toArray, List.set_cons_zero, List.set_cons_succ]
   clear hK hqx hq5
   have hn := hW.get 0 rfl
   have c0 := hn.c0
   have c1 := hn.c1
   have c2 := hn.c2
   have z0 := hn.thaw 0
   have z1 := hn.thaw 1
   have z2 := hn.thaw 2
   have hx := hW.get 1 rfl
   have x0 := hx.c0
   have x1 := hx.c1
   have x2 := hx.c2
   have hlt := hn.lt
   have hbz := hW.j.below
   go_wp2
   exact retNt rfl rfl rfl rfl (hn.set 0 0 0) ⟨rfl, below3 hbz (by omega) _ _ _⟩
 | some v =>
   rw [hn, numV] at hnm
   have hvl := valid_any l.length (l.idxOf (a : Int)) v (kd b)
   by_cases hk : rk (v : Int) (kd b) = -1
   · have e : RR = (0, 0, 0, 80) := by rw [HE.out, if_pos ha, hn]; exact if_pos hk
     have ev : vl l.length (l.idxOf (a : Int)) v (kd b) = false := decide_eq_false (fun h => h.2.2.2.2 hk)
     rw [e]
     rw [ev] at hvl
     generalize l.idxOf (a : Int) = ix at *
     clear e ha h hn ev hk HE
     go_enter Tryz.func208, Tryz.ntmps208
     go_wp2_with (first | (go_at_call 227; (with_reducible refine (hc1).mono ?_); rintro e u1 ⟨rfl, hb1⟩; have hq1 : JQ w ad cap mb l [(w.heap.size + 1, 0, 0, 0)] u1 := hq0.carry hb1; have hU1 := hU0.carry hb1; have y1a := zca hq1.box 0; have y1b := zca hq1.box 1; have y1l := zla hq1.box; have hc2' := hc2 u1 hU1) | (go_at_call 227; (with_reducible refine (hc2').mono ?_); rintro e u2 ⟨rfl, hb2⟩; have hq2 : JQ w ad cap mb l [(w.heap.size + 1, 0, 0, 0)] u2 := hq1.carry hb2; have hU2 := hU1.carry hb2; have y2a := zca hq2.box 0; have y2b := zca hq2.box 1; have y2l := zla hq2.box; have hid := id_any u2 hq2.ros (Nat.le_of_lt (zla hq2.box)) (c := (a : Int)) (by omega) (by omega); rw [hiv] at hid) | (go_at_call 205; (with_reducible refine (hid).mono ?_); rintro e u3 ⟨rfl, hb3⟩; have hq3 : JQ w ad cap mb l [(w.heap.size + 1, 0, 0, 0)] u3 := hq2.carry hb3; have hU3 := hU2.carry hb3; have y3a := zca hq3.box 0; have y3b := zca hq3.box 1; have y3l := zla hq3.box) | (go_at_call 107; (with_reducible refine (hnm _).mono ?_); rintro e u4 ⟨rfl, hb4⟩; have hq4 : JQ w ad cap mb l [(w.heap.size + 1, 0, 0, 0)] u4 := hq3.carry hb4; have hU4 := hU3.carry hb4; have y4a := zca hq4.box 0; have y4b := zca hq4.box 1; have y4l := zla hq4.box) | (go_at_call 228; (with_reducible refine (hkd _).mono ?_); rintro e u5 ⟨rfl, hb5⟩; have hq5 : JQ w ad cap mb l [(w.heap.size + 1, 0, 0, 0)] u5 := hq4.carry hb5))
     have hqx : JQ w ad cap mb l [(w.heap.size + 1, 0, 0, 0), (u5.heap.size, ix, v, kd (b : Int))] (u5.alloc (.cells #[.int .i64 ix, .int .i64 v, .int .i64 (kd (b : Int))] 124)) := ⟨zoa hq5.box, hq5.ros.alloc (Nat.le_of_lt (zla hq5.box)) _, by simpa using hq5.j.new (ix) (v) (kd (b : Int))⟩
     clear hc1 hc2 hc2' hid hnm hkd hq0 hq1 hq2 hq3 hq4 hU0 hU1 hU2 hU3 hU4
     rename_i Q0 K0 hK
     refine wp_region_any hmx ?_
     refine zwp (fun i__ => ([(.int .i64 0), (.bool false), (.bool false), (.int .i64 0), (.bool false), (.bool false), (.bool false), (.agg #[.slice ad l.length cap, .map mb]), (.int .i64 l.length), (nt ix v (kd (b : Int))), (.bool false), (.bool true), (.bool true)] : List Value).getD i__ undef) (fun W => JQ w ad cap mb l [(w.heap.size + 1, 0, 0, 0), (u5.heap.size, ix, v, kd (b : Int))] W) (by kernel_rfl) (hqx.carry (Below.refl _ _).drew) ?_ ?_
     · refine (sqc ?_ (sqc ?_ (sqc ?_ (sqc ?_ (sqc ?_ (sqc ?_ (sqc ?_ (sqc ?_ (sqc ?_ (sqc ?_ (sqc ?_ (sqc ?_ (sqc ?_ trivial)))))))))))))
       · exact zmv rfl trivial _ rfl (by kernel_rfl)
       · exact zbo rfl trivial _ _ _ _ _ _ _ rfl rfl rfl (fun w hw => (bin_neq .i64 _ _).trans rfl)
       · exact zmv rfl trivial _ rfl (by kernel_rfl)
       · exact zmv rfl ⟨_, rfl, by kernel_rfl⟩ _ rfl (by kernel_rfl)
       · exact zbo rfl ⟨_, rfl, by kernel_rfl⟩ _ _ _ _ _ _ _ rfl rfl rfl (fun w hw => (bin_neq .i64 _ _).trans rfl)
       · exact step_pick rfl trivial _ _ _ false rfl (by kernel_rfl) (by kernel_rfl)
       · exact zmv rfl trivial _ rfl (by kernel_rfl)
       · exact zld rfl ⟨_, rfl, by kernel_rfl⟩ _ _ _ rfl rfl (fun w hw => load_ros hw.box)
       · exact zsc rfl ⟨_, rfl, by kernel_rfl⟩ 20 _ _ [(.agg #[.slice ad l.length cap, .map mb])] rfl (by kernel_rfl) (enters_of Tryz.func20 (by kernel_rfl) rfl) (fun w hw => (size_any w hw.ros).mono (by rintro e w' ⟨rfl, hb⟩; exact ⟨rfl, hw.carry hb⟩))
       · exact zld rfl ⟨_, rfl, by kernel_rfl⟩ _ _ _ rfl rfl (fun w hw => load_nt (hw.get 1 rfl))
       · exact zsc rfl ⟨_, rfl, by kernel_rfl⟩ 210 _ _ [(.int .i64 l.length), (nt ix v (kd (b : Int)))] rfl (by kernel_rfl) (enters_of Tryz.func210 (by kernel_rfl) rfl) (fun w hw => (hvl w).mono (by rintro e w' ⟨rfl, hb⟩; exact ⟨rfl, hw.carry hb⟩))
       · exact step_unOp rfl ⟨_, rfl, by kernel_rfl⟩ _ _ _ _ rfl rfl (fun w hw => un_not _ w)
       · exact step_pick rfl trivial _ _ _ false rfl (by kernel_rfl) (by kernel_rfl)
     intro W hW
     first | refine hK _ _ ?_ | refine (‹∀ (a : Act) (w : World), Code.wp Tryz.prog _ _ a w → _›) _ _ ?_ | skip
     simp only [finL, List.getD_cons_zero, List.getD_cons_succ, Nat.zero_add, Nat.reduceAdd, List.setIfInBounds_toArray, List.set_cons_zero, List.set_cons_succ]
     clear hK hqx hq5
     have hn := hW.get 0 rfl
     have c0 := hn.c0
     have c1 := hn.c1
     have c2 := hn.c2
     have z0 := hn.thaw 0
     have z1 := hn.thaw 1
     have z2 := hn.thaw 2
     have hx := hW.get 1 rfl
     have x0 := hx.c0
     have x1 := hx.c1
     have x2 := hx.c2
     have hlt := hn.lt
     have hbz := hW.j.below
     go_wp2
     exact retNt rfl rfl rfl rfl (hn.set 0 0 0) ⟨rfl, below3 hbz (by omega) _ _ _⟩
   · have e : RR = ((l.idxOf (a : Int) : Int), (v : Int), kd b, 0) := by rw [HE.out, if_pos ha, hn]; exact if_neg hk
     have ev : vl l.length (l.idxOf (a : Int)) v (kd b) = true := decide_eq_true ⟨by omega, by omega, by omega, by omega, hk⟩
     rw [e]
     rw [ev] at hvl
     generalize l.idxOf (a : Int) = ix at *
     clear e ha h hn ev hk HE
     go_enter Tryz.func208, Tryz.ntmps208
     go_wp2_with (first | (go_at_call 227; (with_reducible refine (hc1).mono ?_); rintro e u1 ⟨rfl, hb1⟩; have hq1 : JQ w ad cap mb l [(w.heap.size + 1, 0, 0, 0)] u1 := hq0.carry hb1; have hU1 := hU0.carry hb1; have y1a := zca hq1.box 0; have y1b := zca hq1.box 1; have y1l := zla hq1.box; have hc2' := hc2 u1 hU1) | (go_at_call 227; (with_reducible refine (hc2').mono ?_); rintro e u2 ⟨rfl, hb2⟩; have hq2 : JQ w ad cap mb l [(w.heap.size + 1, 0, 0, 0)] u2 := hq1.carry hb2; have hU2 := hU1.carry hb2; have y2a := zca hq2.box 0; have y2b := zca hq2.box 1; have y2l := zla hq2.box; have hid := id_any u2 hq2.ros (Nat.le_of_lt (zla hq2.box)) (c := (a : Int)) (by omega) (by omega); rw [hiv] at hid) | (go_at_call 205; (with_reducible refine (hid).mono ?_); rintro e u3 ⟨rfl, hb3⟩; have hq3 : JQ w ad cap mb l [(w.heap.size + 1, 0, 0, 0)] u3 := hq2.carry hb3; have hU3 := hU2.carry hb3; have y3a := zca hq3.box 0; have y3b := zca hq3.box 1; have y3l := zla hq3.box) | (go_at_call 107; (with_reducible refine (hnm _).mono ?_); rintro e u4 ⟨rfl, hb4⟩; have hq4 : JQ w ad cap mb l [(w.heap.size + 1, 0, 0, 0)] u4 := hq3.carry hb4; have hU4 := hU3.carry hb4; have y4a := zca hq4.box 0; have y4b := zca hq4.box 1; have y4l := zla hq4.box) | (go_at_call 228; (with_reducible refine (hkd _).mono ?_); rintro e u5 ⟨rfl, hb5⟩; have hq5 : JQ w ad cap mb l [(w.heap.size + 1, 0, 0, 0)] u5 := hq4.carry hb5))
     have hqx : JQ w ad cap mb l [(w.heap.size + 1, 0, 0, 0), (u5.heap.size, ix, v, kd (b : Int))] (u5.alloc (.cells #[.int .i64 ix, .int .i64 v, .int .i64 (kd (b : Int))] 124)) := ⟨zoa hq5.box, hq5.ros.alloc (Nat.le_of_lt (zla hq5.box)) _, by simpa using hq5.j.new (ix) (v) (kd (b : Int))⟩
     clear hc1 hc2 hc2' hid hnm hkd hq0 hq1 hq2 hq3 hq4 hU0 hU1 hU2 hU3 hU4
     rename_i Q0 K0 hK
     refine wp_region_any hmx ?_
     refine zwp (fun i__ => ([(.int .i64 0), (.bool false), (.bool false), (.int .i64 0), (.bool false), (.bool false), (.bool false), (.agg #[.slice ad l.length cap, .map mb]), (.int .i64 l.length), (nt ix v (kd (b : Int))), (.bool true), (.bool false), (.bool false)] : List Value).getD i__ undef) (fun W => JQ w ad cap mb l [(w.heap.size + 1, 0, 0, 0), (u5.heap.size, ix, v, kd (b : Int))] W) (by kernel_rfl) (hqx.carry (Below.refl _ _).drew) ?_ ?_
     · refine (sqc ?_ (sqc ?_ (sqc ?_ (sqc ?_ (sqc ?_ (sqc ?_ (sqc ?_ (sqc ?_ (sqc ?_ (sqc ?_ (sqc ?_ (sqc ?_ (sqc ?_ trivial)))))))))))))
       · exact zmv rfl trivial _ rfl (by kernel_rfl)
       · exact zbo rfl trivial _ _ _ _ _ _ _ rfl rfl rfl (fun w hw => (bin_neq .i64 _ _).trans rfl)
       · exact zmv rfl trivial _ rfl (by kernel_rfl)
       · exact zmv rfl ⟨_, rfl, by kernel_rfl⟩ _ rfl (by kernel_rfl)
       · exact zbo rfl ⟨_, rfl, by kernel_rfl⟩ _ _ _ _ _ _ _ rfl rfl rfl (fun w hw => (bin_neq .i64 _ _).trans rfl)
       · exact step_pick rfl trivial _ _ _ false rfl (by kernel_rfl) (by kernel_rfl)
       · exact zmv rfl trivial _ rfl (by kernel_rfl)
       · exact zld rfl ⟨_, rfl, by kernel_rfl⟩ _ _ _ rfl rfl (fun w hw => load_ros hw.box)
       · exact zsc rfl ⟨_, rfl, by kernel_rfl⟩ 20 _ _ [(.agg #[.slice ad l.length cap, .map mb])] rfl (by kernel_rfl) (enters_of Tryz.func20 (by kernel_rfl) rfl) (fun w hw => (size_any w hw.ros).mono (by rintro e w' ⟨rfl, hb⟩; exact ⟨rfl, hw.carry hb⟩))
       · exact zld rfl ⟨_, rfl, by kernel_rfl⟩ _ _ _ rfl rfl (fun w hw => load_nt (hw.get 1 rfl))
       · exact zsc rfl ⟨_, rfl, by kernel_rfl⟩ 210 _ _ [(.int .i64 l.length), (nt ix v (kd (b : Int)))] rfl (by kernel_rfl) (enters_of Tryz.func210 (by kernel_rfl) rfl) (fun w hw => (hvl w).mono (by rintro e w' ⟨rfl, hb⟩; exact ⟨rfl, hw.carry hb⟩))
       · exact step_unOp rfl ⟨_, rfl, by kernel_rfl⟩ _ _ _ _ rfl rfl (fun w hw => un_not _ w)
       · exact step_pick rfl trivial _ _ _ false rfl (by kernel_rfl) (by kernel_rfl)
     intro W hW
     first | refine hK _ _ ?_ | refine (‹∀ (a : Act) (w : World), Code.wp Tryz.prog _ _ a w → _›) _ _ ?_ | skip
     simp only [finL, List.getD_cons_zero, List.getD_cons_succ, Nat.zero_add, Nat.reduceAdd, List.setIfInBounds_toArray, List.set_cons_zero, List.set_cons_succ]
     clear hK hqx hq5
     have hn := hW.get 0 rfl
     have c0 := hn.c0
     have c1 := hn.c1
     have c2 := hn.c2
     have z0 := hn.thaw 0
     have z1 := hn.thaw 1
     have z2 := hn.thaw 2
     have hx := hW.get 1 rfl
     have x0 := hx.c0
     have x1 := hx.c1
     have x2 := hx.c2
     have hlt := hn.lt
     have hbz := hW.j.below
     go_wp2
     exact retNt rfl rfl rfl rfl (hn.set _ _ _) ⟨rfl, below3 hbz (by omega) _ _ _⟩
def rdD (l : List Int) (s : ByteArray) : Int × Int × Int × Int :=
 if 65536 < s.size then (0, 0, 0, 2)
 else if s.size = 0 ∨ looseB s 0 = true ∨ ¬ (rn s 0 : Int) ∈ l ∨ s.size ≤ wdt s 0 + 1 ∨ (byt s (wdt s 0) ≠ 63 ∧ byt s (wdt s 0) ≠ 33) then (0, 0, 0, 80)
 else match numR (s.extract (wdt s 0 + 1) s.size) with
  | none => (0, 0, 0, 80)
  | some v => if 1048576 < v then (0, 0, 0, 80) else ((l.idxOf (rn s 0 : Int) : Int), (v : Int), (if byt s (wdt s 0) = 63 then 2 else 1), 0)
theorem cls_repl : cls 65533 ≠ 4 := by decide
theorem dec_empty {s : ByteArray} (h : s.size = 0) : decodeGo s = (65533, 0) := if_pos h
theorem dec_full {s : ByteArray} (h : s.size ≠ 0) : decodeGo s = (rn s 0, wdt s 0) := if_neg h
theorem numR_empty {s : ByteArray} (h : s.size = 0) : numR s = none := if_pos (.inl h)
theorem cut_cut (s : ByteArray) (n : Nat) (h : n + 1 ≤ s.size) : (s.extract n s.size).extract 1 (s.extract n s.size).size = s.extract (n + 1) s.size := by
 apply ByteArray.ext
 simp only [ByteArray.data_extract, ByteArray.size_extract, Array.extract_extract]
 congr 1
 have : s.size = s.data.size := rfl
 omega
theorem rd_eq {l : List Int} (hS : Signs l) (s : ByteArray) : rdP l s = rdD l s := by
 unfold rdP rdD
 by_cases hg : 65536 < s.size
 · rw [if_pos hg, if_pos hg]
 rw [if_neg hg, if_neg hg]
 by_cases hz : s.size = 0
 · rw [dec_empty hz, if_neg (show ¬ ((65533 : Nat) : Int) ∈ l from fun h => cls_repl (hS.letter _ h)), if_pos (.inl hz)]
 rw [dec_full hz]
 dsimp only
 by_cases hm : (rn s 0 : Int) ∈ l
 case neg => rw [if_neg hm, if_pos (.inr (.inr (.inl hm)))]
 rw [if_pos hm]
 have hlo : looseB s 0 = false := by
   cases h : looseB s 0 with
   | false => rfl
   | true =>
     have := (of_decide_eq_true h).1
     rw [this] at hm
     exact absurd (hS.letter _ hm) cls_repl
 have hn1 := wdt_pos s 0
 have hnl := wdt_le s 0 (by omega)
 have hR : cutFr s = s.extract (wdt s 0) s.size := by unfold cutFr; rw [dec_full hz]
 have hRs : (cutFr s).size = s.size - wdt s 0 := by rw [hR]; simp
 by_cases hn : s.size ≤ wdt s 0 + 1
 · rw [if_pos (.inr (.inr (.inr (.inl hn))))]
   have hD : (cutFr (cutFr s)).size = 0 := by
     by_cases h0 : (cutFr s).size = 0
     · have : (cutFr (cutFr s)).size ≤ (cutFr s).size := by rw [cutFr]; simp
       omega
     · have h1 := wdt_pos (cutFr s) 0
       rw [cutFr, dec_full h0]
       simp
       omega
   rw [numR_empty hD]
 have h0 : (cutFr s).size ≠ 0 := by omega
 have hb0 : byt (cutFr s) 0 = byt s (wdt s 0) := by
   rw [hR, byt_extract s _ 0 (by omega)]
   rfl
 rw [dec_full h0]
 dsimp only
 by_cases hbb : byt s (wdt s 0) ≠ 63 ∧ byt s (wdt s 0) ≠ 33
 · rw [if_pos (.inr (.inr (.inr (.inr hbb))))]
   have hk : kd (rn (cutFr s) 0 : Int) = 0 := by
     by_cases h8 : byt (cutFr s) 0 < 128
     · have := (one_byte (cutFr s) 0 (by omega) h8).1
       rw [this, hb0, kd, if_neg (by omega), if_neg (by omega)]
     · have := more_byte (cutFr s) 0 (by omega) (by omega)
       rw [kd, if_neg (by omega), if_neg (by omega)]
   rw [hk]
   generalize cutFr (cutFr s) = D
   cases numR D with
   | none => rfl
   | some v => exact if_pos (rk_n (by decide) (by decide))
 have h8 : byt (cutFr s) 0 < 128 := by rw [hb0]; omega
 obtain ⟨o1, o2⟩ := one_byte (cutFr s) 0 (by omega) h8
 have hnc : ¬ (s.size = 0 ∨ looseB s 0 = true ∨ ¬ (rn s 0 : Int) ∈ l ∨ s.size ≤ wdt s 0 + 1 ∨ (byt s (wdt s 0) ≠ 63 ∧ byt s (wdt s 0) ≠ 33)) := by
   rintro (h | h | h | h | h)
   · exact hz h
   · rw [hlo] at h; cases h
   · exact h hm
   · exact hn h
   · exact hbb h
 rw [if_neg hnc]
 have hD : cutFr (cutFr s) = s.extract (wdt s 0 + 1) s.size := by
   rw [cutFr, dec_full h0, o2, hR]
   exact cut_cut s _ (by omega)
 rw [o1, hb0, hD]
 cases numR (s.extract (wdt s 0 + 1) s.size) with
 | none => rfl
 | some v =>
   dsimp only
   by_cases hx : 1048576 < v
   · rw [if_pos hx, if_pos (rk_lo (.inr (by omega)))]
   · rw [if_neg hx]
     by_cases hq : byt s (wdt s 0) = 63
     · rw [hq, if_pos rfl]
       have : rk (v : Int) (kd ((63 : Nat) : Int)) = 2 * v + 1 := rk_s (by omega)
       rw [this, if_neg (by omega)]
       rfl
     · have hq2 : byt s (wdt s 0) = 33 := by omega
       rw [hq2]
       have : rk (v : Int) (kd ((33 : Nat) : Int)) = 2 * v := rk_m (by omega)
       rw [this, if_neg (by omega)]
       rfl
end Go.Proofs.YtmahamdmapbilaaGreatDoor
namespace Go.Proofs.YtmahamdmapbilaaGreatDoor
open Go.Shelf Go.RowKit
def ren171 : Go.Shelf.Ren := ⟨fun | 171 => 102 | 243 => 158 | 246 => 189 | 283 => 213 | 284 => 214 | 285 => 215 | 286 => 216 | 129 => 234 | 317 => 233 | 318 => 235 | 319 => 236 | 320 => 237 | 337 => 193 | 338 => 246 | n => n, fun | 3 => 3 | 9 => 9 | 2 => 2 | 4 => 4 | 171 => 277 | 0 => 0 | 53 => 278 | 37 => 116 | 5 => 5 | 173 => 281 | 212 => 303 | 51 => 34 | 20 => 20 | 213 => 304 | 46 => 264 | 232 => 284 | 233 => 314 | n => n, fun | 17 => 4 | 18 => 0 | 19 => 5 | n => n⟩
theorem lays171 : LaysM.n171 Tryz.prog ren171 := {
 mixed := by kernel_rfl
 f129 := Tryz.func234.trans (congrArg some (by kernel_rfl))
 f171 := Tryz.func102.trans (congrArg some (by kernel_rfl))
 f243 := Tryz.func158.trans (congrArg some (by kernel_rfl))
 f246 := Tryz.func189.trans (congrArg some (by kernel_rfl))
 f283 := Tryz.func213.trans (congrArg some (by kernel_rfl))
 f284 := Tryz.func214.trans (congrArg some (by kernel_rfl))
 f285 := Tryz.func215.trans (congrArg some (by kernel_rfl))
 f286 := Tryz.func216.trans (congrArg some (by kernel_rfl))
 f317 := Tryz.func233.trans (congrArg some (by kernel_rfl))
 f318 := Tryz.func235.trans (congrArg some (by kernel_rfl))
 f319 := Tryz.func236.trans (congrArg some (by kernel_rfl))
 f320 := Tryz.func237.trans (congrArg some (by kernel_rfl))
 f337 := Tryz.func193.trans (congrArg some (by kernel_rfl))
 f338 := Tryz.func246.trans (congrArg some (by kernel_rfl))
 t0 := Tryz.underlying0
 a0 := Tryz.isAgg0
 z0 := Tryz.sizeOf0
 v0 := Tryz.zeroValue0
 t2 := Tryz.underlying2
 a2 := Tryz.isAgg2
 z2 := Tryz.sizeOf2
 v2 := Tryz.zeroValue2
 t3 := Tryz.underlying3
 a3 := Tryz.isAgg3
 z3 := Tryz.sizeOf3
 v3 := Tryz.zeroValue3
 t4 := Tryz.underlying4
 a4 := Tryz.isAgg4
 z4 := Tryz.sizeOf4
 v4 := Tryz.zeroValue4
 t5 := Tryz.underlying5
 a5 := Tryz.isAgg5
 z5 := Tryz.sizeOf5
 v5 := Tryz.zeroValue5
 t9 := Tryz.underlying9
 a9 := Tryz.isAgg9
 z9 := Tryz.sizeOf9
 v9 := Tryz.zeroValue9
 t20 := Tryz.underlying20
 a20 := Tryz.isAgg20
 z20 := Tryz.sizeOf20
 v20 := Tryz.zeroValue20
 t37 := Tryz.underlying116
 a37 := Tryz.isAgg116
 z37 := Tryz.sizeOf116
 v37 := Tryz.zeroValue116
 t46 := Tryz.underlying264
 a46 := Tryz.isAgg264
 z46 := Tryz.sizeOf264
 v46 := Tryz.zeroValue264
 t51 := Tryz.underlying34
 a51 := Tryz.isAgg34
 z51 := Tryz.sizeOf34
 v51 := Tryz.zeroValue34
 t53 := Tryz.underlying278
 a53 := Tryz.isAgg278
 z53 := Tryz.sizeOf278
 v53 := Tryz.zeroValue278
 t171 := Tryz.underlying277
 a171 := Tryz.isAgg277
 z171 := Tryz.sizeOf277
 v171 := Tryz.zeroValue277
 t173 := Tryz.underlying281
 a173 := Tryz.isAgg281
 z173 := Tryz.sizeOf281
 v173 := Tryz.zeroValue281
 t212 := Tryz.underlying303
 a212 := Tryz.isAgg303
 z212 := Tryz.sizeOf303
 v212 := Tryz.zeroValue303
 t213 := Tryz.underlying304
 a213 := Tryz.isAgg304
 z213 := Tryz.sizeOf304
 t232 := Tryz.underlying284
 a232 := Tryz.isAgg284
 z232 := Tryz.sizeOf284
 v232 := Tryz.zeroValue284
 t233 := Tryz.underlying314
 a233 := Tryz.isAgg314
 z233 := Tryz.sizeOf314
 v233 := Tryz.zeroValue314
 g17 := by kernel_rfl
 g18 := by kernel_rfl
 g19 := by kernel_rfl
 i0 := by kernel_rfl
 i2 := by kernel_rfl
 i3 := by kernel_rfl
 i4 := by kernel_rfl
 i5 := by kernel_rfl
 i9 := by kernel_rfl
 i20 := by kernel_rfl
 i37 := by kernel_rfl
 i46 := by kernel_rfl
 i51 := by kernel_rfl
 i53 := by kernel_rfl
 i171 := by kernel_rfl
 i173 := by kernel_rfl
 i212 := by kernel_rfl
 i232 := by kernel_rfl
 i233 := by kernel_rfl
 m17 := by kernel_rfl
 m18 := by kernel_rfl
 m19 := by kernel_rfl }
def Pow (W : World) : Prop := Lib.TabIs Tryz.prog W "internal/strconv.uint64pow10" .u64 Lib.pow10Tab
theorem Pow.carry {W W' : World} (h : Pow W) (hb : Below W.heap.size W W') : Pow W' :=
 Go.Joins.tab_stays (show Tryz.prog.globalNamed "internal/strconv.uint64pow10" = some (ren171.g 17) by kernel_rfl) h hb (Nat.le_refl _)
theorem itoa_any (n : Int) (h0 : 0 ≤ n) (h1 : n ≤ 9223372036854775807) (w : World) (hT : Pow w) : Calls Tryz.prog 102 #[.int .i64 n] w fun e w' => e = .returned (.string ⟨(Lib.itoa n).toArray⟩) ∧ Below w.heap.size w w' :=
 (Any.strconv_Itoa lays171 n (by omega) h1 w hT).mono (by rintro e w' ⟨rfl, k, os, rfl⟩; exact ⟨rfl, Lib.below_grow _ _ (Nat.le_refl _) k os⟩)
theorem pow_eq : (Rows.laid_internal_strconv_uint64pow10 : DataW Unit) = Lib.tabData .u64 Lib.pow10Tab := by kernel_rfl
theorem pow_met {L : List (String × DataW Unit)} {W : World} (h : laidMet Tryz.prog L W) (h1 : ("internal/strconv.uint64pow10", (Rows.laid_internal_strconv_uint64pow10 : DataW Unit)) ∈ L) : Pow W := by
 have r1 := Lib.laidMet.reads h h1
 rw [pow_eq] at r1
 obtain ⟨g, t, cs, fuel, p, hg, hty, hvar, hd⟩ := r1
 obtain rfl := Option.some.inj ((show Tryz.prog.globalNamed "internal/strconv.uint64pow10" = some (ren171.g 17) by kernel_rfl).symm.trans hg)
 obtain rfl := Option.some.inj ((show (Tryz.prog.globals[ren171.g 17]?).map (·.type) = some (ren171.t 212) by kernel_rfl).symm.trans hty)
 unfold Pow Lib.TabIs
 rw [hvar, ← Lib.cells_of_tab lays171.t212 lays171.t53 (by kernel_rfl) (by kernel_rfl) hd]
end Go.Proofs.YtmahamdmapbilaaGreatDoor
namespace Go.Proofs.YtmahamdmapbilaaGreatDoor
open Go.RowKit Go.Shelf Go.Lib
section
variable {G : Type} {P : Program} {md : Region.Mode} {ops : Array Oper} {Q : Exit → Act → World → Prop} {X0 : Array Value} {val : G → Nat → Value} {J : G → (Nat → Bool) → World → Prop} {i : Nat} {o : Oper}
theorem stepG_build2 (hi : ops[i]? = some o) (hg : o.guard = none) (t : TypeId) (x y : Operand) (v u : Value) (ho : o.op = .buildSlice t 2 #[(0, x), (1, y)]) (hx : ∀ g, rdo md ops X0 (val g) i o x = some v) (hy : ∀ g, rdo md ops X0 (val g) i o y = some u)
  (h : ∀ g d w, J g d w → d i = false → (∀ j oj, ops[j]? = some oj → d j = true → ∀ k, bindsOn md oj k = true → d k = true) → ∃ g' w', (Instr.buildSlice t 2 #[(0, v), (1, u)]).run P w = .ok (val g' i) w' ∧ (∀ j, d j = true → val g' j = val g j) ∧ J g' (fun j => if j = i then true else d j) w') : StepG P md ops Q X0 val J i o := by
 intro g d a w hJ hun hdep hcl hS
 have hS' : Seen md ops X0 (val g) i o a := hS
 obtain ⟨g', w', h1, h2, h3⟩ := h g d w hJ hun hcl
 unfold wpOp
 rw [hi]
 simp only [Region.wanted, hg, if_true]
 refine .inl ?_
 unfold Oper.wp execOp
 simp only [ho, List.map_toArray, List.map_cons, List.map_nil, hS'.eval (hx g), hS'.eval (hy g), Sem.run_bind, h1, Result.andThen_ok, Sem.run_pure, Oper.upon_value]
 exact ⟨g', h2, rfl, h3⟩
end
theorem bin_adds {x y : Operand} {w : World} (a b : ByteArray) (h : a.size + b.size ≤ 9223372036854775807) : binRun Tryz.prog .add 9 x y (.string a) (.string b) w = .ok (.string (a ++ b)) w := by
 simp [binRun, go_sem]
 exact h
def mkI (k : Int) : Int := if k = 2 then 63 else 33
def mkS (k : Int) : ByteArray := if k = 2 then ⟨#[63]⟩ else ⟨#[33]⟩
def prT (c t k : Int) : ByteArray := (⟨(Utf8.encode c).data.toList.toArray⟩ ++ mkS k) ++ ⟨(decDigits t.toNat).toArray⟩
theorem markOf_any (k : Int) (w : World) : Calls Tryz.prog 211 #[.int .i64 k] w fun e w' => e = .returned (.int .i32 (mkI k)) ∧ Below w.heap.size w w' := by
 unfold mkI
 by_cases h : k = 2
 · subst h
   go_enter Tryz.func211, Tryz.ntmps211
   go_wp2
   go_ret
   exact ⟨rfl, Below.refl _ _⟩
 · rw [if_neg h]
   go_enter Tryz.func211, Tryz.ntmps211
   go_wp2
   go_ret
   exact ⟨rfl, Below.refl _ _⟩
theorem txt_two_len (c m : Int) : (txt [c, m]).size ≤ 8 := by
 have e2 : (txt [c, m]).data.toList = (Utf8.encode c).data.toList ++ (Utf8.encode m).data.toList := by
  rw [txt_data]
  simp [wr]
 have h1 : (Utf8.encode c).data.toList.length ≤ 4 := by rw [enc_len]; exact (clen_pos _).2
 have h2 : (Utf8.encode m).data.toList.length ≤ 4 := by rw [enc_len]; exact (clen_pos _).2
 have h3 : (txt [c, m]).size = (txt [c, m]).data.toList.length := by simp
 rw [h3, e2, List.length_append]
 omega
theorem two_txt (c t k : Int) (ht : 0 ≤ t) : txt [c, mkI k] ++ ⟨(itoa t).toArray⟩ = prT c t k := by
 apply ByteArray.ext
 have e1 : itoa t = decDigits t.toNat := by unfold itoa; rw [if_neg (by omega)]
 have e2 : (txt [c, mkI k]).data.toList = (Utf8.encode c).data.toList ++ (Utf8.encode (mkI k)).data.toList := by
  rw [txt_data]
  simp [wr]
 have e3 : (Utf8.encode (mkI k)).data.toList = (mkS k).data.toList := by
  unfold mkI mkS
  by_cases h : k = 2
  · rw [if_pos h, if_pos h]; decide
  · rw [if_neg h, if_neg h]; decide
 apply Array.ext'
 unfold prT
 rw [e1]
 simp only [ByteArray.data_append, Array.toList_append, e2, e3]
def prV (l : List Int) (o t k : Int) : Value := if vl l.length o t k = true then .tuple #[.string (prT (l.getD o.toNat 0) t k), .int .i64 0] else .tuple #[.string ⟨#[]⟩, .int .i64 50]
theorem conv_two {W : World} {g : Nat} {c m : Int} (h : W.heap[g]? = some (.cells #[.int .i32 c, .int .i32 m] 21 (0, 0))) : (convert 22 9 (.slice (some ⟨g, 0, none⟩) 2 2)).run Tryz.prog W = .ok (.string (txt [c, m])) W := by
 rw [← runesBytes_txt]
 have h := run_convert_runes W 22 9 21 ⟨g, 0, none⟩ 2 2 [c, m] (Nat.le_refl _) Tryz.underlying22 Tryz.underlying21 Tryz.underlying9 (fun j hj => by
  have ha : (⟨g, 0, none⟩ : Addr).add j = ⟨g, j, none⟩ := by unfold Addr.add; split <;> simp_all
  rw [ha, zca h j]
  match j, hj with
  | 0, _ => rfl
  | 1, _ => rfl)
 exact h
theorem bs_two (W : World) (u v : Int) : (Instr.buildSlice 22 2 #[(0, .int .i32 u), (1, .int .i32 v)]).run Tryz.prog W = .ok (.slice (some ⟨W.heap.size, 0, none⟩) 2 2) (W.alloc (.cells #[.int .i32 u, .int .i32 v] 21)) := by
 go_simp
structure JW (w : World) (ad : Option Addr) (cap : Nat) (mb : Option Nat) (l : List Int) (o t k c m : Int) (g : Nat) (x4 : Bool) (W : World) : Prop where
 q : JQ w ad cap mb l [(w.heap.size + 1, o, t, k)] W
 p : Pow W
 s : x4 = true → W.heap[g]? = some (.cells #[.int .i32 c, .int .i32 m] 21 (0, 0))
theorem JW.carry {w : World} {ad : Option Addr} {cap : Nat} {mb : Option Nat} {l : List Int} {o t k c m : Int} {g : Nat} {x4 : Bool} {W W' : World} (h : JW w ad cap mb l o t k c m g x4 W) (hb : Below W.heap.size W W') : JW w ad cap mb l o t k c m g x4 W' :=
 ⟨h.q.carry hb, h.p.carry hb, fun e => (hb.block _ (zla (h.s e))).trans (h.s e)⟩
theorem JW.get {w : World} {ad : Option Addr} {cap : Nat} {mb : Option Nat} {l : List Int} {o t k c m : Int} {g : Nat} {x4 : Bool} {W : World} (h : JW w ad cap mb l o t k c m g x4 W) (i : Nat) {B : Nat} {o' t' k' : Int} (hx : ([(w.heap.size + 1, o, t, k)] : List (Nat × Int × Int × Int))[i]? = some (B, o', t', k')) : NB W B o' t' k' := h.q.get i hx
theorem JW.new {w : World} {ad : Option Addr} {cap : Nat} {mb : Option Nat} {l : List Int} {o t k c m : Int} {g : Nat} {x4 : Bool} {W : World} (h : JW w ad cap mb l o t k c m g x4 W) : JW w ad cap mb l o t k c m W.heap.size true (W.alloc (.cells #[.int .i32 c, .int .i32 m] 21)) :=
 ⟨h.q.carry (al1 _ _), h.p.carry (al1 _ _), fun _ => zna rfl⟩
theorem nprint_any {M : Nat} {v : Value} {l : List Int} (w : World) (h : Ros M w v l) (hM : M ≤ w.heap.size) (o t k : Int) (hT : Pow w) : Calls Tryz.prog 187 #[v, nt o t k] w fun e w' => e = .returned (prV l o t k) ∧ Below w.heap.size w w' := by
 have hmx := mixO
 obtain ⟨ad, cap, mb, rfl⟩ := h.form
 have hq0 : JQ w ad cap mb l [(w.heap.size + 1, o, t, k)] ((w.alloc (.cells #[.slice ad l.length cap, .map mb] 25)).alloc (.cells #[.int .i64 o, .int .i64 t, .int .i64 k] 124)) :=
  ⟨zoa (zna rfl), (h.below ((al2 w _ _).mono hM)).lift hM, by simpa using ((JL.nil w).old _).new o t k⟩
 have hP0 : Pow ((w.alloc (.cells #[.slice ad l.length cap, .map mb] 25)).alloc (.cells #[.int .i64 o, .int .i64 t, .int .i64 k] 124)) := hT.carry (al2 _ _ _)
 have hvl := valid_any l.length o t k
 unfold prV
 cases hv : vl l.length o t k with
 | false =>
  rw [if_neg (by simp)]
  rw [hv] at hvl
  go_enter Tryz.func187, Tryz.ntmps187
  unfold nt
  go_wp2
  rename_i Q0 K0 hK
  refine wp_region_any hmx ?_
  refine zwp (fun i__ => ([(.agg #[.slice ad l.length cap, .map mb]), (.int .i64 l.length), (nt o t k), (.bool false), (.bool true)] : List Value).getD i__ undef) (fun W => JQ w ad cap mb l [(w.heap.size + 1, o, t, k)] W) (by kernel_rfl) (hq0.carry (Below.refl _ _).drew) ?_ ?_
  · refine (sqc ?_ (sqc ?_ (sqc ?_ (sqc ?_ (sqc ?_ trivial)))))
    · exact zld rfl trivial _ _ _ rfl rfl (fun w hw => load_ros hw.box)
    · exact zsc rfl trivial 20 _ _ [(.agg #[.slice ad l.length cap, .map mb])] rfl (by kernel_rfl) (enters_of Tryz.func20 (by kernel_rfl) rfl) (fun w hw => (size_any w hw.ros).mono (by rintro e w' ⟨rfl, hb⟩; exact ⟨rfl, hw.carry hb⟩))
    · exact zld rfl trivial _ _ _ rfl rfl (fun w hw => load_nt (hw.get 0 rfl))
    · exact zsc rfl trivial 210 _ _ [(.int .i64 l.length), (nt o t k)] rfl (by kernel_rfl) (enters_of Tryz.func210 (by kernel_rfl) rfl) (fun w hw => (hvl w).mono (by rintro e w' ⟨rfl, hb⟩; exact ⟨rfl, hw.carry hb⟩))
    · exact step_unOp rfl trivial _ _ _ _ rfl rfl (fun w hw => un_not _ w)
  intro W hW
  first | refine hK _ _ ?_ | refine (‹∀ (a : Act) (w : World), Code.wp Tryz.prog _ _ a w → _›) _ _ ?_ | skip
  simp only [finL, List.getD_cons_zero, List.getD_cons_succ, Nat.zero_add, Nat.reduceAdd, List.setIfInBounds_toArray, List.set_cons_zero, List.set_cons_succ]
  go_wp2
  go_ret2
  exact ⟨rfl, hW.j.below⟩
 | true =>
  rw [if_pos rfl]
  rw [hv] at hvl
  obtain ⟨v1, v2, v3, v4, v5⟩ := of_decide_eq_true hv
  have ht := (rk_ok.1 v5).1
  have ht2 := (rk_ok.1 v5).2.1
  obtain ⟨n, rfl⟩ := Int.eq_ofNat_of_zero_le v3
  have hn : n < l.length := by omega
  have hsv : signV l (n : Int) = .tuple #[.int .i32 (l.getD n 0), .int .i64 0] := by
    unfold signV
    rw [if_neg (by omega), Int.toNat_natCast, List.getD_eq_getElem?_getD, List.getElem?_eq_getElem hn]
    rfl
  rw [Int.toNat_natCast]
  generalize l.getD n 0 = c at *
  have hmk := markOf_any k
  have htx := two_txt c t k ht
  have hsz : (txt [c, mkI k]).size + (⟨(itoa t).toArray⟩ : ByteArray).size ≤ 9223372036854775807 := by
    have h1 := itoa_length_le t (by omega) (by omega)
    have h2 := txt_two_len c (mkI k)
    have h3 : (⟨(itoa t).toArray⟩ : ByteArray).size = (itoa t).length := by simp [ByteArray.size]
    omega
  clear hv v1 v2 v3 v4 v5 h hT
  generalize mkI k = m at *
  generalize prT c t k = X at *
  go_enter Tryz.func187, Tryz.ntmps187
  unfold nt
  go_wp2
  rename_i Q0 K0 hK
  refine wp_region_any hmx ?_
  refine zwp (fun i__ => ([(.agg #[.slice ad l.length cap, .map mb]), (.int .i64 l.length), (nt (n : Int) t k), (.bool true), (.bool false)] : List Value).getD i__ undef) (fun W => JQ w ad cap mb l [(w.heap.size + 1, (n : Int), t, k)] W ∧ Pow W) (by kernel_rfl) ⟨hq0.carry (Below.refl _ _).drew, hP0.carry (Below.refl _ _).drew⟩ ?_ ?_
  · refine (sqc ?_ (sqc ?_ (sqc ?_ (sqc ?_ (sqc ?_ trivial)))))
    · exact zld rfl trivial _ _ _ rfl rfl (fun w hw => load_ros hw.1.box)
    · exact zsc rfl trivial 20 _ _ [(.agg #[.slice ad l.length cap, .map mb])] rfl (by kernel_rfl) (enters_of Tryz.func20 (by kernel_rfl) rfl) (fun w hw => (size_any w hw.1.ros).mono (by rintro e w' ⟨rfl, hb⟩; exact ⟨rfl, hw.1.carry hb, hw.2.carry hb⟩))
    · exact zld rfl trivial _ _ _ rfl rfl (fun w hw => load_nt (hw.1.get 0 rfl))
    · exact zsc rfl trivial 210 _ _ [(.int .i64 l.length), (nt (n : Int) t k)] rfl (by kernel_rfl) (enters_of Tryz.func210 (by kernel_rfl) rfl) (fun w hw => (hvl w).mono (by rintro e w' ⟨rfl, hb⟩; exact ⟨rfl, hw.1.carry hb, hw.2.carry hb⟩))
    · exact step_unOp rfl trivial _ _ _ _ rfl rfl (fun w hw => un_not _ w)
  intro W hW
  first | refine hK _ _ ?_ | refine (‹∀ (a : Act) (w : World), Code.wp Tryz.prog _ _ a w → _›) _ _ ?_ | skip
  simp only [finL, List.getD_cons_zero, List.getD_cons_succ, Nat.zero_add, Nat.reduceAdd, List.setIfInBounds_toArray, List.set_cons_zero, List.set_cons_succ]
  clear hK hq0 hP0
  have y0 := zca hW.1.box 0
  have y1 := zca hW.1.box 1
  have hx := hW.1.get 0 rfl
  have x0 := hx.c0
  have x1 := hx.c1
  have x2 := hx.c2
  have hsg := sign_any W hW.1.ros (Nat.le_of_lt (zla hW.1.box)) (n : Int)
  rw [hsv] at hsg
  go_wp2_with (go_at_call 155; (with_reducible refine hsg.mono ?_); rintro e u1 ⟨rfl, hb1⟩)
  have hj1 : JW w ad cap mb l (n : Int) t k c m 0 false u1 := ⟨hW.1.carry hb1, hW.2.carry hb1, fun e => by cases e⟩
  clear hW y0 y1 hx x0 x1 x2 hsg
  rename_i K1 hK
  refine wp_region_any hmx ?_
  refine zwt (G := (Nat)) (fun g i__ => ([(.int .i32 c), (.pointer (some ⟨w.heap.size + 1, 2, none⟩)), (.int .i64 k), (.int .i32 m), (.slice (some ⟨g, 0, none⟩) 2 2), (.string (txt [c, m])), (.pointer (some ⟨w.heap.size + 1, 1, none⟩)), (.int .i64 t), (.string ⟨(itoa t).toArray⟩), (.string X), (.string X), (Go.Value.int Go.IntKind.i64 0)] : List Value).getD i__ undef) (fun g d W => JW w ad cap mb l (n : Int) t k c m g (d 4) W) (by kernel_rfl) (0) (hj1.carry (Below.refl _ _).drew) ?step5 ?fin5
  case step5 =>
    intro i o ho
    have hi : i < 12 := getElem?_lt ho
    match i, hi, ho with
    | 0, _, ho => cases ho; exact zgo fun g d hdep => zmv rfl trivial _ rfl (by kernel_rfl)
    | 1, _, ho => cases ho; exact zgo fun g d hdep => zfa rfl trivial _ _ _ _ rfl rfl (fun w hw => field_n2 w _)
    | 2, _, ho => cases ho; exact zgo fun g d hdep => zld rfl trivial _ _ _ rfl rfl (fun w hw => load_n2 (hw.get 0 rfl))
    | 3, _, ho => cases ho; exact zgo fun g d hdep => zsc rfl trivial 211 _ _ [(.int .i64 k)] rfl (by kernel_rfl) (enters_of Tryz.func211 (by kernel_rfl) rfl) (fun w hw => (hmk w).mono (by rintro e w' ⟨rfl, hb⟩; exact ⟨rfl, hw.carry hb⟩))
    | 4, _, ho => cases ho; exact stepG_build2 rfl rfl _ _ _ (.int .i32 c) (.int .i32 m) rfl (fun _ => rfl) (fun _ => rfl) (fun g d W' hJ hun hcl => ⟨W'.heap.size, _, bs_two W' c m, (fun j hj => match j, hj with | 4, hj => (by rw [hj] at hun; cases hun)  | 0, _ => rfl | 1, _ => rfl | 2, _ => rfl | 3, _ => rfl | 5, _ => rfl | 6, _ => rfl | 7, _ => rfl | 8, _ => rfl | 9, _ => rfl | 10, _ => rfl | 11, _ => rfl | _ + 12, _ => rfl), hJ.new⟩)
    | 5, _, ho => cases ho; exact zgo fun g d hdep => step_convert rfl trivial _ _ _ _ rfl rfl (fun w hw => conv_two (hw.s (hdep 4 (by kernel_rfl))))
    | 6, _, ho => cases ho; exact zgo fun g d hdep => zfa rfl trivial _ _ _ _ rfl rfl (fun w hw => field_n1 w _)
    | 7, _, ho => cases ho; exact zgo fun g d hdep => zld rfl trivial _ _ _ rfl rfl (fun w hw => load_n1 (hw.get 0 rfl))
    | 8, _, ho => cases ho; exact zgo fun g d hdep => zsc rfl trivial 102 _ _ [(.int .i64 t)] rfl (by kernel_rfl) (enters_of Tryz.func102 (by kernel_rfl) rfl) (fun w hw => (itoa_any t ht (by omega) w hw.p).mono (by rintro e w' ⟨rfl, hb⟩; exact ⟨rfl, hw.carry hb⟩))
    | 9, _, ho => cases ho; exact zgo fun g d hdep => zbo rfl trivial _ _ _ _ _ _ _ rfl rfl rfl (fun w hw => (bin_adds _ _ hsz).trans (by rw [htx]; rfl))
    | 10, _, ho => cases ho; exact zgo fun g d hdep => zas rfl trivial _ rfl (by kernel_rfl) (fun _ h => h)
    | 11, _, ho => cases ho; exact zgo fun g d hdep => zas rfl trivial _ rfl (by kernel_rfl) (fun _ h => h)
  intro g d W hall hW
  first | refine hK _ _ ?_ | refine (‹∀ (a : Act) (w : World), Code.wp Tryz.prog _ _ a w → _›) _ _ ?_ | skip
  simp only [finL, List.getD_cons_zero, List.getD_cons_succ, Nat.zero_add, Nat.reduceAdd, List.setIfInBounds_toArray, List.set_cons_zero, List.set_cons_succ]
  go_wp2
  go_ret2
  exact ⟨rfl, hW.q.j.below⟩
def dgt (b : UInt8) : Prop := 48 ≤ b.toNat ∧ b.toNat ≤ 57
def valL (r : List UInt8) (v : Nat) : Nat := r.foldl (fun a b => a * 10 + (b.toNat - 48)) v
theorem valL_ge : ∀ (r : List UInt8) (v : Nat), v ≤ valL r v
 | [], v => Nat.le_refl v
 | b :: r, v => by have := valL_ge r (v * 10 + (b.toNat - 48)); simp only [valL, List.foldl_cons] at this ⊢; omega
theorem valL_snoc (r : List UInt8) (b : UInt8) (v : Nat) : valL (r ++ [b]) v = valL r v * 10 + (b.toNat - 48) := by simp [valL]
theorem byt_drop (s : ByteArray) (p : Nat) (h : p < s.size) : ∃ b r, s.data.toList.drop p = b :: r ∧ b.toNat = byt s p ∧ r = s.data.toList.drop (p + 1) := by
 have hl : p < s.data.toList.length := by simpa using h
 refine ⟨s.data.toList[p], s.data.toList.drop (p + 1), List.drop_eq_getElem_cons hl, ?_, rfl⟩
 rw [byt_get h]
 simp [ByteArray.getElem_eq_getElem_data]
theorem numAt_some (s : ByteArray) : ∀ (f p v u : Nat), s.size ≤ p + f → numAt s f p v = some u → (∀ b ∈ s.data.toList.drop p, dgt b) ∧ valL (s.data.toList.drop p) v = u
  | 0, p, v, u, hf, h => by
    have : s.data.toList.drop p = [] := List.drop_eq_nil_of_le (by have : s.data.toList.length = s.size := by simp
                                                                   omega)
    rw [this]
    exact ⟨(fun b hb => by cases hb), Option.some.inj h⟩
  | f + 1, p, v, u, hf, h => by
    by_cases hp : p < s.size
    · obtain ⟨b, r, e, hb, hr⟩ := byt_drop s p hp
      by_cases hd : 48 ≤ byt s p ∧ byt s p ≤ 57
      · by_cases hg : 1099511627776 < v * 10 + (byt s p - 48)
        · rw [numAt_great s f p v hp hd hg] at h
          cases h
        · rw [numAt_on s f p v hp hd hg] at h
          obtain ⟨h1, h2⟩ := numAt_some s f (p + 1) _ u (by omega) h
          rw [e, hr]
          refine ⟨fun x hx => ?_, ?_⟩
          · rcases List.mem_cons.1 hx with rfl | hx
            · unfold dgt
              rw [hb]
              exact hd
            · exact h1 x hx
          · rw [← h2]
            simp only [valL, List.foldl_cons, hb]
      · rw [numAt_no s f p v hp hd] at h
        cases h
    · rw [numAt_end s _ p v hp] at h
      have : s.data.toList.drop p = [] := List.drop_eq_nil_of_le (by have : s.data.toList.length = s.size := by simp
                                                                     omega)
      rw [this]
      exact ⟨(fun b hb => by cases hb), Option.some.inj h⟩
theorem dig_val : ∀ (n : Nat) (L : List UInt8), L.length = n → L ≠ [] → (∀ b ∈ L, dgt b) → (∀ b r, L = b :: r → r ≠ [] → b.toNat ≠ 48) → decDigits (valL L 0) = L ∧ (2 ≤ L.length → 1 ≤ valL L 0)
 | 0, L, hl, hn, _, _ => absurd (List.length_eq_zero_iff.1 hl) hn
 | n + 1, L, hl, hn, hd, hz => by
  have hsp : L = L.dropLast ++ [L.getLast hn] := (List.dropLast_concat_getLast hn).symm
  generalize L.dropLast = A at hsp
  generalize L.getLast hn = d at hsp
  subst hsp
  have hdd : dgt d := hd d (by simp)
  unfold dgt at hdd
  have ed : UInt8.ofNat (48 + (d.toNat - 48)) = d := by
    rw [show 48 + (d.toNat - 48) = d.toNat by omega]
    exact UInt8.ofNat_toNat
  rw [valL_snoc]
  by_cases hA : A = []
  · subst hA
    have hv : valL [] 0 = 0 := rfl
    rw [hv, Nat.zero_mul, Nat.zero_add]
    refine ⟨?_, fun h => by simp at h⟩
    rw [decDigits_one (by omega), ed]
    rfl
  · have hAl : A.length = n := by simpa using hl
    have hz' : ∀ b r, A = b :: r → b.toNat ≠ 48 := fun b r e => hz b (r ++ [d]) (by rw [e]; rfl) (by simp)
    obtain ⟨i1, i2⟩ := dig_val n A hAl hA (fun b hb => hd b (by simp [hb])) (fun b r e _ => hz' b r e)
    have hpos : 1 ≤ valL A 0 := by
     cases A with
     | nil => exact absurd rfl hA
     | cons b r =>
      have h1 := hz' b r rfl
      have h2 : dgt b := hd b (by simp)
      unfold dgt at h2
      have h3 := valL_ge r (0 * 10 + (b.toNat - 48))
      have h4 : valL (b :: r) 0 = valL r (0 * 10 + (b.toNat - 48)) := rfl
      omega
    refine ⟨?_, fun _ => by omega⟩
    rw [decDigits, dif_neg (by omega)]
    rw [show (valL A 0 * 10 + (d.toNat - 48)) / 10 = valL A 0 by omega, show (valL A 0 * 10 + (d.toNat - 48)) % 10 = d.toNat - 48 by omega, i1, ed]
theorem num_canon {D : ByteArray} {v : Nat} (h : numR D = some v) : D.data.toList = decDigits v := by
 unfold numR at h
 by_cases hc : D.size = 0 ∨ (byt D 0 = 48 ∧ 1 < D.size)
 · rw [if_pos hc] at h
   cases h
 rw [if_neg hc] at h
 obtain ⟨h1, h2⟩ := numAt_some D D.size 0 0 v (by omega) h
 rw [List.drop_zero] at h1 h2
 have hlen : D.data.toList.length = D.size := by simp
 obtain ⟨e, _⟩ := dig_val _ D.data.toList rfl (fun e => by rw [e] at hlen; simp at hlen; omega) h1 (fun b r e hr => by
   intro hb
   apply hc
   right
   obtain ⟨b', r', e', hb', _⟩ := byt_drop D 0 (by omega)
   rw [List.drop_zero, e] at e'
   obtain ⟨rfl, rfl⟩ := List.cons.inj e'
   refine ⟨by omega, ?_⟩
   rw [← hlen, e]
   have := List.length_pos_iff.2 hr
   simp
   omega)
 rw [h2] at e
 exact e.symm
theorem byt_at (pre : List UInt8) (b : UInt8) (r : List UInt8) : byt ⟨(pre ++ b :: r).toArray⟩ pre.length = b.toNat := by
 have h : pre.length < (⟨(pre ++ b :: r).toArray⟩ : ByteArray).size := by show pre.length < (pre ++ b :: r).toArray.size; simp
 have e : (⟨(pre ++ b :: r).toArray⟩ : ByteArray)[pre.length]'h = b := by
  show (pre ++ b :: r).toArray[pre.length]'_ = b
  simp
 rw [byt, dif_pos h, e]
theorem numAt_good : ∀ (r pre : List UInt8) (v : Nat), (∀ b ∈ r, dgt b) → valL r v ≤ 1099511627776 → numAt ⟨(pre ++ r).toArray⟩ r.length pre.length v = some (valL r v)
 | [], pre, v, _, _ => rfl
 | b :: r, pre, v, hd, hv => by
  have h1 := hd b (List.mem_cons_self ..)
  have hlt : pre.length < (⟨(pre ++ b :: r).toArray⟩ : ByteArray).size := by show pre.length < (pre ++ b :: r).toArray.size; simp
  have hb := byt_at pre b r
  have hg : ¬ 1099511627776 < v * 10 + (b.toNat - 48) := by have := valL_ge r (v * 10 + (b.toNat - 48)); simp only [valL, List.foldl_cons] at this hv; omega
  have ih := numAt_good r (pre ++ [b]) (v * 10 + (b.toNat - 48)) (fun c hc => hd c (List.mem_cons_of_mem _ hc)) hv
  rw [List.length_cons, numAt_on _ _ _ _ hlt (by rw [hb]; exact h1) (by rw [hb]; exact hg), hb]
  have hvc : valL (b :: r) v = valL r (v * 10 + (b.toNat - 48)) := rfl
  rw [hvc]
  simpa using ih
theorem dec_spec (v : Nat) : (∀ b ∈ decDigits v, dgt b) ∧ valL (decDigits v) 0 = v ∧ (∃ b r, decDigits v = b :: r ∧ (r ≠ [] → b.toNat ≠ 48) ∧ (1 ≤ v → b.toNat ≠ 48)) := by
 induction v using Nat.strongRecOn with
 | ind v ih =>
  have hd : (UInt8.ofNat (48 + v % 10)).toNat = 48 + v % 10 := ofNat8 _ (by omega)
  by_cases h : v < 10
  · rw [decDigits_one h]
    have hd2 : (UInt8.ofNat (48 + v)).toNat = 48 + v := ofNat8 _ (by omega)
    refine ⟨fun b hb => ?_, ?_, _, [], rfl, fun h => absurd rfl h, fun h1 => by omega⟩
    · rw [List.mem_singleton.1 hb]; unfold dgt; omega
    · simp only [valL, List.foldl_cons, List.foldl_nil, hd2]; omega
  · obtain ⟨i1, i2, b, r, e, _, i4⟩ := ih (v / 10) (by omega)
    rw [decDigits, dif_neg h]
    refine ⟨fun x hx => ?_, ?_, b, r ++ [UInt8.ofNat (48 + v % 10)], by rw [e]; rfl, fun _ => i4 (by omega), fun _ => i4 (by omega)⟩
    · rcases List.mem_append.1 hx with hx | hx
      · exact i1 x hx
      · rw [List.mem_singleton.1 hx]; unfold dgt; omega
    · rw [valL_snoc, i2, hd]; omega
theorem num_digits (v : Nat) (hv : v ≤ 1048576) : numR ⟨(decDigits v).toArray⟩ = some v := by
 obtain ⟨h1, h2, b, r, e, h3, _⟩ := dec_spec v
 have hsz : (⟨(decDigits v).toArray⟩ : ByteArray).size = (decDigits v).length := by show (decDigits v).toArray.size = _; simp
 have hb0 : byt ⟨(decDigits v).toArray⟩ 0 = b.toNat := by rw [e]; exact byt_at [] b r
 unfold numR
 rw [if_neg, hsz]
 · have := numAt_good (decDigits v) [] 0 h1 (by rw [h2]; omega)
   rw [h2] at this
   exact this
 · rw [hsz, hb0]
   rintro (c | ⟨c, d⟩)
   · rw [e] at c; simp at c
   · refine h3 (fun hr => ?_) c
     rw [e, hr] at d
     simp at d
theorem mkS_data (k : Int) : (mkS k).data.toList = [if k = 2 then 63 else 33] := by
 unfold mkS
 by_cases h : k = 2
 · rw [if_pos h, if_pos h]
 · rw [if_neg h, if_neg h]
theorem prT_data (c t k : Int) : (prT c t k).data.toList = (Utf8.encode c).data.toList ++ ([if k = 2 then 63 else 33] ++ decDigits t.toNat) := by
 unfold prT
 simp only [ByteArray.data_append, Array.toList_append, mkS_data, List.append_assoc]
theorem ba_ext {a b : ByteArray} (h : a.data.toList = b.data.toList) : a = b := ByteArray.ext (Array.ext' h)
theorem rd_print {l : List Int} (hS : Signs l) {o t k : Int} (h : vl l.length o t k = true) : rdD l (prT (l.getD o.toNat 0) t k) = (o, t, k, 0) ∧ (prT (l.getD o.toNat 0) t k).size ≤ 25 := by
 obtain ⟨v1, v2, v3, v4, v5⟩ := of_decide_eq_true h
 obtain ⟨t1, t2, tk⟩ := rk_ok.1 v5
 obtain ⟨n, rfl⟩ := Int.eq_ofNat_of_zero_le v3
 obtain ⟨x, rfl⟩ := Int.eq_ofNat_of_zero_le t1
 have hn : n < l.length := by omega
 have hget : l.getD n 0 = l[n] := by rw [List.getD_eq_getElem?_getD, List.getElem?_eq_getElem hn]; rfl
 have hmem : l[n] ∈ l := List.getElem_mem hn
 have hcode := code_letter (hS.letter _ hmem)
 rw [Int.toNat_natCast, hget]
 have hdat := prT_data l[n] (x : Int) k
 rw [Int.toNat_natCast] at hdat
 have hel := enc_len l[n]
 have hcl := clen_pos (code l[n])
 have hdl : (decDigits x).length ≤ 20 := by rw [decDigits_length]; exact nDigits_le20 x (by omega)
 have hdp : 1 ≤ (decDigits x).length := by rw [decDigits_length]; exact nDigits_pos x
 have hix : l.idxOf l[n] = n := hS.nodup.idxOf_getElem n hn
 generalize prT l[n] (x : Int) k = s at *
 have hlen : s.data.toList.length = s.size := by simp
 have hdec := dec_enc s [] _ l[n] (by rw [List.nil_append]; exact hdat)
 rw [List.length_nil] at hdec
 have hr : rn s 0 = code l[n] := by unfold rn; rw [hdec]
 have hw : wdt s 0 = clen (code l[n]) := by unfold wdt; rw [hdec]
 have hsz : s.size = clen (code l[n]) + (1 + (decDigits x).length) := by rw [← hlen, hdat]; simp [hel]; omega
 have hlo : looseB s 0 = false := loose_no_letter (by rw [hr, hcode]; exact hS.letter _ hmem)
 have hby : byt s (wdt s 0) = if k = 2 then 63 else 33 := by
   obtain ⟨b, r, e1, e2, _⟩ := byt_drop s (wdt s 0) (by omega)
   rw [hdat, hw, ← hel, List.drop_left] at e1
   obtain ⟨rfl, _⟩ := List.cons.inj e1
   rw [← e2]
   split <;> rfl
 have hex : s.extract (wdt s 0 + 1) s.size = ⟨(decDigits x).toArray⟩ := by
   apply ba_ext
   have hex : (s.extract (wdt s 0 + 1) s.size).data.toList = s.data.toList.drop (wdt s 0 + 1) := by
     rw [ByteArray.data_extract, Array.toList_extract, List.extract_eq_take_drop]
     apply List.take_of_length_le
     rw [List.length_drop]
     omega
   rw [hex, hdat, hw, ← hel, ← List.drop_drop, List.drop_left]
   rfl
 refine ⟨?_, by omega⟩
 unfold rdD
 rw [if_neg (by omega), if_neg, hex, num_digits x (by omega)]
 · dsimp only
   rw [if_neg (by omega), hr, hcode, hix, hby]
   rcases tk with rfl | rfl
   · rfl
   · rfl
 · rintro (e | e | e | e | ⟨e1, e2⟩)
   · omega
   · rw [hlo] at e; cases e
   · rw [hr, hcode] at e; exact e hmem
   · omega
   · rw [hby] at e1 e2
     split at e1
     · exact e1 rfl
     · rename_i hk
       rw [if_neg hk] at e2
       exact e2 rfl
end Go.Proofs.YtmahamdmapbilaaGreatDoor
