import Derived.Test.YtekjhcnaabpfmaaGreatDoorJnJ16
import Derived.Test.YtekjhcnaabpfmaaGreatDoorJnJ22
import Derived.Test.YtekjhcnaabpfmaaGreatDoorJnJ14
import Derived.Test.YtekjhcnaabpfmaaGreatDoorJnJ13
import Derived.LaidEql
import Derived.Deep.RegionWith
set_option maxHeartbeats 40000000
set_option maxRecDepth 100000
set_option linter.unusedVariables false
namespace Go.Proofs.YtekjhcnaabpfmaaGreatDoor
open Go.RowKit Go.Shelf Go.Lib
def dueN (l : List N3) (self : Int) : Option N3 :=
 if 0 ≤ self ∧ self < (l.length : Int) then
  match l[self.toNat]? with
  | some x => if x.2.2 = 2 ∧ x.2.1 < 1048576 then some (x.1, x.2.1 + 1, 1) else none
  | none => none
 else none
def dueV : Option N3 → Value
 | some x => .tuple #[nt x.1 x.2.1 x.2.2, .bool true]
 | none => .tuple #[nt 0 0 0, .bool false]
theorem dueN_out {l : List N3} {self : Int} (h : ¬ (0 ≤ self ∧ self < (l.length : Int))) : dueN l self = none := if_neg h
theorem dueN_in {l : List N3} {i : Nat} {x : N3} (h : l[i]? = some x) : dueN l (i : Int) = if x.2.2 = 2 ∧ x.2.1 < 1048576 then some (x.1, x.2.1 + 1, 1) else none := by
 have hi : i < l.length := (List.getElem?_eq_some_iff.1 h).1
 rw [dueN, if_pos ⟨by omega, by omega⟩]
 simp only [Int.toNat_natCast, h]
theorem due_no {w : World} (v : Value) (self E : Int) (hE : (E != 0) = true) (hat : ∀ W, Below w.heap.size w W → Calls Tryz.prog 149 #[v, .int .i64 self] W fun e w' => e = .returned (.tuple #[nt 0 0 0, .int .i64 E]) ∧ Below W.heap.size W w') (hv : v = .pointer none ∨ ∃ p, v = .pointer (some ⟨p, 0, none⟩)) : Calls Tryz.prog 125 #[.agg #[v, .int .i64 self]] w fun e w' => e = .returned (dueV none) ∧ Below w.heap.size w w' := by
 have h1 := hat _ (al2 w (.cells #[v, .int .i64 self] 206) (.cells #[.int .i64 0, .int .i64 0, .int .i64 0] 65))
 unfold dueV nt at *
 clear hat
 rcases hv with rfl | ⟨p, rfl⟩
 all_goals
  go_enter Tryz.func125, Tryz.ntmps125
  go_wp2_with (go_at_call 149; (with_reducible refine h1.mono ?_); rintro e u1 ⟨rfl, hb1⟩; have hn1 : NB u1 (w.heap.size + 1) 0 0 0 := NB.carry (NB.at _ _ _ (by simp)) hb1; obtain ⟨u2, hu2⟩ : ∃ u2, u1.alloc (.cells #[.int .i64 0, .int .i64 0, .int .i64 0] 65) = u2 := ⟨_, rfl⟩; have hb2 : Below u1.heap.size u1 u2 := (by rw [← hu2]; exact al1 _ _); have hm2 : NB u2 u1.heap.size 0 0 0 := (by rw [← hu2]; exact NB.new _ _ _ _); have c0 := hm2.c0; have c1 := hm2.c1; have c2 := hm2.c2; have z0 := hm2.thaw 0; have z1 := hm2.thaw 1; have z2 := hm2.thaw 2; obtain ⟨u3, hu3⟩ : ∃ u3, W3 u2 u1.heap.size 0 0 0 = u3 := ⟨_, rfl⟩; have hb3 : Below u1.heap.size u1 u3 := (by rw [← hu3]; exact below3 hb2 (Nat.le_refl _) _ _ _); have hn3 := hn1.carry hb3; unfold W3 at hu3; have d0 := hn3.c0; have d1 := hn3.c1; have d2 := hn3.c2; have y0 := hn3.thaw 0; have y1 := hn3.thaw 1; have y2 := hn3.thaw 2)
  exact retNt rfl rfl rfl rfl (hn3.set 0 0 0) ⟨rfl, below3 (bel2 (bel2 (al2 _ _ _) hb1) hb3) (by simp) _ _ _⟩
theorem due_at {w : World} (p : Nat) (self o t k a b c E : Int) (B : Bool) (hE : (E == 0) = B) (hat : ∀ W, Below w.heap.size w W → Calls Tryz.prog 149 #[.pointer (some ⟨p, 0, none⟩), .int .i64 self] W fun e w' => e = .returned (.tuple #[nt o t k, .int .i64 0]) ∧ Below W.heap.size W w') (hrp : ∀ W, Calls Tryz.prog 150 #[nt o t k] W fun e w' => e = .returned (.tuple #[nt a b c, .int .i64 E]) ∧ Below W.heap.size W w') : Calls Tryz.prog 125 #[.agg #[.pointer (some ⟨p, 0, none⟩), .int .i64 self]] w fun e w' => e = .returned (.tuple #[nt a b c, .bool B]) ∧ Below w.heap.size w w' := by
 have h1 := hat _ (al2 w (.cells #[.pointer (some ⟨p, 0, none⟩), .int .i64 self] 206) (.cells #[.int .i64 0, .int .i64 0, .int .i64 0] 65))
 unfold nt at *
 clear hat
 go_enter Tryz.func125, Tryz.ntmps125
 go_wp2_with (first | (go_at_call 149; (with_reducible refine h1.mono ?_); rintro e u1 ⟨rfl, hb1⟩; have hn1 : NB u1 (w.heap.size + 1) 0 0 0 := NB.carry (NB.at _ _ _ (by simp)) hb1; obtain ⟨u2, hu2⟩ : ∃ u2, u1.alloc (.cells #[.int .i64 o, .int .i64 t, .int .i64 k] 65) = u2 := ⟨_, rfl⟩; have hb2 : Below u1.heap.size u1 u2 := (by rw [← hu2]; exact al1 _ _); have hm2 : NB u2 u1.heap.size o t k := (by rw [← hu2]; exact NB.new _ _ _ _); have c0 := hm2.c0; have c1 := hm2.c1; have c2 := hm2.c2; have h2 := hrp u2) | (go_at_call 150; (with_reducible refine h2.mono ?_); rintro e u3 ⟨rfl, hb3⟩; obtain ⟨u4, hu4⟩ : ∃ u4, u3.alloc (.cells #[.int .i64 a, .int .i64 b, .int .i64 c] 65) = u4 := ⟨_, rfl⟩; have hb4 : Below u3.heap.size u3 u4 := (by rw [← hu4]; exact al1 _ _); have hm4 : NB u4 u3.heap.size a b c := (by rw [← hu4]; exact NB.new _ _ _ _); have hn4 := ((hn1.carry hb2).carry hb3).carry hb4; have c3 := hm4.c0; have c4 := hm4.c1; have c5 := hm4.c2; have d0 := hn4.c0; have d1 := hn4.c1; have d2 := hn4.c2; have y0 := hn4.thaw 0; have y1 := hn4.thaw 1; have y2 := hn4.thaw 2))
 exact retNt rfl rfl rfl rfl (hn4.set a b c) ⟨rfl, below3 (bel2 (bel2 (bel2 (bel2 (al2 _ _ _) hb1) hb2) hb3) hb4) (by simp) _ _ _⟩
theorem due_any {w : World} {p g : Nat} {l : List N3} (h : Bk w p g l) (hb : Bok l) (self : Int) : Calls Tryz.prog 125 #[.agg #[.pointer (some ⟨p, 0, none⟩), .int .i64 self]] w fun e w' => e = .returned (dueV (dueN l self)) ∧ Below w.heap.size w w' := by
 by_cases hi : 0 ≤ self ∧ self < (l.length : Int)
 · obtain ⟨i, rfl⟩ : ∃ i : Nat, self = (i : Int) := ⟨self.toNat, by omega⟩
   obtain ⟨⟨o, t, k⟩, hx⟩ : ∃ x, l[i]? = some x := ⟨_, List.getElem?_eq_getElem (by omega)⟩
   have hr : rk t k ≠ -1 := (hb i _ hx).2
   have ht : ¬ (t < 0 ∨ 1048576 < t) := fun e => hr (rk_lo e)
   have hat : ∀ W, Below w.heap.size w W → Calls Tryz.prog 149 #[.pointer (some ⟨p, 0, none⟩), .int .i64 (i : Int)] W fun e w' => e = .returned (.tuple #[nt o t k, .int .i64 0]) ∧ Below W.heap.size W w' := fun W hW => by
     have := at_any (h.carry hW) (i : Int)
     rw [atV_in hx] at this
     exact this
   have hrp := reply_any o t k
   rw [dueN_in hx]
   dsimp only
   by_cases h2 : k = 2
   · by_cases h3 : t = 1048576
     · rw [if_neg (by omega)]
       rw [rpV, if_neg (fun e => e.elim hr (fun e => e h2)), if_pos h3] at hrp
       exact due_at p _ o t k 0 0 0 120 false (by decide) hat hrp
     · rw [if_pos ⟨h2, by omega⟩]
       rw [rpV, if_neg (fun e => e.elim hr (fun e => e h2)), if_neg h3] at hrp
       exact due_at p _ o t k o (t + 1) 1 0 true (by decide) hat hrp
   · rw [if_neg (fun e => h2 e.1)]
     rw [rpV, if_pos (.inr h2)] at hrp
     exact due_at p _ o t k 0 0 0 50 false (by decide) hat hrp
 · rw [dueN_out hi]
   refine due_no _ _ 30 (by decide) (fun W hW => ?_) (.inr ⟨p, rfl⟩)
   have := at_any (h.carry hW) self
   rw [atV, if_neg hi] at this
   exact this
section
variable {W V : World} {q p : Nat} {P : Option Addr} {b : Bo} {d : Dst} {t : Int}
def JR2 (W0 : World) (q p : Nat) (b : Bo) (d : Dst) (t : Int) (W : World) : Prop := Bt W q (some ⟨p, 0, none⟩) b ∧ Dk W p d ∧ W.heap[W0.heap.size]? = some (.cells #[.int .i64 t] 3 (0, 0)) ∧ Tq p q W0 W
theorem JR2.drew {W0 : World} (h : JR2 W0 q p b d t W) : JR2 W0 q p b d t W.drew := ⟨h.1.carry (Below.refl _ _).drew, h.2.1.carry (Below.refl _ _).drew, h.2.2.1, h.2.2.2.trans (Tq.of _ _ (Below.refl _ _).drew)⟩
theorem braise_any {Wi : World} (h : Bt Wi q (some ⟨p, 0, none⟩) b) (hd : Dk Wi p d) (hf : Fz d) (hw0 : 0 ≤ d.writes) (hw : d.writes ≤ 4611686018427387903) (t : Int) : Calls Tryz.prog 151 #[.pointer (some ⟨q, 0, none⟩), .int .i64 t] Wi fun e w' => e = .returned (.int .i64 (dRa d b t).e) ∧ Dk w' p (dRa d b t).d ∧ Bt w' q (some ⟨p, 0, none⟩) (dRa d b t).b ∧ Tq p q Wi w' := by
 have hmx := mixO
 obtain ⟨w1, hw1⟩ : ∃ w1, Wi.alloc (.cells #[.int .i64 t] 3) = w1 := ⟨_, rfl⟩
 have hb1 : Below Wi.heap.size Wi w1 := by rw [← hw1]; exact al1'Z _ _
 have hx1 : w1.heap[Wi.heap.size]? = some (.cells #[.int .i64 t] 3 (0, 0)) := by rw [← hw1]; exact zna rfl
 have cx1 := zca hx1 0
 simp at cx1
 have h1 := h.carry hb1
 have hd1 := hd.carry hb1
 have hre := ready_anyZ h1 hd1
 have hq0 := zla h
 have hp0 := hd.lt
 by_cases ho : d.off = true
 case pos =>
   rw [if_pos ho] at hre
   rw [dRa, if_pos ho]
   go_enter Tryz.func151, Tryz.ntmps151
   go_wp2_with (go_at_call 57; (with_reducible refine hre.mono ?_); rintro e u ⟨rfl, hu⟩; obtain rfl := hu.symm)
   go_ret
   exact ⟨rfl, hd1, h1, Tq.of _ _ hb1⟩
 rw [if_neg ho] at hre
 by_cases hn : t < 0
 case pos =>
   rw [dRa, if_neg ho, if_pos hn]
   go_enter Tryz.func151, Tryz.ntmps151
   go_wp2_with (go_at_call 57; (with_reducible refine hre.mono ?_); rintro e u ⟨rfl, hu⟩; obtain rfl := hu.symm)
   go_ret
   exact ⟨rfl, hd1, h1, Tq.of _ _ hb1⟩
 by_cases hm : 1048576 < t
 case pos =>
   rw [dRa, if_neg ho, if_neg hn, if_pos hm]
   go_enter Tryz.func151, Tryz.ntmps151
   go_wp2_with (go_at_call 57; (with_reducible refine hre.mono ?_); rintro e u ⟨rfl, hu⟩; obtain rfl := hu.symm)
   go_ret
   exact ⟨rfl, hd1, h1, Tq.of _ _ hb1⟩
 have HM : Hid (¬ 1048576 < t) := hm
 have HN : Hid (¬ t < 0) := hn
 by_cases hl : t ≤ b.ta
 case pos =>
   rw [dRa, if_neg ho, if_neg hn, if_neg hm, if_pos hl]
   go_enter Tryz.func151, Tryz.ntmps151
   go_wp2_with (go_at_call 57; (with_reducible refine hre.mono ?_); rintro e u ⟨rfl, hu⟩; obtain rfl := hu.symm)
   rename_i hK
   refine wp_region_any hmx ?_
   refine zwp (fun i__ => ([(.int .i64 t), (.pointer (some ⟨q, 0, none⟩)), (.pointer (some ⟨q, 0, none⟩)), (.pointer (some ⟨q, 5, none⟩)), (.int .i64 b.ta), (.bool true)] : List Value).getD i__ undef) (JR2 Wi q p b d t) (by kernel_rfl) (JR2.drew ⟨h1, hd1, hx1, Tq.of _ _ hb1⟩) ?_ ?_
   · refine (sqc ?_ (sqc ?_ (sqc ?_ (sqc ?_ (sqc ?_ (sqc ?_ trivial))))))
     · exact zld rfl trivial _ _ _ rfl rfl (fun v hw => load_i64Z (by rw [zca hw.2.2.1]; rfl))
     · exact zmv rfl trivial _ rfl (by kernel_rfl)
     · exact znc rfl trivial _ _ _ rfl rfl rfl
     · exact zfa rfl trivial _ _ _ _ rfl rfl (fun v hw => (field_bt v _).2.2)
     · exact zld rfl trivial _ _ _ rfl rfl (fun v hw => load_i64Z hw.1.c.2.2.2.2)
     · exact zbo rfl trivial _ _ _ _ _ _ _ rfl rfl rfl (fun v hw => by have e1 : decide (t ≤ b.ta) = true := decide_eq_true hl; rw [← e1]; exact bin_leq _ _ _)
   intro W hW
   first | refine hK _ _ ?_ | refine (‹∀ (a : Act) (w : World), Code.wp Tryz.prog _ _ a w → _›) _ _ ?_
   simp only [finL, List.getD_cons_zero, List.getD_cons_succ, Nat.zero_add, Nat.reduceAdd, List.setIfInBounds_toArray, List.set_cons_zero, List.set_cons_succ]
   clear hK
   go_wp2
   go_ret
   exact ⟨rfl, hW.2.1, hW.1, hW.2.2.2⟩
 have HL : Hid (¬ t ≤ b.ta) := hl
 by_cases hg : b.r.ta < t
 case neg =>
   have HG : Hid (¬ b.r.ta < t) := hg
   rw [dRa, if_neg ho, if_neg hn, if_neg hm, if_neg hl, if_neg hg]
   clear hl hg
   go_enter Tryz.func151, Tryz.ntmps151
   go_wp2_with (go_at_call 57; (with_reducible refine hre.mono ?_); rintro e u ⟨rfl, hu⟩; obtain rfl := hu.symm)
   rename_i hK
   refine wp_region_any hmx ?_
   refine zwp (fun i__ => ([(.int .i64 t), (.pointer (some ⟨q, 0, none⟩)), (.pointer (some ⟨q, 0, none⟩)), (.pointer (some ⟨q, 5, none⟩)), (.int .i64 b.ta), (.bool false)] : List Value).getD i__ undef) (JR2 Wi q p b d t) (by kernel_rfl) (JR2.drew ⟨h1, hd1, hx1, Tq.of _ _ hb1⟩) ?_ ?_
   · refine (sqc ?_ (sqc ?_ (sqc ?_ (sqc ?_ (sqc ?_ (sqc ?_ trivial))))))
     · exact zld rfl trivial _ _ _ rfl rfl (fun v hw => load_i64Z (by rw [zca hw.2.2.1]; rfl))
     · exact zmv rfl trivial _ rfl (by kernel_rfl)
     · exact znc rfl trivial _ _ _ rfl rfl rfl
     · exact zfa rfl trivial _ _ _ _ rfl rfl (fun v hw => (field_bt v _).2.2)
     · exact zld rfl trivial _ _ _ rfl rfl (fun v hw => load_i64Z hw.1.c.2.2.2.2)
     · exact zbo rfl trivial _ _ _ _ _ _ _ rfl rfl rfl (fun v hw => by have e1 : decide (t ≤ b.ta) = false := decide_eq_false (by have := HL.out; omega); rw [← e1]; exact bin_leq _ _ _)
   intro W hW
   first | refine hK _ _ ?_ | refine (‹∀ (a : Act) (w : World), Code.wp Tryz.prog _ _ a w → _›) _ _ ?_
   simp only [finL, List.getD_cons_zero, List.getD_cons_succ, Nat.zero_add, Nat.reduceAdd, List.setIfInBounds_toArray, List.set_cons_zero, List.set_cons_succ]
   clear hK
   have hW8 := hW
   clear hW
   go_wp2
   rename_i hK
   refine wp_region_any hmx ?_
   refine zwp (fun i__ => ([(.int .i64 t), (.pointer (some ⟨q, 0, none⟩)), (.pointer (some ⟨q, 0, none⟩)), (.pointer (some ⟨q, 0, none⟩)), (.pointer (some ⟨q, 0, none⟩)), (.pointer (some ⟨q, 2, none⟩)), (.int .i64 b.r.ta), (.bool false)] : List Value).getD i__ undef) (JR2 Wi q p b d t) (by kernel_rfl) hW8.drew ?_ ?_
   · refine (sqc ?_ (sqc ?_ (sqc ?_ (sqc ?_ (sqc ?_ (sqc ?_ (sqc ?_ (sqc ?_ trivial))))))))
     · exact zld rfl trivial _ _ _ rfl rfl (fun v hw => load_i64Z (by rw [zca hw.2.2.1]; rfl))
     · exact zmv rfl trivial _ rfl (by kernel_rfl)
     · exact znc rfl trivial _ _ _ rfl rfl rfl
     · exact zfa rfl trivial _ _ _ _ rfl rfl (fun v hw => (field_bt v _).1)
     · exact zfa rfl trivial _ _ _ _ rfl rfl (fun v hw => (field_res v _).1)
     · exact zfa rfl trivial _ _ _ _ rfl rfl (fun v hw => (field_R v _).2.2)
     · exact zld rfl trivial _ _ _ rfl rfl (fun v hw => load_i64Z hw.1.c.2.2.1)
     · exact zbo rfl trivial _ _ _ _ _ _ _ rfl rfl rfl (fun v hw => by have e1 : decide (t > b.r.ta) = false := decide_eq_false (by have := HG.out; omega); rw [← e1]; exact bin_gtr _ _ _)
   intro W hW
   first | refine hK _ _ ?_ | refine (‹∀ (a : Act) (w : World), Code.wp Tryz.prog _ _ a w → _›) _ _ ?_
   simp only [finL, List.getD_cons_zero, List.getD_cons_succ, Nat.zero_add, Nat.reduceAdd, List.setIfInBounds_toArray, List.set_cons_zero, List.set_cons_succ]
   clear hK hW8
   have cx := zca hW.2.2.1 0
   simp at cx
   have c5 := hW.1.c.2.2.2.2
   have t5 := zta hW.1 5
   obtain ⟨hB2, hT2⟩ := hW.1.set5 t
   have hD2 := Dk.tq hW.1 hW.2.1 hT2
   obtain ⟨Y, hY⟩ : ∃ Y, W.setCell ⟨q, 5, none⟩ (.int .i64 t) = Y := ⟨_, rfl⟩
   rw [hY] at hB2 hT2 hD2
   go_wp2
   go_ret
   exact ⟨rfl, hD2, hB2, hW.2.2.2.trans (Tq.tp2 _ hT2)⟩
 have HG : Hid (b.r.ta < t) := hg
 rw [dRa, if_neg ho, if_neg hn, if_neg hm, if_neg hl, if_pos hg]
 obtain ⟨E, hE⟩ : ∃ E, (dSv d (rRa b t)).1 = E := ⟨_, rfl⟩
 obtain ⟨D1, hD1⟩ : ∃ D1, (dSv d (rRa b t)).2 = D1 := ⟨_, rfl⟩
 have HE : Hid ((dSv d (rRa b t)).1 = E) := hE
 have HD : Hid ((dSv d (rRa b t)).2 = D1) := hD1
 rw [hE, hD1]
 clear hE hD1 hl hg
 go_enter Tryz.func151, Tryz.ntmps151
 go_wp2_with (go_at_call 57; (with_reducible refine hre.mono ?_); rintro e u ⟨rfl, hu⟩; obtain rfl := hu.symm)
 rename_i hK
 refine wp_region_any hmx ?_
 refine zwp (fun i__ => ([(.int .i64 t), (.pointer (some ⟨q, 0, none⟩)), (.pointer (some ⟨q, 0, none⟩)), (.pointer (some ⟨q, 5, none⟩)), (.int .i64 b.ta), (.bool false)] : List Value).getD i__ undef) (JR2 Wi q p b d t) (by kernel_rfl) (JR2.drew ⟨h1, hd1, hx1, Tq.of _ _ hb1⟩) ?_ ?_
 · refine (sqc ?_ (sqc ?_ (sqc ?_ (sqc ?_ (sqc ?_ (sqc ?_ trivial))))))
   · exact zld rfl trivial _ _ _ rfl rfl (fun v hw => load_i64Z (by rw [zca hw.2.2.1]; rfl))
   · exact zmv rfl trivial _ rfl (by kernel_rfl)
   · exact znc rfl trivial _ _ _ rfl rfl rfl
   · exact zfa rfl trivial _ _ _ _ rfl rfl (fun v hw => (field_bt v _).2.2)
   · exact zld rfl trivial _ _ _ rfl rfl (fun v hw => load_i64Z hw.1.c.2.2.2.2)
   · exact zbo rfl trivial _ _ _ _ _ _ _ rfl rfl rfl (fun v hw => by have e1 : decide (t ≤ b.ta) = false := decide_eq_false (by have := HL.out; omega); rw [← e1]; exact bin_leq _ _ _)
 intro W hW
 first | refine hK _ _ ?_ | refine (‹∀ (a : Act) (w : World), Code.wp Tryz.prog _ _ a w → _›) _ _ ?_
 simp only [finL, List.getD_cons_zero, List.getD_cons_succ, Nat.zero_add, Nat.reduceAdd, List.setIfInBounds_toArray, List.set_cons_zero, List.set_cons_succ]
 clear hK
 have hW8 := hW
 clear hW
 go_wp2
 rename_i hK
 refine wp_region_any hmx ?_
 refine zwp (fun i__ => ([(.int .i64 t), (.pointer (some ⟨q, 0, none⟩)), (.pointer (some ⟨q, 0, none⟩)), (.pointer (some ⟨q, 0, none⟩)), (.pointer (some ⟨q, 0, none⟩)), (.pointer (some ⟨q, 2, none⟩)), (.int .i64 b.r.ta), (.bool true)] : List Value).getD i__ undef) (JR2 Wi q p b d t) (by kernel_rfl) hW8.drew ?_ ?_
 · refine (sqc ?_ (sqc ?_ (sqc ?_ (sqc ?_ (sqc ?_ (sqc ?_ (sqc ?_ (sqc ?_ trivial))))))))
   · exact zld rfl trivial _ _ _ rfl rfl (fun v hw => load_i64Z (by rw [zca hw.2.2.1]; rfl))
   · exact zmv rfl trivial _ rfl (by kernel_rfl)
   · exact znc rfl trivial _ _ _ rfl rfl rfl
   · exact zfa rfl trivial _ _ _ _ rfl rfl (fun v hw => (field_bt v _).1)
   · exact zfa rfl trivial _ _ _ _ rfl rfl (fun v hw => (field_res v _).1)
   · exact zfa rfl trivial _ _ _ _ rfl rfl (fun v hw => (field_R v _).2.2)
   · exact zld rfl trivial _ _ _ rfl rfl (fun v hw => load_i64Z hw.1.c.2.2.1)
   · exact zbo rfl trivial _ _ _ _ _ _ _ rfl rfl rfl (fun v hw => by have e1 : decide (t > b.r.ta) = true := decide_eq_true (by have := HG.out; omega); rw [← e1]; exact bin_gtr _ _ _)
 intro W hW
 first | refine hK _ _ ?_ | refine (‹∀ (a : Act) (w : World), Code.wp Tryz.prog _ _ a w → _›) _ _ ?_
 simp only [finL, List.getD_cons_zero, List.getD_cons_succ, Nat.zero_add, Nat.reduceAdd, List.setIfInBounds_toArray, List.set_cons_zero, List.set_cons_succ]
 clear hK hW8
 have cx := zca hW.2.2.1 0
 simp at cx
 have hsv := bsave_R hW.1 hW.2.1 hf hw0 hw (raise1_any b.r hW.2.2.1 (by have h1 := HM.out; have h2 := HN.out; omega))
 change Calls Tryz.prog _ _ W (fun e w' => e = .returned (.int .i64 (dSv d (rRa b t)).1) ∧ Dk w' p (dSv d (rRa b t)).2 ∧ Bt w' q (some ⟨p, 0, none⟩) (svB b (dSv d (rRa b t)).1 (rRa b t)) ∧ Tq p q W w') at hsv
 rw [HE.out, HD.out] at hsv
 clear HE HD
 by_cases hz : E = 0
 case neg =>
   rw [svB, if_neg hz] at hsv
   go_wp2_with (go_at_call 53; (with_reducible refine hsv.mono ?_); rintro e u1 ⟨rfl, hu1, hu2, hu3⟩)
   go_ret
   exact ⟨rfl, hu1, hu2, hW.2.2.2.trans hu3⟩
 subst hz
 rw [svB, if_pos rfl] at hsv
 go_wp2_with (go_at_call 53; (with_reducible refine hsv.mono ?_); rintro e u1 ⟨rfl, hu1, hu2, hu3⟩; have c5 := hu2.c.2.2.2.2; have hx2 := (hu3.block _ (zla hW.2.2.1) (by omega) (by omega)).trans hW.2.2.1; have cx3 := zca hx2 0; simp at cx3; have t5 := zta hu2 5; obtain ⟨hB2, hT2⟩ := hu2.set5 t; have hD2 := Dk.tq hu2 hu1 hT2; obtain ⟨Y, hY⟩ : ∃ Y, u1.setCell ⟨q, 5, none⟩ (.int .i64 t) = Y := ⟨_, rfl⟩; rw [hY] at hB2 hT2 hD2)
 go_ret
 exact ⟨rfl, hD2, hB2, (hW.2.2.2.trans hu3).trans (Tq.tp2 _ hT2)⟩
end
structure Td (g q p : Nat) (W W' : World) : Prop where
 os : W'.os = W.os
 tape : W'.tape = W.tape
 output : W'.output = W.output
 size : W.heap.size ≤ W'.heap.size
 block : ∀ k, k < W.heap.size → k ≠ g → k ≠ q → k ≠ p → W'.heap[k]? = W.heap[k]?
section
variable {g q p base : Nat} {W W' W'' : World}
theorem Td.of (g q p : Nat) (hb : Below W.heap.size W W') : Td g q p W W' := ⟨hb.os, hb.tape, hb.output, hb.size, fun k hk _ _ _ => hb.block k hk⟩
theorem Td.tq (g : Nat) (h : Tq p q W W') : Td g q p W W' := ⟨h.os, h.tape, h.output, h.size, fun k hk _ h1 h2 => h.block k hk h2 h1⟩
theorem Td.gr (q p : Nat) (h : W.grownBy W' (some g)) : Td g q p W W' := ⟨h.os, h.tape, h.output, h.size, fun k hk h1 _ _ => h.block k hk (by simpa using h1)⟩
theorem Td.trans (h : Td g q p W W') (k : Td g q p W' W'') : Td g q p W W'' :=
 ⟨k.os.trans h.os, k.tape.trans h.tape, k.output.trans h.output, Nat.le_trans h.size k.size, fun j hj h1 h2 h3 => (k.block j (Nat.lt_of_lt_of_le hj h.size) h1 h2 h3).trans (h.block j hj h1 h2 h3)⟩
end
def Sn (W : World) (a : Addr) : Prop := W.cell? ⟨1, 0, none⟩ = some (.iface 269 (.pointer (some a)))
section
variable {a : Addr} {g q p : Nat} {W W' : World}
theorem Sn.lt (h : Sn W a) : 1 < W.heap.size := World.block_lt_of_cell? _ _ h
theorem Sn.same (h : Sn W a) (he : W'.heap[1]? = W.heap[1]?) : Sn W' a := by
 unfold Sn at *
 simp only [World.cell?] at h ⊢
 rw [he]
 exact h
theorem Sn.carry (h : Sn W a) (hb : Below W.heap.size W W') : Sn W' a := h.same (hb.block 1 h.lt)
theorem Bk.tq {l : List N3} {b : Bo} {d : Dst} {P : Option Addr} {bp : Nat} (h : Bk W bp g l) (hb : Bt W q P b) (hd : Dk W p d) (ht : Tq p q W W') : Bk W' bp g l := by
 have n1 : bp ≠ p := fun e => by
  have := h.obj; rw [e, hd.obj] at this
  injection (Option.some.inj this) with _ e2; exact absurd e2 (by decide)
 have n2 : bp ≠ q := fun e => by
  have := h.obj; rw [e, show W.heap[q]? = _ from hb] at this
  injection (Option.some.inj this) with _ e2; exact absurd e2 (by decide)
 have n3 : g ≠ p := fun e => by
  have := h.row; rw [e, hd.obj] at this
  injection (Option.some.inj this) with _ e2; exact absurd e2 (by decide)
 have n4 : g ≠ q := fun e => by
  have := h.row; rw [e, show W.heap[q]? = _ from hb] at this
  injection (Option.some.inj this) with _ e2; exact absurd e2 (by decide)
 exact ⟨(ht.block _ h.plt n1 n2).trans h.obj, (ht.block _ h.glt n3 n4).trans h.row⟩
theorem Bt.gr {l : List N3} {b : Bo} {P : Option Addr} {bp : Nat} (hb : Bt W q P b) (h : Bk W bp g l) (hg : W.grownBy W' (some g)) : Bt W' q P b :=
 (hg.block _ (zla hb) (by
  intro e
  have e' : q = g := by simpa using e
  have := h.row; rw [← e', show W.heap[q]? = _ from hb] at this
  injection (Option.some.inj this) with _ e2; exact absurd e2 (by decide))).trans hb
theorem Dk.gr {l : List N3} {d : Dst} {bp : Nat} (hd : Dk W p d) (h : Bk W bp g l) (hg : W.grownBy W' (some g)) : Dk W' p d :=
  ⟨(hg.block _ hd.lt (by
    intro e
    have e' : p = g := by simpa using e
    have := h.row; rw [← e', hd.obj] at this
    injection (Option.some.inj this) with _ e2; exact absurd e2 (by decide))).trans hd.obj, hd.len, hd.byt⟩
end
theorem is_nil (b : Addr) (w : World) : Calls Tryz.prog 152 #[.nilIface, .iface 269 (.pointer (some b))] w fun e w' => e = .returned (.bool false) ∧ w' = w := by
 have hn := run_eql_iface_nil_left (P := Tryz.prog) w 269 (.pointer (some b)) Tryz.underlying112
 go_enter Tryz.func152, Tryz.ntmps152
 go_wp2
 go_ret
 exact ⟨rfl, rfl⟩
theorem dtake_any {w : World} {p g : Nat} {l : List N3} (h : Bk w p g l) (self o t k : Int) (ht : tkb l (o, t, k) = true) : Calls Tryz.prog 127 #[.agg #[.pointer (some ⟨p, 0, none⟩), .int .i64 self], nt o t k] w fun e w' => e = .returned .nilIface ∧ Bk w' p g (tke l (o, t, k)) ∧ w.grownBy w' (some g) := by
 obtain ⟨w1, hw1⟩ : ∃ w1, (w.alloc (.cells #[.pointer (some ⟨p, 0, none⟩), .int .i64 self] 206)).alloc (.cells #[.int .i64 o, .int .i64 t, .int .i64 k] 65) = w1 := ⟨_, rfl⟩
 have hb1 : Below w.heap.size w w1 := by rw [← hw1]; exact al2 _ _ _
 have h1 := bktake_any (h.carry hb1) o t k
 rw [ht] at h1
 obtain ⟨E, hE⟩ : ∃ E : Int, (if vlx l.length (o, t, k) = true then (0 : Int) else 50) = E := ⟨_, rfl⟩
 rw [hE] at h1
 obtain ⟨M, hM⟩ : ∃ M, tke l (o, t, k) = M := ⟨_, rfl⟩
 rw [hM] at h1 ⊢
 clear hE hM ht
 have hd : w1.heap[w.heap.size]? = some (.cells #[.pointer (some ⟨p, 0, none⟩), .int .i64 self] 206 (0, 0)) := by rw [← hw1]; exact zoa (zna rfl)
 have e0 := zca hd 0
 simp at e0
 have hn : NB w1 (w.heap.size + 1) o t k := by rw [← hw1]; exact NB.at _ _ _ (by simp)
 have c0 := hn.c0
 have c1 := hn.c1
 have c2 := hn.c2
 unfold nt at *
 go_enter Tryz.func127, Tryz.ntmps127
 go_wp2_with (go_at_call 136; (with_reducible refine h1.mono ?_); rintro e u1 ⟨rfl, hk1, hg1⟩)
 go_ret
 exact ⟨rfl, hk1, grown_then hb1 hg1⟩
section
variable {w : World} {bp g q p : Nat} {l : List N3} {b : Bo} {d : Dst} {a : Addr}
theorem durably_no (h : Bk w bp g l) (hB : Bt w q (some ⟨p, 0, none⟩) b) (hD : Dk w p d) (hf : Fz d) (hw0 : 0 ≤ d.writes) (hw : d.writes ≤ 4611686018427387903) (self o t k : Int) (he : (dRa d b t).e ≠ 0) : Calls Tryz.prog 126 #[.pointer (some ⟨q, 0, none⟩), nt o t k, .func (.func 127) #[.agg #[.pointer (some ⟨bp, 0, none⟩), .int .i64 self]] #[]] w fun e w' => e = .returned (.int .i64 (dRa d b t).e) ∧ Bk w' bp g l ∧ Dk w' p (dRa d b t).d ∧ Bt w' q (some ⟨p, 0, none⟩) (dRa d b t).b ∧ Tq p q w w' := by
 obtain ⟨w1, hw1⟩ : ∃ w1, w.alloc (.cells #[.int .i64 o, .int .i64 t, .int .i64 k] 65) = w1 := ⟨_, rfl⟩
 have hb1 : Below w.heap.size w w1 := by rw [← hw1]; exact al1 _ _
 have hn : NB w1 w.heap.size o t k := by rw [← hw1]; exact NB.new _ _ _ _
 have c0 := hn.c0
 have c1 := hn.c1
 have c2 := hn.c2
 have h1 := h.carry hb1
 have hB1 := hB.carry hb1
 have hD1 := hD.carry hb1
 have hr := braise_any hB1 hD1 hf hw0 hw t
 obtain ⟨E, hE⟩ : ∃ E, (dRa d b t).e = E := ⟨_, rfl⟩
 obtain ⟨D2, hD2⟩ : ∃ D2, (dRa d b t).d = D2 := ⟨_, rfl⟩
 obtain ⟨B2, hB2⟩ : ∃ B2, (dRa d b t).b = B2 := ⟨_, rfl⟩
 rw [hE] at hr he ⊢
 rw [hD2, hB2] at hr ⊢
 have he' : (E != 0) = true := by simpa using he
 clear hE hD2 hB2 he
 unfold nt at *
 go_enter Tryz.func126, Tryz.ntmps126
 go_wp2_with (go_at_call 151; (with_reducible refine hr.mono ?_); rintro e u1 ⟨rfl, k1, k2, k3⟩)
 go_ret
 exact ⟨rfl, h1.tq hB1 hD1 k3, k1, k2, (Tq.of _ _ hb1).trans k3⟩
theorem durably_ok (h : Bk w bp g l) (hB : Bt w q (some ⟨p, 0, none⟩) b) (hD : Dk w p d) (hf : Fz d) (hw0 : 0 ≤ d.writes) (hw : d.writes ≤ 4611686018427387903) (hs : Sn w a) (g0 : 1 < g) (q0 : 1 < q) (p0 : 1 < p) (self o t k : Int) (ht : tkb l (o, t, k) = true) (he : (dRa d b t).e = 0) : Calls Tryz.prog 126 #[.pointer (some ⟨q, 0, none⟩), nt o t k, .func (.func 127) #[.agg #[.pointer (some ⟨bp, 0, none⟩), .int .i64 self]] #[]] w fun e w' => e = .returned (.int .i64 0) ∧ Bk w' bp g (tke l (o, t, k)) ∧ Dk w' p (dRa d b t).d ∧ Bt w' q (some ⟨p, 0, none⟩) (dRa d b t).b ∧ Td g q p w w' := by
 obtain ⟨w1, hw1⟩ : ∃ w1, w.alloc (.cells #[.int .i64 o, .int .i64 t, .int .i64 k] 65) = w1 := ⟨_, rfl⟩
 have hb1 : Below w.heap.size w w1 := by rw [← hw1]; exact al1 _ _
 have hn : NB w1 w.heap.size o t k := by rw [← hw1]; exact NB.new _ _ _ _
 have c0 := hn.c0
 have c1 := hn.c1
 have c2 := hn.c2
 have h1 := h.carry hb1
 have hB1 := hB.carry hb1
 have hD1 := hD.carry hb1
 have hs1 := hs.carry hb1
 have hr := braise_any hB1 hD1 hf hw0 hw t
 have hq := zla hB
 have hp := hD.lt
 obtain ⟨D2, hD2⟩ : ∃ D2, (dRa d b t).d = D2 := ⟨_, rfl⟩
 obtain ⟨B2, hB2⟩ : ∃ B2, (dRa d b t).b = B2 := ⟨_, rfl⟩
 rw [he] at hr
 rw [hD2, hB2] at hr ⊢
 have htk := fun (W : World) (hW : Bk W bp g l) => dtake_any hW self o t k ht
 obtain ⟨M, hM⟩ : ∃ M, tke l (o, t, k) = M := ⟨_, rfl⟩
 rw [hM] at htk ⊢
 have hgn : g ≠ w.heap.size := by have := h.glt; omega
 clear hD2 hB2 he hM ht
 unfold nt at *
 go_enter Tryz.func126, Tryz.ntmps126
 go_wp2_with (go_at_call 151; (with_reducible refine hr.mono ?_); rintro e u1 ⟨rfl, k1, k2, k3⟩; have hn1 : NB u1 w.heap.size o t k := (k3.block _ hn.lt (by omega) (by omega)).trans hn; have e0 := hn1.c0; have e1 := hn1.c1; have e2 := hn1.c2; have hs2 : Sn u1 a := hs1.same (k3.block 1 hs1.lt (by omega) (by omega)); have hk1 := h1.tq hB1 hD1 k3; have s2 : u1.cell? ⟨1, 0, none⟩ = some (.iface 269 (.pointer (some a))) := hs2)
 go_region_with (first
  | (go_at_call 127; refine (htk _ (hk1.carry (Below.refl _ _).drew)).mono ?_; rintro e u2 ⟨rfl, hk2, hg2⟩; have s3 : u2.cell? ⟨1, 0, none⟩ = some (.iface 269 (.pointer (some a))) := hs2.same (hg2.block 1 hs2.lt (by simp; omega)))
  | (go_at_call 152; refine (is_nil a _).mono ?_; rintro e u3 ⟨rfl, hu3⟩; obtain rfl := hu3.symm))
 all_goals (try go_wp2)
 all_goals (go_ret)
 all_goals
  have gd : u1.grownBy u2 (some g) := grown_then (Below.refl _ _).drew hg2
  exact ⟨rfl, hk2, k1.gr hk1 gd, k2.gr hk1 gd, (Td.tq g ((Tq.of _ _ hb1).trans k3)).trans (Td.gr q p gd)⟩
end
end Go.Proofs.YtekjhcnaabpfmaaGreatDoor
