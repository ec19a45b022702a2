import Derived.Test.YtifcnnonnocmmaaJnJ8
import Derived.Laws.CopyRow
import Derived.Laws.CopyOwn
import Derived.Test.YtifcnnonnocmmaaJnJ9
import Derived.Maps.Own
set_option maxHeartbeats 40000000
set_option maxRecDepth 100000
set_option linter.unusedVariables false
namespace Go.Proofs.Ytifcnnonnocmmaa
open Go.RowKit Go.Shelf Go.Lib
attribute [local go_sem] Oper.semAt_some
structure JD (w : World) (p b q r : Nat) (need pl : Int) (s : Hs) (x : Ev) (V : World) : Prop where
 jb : JB w p b q need pl s x V
 cx : V.heap[r]? = some (.cells (ecA s.c) 34 (0, 0))
theorem JD.carry {w V V' : World} {p b q r : Nat} {need pl : Int} {s : Hs} {x : Ev} (h : JD w p b q r need pl s x V) (hb : Below V.heap.size V V') : JD w p b q r need pl s x V' := ⟨h.jb.carry hb, (hb.block _ (zla h.cx)).trans h.cx⟩
theorem he_row {W : World} {p b : Nat} {need pl : Int} {s : Hs} (h : He W p b need pl s) : W.cell? ⟨p, 3, none⟩ = some (.int .i64 s.c.k) ∧ W.cell? ⟨p, 4, none⟩ = some (.int .i64 s.c.nd) ∧ W.cell? ⟨p, 5, none⟩ = some (.int .i64 s.c.li) ∧ W.cell? ⟨p, 6, none⟩ = some (.int .i64 s.c.ro) ∧ W.cell? ⟨p, 7, none⟩ = some (.int .i64 s.c.ta) ∧ W.cell? ⟨p, 8, none⟩ = some (.int .i64 s.c.of) ∧ W.cell? ⟨p, 9, none⟩ = some (.int .i64 s.c.du) ∧ W.cell? ⟨p, 10, none⟩ = some (.int .u32 (wd s.c.he 0 : Nat)) ∧ W.cell? ⟨p, 11, none⟩ = some (.int .u32 (wd s.c.he 1 : Nat)) ∧ W.cell? ⟨p, 12, none⟩ = some (.int .u32 (wd s.c.he 2 : Nat)) ∧ W.cell? ⟨p, 13, none⟩ = some (.int .u32 (wd s.c.he 3 : Nat)) ∧ W.cell? ⟨p, 14, none⟩ = some (.int .u32 (wd s.c.un 0 : Nat)) ∧ W.cell? ⟨p, 15, none⟩ = some (.int .u32 (wd s.c.un 1 : Nat)) ∧ W.cell? ⟨p, 16, none⟩ = some (.int .u32 (wd s.c.un 2 : Nat)) ∧ W.cell? ⟨p, 17, none⟩ = some (.int .u32 (wd s.c.un 3 : Nat)) := by
 refine ⟨?_, ?_, ?_, ?_, ?_, ?_, ?_, ?_, ?_, ?_, ?_, ?_, ?_, ?_, ?_⟩ <;> exact (zca h.box _).trans rfl
theorem ask_any {w : World} {p b : Nat} {need pl : Int} {s : Hs} {m : Nat} {u : Nod} {x : Ev} (h : He w p b need pl s) (hm : s.nds[m]? = some u) (hx : x.nd = (m : Int)) : Calls Try.prog 23 #[.pointer (some ⟨p, 0, none⟩), evV x] w (Lw p b need pl w (law2 s x m u)) := by
 have hmx : Try.prog.follows .mixedOrders = true := by kernel_rfl
 have hml : m < s.nds.length := (List.getElem?_eq_some_iff.1 hm).1
 have hJ0 := JB.new h x
 have HX : Hid (x.nd = (m : Int)) := hx
 clear hx
 unfold evV ecA
 go_enter Try.func23, Try.ntmps23
 go_wp2
 rename_i hK
 refine wp_region_any hmx ?_
 refine zwp (fun i__ => ([(.pointer (some ⟨p, 0, none⟩)), (.pointer (some ⟨p, 0, none⟩)), (.pointer (some ⟨p, 2, none⟩)), (.slice (some ⟨b, 0, none⟩) s.nds.length s.nds.length), (.pointer (some ⟨w.heap.size, 1, none⟩)), (.int .i64 x.nd), (.pointer (some ⟨b, m * 5, none⟩)), (.pointer (some ⟨b, m * 5, none⟩))] : List Value).getD i__ undef) (fun V => JB w p b w.heap.size need pl s x V) (by kernel_rfl) (hJ0.carry (Below.refl _ _).drew) ?_ ?_
 · refine (sqc ?_ (sqc ?_ (sqc ?_ (sqc ?_ (sqc ?_ (sqc ?_ (sqc ?_ (sqc ?_ trivial))))))))
   · exact zmv rfl trivial _ rfl (by kernel_rfl)
   · exact znc rfl trivial _ _ _ rfl rfl rfl
   · exact zfa rfl trivial _ _ _ _ rfl rfl (fun w hw => faH2 w _ _)
   · exact zld rfl trivial _ _ _ rfl rfl (fun w hw => load_ns ((zca hw.he.box 2).trans rfl))
   · exact zfa rfl trivial _ _ _ _ rfl rfl (fun w hw => faE1 w _ _)
   · exact zld rfl trivial _ _ _ rfl rfl (fun w hw => load_in ((zca hw.bx 1).trans rfl))
   · exact zia rfl trivial _ _ _ _ _ rfl rfl rfl (fun w hw => by rw [HX.out]; exact idx_n b _ m hml w)
   · exact zas rfl trivial _ rfl (by kernel_rfl) (fun _ h => h)
 intro W hW
 first | refine hK _ _ ?_ | refine (‹∀ (a : Act) (w : World), Code.wp Try.prog _ _ a w → _›) _ _ ?_ | skip
 simp only [finL, List.getD_cons_zero, List.getD_cons_succ, Nat.zero_add, Nat.reduceAdd, List.setIfInBounds_toArray, List.set_cons_zero, List.set_cons_succ]
 obtain ⟨W1, rfl⟩ : ∃ V, V = W := ⟨_, rfl⟩
 have hJ1 := hW
 clear hW hK
 have hir := inRow_any hJ1.he
 cases hr : decide (s.c.k = 3) with
 | false =>
   rw [hr] at hir
   go_wp2_with (go_at_call 34; (with_reducible refine hir.mono ?_); rintro e u1 ⟨rfl, hu1⟩; obtain rfl := hu1.symm)
   rename_i hK
   cases h5_0 : (x.ro == u.op) with
   | false =>
     refine wp_region_any hmx ?_
     refine wpAny_dies 8 (fun i__ => ([(.pointer (some ⟨p, 0, none⟩)), (.pointer (some ⟨w.heap.size, 3, none⟩)), (.int .i64 x.ro), (.pointer (some ⟨b, m * 5, none⟩)), (.pointer (some ⟨b, m * 5, none⟩)), (.pointer (some ⟨b, m * 5 + 3, none⟩)), (.int .i64 u.op), (.bool false), undef] : List Value).getD i__ undef) (fun V => JB w p b w.heap.size need pl s x V) rfl (by kernel_rfl) (hJ1.carry (Below.refl _ _).drew) ?_ ?_
     · refine (sqc ?_ (sqc ?_ (sqc ?_ (sqc ?_ (sqc ?_ (sqc ?_ (sqc ?_ (sqc ?_ trivial))))))))
       · exact zmv rfl trivial _ rfl (by kernel_rfl)
       · exact zfa rfl trivial _ _ _ _ rfl rfl (fun w hw => faE3 w _ _)
       · exact zld rfl trivial _ _ _ rfl rfl (fun w hw => load_in ((zca hw.bx 3).trans rfl))
       · exact zmv rfl trivial _ rfl (by kernel_rfl)
       · exact znc rfl trivial _ _ _ rfl rfl rfl
       · exact zfa rfl trivial _ _ _ _ rfl rfl (fun w hw => faN3 w _ _)
       · exact zld rfl trivial _ _ _ rfl rfl (fun w hw => load_in (hw.he.cn hm (by decide) (j := 3) rfl))
       · exact zbo rfl trivial _ _ _ _ _ _ _ rfl rfl rfl (fun w hw => by rw [← h5_0]; exact bin_eql _ _ _)
     · intro o ho
       cases ho
       exact call_dies rfl trivial 16 _ _ [(.pointer (some ⟨p, 0, none⟩)), (.bool false)] rfl (by kernel_rfl) (enters_of Try.func16 (by kernel_rfl) rfl) (off pl) (J2 := fun V => Tn p (some b) (some b) w V) (fun w hw => (must_no hw.he).mono (by rintro e w' ⟨rfl, rfl⟩; exact ⟨rfl, hw.tn⟩)) (fun a w hd hb => ⟨hd, lw_no (by simp only [law2, hr, h5_0]; rfl) hb⟩)
   | true =>
     refine wp_region_any hmx ?_
     refine zwp (fun i__ => ([(.pointer (some ⟨p, 0, none⟩)), (.pointer (some ⟨w.heap.size, 3, none⟩)), (.int .i64 x.ro), (.pointer (some ⟨b, m * 5, none⟩)), (.pointer (some ⟨b, m * 5, none⟩)), (.pointer (some ⟨b, m * 5 + 3, none⟩)), (.int .i64 u.op), (.bool true), (.tuple #[])] : List Value).getD i__ undef) (fun V => JB w p b w.heap.size need pl s x V) (by kernel_rfl) (hJ1.carry (Below.refl _ _).drew) ?_ ?_
     · refine (sqc ?_ (sqc ?_ (sqc ?_ (sqc ?_ (sqc ?_ (sqc ?_ (sqc ?_ (sqc ?_ (sqc ?_ trivial)))))))))
       · exact zmv rfl trivial _ rfl (by kernel_rfl)
       · exact zfa rfl trivial _ _ _ _ rfl rfl (fun w hw => faE3 w _ _)
       · exact zld rfl trivial _ _ _ rfl rfl (fun w hw => load_in ((zca hw.bx 3).trans rfl))
       · exact zmv rfl trivial _ rfl (by kernel_rfl)
       · exact znc rfl trivial _ _ _ rfl rfl rfl
       · exact zfa rfl trivial _ _ _ _ rfl rfl (fun w hw => faN3 w _ _)
       · exact zld rfl trivial _ _ _ rfl rfl (fun w hw => load_in (hw.he.cn hm (by decide) (j := 3) rfl))
       · exact zbo rfl trivial _ _ _ _ _ _ _ rfl rfl rfl (fun w hw => by rw [← h5_0]; exact bin_eql _ _ _)
       · exact zsc rfl trivial 16 _ _ [(.pointer (some ⟨p, 0, none⟩)), (.bool true)] rfl (by kernel_rfl) (enters_of Try.func16 (by kernel_rfl) rfl) (fun w hw => (must_yes _ w).mono (by rintro e w' ⟨rfl, rfl⟩; exact ⟨rfl, hw⟩))
     intro W hW
     first | refine hK _ _ ?_ | refine (‹∀ (a : Act) (w : World), Code.wp Try.prog _ _ a w → _›) _ _ ?_ | skip
     simp only [finL, List.getD_cons_zero, List.getD_cons_succ, Nat.zero_add, Nat.reduceAdd, List.setIfInBounds_toArray, List.set_cons_zero, List.set_cons_succ]
     obtain ⟨W2, rfl⟩ : ∃ V, V = W := ⟨_, rfl⟩
     have hJ2 := hW
     clear hW hK
     have HL : Hid (law2 s x m u = some { s with nds := s.nds.set m { u with ask := x.ro } }) := by simp only [law2, hr, h5_0]; rfl
     have cq3 : W2.cell? ⟨w.heap.size, 3, none⟩ = some (.int .i64 x.ro) := (zca hJ2.bx 3).trans rfl
     have cb4 : W2.cell? ⟨b, m * 5 + 4, none⟩ = some (.int .i64 u.ask) := hJ2.he.cn hm (by decide) rfl
     have zb4 := hJ2.he.frzg (m * 5 + 4)
     have hfin := hJ2.he.nput (o' := { u with ask := x.ro }) (v := .int .i64 x.ro) hm (j := 4) (by decide) rfl
     have htn := hJ2.tn.trans (Tn.putg W2 p b (m * 5 + 4) (.int .i64 x.ro))
     clear hJ0 hJ1 hJ2 hm h hir
     go_wp2
     go_end0
     exact lw_yes HL.out hfin htn
 | true =>
   rw [hr] at hir
   go_wp2_with (go_at_call 34; (with_reducible refine hir.mono ?_); rintro e u1 ⟨rfl, hu1⟩; obtain rfl := hu1.symm)
   rename_i hK
   cases h3_0 : decide (x.ro > s.c.ro) with
   | false =>
     refine wp_region_any hmx ?_
     refine wpAny_dies 15 (fun i__ => ([(.pointer (some ⟨p, 0, none⟩)), (.pointer (some ⟨w.heap.size, 3, none⟩)), (.int .i64 x.ro), (.pointer (some ⟨p, 0, none⟩)), (.pointer (some ⟨p, 0, none⟩)), (.pointer (some ⟨p, 3, none⟩)), (.pointer (some ⟨p, 3, none⟩)), (.pointer (some ⟨p, 6, none⟩)), (.int .i64 s.c.ro), (.bool false), (.bool false), undef, undef, undef, (.bool false), undef] : List Value).getD i__ undef) (fun V => JB w p b w.heap.size need pl s x V) rfl (by kernel_rfl) (hJ1.carry (Below.refl _ _).drew) ?_ ?_
     · refine (sqc ?_ (sqc ?_ (sqc ?_ (sqc ?_ (sqc ?_ (sqc ?_ (sqc ?_ (sqc ?_ (sqc ?_ (sqc ?_ (sqc ?_ (sqc ?_ (sqc ?_ (sqc ?_ (sqc ?_ trivial)))))))))))))))
       · exact zmv rfl trivial _ rfl (by kernel_rfl)
       · exact zfa rfl trivial _ _ _ _ rfl rfl (fun w hw => faE3 w _ _)
       · exact zld rfl trivial _ _ _ rfl rfl (fun w hw => load_in ((zca hw.bx 3).trans rfl))
       · exact zmv rfl trivial _ rfl (by kernel_rfl)
       · exact znc rfl trivial _ _ _ rfl rfl rfl
       · exact zfa rfl trivial _ _ _ _ rfl rfl (fun w hw => faH3 w _ _)
       · exact zfa rfl trivial _ _ _ _ rfl rfl (fun w hw => faR0 w _ _)
       · exact zfa rfl trivial _ _ _ _ rfl rfl (fun w hw => faE3 w _ _)
       · exact zld rfl trivial _ _ _ rfl rfl (fun w hw => load_in ((zca hw.he.box 6).trans rfl))
       · exact zbo rfl trivial _ _ _ _ _ _ _ rfl rfl rfl (fun w hw => by rw [← h3_0]; exact bin_gtr _ _ _)
       · exact zmv rfl trivial _ rfl (by kernel_rfl)
       · exact zsk rfl 10 true 24 (.bool false) rfl rfl (by kernel_rfl) (by intro h; cases h) rfl
       · exact zsk rfl 10 true 24 (.bool false) rfl rfl (by kernel_rfl) (by intro h; cases h) rfl
       · exact zsk rfl 10 true 24 (.bool false) rfl rfl (by kernel_rfl) (by intro h; cases h) rfl
       · exact step_pick rfl trivial _ _ _ false rfl (by kernel_rfl) (by kernel_rfl)
     · intro o ho
       cases ho
       exact call_dies rfl trivial 16 _ _ [(.pointer (some ⟨p, 0, none⟩)), (.bool false)] rfl (by kernel_rfl) (enters_of Try.func16 (by kernel_rfl) rfl) (off pl) (J2 := fun V => Tn p (some b) (some b) w V) (fun w hw => (must_no hw.he).mono (by rintro e w' ⟨rfl, rfl⟩; exact ⟨rfl, hw.tn⟩)) (fun a w hd hb => ⟨hd, lw_no (by simp only [law2, hr, h3_0]; rfl) hb⟩)
   | true =>
     cases h3_1 : decide (x.ro ≤ 1099511627775) with
     | false =>
       refine wp_region_any hmx ?_
       refine wpAny_dies 15 (fun i__ => ([(.pointer (some ⟨p, 0, none⟩)), (.pointer (some ⟨w.heap.size, 3, none⟩)), (.int .i64 x.ro), (.pointer (some ⟨p, 0, none⟩)), (.pointer (some ⟨p, 0, none⟩)), (.pointer (some ⟨p, 3, none⟩)), (.pointer (some ⟨p, 3, none⟩)), (.pointer (some ⟨p, 6, none⟩)), (.int .i64 s.c.ro), (.bool true), (.bool true), (.pointer (some ⟨w.heap.size, 3, none⟩)), (.int .i64 x.ro), (.bool false), (.bool false), undef] : List Value).getD i__ undef) (fun V => JB w p b w.heap.size need pl s x V) rfl (by kernel_rfl) (hJ1.carry (Below.refl _ _).drew) ?_ ?_
       · refine (sqc ?_ (sqc ?_ (sqc ?_ (sqc ?_ (sqc ?_ (sqc ?_ (sqc ?_ (sqc ?_ (sqc ?_ (sqc ?_ (sqc ?_ (sqc ?_ (sqc ?_ (sqc ?_ (sqc ?_ trivial)))))))))))))))
         · exact zmv rfl trivial _ rfl (by kernel_rfl)
         · exact zfa rfl trivial _ _ _ _ rfl rfl (fun w hw => faE3 w _ _)
         · exact zld rfl trivial _ _ _ rfl rfl (fun w hw => load_in ((zca hw.bx 3).trans rfl))
         · exact zmv rfl trivial _ rfl (by kernel_rfl)
         · exact znc rfl trivial _ _ _ rfl rfl rfl
         · exact zfa rfl trivial _ _ _ _ rfl rfl (fun w hw => faH3 w _ _)
         · exact zfa rfl trivial _ _ _ _ rfl rfl (fun w hw => faR0 w _ _)
         · exact zfa rfl trivial _ _ _ _ rfl rfl (fun w hw => faE3 w _ _)
         · exact zld rfl trivial _ _ _ rfl rfl (fun w hw => load_in ((zca hw.he.box 6).trans rfl))
         · exact zbo rfl trivial _ _ _ _ _ _ _ rfl rfl rfl (fun w hw => by rw [← h3_0]; exact bin_gtr _ _ _)
         · exact zmv rfl trivial _ rfl (by kernel_rfl)
         · exact zfa rfl ⟨_, rfl, by kernel_rfl⟩ _ _ _ _ rfl rfl (fun w hw => faE3 w _ _)
         · exact zld rfl ⟨_, rfl, by kernel_rfl⟩ _ _ _ rfl rfl (fun w hw => load_in ((zca hw.bx 3).trans rfl))
         · exact zbo rfl ⟨_, rfl, by kernel_rfl⟩ _ _ _ _ _ _ _ rfl rfl rfl (fun w hw => by rw [← h3_1]; exact bin_leq _ _ _)
         · exact step_pick rfl trivial _ _ _ true rfl (by kernel_rfl) (by kernel_rfl)
       · intro o ho
         cases ho
         exact call_dies rfl trivial 16 _ _ [(.pointer (some ⟨p, 0, none⟩)), (.bool false)] rfl (by kernel_rfl) (enters_of Try.func16 (by kernel_rfl) rfl) (off pl) (J2 := fun V => Tn p (some b) (some b) w V) (fun w hw => (must_no hw.he).mono (by rintro e w' ⟨rfl, rfl⟩; exact ⟨rfl, hw.tn⟩)) (fun a w hd hb => ⟨hd, lw_no (by simp only [law2, hr, h3_0, h3_1]; rfl) hb⟩)
     | true =>
       refine wp_region_any hmx ?_
       refine zwp (fun i__ => ([(.pointer (some ⟨p, 0, none⟩)), (.pointer (some ⟨w.heap.size, 3, none⟩)), (.int .i64 x.ro), (.pointer (some ⟨p, 0, none⟩)), (.pointer (some ⟨p, 0, none⟩)), (.pointer (some ⟨p, 3, none⟩)), (.pointer (some ⟨p, 3, none⟩)), (.pointer (some ⟨p, 6, none⟩)), (.int .i64 s.c.ro), (.bool true), (.bool true), (.pointer (some ⟨w.heap.size, 3, none⟩)), (.int .i64 x.ro), (.bool true), (.bool true), (.tuple #[])] : List Value).getD i__ undef) (fun V => JB w p b w.heap.size need pl s x V) (by kernel_rfl) (hJ1.carry (Below.refl _ _).drew) ?_ ?_
       · refine (sqc ?_ (sqc ?_ (sqc ?_ (sqc ?_ (sqc ?_ (sqc ?_ (sqc ?_ (sqc ?_ (sqc ?_ (sqc ?_ (sqc ?_ (sqc ?_ (sqc ?_ (sqc ?_ (sqc ?_ (sqc ?_ trivial))))))))))))))))
         · exact zmv rfl trivial _ rfl (by kernel_rfl)
         · exact zfa rfl trivial _ _ _ _ rfl rfl (fun w hw => faE3 w _ _)
         · exact zld rfl trivial _ _ _ rfl rfl (fun w hw => load_in ((zca hw.bx 3).trans rfl))
         · exact zmv rfl trivial _ rfl (by kernel_rfl)
         · exact znc rfl trivial _ _ _ rfl rfl rfl
         · exact zfa rfl trivial _ _ _ _ rfl rfl (fun w hw => faH3 w _ _)
         · exact zfa rfl trivial _ _ _ _ rfl rfl (fun w hw => faR0 w _ _)
         · exact zfa rfl trivial _ _ _ _ rfl rfl (fun w hw => faE3 w _ _)
         · exact zld rfl trivial _ _ _ rfl rfl (fun w hw => load_in ((zca hw.he.box 6).trans rfl))
         · exact zbo rfl trivial _ _ _ _ _ _ _ rfl rfl rfl (fun w hw => by rw [← h3_0]; exact bin_gtr _ _ _)
         · exact zmv rfl trivial _ rfl (by kernel_rfl)
         · exact zfa rfl ⟨_, rfl, by kernel_rfl⟩ _ _ _ _ rfl rfl (fun w hw => faE3 w _ _)
         · exact zld rfl ⟨_, rfl, by kernel_rfl⟩ _ _ _ rfl rfl (fun w hw => load_in ((zca hw.bx 3).trans rfl))
         · exact zbo rfl ⟨_, rfl, by kernel_rfl⟩ _ _ _ _ _ _ _ rfl rfl rfl (fun w hw => by rw [← h3_1]; exact bin_leq _ _ _)
         · exact step_pick rfl trivial _ _ _ true rfl (by kernel_rfl) (by kernel_rfl)
         · exact zsc rfl trivial 16 _ _ [(.pointer (some ⟨p, 0, none⟩)), (.bool true)] rfl (by kernel_rfl) (enters_of Try.func16 (by kernel_rfl) rfl) (fun w hw => (must_yes _ w).mono (by rintro e w' ⟨rfl, rfl⟩; exact ⟨rfl, hw⟩))
       intro W hW
       first | refine hK _ _ ?_ | refine (‹∀ (a : Act) (w : World), Code.wp Try.prog _ _ a w → _›) _ _ ?_ | skip
       simp only [finL, List.getD_cons_zero, List.getD_cons_succ, Nat.zero_add, Nat.reduceAdd, List.setIfInBounds_toArray, List.set_cons_zero, List.set_cons_succ]
       obtain ⟨W3, rfl⟩ : ∃ V, V = W := ⟨_, rfl⟩
       have hJ3 := hW
       clear hW hK
       have HL : Hid (law2 s x m u = some { nds := s.nds.set m { u with op := x.ro, ask := x.ro }, c := e0, la := 0 }) := by simp only [law2, hr, h3_0, h3_1]; rfl
       have cq3 : W3.cell? ⟨w.heap.size, 3, none⟩ = some (.int .i64 x.ro) := (zca hJ3.bx 3).trans rfl
       have cb3 : W3.cell? ⟨b, m * 5 + 3, none⟩ = some (.int .i64 u.op) := hJ3.he.cn hm (by decide) rfl
       have zb3 := hJ3.he.frzg (m * 5 + 3)
       have hA := hJ3.he.nput (o' := { u with op := x.ro }) (v := .int .i64 x.ro) hm (j := 3) (by decide) rfl
       have hB := hA.row e0 0
       have hT := (hJ3.tn.trans (Tn.putg W3 p b (m * 5 + 3) (.int .i64 x.ro))).trans (Tn.row _ p b (splice (heC need pl b (s.nds.set m { u with op := x.ro }).length s.c s.la).toList 3 (rwC e0 0)).toArray)
       have hX := (setRow_other (W3.setCell ⟨b, m * 5 + 3, none⟩ (.int .i64 x.ro)) p w.heap.size (splice (heC need pl b (s.nds.set m { u with op := x.ro }).length s.c s.la).toList 3 (rwC e0 0)).toArray (hqp hJ3.he hJ3.bx)).trans ((Below.heap_setCell W3 ⟨b, m * 5 + 3, none⟩ (.int .i64 x.ro) w.heap.size (hqb hJ3.he hJ3.bx)).trans hJ3.bx)
       have hJ4 : JB w p b w.heap.size need pl { nds := s.nds.set m { u with op := x.ro }, c := e0, la := 0 } x _ := ⟨hB, hX, hT⟩
       clear hB hT hX
       simp only [List.length_set] at hJ4
       have hbx := hA.box
       simp only [List.length_set] at hbx
       go_wp2_with (refine wpList_store_in rfl 41 (.tmp 38) (.tmp 34) rfl p 3 43 (heC need pl b s.nds.length s.c s.la).toList (rwC e0 0) rfl rfl hbx info_rw (Nat.le_refl 19) (rwC_one _ _) ?_)
       rename_i hK
       have hm1 : (s.nds.set m { u with op := x.ro })[m]? = some { u with op := x.ro } := by simp [hml]
       obtain ⟨s1, hs1⟩ : ∃ s1 : Hs, s1 = { nds := s.nds.set m { u with op := x.ro }, c := e0, la := 0 } := ⟨_, rfl⟩
       have hm2 : s1.nds[m]? = some { u with op := x.ro } := by rw [hs1]; exact hm1
       rw [← hs1] at hJ4
       have hrr : (x.ro == x.ro) = true := by simp
       refine wp_region_any hmx ?_
       refine zwp (fun i__ => ([(.pointer (some ⟨p, 0, none⟩)), (.pointer (some ⟨w.heap.size, 3, none⟩)), (.int .i64 x.ro), (.pointer (some ⟨b, m * 5, none⟩)), (.pointer (some ⟨b, m * 5, none⟩)), (.pointer (some ⟨b, m * 5 + 3, none⟩)), (.int .i64 x.ro), (.bool true), (.tuple #[])] : List Value).getD i__ undef) (fun V => JB w p b w.heap.size need pl s1 x V) (by kernel_rfl) (hJ4.carry (Below.refl _ _).drew) ?_ ?_
       · refine (sqc ?_ (sqc ?_ (sqc ?_ (sqc ?_ (sqc ?_ (sqc ?_ (sqc ?_ (sqc ?_ (sqc ?_ trivial)))))))))
         · exact zmv rfl trivial _ rfl (by kernel_rfl)
         · exact zfa rfl trivial _ _ _ _ rfl rfl (fun w hw => faE3 w _ _)
         · exact zld rfl trivial _ _ _ rfl rfl (fun w hw => load_in ((zca hw.bx 3).trans rfl))
         · exact zmv rfl trivial _ rfl (by kernel_rfl)
         · exact znc rfl trivial _ _ _ rfl rfl rfl
         · exact zfa rfl trivial _ _ _ _ rfl rfl (fun w hw => faN3 w _ _)
         · exact zld rfl trivial _ _ _ rfl rfl (fun w hw => load_in (hw.he.cn hm2 (by decide) (j := 3) rfl))
         · exact zbo rfl trivial _ _ _ _ _ _ _ rfl rfl rfl (fun w hw => by rw [← hrr]; exact bin_eql _ _ _)
         · exact zsc rfl trivial 16 _ _ [(.pointer (some ⟨p, 0, none⟩)), (.bool true)] rfl (by kernel_rfl) (enters_of Try.func16 (by kernel_rfl) rfl) (fun w hw => (must_yes _ w).mono (by rintro e w' ⟨rfl, rfl⟩; exact ⟨rfl, hw⟩))
       intro W hW
       first | refine hK _ _ ?_ | refine (‹∀ (a : Act) (w : World), Code.wp Try.prog _ _ a w → _›) _ _ ?_ | skip
       simp only [finL, List.getD_cons_zero, List.getD_cons_succ, Nat.zero_add, Nat.reduceAdd, List.setIfInBounds_toArray, List.set_cons_zero, List.set_cons_succ]
       obtain ⟨W5, rfl⟩ : ∃ V, V = W := ⟨_, rfl⟩
       have hJ5 := hW
       clear hW hK
       have cq3 : W5.cell? ⟨w.heap.size, 3, none⟩ = some (.int .i64 x.ro) := (zca hJ5.bx 3).trans rfl
       have cb4 : W5.cell? ⟨b, m * 5 + 4, none⟩ = some (.int .i64 u.ask) := hJ5.he.cn hm2 (by decide) rfl
       have zb4 := hJ5.he.frzg (m * 5 + 4)
       have hfin := hJ5.he.nput (o' := { u with op := x.ro, ask := x.ro }) (v := .int .i64 x.ro) hm2 (j := 4) (by decide) rfl
       have htn := hJ5.tn.trans (Tn.putg W5 p b (m * 5 + 4) (.int .i64 x.ro))
       clear hJ0 hJ1 hJ3 hJ4 hJ5 hm h hir hA hm1 hm2
       go_wp2
       go_end0
       exact lw_yes HL.out (by rw [hs1] at hfin; simpa using hfin) htn
theorem doubt_any {w : World} {p b : Nat} {need pl : Int} {s : Hs} {m : Nat} {u : Nod} {x : Ev} (h : He w p b need pl s) (hm : s.nds[m]? = some u) (hx : x.nd = (m : Int)) : Calls Try.prog 25 #[.pointer (some ⟨p, 0, none⟩), evV x] w (Lw p b need pl w (law4 s x)) := by
 have hmx : Try.prog.follows .mixedOrders = true := by kernel_rfl
 have hml : m < s.nds.length := (List.getElem?_eq_some_iff.1 hm).1
 have hJ0 := JB.new h x
 have HX : Hid (x.nd = (m : Int)) := hx
 clear hx
 unfold evV ecA
 go_enter Try.func25, Try.ntmps25
 obtain ⟨c0, c1, c2, c3, c4, c5, c6, c7, c8, c9, c10, c11, c12, c13, c14⟩ := he_row hJ0.he
 unfold ecA at c0 c1 c2 c3 c4 c5 c6 c7 c8 c9 c10 c11 c12 c13 c14
 go_wp2
 rename_i hK
 have hD0 : JD w p b w.heap.size (w.heap.size + 1) need pl s x _ := ⟨hJ0.carry (al1' _ (.cells (ecA s.c) 34)), zna (by simp)⟩
 cases h2_0 : decide (0 ≤ x.of ∧ x.of < (s.nds.length : Int)) with
 | false =>
  refine wp_region_any hmx ?_
  refine wpAny_dies 27 (fun i__ => ([(.pointer (some ⟨p, 0, none⟩)), (.pointer (some ⟨w.heap.size, 5, none⟩)), (.int .i64 x.of), (.pointer (some ⟨p, 0, none⟩)), (.pointer (some ⟨p, 0, none⟩)), (.pointer (some ⟨p, 2, none⟩)), (.slice (some ⟨b, 0, none⟩) s.nds.length s.nds.length), (.int .i64 (s.nds.length : Int)), (.bool false), (.bool false), undef, undef, undef, undef, undef, undef, undef, undef, (.bool false), (.bool false), undef, undef, undef, undef, undef, undef, (.bool false), undef] : List Value).getD i__ undef) (fun V => JD w p b w.heap.size (w.heap.size + 1) need pl s x V) rfl (by kernel_rfl) (hD0.carry (Below.refl _ _).drew) ?_ ?_
  · refine (sqc ?_ (sqc ?_ (sqc ?_ (sqc ?_ (sqc ?_ (sqc ?_ (sqc ?_ (sqc ?_ (sqc ?_ (sqc ?_ (sqc ?_ (sqc ?_ (sqc ?_ (sqc ?_ (sqc ?_ (sqc ?_ (sqc ?_ (sqc ?_ (sqc ?_ (sqc ?_ (sqc ?_ (sqc ?_ (sqc ?_ (sqc ?_ (sqc ?_ (sqc ?_ (sqc ?_ trivial)))))))))))))))))))))))))))
    · exact zmv rfl trivial _ rfl (by kernel_rfl)
    · exact zfa rfl trivial _ _ _ _ rfl rfl (fun w hw => faE5 w _ _)
    · exact zld rfl trivial _ _ _ rfl rfl (fun w hw => load_in ((zca hw.1.bx 5).trans rfl))
    · exact zmv rfl trivial _ rfl (by kernel_rfl)
    · exact znc rfl trivial _ _ _ rfl rfl rfl
    · exact zfa rfl trivial _ _ _ _ rfl rfl (fun w hw => faH2 w _ _)
    · exact zld rfl trivial _ _ _ rfl rfl (fun w hw => load_ns ((zca hw.1.he.box 2).trans rfl))
    · exact step_bi rfl trivial _ _ _ [(.slice (some ⟨b, 0, none⟩) s.nds.length s.nds.length)] rfl (by kernel_rfl) (fun cs w hw => bi_lenN _ cs _ _ _ w)
    · exact zsc rfl trivial 28 _ _ [(.int .i64 x.of), (.int .i64 (s.nds.length : Int))] rfl (by kernel_rfl) (enters_of Try.func28 (by kernel_rfl) rfl) (fun w hw => (isBelow_any _ _ w).mono (by rintro e w' ⟨rfl, rfl⟩; exact ⟨congrArg (fun z => Ending.returned (Value.bool z)) h2_0, hw⟩))
    · exact zmv rfl trivial _ rfl (by kernel_rfl)
    · exact zsk rfl 9 true 19 (.bool false) rfl rfl (by kernel_rfl) (by intro h; cases h) rfl
    · exact zsk rfl 9 true 19 (.bool false) rfl rfl (by kernel_rfl) (by intro h; cases h) rfl
    · exact zsk rfl 9 true 19 (.bool false) rfl rfl (by kernel_rfl) (by intro h; cases h) rfl
    · exact zsk rfl 9 true 19 (.bool false) rfl rfl (by kernel_rfl) (by intro h; cases h) rfl
    · exact zsk rfl 9 true 19 (.bool false) rfl rfl (by kernel_rfl) (by intro h; cases h) rfl
    · exact zsk rfl 9 true 19 (.bool false) rfl rfl (by kernel_rfl) (by intro h; cases h) rfl
    · exact zsk rfl 9 true 19 (.bool false) rfl rfl (by kernel_rfl) (by intro h; cases h) rfl
    · exact zsk rfl 9 true 19 (.bool false) rfl rfl (by kernel_rfl) (by intro h; cases h) rfl
    · exact step_pick rfl trivial _ _ _ false rfl (by kernel_rfl) (by kernel_rfl)
    · exact zmv rfl trivial _ rfl (by kernel_rfl)
    · exact zsk rfl 19 true 29 (.bool false) rfl rfl (by kernel_rfl) (by intro h; cases h) rfl
    · exact zsk rfl 19 true 29 (.bool false) rfl rfl (by kernel_rfl) (by intro h; cases h) rfl
    · exact zsk rfl 19 true 29 (.bool false) rfl rfl (by kernel_rfl) (by intro h; cases h) rfl
    · exact zsk rfl 19 true 29 (.bool false) rfl rfl (by kernel_rfl) (by intro h; cases h) rfl
    · exact zsk rfl 19 true 29 (.bool false) rfl rfl (by kernel_rfl) (by intro h; cases h) rfl
    · exact zsk rfl 19 true 29 (.bool false) rfl rfl (by kernel_rfl) (by intro h; cases h) rfl
    · exact step_pick rfl trivial _ _ _ false rfl (by kernel_rfl) (by kernel_rfl)
  · intro o ho
    cases ho
    exact call_dies rfl trivial 16 _ _ [(.pointer (some ⟨p, 0, none⟩)), (.bool false)] rfl (by kernel_rfl) (enters_of Try.func16 (by kernel_rfl) rfl) (off pl) (J2 := fun V => Tn p (some b) (some b) w V) (fun w hw => (must_no hw.1.he).mono (by rintro e w' ⟨rfl, rfl⟩; exact ⟨rfl, hw.1.tn⟩)) (fun a w hd hb => ⟨hd, lw_no (by simp only [law4, h2_0]; rfl) hb⟩)
 | true =>
  cases h2_1 : decide (x.of > s.la) with
  | false =>
    refine wp_region_any hmx ?_
    refine wpAny_dies 27 (fun i__ => ([(.pointer (some ⟨p, 0, none⟩)), (.pointer (some ⟨w.heap.size, 5, none⟩)), (.int .i64 x.of), (.pointer (some ⟨p, 0, none⟩)), (.pointer (some ⟨p, 0, none⟩)), (.pointer (some ⟨p, 2, none⟩)), (.slice (some ⟨b, 0, none⟩) s.nds.length s.nds.length), (.int .i64 (s.nds.length : Int)), (.bool true), (.bool true), (.pointer (some ⟨w.heap.size, 5, none⟩)), (.int .i64 x.of), (.pointer (some ⟨p, 0, none⟩)), (.pointer (some ⟨p, 0, none⟩)), (.pointer (some ⟨p, 3, none⟩)), (.pointer (some ⟨p, 18, none⟩)), (.int .i64 s.la), (.bool false), (.bool false), (.bool false), undef, undef, undef, undef, undef, undef, (.bool false), undef] : List Value).getD i__ undef) (fun V => JD w p b w.heap.size (w.heap.size + 1) need pl s x V) rfl (by kernel_rfl) (hD0.carry (Below.refl _ _).drew) ?_ ?_
    · refine (sqc ?_ (sqc ?_ (sqc ?_ (sqc ?_ (sqc ?_ (sqc ?_ (sqc ?_ (sqc ?_ (sqc ?_ (sqc ?_ (sqc ?_ (sqc ?_ (sqc ?_ (sqc ?_ (sqc ?_ (sqc ?_ (sqc ?_ (sqc ?_ (sqc ?_ (sqc ?_ (sqc ?_ (sqc ?_ (sqc ?_ (sqc ?_ (sqc ?_ (sqc ?_ (sqc ?_ trivial)))))))))))))))))))))))))))
      · exact zmv rfl trivial _ rfl (by kernel_rfl)
      · exact zfa rfl trivial _ _ _ _ rfl rfl (fun w hw => faE5 w _ _)
      · exact zld rfl trivial _ _ _ rfl rfl (fun w hw => load_in ((zca hw.1.bx 5).trans rfl))
      · exact zmv rfl trivial _ rfl (by kernel_rfl)
      · exact znc rfl trivial _ _ _ rfl rfl rfl
      · exact zfa rfl trivial _ _ _ _ rfl rfl (fun w hw => faH2 w _ _)
      · exact zld rfl trivial _ _ _ rfl rfl (fun w hw => load_ns ((zca hw.1.he.box 2).trans rfl))
      · exact step_bi rfl trivial _ _ _ [(.slice (some ⟨b, 0, none⟩) s.nds.length s.nds.length)] rfl (by kernel_rfl) (fun cs w hw => bi_lenN _ cs _ _ _ w)
      · exact zsc rfl trivial 28 _ _ [(.int .i64 x.of), (.int .i64 (s.nds.length : Int))] rfl (by kernel_rfl) (enters_of Try.func28 (by kernel_rfl) rfl) (fun w hw => (isBelow_any _ _ w).mono (by rintro e w' ⟨rfl, rfl⟩; exact ⟨congrArg (fun z => Ending.returned (Value.bool z)) h2_0, hw⟩))
      · exact zmv rfl trivial _ rfl (by kernel_rfl)
      · exact zfa rfl ⟨_, rfl, by kernel_rfl⟩ _ _ _ _ rfl rfl (fun w hw => faE5 w _ _)
      · exact zld rfl ⟨_, rfl, by kernel_rfl⟩ _ _ _ rfl rfl (fun w hw => load_in ((zca hw.1.bx 5).trans rfl))
      · exact zmv rfl ⟨_, rfl, by kernel_rfl⟩ _ rfl (by kernel_rfl)
      · exact znc rfl ⟨_, rfl, by kernel_rfl⟩ _ _ _ rfl rfl rfl
      · exact zfa rfl ⟨_, rfl, by kernel_rfl⟩ _ _ _ _ rfl rfl (fun w hw => faH3 w _ _)
      · exact zfa rfl ⟨_, rfl, by kernel_rfl⟩ _ _ _ _ rfl rfl (fun w hw => faR1 w _ _)
      · exact zld rfl ⟨_, rfl, by kernel_rfl⟩ _ _ _ rfl rfl (fun w hw => load_in ((zca hw.1.he.box 18).trans rfl))
      · exact zbo rfl ⟨_, rfl, by kernel_rfl⟩ _ _ _ _ _ _ _ rfl rfl rfl (fun w hw => by rw [← h2_1]; exact bin_gtr _ _ _)
      · exact step_pick rfl trivial _ _ _ true rfl (by kernel_rfl) (by kernel_rfl)
      · exact zmv rfl trivial _ rfl (by kernel_rfl)
      · exact zsk rfl 19 true 29 (.bool false) rfl rfl (by kernel_rfl) (by intro h; cases h) rfl
      · exact zsk rfl 19 true 29 (.bool false) rfl rfl (by kernel_rfl) (by intro h; cases h) rfl
      · exact zsk rfl 19 true 29 (.bool false) rfl rfl (by kernel_rfl) (by intro h; cases h) rfl
      · exact zsk rfl 19 true 29 (.bool false) rfl rfl (by kernel_rfl) (by intro h; cases h) rfl
      · exact zsk rfl 19 true 29 (.bool false) rfl rfl (by kernel_rfl) (by intro h; cases h) rfl
      · exact zsk rfl 19 true 29 (.bool false) rfl rfl (by kernel_rfl) (by intro h; cases h) rfl
      · exact step_pick rfl trivial _ _ _ false rfl (by kernel_rfl) (by kernel_rfl)
    · intro o ho
      cases ho
      exact call_dies rfl trivial 16 _ _ [(.pointer (some ⟨p, 0, none⟩)), (.bool false)] rfl (by kernel_rfl) (enters_of Try.func16 (by kernel_rfl) rfl) (off pl) (J2 := fun V => Tn p (some b) (some b) w V) (fun w hw => (must_no hw.1.he).mono (by rintro e w' ⟨rfl, rfl⟩; exact ⟨rfl, hw.1.tn⟩)) (fun a w hd hb => ⟨hd, lw_no (by simp only [law4, h2_0, h2_1]; rfl) hb⟩)
  | true =>
    cases h2_2 : hasB s.c.un x.of with
    | true =>
      refine wp_region_any hmx ?_
      refine wpAny_dies 27 (fun i__ => ([(.pointer (some ⟨p, 0, none⟩)), (.pointer (some ⟨w.heap.size, 5, none⟩)), (.int .i64 x.of), (.pointer (some ⟨p, 0, none⟩)), (.pointer (some ⟨p, 0, none⟩)), (.pointer (some ⟨p, 2, none⟩)), (.slice (some ⟨b, 0, none⟩) s.nds.length s.nds.length), (.int .i64 (s.nds.length : Int)), (.bool true), (.bool true), (.pointer (some ⟨w.heap.size, 5, none⟩)), (.int .i64 x.of), (.pointer (some ⟨p, 0, none⟩)), (.pointer (some ⟨p, 0, none⟩)), (.pointer (some ⟨p, 3, none⟩)), (.pointer (some ⟨p, 18, none⟩)), (.int .i64 s.la), (.bool true), (.bool true), (.bool true), (.pointer (some ⟨w.heap.size + 1, 11, none⟩)), (sv s.c.un), (.pointer (some ⟨w.heap.size, 5, none⟩)), (.int .i64 x.of), (.bool true), (.bool false), (.bool false), undef] : List Value).getD i__ undef) (fun V => JD w p b w.heap.size (w.heap.size + 1) need pl s x V) rfl (by kernel_rfl) (hD0.carry (Below.refl _ _).drew) ?_ ?_
      · refine (sqc ?_ (sqc ?_ (sqc ?_ (sqc ?_ (sqc ?_ (sqc ?_ (sqc ?_ (sqc ?_ (sqc ?_ (sqc ?_ (sqc ?_ (sqc ?_ (sqc ?_ (sqc ?_ (sqc ?_ (sqc ?_ (sqc ?_ (sqc ?_ (sqc ?_ (sqc ?_ (sqc ?_ (sqc ?_ (sqc ?_ (sqc ?_ (sqc ?_ (sqc ?_ (sqc ?_ trivial)))))))))))))))))))))))))))
        · exact zmv rfl trivial _ rfl (by kernel_rfl)
        · exact zfa rfl trivial _ _ _ _ rfl rfl (fun w hw => faE5 w _ _)
        · exact zld rfl trivial _ _ _ rfl rfl (fun w hw => load_in ((zca hw.1.bx 5).trans rfl))
        · exact zmv rfl trivial _ rfl (by kernel_rfl)
        · exact znc rfl trivial _ _ _ rfl rfl rfl
        · exact zfa rfl trivial _ _ _ _ rfl rfl (fun w hw => faH2 w _ _)
        · exact zld rfl trivial _ _ _ rfl rfl (fun w hw => load_ns ((zca hw.1.he.box 2).trans rfl))
        · exact step_bi rfl trivial _ _ _ [(.slice (some ⟨b, 0, none⟩) s.nds.length s.nds.length)] rfl (by kernel_rfl) (fun cs w hw => bi_lenN _ cs _ _ _ w)
        · exact zsc rfl trivial 28 _ _ [(.int .i64 x.of), (.int .i64 (s.nds.length : Int))] rfl (by kernel_rfl) (enters_of Try.func28 (by kernel_rfl) rfl) (fun w hw => (isBelow_any _ _ w).mono (by rintro e w' ⟨rfl, rfl⟩; exact ⟨congrArg (fun z => Ending.returned (Value.bool z)) h2_0, hw⟩))
        · exact zmv rfl trivial _ rfl (by kernel_rfl)
        · exact zfa rfl ⟨_, rfl, by kernel_rfl⟩ _ _ _ _ rfl rfl (fun w hw => faE5 w _ _)
        · exact zld rfl ⟨_, rfl, by kernel_rfl⟩ _ _ _ rfl rfl (fun w hw => load_in ((zca hw.1.bx 5).trans rfl))
        · exact zmv rfl ⟨_, rfl, by kernel_rfl⟩ _ rfl (by kernel_rfl)
        · exact znc rfl ⟨_, rfl, by kernel_rfl⟩ _ _ _ rfl rfl rfl
        · exact zfa rfl ⟨_, rfl, by kernel_rfl⟩ _ _ _ _ rfl rfl (fun w hw => faH3 w _ _)
        · exact zfa rfl ⟨_, rfl, by kernel_rfl⟩ _ _ _ _ rfl rfl (fun w hw => faR1 w _ _)
        · exact zld rfl ⟨_, rfl, by kernel_rfl⟩ _ _ _ rfl rfl (fun w hw => load_in ((zca hw.1.he.box 18).trans rfl))
        · exact zbo rfl ⟨_, rfl, by kernel_rfl⟩ _ _ _ _ _ _ _ rfl rfl rfl (fun w hw => by rw [← h2_1]; exact bin_gtr _ _ _)
        · exact step_pick rfl trivial _ _ _ true rfl (by kernel_rfl) (by kernel_rfl)
        · exact zmv rfl trivial _ rfl (by kernel_rfl)
        · exact zfa rfl ⟨_, rfl, by kernel_rfl⟩ _ _ _ _ rfl rfl (fun w hw => faE8 w _ _)
        · exact zld rfl ⟨_, rfl, by kernel_rfl⟩ _ _ _ rfl rfl (fun w hw => load_se (N := s.c.un) ((zca hw.cx 11).trans rfl) ((zca hw.cx 12).trans rfl) ((zca hw.cx 13).trans rfl) ((zca hw.cx 14).trans rfl))
        · exact zfa rfl ⟨_, rfl, by kernel_rfl⟩ _ _ _ _ rfl rfl (fun w hw => faE5 w _ _)
        · exact zld rfl ⟨_, rfl, by kernel_rfl⟩ _ _ _ rfl rfl (fun w hw => load_in ((zca hw.1.bx 5).trans rfl))
        · exact zsc rfl ⟨_, rfl, by kernel_rfl⟩ 37 _ _ [(sv s.c.un), (.int .i64 x.of)] rfl (by kernel_rfl) (enters_of Try.func37 (by kernel_rfl) rfl) (fun w hw => (has_any _ _ w).mono (by rintro e w' ⟨rfl, hb⟩; exact ⟨congrArg (fun z => Ending.returned (Value.bool z)) h2_2, hw.carry hb⟩))
        · exact step_unOp rfl ⟨_, rfl, by kernel_rfl⟩ _ _ _ _ rfl rfl (fun w hw => rfl)
        · exact step_pick rfl trivial _ _ _ true rfl (by kernel_rfl) (by kernel_rfl)
      · intro o ho
        cases ho
        exact call_dies rfl trivial 16 _ _ [(.pointer (some ⟨p, 0, none⟩)), (.bool false)] rfl (by kernel_rfl) (enters_of Try.func16 (by kernel_rfl) rfl) (off pl) (J2 := fun V => Tn p (some b) (some b) w V) (fun w hw => (must_no hw.1.he).mono (by rintro e w' ⟨rfl, rfl⟩; exact ⟨rfl, hw.1.tn⟩)) (fun a w hd hb => ⟨hd, lw_no (by simp only [law4, h2_0, h2_1, h2_2]; rfl) hb⟩)
    | false =>
      refine wp_region_any hmx ?_
      refine zwp (fun i__ => ([(.pointer (some ⟨p, 0, none⟩)), (.pointer (some ⟨w.heap.size, 5, none⟩)), (.int .i64 x.of), (.pointer (some ⟨p, 0, none⟩)), (.pointer (some ⟨p, 0, none⟩)), (.pointer (some ⟨p, 2, none⟩)), (.slice (some ⟨b, 0, none⟩) s.nds.length s.nds.length), (.int .i64 (s.nds.length : Int)), (.bool true), (.bool true), (.pointer (some ⟨w.heap.size, 5, none⟩)), (.int .i64 x.of), (.pointer (some ⟨p, 0, none⟩)), (.pointer (some ⟨p, 0, none⟩)), (.pointer (some ⟨p, 3, none⟩)), (.pointer (some ⟨p, 18, none⟩)), (.int .i64 s.la), (.bool true), (.bool true), (.bool true), (.pointer (some ⟨w.heap.size + 1, 11, none⟩)), (sv s.c.un), (.pointer (some ⟨w.heap.size, 5, none⟩)), (.int .i64 x.of), (.bool false), (.bool true), (.bool true), (.tuple #[])] : List Value).getD i__ undef) (fun V => JD w p b w.heap.size (w.heap.size + 1) need pl s x V) (by kernel_rfl) (hD0.carry (Below.refl _ _).drew) ?_ ?_
      · refine (sqc ?_ (sqc ?_ (sqc ?_ (sqc ?_ (sqc ?_ (sqc ?_ (sqc ?_ (sqc ?_ (sqc ?_ (sqc ?_ (sqc ?_ (sqc ?_ (sqc ?_ (sqc ?_ (sqc ?_ (sqc ?_ (sqc ?_ (sqc ?_ (sqc ?_ (sqc ?_ (sqc ?_ (sqc ?_ (sqc ?_ (sqc ?_ (sqc ?_ (sqc ?_ (sqc ?_ (sqc ?_ trivial))))))))))))))))))))))))))))
        · exact zmv rfl trivial _ rfl (by kernel_rfl)
        · exact zfa rfl trivial _ _ _ _ rfl rfl (fun w hw => faE5 w _ _)
        · exact zld rfl trivial _ _ _ rfl rfl (fun w hw => load_in ((zca hw.1.bx 5).trans rfl))
        · exact zmv rfl trivial _ rfl (by kernel_rfl)
        · exact znc rfl trivial _ _ _ rfl rfl rfl
        · exact zfa rfl trivial _ _ _ _ rfl rfl (fun w hw => faH2 w _ _)
        · exact zld rfl trivial _ _ _ rfl rfl (fun w hw => load_ns ((zca hw.1.he.box 2).trans rfl))
        · exact step_bi rfl trivial _ _ _ [(.slice (some ⟨b, 0, none⟩) s.nds.length s.nds.length)] rfl (by kernel_rfl) (fun cs w hw => bi_lenN _ cs _ _ _ w)
        · exact zsc rfl trivial 28 _ _ [(.int .i64 x.of), (.int .i64 (s.nds.length : Int))] rfl (by kernel_rfl) (enters_of Try.func28 (by kernel_rfl) rfl) (fun w hw => (isBelow_any _ _ w).mono (by rintro e w' ⟨rfl, rfl⟩; exact ⟨congrArg (fun z => Ending.returned (Value.bool z)) h2_0, hw⟩))
        · exact zmv rfl trivial _ rfl (by kernel_rfl)
        · exact zfa rfl ⟨_, rfl, by kernel_rfl⟩ _ _ _ _ rfl rfl (fun w hw => faE5 w _ _)
        · exact zld rfl ⟨_, rfl, by kernel_rfl⟩ _ _ _ rfl rfl (fun w hw => load_in ((zca hw.1.bx 5).trans rfl))
        · exact zmv rfl ⟨_, rfl, by kernel_rfl⟩ _ rfl (by kernel_rfl)
        · exact znc rfl ⟨_, rfl, by kernel_rfl⟩ _ _ _ rfl rfl rfl
        · exact zfa rfl ⟨_, rfl, by kernel_rfl⟩ _ _ _ _ rfl rfl (fun w hw => faH3 w _ _)
        · exact zfa rfl ⟨_, rfl, by kernel_rfl⟩ _ _ _ _ rfl rfl (fun w hw => faR1 w _ _)
        · exact zld rfl ⟨_, rfl, by kernel_rfl⟩ _ _ _ rfl rfl (fun w hw => load_in ((zca hw.1.he.box 18).trans rfl))
        · exact zbo rfl ⟨_, rfl, by kernel_rfl⟩ _ _ _ _ _ _ _ rfl rfl rfl (fun w hw => by rw [← h2_1]; exact bin_gtr _ _ _)
        · exact step_pick rfl trivial _ _ _ true rfl (by kernel_rfl) (by kernel_rfl)
        · exact zmv rfl trivial _ rfl (by kernel_rfl)
        · exact zfa rfl ⟨_, rfl, by kernel_rfl⟩ _ _ _ _ rfl rfl (fun w hw => faE8 w _ _)
        · exact zld rfl ⟨_, rfl, by kernel_rfl⟩ _ _ _ rfl rfl (fun w hw => load_se (N := s.c.un) ((zca hw.cx 11).trans rfl) ((zca hw.cx 12).trans rfl) ((zca hw.cx 13).trans rfl) ((zca hw.cx 14).trans rfl))
        · exact zfa rfl ⟨_, rfl, by kernel_rfl⟩ _ _ _ _ rfl rfl (fun w hw => faE5 w _ _)
        · exact zld rfl ⟨_, rfl, by kernel_rfl⟩ _ _ _ rfl rfl (fun w hw => load_in ((zca hw.1.bx 5).trans rfl))
        · exact zsc rfl ⟨_, rfl, by kernel_rfl⟩ 37 _ _ [(sv s.c.un), (.int .i64 x.of)] rfl (by kernel_rfl) (enters_of Try.func37 (by kernel_rfl) rfl) (fun w hw => (has_any _ _ w).mono (by rintro e w' ⟨rfl, hb⟩; exact ⟨congrArg (fun z => Ending.returned (Value.bool z)) h2_2, hw.carry hb⟩))
        · exact step_unOp rfl ⟨_, rfl, by kernel_rfl⟩ _ _ _ _ rfl rfl (fun w hw => rfl)
        · exact step_pick rfl trivial _ _ _ true rfl (by kernel_rfl) (by kernel_rfl)
        · exact zsc rfl trivial 16 _ _ [(.pointer (some ⟨p, 0, none⟩)), (.bool true)] rfl (by kernel_rfl) (enters_of Try.func16 (by kernel_rfl) rfl) (fun w hw => (must_yes _ w).mono (by rintro e w' ⟨rfl, rfl⟩; exact ⟨rfl, hw⟩))
      intro W hW
      first | refine hK _ _ ?_ | refine (‹∀ (a : Act) (w : World), Code.wp Try.prog _ _ a w → _›) _ _ ?_ | skip
      simp only [finL, List.getD_cons_zero, List.getD_cons_succ, Nat.zero_add, Nat.reduceAdd, List.setIfInBounds_toArray, List.set_cons_zero, List.set_cons_succ]
      obtain ⟨W2, rfl⟩ : ∃ V, V = W := ⟨_, rfl⟩
      have hJ2 := hW
      clear hW hK
      obtain ⟨i0, i1, i2, i3, i4, i5, i6⟩ := bx_ints hJ2.1.bx
      obtain ⟨k0, k1, k2, k3, k4, k5, k6⟩ := bx_ints hJ2.cx
      have zp := hJ2.1.he.frz 18
      have cp18 : W2.cell? ⟨p, 18, none⟩ = some (.int .i64 s.la) := (zca hJ2.1.he.box 18).trans rfl
      by_cases q1 : 0 ≤ x.ta
      case neg =>
        have q1b : decide (x.ta ≥ 0) = false := decide_eq_false q1
        go_wp2_with (go_at_call 16; (with_reducible refine (must_no hJ2.1.he).mono ?_); rintro e u3 ⟨rfl, hu3⟩; obtain rfl := hu3.symm)
        exact ⟨rfl, lw_no (by simp only [law4, h2_0, h2_1, h2_2, q1b]; rfl) hJ2.1.tn⟩
      have q1b : decide (x.ta ≥ 0) = true := decide_eq_true q1
      by_cases q2 : x.ta ≤ 1048576
      case neg =>
        have q2b : decide (x.ta ≤ 1048576) = false := decide_eq_false q2
        go_wp2_with (go_at_call 16; (with_reducible refine (must_no hJ2.1.he).mono ?_); rintro e u3 ⟨rfl, hu3⟩; obtain rfl := hu3.symm)
        exact ⟨rfl, lw_no (by simp only [law4, h2_0, h2_1, h2_2, q1b, q2b]; rfl) hJ2.1.tn⟩
      have q2b : decide (x.ta ≤ 1048576) = true := decide_eq_true q2
      by_cases q3 : x.ro = s.c.ro
      case neg =>
        have q3b : (x.ro == s.c.ro) = false := by simp [q3]
        go_wp2_with (go_at_call 16; (with_reducible refine (must_no hJ2.1.he).mono ?_); rintro e u3 ⟨rfl, hu3⟩; obtain rfl := hu3.symm)
        exact ⟨rfl, lw_no (by simp only [law4, h2_0, h2_1, h2_2, q1b, q2b, q3b]; rfl) hJ2.1.tn⟩
      have HL : Hid (law4 s x = some { s with la := x.of }) := by
        have q3b : (x.ro == s.c.ro) = true := by simp [q3]
        simp only [law4, h2_0, h2_1, h2_2, q1b, q2b, q3b]
        rfl
      go_wp2_with (go_at_call 16; (with_reducible refine (must_yes _ _).mono ?_); rintro e u3 ⟨rfl, hu3⟩; obtain rfl := hu3.symm)
      go_end0
      exact lw_yes HL.out (hJ2.1.he.last x.of) (hJ2.1.tn.trans (Tn.put _ _ _ _ _))
end Go.Proofs.Ytifcnnonnocmmaa
namespace Go.Proofs.Ytifcnnonnocmmaa
open Go.RowKit Go.Shelf Go.Lib
attribute [local go_sem] Oper.semAt_some
theorem stepG_newT {G : Type} {md : Region.Mode} {ops : Array Oper} {Q : Exit → Act → World → Prop} {X0 : Array Value} {val : G → Nat → Value} {J : G → (Nat → Bool) → World → Prop} {i : Nat} {o : Oper} (hi : ops[i]? = some o) (hg : o.guard = none) (T : TypeId) (C : Array Value) (ho : o.op = .alloc T)
  (hr : ∀ W, (Instr.alloc T true (.tuple #[])).run Try.prog W = .ok (.pointer (some ⟨W.heap.size, 0, none⟩)) (W.alloc (.cells C T)))
  (h : ∀ g d W, J g d W → d i = false → (∀ j oj, ops[j]? = some oj → d j = true → ∀ k, bindsOn md oj k = true → d k = true) → ∃ g', (∀ j, d j = true → val g' j = val g j) ∧ val g' i = .pointer (some ⟨W.heap.size, 0, none⟩) ∧ J g' (fun j => if j = i then true else d j) (W.alloc (.cells C T))) : StepG Try.prog md ops Q X0 val J i o := by
 intro g d a W hJ hun _ hcl _
 obtain ⟨g', h1, h2, h3⟩ := h g d W hJ hun hcl
 unfold wpOp
 rw [hi]
 simp only [Region.wanted, hg, if_true]
 refine .inl ?_
 unfold Oper.wp execOp
 simp only [ho, Sem.run_bind, hr, Result.andThen_ok, Sem.run_pure, Oper.upon_value]
 exact ⟨g', h1, by rw [h2], h3⟩
theorem run_allocN (w : World) : (Instr.alloc 65 true (.tuple #[])).run Try.prog w = .ok (.pointer (some ⟨w.heap.size, 0, none⟩)) (w.alloc (.cells (nc n0).toArray 65)) := by go_simp; rfl
theorem load_nd {W : World} {p b : Nat} {need pl : Int} {s : Hs} {m : Nat} {u : Nod} (h : He W p b need pl s) (hm : s.nds[m]? = some u) : (Instr.loadAt 65 (.pointer (some ⟨b, m * 5, none⟩))).run Try.prog W = .ok (.agg (nc u).toArray) W := by
 have h0 := h.cn hm (j := 0) (v := .bool u.up) (by decide) rfl
 have h1 := h.cn hm (j := 1) (v := .int .i64 u.life) (by decide) rfl
 have h2 := h.cn hm (j := 2) (v := .int .i64 u.tag) (by decide) rfl
 have h3 := h.cn hm (j := 3) (v := .int .i64 u.op) (by decide) rfl
 have h4 := h.cn hm (j := 4) (v := .int .i64 u.ask) (by decide) rfl
 rw [Nat.add_zero] at h0
 unfold nc
 go_simp
theorem info_nd : (Try.prog.info? 65).map (·.size) = some 5 := by kernel_rfl
theorem nc_one (u : Nod) : ∀ v ∈ nc u, v.oneCell' = true := by
 intro v hv
 simp only [nc, List.mem_cons, List.not_mem_nil, or_false] at hv
 rcases hv with h | h | h | h | h <;> subst h <;> rfl
theorem neqF (x y : Operand) (f : Nat) (a : Value) (w : World) : binRun Try.prog .neq 56 x y (.func (.func f) #[a] #[]) .nilFunc w = .ok (.bool true) w := by
 kernel_rfl
theorem neqN (x y : Operand) (w : World) : binRun Try.prog .neq 56 x y .nilFunc .nilFunc w = .ok (.bool false) w := by
 kernel_rfl
theorem bare_lt {x : Ev} (h1 : x.he < S128) (h2 : x.un < S128) : (bareE x).he < S128 ∧ (bareE x).un < S128 := by
 have h0 : 0 < S128 := by decide
 unfold bareE
 split
 · exact ⟨h0, h0⟩
 split
 · exact ⟨h0, h0⟩
 split
 · exact ⟨h1, h2⟩
 split
 · exact ⟨h0, h0⟩
 split
 · exact ⟨h0, h0⟩
 · exact ⟨h0, h0⟩
theorem must_noB {p g : Nat} {need pl : Int} {s : Hs} {w : World} (h : He w p g need pl s) (q : Bool) (hq : q = false) : Calls Try.prog 16 #[.pointer (some ⟨p, 0, none⟩), .bool q] w fun e w' => e = .panicked (off pl) ∧ w' = w := by
 subst hq
 exact must_no h
theorem must_yesB (p : Nat) (q : Bool) (hq : q = true) (w : World) : Calls Try.prog 16 #[.pointer (some ⟨p, 0, none⟩), .bool q] w fun e w' => e = .returned (.tuple #[]) ∧ w' = w := by
 subst hq
 exact must_yes p w
def evtF (s : Hs) (x : Ev) (r : Nat → Nod → Option Hs) : Option Hs :=
 if decide (0 ≤ x.nd ∧ x.nd < (s.nds.length : Int)) && (decide (x.li ≥ 1) && decide (x.li ≤ 1073741824)) then (if eqEv x (bareE x) then (if fol s x then (match s.nds[x.nd.toNat]? with | none => none | some u => if (x.k == 1) || (u.up && (u.life == x.li)) then r x.nd.toNat u else none) else none) else none) else none
structure JN (w : World) (p b q : Nat) (need pl : Int) (s : Hs) (x : Ev) (u : Nod) (g : Nat) (d8 d9 : Bool) (V : World) : Prop where
 jb : JB w p b q need pl s x V
 bn : d8 = true → w.heap.size ≤ g ∧ g ≠ p ∧ g ≠ b ∧ g ≠ q ∧ V.heap[g]? = some (.cells (nc (if d9 = true then u else n0)).toArray 65 (0, 0))
theorem JB.off {w V : World} {p b q g : Nat} {need pl : Int} {s : Hs} {x : Ev} (h : JB w p b q need pl s x V) (h1 : w.heap.size ≤ g) (hp : g ≠ p) (hb : g ≠ b) (hq : g ≠ q) (cs : Array Value) : JB w p b q need pl s x (V.setRow g cs) :=
 ⟨⟨(setRow_other V g p _ (fun e => hp e.symm)).trans h.he.box, (setRow_other V g b _ (fun e => hb e.symm)).trans h.he.nod, h.he.ne⟩, (setRow_other V g q _ (fun e => hq e.symm)).trans h.bx, ⟨h.tn.os, h.tn.tape, h.tn.output, by simpa [World.setRow] using h.tn.size, fun k hk k1 k2 => (setRow_other V g k _ (by omega)).trans (h.tn.block k hk k1 k2), .inl rfl⟩⟩
theorem event_nil {w : World} {p b : Nat} {need pl : Int} {s : Hs} (h : He w p b need pl s) (x : Ev) : Calls Try.prog 15 #[.pointer (some ⟨p, 0, none⟩), evV x, .nilFunc] w (Lw p b need pl w none) := by
 have hmx : Try.prog.follows .mixedOrders = true := by kernel_rfl
 have hJ0 := JB.new h x
 unfold evV ecA
 go_enter Try.func15, Try.ntmps15
 go_wp2
 refine wp_region_any hmx ?_
 refine wpAny_dies 23 (fun i__ => ([(.pointer (some ⟨p, 0, none⟩)), .nilFunc, (.bool false), (.bool false), undef, undef, undef, undef, undef, undef, undef, undef, (.bool false), (.bool false), undef, undef, undef, (.bool false), (.bool false), undef, undef, undef, (.bool false), undef] : List Value).getD i__ undef) (fun V => JB w p b w.heap.size need pl s x V) rfl (by kernel_rfl) (hJ0.carry (Below.refl _ _).drew) ?_ ?_
 · refine (sqc ?_ (sqc ?_ (sqc ?_ (sqc ?_ (sqc ?_ (sqc ?_ (sqc ?_ (sqc ?_ (sqc ?_ (sqc ?_ (sqc ?_ (sqc ?_ (sqc ?_ (sqc ?_ (sqc ?_ (sqc ?_ (sqc ?_ (sqc ?_ (sqc ?_ (sqc ?_ (sqc ?_ (sqc ?_ (sqc ?_ trivial)))))))))))))))))))))))
   · exact zmv rfl trivial _ rfl (by kernel_rfl)
   · exact zmv rfl trivial _ rfl (by kernel_rfl)
   · exact zbo rfl trivial _ _ _ _ _ _ _ rfl rfl rfl (fun w hw => neqN _ _ w)
   · exact zmv rfl trivial _ rfl (by kernel_rfl)
   · exact zsk rfl 3 true 10 (.bool false) rfl rfl (by kernel_rfl) (by intro h; cases h) rfl
   · exact zsk rfl 3 true 10 (.bool false) rfl rfl (by kernel_rfl) (by intro h; cases h) rfl
   · exact zsk rfl 3 true 10 (.bool false) rfl rfl (by kernel_rfl) (by intro h; cases h) rfl
   · exact zsk rfl 3 true 10 (.bool false) rfl rfl (by kernel_rfl) (by intro h; cases h) rfl
   · exact zsk rfl 3 true 10 (.bool false) rfl rfl (by kernel_rfl) (by intro h; cases h) rfl
   · exact zsk rfl 3 true 10 (.bool false) rfl rfl (by kernel_rfl) (by intro h; cases h) rfl
   · exact zsk rfl 3 true 10 (.bool false) rfl rfl (by kernel_rfl) (by intro h; cases h) rfl
   · exact zsk rfl 3 true 10 (.bool false) rfl rfl (by kernel_rfl) (by intro h; cases h) rfl
   · exact step_pick rfl trivial _ _ _ false rfl (by kernel_rfl) (by kernel_rfl)
   · exact zmv rfl trivial _ rfl (by kernel_rfl)
   · exact zsk rfl 13 true 20 (.bool false) rfl rfl (by kernel_rfl) (by intro h; cases h) rfl
   · exact zsk rfl 13 true 20 (.bool false) rfl rfl (by kernel_rfl) (by intro h; cases h) rfl
   · exact zsk rfl 13 true 20 (.bool false) rfl rfl (by kernel_rfl) (by intro h; cases h) rfl
   · exact step_pick rfl trivial _ _ _ false rfl (by kernel_rfl) (by kernel_rfl)
   · exact zmv rfl trivial _ rfl (by kernel_rfl)
   · exact zsk rfl 18 true 25 (.bool false) rfl rfl (by kernel_rfl) (by intro h; cases h) rfl
   · exact zsk rfl 18 true 25 (.bool false) rfl rfl (by kernel_rfl) (by intro h; cases h) rfl
   · exact zsk rfl 18 true 25 (.bool false) rfl rfl (by kernel_rfl) (by intro h; cases h) rfl
   · exact step_pick rfl trivial _ _ _ false rfl (by kernel_rfl) (by kernel_rfl)
 · intro o ho
   cases ho
   exact call_dies rfl trivial 16 _ _ [(.pointer (some ⟨p, 0, none⟩)), (.bool false)] rfl (by kernel_rfl) (enters_of Try.func16 (by kernel_rfl) rfl) (off pl) (J2 := fun V => Tn p (some b) (some b) w V) (fun w hw => (must_no hw.he).mono (by rintro e w' ⟨rfl, rfl⟩; exact ⟨rfl, hw.tn⟩)) (fun a w hd hb => ⟨hd, lw_no rfl hb⟩)
theorem event_fn {w : World} {p b : Nat} {need pl : Int} {s : Hs} (h : He w p b need pl s) (x : Ev) (hhe : x.he < S128) (hun : x.un < S128) (f : Nat) (r : Nat → Nod → Option Hs) (hf : f = 22 ∨ f = 23 ∨ f = 24 ∨ f = 25 ∨ f = 26 ∨ f = 27)
  (hlaw : ∀ u, s.nds[x.nd.toNat]? = some u → x.nd = (x.nd.toNat : Int) → ∀ V, He V p b need pl s → Calls Try.prog f #[.pointer (some ⟨p, 0, none⟩), evV x] V (Lw p b need pl V (r x.nd.toNat u))) :
  Calls Try.prog 15 #[.pointer (some ⟨p, 0, none⟩), evV x, (.func (.func f) #[.pointer (some ⟨p, 0, none⟩)] #[])] w (Lw p b need pl w (evtF s x r)) := by
 have hmx : Try.prog.follows .mixedOrders = true := by kernel_rfl
 have hJ0 := JB.new h x
 obtain ⟨xv, hxv⟩ : ∃ xv, evV x = xv := ⟨_, rfl⟩
 have HV : Hid (evV x = xv) := hxv
 have hJ0' := hJ0
 unfold evV ecA at hxv
 rw [show evV x = .agg (ecA x) from rfl]
 unfold ecA
 clear hxv
 go_enter Try.func15, Try.ntmps15
 go_wp2
 rename_i hK
 cases h1_0 : decide (0 ≤ x.nd ∧ x.nd < (s.nds.length : Int)) with
 | false =>
  refine wp_region_any hmx ?_
  refine wpAny_dies 23 (fun i__ => ([(.pointer (some ⟨p, 0, none⟩)), (.func (.func f) #[.pointer (some ⟨p, 0, none⟩)] #[]), (.bool true), (.bool true), (.pointer (some ⟨w.heap.size, 1, none⟩)), (.int .i64 x.nd), (.pointer (some ⟨p, 0, none⟩)), (.pointer (some ⟨p, 0, none⟩)), (.pointer (some ⟨p, 2, none⟩)), (.slice (some ⟨b, 0, none⟩) s.nds.length s.nds.length), (.int .i64 (s.nds.length : Int)), (.bool false), (.bool false), (.bool false), undef, undef, undef, (.bool false), (.bool false), undef, undef, undef, (.bool false), undef] : List Value).getD i__ undef) (fun V => JB w p b w.heap.size need pl s x V) rfl (by kernel_rfl) (hJ0.carry (Below.refl _ _).drew) ?_ ?_
  · refine (sqc ?_ (sqc ?_ (sqc ?_ (sqc ?_ (sqc ?_ (sqc ?_ (sqc ?_ (sqc ?_ (sqc ?_ (sqc ?_ (sqc ?_ (sqc ?_ (sqc ?_ (sqc ?_ (sqc ?_ (sqc ?_ (sqc ?_ (sqc ?_ (sqc ?_ (sqc ?_ (sqc ?_ (sqc ?_ (sqc ?_ trivial)))))))))))))))))))))))
    · exact zmv rfl trivial _ rfl (by kernel_rfl)
    · exact zmv rfl trivial _ rfl (by kernel_rfl)
    · exact zbo rfl trivial _ _ _ _ _ _ _ rfl rfl rfl (fun w hw => neqF _ _ _ _ w)
    · exact zmv rfl trivial _ rfl (by kernel_rfl)
    · exact zfa rfl ⟨_, rfl, by kernel_rfl⟩ _ _ _ _ rfl rfl (fun w hw => faE1 w _ _)
    · exact zld rfl ⟨_, rfl, by kernel_rfl⟩ _ _ _ rfl rfl (fun w hw => load_in ((zca hw.bx 1).trans rfl))
    · exact zmv rfl ⟨_, rfl, by kernel_rfl⟩ _ rfl (by kernel_rfl)
    · exact znc rfl ⟨_, rfl, by kernel_rfl⟩ _ _ _ rfl rfl rfl
    · exact zfa rfl ⟨_, rfl, by kernel_rfl⟩ _ _ _ _ rfl rfl (fun w hw => faH2 w _ _)
    · exact zld rfl ⟨_, rfl, by kernel_rfl⟩ _ _ _ rfl rfl (fun w hw => load_ns ((zca hw.he.box 2).trans rfl))
    · exact step_bi rfl ⟨_, rfl, by kernel_rfl⟩ _ _ _ [(.slice (some ⟨b, 0, none⟩) s.nds.length s.nds.length)] rfl (by kernel_rfl) (fun cs w hw => bi_lenN _ cs _ _ _ w)
    · exact zsc rfl ⟨_, rfl, by kernel_rfl⟩ 28 _ _ [(.int .i64 x.nd), (.int .i64 (s.nds.length : Int))] rfl (by kernel_rfl) (enters_of Try.func28 (by kernel_rfl) rfl) (fun w hw => (isBelow_any _ _ w).mono (by rintro e w' ⟨rfl, rfl⟩; exact ⟨congrArg (fun z => Ending.returned (Value.bool z)) h1_0, hw⟩))
    · exact step_pick rfl trivial _ _ _ true rfl (by kernel_rfl) (by kernel_rfl)
    · exact zmv rfl trivial _ rfl (by kernel_rfl)
    · exact zsk rfl 13 true 20 (.bool false) rfl rfl (by kernel_rfl) (by intro h; cases h) rfl
    · exact zsk rfl 13 true 20 (.bool false) rfl rfl (by kernel_rfl) (by intro h; cases h) rfl
    · exact zsk rfl 13 true 20 (.bool false) rfl rfl (by kernel_rfl) (by intro h; cases h) rfl
    · exact step_pick rfl trivial _ _ _ false rfl (by kernel_rfl) (by kernel_rfl)
    · exact zmv rfl trivial _ rfl (by kernel_rfl)
    · exact zsk rfl 18 true 25 (.bool false) rfl rfl (by kernel_rfl) (by intro h; cases h) rfl
    · exact zsk rfl 18 true 25 (.bool false) rfl rfl (by kernel_rfl) (by intro h; cases h) rfl
    · exact zsk rfl 18 true 25 (.bool false) rfl rfl (by kernel_rfl) (by intro h; cases h) rfl
    · exact step_pick rfl trivial _ _ _ false rfl (by kernel_rfl) (by kernel_rfl)
  · intro o ho
    cases ho
    exact call_dies rfl trivial 16 _ _ [(.pointer (some ⟨p, 0, none⟩)), (.bool false)] rfl (by kernel_rfl) (enters_of Try.func16 (by kernel_rfl) rfl) (off pl) (J2 := fun V => Tn p (some b) (some b) w V) (fun w hw => (must_no hw.he).mono (by rintro e w' ⟨rfl, rfl⟩; exact ⟨rfl, hw.tn⟩)) (fun a w hd hb => ⟨hd, lw_no (by simp only [evtF, h1_0]; rfl) hb⟩)
 | true =>
  cases h1_1 : decide (x.li ≥ 1) with
  | false =>
    refine wp_region_any hmx ?_
    refine wpAny_dies 23 (fun i__ => ([(.pointer (some ⟨p, 0, none⟩)), (.func (.func f) #[.pointer (some ⟨p, 0, none⟩)] #[]), (.bool true), (.bool true), (.pointer (some ⟨w.heap.size, 1, none⟩)), (.int .i64 x.nd), (.pointer (some ⟨p, 0, none⟩)), (.pointer (some ⟨p, 0, none⟩)), (.pointer (some ⟨p, 2, none⟩)), (.slice (some ⟨b, 0, none⟩) s.nds.length s.nds.length), (.int .i64 (s.nds.length : Int)), (.bool true), (.bool true), (.bool true), (.pointer (some ⟨w.heap.size, 2, none⟩)), (.int .i64 x.li), (.bool false), (.bool false), (.bool false), undef, undef, undef, (.bool false), undef] : List Value).getD i__ undef) (fun V => JB w p b w.heap.size need pl s x V) rfl (by kernel_rfl) (hJ0.carry (Below.refl _ _).drew) ?_ ?_
    · refine (sqc ?_ (sqc ?_ (sqc ?_ (sqc ?_ (sqc ?_ (sqc ?_ (sqc ?_ (sqc ?_ (sqc ?_ (sqc ?_ (sqc ?_ (sqc ?_ (sqc ?_ (sqc ?_ (sqc ?_ (sqc ?_ (sqc ?_ (sqc ?_ (sqc ?_ (sqc ?_ (sqc ?_ (sqc ?_ (sqc ?_ trivial)))))))))))))))))))))))
      · exact zmv rfl trivial _ rfl (by kernel_rfl)
      · exact zmv rfl trivial _ rfl (by kernel_rfl)
      · exact zbo rfl trivial _ _ _ _ _ _ _ rfl rfl rfl (fun w hw => neqF _ _ _ _ w)
      · exact zmv rfl trivial _ rfl (by kernel_rfl)
      · exact zfa rfl ⟨_, rfl, by kernel_rfl⟩ _ _ _ _ rfl rfl (fun w hw => faE1 w _ _)
      · exact zld rfl ⟨_, rfl, by kernel_rfl⟩ _ _ _ rfl rfl (fun w hw => load_in ((zca hw.bx 1).trans rfl))
      · exact zmv rfl ⟨_, rfl, by kernel_rfl⟩ _ rfl (by kernel_rfl)
      · exact znc rfl ⟨_, rfl, by kernel_rfl⟩ _ _ _ rfl rfl rfl
      · exact zfa rfl ⟨_, rfl, by kernel_rfl⟩ _ _ _ _ rfl rfl (fun w hw => faH2 w _ _)
      · exact zld rfl ⟨_, rfl, by kernel_rfl⟩ _ _ _ rfl rfl (fun w hw => load_ns ((zca hw.he.box 2).trans rfl))
      · exact step_bi rfl ⟨_, rfl, by kernel_rfl⟩ _ _ _ [(.slice (some ⟨b, 0, none⟩) s.nds.length s.nds.length)] rfl (by kernel_rfl) (fun cs w hw => bi_lenN _ cs _ _ _ w)
      · exact zsc rfl ⟨_, rfl, by kernel_rfl⟩ 28 _ _ [(.int .i64 x.nd), (.int .i64 (s.nds.length : Int))] rfl (by kernel_rfl) (enters_of Try.func28 (by kernel_rfl) rfl) (fun w hw => (isBelow_any _ _ w).mono (by rintro e w' ⟨rfl, rfl⟩; exact ⟨congrArg (fun z => Ending.returned (Value.bool z)) h1_0, hw⟩))
      · exact step_pick rfl trivial _ _ _ true rfl (by kernel_rfl) (by kernel_rfl)
      · exact zmv rfl trivial _ rfl (by kernel_rfl)
      · exact zfa rfl ⟨_, rfl, by kernel_rfl⟩ _ _ _ _ rfl rfl (fun w hw => faE2 w _ _)
      · exact zld rfl ⟨_, rfl, by kernel_rfl⟩ _ _ _ rfl rfl (fun w hw => load_in ((zca hw.bx 2).trans rfl))
      · exact zbo rfl ⟨_, rfl, by kernel_rfl⟩ _ _ _ _ _ _ _ rfl rfl rfl (fun w hw => by rw [← h1_1]; exact bin_geq _ _ _)
      · exact step_pick rfl trivial _ _ _ true rfl (by kernel_rfl) (by kernel_rfl)
      · exact zmv rfl trivial _ rfl (by kernel_rfl)
      · exact zsk rfl 18 true 25 (.bool false) rfl rfl (by kernel_rfl) (by intro h; cases h) rfl
      · exact zsk rfl 18 true 25 (.bool false) rfl rfl (by kernel_rfl) (by intro h; cases h) rfl
      · exact zsk rfl 18 true 25 (.bool false) rfl rfl (by kernel_rfl) (by intro h; cases h) rfl
      · exact step_pick rfl trivial _ _ _ false rfl (by kernel_rfl) (by kernel_rfl)
    · intro o ho
      cases ho
      exact call_dies rfl trivial 16 _ _ [(.pointer (some ⟨p, 0, none⟩)), (.bool false)] rfl (by kernel_rfl) (enters_of Try.func16 (by kernel_rfl) rfl) (off pl) (J2 := fun V => Tn p (some b) (some b) w V) (fun w hw => (must_no hw.he).mono (by rintro e w' ⟨rfl, rfl⟩; exact ⟨rfl, hw.tn⟩)) (fun a w hd hb => ⟨hd, lw_no (by simp only [evtF, h1_0, h1_1]; rfl) hb⟩)
  | true =>
    cases h1_2 : decide (x.li ≤ 1073741824) with
    | false =>
      refine wp_region_any hmx ?_
      refine wpAny_dies 23 (fun i__ => ([(.pointer (some ⟨p, 0, none⟩)), (.func (.func f) #[.pointer (some ⟨p, 0, none⟩)] #[]), (.bool true), (.bool true), (.pointer (some ⟨w.heap.size, 1, none⟩)), (.int .i64 x.nd), (.pointer (some ⟨p, 0, none⟩)), (.pointer (some ⟨p, 0, none⟩)), (.pointer (some ⟨p, 2, none⟩)), (.slice (some ⟨b, 0, none⟩) s.nds.length s.nds.length), (.int .i64 (s.nds.length : Int)), (.bool true), (.bool true), (.bool true), (.pointer (some ⟨w.heap.size, 2, none⟩)), (.int .i64 x.li), (.bool true), (.bool true), (.bool true), (.pointer (some ⟨w.heap.size, 2, none⟩)), (.int .i64 x.li), (.bool false), (.bool false), undef] : List Value).getD i__ undef) (fun V => JB w p b w.heap.size need pl s x V) rfl (by kernel_rfl) (hJ0.carry (Below.refl _ _).drew) ?_ ?_
      · refine (sqc ?_ (sqc ?_ (sqc ?_ (sqc ?_ (sqc ?_ (sqc ?_ (sqc ?_ (sqc ?_ (sqc ?_ (sqc ?_ (sqc ?_ (sqc ?_ (sqc ?_ (sqc ?_ (sqc ?_ (sqc ?_ (sqc ?_ (sqc ?_ (sqc ?_ (sqc ?_ (sqc ?_ (sqc ?_ (sqc ?_ trivial)))))))))))))))))))))))
        · exact zmv rfl trivial _ rfl (by kernel_rfl)
        · exact zmv rfl trivial _ rfl (by kernel_rfl)
        · exact zbo rfl trivial _ _ _ _ _ _ _ rfl rfl rfl (fun w hw => neqF _ _ _ _ w)
        · exact zmv rfl trivial _ rfl (by kernel_rfl)
        · exact zfa rfl ⟨_, rfl, by kernel_rfl⟩ _ _ _ _ rfl rfl (fun w hw => faE1 w _ _)
        · exact zld rfl ⟨_, rfl, by kernel_rfl⟩ _ _ _ rfl rfl (fun w hw => load_in ((zca hw.bx 1).trans rfl))
        · exact zmv rfl ⟨_, rfl, by kernel_rfl⟩ _ rfl (by kernel_rfl)
        · exact znc rfl ⟨_, rfl, by kernel_rfl⟩ _ _ _ rfl rfl rfl
        · exact zfa rfl ⟨_, rfl, by kernel_rfl⟩ _ _ _ _ rfl rfl (fun w hw => faH2 w _ _)
        · exact zld rfl ⟨_, rfl, by kernel_rfl⟩ _ _ _ rfl rfl (fun w hw => load_ns ((zca hw.he.box 2).trans rfl))
        · exact step_bi rfl ⟨_, rfl, by kernel_rfl⟩ _ _ _ [(.slice (some ⟨b, 0, none⟩) s.nds.length s.nds.length)] rfl (by kernel_rfl) (fun cs w hw => bi_lenN _ cs _ _ _ w)
        · exact zsc rfl ⟨_, rfl, by kernel_rfl⟩ 28 _ _ [(.int .i64 x.nd), (.int .i64 (s.nds.length : Int))] rfl (by kernel_rfl) (enters_of Try.func28 (by kernel_rfl) rfl) (fun w hw => (isBelow_any _ _ w).mono (by rintro e w' ⟨rfl, rfl⟩; exact ⟨congrArg (fun z => Ending.returned (Value.bool z)) h1_0, hw⟩))
        · exact step_pick rfl trivial _ _ _ true rfl (by kernel_rfl) (by kernel_rfl)
        · exact zmv rfl trivial _ rfl (by kernel_rfl)
        · exact zfa rfl ⟨_, rfl, by kernel_rfl⟩ _ _ _ _ rfl rfl (fun w hw => faE2 w _ _)
        · exact zld rfl ⟨_, rfl, by kernel_rfl⟩ _ _ _ rfl rfl (fun w hw => load_in ((zca hw.bx 2).trans rfl))
        · exact zbo rfl ⟨_, rfl, by kernel_rfl⟩ _ _ _ _ _ _ _ rfl rfl rfl (fun w hw => by rw [← h1_1]; exact bin_geq _ _ _)
        · exact step_pick rfl trivial _ _ _ true rfl (by kernel_rfl) (by kernel_rfl)
        · exact zmv rfl trivial _ rfl (by kernel_rfl)
        · exact zfa rfl ⟨_, rfl, by kernel_rfl⟩ _ _ _ _ rfl rfl (fun w hw => faE2 w _ _)
        · exact zld rfl ⟨_, rfl, by kernel_rfl⟩ _ _ _ rfl rfl (fun w hw => load_in ((zca hw.bx 2).trans rfl))
        · exact zbo rfl ⟨_, rfl, by kernel_rfl⟩ _ _ _ _ _ _ _ rfl rfl rfl (fun w hw => by rw [← h1_2]; exact bin_leq _ _ _)
        · exact step_pick rfl trivial _ _ _ true rfl (by kernel_rfl) (by kernel_rfl)
      · intro o ho
        cases ho
        exact call_dies rfl trivial 16 _ _ [(.pointer (some ⟨p, 0, none⟩)), (.bool false)] rfl (by kernel_rfl) (enters_of Try.func16 (by kernel_rfl) rfl) (off pl) (J2 := fun V => Tn p (some b) (some b) w V) (fun w hw => (must_no hw.he).mono (by rintro e w' ⟨rfl, rfl⟩; exact ⟨rfl, hw.tn⟩)) (fun a w hd hb => ⟨hd, lw_no (by simp only [evtF, h1_0, h1_1, h1_2]; rfl) hb⟩)
    | true =>
      refine wp_region_any hmx ?_
      refine zwp (fun i__ => ([(.pointer (some ⟨p, 0, none⟩)), (.func (.func f) #[.pointer (some ⟨p, 0, none⟩)] #[]), (.bool true), (.bool true), (.pointer (some ⟨w.heap.size, 1, none⟩)), (.int .i64 x.nd), (.pointer (some ⟨p, 0, none⟩)), (.pointer (some ⟨p, 0, none⟩)), (.pointer (some ⟨p, 2, none⟩)), (.slice (some ⟨b, 0, none⟩) s.nds.length s.nds.length), (.int .i64 (s.nds.length : Int)), (.bool true), (.bool true), (.bool true), (.pointer (some ⟨w.heap.size, 2, none⟩)), (.int .i64 x.li), (.bool true), (.bool true), (.bool true), (.pointer (some ⟨w.heap.size, 2, none⟩)), (.int .i64 x.li), (.bool true), (.bool true), (.tuple #[])] : List Value).getD i__ undef) (fun V => JB w p b w.heap.size need pl s x V) (by kernel_rfl) (hJ0.carry (Below.refl _ _).drew) ?_ ?_
      · refine (sqc ?_ (sqc ?_ (sqc ?_ (sqc ?_ (sqc ?_ (sqc ?_ (sqc ?_ (sqc ?_ (sqc ?_ (sqc ?_ (sqc ?_ (sqc ?_ (sqc ?_ (sqc ?_ (sqc ?_ (sqc ?_ (sqc ?_ (sqc ?_ (sqc ?_ (sqc ?_ (sqc ?_ (sqc ?_ (sqc ?_ (sqc ?_ trivial))))))))))))))))))))))))
        · exact zmv rfl trivial _ rfl (by kernel_rfl)
        · exact zmv rfl trivial _ rfl (by kernel_rfl)
        · exact zbo rfl trivial _ _ _ _ _ _ _ rfl rfl rfl (fun w hw => neqF _ _ _ _ w)
        · exact zmv rfl trivial _ rfl (by kernel_rfl)
        · exact zfa rfl ⟨_, rfl, by kernel_rfl⟩ _ _ _ _ rfl rfl (fun w hw => faE1 w _ _)
        · exact zld rfl ⟨_, rfl, by kernel_rfl⟩ _ _ _ rfl rfl (fun w hw => load_in ((zca hw.bx 1).trans rfl))
        · exact zmv rfl ⟨_, rfl, by kernel_rfl⟩ _ rfl (by kernel_rfl)
        · exact znc rfl ⟨_, rfl, by kernel_rfl⟩ _ _ _ rfl rfl rfl
        · exact zfa rfl ⟨_, rfl, by kernel_rfl⟩ _ _ _ _ rfl rfl (fun w hw => faH2 w _ _)
        · exact zld rfl ⟨_, rfl, by kernel_rfl⟩ _ _ _ rfl rfl (fun w hw => load_ns ((zca hw.he.box 2).trans rfl))
        · exact step_bi rfl ⟨_, rfl, by kernel_rfl⟩ _ _ _ [(.slice (some ⟨b, 0, none⟩) s.nds.length s.nds.length)] rfl (by kernel_rfl) (fun cs w hw => bi_lenN _ cs _ _ _ w)
        · exact zsc rfl ⟨_, rfl, by kernel_rfl⟩ 28 _ _ [(.int .i64 x.nd), (.int .i64 (s.nds.length : Int))] rfl (by kernel_rfl) (enters_of Try.func28 (by kernel_rfl) rfl) (fun w hw => (isBelow_any _ _ w).mono (by rintro e w' ⟨rfl, rfl⟩; exact ⟨congrArg (fun z => Ending.returned (Value.bool z)) h1_0, hw⟩))
        · exact step_pick rfl trivial _ _ _ true rfl (by kernel_rfl) (by kernel_rfl)
        · exact zmv rfl trivial _ rfl (by kernel_rfl)
        · exact zfa rfl ⟨_, rfl, by kernel_rfl⟩ _ _ _ _ rfl rfl (fun w hw => faE2 w _ _)
        · exact zld rfl ⟨_, rfl, by kernel_rfl⟩ _ _ _ rfl rfl (fun w hw => load_in ((zca hw.bx 2).trans rfl))
        · exact zbo rfl ⟨_, rfl, by kernel_rfl⟩ _ _ _ _ _ _ _ rfl rfl rfl (fun w hw => by rw [← h1_1]; exact bin_geq _ _ _)
        · exact step_pick rfl trivial _ _ _ true rfl (by kernel_rfl) (by kernel_rfl)
        · exact zmv rfl trivial _ rfl (by kernel_rfl)
        · exact zfa rfl ⟨_, rfl, by kernel_rfl⟩ _ _ _ _ rfl rfl (fun w hw => faE2 w _ _)
        · exact zld rfl ⟨_, rfl, by kernel_rfl⟩ _ _ _ rfl rfl (fun w hw => load_in ((zca hw.bx 2).trans rfl))
        · exact zbo rfl ⟨_, rfl, by kernel_rfl⟩ _ _ _ _ _ _ _ rfl rfl rfl (fun w hw => by rw [← h1_2]; exact bin_leq _ _ _)
        · exact step_pick rfl trivial _ _ _ true rfl (by kernel_rfl) (by kernel_rfl)
        · exact zsc rfl trivial 16 _ _ [(.pointer (some ⟨p, 0, none⟩)), (.bool true)] rfl (by kernel_rfl) (enters_of Try.func16 (by kernel_rfl) rfl) (fun w hw => (must_yes _ w).mono (by rintro e w' ⟨rfl, rfl⟩; exact ⟨rfl, hw⟩))
      intro W hW
      first | refine hK _ _ ?_ | refine (‹∀ (a : Act) (w : World), Code.wp Try.prog _ _ a w → _›) _ _ ?_ | skip
      simp only [finL, List.getD_cons_zero, List.getD_cons_succ, Nat.zero_add, Nat.reduceAdd, List.setIfInBounds_toArray, List.set_cons_zero, List.set_cons_succ]
      obtain ⟨W1, rfl⟩ : ∃ V, V = W := ⟨_, rfl⟩
      have hJ1 := hW
      clear hW hK
      go_wp2
      rename_i hK
      cases h2_0 : eqEv x (bareE x) with
      | false =>
        refine wp_region_any hmx ?_
        refine wpAny_dies 5 (fun i__ => ([(.pointer (some ⟨p, 0, none⟩)), (evV x), (evV x), (evV (bareE x)), (.bool false), undef] : List Value).getD i__ undef) (fun V => JB w p b w.heap.size need pl s x V) rfl (by kernel_rfl) (hJ1.carry (Below.refl _ _).drew) ?_ ?_
        · refine (sqc ?_ (sqc ?_ (sqc ?_ (sqc ?_ (sqc ?_ trivial)))))
          · exact zmv rfl trivial _ rfl (by kernel_rfl)
          · exact zld rfl trivial _ _ _ rfl rfl (fun w hw => load_bx hw.bx)
          · exact zld rfl trivial _ _ _ rfl rfl (fun w hw => load_bx hw.bx)
          · exact zsc rfl trivial 29 _ _ [(evV x)] rfl (by kernel_rfl) (enters_of Try.func29 (by kernel_rfl) rfl) (fun w hw => (bare_any x w).mono (by rintro e w' ⟨rfl, hb⟩; exact ⟨rfl, hw.carry hb⟩))
          · exact zbo rfl trivial _ _ _ _ _ _ _ rfl rfl rfl (fun w hw => by rw [← h2_0]; exact eqE _ _ _ _ hhe hun (bare_lt hhe hun).1 (bare_lt hhe hun).2 w)
        · intro o ho
          cases ho
          exact call_dies rfl trivial 16 _ _ [(.pointer (some ⟨p, 0, none⟩)), (.bool false)] rfl (by kernel_rfl) (enters_of Try.func16 (by kernel_rfl) rfl) (off pl) (J2 := fun V => Tn p (some b) (some b) w V) (fun w hw => (must_no hw.he).mono (by rintro e w' ⟨rfl, rfl⟩; exact ⟨rfl, hw.tn⟩)) (fun a w hd hb => ⟨hd, lw_no (by simp only [evtF, h1_0, h1_1, h1_2, h2_0]; rfl) hb⟩)
      | true =>
        refine wp_region_any hmx ?_
        refine zwp (fun i__ => ([(.pointer (some ⟨p, 0, none⟩)), (evV x), (evV x), (evV (bareE x)), (.bool true), (.tuple #[])] : List Value).getD i__ undef) (fun V => JB w p b w.heap.size need pl s x V) (by kernel_rfl) (hJ1.carry (Below.refl _ _).drew) ?_ ?_
        · refine (sqc ?_ (sqc ?_ (sqc ?_ (sqc ?_ (sqc ?_ (sqc ?_ trivial))))))
          · exact zmv rfl trivial _ rfl (by kernel_rfl)
          · exact zld rfl trivial _ _ _ rfl rfl (fun w hw => load_bx hw.bx)
          · exact zld rfl trivial _ _ _ rfl rfl (fun w hw => load_bx hw.bx)
          · exact zsc rfl trivial 29 _ _ [(evV x)] rfl (by kernel_rfl) (enters_of Try.func29 (by kernel_rfl) rfl) (fun w hw => (bare_any x w).mono (by rintro e w' ⟨rfl, hb⟩; exact ⟨rfl, hw.carry hb⟩))
          · exact zbo rfl trivial _ _ _ _ _ _ _ rfl rfl rfl (fun w hw => by rw [← h2_0]; exact eqE _ _ _ _ hhe hun (bare_lt hhe hun).1 (bare_lt hhe hun).2 w)
          · exact zsc rfl trivial 16 _ _ [(.pointer (some ⟨p, 0, none⟩)), (.bool true)] rfl (by kernel_rfl) (enters_of Try.func16 (by kernel_rfl) rfl) (fun w hw => (must_yes _ w).mono (by rintro e w' ⟨rfl, rfl⟩; exact ⟨rfl, hw⟩))
        intro W hW
        first | refine hK _ _ ?_ | refine (‹∀ (a : Act) (w : World), Code.wp Try.prog _ _ a w → _›) _ _ ?_ | skip
        simp only [finL, List.getD_cons_zero, List.getD_cons_succ, Nat.zero_add, Nat.reduceAdd, List.setIfInBounds_toArray, List.set_cons_zero, List.set_cons_succ]
        obtain ⟨W2, rfl⟩ : ∃ V, V = W := ⟨_, rfl⟩
        have hJ2 := hW
        clear hW hK
        obtain ⟨i0, i1, i2, i3, i4, i5, i6⟩ := bx_ints hJ2.bx
        obtain ⟨e7, e8, e9, e10, e11, e12, e13, e14⟩ := bx_sets hJ2.bx
        have hfo := follows_any hJ2.he x
        unfold evV ecA at hfo
        have hnn : 0 ≤ x.nd ∧ x.nd < (s.nds.length : Int) := of_decide_eq_true h1_0
        obtain ⟨u, hm⟩ : ∃ u, s.nds[x.nd.toNat]? = some u := ⟨_, List.getElem?_eq_getElem (by omega)⟩
        have hxm : x.nd = (x.nd.toNat : Int) := by omega
        obtain ⟨m, hmm⟩ : ∃ m, x.nd.toNat = m := ⟨_, rfl⟩
        have hml : m < s.nds.length := by omega
        rw [hmm] at hm
        have HX : Hid (x.nd = (m : Int)) := by rw [hmm] at hxm; exact hxm
        have HM : Hid (x.nd.toNat = m) := hmm
        have hlw := hlaw u (by rw [hmm]; exact hm) hxm
        rw [hmm] at hlw
        clear hnn hxm hmm hlaw
        cases h3 : fol s x with
        | false =>
          rw [h3] at hfo
          go_wp2_with (first | (go_at_call 30; (with_reducible refine hfo.mono ?_); rintro e u1 ⟨rfl, hu1⟩; have hJ3 := hJ2.carry hu1) | (go_at_call 16; (with_reducible refine (must_no hJ3.he).mono ?_); rintro e u3 ⟨rfl, hu3⟩; obtain rfl := hu3.symm))
          exact ⟨rfl, lw_no (by simp only [evtF, h1_0, h1_1, h1_2, h2_0, h3]; rfl) hJ3.tn⟩
        | true =>
          rw [h3] at hfo
          go_wp2_with (first | (go_at_call 30; (with_reducible refine hfo.mono ?_); rintro e u1 ⟨rfl, hu1⟩; have hJ3 := hJ2.carry hu1) | (go_at_call 16; (with_reducible refine (must_yes _ _).mono ?_); rintro e u3 ⟨rfl, hu3⟩; obtain rfl := hu3.symm))
          rename_i hK
          clear i0 i1 i2 i3 i4 i5 i6 e7 e8 e9 e10 e11 e12 e13 e14
          refine wp_region_any hmx ?_
          refine zwt (G := Nat) (fun g i__ => ([(.pointer (some ⟨p, 0, none⟩)), (.pointer (some ⟨p, 0, none⟩)), (.pointer (some ⟨p, 2, none⟩)), (.slice (some ⟨b, 0, none⟩) s.nds.length s.nds.length), (.pointer (some ⟨w.heap.size, 1, none⟩)), (.int .i64 x.nd), (.pointer (some ⟨b, m * 5, none⟩)), (.agg (nc u).toArray), (.pointer (some ⟨g, 0, none⟩)), undef] : List Value).getD i__ undef) (fun g d V => JN w p b w.heap.size need pl s x u g (d 8) (d 9) V) (by kernel_rfl) (0) (show JN w p b w.heap.size need pl s x u 0 false false _ from ⟨hJ3.carry (Below.refl _ _).drew, fun e => (by cases e)⟩) ?step1 ?fin1
          case step1 =>
            intro i o ho
            have hi : i < 10 := getElem?_lt ho
            match i, hi, ho with
            | 0, _, ho => cases ho; exact zgo fun g d hdep => zmv rfl trivial _ rfl (by kernel_rfl)
            | 1, _, ho => cases ho; exact zgo fun g d hdep => znc rfl trivial _ _ _ rfl rfl rfl
            | 2, _, ho => cases ho; exact zgo fun g d hdep => zfa rfl trivial _ _ _ _ rfl rfl (fun w hw => faH2 w _ _)
            | 3, _, ho => cases ho; exact zgo fun g d hdep => zld rfl trivial _ _ _ rfl rfl (fun w hw => load_ns ((zca hw.jb.he.box 2).trans rfl))
            | 4, _, ho => cases ho; exact zgo fun g d hdep => zfa rfl trivial _ _ _ _ rfl rfl (fun w hw => faE1 w _ _)
            | 5, _, ho => cases ho; exact zgo fun g d hdep => zld rfl trivial _ _ _ rfl rfl (fun w hw => load_in ((zca hw.jb.bx 1).trans rfl))
            | 6, _, ho => cases ho; exact zgo fun g d hdep => zia rfl trivial _ _ _ _ _ rfl rfl rfl (fun w hw => by rw [HX.out]; exact idx_n b _ m hml w)
            | 7, _, ho => cases ho; exact zgo fun g d hdep => zld rfl trivial _ _ _ rfl rfl (fun w hw => load_nd hw.jb.he hm)
            | 8, _, ho => cases ho; exact stepG_newT rfl rfl _ _ rfl run_allocN (fun g d V hJ hun hcl => by have h9 : d 9 = false := (by cases h : d 9 with | false => rfl | true => exact absurd (hcl 9 _ rfl h 8 (by kernel_rfl)) (by rw [hun]; simp)); have hJ' := hJ; rw [hun, h9] at hJ'; refine ⟨V.heap.size, (fun j hj => match j, hj with | 8, hj => (by rw [hj] at hun; cases hun)  | 0, _ => rfl | 1, _ => rfl | 2, _ => rfl | 3, _ => rfl | 4, _ => rfl | 5, _ => rfl | 6, _ => rfl | 7, _ => rfl | 9, _ => rfl | _ + 10, _ => rfl), rfl, ?_⟩; show JN w p b w.heap.size need pl s x u _ true (d 9) _; rw [h9]; exact ⟨hJ'.jb.carry (al1' _ _), fun _ => ⟨hJ'.jb.tn.size, by have := zla hJ'.jb.he.box; omega, by have := zla hJ'.jb.he.nod; omega, by have := zla hJ'.jb.bx; omega, zna rfl⟩⟩)
            | 9, _, ho => cases ho; exact stepG_store rfl rfl rfl _ _ _ (fun g => .pointer (some ⟨g, 0, none⟩)) (fun g => .agg (nc u).toArray) rfl (fun g => by kernel_rfl) (fun g => by kernel_rfl) (fun g d V hJ hun hdep => by have h8 : d 8 = true := hdep 8 (by kernel_rfl); have hJ' := hJ; rw [h8, hun] at hJ'; obtain ⟨k0, k1, k2, k3, k4⟩ := hJ'.bn rfl; refine ⟨_, run_store_in V g 0 65 65 (nc n0) (nc u) k4 info_nd (Nat.le_refl 5) (nc_one _), ?_⟩; show JN w p b w.heap.size need pl s x u g (d 8) true _; rw [h8]; exact ⟨hJ'.jb.off k0 k1 k2 k3 _, fun _ => ⟨k0, k1, k2, k3, (setRow_heap V g _ _ _ _ k4).trans rfl⟩⟩)
          intro g d W hall hW
          first | refine hK _ _ ?_ | refine (‹∀ (a : Act) (w : World), Code.wp Try.prog _ _ a w → _›) _ _ ?_ | skip
          simp only [finL, List.getD_cons_zero, List.getD_cons_succ, Nat.zero_add, Nat.reduceAdd, List.setIfInBounds_toArray, List.set_cons_zero, List.set_cons_succ]
          rw [hall 8 (by decide), hall 9 (by decide)] at hW
          obtain ⟨W4, rfl⟩ : ∃ V, V = W := ⟨_, rfl⟩
          obtain ⟨hJ4, hbn⟩ := hW
          obtain ⟨g0, g1, g2, g3, g4⟩ := hbn rfl
          simp only [if_true] at g4
          clear hall hbn hJ0 hJ0' hJ1 hJ2 hJ3 hfo hK
          have o0 : W4.cell? ⟨g, 0, none⟩ = some (.bool u.up) := (zca g4 0).trans rfl
          have o1 : W4.cell? ⟨g, 1, none⟩ = some (.int .i64 u.life) := (zca g4 1).trans rfl
          obtain ⟨i0, i1, i2, i3, i4, i5, i6⟩ := bx_ints hJ4.bx
          obtain ⟨e7, e8, e9, e10, e11, e12, e13, e14⟩ := bx_sets hJ4.bx
          have hlv := hlw W4 hJ4.he
          unfold evV ecA at hlv
          have HT : Hid (Tn p (some b) (some b) w W4) := hJ4.tn
          have hH4 := hJ4.he
          have HL : ∀ q : Bool, ((x.k == 1) || (u.up && (u.life == x.li))) = q → evtF s x r = if q then r m u else none := fun q hq => by simp only [evtF, h1_0, h1_1, h1_2, h2_0, h3]; rw [HM.out, hm]; simp only [hq]; rfl
          clear g0 g1 g2 g3 g4 hJ4 hlw h hm HX
          obtain ⟨up, lf, tg, oo, ak⟩ := u
          obtain ⟨k, nd, li, ro, ta, of, du, he, un⟩ := x
          simp only at o0 o1 HL i0 i1 i2 i3 i4 i5 i6 e7 e8 e9 e10 e11 e12 e13 e14 hlv
          have no : ∀ q : Bool, ((k == 1) || (up && (lf == li))) = q → q = false → evtF s ⟨k, nd, li, ro, ta, of, du, he, un⟩ r = none := fun q hq e => by rw [HL q hq, e]; rfl
          have yes : ∀ q : Bool, ((k == 1) || (up && (lf == li))) = q → q = true → evtF s ⟨k, nd, li, ro, ta, of, du, he, un⟩ r = r m ⟨up, lf, tg, oo, ak⟩ := fun q hq e => by rw [HL q hq, e]; rfl
          obtain ⟨rr, hrr⟩ : ∃ rr, r m ⟨up, lf, tg, oo, ak⟩ = rr := ⟨_, rfl⟩
          rw [hrr] at yes
          have HR : Hid (r m ⟨up, lf, tg, oo, ak⟩ = rr) := hrr
          clear HL hrr
          have hen : ∀ args w, (callFunc f args).run Try.prog w = .ok (.enter f args) w := by
            rcases hf with rfl | rfl | rfl | rfl | rfl | rfl
            · exact enters_of Try.func22 (by kernel_rfl) rfl
            · exact enters_of Try.func23 (by kernel_rfl) rfl
            · exact enters_of Try.func24 (by kernel_rfl) rfl
            · exact enters_of Try.func25 (by kernel_rfl) rfl
            · exact enters_of Try.func26 (by kernel_rfl) rfl
            · exact enters_of Try.func27 (by kernel_rfl) rfl
          clear hf
          by_cases k1 : k = 1
          case pos =>
            subst k1
            have HY : Hid (evtF s ⟨1, nd, li, ro, ta, of, du, he, un⟩ r = r m ⟨up, lf, tg, oo, ak⟩) := (yes true (by simp) rfl).trans HR.out.symm
            have HLV : Hid (Calls Try.prog f #[.pointer (some ⟨p, 0, none⟩), .agg #[.int .i64 1, .int .i64 nd, .int .i64 li, .int .i64 ro, .int .i64 ta, .int .i64 of, .int .i64 du, .int .u32 (wd he 0 : Nat), .int .u32 (wd he 1 : Nat), .int .u32 (wd he 2 : Nat), .int .u32 (wd he 3 : Nat), .int .u32 (wd un 0 : Nat), .int .u32 (wd un 1 : Nat), .int .u32 (wd un 2 : Nat), .int .u32 (wd un 3 : Nat)]] W4 (Lw p b need pl W4 (r m ⟨up, lf, tg, oo, ak⟩))) := hlv
            have HEN : Hid (∀ args w, (callFunc f args).run Try.prog w = .ok (.enter f args) w) := hen
            clear no yes hlv hen h1_0 h1_1 h1_2 h2_0 h3 HM HV
            go_wp2_with (go_at_call 16; (with_reducible refine (must_yesB _ _ (by simp) _).mono ?_); rintro e u3 ⟨rfl, hu3⟩; obtain rfl := hu3.symm)
            rename_i hKK
            first | rw [HEN.out] | simp only [HEN.out]
            rw [Oper.upon_enter]
            refine HLV.out.mono ?_
            intro e u5 hq5
            rw [HR.out] at hq5
            cases rr with
            | none =>
              obtain ⟨rfl, hT5⟩ := hq5
              exact ⟨rfl, lw_no (HY.out.trans HR.out) (HT.out.trans hT5)⟩
            | some s5 =>
              obtain ⟨rfl, hH5, hT5⟩ := hq5
              refine hKK _ _ ?_
              go_end0
              exact lw_yes (HY.out.trans HR.out) hH5 (HT.out.trans hT5)
          cases up with
          | false =>
            go_wp2_with (go_at_call 16; (with_reducible refine (must_noB hH4 _ (by simp [k1])).mono ?_); rintro e u3 ⟨rfl, hu3⟩; obtain rfl := hu3.symm)
            exact ⟨rfl, lw_no rfl HT.out⟩
          | true =>
            by_cases l1 : lf = li
            case neg =>
              go_wp2_with (go_at_call 16; (with_reducible refine (must_noB hH4 _ (by simp [k1, l1])).mono ?_); rintro e u3 ⟨rfl, hu3⟩; obtain rfl := hu3.symm)
              exact ⟨rfl, lw_no rfl HT.out⟩
            subst l1
            have HY : Hid (evtF s ⟨k, nd, lf, ro, ta, of, du, he, un⟩ r = r m ⟨true, lf, tg, oo, ak⟩) := (yes true (by simp) rfl).trans HR.out.symm
            have HLV : Hid (Calls Try.prog f #[.pointer (some ⟨p, 0, none⟩), .agg #[.int .i64 k, .int .i64 nd, .int .i64 lf, .int .i64 ro, .int .i64 ta, .int .i64 of, .int .i64 du, .int .u32 (wd he 0 : Nat), .int .u32 (wd he 1 : Nat), .int .u32 (wd he 2 : Nat), .int .u32 (wd he 3 : Nat), .int .u32 (wd un 0 : Nat), .int .u32 (wd un 1 : Nat), .int .u32 (wd un 2 : Nat), .int .u32 (wd un 3 : Nat)]] W4 (Lw p b need pl W4 (r m ⟨true, lf, tg, oo, ak⟩))) := hlv
            have HEN : Hid (∀ args w, (callFunc f args).run Try.prog w = .ok (.enter f args) w) := hen
            clear no yes hlv hen h1_0 h1_1 h1_2 h2_0 h3 HM HV
            go_wp2_with (go_at_call 16; (with_reducible refine (must_yesB _ _ (by simp) _).mono ?_); rintro e u3 ⟨rfl, hu3⟩; obtain rfl := hu3.symm)
            rename_i hKK
            first | rw [HEN.out] | simp only [HEN.out]
            rw [Oper.upon_enter]
            refine HLV.out.mono ?_
            intro e u5 hq5
            rw [HR.out] at hq5
            cases rr with
            | none =>
              obtain ⟨rfl, hT5⟩ := hq5
              exact ⟨rfl, lw_no (HY.out.trans HR.out) (HT.out.trans hT5)⟩
            | some s5 =>
              obtain ⟨rfl, hH5, hT5⟩ := hq5
              refine hKK _ _ ?_
              go_end0
              exact lw_yes (HY.out.trans HR.out) hH5 (HT.out.trans hT5)
end Go.Proofs.Ytifcnnonnocmmaa
namespace Go.Proofs.Ytifcnnonnocmmaa
open Go.RowKit Go.Shelf Go.Lib
attribute [local go_sem] Oper.semAt_some
def ES (p : Nat) : Array MapEntry := #[⟨.int .i64 1, .func (.func 22) #[.pointer (some ⟨p, 0, none⟩)] #[], 0⟩, ⟨.int .i64 2, .func (.func 23) #[.pointer (some ⟨p, 0, none⟩)] #[], 1⟩, ⟨.int .i64 3, .func (.func 24) #[.pointer (some ⟨p, 0, none⟩)] #[], 2⟩, ⟨.int .i64 4, .func (.func 25) #[.pointer (some ⟨p, 0, none⟩)] #[], 3⟩, ⟨.int .i64 5, .func (.func 26) #[.pointer (some ⟨p, 0, none⟩)] #[], 4⟩, ⟨.int .i64 6, .func (.func 27) #[.pointer (some ⟨p, 0, none⟩)] #[], 5⟩]
def lwV (p : Nat) (k : Int) : Value := if k = 1 then .func (.func 22) #[.pointer (some ⟨p, 0, none⟩)] #[] else if k = 2 then .func (.func 23) #[.pointer (some ⟨p, 0, none⟩)] #[] else if k = 3 then .func (.func 24) #[.pointer (some ⟨p, 0, none⟩)] #[] else if k = 4 then .func (.func 25) #[.pointer (some ⟨p, 0, none⟩)] #[] else if k = 5 then .func (.func 26) #[.pointer (some ⟨p, 0, none⟩)] #[] else if k = 6 then .func (.func 27) #[.pointer (some ⟨p, 0, none⟩)] #[] else .nilFunc
theorem keyI : Maps.Keyed Try.prog 3 := Maps.int_keyed Try.underlying3
theorem keyO {j : Int} (hw : (Lit.int .i64 j).wf = true) : keyOf Try.prog 3 (.int .i64 j) = some (.int .i64 j) := Maps.keyOf_int_mk Try.underlying3 hw
theorem ins_new {V : World} {M : Nat} {es : Array MapEntry} {c : Nat} {k : Int} (v : Value) (hb : V.heap[M]? = some (.map es c)) (hk : (Lit.int .i64 k).wf = true) (hes : ∀ e ∈ es.toList, ∃ j : Int, e.key = .int .i64 j ∧ (Lit.int .i64 j).wf = true ∧ j ≠ k) :
   ∃ V', (Instr.mapUpdate 53 (.map (some M)) (.int .i64 k) v).run Try.prog V = .ok () V' ∧ V'.heap[M]? = some (.map (es.push ⟨.int .i64 k, v, c⟩) (c + 1)) ∧ (∀ n, n ≤ M → Below n V V') := by
 rcases keyI.find V (keyO hk) es.toList (fun e he => by obtain ⟨j, h1, h2, _⟩ := hes e he; exact ⟨_, by rw [h1]; exact keyO h2⟩) with ⟨h1, _⟩ | ⟨j, e0, _, h2, h3⟩
 · refine ⟨ChangeMaps.setBlock V M (.map (es.push ⟨.int .i64 k, v, c⟩) (c + 1)), ?_, ChangeMaps.heap_setBlock_same hb _, fun n hn => ?_⟩
   · simp [Instr.mapUpdate, run_underlying Try.underlying53, MapKept.run_getObj_map hb, keyI.check V false (keyO hk), h1, MapKept.run_setObj_map _ hb, Result.andThen, ChangeMaps.setBlock]
   · exact ⟨rfl, rfl, rfl, by simp [ChangeMaps.setBlock], fun i hi => ChangeMaps.heap_setBlock_other hb _ (by omega)⟩
 · obtain ⟨j', q1, _, q3⟩ := hes e0 (List.mem_of_getElem? h2)
   rw [q1] at h3
   simp at h3
   exact absurd h3 q3
theorem look_ES {V : World} {M p : Nat} (hb : V.heap[M]? = some (.map (ES p) 6)) {k : Int} (hk : (Lit.int .i64 k).wf = true) : (Instr.lookup 53 (.map (some M)) (.int .i64 k) false).run Try.prog V = .ok (lwV p k) V := by
 have hz : (zeroValue 56).run Try.prog V = .ok .nilFunc V := by kernel_rfl
 rcases keyI.find V (keyO hk) (ES p).toList (fun e he => by
   simp only [ES, List.mem_cons, List.not_mem_nil, or_false] at he
   rcases he with rfl | rfl | rfl | rfl | rfl | rfl <;> exact ⟨_, keyO (by decide)⟩) with ⟨h1, h2⟩ | ⟨j, e0, h1, h2, h3⟩
 · have hv : lwV p k = .nilFunc := by
    simp only [ES, List.mem_cons, List.not_mem_nil, or_false, forall_eq_or_imp, forall_eq] at h2
    simp at h2
    unfold lwV
    simp [show ¬ k = 1 by omega, show ¬ k = 2 by omega, show ¬ k = 3 by omega, show ¬ k = 4 by omega, show ¬ k = 5 by omega, show ¬ k = 6 by omega]
   simp [Instr.lookup, run_underlying Try.underlying53, MapKept.run_getObj_map hb, keyI.check V _ (keyO hk), h1, hz, Result.andThen, hv]
 · have hm := List.mem_of_getElem? h2
   have hv : lwV p k = e0.val := by
    simp only [ES, List.mem_cons, List.not_mem_nil, or_false] at hm
    rcases hm with rfl | rfl | rfl | rfl | rfl | rfl <;> simp at h3 <;> subst h3 <;> rfl
   simp [Instr.lookup, run_underlying Try.underlying53, MapKept.run_getObj_map hb, keyI.check V _ (keyO hk), h1, Result.andThen, hv]
theorem hmf : ∀ (fn : Fn) (first cap : Array Value) (w : World), (Instr.makeFunc fn first cap).run Try.prog w = .ok (.func fn first cap) w := fun _ _ _ _ => rfl
theorem laws_any (p : Nat) (w : World) : Calls Try.prog 14 #[.pointer (some ⟨p, 0, none⟩)] w fun e V => e = .returned (.map (some w.heap.size)) ∧ V.heap[w.heap.size]? = some (.map (ES p) 6) ∧ Below w.heap.size w V := by
 have hmf := hmf
 have hmm := @run_makeMap Try.prog
 have b0 := al1' w (.map #[] 0)
 have g0 : (w.alloc (.map #[] 0)).heap[w.heap.size]? = some (.map #[] 0) := zna rfl
 obtain ⟨V1, r1, g1, q1⟩ := ins_new (k := 1) (.func (.func 22) #[.pointer (some ⟨p, 0, none⟩)] #[]) g0 (by decide) (by first | (simp; done) | (simp; decide))
 have b1 := b0.trans (q1 w.heap.size (Nat.le_refl _))
 obtain ⟨V2, r2, g2, q2⟩ := ins_new (k := 2) (.func (.func 23) #[.pointer (some ⟨p, 0, none⟩)] #[]) g1 (by decide) (by first | (simp; done) | (simp; decide))
 have b2 := b1.trans (q2 w.heap.size (Nat.le_refl _))
 obtain ⟨V3, r3, g3, q3⟩ := ins_new (k := 3) (.func (.func 24) #[.pointer (some ⟨p, 0, none⟩)] #[]) g2 (by decide) (by first | (simp; done) | (simp; decide))
 have b3 := b2.trans (q3 w.heap.size (Nat.le_refl _))
 obtain ⟨V4, r4, g4, q4⟩ := ins_new (k := 4) (.func (.func 25) #[.pointer (some ⟨p, 0, none⟩)] #[]) g3 (by decide) (by first | (simp; done) | (simp; decide))
 have b4 := b3.trans (q4 w.heap.size (Nat.le_refl _))
 obtain ⟨V5, r5, g5, q5⟩ := ins_new (k := 5) (.func (.func 26) #[.pointer (some ⟨p, 0, none⟩)] #[]) g4 (by decide) (by first | (simp; done) | (simp; decide))
 have b5 := b4.trans (q5 w.heap.size (Nat.le_refl _))
 obtain ⟨V6, r6, g6, q6⟩ := ins_new (k := 6) (.func (.func 27) #[.pointer (some ⟨p, 0, none⟩)] #[]) g5 (by decide) (by first | (simp; done) | (simp; decide))
 have b6 := b5.trans (q6 w.heap.size (Nat.le_refl _))
 clear g0 g1 g2 g3 g4 g5 q1 q2 q3 q4 q5 q6 b0 b1 b2 b3 b4 b5
 go_enter Try.func14, Try.ntmps14
 go_wp2
 go_ret
 exact ⟨rfl, g6, b6⟩
def lawR (need : Int) (s : Hs) (x : Ev) (m : Nat) (u : Nod) : Option Hs := if x.k = 1 then law1 s x m u else if x.k = 2 then law2 s x m u else if x.k = 3 then law3 need s x u else if x.k = 4 then law4 s x else if x.k = 5 then law5 s x m u else law6 s x m u
def evt (need : Int) (s : Hs) (x : Ev) : Option Hs := if decide (1 ≤ x.k ∧ x.k ≤ 6) then evtF s x (lawR need s x) else none
theorem event_any {w : World} {p b : Nat} {need pl : Int} {s : Hs} (h : He w p b need pl s) (x : Ev) (hhe : x.he < S128) (hun : x.un < S128) : Calls Try.prog 15 #[.pointer (some ⟨p, 0, none⟩), evV x, lwV p x.k] w (Lw p b need pl w (evt need s x)) := by
 by_cases h1 : x.k = 1
 case pos =>
  have e1 : lwV p x.k = .func (.func 22) #[.pointer (some ⟨p, 0, none⟩)] #[] := by rw [h1]; rfl
  have e2 : evt need s x = evtF s x (lawR need s x) := by unfold evt; rw [if_pos (by rw [h1]; decide)]
  rw [e1, e2]
  exact event_fn h x hhe hun _ (lawR need s x) (by simp) (fun u hu hx V hV => by
   have e3 : lawR need s x x.nd.toNat u = law1 s x x.nd.toNat u := by unfold lawR; simp [h1]
   rw [e3]
   exact begin_any hV hu hx)
 by_cases h2 : x.k = 2
 case pos =>
  have e1 : lwV p x.k = .func (.func 23) #[.pointer (some ⟨p, 0, none⟩)] #[] := by rw [h2]; rfl
  have e2 : evt need s x = evtF s x (lawR need s x) := by unfold evt; rw [if_pos (by rw [h2]; decide)]
  rw [e1, e2]
  exact event_fn h x hhe hun _ (lawR need s x) (by simp) (fun u hu hx V hV => by
   have e3 : lawR need s x x.nd.toNat u = law2 s x x.nd.toNat u := by unfold lawR; simp [h2]
   rw [e3]
   exact ask_any hV hu hx)
 by_cases h3 : x.k = 3
 case pos =>
  have e1 : lwV p x.k = .func (.func 24) #[.pointer (some ⟨p, 0, none⟩)] #[] := by rw [h3]; rfl
  have e2 : evt need s x = evtF s x (lawR need s x) := by unfold evt; rw [if_pos (by rw [h3]; decide)]
  rw [e1, e2]
  exact event_fn h x hhe hun _ (lawR need s x) (by simp) (fun u hu hx V hV => by
   have e3 : lawR need s x x.nd.toNat u = law3 need s x u := by unfold lawR; simp [h3]
   rw [e3]
   exact close_any hV hu hx hhe hun)
 by_cases h4 : x.k = 4
 case pos =>
  have e1 : lwV p x.k = .func (.func 25) #[.pointer (some ⟨p, 0, none⟩)] #[] := by rw [h4]; rfl
  have e2 : evt need s x = evtF s x (lawR need s x) := by unfold evt; rw [if_pos (by rw [h4]; decide)]
  rw [e1, e2]
  exact event_fn h x hhe hun _ (lawR need s x) (by simp) (fun u hu hx V hV => by
   have e3 : lawR need s x x.nd.toNat u = law4 s x := by unfold lawR; simp [h4]
   rw [e3]
   exact doubt_any hV hu hx)
 by_cases h5 : x.k = 5
 case pos =>
  have e1 : lwV p x.k = .func (.func 26) #[.pointer (some ⟨p, 0, none⟩)] #[] := by rw [h5]; rfl
  have e2 : evt need s x = evtF s x (lawR need s x) := by unfold evt; rw [if_pos (by rw [h5]; decide)]
  rw [e1, e2]
  exact event_fn h x hhe hun _ (lawR need s x) (by simp) (fun u hu hx V hV => by
   have e3 : lawR need s x x.nd.toNat u = law5 s x x.nd.toNat u := by unfold lawR; simp [h5]
   rw [e3]
   exact defend_any hV hu hx)
 by_cases h6 : x.k = 6
 case pos =>
  have e1 : lwV p x.k = .func (.func 27) #[.pointer (some ⟨p, 0, none⟩)] #[] := by rw [h6]; rfl
  have e2 : evt need s x = evtF s x (lawR need s x) := by unfold evt; rw [if_pos (by rw [h6]; decide)]
  rw [e1, e2]
  exact event_fn h x hhe hun _ (lawR need s x) (by simp) (fun u hu hx V hV => by
   have e3 : lawR need s x x.nd.toNat u = law6 s x x.nd.toNat u := by unfold lawR; simp [h6]
   rw [e3]
   exact down_any hV hu hx)
 have e1 : lwV p x.k = .nilFunc := by unfold lwV; simp [h1, h2, h3, h4, h5, h6]
 have e2 : evt need s x = none := by unfold evt; rw [if_neg (by simp; omega)]
 rw [e1, e2]
 exact event_nil h x
end Go.Proofs.Ytifcnnonnocmmaa
