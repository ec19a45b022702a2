/- audit.ask, doubt: what they answer. -/
import Derived.Test.YtgnhainfcfcodaaGreatAuc
import Derived.Laws.CopyRow
import Derived.Laws.CopyOwn
namespace Go.Proofs.YtgnhainfcfcodaaGreat
open Go.RowKit Go.Shelf Go.Lib
attribute [local go_sem] Oper.semAt_some

structure JD (w : World) (p b q r : Nat) (need pl : Int) (s : Hs) (x : Ev) (V : World) : Prop where
  jb : JB w p b q need pl s x V
  cx : V.heap[r]? = some (.cells (ecA s.c) 59 (0, 0))
theorem JD.carry {w V V' : World} {p b q r : Nat} {need pl : Int} {s : Hs} {x : Ev} (h : JD w p b q r need pl s x V) (hb : Below V.heap.size V V') : JD w p b q r need pl s x V' := ⟨h.jb.carry hb, (hb.block _ (lt_at h.cx)).trans h.cx⟩
theorem he_row {W : World} {p b : Nat} {need pl : Int} {s : Hs} (h : He W p b need pl s) : W.cell? ⟨p, 3, none⟩ = some (.int .i64 s.c.k) ∧ W.cell? ⟨p, 4, none⟩ = some (.int .i64 s.c.nd) ∧ W.cell? ⟨p, 5, none⟩ = some (.int .i64 s.c.li) ∧ W.cell? ⟨p, 6, none⟩ = some (.int .i64 s.c.ro) ∧ W.cell? ⟨p, 7, none⟩ = some (.int .i64 s.c.ta) ∧ W.cell? ⟨p, 8, none⟩ = some (.int .i64 s.c.of) ∧ W.cell? ⟨p, 9, none⟩ = some (.int .i64 s.c.du) ∧ W.cell? ⟨p, 10, none⟩ = some (.int .u32 (wd s.c.he 0 : Nat)) ∧ W.cell? ⟨p, 11, none⟩ = some (.int .u32 (wd s.c.he 1 : Nat)) ∧ W.cell? ⟨p, 12, none⟩ = some (.int .u32 (wd s.c.he 2 : Nat)) ∧ W.cell? ⟨p, 13, none⟩ = some (.int .u32 (wd s.c.he 3 : Nat)) ∧ W.cell? ⟨p, 14, none⟩ = some (.int .u32 (wd s.c.un 0 : Nat)) ∧ W.cell? ⟨p, 15, none⟩ = some (.int .u32 (wd s.c.un 1 : Nat)) ∧ W.cell? ⟨p, 16, none⟩ = some (.int .u32 (wd s.c.un 2 : Nat)) ∧ W.cell? ⟨p, 17, none⟩ = some (.int .u32 (wd s.c.un 3 : Nat)) := by
  refine ⟨?_, ?_, ?_, ?_, ?_, ?_, ?_, ?_, ?_, ?_, ?_, ?_, ?_, ?_, ?_⟩ <;> exact (cell_at h.box _).trans rfl
set_option maxHeartbeats 4000000 in
set_option maxRecDepth 100000 in
theorem ask_any {w : World} {p b : Nat} {need pl : Int} {s : Hs} {m : Nat} {u : Nod} {x : Ev} (h : He w p b need pl s) (hm : s.nds[m]? = some u) (hx : x.nd = (m : Int)) : Calls Tryz.prog 98 #[.pointer (some ⟨p, 0, none⟩), evV x] w (Lw p b need pl w (law2 s x m u)) := by
  have hmx : Tryz.prog.follows .mixedOrders = true := by kernel_rfl
  have hml : m < s.nds.length := (List.getElem?_eq_some_iff.1 hm).1
  have hJ0 := JB.new h x
  have HX : Hid (x.nd = (m : Int)) := hx
  clear hx
  unfold evV ecA
  go_enter Tryz.func98, Tryz.ntmps98
  go_wp2
  rename_i hK
  refine wp_region_any hmx ?_
  refine wpAny_pure (fun i__ => ([(.pointer (some ⟨p, 0, none⟩)), (.pointer (some ⟨p, 0, none⟩)), (.pointer (some ⟨p, 2, none⟩)), (.slice (some ⟨b, 0, none⟩) s.nds.length s.nds.length), (.pointer (some ⟨w.heap.size, 1, none⟩)), (.int .i64 x.nd), (.pointer (some ⟨b, m * 5, none⟩)), (.pointer (some ⟨b, m * 5, none⟩))] : List Value).getD i__ undef) (fun V => JB w p b w.heap.size need pl s x V) (by kernel_rfl) (hJ0.carry (Below.refl _ _).drew) ?_ ?_
  · refine (stepsFrom_cons ?_ (stepsFrom_cons ?_ (stepsFrom_cons ?_ (stepsFrom_cons ?_ (stepsFrom_cons ?_ (stepsFrom_cons ?_ (stepsFrom_cons ?_ (stepsFrom_cons ?_ trivial))))))))
    · exact step_move rfl trivial _ rfl (by kernel_rfl)
    · exact step_nilCheck rfl trivial _ _ _ rfl rfl rfl
    · exact step_fieldAddr rfl trivial _ _ _ _ rfl rfl (fun w hw => faH2 w _ _)
    · exact step_load rfl trivial _ _ _ rfl rfl (fun w hw => load_ns ((cell_at hw.he.box 2).trans rfl))
    · exact step_fieldAddr rfl trivial _ _ _ _ rfl rfl (fun w hw => faE1 w _ _)
    · exact step_load rfl trivial _ _ _ rfl rfl (fun w hw => load_in ((cell_at hw.bx 1).trans rfl))
    · exact step_indexAddr rfl trivial _ _ _ _ _ rfl rfl rfl (fun w hw => by rw [HX.out]; exact idx_n b _ m hml w)
    · exact step_assign rfl trivial _ rfl (by kernel_rfl) (fun _ h => h)
  intro W hW
  first | refine hK _ _ ?_ | refine (‹∀ (a : Act) (w : World), Code.wp Tryz.prog _ _ a w → _›) _ _ ?_ | skip
  simp only [finL, List.getD_cons_zero, List.getD_cons_succ, Nat.zero_add, Nat.reduceAdd, List.setIfInBounds_toArray, List.set_cons_zero, List.set_cons_succ]
  obtain ⟨W1, rfl⟩ : ∃ V, V = W := ⟨_, rfl⟩
  have hJ1 := hW
  clear hW hK
  have hir := inRow_any hJ1.he
  cases hr : decide (s.c.k = 3) with
  | false =>
    rw [hr] at hir
    go_wp2_with (go_at_call 105; (with_reducible refine hir.mono ?_); rintro e u1 ⟨rfl, hu1⟩; obtain rfl := hu1.symm)
    rename_i hK
    cases h5_0 : (x.ro == u.op) with
    | false =>
      refine wp_region_any hmx ?_
      refine wpAny_dies 8 (fun i__ => ([(.pointer (some ⟨p, 0, none⟩)), (.pointer (some ⟨w.heap.size, 3, none⟩)), (.int .i64 x.ro), (.pointer (some ⟨b, m * 5, none⟩)), (.pointer (some ⟨b, m * 5, none⟩)), (.pointer (some ⟨b, m * 5 + 3, none⟩)), (.int .i64 u.op), (.bool false), undef] : List Value).getD i__ undef) (fun V => JB w p b w.heap.size need pl s x V) rfl (by kernel_rfl) (hJ1.carry (Below.refl _ _).drew) ?_ ?_
      · refine (stepsFrom_cons ?_ (stepsFrom_cons ?_ (stepsFrom_cons ?_ (stepsFrom_cons ?_ (stepsFrom_cons ?_ (stepsFrom_cons ?_ (stepsFrom_cons ?_ (stepsFrom_cons ?_ trivial))))))))
        · exact step_move rfl trivial _ rfl (by kernel_rfl)
        · exact step_fieldAddr rfl trivial _ _ _ _ rfl rfl (fun w hw => faE3 w _ _)
        · exact step_load rfl trivial _ _ _ rfl rfl (fun w hw => load_in ((cell_at hw.bx 3).trans rfl))
        · exact step_move rfl trivial _ rfl (by kernel_rfl)
        · exact step_nilCheck rfl trivial _ _ _ rfl rfl rfl
        · exact step_fieldAddr rfl trivial _ _ _ _ rfl rfl (fun w hw => faN3 w _ _)
        · exact step_load rfl trivial _ _ _ rfl rfl (fun w hw => load_in (hw.he.cn hm (by decide) (j := 3) rfl))
        · exact step_binOp rfl trivial _ _ _ _ _ _ _ rfl rfl rfl (fun w hw => by rw [← h5_0]; exact bin_eql _ _ _)
      · intro o ho
        cases ho
        exact call_dies rfl trivial 96 _ _ [(.pointer (some ⟨p, 0, none⟩)), (.bool false)] rfl (by kernel_rfl) (enters_of Tryz.func96 (by kernel_rfl) rfl) (off pl) (J2 := fun V => Tn p (some b) (some b) w V) (fun w hw => (must_no hw.he).mono (by rintro e w' ⟨rfl, rfl⟩; exact ⟨rfl, hw.tn⟩)) (fun a w hd hb => ⟨hd, lw_no (by simp only [law2, hr, h5_0]; rfl) hb⟩)
    | true =>
      refine wp_region_any hmx ?_
      refine wpAny_pure (fun i__ => ([(.pointer (some ⟨p, 0, none⟩)), (.pointer (some ⟨w.heap.size, 3, none⟩)), (.int .i64 x.ro), (.pointer (some ⟨b, m * 5, none⟩)), (.pointer (some ⟨b, m * 5, none⟩)), (.pointer (some ⟨b, m * 5 + 3, none⟩)), (.int .i64 u.op), (.bool true), (.tuple #[])] : List Value).getD i__ undef) (fun V => JB w p b w.heap.size need pl s x V) (by kernel_rfl) (hJ1.carry (Below.refl _ _).drew) ?_ ?_
      · refine (stepsFrom_cons ?_ (stepsFrom_cons ?_ (stepsFrom_cons ?_ (stepsFrom_cons ?_ (stepsFrom_cons ?_ (stepsFrom_cons ?_ (stepsFrom_cons ?_ (stepsFrom_cons ?_ (stepsFrom_cons ?_ trivial)))))))))
        · exact step_move rfl trivial _ rfl (by kernel_rfl)
        · exact step_fieldAddr rfl trivial _ _ _ _ rfl rfl (fun w hw => faE3 w _ _)
        · exact step_load rfl trivial _ _ _ rfl rfl (fun w hw => load_in ((cell_at hw.bx 3).trans rfl))
        · exact step_move rfl trivial _ rfl (by kernel_rfl)
        · exact step_nilCheck rfl trivial _ _ _ rfl rfl rfl
        · exact step_fieldAddr rfl trivial _ _ _ _ rfl rfl (fun w hw => faN3 w _ _)
        · exact step_load rfl trivial _ _ _ rfl rfl (fun w hw => load_in (hw.he.cn hm (by decide) (j := 3) rfl))
        · exact step_binOp rfl trivial _ _ _ _ _ _ _ rfl rfl rfl (fun w hw => by rw [← h5_0]; exact bin_eql _ _ _)
        · exact step_call rfl trivial 96 _ _ [(.pointer (some ⟨p, 0, none⟩)), (.bool true)] rfl (by kernel_rfl) (enters_of Tryz.func96 (by kernel_rfl) rfl) (fun w hw => (must_yes _ w).mono (by rintro e w' ⟨rfl, rfl⟩; exact ⟨rfl, hw⟩))
      intro W hW
      first | refine hK _ _ ?_ | refine (‹∀ (a : Act) (w : World), Code.wp Tryz.prog _ _ a w → _›) _ _ ?_ | skip
      simp only [finL, List.getD_cons_zero, List.getD_cons_succ, Nat.zero_add, Nat.reduceAdd, List.setIfInBounds_toArray, List.set_cons_zero, List.set_cons_succ]
      obtain ⟨W2, rfl⟩ : ∃ V, V = W := ⟨_, rfl⟩
      have hJ2 := hW
      clear hW hK
      have HL : Hid (law2 s x m u = some { s with nds := s.nds.set m { u with ask := x.ro } }) := by simp only [law2, hr, h5_0]; rfl
      have cq3 : W2.cell? ⟨w.heap.size, 3, none⟩ = some (.int .i64 x.ro) := (cell_at hJ2.bx 3).trans rfl
      have cb4 : W2.cell? ⟨b, m * 5 + 4, none⟩ = some (.int .i64 u.ask) := hJ2.he.cn hm (by decide) rfl
      have zb4 := hJ2.he.frzg (m * 5 + 4)
      have hfin := hJ2.he.nput (o' := { u with ask := x.ro }) (v := .int .i64 x.ro) hm (j := 4) (by decide) rfl
      have htn := hJ2.tn.trans (Tn.putg W2 p b (m * 5 + 4) (.int .i64 x.ro))
      clear hJ0 hJ1 hJ2 hm h hir
      go_wp2
      go_end0
      exact lw_yes HL.out hfin htn
  | true =>
    rw [hr] at hir
    go_wp2_with (go_at_call 105; (with_reducible refine hir.mono ?_); rintro e u1 ⟨rfl, hu1⟩; obtain rfl := hu1.symm)
    rename_i hK
    cases h3_0 : decide (x.ro > s.c.ro) with
    | false =>
      refine wp_region_any hmx ?_
      refine wpAny_dies 15 (fun i__ => ([(.pointer (some ⟨p, 0, none⟩)), (.pointer (some ⟨w.heap.size, 3, none⟩)), (.int .i64 x.ro), (.pointer (some ⟨p, 0, none⟩)), (.pointer (some ⟨p, 0, none⟩)), (.pointer (some ⟨p, 3, none⟩)), (.pointer (some ⟨p, 3, none⟩)), (.pointer (some ⟨p, 6, none⟩)), (.int .i64 s.c.ro), (.bool false), (.bool false), undef, undef, undef, (.bool false), undef] : List Value).getD i__ undef) (fun V => JB w p b w.heap.size need pl s x V) rfl (by kernel_rfl) (hJ1.carry (Below.refl _ _).drew) ?_ ?_
      · refine (stepsFrom_cons ?_ (stepsFrom_cons ?_ (stepsFrom_cons ?_ (stepsFrom_cons ?_ (stepsFrom_cons ?_ (stepsFrom_cons ?_ (stepsFrom_cons ?_ (stepsFrom_cons ?_ (stepsFrom_cons ?_ (stepsFrom_cons ?_ (stepsFrom_cons ?_ (stepsFrom_cons ?_ (stepsFrom_cons ?_ (stepsFrom_cons ?_ (stepsFrom_cons ?_ trivial)))))))))))))))
        · exact step_move rfl trivial _ rfl (by kernel_rfl)
        · exact step_fieldAddr rfl trivial _ _ _ _ rfl rfl (fun w hw => faE3 w _ _)
        · exact step_load rfl trivial _ _ _ rfl rfl (fun w hw => load_in ((cell_at hw.bx 3).trans rfl))
        · exact step_move rfl trivial _ rfl (by kernel_rfl)
        · exact step_nilCheck rfl trivial _ _ _ rfl rfl rfl
        · exact step_fieldAddr rfl trivial _ _ _ _ rfl rfl (fun w hw => faH3 w _ _)
        · exact step_fieldAddr rfl trivial _ _ _ _ rfl rfl (fun w hw => faR0 w _ _)
        · exact step_fieldAddr rfl trivial _ _ _ _ rfl rfl (fun w hw => faE3 w _ _)
        · exact step_load rfl trivial _ _ _ rfl rfl (fun w hw => load_in ((cell_at hw.he.box 6).trans rfl))
        · exact step_binOp rfl trivial _ _ _ _ _ _ _ rfl rfl rfl (fun w hw => by rw [← h3_0]; exact bin_gtr _ _ _)
        · exact step_move rfl trivial _ rfl (by kernel_rfl)
        · exact step_skip rfl 10 true 24 (.bool false) rfl rfl (by kernel_rfl) (by intro h; cases h) rfl
        · exact step_skip rfl 10 true 24 (.bool false) rfl rfl (by kernel_rfl) (by intro h; cases h) rfl
        · exact step_skip rfl 10 true 24 (.bool false) rfl rfl (by kernel_rfl) (by intro h; cases h) rfl
        · exact step_pick rfl trivial _ _ _ false rfl (by kernel_rfl) (by kernel_rfl)
      · intro o ho
        cases ho
        exact call_dies rfl trivial 96 _ _ [(.pointer (some ⟨p, 0, none⟩)), (.bool false)] rfl (by kernel_rfl) (enters_of Tryz.func96 (by kernel_rfl) rfl) (off pl) (J2 := fun V => Tn p (some b) (some b) w V) (fun w hw => (must_no hw.he).mono (by rintro e w' ⟨rfl, rfl⟩; exact ⟨rfl, hw.tn⟩)) (fun a w hd hb => ⟨hd, lw_no (by simp only [law2, hr, h3_0]; rfl) hb⟩)
    | true =>
      cases h3_1 : decide (x.ro ≤ 1099511627775) with
      | false =>
        refine wp_region_any hmx ?_
        refine wpAny_dies 15 (fun i__ => ([(.pointer (some ⟨p, 0, none⟩)), (.pointer (some ⟨w.heap.size, 3, none⟩)), (.int .i64 x.ro), (.pointer (some ⟨p, 0, none⟩)), (.pointer (some ⟨p, 0, none⟩)), (.pointer (some ⟨p, 3, none⟩)), (.pointer (some ⟨p, 3, none⟩)), (.pointer (some ⟨p, 6, none⟩)), (.int .i64 s.c.ro), (.bool true), (.bool true), (.pointer (some ⟨w.heap.size, 3, none⟩)), (.int .i64 x.ro), (.bool false), (.bool false), undef] : List Value).getD i__ undef) (fun V => JB w p b w.heap.size need pl s x V) rfl (by kernel_rfl) (hJ1.carry (Below.refl _ _).drew) ?_ ?_
        · refine (stepsFrom_cons ?_ (stepsFrom_cons ?_ (stepsFrom_cons ?_ (stepsFrom_cons ?_ (stepsFrom_cons ?_ (stepsFrom_cons ?_ (stepsFrom_cons ?_ (stepsFrom_cons ?_ (stepsFrom_cons ?_ (stepsFrom_cons ?_ (stepsFrom_cons ?_ (stepsFrom_cons ?_ (stepsFrom_cons ?_ (stepsFrom_cons ?_ (stepsFrom_cons ?_ trivial)))))))))))))))
          · exact step_move rfl trivial _ rfl (by kernel_rfl)
          · exact step_fieldAddr rfl trivial _ _ _ _ rfl rfl (fun w hw => faE3 w _ _)
          · exact step_load rfl trivial _ _ _ rfl rfl (fun w hw => load_in ((cell_at hw.bx 3).trans rfl))
          · exact step_move rfl trivial _ rfl (by kernel_rfl)
          · exact step_nilCheck rfl trivial _ _ _ rfl rfl rfl
          · exact step_fieldAddr rfl trivial _ _ _ _ rfl rfl (fun w hw => faH3 w _ _)
          · exact step_fieldAddr rfl trivial _ _ _ _ rfl rfl (fun w hw => faR0 w _ _)
          · exact step_fieldAddr rfl trivial _ _ _ _ rfl rfl (fun w hw => faE3 w _ _)
          · exact step_load rfl trivial _ _ _ rfl rfl (fun w hw => load_in ((cell_at hw.he.box 6).trans rfl))
          · exact step_binOp rfl trivial _ _ _ _ _ _ _ rfl rfl rfl (fun w hw => by rw [← h3_0]; exact bin_gtr _ _ _)
          · exact step_move rfl trivial _ rfl (by kernel_rfl)
          · exact step_fieldAddr rfl (by exact ⟨_, rfl, by kernel_rfl⟩) _ _ _ _ rfl rfl (fun w hw => faE3 w _ _)
          · exact step_load rfl (by exact ⟨_, rfl, by kernel_rfl⟩) _ _ _ rfl rfl (fun w hw => load_in ((cell_at hw.bx 3).trans rfl))
          · exact step_binOp rfl (by exact ⟨_, rfl, by kernel_rfl⟩) _ _ _ _ _ _ _ rfl rfl rfl (fun w hw => by rw [← h3_1]; exact bin_leq _ _ _)
          · exact step_pick rfl trivial _ _ _ true rfl (by kernel_rfl) (by kernel_rfl)
        · intro o ho
          cases ho
          exact call_dies rfl trivial 96 _ _ [(.pointer (some ⟨p, 0, none⟩)), (.bool false)] rfl (by kernel_rfl) (enters_of Tryz.func96 (by kernel_rfl) rfl) (off pl) (J2 := fun V => Tn p (some b) (some b) w V) (fun w hw => (must_no hw.he).mono (by rintro e w' ⟨rfl, rfl⟩; exact ⟨rfl, hw.tn⟩)) (fun a w hd hb => ⟨hd, lw_no (by simp only [law2, hr, h3_0, h3_1]; rfl) hb⟩)
      | true =>
        refine wp_region_any hmx ?_
        refine wpAny_pure (fun i__ => ([(.pointer (some ⟨p, 0, none⟩)), (.pointer (some ⟨w.heap.size, 3, none⟩)), (.int .i64 x.ro), (.pointer (some ⟨p, 0, none⟩)), (.pointer (some ⟨p, 0, none⟩)), (.pointer (some ⟨p, 3, none⟩)), (.pointer (some ⟨p, 3, none⟩)), (.pointer (some ⟨p, 6, none⟩)), (.int .i64 s.c.ro), (.bool true), (.bool true), (.pointer (some ⟨w.heap.size, 3, none⟩)), (.int .i64 x.ro), (.bool true), (.bool true), (.tuple #[])] : List Value).getD i__ undef) (fun V => JB w p b w.heap.size need pl s x V) (by kernel_rfl) (hJ1.carry (Below.refl _ _).drew) ?_ ?_
        · refine (stepsFrom_cons ?_ (stepsFrom_cons ?_ (stepsFrom_cons ?_ (stepsFrom_cons ?_ (stepsFrom_cons ?_ (stepsFrom_cons ?_ (stepsFrom_cons ?_ (stepsFrom_cons ?_ (stepsFrom_cons ?_ (stepsFrom_cons ?_ (stepsFrom_cons ?_ (stepsFrom_cons ?_ (stepsFrom_cons ?_ (stepsFrom_cons ?_ (stepsFrom_cons ?_ (stepsFrom_cons ?_ trivial))))))))))))))))
          · exact step_move rfl trivial _ rfl (by kernel_rfl)
          · exact step_fieldAddr rfl trivial _ _ _ _ rfl rfl (fun w hw => faE3 w _ _)
          · exact step_load rfl trivial _ _ _ rfl rfl (fun w hw => load_in ((cell_at hw.bx 3).trans rfl))
          · exact step_move rfl trivial _ rfl (by kernel_rfl)
          · exact step_nilCheck rfl trivial _ _ _ rfl rfl rfl
          · exact step_fieldAddr rfl trivial _ _ _ _ rfl rfl (fun w hw => faH3 w _ _)
          · exact step_fieldAddr rfl trivial _ _ _ _ rfl rfl (fun w hw => faR0 w _ _)
          · exact step_fieldAddr rfl trivial _ _ _ _ rfl rfl (fun w hw => faE3 w _ _)
          · exact step_load rfl trivial _ _ _ rfl rfl (fun w hw => load_in ((cell_at hw.he.box 6).trans rfl))
          · exact step_binOp rfl trivial _ _ _ _ _ _ _ rfl rfl rfl (fun w hw => by rw [← h3_0]; exact bin_gtr _ _ _)
          · exact step_move rfl trivial _ rfl (by kernel_rfl)
          · exact step_fieldAddr rfl (by exact ⟨_, rfl, by kernel_rfl⟩) _ _ _ _ rfl rfl (fun w hw => faE3 w _ _)
          · exact step_load rfl (by exact ⟨_, rfl, by kernel_rfl⟩) _ _ _ rfl rfl (fun w hw => load_in ((cell_at hw.bx 3).trans rfl))
          · exact step_binOp rfl (by exact ⟨_, rfl, by kernel_rfl⟩) _ _ _ _ _ _ _ rfl rfl rfl (fun w hw => by rw [← h3_1]; exact bin_leq _ _ _)
          · exact step_pick rfl trivial _ _ _ true rfl (by kernel_rfl) (by kernel_rfl)
          · exact step_call rfl trivial 96 _ _ [(.pointer (some ⟨p, 0, none⟩)), (.bool true)] rfl (by kernel_rfl) (enters_of Tryz.func96 (by kernel_rfl) rfl) (fun w hw => (must_yes _ w).mono (by rintro e w' ⟨rfl, rfl⟩; exact ⟨rfl, hw⟩))
        intro W hW
        first | refine hK _ _ ?_ | refine (‹∀ (a : Act) (w : World), Code.wp Tryz.prog _ _ a w → _›) _ _ ?_ | skip
        simp only [finL, List.getD_cons_zero, List.getD_cons_succ, Nat.zero_add, Nat.reduceAdd, List.setIfInBounds_toArray, List.set_cons_zero, List.set_cons_succ]
        obtain ⟨W3, rfl⟩ : ∃ V, V = W := ⟨_, rfl⟩
        have hJ3 := hW
        clear hW hK
        have HL : Hid (law2 s x m u = some { nds := s.nds.set m { u with op := x.ro, ask := x.ro }, c := e0, la := 0 }) := by simp only [law2, hr, h3_0, h3_1]; rfl
        have cq3 : W3.cell? ⟨w.heap.size, 3, none⟩ = some (.int .i64 x.ro) := (cell_at hJ3.bx 3).trans rfl
        have cb3 : W3.cell? ⟨b, m * 5 + 3, none⟩ = some (.int .i64 u.op) := hJ3.he.cn hm (by decide) rfl
        have zb3 := hJ3.he.frzg (m * 5 + 3)
        have hA := hJ3.he.nput (o' := { u with op := x.ro }) (v := .int .i64 x.ro) hm (j := 3) (by decide) rfl
        have hB := hA.row e0 0
        have hT := (hJ3.tn.trans (Tn.putg W3 p b (m * 5 + 3) (.int .i64 x.ro))).trans (Tn.row _ p b (splice (heC need pl b (s.nds.set m { u with op := x.ro }).length s.c s.la).toList 3 (rwC e0 0)).toArray)
        have hX := (setRow_other (W3.setCell ⟨b, m * 5 + 3, none⟩ (.int .i64 x.ro)) p w.heap.size (splice (heC need pl b (s.nds.set m { u with op := x.ro }).length s.c s.la).toList 3 (rwC e0 0)).toArray (hqp hJ3.he hJ3.bx)).trans ((Below.heap_setCell W3 ⟨b, m * 5 + 3, none⟩ (.int .i64 x.ro) w.heap.size (hqb hJ3.he hJ3.bx)).trans hJ3.bx)
        have hJ4 : JB w p b w.heap.size need pl { nds := s.nds.set m { u with op := x.ro }, c := e0, la := 0 } x _ := ⟨hB, hX, hT⟩
        clear hB hT hX
        simp only [List.length_set] at hJ4
        have hbx := hA.box
        simp only [List.length_set] at hbx
        go_wp2_with (refine wpList_store_in rfl 95 (.tmp 38) (.tmp 34) rfl p 3 97 (heC need pl b s.nds.length s.c s.la).toList (rwC e0 0) rfl rfl hbx info_rw (Nat.le_refl 19) (rwC_one _ _) ?_)
        rename_i hK
        have hm1 : (s.nds.set m { u with op := x.ro })[m]? = some { u with op := x.ro } := by simp [hml]
        obtain ⟨s1, hs1⟩ : ∃ s1 : Hs, s1 = { nds := s.nds.set m { u with op := x.ro }, c := e0, la := 0 } := ⟨_, rfl⟩
        have hm2 : s1.nds[m]? = some { u with op := x.ro } := by rw [hs1]; exact hm1
        rw [← hs1] at hJ4
        have hrr : (x.ro == x.ro) = true := by simp
        refine wp_region_any hmx ?_
        refine wpAny_pure (fun i__ => ([(.pointer (some ⟨p, 0, none⟩)), (.pointer (some ⟨w.heap.size, 3, none⟩)), (.int .i64 x.ro), (.pointer (some ⟨b, m * 5, none⟩)), (.pointer (some ⟨b, m * 5, none⟩)), (.pointer (some ⟨b, m * 5 + 3, none⟩)), (.int .i64 x.ro), (.bool true), (.tuple #[])] : List Value).getD i__ undef) (fun V => JB w p b w.heap.size need pl s1 x V) (by kernel_rfl) (hJ4.carry (Below.refl _ _).drew) ?_ ?_
        · refine (stepsFrom_cons ?_ (stepsFrom_cons ?_ (stepsFrom_cons ?_ (stepsFrom_cons ?_ (stepsFrom_cons ?_ (stepsFrom_cons ?_ (stepsFrom_cons ?_ (stepsFrom_cons ?_ (stepsFrom_cons ?_ trivial)))))))))
          · exact step_move rfl trivial _ rfl (by kernel_rfl)
          · exact step_fieldAddr rfl trivial _ _ _ _ rfl rfl (fun w hw => faE3 w _ _)
          · exact step_load rfl trivial _ _ _ rfl rfl (fun w hw => load_in ((cell_at hw.bx 3).trans rfl))
          · exact step_move rfl trivial _ rfl (by kernel_rfl)
          · exact step_nilCheck rfl trivial _ _ _ rfl rfl rfl
          · exact step_fieldAddr rfl trivial _ _ _ _ rfl rfl (fun w hw => faN3 w _ _)
          · exact step_load rfl trivial _ _ _ rfl rfl (fun w hw => load_in (hw.he.cn hm2 (by decide) (j := 3) rfl))
          · exact step_binOp rfl trivial _ _ _ _ _ _ _ rfl rfl rfl (fun w hw => by rw [← hrr]; exact bin_eql _ _ _)
          · exact step_call rfl trivial 96 _ _ [(.pointer (some ⟨p, 0, none⟩)), (.bool true)] rfl (by kernel_rfl) (enters_of Tryz.func96 (by kernel_rfl) rfl) (fun w hw => (must_yes _ w).mono (by rintro e w' ⟨rfl, rfl⟩; exact ⟨rfl, hw⟩))
        intro W hW
        first | refine hK _ _ ?_ | refine (‹∀ (a : Act) (w : World), Code.wp Tryz.prog _ _ a w → _›) _ _ ?_ | skip
        simp only [finL, List.getD_cons_zero, List.getD_cons_succ, Nat.zero_add, Nat.reduceAdd, List.setIfInBounds_toArray, List.set_cons_zero, List.set_cons_succ]
        obtain ⟨W5, rfl⟩ : ∃ V, V = W := ⟨_, rfl⟩
        have hJ5 := hW
        clear hW hK
        have cq3 : W5.cell? ⟨w.heap.size, 3, none⟩ = some (.int .i64 x.ro) := (cell_at hJ5.bx 3).trans rfl
        have cb4 : W5.cell? ⟨b, m * 5 + 4, none⟩ = some (.int .i64 u.ask) := hJ5.he.cn hm2 (by decide) rfl
        have zb4 := hJ5.he.frzg (m * 5 + 4)
        have hfin := hJ5.he.nput (o' := { u with op := x.ro, ask := x.ro }) (v := .int .i64 x.ro) hm2 (j := 4) (by decide) rfl
        have htn := hJ5.tn.trans (Tn.putg W5 p b (m * 5 + 4) (.int .i64 x.ro))
        clear hJ0 hJ1 hJ3 hJ4 hJ5 hm h hir hA hm1 hm2
        go_wp2
        go_end0
        exact lw_yes HL.out (by rw [hs1] at hfin; simpa using hfin) htn
set_option maxHeartbeats 4000000 in
set_option maxRecDepth 100000 in
theorem doubt_any {w : World} {p b : Nat} {need pl : Int} {s : Hs} {m : Nat} {u : Nod} {x : Ev} (h : He w p b need pl s) (hm : s.nds[m]? = some u) (hx : x.nd = (m : Int)) : Calls Tryz.prog 100 #[.pointer (some ⟨p, 0, none⟩), evV x] w (Lw p b need pl w (law4 s x)) := by
  have hmx : Tryz.prog.follows .mixedOrders = true := by kernel_rfl
  have hml : m < s.nds.length := (List.getElem?_eq_some_iff.1 hm).1
  have hJ0 := JB.new h x
  have HX : Hid (x.nd = (m : Int)) := hx
  clear hx
  unfold evV ecA
  go_enter Tryz.func100, Tryz.ntmps100
  obtain ⟨c0, c1, c2, c3, c4, c5, c6, c7, c8, c9, c10, c11, c12, c13, c14⟩ := he_row hJ0.he
  unfold ecA at c0 c1 c2 c3 c4 c5 c6 c7 c8 c9 c10 c11 c12 c13 c14
  go_wp2
  rename_i hK
  have hD0 : JD w p b w.heap.size (w.heap.size + 1) need pl s x _ := ⟨hJ0.carry (al1' _ (.cells (ecA s.c) 59)), new_at (by simp)⟩
  cases h2_0 : decide (0 ≤ x.of ∧ x.of < (s.nds.length : Int)) with
  | false =>
    refine wp_region_any hmx ?_
    refine wpAny_dies 27 (fun i__ => ([(.pointer (some ⟨p, 0, none⟩)), (.pointer (some ⟨w.heap.size, 5, none⟩)), (.int .i64 x.of), (.pointer (some ⟨p, 0, none⟩)), (.pointer (some ⟨p, 0, none⟩)), (.pointer (some ⟨p, 2, none⟩)), (.slice (some ⟨b, 0, none⟩) s.nds.length s.nds.length), (.int .i64 (s.nds.length : Int)), (.bool false), (.bool false), undef, undef, undef, undef, undef, undef, undef, undef, (.bool false), (.bool false), undef, undef, undef, undef, undef, undef, (.bool false), undef] : List Value).getD i__ undef) (fun V => JD w p b w.heap.size (w.heap.size + 1) need pl s x V) rfl (by kernel_rfl) (hD0.carry (Below.refl _ _).drew) ?_ ?_
    · refine (stepsFrom_cons ?_ (stepsFrom_cons ?_ (stepsFrom_cons ?_ (stepsFrom_cons ?_ (stepsFrom_cons ?_ (stepsFrom_cons ?_ (stepsFrom_cons ?_ (stepsFrom_cons ?_ (stepsFrom_cons ?_ (stepsFrom_cons ?_ (stepsFrom_cons ?_ (stepsFrom_cons ?_ (stepsFrom_cons ?_ (stepsFrom_cons ?_ (stepsFrom_cons ?_ (stepsFrom_cons ?_ (stepsFrom_cons ?_ (stepsFrom_cons ?_ (stepsFrom_cons ?_ (stepsFrom_cons ?_ (stepsFrom_cons ?_ (stepsFrom_cons ?_ (stepsFrom_cons ?_ (stepsFrom_cons ?_ (stepsFrom_cons ?_ (stepsFrom_cons ?_ (stepsFrom_cons ?_ trivial)))))))))))))))))))))))))))
      · exact step_move rfl trivial _ rfl (by kernel_rfl)
      · exact step_fieldAddr rfl trivial _ _ _ _ rfl rfl (fun w hw => faE5 w _ _)
      · exact step_load rfl trivial _ _ _ rfl rfl (fun w hw => load_in ((cell_at hw.1.bx 5).trans rfl))
      · exact step_move rfl trivial _ rfl (by kernel_rfl)
      · exact step_nilCheck rfl trivial _ _ _ rfl rfl rfl
      · exact step_fieldAddr rfl trivial _ _ _ _ rfl rfl (fun w hw => faH2 w _ _)
      · exact step_load rfl trivial _ _ _ rfl rfl (fun w hw => load_ns ((cell_at hw.1.he.box 2).trans rfl))
      · exact step_bi rfl trivial _ _ _ [(.slice (some ⟨b, 0, none⟩) s.nds.length s.nds.length)] rfl (by kernel_rfl) (fun cs w hw => bi_lenN _ cs _ _ _ w)
      · exact step_call rfl trivial 18 _ _ [(.int .i64 x.of), (.int .i64 (s.nds.length : Int))] rfl (by kernel_rfl) (enters_of Tryz.func18 (by kernel_rfl) rfl) (fun w hw => (isBelow_any _ _ w).mono (by rintro e w' ⟨rfl, rfl⟩; exact ⟨congrArg (fun z => Ending.returned (Value.bool z)) h2_0, hw⟩))
      · exact step_move rfl trivial _ rfl (by kernel_rfl)
      · exact step_skip rfl 9 true 19 (.bool false) rfl rfl (by kernel_rfl) (by intro h; cases h) rfl
      · exact step_skip rfl 9 true 19 (.bool false) rfl rfl (by kernel_rfl) (by intro h; cases h) rfl
      · exact step_skip rfl 9 true 19 (.bool false) rfl rfl (by kernel_rfl) (by intro h; cases h) rfl
      · exact step_skip rfl 9 true 19 (.bool false) rfl rfl (by kernel_rfl) (by intro h; cases h) rfl
      · exact step_skip rfl 9 true 19 (.bool false) rfl rfl (by kernel_rfl) (by intro h; cases h) rfl
      · exact step_skip rfl 9 true 19 (.bool false) rfl rfl (by kernel_rfl) (by intro h; cases h) rfl
      · exact step_skip rfl 9 true 19 (.bool false) rfl rfl (by kernel_rfl) (by intro h; cases h) rfl
      · exact step_skip rfl 9 true 19 (.bool false) rfl rfl (by kernel_rfl) (by intro h; cases h) rfl
      · exact step_pick rfl trivial _ _ _ false rfl (by kernel_rfl) (by kernel_rfl)
      · exact step_move rfl trivial _ rfl (by kernel_rfl)
      · exact step_skip rfl 19 true 29 (.bool false) rfl rfl (by kernel_rfl) (by intro h; cases h) rfl
      · exact step_skip rfl 19 true 29 (.bool false) rfl rfl (by kernel_rfl) (by intro h; cases h) rfl
      · exact step_skip rfl 19 true 29 (.bool false) rfl rfl (by kernel_rfl) (by intro h; cases h) rfl
      · exact step_skip rfl 19 true 29 (.bool false) rfl rfl (by kernel_rfl) (by intro h; cases h) rfl
      · exact step_skip rfl 19 true 29 (.bool false) rfl rfl (by kernel_rfl) (by intro h; cases h) rfl
      · exact step_skip rfl 19 true 29 (.bool false) rfl rfl (by kernel_rfl) (by intro h; cases h) rfl
      · exact step_pick rfl trivial _ _ _ false rfl (by kernel_rfl) (by kernel_rfl)
    · intro o ho
      cases ho
      exact call_dies rfl trivial 96 _ _ [(.pointer (some ⟨p, 0, none⟩)), (.bool false)] rfl (by kernel_rfl) (enters_of Tryz.func96 (by kernel_rfl) rfl) (off pl) (J2 := fun V => Tn p (some b) (some b) w V) (fun w hw => (must_no hw.1.he).mono (by rintro e w' ⟨rfl, rfl⟩; exact ⟨rfl, hw.1.tn⟩)) (fun a w hd hb => ⟨hd, lw_no (by simp only [law4, h2_0]; rfl) hb⟩)
  | true =>
    cases h2_1 : decide (x.of > s.la) with
    | false =>
      refine wp_region_any hmx ?_
      refine wpAny_dies 27 (fun i__ => ([(.pointer (some ⟨p, 0, none⟩)), (.pointer (some ⟨w.heap.size, 5, none⟩)), (.int .i64 x.of), (.pointer (some ⟨p, 0, none⟩)), (.pointer (some ⟨p, 0, none⟩)), (.pointer (some ⟨p, 2, none⟩)), (.slice (some ⟨b, 0, none⟩) s.nds.length s.nds.length), (.int .i64 (s.nds.length : Int)), (.bool true), (.bool true), (.pointer (some ⟨w.heap.size, 5, none⟩)), (.int .i64 x.of), (.pointer (some ⟨p, 0, none⟩)), (.pointer (some ⟨p, 0, none⟩)), (.pointer (some ⟨p, 3, none⟩)), (.pointer (some ⟨p, 18, none⟩)), (.int .i64 s.la), (.bool false), (.bool false), (.bool false), undef, undef, undef, undef, undef, undef, (.bool false), undef] : List Value).getD i__ undef) (fun V => JD w p b w.heap.size (w.heap.size + 1) need pl s x V) rfl (by kernel_rfl) (hD0.carry (Below.refl _ _).drew) ?_ ?_
      · refine (stepsFrom_cons ?_ (stepsFrom_cons ?_ (stepsFrom_cons ?_ (stepsFrom_cons ?_ (stepsFrom_cons ?_ (stepsFrom_cons ?_ (stepsFrom_cons ?_ (stepsFrom_cons ?_ (stepsFrom_cons ?_ (stepsFrom_cons ?_ (stepsFrom_cons ?_ (stepsFrom_cons ?_ (stepsFrom_cons ?_ (stepsFrom_cons ?_ (stepsFrom_cons ?_ (stepsFrom_cons ?_ (stepsFrom_cons ?_ (stepsFrom_cons ?_ (stepsFrom_cons ?_ (stepsFrom_cons ?_ (stepsFrom_cons ?_ (stepsFrom_cons ?_ (stepsFrom_cons ?_ (stepsFrom_cons ?_ (stepsFrom_cons ?_ (stepsFrom_cons ?_ (stepsFrom_cons ?_ trivial)))))))))))))))))))))))))))
        · exact step_move rfl trivial _ rfl (by kernel_rfl)
        · exact step_fieldAddr rfl trivial _ _ _ _ rfl rfl (fun w hw => faE5 w _ _)
        · exact step_load rfl trivial _ _ _ rfl rfl (fun w hw => load_in ((cell_at hw.1.bx 5).trans rfl))
        · exact step_move rfl trivial _ rfl (by kernel_rfl)
        · exact step_nilCheck rfl trivial _ _ _ rfl rfl rfl
        · exact step_fieldAddr rfl trivial _ _ _ _ rfl rfl (fun w hw => faH2 w _ _)
        · exact step_load rfl trivial _ _ _ rfl rfl (fun w hw => load_ns ((cell_at hw.1.he.box 2).trans rfl))
        · exact step_bi rfl trivial _ _ _ [(.slice (some ⟨b, 0, none⟩) s.nds.length s.nds.length)] rfl (by kernel_rfl) (fun cs w hw => bi_lenN _ cs _ _ _ w)
        · exact step_call rfl trivial 18 _ _ [(.int .i64 x.of), (.int .i64 (s.nds.length : Int))] rfl (by kernel_rfl) (enters_of Tryz.func18 (by kernel_rfl) rfl) (fun w hw => (isBelow_any _ _ w).mono (by rintro e w' ⟨rfl, rfl⟩; exact ⟨congrArg (fun z => Ending.returned (Value.bool z)) h2_0, hw⟩))
        · exact step_move rfl trivial _ rfl (by kernel_rfl)
        · exact step_fieldAddr rfl (by exact ⟨_, rfl, by kernel_rfl⟩) _ _ _ _ rfl rfl (fun w hw => faE5 w _ _)
        · exact step_load rfl (by exact ⟨_, rfl, by kernel_rfl⟩) _ _ _ rfl rfl (fun w hw => load_in ((cell_at hw.1.bx 5).trans rfl))
        · exact step_move rfl (by exact ⟨_, rfl, by kernel_rfl⟩) _ rfl (by kernel_rfl)
        · exact step_nilCheck rfl (by exact ⟨_, rfl, by kernel_rfl⟩) _ _ _ rfl rfl rfl
        · exact step_fieldAddr rfl (by exact ⟨_, rfl, by kernel_rfl⟩) _ _ _ _ rfl rfl (fun w hw => faH3 w _ _)
        · exact step_fieldAddr rfl (by exact ⟨_, rfl, by kernel_rfl⟩) _ _ _ _ rfl rfl (fun w hw => faR1 w _ _)
        · exact step_load rfl (by exact ⟨_, rfl, by kernel_rfl⟩) _ _ _ rfl rfl (fun w hw => load_in ((cell_at hw.1.he.box 18).trans rfl))
        · exact step_binOp rfl (by exact ⟨_, rfl, by kernel_rfl⟩) _ _ _ _ _ _ _ rfl rfl rfl (fun w hw => by rw [← h2_1]; exact bin_gtr _ _ _)
        · exact step_pick rfl trivial _ _ _ true rfl (by kernel_rfl) (by kernel_rfl)
        · exact step_move rfl trivial _ rfl (by kernel_rfl)
        · exact step_skip rfl 19 true 29 (.bool false) rfl rfl (by kernel_rfl) (by intro h; cases h) rfl
        · exact step_skip rfl 19 true 29 (.bool false) rfl rfl (by kernel_rfl) (by intro h; cases h) rfl
        · exact step_skip rfl 19 true 29 (.bool false) rfl rfl (by kernel_rfl) (by intro h; cases h) rfl
        · exact step_skip rfl 19 true 29 (.bool false) rfl rfl (by kernel_rfl) (by intro h; cases h) rfl
        · exact step_skip rfl 19 true 29 (.bool false) rfl rfl (by kernel_rfl) (by intro h; cases h) rfl
        · exact step_skip rfl 19 true 29 (.bool false) rfl rfl (by kernel_rfl) (by intro h; cases h) rfl
        · exact step_pick rfl trivial _ _ _ false rfl (by kernel_rfl) (by kernel_rfl)
      · intro o ho
        cases ho
        exact call_dies rfl trivial 96 _ _ [(.pointer (some ⟨p, 0, none⟩)), (.bool false)] rfl (by kernel_rfl) (enters_of Tryz.func96 (by kernel_rfl) rfl) (off pl) (J2 := fun V => Tn p (some b) (some b) w V) (fun w hw => (must_no hw.1.he).mono (by rintro e w' ⟨rfl, rfl⟩; exact ⟨rfl, hw.1.tn⟩)) (fun a w hd hb => ⟨hd, lw_no (by simp only [law4, h2_0, h2_1]; rfl) hb⟩)
    | true =>
      cases h2_2 : hasB s.c.un x.of with
      | true =>
        refine wp_region_any hmx ?_
        refine wpAny_dies 27 (fun i__ => ([(.pointer (some ⟨p, 0, none⟩)), (.pointer (some ⟨w.heap.size, 5, none⟩)), (.int .i64 x.of), (.pointer (some ⟨p, 0, none⟩)), (.pointer (some ⟨p, 0, none⟩)), (.pointer (some ⟨p, 2, none⟩)), (.slice (some ⟨b, 0, none⟩) s.nds.length s.nds.length), (.int .i64 (s.nds.length : Int)), (.bool true), (.bool true), (.pointer (some ⟨w.heap.size, 5, none⟩)), (.int .i64 x.of), (.pointer (some ⟨p, 0, none⟩)), (.pointer (some ⟨p, 0, none⟩)), (.pointer (some ⟨p, 3, none⟩)), (.pointer (some ⟨p, 18, none⟩)), (.int .i64 s.la), (.bool true), (.bool true), (.bool true), (.pointer (some ⟨w.heap.size + 1, 11, none⟩)), (sv s.c.un), (.pointer (some ⟨w.heap.size, 5, none⟩)), (.int .i64 x.of), (.bool true), (.bool false), (.bool false), undef] : List Value).getD i__ undef) (fun V => JD w p b w.heap.size (w.heap.size + 1) need pl s x V) rfl (by kernel_rfl) (hD0.carry (Below.refl _ _).drew) ?_ ?_
        · refine (stepsFrom_cons ?_ (stepsFrom_cons ?_ (stepsFrom_cons ?_ (stepsFrom_cons ?_ (stepsFrom_cons ?_ (stepsFrom_cons ?_ (stepsFrom_cons ?_ (stepsFrom_cons ?_ (stepsFrom_cons ?_ (stepsFrom_cons ?_ (stepsFrom_cons ?_ (stepsFrom_cons ?_ (stepsFrom_cons ?_ (stepsFrom_cons ?_ (stepsFrom_cons ?_ (stepsFrom_cons ?_ (stepsFrom_cons ?_ (stepsFrom_cons ?_ (stepsFrom_cons ?_ (stepsFrom_cons ?_ (stepsFrom_cons ?_ (stepsFrom_cons ?_ (stepsFrom_cons ?_ (stepsFrom_cons ?_ (stepsFrom_cons ?_ (stepsFrom_cons ?_ (stepsFrom_cons ?_ trivial)))))))))))))))))))))))))))
          · exact step_move rfl trivial _ rfl (by kernel_rfl)
          · exact step_fieldAddr rfl trivial _ _ _ _ rfl rfl (fun w hw => faE5 w _ _)
          · exact step_load rfl trivial _ _ _ rfl rfl (fun w hw => load_in ((cell_at hw.1.bx 5).trans rfl))
          · exact step_move rfl trivial _ rfl (by kernel_rfl)
          · exact step_nilCheck rfl trivial _ _ _ rfl rfl rfl
          · exact step_fieldAddr rfl trivial _ _ _ _ rfl rfl (fun w hw => faH2 w _ _)
          · exact step_load rfl trivial _ _ _ rfl rfl (fun w hw => load_ns ((cell_at hw.1.he.box 2).trans rfl))
          · exact step_bi rfl trivial _ _ _ [(.slice (some ⟨b, 0, none⟩) s.nds.length s.nds.length)] rfl (by kernel_rfl) (fun cs w hw => bi_lenN _ cs _ _ _ w)
          · exact step_call rfl trivial 18 _ _ [(.int .i64 x.of), (.int .i64 (s.nds.length : Int))] rfl (by kernel_rfl) (enters_of Tryz.func18 (by kernel_rfl) rfl) (fun w hw => (isBelow_any _ _ w).mono (by rintro e w' ⟨rfl, rfl⟩; exact ⟨congrArg (fun z => Ending.returned (Value.bool z)) h2_0, hw⟩))
          · exact step_move rfl trivial _ rfl (by kernel_rfl)
          · exact step_fieldAddr rfl (by exact ⟨_, rfl, by kernel_rfl⟩) _ _ _ _ rfl rfl (fun w hw => faE5 w _ _)
          · exact step_load rfl (by exact ⟨_, rfl, by kernel_rfl⟩) _ _ _ rfl rfl (fun w hw => load_in ((cell_at hw.1.bx 5).trans rfl))
          · exact step_move rfl (by exact ⟨_, rfl, by kernel_rfl⟩) _ rfl (by kernel_rfl)
          · exact step_nilCheck rfl (by exact ⟨_, rfl, by kernel_rfl⟩) _ _ _ rfl rfl rfl
          · exact step_fieldAddr rfl (by exact ⟨_, rfl, by kernel_rfl⟩) _ _ _ _ rfl rfl (fun w hw => faH3 w _ _)
          · exact step_fieldAddr rfl (by exact ⟨_, rfl, by kernel_rfl⟩) _ _ _ _ rfl rfl (fun w hw => faR1 w _ _)
          · exact step_load rfl (by exact ⟨_, rfl, by kernel_rfl⟩) _ _ _ rfl rfl (fun w hw => load_in ((cell_at hw.1.he.box 18).trans rfl))
          · exact step_binOp rfl (by exact ⟨_, rfl, by kernel_rfl⟩) _ _ _ _ _ _ _ rfl rfl rfl (fun w hw => by rw [← h2_1]; exact bin_gtr _ _ _)
          · exact step_pick rfl trivial _ _ _ true rfl (by kernel_rfl) (by kernel_rfl)
          · exact step_move rfl trivial _ rfl (by kernel_rfl)
          · exact step_fieldAddr rfl (by exact ⟨_, rfl, by kernel_rfl⟩) _ _ _ _ rfl rfl (fun w hw => faE8 w _ _)
          · exact step_load rfl (by exact ⟨_, rfl, by kernel_rfl⟩) _ _ _ rfl rfl (fun w hw => load_se (N := s.c.un) ((cell_at hw.cx 11).trans rfl) ((cell_at hw.cx 12).trans rfl) ((cell_at hw.cx 13).trans rfl) ((cell_at hw.cx 14).trans rfl))
          · exact step_fieldAddr rfl (by exact ⟨_, rfl, by kernel_rfl⟩) _ _ _ _ rfl rfl (fun w hw => faE5 w _ _)
          · exact step_load rfl (by exact ⟨_, rfl, by kernel_rfl⟩) _ _ _ rfl rfl (fun w hw => load_in ((cell_at hw.1.bx 5).trans rfl))
          · exact step_call rfl (by exact ⟨_, rfl, by kernel_rfl⟩) 108 _ _ [(sv s.c.un), (.int .i64 x.of)] rfl (by kernel_rfl) (enters_of Tryz.func108 (by kernel_rfl) rfl) (fun w hw => (has_any _ _ w).mono (by rintro e w' ⟨rfl, hb⟩; exact ⟨congrArg (fun z => Ending.returned (Value.bool z)) h2_2, hw.carry hb⟩))
          · exact step_unOp rfl (by exact ⟨_, rfl, by kernel_rfl⟩) _ _ _ _ rfl rfl (fun w hw => rfl)
          · exact step_pick rfl trivial _ _ _ true rfl (by kernel_rfl) (by kernel_rfl)
        · intro o ho
          cases ho
          exact call_dies rfl trivial 96 _ _ [(.pointer (some ⟨p, 0, none⟩)), (.bool false)] rfl (by kernel_rfl) (enters_of Tryz.func96 (by kernel_rfl) rfl) (off pl) (J2 := fun V => Tn p (some b) (some b) w V) (fun w hw => (must_no hw.1.he).mono (by rintro e w' ⟨rfl, rfl⟩; exact ⟨rfl, hw.1.tn⟩)) (fun a w hd hb => ⟨hd, lw_no (by simp only [law4, h2_0, h2_1, h2_2]; rfl) hb⟩)
      | false =>
        refine wp_region_any hmx ?_
        refine wpAny_pure (fun i__ => ([(.pointer (some ⟨p, 0, none⟩)), (.pointer (some ⟨w.heap.size, 5, none⟩)), (.int .i64 x.of), (.pointer (some ⟨p, 0, none⟩)), (.pointer (some ⟨p, 0, none⟩)), (.pointer (some ⟨p, 2, none⟩)), (.slice (some ⟨b, 0, none⟩) s.nds.length s.nds.length), (.int .i64 (s.nds.length : Int)), (.bool true), (.bool true), (.pointer (some ⟨w.heap.size, 5, none⟩)), (.int .i64 x.of), (.pointer (some ⟨p, 0, none⟩)), (.pointer (some ⟨p, 0, none⟩)), (.pointer (some ⟨p, 3, none⟩)), (.pointer (some ⟨p, 18, none⟩)), (.int .i64 s.la), (.bool true), (.bool true), (.bool true), (.pointer (some ⟨w.heap.size + 1, 11, none⟩)), (sv s.c.un), (.pointer (some ⟨w.heap.size, 5, none⟩)), (.int .i64 x.of), (.bool false), (.bool true), (.bool true), (.tuple #[])] : List Value).getD i__ undef) (fun V => JD w p b w.heap.size (w.heap.size + 1) need pl s x V) (by kernel_rfl) (hD0.carry (Below.refl _ _).drew) ?_ ?_
        · refine (stepsFrom_cons ?_ (stepsFrom_cons ?_ (stepsFrom_cons ?_ (stepsFrom_cons ?_ (stepsFrom_cons ?_ (stepsFrom_cons ?_ (stepsFrom_cons ?_ (stepsFrom_cons ?_ (stepsFrom_cons ?_ (stepsFrom_cons ?_ (stepsFrom_cons ?_ (stepsFrom_cons ?_ (stepsFrom_cons ?_ (stepsFrom_cons ?_ (stepsFrom_cons ?_ (stepsFrom_cons ?_ (stepsFrom_cons ?_ (stepsFrom_cons ?_ (stepsFrom_cons ?_ (stepsFrom_cons ?_ (stepsFrom_cons ?_ (stepsFrom_cons ?_ (stepsFrom_cons ?_ (stepsFrom_cons ?_ (stepsFrom_cons ?_ (stepsFrom_cons ?_ (stepsFrom_cons ?_ (stepsFrom_cons ?_ trivial))))))))))))))))))))))))))))
          · exact step_move rfl trivial _ rfl (by kernel_rfl)
          · exact step_fieldAddr rfl trivial _ _ _ _ rfl rfl (fun w hw => faE5 w _ _)
          · exact step_load rfl trivial _ _ _ rfl rfl (fun w hw => load_in ((cell_at hw.1.bx 5).trans rfl))
          · exact step_move rfl trivial _ rfl (by kernel_rfl)
          · exact step_nilCheck rfl trivial _ _ _ rfl rfl rfl
          · exact step_fieldAddr rfl trivial _ _ _ _ rfl rfl (fun w hw => faH2 w _ _)
          · exact step_load rfl trivial _ _ _ rfl rfl (fun w hw => load_ns ((cell_at hw.1.he.box 2).trans rfl))
          · exact step_bi rfl trivial _ _ _ [(.slice (some ⟨b, 0, none⟩) s.nds.length s.nds.length)] rfl (by kernel_rfl) (fun cs w hw => bi_lenN _ cs _ _ _ w)
          · exact step_call rfl trivial 18 _ _ [(.int .i64 x.of), (.int .i64 (s.nds.length : Int))] rfl (by kernel_rfl) (enters_of Tryz.func18 (by kernel_rfl) rfl) (fun w hw => (isBelow_any _ _ w).mono (by rintro e w' ⟨rfl, rfl⟩; exact ⟨congrArg (fun z => Ending.returned (Value.bool z)) h2_0, hw⟩))
          · exact step_move rfl trivial _ rfl (by kernel_rfl)
          · exact step_fieldAddr rfl (by exact ⟨_, rfl, by kernel_rfl⟩) _ _ _ _ rfl rfl (fun w hw => faE5 w _ _)
          · exact step_load rfl (by exact ⟨_, rfl, by kernel_rfl⟩) _ _ _ rfl rfl (fun w hw => load_in ((cell_at hw.1.bx 5).trans rfl))
          · exact step_move rfl (by exact ⟨_, rfl, by kernel_rfl⟩) _ rfl (by kernel_rfl)
          · exact step_nilCheck rfl (by exact ⟨_, rfl, by kernel_rfl⟩) _ _ _ rfl rfl rfl
          · exact step_fieldAddr rfl (by exact ⟨_, rfl, by kernel_rfl⟩) _ _ _ _ rfl rfl (fun w hw => faH3 w _ _)
          · exact step_fieldAddr rfl (by exact ⟨_, rfl, by kernel_rfl⟩) _ _ _ _ rfl rfl (fun w hw => faR1 w _ _)
          · exact step_load rfl (by exact ⟨_, rfl, by kernel_rfl⟩) _ _ _ rfl rfl (fun w hw => load_in ((cell_at hw.1.he.box 18).trans rfl))
          · exact step_binOp rfl (by exact ⟨_, rfl, by kernel_rfl⟩) _ _ _ _ _ _ _ rfl rfl rfl (fun w hw => by rw [← h2_1]; exact bin_gtr _ _ _)
          · exact step_pick rfl trivial _ _ _ true rfl (by kernel_rfl) (by kernel_rfl)
          · exact step_move rfl trivial _ rfl (by kernel_rfl)
          · exact step_fieldAddr rfl (by exact ⟨_, rfl, by kernel_rfl⟩) _ _ _ _ rfl rfl (fun w hw => faE8 w _ _)
          · exact step_load rfl (by exact ⟨_, rfl, by kernel_rfl⟩) _ _ _ rfl rfl (fun w hw => load_se (N := s.c.un) ((cell_at hw.cx 11).trans rfl) ((cell_at hw.cx 12).trans rfl) ((cell_at hw.cx 13).trans rfl) ((cell_at hw.cx 14).trans rfl))
          · exact step_fieldAddr rfl (by exact ⟨_, rfl, by kernel_rfl⟩) _ _ _ _ rfl rfl (fun w hw => faE5 w _ _)
          · exact step_load rfl (by exact ⟨_, rfl, by kernel_rfl⟩) _ _ _ rfl rfl (fun w hw => load_in ((cell_at hw.1.bx 5).trans rfl))
          · exact step_call rfl (by exact ⟨_, rfl, by kernel_rfl⟩) 108 _ _ [(sv s.c.un), (.int .i64 x.of)] rfl (by kernel_rfl) (enters_of Tryz.func108 (by kernel_rfl) rfl) (fun w hw => (has_any _ _ w).mono (by rintro e w' ⟨rfl, hb⟩; exact ⟨congrArg (fun z => Ending.returned (Value.bool z)) h2_2, hw.carry hb⟩))
          · exact step_unOp rfl (by exact ⟨_, rfl, by kernel_rfl⟩) _ _ _ _ rfl rfl (fun w hw => rfl)
          · exact step_pick rfl trivial _ _ _ true rfl (by kernel_rfl) (by kernel_rfl)
          · exact step_call rfl trivial 96 _ _ [(.pointer (some ⟨p, 0, none⟩)), (.bool true)] rfl (by kernel_rfl) (enters_of Tryz.func96 (by kernel_rfl) rfl) (fun w hw => (must_yes _ w).mono (by rintro e w' ⟨rfl, rfl⟩; exact ⟨rfl, hw⟩))
        intro W hW
        first | refine hK _ _ ?_ | refine (‹∀ (a : Act) (w : World), Code.wp Tryz.prog _ _ a w → _›) _ _ ?_ | skip
        simp only [finL, List.getD_cons_zero, List.getD_cons_succ, Nat.zero_add, Nat.reduceAdd, List.setIfInBounds_toArray, List.set_cons_zero, List.set_cons_succ]
        obtain ⟨W2, rfl⟩ : ∃ V, V = W := ⟨_, rfl⟩
        have hJ2 := hW
        clear hW hK
        obtain ⟨i0, i1, i2, i3, i4, i5, i6⟩ := bx_ints hJ2.1.bx
        obtain ⟨k0, k1, k2, k3, k4, k5, k6⟩ := bx_ints hJ2.cx
        have zp := hJ2.1.he.frz 18
        have cp18 : W2.cell? ⟨p, 18, none⟩ = some (.int .i64 s.la) := (cell_at hJ2.1.he.box 18).trans rfl
        by_cases q1 : 0 ≤ x.ta
        case neg =>
          have q1b : decide (x.ta ≥ 0) = false := decide_eq_false q1
          go_wp2_with (go_at_call 96; (with_reducible refine (must_no hJ2.1.he).mono ?_); rintro e u3 ⟨rfl, hu3⟩; obtain rfl := hu3.symm)
          exact ⟨rfl, lw_no (by simp only [law4, h2_0, h2_1, h2_2, q1b]; rfl) hJ2.1.tn⟩
        have q1b : decide (x.ta ≥ 0) = true := decide_eq_true q1
        by_cases q2 : x.ta ≤ 1048576
        case neg =>
          have q2b : decide (x.ta ≤ 1048576) = false := decide_eq_false q2
          go_wp2_with (go_at_call 96; (with_reducible refine (must_no hJ2.1.he).mono ?_); rintro e u3 ⟨rfl, hu3⟩; obtain rfl := hu3.symm)
          exact ⟨rfl, lw_no (by simp only [law4, h2_0, h2_1, h2_2, q1b, q2b]; rfl) hJ2.1.tn⟩
        have q2b : decide (x.ta ≤ 1048576) = true := decide_eq_true q2
        by_cases q3 : x.ro = s.c.ro
        case neg =>
          have q3b : (x.ro == s.c.ro) = false := by simp [q3]
          go_wp2_with (go_at_call 96; (with_reducible refine (must_no hJ2.1.he).mono ?_); rintro e u3 ⟨rfl, hu3⟩; obtain rfl := hu3.symm)
          exact ⟨rfl, lw_no (by simp only [law4, h2_0, h2_1, h2_2, q1b, q2b, q3b]; rfl) hJ2.1.tn⟩
        have HL : Hid (law4 s x = some { s with la := x.of }) := by
          have q3b : (x.ro == s.c.ro) = true := by simp [q3]
          simp only [law4, h2_0, h2_1, h2_2, q1b, q2b, q3b]
          rfl
        go_wp2_with (go_at_call 96; (with_reducible refine (must_yes _ _).mono ?_); rintro e u3 ⟨rfl, hu3⟩; obtain rfl := hu3.symm)
        go_end0
        exact lw_yes HL.out (hJ2.1.he.last x.of) (hJ2.1.tn.trans (Tn.put _ _ _ _ _))
end Go.Proofs.YtgnhainfcfcodaaGreat
