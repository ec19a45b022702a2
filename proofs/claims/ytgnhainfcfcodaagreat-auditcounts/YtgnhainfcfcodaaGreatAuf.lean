/- audit.follows: what it answers. -/
import Derived.Test.YtgnhainfcfcodaaGreatAub
namespace Go.Proofs.YtgnhainfcfcodaaGreat
open Go.RowKit Go.Shelf Go.Lib
attribute [local go_sem] Oper.semAt_some

/-- May an event stand behind the one ahead of it? -/
def fol (s : Hs) (x : Ev) : Bool := if decide (s.c.k = 3) then (x.nd == s.c.nd) && ((x.k == 4) || (x.k == 2)) else x.k != 4
set_option maxHeartbeats 4000000 in
set_option maxRecDepth 100000 in
theorem follows_any {w : World} {p b : Nat} {need pl : Int} {s : Hs} (h : He w p b need pl s) (x : Ev) : Calls Tryz.prog 104 #[.pointer (some ⟨p, 0, none⟩), evV x] w fun e w' => e = .returned (.bool (fol s x)) ∧ Below w.heap.size w w' := by
  have hmx : Tryz.prog.follows .mixedOrders = true := by kernel_rfl
  have hJ0 := JB.new h x
  have hb0 := al1' w (.cells (ecA x) 59)
  have hir := inRow_any hJ0.he
  unfold ecA at hir
  unfold evV ecA
  cases hr : decide (s.c.k = 3) with
  | false =>
    rw [hr] at hir
    go_enter Tryz.func104, Tryz.ntmps104
    go_wp2_with (go_at_call 105; (with_reducible refine hir.mono ?_); rintro e u1 ⟨rfl, hu1⟩; rw [hu1]; clear hu1 u1)
    go_ret
    exact ⟨by simp [fol, hr, bne], hb0⟩
  | true =>
    rw [hr] at hir
    go_enter Tryz.func104, Tryz.ntmps104
    go_wp2_with (go_at_call 105; (with_reducible refine hir.mono ?_); rintro e u1 ⟨rfl, hu1⟩; rw [hu1]; clear hu1 u1)
    rename_i hK
    cases h1 : (x.nd == s.c.nd) with
    | false =>
      refine wp_region_any hmx ?_
      refine wpAny_pure (fun i__ => ([(.pointer (some ⟨w.heap.size, 1, none⟩)), (.int .i64 x.nd), (.pointer (some ⟨p, 0, none⟩)), (.pointer (some ⟨p, 0, none⟩)), (.pointer (some ⟨p, 3, none⟩)), (.pointer (some ⟨p, 3, none⟩)), (.pointer (some ⟨p, 4, none⟩)), (.int .i64 s.c.nd), (.bool false), (.bool false), undef, undef, undef, undef, undef, undef, undef, undef, (.bool false), (.bool false)] : List Value).getD i__ undef) (fun V => JB w p b w.heap.size need pl s x V ∧ Below w.heap.size w V) (by kernel_rfl) ⟨hJ0.carry (Below.refl _ _).drew, hb0.drew⟩ ?_ ?_
      · refine (stepsFrom_cons ?_ (stepsFrom_cons ?_ (stepsFrom_cons ?_ (stepsFrom_cons ?_ (stepsFrom_cons ?_ (stepsFrom_cons ?_ (stepsFrom_cons ?_ (stepsFrom_cons ?_ (stepsFrom_cons ?_ (stepsFrom_cons ?_ (stepsFrom_cons ?_ (stepsFrom_cons ?_ (stepsFrom_cons ?_ (stepsFrom_cons ?_ (stepsFrom_cons ?_ (stepsFrom_cons ?_ (stepsFrom_cons ?_ (stepsFrom_cons ?_ (stepsFrom_cons ?_ (stepsFrom_cons ?_ trivial))))))))))))))))))))
        · exact step_fieldAddr rfl trivial _ _ _ _ rfl rfl (fun w hw => faE1 w _ _)
        · exact step_load rfl trivial _ _ _ rfl rfl (fun w hw => load_in ((cell_at hw.1.bx 1).trans rfl))
        · exact step_move rfl trivial _ rfl (by kernel_rfl)
        · exact step_nilCheck rfl trivial _ _ _ rfl rfl rfl
        · exact step_fieldAddr rfl trivial _ _ _ _ rfl rfl (fun w hw => faH3 w _ _)
        · exact step_fieldAddr rfl trivial _ _ _ _ rfl rfl (fun w hw => faR0 w _ _)
        · exact step_fieldAddr rfl trivial _ _ _ _ rfl rfl (fun w hw => faE1 w _ _)
        · exact step_load rfl trivial _ _ _ rfl rfl (fun w hw => load_in ((cell_at hw.1.he.box 4).trans rfl))
        · exact step_binOp rfl trivial _ _ _ _ _ _ _ rfl rfl rfl (fun w hw => by rw [← h1]; exact bin_eql _ _ _)
        · exact step_move rfl trivial _ rfl (by kernel_rfl)
        · exact step_skip rfl 9 true 20 (.bool false) rfl rfl (by kernel_rfl) (by intro h; cases h) rfl
        · exact step_skip rfl 9 true 20 (.bool false) rfl rfl (by kernel_rfl) (by intro h; cases h) rfl
        · exact step_skip rfl 9 true 20 (.bool false) rfl rfl (by kernel_rfl) (by intro h; cases h) rfl
        · exact step_skip rfl 9 true 20 (.bool false) rfl rfl (by kernel_rfl) (by intro h; cases h) rfl
        · exact step_skip rfl 13 false 24 undef rfl rfl (by kernel_rfl) (by intro h; cases h) rfl
        · exact step_skip rfl 13 false 24 undef rfl rfl (by kernel_rfl) (by intro h; cases h) rfl
        · exact step_skip rfl 13 false 24 undef rfl rfl (by kernel_rfl) (by intro h; cases h) rfl
        · exact step_skip rfl 9 true 20 (.bool false) rfl rfl (by kernel_rfl) (by intro h; cases h) rfl
        · exact step_pick rfl trivial _ _ _ false rfl (by kernel_rfl) (by kernel_rfl)
        · exact step_assign rfl trivial _ rfl (by kernel_rfl) (fun _ h => h)
      intro W hW
      first | refine hK _ _ ?_ | refine (‹∀ (a : Act) (w : World), Code.wp Tryz.prog _ _ a w → _›) _ _ ?_ | skip
      simp only [finL, List.getD_cons_zero, List.getD_cons_succ, Nat.zero_add, Nat.reduceAdd, List.setIfInBounds_toArray, List.set_cons_zero, List.set_cons_succ]
      clear hK
      go_wp2
      go_ret
      exact ⟨by simp only [fol, hr, h1]; rfl, hW.2⟩
    | true =>
      cases h2 : (x.k == 4) with
      | true =>
        refine wp_region_any hmx ?_
        refine wpAny_pure (fun i__ => ([(.pointer (some ⟨w.heap.size, 1, none⟩)), (.int .i64 x.nd), (.pointer (some ⟨p, 0, none⟩)), (.pointer (some ⟨p, 0, none⟩)), (.pointer (some ⟨p, 3, none⟩)), (.pointer (some ⟨p, 3, none⟩)), (.pointer (some ⟨p, 4, none⟩)), (.int .i64 s.c.nd), (.bool true), (.bool true), (.pointer (some ⟨w.heap.size, 0, none⟩)), (.int .i64 x.k), (.bool true), (.bool true), undef, undef, undef, (.bool true), (.bool true), (.bool true)] : List Value).getD i__ undef) (fun V => JB w p b w.heap.size need pl s x V ∧ Below w.heap.size w V) (by kernel_rfl) ⟨hJ0.carry (Below.refl _ _).drew, hb0.drew⟩ ?_ ?_
        · refine (stepsFrom_cons ?_ (stepsFrom_cons ?_ (stepsFrom_cons ?_ (stepsFrom_cons ?_ (stepsFrom_cons ?_ (stepsFrom_cons ?_ (stepsFrom_cons ?_ (stepsFrom_cons ?_ (stepsFrom_cons ?_ (stepsFrom_cons ?_ (stepsFrom_cons ?_ (stepsFrom_cons ?_ (stepsFrom_cons ?_ (stepsFrom_cons ?_ (stepsFrom_cons ?_ (stepsFrom_cons ?_ (stepsFrom_cons ?_ (stepsFrom_cons ?_ (stepsFrom_cons ?_ (stepsFrom_cons ?_ trivial))))))))))))))))))))
          · exact step_fieldAddr rfl trivial _ _ _ _ rfl rfl (fun w hw => faE1 w _ _)
          · exact step_load rfl trivial _ _ _ rfl rfl (fun w hw => load_in ((cell_at hw.1.bx 1).trans rfl))
          · exact step_move rfl trivial _ rfl (by kernel_rfl)
          · exact step_nilCheck rfl trivial _ _ _ rfl rfl rfl
          · exact step_fieldAddr rfl trivial _ _ _ _ rfl rfl (fun w hw => faH3 w _ _)
          · exact step_fieldAddr rfl trivial _ _ _ _ rfl rfl (fun w hw => faR0 w _ _)
          · exact step_fieldAddr rfl trivial _ _ _ _ rfl rfl (fun w hw => faE1 w _ _)
          · exact step_load rfl trivial _ _ _ rfl rfl (fun w hw => load_in ((cell_at hw.1.he.box 4).trans rfl))
          · exact step_binOp rfl trivial _ _ _ _ _ _ _ rfl rfl rfl (fun w hw => by rw [← h1]; exact bin_eql _ _ _)
          · exact step_move rfl trivial _ rfl (by kernel_rfl)
          · exact step_fieldAddr rfl (by exact ⟨_, rfl, by kernel_rfl⟩) _ _ _ _ rfl rfl (fun w hw => faE0 w _ _)
          · exact step_load rfl (by exact ⟨_, rfl, by kernel_rfl⟩) _ _ _ rfl rfl (fun w hw => load_in ((cell_at hw.1.bx 0).trans rfl))
          · exact step_binOp rfl (by exact ⟨_, rfl, by kernel_rfl⟩) _ _ _ _ _ _ _ rfl rfl rfl (fun w hw => by rw [← h2]; exact bin_eql _ _ _)
          · exact step_move rfl (by exact ⟨_, rfl, by kernel_rfl⟩) _ rfl (by kernel_rfl)
          · exact step_skip rfl 13 false 24 (.bool true) rfl rfl (by kernel_rfl) (by intro h; cases h) rfl
          · exact step_skip rfl 13 false 24 (.bool true) rfl rfl (by kernel_rfl) (by intro h; cases h) rfl
          · exact step_skip rfl 13 false 24 (.bool true) rfl rfl (by kernel_rfl) (by intro h; cases h) rfl
          · exact step_pick rfl (by exact ⟨_, rfl, by kernel_rfl⟩) _ _ _ true rfl (by kernel_rfl) (by kernel_rfl)
          · exact step_pick rfl trivial _ _ _ true rfl (by kernel_rfl) (by kernel_rfl)
          · exact step_assign rfl trivial _ rfl (by kernel_rfl) (fun _ h => h)
        intro W hW
        first | refine hK _ _ ?_ | refine (‹∀ (a : Act) (w : World), Code.wp Tryz.prog _ _ a w → _›) _ _ ?_ | skip
        simp only [finL, List.getD_cons_zero, List.getD_cons_succ, Nat.zero_add, Nat.reduceAdd, List.setIfInBounds_toArray, List.set_cons_zero, List.set_cons_succ]
        clear hK
        go_wp2
        go_ret
        exact ⟨by simp only [fol, hr, h1, h2]; rfl, hW.2⟩
      | false =>
        cases h3 : (x.k == 2) with
        | true =>
          refine wp_region_any hmx ?_
          refine wpAny_pure (fun i__ => ([(.pointer (some ⟨w.heap.size, 1, none⟩)), (.int .i64 x.nd), (.pointer (some ⟨p, 0, none⟩)), (.pointer (some ⟨p, 0, none⟩)), (.pointer (some ⟨p, 3, none⟩)), (.pointer (some ⟨p, 3, none⟩)), (.pointer (some ⟨p, 4, none⟩)), (.int .i64 s.c.nd), (.bool true), (.bool true), (.pointer (some ⟨w.heap.size, 0, none⟩)), (.int .i64 x.k), (.bool false), (.bool false), (.pointer (some ⟨w.heap.size, 0, none⟩)), (.int .i64 x.k), (.bool true), (.bool true), (.bool true), (.bool true)] : List Value).getD i__ undef) (fun V => JB w p b w.heap.size need pl s x V ∧ Below w.heap.size w V) (by kernel_rfl) ⟨hJ0.carry (Below.refl _ _).drew, hb0.drew⟩ ?_ ?_
          · refine (stepsFrom_cons ?_ (stepsFrom_cons ?_ (stepsFrom_cons ?_ (stepsFrom_cons ?_ (stepsFrom_cons ?_ (stepsFrom_cons ?_ (stepsFrom_cons ?_ (stepsFrom_cons ?_ (stepsFrom_cons ?_ (stepsFrom_cons ?_ (stepsFrom_cons ?_ (stepsFrom_cons ?_ (stepsFrom_cons ?_ (stepsFrom_cons ?_ (stepsFrom_cons ?_ (stepsFrom_cons ?_ (stepsFrom_cons ?_ (stepsFrom_cons ?_ (stepsFrom_cons ?_ (stepsFrom_cons ?_ trivial))))))))))))))))))))
            · exact step_fieldAddr rfl trivial _ _ _ _ rfl rfl (fun w hw => faE1 w _ _)
            · exact step_load rfl trivial _ _ _ rfl rfl (fun w hw => load_in ((cell_at hw.1.bx 1).trans rfl))
            · exact step_move rfl trivial _ rfl (by kernel_rfl)
            · exact step_nilCheck rfl trivial _ _ _ rfl rfl rfl
            · exact step_fieldAddr rfl trivial _ _ _ _ rfl rfl (fun w hw => faH3 w _ _)
            · exact step_fieldAddr rfl trivial _ _ _ _ rfl rfl (fun w hw => faR0 w _ _)
            · exact step_fieldAddr rfl trivial _ _ _ _ rfl rfl (fun w hw => faE1 w _ _)
            · exact step_load rfl trivial _ _ _ rfl rfl (fun w hw => load_in ((cell_at hw.1.he.box 4).trans rfl))
            · exact step_binOp rfl trivial _ _ _ _ _ _ _ rfl rfl rfl (fun w hw => by rw [← h1]; exact bin_eql _ _ _)
            · exact step_move rfl trivial _ rfl (by kernel_rfl)
            · exact step_fieldAddr rfl (by exact ⟨_, rfl, by kernel_rfl⟩) _ _ _ _ rfl rfl (fun w hw => faE0 w _ _)
            · exact step_load rfl (by exact ⟨_, rfl, by kernel_rfl⟩) _ _ _ rfl rfl (fun w hw => load_in ((cell_at hw.1.bx 0).trans rfl))
            · exact step_binOp rfl (by exact ⟨_, rfl, by kernel_rfl⟩) _ _ _ _ _ _ _ rfl rfl rfl (fun w hw => by rw [← h2]; exact bin_eql _ _ _)
            · exact step_move rfl (by exact ⟨_, rfl, by kernel_rfl⟩) _ rfl (by kernel_rfl)
            · exact step_fieldAddr rfl (by exact ⟨_, rfl, by kernel_rfl⟩) _ _ _ _ rfl rfl (fun w hw => faE0 w _ _)
            · exact step_load rfl (by exact ⟨_, rfl, by kernel_rfl⟩) _ _ _ rfl rfl (fun w hw => load_in ((cell_at hw.1.bx 0).trans rfl))
            · exact step_binOp rfl (by exact ⟨_, rfl, by kernel_rfl⟩) _ _ _ _ _ _ _ rfl rfl rfl (fun w hw => by rw [← h3]; exact bin_eql _ _ _)
            · exact step_pick rfl (by exact ⟨_, rfl, by kernel_rfl⟩) _ _ _ false rfl (by kernel_rfl) (by kernel_rfl)
            · exact step_pick rfl trivial _ _ _ true rfl (by kernel_rfl) (by kernel_rfl)
            · exact step_assign rfl trivial _ rfl (by kernel_rfl) (fun _ h => h)
          intro W hW
          first | refine hK _ _ ?_ | refine (‹∀ (a : Act) (w : World), Code.wp Tryz.prog _ _ a w → _›) _ _ ?_ | skip
          simp only [finL, List.getD_cons_zero, List.getD_cons_succ, Nat.zero_add, Nat.reduceAdd, List.setIfInBounds_toArray, List.set_cons_zero, List.set_cons_succ]
          clear hK
          go_wp2
          go_ret
          exact ⟨by simp only [fol, hr, h1, h2, h3]; rfl, hW.2⟩
        | false =>
          refine wp_region_any hmx ?_
          refine wpAny_pure (fun i__ => ([(.pointer (some ⟨w.heap.size, 1, none⟩)), (.int .i64 x.nd), (.pointer (some ⟨p, 0, none⟩)), (.pointer (some ⟨p, 0, none⟩)), (.pointer (some ⟨p, 3, none⟩)), (.pointer (some ⟨p, 3, none⟩)), (.pointer (some ⟨p, 4, none⟩)), (.int .i64 s.c.nd), (.bool true), (.bool true), (.pointer (some ⟨w.heap.size, 0, none⟩)), (.int .i64 x.k), (.bool false), (.bool false), (.pointer (some ⟨w.heap.size, 0, none⟩)), (.int .i64 x.k), (.bool false), (.bool false), (.bool false), (.bool false)] : List Value).getD i__ undef) (fun V => JB w p b w.heap.size need pl s x V ∧ Below w.heap.size w V) (by kernel_rfl) ⟨hJ0.carry (Below.refl _ _).drew, hb0.drew⟩ ?_ ?_
          · refine (stepsFrom_cons ?_ (stepsFrom_cons ?_ (stepsFrom_cons ?_ (stepsFrom_cons ?_ (stepsFrom_cons ?_ (stepsFrom_cons ?_ (stepsFrom_cons ?_ (stepsFrom_cons ?_ (stepsFrom_cons ?_ (stepsFrom_cons ?_ (stepsFrom_cons ?_ (stepsFrom_cons ?_ (stepsFrom_cons ?_ (stepsFrom_cons ?_ (stepsFrom_cons ?_ (stepsFrom_cons ?_ (stepsFrom_cons ?_ (stepsFrom_cons ?_ (stepsFrom_cons ?_ (stepsFrom_cons ?_ trivial))))))))))))))))))))
            · exact step_fieldAddr rfl trivial _ _ _ _ rfl rfl (fun w hw => faE1 w _ _)
            · exact step_load rfl trivial _ _ _ rfl rfl (fun w hw => load_in ((cell_at hw.1.bx 1).trans rfl))
            · exact step_move rfl trivial _ rfl (by kernel_rfl)
            · exact step_nilCheck rfl trivial _ _ _ rfl rfl rfl
            · exact step_fieldAddr rfl trivial _ _ _ _ rfl rfl (fun w hw => faH3 w _ _)
            · exact step_fieldAddr rfl trivial _ _ _ _ rfl rfl (fun w hw => faR0 w _ _)
            · exact step_fieldAddr rfl trivial _ _ _ _ rfl rfl (fun w hw => faE1 w _ _)
            · exact step_load rfl trivial _ _ _ rfl rfl (fun w hw => load_in ((cell_at hw.1.he.box 4).trans rfl))
            · exact step_binOp rfl trivial _ _ _ _ _ _ _ rfl rfl rfl (fun w hw => by rw [← h1]; exact bin_eql _ _ _)
            · exact step_move rfl trivial _ rfl (by kernel_rfl)
            · exact step_fieldAddr rfl (by exact ⟨_, rfl, by kernel_rfl⟩) _ _ _ _ rfl rfl (fun w hw => faE0 w _ _)
            · exact step_load rfl (by exact ⟨_, rfl, by kernel_rfl⟩) _ _ _ rfl rfl (fun w hw => load_in ((cell_at hw.1.bx 0).trans rfl))
            · exact step_binOp rfl (by exact ⟨_, rfl, by kernel_rfl⟩) _ _ _ _ _ _ _ rfl rfl rfl (fun w hw => by rw [← h2]; exact bin_eql _ _ _)
            · exact step_move rfl (by exact ⟨_, rfl, by kernel_rfl⟩) _ rfl (by kernel_rfl)
            · exact step_fieldAddr rfl (by exact ⟨_, rfl, by kernel_rfl⟩) _ _ _ _ rfl rfl (fun w hw => faE0 w _ _)
            · exact step_load rfl (by exact ⟨_, rfl, by kernel_rfl⟩) _ _ _ rfl rfl (fun w hw => load_in ((cell_at hw.1.bx 0).trans rfl))
            · exact step_binOp rfl (by exact ⟨_, rfl, by kernel_rfl⟩) _ _ _ _ _ _ _ rfl rfl rfl (fun w hw => by rw [← h3]; exact bin_eql _ _ _)
            · exact step_pick rfl (by exact ⟨_, rfl, by kernel_rfl⟩) _ _ _ false rfl (by kernel_rfl) (by kernel_rfl)
            · exact step_pick rfl trivial _ _ _ true rfl (by kernel_rfl) (by kernel_rfl)
            · exact step_assign rfl trivial _ rfl (by kernel_rfl) (fun _ h => h)
          intro W hW
          first | refine hK _ _ ?_ | refine (‹∀ (a : Act) (w : World), Code.wp Tryz.prog _ _ a w → _›) _ _ ?_ | skip
          simp only [finL, List.getD_cons_zero, List.getD_cons_succ, Nat.zero_add, Nat.reduceAdd, List.setIfInBounds_toArray, List.set_cons_zero, List.set_cons_succ]
          clear hK
          go_wp2
          go_ret
          exact ⟨by simp only [fol, hr, h1, h2, h3]; rfl, hW.2⟩
end Go.Proofs.YtgnhainfcfcodaaGreat
