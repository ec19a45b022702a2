/- audit.begin, defend, down: what they answer. -/
import Derived.Test.YtgnhainfcfcodaaGreatAua
namespace Go.Proofs.YtgnhainfcfcodaaGreat
open Go.RowKit Go.Shelf Go.Lib
attribute [local go_sem] Oper.semAt_some

structure JB (w : World) (p g q : Nat) (need pl : Int) (s : Hs) (x : Ev) (V : World) : Prop where
  he : He V p g need pl s
  bx : V.heap[q]? = some (.cells (ecA x) 59 (0, 0))
  tn : Tn p (some g) (some g) w V
theorem JB.carry {w V V' : World} {p g q : Nat} {need pl : Int} {s : Hs} {x : Ev} (h : JB w p g q need pl s x V) (hb : Below V.heap.size V V') : JB w p g q need pl s x V' := ⟨h.he.carry hb, (hb.block _ (lt_at h.bx)).trans h.bx, h.tn.trans (Tn.of _ _ hb)⟩
theorem bx_sets {V : World} {q : Nat} {x : Ev} (h : V.heap[q]? = some (.cells (ecA x) 59 (0, 0))) : V.cell? ⟨q, 7, none⟩ = some (.int .u32 (wd x.he 0 : Nat)) ∧ V.cell? ⟨q, 8, none⟩ = some (.int .u32 (wd x.he 1 : Nat)) ∧ V.cell? ⟨q, 9, none⟩ = some (.int .u32 (wd x.he 2 : Nat)) ∧ V.cell? ⟨q, 10, none⟩ = some (.int .u32 (wd x.he 3 : Nat)) ∧ V.cell? ⟨q, 11, none⟩ = some (.int .u32 (wd x.un 0 : Nat)) ∧ V.cell? ⟨q, 12, none⟩ = some (.int .u32 (wd x.un 1 : Nat)) ∧ V.cell? ⟨q, 13, none⟩ = some (.int .u32 (wd x.un 2 : Nat)) ∧ V.cell? ⟨q, 14, none⟩ = some (.int .u32 (wd x.un 3 : Nat)) :=
  ⟨(cell_at h 7).trans rfl, (cell_at h 8).trans rfl, (cell_at h 9).trans rfl, (cell_at h 10).trans rfl, (cell_at h 11).trans rfl, (cell_at h 12).trans rfl, (cell_at h 13).trans rfl, (cell_at h 14).trans rfl⟩
theorem bx_ints {V : World} {q : Nat} {x : Ev} (h : V.heap[q]? = some (.cells (ecA x) 59 (0, 0))) : V.cell? ⟨q, 0, none⟩ = some (.int .i64 x.k) ∧ V.cell? ⟨q, 1, none⟩ = some (.int .i64 x.nd) ∧ V.cell? ⟨q, 2, none⟩ = some (.int .i64 x.li) ∧ V.cell? ⟨q, 3, none⟩ = some (.int .i64 x.ro) ∧ V.cell? ⟨q, 4, none⟩ = some (.int .i64 x.ta) ∧ V.cell? ⟨q, 5, none⟩ = some (.int .i64 x.of) ∧ V.cell? ⟨q, 6, none⟩ = some (.int .i64 x.du) :=
  ⟨(cell_at h 0).trans rfl, (cell_at h 1).trans rfl, (cell_at h 2).trans rfl, (cell_at h 3).trans rfl, (cell_at h 4).trans rfl, (cell_at h 5).trans rfl, (cell_at h 6).trans rfl⟩
theorem JB.new {w : World} {p g : Nat} {need pl : Int} {s : Hs} (h : He w p g need pl s) (x : Ev) : JB w p g w.heap.size need pl s x (w.alloc (.cells (ecA x) 59)) := ⟨h.carry (al1' _ _), new_at rfl, Tn.of _ _ (al1' _ _)⟩
/-- What a law answers: it has gone on, or given up. -/
def Lw (p g : Nat) (need pl : Int) (w : World) (r : Option Hs) (e : Ending) (V : World) : Prop :=
  match r with
  | some s => e = .returned (.tuple #[]) ∧ He V p g need pl s ∧ Tn p (some g) (some g) w V
  | none => e = .panicked (off pl) ∧ Tn p (some g) (some g) w V
theorem lw_no {p g : Nat} {need pl : Int} {w V : World} {r : Option Hs} (h : r = none) (ht : Tn p (some g) (some g) w V) : Lw p g need pl w r (.panicked (off pl)) V := by
  subst h
  exact ⟨rfl, ht⟩
theorem lw_yes {p g : Nat} {need pl : Int} {w V : World} {r : Option Hs} {s : Hs} (h : r = some s) (hh : He V p g need pl s) (ht : Tn p (some g) (some g) w V) : Lw p g need pl w r (.returned (.tuple #[])) V := by
  subst h
  exact ⟨rfl, hh, ht⟩
theorem He.nput2 {W : World} {p b m j : Nat} {need pl : Int} {s : Hs} {u u' : Nod} {v : Value} (h : He W p b need pl { s with nds := s.nds.set m u }) (hm : m < s.nds.length) (hj : j < 5) (hv : nc u' = (nc u).set j v) : He (W.setCell ⟨b, m * 5 + j, none⟩ v) p b need pl { s with nds := s.nds.set m u' } := by
  have h1 := h.nput (i := m) (o := u) (o' := u') (by simp [hm]) hj hv
  simpa using h1
theorem st_in {W : World} {B o : Nat} {z v : Int} (h : W.cell? ⟨B, o, none⟩ = some (.int .i64 z)) (hf : W.frozen? ⟨B, o, none⟩ = false) : (Instr.storeAt 3 (.pointer (some ⟨B, o, none⟩)) (.int .i64 v)).run Tryz.prog W = .ok () (W.setCell ⟨B, o, none⟩ (.int .i64 v)) := by go_simp
theorem st_bo {W : World} {B o : Nat} {z v : Bool} (h : W.cell? ⟨B, o, none⟩ = some (.bool z)) (hf : W.frozen? ⟨B, o, none⟩ = false) : (Instr.storeAt 4 (.pointer (some ⟨B, o, none⟩)) (.bool v)).run Tryz.prog W = .ok () (W.setCell ⟨B, o, none⟩ (.bool v)) := by go_simp
theorem set_self {α : Type} {l : List α} {m : Nat} {u : α} (h : l[m]? = some u) : l.set m u = l := by
  apply List.ext_getElem?
  intro k
  rw [List.getElem?_set]
  split
  · subst m
    split
    · exact h.symm
    · rw [List.getElem?_eq_none (by omega)]
  · rfl
def law1 (s : Hs) (x : Ev) (m : Nat) (u : Nod) : Option Hs :=
  if ((!u.up && decide (x.li > u.life)) && (decide (x.ro > u.ask) && decide (x.ro ≤ 1099511627775))) && (decide (x.ta ≥ u.tag) && decide (x.ta ≤ 1048576)) then some { s with nds := s.nds.set m { u with up := true, life := x.li, tag := x.ta, op := x.ro } } else none
/-- Within a row, of its closing; else the round that is open. -/
def law2 (s : Hs) (x : Ev) (m : Nat) (u : Nod) : Option Hs :=
  if decide (s.c.k = 3) then (if decide (x.ro > s.c.ro) && decide (x.ro ≤ 1099511627775) then some { nds := s.nds.set m { u with op := x.ro, ask := x.ro }, c := e0, la := 0 } else none) else if x.ro == u.op then some { s with nds := s.nds.set m { u with ask := x.ro } } else none
def law3 (need : Int) (s : Hs) (x : Ev) (u : Nod) : Option Hs :=
  if (x.ro == u.op) && ((wthB x.he (s.nds.length : Int) && (((cnt (cln x.he) : Nat) : Int) == need) && hasB x.he x.nd) && (wthB x.un (s.nds.length : Int) && decide (cln (dif x.he x.un) = 0))) then some { s with c := x, la := -1 } else none
def law4 (s : Hs) (x : Ev) : Option Hs :=
  if (decide (0 ≤ x.of ∧ x.of < (s.nds.length : Int)) && decide (x.of > s.la) && !hasB s.c.un x.of) && (decide (x.ta ≥ 0) && decide (x.ta ≤ 1048576) && (x.ro == s.c.ro)) then some { s with la := x.of } else none
def law5 (s : Hs) (x : Ev) (m : Nat) (u : Nod) : Option Hs :=
  if (decide (x.ta > u.tag) && decide (x.du ≥ x.ta)) && decide (x.du ≤ 1048576) then some { s with nds := s.nds.set m { u with tag := x.ta } } else none
def law6 (s : Hs) (_x : Ev) (m : Nat) (u : Nod) : Option Hs := some { s with nds := s.nds.set m { u with up := false } }
theorem hqb {V : World} {p b q : Nat} {need pl : Int} {s : Hs} {x : Ev} (h : He V p b need pl s) (hq : V.heap[q]? = some (.cells (ecA x) 59 (0, 0))) : q ≠ b := by
  rintro rfl
  have := h.nod.symm.trans hq
  simp at this
theorem hqp {V : World} {p b q : Nat} {need pl : Int} {s : Hs} {x : Ev} (h : He V p b need pl s) (hq : V.heap[q]? = some (.cells (ecA x) 59 (0, 0))) : q ≠ p := by
  rintro rfl
  have := h.box.symm.trans hq
  simp at this
set_option maxHeartbeats 4000000 in
set_option maxRecDepth 100000 in
theorem defend_any {w : World} {p b : Nat} {need pl : Int} {s : Hs} {m : Nat} {u : Nod} {x : Ev} (h : He w p b need pl s) (hm : s.nds[m]? = some u) (hx : x.nd = (m : Int)) : Calls Tryz.prog 101 #[.pointer (some ⟨p, 0, none⟩), evV x] w (Lw p b need pl w (law5 s x m u)) := by
  have hmx : Tryz.prog.follows .mixedOrders = true := by kernel_rfl
  have hml : m < s.nds.length := (List.getElem?_eq_some_iff.1 hm).1
  have hJ0 := JB.new h x
  have HX : Hid (x.nd = (m : Int)) := hx
  clear hx
  unfold evV ecA
  go_enter Tryz.func101, Tryz.ntmps101
  go_wp2
  rename_i hK
  refine wp_region_any hmx ?_
  refine wpAny_pure (fun i__ => ([(.pointer (some ⟨p, 0, none⟩)), (.pointer (some ⟨p, 0, none⟩)), (.pointer (some ⟨p, 2, none⟩)), (.slice (some ⟨b, 0, none⟩) s.nds.length s.nds.length), (.pointer (some ⟨w.heap.size, 1, none⟩)), (.int .i64 x.nd), (.pointer (some ⟨b, m * 5, none⟩)), (.pointer (some ⟨b, m * 5, none⟩))] : List Value).getD i__ undef) (fun V => JB w p b w.heap.size need pl s x V) (by kernel_rfl) (hJ0.carry (Below.refl _ _).drew) ?_ ?_
  · refine (stepsFrom_cons ?_ (stepsFrom_cons ?_ (stepsFrom_cons ?_ (stepsFrom_cons ?_ (stepsFrom_cons ?_ (stepsFrom_cons ?_ (stepsFrom_cons ?_ (stepsFrom_cons ?_ trivial))))))))
    · exact step_move rfl trivial _ rfl (by kernel_rfl)
    · exact step_nilCheck rfl trivial _ _ _ rfl rfl rfl
    · exact step_fieldAddr rfl trivial _ _ _ _ rfl rfl (fun w hw => faH2 w _ _)
    · exact step_load rfl trivial _ _ _ rfl rfl (fun w hw => load_ns ((cell_at hw.he.box 2).trans rfl))
    · exact step_fieldAddr rfl trivial _ _ _ _ rfl rfl (fun w hw => faE1 w _ _)
    · exact step_load rfl trivial _ _ _ rfl rfl (fun w hw => load_in ((cell_at hw.bx 1).trans rfl))
    · exact step_indexAddr rfl trivial _ _ _ _ _ rfl rfl rfl (fun w hw => by rw [HX.out]; exact idx_n b _ m hml w)
    · exact step_assign rfl trivial _ rfl (by kernel_rfl) (fun _ h => h)
  intro W hW
  first | refine hK _ _ ?_ | refine (‹∀ (a : Act) (w : World), Code.wp Tryz.prog _ _ a w → _›) _ _ ?_ | skip
  simp only [finL, List.getD_cons_zero, List.getD_cons_succ, Nat.zero_add, Nat.reduceAdd, List.setIfInBounds_toArray, List.set_cons_zero, List.set_cons_succ]
  obtain ⟨W1, rfl⟩ : ∃ V, V = W := ⟨_, rfl⟩
  have hJ1 := hW
  clear hW hK
  go_wp2
  rename_i hK
  cases h2_0 : decide (x.ta > u.tag) with
  | false =>
    refine wp_region_any hmx ?_
    refine wpAny_dies 20 (fun i__ => ([(.pointer (some ⟨p, 0, none⟩)), (.pointer (some ⟨w.heap.size, 4, none⟩)), (.int .i64 x.ta), (.pointer (some ⟨b, m * 5, none⟩)), (.pointer (some ⟨b, m * 5, none⟩)), (.pointer (some ⟨b, m * 5 + 2, none⟩)), (.int .i64 u.tag), (.bool false), (.bool false), undef, undef, undef, undef, undef, (.bool false), (.bool false), undef, undef, undef, (.bool false), undef] : List Value).getD i__ undef) (fun V => JB w p b w.heap.size need pl s x V) rfl (by kernel_rfl) (hJ1.carry (Below.refl _ _).drew) ?_ ?_
    · refine (stepsFrom_cons ?_ (stepsFrom_cons ?_ (stepsFrom_cons ?_ (stepsFrom_cons ?_ (stepsFrom_cons ?_ (stepsFrom_cons ?_ (stepsFrom_cons ?_ (stepsFrom_cons ?_ (stepsFrom_cons ?_ (stepsFrom_cons ?_ (stepsFrom_cons ?_ (stepsFrom_cons ?_ (stepsFrom_cons ?_ (stepsFrom_cons ?_ (stepsFrom_cons ?_ (stepsFrom_cons ?_ (stepsFrom_cons ?_ (stepsFrom_cons ?_ (stepsFrom_cons ?_ (stepsFrom_cons ?_ trivial))))))))))))))))))))
      · exact step_move rfl trivial _ rfl (by kernel_rfl)
      · exact step_fieldAddr rfl trivial _ _ _ _ rfl rfl (fun w hw => faE4 w _ _)
      · exact step_load rfl trivial _ _ _ rfl rfl (fun w hw => load_in ((cell_at hw.bx 4).trans rfl))
      · exact step_move rfl trivial _ rfl (by kernel_rfl)
      · exact step_nilCheck rfl trivial _ _ _ rfl rfl rfl
      · exact step_fieldAddr rfl trivial _ _ _ _ rfl rfl (fun w hw => faN2 w _ _)
      · exact step_load rfl trivial _ _ _ rfl rfl (fun w hw => load_in (hw.he.cn hm (by decide) (j := 2) rfl))
      · exact step_binOp rfl trivial _ _ _ _ _ _ _ rfl rfl rfl (fun w hw => by rw [← h2_0]; exact bin_gtr _ _ _)
      · exact step_move rfl trivial _ rfl (by kernel_rfl)
      · exact step_skip rfl 8 true 20 (.bool false) rfl rfl (by kernel_rfl) (by intro h; cases h) rfl
      · exact step_skip rfl 8 true 20 (.bool false) rfl rfl (by kernel_rfl) (by intro h; cases h) rfl
      · exact step_skip rfl 8 true 20 (.bool false) rfl rfl (by kernel_rfl) (by intro h; cases h) rfl
      · exact step_skip rfl 8 true 20 (.bool false) rfl rfl (by kernel_rfl) (by intro h; cases h) rfl
      · exact step_skip rfl 8 true 20 (.bool false) rfl rfl (by kernel_rfl) (by intro h; cases h) rfl
      · exact step_pick rfl trivial _ _ _ false rfl (by kernel_rfl) (by kernel_rfl)
      · exact step_move rfl trivial _ rfl (by kernel_rfl)
      · exact step_skip rfl 15 true 27 (.bool false) rfl rfl (by kernel_rfl) (by intro h; cases h) rfl
      · exact step_skip rfl 15 true 27 (.bool false) rfl rfl (by kernel_rfl) (by intro h; cases h) rfl
      · exact step_skip rfl 15 true 27 (.bool false) rfl rfl (by kernel_rfl) (by intro h; cases h) rfl
      · exact step_pick rfl trivial _ _ _ false rfl (by kernel_rfl) (by kernel_rfl)
    · intro o ho
      cases ho
      exact call_dies rfl trivial 96 _ _ [(.pointer (some ⟨p, 0, none⟩)), (.bool false)] rfl (by kernel_rfl) (enters_of Tryz.func96 (by kernel_rfl) rfl) (off pl) (J2 := fun V => Tn p (some b) (some b) w V) (fun w hw => (must_no hw.he).mono (by rintro e w' ⟨rfl, rfl⟩; exact ⟨rfl, hw.tn⟩)) (fun a w hd hb => ⟨hd, lw_no (by simp only [law5, h2_0]; rfl) hb⟩)
  | true =>
    cases h2_1 : decide (x.du ≥ x.ta) with
    | false =>
      refine wp_region_any hmx ?_
      refine wpAny_dies 20 (fun i__ => ([(.pointer (some ⟨p, 0, none⟩)), (.pointer (some ⟨w.heap.size, 4, none⟩)), (.int .i64 x.ta), (.pointer (some ⟨b, m * 5, none⟩)), (.pointer (some ⟨b, m * 5, none⟩)), (.pointer (some ⟨b, m * 5 + 2, none⟩)), (.int .i64 u.tag), (.bool true), (.bool true), (.pointer (some ⟨w.heap.size, 6, none⟩)), (.int .i64 x.du), (.pointer (some ⟨w.heap.size, 4, none⟩)), (.int .i64 x.ta), (.bool false), (.bool false), (.bool false), undef, undef, undef, (.bool false), undef] : List Value).getD i__ undef) (fun V => JB w p b w.heap.size need pl s x V) rfl (by kernel_rfl) (hJ1.carry (Below.refl _ _).drew) ?_ ?_
      · refine (stepsFrom_cons ?_ (stepsFrom_cons ?_ (stepsFrom_cons ?_ (stepsFrom_cons ?_ (stepsFrom_cons ?_ (stepsFrom_cons ?_ (stepsFrom_cons ?_ (stepsFrom_cons ?_ (stepsFrom_cons ?_ (stepsFrom_cons ?_ (stepsFrom_cons ?_ (stepsFrom_cons ?_ (stepsFrom_cons ?_ (stepsFrom_cons ?_ (stepsFrom_cons ?_ (stepsFrom_cons ?_ (stepsFrom_cons ?_ (stepsFrom_cons ?_ (stepsFrom_cons ?_ (stepsFrom_cons ?_ trivial))))))))))))))))))))
        · exact step_move rfl trivial _ rfl (by kernel_rfl)
        · exact step_fieldAddr rfl trivial _ _ _ _ rfl rfl (fun w hw => faE4 w _ _)
        · exact step_load rfl trivial _ _ _ rfl rfl (fun w hw => load_in ((cell_at hw.bx 4).trans rfl))
        · exact step_move rfl trivial _ rfl (by kernel_rfl)
        · exact step_nilCheck rfl trivial _ _ _ rfl rfl rfl
        · exact step_fieldAddr rfl trivial _ _ _ _ rfl rfl (fun w hw => faN2 w _ _)
        · exact step_load rfl trivial _ _ _ rfl rfl (fun w hw => load_in (hw.he.cn hm (by decide) (j := 2) rfl))
        · exact step_binOp rfl trivial _ _ _ _ _ _ _ rfl rfl rfl (fun w hw => by rw [← h2_0]; exact bin_gtr _ _ _)
        · exact step_move rfl trivial _ rfl (by kernel_rfl)
        · exact step_fieldAddr rfl (by exact ⟨_, rfl, by kernel_rfl⟩) _ _ _ _ rfl rfl (fun w hw => faE6 w _ _)
        · exact step_load rfl (by exact ⟨_, rfl, by kernel_rfl⟩) _ _ _ rfl rfl (fun w hw => load_in ((cell_at hw.bx 6).trans rfl))
        · exact step_fieldAddr rfl (by exact ⟨_, rfl, by kernel_rfl⟩) _ _ _ _ rfl rfl (fun w hw => faE4 w _ _)
        · exact step_load rfl (by exact ⟨_, rfl, by kernel_rfl⟩) _ _ _ rfl rfl (fun w hw => load_in ((cell_at hw.bx 4).trans rfl))
        · exact step_binOp rfl (by exact ⟨_, rfl, by kernel_rfl⟩) _ _ _ _ _ _ _ rfl rfl rfl (fun w hw => by rw [← h2_1]; exact bin_geq _ _ _)
        · exact step_pick rfl trivial _ _ _ true rfl (by kernel_rfl) (by kernel_rfl)
        · exact step_move rfl trivial _ rfl (by kernel_rfl)
        · exact step_skip rfl 15 true 27 (.bool false) rfl rfl (by kernel_rfl) (by intro h; cases h) rfl
        · exact step_skip rfl 15 true 27 (.bool false) rfl rfl (by kernel_rfl) (by intro h; cases h) rfl
        · exact step_skip rfl 15 true 27 (.bool false) rfl rfl (by kernel_rfl) (by intro h; cases h) rfl
        · exact step_pick rfl trivial _ _ _ false rfl (by kernel_rfl) (by kernel_rfl)
      · intro o ho
        cases ho
        exact call_dies rfl trivial 96 _ _ [(.pointer (some ⟨p, 0, none⟩)), (.bool false)] rfl (by kernel_rfl) (enters_of Tryz.func96 (by kernel_rfl) rfl) (off pl) (J2 := fun V => Tn p (some b) (some b) w V) (fun w hw => (must_no hw.he).mono (by rintro e w' ⟨rfl, rfl⟩; exact ⟨rfl, hw.tn⟩)) (fun a w hd hb => ⟨hd, lw_no (by simp only [law5, h2_0, h2_1]; rfl) hb⟩)
    | true =>
      cases h2_2 : decide (x.du ≤ 1048576) with
      | false =>
        refine wp_region_any hmx ?_
        refine wpAny_dies 20 (fun i__ => ([(.pointer (some ⟨p, 0, none⟩)), (.pointer (some ⟨w.heap.size, 4, none⟩)), (.int .i64 x.ta), (.pointer (some ⟨b, m * 5, none⟩)), (.pointer (some ⟨b, m * 5, none⟩)), (.pointer (some ⟨b, m * 5 + 2, none⟩)), (.int .i64 u.tag), (.bool true), (.bool true), (.pointer (some ⟨w.heap.size, 6, none⟩)), (.int .i64 x.du), (.pointer (some ⟨w.heap.size, 4, none⟩)), (.int .i64 x.ta), (.bool true), (.bool true), (.bool true), (.pointer (some ⟨w.heap.size, 6, none⟩)), (.int .i64 x.du), (.bool false), (.bool false), undef] : List Value).getD i__ undef) (fun V => JB w p b w.heap.size need pl s x V) rfl (by kernel_rfl) (hJ1.carry (Below.refl _ _).drew) ?_ ?_
        · refine (stepsFrom_cons ?_ (stepsFrom_cons ?_ (stepsFrom_cons ?_ (stepsFrom_cons ?_ (stepsFrom_cons ?_ (stepsFrom_cons ?_ (stepsFrom_cons ?_ (stepsFrom_cons ?_ (stepsFrom_cons ?_ (stepsFrom_cons ?_ (stepsFrom_cons ?_ (stepsFrom_cons ?_ (stepsFrom_cons ?_ (stepsFrom_cons ?_ (stepsFrom_cons ?_ (stepsFrom_cons ?_ (stepsFrom_cons ?_ (stepsFrom_cons ?_ (stepsFrom_cons ?_ (stepsFrom_cons ?_ trivial))))))))))))))))))))
          · exact step_move rfl trivial _ rfl (by kernel_rfl)
          · exact step_fieldAddr rfl trivial _ _ _ _ rfl rfl (fun w hw => faE4 w _ _)
          · exact step_load rfl trivial _ _ _ rfl rfl (fun w hw => load_in ((cell_at hw.bx 4).trans rfl))
          · exact step_move rfl trivial _ rfl (by kernel_rfl)
          · exact step_nilCheck rfl trivial _ _ _ rfl rfl rfl
          · exact step_fieldAddr rfl trivial _ _ _ _ rfl rfl (fun w hw => faN2 w _ _)
          · exact step_load rfl trivial _ _ _ rfl rfl (fun w hw => load_in (hw.he.cn hm (by decide) (j := 2) rfl))
          · exact step_binOp rfl trivial _ _ _ _ _ _ _ rfl rfl rfl (fun w hw => by rw [← h2_0]; exact bin_gtr _ _ _)
          · exact step_move rfl trivial _ rfl (by kernel_rfl)
          · exact step_fieldAddr rfl (by exact ⟨_, rfl, by kernel_rfl⟩) _ _ _ _ rfl rfl (fun w hw => faE6 w _ _)
          · exact step_load rfl (by exact ⟨_, rfl, by kernel_rfl⟩) _ _ _ rfl rfl (fun w hw => load_in ((cell_at hw.bx 6).trans rfl))
          · exact step_fieldAddr rfl (by exact ⟨_, rfl, by kernel_rfl⟩) _ _ _ _ rfl rfl (fun w hw => faE4 w _ _)
          · exact step_load rfl (by exact ⟨_, rfl, by kernel_rfl⟩) _ _ _ rfl rfl (fun w hw => load_in ((cell_at hw.bx 4).trans rfl))
          · exact step_binOp rfl (by exact ⟨_, rfl, by kernel_rfl⟩) _ _ _ _ _ _ _ rfl rfl rfl (fun w hw => by rw [← h2_1]; exact bin_geq _ _ _)
          · exact step_pick rfl trivial _ _ _ true rfl (by kernel_rfl) (by kernel_rfl)
          · exact step_move rfl trivial _ rfl (by kernel_rfl)
          · exact step_fieldAddr rfl (by exact ⟨_, rfl, by kernel_rfl⟩) _ _ _ _ rfl rfl (fun w hw => faE6 w _ _)
          · exact step_load rfl (by exact ⟨_, rfl, by kernel_rfl⟩) _ _ _ rfl rfl (fun w hw => load_in ((cell_at hw.bx 6).trans rfl))
          · exact step_binOp rfl (by exact ⟨_, rfl, by kernel_rfl⟩) _ _ _ _ _ _ _ rfl rfl rfl (fun w hw => by rw [← h2_2]; exact bin_leq _ _ _)
          · exact step_pick rfl trivial _ _ _ true rfl (by kernel_rfl) (by kernel_rfl)
        · intro o ho
          cases ho
          exact call_dies rfl trivial 96 _ _ [(.pointer (some ⟨p, 0, none⟩)), (.bool false)] rfl (by kernel_rfl) (enters_of Tryz.func96 (by kernel_rfl) rfl) (off pl) (J2 := fun V => Tn p (some b) (some b) w V) (fun w hw => (must_no hw.he).mono (by rintro e w' ⟨rfl, rfl⟩; exact ⟨rfl, hw.tn⟩)) (fun a w hd hb => ⟨hd, lw_no (by simp only [law5, h2_0, h2_1, h2_2]; rfl) hb⟩)
      | true =>
        refine wp_region_any hmx ?_
        refine wpAny_pure (fun i__ => ([(.pointer (some ⟨p, 0, none⟩)), (.pointer (some ⟨w.heap.size, 4, none⟩)), (.int .i64 x.ta), (.pointer (some ⟨b, m * 5, none⟩)), (.pointer (some ⟨b, m * 5, none⟩)), (.pointer (some ⟨b, m * 5 + 2, none⟩)), (.int .i64 u.tag), (.bool true), (.bool true), (.pointer (some ⟨w.heap.size, 6, none⟩)), (.int .i64 x.du), (.pointer (some ⟨w.heap.size, 4, none⟩)), (.int .i64 x.ta), (.bool true), (.bool true), (.bool true), (.pointer (some ⟨w.heap.size, 6, none⟩)), (.int .i64 x.du), (.bool true), (.bool true), (.tuple #[])] : List Value).getD i__ undef) (fun V => JB w p b w.heap.size need pl s x V) (by kernel_rfl) (hJ1.carry (Below.refl _ _).drew) ?_ ?_
        · refine (stepsFrom_cons ?_ (stepsFrom_cons ?_ (stepsFrom_cons ?_ (stepsFrom_cons ?_ (stepsFrom_cons ?_ (stepsFrom_cons ?_ (stepsFrom_cons ?_ (stepsFrom_cons ?_ (stepsFrom_cons ?_ (stepsFrom_cons ?_ (stepsFrom_cons ?_ (stepsFrom_cons ?_ (stepsFrom_cons ?_ (stepsFrom_cons ?_ (stepsFrom_cons ?_ (stepsFrom_cons ?_ (stepsFrom_cons ?_ (stepsFrom_cons ?_ (stepsFrom_cons ?_ (stepsFrom_cons ?_ (stepsFrom_cons ?_ trivial)))))))))))))))))))))
          · exact step_move rfl trivial _ rfl (by kernel_rfl)
          · exact step_fieldAddr rfl trivial _ _ _ _ rfl rfl (fun w hw => faE4 w _ _)
          · exact step_load rfl trivial _ _ _ rfl rfl (fun w hw => load_in ((cell_at hw.bx 4).trans rfl))
          · exact step_move rfl trivial _ rfl (by kernel_rfl)
          · exact step_nilCheck rfl trivial _ _ _ rfl rfl rfl
          · exact step_fieldAddr rfl trivial _ _ _ _ rfl rfl (fun w hw => faN2 w _ _)
          · exact step_load rfl trivial _ _ _ rfl rfl (fun w hw => load_in (hw.he.cn hm (by decide) (j := 2) rfl))
          · exact step_binOp rfl trivial _ _ _ _ _ _ _ rfl rfl rfl (fun w hw => by rw [← h2_0]; exact bin_gtr _ _ _)
          · exact step_move rfl trivial _ rfl (by kernel_rfl)
          · exact step_fieldAddr rfl (by exact ⟨_, rfl, by kernel_rfl⟩) _ _ _ _ rfl rfl (fun w hw => faE6 w _ _)
          · exact step_load rfl (by exact ⟨_, rfl, by kernel_rfl⟩) _ _ _ rfl rfl (fun w hw => load_in ((cell_at hw.bx 6).trans rfl))
          · exact step_fieldAddr rfl (by exact ⟨_, rfl, by kernel_rfl⟩) _ _ _ _ rfl rfl (fun w hw => faE4 w _ _)
          · exact step_load rfl (by exact ⟨_, rfl, by kernel_rfl⟩) _ _ _ rfl rfl (fun w hw => load_in ((cell_at hw.bx 4).trans rfl))
          · exact step_binOp rfl (by exact ⟨_, rfl, by kernel_rfl⟩) _ _ _ _ _ _ _ rfl rfl rfl (fun w hw => by rw [← h2_1]; exact bin_geq _ _ _)
          · exact step_pick rfl trivial _ _ _ true rfl (by kernel_rfl) (by kernel_rfl)
          · exact step_move rfl trivial _ rfl (by kernel_rfl)
          · exact step_fieldAddr rfl (by exact ⟨_, rfl, by kernel_rfl⟩) _ _ _ _ rfl rfl (fun w hw => faE6 w _ _)
          · exact step_load rfl (by exact ⟨_, rfl, by kernel_rfl⟩) _ _ _ rfl rfl (fun w hw => load_in ((cell_at hw.bx 6).trans rfl))
          · exact step_binOp rfl (by exact ⟨_, rfl, by kernel_rfl⟩) _ _ _ _ _ _ _ rfl rfl rfl (fun w hw => by rw [← h2_2]; exact bin_leq _ _ _)
          · exact step_pick rfl trivial _ _ _ true rfl (by kernel_rfl) (by kernel_rfl)
          · exact step_call rfl trivial 96 _ _ [(.pointer (some ⟨p, 0, none⟩)), (.bool true)] rfl (by kernel_rfl) (enters_of Tryz.func96 (by kernel_rfl) rfl) (fun w hw => (must_yes _ w).mono (by rintro e w' ⟨rfl, rfl⟩; exact ⟨rfl, hw⟩))
        intro W hW
        first | refine hK _ _ ?_ | refine (‹∀ (a : Act) (w : World), Code.wp Tryz.prog _ _ a w → _›) _ _ ?_ | skip
        simp only [finL, List.getD_cons_zero, List.getD_cons_succ, Nat.zero_add, Nat.reduceAdd, List.setIfInBounds_toArray, List.set_cons_zero, List.set_cons_succ]
        obtain ⟨W2, rfl⟩ : ∃ V, V = W := ⟨_, rfl⟩
        have hJ2 := hW
        clear hW hK
        have HL : Hid (law5 s x m u = some { s with nds := s.nds.set m { u with tag := x.ta } }) := by simp only [law5, h2_0, h2_1, h2_2]; rfl
        have cq4 : W2.cell? ⟨w.heap.size, 4, none⟩ = some (.int .i64 x.ta) := (cell_at hJ2.bx 4).trans rfl
        have cb2 : W2.cell? ⟨b, m * 5 + 2, none⟩ = some (.int .i64 u.tag) := hJ2.he.cn hm (by decide) rfl
        have zb2 := hJ2.he.frzg (m * 5 + 2)
        have hfin := hJ2.he.nput (o' := { u with tag := x.ta }) (v := .int .i64 x.ta) hm (j := 2) (by decide) rfl
        have htn := hJ2.tn.trans (Tn.putg W2 p b (m * 5 + 2) (.int .i64 x.ta))
        clear hJ0 hJ1 hJ2 hm h
        go_wp2
        go_end0
        exact lw_yes HL.out hfin htn
set_option maxHeartbeats 4000000 in
set_option maxRecDepth 100000 in
theorem down_any {w : World} {p b : Nat} {need pl : Int} {s : Hs} {m : Nat} {u : Nod} {x : Ev} (h : He w p b need pl s) (hm : s.nds[m]? = some u) (hx : x.nd = (m : Int)) : Calls Tryz.prog 102 #[.pointer (some ⟨p, 0, none⟩), evV x] w (Lw p b need pl w (law6 s x m u)) := by
  have hmx : Tryz.prog.follows .mixedOrders = true := by kernel_rfl
  have hml : m < s.nds.length := (List.getElem?_eq_some_iff.1 hm).1
  have hJ0 := JB.new h x
  have HX : Hid (x.nd = (m : Int)) := hx
  clear hx
  unfold evV ecA
  go_enter Tryz.func102, Tryz.ntmps102
  go_wp2
  refine wp_region_any hmx ?_
  refine wpAny_last 8 (fun i__ => ([(.pointer (some ⟨p, 0, none⟩)), (.pointer (some ⟨p, 0, none⟩)), (.pointer (some ⟨p, 2, none⟩)), (.slice (some ⟨b, 0, none⟩) s.nds.length s.nds.length), (.pointer (some ⟨w.heap.size, 1, none⟩)), (.int .i64 x.nd), (.pointer (some ⟨b, m * 5, none⟩)), (.pointer (some ⟨b, m * 5, none⟩)), undef] : List Value).getD i__ undef) (fun V => JB w p b w.heap.size need pl s x V) (fun V => He V p b need pl { s with nds := s.nds.set m { u with up := false } } ∧ Tn p (some b) (some b) w V) rfl (by kernel_rfl) (by kernel_rfl) (hJ0.carry (Below.refl _ _).drew) ?_ ?_  ?_
  · refine (stepsFrom_cons ?_ (stepsFrom_cons ?_ (stepsFrom_cons ?_ (stepsFrom_cons ?_ (stepsFrom_cons ?_ (stepsFrom_cons ?_ (stepsFrom_cons ?_ (stepsFrom_cons ?_ trivial))))))))
    · exact step_move rfl trivial _ rfl (by kernel_rfl)
    · exact step_nilCheck rfl trivial _ _ _ rfl rfl rfl
    · exact step_fieldAddr rfl trivial _ _ _ _ rfl rfl (fun w hw => faH2 w _ _)
    · exact step_load rfl trivial _ _ _ rfl rfl (fun w hw => load_ns ((cell_at hw.he.box 2).trans rfl))
    · exact step_fieldAddr rfl trivial _ _ _ _ rfl rfl (fun w hw => faE1 w _ _)
    · exact step_load rfl trivial _ _ _ rfl rfl (fun w hw => load_in ((cell_at hw.bx 1).trans rfl))
    · exact step_indexAddr rfl trivial _ _ _ _ _ rfl rfl rfl (fun w hw => by rw [HX.out]; exact idx_n b _ m hml w)
    · exact step_fieldAddr rfl trivial _ _ _ _ rfl rfl (fun w hw => faN0 w _ _)
  · intro o ho
    cases ho
    exact step_store rfl trivial rfl _ _ _ _ _ rfl rfl rfl (fun w hw => ⟨_, st_bo (hw.he.cn hm (j := 0) (by decide) rfl) (hw.he.frzg _), hw.he.nput (j := 0) (o' := { u with up := false }) hm (by decide) rfl, hw.tn.trans (Tn.putg _ _ _ _ _)⟩)
  intro W hW
  first | refine hK _ _ ?_ | refine (‹∀ (a : Act) (w : World), Code.wp Tryz.prog _ _ a w → _›) _ _ ?_ | skip
  simp only [finL, List.getD_cons_zero, List.getD_cons_succ, Nat.zero_add, Nat.reduceAdd, List.setIfInBounds_toArray, List.set_cons_zero, List.set_cons_succ]
  go_end0
  exact lw_yes rfl hW.1 hW.2
set_option maxHeartbeats 4000000 in
set_option maxRecDepth 100000 in
theorem begin_any {w : World} {p b : Nat} {need pl : Int} {s : Hs} {m : Nat} {u : Nod} {x : Ev} (h : He w p b need pl s) (hm : s.nds[m]? = some u) (hx : x.nd = (m : Int)) : Calls Tryz.prog 97 #[.pointer (some ⟨p, 0, none⟩), evV x] w (Lw p b need pl w (law1 s x m u)) := by
  have hmx : Tryz.prog.follows .mixedOrders = true := by kernel_rfl
  have hml : m < s.nds.length := (List.getElem?_eq_some_iff.1 hm).1
  have hJ0 := JB.new h x
  have HX : Hid (x.nd = (m : Int)) := hx
  clear hx
  unfold evV ecA
  go_enter Tryz.func97, Tryz.ntmps97
  go_wp2
  rename_i hK
  refine wp_region_any hmx ?_
  refine wpAny_pure (fun i__ => ([(.pointer (some ⟨p, 0, none⟩)), (.pointer (some ⟨p, 0, none⟩)), (.pointer (some ⟨p, 2, none⟩)), (.slice (some ⟨b, 0, none⟩) s.nds.length s.nds.length), (.pointer (some ⟨w.heap.size, 1, none⟩)), (.int .i64 x.nd), (.pointer (some ⟨b, m * 5, none⟩)), (.pointer (some ⟨b, m * 5, none⟩))] : List Value).getD i__ undef) (fun V => JB w p b w.heap.size need pl s x V) (by kernel_rfl) (hJ0.carry (Below.refl _ _).drew) ?_ ?_
  · refine (stepsFrom_cons ?_ (stepsFrom_cons ?_ (stepsFrom_cons ?_ (stepsFrom_cons ?_ (stepsFrom_cons ?_ (stepsFrom_cons ?_ (stepsFrom_cons ?_ (stepsFrom_cons ?_ trivial))))))))
    · exact step_move rfl trivial _ rfl (by kernel_rfl)
    · exact step_nilCheck rfl trivial _ _ _ rfl rfl rfl
    · exact step_fieldAddr rfl trivial _ _ _ _ rfl rfl (fun w hw => faH2 w _ _)
    · exact step_load rfl trivial _ _ _ rfl rfl (fun w hw => load_ns ((cell_at hw.he.box 2).trans rfl))
    · exact step_fieldAddr rfl trivial _ _ _ _ rfl rfl (fun w hw => faE1 w _ _)
    · exact step_load rfl trivial _ _ _ rfl rfl (fun w hw => load_in ((cell_at hw.bx 1).trans rfl))
    · exact step_indexAddr rfl trivial _ _ _ _ _ rfl rfl rfl (fun w hw => by rw [HX.out]; exact idx_n b _ m hml w)
    · exact step_assign rfl trivial _ rfl (by kernel_rfl) (fun _ h => h)
  intro W hW
  first | refine hK _ _ ?_ | refine (‹∀ (a : Act) (w : World), Code.wp Tryz.prog _ _ a w → _›) _ _ ?_ | skip
  simp only [finL, List.getD_cons_zero, List.getD_cons_succ, Nat.zero_add, Nat.reduceAdd, List.setIfInBounds_toArray, List.set_cons_zero, List.set_cons_succ]
  obtain ⟨W1, rfl⟩ : ∃ V, V = W := ⟨_, rfl⟩
  have hJ1 := hW
  clear hW hK
  go_wp2
  rename_i hK
  cases h2_0 : u.up with
  | true =>
    refine wp_region_any hmx ?_
    refine wpAny_dies 15 (fun i__ => ([(.pointer (some ⟨p, 0, none⟩)), (.pointer (some ⟨b, m * 5, none⟩)), (.pointer (some ⟨b, m * 5, none⟩)), (.pointer (some ⟨b, m * 5, none⟩)), (.bool true), (.bool false), (.bool false), undef, undef, undef, undef, undef, undef, undef, (.bool false), undef] : List Value).getD i__ undef) (fun V => JB w p b w.heap.size need pl s x V) rfl (by kernel_rfl) (hJ1.carry (Below.refl _ _).drew) ?_ ?_
    · refine (stepsFrom_cons ?_ (stepsFrom_cons ?_ (stepsFrom_cons ?_ (stepsFrom_cons ?_ (stepsFrom_cons ?_ (stepsFrom_cons ?_ (stepsFrom_cons ?_ (stepsFrom_cons ?_ (stepsFrom_cons ?_ (stepsFrom_cons ?_ (stepsFrom_cons ?_ (stepsFrom_cons ?_ (stepsFrom_cons ?_ (stepsFrom_cons ?_ (stepsFrom_cons ?_ trivial)))))))))))))))
      · exact step_move rfl trivial _ rfl (by kernel_rfl)
      · exact step_move rfl trivial _ rfl (by kernel_rfl)
      · exact step_nilCheck rfl trivial _ _ _ rfl rfl rfl
      · exact step_fieldAddr rfl trivial _ _ _ _ rfl rfl (fun w hw => faN0 w _ _)
      · exact step_load rfl trivial _ _ _ rfl rfl (fun w hw => by rw [← h2_0]; exact load_bo (hw.he.cn hm (by decide) (j := 0) rfl))
      · exact step_unOp rfl trivial _ _ _ _ rfl rfl (fun w hw => rfl)
      · exact step_move rfl trivial _ rfl (by kernel_rfl)
      · exact step_skip rfl 6 true 18 (.bool false) rfl rfl (by kernel_rfl) (by intro h; cases h) rfl
      · exact step_skip rfl 6 true 18 (.bool false) rfl rfl (by kernel_rfl) (by intro h; cases h) rfl
      · exact step_skip rfl 6 true 18 (.bool false) rfl rfl (by kernel_rfl) (by intro h; cases h) rfl
      · exact step_skip rfl 6 true 18 (.bool false) rfl rfl (by kernel_rfl) (by intro h; cases h) rfl
      · exact step_skip rfl 6 true 18 (.bool false) rfl rfl (by kernel_rfl) (by intro h; cases h) rfl
      · exact step_skip rfl 6 true 18 (.bool false) rfl rfl (by kernel_rfl) (by intro h; cases h) rfl
      · exact step_skip rfl 6 true 18 (.bool false) rfl rfl (by kernel_rfl) (by intro h; cases h) rfl
      · exact step_pick rfl trivial _ _ _ false rfl (by kernel_rfl) (by kernel_rfl)
    · intro o ho
      cases ho
      exact call_dies rfl trivial 96 _ _ [(.pointer (some ⟨p, 0, none⟩)), (.bool false)] rfl (by kernel_rfl) (enters_of Tryz.func96 (by kernel_rfl) rfl) (off pl) (J2 := fun V => Tn p (some b) (some b) w V) (fun w hw => (must_no hw.he).mono (by rintro e w' ⟨rfl, rfl⟩; exact ⟨rfl, hw.tn⟩)) (fun a w hd hb => ⟨hd, lw_no (by simp only [law1, h2_0]; rfl) hb⟩)
  | false =>
    cases h2_1 : decide (x.li > u.life) with
    | false =>
      refine wp_region_any hmx ?_
      refine wpAny_dies 15 (fun i__ => ([(.pointer (some ⟨p, 0, none⟩)), (.pointer (some ⟨b, m * 5, none⟩)), (.pointer (some ⟨b, m * 5, none⟩)), (.pointer (some ⟨b, m * 5, none⟩)), (.bool false), (.bool true), (.bool true), (.pointer (some ⟨w.heap.size, 2, none⟩)), (.int .i64 x.li), (.pointer (some ⟨b, m * 5, none⟩)), (.pointer (some ⟨b, m * 5, none⟩)), (.pointer (some ⟨b, m * 5 + 1, none⟩)), (.int .i64 u.life), (.bool false), (.bool false), undef] : List Value).getD i__ undef) (fun V => JB w p b w.heap.size need pl s x V) rfl (by kernel_rfl) (hJ1.carry (Below.refl _ _).drew) ?_ ?_
      · refine (stepsFrom_cons ?_ (stepsFrom_cons ?_ (stepsFrom_cons ?_ (stepsFrom_cons ?_ (stepsFrom_cons ?_ (stepsFrom_cons ?_ (stepsFrom_cons ?_ (stepsFrom_cons ?_ (stepsFrom_cons ?_ (stepsFrom_cons ?_ (stepsFrom_cons ?_ (stepsFrom_cons ?_ (stepsFrom_cons ?_ (stepsFrom_cons ?_ (stepsFrom_cons ?_ trivial)))))))))))))))
        · exact step_move rfl trivial _ rfl (by kernel_rfl)
        · exact step_move rfl trivial _ rfl (by kernel_rfl)
        · exact step_nilCheck rfl trivial _ _ _ rfl rfl rfl
        · exact step_fieldAddr rfl trivial _ _ _ _ rfl rfl (fun w hw => faN0 w _ _)
        · exact step_load rfl trivial _ _ _ rfl rfl (fun w hw => by rw [← h2_0]; exact load_bo (hw.he.cn hm (by decide) (j := 0) rfl))
        · exact step_unOp rfl trivial _ _ _ _ rfl rfl (fun w hw => rfl)
        · exact step_move rfl trivial _ rfl (by kernel_rfl)
        · exact step_fieldAddr rfl (by exact ⟨_, rfl, by kernel_rfl⟩) _ _ _ _ rfl rfl (fun w hw => faE2 w _ _)
        · exact step_load rfl (by exact ⟨_, rfl, by kernel_rfl⟩) _ _ _ rfl rfl (fun w hw => load_in ((cell_at hw.bx 2).trans rfl))
        · exact step_move rfl (by exact ⟨_, rfl, by kernel_rfl⟩) _ rfl (by kernel_rfl)
        · exact step_nilCheck rfl (by exact ⟨_, rfl, by kernel_rfl⟩) _ _ _ rfl rfl rfl
        · exact step_fieldAddr rfl (by exact ⟨_, rfl, by kernel_rfl⟩) _ _ _ _ rfl rfl (fun w hw => faN1 w _ _)
        · exact step_load rfl (by exact ⟨_, rfl, by kernel_rfl⟩) _ _ _ rfl rfl (fun w hw => load_in (hw.he.cn hm (by decide) (j := 1) rfl))
        · exact step_binOp rfl (by exact ⟨_, rfl, by kernel_rfl⟩) _ _ _ _ _ _ _ rfl rfl rfl (fun w hw => by rw [← h2_1]; exact bin_gtr _ _ _)
        · exact step_pick rfl trivial _ _ _ true rfl (by kernel_rfl) (by kernel_rfl)
      · intro o ho
        cases ho
        exact call_dies rfl trivial 96 _ _ [(.pointer (some ⟨p, 0, none⟩)), (.bool false)] rfl (by kernel_rfl) (enters_of Tryz.func96 (by kernel_rfl) rfl) (off pl) (J2 := fun V => Tn p (some b) (some b) w V) (fun w hw => (must_no hw.he).mono (by rintro e w' ⟨rfl, rfl⟩; exact ⟨rfl, hw.tn⟩)) (fun a w hd hb => ⟨hd, lw_no (by simp only [law1, h2_0, h2_1]; rfl) hb⟩)
    | true =>
      refine wp_region_any hmx ?_
      refine wpAny_pure (fun i__ => ([(.pointer (some ⟨p, 0, none⟩)), (.pointer (some ⟨b, m * 5, none⟩)), (.pointer (some ⟨b, m * 5, none⟩)), (.pointer (some ⟨b, m * 5, none⟩)), (.bool false), (.bool true), (.bool true), (.pointer (some ⟨w.heap.size, 2, none⟩)), (.int .i64 x.li), (.pointer (some ⟨b, m * 5, none⟩)), (.pointer (some ⟨b, m * 5, none⟩)), (.pointer (some ⟨b, m * 5 + 1, none⟩)), (.int .i64 u.life), (.bool true), (.bool true), (.tuple #[])] : List Value).getD i__ undef) (fun V => JB w p b w.heap.size need pl s x V) (by kernel_rfl) (hJ1.carry (Below.refl _ _).drew) ?_ ?_
      · refine (stepsFrom_cons ?_ (stepsFrom_cons ?_ (stepsFrom_cons ?_ (stepsFrom_cons ?_ (stepsFrom_cons ?_ (stepsFrom_cons ?_ (stepsFrom_cons ?_ (stepsFrom_cons ?_ (stepsFrom_cons ?_ (stepsFrom_cons ?_ (stepsFrom_cons ?_ (stepsFrom_cons ?_ (stepsFrom_cons ?_ (stepsFrom_cons ?_ (stepsFrom_cons ?_ (stepsFrom_cons ?_ trivial))))))))))))))))
        · exact step_move rfl trivial _ rfl (by kernel_rfl)
        · exact step_move rfl trivial _ rfl (by kernel_rfl)
        · exact step_nilCheck rfl trivial _ _ _ rfl rfl rfl
        · exact step_fieldAddr rfl trivial _ _ _ _ rfl rfl (fun w hw => faN0 w _ _)
        · exact step_load rfl trivial _ _ _ rfl rfl (fun w hw => by rw [← h2_0]; exact load_bo (hw.he.cn hm (by decide) (j := 0) rfl))
        · exact step_unOp rfl trivial _ _ _ _ rfl rfl (fun w hw => rfl)
        · exact step_move rfl trivial _ rfl (by kernel_rfl)
        · exact step_fieldAddr rfl (by exact ⟨_, rfl, by kernel_rfl⟩) _ _ _ _ rfl rfl (fun w hw => faE2 w _ _)
        · exact step_load rfl (by exact ⟨_, rfl, by kernel_rfl⟩) _ _ _ rfl rfl (fun w hw => load_in ((cell_at hw.bx 2).trans rfl))
        · exact step_move rfl (by exact ⟨_, rfl, by kernel_rfl⟩) _ rfl (by kernel_rfl)
        · exact step_nilCheck rfl (by exact ⟨_, rfl, by kernel_rfl⟩) _ _ _ rfl rfl rfl
        · exact step_fieldAddr rfl (by exact ⟨_, rfl, by kernel_rfl⟩) _ _ _ _ rfl rfl (fun w hw => faN1 w _ _)
        · exact step_load rfl (by exact ⟨_, rfl, by kernel_rfl⟩) _ _ _ rfl rfl (fun w hw => load_in (hw.he.cn hm (by decide) (j := 1) rfl))
        · exact step_binOp rfl (by exact ⟨_, rfl, by kernel_rfl⟩) _ _ _ _ _ _ _ rfl rfl rfl (fun w hw => by rw [← h2_1]; exact bin_gtr _ _ _)
        · exact step_pick rfl trivial _ _ _ true rfl (by kernel_rfl) (by kernel_rfl)
        · exact step_call rfl trivial 96 _ _ [(.pointer (some ⟨p, 0, none⟩)), (.bool true)] rfl (by kernel_rfl) (enters_of Tryz.func96 (by kernel_rfl) rfl) (fun w hw => (must_yes _ w).mono (by rintro e w' ⟨rfl, rfl⟩; exact ⟨rfl, hw⟩))
      intro W hW
      first | refine hK _ _ ?_ | refine (‹∀ (a : Act) (w : World), Code.wp Tryz.prog _ _ a w → _›) _ _ ?_ | skip
      simp only [finL, List.getD_cons_zero, List.getD_cons_succ, Nat.zero_add, Nat.reduceAdd, List.setIfInBounds_toArray, List.set_cons_zero, List.set_cons_succ]
      obtain ⟨W2, rfl⟩ : ∃ V, V = W := ⟨_, rfl⟩
      have hJ2 := hW
      clear hW hK
      go_wp2
      rename_i hK
      cases h3_0 : decide (x.ro > u.ask) with
      | false =>
        refine wp_region_any hmx ?_
        refine wpAny_dies 13 (fun i__ => ([(.pointer (some ⟨p, 0, none⟩)), (.pointer (some ⟨w.heap.size, 3, none⟩)), (.int .i64 x.ro), (.pointer (some ⟨b, m * 5, none⟩)), (.pointer (some ⟨b, m * 5, none⟩)), (.pointer (some ⟨b, m * 5 + 4, none⟩)), (.int .i64 u.ask), (.bool false), (.bool false), undef, undef, undef, (.bool false), undef] : List Value).getD i__ undef) (fun V => JB w p b w.heap.size need pl s x V) rfl (by kernel_rfl) (hJ2.carry (Below.refl _ _).drew) ?_ ?_
        · refine (stepsFrom_cons ?_ (stepsFrom_cons ?_ (stepsFrom_cons ?_ (stepsFrom_cons ?_ (stepsFrom_cons ?_ (stepsFrom_cons ?_ (stepsFrom_cons ?_ (stepsFrom_cons ?_ (stepsFrom_cons ?_ (stepsFrom_cons ?_ (stepsFrom_cons ?_ (stepsFrom_cons ?_ (stepsFrom_cons ?_ trivial)))))))))))))
          · exact step_move rfl trivial _ rfl (by kernel_rfl)
          · exact step_fieldAddr rfl trivial _ _ _ _ rfl rfl (fun w hw => faE3 w _ _)
          · exact step_load rfl trivial _ _ _ rfl rfl (fun w hw => load_in ((cell_at hw.bx 3).trans rfl))
          · exact step_move rfl trivial _ rfl (by kernel_rfl)
          · exact step_nilCheck rfl trivial _ _ _ rfl rfl rfl
          · exact step_fieldAddr rfl trivial _ _ _ _ rfl rfl (fun w hw => faN4 w _ _)
          · exact step_load rfl trivial _ _ _ rfl rfl (fun w hw => load_in (hw.he.cn hm (by decide) (j := 4) rfl))
          · exact step_binOp rfl trivial _ _ _ _ _ _ _ rfl rfl rfl (fun w hw => by rw [← h3_0]; exact bin_gtr _ _ _)
          · exact step_move rfl trivial _ rfl (by kernel_rfl)
          · exact step_skip rfl 8 true 36 (.bool false) rfl rfl (by kernel_rfl) (by intro h; cases h) rfl
          · exact step_skip rfl 8 true 36 (.bool false) rfl rfl (by kernel_rfl) (by intro h; cases h) rfl
          · exact step_skip rfl 8 true 36 (.bool false) rfl rfl (by kernel_rfl) (by intro h; cases h) rfl
          · exact step_pick rfl trivial _ _ _ false rfl (by kernel_rfl) (by kernel_rfl)
        · intro o ho
          cases ho
          exact call_dies rfl trivial 96 _ _ [(.pointer (some ⟨p, 0, none⟩)), (.bool false)] rfl (by kernel_rfl) (enters_of Tryz.func96 (by kernel_rfl) rfl) (off pl) (J2 := fun V => Tn p (some b) (some b) w V) (fun w hw => (must_no hw.he).mono (by rintro e w' ⟨rfl, rfl⟩; exact ⟨rfl, hw.tn⟩)) (fun a w hd hb => ⟨hd, lw_no (by simp only [law1, h2_0, h2_1, h3_0]; rfl) hb⟩)
      | true =>
        cases h3_1 : decide (x.ro ≤ 1099511627775) with
        | false =>
          refine wp_region_any hmx ?_
          refine wpAny_dies 13 (fun i__ => ([(.pointer (some ⟨p, 0, none⟩)), (.pointer (some ⟨w.heap.size, 3, none⟩)), (.int .i64 x.ro), (.pointer (some ⟨b, m * 5, none⟩)), (.pointer (some ⟨b, m * 5, none⟩)), (.pointer (some ⟨b, m * 5 + 4, none⟩)), (.int .i64 u.ask), (.bool true), (.bool true), (.pointer (some ⟨w.heap.size, 3, none⟩)), (.int .i64 x.ro), (.bool false), (.bool false), undef] : List Value).getD i__ undef) (fun V => JB w p b w.heap.size need pl s x V) rfl (by kernel_rfl) (hJ2.carry (Below.refl _ _).drew) ?_ ?_
          · refine (stepsFrom_cons ?_ (stepsFrom_cons ?_ (stepsFrom_cons ?_ (stepsFrom_cons ?_ (stepsFrom_cons ?_ (stepsFrom_cons ?_ (stepsFrom_cons ?_ (stepsFrom_cons ?_ (stepsFrom_cons ?_ (stepsFrom_cons ?_ (stepsFrom_cons ?_ (stepsFrom_cons ?_ (stepsFrom_cons ?_ trivial)))))))))))))
            · exact step_move rfl trivial _ rfl (by kernel_rfl)
            · exact step_fieldAddr rfl trivial _ _ _ _ rfl rfl (fun w hw => faE3 w _ _)
            · exact step_load rfl trivial _ _ _ rfl rfl (fun w hw => load_in ((cell_at hw.bx 3).trans rfl))
            · exact step_move rfl trivial _ rfl (by kernel_rfl)
            · exact step_nilCheck rfl trivial _ _ _ rfl rfl rfl
            · exact step_fieldAddr rfl trivial _ _ _ _ rfl rfl (fun w hw => faN4 w _ _)
            · exact step_load rfl trivial _ _ _ rfl rfl (fun w hw => load_in (hw.he.cn hm (by decide) (j := 4) rfl))
            · exact step_binOp rfl trivial _ _ _ _ _ _ _ rfl rfl rfl (fun w hw => by rw [← h3_0]; exact bin_gtr _ _ _)
            · exact step_move rfl trivial _ rfl (by kernel_rfl)
            · exact step_fieldAddr rfl (by exact ⟨_, rfl, by kernel_rfl⟩) _ _ _ _ rfl rfl (fun w hw => faE3 w _ _)
            · exact step_load rfl (by exact ⟨_, rfl, by kernel_rfl⟩) _ _ _ rfl rfl (fun w hw => load_in ((cell_at hw.bx 3).trans rfl))
            · exact step_binOp rfl (by exact ⟨_, rfl, by kernel_rfl⟩) _ _ _ _ _ _ _ rfl rfl rfl (fun w hw => by rw [← h3_1]; exact bin_leq _ _ _)
            · exact step_pick rfl trivial _ _ _ true rfl (by kernel_rfl) (by kernel_rfl)
          · intro o ho
            cases ho
            exact call_dies rfl trivial 96 _ _ [(.pointer (some ⟨p, 0, none⟩)), (.bool false)] rfl (by kernel_rfl) (enters_of Tryz.func96 (by kernel_rfl) rfl) (off pl) (J2 := fun V => Tn p (some b) (some b) w V) (fun w hw => (must_no hw.he).mono (by rintro e w' ⟨rfl, rfl⟩; exact ⟨rfl, hw.tn⟩)) (fun a w hd hb => ⟨hd, lw_no (by simp only [law1, h2_0, h2_1, h3_0, h3_1]; rfl) hb⟩)
        | true =>
          refine wp_region_any hmx ?_
          refine wpAny_pure (fun i__ => ([(.pointer (some ⟨p, 0, none⟩)), (.pointer (some ⟨w.heap.size, 3, none⟩)), (.int .i64 x.ro), (.pointer (some ⟨b, m * 5, none⟩)), (.pointer (some ⟨b, m * 5, none⟩)), (.pointer (some ⟨b, m * 5 + 4, none⟩)), (.int .i64 u.ask), (.bool true), (.bool true), (.pointer (some ⟨w.heap.size, 3, none⟩)), (.int .i64 x.ro), (.bool true), (.bool true), (.tuple #[])] : List Value).getD i__ undef) (fun V => JB w p b w.heap.size need pl s x V) (by kernel_rfl) (hJ2.carry (Below.refl _ _).drew) ?_ ?_
          · refine (stepsFrom_cons ?_ (stepsFrom_cons ?_ (stepsFrom_cons ?_ (stepsFrom_cons ?_ (stepsFrom_cons ?_ (stepsFrom_cons ?_ (stepsFrom_cons ?_ (stepsFrom_cons ?_ (stepsFrom_cons ?_ (stepsFrom_cons ?_ (stepsFrom_cons ?_ (stepsFrom_cons ?_ (stepsFrom_cons ?_ (stepsFrom_cons ?_ trivial))))))))))))))
            · exact step_move rfl trivial _ rfl (by kernel_rfl)
            · exact step_fieldAddr rfl trivial _ _ _ _ rfl rfl (fun w hw => faE3 w _ _)
            · exact step_load rfl trivial _ _ _ rfl rfl (fun w hw => load_in ((cell_at hw.bx 3).trans rfl))
            · exact step_move rfl trivial _ rfl (by kernel_rfl)
            · exact step_nilCheck rfl trivial _ _ _ rfl rfl rfl
            · exact step_fieldAddr rfl trivial _ _ _ _ rfl rfl (fun w hw => faN4 w _ _)
            · exact step_load rfl trivial _ _ _ rfl rfl (fun w hw => load_in (hw.he.cn hm (by decide) (j := 4) rfl))
            · exact step_binOp rfl trivial _ _ _ _ _ _ _ rfl rfl rfl (fun w hw => by rw [← h3_0]; exact bin_gtr _ _ _)
            · exact step_move rfl trivial _ rfl (by kernel_rfl)
            · exact step_fieldAddr rfl (by exact ⟨_, rfl, by kernel_rfl⟩) _ _ _ _ rfl rfl (fun w hw => faE3 w _ _)
            · exact step_load rfl (by exact ⟨_, rfl, by kernel_rfl⟩) _ _ _ rfl rfl (fun w hw => load_in ((cell_at hw.bx 3).trans rfl))
            · exact step_binOp rfl (by exact ⟨_, rfl, by kernel_rfl⟩) _ _ _ _ _ _ _ rfl rfl rfl (fun w hw => by rw [← h3_1]; exact bin_leq _ _ _)
            · exact step_pick rfl trivial _ _ _ true rfl (by kernel_rfl) (by kernel_rfl)
            · exact step_call rfl trivial 96 _ _ [(.pointer (some ⟨p, 0, none⟩)), (.bool true)] rfl (by kernel_rfl) (enters_of Tryz.func96 (by kernel_rfl) rfl) (fun w hw => (must_yes _ w).mono (by rintro e w' ⟨rfl, rfl⟩; exact ⟨rfl, hw⟩))
          intro W hW
          first | refine hK _ _ ?_ | refine (‹∀ (a : Act) (w : World), Code.wp Tryz.prog _ _ a w → _›) _ _ ?_ | skip
          simp only [finL, List.getD_cons_zero, List.getD_cons_succ, Nat.zero_add, Nat.reduceAdd, List.setIfInBounds_toArray, List.set_cons_zero, List.set_cons_succ]
          obtain ⟨W3, rfl⟩ : ∃ V, V = W := ⟨_, rfl⟩
          have hJ3 := hW
          clear hW hK
          go_wp2
          rename_i hK
          cases h4_0 : decide (x.ta ≥ u.tag) with
          | false =>
            refine wp_region_any hmx ?_
            refine wpAny_dies 13 (fun i__ => ([(.pointer (some ⟨p, 0, none⟩)), (.pointer (some ⟨w.heap.size, 4, none⟩)), (.int .i64 x.ta), (.pointer (some ⟨b, m * 5, none⟩)), (.pointer (some ⟨b, m * 5, none⟩)), (.pointer (some ⟨b, m * 5 + 2, none⟩)), (.int .i64 u.tag), (.bool false), (.bool false), undef, undef, undef, (.bool false), undef] : List Value).getD i__ undef) (fun V => JB w p b w.heap.size need pl s x V) rfl (by kernel_rfl) (hJ3.carry (Below.refl _ _).drew) ?_ ?_
            · refine (stepsFrom_cons ?_ (stepsFrom_cons ?_ (stepsFrom_cons ?_ (stepsFrom_cons ?_ (stepsFrom_cons ?_ (stepsFrom_cons ?_ (stepsFrom_cons ?_ (stepsFrom_cons ?_ (stepsFrom_cons ?_ (stepsFrom_cons ?_ (stepsFrom_cons ?_ (stepsFrom_cons ?_ (stepsFrom_cons ?_ trivial)))))))))))))
              · exact step_move rfl trivial _ rfl (by kernel_rfl)
              · exact step_fieldAddr rfl trivial _ _ _ _ rfl rfl (fun w hw => faE4 w _ _)
              · exact step_load rfl trivial _ _ _ rfl rfl (fun w hw => load_in ((cell_at hw.bx 4).trans rfl))
              · exact step_move rfl trivial _ rfl (by kernel_rfl)
              · exact step_nilCheck rfl trivial _ _ _ rfl rfl rfl
              · exact step_fieldAddr rfl trivial _ _ _ _ rfl rfl (fun w hw => faN2 w _ _)
              · exact step_load rfl trivial _ _ _ rfl rfl (fun w hw => load_in (hw.he.cn hm (by decide) (j := 2) rfl))
              · exact step_binOp rfl trivial _ _ _ _ _ _ _ rfl rfl rfl (fun w hw => by rw [← h4_0]; exact bin_geq _ _ _)
              · exact step_move rfl trivial _ rfl (by kernel_rfl)
              · exact step_skip rfl 8 true 50 (.bool false) rfl rfl (by kernel_rfl) (by intro h; cases h) rfl
              · exact step_skip rfl 8 true 50 (.bool false) rfl rfl (by kernel_rfl) (by intro h; cases h) rfl
              · exact step_skip rfl 8 true 50 (.bool false) rfl rfl (by kernel_rfl) (by intro h; cases h) rfl
              · exact step_pick rfl trivial _ _ _ false rfl (by kernel_rfl) (by kernel_rfl)
            · intro o ho
              cases ho
              exact call_dies rfl trivial 96 _ _ [(.pointer (some ⟨p, 0, none⟩)), (.bool false)] rfl (by kernel_rfl) (enters_of Tryz.func96 (by kernel_rfl) rfl) (off pl) (J2 := fun V => Tn p (some b) (some b) w V) (fun w hw => (must_no hw.he).mono (by rintro e w' ⟨rfl, rfl⟩; exact ⟨rfl, hw.tn⟩)) (fun a w hd hb => ⟨hd, lw_no (by simp only [law1, h2_0, h2_1, h3_0, h3_1, h4_0]; rfl) hb⟩)
          | true =>
            cases h4_1 : decide (x.ta ≤ 1048576) with
            | false =>
              refine wp_region_any hmx ?_
              refine wpAny_dies 13 (fun i__ => ([(.pointer (some ⟨p, 0, none⟩)), (.pointer (some ⟨w.heap.size, 4, none⟩)), (.int .i64 x.ta), (.pointer (some ⟨b, m * 5, none⟩)), (.pointer (some ⟨b, m * 5, none⟩)), (.pointer (some ⟨b, m * 5 + 2, none⟩)), (.int .i64 u.tag), (.bool true), (.bool true), (.pointer (some ⟨w.heap.size, 4, none⟩)), (.int .i64 x.ta), (.bool false), (.bool false), undef] : List Value).getD i__ undef) (fun V => JB w p b w.heap.size need pl s x V) rfl (by kernel_rfl) (hJ3.carry (Below.refl _ _).drew) ?_ ?_
              · refine (stepsFrom_cons ?_ (stepsFrom_cons ?_ (stepsFrom_cons ?_ (stepsFrom_cons ?_ (stepsFrom_cons ?_ (stepsFrom_cons ?_ (stepsFrom_cons ?_ (stepsFrom_cons ?_ (stepsFrom_cons ?_ (stepsFrom_cons ?_ (stepsFrom_cons ?_ (stepsFrom_cons ?_ (stepsFrom_cons ?_ trivial)))))))))))))
                · exact step_move rfl trivial _ rfl (by kernel_rfl)
                · exact step_fieldAddr rfl trivial _ _ _ _ rfl rfl (fun w hw => faE4 w _ _)
                · exact step_load rfl trivial _ _ _ rfl rfl (fun w hw => load_in ((cell_at hw.bx 4).trans rfl))
                · exact step_move rfl trivial _ rfl (by kernel_rfl)
                · exact step_nilCheck rfl trivial _ _ _ rfl rfl rfl
                · exact step_fieldAddr rfl trivial _ _ _ _ rfl rfl (fun w hw => faN2 w _ _)
                · exact step_load rfl trivial _ _ _ rfl rfl (fun w hw => load_in (hw.he.cn hm (by decide) (j := 2) rfl))
                · exact step_binOp rfl trivial _ _ _ _ _ _ _ rfl rfl rfl (fun w hw => by rw [← h4_0]; exact bin_geq _ _ _)
                · exact step_move rfl trivial _ rfl (by kernel_rfl)
                · exact step_fieldAddr rfl (by exact ⟨_, rfl, by kernel_rfl⟩) _ _ _ _ rfl rfl (fun w hw => faE4 w _ _)
                · exact step_load rfl (by exact ⟨_, rfl, by kernel_rfl⟩) _ _ _ rfl rfl (fun w hw => load_in ((cell_at hw.bx 4).trans rfl))
                · exact step_binOp rfl (by exact ⟨_, rfl, by kernel_rfl⟩) _ _ _ _ _ _ _ rfl rfl rfl (fun w hw => by rw [← h4_1]; exact bin_leq _ _ _)
                · exact step_pick rfl trivial _ _ _ true rfl (by kernel_rfl) (by kernel_rfl)
              · intro o ho
                cases ho
                exact call_dies rfl trivial 96 _ _ [(.pointer (some ⟨p, 0, none⟩)), (.bool false)] rfl (by kernel_rfl) (enters_of Tryz.func96 (by kernel_rfl) rfl) (off pl) (J2 := fun V => Tn p (some b) (some b) w V) (fun w hw => (must_no hw.he).mono (by rintro e w' ⟨rfl, rfl⟩; exact ⟨rfl, hw.tn⟩)) (fun a w hd hb => ⟨hd, lw_no (by simp only [law1, h2_0, h2_1, h3_0, h3_1, h4_0, h4_1]; rfl) hb⟩)
            | true =>
              refine wp_region_any hmx ?_
              refine wpAny_pure (fun i__ => ([(.pointer (some ⟨p, 0, none⟩)), (.pointer (some ⟨w.heap.size, 4, none⟩)), (.int .i64 x.ta), (.pointer (some ⟨b, m * 5, none⟩)), (.pointer (some ⟨b, m * 5, none⟩)), (.pointer (some ⟨b, m * 5 + 2, none⟩)), (.int .i64 u.tag), (.bool true), (.bool true), (.pointer (some ⟨w.heap.size, 4, none⟩)), (.int .i64 x.ta), (.bool true), (.bool true), (.tuple #[])] : List Value).getD i__ undef) (fun V => JB w p b w.heap.size need pl s x V) (by kernel_rfl) (hJ3.carry (Below.refl _ _).drew) ?_ ?_
              · refine (stepsFrom_cons ?_ (stepsFrom_cons ?_ (stepsFrom_cons ?_ (stepsFrom_cons ?_ (stepsFrom_cons ?_ (stepsFrom_cons ?_ (stepsFrom_cons ?_ (stepsFrom_cons ?_ (stepsFrom_cons ?_ (stepsFrom_cons ?_ (stepsFrom_cons ?_ (stepsFrom_cons ?_ (stepsFrom_cons ?_ (stepsFrom_cons ?_ trivial))))))))))))))
                · exact step_move rfl trivial _ rfl (by kernel_rfl)
                · exact step_fieldAddr rfl trivial _ _ _ _ rfl rfl (fun w hw => faE4 w _ _)
                · exact step_load rfl trivial _ _ _ rfl rfl (fun w hw => load_in ((cell_at hw.bx 4).trans rfl))
                · exact step_move rfl trivial _ rfl (by kernel_rfl)
                · exact step_nilCheck rfl trivial _ _ _ rfl rfl rfl
                · exact step_fieldAddr rfl trivial _ _ _ _ rfl rfl (fun w hw => faN2 w _ _)
                · exact step_load rfl trivial _ _ _ rfl rfl (fun w hw => load_in (hw.he.cn hm (by decide) (j := 2) rfl))
                · exact step_binOp rfl trivial _ _ _ _ _ _ _ rfl rfl rfl (fun w hw => by rw [← h4_0]; exact bin_geq _ _ _)
                · exact step_move rfl trivial _ rfl (by kernel_rfl)
                · exact step_fieldAddr rfl (by exact ⟨_, rfl, by kernel_rfl⟩) _ _ _ _ rfl rfl (fun w hw => faE4 w _ _)
                · exact step_load rfl (by exact ⟨_, rfl, by kernel_rfl⟩) _ _ _ rfl rfl (fun w hw => load_in ((cell_at hw.bx 4).trans rfl))
                · exact step_binOp rfl (by exact ⟨_, rfl, by kernel_rfl⟩) _ _ _ _ _ _ _ rfl rfl rfl (fun w hw => by rw [← h4_1]; exact bin_leq _ _ _)
                · exact step_pick rfl trivial _ _ _ true rfl (by kernel_rfl) (by kernel_rfl)
                · exact step_call rfl trivial 96 _ _ [(.pointer (some ⟨p, 0, none⟩)), (.bool true)] rfl (by kernel_rfl) (enters_of Tryz.func96 (by kernel_rfl) rfl) (fun w hw => (must_yes _ w).mono (by rintro e w' ⟨rfl, rfl⟩; exact ⟨rfl, hw⟩))
              intro W hW
              first | refine hK _ _ ?_ | refine (‹∀ (a : Act) (w : World), Code.wp Tryz.prog _ _ a w → _›) _ _ ?_ | skip
              simp only [finL, List.getD_cons_zero, List.getD_cons_succ, Nat.zero_add, Nat.reduceAdd, List.setIfInBounds_toArray, List.set_cons_zero, List.set_cons_succ]
              obtain ⟨W4, rfl⟩ : ∃ V, V = W := ⟨_, rfl⟩
              have hJ4 := hW
              clear hW hK
              go_wp2
              rename_i hK
              refine wp_region_any hmx ?_
              refine wpAny_tabG (G := Unit) (fun g i__ => ([(.pointer (some ⟨b, m * 5, none⟩)), (.pointer (some ⟨b, m * 5, none⟩)), (.pointer (some ⟨b, m * 5, none⟩)), (.pointer (some ⟨b, m * 5, none⟩)), (.pointer (some ⟨w.heap.size, 2, none⟩)), (.int .i64 x.li), (.pointer (some ⟨w.heap.size, 4, none⟩)), (.int .i64 x.ta), (.pointer (some ⟨w.heap.size, 3, none⟩)), (.int .i64 x.ro), (.pointer (some ⟨b, m * 5, none⟩)), (.pointer (some ⟨b, m * 5, none⟩)), undef, (.pointer (some ⟨b, m * 5, none⟩)), (.pointer (some ⟨b, m * 5 + 1, none⟩)), undef, (.pointer (some ⟨b, m * 5, none⟩)), (.pointer (some ⟨b, m * 5 + 2, none⟩)), undef, (.pointer (some ⟨b, m * 5, none⟩)), (.pointer (some ⟨b, m * 5 + 3, none⟩)), undef] : List Value).getD i__ undef) (fun g d V => (∃ u2 : Nod, u2 = ⟨if d 12 = true then true else u.up, if d 15 = true then x.li else u.life, if d 18 = true then x.ta else u.tag, if d 21 = true then x.ro else u.op, u.ask⟩ ∧ JB w p b w.heap.size need pl { s with nds := s.nds.set m u2 } x V)) (by kernel_rfl) (()) ⟨u, by simp, by rw [set_self hm]; exact (hJ4.carry (Below.refl _ _).drew)⟩ ?step1 ?fin1
              case step1 =>
                intro i o ho
                have hi : i < 22 := getElem?_lt ho
                match i, hi, ho with
                | 0, _, ho =>
                  cases ho
                  refine stepG_of (fun g d hdep => ?_)
                  exact step_move rfl trivial _ rfl (by kernel_rfl)
                | 1, _, ho =>
                  cases ho
                  refine stepG_of (fun g d hdep => ?_)
                  exact step_move rfl trivial _ rfl (by kernel_rfl)
                | 2, _, ho =>
                  cases ho
                  refine stepG_of (fun g d hdep => ?_)
                  exact step_move rfl trivial _ rfl (by kernel_rfl)
                | 3, _, ho =>
                  cases ho
                  refine stepG_of (fun g d hdep => ?_)
                  exact step_move rfl trivial _ rfl (by kernel_rfl)
                | 4, _, ho =>
                  cases ho
                  refine stepG_of (fun g d hdep => ?_)
                  exact step_fieldAddr rfl trivial _ _ _ _ rfl rfl (fun w hw => faE2 w _ _)
                | 5, _, ho =>
                  cases ho
                  refine stepG_of (fun g d hdep => ?_)
                  exact step_load rfl trivial _ _ _ rfl rfl (fun w hw => by obtain ⟨u2, hu2, hw⟩ := hw; exact load_in ((cell_at hw.bx 2).trans rfl))
                | 6, _, ho =>
                  cases ho
                  refine stepG_of (fun g d hdep => ?_)
                  exact step_fieldAddr rfl trivial _ _ _ _ rfl rfl (fun w hw => faE4 w _ _)
                | 7, _, ho =>
                  cases ho
                  refine stepG_of (fun g d hdep => ?_)
                  exact step_load rfl trivial _ _ _ rfl rfl (fun w hw => by obtain ⟨u2, hu2, hw⟩ := hw; exact load_in ((cell_at hw.bx 4).trans rfl))
                | 8, _, ho =>
                  cases ho
                  refine stepG_of (fun g d hdep => ?_)
                  exact step_fieldAddr rfl trivial _ _ _ _ rfl rfl (fun w hw => faE3 w _ _)
                | 9, _, ho =>
                  cases ho
                  refine stepG_of (fun g d hdep => ?_)
                  exact step_load rfl trivial _ _ _ rfl rfl (fun w hw => by obtain ⟨u2, hu2, hw⟩ := hw; exact load_in ((cell_at hw.bx 3).trans rfl))
                | 10, _, ho =>
                  cases ho
                  refine stepG_of (fun g d hdep => ?_)
                  exact step_nilCheck rfl trivial _ _ _ rfl rfl rfl
                | 11, _, ho =>
                  cases ho
                  refine stepG_of (fun g d hdep => ?_)
                  exact step_fieldAddr rfl trivial _ _ _ _ rfl rfl (fun w hw => faN0 w _ _)
                | 12, _, ho =>
                  cases ho
                  exact stepG_store rfl rfl rfl _ _ _ (fun g => .pointer (some ⟨b, m * 5, none⟩)) (fun g => .bool true) rfl (fun g => by kernel_rfl) (fun g => by kernel_rfl) (fun g d V hJ hun hdep => by obtain ⟨u2, hu2, hJ'⟩ := hJ; refine ⟨_, st_bo (hJ'.he.cn (i := m) (o := u2) (by simp [hml]) (j := 0) (by decide) rfl) (hJ'.he.frzg _), { u2 with up := true }, ?_, hJ'.he.nput2 hml (j := 0) (by decide) rfl, (Below.heap_setCell _ _ _ _ (hqb hJ'.he hJ'.bx)).trans hJ'.bx, hJ'.tn.trans (Tn.putg _ _ _ _ _)⟩; rw [hu2]; simp)
                | 13, _, ho =>
                  cases ho
                  refine stepG_of (fun g d hdep => ?_)
                  exact step_nilCheck rfl trivial _ _ _ rfl rfl rfl
                | 14, _, ho =>
                  cases ho
                  refine stepG_of (fun g d hdep => ?_)
                  exact step_fieldAddr rfl trivial _ _ _ _ rfl rfl (fun w hw => faN1 w _ _)
                | 15, _, ho =>
                  cases ho
                  exact stepG_store rfl rfl rfl _ _ _ (fun g => .pointer (some ⟨b, m * 5 + 1, none⟩)) (fun g => .int .i64 x.li) rfl (fun g => by kernel_rfl) (fun g => by kernel_rfl) (fun g d V hJ hun hdep => by obtain ⟨u2, hu2, hJ'⟩ := hJ; refine ⟨_, st_in (hJ'.he.cn (i := m) (o := u2) (by simp [hml]) (j := 1) (by decide) rfl) (hJ'.he.frzg _), { u2 with life := x.li }, ?_, hJ'.he.nput2 hml (j := 1) (by decide) rfl, (Below.heap_setCell _ _ _ _ (hqb hJ'.he hJ'.bx)).trans hJ'.bx, hJ'.tn.trans (Tn.putg _ _ _ _ _)⟩; rw [hu2]; simp)
                | 16, _, ho =>
                  cases ho
                  refine stepG_of (fun g d hdep => ?_)
                  exact step_nilCheck rfl trivial _ _ _ rfl rfl rfl
                | 17, _, ho =>
                  cases ho
                  refine stepG_of (fun g d hdep => ?_)
                  exact step_fieldAddr rfl trivial _ _ _ _ rfl rfl (fun w hw => faN2 w _ _)
                | 18, _, ho =>
                  cases ho
                  exact stepG_store rfl rfl rfl _ _ _ (fun g => .pointer (some ⟨b, m * 5 + 2, none⟩)) (fun g => .int .i64 x.ta) rfl (fun g => by kernel_rfl) (fun g => by kernel_rfl) (fun g d V hJ hun hdep => by obtain ⟨u2, hu2, hJ'⟩ := hJ; refine ⟨_, st_in (hJ'.he.cn (i := m) (o := u2) (by simp [hml]) (j := 2) (by decide) rfl) (hJ'.he.frzg _), { u2 with tag := x.ta }, ?_, hJ'.he.nput2 hml (j := 2) (by decide) rfl, (Below.heap_setCell _ _ _ _ (hqb hJ'.he hJ'.bx)).trans hJ'.bx, hJ'.tn.trans (Tn.putg _ _ _ _ _)⟩; rw [hu2]; simp)
                | 19, _, ho =>
                  cases ho
                  refine stepG_of (fun g d hdep => ?_)
                  exact step_nilCheck rfl trivial _ _ _ rfl rfl rfl
                | 20, _, ho =>
                  cases ho
                  refine stepG_of (fun g d hdep => ?_)
                  exact step_fieldAddr rfl trivial _ _ _ _ rfl rfl (fun w hw => faN3 w _ _)
                | 21, _, ho =>
                  cases ho
                  exact stepG_store rfl rfl rfl _ _ _ (fun g => .pointer (some ⟨b, m * 5 + 3, none⟩)) (fun g => .int .i64 x.ro) rfl (fun g => by kernel_rfl) (fun g => by kernel_rfl) (fun g d V hJ hun hdep => by obtain ⟨u2, hu2, hJ'⟩ := hJ; refine ⟨_, st_in (hJ'.he.cn (i := m) (o := u2) (by simp [hml]) (j := 3) (by decide) rfl) (hJ'.he.frzg _), { u2 with op := x.ro }, ?_, hJ'.he.nput2 hml (j := 3) (by decide) rfl, (Below.heap_setCell _ _ _ _ (hqb hJ'.he hJ'.bx)).trans hJ'.bx, hJ'.tn.trans (Tn.putg _ _ _ _ _)⟩; rw [hu2]; simp)
              intro g d W hall hW
              first | refine hK _ _ ?_ | refine (‹∀ (a : Act) (w : World), Code.wp Tryz.prog _ _ a w → _›) _ _ ?_ | skip
              simp only [finL, List.getD_cons_zero, List.getD_cons_succ, Nat.zero_add, Nat.reduceAdd, List.setIfInBounds_toArray, List.set_cons_zero, List.set_cons_succ]
              rw [hall 12 (by decide), hall 15 (by decide), hall 18 (by decide), hall 21 (by decide)] at hW
              obtain ⟨u2, hu2, hJ5⟩ := hW
              simp only [if_true] at hu2
              go_end0
              exact lw_yes (by simp only [law1, h2_0, h2_1, h3_0, h3_1, h4_0, h4_1]; rfl) (hu2 ▸ hJ5.he) hJ5.tn
end Go.Proofs.YtgnhainfcfcodaaGreat
