/- audit.ask, close, doubt: what they answer. -/
import Derived.Test.YtgnhainfcfcodaaGreatAub
import Derived.Laws.CopyRow
import Derived.Laws.CopyOwn
namespace Go.Proofs.YtgnhainfcfcodaaGreat
open Go.RowKit Go.Shelf Go.Lib
attribute [local go_sem] Oper.semAt_some

theorem run_store_in {P : Program} (w : World) (g o : Nat) (t ty : TypeId) (cur vs : List Value) (hg : w.heap[g]? = some (.cells cur.toArray t (0, 0))) (hi : (P.info? ty).map (·.size) = some vs.length) (hf : o + vs.length ≤ cur.length) (h1 : ∀ v ∈ vs, v.oneCell' = true) :
    (Instr.storeAt ty (.pointer (some ⟨g, o, none⟩)) (.agg vs.toArray)).run P w = .ok () (w.setRow g (splice cur o vs).toArray) := by
  have := run_storeCells_at P g o t vs 0 cur.toArray w hg (by simpa using hf) h1
  cases hq : P.info? ty with
  | none => simp [hq] at hi
  | some i =>
    have hs : vs.length = i.size := by simp [hq] at hi; omega
    simp only [Nat.add_zero] at this
    simp [Instr.storeAt, Instr.sureAddr, storeVar, sizeOf, typeInfo, hq, Value.cells, hs, this, splice]
theorem wpList_store_in {P : Program} {ops : Array Oper} {rest : List Oper} {o : Oper} {a : Act} {w : World} {Q : Exit → Act → World → Prop} (hgd : o.guard = none) (ty : TypeId) (x y : Operand) (ho : o.op = .store ty x y)
    (g off : Nat) (t : TypeId) (cur vs : List Value) (hx : a.eval x = .pointer (some ⟨g, off, none⟩)) (hy : a.eval y = .agg vs.toArray) (hg : w.heap[g]? = some (.cells cur.toArray t (0, 0))) (hi : (P.info? ty).map (·.size) = some vs.length) (hf : off + vs.length ≤ cur.length) (h1 : ∀ v ∈ vs, v.oneCell' = true)
    (h : wpList P ops Q rest (a.put o.dst undef) (w.setRow g (splice cur off vs).toArray)) : wpList P ops Q (o :: rest) a w :=
  wpList_plain hgd fun K hK => by
    unfold Oper.wp execOp
    simp only [ho, hx, hy, Sem.run_bind, run_store_in w g off t ty cur vs hg hi hf h1, Result.andThen_ok]
    exact hK _ _ h
/-- A row's cells. -/
def rwC (c : Ev) (la : Int) : List Value := [.int .i64 c.k, .int .i64 c.nd, .int .i64 c.li, .int .i64 c.ro, .int .i64 c.ta, .int .i64 c.of, .int .i64 c.du, .int .u32 (wd c.he 0 : Nat), .int .u32 (wd c.he 1 : Nat), .int .u32 (wd c.he 2 : Nat), .int .u32 (wd c.he 3 : Nat), .int .u32 (wd c.un 0 : Nat), .int .u32 (wd c.un 1 : Nat), .int .u32 (wd c.un 2 : Nat), .int .u32 (wd c.un 3 : Nat), .int .i64 la]
theorem rwC_one (c : Ev) (la : Int) : ∀ v ∈ rwC c la, v.oneCell' = true := by
  intro v hv
  simp only [rwC, List.mem_cons, List.not_mem_nil, or_false] at hv
  rcases hv with h | h | h | h | h | h | h | h | h | h | h | h | h | h | h | h <;> subst h <;> rfl
theorem info_rw : (Tryz.prog.info? 95).map (·.size) = some 16 := by kernel_rfl
theorem He.row {W : World} {p b : Nat} {need pl : Int} {s : Hs} (h : He W p b need pl s) (c : Ev) (la : Int) : He (W.setRow p (splice (heC need pl b s.nds.length s.c s.la).toList 3 (rwC c la)).toArray) p b need pl { s with c := c, la := la } :=
  ⟨(setRow_heap W p _ _ _ _ h.box).trans rfl, (setRow_other W p b _ (fun e => h.ne e.symm)).trans h.nod, h.ne⟩
theorem Tn.row (W : World) (p b : Nat) (cs : Array Value) : Tn p (some b) (some b) W (W.setRow p cs) := ⟨rfl, rfl, rfl, by simp [World.setRow], fun k _ h1 _ => setRow_other W p k _ h1, .inl rfl⟩
theorem bld_R0 (w : World) : (Instr.build 95 #[]).run Tryz.prog w = .ok (.agg (rwC e0 0).toArray) w := by kernel_rfl
theorem bld_R1 (x : Ev) (w : World) : (Instr.build 95 #[(0, .agg (ecA x)), (1, .int .i64 (-1))]).run Tryz.prog w = .ok (.agg (rwC x (-1)).toArray) w := by
  unfold ecA
  go_simp
  rfl
theorem load_ev {W : World} {B o : Nat} {x : Ev} (h : ∀ j v, (ecA x)[j]? = some v → W.cell? ⟨B, o + j, none⟩ = some v) : (Instr.loadAt 59 (.pointer (some ⟨B, o, none⟩))).run Tryz.prog W = .ok (.agg (ecA x)) W := by
  have h0 := h 0 (.int .i64 x.k) rfl
  have h1 := h 1 (.int .i64 x.nd) rfl
  have h2 := h 2 (.int .i64 x.li) rfl
  have h3 := h 3 (.int .i64 x.ro) rfl
  have h4 := h 4 (.int .i64 x.ta) rfl
  have h5 := h 5 (.int .i64 x.of) rfl
  have h6 := h 6 (.int .i64 x.du) rfl
  have h7 := h 7 (.int .u32 (wd x.he 0 : Nat)) rfl
  have h8 := h 8 (.int .u32 (wd x.he 1 : Nat)) rfl
  have h9 := h 9 (.int .u32 (wd x.he 2 : Nat)) rfl
  have h10 := h 10 (.int .u32 (wd x.he 3 : Nat)) rfl
  have h11 := h 11 (.int .u32 (wd x.un 0 : Nat)) rfl
  have h12 := h 12 (.int .u32 (wd x.un 1 : Nat)) rfl
  have h13 := h 13 (.int .u32 (wd x.un 2 : Nat)) rfl
  have h14 := h 14 (.int .u32 (wd x.un 3 : Nat)) rfl
  clear h
  rw [Nat.add_zero] at h0
  unfold ecA
  go_simp
theorem load_bx {W : World} {B : Nat} {x : Ev} (h : W.heap[B]? = some (.cells (ecA x) 59 (0, 0))) : (Instr.loadAt 59 (.pointer (some ⟨B, 0, none⟩))).run Tryz.prog W = .ok (.agg (ecA x)) W :=
  load_ev (fun j v hj => by rw [Nat.zero_add, cell_at h, hj])
theorem load_cl {W : World} {p b : Nat} {need pl : Int} {s : Hs} (h : He W p b need pl s) : (Instr.loadAt 59 (.pointer (some ⟨p, 3, none⟩))).run Tryz.prog W = .ok (.agg (ecA s.c)) W :=
  load_ev (fun j v hj => by
    rw [cell_at h.box, ← hj]
    have hjl : j < 15 := by
      have := (Array.getElem?_eq_some_iff.1 hj).1
      simpa [ecA] using this
    match j, hjl with
    | 0, _ => rfl
    | 1, _ => rfl
    | 2, _ => rfl
    | 3, _ => rfl
    | 4, _ => rfl
    | 5, _ => rfl
    | 6, _ => rfl
    | 7, _ => rfl
    | 8, _ => rfl
    | 9, _ => rfl
    | 10, _ => rfl
    | 11, _ => rfl
    | 12, _ => rfl
    | 13, _ => rfl
    | 14, _ => rfl)
set_option maxHeartbeats 4000000 in
set_option maxRecDepth 100000 in
theorem close_any {w : World} {p b : Nat} {need pl : Int} {s : Hs} {m : Nat} {u : Nod} {x : Ev} (h : He w p b need pl s) (hm : s.nds[m]? = some u) (hx : x.nd = (m : Int)) (hhe : x.he < S128) (hun : x.un < S128) : Calls Tryz.prog 99 #[.pointer (some ⟨p, 0, none⟩), evV x] w (Lw p b need pl w (law3 need s x u)) := by
  have hmx : Tryz.prog.follows .mixedOrders = true := by kernel_rfl
  have hml : m < s.nds.length := (List.getElem?_eq_some_iff.1 hm).1
  have hJ0 := JB.new h x
  have HX : Hid (x.nd = (m : Int)) := hx
  clear hx
  unfold evV ecA
  go_enter Tryz.func99, Tryz.ntmps99
  have cp2 : (w.alloc (.cells (ecA x) 59)).cell? ⟨p, 2, none⟩ = some (.slice (some ⟨b, 0, none⟩) s.nds.length s.nds.length) := (cell_at hJ0.he.box 2).trans rfl
  unfold ecA at cp2
  go_wp2
  rename_i hK
  cases h2_0 : (x.ro == u.op) with
  | false =>
    refine wp_region_any hmx ?_
    refine wpAny_dies 13 (fun i__ => ([(.pointer (some ⟨p, 0, none⟩)), (.pointer (some ⟨w.heap.size, 3, none⟩)), (.int .i64 x.ro), (.pointer (some ⟨p, 0, none⟩)), (.pointer (some ⟨p, 0, none⟩)), (.pointer (some ⟨p, 2, none⟩)), (.slice (some ⟨b, 0, none⟩) s.nds.length s.nds.length), (.pointer (some ⟨w.heap.size, 1, none⟩)), (.int .i64 x.nd), (.pointer (some ⟨b, m * 5, none⟩)), (.pointer (some ⟨b, m * 5 + 3, none⟩)), (.int .i64 u.op), (.bool false), undef] : List Value).getD i__ undef) (fun V => JB w p b w.heap.size need pl s x V) rfl (by kernel_rfl) (hJ0.carry (Below.refl _ _).drew) ?_ ?_
    · refine (stepsFrom_cons ?_ (stepsFrom_cons ?_ (stepsFrom_cons ?_ (stepsFrom_cons ?_ (stepsFrom_cons ?_ (stepsFrom_cons ?_ (stepsFrom_cons ?_ (stepsFrom_cons ?_ (stepsFrom_cons ?_ (stepsFrom_cons ?_ (stepsFrom_cons ?_ (stepsFrom_cons ?_ (stepsFrom_cons ?_ trivial)))))))))))))
      · exact step_move rfl trivial _ rfl (by kernel_rfl)
      · exact step_fieldAddr rfl trivial _ _ _ _ rfl rfl (fun w hw => faE3 w _ _)
      · exact step_load rfl trivial _ _ _ rfl rfl (fun w hw => load_in ((cell_at hw.bx 3).trans rfl))
      · exact step_move rfl trivial _ rfl (by kernel_rfl)
      · exact step_nilCheck rfl trivial _ _ _ rfl rfl rfl
      · exact step_fieldAddr rfl trivial _ _ _ _ rfl rfl (fun w hw => faH2 w _ _)
      · exact step_load rfl trivial _ _ _ rfl rfl (fun w hw => load_ns ((cell_at hw.he.box 2).trans rfl))
      · exact step_fieldAddr rfl trivial _ _ _ _ rfl rfl (fun w hw => faE1 w _ _)
      · exact step_load rfl trivial _ _ _ rfl rfl (fun w hw => load_in ((cell_at hw.bx 1).trans rfl))
      · exact step_indexAddr rfl trivial _ _ _ _ _ rfl rfl rfl (fun w hw => by rw [HX.out]; exact idx_n b _ m hml w)
      · exact step_fieldAddr rfl trivial _ _ _ _ rfl rfl (fun w hw => faN3 w _ _)
      · exact step_load rfl trivial _ _ _ rfl rfl (fun w hw => load_in (hw.he.cn hm (by decide) (j := 3) rfl))
      · exact step_binOp rfl trivial _ _ _ _ _ _ _ rfl rfl rfl (fun w hw => by rw [← h2_0]; exact bin_eql _ _ _)
    · intro o ho
      cases ho
      exact call_dies rfl trivial 96 _ _ [(.pointer (some ⟨p, 0, none⟩)), (.bool false)] rfl (by kernel_rfl) (enters_of Tryz.func96 (by kernel_rfl) rfl) (off pl) (J2 := fun V => Tn p (some b) (some b) w V) (fun w hw => (must_no hw.he).mono (by rintro e w' ⟨rfl, rfl⟩; exact ⟨rfl, hw.tn⟩)) (fun a w hd hb => ⟨hd, lw_no (by simp only [law3, h2_0]; rfl) hb⟩)
  | true =>
    refine wp_region_any hmx ?_
    refine wpAny_pure (fun i__ => ([(.pointer (some ⟨p, 0, none⟩)), (.pointer (some ⟨w.heap.size, 3, none⟩)), (.int .i64 x.ro), (.pointer (some ⟨p, 0, none⟩)), (.pointer (some ⟨p, 0, none⟩)), (.pointer (some ⟨p, 2, none⟩)), (.slice (some ⟨b, 0, none⟩) s.nds.length s.nds.length), (.pointer (some ⟨w.heap.size, 1, none⟩)), (.int .i64 x.nd), (.pointer (some ⟨b, m * 5, none⟩)), (.pointer (some ⟨b, m * 5 + 3, none⟩)), (.int .i64 u.op), (.bool true), (.tuple #[])] : List Value).getD i__ undef) (fun V => JB w p b w.heap.size need pl s x V) (by kernel_rfl) (hJ0.carry (Below.refl _ _).drew) ?_ ?_
    · refine (stepsFrom_cons ?_ (stepsFrom_cons ?_ (stepsFrom_cons ?_ (stepsFrom_cons ?_ (stepsFrom_cons ?_ (stepsFrom_cons ?_ (stepsFrom_cons ?_ (stepsFrom_cons ?_ (stepsFrom_cons ?_ (stepsFrom_cons ?_ (stepsFrom_cons ?_ (stepsFrom_cons ?_ (stepsFrom_cons ?_ (stepsFrom_cons ?_ trivial))))))))))))))
      · exact step_move rfl trivial _ rfl (by kernel_rfl)
      · exact step_fieldAddr rfl trivial _ _ _ _ rfl rfl (fun w hw => faE3 w _ _)
      · exact step_load rfl trivial _ _ _ rfl rfl (fun w hw => load_in ((cell_at hw.bx 3).trans rfl))
      · exact step_move rfl trivial _ rfl (by kernel_rfl)
      · exact step_nilCheck rfl trivial _ _ _ rfl rfl rfl
      · exact step_fieldAddr rfl trivial _ _ _ _ rfl rfl (fun w hw => faH2 w _ _)
      · exact step_load rfl trivial _ _ _ rfl rfl (fun w hw => load_ns ((cell_at hw.he.box 2).trans rfl))
      · exact step_fieldAddr rfl trivial _ _ _ _ rfl rfl (fun w hw => faE1 w _ _)
      · exact step_load rfl trivial _ _ _ rfl rfl (fun w hw => load_in ((cell_at hw.bx 1).trans rfl))
      · exact step_indexAddr rfl trivial _ _ _ _ _ rfl rfl rfl (fun w hw => by rw [HX.out]; exact idx_n b _ m hml w)
      · exact step_fieldAddr rfl trivial _ _ _ _ rfl rfl (fun w hw => faN3 w _ _)
      · exact step_load rfl trivial _ _ _ rfl rfl (fun w hw => load_in (hw.he.cn hm (by decide) (j := 3) rfl))
      · exact step_binOp rfl trivial _ _ _ _ _ _ _ rfl rfl rfl (fun w hw => by rw [← h2_0]; exact bin_eql _ _ _)
      · exact step_call rfl trivial 96 _ _ [(.pointer (some ⟨p, 0, none⟩)), (.bool true)] rfl (by kernel_rfl) (enters_of Tryz.func96 (by kernel_rfl) rfl) (fun w hw => (must_yes _ w).mono (by rintro e w' ⟨rfl, rfl⟩; exact ⟨rfl, hw⟩))
    intro W hW
    first | refine hK _ _ ?_ | refine (‹∀ (a : Act) (w : World), Code.wp Tryz.prog _ _ a w → _›) _ _ ?_ | skip
    simp only [finL, List.getD_cons_zero, List.getD_cons_succ, Nat.zero_add, Nat.reduceAdd, List.setIfInBounds_toArray, List.set_cons_zero, List.set_cons_succ]
    obtain ⟨W2, rfl⟩ : ∃ V, V = W := ⟨_, rfl⟩
    have hJ2 := hW
    clear hW hK
    go_wp2
    rename_i hK
    cases h3_0 : wthB x.he (s.nds.length : Int) with
    | false =>
      refine wp_region_any hmx ?_
      refine wpAny_dies 22 (fun i__ => ([(.pointer (some ⟨p, 0, none⟩)), (.pointer (some ⟨w.heap.size, 7, none⟩)), (sv x.he), (.int .i64 (s.nds.length : Int)), (.bool false), (.bool false), undef, undef, undef, undef, undef, undef, undef, undef, (.bool false), (.bool false), undef, undef, undef, undef, undef, (.bool false), undef] : List Value).getD i__ undef) (fun V => JB w p b w.heap.size need pl s x V) rfl (by kernel_rfl) (hJ2.carry (Below.refl _ _).drew) ?_ ?_
      · refine (stepsFrom_cons ?_ (stepsFrom_cons ?_ (stepsFrom_cons ?_ (stepsFrom_cons ?_ (stepsFrom_cons ?_ (stepsFrom_cons ?_ (stepsFrom_cons ?_ (stepsFrom_cons ?_ (stepsFrom_cons ?_ (stepsFrom_cons ?_ (stepsFrom_cons ?_ (stepsFrom_cons ?_ (stepsFrom_cons ?_ (stepsFrom_cons ?_ (stepsFrom_cons ?_ (stepsFrom_cons ?_ (stepsFrom_cons ?_ (stepsFrom_cons ?_ (stepsFrom_cons ?_ (stepsFrom_cons ?_ (stepsFrom_cons ?_ (stepsFrom_cons ?_ trivial))))))))))))))))))))))
        · exact step_move rfl trivial _ rfl (by kernel_rfl)
        · exact step_fieldAddr rfl trivial _ _ _ _ rfl rfl (fun w hw => faE7 w _ _)
        · exact step_load rfl trivial _ _ _ rfl rfl (fun w hw => load_se (N := x.he) ((cell_at hw.bx 7).trans rfl) ((cell_at hw.bx 8).trans rfl) ((cell_at hw.bx 9).trans rfl) ((cell_at hw.bx 10).trans rfl))
        · exact step_move rfl trivial _ rfl (by kernel_rfl)
        · exact step_call rfl trivial 106 _ _ [(sv x.he), (.int .i64 (s.nds.length : Int))] rfl (by kernel_rfl) (enters_of Tryz.func106 (by kernel_rfl) rfl) (fun w hw => (within_any _ (by assumption) _ w).mono (by rintro e w' ⟨rfl, hb⟩; exact ⟨congrArg (fun z => Ending.returned (Value.bool z)) h3_0, hw.carry hb⟩))
        · exact step_move rfl trivial _ rfl (by kernel_rfl)
        · exact step_skip rfl 5 true 29 (.bool false) rfl rfl (by kernel_rfl) (by intro h; cases h) rfl
        · exact step_skip rfl 5 true 29 (.bool false) rfl rfl (by kernel_rfl) (by intro h; cases h) rfl
        · exact step_skip rfl 5 true 29 (.bool false) rfl rfl (by kernel_rfl) (by intro h; cases h) rfl
        · exact step_skip rfl 5 true 29 (.bool false) rfl rfl (by kernel_rfl) (by intro h; cases h) rfl
        · exact step_skip rfl 5 true 29 (.bool false) rfl rfl (by kernel_rfl) (by intro h; cases h) rfl
        · exact step_skip rfl 5 true 29 (.bool false) rfl rfl (by kernel_rfl) (by intro h; cases h) rfl
        · exact step_skip rfl 5 true 29 (.bool false) rfl rfl (by kernel_rfl) (by intro h; cases h) rfl
        · exact step_skip rfl 5 true 29 (.bool false) rfl rfl (by kernel_rfl) (by intro h; cases h) rfl
        · exact step_pick rfl trivial _ _ _ false rfl (by kernel_rfl) (by kernel_rfl)
        · exact step_move rfl trivial _ rfl (by kernel_rfl)
        · exact step_skip rfl 15 true 39 (.bool false) rfl rfl (by kernel_rfl) (by intro h; cases h) rfl
        · exact step_skip rfl 15 true 39 (.bool false) rfl rfl (by kernel_rfl) (by intro h; cases h) rfl
        · exact step_skip rfl 15 true 39 (.bool false) rfl rfl (by kernel_rfl) (by intro h; cases h) rfl
        · exact step_skip rfl 15 true 39 (.bool false) rfl rfl (by kernel_rfl) (by intro h; cases h) rfl
        · exact step_skip rfl 15 true 39 (.bool false) rfl rfl (by kernel_rfl) (by intro h; cases h) rfl
        · exact step_pick rfl trivial _ _ _ false rfl (by kernel_rfl) (by kernel_rfl)
      · intro o ho
        cases ho
        exact call_dies rfl trivial 96 _ _ [(.pointer (some ⟨p, 0, none⟩)), (.bool false)] rfl (by kernel_rfl) (enters_of Tryz.func96 (by kernel_rfl) rfl) (off pl) (J2 := fun V => Tn p (some b) (some b) w V) (fun w hw => (must_no hw.he).mono (by rintro e w' ⟨rfl, rfl⟩; exact ⟨rfl, hw.tn⟩)) (fun a w hd hb => ⟨hd, lw_no (by simp only [law3, h2_0, h3_0]; rfl) hb⟩)
    | true =>
      cases h3_1 : (((cnt (cln x.he) : Nat) : Int) == need) with
      | false =>
        refine wp_region_any hmx ?_
        refine wpAny_dies 22 (fun i__ => ([(.pointer (some ⟨p, 0, none⟩)), (.pointer (some ⟨w.heap.size, 7, none⟩)), (sv x.he), (.int .i64 (s.nds.length : Int)), (.bool true), (.bool true), (.pointer (some ⟨w.heap.size, 7, none⟩)), (sv x.he), (.int .i64 ((cnt (cln x.he) : Nat) : Int)), (.pointer (some ⟨p, 0, none⟩)), (.pointer (some ⟨p, 0, none⟩)), (.pointer (some ⟨p, 0, none⟩)), (.int .i64 need), (.bool false), (.bool false), (.bool false), undef, undef, undef, undef, undef, (.bool false), undef] : List Value).getD i__ undef) (fun V => JB w p b w.heap.size need pl s x V) rfl (by kernel_rfl) (hJ2.carry (Below.refl _ _).drew) ?_ ?_
        · refine (stepsFrom_cons ?_ (stepsFrom_cons ?_ (stepsFrom_cons ?_ (stepsFrom_cons ?_ (stepsFrom_cons ?_ (stepsFrom_cons ?_ (stepsFrom_cons ?_ (stepsFrom_cons ?_ (stepsFrom_cons ?_ (stepsFrom_cons ?_ (stepsFrom_cons ?_ (stepsFrom_cons ?_ (stepsFrom_cons ?_ (stepsFrom_cons ?_ (stepsFrom_cons ?_ (stepsFrom_cons ?_ (stepsFrom_cons ?_ (stepsFrom_cons ?_ (stepsFrom_cons ?_ (stepsFrom_cons ?_ (stepsFrom_cons ?_ (stepsFrom_cons ?_ trivial))))))))))))))))))))))
          · exact step_move rfl trivial _ rfl (by kernel_rfl)
          · exact step_fieldAddr rfl trivial _ _ _ _ rfl rfl (fun w hw => faE7 w _ _)
          · exact step_load rfl trivial _ _ _ rfl rfl (fun w hw => load_se (N := x.he) ((cell_at hw.bx 7).trans rfl) ((cell_at hw.bx 8).trans rfl) ((cell_at hw.bx 9).trans rfl) ((cell_at hw.bx 10).trans rfl))
          · exact step_move rfl trivial _ rfl (by kernel_rfl)
          · exact step_call rfl trivial 106 _ _ [(sv x.he), (.int .i64 (s.nds.length : Int))] rfl (by kernel_rfl) (enters_of Tryz.func106 (by kernel_rfl) rfl) (fun w hw => (within_any _ (by assumption) _ w).mono (by rintro e w' ⟨rfl, hb⟩; exact ⟨congrArg (fun z => Ending.returned (Value.bool z)) h3_0, hw.carry hb⟩))
          · exact step_move rfl trivial _ rfl (by kernel_rfl)
          · exact step_fieldAddr rfl (by exact ⟨_, rfl, by kernel_rfl⟩) _ _ _ _ rfl rfl (fun w hw => faE7 w _ _)
          · exact step_load rfl (by exact ⟨_, rfl, by kernel_rfl⟩) _ _ _ rfl rfl (fun w hw => load_se (N := x.he) ((cell_at hw.bx 7).trans rfl) ((cell_at hw.bx 8).trans rfl) ((cell_at hw.bx 9).trans rfl) ((cell_at hw.bx 10).trans rfl))
          · exact step_call rfl (by exact ⟨_, rfl, by kernel_rfl⟩) 107 _ _ [(sv x.he)] rfl (by kernel_rfl) (enters_of Tryz.func107 (by kernel_rfl) rfl) (fun w hw => (count_any _ w).mono (by rintro e w' ⟨rfl, hb⟩; exact ⟨rfl, hw.carry hb⟩))
          · exact step_move rfl (by exact ⟨_, rfl, by kernel_rfl⟩) _ rfl (by kernel_rfl)
          · exact step_nilCheck rfl (by exact ⟨_, rfl, by kernel_rfl⟩) _ _ _ rfl rfl rfl
          · exact step_fieldAddr rfl (by exact ⟨_, rfl, by kernel_rfl⟩) _ _ _ _ rfl rfl (fun w hw => faH0 w _ _)
          · exact step_load rfl (by exact ⟨_, rfl, by kernel_rfl⟩) _ _ _ rfl rfl (fun w hw => load_in ((cell_at hw.he.box 0).trans rfl))
          · exact step_binOp rfl (by exact ⟨_, rfl, by kernel_rfl⟩) _ _ _ _ _ _ _ rfl rfl rfl (fun w hw => by rw [← h3_1]; exact bin_eql _ _ _)
          · exact step_pick rfl trivial _ _ _ true rfl (by kernel_rfl) (by kernel_rfl)
          · exact step_move rfl trivial _ rfl (by kernel_rfl)
          · exact step_skip rfl 15 true 39 (.bool false) rfl rfl (by kernel_rfl) (by intro h; cases h) rfl
          · exact step_skip rfl 15 true 39 (.bool false) rfl rfl (by kernel_rfl) (by intro h; cases h) rfl
          · exact step_skip rfl 15 true 39 (.bool false) rfl rfl (by kernel_rfl) (by intro h; cases h) rfl
          · exact step_skip rfl 15 true 39 (.bool false) rfl rfl (by kernel_rfl) (by intro h; cases h) rfl
          · exact step_skip rfl 15 true 39 (.bool false) rfl rfl (by kernel_rfl) (by intro h; cases h) rfl
          · exact step_pick rfl trivial _ _ _ false rfl (by kernel_rfl) (by kernel_rfl)
        · intro o ho
          cases ho
          exact call_dies rfl trivial 96 _ _ [(.pointer (some ⟨p, 0, none⟩)), (.bool false)] rfl (by kernel_rfl) (enters_of Tryz.func96 (by kernel_rfl) rfl) (off pl) (J2 := fun V => Tn p (some b) (some b) w V) (fun w hw => (must_no hw.he).mono (by rintro e w' ⟨rfl, rfl⟩; exact ⟨rfl, hw.tn⟩)) (fun a w hd hb => ⟨hd, lw_no (by simp only [law3, h2_0, h3_0, h3_1]; rfl) hb⟩)
      | true =>
        cases h3_2 : hasB x.he x.nd with
        | false =>
          refine wp_region_any hmx ?_
          refine wpAny_dies 22 (fun i__ => ([(.pointer (some ⟨p, 0, none⟩)), (.pointer (some ⟨w.heap.size, 7, none⟩)), (sv x.he), (.int .i64 (s.nds.length : Int)), (.bool true), (.bool true), (.pointer (some ⟨w.heap.size, 7, none⟩)), (sv x.he), (.int .i64 ((cnt (cln x.he) : Nat) : Int)), (.pointer (some ⟨p, 0, none⟩)), (.pointer (some ⟨p, 0, none⟩)), (.pointer (some ⟨p, 0, none⟩)), (.int .i64 need), (.bool true), (.bool true), (.bool true), (.pointer (some ⟨w.heap.size, 7, none⟩)), (sv x.he), (.pointer (some ⟨w.heap.size, 1, none⟩)), (.int .i64 x.nd), (.bool false), (.bool false), undef] : List Value).getD i__ undef) (fun V => JB w p b w.heap.size need pl s x V) rfl (by kernel_rfl) (hJ2.carry (Below.refl _ _).drew) ?_ ?_
          · refine (stepsFrom_cons ?_ (stepsFrom_cons ?_ (stepsFrom_cons ?_ (stepsFrom_cons ?_ (stepsFrom_cons ?_ (stepsFrom_cons ?_ (stepsFrom_cons ?_ (stepsFrom_cons ?_ (stepsFrom_cons ?_ (stepsFrom_cons ?_ (stepsFrom_cons ?_ (stepsFrom_cons ?_ (stepsFrom_cons ?_ (stepsFrom_cons ?_ (stepsFrom_cons ?_ (stepsFrom_cons ?_ (stepsFrom_cons ?_ (stepsFrom_cons ?_ (stepsFrom_cons ?_ (stepsFrom_cons ?_ (stepsFrom_cons ?_ (stepsFrom_cons ?_ trivial))))))))))))))))))))))
            · exact step_move rfl trivial _ rfl (by kernel_rfl)
            · exact step_fieldAddr rfl trivial _ _ _ _ rfl rfl (fun w hw => faE7 w _ _)
            · exact step_load rfl trivial _ _ _ rfl rfl (fun w hw => load_se (N := x.he) ((cell_at hw.bx 7).trans rfl) ((cell_at hw.bx 8).trans rfl) ((cell_at hw.bx 9).trans rfl) ((cell_at hw.bx 10).trans rfl))
            · exact step_move rfl trivial _ rfl (by kernel_rfl)
            · exact step_call rfl trivial 106 _ _ [(sv x.he), (.int .i64 (s.nds.length : Int))] rfl (by kernel_rfl) (enters_of Tryz.func106 (by kernel_rfl) rfl) (fun w hw => (within_any _ (by assumption) _ w).mono (by rintro e w' ⟨rfl, hb⟩; exact ⟨congrArg (fun z => Ending.returned (Value.bool z)) h3_0, hw.carry hb⟩))
            · exact step_move rfl trivial _ rfl (by kernel_rfl)
            · exact step_fieldAddr rfl (by exact ⟨_, rfl, by kernel_rfl⟩) _ _ _ _ rfl rfl (fun w hw => faE7 w _ _)
            · exact step_load rfl (by exact ⟨_, rfl, by kernel_rfl⟩) _ _ _ rfl rfl (fun w hw => load_se (N := x.he) ((cell_at hw.bx 7).trans rfl) ((cell_at hw.bx 8).trans rfl) ((cell_at hw.bx 9).trans rfl) ((cell_at hw.bx 10).trans rfl))
            · exact step_call rfl (by exact ⟨_, rfl, by kernel_rfl⟩) 107 _ _ [(sv x.he)] rfl (by kernel_rfl) (enters_of Tryz.func107 (by kernel_rfl) rfl) (fun w hw => (count_any _ w).mono (by rintro e w' ⟨rfl, hb⟩; exact ⟨rfl, hw.carry hb⟩))
            · exact step_move rfl (by exact ⟨_, rfl, by kernel_rfl⟩) _ rfl (by kernel_rfl)
            · exact step_nilCheck rfl (by exact ⟨_, rfl, by kernel_rfl⟩) _ _ _ rfl rfl rfl
            · exact step_fieldAddr rfl (by exact ⟨_, rfl, by kernel_rfl⟩) _ _ _ _ rfl rfl (fun w hw => faH0 w _ _)
            · exact step_load rfl (by exact ⟨_, rfl, by kernel_rfl⟩) _ _ _ rfl rfl (fun w hw => load_in ((cell_at hw.he.box 0).trans rfl))
            · exact step_binOp rfl (by exact ⟨_, rfl, by kernel_rfl⟩) _ _ _ _ _ _ _ rfl rfl rfl (fun w hw => by rw [← h3_1]; exact bin_eql _ _ _)
            · exact step_pick rfl trivial _ _ _ true rfl (by kernel_rfl) (by kernel_rfl)
            · exact step_move rfl trivial _ rfl (by kernel_rfl)
            · exact step_fieldAddr rfl (by exact ⟨_, rfl, by kernel_rfl⟩) _ _ _ _ rfl rfl (fun w hw => faE7 w _ _)
            · exact step_load rfl (by exact ⟨_, rfl, by kernel_rfl⟩) _ _ _ rfl rfl (fun w hw => load_se (N := x.he) ((cell_at hw.bx 7).trans rfl) ((cell_at hw.bx 8).trans rfl) ((cell_at hw.bx 9).trans rfl) ((cell_at hw.bx 10).trans rfl))
            · exact step_fieldAddr rfl (by exact ⟨_, rfl, by kernel_rfl⟩) _ _ _ _ rfl rfl (fun w hw => faE1 w _ _)
            · exact step_load rfl (by exact ⟨_, rfl, by kernel_rfl⟩) _ _ _ rfl rfl (fun w hw => load_in ((cell_at hw.bx 1).trans rfl))
            · exact step_call rfl (by exact ⟨_, rfl, by kernel_rfl⟩) 108 _ _ [(sv x.he), (.int .i64 x.nd)] rfl (by kernel_rfl) (enters_of Tryz.func108 (by kernel_rfl) rfl) (fun w hw => (has_any _ _ w).mono (by rintro e w' ⟨rfl, hb⟩; exact ⟨congrArg (fun z => Ending.returned (Value.bool z)) h3_2, hw.carry hb⟩))
            · exact step_pick rfl trivial _ _ _ true rfl (by kernel_rfl) (by kernel_rfl)
          · intro o ho
            cases ho
            exact call_dies rfl trivial 96 _ _ [(.pointer (some ⟨p, 0, none⟩)), (.bool false)] rfl (by kernel_rfl) (enters_of Tryz.func96 (by kernel_rfl) rfl) (off pl) (J2 := fun V => Tn p (some b) (some b) w V) (fun w hw => (must_no hw.he).mono (by rintro e w' ⟨rfl, rfl⟩; exact ⟨rfl, hw.tn⟩)) (fun a w hd hb => ⟨hd, lw_no (by simp only [law3, h2_0, h3_0, h3_1, h3_2]; rfl) hb⟩)
        | true =>
          refine wp_region_any hmx ?_
          refine wpAny_pure (fun i__ => ([(.pointer (some ⟨p, 0, none⟩)), (.pointer (some ⟨w.heap.size, 7, none⟩)), (sv x.he), (.int .i64 (s.nds.length : Int)), (.bool true), (.bool true), (.pointer (some ⟨w.heap.size, 7, none⟩)), (sv x.he), (.int .i64 ((cnt (cln x.he) : Nat) : Int)), (.pointer (some ⟨p, 0, none⟩)), (.pointer (some ⟨p, 0, none⟩)), (.pointer (some ⟨p, 0, none⟩)), (.int .i64 need), (.bool true), (.bool true), (.bool true), (.pointer (some ⟨w.heap.size, 7, none⟩)), (sv x.he), (.pointer (some ⟨w.heap.size, 1, none⟩)), (.int .i64 x.nd), (.bool true), (.bool true), (.tuple #[])] : List Value).getD i__ undef) (fun V => JB w p b w.heap.size need pl s x V) (by kernel_rfl) (hJ2.carry (Below.refl _ _).drew) ?_ ?_
          · refine (stepsFrom_cons ?_ (stepsFrom_cons ?_ (stepsFrom_cons ?_ (stepsFrom_cons ?_ (stepsFrom_cons ?_ (stepsFrom_cons ?_ (stepsFrom_cons ?_ (stepsFrom_cons ?_ (stepsFrom_cons ?_ (stepsFrom_cons ?_ (stepsFrom_cons ?_ (stepsFrom_cons ?_ (stepsFrom_cons ?_ (stepsFrom_cons ?_ (stepsFrom_cons ?_ (stepsFrom_cons ?_ (stepsFrom_cons ?_ (stepsFrom_cons ?_ (stepsFrom_cons ?_ (stepsFrom_cons ?_ (stepsFrom_cons ?_ (stepsFrom_cons ?_ (stepsFrom_cons ?_ trivial)))))))))))))))))))))))
            · exact step_move rfl trivial _ rfl (by kernel_rfl)
            · exact step_fieldAddr rfl trivial _ _ _ _ rfl rfl (fun w hw => faE7 w _ _)
            · exact step_load rfl trivial _ _ _ rfl rfl (fun w hw => load_se (N := x.he) ((cell_at hw.bx 7).trans rfl) ((cell_at hw.bx 8).trans rfl) ((cell_at hw.bx 9).trans rfl) ((cell_at hw.bx 10).trans rfl))
            · exact step_move rfl trivial _ rfl (by kernel_rfl)
            · exact step_call rfl trivial 106 _ _ [(sv x.he), (.int .i64 (s.nds.length : Int))] rfl (by kernel_rfl) (enters_of Tryz.func106 (by kernel_rfl) rfl) (fun w hw => (within_any _ (by assumption) _ w).mono (by rintro e w' ⟨rfl, hb⟩; exact ⟨congrArg (fun z => Ending.returned (Value.bool z)) h3_0, hw.carry hb⟩))
            · exact step_move rfl trivial _ rfl (by kernel_rfl)
            · exact step_fieldAddr rfl (by exact ⟨_, rfl, by kernel_rfl⟩) _ _ _ _ rfl rfl (fun w hw => faE7 w _ _)
            · exact step_load rfl (by exact ⟨_, rfl, by kernel_rfl⟩) _ _ _ rfl rfl (fun w hw => load_se (N := x.he) ((cell_at hw.bx 7).trans rfl) ((cell_at hw.bx 8).trans rfl) ((cell_at hw.bx 9).trans rfl) ((cell_at hw.bx 10).trans rfl))
            · exact step_call rfl (by exact ⟨_, rfl, by kernel_rfl⟩) 107 _ _ [(sv x.he)] rfl (by kernel_rfl) (enters_of Tryz.func107 (by kernel_rfl) rfl) (fun w hw => (count_any _ w).mono (by rintro e w' ⟨rfl, hb⟩; exact ⟨rfl, hw.carry hb⟩))
            · exact step_move rfl (by exact ⟨_, rfl, by kernel_rfl⟩) _ rfl (by kernel_rfl)
            · exact step_nilCheck rfl (by exact ⟨_, rfl, by kernel_rfl⟩) _ _ _ rfl rfl rfl
            · exact step_fieldAddr rfl (by exact ⟨_, rfl, by kernel_rfl⟩) _ _ _ _ rfl rfl (fun w hw => faH0 w _ _)
            · exact step_load rfl (by exact ⟨_, rfl, by kernel_rfl⟩) _ _ _ rfl rfl (fun w hw => load_in ((cell_at hw.he.box 0).trans rfl))
            · exact step_binOp rfl (by exact ⟨_, rfl, by kernel_rfl⟩) _ _ _ _ _ _ _ rfl rfl rfl (fun w hw => by rw [← h3_1]; exact bin_eql _ _ _)
            · exact step_pick rfl trivial _ _ _ true rfl (by kernel_rfl) (by kernel_rfl)
            · exact step_move rfl trivial _ rfl (by kernel_rfl)
            · exact step_fieldAddr rfl (by exact ⟨_, rfl, by kernel_rfl⟩) _ _ _ _ rfl rfl (fun w hw => faE7 w _ _)
            · exact step_load rfl (by exact ⟨_, rfl, by kernel_rfl⟩) _ _ _ rfl rfl (fun w hw => load_se (N := x.he) ((cell_at hw.bx 7).trans rfl) ((cell_at hw.bx 8).trans rfl) ((cell_at hw.bx 9).trans rfl) ((cell_at hw.bx 10).trans rfl))
            · exact step_fieldAddr rfl (by exact ⟨_, rfl, by kernel_rfl⟩) _ _ _ _ rfl rfl (fun w hw => faE1 w _ _)
            · exact step_load rfl (by exact ⟨_, rfl, by kernel_rfl⟩) _ _ _ rfl rfl (fun w hw => load_in ((cell_at hw.bx 1).trans rfl))
            · exact step_call rfl (by exact ⟨_, rfl, by kernel_rfl⟩) 108 _ _ [(sv x.he), (.int .i64 x.nd)] rfl (by kernel_rfl) (enters_of Tryz.func108 (by kernel_rfl) rfl) (fun w hw => (has_any _ _ w).mono (by rintro e w' ⟨rfl, hb⟩; exact ⟨congrArg (fun z => Ending.returned (Value.bool z)) h3_2, hw.carry hb⟩))
            · exact step_pick rfl trivial _ _ _ true rfl (by kernel_rfl) (by kernel_rfl)
            · exact step_call rfl trivial 96 _ _ [(.pointer (some ⟨p, 0, none⟩)), (.bool true)] rfl (by kernel_rfl) (enters_of Tryz.func96 (by kernel_rfl) rfl) (fun w hw => (must_yes _ w).mono (by rintro e w' ⟨rfl, rfl⟩; exact ⟨rfl, hw⟩))
          intro W hW
          first | refine hK _ _ ?_ | refine (‹∀ (a : Act) (w : World), Code.wp Tryz.prog _ _ a w → _›) _ _ ?_ | skip
          simp only [finL, List.getD_cons_zero, List.getD_cons_succ, Nat.zero_add, Nat.reduceAdd, List.setIfInBounds_toArray, List.set_cons_zero, List.set_cons_succ]
          obtain ⟨W3, rfl⟩ : ∃ V, V = W := ⟨_, rfl⟩
          have hJ3 := hW
          clear hW hK
          obtain ⟨c7, c8, c9, c10, c11, c12, c13, c14⟩ := bx_sets hJ3.bx
          have hwi := within_any x.un hun (s.nds.length : Int)
          have hsu := subset_any x.he x.un
          unfold sv at hwi hsu
          cases h4_0 : wthB x.un (s.nds.length : Int) with
          | false =>
            rw [h4_0] at hwi
            go_wp2_with (first | (go_at_call 106; (with_reducible refine (hwi _).mono ?_); rintro e u1 ⟨rfl, hu1⟩; have hJ4 := hJ3.carry hu1; obtain ⟨d7, d8, d9, d10, d11, d12, d13, d14⟩ := bx_sets hJ4.bx) | (go_at_call 109; (with_reducible refine (hsu _).mono ?_); rintro e u2 ⟨rfl, hu2⟩; have hJ5 := hJ4.carry hu2) | (go_at_call 96; (with_reducible refine (must_no hJ4.he).mono ?_); rintro e u3 ⟨rfl, hu3⟩; obtain rfl := hu3.symm))
            exact ⟨rfl, lw_no (by simp only [law3, h2_0, h3_0, h3_1, h3_2, h4_0]; rfl) hJ4.tn⟩
          | true =>
            rw [h4_0] at hwi
            cases h4_1 : decide (cln (dif x.he x.un) = 0) with
            | false =>
              rw [h4_1] at hsu
              go_wp2_with (first | (go_at_call 106; (with_reducible refine (hwi _).mono ?_); rintro e u1 ⟨rfl, hu1⟩; have hJ4 := hJ3.carry hu1; obtain ⟨d7, d8, d9, d10, d11, d12, d13, d14⟩ := bx_sets hJ4.bx) | (go_at_call 109; (with_reducible refine (hsu _).mono ?_); rintro e u2 ⟨rfl, hu2⟩; have hJ5 := hJ4.carry hu2) | (go_at_call 96; (with_reducible refine (must_no hJ5.he).mono ?_); rintro e u3 ⟨rfl, hu3⟩; obtain rfl := hu3.symm))
              exact ⟨rfl, lw_no (by simp only [law3, h2_0, h3_0, h3_1, h3_2, h4_0, h4_1]; rfl) hJ5.tn⟩
            | true =>
              rw [h4_1] at hsu
              go_wp2_with (first | (go_at_call 106; (with_reducible refine (hwi _).mono ?_); rintro e u1 ⟨rfl, hu1⟩; have hJ4 := hJ3.carry hu1; obtain ⟨d7, d8, d9, d10, d11, d12, d13, d14⟩ := bx_sets hJ4.bx) | (go_at_call 109; (with_reducible refine (hsu _).mono ?_); rintro e u2 ⟨rfl, hu2⟩; have hJ5 := hJ4.carry hu2) | (refine wpList_store_in rfl 95 (.tmp 64) (.tmp 62) rfl p 3 97 (heC need pl b s.nds.length s.c s.la).toList (rwC x (-1)) rfl rfl hJ5.he.box info_rw (Nat.le_refl 19) (rwC_one _ _) ?_) | (go_at_call 96; (with_reducible refine (must_yes _ _).mono ?_); rintro e u3 ⟨rfl, hu3⟩; obtain rfl := hu3.symm; obtain ⟨i0, i1, i2, i3, i4, i5, i6⟩ := bx_ints hJ5.bx; obtain ⟨e7, e8, e9, e10, e11, e12, e13, e14⟩ := bx_sets hJ5.bx))
              go_end0
              exact lw_yes (by simp only [law3, h2_0, h3_0, h3_1, h3_2, h4_0, h4_1]; rfl) (hJ5.he.row x (-1)) (hJ5.tn.trans (Tn.row _ _ _ _))
end Go.Proofs.YtgnhainfcfcodaaGreat
