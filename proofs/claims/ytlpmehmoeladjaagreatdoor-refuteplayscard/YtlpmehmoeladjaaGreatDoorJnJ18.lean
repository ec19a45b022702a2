/- A call in a region whose answer is found out on the way. For every program. -/
import Derived.Test.YtlpmehmoeladjaaGreatDoorJnJ1
import Derived.Test.YtlpmehmoeladjaaGreatDoorJnJ17
import Derived.Test.YtlpmehmoeladjaaGreatDoorBin
namespace Go.Proofs.YtlpmehmoeladjaaGreatDoor
open Go.RowKit
/-- A call whose answer is found out on the way. -/
theorem stepG_call {G : Type} {P : Program} {md : Region.Mode} {ops : Array Oper} {Q : Exit → Act → World → Prop} {X0 : Array Value} {val : G → Nat → Value} {J : G → (Nat → Bool) → World → Prop} {i : Nat} {o : Oper}
    (hi : ops[i]? = some o) (hg : ∀ g, GOk md ops X0 (val g) i o) (f : FuncId) (xs : Array Operand) (ts : Array TypeId) (vs : G → List Value) (ho : o.op = .call { callee := .value (.func f), args := xs, argTypes := ts })
    (hx : ∀ g, xs.toList.map (rdo md ops X0 (val g) i o) = (vs g).map some) (hen : ∀ args w, (callFunc f args).run P w = .ok (.enter f args) w)
    (hc : ∀ g d w, J g d w → d i = false → (∀ j, bindsOn md o j = true → d j = true) → (∀ j oj, ops[j]? = some oj → d j = true → ∀ k, bindsOn md oj k = true → d k = true) → Calls P f (vs g).toArray w fun e w' => ∃ g', e = .returned (val g' i) ∧ (∀ j, d j = true → val g' j = val g j) ∧ J g' (fun j => if j = i then true else d j) w') : StepG P md ops Q X0 val J i o := by
  intro g d a w hJ hun hdep hcl hS
  unfold wpOp
  rw [hi]
  have hS' : Seen md ops X0 (val g) i o a := hS
  simp only [wanted_of hS' (hg g), if_true]
  refine .inl ?_
  unfold Oper.wp execOp
  have e : xs.map a.eval = (vs g).toArray := by
    apply Array.toList_inj.1
    rw [Array.toList_map]
    exact hS'.evals _ _ (hx g)
  have e2 : a.eval (.func f) = .func (.func f) #[] #[] := rfl
  simp only [ho, resolve, e, e2, Deferred.ofValue, Sem.run_bind, Sem.run_pure, Result.andThen_ok, invoke, Array.empty_append, Array.append_empty, hen, Oper.upon_enter]
  refine (hc g d w hJ hun hdep hcl).mono ?_
  rintro e' w' ⟨g', rfl, h1, h2⟩
  exact ⟨g', h1, rfl, h2⟩
end Go.Proofs.YtlpmehmoeladjaaGreatDoor
namespace Go.Proofs.YtlpmehmoeladjaaGreatDoor
open Go.RowKit Go.Shelf Go.Lib

theorem stepG_struct3 {G : Type} {P : Program} {md : Region.Mode} {ops : Array Oper} {Q : Exit → Act → World → Prop} {X0 : Array Value} {val : G → Nat → Value} {J : G → (Nat → Bool) → World → Prop} {i : Nat} {o : Oper} (hi : ops[i]? = some o) (hg : o.guard = none) (t : TypeId) (x0 x1 x2 : Operand) (v0 v1 v2 : G → Value) (ho : o.op = .build t #[(0, x0), (1, x1), (2, x2)]) (hx : ∀ g, rdo md ops X0 (val g) i o x0 = some (v0 g) ∧ rdo md ops X0 (val g) i o x1 = some (v1 g) ∧ rdo md ops X0 (val g) i o x2 = some (v2 g))
    (h : ∀ g d w, J g d w → d i = false → (Instr.build t #[(0, v0 g), (1, v1 g), (2, v2 g)]).run P w = .ok (val g i) w ∧ J g (fun j => if j = i then true else d j) w) : StepG P md ops Q X0 val J i o := by
  intro g d a w hJ hun hdep hcl hS
  have hS' : Seen md ops X0 (val g) i o a := hS
  obtain ⟨h1, h3⟩ := h g d w hJ hun
  obtain ⟨q0, q1, q2⟩ := hx g
  unfold wpOp
  rw [hi]
  simp only [Region.wanted, hg, if_true]
  refine .inl ?_
  unfold Oper.wp execOp
  simp only [ho, List.map_toArray, List.map_cons, List.map_nil, hS'.eval q0, hS'.eval q1, hS'.eval q2, Sem.run_bind, h1, Result.andThen_ok, Sem.run_pure, Oper.upon_value]
  exact ⟨g, fun _ _ => rfl, rfl, h3⟩
theorem build_R (a b c : Int) (w : World) : (Instr.build 35 #[(0, .int .i64 a), (1, .int .i64 b), (2, .int .i64 c)]).run Tryz.prog w = .ok (.agg #[.int .i64 a, .int .i64 b, .int .i64 c]) w := by kernel_rfl
/-- A record in a box, the result's cells behind it. -/
def JO (w : World) (A C : Array Value) (V : World) : Prop := V.heap[w.heap.size]? = some (.cells A 35 (0, 0)) ∧ V.heap[w.heap.size + 1]? = some (.cells C 35 (0, 0)) ∧ Below w.heap.size w V
section
variable {w V V' : World} {A C : Array Value}
theorem JO.drew (h : JO w A C V) : JO w A C V.drew := ⟨h.1, h.2.1, h.2.2.drew⟩
theorem JO.put (h : JO w A C V) (D : Array Value) : JO w A D (V.setRow (w.heap.size + 1) D) := ⟨(setRow_other _ _ _ _ (by omega)).trans h.1, setRow_heap _ _ _ _ _ _ h.2.1, below_setRow h.2.2 (by omega) _⟩
theorem JO.set (h : JO w A C V) (k : Nat) (x : Value) : JO w (A.setIfInBounds k x) C (V.setCell ⟨w.heap.size, k, none⟩ x) :=
  ⟨heap_setCell_same _ _ _ _ _ _ h.1, (Below.heap_setCell _ _ _ _ (show w.heap.size + 1 ≠ w.heap.size by omega)).trans h.2.1, h.2.2.setCell (p := ⟨w.heap.size, k, none⟩) (Nat.le_refl _) _⟩
end
theorem field_R (W : World) (B : Nat) : (Instr.fieldAt 35 (.pointer (some ⟨B, 0, none⟩)) 0).run Tryz.prog W = .ok (.pointer (some ⟨B, 0, none⟩)) W ∧ (Instr.fieldAt 35 (.pointer (some ⟨B, 0, none⟩)) 1).run Tryz.prog W = .ok (.pointer (some ⟨B, 1, none⟩)) W ∧ (Instr.fieldAt 35 (.pointer (some ⟨B, 0, none⟩)) 2).run Tryz.prog W = .ok (.pointer (some ⟨B, 2, none⟩)) W := by
  refine ⟨?_, ?_, ?_⟩ <;> go_simp
def z3A : Array Value := #[.int .i64 0, .int .i64 0, .int .i64 0]
/-- The record of the next life. -/
def nxL (r : Rec) : Rec := ⟨r.li + 1, bR r.ro, bT r.ta⟩
set_option maxHeartbeats 4000000 in
set_option maxRecDepth 100000 in
theorem open1_any (r : Rec) (hr : 0 ≤ r.li ∧ r.li ≤ 1073741824 ∧ 0 ≤ r.ro ∧ r.ro ≤ 1099511627775 ∧ 0 ≤ r.ta ∧ r.ta ≤ 1048576) (w : World) : Calls Tryz.prog 27 #[rV r] w fun e w' => e = .returned (rV (nxL r)) ∧ Below w.heap.size w w' := by
  have hmx : Tryz.prog.follows .mixedOrders = true := by kernel_rfl
  obtain ⟨a, b, c⟩ := r
  unfold rV nxL
  dsimp only at hr ⊢
  have hw := i64_id (a + 1) (by omega) (by omega)
  obtain ⟨w2, hw2⟩ : ∃ w2, (w.alloc (.cells #[.int .i64 a, .int .i64 b, .int .i64 c] 35)).alloc (.cells #[.int .i64 0, .int .i64 0, .int .i64 0] 35) = w2 := ⟨_, rfl⟩
  have hj : JO w #[.int .i64 a, .int .i64 b, .int .i64 c] z3A w2 := by rw [← hw2]; exact ⟨old_at (new_at rfl), new_at (by simp), bel2Z (al1' _ _) (al1' _ _)⟩
  go_enter Tryz.func27, Tryz.ntmps27
  go_wp2
  rename_i hK
  refine wp_region_any hmx ?_
  refine wpAny_tabG (G := Unit) (fun g i__ => ([(.pointer (some ⟨w.heap.size, 0, none⟩)), (.int .i64 a), (.int .i64 (a + 1)), (.pointer (some ⟨w.heap.size, 1, none⟩)), (.int .i64 b), (.int .i64 (bR b)), (.pointer (some ⟨w.heap.size, 2, none⟩)), (.int .i64 c), (.int .i64 (bT c)), (.agg #[.int .i64 (a + 1), .int .i64 (bR b), .int .i64 (bT c)]), undef] : List Value).getD i__ undef) (fun g d V => JO w #[.int .i64 a, .int .i64 b, .int .i64 c] (if d 10 = true then #[.int .i64 (a + 1), .int .i64 (bR b), .int .i64 (bT c)] else z3A) V) (by kernel_rfl) (()) (show JO w _ z3A _ from hj.drew) ?step1 ?fin1
  case step1 =>
    intro i o ho
    have hi : i < 11 := getElem?_lt ho
    match i, hi, ho with
    | 0, _, ho =>
      cases ho
      refine stepG_of (fun g d hdep => ?_)
      exact step_fieldAddr rfl trivial _ _ _ _ rfl rfl (fun v hw => (field_R v _).1)
    | 1, _, ho =>
      cases ho
      refine stepG_of (fun g d hdep => ?_)
      exact step_load rfl trivial _ _ _ rfl rfl (fun v hw => load_i64 (by rw [cell_at hw.1]; rfl))
    | 2, _, ho =>
      cases ho
      refine stepG_of (fun g d hdep => ?_)
      exact step_binOp rfl trivial _ _ _ _ _ _ _ rfl rfl rfl (fun v hw2 => bin_add64 _ _ _ hw)
    | 3, _, ho =>
      cases ho
      refine stepG_of (fun g d hdep => ?_)
      exact step_fieldAddr rfl trivial _ _ _ _ rfl rfl (fun v hw => (field_R v _).2.1)
    | 4, _, ho =>
      cases ho
      refine stepG_of (fun g d hdep => ?_)
      exact step_load rfl trivial _ _ _ rfl rfl (fun v hw => load_i64 (by rw [cell_at hw.1]; rfl))
    | 5, _, ho =>
      cases ho
      refine stepG_of (fun g d hdep => ?_)
      exact step_call rfl trivial 28 _ _ [(.int .i64 b)] rfl (by kernel_rfl) (enters_of Tryz.func28 (by kernel_rfl) rfl) (fun v hw => (rounds_any b (by omega) (by omega) v).mono (by rintro e w' ⟨rfl, rfl⟩; exact ⟨rfl, hw⟩))
    | 6, _, ho =>
      cases ho
      refine stepG_of (fun g d hdep => ?_)
      exact step_fieldAddr rfl trivial _ _ _ _ rfl rfl (fun v hw => (field_R v _).2.2)
    | 7, _, ho =>
      cases ho
      refine stepG_of (fun g d hdep => ?_)
      exact step_load rfl trivial _ _ _ rfl rfl (fun v hw => load_i64 (by rw [cell_at hw.1]; rfl))
    | 8, _, ho =>
      cases ho
      refine stepG_of (fun g d hdep => ?_)
      exact step_call rfl trivial 29 _ _ [(.int .i64 c)] rfl (by kernel_rfl) (enters_of Tryz.func29 (by kernel_rfl) rfl) (fun v hw => (tags_any c (by omega) (by omega) v).mono (by rintro e w' ⟨rfl, rfl⟩; exact ⟨rfl, hw⟩))
    | 9, _, ho =>
      cases ho
      exact stepG_struct3 rfl rfl _ _ _ _ (fun g => .int .i64 (a + 1)) (fun g => .int .i64 (bR b)) (fun g => .int .i64 (bT c)) rfl (fun g => ⟨rfl, rfl, rfl⟩) (fun g d V hJ hun => ⟨build_R _ _ _ V, hJ⟩)
    | 10, _, ho =>
      cases ho
      refine stepG_of (fun g d hdep => ?_)
      exact step_store rfl trivial rfl _ _ _ _ _ rfl rfl rfl (fun v hw => ⟨_, store_rec hw.2.1 (by split <;> rfl), hw.put _⟩)
  intro g d W hall hW
  first | refine hK _ _ ?_ | refine (‹∀ (a : Act) (w : World), Code.wp Tryz.prog _ _ a w → _›) _ _ ?_ | skip
  simp only [finL, List.getD_cons_zero, List.getD_cons_succ, Nat.zero_add, Nat.reduceAdd, List.setIfInBounds_toArray, List.set_cons_zero, List.set_cons_succ]
  rw [if_pos (hall 10 (by decide))] at hW
  clear hK
  go_wp2
  (try simp only [Exit.inBlock, Exit.then])
  refine bodyPost_ret (results_cell_row rfl _ _ (w.heap.size + 1) _ _ (0, 0) _ rfl hW.2.1 undR rfl infoR) rfl ?_
  exact ⟨rfl, hW.2.2⟩
set_option maxHeartbeats 4000000 in
set_option maxRecDepth 100000 in
theorem raise1_any (r : Rec) {bx : Nat} {t : Int} {w : World} (hx : w.heap[bx]? = some (.cells #[.int .i64 t] 3 (0, 0))) (hr : 0 ≤ t ∧ t ≤ 1048576) : Calls Tryz.prog 84 #[rV r, .pointer (some ⟨bx, 0, none⟩)] w fun e w' => e = .returned (rV ⟨r.li, r.ro, bT (t - 1)⟩) ∧ Below w.heap.size w w' := by
  obtain ⟨x, y, z⟩ := r
  unfold rV
  dsimp only
  obtain ⟨w2, hw2⟩ : ∃ w2, (w.alloc (.cells #[.int .i64 x, .int .i64 y, .int .i64 z] 35)).alloc (.cells #[.int .i64 0, .int .i64 0, .int .i64 0] 35) = w2 := ⟨_, rfl⟩
  have hj : JO w #[.int .i64 x, .int .i64 y, .int .i64 z] z3A w2 := by rw [← hw2]; exact ⟨old_at (new_at rfl), new_at (by simp), bel2Z (al1' _ _) (al1' _ _)⟩
  have cx := cell_at ((hj.2.2.block _ (lt_at hx)).trans hx) 0
  simp at cx
  have hwi := i64_id (t - 1) (by omega) (by omega)
  have hro := tags_any (t - 1) (by omega) (by omega) w2
  have c1 : w2.cell? ⟨w.heap.size, 2, none⟩ = some (.int .i64 z) := by rw [cell_at hj.1]; rfl
  have t1 := thaw_at hj.1 2
  obtain ⟨w3, hw3⟩ : ∃ w3, w2.setCell ⟨w.heap.size, 2, none⟩ (.int .i64 (bT (t - 1))) = w3 := ⟨_, rfl⟩
  have hj3 : JO w #[.int .i64 x, .int .i64 y, .int .i64 (bT (t - 1))] z3A w3 := by
    have := hj.set 2 (.int .i64 (bT (t - 1)))
    rw [hw3] at this
    exact this
  obtain ⟨R, hR⟩ : ∃ R, bT (t - 1) = R := ⟨_, rfl⟩
  rw [hR] at hro hw3 hj3 ⊢
  clear hR
  go_enter Tryz.func84, Tryz.ntmps84
  go_wp2_with (first | (go_at_call 29; (with_reducible refine hro.mono ?_); rintro e u ⟨rfl, hu⟩; obtain rfl := hu.symm) | (refine wpList_load_row rfl 35 (.tmp 2) rfl w.heap.size rfl 35 _ (0, 0) _ hj3.1 undR rfl infoR ?_) | (refine wpList_store_row rfl 35 (.tmp 3) (.tmp 8) rfl (w.heap.size + 1) #[.int .i64 x, .int .i64 y, .int .i64 R] rfl rfl 35 _ hj3.2.1 infoR rfl (by simp [Value.oneCell']) ?_; obtain ⟨v, hv⟩ : ∃ v, w3.setRow (w.heap.size + 1) #[.int .i64 x, .int .i64 y, .int .i64 R] = v := ⟨_, rfl⟩; have HJ : Hid (JO w #[.int .i64 x, .int .i64 y, .int .i64 R] #[.int .i64 x, .int .i64 y, .int .i64 R] v) := (by rw [← hv]; exact hj3.put _); rw [hv]))
  (try simp only [Exit.inBlock, Exit.then])
  refine bodyPost_ret (results_cell_row rfl _ _ (w.heap.size + 1) _ _ (0, 0) _ rfl HJ.out.2.1 undR rfl infoR) rfl ?_
  exact ⟨rfl, HJ.out.2.2⟩
end Go.Proofs.YtlpmehmoeladjaaGreatDoor
namespace Go.Proofs.YtlpmehmoeladjaaGreatDoor
open Go.RowKit

theorem neqK_f {P : Program} {t : TypeId} {x y : Operand} {w : World} (k : IntKind) (a : Int) : binRun P .neq t x y (.int k a) (.int k a) w = .ok (.bool false) w := by simp [binRun, go_sem]
theorem neqK_t {P : Program} {t : TypeId} {x y : Operand} {w : World} {k : IntKind} {a b : Int} (h : ¬ a = b) : binRun P .neq t x y (.int k a) (.int k b) w = .ok (.bool true) w := by simp [binRun, go_sem, h]
end Go.Proofs.YtlpmehmoeladjaaGreatDoor
