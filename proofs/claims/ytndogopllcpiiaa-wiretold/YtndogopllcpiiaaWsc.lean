/- The notes' Notices, apart and twin: what they answer. -/
import Derived.Test.YtndogopllcpiiaaWsb
namespace Go.Proofs.Ytndogopllcpiiaa
open Go.RowKit Go.Shelf

theorem retQ {f : Func} {q : Tmp} {R : Ending → World → Prop} {a : Act} {w : World} {b : Nat} {v0 v1 v2 : Value} (hres : f.results = #[.cell q 47]) (hp : a.tmps.getD q undef = .pointer (some ⟨b, 0, none⟩)) (hd : a.defers = []) (h : w.heap[b]? = some (.cells #[v0, v1, v2] 47 (0, 0))) (hR : R (.returned (.agg #[v0, v1, v2])) w) : bodyPost Try.prog f R .ret a w :=
  bodyPost_ret (results_cell_row hres a.tmps w b _ _ (0, 0) _ hp h Try.underlying47 rfl (by kernel_rfl)) hd hR
theorem noticesQ_any (f r : Int) (ad : Option Addr) (cap : Nat) (l : List (Int × Int × Int)) (w : World) (h : RdN w ad l) (hl : l.length ≤ 5000000000000) : Calls Try.prog 50 #[.agg #[.int .i64 f, .int .i64 r, .slice ad l.length cap]] w fun e w' => ∃ a c, e = .returned (.slice a l.length c) ∧ w'.ownsRow w.heap.size 82 3 (.slice a l.length c) l.length (fl l) ∧ Below w.heap.size w w' := by
  have hb0 := al1' w (.cells #[.int .i64 f, .int .i64 r, .slice ad l.length cap] 47)
  have hcl := clone_any ad cap l _ (h.carry hb0) hl
  go_enter Try.func50, Try.ntmps50
  go_wp2_with (go_at_call 70; (with_reducible refine hcl.mono ?_); rintro e u1 ⟨a, c, rfl, ho, hb1⟩)
  go_ret
  exact ⟨a, c, rfl, ownsRow_base ho hb0.size, bel2 hb0 hb1⟩
set_option maxHeartbeats 1000000 in
set_option maxRecDepth 100000 in
theorem apartQ_any (f r : Int) (ad : Option Addr) (cap : Nat) (l : List (Int × Int × Int)) (w : World) (h : RdN w ad l) (hl : l.length ≤ 5000000000000) : Calls Try.prog 35 #[.agg #[.int .i64 f, .int .i64 r, .slice ad l.length cap]] w fun e w' => ∃ a c, e = .returned (.agg #[.int .i64 f, .int .i64 r, .slice a l.length c]) ∧ w'.ownsRow w.heap.size 82 3 (.slice a l.length c) l.length (fl l) ∧ Below w.heap.size w w' := by
  have hb0 := al2x w (.cells #[.int .i64 f, .int .i64 r, .slice ad l.length cap] 47) (.cells #[.int .i64 0, .int .i64 0, .slice none 0 0] 47)
  have hnt := noticesQ_any f r ad cap l _ (h.carry hb0) hl
  have hB : ((w.alloc (.cells #[.int .i64 f, .int .i64 r, .slice ad l.length cap] 47)).alloc (.cells #[.int .i64 0, .int .i64 0, .slice none 0 0] 47)).heap[w.heap.size]? = some (.cells #[.int .i64 f, .int .i64 r, .slice ad l.length cap] 47 (0, 0)) := old_at (new_at rfl)
  have hR : ((w.alloc (.cells #[.int .i64 f, .int .i64 r, .slice ad l.length cap] 47)).alloc (.cells #[.int .i64 0, .int .i64 0, .slice none 0 0] 47)).heap[w.heap.size + 1]? = some (.cells #[.int .i64 0, .int .i64 0, .slice none 0 0] 47 (0, 0)) := new_at (by simp)
  go_enter Try.func35, Try.ntmps35
  go_wp2_with (go_at_call 50; (with_reducible refine hnt.mono ?_); rintro e u1 ⟨a, c, rfl, ho, hb1⟩; have hB1 := (hb1.block _ (lt_at hB)).trans hB; have hR1 := (hb1.block _ (lt_at hR)).trans hR; have b0 := cell_at hB1 0; have r0 := cell_at hR1 0; have y0 := thaw_at hB1 0; have z0 := thaw_at hR1 0; have b1 := cell_at hB1 1; have r1 := cell_at hR1 1; have y1 := thaw_at hB1 1; have z1 := thaw_at hR1 1; have b2 := cell_at hB1 2; have r2 := cell_at hR1 2; have y2 := thaw_at hB1 2; have z2 := thaw_at hR1 2; simp at b0 r0 b1 r1 b2 r2)
  have hw1 : Below w.heap.size w u1 := bel2 hb0 hb1
  have hR2 := (Below.heap_setCell u1 ⟨w.heap.size, 2, none⟩ (.slice a l.length c) (w.heap.size + 1) (by simp)).trans hR1
  have ho := ownsRow_base ho (show w.heap.size + 2 ≤ _ by simp)
  exact retQ rfl rfl rfl ((set_get 2 _ (set_get 1 _ (set_get 0 _ hR2))).trans (by simp)) ⟨a, c, rfl, ownsRow_base (ownsRow_setCell_below (ownsRow_setCell_below (ownsRow_setCell_below (ownsRow_setCell_below ho (a := ⟨w.heap.size, 2, none⟩) (by simp) _) (a := ⟨w.heap.size + 1, 0, none⟩) (by simp) _) (a := ⟨w.heap.size + 1, 1, none⟩) (by simp) _) (a := ⟨w.heap.size + 1, 2, none⟩) (by simp) _) (by omega), ((((hw1.setCell (p := ⟨w.heap.size, 2, none⟩) (by simp) _).setCell (p := ⟨w.heap.size + 1, 0, none⟩) (by simp) _).setCell (p := ⟨w.heap.size + 1, 1, none⟩) (by simp) _).setCell (p := ⟨w.heap.size + 1, 2, none⟩) (by simp) _)⟩
theorem invQ_twin (v : Value) (w : World) : (method 226 47 v "earshot/wire.twin").run Try.prog w = .ok (96, v) w := by kernel_rfl
theorem twinQ_any (f r : Int) (ad : Option Addr) (cap : Nat) (l : List (Int × Int × Int)) (w : World) (h : RdN w ad l) (hl : l.length ≤ 5000000000000) : Calls Try.prog 96 #[.agg #[.int .i64 f, .int .i64 r, .slice ad l.length cap]] w fun e w' => ∃ a c, e = .returned (.iface 47 (.agg #[.int .i64 f, .int .i64 r, .slice a l.length c])) ∧ w'.ownsRow w.heap.size 82 3 (.slice a l.length c) l.length (fl l) ∧ Below w.heap.size w w' := by
  have hb0 := al1' w (.cells #[.int .i64 f, .int .i64 r, .slice ad l.length cap] 47)
  have hap := apartQ_any f r ad cap l _ (h.carry hb0) hl
  go_enter Try.func96, Try.ntmps96
  go_wp2_with (go_at_call 35; (with_reducible refine hap.mono ?_); rintro e u1 ⟨a, c, rfl, ho, hb1⟩)
  go_ret
  exact ⟨a, c, rfl, ownsRow_base ho hb0.size, bel2 hb0 hb1⟩
theorem retP {f : Func} {q : Tmp} {R : Ending → World → Prop} {a : Act} {w : World} {b : Nat} {v0 v1 v2 v3 v4 v5 v6 : Value} (hres : f.results = #[.cell q 50]) (hp : a.tmps.getD q undef = .pointer (some ⟨b, 0, none⟩)) (hd : a.defers = []) (h : w.heap[b]? = some (.cells #[v0, v1, v2, v3, v4, v5, v6] 50 (0, 0))) (hR : R (.returned (.agg #[v0, v1, v2, v3, v4, v5, v6])) w) : bodyPost Try.prog f R .ret a w :=
  bodyPost_ret (results_cell_row hres a.tmps w b _ _ (0, 0) _ hp h Try.underlying50 rfl (by kernel_rfl)) hd hR
theorem noticesP_any (f r x0 x1 x2 x3 : Int) (ad : Option Addr) (cap : Nat) (l : List (Int × Int × Int)) (w : World) (h : RdN w ad l) (hl : l.length ≤ 5000000000000) : Calls Try.prog 51 #[.agg #[.int .i64 f, .int .i64 r, .int .u32 x0, .int .u32 x1, .int .u32 x2, .int .u32 x3, .slice ad l.length cap]] w fun e w' => ∃ a c, e = .returned (.slice a l.length c) ∧ w'.ownsRow w.heap.size 82 3 (.slice a l.length c) l.length (fl l) ∧ Below w.heap.size w w' := by
  have hb0 := al1' w (.cells #[.int .i64 f, .int .i64 r, .int .u32 x0, .int .u32 x1, .int .u32 x2, .int .u32 x3, .slice ad l.length cap] 50)
  have hcl := clone_any ad cap l _ (h.carry hb0) hl
  go_enter Try.func51, Try.ntmps51
  go_wp2_with (go_at_call 70; (with_reducible refine hcl.mono ?_); rintro e u1 ⟨a, c, rfl, ho, hb1⟩)
  go_ret
  exact ⟨a, c, rfl, ownsRow_base ho hb0.size, bel2 hb0 hb1⟩
set_option maxHeartbeats 1000000 in
set_option maxRecDepth 100000 in
theorem apartP_any (f r x0 x1 x2 x3 : Int) (ad : Option Addr) (cap : Nat) (l : List (Int × Int × Int)) (w : World) (h : RdN w ad l) (hl : l.length ≤ 5000000000000) : Calls Try.prog 36 #[.agg #[.int .i64 f, .int .i64 r, .int .u32 x0, .int .u32 x1, .int .u32 x2, .int .u32 x3, .slice ad l.length cap]] w fun e w' => ∃ a c, e = .returned (.agg #[.int .i64 f, .int .i64 r, .int .u32 x0, .int .u32 x1, .int .u32 x2, .int .u32 x3, .slice a l.length c]) ∧ w'.ownsRow w.heap.size 82 3 (.slice a l.length c) l.length (fl l) ∧ Below w.heap.size w w' := by
  have hb0 := al2x w (.cells #[.int .i64 f, .int .i64 r, .int .u32 x0, .int .u32 x1, .int .u32 x2, .int .u32 x3, .slice ad l.length cap] 50) (.cells #[.int .i64 0, .int .i64 0, .int .u32 0, .int .u32 0, .int .u32 0, .int .u32 0, .slice none 0 0] 50)
  have hnt := noticesP_any f r x0 x1 x2 x3 ad cap l _ (h.carry hb0) hl
  have hB : ((w.alloc (.cells #[.int .i64 f, .int .i64 r, .int .u32 x0, .int .u32 x1, .int .u32 x2, .int .u32 x3, .slice ad l.length cap] 50)).alloc (.cells #[.int .i64 0, .int .i64 0, .int .u32 0, .int .u32 0, .int .u32 0, .int .u32 0, .slice none 0 0] 50)).heap[w.heap.size]? = some (.cells #[.int .i64 f, .int .i64 r, .int .u32 x0, .int .u32 x1, .int .u32 x2, .int .u32 x3, .slice ad l.length cap] 50 (0, 0)) := old_at (new_at rfl)
  have hR : ((w.alloc (.cells #[.int .i64 f, .int .i64 r, .int .u32 x0, .int .u32 x1, .int .u32 x2, .int .u32 x3, .slice ad l.length cap] 50)).alloc (.cells #[.int .i64 0, .int .i64 0, .int .u32 0, .int .u32 0, .int .u32 0, .int .u32 0, .slice none 0 0] 50)).heap[w.heap.size + 1]? = some (.cells #[.int .i64 0, .int .i64 0, .int .u32 0, .int .u32 0, .int .u32 0, .int .u32 0, .slice none 0 0] 50 (0, 0)) := new_at (by simp)
  go_enter Try.func36, Try.ntmps36
  go_wp2_with (go_at_call 51; (with_reducible refine hnt.mono ?_); rintro e u1 ⟨a, c, rfl, ho, hb1⟩; have hB1 := (hb1.block _ (lt_at hB)).trans hB; have hR1 := (hb1.block _ (lt_at hR)).trans hR; have b0 := cell_at hB1 0; have r0 := cell_at hR1 0; have y0 := thaw_at hB1 0; have z0 := thaw_at hR1 0; have b1 := cell_at hB1 1; have r1 := cell_at hR1 1; have y1 := thaw_at hB1 1; have z1 := thaw_at hR1 1; have b2 := cell_at hB1 2; have r2 := cell_at hR1 2; have y2 := thaw_at hB1 2; have z2 := thaw_at hR1 2; have b3 := cell_at hB1 3; have r3 := cell_at hR1 3; have y3 := thaw_at hB1 3; have z3 := thaw_at hR1 3; have b4 := cell_at hB1 4; have r4 := cell_at hR1 4; have y4 := thaw_at hB1 4; have z4 := thaw_at hR1 4; have b5 := cell_at hB1 5; have r5 := cell_at hR1 5; have y5 := thaw_at hB1 5; have z5 := thaw_at hR1 5; have b6 := cell_at hB1 6; have r6 := cell_at hR1 6; have y6 := thaw_at hB1 6; have z6 := thaw_at hR1 6; simp at b0 r0 b1 r1 b2 r2 b3 r3 b4 r4 b5 r5 b6 r6)
  have hw1 : Below w.heap.size w u1 := bel2 hb0 hb1
  have hR2 := (Below.heap_setCell u1 ⟨w.heap.size, 6, none⟩ (.slice a l.length c) (w.heap.size + 1) (by simp)).trans hR1
  have ho := ownsRow_base ho (show w.heap.size + 2 ≤ _ by simp)
  exact retP rfl rfl rfl ((set_get 6 _ (set_get 5 _ (set_get 4 _ (set_get 3 _ (set_get 2 _ (set_get 1 _ (set_get 0 _ hR2))))))).trans (by simp)) ⟨a, c, rfl, ownsRow_base (ownsRow_setCell_below (ownsRow_setCell_below (ownsRow_setCell_below (ownsRow_setCell_below (ownsRow_setCell_below (ownsRow_setCell_below (ownsRow_setCell_below (ownsRow_setCell_below ho (a := ⟨w.heap.size, 6, none⟩) (by simp) _) (a := ⟨w.heap.size + 1, 0, none⟩) (by simp) _) (a := ⟨w.heap.size + 1, 1, none⟩) (by simp) _) (a := ⟨w.heap.size + 1, 2, none⟩) (by simp) _) (a := ⟨w.heap.size + 1, 3, none⟩) (by simp) _) (a := ⟨w.heap.size + 1, 4, none⟩) (by simp) _) (a := ⟨w.heap.size + 1, 5, none⟩) (by simp) _) (a := ⟨w.heap.size + 1, 6, none⟩) (by simp) _) (by omega), ((((((((hw1.setCell (p := ⟨w.heap.size, 6, none⟩) (by simp) _).setCell (p := ⟨w.heap.size + 1, 0, none⟩) (by simp) _).setCell (p := ⟨w.heap.size + 1, 1, none⟩) (by simp) _).setCell (p := ⟨w.heap.size + 1, 2, none⟩) (by simp) _).setCell (p := ⟨w.heap.size + 1, 3, none⟩) (by simp) _).setCell (p := ⟨w.heap.size + 1, 4, none⟩) (by simp) _).setCell (p := ⟨w.heap.size + 1, 5, none⟩) (by simp) _).setCell (p := ⟨w.heap.size + 1, 6, none⟩) (by simp) _)⟩
theorem invP_twin (v : Value) (w : World) : (method 226 50 v "earshot/wire.twin").run Try.prog w = .ok (99, v) w := by kernel_rfl
theorem twinP_any (f r x0 x1 x2 x3 : Int) (ad : Option Addr) (cap : Nat) (l : List (Int × Int × Int)) (w : World) (h : RdN w ad l) (hl : l.length ≤ 5000000000000) : Calls Try.prog 99 #[.agg #[.int .i64 f, .int .i64 r, .int .u32 x0, .int .u32 x1, .int .u32 x2, .int .u32 x3, .slice ad l.length cap]] w fun e w' => ∃ a c, e = .returned (.iface 50 (.agg #[.int .i64 f, .int .i64 r, .int .u32 x0, .int .u32 x1, .int .u32 x2, .int .u32 x3, .slice a l.length c])) ∧ w'.ownsRow w.heap.size 82 3 (.slice a l.length c) l.length (fl l) ∧ Below w.heap.size w w' := by
  have hb0 := al1' w (.cells #[.int .i64 f, .int .i64 r, .int .u32 x0, .int .u32 x1, .int .u32 x2, .int .u32 x3, .slice ad l.length cap] 50)
  have hap := apartP_any f r x0 x1 x2 x3 ad cap l _ (h.carry hb0) hl
  go_enter Try.func99, Try.ntmps99
  go_wp2_with (go_at_call 36; (with_reducible refine hap.mono ?_); rintro e u1 ⟨a, c, rfl, ho, hb1⟩)
  go_ret
  exact ⟨a, c, rfl, ownsRow_base ho hb0.size, bel2 hb0 hb1⟩
theorem retU {f : Func} {q : Tmp} {R : Ending → World → Prop} {a : Act} {w : World} {b : Nat} {v0 v1 : Value} (hres : f.results = #[.cell q 53]) (hp : a.tmps.getD q undef = .pointer (some ⟨b, 0, none⟩)) (hd : a.defers = []) (h : w.heap[b]? = some (.cells #[v0, v1] 53 (0, 0))) (hR : R (.returned (.agg #[v0, v1])) w) : bodyPost Try.prog f R .ret a w :=
  bodyPost_ret (results_cell_row hres a.tmps w b _ _ (0, 0) _ hp h Try.underlying53 rfl (by kernel_rfl)) hd hR
theorem noticesU_any (f : Int) (ad : Option Addr) (cap : Nat) (l : List (Int × Int × Int)) (w : World) (h : RdN w ad l) (hl : l.length ≤ 5000000000000) : Calls Try.prog 52 #[.agg #[.int .i64 f, .slice ad l.length cap]] w fun e w' => ∃ a c, e = .returned (.slice a l.length c) ∧ w'.ownsRow w.heap.size 82 3 (.slice a l.length c) l.length (fl l) ∧ Below w.heap.size w w' := by
  have hb0 := al1' w (.cells #[.int .i64 f, .slice ad l.length cap] 53)
  have hcl := clone_any ad cap l _ (h.carry hb0) hl
  go_enter Try.func52, Try.ntmps52
  go_wp2_with (go_at_call 70; (with_reducible refine hcl.mono ?_); rintro e u1 ⟨a, c, rfl, ho, hb1⟩)
  go_ret
  exact ⟨a, c, rfl, ownsRow_base ho hb0.size, bel2 hb0 hb1⟩
set_option maxHeartbeats 1000000 in
set_option maxRecDepth 100000 in
theorem apartU_any (f : Int) (ad : Option Addr) (cap : Nat) (l : List (Int × Int × Int)) (w : World) (h : RdN w ad l) (hl : l.length ≤ 5000000000000) : Calls Try.prog 37 #[.agg #[.int .i64 f, .slice ad l.length cap]] w fun e w' => ∃ a c, e = .returned (.agg #[.int .i64 f, .slice a l.length c]) ∧ w'.ownsRow w.heap.size 82 3 (.slice a l.length c) l.length (fl l) ∧ Below w.heap.size w w' := by
  have hb0 := al2x w (.cells #[.int .i64 f, .slice ad l.length cap] 53) (.cells #[.int .i64 0, .slice none 0 0] 53)
  have hnt := noticesU_any f ad cap l _ (h.carry hb0) hl
  have hB : ((w.alloc (.cells #[.int .i64 f, .slice ad l.length cap] 53)).alloc (.cells #[.int .i64 0, .slice none 0 0] 53)).heap[w.heap.size]? = some (.cells #[.int .i64 f, .slice ad l.length cap] 53 (0, 0)) := old_at (new_at rfl)
  have hR : ((w.alloc (.cells #[.int .i64 f, .slice ad l.length cap] 53)).alloc (.cells #[.int .i64 0, .slice none 0 0] 53)).heap[w.heap.size + 1]? = some (.cells #[.int .i64 0, .slice none 0 0] 53 (0, 0)) := new_at (by simp)
  go_enter Try.func37, Try.ntmps37
  go_wp2_with (go_at_call 52; (with_reducible refine hnt.mono ?_); rintro e u1 ⟨a, c, rfl, ho, hb1⟩; have hB1 := (hb1.block _ (lt_at hB)).trans hB; have hR1 := (hb1.block _ (lt_at hR)).trans hR; have b0 := cell_at hB1 0; have r0 := cell_at hR1 0; have y0 := thaw_at hB1 0; have z0 := thaw_at hR1 0; have b1 := cell_at hB1 1; have r1 := cell_at hR1 1; have y1 := thaw_at hB1 1; have z1 := thaw_at hR1 1; simp at b0 r0 b1 r1)
  have hw1 : Below w.heap.size w u1 := bel2 hb0 hb1
  have hR2 := (Below.heap_setCell u1 ⟨w.heap.size, 1, none⟩ (.slice a l.length c) (w.heap.size + 1) (by simp)).trans hR1
  have ho := ownsRow_base ho (show w.heap.size + 2 ≤ _ by simp)
  exact retU rfl rfl rfl ((set_get 1 _ (set_get 0 _ hR2)).trans (by simp)) ⟨a, c, rfl, ownsRow_base (ownsRow_setCell_below (ownsRow_setCell_below (ownsRow_setCell_below ho (a := ⟨w.heap.size, 1, none⟩) (by simp) _) (a := ⟨w.heap.size + 1, 0, none⟩) (by simp) _) (a := ⟨w.heap.size + 1, 1, none⟩) (by simp) _) (by omega), (((hw1.setCell (p := ⟨w.heap.size, 1, none⟩) (by simp) _).setCell (p := ⟨w.heap.size + 1, 0, none⟩) (by simp) _).setCell (p := ⟨w.heap.size + 1, 1, none⟩) (by simp) _)⟩
theorem invU_twin (v : Value) (w : World) : (method 226 53 v "earshot/wire.twin").run Try.prog w = .ok (102, v) w := by kernel_rfl
theorem twinU_any (f : Int) (ad : Option Addr) (cap : Nat) (l : List (Int × Int × Int)) (w : World) (h : RdN w ad l) (hl : l.length ≤ 5000000000000) : Calls Try.prog 102 #[.agg #[.int .i64 f, .slice ad l.length cap]] w fun e w' => ∃ a c, e = .returned (.iface 53 (.agg #[.int .i64 f, .slice a l.length c])) ∧ w'.ownsRow w.heap.size 82 3 (.slice a l.length c) l.length (fl l) ∧ Below w.heap.size w w' := by
  have hb0 := al1' w (.cells #[.int .i64 f, .slice ad l.length cap] 53)
  have hap := apartU_any f ad cap l _ (h.carry hb0) hl
  go_enter Try.func102, Try.ntmps102
  go_wp2_with (go_at_call 37; (with_reducible refine hap.mono ?_); rintro e u1 ⟨a, c, rfl, ho, hb1⟩)
  go_ret
  exact ⟨a, c, rfl, ownsRow_base ho hb0.size, bel2 hb0 hb1⟩
end Go.Proofs.Ytndogopllcpiiaa
