/- Packets: what their calls answer. -/
import Derived.Test.YtndogopllcpiiaaWsc
import Derived.Test.YtndogopllcpiiaaWrz
import Derived.Stop.Asserts
namespace Go.Proofs.Ytndogopllcpiiaa
open Go.RowKit Go.Shelf

theorem open_ok (ad : Option Addr) (cap : Nat) (bs : List Nat) (n : Int) (w : World) (h : RdB w ad bs) (hb : Byt bs) (hc : bs.length ≤ cap) (kd fr rd N : Nat) (l : List (Int × Int × Int)) (hd : dec n bs = .ok (kd, fr, rd, N, l)) : Calls Try.prog 9 #[.slice ad bs.length cap, .int .i64 n] w fun e w' => ∃ a c, e = .returned (.tuple #[.agg #[noteV kd fr rd N (.slice a l.length c)], .int .i64 0]) ∧ w'.ownsRow w.heap.size 82 3 (.slice a l.length c) l.length (fl l) ∧ Below w.heap.size w w' := by
  have hb0 := al1' w (.cells #[.nilIface] 27)
  have hde := decode_any ad cap bs n (w.alloc (.cells #[.nilIface] 27)) (h.carry hb0) hb hc
  unfold DcO at hde
  rw [hd] at hde
  have hde2 : Calls Try.prog 23 #[.slice ad bs.length cap, .int .i64 n] (w.alloc (.cells #[.nilIface] 27)) fun e w' => ∃ a c t x, e = .returned (.tuple #[.iface t x, .int .i64 0]) ∧ Hid (noteV kd (fr : Int) (rd : Int) N (.slice a l.length c) = .iface t x) ∧ w'.ownsRow (w.alloc (.cells #[.nilIface] 27)).heap.size 82 3 (.slice a l.length c) l.length (fl l) ∧ Below (w.alloc (.cells #[.nilIface] 27)).heap.size (w.alloc (.cells #[.nilIface] 27)) w' := hde.mono (by
    rintro e w' ⟨a, c, rfl, h1, h2⟩
    obtain ⟨t, x, hx⟩ := noteV_form kd fr rd N (.slice a l.length c)
    exact ⟨a, c, t, x, by rw [hx], hx, h1, h2⟩)
  have hB : (w.alloc (.cells #[.nilIface] 27)).heap[w.heap.size]? = some (.cells #[.nilIface] 27 (0, 0)) := new_at rfl
  clear hde hd
  go_enter Try.func9, Try.ntmps9
  go_wp2_with (go_at_call 23; (with_reducible refine hde2.mono ?_); rintro e u1 ⟨a, c, t, x, rfl, HX, ho, hb1⟩; have hB1 := (hb1.block _ (lt_at hB)).trans hB; have c0 := cell_at hB1 0; simp at c0; have z0 := thaw_at hB1 0)
  exact bodyPost_ret (res2o (x := .iface t x) (y := .int .i64 0) rfl rfl ((set_get 0 _ hB1).trans (by simp))) rfl ⟨a, c, by rw [HX.out], ownsRow_base (ownsRow_setCell_below ho (a := ⟨w.heap.size, 0, none⟩) (by simp) _) (by simp), (bel2 hb0 hb1).setCell (p := ⟨w.heap.size, 0, none⟩) (Nat.le_refl _) _⟩
theorem pnote_nil (w : World) : Calls Try.prog 10 #[.agg #[.nilIface]] w fun e w' => e = .returned .nilIface ∧ Below w.heap.size w w' := by
  have ny := nil_yes
  go_enter Try.func10, Try.ntmps10
  go_wp2
  go_ret
  exact ⟨rfl, al1' w _⟩
set_option maxHeartbeats 1000000 in
theorem pnoteQ (f r : Int) (ad : Option Addr) (cap : Nat) (l : List (Int × Int × Int)) (w : World) (h : RdN w ad l) (hl : l.length ≤ 5000000000000) : Calls Try.prog 10 #[.agg #[.iface 47 (.agg #[.int .i64 f, .int .i64 r, .slice ad l.length cap])]] w fun e w' => ∃ a c, e = .returned (.iface 47 (.agg #[.int .i64 f, .int .i64 r, .slice a l.length c])) ∧ w'.ownsRow w.heap.size 82 3 (.slice a l.length c) l.length (fl l) ∧ Below w.heap.size w w' := by
  have nn := nil_no
  have iv := invQ_twin
  have hb0 := al1' w (.cells #[.iface 47 (.agg #[.int .i64 f, .int .i64 r, .slice ad l.length cap])] 27)
  have htw := twinQ_any f r ad cap l _ (h.carry hb0) hl
  go_enter Try.func10, Try.ntmps10
  go_wp2_with (go_at_call 96; (with_reducible refine htw.mono ?_); rintro e u1 ⟨a, c, rfl, ho, hb1⟩)
  go_ret
  exact ⟨a, c, rfl, ownsRow_base ho hb0.size, bel2 hb0 hb1⟩
theorem oneQ (v : Value) (w : World) : (Instr.typeAssert (.iface 47 v) 25 47 false).run Try.prog w = .ok v w := by kernel_rfl
set_option maxHeartbeats 1000000 in
set_option maxRecDepth 100000 in
theorem pQ_yes (f r : Int) (ad : Option Addr) (cap : Nat) (l : List (Int × Int × Int)) (w : World) (h : RdN w ad l) (hl : l.length ≤ 5000000000000) : Calls Try.prog 14 #[.agg #[.iface 47 (.agg #[.int .i64 f, .int .i64 r, .slice ad l.length cap])]] w fun e w' => ∃ a c, e = .returned (.agg #[.int .i64 f, .int .i64 r, .slice a l.length c]) ∧ w'.ownsRow w.heap.size 82 3 (.slice a l.length c) l.length (fl l) ∧ Below w.heap.size w w' := by
  have hon := oneQ
  have hb0 := al2x w (.cells #[.iface 47 (.agg #[.int .i64 f, .int .i64 r, .slice ad l.length cap])] 27) (.cells #[.int .i64 0, .int .i64 0, .slice none 0 0] 47)
  have hap := apartQ_any f r ad cap l _ (h.carry hb0) hl
  have hR : ((w.alloc (.cells #[.iface 47 (.agg #[.int .i64 f, .int .i64 r, .slice ad l.length cap])] 27)).alloc (.cells #[.int .i64 0, .int .i64 0, .slice none 0 0] 47)).heap[w.heap.size + 1]? = some (.cells #[.int .i64 0, .int .i64 0, .slice none 0 0] 47 (0, 0)) := new_at (by simp)
  go_enter Try.func14, Try.ntmps14
  go_wp2_with (go_at_call 35; (with_reducible refine hap.mono ?_); rintro e u1 ⟨a, c, rfl, ho, hb1⟩; have hR1 := (hb1.block _ (lt_at hR)).trans hR; have r0 := cell_at hR1 0; have z0 := thaw_at hR1 0; have r1 := cell_at hR1 1; have z1 := thaw_at hR1 1; have r2 := cell_at hR1 2; have z2 := thaw_at hR1 2; simp at r0 r1 r2)
  have hw1 : Below w.heap.size w u1 := bel2 hb0 hb1
  have ho := ownsRow_base ho (show w.heap.size + 2 ≤ _ by simp)
  exact retQ rfl rfl rfl ((set_get 2 _ (set_get 1 _ (set_get 0 _ hR1))).trans (by simp)) ⟨a, c, rfl, ownsRow_base (ownsRow_setCell_below (ownsRow_setCell_below (ownsRow_setCell_below ho (a := ⟨w.heap.size + 1, 0, none⟩) (by simp) _) (a := ⟨w.heap.size + 1, 1, none⟩) (by simp) _) (a := ⟨w.heap.size + 1, 2, none⟩) (by simp) _) (by omega), (((hw1.setCell (p := ⟨w.heap.size + 1, 0, none⟩) (by simp) _).setCell (p := ⟨w.heap.size + 1, 1, none⟩) (by simp) _).setCell (p := ⟨w.heap.size + 1, 2, none⟩) (by simp) _)⟩
theorem resAQ {tmps : Array Value} {W : World} {a : Nat} {v0 v1 v2 : Value} {y : Value} (h4 : tmps[2]?.getD undef = .pointer (some ⟨a, 0, none⟩)) (h5 : tmps[3]?.getD undef = y) (hx : W.heap[a]? = some (.cells #[v0, v1, v2] 47 (0, 0))) : (results Try.f26 tmps).run Try.prog W = .ok (.tuple #[.agg #[v0, v1, v2], y]) W := by
  have c0 := cell_at hx 0
  have c1 := cell_at hx 1
  have c2 := cell_at hx 2
  simp at c0 c1 c2
  simp [results, Try.results26, go_sem, h4, h5, c0, c1, c2]
set_option maxHeartbeats 1000000 in
set_option maxRecDepth 100000 in
theorem asQ_in (X : Value) (ok : Bool) (f r : Int) (ad : Option Addr) (cap : Nat) (l : List (Int × Int × Int)) (w : World) (h : RdN w ad l) (hl : l.length ≤ 5000000000000) (hX : ∀ w, (Instr.typeAssert X 25 47 true).run Try.prog w = .ok (.tuple #[.agg #[.int .i64 f, .int .i64 r, .slice ad l.length cap], .bool ok]) w) (hXf : X = .nilIface ∨ ∃ t x, X = .iface t x) : Calls Try.prog 26 #[.agg #[X]] w fun e w' => ∃ a c, e = .returned (.tuple #[.agg #[.int .i64 f, .int .i64 r, .slice a l.length c], .bool ok]) ∧ w'.ownsRow w.heap.size 82 3 (.slice a l.length c) l.length (fl l) ∧ Below w.heap.size w w' := by
  have hb0 : Below w.heap.size w (((w.alloc (.cells #[X] 27)).alloc (.cells #[.int .i64 0, .int .i64 0, .slice none 0 0] 47)).alloc (.cells #[.int .i64 f, .int .i64 r, .slice ad l.length cap] 47)) := (al2x w _ _).alloc (by simp; omega) _
  have hap := apartQ_any f r ad cap l _ (h.carry hb0) hl
  have hR : (((w.alloc (.cells #[X] 27)).alloc (.cells #[.int .i64 0, .int .i64 0, .slice none 0 0] 47)).alloc (.cells #[.int .i64 f, .int .i64 r, .slice ad l.length cap] 47)).heap[w.heap.size + 1]? = some (.cells #[.int .i64 0, .int .i64 0, .slice none 0 0] 47 (0, 0)) := old_at (new_at (by simp))
  rcases hXf with rfl | ⟨tX, xX, rfl⟩
  all_goals
    go_enter Try.func26, Try.ntmps26
    go_wp2_with (go_at_call 35; (with_reducible refine hap.mono ?_); rintro e u1 ⟨a, c, rfl, ho, hb1⟩; have hR1 := (hb1.block _ (lt_at hR)).trans hR; have r0 := cell_at hR1 0; have z0 := thaw_at hR1 0; have r1 := cell_at hR1 1; have z1 := thaw_at hR1 1; have r2 := cell_at hR1 2; have z2 := thaw_at hR1 2; simp at r0 r1 r2)
    have hw1 : Below w.heap.size w u1 := bel2 hb0 hb1
    have ho := ownsRow_base ho (show w.heap.size + 3 ≤ _ by simp)
    exact bodyPost_ret (resAQ rfl rfl ((set_get 2 _ (set_get 1 _ (set_get 0 _ hR1))).trans (by simp))) rfl ⟨a, c, rfl, ownsRow_base (ownsRow_setCell_below (ownsRow_setCell_below (ownsRow_setCell_below ho (a := ⟨w.heap.size + 1, 0, none⟩) (by simp) _) (a := ⟨w.heap.size + 1, 1, none⟩) (by simp) _) (a := ⟨w.heap.size + 1, 2, none⟩) (by simp) _) (by omega), (((hw1.setCell (p := ⟨w.heap.size + 1, 0, none⟩) (by simp) _).setCell (p := ⟨w.heap.size + 1, 1, none⟩) (by simp) _).setCell (p := ⟨w.heap.size + 1, 2, none⟩) (by simp) _)⟩
set_option maxHeartbeats 1000000 in
theorem pnoteP (f r x0 x1 x2 x3 : Int) (ad : Option Addr) (cap : Nat) (l : List (Int × Int × Int)) (w : World) (h : RdN w ad l) (hl : l.length ≤ 5000000000000) : Calls Try.prog 10 #[.agg #[.iface 50 (.agg #[.int .i64 f, .int .i64 r, .int .u32 x0, .int .u32 x1, .int .u32 x2, .int .u32 x3, .slice ad l.length cap])]] w fun e w' => ∃ a c, e = .returned (.iface 50 (.agg #[.int .i64 f, .int .i64 r, .int .u32 x0, .int .u32 x1, .int .u32 x2, .int .u32 x3, .slice a l.length c])) ∧ w'.ownsRow w.heap.size 82 3 (.slice a l.length c) l.length (fl l) ∧ Below w.heap.size w w' := by
  have nn := nil_no
  have iv := invP_twin
  have hb0 := al1' w (.cells #[.iface 50 (.agg #[.int .i64 f, .int .i64 r, .int .u32 x0, .int .u32 x1, .int .u32 x2, .int .u32 x3, .slice ad l.length cap])] 27)
  have htw := twinP_any f r x0 x1 x2 x3 ad cap l _ (h.carry hb0) hl
  go_enter Try.func10, Try.ntmps10
  go_wp2_with (go_at_call 99; (with_reducible refine htw.mono ?_); rintro e u1 ⟨a, c, rfl, ho, hb1⟩)
  go_ret
  exact ⟨a, c, rfl, ownsRow_base ho hb0.size, bel2 hb0 hb1⟩
theorem oneP (v : Value) (w : World) : (Instr.typeAssert (.iface 50 v) 25 50 false).run Try.prog w = .ok v w := by kernel_rfl
set_option maxHeartbeats 1000000 in
set_option maxRecDepth 100000 in
theorem pP_yes (f r x0 x1 x2 x3 : Int) (ad : Option Addr) (cap : Nat) (l : List (Int × Int × Int)) (w : World) (h : RdN w ad l) (hl : l.length ≤ 5000000000000) : Calls Try.prog 15 #[.agg #[.iface 50 (.agg #[.int .i64 f, .int .i64 r, .int .u32 x0, .int .u32 x1, .int .u32 x2, .int .u32 x3, .slice ad l.length cap])]] w fun e w' => ∃ a c, e = .returned (.agg #[.int .i64 f, .int .i64 r, .int .u32 x0, .int .u32 x1, .int .u32 x2, .int .u32 x3, .slice a l.length c]) ∧ w'.ownsRow w.heap.size 82 3 (.slice a l.length c) l.length (fl l) ∧ Below w.heap.size w w' := by
  have hon := oneP
  have hb0 := al2x w (.cells #[.iface 50 (.agg #[.int .i64 f, .int .i64 r, .int .u32 x0, .int .u32 x1, .int .u32 x2, .int .u32 x3, .slice ad l.length cap])] 27) (.cells #[.int .i64 0, .int .i64 0, .int .u32 0, .int .u32 0, .int .u32 0, .int .u32 0, .slice none 0 0] 50)
  have hap := apartP_any f r x0 x1 x2 x3 ad cap l _ (h.carry hb0) hl
  have hR : ((w.alloc (.cells #[.iface 50 (.agg #[.int .i64 f, .int .i64 r, .int .u32 x0, .int .u32 x1, .int .u32 x2, .int .u32 x3, .slice ad l.length cap])] 27)).alloc (.cells #[.int .i64 0, .int .i64 0, .int .u32 0, .int .u32 0, .int .u32 0, .int .u32 0, .slice none 0 0] 50)).heap[w.heap.size + 1]? = some (.cells #[.int .i64 0, .int .i64 0, .int .u32 0, .int .u32 0, .int .u32 0, .int .u32 0, .slice none 0 0] 50 (0, 0)) := new_at (by simp)
  go_enter Try.func15, Try.ntmps15
  go_wp2_with (go_at_call 36; (with_reducible refine hap.mono ?_); rintro e u1 ⟨a, c, rfl, ho, hb1⟩; have hR1 := (hb1.block _ (lt_at hR)).trans hR; have r0 := cell_at hR1 0; have z0 := thaw_at hR1 0; have r1 := cell_at hR1 1; have z1 := thaw_at hR1 1; have r2 := cell_at hR1 2; have z2 := thaw_at hR1 2; have r3 := cell_at hR1 3; have z3 := thaw_at hR1 3; have r4 := cell_at hR1 4; have z4 := thaw_at hR1 4; have r5 := cell_at hR1 5; have z5 := thaw_at hR1 5; have r6 := cell_at hR1 6; have z6 := thaw_at hR1 6; simp at r0 r1 r2 r3 r4 r5 r6)
  have hw1 : Below w.heap.size w u1 := bel2 hb0 hb1
  have ho := ownsRow_base ho (show w.heap.size + 2 ≤ _ by simp)
  exact retP rfl rfl rfl ((set_get 6 _ (set_get 5 _ (set_get 4 _ (set_get 3 _ (set_get 2 _ (set_get 1 _ (set_get 0 _ hR1))))))).trans (by simp)) ⟨a, c, rfl, ownsRow_base (ownsRow_setCell_below (ownsRow_setCell_below (ownsRow_setCell_below (ownsRow_setCell_below (ownsRow_setCell_below (ownsRow_setCell_below (ownsRow_setCell_below ho (a := ⟨w.heap.size + 1, 0, none⟩) (by simp) _) (a := ⟨w.heap.size + 1, 1, none⟩) (by simp) _) (a := ⟨w.heap.size + 1, 2, none⟩) (by simp) _) (a := ⟨w.heap.size + 1, 3, none⟩) (by simp) _) (a := ⟨w.heap.size + 1, 4, none⟩) (by simp) _) (a := ⟨w.heap.size + 1, 5, none⟩) (by simp) _) (a := ⟨w.heap.size + 1, 6, none⟩) (by simp) _) (by omega), (((((((hw1.setCell (p := ⟨w.heap.size + 1, 0, none⟩) (by simp) _).setCell (p := ⟨w.heap.size + 1, 1, none⟩) (by simp) _).setCell (p := ⟨w.heap.size + 1, 2, none⟩) (by simp) _).setCell (p := ⟨w.heap.size + 1, 3, none⟩) (by simp) _).setCell (p := ⟨w.heap.size + 1, 4, none⟩) (by simp) _).setCell (p := ⟨w.heap.size + 1, 5, none⟩) (by simp) _).setCell (p := ⟨w.heap.size + 1, 6, none⟩) (by simp) _)⟩
theorem resAP {tmps : Array Value} {W : World} {a : Nat} {v0 v1 v2 v3 v4 v5 v6 : Value} {y : Value} (h4 : tmps[2]?.getD undef = .pointer (some ⟨a, 0, none⟩)) (h5 : tmps[3]?.getD undef = y) (hx : W.heap[a]? = some (.cells #[v0, v1, v2, v3, v4, v5, v6] 50 (0, 0))) : (results Try.f27 tmps).run Try.prog W = .ok (.tuple #[.agg #[v0, v1, v2, v3, v4, v5, v6], y]) W := by
  have c0 := cell_at hx 0
  have c1 := cell_at hx 1
  have c2 := cell_at hx 2
  have c3 := cell_at hx 3
  have c4 := cell_at hx 4
  have c5 := cell_at hx 5
  have c6 := cell_at hx 6
  simp at c0 c1 c2 c3 c4 c5 c6
  simp [results, Try.results27, go_sem, h4, h5, c0, c1, c2, c3, c4, c5, c6]
set_option maxHeartbeats 1000000 in
set_option maxRecDepth 100000 in
theorem asP_in (X : Value) (ok : Bool) (f r x0 x1 x2 x3 : Int) (ad : Option Addr) (cap : Nat) (l : List (Int × Int × Int)) (w : World) (h : RdN w ad l) (hl : l.length ≤ 5000000000000) (hX : ∀ w, (Instr.typeAssert X 25 50 true).run Try.prog w = .ok (.tuple #[.agg #[.int .i64 f, .int .i64 r, .int .u32 x0, .int .u32 x1, .int .u32 x2, .int .u32 x3, .slice ad l.length cap], .bool ok]) w) (hXf : X = .nilIface ∨ ∃ t x, X = .iface t x) : Calls Try.prog 27 #[.agg #[X]] w fun e w' => ∃ a c, e = .returned (.tuple #[.agg #[.int .i64 f, .int .i64 r, .int .u32 x0, .int .u32 x1, .int .u32 x2, .int .u32 x3, .slice a l.length c], .bool ok]) ∧ w'.ownsRow w.heap.size 82 3 (.slice a l.length c) l.length (fl l) ∧ Below w.heap.size w w' := by
  have hb0 : Below w.heap.size w (((w.alloc (.cells #[X] 27)).alloc (.cells #[.int .i64 0, .int .i64 0, .int .u32 0, .int .u32 0, .int .u32 0, .int .u32 0, .slice none 0 0] 50)).alloc (.cells #[.int .i64 f, .int .i64 r, .int .u32 x0, .int .u32 x1, .int .u32 x2, .int .u32 x3, .slice ad l.length cap] 50)) := (al2x w _ _).alloc (by simp; omega) _
  have hap := apartP_any f r x0 x1 x2 x3 ad cap l _ (h.carry hb0) hl
  have hR : (((w.alloc (.cells #[X] 27)).alloc (.cells #[.int .i64 0, .int .i64 0, .int .u32 0, .int .u32 0, .int .u32 0, .int .u32 0, .slice none 0 0] 50)).alloc (.cells #[.int .i64 f, .int .i64 r, .int .u32 x0, .int .u32 x1, .int .u32 x2, .int .u32 x3, .slice ad l.length cap] 50)).heap[w.heap.size + 1]? = some (.cells #[.int .i64 0, .int .i64 0, .int .u32 0, .int .u32 0, .int .u32 0, .int .u32 0, .slice none 0 0] 50 (0, 0)) := old_at (new_at (by simp))
  rcases hXf with rfl | ⟨tX, xX, rfl⟩
  all_goals
    go_enter Try.func27, Try.ntmps27
    go_wp2_with (go_at_call 36; (with_reducible refine hap.mono ?_); rintro e u1 ⟨a, c, rfl, ho, hb1⟩; have hR1 := (hb1.block _ (lt_at hR)).trans hR; have r0 := cell_at hR1 0; have z0 := thaw_at hR1 0; have r1 := cell_at hR1 1; have z1 := thaw_at hR1 1; have r2 := cell_at hR1 2; have z2 := thaw_at hR1 2; have r3 := cell_at hR1 3; have z3 := thaw_at hR1 3; have r4 := cell_at hR1 4; have z4 := thaw_at hR1 4; have r5 := cell_at hR1 5; have z5 := thaw_at hR1 5; have r6 := cell_at hR1 6; have z6 := thaw_at hR1 6; simp at r0 r1 r2 r3 r4 r5 r6)
    have hw1 : Below w.heap.size w u1 := bel2 hb0 hb1
    have ho := ownsRow_base ho (show w.heap.size + 3 ≤ _ by simp)
    exact bodyPost_ret (resAP rfl rfl ((set_get 6 _ (set_get 5 _ (set_get 4 _ (set_get 3 _ (set_get 2 _ (set_get 1 _ (set_get 0 _ hR1))))))).trans (by simp))) rfl ⟨a, c, rfl, ownsRow_base (ownsRow_setCell_below (ownsRow_setCell_below (ownsRow_setCell_below (ownsRow_setCell_below (ownsRow_setCell_below (ownsRow_setCell_below (ownsRow_setCell_below ho (a := ⟨w.heap.size + 1, 0, none⟩) (by simp) _) (a := ⟨w.heap.size + 1, 1, none⟩) (by simp) _) (a := ⟨w.heap.size + 1, 2, none⟩) (by simp) _) (a := ⟨w.heap.size + 1, 3, none⟩) (by simp) _) (a := ⟨w.heap.size + 1, 4, none⟩) (by simp) _) (a := ⟨w.heap.size + 1, 5, none⟩) (by simp) _) (a := ⟨w.heap.size + 1, 6, none⟩) (by simp) _) (by omega), (((((((hw1.setCell (p := ⟨w.heap.size + 1, 0, none⟩) (by simp) _).setCell (p := ⟨w.heap.size + 1, 1, none⟩) (by simp) _).setCell (p := ⟨w.heap.size + 1, 2, none⟩) (by simp) _).setCell (p := ⟨w.heap.size + 1, 3, none⟩) (by simp) _).setCell (p := ⟨w.heap.size + 1, 4, none⟩) (by simp) _).setCell (p := ⟨w.heap.size + 1, 5, none⟩) (by simp) _).setCell (p := ⟨w.heap.size + 1, 6, none⟩) (by simp) _)⟩
set_option maxHeartbeats 1000000 in
theorem pnoteU (f : Int) (ad : Option Addr) (cap : Nat) (l : List (Int × Int × Int)) (w : World) (h : RdN w ad l) (hl : l.length ≤ 5000000000000) : Calls Try.prog 10 #[.agg #[.iface 53 (.agg #[.int .i64 f, .slice ad l.length cap])]] w fun e w' => ∃ a c, e = .returned (.iface 53 (.agg #[.int .i64 f, .slice a l.length c])) ∧ w'.ownsRow w.heap.size 82 3 (.slice a l.length c) l.length (fl l) ∧ Below w.heap.size w w' := by
  have nn := nil_no
  have iv := invU_twin
  have hb0 := al1' w (.cells #[.iface 53 (.agg #[.int .i64 f, .slice ad l.length cap])] 27)
  have htw := twinU_any f ad cap l _ (h.carry hb0) hl
  go_enter Try.func10, Try.ntmps10
  go_wp2_with (go_at_call 102; (with_reducible refine htw.mono ?_); rintro e u1 ⟨a, c, rfl, ho, hb1⟩)
  go_ret
  exact ⟨a, c, rfl, ownsRow_base ho hb0.size, bel2 hb0 hb1⟩
theorem oneU (v : Value) (w : World) : (Instr.typeAssert (.iface 53 v) 25 53 false).run Try.prog w = .ok v w := by kernel_rfl
set_option maxHeartbeats 1000000 in
set_option maxRecDepth 100000 in
theorem pU_yes (f : Int) (ad : Option Addr) (cap : Nat) (l : List (Int × Int × Int)) (w : World) (h : RdN w ad l) (hl : l.length ≤ 5000000000000) : Calls Try.prog 16 #[.agg #[.iface 53 (.agg #[.int .i64 f, .slice ad l.length cap])]] w fun e w' => ∃ a c, e = .returned (.agg #[.int .i64 f, .slice a l.length c]) ∧ w'.ownsRow w.heap.size 82 3 (.slice a l.length c) l.length (fl l) ∧ Below w.heap.size w w' := by
  have hon := oneU
  have hb0 := al2x w (.cells #[.iface 53 (.agg #[.int .i64 f, .slice ad l.length cap])] 27) (.cells #[.int .i64 0, .slice none 0 0] 53)
  have hap := apartU_any f ad cap l _ (h.carry hb0) hl
  have hR : ((w.alloc (.cells #[.iface 53 (.agg #[.int .i64 f, .slice ad l.length cap])] 27)).alloc (.cells #[.int .i64 0, .slice none 0 0] 53)).heap[w.heap.size + 1]? = some (.cells #[.int .i64 0, .slice none 0 0] 53 (0, 0)) := new_at (by simp)
  go_enter Try.func16, Try.ntmps16
  go_wp2_with (go_at_call 37; (with_reducible refine hap.mono ?_); rintro e u1 ⟨a, c, rfl, ho, hb1⟩; have hR1 := (hb1.block _ (lt_at hR)).trans hR; have r0 := cell_at hR1 0; have z0 := thaw_at hR1 0; have r1 := cell_at hR1 1; have z1 := thaw_at hR1 1; simp at r0 r1)
  have hw1 : Below w.heap.size w u1 := bel2 hb0 hb1
  have ho := ownsRow_base ho (show w.heap.size + 2 ≤ _ by simp)
  exact retU rfl rfl rfl ((set_get 1 _ (set_get 0 _ hR1)).trans (by simp)) ⟨a, c, rfl, ownsRow_base (ownsRow_setCell_below (ownsRow_setCell_below ho (a := ⟨w.heap.size + 1, 0, none⟩) (by simp) _) (a := ⟨w.heap.size + 1, 1, none⟩) (by simp) _) (by omega), ((hw1.setCell (p := ⟨w.heap.size + 1, 0, none⟩) (by simp) _).setCell (p := ⟨w.heap.size + 1, 1, none⟩) (by simp) _)⟩
theorem resAU {tmps : Array Value} {W : World} {a : Nat} {v0 v1 : Value} {y : Value} (h4 : tmps[2]?.getD undef = .pointer (some ⟨a, 0, none⟩)) (h5 : tmps[3]?.getD undef = y) (hx : W.heap[a]? = some (.cells #[v0, v1] 53 (0, 0))) : (results Try.f28 tmps).run Try.prog W = .ok (.tuple #[.agg #[v0, v1], y]) W := by
  have c0 := cell_at hx 0
  have c1 := cell_at hx 1
  simp at c0 c1
  simp [results, Try.results28, go_sem, h4, h5, c0, c1]
set_option maxHeartbeats 1000000 in
set_option maxRecDepth 100000 in
theorem asU_in (X : Value) (ok : Bool) (f : Int) (ad : Option Addr) (cap : Nat) (l : List (Int × Int × Int)) (w : World) (h : RdN w ad l) (hl : l.length ≤ 5000000000000) (hX : ∀ w, (Instr.typeAssert X 25 53 true).run Try.prog w = .ok (.tuple #[.agg #[.int .i64 f, .slice ad l.length cap], .bool ok]) w) (hXf : X = .nilIface ∨ ∃ t x, X = .iface t x) : Calls Try.prog 28 #[.agg #[X]] w fun e w' => ∃ a c, e = .returned (.tuple #[.agg #[.int .i64 f, .slice a l.length c], .bool ok]) ∧ w'.ownsRow w.heap.size 82 3 (.slice a l.length c) l.length (fl l) ∧ Below w.heap.size w w' := by
  have hb0 : Below w.heap.size w (((w.alloc (.cells #[X] 27)).alloc (.cells #[.int .i64 0, .slice none 0 0] 53)).alloc (.cells #[.int .i64 f, .slice ad l.length cap] 53)) := (al2x w _ _).alloc (by simp; omega) _
  have hap := apartU_any f ad cap l _ (h.carry hb0) hl
  have hR : (((w.alloc (.cells #[X] 27)).alloc (.cells #[.int .i64 0, .slice none 0 0] 53)).alloc (.cells #[.int .i64 f, .slice ad l.length cap] 53)).heap[w.heap.size + 1]? = some (.cells #[.int .i64 0, .slice none 0 0] 53 (0, 0)) := old_at (new_at (by simp))
  rcases hXf with rfl | ⟨tX, xX, rfl⟩
  all_goals
    go_enter Try.func28, Try.ntmps28
    go_wp2_with (go_at_call 37; (with_reducible refine hap.mono ?_); rintro e u1 ⟨a, c, rfl, ho, hb1⟩; have hR1 := (hb1.block _ (lt_at hR)).trans hR; have r0 := cell_at hR1 0; have z0 := thaw_at hR1 0; have r1 := cell_at hR1 1; have z1 := thaw_at hR1 1; simp at r0 r1)
    have hw1 : Below w.heap.size w u1 := bel2 hb0 hb1
    have ho := ownsRow_base ho (show w.heap.size + 3 ≤ _ by simp)
    exact bodyPost_ret (resAU rfl rfl ((set_get 1 _ (set_get 0 _ hR1)).trans (by simp))) rfl ⟨a, c, rfl, ownsRow_base (ownsRow_setCell_below (ownsRow_setCell_below ho (a := ⟨w.heap.size + 1, 0, none⟩) (by simp) _) (a := ⟨w.heap.size + 1, 1, none⟩) (by simp) _) (by omega), ((hw1.setCell (p := ⟨w.heap.size + 1, 0, none⟩) (by simp) _).setCell (p := ⟨w.heap.size + 1, 1, none⟩) (by simp) _)⟩
end Go.Proofs.Ytndogopllcpiiaa
