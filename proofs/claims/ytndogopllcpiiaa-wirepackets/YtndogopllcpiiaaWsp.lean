/- wire.Open of bytes that are refused; a byte that is turned. -/
import Derived.Test.YtndogopllcpiiaaWry
import Derived.Stop.Asserts
namespace Go.Proofs.Ytndogopllcpiiaa
open Go.RowKit Go.Shelf

theorem res2o {tmps : Array Value} {W : World} {a : Nat} {x : Value} {y : Value} (h4 : tmps[4]?.getD undef = .pointer (some ⟨a, 0, none⟩)) (h5 : tmps[5]?.getD undef = y) (hx : W.heap[a]? = some (.cells #[x] 27 (0, 0))) : (results Try.f9 tmps).run Try.prog W = .ok (.tuple #[.agg #[x], y]) W := by
  have c0 := cell_at hx 0
  simp at c0
  simp [results, Try.results9, go_sem, h4, h5, c0]
set_option maxHeartbeats 1000000 in
theorem open_err (ad : Option Addr) (cap : Nat) (bs : List Nat) (n : Int) (w : World) (h : RdB w ad bs) (hb : Byt bs) (hc : bs.length ≤ cap) (er : Int) (hd : dec n bs = .error er) : Calls Try.prog 9 #[.slice ad bs.length cap, .int .i64 n] w fun e w' => e = .returned (.tuple #[.agg #[.nilIface], .int .i64 er]) ∧ Below w.heap.size w w' := by
  have hb0 := al1' w (.cells #[.nilIface] 27)
  have hde := decode_any ad cap bs n (w.alloc (.cells #[.nilIface] 27)) (h.carry hb0) hb hc
  unfold DcO at hde
  rw [hd] at hde
  have her : (er != 0) = true := by simpa using dec_err hd
  have hB : (w.alloc (.cells #[.nilIface] 27)).heap[w.heap.size]? = some (.cells #[.nilIface] 27 (0, 0)) := new_at rfl
  go_enter Try.func9, Try.ntmps9
  go_wp2_with (go_at_call 23; (with_reducible refine hde.mono ?_); rintro e u1 ⟨rfl, hb1⟩; have hB1 := (hb1.block _ (lt_at hB)).trans hB; have c0 := cell_at hB1 0; simp at c0; have z0 := thaw_at hB1 0)
  exact bodyPost_ret (res2o rfl rfl ((set_get 0 _ hB1).trans (by simp))) rfl ⟨rfl, (bel2 hb0 hb1).setCell (p := ⟨w.heap.size, 0, none⟩) (Nat.le_refl _) _⟩
theorem BAt.set {W : World} {g : Nat} {l : List Nat} (h : BAt W g 0 l) {k y x : Nat} (hx : l[k]? = some x) : BAt (W.setCell ⟨g, k, none⟩ (.int .u8 (y : Int))) g 0 (l.set k y) := by
  intro j z hz
  have hk := (List.getElem?_eq_some_iff.1 hx).1
  rw [Nat.zero_add]
  by_cases e : k = j
  · subst e
    rw [List.getElem?_set_self hk] at hz
    cases hz
    have c := h k x hx
    rw [Nat.zero_add] at c
    exact World.cell?_setCell_same _ _ _ c
  · rw [List.getElem?_set_ne e] at hz
    have c := h j z hz
    rw [Nat.zero_add] at c
    rw [World.cell?_setCell_other _ ⟨g, k, none⟩ ⟨g, j, none⟩ _ (fun q => e (by cases q; rfl))]
    exact c
theorem xor_ne (x z : Nat) (h : z ≠ 0) : x ^^^ z ≠ x := by
  intro e
  apply h
  have e2 : x ^^^ (x ^^^ z) = z := by rw [← Nat.xor_assoc, Nat.xor_self, Nat.zero_xor]
  rw [← e2, e, Nat.xor_self]
end Go.Proofs.Ytndogopllcpiiaa
namespace Go.Proofs.Ytndogopllcpiiaa
open Go.RowKit Go.Shelf

theorem bs0N (W : World) : (Instr.buildSlice 39 0 #[]).run Try.prog W = .ok (.slice (some ⟨W.heap.size, 0, none⟩) 0 0) (W.alloc (.cells #[] 82)) := by go_simp
theorem nilN_no (a : Addr) (n c : Nat) (w : World) : (binOp .eql 39 (.slice (some a) n c) (.slice none 0 0)).run Try.prog w = .ok (.bool false) w := by kernel_rfl
theorem nilN_yes (n c : Nat) (w : World) : (binOp .eql 39 (.slice none n c) (.slice none 0 0)).run Try.prog w = .ok (.bool true) w := by kernel_rfl
set_option maxHeartbeats 1000000 in
set_option maxRecDepth 100000 in
theorem clone_any (ad : Option Addr) (cap : Nat) (l : List (Int × Int × Int)) (w : World) (h : RdN w ad l) (hl : l.length ≤ 5000000000000) : Calls Try.prog 70 #[.slice ad l.length cap] w fun e w' => ∃ a c, e = .returned (.slice a l.length c) ∧ w'.ownsRow w.heap.size 82 3 (.slice a l.length c) l.length (fl l) ∧ Below w.heap.size w w' := by
  obtain ⟨ic, hic, hz0, hz1, hz2⟩ := info_partsN
  have hb := bs0N
  have n1 := nilN_no
  have n2 := nilN_yes
  cases ad with
  | none =>
    have hl0 : l = [] := Classical.byContradiction fun q => by obtain ⟨_, _, e, _⟩ := h q; cases e
    subst hl0
    go_enter Try.func70, Try.ntmps70
    go_wp2
    go_ret
    exact ⟨none, 0, rfl, World.ownsRow_nil _ _ _ _, Below.refl _ _⟩
  | some a =>
    have hb0 := al1' w (.cells #[] 82)
    have hnews : ∀ j u, (fl l)[j]? = some u → (w.alloc (.cells #[] 82)).cell? (a.add j) = some u := by
      intro j u hj
      obtain ⟨b, off, e, _, hat⟩ := (h.carry hb0) (fun e => by subst e; simp [fl_nil] at hj)
      obtain rfl := Option.some.inj e
      exact nts_src hat j u hj
    have hown := World.ownsRow_lit (base := w.heap.size) (e := 82) (size := 3) w #[] 0 (Nat.le_refl _) (by unfold maxLen; omega) (by simp)
    go_enter Try.func70, Try.ntmps70
    go_wp2_with (at_builtin; refine wpList_append_own_at _ rfl _ _ 39 rfl w.heap.size 82 ic _ 3 24 Try.underlying39 hic hz0 hz1 hz2 rfl (by decide) _ 0 [] rfl hown a l.length cap (fl l) rfl (fl_len l) hnews (fl_one l) (by unfold maxLen; omega) (by omega) (by simp) ?_; intro v u ho0 hgu hnn _; have hbu : Below w.heap.size w u := hb0.grown hgu (by simp) (fun q e => own_block hown q e); have ho : u.ownsRow w.heap.size 82 3 v l.length (fl l) := (by simpa using ho0))
    go_ret
    rcases own_form ho with ⟨e1, e2⟩ | ⟨g, c, e1, _⟩
    · exact ⟨none, 0, by rw [e1, e2]; rfl, by rw [e1, e2] at ho; rw [e2]; exact ho, hbu⟩
    · exact ⟨_, c, by rw [e1]; rfl, e1 ▸ ho, hbu⟩
end Go.Proofs.Ytndogopllcpiiaa
namespace Go.Proofs.Ytndogopllcpiiaa
open Go.RowKit Go.Shelf

theorem retQ {f : Func} {q : Tmp} {R : Ending → World → Prop} {a : Act} {w : World} {b : Nat} {v0 v1 v2 : Value} (hres : f.results = #[.cell q 47]) (hp : a.tmps.getD q undef = .pointer (some ⟨b, 0, none⟩)) (hd : a.defers = []) (h : w.heap[b]? = some (.cells #[v0, v1, v2] 47 (0, 0))) (hR : R (.returned (.agg #[v0, v1, v2])) w) : bodyPost Try.prog f R .ret a w :=
  bodyPost_ret (results_cell_row hres a.tmps w b _ _ (0, 0) _ hp h Try.underlying47 rfl (by kernel_rfl)) hd hR
theorem noticesQ_any (f r : Int) (ad : Option Addr) (cap : Nat) (l : List (Int × Int × Int)) (w : World) (h : RdN w ad l) (hl : l.length ≤ 5000000000000) : Calls Try.prog 50 #[.agg #[.int .i64 f, .int .i64 r, .slice ad l.length cap]] w fun e w' => ∃ a c, e = .returned (.slice a l.length c) ∧ w'.ownsRow w.heap.size 82 3 (.slice a l.length c) l.length (fl l) ∧ Below w.heap.size w w' := by
  have hb0 := al1' w (.cells #[.int .i64 f, .int .i64 r, .slice ad l.length cap] 47)
  have hcl := clone_any ad cap l _ (h.carry hb0) hl
  go_enter Try.func50, Try.ntmps50
  go_wp2_with (go_at_call 70; (with_reducible refine hcl.mono ?_); rintro e u1 ⟨a, c, rfl, ho, hb1⟩)
  go_ret
  exact ⟨a, c, rfl, ownsRow_base ho hb0.size, bel2 hb0 hb1⟩
set_option maxHeartbeats 1000000 in
set_option maxRecDepth 100000 in
theorem apartQ_any (f r : Int) (ad : Option Addr) (cap : Nat) (l : List (Int × Int × Int)) (w : World) (h : RdN w ad l) (hl : l.length ≤ 5000000000000) : Calls Try.prog 35 #[.agg #[.int .i64 f, .int .i64 r, .slice ad l.length cap]] w fun e w' => ∃ a c, e = .returned (.agg #[.int .i64 f, .int .i64 r, .slice a l.length c]) ∧ w'.ownsRow w.heap.size 82 3 (.slice a l.length c) l.length (fl l) ∧ Below w.heap.size w w' := by
  have hb0 := al2x w (.cells #[.int .i64 f, .int .i64 r, .slice ad l.length cap] 47) (.cells #[.int .i64 0, .int .i64 0, .slice none 0 0] 47)
  have hnt := noticesQ_any f r ad cap l _ (h.carry hb0) hl
  have hB : ((w.alloc (.cells #[.int .i64 f, .int .i64 r, .slice ad l.length cap] 47)).alloc (.cells #[.int .i64 0, .int .i64 0, .slice none 0 0] 47)).heap[w.heap.size]? = some (.cells #[.int .i64 f, .int .i64 r, .slice ad l.length cap] 47 (0, 0)) := old_at (new_at rfl)
  have hR : ((w.alloc (.cells #[.int .i64 f, .int .i64 r, .slice ad l.length cap] 47)).alloc (.cells #[.int .i64 0, .int .i64 0, .slice none 0 0] 47)).heap[w.heap.size + 1]? = some (.cells #[.int .i64 0, .int .i64 0, .slice none 0 0] 47 (0, 0)) := new_at (by simp)
  go_enter Try.func35, Try.ntmps35
  go_wp2_with (go_at_call 50; (with_reducible refine hnt.mono ?_); rintro e u1 ⟨a, c, rfl, ho, hb1⟩; have hB1 := (hb1.block _ (lt_at hB)).trans hB; have hR1 := (hb1.block _ (lt_at hR)).trans hR; have b0 := cell_at hB1 0; have r0 := cell_at hR1 0; have y0 := thaw_at hB1 0; have z0 := thaw_at hR1 0; have b1 := cell_at hB1 1; have r1 := cell_at hR1 1; have y1 := thaw_at hB1 1; have z1 := thaw_at hR1 1; have b2 := cell_at hB1 2; have r2 := cell_at hR1 2; have y2 := thaw_at hB1 2; have z2 := thaw_at hR1 2; simp at b0 r0 b1 r1 b2 r2)
  have hw1 : Below w.heap.size w u1 := bel2 hb0 hb1
  have hR2 := (Below.heap_setCell u1 ⟨w.heap.size, 2, none⟩ (.slice a l.length c) (w.heap.size + 1) (by simp)).trans hR1
  have ho := ownsRow_base ho (show w.heap.size + 2 ≤ _ by simp)
  exact retQ rfl rfl rfl ((set_get 2 _ (set_get 1 _ (set_get 0 _ hR2))).trans (by simp)) ⟨a, c, rfl, ownsRow_base (ownsRow_setCell_below (ownsRow_setCell_below (ownsRow_setCell_below (ownsRow_setCell_below ho (a := ⟨w.heap.size, 2, none⟩) (by simp) _) (a := ⟨w.heap.size + 1, 0, none⟩) (by simp) _) (a := ⟨w.heap.size + 1, 1, none⟩) (by simp) _) (a := ⟨w.heap.size + 1, 2, none⟩) (by simp) _) (by omega), ((((hw1.setCell (p := ⟨w.heap.size, 2, none⟩) (by simp) _).setCell (p := ⟨w.heap.size + 1, 0, none⟩) (by simp) _).setCell (p := ⟨w.heap.size + 1, 1, none⟩) (by simp) _).setCell (p := ⟨w.heap.size + 1, 2, none⟩) (by simp) _)⟩
theorem invQ_twin (v : Value) (w : World) : (method 226 47 v "earshot/wire.twin").run Try.prog w = .ok (96, v) w := by kernel_rfl
theorem twinQ_any (f r : Int) (ad : Option Addr) (cap : Nat) (l : List (Int × Int × Int)) (w : World) (h : RdN w ad l) (hl : l.length ≤ 5000000000000) : Calls Try.prog 96 #[.agg #[.int .i64 f, .int .i64 r, .slice ad l.length cap]] w fun e w' => ∃ a c, e = .returned (.iface 47 (.agg #[.int .i64 f, .int .i64 r, .slice a l.length c])) ∧ w'.ownsRow w.heap.size 82 3 (.slice a l.length c) l.length (fl l) ∧ Below w.heap.size w w' := by
  have hb0 := al1' w (.cells #[.int .i64 f, .int .i64 r, .slice ad l.length cap] 47)
  have hap := apartQ_any f r ad cap l _ (h.carry hb0) hl
  go_enter Try.func96, Try.ntmps96
  go_wp2_with (go_at_call 35; (with_reducible refine hap.mono ?_); rintro e u1 ⟨a, c, rfl, ho, hb1⟩)
  go_ret
  exact ⟨a, c, rfl, ownsRow_base ho hb0.size, bel2 hb0 hb1⟩
theorem retP {f : Func} {q : Tmp} {R : Ending → World → Prop} {a : Act} {w : World} {b : Nat} {v0 v1 v2 v3 v4 v5 v6 : Value} (hres : f.results = #[.cell q 50]) (hp : a.tmps.getD q undef = .pointer (some ⟨b, 0, none⟩)) (hd : a.defers = []) (h : w.heap[b]? = some (.cells #[v0, v1, v2, v3, v4, v5, v6] 50 (0, 0))) (hR : R (.returned (.agg #[v0, v1, v2, v3, v4, v5, v6])) w) : bodyPost Try.prog f R .ret a w :=
  bodyPost_ret (results_cell_row hres a.tmps w b _ _ (0, 0) _ hp h Try.underlying50 rfl (by kernel_rfl)) hd hR
theorem noticesP_any (f r x0 x1 x2 x3 : Int) (ad : Option Addr) (cap : Nat) (l : List (Int × Int × Int)) (w : World) (h : RdN w ad l) (hl : l.length ≤ 5000000000000) : Calls Try.prog 51 #[.agg #[.int .i64 f, .int .i64 r, .int .u32 x0, .int .u32 x1, .int .u32 x2, .int .u32 x3, .slice ad l.length cap]] w fun e w' => ∃ a c, e = .returned (.slice a l.length c) ∧ w'.ownsRow w.heap.size 82 3 (.slice a l.length c) l.length (fl l) ∧ Below w.heap.size w w' := by
  have hb0 := al1' w (.cells #[.int .i64 f, .int .i64 r, .int .u32 x0, .int .u32 x1, .int .u32 x2, .int .u32 x3, .slice ad l.length cap] 50)
  have hcl := clone_any ad cap l _ (h.carry hb0) hl
  go_enter Try.func51, Try.ntmps51
  go_wp2_with (go_at_call 70; (with_reducible refine hcl.mono ?_); rintro e u1 ⟨a, c, rfl, ho, hb1⟩)
  go_ret
  exact ⟨a, c, rfl, ownsRow_base ho hb0.size, bel2 hb0 hb1⟩
set_option maxHeartbeats 1000000 in
set_option maxRecDepth 100000 in
theorem apartP_any (f r x0 x1 x2 x3 : Int) (ad : Option Addr) (cap : Nat) (l : List (Int × Int × Int)) (w : World) (h : RdN w ad l) (hl : l.length ≤ 5000000000000) : Calls Try.prog 36 #[.agg #[.int .i64 f, .int .i64 r, .int .u32 x0, .int .u32 x1, .int .u32 x2, .int .u32 x3, .slice ad l.length cap]] w fun e w' => ∃ a c, e = .returned (.agg #[.int .i64 f, .int .i64 r, .int .u32 x0, .int .u32 x1, .int .u32 x2, .int .u32 x3, .slice a l.length c]) ∧ w'.ownsRow w.heap.size 82 3 (.slice a l.length c) l.length (fl l) ∧ Below w.heap.size w w' := by
  have hb0 := al2x w (.cells #[.int .i64 f, .int .i64 r, .int .u32 x0, .int .u32 x1, .int .u32 x2, .int .u32 x3, .slice ad l.length cap] 50) (.cells #[.int .i64 0, .int .i64 0, .int .u32 0, .int .u32 0, .int .u32 0, .int .u32 0, .slice none 0 0] 50)
  have hnt := noticesP_any f r x0 x1 x2 x3 ad cap l _ (h.carry hb0) hl
  have hB : ((w.alloc (.cells #[.int .i64 f, .int .i64 r, .int .u32 x0, .int .u32 x1, .int .u32 x2, .int .u32 x3, .slice ad l.length cap] 50)).alloc (.cells #[.int .i64 0, .int .i64 0, .int .u32 0, .int .u32 0, .int .u32 0, .int .u32 0, .slice none 0 0] 50)).heap[w.heap.size]? = some (.cells #[.int .i64 f, .int .i64 r, .int .u32 x0, .int .u32 x1, .int .u32 x2, .int .u32 x3, .slice ad l.length cap] 50 (0, 0)) := old_at (new_at rfl)
  have hR : ((w.alloc (.cells #[.int .i64 f, .int .i64 r, .int .u32 x0, .int .u32 x1, .int .u32 x2, .int .u32 x3, .slice ad l.length cap] 50)).alloc (.cells #[.int .i64 0, .int .i64 0, .int .u32 0, .int .u32 0, .int .u32 0, .int .u32 0, .slice none 0 0] 50)).heap[w.heap.size + 1]? = some (.cells #[.int .i64 0, .int .i64 0, .int .u32 0, .int .u32 0, .int .u32 0, .int .u32 0, .slice none 0 0] 50 (0, 0)) := new_at (by simp)
  go_enter Try.func36, Try.ntmps36
  go_wp2_with (go_at_call 51; (with_reducible refine hnt.mono ?_); rintro e u1 ⟨a, c, rfl, ho, hb1⟩; have hB1 := (hb1.block _ (lt_at hB)).trans hB; have hR1 := (hb1.block _ (lt_at hR)).trans hR; have b0 := cell_at hB1 0; have r0 := cell_at hR1 0; have y0 := thaw_at hB1 0; have z0 := thaw_at hR1 0; have b1 := cell_at hB1 1; have r1 := cell_at hR1 1; have y1 := thaw_at hB1 1; have z1 := thaw_at hR1 1; have b2 := cell_at hB1 2; have r2 := cell_at hR1 2; have y2 := thaw_at hB1 2; have z2 := thaw_at hR1 2; have b3 := cell_at hB1 3; have r3 := cell_at hR1 3; have y3 := thaw_at hB1 3; have z3 := thaw_at hR1 3; have b4 := cell_at hB1 4; have r4 := cell_at hR1 4; have y4 := thaw_at hB1 4; have z4 := thaw_at hR1 4; have b5 := cell_at hB1 5; have r5 := cell_at hR1 5; have y5 := thaw_at hB1 5; have z5 := thaw_at hR1 5; have b6 := cell_at hB1 6; have r6 := cell_at hR1 6; have y6 := thaw_at hB1 6; have z6 := thaw_at hR1 6; simp at b0 r0 b1 r1 b2 r2 b3 r3 b4 r4 b5 r5 b6 r6)
  have hw1 : Below w.heap.size w u1 := bel2 hb0 hb1
  have hR2 := (Below.heap_setCell u1 ⟨w.heap.size, 6, none⟩ (.slice a l.length c) (w.heap.size + 1) (by simp)).trans hR1
  have ho := ownsRow_base ho (show w.heap.size + 2 ≤ _ by simp)
  exact retP rfl rfl rfl ((set_get 6 _ (set_get 5 _ (set_get 4 _ (set_get 3 _ (set_get 2 _ (set_get 1 _ (set_get 0 _ hR2))))))).trans (by simp)) ⟨a, c, rfl, ownsRow_base (ownsRow_setCell_below (ownsRow_setCell_below (ownsRow_setCell_below (ownsRow_setCell_below (ownsRow_setCell_below (ownsRow_setCell_below (ownsRow_setCell_below (ownsRow_setCell_below ho (a := ⟨w.heap.size, 6, none⟩) (by simp) _) (a := ⟨w.heap.size + 1, 0, none⟩) (by simp) _) (a := ⟨w.heap.size + 1, 1, none⟩) (by simp) _) (a := ⟨w.heap.size + 1, 2, none⟩) (by simp) _) (a := ⟨w.heap.size + 1, 3, none⟩) (by simp) _) (a := ⟨w.heap.size + 1, 4, none⟩) (by simp) _) (a := ⟨w.heap.size + 1, 5, none⟩) (by simp) _) (a := ⟨w.heap.size + 1, 6, none⟩) (by simp) _) (by omega), ((((((((hw1.setCell (p := ⟨w.heap.size, 6, none⟩) (by simp) _).setCell (p := ⟨w.heap.size + 1, 0, none⟩) (by simp) _).setCell (p := ⟨w.heap.size + 1, 1, none⟩) (by simp) _).setCell (p := ⟨w.heap.size + 1, 2, none⟩) (by simp) _).setCell (p := ⟨w.heap.size + 1, 3, none⟩) (by simp) _).setCell (p := ⟨w.heap.size + 1, 4, none⟩) (by simp) _).setCell (p := ⟨w.heap.size + 1, 5, none⟩) (by simp) _).setCell (p := ⟨w.heap.size + 1, 6, none⟩) (by simp) _)⟩
theorem invP_twin (v : Value) (w : World) : (method 226 50 v "earshot/wire.twin").run Try.prog w = .ok (99, v) w := by kernel_rfl
theorem twinP_any (f r x0 x1 x2 x3 : Int) (ad : Option Addr) (cap : Nat) (l : List (Int × Int × Int)) (w : World) (h : RdN w ad l) (hl : l.length ≤ 5000000000000) : Calls Try.prog 99 #[.agg #[.int .i64 f, .int .i64 r, .int .u32 x0, .int .u32 x1, .int .u32 x2, .int .u32 x3, .slice ad l.length cap]] w fun e w' => ∃ a c, e = .returned (.iface 50 (.agg #[.int .i64 f, .int .i64 r, .int .u32 x0, .int .u32 x1, .int .u32 x2, .int .u32 x3, .slice a l.length c])) ∧ w'.ownsRow w.heap.size 82 3 (.slice a l.length c) l.length (fl l) ∧ Below w.heap.size w w' := by
  have hb0 := al1' w (.cells #[.int .i64 f, .int .i64 r, .int .u32 x0, .int .u32 x1, .int .u32 x2, .int .u32 x3, .slice ad l.length cap] 50)
  have hap := apartP_any f r x0 x1 x2 x3 ad cap l _ (h.carry hb0) hl
  go_enter Try.func99, Try.ntmps99
  go_wp2_with (go_at_call 36; (with_reducible refine hap.mono ?_); rintro e u1 ⟨a, c, rfl, ho, hb1⟩)
  go_ret
  exact ⟨a, c, rfl, ownsRow_base ho hb0.size, bel2 hb0 hb1⟩
theorem retU {f : Func} {q : Tmp} {R : Ending → World → Prop} {a : Act} {w : World} {b : Nat} {v0 v1 : Value} (hres : f.results = #[.cell q 53]) (hp : a.tmps.getD q undef = .pointer (some ⟨b, 0, none⟩)) (hd : a.defers = []) (h : w.heap[b]? = some (.cells #[v0, v1] 53 (0, 0))) (hR : R (.returned (.agg #[v0, v1])) w) : bodyPost Try.prog f R .ret a w :=
  bodyPost_ret (results_cell_row hres a.tmps w b _ _ (0, 0) _ hp h Try.underlying53 rfl (by kernel_rfl)) hd hR
theorem noticesU_any (f : Int) (ad : Option Addr) (cap : Nat) (l : List (Int × Int × Int)) (w : World) (h : RdN w ad l) (hl : l.length ≤ 5000000000000) : Calls Try.prog 52 #[.agg #[.int .i64 f, .slice ad l.length cap]] w fun e w' => ∃ a c, e = .returned (.slice a l.length c) ∧ w'.ownsRow w.heap.size 82 3 (.slice a l.length c) l.length (fl l) ∧ Below w.heap.size w w' := by
  have hb0 := al1' w (.cells #[.int .i64 f, .slice ad l.length cap] 53)
  have hcl := clone_any ad cap l _ (h.carry hb0) hl
  go_enter Try.func52, Try.ntmps52
  go_wp2_with (go_at_call 70; (with_reducible refine hcl.mono ?_); rintro e u1 ⟨a, c, rfl, ho, hb1⟩)
  go_ret
  exact ⟨a, c, rfl, ownsRow_base ho hb0.size, bel2 hb0 hb1⟩
set_option maxHeartbeats 1000000 in
set_option maxRecDepth 100000 in
theorem apartU_any (f : Int) (ad : Option Addr) (cap : Nat) (l : List (Int × Int × Int)) (w : World) (h : RdN w ad l) (hl : l.length ≤ 5000000000000) : Calls Try.prog 37 #[.agg #[.int .i64 f, .slice ad l.length cap]] w fun e w' => ∃ a c, e = .returned (.agg #[.int .i64 f, .slice a l.length c]) ∧ w'.ownsRow w.heap.size 82 3 (.slice a l.length c) l.length (fl l) ∧ Below w.heap.size w w' := by
  have hb0 := al2x w (.cells #[.int .i64 f, .slice ad l.length cap] 53) (.cells #[.int .i64 0, .slice none 0 0] 53)
  have hnt := noticesU_any f ad cap l _ (h.carry hb0) hl
  have hB : ((w.alloc (.cells #[.int .i64 f, .slice ad l.length cap] 53)).alloc (.cells #[.int .i64 0, .slice none 0 0] 53)).heap[w.heap.size]? = some (.cells #[.int .i64 f, .slice ad l.length cap] 53 (0, 0)) := old_at (new_at rfl)
  have hR : ((w.alloc (.cells #[.int .i64 f, .slice ad l.length cap] 53)).alloc (.cells #[.int .i64 0, .slice none 0 0] 53)).heap[w.heap.size + 1]? = some (.cells #[.int .i64 0, .slice none 0 0] 53 (0, 0)) := new_at (by simp)
  go_enter Try.func37, Try.ntmps37
  go_wp2_with (go_at_call 52; (with_reducible refine hnt.mono ?_); rintro e u1 ⟨a, c, rfl, ho, hb1⟩; have hB1 := (hb1.block _ (lt_at hB)).trans hB; have hR1 := (hb1.block _ (lt_at hR)).trans hR; have b0 := cell_at hB1 0; have r0 := cell_at hR1 0; have y0 := thaw_at hB1 0; have z0 := thaw_at hR1 0; have b1 := cell_at hB1 1; have r1 := cell_at hR1 1; have y1 := thaw_at hB1 1; have z1 := thaw_at hR1 1; simp at b0 r0 b1 r1)
  have hw1 : Below w.heap.size w u1 := bel2 hb0 hb1
  have hR2 := (Below.heap_setCell u1 ⟨w.heap.size, 1, none⟩ (.slice a l.length c) (w.heap.size + 1) (by simp)).trans hR1
  have ho := ownsRow_base ho (show w.heap.size + 2 ≤ _ by simp)
  exact retU rfl rfl rfl ((set_get 1 _ (set_get 0 _ hR2)).trans (by simp)) ⟨a, c, rfl, ownsRow_base (ownsRow_setCell_below (ownsRow_setCell_below (ownsRow_setCell_below ho (a := ⟨w.heap.size, 1, none⟩) (by simp) _) (a := ⟨w.heap.size + 1, 0, none⟩) (by simp) _) (a := ⟨w.heap.size + 1, 1, none⟩) (by simp) _) (by omega), (((hw1.setCell (p := ⟨w.heap.size, 1, none⟩) (by simp) _).setCell (p := ⟨w.heap.size + 1, 0, none⟩) (by simp) _).setCell (p := ⟨w.heap.size + 1, 1, none⟩) (by simp) _)⟩
theorem invU_twin (v : Value) (w : World) : (method 226 53 v "earshot/wire.twin").run Try.prog w = .ok (102, v) w := by kernel_rfl
theorem twinU_any (f : Int) (ad : Option Addr) (cap : Nat) (l : List (Int × Int × Int)) (w : World) (h : RdN w ad l) (hl : l.length ≤ 5000000000000) : Calls Try.prog 102 #[.agg #[.int .i64 f, .slice ad l.length cap]] w fun e w' => ∃ a c, e = .returned (.iface 53 (.agg #[.int .i64 f, .slice a l.length c])) ∧ w'.ownsRow w.heap.size 82 3 (.slice a l.length c) l.length (fl l) ∧ Below w.heap.size w w' := by
  have hb0 := al1' w (.cells #[.int .i64 f, .slice ad l.length cap] 53)
  have hap := apartU_any f ad cap l _ (h.carry hb0) hl
  go_enter Try.func102, Try.ntmps102
  go_wp2_with (go_at_call 37; (with_reducible refine hap.mono ?_); rintro e u1 ⟨a, c, rfl, ho, hb1⟩)
  go_ret
  exact ⟨a, c, rfl, ownsRow_base ho hb0.size, bel2 hb0 hb1⟩
end Go.Proofs.Ytndogopllcpiiaa
namespace Go.Proofs.Ytndogopllcpiiaa
open Go.RowKit Go.Shelf

theorem open_ok (ad : Option Addr) (cap : Nat) (bs : List Nat) (n : Int) (w : World) (h : RdB w ad bs) (hb : Byt bs) (hc : bs.length ≤ cap) (kd fr rd N : Nat) (l : List (Int × Int × Int)) (hd : dec n bs = .ok (kd, fr, rd, N, l)) : Calls Try.prog 9 #[.slice ad bs.length cap, .int .i64 n] w fun e w' => ∃ a c, e = .returned (.tuple #[.agg #[noteV kd fr rd N (.slice a l.length c)], .int .i64 0]) ∧ w'.ownsRow w.heap.size 82 3 (.slice a l.length c) l.length (fl l) ∧ Below w.heap.size w w' := by
  have hb0 := al1' w (.cells #[.nilIface] 27)
  have hde := decode_any ad cap bs n (w.alloc (.cells #[.nilIface] 27)) (h.carry hb0) hb hc
  unfold DcO at hde
  rw [hd] at hde
  have hde2 : Calls Try.prog 23 #[.slice ad bs.length cap, .int .i64 n] (w.alloc (.cells #[.nilIface] 27)) fun e w' => ∃ a c t x, e = .returned (.tuple #[.iface t x, .int .i64 0]) ∧ Hid (noteV kd (fr : Int) (rd : Int) N (.slice a l.length c) = .iface t x) ∧ w'.ownsRow (w.alloc (.cells #[.nilIface] 27)).heap.size 82 3 (.slice a l.length c) l.length (fl l) ∧ Below (w.alloc (.cells #[.nilIface] 27)).heap.size (w.alloc (.cells #[.nilIface] 27)) w' := hde.mono (by
    rintro e w' ⟨a, c, rfl, h1, h2⟩
    obtain ⟨t, x, hx⟩ := noteV_form kd fr rd N (.slice a l.length c)
    exact ⟨a, c, t, x, by rw [hx], hx, h1, h2⟩)
  have hB : (w.alloc (.cells #[.nilIface] 27)).heap[w.heap.size]? = some (.cells #[.nilIface] 27 (0, 0)) := new_at rfl
  clear hde hd
  go_enter Try.func9, Try.ntmps9
  go_wp2_with (go_at_call 23; (with_reducible refine hde2.mono ?_); rintro e u1 ⟨a, c, t, x, rfl, HX, ho, hb1⟩; have hB1 := (hb1.block _ (lt_at hB)).trans hB; have c0 := cell_at hB1 0; simp at c0; have z0 := thaw_at hB1 0)
  exact bodyPost_ret (res2o (x := .iface t x) (y := .int .i64 0) rfl rfl ((set_get 0 _ hB1).trans (by simp))) rfl ⟨a, c, by rw [HX.out], ownsRow_base (ownsRow_setCell_below ho (a := ⟨w.heap.size, 0, none⟩) (by simp) _) (by simp), (bel2 hb0 hb1).setCell (p := ⟨w.heap.size, 0, none⟩) (Nat.le_refl _) _⟩
theorem pnote_nil (w : World) : Calls Try.prog 10 #[.agg #[.nilIface]] w fun e w' => e = .returned .nilIface ∧ Below w.heap.size w w' := by
  have ny := nil_yes
  go_enter Try.func10, Try.ntmps10
  go_wp2
  go_ret
  exact ⟨rfl, al1' w _⟩
set_option maxHeartbeats 1000000 in
theorem pnoteQ (f r : Int) (ad : Option Addr) (cap : Nat) (l : List (Int × Int × Int)) (w : World) (h : RdN w ad l) (hl : l.length ≤ 5000000000000) : Calls Try.prog 10 #[.agg #[.iface 47 (.agg #[.int .i64 f, .int .i64 r, .slice ad l.length cap])]] w fun e w' => ∃ a c, e = .returned (.iface 47 (.agg #[.int .i64 f, .int .i64 r, .slice a l.length c])) ∧ w'.ownsRow w.heap.size 82 3 (.slice a l.length c) l.length (fl l) ∧ Below w.heap.size w w' := by
  have nn := nil_no
  have iv := invQ_twin
  have hb0 := al1' w (.cells #[.iface 47 (.agg #[.int .i64 f, .int .i64 r, .slice ad l.length cap])] 27)
  have htw := twinQ_any f r ad cap l _ (h.carry hb0) hl
  go_enter Try.func10, Try.ntmps10
  go_wp2_with (go_at_call 96; (with_reducible refine htw.mono ?_); rintro e u1 ⟨a, c, rfl, ho, hb1⟩)
  go_ret
  exact ⟨a, c, rfl, ownsRow_base ho hb0.size, bel2 hb0 hb1⟩
theorem oneQ (v : Value) (w : World) : (Instr.typeAssert (.iface 47 v) 25 47 false).run Try.prog w = .ok v w := by kernel_rfl
set_option maxHeartbeats 1000000 in
set_option maxRecDepth 100000 in
theorem pQ_yes (f r : Int) (ad : Option Addr) (cap : Nat) (l : List (Int × Int × Int)) (w : World) (h : RdN w ad l) (hl : l.length ≤ 5000000000000) : Calls Try.prog 14 #[.agg #[.iface 47 (.agg #[.int .i64 f, .int .i64 r, .slice ad l.length cap])]] w fun e w' => ∃ a c, e = .returned (.agg #[.int .i64 f, .int .i64 r, .slice a l.length c]) ∧ w'.ownsRow w.heap.size 82 3 (.slice a l.length c) l.length (fl l) ∧ Below w.heap.size w w' := by
  have hon := oneQ
  have hb0 := al2x w (.cells #[.iface 47 (.agg #[.int .i64 f, .int .i64 r, .slice ad l.length cap])] 27) (.cells #[.int .i64 0, .int .i64 0, .slice none 0 0] 47)
  have hap := apartQ_any f r ad cap l _ (h.carry hb0) hl
  have hR : ((w.alloc (.cells #[.iface 47 (.agg #[.int .i64 f, .int .i64 r, .slice ad l.length cap])] 27)).alloc (.cells #[.int .i64 0, .int .i64 0, .slice none 0 0] 47)).heap[w.heap.size + 1]? = some (.cells #[.int .i64 0, .int .i64 0, .slice none 0 0] 47 (0, 0)) := new_at (by simp)
  go_enter Try.func14, Try.ntmps14
  go_wp2_with (go_at_call 35; (with_reducible refine hap.mono ?_); rintro e u1 ⟨a, c, rfl, ho, hb1⟩; have hR1 := (hb1.block _ (lt_at hR)).trans hR; have r0 := cell_at hR1 0; have z0 := thaw_at hR1 0; have r1 := cell_at hR1 1; have z1 := thaw_at hR1 1; have r2 := cell_at hR1 2; have z2 := thaw_at hR1 2; simp at r0 r1 r2)
  have hw1 : Below w.heap.size w u1 := bel2 hb0 hb1
  have ho := ownsRow_base ho (show w.heap.size + 2 ≤ _ by simp)
  exact retQ rfl rfl rfl ((set_get 2 _ (set_get 1 _ (set_get 0 _ hR1))).trans (by simp)) ⟨a, c, rfl, ownsRow_base (ownsRow_setCell_below (ownsRow_setCell_below (ownsRow_setCell_below ho (a := ⟨w.heap.size + 1, 0, none⟩) (by simp) _) (a := ⟨w.heap.size + 1, 1, none⟩) (by simp) _) (a := ⟨w.heap.size + 1, 2, none⟩) (by simp) _) (by omega), (((hw1.setCell (p := ⟨w.heap.size + 1, 0, none⟩) (by simp) _).setCell (p := ⟨w.heap.size + 1, 1, none⟩) (by simp) _).setCell (p := ⟨w.heap.size + 1, 2, none⟩) (by simp) _)⟩
theorem resAQ {tmps : Array Value} {W : World} {a : Nat} {v0 v1 v2 : Value} {y : Value} (h4 : tmps[2]?.getD undef = .pointer (some ⟨a, 0, none⟩)) (h5 : tmps[3]?.getD undef = y) (hx : W.heap[a]? = some (.cells #[v0, v1, v2] 47 (0, 0))) : (results Try.f26 tmps).run Try.prog W = .ok (.tuple #[.agg #[v0, v1, v2], y]) W := by
  have c0 := cell_at hx 0
  have c1 := cell_at hx 1
  have c2 := cell_at hx 2
  simp at c0 c1 c2
  simp [results, Try.results26, go_sem, h4, h5, c0, c1, c2]
set_option maxHeartbeats 1000000 in
set_option maxRecDepth 100000 in
theorem asQ_in (X : Value) (ok : Bool) (f r : Int) (ad : Option Addr) (cap : Nat) (l : List (Int × Int × Int)) (w : World) (h : RdN w ad l) (hl : l.length ≤ 5000000000000) (hX : ∀ w, (Instr.typeAssert X 25 47 true).run Try.prog w = .ok (.tuple #[.agg #[.int .i64 f, .int .i64 r, .slice ad l.length cap], .bool ok]) w) (hXf : X = .nilIface ∨ ∃ t x, X = .iface t x) : Calls Try.prog 26 #[.agg #[X]] w fun e w' => ∃ a c, e = .returned (.tuple #[.agg #[.int .i64 f, .int .i64 r, .slice a l.length c], .bool ok]) ∧ w'.ownsRow w.heap.size 82 3 (.slice a l.length c) l.length (fl l) ∧ Below w.heap.size w w' := by
  have hb0 : Below w.heap.size w (((w.alloc (.cells #[X] 27)).alloc (.cells #[.int .i64 0, .int .i64 0, .slice none 0 0] 47)).alloc (.cells #[.int .i64 f, .int .i64 r, .slice ad l.length cap] 47)) := (al2x w _ _).alloc (by simp; omega) _
  have hap := apartQ_any f r ad cap l _ (h.carry hb0) hl
  have hR : (((w.alloc (.cells #[X] 27)).alloc (.cells #[.int .i64 0, .int .i64 0, .slice none 0 0] 47)).alloc (.cells #[.int .i64 f, .int .i64 r, .slice ad l.length cap] 47)).heap[w.heap.size + 1]? = some (.cells #[.int .i64 0, .int .i64 0, .slice none 0 0] 47 (0, 0)) := old_at (new_at (by simp))
  rcases hXf with rfl | ⟨tX, xX, rfl⟩
  all_goals
    go_enter Try.func26, Try.ntmps26
    go_wp2_with (go_at_call 35; (with_reducible refine hap.mono ?_); rintro e u1 ⟨a, c, rfl, ho, hb1⟩; have hR1 := (hb1.block _ (lt_at hR)).trans hR; have r0 := cell_at hR1 0; have z0 := thaw_at hR1 0; have r1 := cell_at hR1 1; have z1 := thaw_at hR1 1; have r2 := cell_at hR1 2; have z2 := thaw_at hR1 2; simp at r0 r1 r2)
    have hw1 : Below w.heap.size w u1 := bel2 hb0 hb1
    have ho := ownsRow_base ho (show w.heap.size + 3 ≤ _ by simp)
    exact bodyPost_ret (resAQ rfl rfl ((set_get 2 _ (set_get 1 _ (set_get 0 _ hR1))).trans (by simp))) rfl ⟨a, c, rfl, ownsRow_base (ownsRow_setCell_below (ownsRow_setCell_below (ownsRow_setCell_below ho (a := ⟨w.heap.size + 1, 0, none⟩) (by simp) _) (a := ⟨w.heap.size + 1, 1, none⟩) (by simp) _) (a := ⟨w.heap.size + 1, 2, none⟩) (by simp) _) (by omega), (((hw1.setCell (p := ⟨w.heap.size + 1, 0, none⟩) (by simp) _).setCell (p := ⟨w.heap.size + 1, 1, none⟩) (by simp) _).setCell (p := ⟨w.heap.size + 1, 2, none⟩) (by simp) _)⟩
set_option maxHeartbeats 1000000 in
theorem pnoteP (f r x0 x1 x2 x3 : Int) (ad : Option Addr) (cap : Nat) (l : List (Int × Int × Int)) (w : World) (h : RdN w ad l) (hl : l.length ≤ 5000000000000) : Calls Try.prog 10 #[.agg #[.iface 50 (.agg #[.int .i64 f, .int .i64 r, .int .u32 x0, .int .u32 x1, .int .u32 x2, .int .u32 x3, .slice ad l.length cap])]] w fun e w' => ∃ a c, e = .returned (.iface 50 (.agg #[.int .i64 f, .int .i64 r, .int .u32 x0, .int .u32 x1, .int .u32 x2, .int .u32 x3, .slice a l.length c])) ∧ w'.ownsRow w.heap.size 82 3 (.slice a l.length c) l.length (fl l) ∧ Below w.heap.size w w' := by
  have nn := nil_no
  have iv := invP_twin
  have hb0 := al1' w (.cells #[.iface 50 (.agg #[.int .i64 f, .int .i64 r, .int .u32 x0, .int .u32 x1, .int .u32 x2, .int .u32 x3, .slice ad l.length cap])] 27)
  have htw := twinP_any f r x0 x1 x2 x3 ad cap l _ (h.carry hb0) hl
  go_enter Try.func10, Try.ntmps10
  go_wp2_with (go_at_call 99; (with_reducible refine htw.mono ?_); rintro e u1 ⟨a, c, rfl, ho, hb1⟩)
  go_ret
  exact ⟨a, c, rfl, ownsRow_base ho hb0.size, bel2 hb0 hb1⟩
theorem oneP (v : Value) (w : World) : (Instr.typeAssert (.iface 50 v) 25 50 false).run Try.prog w = .ok v w := by kernel_rfl
set_option maxHeartbeats 1000000 in
set_option maxRecDepth 100000 in
theorem pP_yes (f r x0 x1 x2 x3 : Int) (ad : Option Addr) (cap : Nat) (l : List (Int × Int × Int)) (w : World) (h : RdN w ad l) (hl : l.length ≤ 5000000000000) : Calls Try.prog 15 #[.agg #[.iface 50 (.agg #[.int .i64 f, .int .i64 r, .int .u32 x0, .int .u32 x1, .int .u32 x2, .int .u32 x3, .slice ad l.length cap])]] w fun e w' => ∃ a c, e = .returned (.agg #[.int .i64 f, .int .i64 r, .int .u32 x0, .int .u32 x1, .int .u32 x2, .int .u32 x3, .slice a l.length c]) ∧ w'.ownsRow w.heap.size 82 3 (.slice a l.length c) l.length (fl l) ∧ Below w.heap.size w w' := by
  have hon := oneP
  have hb0 := al2x w (.cells #[.iface 50 (.agg #[.int .i64 f, .int .i64 r, .int .u32 x0, .int .u32 x1, .int .u32 x2, .int .u32 x3, .slice ad l.length cap])] 27) (.cells #[.int .i64 0, .int .i64 0, .int .u32 0, .int .u32 0, .int .u32 0, .int .u32 0, .slice none 0 0] 50)
  have hap := apartP_any f r x0 x1 x2 x3 ad cap l _ (h.carry hb0) hl
  have hR : ((w.alloc (.cells #[.iface 50 (.agg #[.int .i64 f, .int .i64 r, .int .u32 x0, .int .u32 x1, .int .u32 x2, .int .u32 x3, .slice ad l.length cap])] 27)).alloc (.cells #[.int .i64 0, .int .i64 0, .int .u32 0, .int .u32 0, .int .u32 0, .int .u32 0, .slice none 0 0] 50)).heap[w.heap.size + 1]? = some (.cells #[.int .i64 0, .int .i64 0, .int .u32 0, .int .u32 0, .int .u32 0, .int .u32 0, .slice none 0 0] 50 (0, 0)) := new_at (by simp)
  go_enter Try.func15, Try.ntmps15
  go_wp2_with (go_at_call 36; (with_reducible refine hap.mono ?_); rintro e u1 ⟨a, c, rfl, ho, hb1⟩; have hR1 := (hb1.block _ (lt_at hR)).trans hR; have r0 := cell_at hR1 0; have z0 := thaw_at hR1 0; have r1 := cell_at hR1 1; have z1 := thaw_at hR1 1; have r2 := cell_at hR1 2; have z2 := thaw_at hR1 2; have r3 := cell_at hR1 3; have z3 := thaw_at hR1 3; have r4 := cell_at hR1 4; have z4 := thaw_at hR1 4; have r5 := cell_at hR1 5; have z5 := thaw_at hR1 5; have r6 := cell_at hR1 6; have z6 := thaw_at hR1 6; simp at r0 r1 r2 r3 r4 r5 r6)
  have hw1 : Below w.heap.size w u1 := bel2 hb0 hb1
  have ho := ownsRow_base ho (show w.heap.size + 2 ≤ _ by simp)
  exact retP rfl rfl rfl ((set_get 6 _ (set_get 5 _ (set_get 4 _ (set_get 3 _ (set_get 2 _ (set_get 1 _ (set_get 0 _ hR1))))))).trans (by simp)) ⟨a, c, rfl, ownsRow_base (ownsRow_setCell_below (ownsRow_setCell_below (ownsRow_setCell_below (ownsRow_setCell_below (ownsRow_setCell_below (ownsRow_setCell_below (ownsRow_setCell_below ho (a := ⟨w.heap.size + 1, 0, none⟩) (by simp) _) (a := ⟨w.heap.size + 1, 1, none⟩) (by simp) _) (a := ⟨w.heap.size + 1, 2, none⟩) (by simp) _) (a := ⟨w.heap.size + 1, 3, none⟩) (by simp) _) (a := ⟨w.heap.size + 1, 4, none⟩) (by simp) _) (a := ⟨w.heap.size + 1, 5, none⟩) (by simp) _) (a := ⟨w.heap.size + 1, 6, none⟩) (by simp) _) (by omega), (((((((hw1.setCell (p := ⟨w.heap.size + 1, 0, none⟩) (by simp) _).setCell (p := ⟨w.heap.size + 1, 1, none⟩) (by simp) _).setCell (p := ⟨w.heap.size + 1, 2, none⟩) (by simp) _).setCell (p := ⟨w.heap.size + 1, 3, none⟩) (by simp) _).setCell (p := ⟨w.heap.size + 1, 4, none⟩) (by simp) _).setCell (p := ⟨w.heap.size + 1, 5, none⟩) (by simp) _).setCell (p := ⟨w.heap.size + 1, 6, none⟩) (by simp) _)⟩
theorem resAP {tmps : Array Value} {W : World} {a : Nat} {v0 v1 v2 v3 v4 v5 v6 : Value} {y : Value} (h4 : tmps[2]?.getD undef = .pointer (some ⟨a, 0, none⟩)) (h5 : tmps[3]?.getD undef = y) (hx : W.heap[a]? = some (.cells #[v0, v1, v2, v3, v4, v5, v6] 50 (0, 0))) : (results Try.f27 tmps).run Try.prog W = .ok (.tuple #[.agg #[v0, v1, v2, v3, v4, v5, v6], y]) W := by
  have c0 := cell_at hx 0
  have c1 := cell_at hx 1
  have c2 := cell_at hx 2
  have c3 := cell_at hx 3
  have c4 := cell_at hx 4
  have c5 := cell_at hx 5
  have c6 := cell_at hx 6
  simp at c0 c1 c2 c3 c4 c5 c6
  simp [results, Try.results27, go_sem, h4, h5, c0, c1, c2, c3, c4, c5, c6]
set_option maxHeartbeats 1000000 in
set_option maxRecDepth 100000 in
theorem asP_in (X : Value) (ok : Bool) (f r x0 x1 x2 x3 : Int) (ad : Option Addr) (cap : Nat) (l : List (Int × Int × Int)) (w : World) (h : RdN w ad l) (hl : l.length ≤ 5000000000000) (hX : ∀ w, (Instr.typeAssert X 25 50 true).run Try.prog w = .ok (.tuple #[.agg #[.int .i64 f, .int .i64 r, .int .u32 x0, .int .u32 x1, .int .u32 x2, .int .u32 x3, .slice ad l.length cap], .bool ok]) w) (hXf : X = .nilIface ∨ ∃ t x, X = .iface t x) : Calls Try.prog 27 #[.agg #[X]] w fun e w' => ∃ a c, e = .returned (.tuple #[.agg #[.int .i64 f, .int .i64 r, .int .u32 x0, .int .u32 x1, .int .u32 x2, .int .u32 x3, .slice a l.length c], .bool ok]) ∧ w'.ownsRow w.heap.size 82 3 (.slice a l.length c) l.length (fl l) ∧ Below w.heap.size w w' := by
  have hb0 : Below w.heap.size w (((w.alloc (.cells #[X] 27)).alloc (.cells #[.int .i64 0, .int .i64 0, .int .u32 0, .int .u32 0, .int .u32 0, .int .u32 0, .slice none 0 0] 50)).alloc (.cells #[.int .i64 f, .int .i64 r, .int .u32 x0, .int .u32 x1, .int .u32 x2, .int .u32 x3, .slice ad l.length cap] 50)) := (al2x w _ _).alloc (by simp; omega) _
  have hap := apartP_any f r x0 x1 x2 x3 ad cap l _ (h.carry hb0) hl
  have hR : (((w.alloc (.cells #[X] 27)).alloc (.cells #[.int .i64 0, .int .i64 0, .int .u32 0, .int .u32 0, .int .u32 0, .int .u32 0, .slice none 0 0] 50)).alloc (.cells #[.int .i64 f, .int .i64 r, .int .u32 x0, .int .u32 x1, .int .u32 x2, .int .u32 x3, .slice ad l.length cap] 50)).heap[w.heap.size + 1]? = some (.cells #[.int .i64 0, .int .i64 0, .int .u32 0, .int .u32 0, .int .u32 0, .int .u32 0, .slice none 0 0] 50 (0, 0)) := old_at (new_at (by simp))
  rcases hXf with rfl | ⟨tX, xX, rfl⟩
  all_goals
    go_enter Try.func27, Try.ntmps27
    go_wp2_with (go_at_call 36; (with_reducible refine hap.mono ?_); rintro e u1 ⟨a, c, rfl, ho, hb1⟩; have hR1 := (hb1.block _ (lt_at hR)).trans hR; have r0 := cell_at hR1 0; have z0 := thaw_at hR1 0; have r1 := cell_at hR1 1; have z1 := thaw_at hR1 1; have r2 := cell_at hR1 2; have z2 := thaw_at hR1 2; have r3 := cell_at hR1 3; have z3 := thaw_at hR1 3; have r4 := cell_at hR1 4; have z4 := thaw_at hR1 4; have r5 := cell_at hR1 5; have z5 := thaw_at hR1 5; have r6 := cell_at hR1 6; have z6 := thaw_at hR1 6; simp at r0 r1 r2 r3 r4 r5 r6)
    have hw1 : Below w.heap.size w u1 := bel2 hb0 hb1
    have ho := ownsRow_base ho (show w.heap.size + 3 ≤ _ by simp)
    exact bodyPost_ret (resAP rfl rfl ((set_get 6 _ (set_get 5 _ (set_get 4 _ (set_get 3 _ (set_get 2 _ (set_get 1 _ (set_get 0 _ hR1))))))).trans (by simp))) rfl ⟨a, c, rfl, ownsRow_base (ownsRow_setCell_below (ownsRow_setCell_below (ownsRow_setCell_below (ownsRow_setCell_below (ownsRow_setCell_below (ownsRow_setCell_below (ownsRow_setCell_below ho (a := ⟨w.heap.size + 1, 0, none⟩) (by simp) _) (a := ⟨w.heap.size + 1, 1, none⟩) (by simp) _) (a := ⟨w.heap.size + 1, 2, none⟩) (by simp) _) (a := ⟨w.heap.size + 1, 3, none⟩) (by simp) _) (a := ⟨w.heap.size + 1, 4, none⟩) (by simp) _) (a := ⟨w.heap.size + 1, 5, none⟩) (by simp) _) (a := ⟨w.heap.size + 1, 6, none⟩) (by simp) _) (by omega), (((((((hw1.setCell (p := ⟨w.heap.size + 1, 0, none⟩) (by simp) _).setCell (p := ⟨w.heap.size + 1, 1, none⟩) (by simp) _).setCell (p := ⟨w.heap.size + 1, 2, none⟩) (by simp) _).setCell (p := ⟨w.heap.size + 1, 3, none⟩) (by simp) _).setCell (p := ⟨w.heap.size + 1, 4, none⟩) (by simp) _).setCell (p := ⟨w.heap.size + 1, 5, none⟩) (by simp) _).setCell (p := ⟨w.heap.size + 1, 6, none⟩) (by simp) _)⟩
set_option maxHeartbeats 1000000 in
theorem pnoteU (f : Int) (ad : Option Addr) (cap : Nat) (l : List (Int × Int × Int)) (w : World) (h : RdN w ad l) (hl : l.length ≤ 5000000000000) : Calls Try.prog 10 #[.agg #[.iface 53 (.agg #[.int .i64 f, .slice ad l.length cap])]] w fun e w' => ∃ a c, e = .returned (.iface 53 (.agg #[.int .i64 f, .slice a l.length c])) ∧ w'.ownsRow w.heap.size 82 3 (.slice a l.length c) l.length (fl l) ∧ Below w.heap.size w w' := by
  have nn := nil_no
  have iv := invU_twin
  have hb0 := al1' w (.cells #[.iface 53 (.agg #[.int .i64 f, .slice ad l.length cap])] 27)
  have htw := twinU_any f ad cap l _ (h.carry hb0) hl
  go_enter Try.func10, Try.ntmps10
  go_wp2_with (go_at_call 102; (with_reducible refine htw.mono ?_); rintro e u1 ⟨a, c, rfl, ho, hb1⟩)
  go_ret
  exact ⟨a, c, rfl, ownsRow_base ho hb0.size, bel2 hb0 hb1⟩
theorem oneU (v : Value) (w : World) : (Instr.typeAssert (.iface 53 v) 25 53 false).run Try.prog w = .ok v w := by kernel_rfl
set_option maxHeartbeats 1000000 in
set_option maxRecDepth 100000 in
theorem pU_yes (f : Int) (ad : Option Addr) (cap : Nat) (l : List (Int × Int × Int)) (w : World) (h : RdN w ad l) (hl : l.length ≤ 5000000000000) : Calls Try.prog 16 #[.agg #[.iface 53 (.agg #[.int .i64 f, .slice ad l.length cap])]] w fun e w' => ∃ a c, e = .returned (.agg #[.int .i64 f, .slice a l.length c]) ∧ w'.ownsRow w.heap.size 82 3 (.slice a l.length c) l.length (fl l) ∧ Below w.heap.size w w' := by
  have hon := oneU
  have hb0 := al2x w (.cells #[.iface 53 (.agg #[.int .i64 f, .slice ad l.length cap])] 27) (.cells #[.int .i64 0, .slice none 0 0] 53)
  have hap := apartU_any f ad cap l _ (h.carry hb0) hl
  have hR : ((w.alloc (.cells #[.iface 53 (.agg #[.int .i64 f, .slice ad l.length cap])] 27)).alloc (.cells #[.int .i64 0, .slice none 0 0] 53)).heap[w.heap.size + 1]? = some (.cells #[.int .i64 0, .slice none 0 0] 53 (0, 0)) := new_at (by simp)
  go_enter Try.func16, Try.ntmps16
  go_wp2_with (go_at_call 37; (with_reducible refine hap.mono ?_); rintro e u1 ⟨a, c, rfl, ho, hb1⟩; have hR1 := (hb1.block _ (lt_at hR)).trans hR; have r0 := cell_at hR1 0; have z0 := thaw_at hR1 0; have r1 := cell_at hR1 1; have z1 := thaw_at hR1 1; simp at r0 r1)
  have hw1 : Below w.heap.size w u1 := bel2 hb0 hb1
  have ho := ownsRow_base ho (show w.heap.size + 2 ≤ _ by simp)
  exact retU rfl rfl rfl ((set_get 1 _ (set_get 0 _ hR1)).trans (by simp)) ⟨a, c, rfl, ownsRow_base (ownsRow_setCell_below (ownsRow_setCell_below ho (a := ⟨w.heap.size + 1, 0, none⟩) (by simp) _) (a := ⟨w.heap.size + 1, 1, none⟩) (by simp) _) (by omega), ((hw1.setCell (p := ⟨w.heap.size + 1, 0, none⟩) (by simp) _).setCell (p := ⟨w.heap.size + 1, 1, none⟩) (by simp) _)⟩
theorem resAU {tmps : Array Value} {W : World} {a : Nat} {v0 v1 : Value} {y : Value} (h4 : tmps[2]?.getD undef = .pointer (some ⟨a, 0, none⟩)) (h5 : tmps[3]?.getD undef = y) (hx : W.heap[a]? = some (.cells #[v0, v1] 53 (0, 0))) : (results Try.f28 tmps).run Try.prog W = .ok (.tuple #[.agg #[v0, v1], y]) W := by
  have c0 := cell_at hx 0
  have c1 := cell_at hx 1
  simp at c0 c1
  simp [results, Try.results28, go_sem, h4, h5, c0, c1]
set_option maxHeartbeats 1000000 in
set_option maxRecDepth 100000 in
theorem asU_in (X : Value) (ok : Bool) (f : Int) (ad : Option Addr) (cap : Nat) (l : List (Int × Int × Int)) (w : World) (h : RdN w ad l) (hl : l.length ≤ 5000000000000) (hX : ∀ w, (Instr.typeAssert X 25 53 true).run Try.prog w = .ok (.tuple #[.agg #[.int .i64 f, .slice ad l.length cap], .bool ok]) w) (hXf : X = .nilIface ∨ ∃ t x, X = .iface t x) : Calls Try.prog 28 #[.agg #[X]] w fun e w' => ∃ a c, e = .returned (.tuple #[.agg #[.int .i64 f, .slice a l.length c], .bool ok]) ∧ w'.ownsRow w.heap.size 82 3 (.slice a l.length c) l.length (fl l) ∧ Below w.heap.size w w' := by
  have hb0 : Below w.heap.size w (((w.alloc (.cells #[X] 27)).alloc (.cells #[.int .i64 0, .slice none 0 0] 53)).alloc (.cells #[.int .i64 f, .slice ad l.length cap] 53)) := (al2x w _ _).alloc (by simp; omega) _
  have hap := apartU_any f ad cap l _ (h.carry hb0) hl
  have hR : (((w.alloc (.cells #[X] 27)).alloc (.cells #[.int .i64 0, .slice none 0 0] 53)).alloc (.cells #[.int .i64 f, .slice ad l.length cap] 53)).heap[w.heap.size + 1]? = some (.cells #[.int .i64 0, .slice none 0 0] 53 (0, 0)) := old_at (new_at (by simp))
  rcases hXf with rfl | ⟨tX, xX, rfl⟩
  all_goals
    go_enter Try.func28, Try.ntmps28
    go_wp2_with (go_at_call 37; (with_reducible refine hap.mono ?_); rintro e u1 ⟨a, c, rfl, ho, hb1⟩; have hR1 := (hb1.block _ (lt_at hR)).trans hR; have r0 := cell_at hR1 0; have z0 := thaw_at hR1 0; have r1 := cell_at hR1 1; have z1 := thaw_at hR1 1; simp at r0 r1)
    have hw1 : Below w.heap.size w u1 := bel2 hb0 hb1
    have ho := ownsRow_base ho (show w.heap.size + 3 ≤ _ by simp)
    exact bodyPost_ret (resAU rfl rfl ((set_get 1 _ (set_get 0 _ hR1)).trans (by simp))) rfl ⟨a, c, rfl, ownsRow_base (ownsRow_setCell_below (ownsRow_setCell_below ho (a := ⟨w.heap.size + 1, 0, none⟩) (by simp) _) (a := ⟨w.heap.size + 1, 1, none⟩) (by simp) _) (by omega), ((hw1.setCell (p := ⟨w.heap.size + 1, 0, none⟩) (by simp) _).setCell (p := ⟨w.heap.size + 1, 1, none⟩) (by simp) _)⟩
end Go.Proofs.Ytndogopllcpiiaa
