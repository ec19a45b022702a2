/- The document's bag: copied, has, At: what they answer. -/
import Derived.Test.YtjfbnikbmadgkaaGreatBgl
import Derived.Laws.AppendOwnNone
namespace Go.Proofs.YtjfbnikbmadgkaaGreat
open Go.RowKit Go.Shelf

set_option maxHeartbeats 2000000 in
set_option maxRecDepth 100000 in
theorem copied_any (x : Gr) (a : Option Addr) (c : Nat) (w : World) (h : RdB w a x.2.2.2) (hl : x.2.2.2.length ≤ 100000) (hc : a = none → c = 0) : Calls Tryz.prog 82 #[gV x a c] w fun e w' => ∃ a' c', e = .returned (gV x a' c') ∧ w'.ownsRow w.heap.size 5 1 (.slice a' x.2.2.2.length c') x.2.2.2.length (cB x.2.2.2) ∧ Below w.heap.size w w' := by
  obtain ⟨ic, hic, hz0, hz1, hz2⟩ := info_parts infoB
  obtain ⟨xi, xf, xt, xd⟩ := x
  dsimp only at h hl ⊢
  obtain ⟨V, hV⟩ : ∃ V, (w.alloc (.cells #[.int .i64 xi, .int .i64 xf, .int .i64 xt, .slice a xd.length c] 62)).alloc (.cells #[.int .i64 0, .int .i64 0, .int .i64 0, .slice none 0 0] 62) = V := ⟨_, rfl⟩
  have hb : Below w.heap.size w V := by rw [← hV]; exact bel2 (al1' _ _) (al1' _ _)
  have hzV : V.heap.size = w.heap.size + 2 := by rw [← hV]; simp
  have g1 : GB V w.heap.size xi xf xt (.slice a xd.length c) := by rw [← hV]; exact old_at (new_at rfl)
  have g2 : GB V (w.heap.size + 1) 0 0 0 (.slice none 0 0) := by rw [← hV]; exact new_at (by simp)
  have p3 := g1.c3
  have q3 := g1.thaw 3
  have hnil := World.ownsRow_nil V V.heap.size 5 1
  have HZV : Hid (V.heap.size = w.heap.size + 2) := hzV
  unfold gV
  have fin : ∀ (u : World) (a' : Option Addr) (c' : Nat), u.ownsRow V.heap.size 5 1 (.slice a' xd.length c') xd.length (cB xd) → Below V.heap.size V u → GB (W4 (u.setCell ⟨w.heap.size, 3, none⟩ (.slice a' xd.length c')) (w.heap.size + 1) xi xf xt (.slice a' xd.length c')) (w.heap.size + 1) xi xf xt (.slice a' xd.length c') ∧ (W4 (u.setCell ⟨w.heap.size, 3, none⟩ (.slice a' xd.length c')) (w.heap.size + 1) xi xf xt (.slice a' xd.length c')).ownsRow w.heap.size 5 1 (.slice a' xd.length c') xd.length (cB xd) ∧ Below w.heap.size w (W4 (u.setCell ⟨w.heap.size, 3, none⟩ (.slice a' xd.length c')) (w.heap.size + 1) xi xf xt (.slice a' xd.length c')) := by
    intro u a' c' ho hbu
    have h2 : GB (u.setCell ⟨w.heap.size, 3, none⟩ (.slice a' xd.length c')) (w.heap.size + 1) 0 0 0 (.slice none 0 0) := (Below.heap_setCell u ⟨w.heap.size, 3, none⟩ _ _ (by show w.heap.size + 1 ≠ w.heap.size; omega)).trans (g2.carry hbu)
    have hnb : ∀ k, (Value.slice a' xd.length c').ownBlock = some k → V.heap.size ≤ k := own_block ho
    have n0 : (Value.slice a' xd.length c').ownBlock ≠ some w.heap.size := fun e => by have := hnb _ e; omega
    have n1 : (Value.slice a' xd.length c').ownBlock ≠ some (w.heap.size + 1) := fun e => by have := hnb _ e; omega
    refine ⟨h2.set _ _ _ _, row_other (row_other (row_other (row_other (row_other (row_base ho (by omega)) n0 _) n1 _) n1 _) n1 _) n1 _, below4 (((hb.trans (hbu.mono (by omega)))).setCell (p := ⟨w.heap.size, 3, none⟩) (Nat.le_refl _) _) (Nat.le_succ _) _ _ _ _⟩
  clear hzV
  cases a with
  | none =>
    have hd0 : xd = [] := Classical.byContradiction fun q => by obtain ⟨_, _, e, _⟩ := h q; cases e
    subst hd0
    obtain rfl := hc rfl
    obtain ⟨f1, f2, f3⟩ := fin V none 0 hnil (Below.refl _ _)
    have p3 : V.cell? ⟨w.heap.size, 3, none⟩ = some (.slice none 0 0) := p3
    have hV : (w.alloc (.cells #[.int .i64 xi, .int .i64 xf, .int .i64 xt, .slice none 0 0] 62)).alloc (.cells #[.int .i64 0, .int .i64 0, .int .i64 0, .slice none 0 0] 62) = V := hV
    clear fin
    have k0 := g1.c0
    have k1 := g1.c1
    have k2 := g1.c2
    have r0 := g2.c0
    have r1 := g2.c1
    have r2 := g2.c2
    have r3 := g2.c3
    have z0 := g2.thaw 0
    have z1 := g2.thaw 1
    have z2 := g2.thaw 2
    have z3 := g2.thaw 3
    go_enter Tryz.func82, Tryz.ntmps82
    go_wp2_with (at_builtin; refine wpList_append_own_none rfl _ _ 55 rfl V.heap.size 5 ic 1 Tryz.underlying55 hic (.slice none 0 0) 0 [] rfl hnil rfl ?_)
    exact retG rfl rfl rfl f1 ⟨none, 0, rfl, f2, f3⟩
  | some a0 =>
    have hnews : ∀ j u, (cB xd)[j]? = some u → V.cell? (a0.add j) = some u := by
      intro j u hj
      obtain ⟨b, off, e, _, hat⟩ := (h.carry hb) (fun e => by subst e; simp [cB] at hj)
      obtain rfl := Option.some.inj e
      exact b_src hat j u hj
    go_enter Tryz.func82, Tryz.ntmps82
    go_wp2_with (at_builtin; refine wpList_append_own_at _ rfl _ _ 55 rfl V.heap.size 5 ic _ 1 1 Tryz.underlying55 hic hz0 hz1 hz2 rfl (by decide) (.slice none 0 0) 0 [] rfl hnil a0 xd.length c (cB xd) rfl (by rw [cB_len]; omega) hnews (cB_one xd) (by unfold maxLen; omega) (by omega) (Nat.le_refl _) ?_; intro v u ho0 hgu hnn _; have hbu : Below V.heap.size V u := (Below.refl _ V).grown hgu (Nat.le_refl _) (fun q e => by cases e); have ho : u.ownsRow V.heap.size 5 1 v xd.length (cB xd) := (by simpa using ho0); obtain ⟨a', c', rfl⟩ := row_form ho; have gu := g1.carry hbu; have k0 := gu.c0; have k1 := gu.c1; have k2 := gu.c2; have k3 := gu.c3; have y3 := gu.thaw 3; have gv2 := g2.carry hbu; have r0 := gv2.c0; have r1 := gv2.c1; have r2 := gv2.c2; have r3 := gv2.c3; have z0 := gv2.thaw 0; have z1 := gv2.thaw 1; have z2 := gv2.thaw 2; have z3 := gv2.thaw 3)
    obtain ⟨f1, f2, f3⟩ := fin u a' c' ho hbu
    exact retG rfl rfl rfl f1 ⟨a', c', rfl, f2, f3⟩
/-- A bag of the document's: its three cells from o on in the block lb, its row. -/
structure Rg (W : World) (base lb o : Nat) (ad : Option Addr) (cap : Nat) (last most : Int) (l : List Gr) (av : List (Option Addr × Nat)) : Prop where
  cL : W.cell? ⟨lb, o, none⟩ = some (.slice ad l.length cap)
  cA : W.cell? ⟨lb, o + 1, none⟩ = some (.int .i64 last)
  cM : W.cell? ⟨lb, o + 2, none⟩ = some (.int .i64 most)
  blk : ∃ cur, W.heap[lb]? = some (.cells cur 48 (0, 0))
  row : W.ownsRow base 62 4 (.slice ad l.length cap) l.length (flG l av)
  len : av.length = l.length
  dat : ∀ (k : Nat) (x : Gr) (a : Option Addr × Nat), l[k]? = some x → av[k]? = some a → RdY W a.1 x.2.2.2 ∧ (a.1 = none → a.2 = 0)
  few : ∀ x ∈ l, x.2.2.2.length ≤ 1024 ∧ Byt x.2.2.2
  most1 : most ≤ 65536
  le : (l.length : Int) ≤ most
section
variable {w : World} {base lb o : Nat} {ad : Option Addr} {cap : Nat} {last most : Int} {l : List Gr} {av : List (Option Addr × Nat)}
theorem Rg.lt (h : Rg w base lb o ad cap last most l av) : lb < w.heap.size := by
  obtain ⟨cur, hc⟩ := h.blk
  exact lt_at hc
theorem Rg.thaw (h : Rg w base lb o ad cap last most l av) (j : Nat) : w.frozen? ⟨lb, j, none⟩ = false := by
  obtain ⟨cur, hc⟩ := h.blk
  exact thaw_at hc j
theorem Rg.carry {w' : World} (h : Rg w base lb o ad cap last most l av) (hb : Below w.heap.size w w') : Rg w' base lb o ad cap last most l av := by
  have hl := h.lt
  obtain ⟨cur, hc⟩ := h.blk
  exact ⟨(hb.cell (p := ⟨lb, _, none⟩) hl).trans h.cL, (hb.cell (p := ⟨lb, _, none⟩) hl).trans h.cA, (hb.cell (p := ⟨lb, _, none⟩) hl).trans h.cM, ⟨cur, (hb.block _ hl).trans hc⟩, row_below h.row hb, h.len, fun k x a h1 h2 => ⟨(h.dat k x a h1 h2).1.carry hb, (h.dat k x a h1 h2).2⟩, h.few, h.most1, h.le⟩
/-- The datagram at a place. -/
theorem Rg.get (h : Rg w base lb o ad cap last most l av) {k : Nat} {x : Gr} (hk : l[k]? = some x) : ∃ (g : Nat) (a : Option Addr × Nat), ad = some ⟨g, 0, none⟩ ∧ av[k]? = some a ∧ w.cell? ⟨g, k * 4, none⟩ = some (.int .i64 x.1) ∧ w.cell? ⟨g, k * 4 + 1, none⟩ = some (.int .i64 x.2.1) ∧ w.cell? ⟨g, k * 4 + 2, none⟩ = some (.int .i64 x.2.2.1) ∧ w.cell? ⟨g, k * 4 + 3, none⟩ = some (.slice a.1 x.2.2.2.length a.2) ∧ RdY w a.1 x.2.2.2 ∧ (a.1 = none → a.2 = 0) := by
  have hlt := (List.getElem?_eq_some_iff.1 hk).1
  obtain ⟨a, ha⟩ : ∃ a, av[k]? = some a := ⟨_, List.getElem?_eq_getElem (by rw [h.len]; exact hlt)⟩
  obtain ⟨c0, c1, c2, c3⟩ := flG_get l av k x a hk ha
  rcases own_form h.row with ⟨_, e⟩ | ⟨g, cap', e, _⟩
  · omega
  · simp only [Value.slice.injEq] at e
    obtain ⟨rfl, _, rfl⟩ := e
    exact ⟨g, a, rfl, ha, (h.row.cellAt _ (by omega)).trans c0, (h.row.cellAt _ (by omega)).trans c1, (h.row.cellAt _ (by omega)).trans c2, (h.row.cellAt _ (by omega)).trans c3, (h.dat k x a hk ha).1, (h.dat k x a hk ha).2⟩
theorem field_r (W : World) (B o f : Nat) (hf : f < 3) : (Instr.fieldAt 45 (.pointer (some ⟨B, o, none⟩)) f).run Tryz.prog W = .ok (.pointer (some ⟨B, o + f, none⟩)) W := by
  match f, hf with
  | 0, _ => go_simp
  | 1, _ => go_simp
  | 2, _ => go_simp
set_option maxHeartbeats 1000000 in
set_option maxRecDepth 100000 in
theorem has_any (h : Rg w base lb o ad cap last most l av) (i : Int) : Calls Tryz.prog 84 #[.pointer (some ⟨lb, o, none⟩), .int .i64 i] w fun e w' => e = .returned (.bool (decide (0 ≤ i ∧ i < (l.length : Int)))) ∧ w' = w := by
  have cL := h.cL
  by_cases h0 : 0 ≤ i
  · have h1 : i ≥ 0 := h0
    by_cases h2 : i < (l.length : Int)
    · have hd : decide (0 ≤ i ∧ i < (l.length : Int)) = true := decide_eq_true ⟨h0, h2⟩
      rw [hd]
      go_enter Tryz.func84, Tryz.ntmps84
      go_wp2
      go_ret
      exact ⟨rfl, rfl⟩
    · have hd : decide (0 ≤ i ∧ i < (l.length : Int)) = false := decide_eq_false (fun e => h2 e.2)
      rw [hd]
      go_enter Tryz.func84, Tryz.ntmps84
      go_wp2
      go_ret
      exact ⟨rfl, rfl⟩
  · have h1 : ¬ i ≥ 0 := h0
    have hd : decide (0 ≤ i ∧ i < (l.length : Int)) = false := decide_eq_false (fun e => h0 e.1)
    rw [hd]
    go_enter Tryz.func84, Tryz.ntmps84
    go_wp2
    go_ret
    exact ⟨rfl, rfl⟩
set_option maxHeartbeats 2000000 in
set_option maxRecDepth 100000 in
theorem rAt_any (h : Rg w base lb o ad cap last most l av) (i : Int) : Calls Tryz.prog 16 #[.pointer (some ⟨lb, o, none⟩), .int .i64 i] w fun e w' => ∃ a c, e = .returned (.tuple #[gV (sAt l i).1 a c, .int .i64 (sAt l i).2]) ∧ w'.ownsRow w.heap.size 5 1 (.slice a (sAt l i).1.2.2.2.length c) (sAt l i).1.2.2.2.length (cB (sAt l i).1.2.2.2) ∧ Below w.heap.size w w' := by
  obtain ⟨V, hV⟩ : ∃ V, w.alloc (.cells #[.int .i64 0, .int .i64 0, .int .i64 0, .slice none 0 0] 62) = V := ⟨_, rfl⟩
  have hb : Below w.heap.size w V := by rw [← hV]; exact al1' _ _
  have hG : GB V w.heap.size 0 0 0 (.slice none 0 0) := by rw [← hV]; exact new_at rfl
  have hR := h.carry hb
  have hhs := has_any hR i
  have cL := hR.cL
  have f0 := hG.c0
  have f1 := hG.c1
  have f2 := hG.c2
  have f3 := hG.c3
  have z0 := hG.thaw 0
  have z1 := hG.thaw 1
  have z2 := hG.thaw 2
  have z3 := hG.thaw 3
  by_cases hi : 0 ≤ i ∧ i < (l.length : Int)
  · rw [decide_eq_true hi] at hhs
    obtain ⟨k, rfl⟩ := Int.eq_ofNat_of_zero_le hi.1
    have hkl : k < l.length := by omega
    obtain ⟨⟨xi, xf, xt, xd⟩, hx⟩ : ∃ x, l[k]? = some x := ⟨_, List.getElem?_eq_getElem hkl⟩
    rw [sAt_ok hx]
    obtain ⟨g, a, rfl, ha, c0, c1, c2, c3, hd, hnc⟩ := hR.get hx
    dsimp only at c0 c1 c2 c3 hd
    have hfw := (hR.few _ (List.mem_of_getElem? hx)).1
    dsimp only at hfw
    have hix : ∀ W, (Instr.indexAt 43 (.slice (some ⟨g, 0, none⟩) l.length cap) (.int .i64 (k : Int))).run Tryz.prog W = .ok (.pointer (some ⟨g, k * 4, none⟩)) W := fun W => by have := idx_G g 0 l.length cap k hkl W; rw [Nat.zero_add] at this; exact this
    have hcp := copied_any (xi, xf, xt, xd) a.1 a.2 V hd.rd (by show xd.length ≤ _; omega) hnc
    unfold gV at hcp ⊢
    dsimp only at hcp ⊢
    clear hi hx f0 f1 f2 f3 z0 z1 z2 z3
    go_enter Tryz.func16, Tryz.ntmps16
    go_wp2_with (first | (go_at_call 84; (with_reducible refine hhs.mono ?_); rintro e u1 ⟨rfl, rfl⟩) | (go_at_call 82; (with_reducible refine hcp.mono ?_); rintro e u2 ⟨a', c', rfl, ho, hb2⟩; have hG2 := hG.carry hb2; have f0 := hG2.c0; have f1 := hG2.c1; have f2 := hG2.c2; have f3 := hG2.c3; have z0 := hG2.thaw 0; have z1 := hG2.thaw 1; have z2 := hG2.thaw 2; have z3 := hG2.thaw 3))
    refine retGt rfl rfl rfl rfl (hG2.set xi xf xt (.slice a' xd.length c')) ?_
    refine ⟨a', c', rfl, ?_, below4 (bel2 hb hb2) (Nat.le_refl _) _ _ _ _⟩
    have hlt := lt_at hG
    have hn0 : (Value.slice a' xd.length c').ownBlock ≠ some w.heap.size := fun e => by have := own_block ho _ e; omega
    exact row_other (row_other (row_other (row_other (row_base ho hb.size) hn0 _) hn0 _) hn0 _) hn0 _
  · rw [decide_eq_false hi] at hhs
    rw [sAt_no hi]
    unfold gV g0
    clear hi
    go_enter Tryz.func16, Tryz.ntmps16
    go_wp2_with (go_at_call 84; (with_reducible refine hhs.mono ?_); rintro e u1 ⟨rfl, rfl⟩)
    refine retGt rfl rfl rfl rfl (hG.set 0 0 0 (.slice none 0 0)) ?_
    exact ⟨none, 0, rfl, World.ownsRow_nil _ _ _ _, below4 hb (Nat.le_refl _) _ _ _ _⟩
end
end Go.Proofs.YtjfbnikbmadgkaaGreat
