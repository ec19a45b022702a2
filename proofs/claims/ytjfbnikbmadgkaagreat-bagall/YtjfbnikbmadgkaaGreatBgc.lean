/- bag's told, putIn, takeOut; slices.Clone of pointers: what they answer. -/
import Derived.Test.YtjfbnikbmadgkaaGreatBgb
import Derived.Laws.ResultCell
import Derived.Laws.Rows
namespace Go.Proofs.YtjfbnikbmadgkaaGreat
open Go.RowKit Go.Shelf

/-- A datagram in a box. -/
def GB (W : World) (b : Nat) (i f t : Int) (v : Value) : Prop := W.heap[b]? = some (.cells #[.int .i64 i, .int .i64 f, .int .i64 t, v] 62 (0, 0))
section
variable {W : World} {b : Nat} {i f t : Int} {v : Value}
theorem GB.c0 (h : GB W b i f t v) : W.cell? ⟨b, 0, none⟩ = some (.int .i64 i) := cell_at h 0
theorem GB.c1 (h : GB W b i f t v) : W.cell? ⟨b, 1, none⟩ = some (.int .i64 f) := cell_at h 1
theorem GB.c2 (h : GB W b i f t v) : W.cell? ⟨b, 2, none⟩ = some (.int .i64 t) := cell_at h 2
theorem GB.c3 (h : GB W b i f t v) : W.cell? ⟨b, 3, none⟩ = some v := cell_at h 3
theorem GB.thaw (h : GB W b i f t v) (j : Nat) : W.frozen? ⟨b, j, none⟩ = false := thaw_at h j
theorem GB.carry {W' : World} (h : GB W b i f t v) (hb : Below W.heap.size W W') : GB W' b i f t v := (hb.block _ (lt_at h)).trans h
theorem GB.set3 (h : GB W b i f t v) (v' : Value) : GB (W.setCell ⟨b, 3, none⟩ v') b i f t v' := by
  unfold GB
  have := heap_setCell_same _ _ 3 _ _ v' h
  simpa using this
/-- Four cells put. -/
def W4 (W : World) (B : Nat) (i f t : Int) (v : Value) : World := (((W.setCell ⟨B, 0, none⟩ (.int .i64 i)).setCell ⟨B, 1, none⟩ (.int .i64 f)).setCell ⟨B, 2, none⟩ (.int .i64 t)).setCell ⟨B, 3, none⟩ v
theorem GB.set (h : GB W b i f t v) (i' f' t' : Int) (v' : Value) : GB (W4 W b i' f' t' v') b i' f' t' v' := by
  unfold GB W4
  have h0 := heap_setCell_same _ _ 0 _ _ (.int .i64 i') h
  have h1 := heap_setCell_same _ _ 1 _ _ (.int .i64 f') h0
  have h2 := heap_setCell_same _ _ 2 _ _ (.int .i64 t') h1
  have h3 := heap_setCell_same _ _ 3 _ _ v' h2
  simpa using h3
theorem below4 {w0 w : World} {n B : Nat} (hb : Below n w0 w) (hB : n ≤ B) (i f t : Int) (v : Value) : Below n w0 (W4 w B i f t v) := (((hb.setCell hB _).setCell hB _).setCell hB _).setCell hB _
theorem other4 {w : World} {B k : Nat} (h : k ≠ B) (i f t : Int) (v : Value) : (W4 w B i f t v).heap[k]? = w.heap[k]? := by
  unfold W4
  rw [Below.heap_setCell _ _ _ _ h, Below.heap_setCell _ _ _ _ h, Below.heap_setCell _ _ _ _ h, Below.heap_setCell _ _ _ _ h]
theorem retG {fn : Func} {p : Tmp} {R : Ending → World → Prop} {a : Act} {ad : Option Addr} {n c : Nat} (hres : fn.results = #[.cell p 62]) (hp : a.tmps.getD p undef = .pointer (some ⟨b, 0, none⟩)) (hd : a.defers = []) (h : GB W b i f t (.slice ad n c)) (hR : R (.returned (.agg #[.int .i64 i, .int .i64 f, .int .i64 t, .slice ad n c])) W) : bodyPost Tryz.prog fn R .ret a W := by
  refine bodyPost_ret (v := .agg #[.int .i64 i, .int .i64 f, .int .i64 t, .slice ad n c]) ?_ hd hR
  have hp' : a.tmps[p]?.getD undef = .pointer (some ⟨b, 0, none⟩) := by simpa using hp
  have c0 := h.c0
  have c1 := h.c1
  have c2 := h.c2
  have c3 := h.c3
  simp [results, hres, hp', asAddr]
  go_simp
theorem retGt {fn : Func} {p q : Tmp} {R : Ending → World → Prop} {a : Act} {ad : Option Addr} {n c : Nat} {x : Value} (hres : fn.results = #[.cell p 62, .tmp q]) (hp : a.tmps.getD p undef = .pointer (some ⟨b, 0, none⟩)) (hq : a.tmps.getD q undef = x) (hd : a.defers = []) (h : GB W b i f t (.slice ad n c)) (hR : R (.returned (.tuple #[.agg #[.int .i64 i, .int .i64 f, .int .i64 t, .slice ad n c], x])) W) : bodyPost Tryz.prog fn R .ret a W := by
  refine bodyPost_ret (v := .tuple #[.agg #[.int .i64 i, .int .i64 f, .int .i64 t, .slice ad n c], x]) ?_ hd hR
  have hp' : a.tmps[p]?.getD undef = .pointer (some ⟨b, 0, none⟩) := by simpa using hp
  have hq' : a.tmps[q]?.getD undef = x := by simpa using hq
  have c0 := h.c0
  have c1 := h.c1
  have c2 := h.c2
  have c3 := h.c3
  simp [results, hres, hp', hq', asAddr]
  go_simp
end
section
variable {W : World} {base p : Nat} {ad : Option Addr} {cap : Nat} {room last : Int} {ps : List Nat} {l : List Gr}
/-- A datagram's value. -/
def gV (x : Gr) (a : Option Addr) (c : Nat) : Value := .agg #[.int .i64 x.1, .int .i64 x.2.1, .int .i64 x.2.2.1, .slice a x.2.2.2.length c]
set_option maxHeartbeats 2000000 in
set_option maxRecDepth 100000 in
theorem told_any {σ : Nat → Prop} {q : Nat} {x : Gr} (h : GmAt σ W q x) : Calls Tryz.prog 81 #[.pointer (some ⟨q, 0, none⟩)] W fun e w' => ∃ a c, e = .returned (gV x a c) ∧ w'.ownsRow W.heap.size 5 1 (.slice a x.2.2.2.length c) x.2.2.2.length (cB x.2.2.2) ∧ Below W.heap.size W w' := by
  obtain ⟨ad, c, h, _⟩ := h
  obtain ⟨id, fr, to, d⟩ := x
  have hf := h.few
  have e0 := cell_at h.obj 0
  have e1 := cell_at h.obj 1
  have e2 := cell_at h.obj 2
  have e3 := cell_at h.obj 3
  simp only [List.getElem?_toArray, List.getElem?_cons_zero, List.getElem?_cons_succ] at e0 e1 e2 e3
  dsimp only at e0 e1 e2 e3 hf
  obtain ⟨o0, ho0⟩ : ∃ o : Obj, o = .cells #[.int .i64 0, .int .i64 0, .int .i64 0, .slice none 0 0] 62 := ⟨_, rfl⟩
  obtain ⟨o1, ho1⟩ : ∃ o : Obj, o = .cells #[.int .i64 id, .int .i64 fr, .int .i64 to, .slice ad d.length c] 62 := ⟨_, rfl⟩
  obtain ⟨V, hV⟩ : ∃ V, (W.alloc o0).alloc o1 = V := ⟨_, rfl⟩
  have hbV : Below W.heap.size W V := by rw [← hV]; exact ((Below.refl _ W).alloc (Nat.le_refl _) _).alloc (by simp) _
  have hzV : V.heap.size = W.heap.size + 2 := by rw [← hV]; simp
  have hV0 : V.heap[W.heap.size]? = some o0 := by rw [← hV]; exact old_at (new_at rfl)
  have hV1 : V.heap[W.heap.size + 1]? = some o1 := by rw [← hV]; exact new_at (by simp)
  have hcl := cloneB_any ad c d V (h.dat.rd.carry hbV) (by omega)
  have hq := lt_at h.obj
  have e3V : V.cell? ⟨q, 3, none⟩ = some (.slice ad d.length c) := (hbV.cell (p := ⟨q, 3, none⟩) hq).trans e3
  clear h
  subst ho0 ho1
  unfold gV
  go_enter Tryz.func81, Tryz.ntmps81
  go_wp2_with (go_at_call 115; (with_reducible refine hcl.mono ?_); rintro e u ⟨a, c2, rfl, ho, hb⟩; have hu0 := (hb.block _ (lt_at hV0)).trans hV0; have hu1 := (hb.block _ (lt_at hV1)).trans hV1; clear hV0 hV1 hV hcl; have f0 := cell_at hu0 0; have f1 := cell_at hu0 1; have f2 := cell_at hu0 2; have f3 := cell_at hu0 3; have g0 := cell_at hu1 0; have g1 := cell_at hu1 1; have g2 := cell_at hu1 2; have g3 := cell_at hu1 3; simp only [List.getElem?_toArray, List.getElem?_cons_zero, List.getElem?_cons_succ] at f0 f1 f2 f3 g0 g1 g2 g3; have z0 := thaw_at hu0 0; have z1 := thaw_at hu0 1; have z2 := thaw_at hu0 2; have z3 := thaw_at hu0 3; have y3 := thaw_at hu1 3)
  have hw : W.heap.size + 1 ≠ W.heap.size := by omega
  have hu2 : GB (u.setCell ⟨W.heap.size + 1, 3, none⟩ (.slice a d.length c2)) W.heap.size 0 0 0 (.slice none 0 0) := (Below.heap_setCell _ _ _ _ (Nat.ne_of_lt (Nat.lt_succ_self _))).trans hu0
  refine retG rfl rfl rfl (hu2.set id fr to (.slice a d.length c2)) ?_
  have hbu : Below W.heap.size W u := hbV.trans (hb.mono (by omega))
  refine ⟨a, c2, rfl, ?_, below4 (hbu.setCell (Nat.le_succ _) _) (Nat.le_refl _) _ _ _ _⟩
  have ho1 := row_base ho (show W.heap.size ≤ V.heap.size by omega)
  have hnb : ∀ k, (Value.slice a d.length c2).ownBlock = some k → V.heap.size ≤ k := own_block ho
  have r1 := row_other (j := 3) ho1 (fun e => by have := hnb _ e; omega : (Value.slice a d.length c2).ownBlock ≠ some (W.heap.size + 1)) (.slice a d.length c2)
  have hn0 : (Value.slice a d.length c2).ownBlock ≠ some W.heap.size := fun e => by have := hnb _ e; omega
  exact row_other (row_other (row_other (row_other r1 hn0 _) hn0 _) hn0 _) hn0 _
theorem bs0P (W : World) : (Instr.buildSlice 52 0 #[]).run Tryz.prog W = .ok (.slice (some ⟨W.heap.size, 0, none⟩) 0 0) (W.alloc (.cells #[] 104)) := by go_simp
theorem nilP_no (a : Addr) (n c : Nat) (w : World) : (binOp .eql 52 (.slice (some a) n c) (.slice none 0 0)).run Tryz.prog w = .ok (.bool false) w := by kernel_rfl
theorem nilP_yes (n c : Nat) (w : World) : (binOp .eql 52 (.slice none n c) (.slice none 0 0)).run Tryz.prog w = .ok (.bool true) w := by kernel_rfl
theorem p_src {W : World} {base g n cap : Nat} {l : List Nat} (h : W.ownsRow base 104 1 (.slice (some ⟨g, 0, none⟩) n cap) n (cP l)) (i : Nat) (hn : n = l.length) : ∀ j u, (cP (l.drop i))[j]? = some u → W.cell? ((⟨g, i, none⟩ : Addr).add j) = some u := by
  intro j u hj
  rw [add_pl]
  have h1 : (cP l)[i + j]? = some u := by simpa [cP, List.getElem?_drop] using hj
  have hlt : i + j < (cP l).length := (List.getElem?_eq_some_iff.1 h1).1
  rw [cP_len] at hlt
  exact (h.cellAt _ (by omega)).trans h1
set_option maxHeartbeats 1000000 in
set_option maxRecDepth 100000 in
theorem cloneP_any (ad : Option Addr) (cap base : Nat) (l : List Nat) (w : World) (h : w.ownsRow base 104 1 (.slice ad l.length cap) l.length (cP l)) (hl : l.length ≤ 100000000) : Calls Tryz.prog 119 #[.slice ad l.length cap] w fun e w' => ∃ a c, e = .returned (.slice a l.length c) ∧ w'.ownsRow w.heap.size 104 1 (.slice a l.length c) l.length (cP l) ∧ Below w.heap.size w w' := by
  obtain ⟨ic, hic, hz0, hz1, hz2⟩ := info_parts infoP
  have hb := bs0P
  have n1 := nilP_no
  have n2 := nilP_yes
  rcases own_form h with ⟨e1, e2⟩ | ⟨g, cap', e1, _⟩
  · simp only [Value.slice.injEq] at e1
    have hl0 : l = [] := List.length_eq_zero_iff.1 e2
    subst hl0
    obtain ⟨rfl, _, rfl⟩ := e1
    go_enter Tryz.func119, Tryz.ntmps119
    go_wp2
    go_ret
    exact ⟨none, 0, rfl, World.ownsRow_nil _ _ _ _, Below.refl _ _⟩
  · simp only [Value.slice.injEq] at e1
    obtain ⟨rfl, _, rfl⟩ := e1
    have hb0 := al1' w (.cells #[] 104)
    have hnews : ∀ j u, (cP l)[j]? = some u → (w.alloc (.cells #[] 104)).cell? ((⟨g, 0, none⟩ : Addr).add j) = some u := p_src (row_below h hb0) 0 rfl
    have hown := World.ownsRow_lit (base := w.heap.size) (e := 104) (size := 1) w #[] 0 (Nat.le_refl _) (by unfold maxLen; omega) (by simp)
    clear h
    go_enter Tryz.func119, Tryz.ntmps119
    go_wp2_with (at_builtin; refine wpList_append_own_at _ rfl _ _ 52 rfl w.heap.size 104 ic _ 1 8 Tryz.underlying52 hic hz0 hz1 hz2 rfl (by decide) _ 0 [] rfl hown ⟨g, 0, none⟩ l.length cap (cP l) rfl (by rw [cP_len]; omega) hnews (cP_one l) (by unfold maxLen; omega) (by omega) (by simp) ?_; intro v u ho0 hgu hnn _; have hbu : Below w.heap.size w u := hb0.grown hgu (by simp) (fun q e => own_block hown q e); have ho : u.ownsRow w.heap.size 104 1 v l.length (cP l) := (by simpa using ho0))
    go_ret
    rcases own_form ho with ⟨e1, e2⟩ | ⟨g, c, e1, _⟩
    · exact ⟨none, 0, by rw [e1, e2]; rfl, by rw [e1, e2] at ho; rw [e2]; exact ho, hbu⟩
    · exact ⟨_, c, by rw [e1]; rfl, e1 ▸ ho, hbu⟩
end
end Go.Proofs.YtjfbnikbmadgkaaGreat
