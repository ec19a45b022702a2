/- The bag by its iterator: what the statements' all answers. -/
import Derived.Test.YtjfbnikbmadgkaaGreatBgj
import Derived.Maps.OwnIn
namespace Go.Proofs.YtjfbnikbmadgkaaGreat
open Go.RowKit Go.Shelf Go.Lib
attribute [local go_sem] Oper.semAt_some

/-- All blocks of cells lie av they lay. -/
def Cl (W W' : World) : Prop := ∀ (k : Nat) (cur : Array Value) (t : TypeId) (z : Nat × Nat), W.heap[k]? = some (.cells cur t z) → W'.heap[k]? = some (.cells cur t z)
theorem Cl.grown {W W' : World} {row : Option Nat} (hg : W.grownBy W' row) (hr : ∀ r, row = some r → ∃ o : Obj, W.heap[r]? = some o ∧ o.isCells = false) : Cl W W' := fun _ _ _ _ hk => (grownBy_keeps_cells hg hr hk rfl).trans hk
theorem Cl.row {W W' : World} (h : Cl W W') {base : Nat} {e : TypeId} {size : Nat} {v : Value} {n : Nat} {xs : List Value} (ho : W.ownsRow base e size v n xs) : W'.ownsRow base e size v n xs := by
  refine ⟨ho.1, ?_⟩
  rcases ho.2 with h1 | ⟨g, cap, cur, h1, h2, h3, h4⟩
  · exact .inl h1
  · exact .inr ⟨g, cap, cur, h1, h2, h _ _ _ _ h3, h4⟩
/-- The cells of datagrams, one behind the other. -/
def flG : List Gr → List (Option Addr × Nat) → List Value
  | x :: l, a :: v => gv x a.1 a.2 ++ flG l v
  | _, _ => []
theorem flG_len : ∀ (l : List Gr) (v : List (Option Addr × Nat)), v.length = l.length → (flG l v).length = l.length * 4
  | [], _, _ => by simp [flG]
  | _ :: _, [], h => by simp at h
  | x :: l, a :: v, h => by
    rw [flG, List.length_append, flG_len l v (by simpa using h)]
    simp [gv]
    omega
theorem flG_app : ∀ (l : List Gr) (v : List (Option Addr × Nat)) (x : Gr) (a : Option Addr × Nat), v.length = l.length → flG (l ++ [x]) (v ++ [a]) = flG l v ++ gv x a.1 a.2
  | [], [], x, a, _ => by simp [flG]
  | _ :: _, [], _, _, h => by simp at h
  | [], _ :: _, _, _, h => by simp at h
  | y :: l, b :: v, x, a, h => by
    rw [List.cons_append, List.cons_append, flG, flG_app l v x a (by simpa using h), flG, List.append_assoc]
theorem flG_get : ∀ (l : List Gr) (v : List (Option Addr × Nat)) (k : Nat) (x : Gr) (a : Option Addr × Nat), l[k]? = some x → v[k]? = some a → (flG l v)[k * 4]? = some (.int .i64 x.1) ∧ (flG l v)[k * 4 + 1]? = some (.int .i64 x.2.1) ∧ (flG l v)[k * 4 + 2]? = some (.int .i64 x.2.2.1) ∧ (flG l v)[k * 4 + 3]? = some (.slice a.1 x.2.2.2.length a.2)
  | [], _, k, x, a, h, _ => by simp at h
  | _ :: _, [], k, x, a, _, h => by simp at h
  | y :: l, b :: v, 0, x, a, h, h2 => by
    simp at h h2
    subst h h2
    exact ⟨rfl, rfl, rfl, rfl⟩
  | y :: l, b :: v, k + 1, x, a, h, h2 => by
    have ih := flG_get l v k x a (by simpa using h) (by simpa using h2)
    have e : ∀ j, (flG (y :: l) (b :: v))[j + 4]? = (flG l v)[j]? := fun j => by
      rw [flG, List.getElem?_append_right (by simp [gv])]
      simp [gv]
    rw [show (k + 1) * 4 = k * 4 + 4 by omega, show k * 4 + 4 + 1 = k * 4 + 1 + 4 by omega, show k * 4 + 4 + 2 = k * 4 + 2 + 4 by omega, show k * 4 + 4 + 3 = k * 4 + 3 + 4 by omega, e, e, e, e]
    exact ih
/-- A list of datagrams of one's own. -/
structure Gs (W : World) (B D : Nat) (v : Value) (l : List Gr) (av : List (Option Addr × Nat)) : Prop where
  row : W.ownsRow B 62 4 v l.length (flG l av)
  len : av.length = l.length
  dat : ∀ (k : Nat) (x : Gr) (a : Option Addr × Nat), l[k]? = some x → av[k]? = some a → W.ownsRow D 5 1 (.slice a.1 x.2.2.2.length a.2) x.2.2.2.length (cB x.2.2.2)
  sep : ∀ (k k' : Nat) (a a' : Option Addr × Nat), k < k' → av[k]? = some a → av[k']? = some a' → ∀ b, ob a.1 = some b → ob a'.1 ≠ some b
theorem Gs.cl {W W' : World} {B D : Nat} {v : Value} {l : List Gr} {av : List (Option Addr × Nat)} (h : Gs W B D v l av) (hc : Cl W W') : Gs W' B D v l av := ⟨hc.row h.row, h.len, fun k x a h1 h2 => hc.row (h.dat k x a h1 h2), h.sep⟩
theorem Gs.carry {W W' : World} {B D : Nat} {v : Value} {l : List Gr} {av : List (Option Addr × Nat)} (h : Gs W B D v l av) (hb : Below W.heap.size W W') : Gs W' B D v l av := ⟨row_below h.row hb, h.len, fun k x a h1 h2 => row_below (h.dat k x a h1 h2) hb, h.sep⟩
theorem Gs.nil (W : World) (B D : Nat) : Gs W B D (.slice none 0 0) [] [] := ⟨World.ownsRow_nil _ _ _ _, rfl, fun k x a h => by simp at h, fun k k' a a' _ h => by simp at h⟩
/-- What holds while the bag is gone through. -/
structure IA (w : World) (S B0 : Nat) (a : Option Addr) (c : Nat) (ps : List Nat) (pre : List Gr) (v : Value) (av : List (Option Addr × Nat)) (W : World) : Prop where
  r0 : W.heap[w.heap.size]? = some (.cells #[.slice none 0 0] 43 (0, 0))
  r1 : W.heap[w.heap.size + 1]? = some (.cells #[.bool false] 4 (0, 0))
  bl : W.heap[w.heap.size + 2]? = some (.cells #[v] 43 (0, 0))
  bn : W.heap[w.heap.size + 3]? = some (.cells #[.int .i64 (pre.length : Int)] 3 (0, 0))
  gs : Gs W (S + 5) S v pre av
  cr : W.ownsRow B0 104 1 (.slice a ps.length c) ps.length (cP ps)
  be : Below w.heap.size w W
theorem IA.cl {w W W' : World} {S B0 : Nat} {a : Option Addr} {c : Nat} {ps : List Nat} {pre : List Gr} {v : Value} {av : List (Option Addr × Nat)} (h : IA w S B0 a c ps pre v av W) (hc : Cl W W') (hb : Below w.heap.size w W') : IA w S B0 a c ps pre v av W' :=
  ⟨hc _ _ _ _ h.r0, hc _ _ _ _ h.r1, hc _ _ _ _ h.bl, hc _ _ _ _ h.bn, h.gs.cl hc, hc.row h.cr, hb⟩
theorem Cl.of {W W' : World} (hb : Below W.heap.size W W') : Cl W W' := fun _ _ _ _ hk => (hb.block _ (lt_at hk)).trans hk
theorem infoG : (Tryz.prog.info? 62).map (fun i => (i.zero, i.size, i.bytes)) = some (some (.agg #[.int .i64 0, .int .i64 0, .int .i64 0, .slice none 0 0]), 4, 48) := by kernel_rfl
theorem gram_src {W : World} {b : Nat} {cs : Array Value} {t : TypeId} (h : W.heap[b]? = some (.cells cs t (0, 0))) : ∀ j u, cs.toList[j]? = some u → W.cell? ((⟨b, 0, none⟩ : Addr).add j) = some u := fun j u hj => by
  rw [add_pl, Nat.zero_add, cell_at h j, ← hj]
  simp
theorem own_blk {W : World} {base : Nat} {e : TypeId} {size : Nat} {v : Value} {n : Nat} {xs : List Value} (h : W.ownsRow base e size v n xs) : ∀ k, v.ownBlock = some k → base ≤ k ∧ ∃ cur, W.heap[k]? = some (.cells cur e (0, 0)) := by
  intro k hk
  rcases own_form h with ⟨rfl, _⟩ | ⟨g, cap, rfl, h1, _, _, _, h5⟩
  · cases hk
  · cases hk
    exact ⟨h1, h5⟩
theorem Kept.setCell {bx B m : Nat} {W : World} {B' j : Nat} {v : Value} (h1 : B' ≠ bx) (h2 : B' < B ∨ B + m ≤ B') : Kept bx B m W (W.setCell ⟨B', j, none⟩ v) :=
  ⟨by simp [World.setCell], Below.heap_setCell _ _ _ _ (Ne.symm h1), fun k h3 h4 => Below.heap_setCell _ _ _ _ (by show k ≠ B'; omega)⟩
theorem row_form {W : World} {base : Nat} {e : TypeId} {size : Nat} {v : Value} {n : Nat} {xs : List Value} (h : W.ownsRow base e size v n xs) : ∃ a c, v = .slice a n c := by
  rcases own_form h with ⟨e1, e2⟩ | ⟨g, cap, e1, _⟩
  · exact ⟨none, 0, by rw [e1, e2]⟩
  · exact ⟨_, cap, e1⟩
theorem bsG1 (W : World) (i f t : Int) (a : Option Addr) (n c : Nat) : (Instr.buildSlice 43 1 #[(0, .agg #[.int .i64 i, .int .i64 f, .int .i64 t, .slice a n c])]).run Tryz.prog W = .ok (.slice (some ⟨W.heap.size, 0, none⟩) 1 1) (W.alloc (.cells #[.int .i64 i, .int .i64 f, .int .i64 t, .slice a n c] 62)) := by go_simp
theorem nilF_no (f : Fn) (x y : Array Value) (w : World) : (binOp .eql 112 (.func f x y) .nilFunc).run Tryz.prog w = .ok (.bool false) w := by kernel_rfl
section
variable {w : World} {base p : Nat} {ad : Option Addr} {cap : Nat} {room last : Int} {ps : List Nat} {l : List Gr}
set_option maxHeartbeats 4000000 in
set_option maxRecDepth 100000 in
theorem all_in {σ : Nat → Prop} (h : Bg σ w base p ad cap room last ps l) : CallsIn Fence.wide 0 Tryz.prog 27 #[.pointer (some ⟨p, 0, none⟩)] w fun e w' => ∃ v av, e = .returned (.tuple #[v, .bool true]) ∧ Gs w' w.heap.size w.heap.size v l av ∧ Below w.heap.size w w' := by
  obtain ⟨ic, hic, hz0, hz1, hz2⟩ := info_parts infoG
  obtain ⟨w4, hw4⟩ : ∃ w4, (((w.alloc (.cells #[.slice none 0 0] 43)).alloc (.cells #[.bool false] 4)).alloc (.cells #[.slice none 0 0] 43)).alloc (.cells #[.int .i64 0] 3) = w4 := ⟨_, rfl⟩
  have hb4 : Below w.heap.size w w4 := by rw [← hw4]; exact ((((Below.refl _ w).alloc (Nat.le_refl _) _).alloc (by simp only [World.size_alloc]; omega) _).alloc (by simp only [World.size_alloc]; omega) _).alloc (by simp only [World.size_alloc]; omega) _
  have hs4 : w4.heap.size = w.heap.size + 4 := by rw [← hw4]; simp
  have r0 : w4.heap[w.heap.size]? = some (.cells #[.slice none 0 0] 43 (0, 0)) := by rw [← hw4]; exact old_at (old_at (old_at (new_at rfl)))
  have r1 : w4.heap[w.heap.size + 1]? = some (.cells #[.bool false] 4 (0, 0)) := by rw [← hw4]; exact old_at (old_at (new_at (by simp)))
  have r2 : w4.heap[w.heap.size + 2]? = some (.cells #[.slice none 0 0] 43 (0, 0)) := by rw [← hw4]; exact old_at (new_at (by simp))
  have r3 : w4.heap[w.heap.size + 3]? = some (.cells #[.int .i64 0] 3 (0, 0)) := by rw [← hw4]; exact new_at (by simp)
  have hal := ball_any (h.carry hb4)
  have HW4 : Hid ((((w.alloc (.cells #[.slice none 0 0] 43)).alloc (.cells #[.bool false] 4)).alloc (.cells #[.slice none 0 0] 43)).alloc (.cells #[.int .i64 0] 3) = w4) := hw4
  clear hw4
  have hn : ps.length ≤ 65536 := by have := h.le; have := h.len; have := h.most; omega
  refine callsIn_of_wp_marks Tryz.func27 rfl trivial ?_ rfl
  simp only [Tryz.ntmps27, List.size_toArray, List.length_cons, List.length_nil, Nat.reduceAdd, Nat.reduceSub, Array.replicate_succ, Array.replicate_zero, List.push_toArray, List.append_toArray, List.nil_append, List.cons_append]
  gi_wp2
  with_reducible (refine And.intro (wfn _) (And.intro wdep ?_))
  rw [HW4.out]
  refine (callsIn_wide.2 hal).mono ?_
  rintro e W0 ⟨a, c, bx, bx2, rfl, hAL, hb0⟩
  have b0 : Below w.heap.size w W0 := bel2 hb4 hb0
  have hnf := nilF_no
  clear hal HW4
  simp only [Nat.add_assoc, Nat.reduceAdd]
  gi_wp2
  have hseq := ball1_seq w4.heap.size a c ps l bx bx2 W0 hn hAL.cl hAL.b1 hAL.b2
  have hbxl : bx < W0.heap.size := lt_at hAL.b1
  have hI0 : IA w W0.heap.size w4.heap.size a c ps [] (.slice none 0 0) [] W0 := ⟨(hb0.block _ (lt_at r0)).trans r0, (hb0.block _ (lt_at r1)).trans r1, (hb0.block _ (lt_at r2)).trans r2, (hb0.block _ (lt_at r3)).trans r3, Gs.nil _ _ _, hAL.cl.row, b0⟩
  refine wp_rangeR (kb := 0) (gf := 117) (lb := #[.pointer (some ⟨bx2, 0, none⟩)]) rfl (enters_of Tryz.func117 (by kernel_rfl) rfl)
    hseq hbxl (fun pre x vs Wb W h => by obtain ⟨_, _, h, _⟩ := h; rw [h]; rfl)
    (fun pre V => (∃ v av, IA w W0.heap.size w4.heap.size a c ps pre v av V) ∧ V.heap[bx]? = some (.cells #[.slice a ps.length c] 52 (0, 0)))
    (fun _ _ _ => False)
    (fun s X Y row hs hg hr => by
      obtain ⟨⟨v, av, hi⟩, hx⟩ := hs
      have hc := Cl.grown hg (fun r e => (hr r e).2)
      exact ⟨⟨v, av, hi.cl hc (hi.be.grown hg hi.be.size (fun k e => Nat.le_trans b0.size (hr k e).1))⟩, hc _ _ _ _ hx⟩)
    (fun _ _ _ _ _ hs _ _ => hs)
    ⟨⟨_, _, hI0⟩, hAL.b1⟩ (fun pre V h1 => by
      obtain ⟨⟨v, av, hi⟩, _⟩ := h1
      exact ⟨hi.cr, h.len, fun k q x h1 h2 => ((h.carry hi.be).gr k q x h1 h2).free⟩)
    (fun pre x a' V => ∃ Bq a1 c1, a' = { tmps := #[(.pointer (some ⟨p, 0, none⟩)), undef, (.pointer (some ⟨w.heap.size, 0, none⟩)), (.pointer (some ⟨w.heap.size + 1, 0, none⟩)), (.pointer (some ⟨w.heap.size + 2, 0, none⟩)), (.pointer (some ⟨w.heap.size + 3, 0, none⟩)), (.func (.func 117) #[] #[.pointer (some ⟨bx2, 0, none⟩)]), (.int .i64 (pre.length : Int)), (.pointer (some ⟨Bq, 0, none⟩)), (.pointer (some ⟨p, 0, none⟩)), (.func (.func 117) #[] #[.pointer (some ⟨bx2, 0, none⟩)]), (.func (.func 117) #[] #[.pointer (some ⟨bx2, 0, none⟩)]), (.bool false), (.func (.func 117) #[] #[.pointer (some ⟨bx2, 0, none⟩)]), (.int .i64 (pre.length : Int)), (.agg #[.int .i64 x.1, .int .i64 x.2.1, .int .i64 x.2.2.1, .slice a1 x.2.2.2.length c1]), undef, undef, undef, undef, undef, undef, undef, undef, undef, undef], defers := [] } ∧ GB V Bq x.1 x.2.1 x.2.2.1 (.slice a1 x.2.2.2.length c1) ∧ V.ownsRow W0.heap.size 5 1 (.slice a1 x.2.2.2.length c1) x.2.2.2.length (cB x.2.2.2) ∧ ∃ v av, IA w W0.heap.size w4.heap.size a c ps pre v av V ∧ ∀ (k : Nat) (a2 : Option Addr × Nat), av[k]? = some a2 → ∀ b, ob a2.1 = some b → ob a1 ≠ some b)
    (fun pre x a' s X Y row hs hg hr => by
      obtain ⟨Bq, a1, c1, e, h1, h2, v, av, hi, hsp⟩ := hs
      have hc := Cl.grown hg (fun r e => (hr r e).2)
      exact ⟨Bq, a1, c1, e, hc _ _ _ _ h1, hc.row h2, v, av, hi.cl hc (hi.be.grown hg hi.be.size (fun k e => Nat.le_trans b0.size (hr k e).1)), hsp⟩) ?assign ?body ?done ?stop
  case assign =>
    rintro l2 pre ⟨xi, xf, xt, xd⟩ vs Vb V K ⟨⟨v0, av0, hi0⟩, _⟩ hvb ⟨⟨v, av, hi⟩, hx⟩ hsz ⟨a1, c1, rfl, ho, hfr⟩ hK
    unfold gV
    gi_wp2
    have hb1 := al1' V (.cells #[.int .i64 xi, .int .i64 xf, .int .i64 xt, .slice a1 xd.length c1] 62)
    exact hK _ _ (Kept.below hb1 (by omega) (by omega)) ⟨⟨v, av, hi.cl (Cl.of hb1) (bel2 hi.be hb1)⟩, old_at hx⟩ ⟨_, a1, c1, rfl, new_at rfl, row_below ho hb1, v0, av0, (hi0.cl (Cl.of hvb) (bel2 hi0.be hvb)).cl (Cl.of hb1) (bel2 (bel2 hi0.be hvb) hb1), fun k a2 hk b hb e => by
      obtain ⟨y, hy⟩ : ∃ y, pre[k]? = some y := ⟨_, List.getElem?_eq_getElem (by rw [← hi0.gs.len]; exact (List.getElem?_eq_some_iff.1 hk).1)⟩
      obtain ⟨_, cur, hcur⟩ := own_blk (hi0.gs.dat k y a2 hy hk) b (by rw [ob_eq]; exact hb)
      have q1 := lt_at hcur
      have q2 := hfr b e
      omega⟩
  case body =>
    rintro l2 pre ⟨xi, xf, xt, xd⟩ a' V ⟨_, hx⟩ ⟨Bq, a1, c1, rfl, hG, ho, v, av, hi, hsp⟩ hsz hpr
    have hplen : pre.length < 65536 := by have := (List.getElem?_eq_some_iff.1 (pfx_get hpr)).1; have := h.len; omega
    dsimp only at hG ho ⊢
    obtain ⟨al, cl, rfl⟩ := row_form hi.gs.row
    have hvb : ∀ k, (Value.slice al pre.length cl).ownBlock = some k → W0.heap.size + 5 ≤ k := own_block hi.gs.row
    have q2 : Bq ≠ w.heap.size + 2 := fun e => by
      have := (e ▸ hG : GB V (w.heap.size + 2) _ _ _ _).symm.trans hi.bl
      simp at this
    have q3 : Bq ≠ w.heap.size + 3 := fun e => by
      have := (e ▸ hG : GB V (w.heap.size + 3) _ _ _ _).symm.trans hi.bn
      simp at this
    have qx : bx ≠ w.heap.size + 2 := fun e => by
      have := (e ▸ hx : V.heap[w.heap.size + 2]? = _).symm.trans hi.bl
      simp at this
    have qx3 : bx ≠ w.heap.size + 3 := fun e => by
      have := (e ▸ hx : V.heap[w.heap.size + 3]? = _).symm.trans hi.bn
      simp at this
    have n0 : V.cell? ⟨w.heap.size + 3, 0, none⟩ = some (.int .i64 (pre.length : Int)) := cell_at hi.bn 0
    have zn := thaw_at hi.bn 0
    obtain ⟨V1, hV1⟩ : ∃ V1, V.setCell ⟨w.heap.size + 3, 0, none⟩ (.int .i64 ((pre.length : Int) + 1)) = V1 := ⟨_, rfl⟩
    have ot : ∀ (k : Nat), k ≠ w.heap.size + 3 → V1.heap[k]? = V.heap[k]? := fun k hk => by rw [← hV1]; exact Below.heap_setCell _ _ _ _ hk
    have HS1 : Hid (V1.heap.size = V.heap.size) := by show _ = _; rw [← hV1]; simp
    have hG1 : GB V1 Bq xi xf xt (.slice a1 xd.length c1) := (ot _ q3).trans hG
    have e0 := hG1.c0
    have e1 := hG1.c1
    have e2 := hG1.c2
    have e3 := hG1.c3
    have hl1 : V1.heap[w.heap.size + 2]? = some (.cells #[.slice al pre.length cl] 43 (0, 0)) := (ot _ (by omega)).trans hi.bl
    have d2 : V1.cell? ⟨w.heap.size + 2, 0, none⟩ = some (.slice al pre.length cl) := cell_at hl1 0
    have hbs := bsG1 V1 xi xf xt a1 xd.length c1
    obtain ⟨V2, hV2⟩ : ∃ V2, V1.alloc (.cells #[.int .i64 xi, .int .i64 xf, .int .i64 xt, .slice a1 xd.length c1] 62) = V2 := ⟨_, rfl⟩
    have hb12 : Below V1.heap.size V1 V2 := by rw [← hV2]; exact al1' _ _
    have hn2 : V2.heap[V1.heap.size]? = some (.cells #[.int .i64 xi, .int .i64 xf, .int .i64 xt, .slice a1 xd.length c1] 62 (0, 0)) := by rw [← hV2]; exact new_at rfl
    rw [hV2] at hbs
    have hrow1 : V1.ownsRow (W0.heap.size + 5) 62 4 (.slice al pre.length cl) pre.length (flG pre av) := by
      rw [← hV1]
      exact row_other hi.gs.row (fun e => by have := hvb _ e; have := b0.size; omega) _
    have hrow2 := row_below hrow1 hb12
    have hl2 := (hb12.block _ (lt_at hl1)).trans hl1
    have hb0s : w.heap.size + 4 ≤ W0.heap.size := by rw [← hs4]; exact hb0.size
    have hsrc := gram_src hn2
    clear hn2
    gi_wp2_with (gi_at_builtin; refine wpListIn_append_own_at _ rfl _ _ 43 rfl (W0.heap.size + 5) 62 ic _ 4 48 Tryz.underlying43 hic hz0 hz1 hz2 rfl (by decide) (.slice al pre.length cl) pre.length (flG pre av) rfl hrow2 ⟨V1.heap.size, 0, none⟩ 1 1 [.int .i64 xi, .int .i64 xf, .int .i64 xt, .slice a1 xd.length c1] rfl rfl hsrc (by simp [Value.oneCell']) (by unfold maxLen; omega) (by omega) (by have := hb12.size; have := HS1.out; omega) ?_; intro v' w2 hown' hgrow _ hob; obtain ⟨al', cl', rfl⟩ := row_form hown'; have hl3 := (hgrow.block _ (lt_at hl2) (fun e => by have := hvb _ e.symm; omega)).trans hl2; have d3 : w2.cell? ⟨w.heap.size + 2, 0, none⟩ = some (.slice al pre.length cl) := cell_at hl3 0; have z3 := thaw_at hl3 0)
    have hsz1 := HS1.out
    have hszb := hb12.size
    have hszg := hgrow.size
    have hgb : ∀ (k : Nat), k < V2.heap.size → k < W0.heap.size + 5 → w2.heap[k]? = V2.heap[k]? := fun k h1 h2 => hgrow.block k h1 (fun e => by have := hvb _ e.symm; omega)
    have hty : ∀ (k : Nat) (cur : Array Value) (t : TypeId), V2.heap[k]? = some (.cells cur t (0, 0)) → t ≠ 62 → w2.heap[k]? = some (.cells cur t (0, 0)) := fun k cur t hk ht => (hgrow.block k (lt_at hk) (fun e => by
      obtain ⟨_, cur', h3⟩ := own_blk hrow2 k e.symm
      rw [hk] at h3
      cases h3
      exact ht rfl)).trans hk
    have hrt : ∀ {B : Nat} {e : TypeId} {s : Nat} {v : Value} {n : Nat} {xs : List Value}, e ≠ 62 → V2.ownsRow B e s v n xs → w2.ownsRow B e s v n xs := fun he h1 => ⟨h1.1, by
      rcases h1.2 with h2 | ⟨g, cap, cur, h2, h3, h4, h5⟩
      · exact .inl h2
      · exact .inr ⟨g, cap, cur, h2, h3, hty _ _ _ h4 he, h5⟩⟩
    have hr1 : ∀ {B : Nat} {e : TypeId} {s : Nat} {v : Value} {n : Nat} {xs : List Value}, e ≠ 3 → V.ownsRow B e s v n xs → V1.ownsRow B e s v n xs := fun he h1 => by
      rw [← hV1]
      refine row_other h1 (fun e2 => ?_) _
      obtain ⟨_, cur', h3⟩ := own_blk h1 _ e2
      rw [hi.bn] at h3
      cases h3
      exact he rfl
    have hr2 : ∀ {B : Nat} {e : TypeId} {s : Nat} {v : Value} {n : Nat} {xs : List Value}, e ≠ 43 → w2.ownsRow B e s v n xs → (w2.setCell ⟨w.heap.size + 2, 0, none⟩ (.slice al' (pre.length + 1) cl')).ownsRow B e s v n xs := fun he h1 => by
      refine row_other h1 (fun e2 => ?_) _
      obtain ⟨_, cur', h3⟩ := own_blk h1 _ e2
      rw [hl3] at h3
      cases h3
      exact he rfl
    have hbw2 : Below w.heap.size w w2 := by
      have hb1 : Below w.heap.size w V1 := by rw [← hV1]; exact hi.be.setCell (by simp) _
      exact (hb1.trans (hb12.mono (by omega))).grown hgrow (by omega) (fun k e => by have := hvb _ e; omega)
    refine ⟨?_, ⟨.slice al' (pre.length + 1) cl', av ++ [(a1, c1)], ?_⟩, ?_⟩
    · refine ((Kept.setCell (v := .int .i64 ((pre.length : Int) + 1)) (j := 0) (Ne.symm qx3) (.inl (by omega))).trans ?_).trans (Kept.setCell (Ne.symm qx) (.inl (by omega)))
      rw [hV1]
      refine (Kept.below hb12 (by omega) (by omega)).trans (Kept.grown hgrow (by omega) (by omega) (fun k e => ?_))
      refine ⟨fun e2 => ?_, .inr (by have := hvb _ e; omega)⟩
      obtain ⟨_, cur', h3⟩ := own_blk hrow2 k e
      have hxx := (hb12.block _ (by omega : bx < V1.heap.size)).trans ((ot _ qx3).trans hx)
      rw [e2, hxx] at h3
      cases h3
    · refine ⟨?_, ?_, ?_, ?_, ⟨?_, ?_, ?_, ?_⟩, hr2 (by decide) (hrt (by decide) (row_below (hr1 (by decide) (by have q := hi.cr; rw [hs4] at q; exact q)) hb12)), hbw2.setCell (by simp) _⟩
      · exact (Below.heap_setCell _ _ _ _ (by simp)).trans ((hgb _ (by omega) (by omega)).trans ((hb12.block _ (by omega)).trans ((ot _ (by omega)).trans hi.r0)))
      · exact (Below.heap_setCell _ _ _ _ (by simp)).trans ((hgb _ (by omega) (by omega)).trans ((hb12.block _ (by omega)).trans ((ot _ (by omega)).trans hi.r1)))
      · have := heap_setCell_same _ _ 0 _ _ (.slice al' (pre.length + 1) cl') hl3
        simpa using this
      · have hbn1 : V1.heap[w.heap.size + 3]? = some (.cells #[.int .i64 ((pre.length : Int) + 1)] 3 (0, 0)) := by
          rw [← hV1]
          have := heap_setCell_same _ _ 0 _ _ (.int .i64 ((pre.length : Int) + 1)) hi.bn
          simpa using this
        rw [List.length_append, List.length_singleton, Int.natCast_add, Int.natCast_one]
        exact (Below.heap_setCell _ _ _ _ (by simp)).trans ((hgb _ (by omega) (by omega)).trans ((hb12.block _ (lt_at hbn1)).trans hbn1))
      · rw [flG_app _ _ _ _ hi.gs.len, List.length_append, List.length_singleton]
        exact hr2 (by decide) hown'
      · simp [hi.gs.len]
      · intro k x' a' h1 h2
        by_cases hk : k < pre.length
        · rw [List.getElem?_append_left hk] at h1
          rw [List.getElem?_append_left (by rw [hi.gs.len]; exact hk)] at h2
          exact hr2 (by decide) (hrt (by decide) (row_below (hr1 (by decide) (hi.gs.dat k x' a' h1 h2)) hb12))
        · have hkk : k = pre.length := by have := (List.getElem?_eq_some_iff.1 h1).1; simp at this; omega
          subst hkk
          rw [List.getElem?_append_right (Nat.le_refl _), Nat.sub_self] at h1
          rw [List.getElem?_append_right (by rw [hi.gs.len]; exact Nat.le_refl _), hi.gs.len, Nat.sub_self] at h2
          cases h1
          cases h2
          exact hr2 (by decide) (hrt (by decide) (row_below (hr1 (by decide) ho) hb12))
      · intro k k' q q' hkk h1 h2 b hb
        by_cases hk : k' < av.length
        · rw [List.getElem?_append_left hk] at h2
          rw [List.getElem?_append_left (by omega)] at h1
          exact hi.gs.sep k k' q q' hkk h1 h2 b hb
        · have hk2 : k' = av.length := by have := (List.getElem?_eq_some_iff.1 h2).1; simp at this; omega
          subst hk2
          rw [List.getElem?_append_left hkk] at h1
          rw [List.getElem?_append_right (Nat.le_refl _), Nat.sub_self] at h2
          cases h2
          exact hsp k q h1 b hb
    · exact (Below.heap_setCell _ _ _ _ (by simpa using qx)).trans (hty _ _ _ ((hb12.block _ (by omega : bx < V1.heap.size)).trans ((ot _ qx3).trans hx)) (by decide))
  case done =>
    rintro V ⟨⟨v, av, hi⟩, hx⟩ hK
    obtain ⟨al, cl, rfl⟩ := row_form hi.gs.row
    have d2 : V.cell? ⟨w.heap.size + 2, 0, none⟩ = some (.slice al l.length cl) := cell_at hi.bl 0
    have d0 : V.cell? ⟨w.heap.size, 0, none⟩ = some (.slice none 0 0) := cell_at hi.r0 0
    have z0 := thaw_at hi.r0 0
    have d1 : V.cell? ⟨w.heap.size + 1, 0, none⟩ = some (.bool false) := cell_at hi.r1 0
    have z1 := thaw_at hi.r1 0
    gi_wp2
    have hne0 : w.heap.size + 1 ≠ w.heap.size := by omega
    have e0 := heap_setCell_same _ _ 0 _ _ (.slice al l.length cl) hi.r0
    have e0' : ((V.setCell ⟨w.heap.size, 0, none⟩ (.slice al l.length cl)).setCell ⟨w.heap.size + 1, 0, none⟩ (.bool true)).heap[w.heap.size]? = some (.cells #[.slice al l.length cl] 43 (0, 0)) := (Below.heap_setCell _ _ _ _ (by simp)).trans (by simpa using e0)
    have e1 : (V.setCell ⟨w.heap.size, 0, none⟩ (.slice al l.length cl)).heap[w.heap.size + 1]? = some (.cells #[.bool false] 4 (0, 0)) := (Below.heap_setCell _ _ _ _ (by simp)).trans hi.r1
    have e1' := heap_setCell_same _ _ 0 _ _ (.bool true) e1
    have hK2 : ((V.setCell ⟨w.heap.size, 0, none⟩ (.slice al l.length cl)).setCell ⟨w.heap.size + 1, 0, none⟩ (.bool true)).heap[W0.heap.size]? = some (.deferred (some [])) := by
      have h4 : w.heap.size + 4 ≤ W0.heap.size := by rw [← hs4]; exact hb0.size
      rw [Below.heap_setCell _ _ _ _ (by simp only; omega), Below.heap_setCell _ _ _ _ (by simp only; omega)]
      exact hK
    obtain ⟨V2, hV2⟩ : ∃ V2, (V.setCell ⟨w.heap.size, 0, none⟩ (.slice al l.length cl)).setCell ⟨w.heap.size + 1, 0, none⟩ (.bool true) = V2 := ⟨_, rfl⟩
    have hr2 : ∀ {B : Nat} {e : TypeId} {s : Nat} {v : Value} {n : Nat} {xs : List Value}, e ≠ 43 → e ≠ 4 → V.ownsRow B e s v n xs → V2.ownsRow B e s v n xs := fun he he2 h1 => by
      rw [← hV2]
      have k1 := row_other (j := 0) (b := w.heap.size) h1 (fun e2 => by
        obtain ⟨_, cur', h3⟩ := own_blk h1 _ e2
        rw [hi.r0] at h3
        cases h3
        exact he rfl) (.slice al l.length cl)
      refine row_other k1 (fun e2 => ?_) _
      obtain ⟨_, cur', h3⟩ := own_blk k1 _ e2
      rw [e1] at h3
      cases h3
      exact he2 rfl
    have hb2 : Below w.heap.size w V2 := by rw [← hV2]; exact (hi.be.setCell (Nat.le_refl _) _).setCell (Nat.le_succ _) _
    rw [hV2] at hK2 e0' e1' ⊢
    refine ⟨by simp, .inl ⟨_, _, rfl, run_takeDeferred hK2, ?_⟩⟩
    have hc := Cl.grown (W := V2) (W' := V2.putObj W0.heap.size (.deferred none)) (row := some W0.heap.size) ⟨rfl, rfl, rfl, by simp, fun k _ hk => World.putObj_heap_other (fun e => hk (congrArg some e))⟩ (fun r e => by cases e; exact ⟨_, hK2, rfl⟩)
    have f0 := cell_at (hc _ _ _ _ e0') 0
    have f1 := cell_at (hc _ _ _ _ e1') 0
    simp at f0 f1
    refine ⟨.tuple #[.slice al l.length cl, .bool true], ?_, _, av, rfl, ⟨hc.row (hr2 (by decide) (by decide) (row_base hi.gs.row (by have := b0.size; omega))), hi.gs.len, fun k x a' h1 h2 => hc.row (hr2 (by decide) (by decide) (row_base (hi.gs.dat k x a' h1 h2) b0.size)), hi.gs.sep⟩, below_taken _ hb2 b0.size⟩
    simp [results, Tryz.results27, asAddr, go_sem, f0, f1]
  case stop =>
    rintro co pre V hpr hf hK
    exact hf.elim
theorem all_any {σ : Nat → Prop} (h : Bg σ w base p ad cap room last ps l) : Calls Tryz.prog 27 #[.pointer (some ⟨p, 0, none⟩)] w fun e w' => ∃ v av, e = .returned (.tuple #[v, .bool true]) ∧ Gs w' w.heap.size w.heap.size v l av ∧ Below w.heap.size w w' := callsIn_wide.1 (all_in h)
end
end Go.Proofs.YtjfbnikbmadgkaaGreat
