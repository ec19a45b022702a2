/- Bags that lie as they lay; the document's Take: what it answers. -/
import Derived.Test.YtjfbnikbmadgkaaGreatBgy
namespace Go.Proofs.YtjfbnikbmadgkaaGreat
open Go.RowKit Go.Shelf

section
variable {σ τ : Nat → Prop} {W V : World} {base p : Nat} {ad : Option Addr} {cap : Nat} {room last : Int} {ps : List Nat} {l : List Gr}
theorem row_at {e : TypeId} {size : Nat} {v : Value} {n : Nat} {xs : List Value} (h : W.ownsRow base e size v n xs) (hv : ∀ (g : Nat) (cur : Array Value), v.ownBlock = some g → W.heap[g]? = some (.cells cur e (0, 0)) → V.heap[g]? = some (.cells cur e (0, 0))) : V.ownsRow base e size v n xs := by
  obtain ⟨h1, h2⟩ := h
  refine ⟨h1, ?_⟩
  rcases h2 with h2 | ⟨g, cap, cur, h3, h4, h5, h6⟩
  · exact .inl h2
  · subst h3
    exact .inr ⟨g, cap, cur, rfl, h4, hv g cur rfl h5, h6⟩
/-- A bag that lies as it lay. -/
theorem Bg.move (h : Bg σ W base p ad cap room last ps l) (hz : W.heap.size ≤ V.heap.size) (hp : V.heap[p]? = W.heap[p]?) (hl : ∀ b, ob ad = some b → V.heap[b]? = W.heap[b]?) (hg : ∀ (b : Nat) (cur : Array Value) (t : TypeId), W.heap[b]? = some (.cells cur t (0, 0)) → (t = 62 ∨ t = 5) → ¬ σ b → V.heap[b]? = some (.cells cur t (0, 0))) : Bg σ V base p ad cap room last ps l :=
  ⟨h.pb, hp.trans h.obj, row_at h.row (fun g cur e hc => (hl g (by rw [ob_eq] at e; exact e)).trans hc), h.len, fun k q x h1 h2 => (h.gr k q x h1 h2).move hg, h.le, h.most, fun b q => Nat.lt_of_lt_of_le (h.sg b q) hz⟩
/-- Other blocks in which nothing lies. -/
theorem Bg.sig (h : Bg σ W base p ad cap room last ps l) (e : ∀ b, b < W.heap.size → ¬ σ b → ¬ τ b) (hs : ∀ b, τ b → b < W.heap.size) : Bg τ W base p ad cap room last ps l :=
  ⟨h.pb, h.obj, h.row, h.len, fun k q x h1 h2 => (h.gr k q x h1 h2).other e, h.le, h.most, hs⟩
/-- A bag's block that is there. -/
theorem Bg.blt (h : Bg σ W base p ad cap room last ps l) {b : Nat} (e : ob ad = some b) : b < W.heap.size := by
  obtain ⟨_, cur, hc⟩ := h.blk e
  exact lt_at hc
end
section
variable {w V : World} {base lb o : Nat} {ad : Option Addr} {cap : Nat} {last most : Int} {l : List Gr} {av : List (Option Addr × Nat)}
theorem Rg.blkR (h : Rg w base lb o ad cap last most l av) {b : Nat} (e : ob ad = some b) : base ≤ b ∧ ∃ cur, w.heap[b]? = some (.cells cur 62 (0, 0)) := own_blk h.row b (by rw [ob_eq]; exact e)
/-- The document's that lies as it lay. -/
theorem Rg.move (h : Rg w base lb o ad cap last most l av) (hc : ∀ j, o ≤ j → j < o + 3 → V.cell? ⟨lb, j, none⟩ = w.cell? ⟨lb, j, none⟩) (hk : ∃ cur, V.heap[lb]? = some (.cells cur 48 (0, 0))) (hr : ∀ b, ob ad = some b → V.heap[b]? = w.heap[b]?) (hd : ∀ (a : Option Addr × Nat) (b : Addr) (cur : Array Value), a ∈ av → a.1 = some b → w.heap[b.block]? = some (.cells cur 5 (0, 0)) → V.heap[b.block]? = some (.cells cur 5 (0, 0))) : Rg V base lb o ad cap last most l av :=
  ⟨(hc _ (by omega) (by omega)).trans h.cL, (hc _ (by omega) (by omega)).trans h.cA, (hc _ (by omega) (by omega)).trans h.cM, hk, row_at h.row (fun g cur e hq => (hr g (by rw [ob_eq] at e; exact e)).trans hq), h.len, fun k x a h1 h2 => ⟨fun hx => by
    obtain ⟨b, off, e1, ⟨cur, e2⟩, e3⟩ := (h.dat k x a h1 h2).1 hx
    have e4 := hd a ⟨b, off, none⟩ cur (List.mem_of_getElem? h2) e1 e2
    exact ⟨b, off, e1, ⟨cur, e4⟩, e3.carry (e4.trans e2.symm)⟩, (h.dat k x a h1 h2).2⟩, h.few, h.most1, h.le⟩
theorem mem_upTo {α : Type} {l : List α} {i j : Nat} {x : α} (h : x ∈ upTo l i j) : x ∈ l := by
  unfold upTo at h
  split at h
  · exact List.mem_of_mem_take h
  · exact List.mem_of_mem_take (List.mem_of_mem_eraseIdx h)
theorem W4_other {W : World} {B q : Nat} {i f t : Int} {v : Value} (hq : q ≠ B) : (W4 W B i f t v).heap[q]? = W.heap[q]? := other4 hq i f t v
theorem upTo_le {α : Type} (l : List α) (i j : Nat) : (upTo l i j).length ≤ l.length := by
  unfold upTo
  split
  · rw [List.length_take]; omega
  · rw [List.length_eraseIdx, List.length_take]
    split <;> omega
theorem Tr.new4 {g g' : Option Nat} {X : World} (h : Tr lb o g g' w X) (hl : lb < w.heap.size) (i f t : Int) (v : Value) : Tr lb o g g' w (W4 X w.heap.size i f t v) := by
  have hq : ∀ k, k ≠ w.heap.size → (W4 X w.heap.size i f t v).heap[k]? = X.heap[k]? := fun k hk => other4 hk i f t v
  refine ⟨?_, ?_, ?_, ?_, fun k hk h1 h2 => (hq k (by omega)).trans (h.block k hk h1 h2), fun j hj => (World.cell?_of_block (a := ⟨lb, j, none⟩) (hq lb (by omega))).trans (h.cell j hj), fun cur hc => ?_, h.own⟩
  · exact h.os
  · exact h.tape
  · exact h.output
  · have : (W4 X w.heap.size i f t v).heap.size = X.heap.size := by simp [W4]
    rw [this]
    exact h.size
  · obtain ⟨cur', hc'⟩ := h.typ cur hc
    exact ⟨cur', (hq lb (by omega)).trans hc'⟩
/-- While the others are told one by one. -/
structure IT (w2 : World) (l : List Gr) (av : List (Option Addr × Nat)) (v : Value) (W : World) : Prop where
  row : W.ownsRow w2.heap.size 62 4 v l.length (flG l av)
  len : av.length = l.length
  bl : Below w2.heap.size w2 W
set_option maxHeartbeats 4000000 in
set_option maxRecDepth 100000 in
theorem rTake_any (h : Rg w base lb o ad cap last most l av) (i : Int) (hbs : base ≤ w.heap.size) : Calls Tryz.prog 20 #[.pointer (some ⟨lb, o, none⟩), .int .i64 i] w fun e w' => ∃ a c, e = .returned (.tuple #[gV (sTk l i).1 a c, .int .i64 (sTk l i).2.1]) ∧ RdY w' a (sTk l i).1.2.2.2 ∧ (a = none → c = 0) ∧ ∃ ad' cap' av', Rg w' base lb o ad' cap' last most (sTk l i).2.2 av' ∧ Tr lb o (ob ad) (ob ad') w w' := by
  obtain ⟨ic, hic, hz0, hz1, hz2⟩ := info_parts infoG
  have hlt := h.lt
  have hle := h.le
  have hmo := h.most1
  obtain ⟨V, hV⟩ : ∃ V, w.alloc (.cells #[.int .i64 0, .int .i64 0, .int .i64 0, .slice none 0 0] 62) = V := ⟨_, rfl⟩
  have hb : Below w.heap.size w V := by rw [← hV]; exact al1' _ _
  have hzV : V.heap.size = w.heap.size + 1 := by rw [← hV]; simp
  have hG : GB V w.heap.size 0 0 0 (.slice none 0 0) := by rw [← hV]; exact new_at rfl
  have hR := h.carry hb
  have hhs := has_any hR i
  by_cases hi : 0 ≤ i ∧ i < (l.length : Int)
  · rw [decide_eq_true hi] at hhs
    obtain ⟨k0, rfl⟩ := Int.eq_ofNat_of_zero_le hi.1
    have hkl : k0 < l.length := by omega
    obtain ⟨⟨xi, xf, xt, xd⟩, hx⟩ : ∃ x, l[k0]? = some x := ⟨_, List.getElem?_eq_getElem hkl⟩
    rw [sTk_ok hx]
    obtain ⟨gR, a, rfl, ha, c0, c1, c2, c3, hd, hnc⟩ := hR.get hx
    dsimp only at c0 c1 c2 c3 hd
    have hix : ∀ W, (Instr.indexAt 43 (.slice (some ⟨gR, 0, none⟩) l.length cap) (.int .i64 (k0 : Int))).run Tryz.prog W = .ok (.pointer (some ⟨gR, k0 * 4, none⟩)) W := fun W => by have := idx_G gR 0 l.length cap k0 hkl W; rw [Nat.zero_add] at this; exact this
    have cL := hR.cL
    obtain ⟨V1, hV1⟩ : ∃ V1, V.alloc (.cells #[.int .i64 0, .int .i64 0, .int .i64 0, .slice none 0 0] 62) = V1 := ⟨_, rfl⟩
    have hbV1 : Below V.heap.size V V1 := by rw [← hV1]; exact al1' _ _
    have hG1 : GB V1 (w.heap.size + 1) 0 0 0 (.slice none 0 0) := by rw [← hV1, ← hzV]; exact new_at rfl
    have f0 := hG1.c0
    have f1 := hG1.c1
    have f2 := hG1.c2
    have f3 := hG1.c3
    have z0 := hG1.thaw 0
    have z1 := hG1.thaw 1
    have z2 := hG1.thaw 2
    have z3 := hG1.thaw 3
    have hzV1 : V1.heap.size = V.heap.size + 1 := by rw [← hV1]; simp
    obtain ⟨w2, hw2⟩ : ∃ w2, W4 V1 (w.heap.size + 1) xi xf xt (.slice a.1 xd.length a.2) = w2 := ⟨_, rfl⟩
    have HG2 : Hid (GB w2 (w.heap.size + 1) xi xf xt (.slice a.1 xd.length a.2)) := by rw [← hw2]; exact hG1.set xi xf xt _
    have HB2 : Hid (Below V.heap.size V w2) := by rw [← hw2]; exact below4 hbV1 (Nat.le_of_eq hzV) _ _ _ _
    have HX : Hid (l[k0]? = some (xi, xf, xt, xd)) := hx
    have HA : Hid (av[k0]? = some a) := ha
    have HZ2 : Hid (V.heap.size + 1 ≤ w2.heap.size) := by
      have := lt_at HG2.out
      show _ ≤ _
      omega
    have HNC : Hid (a.1 = none → a.2 = 0) := hnc
    have HD : Hid (RdY V a.1 xd) := hd
    clear hi hx ha hd hnc
    unfold gV
    dsimp only
    go_enter Tryz.func20, Tryz.ntmps20
    go_wp2_with (go_at_call 84; (with_reducible refine hhs.mono ?_); rintro e u1 ⟨rfl, rfl⟩)
    go_loopw [7, 8] (fun v i wz => ∃ (k : Nat), i = .int .i64 (k : Int) ∧ k ≤ l.length ∧ IT w2 (upTo l k0 k) (upTo av k0 k) v wz) (fun _ i _ => l.length - vnat i)
    case atStart =>
      refine ⟨0, rfl, Nat.zero_le _, ?_⟩
      rw [upTo_0, upTo_0]
      exact ⟨World.ownsRow_nil _ _ _ _, rfl, by rw [← hw2]; exact Below.refl _ _⟩
    case round =>
      obtain ⟨k, rfl, hk, hI⟩ := hrel
      have hRw := (hR.carry HB2.out).carry hI.bl
      have cLw := hRw.cL
      obtain ⟨aI, cI, rfl⟩ := row_form hI.row
      have hul := upTo_le l k0 k
      by_cases hkl2 : k < l.length
      · have hki : (k : Int) < (l.length : Int) := by omega
        by_cases hke : k = k0
        · have hke' : (k : Int) = (k0 : Int) := by omega
          have HI : Hid (IT w2 (upTo l k0 k) (upTo av k0 k) (.slice aI (upTo l k0 k).length cI) wr) := hI
          clear hI
          go_wp2
          go_roundw
          case rel =>
            refine ⟨k + 1, by simp; omega, by omega, ?_⟩
            have := HI.out
            rw [hke] at this ⊢
            rw [upTo_at, upTo_at]
            exact this
          case measure => simp [vnat]; omega
        · have hke' : ¬ (k : Int) = (k0 : Int) := by omega
          obtain ⟨⟨yi, yf, yt, yd⟩, hy⟩ : ∃ y, l[k]? = some y := ⟨_, List.getElem?_eq_getElem hkl2⟩
          obtain ⟨gR2, b, eg, hb2, d0, d1, d2, d3, _⟩ := hRw.get hy
          cases eg
          dsimp only at d0 d1 d2 d3
          have hix2 := idx_Gz gR l.length cap k hkl2
          have HY : Hid (l[k]? = some (yi, yf, yt, yd)) := hy
          have HBk : Hid (av[k]? = some b) := hb2
          have HI : Hid (IT w2 (upTo l k0 k) (upTo av k0 k) (.slice aI (upTo l k0 k).length cI) wr) := hI
          have hrow := hI.row
          have hbz := hI.bl.size
          clear hI hy hb2 hRw
          go_wp2_with (at_builtin; refine wpList_append_own_at _ rfl _ _ 43 rfl w2.heap.size 62 ic _ 4 48 Tryz.underlying43 hic hz0 hz1 hz2 rfl (by decide) _ _ (flG (upTo l k0 k) (upTo av k0 k)) rfl (hrow.alloc _) ⟨wr.heap.size, 0, none⟩ 1 1 [.int .i64 yi, .int .i64 yf, .int .i64 yt, .slice b.1 yd.length b.2] rfl rfl (gram_src (new_at rfl)) (by simp [Value.oneCell']) (by unfold maxLen; omega) (by omega) (by simp; omega) ?_; intro v' u hown hgu _ hob; obtain ⟨a3, c3', rfl⟩ := row_form hown)
          go_roundw
          case rel =>
            refine ⟨k + 1, by simp, by omega, ?_⟩
            rw [upTo_next HY.out hke, upTo_next HBk.out hke]
            have hln := HI.out.len
            refine ⟨?_, by simp [hln], (HI.out.bl.alloc hbz _).grown hgu (by simp; omega) (fun q e => own_block hrow q e)⟩
            rw [flG_app _ _ _ _ hln, List.length_append]
            exact hown
          case measure => simp [vnat]; omega
      · have hkk : k = l.length := by omega
        subst hkk
        have hki : ¬ (l.length : Int) < (l.length : Int) := by omega
        have hzo := hRw.thaw o
        have hG5 := HG2.out.carry hI.bl
        have hGw := (hG.carry HB2.out).carry hI.bl
        obtain ⟨u5, hu5⟩ : ∃ u5, wr.setCell ⟨lb, o, none⟩ (.slice aI (upTo l k0 l.length).length cI) = u5 := ⟨_, rfl⟩
        have hn1 : w.heap.size + 1 ≠ lb := by omega
        have hn2 : w.heap.size ≠ lb := by omega
        have HG5 : Hid (GB u5 (w.heap.size + 1) xi xf xt (.slice a.1 xd.length a.2)) := by rw [← hu5]; exact (Below.heap_setCell _ _ _ _ hn1).trans hG5
        have HGw : Hid (GB u5 w.heap.size 0 0 0 (.slice none 0 0)) := by rw [← hu5]; exact (Below.heap_setCell _ _ _ _ hn2).trans hGw
        have s0 := HG5.out.c0
        have s1 := HG5.out.c1
        have s2 := HG5.out.c2
        have s3 := HG5.out.c3
        have t0 := HGw.out.c0
        have t1 := HGw.out.c1
        have t2 := HGw.out.c2
        have t3 := HGw.out.c3
        have y0 := HGw.out.thaw 0
        have y1 := HGw.out.thaw 1
        have y2 := HGw.out.thaw 2
        have y3 := HGw.out.thaw 3
        have hbw : Below w.heap.size w wr := bel2 (bel2 hb HB2.out) hI.bl
        have hzz := bel2 hb HB2.out
        have hbVw : Below u1.heap.size u1 wr := bel2 HB2.out hI.bl
        have HEND : Hid (upTo l k0 l.length = l.take k0 ++ l.drop (k0 + 1)) := upTo_end l k0 hkl
        obtain ⟨hR5, hT5⟩ := h.turnB hbw (row_base hI.row hzz.size) hbs hI.len (upTo_get (P := fun x a => RdY w a.1 x.2.2.2 ∧ (a.1 = none → a.2 = 0)) (fun j x a h1 h2 => h.dat j x a h1 h2)) (fun x hx => h.few x (mem_upTo hx)) (by have := upTo_le l k0 l.length; omega)
        rw [hu5] at hR5 hT5
        have hrow5 := hI.row
        have HI : Hid (IT w2 (upTo l k0 l.length) (upTo av k0 l.length) (.slice aI (upTo l k0 l.length).length cI) wr) := hI
        have HR5 : Hid (_) := hR5
        have HT5 : Hid (_) := hT5
        clear hI hR5 hT5 hRw hG5 hGw
        go_wp2
        refine retGt rfl rfl rfl rfl (HGw.out.set xi xf xt (.slice a.1 xd.length a.2)) ?_
        have hoth : ∀ q, q ≠ w.heap.size → (W4 u5 w.heap.size xi xf xt (.slice a.1 xd.length a.2)).heap[q]? = u5.heap[q]? := fun q hq => other4 hq _ _ _ _
        have hu8 : ∀ (q : Nat) (cur : Array Value), u5.heap[q]? = some (.cells cur 5 (0, 0)) → (W4 u5 w.heap.size xi xf xt (.slice a.1 xd.length a.2)).heap[q]? = some (.cells cur 5 (0, 0)) := fun q cur hq => (hoth q (fun e => by
          rw [e] at hq
          have := hq.symm.trans HGw.out
          simp only [Option.some.injEq, Obj.cells.injEq] at this
          exact absurd this.2.1 (by decide))).trans hq
        have hRf := HR5.out.move (V := W4 u5 w.heap.size xi xf xt (.slice a.1 xd.length a.2)) (fun j _ _ => World.cell?_of_block (a := ⟨lb, j, none⟩) (hoth lb (Ne.symm hn2))) (by obtain ⟨cur, hc⟩ := HR5.out.blk; exact ⟨cur, (hoth lb (Ne.symm hn2)).trans hc⟩) (fun b e => hoth b (fun e2 => by have := own_block hrow5 b (by rw [ob_eq]; exact e); have := HZ2.out; omega)) (fun a b cur _ _ hc => hu8 _ cur hc)
        rw [HEND.out] at hRf
        refine ⟨a.1, a.2, rfl, fun hn => ?_, HNC.out, _, ⟨_, _, hRf⟩, HT5.out.new4 hlt _ _ _ _⟩
        obtain ⟨b, off, e1, ⟨cur, e2⟩, e3⟩ := HD.out hn
        have e4 : wr.heap[b]? = some (.cells cur 5 (0, 0)) := (hbVw.block b (lt_at e2)).trans e2
        have e5 : u5.heap[b]? = some (.cells cur 5 (0, 0)) := by
          rw [← hu5]
          refine (Below.heap_setCell _ _ _ _ (fun e => ?_)).trans e4
          obtain ⟨cur2, hc2⟩ := hR.blk
          have e : b = lb := e
          rw [e, hc2] at e2
          simp only [Option.some.injEq, Obj.cells.injEq] at e2
          exact absurd e2.2.1 (by decide)
        have e6 := hu8 b cur e5
        exact ⟨b, off, e1, ⟨cur, e6⟩, e3.carry (e6.trans e2.symm)⟩
  · rw [decide_eq_false hi] at hhs
    rw [sTk_no hi]
    have f0 := hG.c0
    have f1 := hG.c1
    have f2 := hG.c2
    have f3 := hG.c3
    have z0 := hG.thaw 0
    have z1 := hG.thaw 1
    have z2 := hG.thaw 2
    have z3 := hG.thaw 3
    unfold gV g0
    clear hi
    go_enter Tryz.func20, Tryz.ntmps20
    go_wp2_with (go_at_call 84; (with_reducible refine hhs.mono ?_); rintro e u1 ⟨rfl, rfl⟩)
    refine retGt rfl rfl rfl rfl (hG.set 0 0 0 (.slice none 0 0)) ?_
    have hbl := below4 hb (Nat.le_refl _) 0 0 0 (.slice none 0 0)
    exact ⟨none, 0, rfl, (fun q => absurd rfl q), fun _ => rfl, ad, cap, av, h.carry hbl, Tr.of o _ hbl hlt⟩
end
end Go.Proofs.YtjfbnikbmadgkaaGreat
