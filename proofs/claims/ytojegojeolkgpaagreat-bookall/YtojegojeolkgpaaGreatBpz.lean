/- A call in a region whose answer is found out on the way. For every program. -/
import Derived.Test.YtojegojeolkgpaaGreatSla
import Derived.Test.YtojegojeolkgpaaGreatBkz
import Derived.Test.YtojegojeolkgpaaGreatRnv
import Derived.Test.YtojegojeolkgpaaGreatRnl
import Derived.Laws.Bits128
import Derived.Laws.CopyRow
import Derived.Laws.CopyOwn
namespace Go.Proofs.YtojegojeolkgpaaGreat
open Go.RowKit
/-- A call whose answer is found out on the way. -/
theorem stepG_call {G : Type} {P : Program} {md : Region.Mode} {ops : Array Oper} {Q : Exit → Act → World → Prop} {X0 : Array Value} {val : G → Nat → Value} {J : G → (Nat → Bool) → World → Prop} {i : Nat} {o : Oper}
    (hi : ops[i]? = some o) (hg : ∀ g, GOk md ops X0 (val g) i o) (f : FuncId) (xs : Array Operand) (ts : Array TypeId) (vs : G → List Value) (ho : o.op = .call { callee := .value (.func f), args := xs, argTypes := ts })
    (hx : ∀ g, xs.toList.map (rdo md ops X0 (val g) i o) = (vs g).map some) (hen : ∀ args w, (callFunc f args).run P w = .ok (.enter f args) w)
    (hc : ∀ g d w, J g d w → d i = false → (∀ j, bindsOn md o j = true → d j = true) → (∀ j oj, ops[j]? = some oj → d j = true → ∀ k, bindsOn md oj k = true → d k = true) → Calls P f (vs g).toArray w fun e w' => ∃ g', e = .returned (val g' i) ∧ (∀ j, d j = true → val g' j = val g j) ∧ J g' (fun j => if j = i then true else d j) w') : StepG P md ops Q X0 val J i o := by
  intro g d a w hJ hun hdep hcl hS
  unfold wpOp
  rw [hi]
  have hS' : Seen md ops X0 (val g) i o a := hS
  simp only [wanted_of hS' (hg g), if_true]
  refine .inl ?_
  unfold Oper.wp execOp
  have e : xs.map a.eval = (vs g).toArray := by
    apply Array.toList_inj.1
    rw [Array.toList_map]
    exact hS'.evals _ _ (hx g)
  have e2 : a.eval (.func f) = .func (.func f) #[] #[] := rfl
  simp only [ho, resolve, e, e2, Deferred.ofValue, Sem.run_bind, Sem.run_pure, Result.andThen_ok, invoke, Array.empty_append, Array.append_empty, hen, Oper.upon_enter]
  refine (hc g d w hJ hun hdep hcl).mono ?_
  rintro e' w' ⟨g', rfl, h1, h2⟩
  exact ⟨g', h1, rfl, h2⟩
end Go.Proofs.YtojegojeolkgpaaGreat
namespace Go.Proofs.YtojegojeolkgpaaGreat
open Go.RowKit Go.Shelf Go.Lib

theorem NK.carry {σ : Sg} {base bb : Nat} {W V : World} (h : NK σ base bb W) (hb : Below W.heap.size W V) : NK σ base bb V := by
  obtain ⟨hs, k, x, y, L, hx, hl, hL⟩ := h
  exact ⟨fun b q => Nat.lt_of_lt_of_le (hs b q) hb.size, k, x, y, L, hx.carry hb, hl, hL.carry (fun g cur _ hc => (hb.block g (lt_at hc)).trans hc)⟩
/-- One of the two that are played with: at lb, off on. -/
structure Sd (σ : Sg) (base lb off bb N p g : Nat) (l r : List N3) (ad : Option Addr) (cap : Nat) (W : World) : Prop where
  c0 : W.cell? ⟨lb, off, none⟩ = some (.pointer (some ⟨p, 0, none⟩))
  c1 : W.cell? ⟨lb, off + 1, none⟩ = some (.slice ad N cap)
  c2 : W.cell? ⟨lb, off + 2, none⟩ = some (.pointer (some ⟨bb, 0, none⟩))
  lk : ∃ cur, W.heap[lb]? = some (.cells cur 50 (0, 0))
  bk : Bk W p g l
  rd : RdN W ad r
  ty : ∀ a, ad = some a → ∃ cur, W.heap[a.block]? = some (.cells cur 62 (0, 0))
  nk : NK σ base bb W
  bz : base ≤ W.heap.size
  sg : σ g
section
variable {base lb off bb N p g : Nat} {l r : List N3} {ad : Option Addr} {cap : Nat} {W V : World}
theorem Sd.carry {σ : Sg} (h : Sd σ base lb off bb N p g l r ad cap W) (hb : Below W.heap.size W V) : Sd σ base lb off bb N p g l r ad cap V := by
  obtain ⟨cur, hl⟩ := h.lk
  have hq := hb.block _ (lt_at hl)
  refine ⟨(World.cell?_of_block (a := ⟨lb, _, none⟩) hq).trans h.c0, (World.cell?_of_block (a := ⟨lb, _, none⟩) hq).trans h.c1, (World.cell?_of_block (a := ⟨lb, _, none⟩) hq).trans h.c2, ⟨cur, hq.trans hl⟩, h.bk.carry hb, h.rd.carry hb, fun a ha => ?_, h.nk.carry hb, Nat.le_trans h.bz hb.size, h.sg⟩
  obtain ⟨c, hc⟩ := h.ty a ha
  exact ⟨c, (hb.block _ (lt_at hc)).trans hc⟩
/-- A block of another type than the book of lists and its rows stays. -/
theorem Kp.at {σ : Sg} {base bb q : Nat} {W V : World} {cur : Array Value} {t : TypeId} {fz : Nat × Nat} (h : Kp base bb W V) (hn : NK σ base bb W) (ho : W.heap[q]? = some (.cells cur t fz)) (h1 : t ≠ 44) (h2 : t ≠ 23) : V.heap[q]? = some (.cells cur t fz) := by
  obtain ⟨_, k, x, y, _, ⟨u, v, hk, hkb, _⟩, _⟩ := hn
  refine h.block q _ ho (fun e => ?_) (.inr (fun c f e => ?_))
  · subst e
    have := hkb.symm.trans ho
    simp only [Option.some.injEq, Obj.cells.injEq] at this
    exact h1 this.2.1.symm
  · simp only [Obj.cells.injEq] at e
    exact h2 e.2.1
theorem Kp.rd {σ : Sg} {base bb : Nat} {W V : World} {ad : Option Addr} {l : List N3} (h : Kp base bb W V) (hn : NK σ base bb W) (hr : RdN W ad l) (ht : ∀ a, ad = some a → ∃ cur, W.heap[a.block]? = some (.cells cur 62 (0, 0))) : RdN V ad l := by
  intro hne
  obtain ⟨b, o, e, hb, hat⟩ := hr hne
  obtain ⟨cur, ho⟩ := ht _ e
  have h3 := h.at hn ho (by decide) (by decide)
  have h4 : V.heap[b]? = W.heap[b]? := h3.trans ho.symm
  refine ⟨b, o, e, lt_at h3, fun q x hq => ?_⟩
  obtain ⟨c0, c1, c2⟩ := hat q x hq
  exact ⟨(World.cell?_of_block (a := ⟨b, _, none⟩) h4).trans c0, (World.cell?_of_block (a := ⟨b, _, none⟩) h4).trans c1, (World.cell?_of_block (a := ⟨b, _, none⟩) h4).trans c2⟩
theorem Sd.kp {σ : Sg} (h : Sd σ base lb off bb N p g l r ad cap W) (hk : Kp base bb W V) (hn : NK σ base bb V) : Sd σ base lb off bb N p g l r ad cap V := by
  obtain ⟨cur, hl⟩ := h.lk
  have hq := hk.at h.nk hl (by decide) (by decide)
  have hq2 := hq.trans hl.symm
  refine ⟨(World.cell?_of_block (a := ⟨lb, _, none⟩) hq2).trans h.c0, (World.cell?_of_block (a := ⟨lb, _, none⟩) hq2).trans h.c1, (World.cell?_of_block (a := ⟨lb, _, none⟩) hq2).trans h.c2, ⟨cur, hq⟩, ⟨hk.at h.nk h.bk.obj (by decide) (by decide), hk.at h.nk h.bk.row (by decide) (by decide)⟩, hk.rd h.nk h.rd h.ty, fun a ha => ?_, hn, Nat.le_trans h.bz hk.size, h.sg⟩
  obtain ⟨c, hc⟩ := h.ty a ha
  exact ⟨c, hk.at h.nk hc (by decide) (by decide)⟩
theorem row_free {W : World} {base n q : Nat} {v : Value} {xs : List Value} {cur : Array Value} {t : TypeId} {fz : Nat × Nat} (h : W.ownsRow base 23 1 v n xs) (ho : W.heap[q]? = some (.cells cur t fz)) (ht : t ≠ 23) : v.ownBlock ≠ some q := fun e => by
  obtain ⟨_, c, h2⟩ := ownsRow_block h q e
  have := h2.symm.trans ho
  simp only [Option.some.injEq, Obj.cells.injEq] at this
  exact ht this.2.1.symm
/-- What turns a block of another type leaves the book of lists. -/
theorem NK.grown {σ : Sg} {q : Nat} {cur : Array Value} {t : TypeId} {fz : Nat × Nat} (h : NK σ base bb W) (ho : W.heap[q]? = some (.cells cur t fz)) (h1 : t ≠ 44) (h2 : t ≠ 23) (h3 : t ≠ 62 ∨ σ q) (hg : W.grownBy V (some q)) : NK σ base bb V := by
  obtain ⟨hs, k, x, y, L, ⟨u, v, hk, hkb, h6, h7, hap, hbb⟩, hl, hL⟩ := h
  refine ⟨fun b q => Nat.lt_of_lt_of_le (hs b q) hg.size, k, x, y, L, ⟨u, v, hk, (hg.block _ (lt_at hkb) (fun e => ?_)).trans hkb, row_apart2 h6 hg (fun b e => ?_), row_apart2 h7 hg (fun b e => ?_), hap, hbb⟩, hl, hL.carry (fun g cur' hsg hc => (hg.block g (lt_at hc) (fun e => by
    have e := Option.some.inj e
    rw [e] at hc hsg
    have := hc.symm.trans ho
    simp only [Option.some.injEq, Obj.cells.injEq] at this
    rcases h3 with h3 | h3
    · exact h3 this.2.1.symm
    · exact hsg h3)).trans hc)⟩
  · have e := Option.some.inj e
    subst e
    have := hkb.symm.trans ho
    simp only [Option.some.injEq, Obj.cells.injEq] at this
    exact h1 this.2.1.symm
  · obtain rfl := Option.some.inj e
    exact row_free h6 ho h2
  · obtain rfl := Option.some.inj e
    exact row_free h7 ho h2
/-- The program's book turns. -/
theorem Sd.turn {σ : Sg} {l' : List N3} (h : Sd σ base lb off bb N p g l r ad cap W) (hk : Bk V p g l') (hg : W.grownBy V (some g)) (hne : ∀ a, ad = some a → a.block ≠ g) : Sd σ base lb off bb N p g l' r ad cap V := by
  obtain ⟨cur, hl⟩ := h.lk
  have hlg : lb ≠ g := fun e => by
    subst e
    have := hl.symm.trans h.bk.row
    simp only [Option.some.injEq, Obj.cells.injEq] at this
    exact absurd this.2.1 (by decide)
  have hq := hg.block _ (lt_at hl) (by simpa using hlg)
  refine ⟨(World.cell?_of_block (a := ⟨lb, _, none⟩) hq).trans h.c0, (World.cell?_of_block (a := ⟨lb, _, none⟩) hq).trans h.c1, (World.cell?_of_block (a := ⟨lb, _, none⟩) hq).trans h.c2, ⟨cur, hq.trans hl⟩, hk, fun hn => ?_, fun a ha => ?_, h.nk.grown h.bk.row (by decide) (by decide) (.inr h.sg) hg, Nat.le_trans h.bz hg.size, h.sg⟩
  · obtain ⟨b, o, e, hb, hat⟩ := h.rd hn
    have h4 := hg.block b hb (by simpa using hne _ e)
    refine ⟨b, o, e, Nat.lt_of_lt_of_le hb hg.size, fun q x hq => ?_⟩
    obtain ⟨c0, c1, c2⟩ := hat q x hq
    exact ⟨(World.cell?_of_block (a := ⟨b, _, none⟩) h4).trans c0, (World.cell?_of_block (a := ⟨b, _, none⟩) h4).trans c1, (World.cell?_of_block (a := ⟨b, _, none⟩) h4).trans c2⟩
  · obtain ⟨c, hc⟩ := h.ty a ha
    exact ⟨c, (hg.block _ (lt_at hc) (by simpa using hne a ha)).trans hc⟩
/-- The document's book is put. -/
theorem Sd.put {σ : Sg} {r' : List N3} {ad' : Option Addr} {cap' : Nat} (h : Sd σ base lb off bb N p g l r ad cap W) (hr : RdN W ad' r') (ht : ∀ a, ad' = some a → ∃ cur, W.heap[a.block]? = some (.cells cur 62 (0, 0))) : Sd σ base lb off bb N p g l r' ad' cap' (W.setCell ⟨lb, off + 1, none⟩ (.slice ad' N cap')) := by
  obtain ⟨cur, hl⟩ := h.lk
  have hs := heap_setCell_same _ _ (off + 1) _ _ (.slice ad' N cap') hl
  have hof : ∀ (q : Nat) (c : Array Value) (t : TypeId) (fz : Nat × Nat), W.heap[q]? = some (.cells c t fz) → t ≠ 50 → q ≠ lb := fun q c t fz ho ht e => by
    subst e
    have := hl.symm.trans ho
    simp only [Option.some.injEq, Obj.cells.injEq] at this
    exact ht this.2.1.symm
  have hsame : ∀ q, q ≠ lb → (W.setCell ⟨lb, off + 1, none⟩ (.slice ad' N cap')).heap[q]? = W.heap[q]? := fun q hq => Below.heap_setCell _ _ _ _ hq
  have hc1 : off + 1 < cur.size := by
    have := h.c1
    rw [cell_at hl] at this
    exact (Array.getElem?_eq_some_iff.1 this).1
  have hcell : ∀ j, j ≠ off + 1 → (W.setCell ⟨lb, off + 1, none⟩ (.slice ad' N cap')).cell? ⟨lb, j, none⟩ = W.cell? ⟨lb, j, none⟩ := fun j hj => by
    rw [cell_at hs j, cell_at hl j, Array.getElem?_setIfInBounds_ne (by omega)]
  refine ⟨(hcell _ (by omega)).trans h.c0, ?_, (hcell _ (by omega)).trans h.c2, ⟨_, hs⟩, ⟨(hsame _ (hof _ _ _ _ h.bk.obj (by decide))).trans h.bk.obj, (hsame _ (hof _ _ _ _ h.bk.row (by decide))).trans h.bk.row⟩, fun hn => ?_, fun a ha => ?_, ?_, by simpa using h.bz, h.sg⟩
  · rw [cell_at hs]
    simp [hc1]
  · obtain ⟨b, o, e, hb, hat⟩ := hr hn
    obtain ⟨c, hc⟩ := ht _ e
    have h4 := hsame b (hof _ _ _ _ hc (by decide))
    refine ⟨b, o, e, by simpa using hb, fun q x hq => ?_⟩
    obtain ⟨c0, c1, c2⟩ := hat q x hq
    exact ⟨(World.cell?_of_block (a := ⟨b, _, none⟩) h4).trans c0, (World.cell?_of_block (a := ⟨b, _, none⟩) h4).trans c1, (World.cell?_of_block (a := ⟨b, _, none⟩) h4).trans c2⟩
  · obtain ⟨c, hc⟩ := ht a ha
    exact ⟨c, (hsame _ (hof _ _ _ _ hc (by decide))).trans hc⟩
  · exact h.nk.grown hl (by decide) (by decide) (.inl (by decide)) ⟨rfl, rfl, rfl, by simp, fun q hq hn => hsame q (fun e => hn (by rw [e]))⟩
end
/-- A list that was made: with its block's type. -/
theorem Made.rd2 {w W : World} {v : Value} {l : List N3} (h : Made w W v l) : ∃ ad cap, v = .slice ad l.length cap ∧ RdN W ad l ∧ (∀ a, ad = some a → ∃ cur, W.heap[a.block]? = some (.cells cur 62 (0, 0))) ∧ (ad = none → cap = 0) := by
  unfold Made at h
  rcases own_form h with ⟨rfl, e⟩ | ⟨g, cap, rfl, h1, h2, h3⟩
  · refine ⟨none, 0, by rw [e], fun hn => ?_, (fun a ha => by cases ha), fun _ => rfl⟩
    exact absurd (List.eq_nil_of_length_eq_zero e) hn
  · exact ⟨some ⟨g, 0, none⟩, cap, rfl, fun _ => ⟨g, 0, rfl, h2, nts_own h rfl⟩, fun a ha => by obtain rfl := Option.some.inj ha; exact (ownsRow_block h g rfl).2, fun e => by cases e⟩
theorem field_bo0 (W : World) (B o : Nat) : (Instr.fieldAt 49 (.pointer (some ⟨B, o, none⟩)) 0).run Tryz.prog W = .ok (.pointer (some ⟨B, o, none⟩)) W := by go_simp
theorem field_bo1 (W : World) (B o : Nat) : (Instr.fieldAt 49 (.pointer (some ⟨B, o, none⟩)) 1).run Tryz.prog W = .ok (.pointer (some ⟨B, o + 1, none⟩)) W := by go_simp
theorem field_rbo (W : World) (B o : Nat) : (Instr.fieldAt 47 (.pointer (some ⟨B, o, none⟩)) 0).run Tryz.prog W = .ok (.pointer (some ⟨B, o, none⟩)) W := by go_simp
theorem load_bop {W : World} {B o p : Nat} (h : W.cell? ⟨B, o, none⟩ = some (.pointer (some ⟨p, 0, none⟩))) : (Instr.loadAt 45 (.pointer (some ⟨B, o, none⟩))).run Tryz.prog W = .ok (.pointer (some ⟨p, 0, none⟩)) W := by go_simp
theorem load_bol {W : World} {B o N cap : Nat} {ad : Option Addr} (h : W.cell? ⟨B, o, none⟩ = some (.slice ad N cap)) : (Instr.loadAt 23 (.pointer (some ⟨B, o, none⟩))).run Tryz.prog W = .ok (.slice ad N cap) W := by go_simp
theorem load_bor {W : World} {B o N cap : Nat} {ad : Option Addr} (h : W.cell? ⟨B, o, none⟩ = some (.slice ad N cap)) : (Instr.loadAt 47 (.pointer (some ⟨B, o, none⟩))).run Tryz.prog W = .ok (.agg #[.slice ad N cap]) W := by go_simp
theorem bi_lenN2 (t : TypeId) (bs : Array Bool) (a : Option Addr) (n c : Nat) (w : World) : (builtin .len #[23] t bs #[.slice a n c]).run Tryz.prog w = .ok (.value (.int .i64 (n : Int))) w := by
  show ((do pure (.value (← Builtin.len_ #[23] t #[.slice a n c]))) : Sem Next).run Tryz.prog w = _
  go_simp
set_option maxHeartbeats 4000000 in
set_option maxRecDepth 100000 in
theorem looks_any {σ : Sg} {w : World} {base lb off bb N p g : Nat} {l : List N3} {ad : Option Addr} {cap : Nat} (h : Sd σ base lb off bb N p g l l ad cap w) (hn : l.length = N) (h0 : 0 < N) (h1 : N ≤ 100) (hbo : Bok l) : Calls Tryz.prog 15 #[.pointer (some ⟨lb, off, none⟩)] w fun e w' => e = .returned (.bool true) ∧ NK σ base bb w' ∧ Kp base bb w w' := by
  have hmx : Tryz.prog.follows .mixedOrders = true := by kernel_rfl
  have hli : Calls Tryz.prog 30 #[.pointer (some ⟨p, 0, none⟩)] w fun e w' => ∃ adl capl, e = .returned (.slice adl N capl) ∧ RdN w' adl l ∧ (∀ a, adl = some a → ∃ cur, w'.heap[a.block]? = some (.cells cur 62 (0, 0))) ∧ (adl = none → capl = 0) ∧ Below w.heap.size w w' ∧ Made w w' (.slice adl N capl) l := (blist_any h.bk (by omega) (by omega)).mono (by
    rintro e w' ⟨v, rfl, hm, hb⟩
    rw [filter_all] at hm
    obtain ⟨ad, cap, rfl, hr, ha, hc⟩ := hm.rd2
    exact ⟨ad, cap, by rw [hn], hr, ha, hc, hb, by rw [hn] at hm; exact hm⟩)
  have HNO : Hid (∀ (W : World) (adl : Option Addr) (capl : Nat), Below w.heap.size w W → Made w W (.slice adl N capl) l → RdN W adl l → (adl = none → capl = 0) → Calls Tryz.prog 26 #[.pointer (some ⟨bb, 0, none⟩), .slice adl N capl] W fun e w' => (∃ v, e = .returned v) ∧ NK σ base bb w' ∧ Kp base bb W w') := fun W adl capl hb hm hr hc => by
    have := kb_any h.nk h.bz hb adl capl l hr (by rw [hn]; unfold Made at hm; rw [hn] at hm; exact hm) (by omega) hc
    rw [hn] at this
    exact this
  have HSA : Hid (∀ (W : World) (adl : Option Addr) (capl : Nat), RdN W adl l → RdN W ad l → Calls Tryz.prog 13 #[.slice adl N capl, .slice ad N cap] W fun e w' => e = .returned (.bool true) ∧ Below W.heap.size W w') := fun W adl capl hr hr2 => by
    have := same_any adl ad capl cap l W hr hr2 (by omega)
    rw [hn] at this
    exact this
  have HSZ : Hid (∀ (W : World), Bk W p g l → Calls Tryz.prog 10 #[.pointer (some ⟨p, 0, none⟩)] W fun e w' => e = .returned (.int .i64 (N : Int)) ∧ Below W.heap.size W w') := fun W hk => by
    have := bsize_any hk
    rw [hn] at this
    exact this
  have HSU : Hid (∀ (W : World), Bk W p g l → Calls Tryz.prog 28 #[.pointer (some ⟨p, 0, none⟩)] W fun e w' => e = .returned (sv (sus l)) ∧ Below W.heap.size W w') := fun W hk => sus_any hk (by omega) (by omega) hbo
  have HRS : Hid (∀ (W : World), RdN W ad l → Calls Tryz.prog 29 #[.agg #[.slice ad N cap]] W fun e w' => e = .returned (sv (sus l)) ∧ Below W.heap.size W w') := fun W hr => rSus_any ad N cap l hr hn h0 h1 hbo
  have HS : Hid (sus l < S128) := Nat.lt_of_lt_of_le (sus_lt hbo (by omega)) (by unfold S128; decide)
  have c0 := h.c0
  have HSD : Hid (Sd σ base lb off bb N p g l l ad cap w) := h
  clear h hbo hn
  go_enter Tryz.func15, Tryz.ntmps15
  go_wp2_with (first | (go_at_call 30; (with_reducible refine hli.mono ?_); rintro e u1 ⟨adl, capl, rfl, hr1, ht1, hc1, hb1, hm1⟩; have hs1 := HSD.out.carry hb1; have c2 := hs1.c2; have k1 := HNO.out u1 adl capl hb1 hm1 hr1 hc1; clear hm1) | (go_at_call 26; (with_reducible refine k1.mono ?_); rintro e u2 ⟨⟨v2, rfl⟩, hn2, hk2⟩; have hs2 := hs1.kp hk2 hn2; have hr2 := hk2.rd hs1.nk hr1 ht1; have hkp2 : Kp base bb w u2 := (Kp.ofBelow hb1).trans hk2))
  rename_i Q0 K0 hK
  clear hli HNO k1 hs1 hr1 c0 c2 HSD
  refine wp_region_any hmx ?_
  refine wpAny_pure (fun i__ => ([(.slice adl N capl), (.pointer (some ⟨lb, off, none⟩)), (.pointer (some ⟨lb, off, none⟩)), (.pointer (some ⟨lb, off + 1, none⟩)), (.pointer (some ⟨lb, off + 1, none⟩)), (.slice ad N cap), (.bool true), (.bool true), (.pointer (some ⟨lb, off, none⟩)), (.pointer (some ⟨lb, off, none⟩)), (.pointer (some ⟨lb, off, none⟩)), (.pointer (some ⟨p, 0, none⟩)), (.int .i64 (N : Int)), (.pointer (some ⟨lb, off, none⟩)), (.pointer (some ⟨lb, off, none⟩)), (.pointer (some ⟨lb, off + 1, none⟩)), (.pointer (some ⟨lb, off + 1, none⟩)), (.slice ad N cap), (.int .i64 (N : Int)), (.bool true), (.bool true), (.bool true), (.pointer (some ⟨lb, off, none⟩)), (.pointer (some ⟨lb, off, none⟩)), (.pointer (some ⟨lb, off, none⟩)), (.pointer (some ⟨p, 0, none⟩)), (sv (sus l)), (.pointer (some ⟨lb, off, none⟩)), (.pointer (some ⟨lb, off, none⟩)), (.pointer (some ⟨lb, off + 1, none⟩)), (.agg #[.slice ad N cap]), (sv (sus l)), (.bool true), (.bool true), (.bool true)] : List Value).getD i__ undef) (fun V => Sd σ base lb off bb N p g l l ad cap V ∧ RdN V adl l ∧ Kp base bb w V) (by kernel_rfl) ⟨hs2.carry (Below.refl _ _).drew, hr2.carry (Below.refl _ _).drew, hkp2.trans (Kp.ofBelow (Below.refl _ _).drew)⟩ ?_ ?_
  · refine (stepsFrom_cons ?_ (stepsFrom_cons ?_ (stepsFrom_cons ?_ (stepsFrom_cons ?_ (stepsFrom_cons ?_ (stepsFrom_cons ?_ (stepsFrom_cons ?_ (stepsFrom_cons ?_ (stepsFrom_cons ?_ (stepsFrom_cons ?_ (stepsFrom_cons ?_ (stepsFrom_cons ?_ (stepsFrom_cons ?_ (stepsFrom_cons ?_ (stepsFrom_cons ?_ (stepsFrom_cons ?_ (stepsFrom_cons ?_ (stepsFrom_cons ?_ (stepsFrom_cons ?_ (stepsFrom_cons ?_ (stepsFrom_cons ?_ (stepsFrom_cons ?_ (stepsFrom_cons ?_ (stepsFrom_cons ?_ (stepsFrom_cons ?_ (stepsFrom_cons ?_ (stepsFrom_cons ?_ (stepsFrom_cons ?_ (stepsFrom_cons ?_ (stepsFrom_cons ?_ (stepsFrom_cons ?_ (stepsFrom_cons ?_ (stepsFrom_cons ?_ (stepsFrom_cons ?_ (stepsFrom_cons ?_ trivial)))))))))))))))))))))))))))))))))))
    · exact step_move rfl trivial _ rfl (by kernel_rfl)
    · exact step_move rfl trivial _ rfl (by kernel_rfl)
    · exact step_nilCheck rfl trivial _ _ _ rfl rfl rfl
    · exact step_fieldAddr rfl trivial _ _ _ _ rfl rfl (fun w hw => field_bo1 w _ _)
    · exact step_fieldAddr rfl trivial _ _ _ _ rfl rfl (fun w hw => field_rbo w _ _)
    · exact step_load rfl trivial _ _ _ rfl rfl (fun w hw => load_bol hw.1.c1)
    · exact step_call rfl trivial 13 _ _ [(.slice adl N capl), (.slice ad N cap)] rfl (by kernel_rfl) (enters_of Tryz.func13 (by kernel_rfl) rfl) (fun w hw => (HSA.out w adl capl hw.2.1 hw.1.rd).mono (by rintro e w' ⟨rfl, hb⟩; exact ⟨rfl, hw.1.carry hb, hw.2.1.carry hb, hw.2.2.trans (Kp.ofBelow hb)⟩))
    · exact step_move rfl trivial _ rfl (by kernel_rfl)
    · exact step_move rfl (by exact ⟨_, rfl, by kernel_rfl⟩) _ rfl (by kernel_rfl)
    · exact step_nilCheck rfl (by exact ⟨_, rfl, by kernel_rfl⟩) _ _ _ rfl rfl rfl
    · exact step_fieldAddr rfl (by exact ⟨_, rfl, by kernel_rfl⟩) _ _ _ _ rfl rfl (fun w hw => field_bo0 w _ _)
    · exact step_load rfl (by exact ⟨_, rfl, by kernel_rfl⟩) _ _ _ rfl rfl (fun w hw => load_bop hw.1.c0)
    · exact step_call rfl (by exact ⟨_, rfl, by kernel_rfl⟩) 10 _ _ [(.pointer (some ⟨p, 0, none⟩))] rfl (by kernel_rfl) (enters_of Tryz.func10 (by kernel_rfl) rfl) (fun w hw => (HSZ.out w hw.1.bk).mono (by rintro e w' ⟨rfl, hb⟩; exact ⟨rfl, hw.1.carry hb, hw.2.1.carry hb, hw.2.2.trans (Kp.ofBelow hb)⟩))
    · exact step_move rfl (by exact ⟨_, rfl, by kernel_rfl⟩) _ rfl (by kernel_rfl)
    · exact step_nilCheck rfl (by exact ⟨_, rfl, by kernel_rfl⟩) _ _ _ rfl rfl rfl
    · exact step_fieldAddr rfl (by exact ⟨_, rfl, by kernel_rfl⟩) _ _ _ _ rfl rfl (fun w hw => field_bo1 w _ _)
    · exact step_fieldAddr rfl (by exact ⟨_, rfl, by kernel_rfl⟩) _ _ _ _ rfl rfl (fun w hw => field_rbo w _ _)
    · exact step_load rfl (by exact ⟨_, rfl, by kernel_rfl⟩) _ _ _ rfl rfl (fun w hw => load_bol hw.1.c1)
    · exact step_bi rfl (by exact ⟨_, rfl, by kernel_rfl⟩) _ _ _ [(.slice ad N cap)] rfl (by kernel_rfl) (fun cs w hw => bi_lenN2 _ cs _ N cap w)
    · exact step_binOp rfl (by exact ⟨_, rfl, by kernel_rfl⟩) _ _ _ _ _ _ _ rfl rfl rfl (fun w hw => (bin_eql .i64 _ _).trans (by simp))
    · exact step_pick rfl trivial _ _ _ true rfl (by kernel_rfl) (by kernel_rfl)
    · exact step_move rfl trivial _ rfl (by kernel_rfl)
    · exact step_move rfl (by exact ⟨_, rfl, by kernel_rfl⟩) _ rfl (by kernel_rfl)
    · exact step_nilCheck rfl (by exact ⟨_, rfl, by kernel_rfl⟩) _ _ _ rfl rfl rfl
    · exact step_fieldAddr rfl (by exact ⟨_, rfl, by kernel_rfl⟩) _ _ _ _ rfl rfl (fun w hw => field_bo0 w _ _)
    · exact step_load rfl (by exact ⟨_, rfl, by kernel_rfl⟩) _ _ _ rfl rfl (fun w hw => load_bop hw.1.c0)
    · exact step_call rfl (by exact ⟨_, rfl, by kernel_rfl⟩) 28 _ _ [(.pointer (some ⟨p, 0, none⟩))] rfl (by kernel_rfl) (enters_of Tryz.func28 (by kernel_rfl) rfl) (fun w hw => (HSU.out w hw.1.bk).mono (by rintro e w' ⟨rfl, hb⟩; exact ⟨rfl, hw.1.carry hb, hw.2.1.carry hb, hw.2.2.trans (Kp.ofBelow hb)⟩))
    · exact step_move rfl (by exact ⟨_, rfl, by kernel_rfl⟩) _ rfl (by kernel_rfl)
    · exact step_nilCheck rfl (by exact ⟨_, rfl, by kernel_rfl⟩) _ _ _ rfl rfl rfl
    · exact step_fieldAddr rfl (by exact ⟨_, rfl, by kernel_rfl⟩) _ _ _ _ rfl rfl (fun w hw => field_bo1 w _ _)
    · exact step_load rfl (by exact ⟨_, rfl, by kernel_rfl⟩) _ _ _ rfl rfl (fun w hw => load_bor hw.1.c1)
    · exact step_call rfl (by exact ⟨_, rfl, by kernel_rfl⟩) 29 _ _ [(.agg #[.slice ad N cap])] rfl (by kernel_rfl) (enters_of Tryz.func29 (by kernel_rfl) rfl) (fun w hw => (HRS.out w hw.1.rd).mono (by rintro e w' ⟨rfl, hb⟩; exact ⟨rfl, hw.1.carry hb, hw.2.1.carry hb, hw.2.2.trans (Kp.ofBelow hb)⟩))
    · exact step_binOp rfl (by exact ⟨_, rfl, by kernel_rfl⟩) _ _ _ _ _ _ _ rfl rfl rfl (fun w hw => eqls rfl HS.out w)
    · exact step_pick rfl trivial _ _ _ true rfl (by kernel_rfl) (by kernel_rfl)
    · exact step_assign rfl trivial _ rfl (by kernel_rfl) (fun _ h => h)
  intro W hW
  first | refine hK _ _ ?_ | refine (‹∀ (a : Act) (w : World), Code.wp Tryz.prog _ _ a w → _›) _ _ ?_
  simp only [finL, List.getD_cons_zero, List.getD_cons_succ, Nat.zero_add, Nat.reduceAdd, List.setIfInBounds_toArray, List.set_cons_zero, List.set_cons_succ]
  obtain ⟨hsW, _, hkW⟩ := hW
  have HA : Hid (NK σ base bb W) := hsW.nk
  clear hsW hs2 hr2 hkp2
  go_wp2
  go_ret
  exact ⟨rfl, HA.out, hkW⟩
end Go.Proofs.YtojegojeolkgpaaGreat
namespace Go.Proofs.YtojegojeolkgpaaGreat
open Go.RowKit Go.Shelf Go.Lib

/-- What turns a book's notices g and the document's list of it alone. -/
structure Fr (g lb off : Nat) (W V : World) : Prop where
  os : V.os = W.os
  tape : V.tape = W.tape
  output : V.output = W.output
  size : W.heap.size ≤ V.heap.size
  block : ∀ q, q < W.heap.size → q ≠ g → q ≠ lb → V.heap[q]? = W.heap[q]?
  cell : ∀ j, j ≠ off + 1 → V.cell? ⟨lb, j, none⟩ = W.cell? ⟨lb, j, none⟩
section
variable {g lb off : Nat} {U W V : World}
theorem Fr.refl (g lb off : Nat) (W : World) : Fr g lb off W W := ⟨rfl, rfl, rfl, Nat.le_refl _, fun _ _ _ _ => rfl, fun _ _ => rfl⟩
theorem Fr.trans (h : Fr g lb off U W) (k : Fr g lb off W V) : Fr g lb off U V :=
  ⟨k.os.trans h.os, k.tape.trans h.tape, k.output.trans h.output, Nat.le_trans h.size k.size, fun q hq h1 h2 => (k.block q (Nat.lt_of_lt_of_le hq h.size) h1 h2).trans (h.block q hq h1 h2), fun j hj => (k.cell j hj).trans (h.cell j hj)⟩
theorem Fr.ofBelow (hb : Below W.heap.size W V) (hl : lb < W.heap.size) : Fr g lb off W V := ⟨hb.os, hb.tape, hb.output, hb.size, fun q hq _ _ => hb.block q hq, fun j _ => World.cell?_of_block (a := ⟨lb, j, none⟩) (hb.block lb hl)⟩
theorem Fr.ofGrown (hg : W.grownBy V (some g)) (hl : lb < W.heap.size) (hne : lb ≠ g) : Fr g lb off W V := ⟨hg.os, hg.tape, hg.output, hg.size, fun q hq h1 _ => hg.block q hq (by simpa using h1), fun j _ => World.cell?_of_block (a := ⟨lb, j, none⟩) (hg.block lb hl (by simpa using hne))⟩
theorem Fr.ofPut {cur : Array Value} {t : TypeId} (hl : W.heap[lb]? = some (.cells cur t (0, 0))) (v : Value) : Fr g lb off W (W.setCell ⟨lb, off + 1, none⟩ v) := by
  have hs := heap_setCell_same _ _ (off + 1) _ _ v hl
  refine ⟨rfl, rfl, rfl, by simp, fun q _ _ h2 => Below.heap_setCell _ _ _ _ h2, fun j hj => ?_⟩
  rw [cell_at hs j, cell_at hl j, Array.getElem?_setIfInBounds_ne (by omega)]
end
theorem Sd.lg {σ : Sg} {base lb off bb N p g : Nat} {l r : List N3} {ad : Option Addr} {cap : Nat} {W : World} (h : Sd σ base lb off bb N p g l r ad cap W) : lb < W.heap.size ∧ lb ≠ g := by
  obtain ⟨cur, hl⟩ := h.lk
  refine ⟨lt_at hl, fun e => ?_⟩
  subst e
  have := hl.symm.trans h.bk.row
  simp only [Option.some.injEq, Obj.cells.injEq] at this
  exact absurd this.2.1 (by decide)
theorem nts_grown {W V : World} {b g off : Nat} {m : List N3} (h : NtsAt W b off m) (hb : b < W.heap.size) (hg : W.grownBy V (some g)) (hne : b ≠ g) : NtsAt V b off m := fun q x hq => by
  have h4 := hg.block b hb (by simpa using hne)
  obtain ⟨c0, c1, c2⟩ := h q x hq
  exact ⟨(World.cell?_of_block (a := ⟨b, _, none⟩) h4).trans c0, (World.cell?_of_block (a := ⟨b, _, none⟩) h4).trans c1, (World.cell?_of_block (a := ⟨b, _, none⟩) h4).trans c2⟩
theorem rd_grown {W V : World} {g : Nat} {ad : Option Addr} {m : List N3} (h : RdN W ad m) (hg : W.grownBy V (some g)) (hne : m ≠ [] → ∀ a, ad = some a → a.block ≠ g) : RdN V ad m := fun hn => by
  obtain ⟨b, o, e, hb, hat⟩ := h hn
  exact ⟨b, o, e, Nat.lt_of_lt_of_le hb hg.size, nts_grown hat hb hg (hne hn _ e)⟩
theorem nts_put {W : World} {b lb j off : Nat} {m : List N3} {v : Value} (h : NtsAt W b off m) (hne : b ≠ lb) : NtsAt (W.setCell ⟨lb, j, none⟩ v) b off m := fun q x hq => by
  have h4 : (W.setCell ⟨lb, j, none⟩ v).heap[b]? = W.heap[b]? := Below.heap_setCell _ _ _ _ hne
  obtain ⟨c0, c1, c2⟩ := h q x hq
  exact ⟨(World.cell?_of_block (a := ⟨b, _, none⟩) h4).trans c0, (World.cell?_of_block (a := ⟨b, _, none⟩) h4).trans c1, (World.cell?_of_block (a := ⟨b, _, none⟩) h4).trans c2⟩
theorem rd_put {W : World} {lb j : Nat} {ad : Option Addr} {m : List N3} {v : Value} (h : RdN W ad m) (hne : m ≠ [] → ∀ a, ad = some a → a.block ≠ lb) : RdN (W.setCell ⟨lb, j, none⟩ v) ad m := fun hn => by
  obtain ⟨b, o, e, hb, hat⟩ := h hn
  exact ⟨b, o, e, by simpa using hb, nts_put hat (hne hn _ e)⟩
theorem holds_put {W : World} {lb j b : Nat} {c : Nat → Nat} {v : Value} (h : Holds4 W b c) (hne : b ≠ lb) : Holds4 (W.setCell ⟨lb, j, none⟩ v) b c := (Below.heap_setCell _ _ _ _ hne).trans h
def sO (S : Nat) : Obj := .cells #[.int .u32 (wd S 0 : Nat), .int .u32 (wd S 1 : Nat), .int .u32 (wd S 2 : Nat), .int .u32 (wd S 3 : Nat)] 76
theorem eq_in4 (S : Nat) (w : World) : (Op.equalIn 10000 76 (.agg #[.int .u32 (wd S 0 : Nat), .int .u32 (wd S 1 : Nat), .int .u32 (wd S 2 : Nat), .int .u32 (wd S 3 : Nat)]) (.agg #[.int .u32 (wd S 0 : Nat), .int .u32 (wd S 1 : Nat), .int .u32 (wd S 2 : Nat), .int .u32 (wd S 3 : Nat)])).run Tryz.prog w = .ok true w := by
  show (Op.equalIn 10000 76 (sv S) (sv S)).run Tryz.prog w = .ok true w
  have hi : (Tryz.prog.info? 74).isSome = true := by kernel_rfl
  obtain ⟨i, hi⟩ := Option.isSome_iff_exists.1 hi
  have hc : Tryz.prog.cellsOf 74 = 1 := by kernel_rfl
  rw [sv_cells, run_equalIn_array w 9999 _ _ Tryz.underlying76 hi, hc, show List.range 4 = [0, 1, 2, 3] from rfl]
  rw [eqStep S S 0 (by decide), eqStep S S 1 (by decide), eqStep S S 2 (by decide), eqStep S S 3 (by decide)]
  simp [Op.eqItems]
/-- All that holds when the document's book has been put. -/
structure PX (σ : Sg) (base lb off bb N p g S : Nat) (ad ad2 ad' : Option Addr) (cap' cap2 ga capm : Nat) (l' m : List N3) (w X : World) (b2 b3 : Nat) : Prop where
  sd : Sd σ base lb off bb N p g l' l' ad' cap' X
  one : Holds4 X b2 (wd S)
  two : Holds4 X b3 (wd S)
  stay : Calls Tryz.prog 84 #[.slice (some ⟨ga, 0, none⟩) m.length capm, .slice ad2 m.length cap2] X fun e w' => e = .returned (.bool true) ∧ Below X.heap.size X w'
  fr : Fr g lb off w X
theorem px_any {σ : Sg} {w u1 u2 u3 : World} {base lb off bb N p g S : Nat} {l l' m : List N3} {ad ad2 ad' : Option Addr} {cap cap' cap2 ga capm : Nat} (h0 : Sd σ base lb off bb N p g l l ad cap w) (hne : ∀ a, ad = some a → a.block ≠ g) (hm : RdN w ad2 m) (hm2 : m ≠ [] → ∀ a, ad2 = some a → a.block ≠ g ∧ a.block ≠ lb) (hl : m.length ≤ 300) (hb1 : Below w.heap.size w u1) (hga : ga < u1.heap.size) (hgn : w.heap.size ≤ ga) (hn1 : NtsAt u1 ga 0 (m ++ mks)) (hcm : m.length + 3 ≤ capm) (hk2 : Bk u2 p g l') (hg2 : u1.grownBy u2 (some g)) (hb3 : Below (u2.alloc (sO S)).heap.size (u2.alloc (sO S)) u3) (hr3 : RdN u3 ad' l') (had3 : ad' = ad ∨ ∀ a, ad' = some a → (u2.alloc (sO S)).heap.size ≤ a.block ∧ ∃ cur, u3.heap[a.block]? = some (.cells cur 62 (0, 0))) :
    Sd σ base lb off bb N p g l' l ad cap ((u3.alloc (.cells #[.slice ad' N cap'] 47)).alloc (sO S)) ∧ PX σ base lb off bb N p g S ad ad2 ad' cap' cap2 ga capm l' m w (((u3.alloc (.cells #[.slice ad' N cap'] 47)).alloc (sO S)).setCell ⟨lb, off + 1, none⟩ (.slice ad' N cap')) u2.heap.size (u3.heap.size + 1) := by
  obtain ⟨hlw, hlg⟩ := h0.lg
  have hgg : ga ≠ g := fun e => by have := h0.bk.glt; omega
  have hal := al1 u2 (sO S)
  have hal2 := al2 u3 (.cells #[.slice ad' N cap'] 47) (sO S)
  have s1 := h0.carry hb1
  have s2 := s1.turn hk2 hg2 hne
  have s4 := ((s2.carry hal).carry hb3).carry hal2
  have hz1 := hb1.size
  have hz2 := hg2.size
  have hz3 := hb3.size
  have hz : (u2.alloc (sO S)).heap.size = u2.heap.size + 1 := by simp
  have n2 : NtsAt u2 ga 0 (m ++ mks) := nts_grown hn1 hga hg2 hgg
  have n4 := ((n2.carry (by omega) hal).carry (by omega) hb3).carry (by omega) hal2
  have r2 : RdN u2 ad2 m := rd_grown (hm.carry hb1) hg2 (fun hn a ha => (hm2 hn a ha).1)
  have r4 := ((r2.carry hal).carry hb3).carry hal2
  have one : Holds4 (u2.alloc (sO S)) u2.heap.size (wd S) := new_at rfl
  have ht : ∀ a, ad' = some a → ∃ cur, ((u3.alloc (.cells #[.slice ad' N cap'] 47)).alloc (sO S)).heap[a.block]? = some (.cells cur 62 (0, 0)) := fun a ha => by
    rcases had3 with e | e
    · exact s4.ty a (e ▸ ha)
    · obtain ⟨_, c, hc⟩ := e a ha
      exact ⟨c, (hal2.block _ (lt_at hc)).trans hc⟩
  have hzz : ((u3.alloc (.cells #[.slice ad' N cap'] 47)).alloc (sO S)).heap.size = u3.heap.size + 2 := by simp
  refine ⟨s4, s4.put (hr3.carry hal2) ht, holds_put (one.carry (bel2 hb3 hal2)) (by omega), holds_put (new_at (by simp)) (by omega), ?_, ?_⟩
  · exact stays_any ga ad2 capm cap2 m _ (by simp; omega) (nts_put n4 (by omega)) hcm (rd_put r4 (fun hn a ha => (hm2 hn a ha).2)) (by omega)
  · obtain ⟨cur, hlk⟩ := s4.lk
    have f1 : Fr g lb off w u1 := Fr.ofBelow hb1 hlw
    have f2 : Fr g lb off u1 u2 := Fr.ofGrown hg2 (by omega) hlg
    have f3 : Fr g lb off u2 (u2.alloc (sO S)) := Fr.ofBelow hal (by omega)
    have f4 : Fr g lb off (u2.alloc (sO S)) u3 := Fr.ofBelow hb3 (by omega)
    have f5 : Fr g lb off u3 _ := Fr.ofBelow hal2 (by omega)
    exact ((((f1.trans f2).trans f3).trans f4).trans f5).trans (Fr.ofPut hlk _)
/-- What a step of one of the two leaves: both agree, nothing else has turned. -/
def SdV (σ : Sg) (base lb off bb N p g : Nat) (ad : Option Addr) (l' : List N3) (w w' : World) : Prop := ∃ ad' cap', Sd σ base lb off bb N p g l' l' ad' cap' w' ∧ N ≤ cap' ∧ (ad' = ad ∨ ∀ a, ad' = some a → w.heap.size ≤ a.block) ∧ Fr g lb off w w'
set_option maxHeartbeats 4000000 in
set_option maxRecDepth 100000 in
theorem bmerge_any {σ : Sg} {w : World} {base lb off bb N p g : Nat} {l : List N3} {ad : Option Addr} {cap : Nat} (h : Sd σ base lb off bb N p g l l ad cap w) (hn : l.length = N) (h0 : 0 < N) (h1 : N ≤ 100) (hcap : N ≤ cap) (hne : ∀ a, ad = some a → a.block ≠ g) (ad2 : Option Addr) (cap2 : Nat) (m : List N3) (hm : RdN w ad2 m) (hm2 : m ≠ [] → ∀ a, ad2 = some a → a.block ≠ g ∧ a.block ≠ lb) (hc2 : ad2 = none → cap2 = 0) (hl : m.length ≤ 300) : Calls Tryz.prog 23 #[.pointer (some ⟨lb, off, none⟩), .slice ad2 m.length cap2] w fun e w' => e = .returned (.bool true) ∧ SdV σ base lb off bb N p g ad (mrg l m) w w' := by
  have hle := lent_any ad2 cap2 m w hm hc2 (by omega)
  obtain ⟨S, hS⟩ : ∃ S, mrs l m = S := ⟨_, rfl⟩
  obtain ⟨E, hE⟩ : ∃ E : Int, (if m.all (vlx l.length) = true then 0 else 50) = E := ⟨_, rfl⟩
  have HM : Hid (∀ (W : World) (ad : Option Addr) (cap : Nat), Bk W p g l → RdN W ad m → (m ≠ [] → ∀ a, ad = some a → a.block ≠ g) → Calls Tryz.prog 82 #[.pointer (some ⟨p, 0, none⟩), .slice ad m.length cap] W fun e w' => e = .returned (.tuple #[.agg #[.int .u32 (wd S 0 : Nat), .int .u32 (wd S 1 : Nat), .int .u32 (wd S 2 : Nat), .int .u32 (wd S 3 : Nat)], .int .i64 E]) ∧ Bk w' p g (mrg l m) ∧ W.grownBy w' (some g)) := fun W ad cap hk hr hq => by
    have := merge_any hk ad cap m hr hq (by omega)
    rw [hS, hE] at this
    exact this
  have HR : Hid (∀ (W : World), RdN W ad l → RdN W ad2 m → Calls Tryz.prog 83 #[.agg #[.slice ad N cap], .slice ad2 m.length cap2] W fun e w' => ∃ ad' cap', e = .returned (.tuple #[.agg #[.slice ad' N cap'], .agg #[.int .u32 (wd S 0 : Nat), .int .u32 (wd S 1 : Nat), .int .u32 (wd S 2 : Nat), .int .u32 (wd S 3 : Nat)], .int .i64 E]) ∧ RdN w' ad' (mrg l m) ∧ N ≤ cap' ∧ (ad' = ad ∨ ∀ a, ad' = some a → W.heap.size ≤ a.block ∧ ∃ cur, w'.heap[a.block]? = some (.cells cur 62 (0, 0))) ∧ Below W.heap.size W w') := fun W hr hr2 => by
    have := rMerge_any ad N cap l hr hn h0 h1 hcap ad2 cap2 m hr2 (by omega)
    rw [hS, hE] at this
    exact this
  clear hS hE
  have HSD : Hid (Sd σ base lb off bb N p g l l ad cap w) := h
  have HRM : Hid (RdN w ad2 m) := hm
  clear h hm
  go_enter Tryz.func23, Tryz.ntmps23
  go_wp2_with (first | (go_at_call 81; (with_reducible refine hle.mono ?_); rintro e u1 ⟨ga, capm, rfl, hcm, hga, hnt, hb1, hgn⟩; have hs1 := HSD.out.carry hb1; have c0 := hs1.c0; have HN1 : Hid (NtsAt u1 ga 0 (m ++ mks)) := hnt; have hgg : ga ≠ g := (fun e => by have := HSD.out.bk.glt; omega); have k1 := HM.out u1 (some ⟨ga, 0, none⟩) capm hs1.bk (fun _ => ⟨ga, 0, rfl, hga, fun k x hk => HN1.out k x (by rw [List.getElem?_append_left (List.getElem?_eq_some_iff.1 hk).1]; exact hk)⟩) (fun _ a ha => by obtain rfl := Option.some.inj ha; exact hgg); clear hnt) | (go_at_call 82; (with_reducible refine k1.mono ?_); rintro e u2 ⟨rfl, hk2, hg2⟩; have hs2 := hs1.turn hk2 hg2 hne; have hr2 := rd_grown (HRM.out.carry hb1) hg2 (fun hn a ha => (hm2 hn a ha).1); have hs3 := hs2.carry (al1 u2 (.cells #[.int .u32 (wd S 0 : Nat), .int .u32 (wd S 1 : Nat), .int .u32 (wd S 2 : Nat), .int .u32 (wd S 3 : Nat)] 76)); have c1 := hs3.c1; have k2 := HR.out _ hs3.rd (hr2.carry (al1 u2 (.cells #[.int .u32 (wd S 0 : Nat), .int .u32 (wd S 1 : Nat), .int .u32 (wd S 2 : Nat), .int .u32 (wd S 3 : Nat)] 76))); clear k1 hle hr2 hs1) | (go_at_call 83; (with_reducible refine k2.mono ?_); rintro e u3 ⟨ad', cap', rfl, hr3, hcap3, had3, hb3⟩; clear k2 c0 c1; obtain ⟨hs4, hpx⟩ := px_any (S := S) (cap' := cap') (cap2 := cap2) (capm := capm) HSD.out hne HRM.out hm2 hl hb1 hga hgn HN1.out hcm hk2 hg2 hb3 hr3 had3; have HPX : Hid (_) := hpx; unfold sO at hs4 hpx; have c1 := hs4.c1; have z1 : ((u3.alloc (.cells #[.slice ad' N cap'] 47)).alloc (.cells #[.int .u32 (wd S 0 : Nat), .int .u32 (wd S 1 : Nat), .int .u32 (wd S 2 : Nat), .int .u32 (wd S 3 : Nat)] 76)).frozen? ⟨lb, off + 1, none⟩ = false := (by obtain ⟨cur, hlk⟩ := hs4.lk; exact thaw_at hlk _); have d0 := hpx.one.cell 0 (by decide); have d1 := hpx.one.cell 1 (by decide); have d2 := hpx.one.cell 2 (by decide); have d3 := hpx.one.cell 3 (by decide); have e0 := hpx.two.cell 0 (by decide); have e1 := hpx.two.cell 1 (by decide); have e2 := hpx.two.cell 2 (by decide); have e3 := hpx.two.cell 3 (by decide); have k3 := hpx.stay; clear hpx hs4 hs3 hs2) | (go_at_call 84; (with_reducible refine k3.mono ?_); rintro e u4 ⟨rfl, hb4⟩))
  rw [eq_in4]
  simp only [Result.andThen_ok]
  go_wp2_with (go_at_call 84; (with_reducible refine k3.mono ?_); rintro e u4 ⟨rfl, hb4⟩)
  go_ret
  refine ⟨rfl, ad', cap', HPX.out.sd.carry hb4, hcap3, ?_, HPX.out.fr.trans (Fr.ofBelow hb4 HPX.out.sd.lg.1)⟩
  rcases had3 with e | e
  · exact .inl e
  · refine .inr (fun a ha => ?_)
    have := (e a ha).1
    have hz1 := hb1.size
    have hz2 := hg2.size
    have hz : (u2.alloc (.cells #[.int .u32 (wd S 0 : Nat), .int .u32 (wd S 1 : Nat), .int .u32 (wd S 2 : Nat), .int .u32 (wd S 3 : Nat)] 76)).heap.size = u2.heap.size + 1 := by simp
    omega
end Go.Proofs.YtojegojeolkgpaaGreat
namespace Go.Proofs.YtojegojeolkgpaaGreat
open Go.RowKit Go.Shelf Go.Lib

theorem run_allocR (w : World) : (Instr.alloc 47 true (.tuple #[])).run Tryz.prog w = .ok (.pointer (some ⟨w.heap.size, 0, none⟩)) (w.alloc (.cells #[.slice none 0 0] 47)) := by go_simp
theorem stepG_newR {G : Type} {md : Region.Mode} {ops : Array Oper} {Q : Exit → Act → World → Prop} {X0 : Array Value} {val : G → Nat → Value} {J : G → (Nat → Bool) → World → Prop} {i : Nat} {o : Oper} (hi : ops[i]? = some o) (hg : o.guard = none) (ho : o.op = .alloc 47)
    (h : ∀ g d W, J g d W → d i = false → (∀ j oj, ops[j]? = some oj → d j = true → ∀ k, bindsOn md oj k = true → d k = true) → ∃ g', (∀ j, d j = true → val g' j = val g j) ∧ val g' i = .pointer (some ⟨W.heap.size, 0, none⟩) ∧ J g' (fun j => if j = i then true else d j) (W.alloc (.cells #[.slice none 0 0] 47))) : StepG Tryz.prog md ops Q X0 val J i o := by
  intro g d a W hJ hun _ hcl _
  obtain ⟨g', h1, h2, h3⟩ := h g d W hJ hun hcl
  unfold wpOp
  rw [hi]
  simp only [Region.wanted, hg, if_true]
  refine .inl ?_
  unfold Oper.wp execOp
  simp only [ho, Sem.run_bind, run_allocR, Result.andThen_ok, Sem.run_pure, Oper.upon_value]
  exact ⟨g', h1, by rw [h2], h3⟩
section
variable {base lb off bb N p g : Nat} {l r : List N3} {ad : Option Addr} {cap : Nat} {W V : World}
/-- A box of the document's book is written: nothing of the two turns. -/
theorem Sd.box {σ : Sg} {b : Nat} {v u : Value} (h : Sd σ base lb off bb N p g l r ad cap W) (hb : RB W b v) : Sd σ base lb off bb N p g l r ad cap (W.setCell ⟨b, 0, none⟩ u) := by
  have hof : ∀ (q : Nat) (c : Array Value) (t : TypeId) (fz : Nat × Nat), W.heap[q]? = some (.cells c t fz) → t ≠ 47 → (W.setCell ⟨b, 0, none⟩ u).heap[q]? = W.heap[q]? := fun q c t fz ho ht => Below.heap_setCell _ _ _ _ (fun e => by
    subst e
    have := (show W.heap[q]? = _ from hb).symm.trans ho
    simp only [Option.some.injEq, Obj.cells.injEq] at this
    exact ht this.2.1.symm)
  obtain ⟨cur, hl⟩ := h.lk
  have hq := hof _ _ _ _ hl (by decide)
  refine ⟨(World.cell?_of_block (a := ⟨lb, _, none⟩) hq).trans h.c0, (World.cell?_of_block (a := ⟨lb, _, none⟩) hq).trans h.c1, (World.cell?_of_block (a := ⟨lb, _, none⟩) hq).trans h.c2, ⟨cur, hq.trans hl⟩, ⟨(hof _ _ _ _ h.bk.obj (by decide)).trans h.bk.obj, (hof _ _ _ _ h.bk.row (by decide)).trans h.bk.row⟩, fun hn => ?_, fun a ha => ?_, ?_, by simpa using h.bz, h.sg⟩
  · obtain ⟨b1, o, e, hb1, hat⟩ := h.rd hn
    obtain ⟨c, hc⟩ := h.ty _ e
    have h4 : (W.setCell ⟨b, 0, none⟩ u).heap[b1]? = W.heap[b1]? := hof _ _ _ _ hc (by decide)
    refine ⟨b1, o, e, by simpa using hb1, fun q x hq => ?_⟩
    obtain ⟨c0, c1, c2⟩ := hat q x hq
    exact ⟨(World.cell?_of_block (a := ⟨b1, _, none⟩) h4).trans c0, (World.cell?_of_block (a := ⟨b1, _, none⟩) h4).trans c1, (World.cell?_of_block (a := ⟨b1, _, none⟩) h4).trans c2⟩
  · obtain ⟨c, hc⟩ := h.ty a ha
    exact ⟨c, (hof _ _ _ _ hc (by decide)).trans hc⟩
  · exact h.nk.grown hb (by decide) (by decide) (.inl (by decide)) ⟨rfl, rfl, rfl, by simp, fun q hq hn => Below.heap_setCell _ _ _ _ (fun e => hn (by rw [e]))⟩
theorem Fr.rd {w : World} {m : List N3} {ad2 : Option Addr} (hf : Fr g lb off w V) (hm : RdN w ad2 m) (hm2 : m ≠ [] → ∀ a, ad2 = some a → a.block ≠ g ∧ a.block ≠ lb) : RdN V ad2 m := fun hn => by
  obtain ⟨b, o, e, hb, hat⟩ := hm hn
  have h4 := hf.block b hb (hm2 hn _ e).1 (hm2 hn _ e).2
  refine ⟨b, o, e, Nat.lt_of_lt_of_le hb hf.size, fun q x hq => ?_⟩
  obtain ⟨c0, c1, c2⟩ := hat q x hq
  exact ⟨(World.cell?_of_block (a := ⟨b, _, none⟩) h4).trans c0, (World.cell?_of_block (a := ⟨b, _, none⟩) h4).trans c1, (World.cell?_of_block (a := ⟨b, _, none⟩) h4).trans c2⟩
end
/-- While the program's book takes a notice. -/
structure JT1 (σ : Sg) (base lb off bb N p g : Nat) (l l' r : List N3) (ad : Option Addr) (cap : Nat) (w : World) (d : Bool) (W : World) : Prop where
  sd : Sd σ base lb off bb N p g (if d = true then l' else l) r ad cap W
  fr : Fr g lb off w W
/-- While the document's takes it. -/
structure JT2 (σ : Sg) (base lb off bb N p g : Nat) (l' l : List N3) (ad : Option Addr) (cap : Nat) (w : World) (v : Option Addr × Nat × Nat) (d8 d13 d14 : Bool) (W : World) : Prop where
  sd : Sd σ base lb off bb N p g l' l ad cap W
  fr : Fr g lb off w W
  rt : d8 = true → RdN W v.1 l' ∧ N ≤ v.2.1 ∧ (v.1 = ad ∨ ∀ a, v.1 = some a → w.heap.size ≤ a.block ∧ ∃ cur, W.heap[a.block]? = some (.cells cur 62 (0, 0)))
  bx : d13 = true → w.heap.size ≤ v.2.2 ∧ RB W v.2.2 (if d14 = true then .slice v.1 N v.2.1 else .slice none 0 0)
section
variable {base lb off bb N p g : Nat} {l l' : List N3} {ad : Option Addr} {cap : Nat} {w W V : World} {v : Option Addr × Nat × Nat} {d8 d13 d14 : Bool}
theorem JT2.carry {σ : Sg} (h : JT2 σ base lb off bb N p g l' l ad cap w v d8 d13 d14 W) (hb : Below W.heap.size W V) : JT2 σ base lb off bb N p g l' l ad cap w v d8 d13 d14 V := by
  refine ⟨h.sd.carry hb, h.fr.trans (Fr.ofBelow hb h.sd.lg.1), fun e => ?_, fun e => ⟨(h.bx e).1, (h.bx e).2.carry hb⟩⟩
  obtain ⟨h1, h2, h3⟩ := h.rt e
  refine ⟨h1.carry hb, h2, h3.imp id (fun h4 a ha => ?_)⟩
  obtain ⟨h5, c, h6⟩ := h4 a ha
  exact ⟨h5, c, (hb.block _ (lt_at h6)).trans h6⟩
theorem JT2.new {σ : Sg} (h : JT2 σ base lb off bb N p g l' l ad cap w v d8 d13 false W) : JT2 σ base lb off bb N p g l' l ad cap w (v.1, v.2.1, W.heap.size) d8 true false (W.alloc (.cells #[.slice none 0 0] 47)) := by
  have k := h.carry (al1 W (.cells #[.slice none 0 0] 47))
  exact ⟨k.sd, k.fr, k.rt, fun _ => ⟨h.fr.size, new_at (by simp)⟩⟩
theorem JT2.store {σ : Sg} (h : JT2 σ base lb off bb N p g l' l ad cap w v true true d14 W) (hlw : lb < w.heap.size) : JT2 σ base lb off bb N p g l' l ad cap w v true true true (W.setCell ⟨v.2.2, 0, none⟩ (.slice v.1 N v.2.1)) := by
  obtain ⟨h1, h2⟩ := h.bx rfl
  have hne : ∀ a, v.1 = some a → a.block ≠ v.2.2 := fun a ha e => by
    obtain ⟨_, _, h3⟩ := h.rt rfl
    obtain ⟨c, hc⟩ : ∃ c, W.heap[a.block]? = some (.cells c 62 (0, 0)) := by
      rcases h3 with h4 | h4
      · exact h.sd.ty a (h4 ▸ ha)
      · exact (h4 a ha).2
    rw [e] at hc
    have := (show W.heap[v.2.2]? = _ from h2).symm.trans hc
    simp only [Option.some.injEq, Obj.cells.injEq] at this
    exact absurd this.2.1 (by decide)
  have hs : ∀ q, q ≠ v.2.2 → (W.setCell ⟨v.2.2, 0, none⟩ (.slice v.1 N v.2.1)).heap[q]? = W.heap[q]? := fun q hq => Below.heap_setCell _ _ _ _ hq
  obtain ⟨r1, r2, r3⟩ := h.rt rfl
  refine ⟨h.sd.box h2, ⟨h.fr.os, h.fr.tape, h.fr.output, by simpa using h.fr.size, fun q hq a b => (hs q (by omega)).trans (h.fr.block q hq a b), fun j hj => (World.cell?_of_block (a := ⟨lb, j, none⟩) (hs lb (by omega))).trans (h.fr.cell j hj)⟩, fun _ => ⟨rd_put r1 (fun _ a ha => hne a ha), r2, r3.imp id (fun h4 a ha => ?_)⟩, fun _ => ⟨h1, ?_⟩⟩
  · obtain ⟨h5, c, h6⟩ := h4 a ha
    exact ⟨h5, c, (hs _ (hne a ha)).trans h6⟩
  · have := heap_setCell_same _ _ 0 _ _ (.slice v.1 N v.2.1) h2
    exact this.trans rfl
end
theorem ext0 (a b : Value) (w : World) : (Instr.extract (.tuple #[a, b]) 0).run Tryz.prog w = .ok a w := by go_simp
theorem ext1 (a b : Value) (w : World) : (Instr.extract (.tuple #[a, b]) 1).run Tryz.prog w = .ok b w := by go_simp
theorem ex30 (a b c : Value) (w : World) : (Instr.extract (.tuple #[a, b, c]) 0).run Tryz.prog w = .ok a w := by go_simp
theorem ex31 (a b c : Value) (w : World) : (Instr.extract (.tuple #[a, b, c]) 1).run Tryz.prog w = .ok b w := by go_simp
theorem ex32 (a b c : Value) (w : World) : (Instr.extract (.tuple #[a, b, c]) 2).run Tryz.prog w = .ok c w := by go_simp
theorem fold_step {l m : List N3} {k : Nat} {x : N3} (hx : m[k]? = some x) : (m.take (k + 1)).foldl tke l = tke ((m.take k).foldl tke l) x := by
  rw [List.take_add_one, hx]
  simp
theorem fold_len (l m : List N3) : (m.foldl tke l).length = l.length := by
  induction m generalizing l with
  | nil => rfl
  | cons x r ih => rw [List.foldl_cons, ih, tke_len]
theorem fold_bok {l : List N3} (h : Bok l) (m : List N3) : Bok (m.foldl tke l) := by
  induction m generalizing l with
  | nil => exact h
  | cons x r ih => rw [List.foldl_cons]; exact ih (tke_bok h x)
set_option maxHeartbeats 8000000 in
set_option maxRecDepth 100000 in
theorem btake_any {σ : Sg} {w : World} {base lb off bb N p y : Nat} {l : List N3} {ad : Option Addr} {cap : Nat} (h : Sd σ base lb off bb N p y l l ad cap w) (hn : l.length = N) (h0 : 0 < N) (h1 : N ≤ 100) (hcap : N ≤ cap) (hne : ∀ a, ad = some a → a.block ≠ y) (ad2 : Option Addr) (cap2 : Nat) (m : List N3) (hm : RdN w ad2 m) (hm2 : m ≠ [] → ∀ a, ad2 = some a → a.block ≠ y ∧ a.block ≠ lb) (hl : m.length ≤ 300) : Calls Tryz.prog 22 #[.pointer (some ⟨lb, off, none⟩), .slice ad2 m.length cap2] w fun e w' => e = .returned (.bool true) ∧ SdV σ base lb off bb N p y ad (m.foldl tke l) w w' := by
  have hmx : Tryz.prog.follows .mixedOrders = true := by kernel_rfl
  have hlw := h.lg.1
  have hgw := h.bk.glt
  have HRM : Hid (RdN w ad2 m) := hm
  have HSD : Hid (Sd σ base lb off bb N p y l l ad cap w) := h
  clear h hm
  go_enter Tryz.func22, Tryz.ntmps22
  go_wp2
  go_loopw [5] (fun i wz => ∃ (k : Nat), i = .int .i64 k ∧ k ≤ m.length ∧ SdV σ base lb off bb N p y ad ((m.take k).foldl tke l) w wz) (fun i _ => m.length - vnatR i)
  case atStart => exact ⟨0, rfl, Nat.zero_le _, ad, cap, HSD.out, hcap, .inl rfl, Fr.refl _ _ _ _⟩
  case round =>
    obtain ⟨k, rfl, hk, ad1, cap1, hs, hcap1, had1, hfr⟩ := hrel
    by_cases hkl : k < m.length
    · have hki : (k : Int) < (m.length : Int) := by omega
      obtain ⟨⟨o, t, q⟩, hx⟩ : ∃ x, m[k]? = some x := ⟨_, List.getElem?_eq_getElem hkl⟩
      have hst := fold_step (l := l) hx
      have hLn : ((m.take k).foldl tke l).length = N := (fold_len _ _).trans hn
      generalize (m.take k).foldl tke l = L at hs hst hLn
      obtain ⟨b2, o2, rfl, hb2, hat2⟩ := HRM.out (fun e => by rw [e] at hkl; simp at hkl)
      have HX : Hid (m[k]? = some (o, t, q)) := hx
      have HRF : Hid (∀ V, Fr y lb off w V → NtsAt V b2 o2 m) := fun V hf => by
        obtain ⟨b, oo, e, _, hat⟩ := hf.rd HRM.out hm2 (fun e => by rw [e] at hkl; simp at hkl)
        simp only [Option.some.injEq, Addr.mk.injEq] at e
        obtain ⟨rfl, rfl, _⟩ := e
        exact hat
      have hne1 : ∀ a, ad1 = some a → a.block ≠ y := fun a ha => by
        rcases had1 with e | e
        · exact hne a (e ▸ ha)
        · have := e a ha
          omega
      obtain ⟨B, hB⟩ : ∃ B, tkb L (o, t, q) = B := ⟨_, rfl⟩
      obtain ⟨E, hE⟩ : ∃ E : Int, (if vlx L.length (o, t, q) = true then 0 else 50) = E := ⟨_, rfl⟩
      have HT : Hid (∀ W, Bk W p y L → Calls Tryz.prog 79 #[.pointer (some ⟨p, 0, none⟩), nt o t q] W fun e w' => e = .returned (.tuple #[.bool B, .int .i64 E]) ∧ Bk w' p y (tke L (o, t, q)) ∧ W.grownBy w' (some y)) := fun W hk => by
        have := take_any hk o t q
        rw [hB, hE] at this
        exact this
      have HR : Hid (∀ W, RdN W ad1 L → Calls Tryz.prog 80 #[.agg #[.slice ad1 N cap1], nt o t q] W fun e w' => ∃ ad' cap', e = .returned (.tuple #[.agg #[.slice ad' N cap'], .bool B, .int .i64 E]) ∧ RdN w' ad' (tke L (o, t, q)) ∧ N ≤ cap' ∧ (ad' = ad1 ∨ ∀ a, ad' = some a → W.heap.size ≤ a.block ∧ ∃ cur, w'.heap[a.block]? = some (.cells cur 62 (0, 0))) ∧ Below W.heap.size W w') := fun W hr => by
        have := rTake_any ad1 N cap1 L hr hLn h0 h1 hcap1 o t q
        rw [hB, hE] at this
        exact this
      clear hx hB hE hat2
      generalize tke L (o, t, q) = L' at hst HT HR
      have hj0 : JT1 σ base lb off bb N p y L L' L ad1 cap1 w false wr := ⟨hs, hfr⟩
      go_wp2
      rename_i Q0 K0 hK
      refine wp_region_any hmx ?_
      refine wpAny_tabG (G := (Unit)) (fun g i__ => ([(.pointer (some ⟨lb, off, none⟩)), (.pointer (some ⟨lb, off, none⟩)), (.pointer (some ⟨lb, off, none⟩)), (.pointer (some ⟨p, 0, none⟩)), (.slice (some ⟨b2, o2, none⟩) m.length cap2), (.int .i64 (k : Int)), (.pointer (some ⟨b2, o2 + k * 3, none⟩)), (nt o t q), (.tuple #[.bool B, .int .i64 E]), (.tuple #[.bool B, .int .i64 E]), (.bool B), (.int .i64 E), (.bool B), (.int .i64 E)] : List Value).getD i__ undef) (fun _ d V => JT1 σ base lb off bb N p y L L' L ad1 cap1 w (d 8) V) (by kernel_rfl) (()) (show JT1 σ base lb off bb N p y L L' L ad1 cap1 w false _ from ⟨hs.carry (Below.refl _ _).drew, hfr.trans (Fr.ofBelow (Below.refl _ _).drew hs.lg.1)⟩) ?step1 ?fin1
      case step1 =>
        intro i o ho
        have hi : i < 14 := getElem?_lt ho
        match i, hi, ho with
        | 0, _, ho =>
          cases ho
          refine stepG_of (fun g d hdep => ?_)
          exact step_move rfl trivial _ rfl (by kernel_rfl)
        | 1, _, ho =>
          cases ho
          refine stepG_of (fun g d hdep => ?_)
          exact step_nilCheck rfl trivial _ _ _ rfl rfl rfl
        | 2, _, ho =>
          cases ho
          refine stepG_of (fun g d hdep => ?_)
          exact step_fieldAddr rfl trivial _ _ _ _ rfl rfl (fun w hw => field_bo0 w _ _)
        | 3, _, ho =>
          cases ho
          refine stepG_of (fun g d hdep => ?_)
          exact step_load rfl trivial _ _ _ rfl rfl (fun w hw => load_bop hw.sd.c0)
        | 4, _, ho =>
          cases ho
          refine stepG_of (fun g d hdep => ?_)
          exact step_move rfl trivial _ rfl (by kernel_rfl)
        | 5, _, ho =>
          cases ho
          refine stepG_of (fun g d hdep => ?_)
          exact step_move rfl trivial _ rfl (by kernel_rfl)
        | 6, _, ho =>
          cases ho
          refine stepG_of (fun g d hdep => ?_)
          exact step_indexAddr rfl trivial _ _ _ _ _ rfl rfl rfl (fun w hw => idx_n b2 o2 _ _ k hkl w)
        | 7, _, ho =>
          cases ho
          refine stepG_of (fun g d hdep => ?_)
          exact step_load rfl trivial _ _ _ rfl rfl (fun w hw => load_at (HRF.out w hw.fr) HX.out)
        | 8, _, ho =>
          cases ho
          exact stepG_ofC (fun g d hun hdep hcl => step_call rfl trivial 79 _ _ [(.pointer (some ⟨p, 0, none⟩)), (nt o t q)] rfl (by kernel_rfl) (enters_of Tryz.func79 (by kernel_rfl) rfl) (fun W hw => by have hw' := hw; rw [hun] at hw'; exact (HT.out W hw'.sd.bk).mono (by rintro e w' ⟨rfl, hk2, hg2⟩; refine ⟨rfl, ?_⟩; show JT1 σ base lb off bb N p y L L' L ad1 cap1 w true w'; exact ⟨hw'.sd.turn hk2 hg2 hne1, hw'.fr.trans (Fr.ofGrown hg2 hw'.sd.lg.1 hw'.sd.lg.2)⟩)))
        | 9, _, ho =>
          cases ho
          refine stepG_of (fun g d hdep => ?_)
          exact step_move rfl trivial _ rfl (by kernel_rfl)
        | 10, _, ho =>
          cases ho
          refine stepG_of (fun g d hdep => ?_)
          exact step_extract rfl trivial _ _ _ rfl rfl (fun w hw => ext0 _ _ w)
        | 11, _, ho =>
          cases ho
          refine stepG_of (fun g d hdep => ?_)
          exact step_extract rfl trivial _ _ _ rfl rfl (fun w hw => ext1 _ _ w)
        | 12, _, ho =>
          cases ho
          refine stepG_of (fun g d hdep => ?_)
          exact step_assign rfl trivial _ rfl (by kernel_rfl) (fun _ h => h)
        | 13, _, ho =>
          cases ho
          refine stepG_of (fun g d hdep => ?_)
          exact step_assign rfl trivial _ rfl (by kernel_rfl) (fun _ h => h)
      intro g d W hall hW
      first | refine hK _ _ ?_ | refine (‹∀ (a : Act) (w : World), Code.wp Tryz.prog _ _ a w → _›) _ _ ?_ | skip
      simp only [finL, List.getD_cons_zero, List.getD_cons_succ, Nat.zero_add, Nat.reduceAdd, List.setIfInBounds_toArray, List.set_cons_zero, List.set_cons_succ]
      rw [hall 8 (by decide)] at hW
      have hs2 : Sd σ base lb off bb N p y L' L ad1 cap1 W := hW.sd
      have hfr2 := hW.fr
      clear hW hall hj0 hs hfr HT
      go_wp2
      refine wp_region_any hmx ?_
      refine wpAny_tabG (G := (Option Addr × Nat × Nat)) (fun g i__ => ([(.pointer (some ⟨lb, off, none⟩)), (.pointer (some ⟨lb, off, none⟩)), (.pointer (some ⟨lb, off + 1, none⟩)), (.agg #[.slice ad1 N cap1]), (.slice (some ⟨b2, o2, none⟩) m.length cap2), (.int .i64 (k : Int)), (.pointer (some ⟨b2, o2 + k * 3, none⟩)), (nt o t q), (.tuple #[.agg #[.slice g.1 N g.2.1], .bool B, .int .i64 E]), (.tuple #[.agg #[.slice g.1 N g.2.1], .bool B, .int .i64 E]), (.agg #[.slice g.1 N g.2.1]), (.bool B), (.int .i64 E), (.pointer (some ⟨g.2.2, 0, none⟩)), undef, (.bool B), (.int .i64 E)] : List Value).getD i__ undef) (fun g d V => JT2 σ base lb off bb N p y L' L ad1 cap1 w g (d 8) (d 13) (d 14) V) (by kernel_rfl) ((none, 0, 0)) (show JT2 σ base lb off bb N p y L' L ad1 cap1 w (none, 0, 0) false false false _ from ⟨hs2.carry (Below.refl _ _).drew, hfr2.trans (Fr.ofBelow (Below.refl _ _).drew hs2.lg.1), (fun e => by cases e), (fun e => by cases e)⟩) ?step2 ?fin2
      case step2 =>
        intro i o ho
        have hi : i < 17 := getElem?_lt ho
        match i, hi, ho with
        | 0, _, ho =>
          cases ho
          refine stepG_of (fun g d hdep => ?_)
          exact step_move rfl trivial _ rfl (by kernel_rfl)
        | 1, _, ho =>
          cases ho
          refine stepG_of (fun g d hdep => ?_)
          exact step_nilCheck rfl trivial _ _ _ rfl rfl rfl
        | 2, _, ho =>
          cases ho
          refine stepG_of (fun g d hdep => ?_)
          exact step_fieldAddr rfl trivial _ _ _ _ rfl rfl (fun w hw => field_bo1 w _ _)
        | 3, _, ho =>
          cases ho
          refine stepG_of (fun g d hdep => ?_)
          exact step_load rfl trivial _ _ _ rfl rfl (fun w hw => load_bor hw.sd.c1)
        | 4, _, ho =>
          cases ho
          refine stepG_of (fun g d hdep => ?_)
          exact step_move rfl trivial _ rfl (by kernel_rfl)
        | 5, _, ho =>
          cases ho
          refine stepG_of (fun g d hdep => ?_)
          exact step_move rfl trivial _ rfl (by kernel_rfl)
        | 6, _, ho =>
          cases ho
          refine stepG_of (fun g d hdep => ?_)
          exact step_indexAddr rfl trivial _ _ _ _ _ rfl rfl rfl (fun w hw => idx_n b2 o2 _ _ k hkl w)
        | 7, _, ho =>
          cases ho
          refine stepG_of (fun g d hdep => ?_)
          exact step_load rfl trivial _ _ _ rfl rfl (fun w hw => load_at (HRF.out w hw.fr) HX.out)
        | 8, _, ho =>
          cases ho
          exact stepG_call rfl (fun g => trivial) 80 _ _ (fun _ => [(.agg #[.slice ad1 N cap1]), (nt o t q)]) rfl (fun g => by kernel_rfl) (enters_of Tryz.func80 (by kernel_rfl) rfl) (fun g d W hJ hun hdep hcl => (HR.out W hJ.sd.rd).mono (by rintro e w' ⟨ad', cap', rfl, hr', hc', ha', hb'⟩; refine ⟨(ad', cap', g.2.2), rfl, (fun j hj => match j, hj with | 8, hj => (by rw [hj] at hun; cases hun) | 9, hj => absurd ((hcl 9 _ rfl hj 8 (by kernel_rfl))) (by rw [hun]; simp) | 10, hj => absurd ((hcl 9 _ rfl (hcl 10 _ rfl hj 9 (by kernel_rfl)) 8 (by kernel_rfl))) (by rw [hun]; simp) | 0, _ => rfl | 1, _ => rfl | 2, _ => rfl | 3, _ => rfl | 4, _ => rfl | 5, _ => rfl | 6, _ => rfl | 7, _ => rfl | 11, _ => rfl | 12, _ => rfl | 13, _ => rfl | 14, _ => rfl | 15, _ => rfl | 16, _ => rfl | _ + 17, _ => rfl), ?_⟩; have h14 : d 14 = false := (by cases h : d 14 with | false => rfl | true => exact absurd (hcl 14 _ rfl h 8 (by kernel_rfl)) (by rw [hun]; simp)); have hK := hJ.carry hb'; rw [h14] at hK; show JT2 σ base lb off bb N p y L' L ad1 cap1 w _ true (d 13) (d 14) w'; rw [h14]; exact ⟨hK.sd, hK.fr, fun _ => ⟨hr', hc', ha'.imp id (fun h4 a ha => ⟨Nat.le_trans hJ.fr.size (h4 a ha).1, (h4 a ha).2⟩)⟩, hK.bx⟩))
        | 9, _, ho =>
          cases ho
          refine stepG_of (fun g d hdep => ?_)
          exact step_move rfl trivial _ rfl (by kernel_rfl)
        | 10, _, ho =>
          cases ho
          refine stepG_of (fun g d hdep => ?_)
          exact step_extract rfl trivial _ _ _ rfl rfl (fun w hw => ex30 _ _ _ w)
        | 11, _, ho =>
          cases ho
          refine stepG_of (fun g d hdep => ?_)
          exact step_extract rfl trivial _ _ _ rfl rfl (fun w hw => ex31 _ _ _ w)
        | 12, _, ho =>
          cases ho
          refine stepG_of (fun g d hdep => ?_)
          exact step_extract rfl trivial _ _ _ rfl rfl (fun w hw => ex32 _ _ _ w)
        | 13, _, ho =>
          cases ho
          exact stepG_newR rfl rfl rfl (fun g d W hJ hun hcl => by have h14 : d 14 = false := (by cases h : d 14 with | false => rfl | true => exact absurd (hcl 14 _ rfl h 13 (by kernel_rfl)) (by rw [hun]; simp)); have hJ' := hJ; rw [h14] at hJ'; refine ⟨(g.1, g.2.1, W.heap.size), (fun j hj => match j, hj with | 13, hj => (by rw [hj] at hun; cases hun)  | 0, _ => rfl | 1, _ => rfl | 2, _ => rfl | 3, _ => rfl | 4, _ => rfl | 5, _ => rfl | 6, _ => rfl | 7, _ => rfl | 8, _ => rfl | 9, _ => rfl | 10, _ => rfl | 11, _ => rfl | 12, _ => rfl | 14, _ => rfl | 15, _ => rfl | 16, _ => rfl | _ + 17, _ => rfl), rfl, ?_⟩; show JT2 σ base lb off bb N p y L' L ad1 cap1 w _ (d 8) true (d 14) _; rw [h14]; exact hJ'.new)
        | 14, _, ho =>
          cases ho
          refine stepG_of (fun g d hdep => ?_)
          exact step_store rfl trivial rfl _ _ _ _ _ rfl rfl rfl (fun W hw => by have h8 : d 8 = true := hdep 8 (by kernel_rfl); have h13 : d 13 = true := hdep 13 (by kernel_rfl); have hw' := hw; rw [h8, h13] at hw'; refine ⟨_, store_rb (hw'.bx rfl).2, ?_⟩; show JT2 σ base lb off bb N p y L' L ad1 cap1 w _ (d 8) (d 13) true _; rw [h8, h13]; exact hw'.store hlw)
        | 15, _, ho =>
          cases ho
          refine stepG_of (fun g d hdep => ?_)
          exact step_assign rfl trivial _ rfl (by kernel_rfl) (fun _ h => h)
        | 16, _, ho =>
          cases ho
          refine stepG_of (fun g d hdep => ?_)
          exact step_assign rfl trivial _ rfl (by kernel_rfl) (fun _ h => h)
      intro g d W hall hW
      first | refine hK _ _ ?_ | refine (‹∀ (a : Act) (w : World), Code.wp Tryz.prog _ _ a w → _›) _ _ ?_ | skip
      simp only [finL, List.getD_cons_zero, List.getD_cons_succ, Nat.zero_add, Nat.reduceAdd, List.setIfInBounds_toArray, List.set_cons_zero, List.set_cons_succ]
      rw [hall 8 (by decide), hall 13 (by decide), hall 14 (by decide)] at hW
      obtain ⟨adn, capn, bx⟩ := g
      have hs3 := hW.sd
      have hfr3 := hW.fr
      obtain ⟨hrn, hcn, han⟩ := hW.rt rfl
      have hbx : RB W bx (.slice adn N capn) := (hW.bx rfl).2
      clear hW hall hs2 hfr2 HR
      have r0 := hbx.cell
      have c1 := hs3.c1
      have z1 : W.frozen? ⟨lb, off + 1, none⟩ = false := (by obtain ⟨cur, hlk⟩ := hs3.lk; exact thaw_at hlk _)
      have HEnd : Hid (SdV σ base lb off bb N p y ad L' w (W.setCell ⟨lb, off + 1, none⟩ (.slice adn N capn))) := by
        have hty : ∀ a, adn = some a → ∃ cur, W.heap[a.block]? = some (.cells cur 62 (0, 0)) := fun a ha => by
          rcases han with e | e
          · exact hs3.ty a (e ▸ ha)
          · exact (e a ha).2
        obtain ⟨cur, hlk⟩ := hs3.lk
        refine ⟨adn, capn, hs3.put hrn hty, hcn, ?_, hfr3.trans (Fr.ofPut hlk _)⟩
        rcases han with e | e
        · exact had1.imp (fun h => e.trans h) (fun h a ha => h a (e ▸ ha))
        · exact .inr (fun a ha => (e a ha).1)
      rw [← hst] at HEnd
      clear hbx hs3 hfr3 hrn han hst
      go_wp2
      go_roundw
      case rel => exact ⟨k + 1, by simp, by omega, HEnd.out⟩
      case measure => simp [vnatR]; omega
    · have hkk : k = m.length := by omega
      subst hkk
      rw [List.take_length] at hs
      have HV : Hid (SdV σ base lb off bb N p y ad (m.foldl tke l) w wr) := ⟨ad1, cap1, hs, hcap1, had1, hfr⟩
      clear hs hfr
      go_wp2
      go_ret
      exact ⟨rfl, HV.out⟩
end Go.Proofs.YtojegojeolkgpaaGreat
namespace Go.Proofs.YtojegojeolkgpaaGreat
open Go.RowKit Go.Shelf Go.Lib

/-- A step of the book at lb, off on: its notices g, the document's list of it, the book of lists; nothing else turns. -/
structure Ev (base lb off g : Nat) (W V : World) : Prop where
  os : V.os = W.os
  tape : V.tape = W.tape
  output : V.output = W.output
  size : W.heap.size ≤ V.heap.size
  block : ∀ (q : Nat) (cur : Array Value) (t : TypeId) (z : Nat × Nat), W.heap[q]? = some (.cells cur t z) → q ≠ lb → q ≠ g → t ≠ 44 → t ≠ 23 → V.heap[q]? = some (.cells cur t z)
  low : ∀ k, k < base → V.heap[k]? = W.heap[k]?
  cell : ∀ j, j ≠ off + 1 → V.cell? ⟨lb, j, none⟩ = W.cell? ⟨lb, j, none⟩
  lk : (∃ cur, W.heap[lb]? = some (.cells cur 50 (0, 0))) → ∃ cur, V.heap[lb]? = some (.cells cur 50 (0, 0))
section
variable {base lb off g : Nat} {U W V : World}
theorem Ev.trans (h : Ev base lb off g U W) (k : Ev base lb off g W V) : Ev base lb off g U V :=
  ⟨k.os.trans h.os, k.tape.trans h.tape, k.output.trans h.output, Nat.le_trans h.size k.size, fun q cur t z hq h1 h2 h3 h4 => k.block q cur t z (h.block q cur t z hq h1 h2 h3 h4) h1 h2 h3 h4, fun j hj => (k.low j hj).trans (h.low j hj), fun j hj => (k.cell j hj).trans (h.cell j hj), fun hc => k.lk (h.lk hc)⟩
theorem Ev.of (off g : Nat) (hb : Below W.heap.size W V) (hz : base ≤ W.heap.size) (hl : lb < W.heap.size) : Ev base lb off g W V :=
  ⟨hb.os, hb.tape, hb.output, hb.size, fun q _ _ _ hq _ _ _ _ => (hb.block q (lt_at hq)).trans hq, fun k hk => hb.block k (Nat.lt_of_lt_of_le hk hz), fun j _ => World.cell?_of_block (a := ⟨lb, j, none⟩) (hb.block lb hl), fun ⟨cur, hc⟩ => ⟨cur, (hb.block _ (lt_at hc)).trans hc⟩⟩
theorem NK.bb {σ : Sg} {bb : Nat} (h : NK σ base bb W) : base ≤ bb := by
  obtain ⟨_, _, _, _, _, ⟨_, _, _, _, _, _, _, hbb⟩, _⟩ := h
  exact hbb
theorem Ev.kp {σ : Sg} {bb : Nat} {cur : Array Value} (off g : Nat) (hk : Kp base bb W V) (hn : NK σ base bb W) (hz : base ≤ W.heap.size) (hl : W.heap[lb]? = some (.cells cur 50 (0, 0))) : Ev base lb off g W V :=
  ⟨hk.os, hk.tape, hk.output, hk.size, fun _ _ _ _ hq _ _ h4 h5 => hk.at hn hq h4 h5, fun k hk' => by
    have hbb := hn.bb
    have hlt : k < W.heap.size := Nat.lt_of_lt_of_le hk' hz
    rw [hk.block k _ (Array.getElem?_eq_getElem hlt) (by omega) (.inl hk'), Array.getElem?_eq_getElem hlt], fun j _ => World.cell?_of_block (a := ⟨lb, j, none⟩) ((hk.at hn hl (by decide) (by decide)).trans hl.symm), fun ⟨cur, hc⟩ => ⟨cur, hk.at hn hc (by decide) (by decide)⟩⟩
theorem Ev.fr (h : Fr g lb off W V) (hg : base ≤ g) (hl : base ≤ lb) (hz : base ≤ W.heap.size) (hk : ∃ cur, V.heap[lb]? = some (.cells cur 50 (0, 0))) : Ev base lb off g W V :=
  ⟨h.os, h.tape, h.output, h.size, fun q _ _ _ hq h1 h2 _ _ => (h.block q (lt_at hq) h2 h1).trans hq, fun k hk => h.block k (by omega) (by omega) (by omega), h.cell, fun _ => hk⟩
theorem Ev.below {U : World} (h : Ev base lb off g W V) (hb : Below base U W) : Below base U V := hb.trans ⟨h.os, h.tape, h.output, h.size, h.low⟩
end
section
variable {base lb off bb N p g : Nat} {l r : List N3} {ad : Option Addr} {cap : Nat} {W V : World}
/-- The other one abides. -/
theorem Sd.ev {σ : Sg} {off' p' g' cap' : Nat} {l' r' : List N3} {ad' : Option Addr} (h : Sd σ base lb off' bb N p' g' l' r' ad' cap' W) (he : Ev base lb off g W V) (hn : NK σ base bb V) (ho : off' + 3 ≤ off ∨ off + 3 ≤ off') (hg : g' ≠ g) (hp : p' ≠ g) (ha : ∀ a, ad' = some a → a.block ≠ g) : Sd σ base lb off' bb N p' g' l' r' ad' cap' V := by
  obtain ⟨cur, hl⟩ := h.lk
  have nl : ∀ (q : Nat) (c : Array Value) (t : TypeId) (z : Nat × Nat), W.heap[q]? = some (.cells c t z) → t ≠ 50 → q ≠ lb := fun q c t z hq ht e => by
    rw [e] at hq
    have := hq.symm.trans hl
    simp only [Option.some.injEq, Obj.cells.injEq] at this
    exact ht this.2.1
  refine ⟨(he.cell _ (by omega)).trans h.c0, (he.cell _ (by omega)).trans h.c1, (he.cell _ (by omega)).trans h.c2, he.lk h.lk, ⟨he.block _ _ _ _ h.bk.obj (nl _ _ _ _ h.bk.obj (by decide)) hp (by decide) (by decide), he.block _ _ _ _ h.bk.row (nl _ _ _ _ h.bk.row (by decide)) hg (by decide) (by decide)⟩, fun hne => ?_, fun a e => ?_, hn, Nat.le_trans h.bz he.size, h.sg⟩
  · obtain ⟨b, o, e, hb, hat⟩ := h.rd hne
    obtain ⟨c, hc⟩ := h.ty _ e
    have h3 := he.block _ _ _ _ hc (nl _ _ _ _ hc (by decide)) (ha _ e) (by decide) (by decide)
    have h4 : V.heap[b]? = W.heap[b]? := h3.trans hc.symm
    refine ⟨b, o, e, lt_at h3, fun q x hq => ?_⟩
    obtain ⟨c0, c1, c2⟩ := hat q x hq
    exact ⟨(World.cell?_of_block (a := ⟨b, _, none⟩) h4).trans c0, (World.cell?_of_block (a := ⟨b, _, none⟩) h4).trans c1, (World.cell?_of_block (a := ⟨b, _, none⟩) h4).trans c2⟩
  · obtain ⟨c, hc⟩ := h.ty a e
    exact ⟨c, he.block _ _ _ _ hc (nl _ _ _ _ hc (by decide)) (ha a e) (by decide) (by decide)⟩
/-- What a step leaves. -/
def StV (σ : Sg) (base lb off bb N p g : Nat) (ad : Option Addr) (w w' : World) : Prop := ∃ l' ad' cap', Sd σ base lb off bb N p g l' l' ad' cap' w' ∧ l'.length = N ∧ Bok l' ∧ N ≤ cap' ∧ (ad' = ad ∨ ∀ a, ad' = some a → w.heap.size ≤ a.block) ∧ Ev base lb off g w w'
end
end Go.Proofs.YtojegojeolkgpaaGreat
namespace Go.Proofs.YtojegojeolkgpaaGreat
open Go.RowKit Go.Shelf Go.Lib

set_option maxHeartbeats 4000000 in
set_option maxRecDepth 100000 in
theorem samed_any (ad ad2 : Option Addr) (cap cap2 : Nat) (l m : List N3) (w : World) (h : RdN w ad l) (h2 : RdN w ad2 m) (hl : l.length ≤ 6000000000000) : Calls Tryz.prog 13 #[.slice ad l.length cap, .slice ad2 m.length cap2] w fun e w' => e = .returned (.bool (decide (l = m))) ∧ Below w.heap.size w w' := by
  have hmx : Tryz.prog.follows .mixedOrders = true := by kernel_rfl
  obtain ⟨R, hR⟩ : ∃ R, decide (l = m) = R := ⟨_, rfl⟩
  rw [hR]
  obtain ⟨n, hn⟩ : ∃ n, l.length = n := ⟨_, rfl⟩
  obtain ⟨n2, hn2⟩ : ∃ n, m.length = n := ⟨_, rfl⟩
  rw [hn, hn2]
  have HR : Hid (decide (l = m) = R) := hR
  clear hR
  by_cases e : n = n2
  · subst e
    have HN : Hid (l.length = n) := hn
    have HN2 : Hid (m.length = n) := hn2
    rw [hn] at hl
    clear hn hn2
    go_enter Tryz.func13, Tryz.ntmps13
    go_wp2
    go_loopw [5] (fun i wz => ∃ (k : Nat), i = .int .i64 k ∧ k ≤ n ∧ Hid (l.take k = m.take k) ∧ JQ w ad ad2 l m wz) (fun i _ => n - vnatR i)
    case atStart => exact ⟨0, rfl, Nat.zero_le _, rfl, h, h2, Below.refl _ _⟩
    case round =>
      obtain ⟨k, rfl, hk, HK, hj⟩ := hrel
      by_cases hkl : k < n
      · have hkl1 : k < l.length := by rw [HN.out]; exact hkl
        have hkl2 : k < m.length := by rw [HN2.out]; exact hkl
        have hki : (k : Int) < (n : Int) := by omega
        obtain ⟨⟨o, t, q⟩, hx⟩ : ∃ x, l[k]? = some x := ⟨_, List.getElem?_eq_getElem hkl1⟩
        obtain ⟨⟨o', t', q'⟩, hy⟩ : ∃ x, m[k]? = some x := ⟨_, List.getElem?_eq_getElem hkl2⟩
        obtain ⟨b, off, e1, hbl, hat⟩ := hj.one (fun e => by rw [e] at hkl1; simp at hkl1)
        obtain ⟨b2, off2, e2, hbl2, hat2⟩ := hj.two (fun e => by rw [e] at hkl2; simp at hkl2)
        subst e1 e2
        clear hat hat2 hkl1 hkl2
        have hx' : Hid (l[k]? = some (o, t, q)) := hx
        have hy' : Hid (m[k]? = some (o', t', q')) := hy
        have hat : ∀ W, JQ w (some ⟨b, off, none⟩) (some ⟨b2, off2, none⟩) l m W → NtsAt W b off l ∧ NtsAt W b2 off2 m := fun W hW => by
          obtain ⟨c, cf, e1, _, h3⟩ := hW.one (fun e => by rw [e] at hx; simp at hx)
          obtain ⟨d, df, e2, _, h4⟩ := hW.two (fun e => by rw [e] at hy; simp at hy)
          cases e1
          cases e2
          exact ⟨h3, h4⟩
        have HAT : Hid (∀ W, JQ w (some ⟨b, off, none⟩) (some ⟨b2, off2, none⟩) l m W → NtsAt W b off l ∧ NtsAt W b2 off2 m) := hat
        clear hat hx hy
        go_wp2
        rename_i Q0 K0 hK
        refine wp_region_any hmx ?_
        refine wpAny_pure (fun i__ => ([(.slice (some ⟨b, off, none⟩) n cap), (.int .i64 (k : Int)), (.pointer (some ⟨b, off + k * 3, none⟩)), (nt o t q), (.slice (some ⟨b2, off2, none⟩) n cap2), (.int .i64 (k : Int)), (.pointer (some ⟨b2, off2 + k * 3, none⟩)), (nt o' t' q'), (.bool (decide ((o, t, q) = (o', t', q')))), (.bool (!decide ((o, t, q) = (o', t', q'))))] : List Value).getD i__ undef) (fun W => JQ w (some ⟨b, off, none⟩) (some ⟨b2, off2, none⟩) l m W) (by kernel_rfl) (hj.carry (Below.refl _ _).drew) ?_ ?_
        · refine (stepsFrom_cons ?_ (stepsFrom_cons ?_ (stepsFrom_cons ?_ (stepsFrom_cons ?_ (stepsFrom_cons ?_ (stepsFrom_cons ?_ (stepsFrom_cons ?_ (stepsFrom_cons ?_ (stepsFrom_cons ?_ (stepsFrom_cons ?_ trivial))))))))))
          · exact step_move rfl trivial _ rfl (by kernel_rfl)
          · exact step_move rfl trivial _ rfl (by kernel_rfl)
          · exact step_indexAddr rfl trivial _ _ _ _ _ rfl rfl rfl (fun w hw => idx_n b off _ _ k hkl w)
          · exact step_load rfl trivial _ _ _ rfl rfl (fun w hw => load_at (HAT.out w hw).1 hx'.out)
          · exact step_move rfl trivial _ rfl (by kernel_rfl)
          · exact step_move rfl trivial _ rfl (by kernel_rfl)
          · exact step_indexAddr rfl trivial _ _ _ _ _ rfl rfl rfl (fun w hw => idx_n b2 off2 _ _ k hkl w)
          · exact step_load rfl trivial _ _ _ rfl rfl (fun w hw => load_at (HAT.out w hw).2 hy'.out)
          · exact step_binOp rfl trivial _ _ _ _ _ _ _ rfl rfl rfl (fun w hw => (bin_eqn _ _ _ _ _ _).trans (by simp))
          · exact step_unOp rfl trivial _ _ _ _ rfl rfl (fun w hw => un_not _ w)
        intro W hW
        first | refine hK _ _ ?_ | refine (‹∀ (a : Act) (w : World), Code.wp Tryz.prog _ _ a w → _›) _ _ ?_
        simp only [finL, List.getD_cons_zero, List.getD_cons_succ, Nat.zero_add, Nat.reduceAdd, List.setIfInBounds_toArray, List.set_cons_zero, List.set_cons_succ]
        clear hK
        by_cases hq : (o, t, q) = (o', t', q')
        · have HS : Hid (l.take (k + 1) = m.take (k + 1)) := take_eq_step HK.out hx'.out hy'.out hq
          rw [decide_eq_true hq]
          clear hq
          go_wp2
          go_roundw
          case rel => exact ⟨k + 1, by simp, by omega, HS, hW⟩
          case measure => simp [vnatR]; omega
        · have HF : Hid (R = false) := by
            show R = false
            rw [← HR.out]
            exact decide_eq_false (take_ne hx'.out hy'.out hq)
          rw [decide_eq_false hq]
          clear hq
          go_wp2
          go_ret
          rw [HF.out]
          exact ⟨rfl, hW.below⟩
      · have hkk : k = n := by omega
        subst hkk
        have HF : Hid (R = true) := by
          show R = true
          rw [← HR.out]
          have := HK.out
          rw [List.take_of_length_le (by rw [HN.out]; exact Nat.le_refl _), List.take_of_length_le (by rw [HN2.out]; exact Nat.le_refl _)] at this
          exact decide_eq_true this
        go_wp2
        go_ret
        rw [HF.out]
        exact ⟨rfl, hj.below⟩
  · have HF : Hid (R = false) := by
      show R = false
      rw [← HR.out]
      exact decide_eq_false (fun q => e (by rw [← hn, ← hn2, q]))
    have e' : ((n : Int) != (n2 : Int)) = true := by simp; omega
    clear hn hn2 HR
    go_enter Tryz.func13, Tryz.ntmps13
    go_wp2
    go_ret
    rw [HF.out]
    exact ⟨rfl, Below.refl _ _⟩
end Go.Proofs.YtojegojeolkgpaaGreat
namespace Go.Proofs.YtojegojeolkgpaaGreat
open Go.RowKit Go.Shelf Go.Lib
theorem i64_and1 (n : Int) : bits .and .i64 n 1 = n % 2 := by
  have h1 : (BitVec.ofInt 64 1).toNat = 2 ^ 1 - 1 := by decide
  have key : (BitVec.ofInt 64 n &&& BitVec.ofInt 64 1).toNat = (n % ((2 ^ 64 : Nat) : Int)).toNat % 2 ^ 1 := by
    rw [BitVec.toNat_and, BitVec.toNat_ofInt, h1, Nat.and_two_pow_sub_one_eq_mod]
  show IntKind.i64.wrap ((BitVec.ofInt 64 n &&& BitVec.ofInt 64 1).toNat : Nat) = n % 2
  rw [key, IntKind.wrap_i64]
  omega
/-- A whole variable into the middle of a block that is known whole. -/
theorem run_store_in {P : Program} (w : World) (g o : Nat) (t ty : TypeId) (cur vs : List Value) (hg : w.heap[g]? = some (.cells cur.toArray t (0, 0))) (hi : (P.info? ty).map (·.size) = some vs.length) (hf : o + vs.length ≤ cur.length) (h1 : ∀ v ∈ vs, v.oneCell' = true) :
    (Instr.storeAt ty (.pointer (some ⟨g, o, none⟩)) (.agg vs.toArray)).run P w = .ok () (w.setRow g (splice cur o vs).toArray) := by
  have := run_storeCells_at P g o t vs 0 cur.toArray w hg (by simpa using hf) h1
  cases hq : P.info? ty with
  | none => simp [hq] at hi
  | some i =>
    have hs : vs.length = i.size := by simp [hq] at hi; omega
    simp only [Nat.add_zero] at this
    simp [Instr.storeAt, Instr.sureAddr, storeVar, sizeOf, typeInfo, hq, Value.cells, hs, this, splice]
theorem wpList_store_in {P : Program} {ops : Array Oper} {rest : List Oper} {o : Oper} {a : Act} {w : World} {Q : Exit → Act → World → Prop} (hgd : o.guard = none) (ty : TypeId) (x y : Operand) (ho : o.op = .store ty x y)
    (g off : Nat) (t : TypeId) (cur vs : List Value) (hx : a.eval x = .pointer (some ⟨g, off, none⟩)) (hy : a.eval y = .agg vs.toArray) (hg : w.heap[g]? = some (.cells cur.toArray t (0, 0))) (hi : (P.info? ty).map (·.size) = some vs.length) (hf : off + vs.length ≤ cur.length) (h1 : ∀ v ∈ vs, v.oneCell' = true)
    (h : wpList P ops Q rest (a.put o.dst undef) (w.setRow g (splice cur off vs).toArray)) : wpList P ops Q (o :: rest) a w :=
  wpList_plain hgd fun K hK => by
    unfold Oper.wp execOp
    simp only [ho, hx, hy, Sem.run_bind, run_store_in w g off t ty cur vs hg hi hf h1, Result.andThen_ok]
    exact hK _ _ h
/-- What turns one block alone. -/
structure Tp (p : Nat) (W W' : World) : Prop where
  os : W'.os = W.os
  tape : W'.tape = W.tape
  output : W'.output = W.output
  size : W.heap.size ≤ W'.heap.size
  block : ∀ k, k < W.heap.size → k ≠ p → W'.heap[k]? = W.heap[k]?
theorem Tp.row (p : Nat) (W : World) (cs : Array Value) : Tp p W (W.setRow p cs) :=
  ⟨rfl, rfl, rfl, by simp [World.setRow], fun k _ hn => setRow_other hn⟩
theorem Tp.below {p base : Nat} {W W' : World} (h : Tp p W W') (hp : base ≤ p) (hb : base ≤ W.heap.size) : Below base W W' :=
  ⟨h.os, h.tape, h.output, h.size, fun k hk => h.block k (by omega) (by omega)⟩
theorem Tp.grown {p : Nat} {W W' : World} (h : Tp p W W') : W.grownBy W' (some p) := ⟨h.os, h.tape, h.output, h.size, fun k hk hn => h.block k hk (fun e => hn (by rw [e]))⟩
/-- The cells of one that is played with. -/
def boC (p bb N cap : Nat) (ad : Option Addr) : List Value := [.pointer (some ⟨p, 0, none⟩), .slice ad N cap, .pointer (some ⟨bb, 0, none⟩)]
theorem info_bo : (Tryz.prog.info? 49).map (·.size) = some 3 := by kernel_rfl
theorem boC_one (p bb N cap : Nat) (ad : Option Addr) : ∀ v ∈ boC p bb N cap ad, v.oneCell' = true := by
  intro v hv
  simp [boC] at hv
  rcases hv with rfl | rfl | rfl <;> rfl
theorem boC_len (p bb N cap : Nat) (ad : Option Addr) : (boC p bb N cap ad).length = 3 := rfl
/-- Both, seen from the one at 3 q on. -/
structure Pq (σ : Sg) (w : World) (lb bb N q p g : Nat) (l : List N3) (ad : Option Addr) (cap p' g' : Nat) (l' : List N3) (ad' : Option Addr) (cap' : Nat) (W : World) : Prop where
  a : Sd σ w.heap.size lb (3 * q) bb N p g l l ad cap W
  b : Sd σ w.heap.size lb (3 * (1 - q)) bb N p' g' l' l' ad' cap' W
  ng : g ≠ g'
  aa : ∀ a, ad = some a → a.block ≠ g ∧ a.block ≠ g'
  ab : ∀ a, ad' = some a → a.block ≠ g ∧ a.block ≠ g'
  la : l.length = N ∧ l'.length = N
  oo : Bok l ∧ Bok l'
  cc : N ≤ cap ∧ N ≤ cap'
  gg : w.heap.size ≤ g ∧ w.heap.size ≤ g'
  lb0 : w.heap.size ≤ lb
  low : Below w.heap.size w W
def PS (w : World) (lb bb N : Nat) (W : World) : Prop := ∃ σ p g l ad cap p' g' l' ad' cap', Pq σ w lb bb N 0 p g l ad cap p' g' l' ad' cap' W
section
variable {w : World} {lb bb N q p g cap : Nat} {l l' : List N3} {ad ad' : Option Addr} {p' g' cap' : Nat} {W V : World}
theorem Pq.turn {σ : Sg} (h : Pq σ w lb bb N 0 p g l ad cap p' g' l' ad' cap' W) : Pq σ w lb bb N 1 p' g' l' ad' cap' p g l ad cap W := ⟨h.b, h.a, Ne.symm h.ng, fun a e => (h.ab a e).symm, fun a e => (h.aa a e).symm, h.la.symm, h.oo.symm, h.cc.symm, h.gg.symm, h.lb0, h.low⟩
theorem Pq.turn1 {σ : Sg} (h : Pq σ w lb bb N 1 p g l ad cap p' g' l' ad' cap' W) : Pq σ w lb bb N 0 p' g' l' ad' cap' p g l ad cap W := ⟨h.b, h.a, Ne.symm h.ng, fun a e => (h.ab a e).symm, fun a e => (h.aa a e).symm, h.la.symm, h.oo.symm, h.cc.symm, h.gg.symm, h.lb0, h.low⟩
theorem PS.at (h : PS w lb bb N W) (hq : q < 2) : ∃ σ p g l ad cap p' g' l' ad' cap', Pq σ w lb bb N q p g l ad cap p' g' l' ad' cap' W := by
  obtain ⟨σ, p, g, l, ad, cap, p', g', l', ad', cap', h⟩ := h
  match q, hq with
  | 0, _ => exact ⟨σ, p, g, l, ad, cap, p', g', l', ad', cap', h⟩
  | 1, _ => exact ⟨σ, p', g', l', ad', cap', p, g, l, ad, cap, h.turn⟩
theorem Pq.ps {σ : Sg} (h : Pq σ w lb bb N q p g l ad cap p' g' l' ad' cap' W) (hq : q < 2) : PS w lb bb N W := by
  match q, hq with
  | 0, _ => exact ⟨σ, p, g, l, ad, cap, p', g', l', ad', cap', h⟩
  | 1, _ => exact ⟨σ, p', g', l', ad', cap', p, g, l, ad, cap, h.turn1⟩
theorem Pq.carry {σ : Sg} (h : Pq σ w lb bb N q p g l ad cap p' g' l' ad' cap' W) (hb : Below W.heap.size W V) : Pq σ w lb bb N q p g l ad cap p' g' l' ad' cap' V := ⟨h.a.carry hb, h.b.carry hb, h.ng, h.aa, h.ab, h.la, h.oo, h.cc, h.gg, h.lb0, h.low.trans (hb.mono h.low.size)⟩
theorem Pq.kp {σ : Sg} (h : Pq σ w lb bb N q p g l ad cap p' g' l' ad' cap' W) (hk : Kp w.heap.size bb W V) (hn : NK σ w.heap.size bb V) : Pq σ w lb bb N q p g l ad cap p' g' l' ad' cap' V :=
  ⟨h.a.kp hk hn, h.b.kp hk hn, h.ng, h.aa, h.ab, h.la, h.oo, h.cc, h.gg, h.lb0, hk.below h.low hn.bb (Nat.le_refl _)⟩
theorem bk_types {p1 g1 : Nat} {l1 : List N3} (h : Bk W p g l) (k : Bk W p1 g1 l1) : p1 ≠ g := fun e => by
  have h1 := h.row
  rw [← e] at h1
  have := h1.symm.trans k.obj
  simp only [Option.some.injEq, Obj.cells.injEq] at this
  exact absurd this.2.1 (by decide)
theorem Pq.step {σ : Sg} (h : Pq σ w lb bb N q p g l ad cap p' g' l' ad' cap' W) (hq : q < 2) (hs : StV σ w.heap.size lb (3 * q) bb N p g ad W V) : PS w lb bb N V := by
  obtain ⟨l2, ad2, cap2, h1, h2, h3, h4, h5, h6⟩ := hs
  have hz := h.a.bk.glt
  have hz' := h.b.bk.glt
  refine Pq.ps (q := q) ⟨h1, h.b.ev h6 h1.nk (by omega) (Ne.symm h.ng) (bk_types h.a.bk h.b.bk) (fun a e => (h.ab a e).1), h.ng, fun a e => ?_, h.ab, ⟨h2, h.la.2⟩, ⟨h3, h.oo.2⟩, ⟨h4, h.cc.2⟩, h.gg, h.lb0, h6.below h.low⟩ hq
  rcases h5 with q5 | q5
  · exact h.aa a (q5 ▸ e)
  · have := q5 a e
    exact ⟨by omega, by omega⟩
theorem idx_b2 (B q : Nat) (hq : q < 2) (W : World) : (Instr.indexAt 50 (.pointer (some ⟨B, 0, none⟩)) (.int .i64 (q : Int))).run Tryz.prog W = .ok (.pointer (some ⟨B, 3 * q, none⟩)) W := by
  match q, hq with
  | 0, _ => go_simp
  | 1, _ => go_simp
/-- One of the two after the block of both has turned elsewhere. -/
theorem Sd.both {σ : Sg} {base off bb N p g cap : Nat} {l r : List N3} {ad : Option Addr} {W V : World} {cur : Array Value} (h : Sd σ base lb off bb N p g l r ad cap W) (ht : Tp lb W V) (hl : V.heap[lb]? = some (.cells cur 50 (0, 0))) (hc : ∀ j, off ≤ j → j < off + 3 → V.cell? ⟨lb, j, none⟩ = W.cell? ⟨lb, j, none⟩) : Sd σ base lb off bb N p g l r ad cap V := by
  obtain ⟨curW, hlW⟩ := h.lk
  have nl : ∀ (q : Nat) (c : Array Value) (t : TypeId) (z : Nat × Nat), W.heap[q]? = some (.cells c t z) → t ≠ 50 → V.heap[q]? = some (.cells c t z) := fun q c t z hq ht' => (ht.block q (lt_at hq) (fun e => by
    rw [e] at hq
    have := hq.symm.trans hlW
    simp only [Option.some.injEq, Obj.cells.injEq] at this
    exact ht' this.2.1)).trans hq
  refine ⟨(hc _ (by omega) (by omega)).trans h.c0, (hc _ (by omega) (by omega)).trans h.c1, (hc _ (by omega) (by omega)).trans h.c2, ⟨_, hl⟩, ⟨nl _ _ _ _ h.bk.obj (by decide), nl _ _ _ _ h.bk.row (by decide)⟩, fun hne => ?_, fun a e => ?_, h.nk.grown hlW (by decide) (by decide) (.inl (by decide)) ht.grown, Nat.le_trans h.bz ht.size, h.sg⟩
  · obtain ⟨b, o, e, hb, hat⟩ := h.rd hne
    obtain ⟨c, hc⟩ := h.ty _ e
    have h3 := nl _ _ _ _ hc (by decide)
    have h4 : V.heap[b]? = W.heap[b]? := h3.trans hc.symm
    refine ⟨b, o, e, lt_at h3, fun q x hq => ?_⟩
    obtain ⟨c0, c1, c2⟩ := hat q x hq
    exact ⟨(World.cell?_of_block (a := ⟨b, _, none⟩) h4).trans c0, (World.cell?_of_block (a := ⟨b, _, none⟩) h4).trans c1, (World.cell?_of_block (a := ⟨b, _, none⟩) h4).trans c2⟩
  · obtain ⟨c, hc⟩ := h.ty a e
    exact ⟨c, nl _ _ _ _ hc (by decide)⟩
theorem Sd.sig {σ τ : Sg} {base off bb N p g cap : Nat} {l r : List N3} {ad : Option Addr} {W : World} (h : Sd σ base lb off bb N p g l r ad cap W) (hn : NK τ base bb W) (hg : τ g) : Sd τ base lb off bb N p g l r ad cap W := ⟨h.c0, h.c1, h.c2, h.lk, h.bk, h.rd, h.ty, hn, h.bz, hg⟩
/-- The other one is put anew: a twin. -/
theorem Pq.twin {σ : Sg} {p2 g2 : Nat} (h : Pq σ w lb bb N q p g l ad cap p' g' l' ad' cap' W) (hq : q < 2) (hp : Bk W p2 g2 l) (hgb : w.heap.size ≤ g2) (n1 : g ≠ g2) (n2 : ∀ a, ad = some a → a.block ≠ g2) (hm : NK (oneMore σ g2) w.heap.size bb W) : ∃ V, (Instr.storeAt 49 (.pointer (some ⟨lb, 3 * (1 - q), none⟩)) (.agg (boC p2 bb N cap ad).toArray)).run Tryz.prog W = .ok () V ∧ PS w lb bb N V := by
  obtain ⟨cur, hl⟩ := h.a.lk
  have hz : 6 ≤ cur.size := by
    have e1 := h.a.c2
    have e2 := h.b.c2
    rw [cell_at hl] at e1 e2
    have f1 := (Array.getElem?_eq_some_iff.1 e1).1
    have f2 := (Array.getElem?_eq_some_iff.1 e2).1
    omega
  have hl' : W.heap[lb]? = some (.cells cur.toList.toArray 50 (0, 0)) := by simpa using hl
  have hfit : 3 * (1 - q) + (boC p2 bb N cap ad).length ≤ cur.toList.length := by rw [boC_len, Array.length_toList]; omega
  refine ⟨_, run_store_in W lb (3 * (1 - q)) _ _ cur.toList (boC p2 bb N cap ad) hl' info_bo hfit (boC_one _ _ _ _ _), ?_⟩
  obtain ⟨V, hV⟩ : ∃ V, W.setRow lb (splice cur.toList (3 * (1 - q)) (boC p2 bb N cap ad)).toArray = V := ⟨_, rfl⟩
  rw [hV]
  have hlV : V.heap[lb]? = some (.cells (splice cur.toList (3 * (1 - q)) (boC p2 bb N cap ad)).toArray 50 (0, 0)) := by rw [← hV]; exact setRow_heap _ _ _ _ _ _ hl'
  have tV : Tp lb W V := by rw [← hV]; exact Tp.row _ _ _
  have e0 : (cur.toList.take (3 * (1 - q))).length = 3 * (1 - q) := by rw [List.length_take, Array.length_toList]; omega
  have old : ∀ j, 3 * q ≤ j → j < 3 * q + 3 → V.cell? ⟨lb, j, none⟩ = W.cell? ⟨lb, j, none⟩ := fun j h1 h2 => by
    rw [cell_at hlV, cell_at hl, List.getElem?_toArray, ← Array.getElem?_toList]
    by_cases hlt : j < 3 * (1 - q)
    · rw [splice, List.getElem?_append_left (by omega), List.getElem?_take, if_pos hlt]
    · rw [splice, List.getElem?_append_right (by omega), List.getElem?_append_right (by rw [boC_len]; omega), List.getElem?_drop, e0, boC_len]
      congr 1
      omega
  have new : ∀ j, j < 3 → V.cell? ⟨lb, 3 * (1 - q) + j, none⟩ = (boC p2 bb N cap ad)[j]? := fun j hj => by
    rw [cell_at hlV, List.getElem?_toArray, splice, List.getElem?_append_right (by omega), e0, List.getElem?_append_left (by rw [boC_len]; omega)]
    congr 1
    omega
  have ha := (h.a.sig hm (.inl h.a.sg)).both tV hlV old
  have bk2 : Bk V p2 g2 l := by
    have nl : ∀ (q : Nat) (c : Array Value) (t : TypeId) (z : Nat × Nat), W.heap[q]? = some (.cells c t z) → t ≠ 50 → V.heap[q]? = some (.cells c t z) := fun q c t z hq ht' => (tV.block q (lt_at hq) (fun e => by
      rw [e] at hq
      have := hq.symm.trans hl
      simp only [Option.some.injEq, Obj.cells.injEq] at this
      exact ht' this.2.1)).trans hq
    exact ⟨nl _ _ _ _ hp.obj (by decide), nl _ _ _ _ hp.row (by decide)⟩
  have hb : Sd (oneMore σ g2) w.heap.size lb (3 * (1 - q)) bb N p2 g2 l l ad cap V := ⟨(new 0 (by omega)).trans rfl, (new 1 (by omega)).trans rfl, (new 2 (by omega)).trans rfl, ⟨_, hlV⟩, bk2, ha.rd, ha.ty, ha.nk, ha.bz, .inr rfl⟩
  exact Pq.ps (q := q) ⟨ha, hb, n1, fun a e => ⟨(h.aa a e).1, n2 a e⟩, fun a e => ⟨(h.aa a e).1, n2 a e⟩, ⟨h.la.1, h.la.1⟩, ⟨h.oo.1, h.oo.1⟩, ⟨h.cc.1, h.cc.1⟩, ⟨h.gg.1, hgb⟩, h.lb0, h.low.trans (tV.below h.lb0 h.low.size)⟩ hq
end
end Go.Proofs.YtojegojeolkgpaaGreat
namespace Go.Proofs.YtojegojeolkgpaaGreat
open Go.RowKit Go.Shelf Go.Lib

/-- What is to be done, in a box. -/
def OpB (W : World) (b : Nat) (k who a : Int) (v : Value) : Prop := W.heap[b]? = some (.cells #[.int .i64 k, .int .i64 who, .int .i64 a, v] 25 (0, 0))
theorem OpB.c0 {W : World} {b : Nat} {k who a : Int} {v : Value} (h : OpB W b k who a v) : W.cell? ⟨b, 0, none⟩ = some (.int .i64 k) := cell_at h 0
theorem OpB.c1 {W : World} {b : Nat} {k who a : Int} {v : Value} (h : OpB W b k who a v) : W.cell? ⟨b, 1, none⟩ = some (.int .i64 who) := cell_at h 1
theorem OpB.c2 {W : World} {b : Nat} {k who a : Int} {v : Value} (h : OpB W b k who a v) : W.cell? ⟨b, 2, none⟩ = some (.int .i64 a) := cell_at h 2
theorem OpB.c3 {W : World} {b : Nat} {k who a : Int} {v : Value} (h : OpB W b k who a v) : W.cell? ⟨b, 3, none⟩ = some v := cell_at h 3
theorem OpB.carry {W V : World} {b : Nat} {k who a : Int} {v : Value} (h : OpB W b k who a v) (hb : Below W.heap.size W V) : OpB V b k who a v := (hb.block _ (lt_at h)).trans h
theorem field_op2 (W : World) (B : Nat) : (Instr.fieldAt 25 (.pointer (some ⟨B, 0, none⟩)) 2).run Tryz.prog W = .ok (.pointer (some ⟨B, 2, none⟩)) W := by go_simp
theorem load_opi {W : World} {B o : Nat} {x : Int} (h : W.cell? ⟨B, o, none⟩ = some (.int .i64 x)) : (Instr.loadAt 3 (.pointer (some ⟨B, o, none⟩))).run Tryz.prog W = .ok (.int .i64 x) W := by go_simp
theorem ext2_0 (a b : Value) (W : World) : (Instr.extract (.tuple #[a, b]) 0).run Tryz.prog W = .ok a W := rfl
theorem ext2_1 (a b : Value) (W : World) : (Instr.extract (.tuple #[a, b]) 1).run Tryz.prog W = .ok b W := rfl
theorem run_allocN (w : World) : (Instr.alloc 62 true (.tuple #[])).run Tryz.prog w = .ok (.pointer (some ⟨w.heap.size, 0, none⟩)) (w.alloc (.cells #[.int .i64 0, .int .i64 0, .int .i64 0] 62)) := by go_simp
theorem stepG_newN {G : Type} {md : Region.Mode} {ops : Array Oper} {Q : Exit → Act → World → Prop} {X0 : Array Value} {val : G → Nat → Value} {J : G → (Nat → Bool) → World → Prop} {i : Nat} {o : Oper} (hi : ops[i]? = some o) (hg : o.guard = none) (ho : o.op = .alloc 62)
    (h : ∀ g d W, J g d W → d i = false → (∀ j oj, ops[j]? = some oj → d j = true → ∀ k, bindsOn md oj k = true → d k = true) → ∃ g', (∀ j, d j = true → val g' j = val g j) ∧ val g' i = .pointer (some ⟨W.heap.size, 0, none⟩) ∧ J g' (fun j => if j = i then true else d j) (W.alloc (.cells #[.int .i64 0, .int .i64 0, .int .i64 0] 62))) : StepG Tryz.prog md ops Q X0 val J i o := by
  intro g d a W hJ hun _ hcl _
  obtain ⟨g', h1, h2, h3⟩ := h g d W hJ hun hcl
  unfold wpOp
  rw [hi]
  simp only [Region.wanted, hg, if_true]
  refine .inl ?_
  unfold Oper.wp execOp
  simp only [ho, Sem.run_bind, run_allocN, Result.andThen_ok, Sem.run_pure, Oper.upon_value]
  exact ⟨g', h1, by rw [h2], h3⟩
/-- While a notice is laid in a new box. -/
structure JN (Z : World) (o t k : Int) (g : Nat) (x y : Bool) (W : World) : Prop where
  below : Below Z.heap.size Z W
  box : x = true → Z.heap.size ≤ g ∧ NB W g (if y = true then o else 0) (if y = true then t else 0) (if y = true then k else 0)
theorem JN.carry {Z W V : World} {o t k : Int} {g : Nat} {x y : Bool} (h : JN Z o t k g x y W) (hb : Below W.heap.size W V) : JN Z o t k g x y V := ⟨bel2 h.below hb, fun e => ⟨(h.box e).1, (h.box e).2.carry hb⟩⟩
theorem JN.new {Z W : World} {o t k : Int} {g : Nat} {x y : Bool} (h : JN Z o t k g x y W) (hy : y = false) : JN Z o t k W.heap.size true y (W.alloc (.cells #[.int .i64 0, .int .i64 0, .int .i64 0] 62)) := by
  subst hy
  exact ⟨h.below.alloc h.below.size _, fun _ => ⟨h.below.size, NB.new _ _ _ _⟩⟩
theorem JN.store {Z W : World} {o t k : Int} {g : Nat} {y : Bool} (h : JN Z o t k g true y W) : (Instr.storeAt 62 (.pointer (some ⟨g, 0, none⟩)) (nt o t k)).run Tryz.prog W = .ok () (W3 W g o t k) ∧ JN Z o t k g true true (W3 W g o t k) :=
  ⟨store_nt (h.box rfl).2 o t k, below3 h.below (h.box rfl).1 _ _ _, fun _ => ⟨(h.box rfl).1, by simpa using (h.box rfl).2.set o t k⟩⟩
theorem atV_some (l : List N3) (id : Int) : ∃ (o t k E : Int), atV l id = .tuple #[nt o t k, .int .i64 E] := by
  unfold atV
  split
  · next h =>
    obtain ⟨x, hx⟩ : ∃ x, l[id.toNat]? = some x := ⟨_, List.getElem?_eq_getElem (by omega)⟩
    rw [hx]
    exact ⟨_, _, _, _, rfl⟩
  · exact ⟨_, _, _, _, rfl⟩
/-- What a step begins with. -/
structure St (σ : Sg) (base lb off bb N p g : Nat) (l : List N3) (ad : Option Addr) (cap : Nat) (w : World) : Prop where
  sd : Sd σ base lb off bb N p g l l ad cap w
  hn : l.length = N
  h0 : 0 < N
  h1 : N ≤ 100
  hcap : N ≤ cap
  hne : ∀ a, ad = some a → a.block ≠ g
  bo : Bok l
  gb : base ≤ g
  lb0 : base ≤ lb
section
variable {base lb off bb N p g : Nat} {l : List N3} {ad : Option Addr} {cap : Nat} {w w1 V : World}
/-- Nothing has turned but new memory. -/
theorem St.same {σ : Sg} (h : St σ base lb off bb N p g l ad cap w) (hb : Below w.heap.size w V) : StV σ base lb off bb N p g ad w V := ⟨l, ad, cap, h.sd.carry hb, h.hn, h.bo, h.hcap, .inl rfl, Ev.of _ _ hb h.sd.bz h.sd.lg.1⟩
theorem St.kept {σ : Sg} (h : St σ base lb off bb N p g l ad cap w) (hb : Below w.heap.size w w1) (hk : Kp base bb w1 V) (hn : NK σ base bb V) : StV σ base lb off bb N p g ad w V := by
  have hS := h.sd.carry hb
  obtain ⟨cur, hl⟩ := hS.lk
  exact ⟨l, ad, cap, hS.kp hk hn, h.hn, h.bo, h.hcap, .inl rfl, (Ev.of _ _ hb h.sd.bz h.sd.lg.1).trans (Ev.kp _ _ hk hS.nk hS.bz hl)⟩
theorem St.sdv {σ : Sg} {l' : List N3} (h : St σ base lb off bb N p g l ad cap w) (hb : Below w.heap.size w w1) (hs : SdV σ base lb off bb N p g ad l' w1 V) (hl : l'.length = N) (hbo : Bok l') : StV σ base lb off bb N p g ad w V := by
  obtain ⟨ad', cap', h1, h2, h3, h4⟩ := hs
  exact ⟨l', ad', cap', h1, hl, hbo, h2, h3.imp id (fun k a e => Nat.le_trans hb.size (k a e)), (Ev.of _ _ hb h.sd.bz h.sd.lg.1).trans (Ev.fr h4 h.gb h.lb0 (Nat.le_trans h.sd.bz hb.size) h1.lk)⟩
set_option maxHeartbeats 4000000 in
set_option maxRecDepth 100000 in
theorem step_1 {σ : Sg} (h : St σ base lb off bb N p g l ad cap w) (who id : Int) (ad2 : Option Addr) (cap2 : Nat) (m : List N3) (hm : RdN w ad2 m) (hm2 : m ≠ [] → ∀ a, ad2 = some a → a.block ≠ g ∧ a.block ≠ lb) (hl : m.length ≤ 300) : Calls Tryz.prog 14 #[.pointer (some ⟨lb, off, none⟩), .agg #[.int .i64 1, .int .i64 who, .int .i64 id, .slice ad2 m.length cap2]] w fun e w' => e = .returned (.bool true) ∧ StV σ base lb off bb N p g ad w w' := by
  have hmx : Tryz.prog.follows .mixedOrders = true := by kernel_rfl
  obtain ⟨w1, hw1⟩ : ∃ w1, w.alloc (.cells #[.int .i64 1, .int .i64 who, .int .i64 id, .slice ad2 m.length cap2] 25) = w1 := ⟨_, rfl⟩
  have hb1 : Below w.heap.size w w1 := by rw [← hw1]; exact al1 _ _
  have hO : OpB w1 w.heap.size 1 who id (.slice ad2 m.length cap2) := by rw [← hw1]; exact new_at rfl
  have hS := h.sd.carry hb1
  have o0 := hO.c0
  have hE1 : Ev base lb off g w w1 := Ev.of _ _ hb1 h.sd.bz h.sd.lg.1
  have o3 := hO.c3
  have hcl := btake_any hS h.hn h.h0 h.h1 h.hcap h.hne ad2 cap2 m (hm.carry hb1) hm2 hl
  have HH : Hid (St σ base lb off bb N p g l ad cap w) := h
  clear h hS hE1
  go_enter Tryz.func14, Tryz.ntmps14
  go_wp2_with (go_at_call 22; (with_reducible refine hcl.mono ?_); rintro e u2 ⟨rfl, hv⟩)
  go_ret
  exact ⟨rfl, HH.out.sdv hb1 hv ((fold_len _ _).trans HH.out.hn) (fold_bok HH.out.bo _)⟩
set_option maxHeartbeats 4000000 in
set_option maxRecDepth 100000 in
theorem step_2 {σ : Sg} (h : St σ base lb off bb N p g l ad cap w) (who id : Int) (ad2 : Option Addr) (cap2 : Nat) (m : List N3) (hm : RdN w ad2 m) (hm2 : m ≠ [] → ∀ a, ad2 = some a → a.block ≠ g ∧ a.block ≠ lb) (hc2 : ad2 = none → cap2 = 0) (hl : m.length ≤ 300) : Calls Tryz.prog 14 #[.pointer (some ⟨lb, off, none⟩), .agg #[.int .i64 2, .int .i64 who, .int .i64 id, .slice ad2 m.length cap2]] w fun e w' => e = .returned (.bool true) ∧ StV σ base lb off bb N p g ad w w' := by
  have hmx : Tryz.prog.follows .mixedOrders = true := by kernel_rfl
  obtain ⟨w1, hw1⟩ : ∃ w1, w.alloc (.cells #[.int .i64 2, .int .i64 who, .int .i64 id, .slice ad2 m.length cap2] 25) = w1 := ⟨_, rfl⟩
  have hb1 : Below w.heap.size w w1 := by rw [← hw1]; exact al1 _ _
  have hO : OpB w1 w.heap.size 2 who id (.slice ad2 m.length cap2) := by rw [← hw1]; exact new_at rfl
  have hS := h.sd.carry hb1
  have o0 := hO.c0
  have hE1 : Ev base lb off g w w1 := Ev.of _ _ hb1 h.sd.bz h.sd.lg.1
  have o3 := hO.c3
  have hcl := bmerge_any hS h.hn h.h0 h.h1 h.hcap h.hne ad2 cap2 m (hm.carry hb1) hm2 hc2 hl
  have HH : Hid (St σ base lb off bb N p g l ad cap w) := h
  clear h hS hE1
  go_enter Tryz.func14, Tryz.ntmps14
  go_wp2_with (go_at_call 23; (with_reducible refine hcl.mono ?_); rintro e u2 ⟨rfl, hv⟩)
  go_ret
  exact ⟨rfl, HH.out.sdv hb1 hv ((mrg_len HH.out.bo _).trans HH.out.hn) (mrg_bok HH.out.bo _)⟩
set_option maxHeartbeats 4000000 in
set_option maxRecDepth 100000 in
theorem step_4 {σ : Sg} (h : St σ base lb off bb N p g l ad cap w) (who id : Int) (ad2 : Option Addr) (cap2 : Nat) (m : List N3) : Calls Tryz.prog 14 #[.pointer (some ⟨lb, off, none⟩), .agg #[.int .i64 4, .int .i64 who, .int .i64 id, .slice ad2 m.length cap2]] w fun e w' => e = .returned (.bool true) ∧ StV σ base lb off bb N p g ad w w' := by
  have hmx : Tryz.prog.follows .mixedOrders = true := by kernel_rfl
  obtain ⟨w1, hw1⟩ : ∃ w1, w.alloc (.cells #[.int .i64 4, .int .i64 who, .int .i64 id, .slice ad2 m.length cap2] 25) = w1 := ⟨_, rfl⟩
  have hb1 : Below w.heap.size w w1 := by rw [← hw1]; exact al1 _ _
  have hO : OpB w1 w.heap.size 4 who id (.slice ad2 m.length cap2) := by rw [← hw1]; exact new_at rfl
  have hS := h.sd.carry hb1
  have o0 := hO.c0
  have hE1 : Ev base lb off g w w1 := Ev.of _ _ hb1 h.sd.bz h.sd.lg.1
  have hcl := looks_any hS h.hn h.h0 h.h1 h.bo
  have HH : Hid (St σ base lb off bb N p g l ad cap w) := h
  clear h hS hE1
  go_enter Tryz.func14, Tryz.ntmps14
  go_wp2_with (go_at_call 15; (with_reducible refine hcl.mono ?_); rintro e u2 ⟨rfl, hn2, hk2⟩)
  go_ret
  exact ⟨rfl, HH.out.kept hb1 hk2 hn2⟩
set_option maxHeartbeats 4000000 in
set_option maxRecDepth 100000 in
theorem step_0 {σ : Sg} (h : St σ base lb off bb N p g l ad cap w) (k who id : Int) (ad2 : Option Addr) (cap2 : Nat) (m : List N3) (k1 : ¬ k = 1) (k2 : ¬ k = 2) (k3 : ¬ k = 3) (k4 : ¬ k = 4) (k5 : ¬ k = 5) (k6 : ¬ k = 6) : Calls Tryz.prog 14 #[.pointer (some ⟨lb, off, none⟩), .agg #[.int .i64 k, .int .i64 who, .int .i64 id, .slice ad2 m.length cap2]] w fun e w' => e = .returned (.bool true) ∧ StV σ base lb off bb N p g ad w w' := by
  have hmx : Tryz.prog.follows .mixedOrders = true := by kernel_rfl
  obtain ⟨w1, hw1⟩ : ∃ w1, w.alloc (.cells #[.int .i64 k, .int .i64 who, .int .i64 id, .slice ad2 m.length cap2] 25) = w1 := ⟨_, rfl⟩
  have hb1 : Below w.heap.size w w1 := by rw [← hw1]; exact al1 _ _
  have hO : OpB w1 w.heap.size k who id (.slice ad2 m.length cap2) := by rw [← hw1]; exact new_at rfl
  have hS := h.sd.carry hb1
  have o0 := hO.c0
  have hE1 : Ev base lb off g w w1 := Ev.of _ _ hb1 h.sd.bz h.sd.lg.1
  have HH : Hid (St σ base lb off bb N p g l ad cap w) := h
  clear h hS hE1
  go_enter Tryz.func14, Tryz.ntmps14
  go_wp2
  go_ret
  exact ⟨rfl, HH.out.same hb1⟩
set_option maxHeartbeats 4000000 in
set_option maxRecDepth 100000 in
theorem step_3 {σ : Sg} {y : Nat} (h : St σ base lb off bb N p y l ad cap w) (who id : Int) (ad2 : Option Addr) (cap2 : Nat) (m : List N3) : Calls Tryz.prog 14 #[.pointer (some ⟨lb, off, none⟩), .agg #[.int .i64 3, .int .i64 who, .int .i64 id, .slice ad2 m.length cap2]] w fun e w' => e = .returned (.bool true) ∧ StV σ base lb off bb N p y ad w w' := by
  have hmx : Tryz.prog.follows .mixedOrders = true := by kernel_rfl
  obtain ⟨w1, hw1⟩ : ∃ w1, w.alloc (.cells #[.int .i64 3, .int .i64 who, .int .i64 id, .slice ad2 m.length cap2] 25) = w1 := ⟨_, rfl⟩
  have hb1 : Below w.heap.size w w1 := by rw [← hw1]; exact al1 _ _
  have hO : OpB w1 w.heap.size 3 who id (.slice ad2 m.length cap2) := by rw [← hw1]; exact new_at rfl
  have hS := h.sd.carry hb1
  have o0 := hO.c0
  have hE1 : Ev base lb off y w w1 := Ev.of _ _ hb1 h.sd.bz h.sd.lg.1
  obtain ⟨o, t, k, E, hA⟩ := atV_some l id
  have HP : Hid (∀ V, Bk V p y l → Calls Tryz.prog 17 #[.pointer (some ⟨p, 0, none⟩), .int .i64 id] V fun e w' => e = .returned (.tuple #[nt o t k, .int .i64 E]) ∧ Below V.heap.size V w') := fun V hV => by
    have := at_any hV id
    rw [hA] at this
    exact this
  have HR : Hid (∀ V, RdN V ad l → Calls Tryz.prog 24 #[.agg #[.slice ad N cap], .int .i64 id] V fun e w' => e = .returned (.tuple #[nt o t k, .int .i64 E]) ∧ Below V.heap.size V w') := fun V hV => by
    have := rAt_any ad N cap l hV h.hn id
    rw [hA] at this
    exact this
  have HH : Hid (St σ base lb off bb N p y l ad cap w) := h
  have HS : Hid (Sd σ base lb off bb N p y l l ad cap w1) := hS
  have HO : Hid (OpB w1 w.heap.size 3 who id (.slice ad2 m.length cap2)) := hO
  clear h hS hE1 hO hA
  go_enter Tryz.func14, Tryz.ntmps14
  go_wp2
  rename_i Q0 K0 hK
  refine wp_region_any hmx ?_
  refine wpAny_tabG (G := (Nat)) (fun g i__ => ([(.pointer (some ⟨lb, off, none⟩)), (.pointer (some ⟨lb, off, none⟩)), (.pointer (some ⟨lb, off, none⟩)), (.pointer (some ⟨p, 0, none⟩)), (.pointer (some ⟨w.heap.size, 2, none⟩)), (.int .i64 id), (.tuple #[nt o t k, .int .i64 E]), (.tuple #[nt o t k, .int .i64 E]), (nt o t k), (.int .i64 E), (.pointer (some ⟨g, 0, none⟩)), undef, (.int .i64 E)] : List Value).getD i__ undef) (fun x f V => JN w1 o t k x (f 10) (f 11) V) (by kernel_rfl) (0) ⟨(Below.refl _ _).drew, fun e => by cases e⟩ ?step3 ?fin3
  case step3 =>
    intro i o ho
    have hi : i < 13 := getElem?_lt ho
    match i, hi, ho with
    | 0, _, ho =>
      cases ho
      refine stepG_of (fun g d hdep => ?_)
      exact step_move rfl trivial _ rfl (by kernel_rfl)
    | 1, _, ho =>
      cases ho
      refine stepG_of (fun g d hdep => ?_)
      exact step_nilCheck rfl trivial _ _ _ rfl rfl rfl
    | 2, _, ho =>
      cases ho
      refine stepG_of (fun g d hdep => ?_)
      exact step_fieldAddr rfl trivial _ _ _ _ rfl rfl (fun v hw => field_bo0 v _ _)
    | 3, _, ho =>
      cases ho
      refine stepG_of (fun g d hdep => ?_)
      exact step_load rfl trivial _ _ _ rfl rfl (fun v hw => load_bop (HS.out.carry hw.below).c0)
    | 4, _, ho =>
      cases ho
      refine stepG_of (fun g d hdep => ?_)
      exact step_fieldAddr rfl trivial _ _ _ _ rfl rfl (fun v hw => field_op2 v _)
    | 5, _, ho =>
      cases ho
      refine stepG_of (fun g d hdep => ?_)
      exact step_load rfl trivial _ _ _ rfl rfl (fun v hw => load_opi (HO.out.carry hw.below).c2)
    | 6, _, ho =>
      cases ho
      refine stepG_of (fun g d hdep => ?_)
      exact step_call rfl trivial 17 _ _ [(.pointer (some ⟨p, 0, none⟩)), (.int .i64 id)] rfl (by kernel_rfl) (enters_of Tryz.func17 (by kernel_rfl) rfl) (fun v hw => (HP.out v (HS.out.carry hw.below).bk).mono (by rintro e w' ⟨rfl, hb⟩; exact ⟨rfl, hw.carry hb⟩))
    | 7, _, ho =>
      cases ho
      refine stepG_of (fun g d hdep => ?_)
      exact step_move rfl trivial _ rfl (by kernel_rfl)
    | 8, _, ho =>
      cases ho
      refine stepG_of (fun g d hdep => ?_)
      exact step_extract rfl trivial _ _ _ rfl rfl (fun v hw => ext2_0 _ _ v)
    | 9, _, ho =>
      cases ho
      refine stepG_of (fun g d hdep => ?_)
      exact step_extract rfl trivial _ _ _ rfl rfl (fun v hw => ext2_1 _ _ v)
    | 10, _, ho =>
      cases ho
      exact stepG_newN rfl rfl rfl (fun g d W' hJ hun hcl => ⟨W'.heap.size, (fun j hj => match j, hj with | 10, hj => (by rw [hj] at hun; cases hun)  | 0, _ => rfl | 1, _ => rfl | 2, _ => rfl | 3, _ => rfl | 4, _ => rfl | 5, _ => rfl | 6, _ => rfl | 7, _ => rfl | 8, _ => rfl | 9, _ => rfl | 11, _ => rfl | 12, _ => rfl | _ + 13, _ => rfl), rfl, hJ.new (by cases h : d 11 with | false => rfl | true => exact absurd (hcl 11 _ rfl h 10 (by kernel_rfl)) (by rw [hun]; simp))⟩)
    | 11, _, ho =>
      cases ho
      refine stepG_of (fun g d hdep => ?_)
      exact step_store rfl trivial rfl _ _ _ _ _ rfl rfl rfl (fun w' hw => by have h12 := hdep 10 (by kernel_rfl); rw [h12] at hw; exact ⟨_, hw.store.1, by show JN w1 o t k g (d 10) true _; rw [h12]; exact hw.store.2⟩)
    | 12, _, ho =>
      cases ho
      refine stepG_of (fun g d hdep => ?_)
      exact step_assign rfl trivial _ rfl (by kernel_rfl) (fun _ h => h)
  intro g d W hall hW
  first | refine hK _ _ ?_ | refine (‹∀ (a : Act) (w : World), Code.wp Tryz.prog _ _ a w → _›) _ _ ?_ | skip
  simp only [finL, List.getD_cons_zero, List.getD_cons_succ, Nat.zero_add, Nat.reduceAdd, List.setIfInBounds_toArray, List.set_cons_zero, List.set_cons_succ]
  rw [hall 10 (by decide), hall 11 (by decide)] at hW
  clear hK hall
  have hbW := hW.below
  have hnW : NB W g o t k := by simpa using (hW.box rfl).2
  have HN1 : Hid (NB W g o t k) := hnW
  have HS2 : Hid (Sd σ base lb off bb N p y l l ad cap W) := HS.out.carry hbW
  have HO2 : Hid (OpB W w.heap.size 3 who id (.slice ad2 m.length cap2)) := HO.out.carry hbW
  obtain ⟨gA, hgA⟩ : ∃ gA : Nat, gA = g := ⟨g, rfl⟩
  clear hW hnW
  go_wp2
  rename_i Q1 K1 hK
  refine wp_region_any hmx ?_
  refine wpAny_tabG (G := (Nat)) (fun g i__ => ([(.pointer (some ⟨lb, off, none⟩)), (.pointer (some ⟨lb, off, none⟩)), (.pointer (some ⟨lb, off + 1, none⟩)), (.agg #[.slice ad N cap]), (.pointer (some ⟨w.heap.size, 2, none⟩)), (.int .i64 id), (.tuple #[nt o t k, .int .i64 E]), (.tuple #[nt o t k, .int .i64 E]), (nt o t k), (.int .i64 E), (.pointer (some ⟨g, 0, none⟩)), undef, (.int .i64 E)] : List Value).getD i__ undef) (fun x f V => JN W o t k x (f 10) (f 11) V) (by kernel_rfl) (0) ⟨(Below.refl _ _).drew, fun e => by cases e⟩ ?step4 ?fin4
  case step4 =>
    intro i o ho
    have hi : i < 13 := getElem?_lt ho
    match i, hi, ho with
    | 0, _, ho =>
      cases ho
      refine stepG_of (fun g d hdep => ?_)
      exact step_move rfl trivial _ rfl (by kernel_rfl)
    | 1, _, ho =>
      cases ho
      refine stepG_of (fun g d hdep => ?_)
      exact step_nilCheck rfl trivial _ _ _ rfl rfl rfl
    | 2, _, ho =>
      cases ho
      refine stepG_of (fun g d hdep => ?_)
      exact step_fieldAddr rfl trivial _ _ _ _ rfl rfl (fun v hw => field_bo1 v _ _)
    | 3, _, ho =>
      cases ho
      refine stepG_of (fun g d hdep => ?_)
      exact step_load rfl trivial _ _ _ rfl rfl (fun v hw => load_bor (HS2.out.carry hw.below).c1)
    | 4, _, ho =>
      cases ho
      refine stepG_of (fun g d hdep => ?_)
      exact step_fieldAddr rfl trivial _ _ _ _ rfl rfl (fun v hw => field_op2 v _)
    | 5, _, ho =>
      cases ho
      refine stepG_of (fun g d hdep => ?_)
      exact step_load rfl trivial _ _ _ rfl rfl (fun v hw => load_opi (HO2.out.carry hw.below).c2)
    | 6, _, ho =>
      cases ho
      refine stepG_of (fun g d hdep => ?_)
      exact step_call rfl trivial 24 _ _ [(.agg #[.slice ad N cap]), (.int .i64 id)] rfl (by kernel_rfl) (enters_of Tryz.func24 (by kernel_rfl) rfl) (fun v hw => (HR.out v (HS2.out.carry hw.below).rd).mono (by rintro e w' ⟨rfl, hb⟩; exact ⟨rfl, hw.carry hb⟩))
    | 7, _, ho =>
      cases ho
      refine stepG_of (fun g d hdep => ?_)
      exact step_move rfl trivial _ rfl (by kernel_rfl)
    | 8, _, ho =>
      cases ho
      refine stepG_of (fun g d hdep => ?_)
      exact step_extract rfl trivial _ _ _ rfl rfl (fun v hw => ext2_0 _ _ v)
    | 9, _, ho =>
      cases ho
      refine stepG_of (fun g d hdep => ?_)
      exact step_extract rfl trivial _ _ _ rfl rfl (fun v hw => ext2_1 _ _ v)
    | 10, _, ho =>
      cases ho
      exact stepG_newN rfl rfl rfl (fun g d W' hJ hun hcl => ⟨W'.heap.size, (fun j hj => match j, hj with | 10, hj => (by rw [hj] at hun; cases hun)  | 0, _ => rfl | 1, _ => rfl | 2, _ => rfl | 3, _ => rfl | 4, _ => rfl | 5, _ => rfl | 6, _ => rfl | 7, _ => rfl | 8, _ => rfl | 9, _ => rfl | 11, _ => rfl | 12, _ => rfl | _ + 13, _ => rfl), rfl, hJ.new (by cases h : d 11 with | false => rfl | true => exact absurd (hcl 11 _ rfl h 10 (by kernel_rfl)) (by rw [hun]; simp))⟩)
    | 11, _, ho =>
      cases ho
      refine stepG_of (fun g d hdep => ?_)
      exact step_store rfl trivial rfl _ _ _ _ _ rfl rfl rfl (fun w' hw => by have h12 := hdep 10 (by kernel_rfl); rw [h12] at hw; exact ⟨_, hw.store.1, by show JN W o t k g (d 10) true _; rw [h12]; exact hw.store.2⟩)
    | 12, _, ho =>
      cases ho
      refine stepG_of (fun g d hdep => ?_)
      exact step_assign rfl trivial _ rfl (by kernel_rfl) (fun _ h => h)
  intro g d W hall hW
  first | refine hK _ _ ?_ | refine (‹∀ (a : Act) (w : World), Code.wp Tryz.prog _ _ a w → _›) _ _ ?_ | skip
  simp only [finL, List.getD_cons_zero, List.getD_cons_succ, Nat.zero_add, Nat.reduceAdd, List.setIfInBounds_toArray, List.set_cons_zero, List.set_cons_succ]
  rw [hall 10 (by decide), hall 11 (by decide)] at hW
  clear hK hall
  have hbZ := hW.below
  have n2 := (hW.box rfl).2
  have n1 := HN1.out.carry hbZ
  simp only [if_true] at n2
  have HZ : Hid (StV σ base lb off bb N p y ad w _) := HH.out.same (bel2 (bel2 hb1 hbW) hbZ)
  clear hW
  have a0 := cell_at n1 0
  have a1 := cell_at n1 1
  have a2 := cell_at n1 2
  have b0 := cell_at n2 0
  have b1 := cell_at n2 1
  have b2 := cell_at n2 2
  simp only [List.getElem?_toArray, List.getElem?_cons_zero, List.getElem?_cons_succ] at a0 a1 a2 b0 b1 b2
  clear hgA
  go_wp2
  go_ret
  exact ⟨rfl, HZ.out⟩
set_option maxHeartbeats 4000000 in
set_option maxRecDepth 100000 in
theorem step_6 {σ : Sg} (h : St σ base lb off bb N p g l ad cap w) (who id : Int) (ad2 : Option Addr) (cap2 : Nat) (m : List N3) : Calls Tryz.prog 14 #[.pointer (some ⟨lb, off, none⟩), .agg #[.int .i64 6, .int .i64 who, .int .i64 id, .slice ad2 m.length cap2]] w fun e w' => e = .returned (.bool true) ∧ StV σ base lb off bb N p g ad w w' := by
  have hmx : Tryz.prog.follows .mixedOrders = true := by kernel_rfl
  obtain ⟨w1, hw1⟩ : ∃ w1, w.alloc (.cells #[.int .i64 6, .int .i64 who, .int .i64 id, .slice ad2 m.length cap2] 25) = w1 := ⟨_, rfl⟩
  have hb1 : Below w.heap.size w w1 := by rw [← hw1]; exact al1 _ _
  have hO : OpB w1 w.heap.size 6 who id (.slice ad2 m.length cap2) := by rw [← hw1]; exact new_at rfl
  have hS := h.sd.carry hb1
  have o0 := hO.c0
  have hE1 : Ev base lb off g w w1 := Ev.of _ _ hb1 h.sd.bz h.sd.lg.1
  have HSU : Hid (∀ (W : World), Bk W p g l → Calls Tryz.prog 28 #[.pointer (some ⟨p, 0, none⟩)] W fun e w' => e = .returned (sv (sus l)) ∧ Below W.heap.size W w') := fun W hk => sus_any hk (by have := h.h0; have := h.hn; omega) (by have := h.h1; have := h.hn; omega) h.bo
  have HRS : Hid (∀ (W : World), RdN W ad l → Calls Tryz.prog 29 #[.agg #[.slice ad N cap]] W fun e w' => e = .returned (sv (sus l)) ∧ Below W.heap.size W w') := fun W hr => rSus_any ad N cap l hr h.hn h.h0 h.h1 h.bo
  have HT : Hid (sus l < S128) := Nat.lt_of_lt_of_le (sus_lt h.bo (by have := h.h1; have := h.hn; omega)) (by unfold S128; decide)
  have HH : Hid (St σ base lb off bb N p g l ad cap w) := h
  have HS : Hid (Sd σ base lb off bb N p g l l ad cap w1) := hS
  clear h hS hE1 hO
  go_enter Tryz.func14, Tryz.ntmps14
  go_wp2
  rename_i Q0 K0 hK
  refine wp_region_any hmx ?_
  refine wpAny_pure (fun i__ => ([(.pointer (some ⟨lb, off, none⟩)), (.pointer (some ⟨lb, off, none⟩)), (.pointer (some ⟨lb, off, none⟩)), (.pointer (some ⟨p, 0, none⟩)), (sv (sus l)), (.pointer (some ⟨lb, off, none⟩)), (.pointer (some ⟨lb, off, none⟩)), (.pointer (some ⟨lb, off + 1, none⟩)), (.agg #[.slice ad N cap]), (sv (sus l)), (.bool true), (.bool true)] : List Value).getD i__ undef) (fun V => Below w1.heap.size w1 V) (by kernel_rfl) (Below.refl _ _).drew ?_ ?_
  · refine (stepsFrom_cons ?_ (stepsFrom_cons ?_ (stepsFrom_cons ?_ (stepsFrom_cons ?_ (stepsFrom_cons ?_ (stepsFrom_cons ?_ (stepsFrom_cons ?_ (stepsFrom_cons ?_ (stepsFrom_cons ?_ (stepsFrom_cons ?_ (stepsFrom_cons ?_ (stepsFrom_cons ?_ trivial))))))))))))
    · exact step_move rfl trivial _ rfl (by kernel_rfl)
    · exact step_nilCheck rfl trivial _ _ _ rfl rfl rfl
    · exact step_fieldAddr rfl trivial _ _ _ _ rfl rfl (fun v hw => field_bo0 v _ _)
    · exact step_load rfl trivial _ _ _ rfl rfl (fun v hw => load_bop (HS.out.carry hw).c0)
    · exact step_call rfl trivial 28 _ _ [(.pointer (some ⟨p, 0, none⟩))] rfl (by kernel_rfl) (enters_of Tryz.func28 (by kernel_rfl) rfl) (fun v hw => (HSU.out v (HS.out.carry hw).bk).mono (by rintro e w' ⟨rfl, hb⟩; exact ⟨rfl, bel2 hw hb⟩))
    · exact step_move rfl trivial _ rfl (by kernel_rfl)
    · exact step_nilCheck rfl trivial _ _ _ rfl rfl rfl
    · exact step_fieldAddr rfl trivial _ _ _ _ rfl rfl (fun v hw => field_bo1 v _ _)
    · exact step_load rfl trivial _ _ _ rfl rfl (fun v hw => load_bor (HS.out.carry hw).c1)
    · exact step_call rfl trivial 29 _ _ [(.agg #[.slice ad N cap])] rfl (by kernel_rfl) (enters_of Tryz.func29 (by kernel_rfl) rfl) (fun v hw => (HRS.out v (HS.out.carry hw).rd).mono (by rintro e w' ⟨rfl, hb⟩; exact ⟨rfl, bel2 hw hb⟩))
    · exact step_binOp rfl trivial _ _ _ _ _ _ _ rfl rfl rfl (fun v hw => eqls rfl HT.out v)
    · exact step_assign rfl trivial _ rfl (by kernel_rfl) (fun _ h => h)
  intro W hW
  first | refine hK _ _ ?_ | refine (‹∀ (a : Act) (w : World), Code.wp Tryz.prog _ _ a w → _›) _ _ ?_
  simp only [finL, List.getD_cons_zero, List.getD_cons_succ, Nat.zero_add, Nat.reduceAdd, List.setIfInBounds_toArray, List.set_cons_zero, List.set_cons_succ]
  clear hK
  go_wp2
  go_ret
  exact ⟨rfl, HH.out.same (bel2 hb1 hW)⟩
set_option maxHeartbeats 4000000 in
set_option maxRecDepth 100000 in
theorem step_5 {σ : Sg} (h : St σ base lb off bb N p g l ad cap w) (who id : Int) (ad2 : Option Addr) (cap2 : Nat) (m : List N3) : Calls Tryz.prog 14 #[.pointer (some ⟨lb, off, none⟩), .agg #[.int .i64 5, .int .i64 who, .int .i64 id, .slice ad2 m.length cap2]] w fun e w' => e = .returned (.bool true) ∧ StV σ base lb off bb N p g ad w w' := by
  have hmx : Tryz.prog.follows .mixedOrders = true := by kernel_rfl
  obtain ⟨w1, hw1⟩ : ∃ w1, w.alloc (.cells #[.int .i64 5, .int .i64 who, .int .i64 id, .slice ad2 m.length cap2] 25) = w1 := ⟨_, rfl⟩
  have hb1 : Below w.heap.size w w1 := by rw [← hw1]; exact al1 _ _
  have hO : OpB w1 w.heap.size 5 who id (.slice ad2 m.length cap2) := by rw [← hw1]; exact new_at rfl
  have hS := h.sd.carry hb1
  have o0 := hO.c0
  have hE1 : Ev base lb off g w w1 := Ev.of _ _ hb1 h.sd.bz h.sd.lg.1
  obtain ⟨L, hL⟩ : ∃ L, l.filter pNew = L := ⟨_, rfl⟩
  have hLl : L.length ≤ 100 := by rw [← hL]; have := List.length_filter_le pNew l; have := h.h1; have := h.hn; omega
  obtain ⟨n, hln⟩ : ∃ n, L.length = n := ⟨_, rfl⟩
  have hnw : Calls Tryz.prog 25 #[.pointer (some ⟨p, 0, none⟩)] w1 fun e w' => ∃ adl capl, e = .returned (.slice adl n capl) ∧ RdN w' adl L ∧ (∀ a, adl = some a → ∃ cur, w'.heap[a.block]? = some (.cells cur 62 (0, 0))) ∧ (adl = none → capl = 0) ∧ Below w1.heap.size w1 w' ∧ Made w1 w' (.slice adl n capl) L := (bnews_any hS.bk (by have := h.h0; have := h.hn; omega) (by have := h.h1; have := h.hn; omega)).mono (by
    rintro e w' ⟨v, rfl, hm, hb⟩
    rw [hL] at hm
    obtain ⟨ad, cap, rfl, hr, ha, hc⟩ := hm.rd2
    exact ⟨ad, cap, by rw [hln], hr, ha, hc, hb, by rw [hln] at hm; exact hm⟩)
  have HRN : Hid (∀ (W : World), RdN W ad l → Calls Tryz.prog 27 #[.agg #[.slice ad N cap]] W fun e w' => ∃ adl capl, e = .returned (.slice adl n capl) ∧ RdN w' adl L ∧ Below W.heap.size W w') := fun W hW => (rNews_any ad N cap l hW h.hn h.h0 h.h1 h.bo).mono (by
    rintro e w' ⟨v, rfl, hm, hb⟩
    rw [hL] at hm
    obtain ⟨ad, cap, rfl, hr, ha, hc⟩ := hm.rd2
    exact ⟨ad, cap, by rw [hln], hr, hb⟩)
  have HNO : Hid (∀ (W : World) (adl : Option Addr) (capl : Nat), Below w1.heap.size w1 W → Made w1 W (.slice adl n capl) L → RdN W adl L → (adl = none → capl = 0) → Calls Tryz.prog 26 #[.pointer (some ⟨bb, 0, none⟩), .slice adl n capl] W fun e w' => (∃ v, e = .returned v) ∧ NK σ base bb w' ∧ Kp base bb W w') := fun W adl capl hb hm hr hc => by
    have := kb_any hS.nk hS.bz hb adl capl L hr (by rw [hln]; unfold Made at hm; rw [hln] at hm; exact hm) hLl hc
    rw [hln] at this
    exact this
  have HSA : Hid (∀ (W : World) (adl ad3 : Option Addr) (capl cap3 : Nat), RdN W adl L → RdN W ad3 L → Calls Tryz.prog 13 #[.slice adl n capl, .slice ad3 n cap3] W fun e w' => e = .returned (.bool true) ∧ Below W.heap.size W w') := fun W adl ad3 capl cap3 hr hr2 => by
    have := same_any adl ad3 capl cap3 L W hr hr2 (by omega)
    rw [hln] at this
    exact this
  have HH : Hid (St σ base lb off bb N p g l ad cap w) := h
  have HS : Hid (Sd σ base lb off bb N p g l l ad cap w1) := hS
  have c0 := hS.c0
  clear h hS hE1 hO hL hln hLl
  go_enter Tryz.func14, Tryz.ntmps14
  go_wp2_with (first | (go_at_call 25; (with_reducible refine hnw.mono ?_); rintro e u1 ⟨adl, capl, rfl, hr1, ht1, hc1, hb2, hm1⟩; have hs1 := HS.out.carry hb2; have c2 := hs1.c2; have k1 := HNO.out u1 adl capl hb2 hm1 hr1 hc1; clear hm1) | (go_at_call 26; (with_reducible refine k1.mono ?_); rintro e u2 ⟨⟨v2, rfl⟩, hn2, hk2⟩; have hs2 := hs1.kp hk2 hn2; have hr2 := hk2.rd hs1.nk hr1 ht1; have c1 := hs2.c1; have k2 := HRN.out u2 hs2.rd) | (go_at_call 27; (with_reducible refine k2.mono ?_); rintro e u3 ⟨ad3, cap3, rfl, hr3, hb3⟩; have k3 := HSA.out u3 adl ad3 capl cap3 (hr2.carry hb3) hr3) | (go_at_call 13; (with_reducible refine k3.mono ?_); rintro e u4 ⟨rfl, hb4⟩))
  go_ret
  have hbb := bel2 hb3 hb4
  exact ⟨rfl, HH.out.kept (bel2 hb1 hb2) (hk2.trans (Kp.ofBelow hbb)) (hn2.carry hbb)⟩
theorem step_any {σ : Sg} (h : St σ base lb off bb N p g l ad cap w) (k who id : Int) (ad2 : Option Addr) (cap2 : Nat) (m : List N3) (hm : RdN w ad2 m) (hm2 : m ≠ [] → ∀ a, ad2 = some a → a.block ≠ g ∧ a.block ≠ lb) (hc2 : ad2 = none → cap2 = 0) (hl : m.length ≤ 300) : Calls Tryz.prog 14 #[.pointer (some ⟨lb, off, none⟩), .agg #[.int .i64 k, .int .i64 who, .int .i64 id, .slice ad2 m.length cap2]] w fun e w' => e = .returned (.bool true) ∧ StV σ base lb off bb N p g ad w w' := by
  by_cases h1 : k = 1
  · subst h1; exact step_1 h who id ad2 cap2 m hm hm2 hl
  by_cases h2 : k = 2
  · subst h2; exact step_2 h who id ad2 cap2 m hm hm2 hc2 hl
  by_cases h3 : k = 3
  · subst h3; exact step_3 h who id ad2 cap2 m
  by_cases h4 : k = 4
  · subst h4; exact step_4 h who id ad2 cap2 m
  by_cases h5 : k = 5
  · subst h5; exact step_5 h who id ad2 cap2 m
  by_cases h6 : k = 6
  · subst h6; exact step_6 h who id ad2 cap2 m
  exact step_0 h k who id ad2 cap2 m h1 h2 h3 h4 h5 h6
end
end Go.Proofs.YtojegojeolkgpaaGreat
