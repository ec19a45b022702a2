/- What is kept lies apart, and apart from the tally. -/
import Derived.Test.YtcdefcaoocnlbaaZmg
namespace Go.Proofs.Ytcdefcaoocnlbaa
open Go.RowKit Go.Shelf Go.Lib

theorem NK.kn {σ : Sg} {base bb : Nat} {W : World} (h : NK σ base bb W) : ∃ u v x y L, Kn base bb W u v x L ∧ Cn base W v y L ∧ (∀ b, σ b → Px x b) ∧ (∀ b, b < base → Px x b) ∧ (∀ b, W.heap.size ≤ b → Px x b) ∧ (∀ (b : Nat) (cur : Array Value) (t : TypeId) (z : Nat × Nat), W.heap[b]? = some (.cells cur t z) → t ≠ 24 → Px x b) := by
  obtain ⟨_, k, x, y, L, ⟨u, v, hk, hkb, h6, h7, _, hbb⟩, hl, hL⟩ := h
  subst hl
  have key : ∀ (i : Nat) (z : Value), x[i]? = some z → ∃ l, W.ownsRow base 24 4 z (List.length l) (fs l) ∧ (∀ g, z.ownBlock = some g → ¬ σ g) := fun i z hz => by
    have hi : i < L.length := by rw [← hL.lx]; exact (List.getElem?_eq_some_iff.1 hz).1
    obtain ⟨z', zc, h1, h2, h3, h4, h5, _⟩ := hL.ks i _ (List.getElem?_eq_getElem hi)
    rw [hz] at h1
    obtain rfl := Option.some.inj h1
    exact ⟨_, h3, h5⟩
  refine ⟨u, v, x, y, L, ⟨hkb, h6, fun i l hi => ?_, hL.ap, hbb, hk⟩, ⟨h7, fun i l hi => ?_⟩, fun b hb i z hz e => ?_, fun b hb i z hz e => ?_, fun b hb i z hz e => ?_, fun b cur t zz hh ht i z hz e => ?_⟩
  · obtain ⟨z, zc, h1, h2, h3, h4, _, _, h5⟩ := hL.ks i l hi
    exact ⟨z, h1, h3, by omega⟩
  · obtain ⟨z, zc, h1, h2, h3, h4, _⟩ := hL.ks i l hi
    obtain ⟨ad, c, e, hr⟩ := own_rd h4
    exact ⟨ad, c, by rw [h2, e], hr⟩
  · obtain ⟨l, _, h2⟩ := key i z hz
    exact h2 b e hb
  · obtain ⟨l, h1, _⟩ := key i z hz
    have := (row_lt2 h1 b e).1
    omega
  · obtain ⟨l, h1, _⟩ := key i z hz
    have := (row_lt2 h1 b e).2
    omega
  · obtain ⟨l, h1, _⟩ := key i z hz
    exact row_type h1 hh ht e
theorem grownN {W V : World} (hg : W.grownBy V none) : Below W.heap.size W V := ⟨hg.os, hg.tape, hg.output, hg.size, fun k hk => hg.block k hk (by simp)⟩
section
variable {σ : Sg} {W V : World} {B q cap cap' base bb : Nat} {ad ad' : Option Addr} {t t' : Tl}
/-- A reply is taken: what is kept stays, and is not the tally's. -/
theorem NK.tn (h : NK σ base bb W) (hT : Ta W B q ad cap t) (hs : ∀ b, ob ad = some b → σ b) (hn : Tn q (ob ad) (ob ad') W V) (hT' : Ta V B q ad' cap' t') : ∃ σ', NK σ' base bb V ∧ (∀ b, ob ad' = some b → σ' b) := by
  have hkx : ∀ k x y, NKx base bb W k x y → NKx base bb V k x y := fun k x y hx => by
    obtain ⟨u, v, hk, hkb, h6, h7, hap, hbb⟩ := hx
    refine ⟨u, v, hk, hT.stays hn hkb (by decide) (by decide), ?_, ?_, hap, hbb⟩
    · exact row_at h6 (fun g cur _ hg => hT.stays hn hg (by decide) (by decide))
    · exact row_at h7 (fun g cur _ hg => hT.stays hn hg (by decide) (by decide))
  have hset : ∀ (g : Nat) (cur : Array Value), ¬ σ g → W.heap[g]? = some (.cells cur 24 (0, 0)) → V.heap[g]? = some (.cells cur 24 (0, 0)) := fun g cur hg hh => (hn.block g (lt_at hh) (fun e => by
    subst e
    have := hh.symm.trans hT.obj
    simp only [Option.some.injEq, Obj.cells.injEq] at this
    exact absurd this.2.1 (by decide)) (fun e => hg (hs g e.symm))).trans hh
  obtain ⟨h1, k, x, y, L, hx, hl, hL⟩ := h
  rcases hn.own with e | e
  · exact ⟨σ, ⟨fun b hb => Nat.lt_of_lt_of_le (h1 b hb) hn.size, k, x, y, L, hkx _ _ _ hx, hl, hL.carry hset⟩, fun b eb => hs b (e.symm.trans eb)⟩
  · cases ha : ob ad' with
    | none => exact ⟨σ, ⟨fun b hb => Nat.lt_of_lt_of_le (h1 b hb) hn.size, k, x, y, L, hkx _ _ _ hx, hl, hL.carry hset⟩, fun b eb => by cases eb⟩
    | some b' =>
      have hb1 := e b' ha
      have hb2 := (row_lt2 hT'.row b' (by rw [ob_eq]; exact ha)).2
      have hL2 : Lx (oneMore σ b') base W x y L := hL.other (fun g cur hg hh q => by
        rcases q with q | q
        · exact hg q
        · have := lt_at hh
          omega)
      refine ⟨oneMore σ b', ⟨fun b hb => ?_, k, x, y, L, hkx _ _ _ hx, hl, hL2.carry (fun g cur hg hh => hset g cur (fun q => hg (.inl q)) hh)⟩, fun b eb => ?_⟩
      · rcases hb with q | q
        · exact Nat.lt_of_lt_of_le (h1 b q) hn.size
        · omega
      · cases eb
        exact .inr rfl
/-- A list is kept: the tally stays. -/
theorem Ta.kp (hT : Ta W B q ad cap t) (hk : Kp base bb W V) (hbb : ∃ cur, W.heap[bb]? = some (.cells cur 60 (0, 0))) : Ta V B q ad cap t := by
  obtain ⟨cb, hcb⟩ := hbb
  refine ⟨hT.qb, hk.block q _ hT.obj (fun e => ?_) (.inr (fun c fz e3 => ?_)), row_at hT.row (fun g cur _ hg => hk.block g _ hg (fun e => ?_) (.inr (fun c fz e3 => ?_)))⟩
  · subst e
    have := hcb.symm.trans hT.obj
    simp only [Option.some.injEq, Obj.cells.injEq] at this
    exact absurd this.2.1 (by decide)
  · simp only [Obj.cells.injEq] at e3
    exact absurd e3.2.1 (by decide)
  · subst e
    have := hcb.symm.trans hg
    simp only [Option.some.injEq, Obj.cells.injEq] at this
    exact absurd this.2.1 (by decide)
  · simp only [Obj.cells.injEq] at e3
    exact absurd e3.2.1 (by decide)
theorem NK.book (h : NK σ base bb W) : ∃ cur, W.heap[bb]? = some (.cells cur 60 (0, 0)) := by
  obtain ⟨_, k, x, y, L, ⟨u, v, _, hkb, _⟩, _⟩ := h
  exact ⟨_, hkb⟩
theorem NK.carry (h : NK σ base bb W) (hb : Below W.heap.size W V) : NK σ base bb V := by
  obtain ⟨h1, k, x, y, L, hx, hl, hL⟩ := h
  exact ⟨fun b q => Nat.lt_of_lt_of_le (h1 b q) hb.size, k, x, y, L, hx.carry hb, hl, hL.carry (fun g cur _ hg => (hb.block g (lt_at hg)).trans hg)⟩
theorem NK.le (h : NK σ base bb W) : base ≤ bb := by
  obtain ⟨_, k, x, y, L, ⟨u, v, _, _, _, _, _, hbb⟩, _⟩ := h
  exact hbb
theorem NK.new (u : World) (base : Nat) (hb : base ≤ u.heap.size) (σ : Sg) (hs : ∀ b, σ b → b < u.heap.size) : NK σ base u.heap.size (u.alloc (.cells (bkc (.slice none 0 0) (.slice none 0 0)) 60)) := by
  refine ⟨fun b hb => ?_, 0, [], [], [], ⟨.slice none 0 0, .slice none 0 0, by omega, new_at rfl, World.ownsRow_nil _ _ _ _, World.ownsRow_nil _ _ _ _, fun q e => ?_, hb⟩, rfl, ⟨fun i l hl => ?_, rfl, rfl, fun i j g z z' hz => ?_⟩⟩
  · have := hs b hb
    simp
    omega
  · cases e
  · simp at hl
  · simp at hz
/-- Behind Apart: what is not kept stays. -/
theorem Ta.bx {x : List Value} (hT : Ta W B q ad cap t) (hb : Bx x W V) (h1 : Px x q) (h2 : ∀ b, ob ad = some b → Px x b) : Ta V B q ad cap t :=
  ⟨hT.qb, (hb.block q hT.lt h1).trans hT.obj, row_moved hT.row (fun b e => hb.block b (row_lt2 hT.row b e).2 (h2 b (by rw [← ob_eq]; exact e)))⟩
end
end Go.Proofs.Ytcdefcaoocnlbaa
