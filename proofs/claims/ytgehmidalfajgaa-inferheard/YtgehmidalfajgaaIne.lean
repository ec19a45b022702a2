/- While a box of one's own is written beside a tally. -/
import Derived.Test.YtgehmidalfajgaaTyh
namespace Go.Proofs.Ytgehmidalfajgaa
open Go.RowKit Go.Shelf

/-- Ahead of the box's writing, and behind it. -/
def Jb (w : World) (bs S : Nat) (d : Bool) (V : World) : Prop := match d with
  | false => Below w.heap.size w V
  | true => Holds4 V bs (wd S) ∧ (w.heap.size ≤ V.heap.size ∧ V.os = w.os ∧ V.tape = w.tape ∧ V.output = w.output ∧ ∀ k, k < w.heap.size → k ≠ bs → V.heap[k]? = w.heap[k]?)
section
variable {w W V : World} {B q : Nat} {ad : Option Addr} {cap bs S : Nat} {t : Tl} {c : Nat → Nat}
theorem jb_put (h : Holds4 w bs c) (hV : Jb w bs S false V) : Jb w bs S true (set4 V bs S) := by
  have hb : Below w.heap.size w V := hV
  refine ⟨fin4 (h.carry hb) S, ?_, ?_, ?_, ?_, fun k hk hne => (hold4 hne).trans (hb.block k hk)⟩
  · have := hb.size; simpa [set4] using this
  · exact hb.os
  · exact hb.tape
  · exact hb.output
theorem jb_ta (hT : Ta w B q ad cap t) (h : Holds4 w bs c) (hne : ob ad ≠ some bs) (hV : Jb w bs S true V) : Ta V B q ad cap t := by
  obtain ⟨_, _, _, _, _, hb⟩ := hV
  refine ⟨hT.qb, (hb q hT.lt (fun e => ?_)).trans hT.obj, row_moved hT.row (fun b e => ?_)⟩
  · subst e
    have h1 : w.heap[q]? = some (.cells (cells4 c) 24 (0, 0)) := h
    have := h1.symm.trans hT.obj
    simp only [Option.some.injEq, Obj.cells.injEq] at this
    exact absurd this.2.1 (by decide)
  · rw [ob_eq] at e
    obtain ⟨_, cur, h2⟩ := hT.blk e
    exact hb b (lt_at h2) (fun e2 => hne (by rw [e, e2]))
theorem jb_below {w0 : World} {n : Nat} (h0 : Below n w0 w) (hn : n ≤ bs) (hw : n ≤ w.heap.size) (hV : Jb w bs S true V) : Below n w0 V := by
  obtain ⟨_, h1, h2, h3, h4, hb⟩ := hV
  exact ⟨h2.trans h0.os, h3.trans h0.tape, h4.trans h0.output, Nat.le_trans h0.size h1, fun k hk => (hb k (by omega) (by omega)).trans (h0.block k hk)⟩
theorem ta_row (hT : Ta w B q ad cap t) (h : Holds4 w bs c) (hne : ob ad ≠ some bs) (cs : Array Value) : Ta (w.setRow bs cs) B q ad cap t := by
  refine ⟨hT.qb, (setRow_other _ _ _ _ (fun e => ?_)).trans hT.obj, row_moved hT.row (fun b e => ?_)⟩
  · subst e
    have h1 : w.heap[q]? = some (.cells (cells4 c) 24 (0, 0)) := h
    have := h1.symm.trans hT.obj
    simp only [Option.some.injEq, Obj.cells.injEq] at this
    exact absurd this.2.1 (by decide)
  · rw [ob_eq] at e
    exact setRow_other _ _ _ _ (fun e2 => hne (by rw [e, e2]))
theorem kd_not1 {i : Nat} (h : i ≠ 5) (hi : i ≤ 5) : ¬ kd i = 1 := by
  have : i = 0 ∨ i = 1 ∨ i = 2 ∨ i = 3 ∨ i = 4 := by omega
  rcases this with rfl | rfl | rfl | rfl | rfl <;> decide
theorem full_lt (n : Int) (h2 : n ≤ 100) : fullN n.toNat < S128 := by
  unfold fullN S128
  have := Nat.pow_le_pow_right (n := 2) (by decide) (show n.toNat ≤ 100 by omega)
  have h3 : (2 : Nat) ^ 100 < 2 ^ 128 := by decide
  omega
end
theorem Kin.run {t : Tl} (hk : Kin t) (h : Tv t) : ∀ (l : List Rp), (∀ o ∈ l, o.N < S128) → Kin (run t l) := by
  intro l
  induction l generalizing t with
  | nil => exact fun _ => hk
  | cons o l ih => exact fun hl => ih (hk.step h (hl o (by simp))) (h.tk (hl o (by simp))) (fun x hx => hl x (by simp [hx]))
end Go.Proofs.Ytgehmidalfajgaa
