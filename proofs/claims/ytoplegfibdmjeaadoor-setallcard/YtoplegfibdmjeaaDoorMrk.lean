/- Marks of loops over functions that pile up in a frame: what they are, and how the frame is left. -/
import Derived.Test.YtoplegfibdmjeaaDoorItx
namespace Go.Proofs.YtoplegfibdmjeaaDoor
open Go.RowKit

def mark (k : Nat) : Deferred := { target := .collected k, args := #[] }
/-- The marks of a frame lie at these blocks, from lo on, each with nothing deferred. -/
structure Marks (lo : Nat) (ks : List Nat) (W : World) : Prop where
  nd : ks.Nodup
  lo : ∀ k ∈ ks, lo ≤ k
  on : ∀ k ∈ ks, W.heap[k]? = some (.deferred (some []))
theorem Marks.nil (lo : Nat) (W : World) : Marks lo [] W := ⟨List.nodup_nil, (fun _ h => by cases h), (fun _ h => by cases h)⟩
theorem Marks.lt {lo : Nat} {ks : List Nat} {W : World} (h : Marks lo ks W) : ∀ k ∈ ks, k < W.heap.size := fun k hk => (Array.getElem?_eq_some_iff.1 (h.on k hk)).1
theorem Marks.carry {lo : Nat} {ks : List Nat} {W W' : World} (h : Marks lo ks W) (hb : Below W.heap.size W W') : Marks lo ks W' := ⟨h.nd, h.lo, fun k hk => (hb.block k (h.lt k hk)).trans (h.on k hk)⟩
theorem Marks.set {lo : Nat} {ks : List Nat} {W : World} {B j : Nat} {cs : Array Value} {t : TypeId} {z : Nat × Nat} (h : Marks lo ks W) (hB : W.heap[B]? = some (.cells cs t z)) (v : Value) : Marks lo ks (W.setCell ⟨B, j, none⟩ v) :=
  ⟨h.nd, h.lo, fun k hk => (set_other (fun e => by subst e; have := h.on k hk; rw [hB] at this; cases this)).trans (h.on k hk)⟩
theorem Marks.cons {lo : Nat} {ks : List Nat} {W : World} {k : Nat} (h : Marks lo ks W) (h1 : lo ≤ k) (h2 : ∀ j ∈ ks, j < k) (h3 : W.heap[k]? = some (.deferred (some []))) : Marks lo (k :: ks) W :=
  ⟨List.nodup_cons.2 ⟨fun hm => by have := h2 k hm; omega, h.nd⟩, fun j hj => by
    rcases List.mem_cons.1 hj with rfl | hj
    · exact h1
    · exact h.lo j hj, fun j hj => by
    rcases List.mem_cons.1 hj with rfl | hj
    · exact h3
    · exact h.on j hj⟩
theorem marks_own {lo B : Nat} {ks : List Nat} (hB : ∀ k ∈ ks, k < B) {β : Type} : OwnFrom B (fun (_ : β) W => Marks lo ks W) := by
  intro s X Y row h hg hr
  exact ⟨h.nd, h.lo, fun k hk => (hg.block k (h.lt k hk) (fun e => by have := (hr k e.symm).1; have := hB k hk; omega)).trans (h.on k hk)⟩
theorem leaves_marks {F : Fence} {n : Nat} {P : Program} {fn : Func} {tmps : Array Value} {R : Ending → World → Prop} {lo : Nat} : ∀ (ks : List Nat) (W : World), Marks lo ks W →
    (∀ W', Below lo W W' → (∀ (j : Nat) (o : Obj), W.heap[j]? = some o → o.isCells = true → W'.heap[j]? = some o) → LeavesIn F n P fn tmps R [] .returning W') → LeavesInM F n P fn tmps R (ks.map mark) .returning W
  | [], W, _, hf => hf W (Below.refl _ _) (fun _ _ h _ => h)
  | k :: ks, W, h, hf => by
    have hk := h.on k (List.mem_cons_self ..)
    have hlo := h.lo k (List.mem_cons_self ..)
    have hnd := List.nodup_cons.1 h.nd
    refine ⟨by simp, .inl ⟨k, _, rfl, run_takeDeferred hk, leaves_marks ks _ ⟨hnd.2, fun j hj => h.lo j (List.mem_cons_of_mem _ hj), fun j hj => (World.putObj_heap_other (fun e => by subst e; exact hnd.1 hj)).trans (h.on j (List.mem_cons_of_mem _ hj))⟩ ?_⟩⟩
    intro W' hb hc
    refine hf W' ((below_taken _ (Below.refl lo W) hlo).trans hb) (fun j o hj ho => ?_)
    refine hc j o ((World.putObj_heap_other (fun e => ?_)).trans hj) ho
    subst e
    rw [hk] at hj
    cases hj
    cases ho
end Go.Proofs.YtoplegfibdmjeaaDoor
