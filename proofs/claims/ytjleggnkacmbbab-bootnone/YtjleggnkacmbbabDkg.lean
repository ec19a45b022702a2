/- the statements' sector; earshotbook.SameBytes where they are alike; the statements' alive. -/
import Derived.Test.YtjleggnkacmbbabDkf
namespace Go.Proofs.Ytjleggnkacmbbab
open Go.RowKit Go.Shelf

/-- The k-th byte of the sector of v. -/
def sb (v : Int) (k : Nat) : Nat := ((v + 7 * (k : Int)) % 256).toNat
def secB (v : Int) : List Nat := (List.range 32).map (sb v)
theorem sb_lt (v : Int) (k : Nat) : sb v k < 256 := by unfold sb; omega
theorem secB_len (v : Int) : (secB v).length = 32 := by simp [secB]
theorem secB_byt (v : Int) : Byt (secB v) := by
  intro x hx
  obtain ⟨k, _, rfl⟩ := List.mem_map.1 hx
  exact sb_lt v k
/-- So far. -/
def secK (v : Int) (k : Nat) : List Nat := (List.range 32).map fun i => if i < k then sb v i else 0
theorem secK_0 (v : Int) : secK v 0 = List.replicate 32 0 := by
  apply List.ext_getElem?
  intro i
  simp only [secK, List.getElem?_map, List.getElem?_replicate]
  by_cases h : i < 32
  · simp [h]
  · simp [h]
theorem secK_32 (v : Int) : secK v 32 = secB v := by
  unfold secK secB
  refine List.map_congr_left fun i hi => ?_
  rw [if_pos (List.mem_range.1 hi)]
theorem secK_len (v : Int) (k : Nat) : (secK v k).length = 32 := by simp [secK]
theorem secK_step (v : Int) (k : Nat) (hk : k < 32) : (secK v k).set k (sb v k) = secK v (k + 1) := by
  apply List.ext_getElem?
  intro i
  by_cases e : k = i
  · subst e
    rw [List.getElem?_set_self (by rw [secK_len]; exact hk)]
    simp [secK, hk]
  · rw [List.getElem?_set_ne e]
    simp only [secK, List.getElem?_map]
    by_cases h : i < 32
    · rw [List.getElem?_range h]
      simp only [Option.map_some]
      by_cases h2 : i < k
      · rw [if_pos h2, if_pos (by omega)]
      · rw [if_neg h2, if_neg (by omega)]
    · rw [List.getElem?_eq_none (by simp; omega)]
      rfl
theorem sb_eq (v : Int) (k : Nat) : wrap64 (v + 7 * (k : Int)) % 256 = ((sb v k : Nat) : Int) := by
  unfold sb wrap64
  omega
def zS : Array Value := (cB (List.replicate 32 0)).toArray
theorem mk32 (w : World) : (Instr.makeSlice 68 (.int .i64 32) (.int .i64 32)).run Try.prog w = .ok (.slice (some ⟨w.heap.size, 0, none⟩) 32 32) (w.alloc (.cells zS 5)) := by kernel_rfl
/-- A row of 32 bytes in a block of its own. -/
structure Sc (W : World) (g : Nat) (x : List Nat) : Prop where
  obj : W.heap[g]? = some (.cells (cB x).toArray 5 (0, 0))
  len : x.length = 32
  byt : Byt x
theorem Sc.rd {W : World} {g : Nat} {x : List Nat} (h : Sc W g x) : RdY W (some ⟨g, 0, none⟩) x := fun _ => ⟨g, 0, rfl, ⟨_, h.obj⟩, fun k y hy => by rw [Nat.zero_add, cell_at h.obj, List.getElem?_toArray]; exact cB_get hy⟩
theorem Sc.set {W : World} {g : Nat} {x : List Nat} (h : Sc W g x) (k y : Nat) (hy : y < 256) : Sc (W.setCell ⟨g, k, none⟩ (.int .u8 (y : Int))) g (x.set k y) := by
  refine ⟨(heap_setCell_same W g k _ _ _ h.obj).trans ?_, by rw [List.length_set]; exact h.len, ?_⟩
  · rw [List.setIfInBounds_toArray]
    simp [cB, List.map_set]
  · intro z hz
    rcases List.mem_or_eq_of_mem_set hz with q | q
    · exact h.byt z q
    · rw [q]; exact hy
theorem sc_new (w : World) : Sc (w.alloc (.cells zS 5)) w.heap.size (List.replicate 32 0) := ⟨new_at rfl, by simp, byt_zero 32⟩
theorem Sc.carry {W W' : World} {g : Nat} {x : List Nat} (h : Sc W g x) (hb : Below W.heap.size W W') : Sc W' g x := ⟨(hb.block _ (lt_at h.obj)).trans h.obj, h.len, h.byt⟩
theorem load_u8 {V : World} {B j : Nat} {x : Int} (h : V.cell? ⟨B, j, none⟩ = some (.int .u8 x)) : (Instr.loadAt 5 (.pointer (some ⟨B, j, none⟩))).run Try.prog V = .ok (.int .u8 x) V := by go_simp
theorem un_not (b : Bool) (W : World) : (Op.unary .not (.bool b)).run Try.prog W = .ok (.bool (!b)) W := by go_simp
theorem secs_put {l x : List Nat} {s : Nat} (h : l.length = 256) (hx : x.length = 32) (hs : s < 8) : secs (putS l s x) s = x := by
  have e : (l.take (32 * s)).length = 32 * s := by rw [List.length_take, h]; omega
  rw [secs, putS, splice, List.drop_append_of_le_length (by omega), List.drop_of_length_le (Nat.le_of_eq e), List.nil_append, List.take_append_of_le_length (by omega), List.take_of_length_le (by omega)]
theorem secs_put_ne {l x : List Nat} {s t : Nat} (h : l.length = 256) (hx : x.length = 32) (hs : s < 8) (hn : t ≠ s) : secs (putS l s x) t = secs l t := by
  apply List.ext_getElem?
  intro i
  simp only [secs, putS, splice, List.getElem?_take, List.getElem?_drop, List.getElem?_append, List.length_take, h, hx]
  by_cases hi : i < 32
  · simp only [if_pos hi]
    by_cases h1 : t < s
    · rw [if_pos (by omega), if_pos (by omega)]
    · rw [if_neg (by omega), if_neg (by omega)]
      congr 1
      omega
  · rw [if_neg hi, if_neg hi]
def x5 : List Nat := (List.replicate 32 0).set 5 9
def dA : Dst := { d0 with l := putS d0.l 1 x5, writes := 1 }
theorem alive_w : dWr d0 1 x5 = (0, dA) := rfl
theorem d0_len : d0.l.length = 256 := List.length_replicate ..
theorem secs_A : secs dA.l 1 = x5 := secs_put d0_len rfl (by decide)
end Go.Proofs.Ytjleggnkacmbbab
