/- For the document's Take and Move: a list without a place; a row of one's own is put. -/
import Derived.Test.YtjfbnikbmadgkaaGreatBgx
namespace Go.Proofs.YtjfbnikbmadgkaaGreat
open Go.RowKit Go.Shelf

/-- A list without the place i, up to j. -/
def upTo {α : Type} (l : List α) (i j : Nat) : List α := if j ≤ i then l.take j else (l.take j).eraseIdx i
theorem upTo_0 {α : Type} (l : List α) (i : Nat) : upTo l i 0 = [] := by simp [upTo]
theorem upTo_at {α : Type} (l : List α) (i : Nat) : upTo l i (i + 1) = upTo l i i := by
  unfold upTo
  rw [if_neg (by omega), if_pos (Nat.le_refl _)]
  by_cases h : i < l.length
  · rw [List.take_add_one, List.eraseIdx_append_of_length_le (by simp; omega), List.getElem?_eq_getElem h]
    have : (l.take i).length = i := by simp; omega
    rw [this, Nat.sub_self]
    simp
  · rw [List.take_of_length_le (by omega), List.take_of_length_le (by omega), List.eraseIdx_of_length_le (by omega)]
theorem upTo_next {α : Type} {l : List α} {i j : Nat} {x : α} (h : l[j]? = some x) (hne : j ≠ i) : upTo l i (j + 1) = upTo l i j ++ [x] := by
  have ht : l.take (j + 1) = l.take j ++ [x] := by rw [List.take_add_one, h]; rfl
  have hl := (List.getElem?_eq_some_iff.1 h).1
  unfold upTo
  by_cases hj : j + 1 ≤ i
  · rw [if_pos hj, if_pos (by omega), ht]
  · rw [if_neg hj, if_neg (by omega), ht, List.eraseIdx_append_of_lt_length (by simp; omega)]
theorem upTo_end {α : Type} (l : List α) (i : Nat) (h : i < l.length) : upTo l i l.length = l.take i ++ l.drop (i + 1) := by
  unfold upTo
  rw [if_neg (by omega), List.take_length, List.eraseIdx_eq_take_drop_succ]
theorem upTo_len {α β : Type} {l : List α} {m : List β} (h : m.length = l.length) (i j : Nat) : (upTo m i j).length = (upTo l i j).length := by
  unfold upTo
  split
  · simp [h]
  · rw [List.length_eraseIdx, List.length_eraseIdx]
    simp [h]
theorem upTo_get {α β : Type} {l : List α} {m : List β} {i j : Nat} {P : α → β → Prop} (hp : ∀ (k : Nat) (x : α) (y : β), l[k]? = some x → m[k]? = some y → P x y) : ∀ (k : Nat) (x : α) (y : β), (upTo l i j)[k]? = some x → (upTo m i j)[k]? = some y → P x y := by
  intro k x y h1 h2
  unfold upTo at h1 h2
  split at h1
  · rename_i hji
    rw [if_pos hji] at h2
    rw [List.getElem?_take] at h1 h2
    split at h1
    · rename_i hk
      rw [if_pos hk] at h2
      exact hp k x y h1 h2
    · cases h1
  · rename_i hji
    rw [if_neg hji] at h2
    rw [List.getElem?_eraseIdx] at h1 h2
    split at h1
    · rename_i hk
      rw [if_pos hk] at h2
      rw [List.getElem?_take] at h1 h2
      split at h1
      · rename_i hk2
        rw [if_pos hk2] at h2
        exact hp k x y h1 h2
      · cases h1
    · rename_i hk
      rw [if_neg hk] at h2
      rw [List.getElem?_take] at h1 h2
      split at h1
      · rename_i hk2
        rw [if_pos hk2] at h2
        exact hp _ x y h1 h2
      · cases h1
section
variable {w : World} {base lb o : Nat} {ad : Option Addr} {cap : Nat} {last most : Int} {l : List Gr} {av : List (Option Addr × Nat)}
/-- A row of one's own is put. -/
theorem Rg.turnB {u : World} {ad' : Option Addr} {cap' : Nat} {l' : List Gr} {av' : List (Option Addr × Nat)} (h : Rg w base lb o ad cap last most l av) (hb : Below w.heap.size w u) (hrow : u.ownsRow w.heap.size 62 4 (.slice ad' l'.length cap') l'.length (flG l' av')) (hbs : base ≤ w.heap.size) (hlen : av'.length = l'.length)
    (hdat : ∀ (k : Nat) (x : Gr) (a : Option Addr × Nat), l'[k]? = some x → av'[k]? = some a → RdY w a.1 x.2.2.2 ∧ (a.1 = none → a.2 = 0)) (hfew : ∀ x ∈ l', x.2.2.2.length ≤ 1024 ∧ Byt x.2.2.2) (hle : (l'.length : Int) ≤ most) :
    Rg (u.setCell ⟨lb, o, none⟩ (.slice ad' l'.length cap')) base lb o ad' cap' last most l' av' ∧ Tr lb o (ob ad) (ob ad') w (u.setCell ⟨lb, o, none⟩ (.slice ad' l'.length cap')) := by
  have hlb := h.lt
  obtain ⟨cur, hc⟩ := h.blk
  have hbu : u.heap[lb]? = w.heap[lb]? := hb.block lb hlb
  have hcu := hbu.trans hc
  have hs := heap_setCell_same _ _ o _ _ (.slice ad' l'.length cap') hcu
  have ce : ∀ j, u.cell? ⟨lb, j, none⟩ = w.cell? ⟨lb, j, none⟩ := fun j => World.cell?_of_block (a := ⟨lb, j, none⟩) hbu
  have hnb : ∀ b, ob ad' = some b → w.heap.size ≤ b := fun b e => own_block hrow b (by rw [ob_eq]; exact e)
  have ht : Tr lb o (ob ad) (ob ad') w (u.setCell ⟨lb, o, none⟩ (.slice ad' l'.length cap')) :=
    ⟨hb.os, hb.tape, hb.output, by simpa using hb.size, fun k hk h1 _ => (Below.heap_setCell _ _ _ _ h1).trans (hb.block k hk), fun j hj => (cell_put hcu _ (by omega)).trans (ce j), fun _ _ => ⟨_, hs⟩, .inr hnb⟩
  exact ⟨⟨cell_put_same hcu ((ce o).trans h.cL) _, (cell_put hcu _ (by omega)).trans ((ce _).trans h.cA), (cell_put hcu _ (by omega)).trans ((ce _).trans h.cM), ⟨_, hs⟩, row_other (row_base hrow hbs) (by rw [ob_eq]; intro e; have := hnb _ e; omega) _, hlen, fun k x a h1 h2 => ⟨h.rd ht (hdat k x a h1 h2).1, (hdat k x a h1 h2).2⟩, hfew, h.most1, hle⟩, ht⟩
end
end Go.Proofs.YtjfbnikbmadgkaaGreat
