/- What the function that word.Scan hands to word.cut does: it takes a word to the list. -/
import Derived.Test.YtibhljdiofglfabDoorCln
import Derived.Maps.AppendAt
import Derived.Deep.RegionWith
import Derived.Laws.IdiomCopy
namespace Go.Proofs.YtibhljdiofglfabDoor
open Go.RowKit Go.Shelf

theorem ownsRow_base {w : World} {base base' : Nat} {e : TypeId} {size : Nat} {v : Value} {n : Nat} {xs : List Value} (h : w.ownsRow base e size v n xs) (hle : base' ≤ base) : w.ownsRow base' e size v n xs := by
  obtain ⟨h1, h2⟩ := h
  refine ⟨h1, ?_⟩
  rcases h2 with h2 | ⟨g, cap, cur, h3, h4, h5⟩
  · exact .inl h2
  · exact .inr ⟨g, cap, cur, h3, Nat.le_trans hle h4, h5⟩
theorem ownsRow_block {w : World} {base : Nat} {e : TypeId} {size : Nat} {v : Value} {n : Nat} {xs : List Value} (h : w.ownsRow base e size v n xs) : ∀ g, v.ownBlock = some g → base ≤ g ∧ ∃ cur, w.heap[g]? = some (.cells cur e (0, 0)) := by
  intro g hg
  rcases h.2 with ⟨rfl, _⟩ | ⟨g', cap, cur, rfl, h4, h5, _⟩
  · cases hg
  · cases hg
    exact ⟨h4, cur, h5⟩
theorem ownsRow_form {w : World} {base : Nat} {e : TypeId} {size : Nat} {v : Value} {n : Nat} {xs : List Value} (h : w.ownsRow base e size v n xs) : ∃ ad cap, v = .slice ad n cap ∧ (0 < n → ∃ g, ad = some ⟨g, 0, none⟩ ∧ base ≤ g ∧ g < w.heap.size ∧ n ≤ cap ∧ ∀ j u, xs[j]? = some u → w.cell? ⟨g, j, none⟩ = some u) := by
  obtain ⟨h1, h2⟩ := h
  rcases h2 with ⟨rfl, rfl⟩ | ⟨g, cap, cur, rfl, h4, h5, h6, h7, h8, h9⟩
  · exact ⟨none, 0, rfl, fun h => absurd h (by omega)⟩
  · refine ⟨some ⟨g, 0, none⟩, cap, rfl, fun _ => ⟨g, rfl, h4, (Array.getElem?_eq_some_iff.1 h5).1, h6, fun j u hj => ?_⟩⟩
    rw [cell_of h5 j, ← hj, ← h9, List.getElem?_take]
    have hjl : j < n * size := by have := (List.getElem?_eq_some_iff.1 hj).1; omega
    rw [if_pos hjl, Array.getElem?_toList]

theorem rowBox_kept {W w1 : World} {n0 B : Nat} {t e : TypeId} {size k : Nat} {v : Value} {xs : List Value} {tmp : Obj} (hv : Boxed W B t v) (hrow : W.ownsRow n0 e size v k xs) (hB : B < n0) (hgrow : (W.alloc tmp).grownBy w1 v.ownBlock) : Boxed w1 B t v :=
  (hv.alloc tmp).kept hgrow (fun e' => by have := (ownsRow_block hrow B e'.symm).1; omega)
theorem four_new (W : World) (a b c d : Value) (t : TypeId) : ∀ j u, [a, b, c, d][j]? = some u → (W.alloc (.cells #[a, b, c, d] t)).cell? ((⟨W.heap.size, 0, none⟩ : Addr).add j) = some u := by
  intro j u h
  have hg : (W.alloc (.cells #[a, b, c, d] t)).heap[W.heap.size]? = some (.cells #[a, b, c, d] t) := get_new rfl
  have ha : (⟨W.heap.size, 0, none⟩ : Addr).add j = ⟨W.heap.size, j, none⟩ := by unfold Addr.add; split <;> simp_all
  rw [ha, cell_of hg j, ← h]
  simp
theorem row_below {W W' : World} {B : Nat} {e : TypeId} {z : Nat} {v : Value} {n : Nat} {xs : List Value} (h : W.ownsRow B e z v n xs) (hb : Below W.heap.size W W') : W'.ownsRow B e z v n xs := by
  obtain ⟨h3, h4⟩ := h
  refine ⟨h3, ?_⟩
  rcases h4 with h4 | ⟨g, cap, cur, q1, q2, q3, q4⟩
  · exact Or.inl h4
  · exact Or.inr ⟨g, cap, cur, q1, q2, (hb.block g (Array.getElem?_eq_some_iff.1 q3).1).trans q3, q4⟩
/-- All blocks but b and r lie as they lay. -/
structure Tch (b : Nat) (r : Option Nat) (w w' : World) : Prop where
  os : w'.os = w.os
  tape : w'.tape = w.tape
  output : w'.output = w.output
  size : w.heap.size ≤ w'.heap.size
  block : ∀ k, k < w.heap.size → k ≠ b → some k ≠ r → w'.heap[k]? = w.heap[k]?

/-- The cells of a word. -/
def tokC (kind : Int) (text : ByteArray) (line col : Int) : List Value := [.int .i64 kind, .string text, .int .i64 line, .int .i64 col]
theorem infoTok : (Tryd.prog.info? 37).map (fun i => (i.zero, i.size, i.bytes)) = some (some (.agg #[.int .i64 0, .string ⟨#[]⟩, .int .i64 0, .int .i64 0]), 4, 40) := by kernel_rfl

theorem below_undrew {n : Nat} {Y W : World} (h : Below n Y.drew W) : Below n Y W := ⟨h.os, h.tape, h.output, h.size, h.block⟩
theorem tok_facts {X W1 : World} {a g : Nat} {line : Int} {kind col l0 : Int} {text : ByteArray} (hag : a ≠ g) (haX : Boxed X a 3 (.int .i64 line))
    (hX : X.heap[g]? = some (.cells #[.int .i64 kind, .string text, .int .i64 l0, .int .i64 col] 37)) (b1 : Below X.heap.size X W1) :
    W1.cell? ⟨a, 0, none⟩ = some (.int .i64 line) ∧ W1.cell? ⟨g, 0, none⟩ = some (.int .i64 kind) ∧ W1.cell? ⟨g, 1, none⟩ = some (.string text) ∧ W1.frozen? ⟨g, 1, none⟩ = false ∧
    (W1.setCell ⟨g, 1, none⟩ (.string text)).cell? ⟨g, 2, none⟩ = some (.int .i64 l0) ∧ (W1.setCell ⟨g, 1, none⟩ (.string text)).frozen? ⟨g, 2, none⟩ = false ∧
    (W1.setCell ⟨g, 1, none⟩ (.string text)).cell? ⟨a, 0, none⟩ = some (.int .i64 line) ∧ W1.cell? ⟨g, 3, none⟩ = some (.int .i64 col) := by
  have hblk : W1.heap[g]? = some (.cells #[.int .i64 kind, .string text, .int .i64 l0, .int .i64 col] 37) := (b1.block g (Array.getElem?_eq_some_iff.1 hX).1).trans hX
  have ha1 : Boxed W1 a 3 (.int .i64 line) := (b1.block a haX.lt).trans haX
  refine ⟨ha1.cell, cell_of hblk 0, cell_of hblk 1, by simp [World.frozen?, hblk], ?_, ?_, ?_, cell_of hblk 3⟩
  · rw [World.cell?_setCell_other _ _ _ _ (by simp)]
    exact cell_of hblk 2
  · have : (W1.setCell ⟨g, 1, none⟩ (.string text)).frozen? ⟨g, 2, none⟩ = W1.frozen? ⟨g, 2, none⟩ := World.frozen?_setCells g [.string text] 1 W1 ⟨g, 2, none⟩
    rw [this]
    simp [World.frozen?, hblk]
  · rw [World.cell?_setCell_other _ _ _ _ (fun h => hag (by have := congrArg Addr.block h; exact this.symm))]
    exact ha1.cell

set_option maxHeartbeats 2000000 in
set_option maxRecDepth 100000 in
theorem take_any (B a b : Nat) (kind col line l0 : Int) (text : ByteArray) (ht : text.size ≤ 65536) (v : Value) (n : Nat) (xs : List Value) (w : World)
    (ha : Boxed w a 3 (.int .i64 line)) (hb : Boxed w b 27 v) (hrow : w.ownsRow B 37 4 v n xs) (hn : n ≤ 1048576) (hBw : B ≤ w.heap.size) (hbB : b < B) :
    Calls Tryd.prog 20 #[.agg #[.int .i64 kind, .string text, .int .i64 l0, .int .i64 col], .pointer (some ⟨a, 0, none⟩), .pointer (some ⟨b, 0, none⟩)] w fun e w' => e = .returned (.bool true) ∧ ∃ v', Boxed w' b 27 v' ∧ w'.ownsRow B 37 4 v' (n + 1) (xs ++ tokC kind text line col) ∧ Tch b v.ownBlock w w' := by
  obtain ⟨ic, hic, hz0, hz1, hz2⟩ := info_parts infoTok
  have hca := ha.cell
  have hcb := hb.cell
  have halt := ha.lt
  have hblt := hb.lt
  go_enter Tryd.func20, Tryd.ntmps20
  go_wp2_with fail
  go_region_with (go_at_call 15; refine (clone_any text _ (by omega)).mono ?_; rintro e W1 ⟨rfl, b1⟩; have b2 : Below (w.alloc (.cells #[.int .i64 kind, .string text, .int .i64 l0, .int .i64 col] 37)).heap.size (w.alloc (.cells #[.int .i64 kind, .string text, .int .i64 l0, .int .i64 col] 37)) W1 := (by first | exact b1 | exact below_undrew b1 | exact below_undrew (below_undrew b1) | exact below_undrew (below_undrew (below_undrew b1)) | exact below_undrew (below_undrew (below_undrew (below_undrew b1)))); obtain ⟨hca1, hs0, hs1, hf1, hs2, hf2, hca2, hs3⟩ := tok_facts (g := w.heap.size) (Nat.ne_of_lt ha.lt) (ha.alloc _) (get_new rfl) b2)
  all_goals
    have hB3 : Below w.heap.size w ((W1.setCell ⟨w.heap.size, 1, none⟩ (.string text)).setCell ⟨w.heap.size, 2, none⟩ (.int .i64 line)) := ((((Below.refl _ w).alloc (Nat.le_refl _) _).trans (b2.mono (by simp))).setCell (Nat.le_refl _) _).setCell (Nat.le_refl _) _
    have y0 : ((W1.setCell ⟨w.heap.size, 1, none⟩ (.string text)).setCell ⟨w.heap.size, 2, none⟩ (.int .i64 line)).cell? ⟨w.heap.size, 0, none⟩ = some (.int .i64 kind) := by
      rw [World.cell?_setCell_other _ _ _ _ (by simp), World.cell?_setCell_other _ _ _ _ (by simp)]; exact hs0
    have y1 : ((W1.setCell ⟨w.heap.size, 1, none⟩ (.string text)).setCell ⟨w.heap.size, 2, none⟩ (.int .i64 line)).cell? ⟨w.heap.size, 1, none⟩ = some (.string text) := by
      rw [World.cell?_setCell_other _ _ _ _ (by simp)]; exact World.cell?_setCell_same _ _ _ hs1
    have y2 : ((W1.setCell ⟨w.heap.size, 1, none⟩ (.string text)).setCell ⟨w.heap.size, 2, none⟩ (.int .i64 line)).cell? ⟨w.heap.size, 2, none⟩ = some (.int .i64 line) := World.cell?_setCell_same _ _ _ hs2
    have y3 : ((W1.setCell ⟨w.heap.size, 1, none⟩ (.string text)).setCell ⟨w.heap.size, 2, none⟩ (.int .i64 line)).cell? ⟨w.heap.size, 3, none⟩ = some (.int .i64 col) := by
      rw [World.cell?_setCell_other _ _ _ _ (by simp), World.cell?_setCell_other _ _ _ _ (by simp)]; exact hs3
    clear hca1 hs0 hs1 hf1 hs2 hf2 hca2 hs3 b1 b2
    generalize ((W1.setCell ⟨w.heap.size, 1, none⟩ (.string text)).setCell ⟨w.heap.size, 2, none⟩ (.int .i64 line)) = W3 at *
    have hv3 : Boxed W3 b 27 v := (hB3.block b hblt).trans hb
    have hr3 := row_below hrow hB3
    have hc3 := hv3.cell
    have hz3 := hB3.size
    clear hca hcb
    go_wp2_with (at_builtin; refine wpList_append_own _ rfl _ _ 27 rfl B 37 ic _ 4 40 Tryd.underlying27 hic hz0 hz1 hz2 rfl (by decide) _ _ _ rfl (hr3.alloc _) ⟨W3.heap.size, 0, none⟩ 1 1 [.int .i64 kind, .string text, .int .i64 line, .int .i64 col] rfl rfl (four_new _ _ _ _ _ _) (by simp [Value.oneCell']) (by unfold maxLen; omega) (by omega) (by simp; omega) ?_; intro v' w4 hown' hgrow _; obtain ⟨g', cap', rfl⟩ := ownsRow_succ hown'; have hv4 := rowBox_kept hv3 hr3 hbB hgrow; have hc4 := hv4.cell; have hf4 := hv4.frozen)
    go_ret
    refine ⟨rfl, _, hv4.set _, ownsRow_setCell_below hown' hbB _, hgrow.os.trans hB3.os, hgrow.tape.trans hB3.tape, hgrow.output.trans hB3.output, ?_, fun k hk hkb hkr => ?_⟩
    · have h1 := hgrow.size
      have h2 : ∀ x, (w4.setCell ⟨b, 0, none⟩ x).heap.size = w4.heap.size := fun x => by simp [World.setCell]
      rw [h2]
      simp at h1
      omega
    · have h2 : ∀ x, (w4.setCell ⟨b, 0, none⟩ x).heap[k]? = w4.heap[k]? := fun x => by simp [World.setCell, Array.getElem?_modify, Ne.symm hkb]
      rw [h2, hgrow.block k (by simp; omega) hkr]
      refine Eq.trans ?_ (hB3.block k hk)
      show (W3.heap.push _)[k]? = _
      rw [Array.getElem?_push_lt (by omega), Array.getElem?_eq_getElem (by omega)]
end Go.Proofs.YtibhljdiofglfabDoor
