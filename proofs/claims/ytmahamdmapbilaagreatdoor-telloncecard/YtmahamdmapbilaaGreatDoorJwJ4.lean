import Derived.Test.YtmahamdmapbilaaGreatDoorJwJ2
import Derived.Test.YtmahamdmapbilaaGreatDoorJwJ3
import Derived.Test.YtmahamdmapbilaaGreatDoorJwJ0
import Derived.Lib.BufferWrite
import Derived.Lib.UnsafeStr
import Derived.Laws.MakeOwn
import Derived.Maps.AppendAt
import Derived.Deep.RegionWith
import Derived.Laws.IdiomCopy
import Derived.Scope
import Derived.ScopeJumps
set_option maxHeartbeats 40000000
set_option maxRecDepth 100000
set_option linter.unusedVariables false
namespace Go.Proofs.YtmahamdmapbilaaGreatDoor
open Go.RowKit Go.Shelf
inductive Stp where
 | gap | stop
 | bad (e off : Nat)
 | word (k : Int) (sz : Nat)
def stepR (s : ByteArray) (p : Nat) : Stp :=
 if kindR (rn s p : Int) = -1 then .gap
 else if kindR (rn s p : Int) = -2 then .stop
 else if kindR (rn s p : Int) = 2 then (if 128 < (runR (s.extract p s.size)).2 then .bad 22 0 else .word 2 (runR (s.extract p s.size)).1)
 else if kindR (rn s p : Int) = 3 then (if numR (s.extract p (p + (runR (s.extract p s.size)).1)) = none then .bad 21 0 else .word 3 (runR (s.extract p s.size)).1)
 else if kindR (rn s p : Int) = 4 then (if (leadR (s.extract p s.size)).2.2 ≠ 0 then .bad (leadR (s.extract p s.size)).2.2 (starts (s.extract p (p + (leadR (s.extract p s.size)).2.1))).length else .word 4 (leadR (s.extract p s.size)).2.1)
 else if kindR (rn s p : Int) = 5 then .word 5 1
 else .bad 20 0
abbrev Tok := Int × ByteArray × Nat
def cutAt (s : ByteArray) : Nat → Nat → Nat → Nat → List Tok → List Tok × Nat × Nat
 | 0, _, _, _, acc => (acc, 0, 0)
 | f + 1, p, nx, col, acc =>
  if ¬ p < s.size then (acc, 0, 0)
  else if p < nx then cutAt s f (p + wdt s p) nx (col + 1) acc
  else match stepR s p with
   | .gap => cutAt s f (p + wdt s p) nx (col + 1) acc
   | .stop => (acc, 0, 0)
   | .bad e off => (acc, e, col + 1 + off)
   | .word k sz => cutAt s f (p + wdt s p) (p + sz) (col + 1) (acc ++ [(k, s.extract p (p + sz), col + 1)])
def cutR (s : ByteArray) : List Tok × Nat × Nat := cutAt s (s.size + 1) 0 0 0 []
theorem runAt_le (s : ByteArray) : ∀ (f p n : Nat), p ≤ s.size → (runAt s f p n).1 ≤ s.size
 | 0, p, n, h => h
 | f + 1, p, n, h => by
  unfold runAt
  split
  · exact Nat.le_refl _
  · rename_i hp
    split
    · exact runAt_le s f _ _ (wdt_le s p (by omega))
    · exact h
theorem runR_le (s : ByteArray) : (runR s).1 ≤ s.size := runAt_le s _ _ _ (Nat.zero_le _)
theorem lead_le (s : ByteArray) : ∀ (f p : Nat) (acc : List UInt8), p ≤ s.size → (lead s f p acc).2.1 ≤ s.size
 | 0, p, acc, h => Nat.le_refl _
 | f + 1, p, acc, h => by
  by_cases hp : p < s.size
  case neg => rw [lead_end s _ p acc hp]; exact Nat.le_refl _
  by_cases c1 : byt s p = 34
  · rw [lead_quote s f p acc hp c1]; exact hp
  by_cases c2 : byt s p = 92
  · cases ho : esc (fun k => byt s (p + k)) with
    | none => rw [lead_none s f p acc hp c2 ho]; exact h
    | some x =>
     obtain ⟨l, n⟩ := x
     obtain ⟨k1, k2, k3, k4⟩ := esc_ok _ l n ho
     have := (k4 (n - 1) (by omega) (by omega)).1
     have := byt_in (s := s) (i := p + (n - 1)) (by omega)
     rw [lead_some s f p acc l n hp c2 ho]
     exact lead_le s f _ _ (by omega)
  by_cases hb : ctl (rn s p : Int) = true ∨ looseB s p = true
  · rw [lead_bad s f p acc hp c1 c2 hb]; exact h
  · rw [lead_char s f p acc hp c1 c2 hb]; exact lead_le s f _ _ (wdt_le s p hp)
theorem leadR_le (s : ByteArray) : (leadR s).2.1 ≤ s.size := by
 unfold leadR
 split
 · rename_i h
   have : 0 < s.size := byt_in (by omega)
   exact lead_le s _ _ _ this
 · exact Nat.zero_le _
theorem cut_end (s : ByteArray) (f p nx col : Nat) (acc : List Tok) (h : ¬ p < s.size) : cutAt s (f + 1) p nx col acc = (acc, 0, 0) := by rw [cutAt, if_pos h]
theorem cut_skip (s : ByteArray) (f p nx col : Nat) (acc : List Tok) (h : p < s.size) (hn : p < nx) : cutAt s (f + 1) p nx col acc = cutAt s f (p + wdt s p) nx (col + 1) acc := by rw [cutAt, if_neg (by omega), if_pos hn]
theorem cut_step (s : ByteArray) (f p nx col : Nat) (acc : List Tok) (h : p < s.size) (hn : ¬ p < nx) : cutAt s (f + 1) p nx col acc = (match stepR s p with
 | .gap => cutAt s f (p + wdt s p) nx (col + 1) acc
 | .stop => (acc, 0, 0)
 | .bad e off => (acc, e, col + 1 + off)
 | .word k sz => cutAt s f (p + wdt s p) (p + sz) (col + 1) (acc ++ [(k, s.extract p (p + sz), col + 1)])) := by rw [cutAt, if_neg (by omega), if_neg hn]
theorem cellsU8 : (Tryz.prog.info? 5).map (fun i => (i.zero, i.size, i.bytes)) = some (some (.int .u8 0), 1, 1) := by kernel_rfl
theorem clone_any (s : ByteArray) (w : World) (hlim : s.size ≤ 281474976710656) :
   Calls Tryz.prog 30 #[.string s] w fun e w' => e = .returned (.string s) ∧ Below w.heap.size w w' := by
 by_cases h0 : s.size = 0
 · have hs : s = ⟨#[]⟩ := ByteArray.ext (Array.eq_empty_of_size_eq_zero h0)
   subst hs
   go_enter Tryz.func30, Tryz.ntmps30
   go_wp2
   go_ret
   exact ⟨rfl, Below.refl _ _⟩
 · obtain ⟨i0, hi, hz0, hz1, hz2⟩ := info_parts cellsU8
   have hinfo : (Tryz.prog.info? 5).map (·.size) = some 1 := by rw [hi]; simp [hz1]
   have hco : Tryz.prog.cellsOf 5 = 1 := by simp [Program.cellsOf, hi, hz1]
   obtain ⟨M, hM⟩ : ∃ M, M = madeCells (Value.int .u8 0).cells (((s.size : Nat) : Int).toNat * i0.size) := ⟨_, rfl⟩
   have hMs : M.size = s.size := by rw [hM, size_madeCells, hz1]; simp
   have hmk : ∀ W : World, (Instr.makeSlice 116 (.int .i64 (s.size : Int)) (.int .i64 (s.size : Int))).run Tryz.prog W = .ok (.slice (some ⟨W.heap.size, 0, none⟩) s.size s.size) (W.alloc (.cells M 5)) := fun W => by
    have h := run_make (P := Tryz.prog) W 116 5 i0 (.int .u8 0) Tryz.underlying116 hi hz0 .i64 .i64 (s.size : Int) (s.size : Int) (by omega) (by omega) (by rw [hz2]; omega) (by omega)
    rw [← hM] at h
    simpa using h
   clear hM
   have hcp := Lib.run_copy_row_string (P := Tryz.prog) (w.alloc (.cells M 5)) 116 9 3 5 w.heap.size 0 s.size s.size s M 5 Tryz.underlying116 hinfo (World.alloc_heap_new w _) (Nat.le_refl _) (by omega)
   obtain ⟨Y, hY⟩ : ∃ Y, Y = (M.toList.take 0 ++ Lib.byteCells s.data.toList ++ M.toList.drop (0 + s.size)).toArray := ⟨_, rfl⟩
   rw [← hY] at hcp
   have hYl : Y.toList = Lib.byteCells s.data.toList := by
    rw [hY, List.toList_toArray, List.take_zero, List.nil_append, List.drop_of_length_le (by rw [Array.length_toList]; omega), List.append_nil]
   have hYs : Y.size = s.size := by rw [← Array.length_toList, hYl, Lib.byteCells_length, ← Lib.size_eq]
   have hgY : ((w.alloc (.cells M 5)).setRow w.heap.size Y).heap[w.heap.size]? = some (.cells Y 5 (0, 0)) := setRow_heap _ _ M _ 5 (0, 0) (World.alloc_heap_new w _)
   have hne : s.data.toList ≠ [] := fun e => h0 (by rw [Lib.size_eq, e]; rfl)
   have hUS := Lib.run_unsafeString_row (P := Tryz.prog) ((w.alloc (.cells M 5)).setRow w.heap.size Y) 244 3 9 5 Tryz.underlying244 hco w.heap.size Y.size (by unfold World.shape?; rw [hgY]) s.data.toList hne (by rw [← Lib.size_eq]; omega) (by rw [← Lib.size_eq]; omega)
    (fun j x hx => Lib.cells_of_row hgY Y.size j _ (by rw [List.take_of_length_le (by rw [Array.length_toList]; exact Nat.le_refl _), hYl]; simp [Lib.byteCells, hx]))
   rw [← Lib.size_eq] at hUS
   clear hY
   go_enter Tryz.func30, Tryz.ntmps30
   go_wp2
   go_ret
   have hb1 : Below w.heap.size w (w.alloc (.cells M 5)) := (Below.refl _ w).alloc (Nat.le_refl _) _
   have hb2 : Below w.heap.size (w.alloc (.cells M 5)) ((w.alloc (.cells M 5)).setRow w.heap.size Y) := ⟨rfl, rfl, rfl, by simp, fun k hk => setRow_other _ _ _ _ (by omega)⟩
   exact ⟨rfl, Lib.below_freeze (hb1.trans hb2) (p := ⟨w.heap.size, 0, none⟩) (Nat.le_refl _) _⟩
theorem ownsRow_base {w : World} {base base' : Nat} {e : TypeId} {size : Nat} {v : Value} {n : Nat} {xs : List Value} (h : w.ownsRow base e size v n xs) (hle : base' ≤ base) : w.ownsRow base' e size v n xs := by
 obtain ⟨h1, h2⟩ := h
 refine ⟨h1, ?_⟩
 rcases h2 with h2 | ⟨g, cap, cur, h3, h4, h5⟩
 · exact .inl h2
 · exact .inr ⟨g, cap, cur, h3, Nat.le_trans hle h4, h5⟩
theorem ownsRow_block {w : World} {base : Nat} {e : TypeId} {size : Nat} {v : Value} {n : Nat} {xs : List Value} (h : w.ownsRow base e size v n xs) : ∀ g, v.ownBlock = some g → base ≤ g ∧ ∃ cur, w.heap[g]? = some (.cells cur e (0, 0)) := by
 intro g hg
 rcases h.2 with ⟨rfl, _⟩ | ⟨g', cap, cur, rfl, h4, h5, _⟩
 · cases hg
 · cases hg
   exact ⟨h4, cur, h5⟩
theorem ownsRow_form {w : World} {base : Nat} {e : TypeId} {size : Nat} {v : Value} {n : Nat} {xs : List Value} (h : w.ownsRow base e size v n xs) : ∃ ad cap, v = .slice ad n cap ∧ (0 < n → ∃ g, ad = some ⟨g, 0, none⟩ ∧ base ≤ g ∧ g < w.heap.size ∧ n ≤ cap ∧ ∀ j u, xs[j]? = some u → w.cell? ⟨g, j, none⟩ = some u) := by
 obtain ⟨h1, h2⟩ := h
 rcases h2 with ⟨rfl, rfl⟩ | ⟨g, cap, cur, rfl, h4, h5, h6, h7, h8, h9⟩
 · exact ⟨none, 0, rfl, fun h => absurd h (by omega)⟩
 · refine ⟨some ⟨g, 0, none⟩, cap, rfl, fun _ => ⟨g, rfl, h4, (Array.getElem?_eq_some_iff.1 h5).1, h6, fun j u hj => ?_⟩⟩
   rw [cell_of h5 j, ← hj, ← h9, List.getElem?_take]
   have hjl : j < n * size := by have := (List.getElem?_eq_some_iff.1 hj).1; omega
   rw [if_pos hjl, Array.getElem?_toList]
theorem rowBox_kept {W w1 : World} {n0 B : Nat} {t e : TypeId} {size k : Nat} {v : Value} {xs : List Value} {tmp : Obj} (hv : Boxed W B t v) (hrow : W.ownsRow n0 e size v k xs) (hB : B < n0) (hgrow : (W.alloc tmp).grownBy w1 v.ownBlock) : Boxed w1 B t v :=
 (hv.alloc tmp).kept hgrow (fun e' => by have := (ownsRow_block hrow B e'.symm).1; omega)
theorem four_new (W : World) (a b c d : Value) (t : TypeId) : ∀ j u, [a, b, c, d][j]? = some u → (W.alloc (.cells #[a, b, c, d] t)).cell? ((⟨W.heap.size, 0, none⟩ : Addr).add j) = some u := by
 intro j u h
 have hg : (W.alloc (.cells #[a, b, c, d] t)).heap[W.heap.size]? = some (.cells #[a, b, c, d] t) := get_new rfl
 have ha : (⟨W.heap.size, 0, none⟩ : Addr).add j = ⟨W.heap.size, j, none⟩ := by unfold Addr.add; split <;> simp_all
 rw [ha, cell_of hg j, ← h]
 simp
theorem zrb {W W' : World} {B : Nat} {e : TypeId} {z : Nat} {v : Value} {n : Nat} {xs : List Value} (h : W.ownsRow B e z v n xs) (hb : Below W.heap.size W W') : W'.ownsRow B e z v n xs := by
 obtain ⟨h3, h4⟩ := h
 refine ⟨h3, ?_⟩
 rcases h4 with h4 | ⟨g, cap, cur, q1, q2, q3, q4⟩
 · exact Or.inl h4
 · exact Or.inr ⟨g, cap, cur, q1, q2, (hb.block g (Array.getElem?_eq_some_iff.1 q3).1).trans q3, q4⟩
structure Tch (b : Nat) (r : Option Nat) (w w' : World) : Prop where
 os : w'.os = w.os
 tape : w'.tape = w.tape
 output : w'.output = w.output
 size : w.heap.size ≤ w'.heap.size
 block : ∀ k, k < w.heap.size → k ≠ b → some k ≠ r → w'.heap[k]? = w.heap[k]?
def tokC (kind : Int) (text : ByteArray) (line col : Int) : List Value := [.int .i64 kind, .string text, .int .i64 line, .int .i64 col]
theorem infoTok : (Tryz.prog.info? 48).map (fun i => (i.zero, i.size, i.bytes)) = some (some (.agg #[.int .i64 0, .string ⟨#[]⟩, .int .i64 0, .int .i64 0]), 4, 40) := by kernel_rfl
theorem below_undrew {n : Nat} {Y W : World} (h : Below n Y.drew W) : Below n Y W := ⟨h.os, h.tape, h.output, h.size, h.block⟩
theorem tok_facts {X W1 : World} {a g : Nat} {line : Int} {kind col l0 : Int} {text : ByteArray} (hag : a ≠ g) (haX : Boxed X a 3 (.int .i64 line))
   (hX : X.heap[g]? = some (.cells #[.int .i64 kind, .string text, .int .i64 l0, .int .i64 col] 48)) (b1 : Below X.heap.size X W1) :
   W1.cell? ⟨a, 0, none⟩ = some (.int .i64 line) ∧ W1.cell? ⟨g, 0, none⟩ = some (.int .i64 kind) ∧ W1.cell? ⟨g, 1, none⟩ = some (.string text) ∧ W1.frozen? ⟨g, 1, none⟩ = false ∧
   (W1.setCell ⟨g, 1, none⟩ (.string text)).cell? ⟨g, 2, none⟩ = some (.int .i64 l0) ∧ (W1.setCell ⟨g, 1, none⟩ (.string text)).frozen? ⟨g, 2, none⟩ = false ∧
   (W1.setCell ⟨g, 1, none⟩ (.string text)).cell? ⟨a, 0, none⟩ = some (.int .i64 line) ∧ W1.cell? ⟨g, 3, none⟩ = some (.int .i64 col) := by
 have hblk : W1.heap[g]? = some (.cells #[.int .i64 kind, .string text, .int .i64 l0, .int .i64 col] 48) := (b1.block g (Array.getElem?_eq_some_iff.1 hX).1).trans hX
 have ha1 : Boxed W1 a 3 (.int .i64 line) := (b1.block a haX.lt).trans haX
 refine ⟨ha1.cell, cell_of hblk 0, cell_of hblk 1, by simp [World.frozen?, hblk], ?_, ?_, ?_, cell_of hblk 3⟩
 · rw [World.cell?_setCell_other _ _ _ _ (by simp)]
   exact cell_of hblk 2
 · have : (W1.setCell ⟨g, 1, none⟩ (.string text)).frozen? ⟨g, 2, none⟩ = W1.frozen? ⟨g, 2, none⟩ := World.frozen?_setCells g [.string text] 1 W1 ⟨g, 2, none⟩
   rw [this]
   simp [World.frozen?, hblk]
 · rw [World.cell?_setCell_other _ _ _ _ (fun h => hag (by have := congrArg Addr.block h; exact this.symm))]
   exact ha1.cell
theorem take_any (B a b : Nat) (kind col line l0 : Int) (text : ByteArray) (ht : text.size ≤ 65536) (v : Value) (n : Nat) (xs : List Value) (w : World)
  (ha : Boxed w a 3 (.int .i64 line)) (hb : Boxed w b 44 v) (hrow : w.ownsRow B 48 4 v n xs) (hn : n ≤ 1048576) (hBw : B ≤ w.heap.size) (hbB : b < B) :
  Calls Tryz.prog 29 #[.agg #[.int .i64 kind, .string text, .int .i64 l0, .int .i64 col], .pointer (some ⟨a, 0, none⟩), .pointer (some ⟨b, 0, none⟩)] w fun e w' => e = .returned (.bool true) ∧ ∃ v', Boxed w' b 44 v' ∧ w'.ownsRow B 48 4 v' (n + 1) (xs ++ tokC kind text line col) ∧ Tch b v.ownBlock w w' := by
 obtain ⟨ic, hic, hz0, hz1, hz2⟩ := info_parts infoTok
 have hca := ha.cell
 have hcb := hb.cell
 have halt := ha.lt
 have hblt := hb.lt
 go_enter Tryz.func29, Tryz.ntmps29
 go_wp2_with fail
 go_region_with (go_at_call 30; refine (clone_any text _ (by omega)).mono ?_; rintro e W1 ⟨rfl, b1⟩; have b2 : Below (w.alloc (.cells #[.int .i64 kind, .string text, .int .i64 l0, .int .i64 col] 48)).heap.size (w.alloc (.cells #[.int .i64 kind, .string text, .int .i64 l0, .int .i64 col] 48)) W1 := (by first | exact b1 | exact below_undrew b1 | exact below_undrew (below_undrew b1) | exact below_undrew (below_undrew (below_undrew b1)) | exact below_undrew (below_undrew (below_undrew (below_undrew b1)))); obtain ⟨hca1, hs0, hs1, hf1, hs2, hf2, hca2, hs3⟩ := tok_facts (g := w.heap.size) (Nat.ne_of_lt ha.lt) (ha.alloc _) (get_new rfl) b2)
 all_goals
  have hB3 : Below w.heap.size w ((W1.setCell ⟨w.heap.size, 1, none⟩ (.string text)).setCell ⟨w.heap.size, 2, none⟩ (.int .i64 line)) := ((((Below.refl _ w).alloc (Nat.le_refl _) _).trans (b2.mono (by simp))).setCell (Nat.le_refl _) _).setCell (Nat.le_refl _) _
  have y0 : ((W1.setCell ⟨w.heap.size, 1, none⟩ (.string text)).setCell ⟨w.heap.size, 2, none⟩ (.int .i64 line)).cell? ⟨w.heap.size, 0, none⟩ = some (.int .i64 kind) := by
    rw [World.cell?_setCell_other _ _ _ _ (by simp), World.cell?_setCell_other _ _ _ _ (by simp)]; exact hs0
  have y1 : ((W1.setCell ⟨w.heap.size, 1, none⟩ (.string text)).setCell ⟨w.heap.size, 2, none⟩ (.int .i64 line)).cell? ⟨w.heap.size, 1, none⟩ = some (.string text) := by
    rw [World.cell?_setCell_other _ _ _ _ (by simp)]; exact World.cell?_setCell_same _ _ _ hs1
  have y2 : ((W1.setCell ⟨w.heap.size, 1, none⟩ (.string text)).setCell ⟨w.heap.size, 2, none⟩ (.int .i64 line)).cell? ⟨w.heap.size, 2, none⟩ = some (.int .i64 line) := World.cell?_setCell_same _ _ _ hs2
  have y3 : ((W1.setCell ⟨w.heap.size, 1, none⟩ (.string text)).setCell ⟨w.heap.size, 2, none⟩ (.int .i64 line)).cell? ⟨w.heap.size, 3, none⟩ = some (.int .i64 col) := by
    rw [World.cell?_setCell_other _ _ _ _ (by simp), World.cell?_setCell_other _ _ _ _ (by simp)]; exact hs3
  clear hca1 hs0 hs1 hf1 hs2 hf2 hca2 hs3 b1 b2
  generalize ((W1.setCell ⟨w.heap.size, 1, none⟩ (.string text)).setCell ⟨w.heap.size, 2, none⟩ (.int .i64 line)) = W3 at *
  have hv3 : Boxed W3 b 44 v := (hB3.block b hblt).trans hb
  have hr3 := zrb hrow hB3
  have hc3 := hv3.cell
  have hz3 := hB3.size
  clear hca hcb
  go_wp2_with (at_builtin; refine wpList_append_own _ rfl _ _ 44 rfl B 48 ic _ 4 40 Tryz.underlying44 hic hz0 hz1 hz2 rfl (by decide) _ _ _ rfl (hr3.alloc _) ⟨W3.heap.size, 0, none⟩ 1 1 [.int .i64 kind, .string text, .int .i64 line, .int .i64 col] rfl rfl (four_new _ _ _ _ _ _) (by simp [Value.oneCell']) (by unfold maxLen; omega) (by omega) (by simp; omega) ?_; intro v' w4 hown' hgrow _; obtain ⟨g', cap', rfl⟩ := ownsRow_succ hown'; have hv4 := rowBox_kept hv3 hr3 hbB hgrow; have hc4 := hv4.cell; have hf4 := hv4.frozen)
  go_ret
  refine ⟨rfl, _, hv4.set _, ownsRow_setCell_below hown' hbB _, hgrow.os.trans hB3.os, hgrow.tape.trans hB3.tape, hgrow.output.trans hB3.output, ?_, fun k hk hkb hkr => ?_⟩
  · have h1 := hgrow.size
    have h2 : ∀ x, (w4.setCell ⟨b, 0, none⟩ x).heap.size = w4.heap.size := fun x => by simp [World.setCell]
    rw [h2]
    simp at h1
    omega
  · have h2 : ∀ x, (w4.setCell ⟨b, 0, none⟩ x).heap[k]? = w4.heap[k]? := fun x => by simp [World.setCell, Array.getElem?_modify, Ne.symm hkb]
    rw [h2, hgrow.block k (by simp; omega) hkr]
    refine Eq.trans ?_ (hB3.block k hk)
    show (W3.heap.push _)[k]? = _
    rw [Array.getElem?_push_lt (by omega), Array.getElem?_eq_getElem (by omega)]
end Go.Proofs.YtmahamdmapbilaaGreatDoor
namespace Go.Proofs.YtmahamdmapbilaaGreatDoor
open Go
def jumpsOut (outs : List Nat) (J : Nat → Nat → Act → World → Prop) (Q : Exit → Act → World → Prop) : Exit → Act → World → Prop
 | .goto l, a, w => (l ∈ outs ∧ Q (.goto l) a w) ∨ (∃ m, J l m a w)
 | e, a, w => Q e a w
theorem wp_scope_out {P : Program} {a : Act} {w : World} {Q : Exit → Act → World → Prop} {c : Code} (outs : List Nat) (J : Nat → Nat → Act → World → Prop) (hout : ∀ l ∈ outs, findLabel c l = none)
  (first : c.wp P (jumpsOut outs J Q) a w)
  (pass : ∀ l m a w, J l m a w → ∃ rest, findLabel c l = some rest ∧ rest.wp P (jumpsOut outs (fun l' m' a' w' => m' < m ∧ J l' m' a' w') Q) a w) : (Code.scope c).wp P Q a w := by
 intro b k cs
 have out : ∀ l, l ∈ outs → ∀ k', gotoIn l k = some k' → gotoIn l (.inScope c :: k) = some k' := fun l hl k' hk => by simp [gotoIn, hout l hl, hk]
 have key : ∀ n l a w, J l n a w → ∃ rest, findLabel c l = some rest ∧ ∃ e a' w', Q e a' w' ∧ Arrives P (lone (b.at a (.code rest :: .inScope c :: k)) cs w) b k cs e a' w' := by
  intro n
  induction n using Nat.strongRecOn with
  | _ n ih =>
    intro l a w hJ
    obtain ⟨rest, hf, hp⟩ := pass l n a w hJ
    refine ⟨rest, hf, ?_⟩
    obtain ⟨e, a₁, w₁, hq, harr⟩ := hp b (.inScope c :: k) cs
    cases e with
    | normal => exact ⟨.normal, a₁, w₁, hq, Steps.trans harr (.one step_inScope)⟩
    | exit id => exact ⟨.exit id, a₁, w₁, hq, fun k' hk => harr k' (by simp [exitTo, hk])⟩
    | goto l' =>
     rcases hq with ⟨hl, hq⟩ | ⟨m, hlt, hJ'⟩
     · exact ⟨.goto l', a₁, w₁, hq, fun k' hk => harr k' (out l' hl k' hk)⟩
     · obtain ⟨rest', hf', e₂, a₂, w₂, hq₂, harr₂⟩ := ih m hlt l' a₁ w₁ hJ'
       have hg : gotoIn l' (.inScope c :: k) = some (.code rest' :: .inScope c :: k) := by simp [gotoIn, hf']
       exact ⟨e₂, a₂, w₂, hq₂, .of_steps (harr _ hg) harr₂⟩
    | ret => exact ⟨_, a₁, w₁, hq, harr⟩
    | panic ch => exact ⟨_, a₁, w₁, hq, harr⟩
    | outgrown => exact ⟨_, a₁, w₁, hq, harr⟩
 obtain ⟨e, a₁, w₁, hq, harr⟩ := first b (.inScope c :: k) cs
 cases e with
 | normal => exact ⟨.normal, a₁, w₁, hq, .head step_scope (Steps.trans harr (.one step_inScope))⟩
 | exit id => exact ⟨.exit id, a₁, w₁, hq, fun k' hk => .head step_scope (harr k' (by simp [exitTo, hk]))⟩
 | goto l' =>
  rcases hq with ⟨hl, hq⟩ | ⟨m, hJ'⟩
  · exact ⟨.goto l', a₁, w₁, hq, fun k' hk => .head step_scope (harr k' (out l' hl k' hk))⟩
  · obtain ⟨rest', hf', e₂, a₂, w₂, hq₂, harr₂⟩ := key m l' a₁ w₁ hJ'
    have hg : gotoIn l' (.inScope c :: k) = some (.code rest' :: .inScope c :: k) := by simp [gotoIn, hf']
    exact ⟨e₂, a₂, w₂, hq₂, .of_steps (.head step_scope (harr _ hg)) harr₂⟩
 | ret => exact ⟨_, a₁, w₁, hq, .of_steps (.one step_scope) harr⟩
 | panic ch => exact ⟨_, a₁, w₁, hq, .of_steps (.one step_scope) harr⟩
 | outgrown => exact ⟨_, a₁, w₁, hq, .of_steps (.one step_scope) harr⟩
end Go.Proofs.YtmahamdmapbilaaGreatDoor
namespace Go.Proofs.YtmahamdmapbilaaGreatDoor
open Go.RowKit Go.Shelf
attribute [local go_sem] Oper.semAt_some
theorem count_any (s : ByteArray) (hs : s.size ≤ maxLen) (w : World) :
  Calls Tryz.prog 31 #[.string s] w fun e w' => e = .returned (.int .i64 (starts s).length) ∧ Below w.heap.size w w' := by
 have hlen := starts_length s
 unfold maxLen at hs
 go_enter Tryz.func31, Tryz.ntmps31
 go_wp2
 go_loopw [3] (fun c wr => ∃ (pos fuel : Nat) (pre : List Nat), starts s = pre ++ startsFrom s fuel pos ∧ s.size ≤ pos + fuel ∧ c = .int .i64 pre.length ∧ wr.heap[w.heap.size]? = some (.stringIter s pos) ∧ Below w.heap.size w wr) (fun _ wr => s.size - wr.iterPos w.heap.size)
 case atStart =>
  exact ⟨0, s.size, [], rfl, by omega, rfl, World.iter_heap w s 0, (Below.refl _ w).alloc (Nat.le_refl _) _⟩
 case round =>
  obtain ⟨pos, fuel, pre, hst, hfu, rfl, hit, hb⟩ := hrel
  by_cases hp : pos < s.size
  · have hnx : ∀ ty, (Instr.next (.pointer (some ⟨w.heap.size, 0, none⟩)) true ty).run Tryz.prog wr = .ok (.tuple #[.bool true, .int .i64 pos, .int .i32 (rn s pos)]) (wr.iterAt w.heap.size s (pos + wdt s pos)) := fun ty => Lib.run_next_any_at wr w.heap.size s pos ty hit hp
    have hit2 := Lib.iterAt_heap wr w.heap.size s pos (pos + wdt s pos) hit
    have hb2 := Lib.below_iterAt hb (k := w.heap.size) (Nat.le_refl _) s (pos + wdt s pos)
    obtain ⟨f, rfl⟩ : ∃ f, fuel = f + 1 := ⟨fuel - 1, by omega⟩
    rw [startsFrom_step s f pos hp] at hst
    have hll : pre.length + 1 ≤ s.size := by rw [hst] at hlen; simp at hlen; omega
    have HS : Hid (starts s = pre ++ pos :: startsFrom s f (pos + wdt s pos)) := hst
    clear hst
    go_wp2
    go_roundw
    case rel =>
     have := wdt_pos s pos
     exact ⟨pos + wdt s pos, f, pre ++ [pos], by rw [HS.out]; simp, by omega, by simp, hit2, hb2⟩
    case measure =>
     have := wdt_pos s pos
     simp only [World.iterPos, hit2, hit]
     omega
  · have hnx : ∀ ty, (Instr.next (.pointer (some ⟨w.heap.size, 0, none⟩)) true ty).run Tryz.prog wr = .ok (.tuple #[.bool false]) wr := fun ty => Lib.run_next_end_at wr w.heap.size s pos ty hit hp
    rw [startsFrom_end s fuel pos hp, List.append_nil] at hst
    subst hst
    go_wp2
    go_ret
    exact ⟨rfl, hb⟩
end Go.Proofs.YtmahamdmapbilaaGreatDoor
