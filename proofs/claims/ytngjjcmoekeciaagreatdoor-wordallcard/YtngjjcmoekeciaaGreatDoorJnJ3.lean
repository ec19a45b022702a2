/- The document's Count and place: what they answer, at every text of at most 2^20 bytes. -/
import Derived.Test.YtngjjcmoekeciaaGreatDoorJnJ2
import Derived.Test.YtngjjcmoekeciaaGreatDoorCln
import Derived.Maps.AppendAt
import Derived.Deep.RegionWith
import Derived.Laws.IdiomCopy
import Derived.Test.YtngjjcmoekeciaaGreatDoorJnJ1
namespace Go.Proofs.YtngjjcmoekeciaaGreatDoor
open Go.RowKit Go.Shelf

theorem below_drewN {n : Nat} {w a : World} (h : Below n w a) (k : Nat) : Below n w (a.drewN k) := h.trans ⟨rfl, rfl, rfl, Nat.le_refl _, fun _ _ => rfl⟩

set_option maxHeartbeats 1000000 in
theorem refCount_any (s : ByteArray) (hs : s.size ≤ 1048576) (w : World) :
    Calls Tryz.prog 19 #[.string s] w fun e w' => e = .returned (.int .i64 (starts s).length) ∧ Below w.heap.size w w' := by
  have hlen := starts_length s
  go_enter Tryz.func19, Tryz.ntmps19
  go_wp2
  go_loopw [3, 4] (fun c i wr => ∃ (pos fuel : Nat) (pre : List Nat), starts s = pre ++ startsFrom s fuel pos ∧ s.size ≤ pos + fuel ∧ c = .int .i64 pre.length ∧ i = .int .i64 pos ∧ Below w.heap.size w wr) (fun _ i _ => s.size - vnatD i)
  case atStart => exact ⟨0, s.size, [], rfl, by omega, rfl, rfl, Below.refl _ w⟩
  case round =>
    obtain ⟨pos, fuel, pre, hst, hfu, rfl, rfl, hb⟩ := hrel
    by_cases hp : pos < s.size
    · obtain ⟨f, rfl⟩ : ∃ f, fuel = f + 1 := ⟨fuel - 1, by omega⟩
      rw [startsFrom_step s f pos hp] at hst
      have hll : pre.length + 1 ≤ s.size := by rw [hst] at hlen; simp at hlen; omega
      have hw1 := wd_le s pos hp
      have hw0 := wd_pos s pos
      have hpi : (pos : Int) < (s.size : Int) := by omega
      have HS : Hid (starts s = pre ++ pos :: startsFrom s f (pos + wd s pos)) := hst
      clear hst
      go_wp2_with fail
      refine (at_any s (by omega) pos hp _).mono ?_
      rintro e w1 ⟨rfl, nq, rfl⟩
      have hb1 := below_drewN hb nq
      go_wp2
      go_roundw
      case rel => exact ⟨pos + wd s pos, f, pre ++ [pos], by rw [HS.out]; simp, by omega, by simp, by push_cast; rfl, hb1⟩
      case measure =>
        simp [vnatD]
        omega
    · rw [startsFrom_end s fuel pos hp, List.append_nil] at hst
      subst hst
      go_wp2
      go_ret
      exact ⟨rfl, hb⟩

/-- The line of the byte k, and where that line begins. -/
def plc (s : ByteArray) : Nat → Nat × Nat
  | 0 => (1, 0)
  | k + 1 => if byt s k = 10 then ((plc s k).1 + 1, k + 1) else plc s k
theorem plc_le (s : ByteArray) : ∀ k, (plc s k).1 ≤ k + 1 ∧ (plc s k).2 ≤ k
  | 0 => ⟨Nat.le_refl _, Nat.le_refl _⟩
  | k + 1 => by
    have ih := plc_le s k
    rw [plc]
    split
    · exact ⟨by dsimp only; omega, Nat.le_refl _⟩
    · omega
set_option maxHeartbeats 4000000 in
set_option maxRecDepth 100000 in
theorem place_any (s : ByteArray) (hs : s.size ≤ 65536) (p : Nat) (hp : p ≤ s.size) (w : World) : Calls Tryz.prog 21 #[.string s, .int .i64 (p : Int)] w fun e w' => e = .returned (.tuple #[.int .i64 (plc s p).1, .int .i64 (((starts (s.extract (plc s p).2 p)).length : Int) + 1)]) ∧ Below w.heap.size w w' := by
  have hct := refCount_any (s.extract (plc s p).2 p) (by simp; omega)
  have hln := starts_length (s.extract (plc s p).2 p)
  have hex : (s.extract (plc s p).2 p).size ≤ 65536 := by simp; omega
  generalize (starts (s.extract (plc s p).2 p)).length = C at *
  go_enter Tryz.func21, Tryz.ntmps21
  go_wp2
  go_loopw [6, 7, 8] (fun c f i wr => ∃ k : Nat, i = .int .i64 (k : Int) ∧ k ≤ p ∧ c = .int .i64 ((plc s k).1 : Int) ∧ f = .int .i64 ((plc s k).2 : Int) ∧ wr = w) (fun _ _ i _ => p - vnatD i)
  case atStart => exact ⟨0, rfl, Nat.zero_le _, rfl, rfl, rfl⟩
  case round =>
    obtain ⟨k, rfl, hk, rfl, rfl, rfl⟩ := hrel
    have hpl := plc_le s k
    by_cases hkl : k < p
    · have hlt : k < s.size := by omega
      have hki : (k : Int) < (p : Int) := by omega
      have hks : (k : Int) < (s.size : Int) := by omega
      have hby := byt_get hlt
      have hst : plc s (k + 1) = if byt s k = 10 then ((plc s k).1 + 1, k + 1) else plc s k := rfl
      by_cases hn : byt s k = 10
      · rw [if_pos hn] at hst
        have hn' : (s[k]'hlt).toNat = 10 := by omega
        have H1 : Hid ((plc s (k + 1)).1 = (plc s k).1 + 1) := by show (plc s (k + 1)).1 = _; rw [hst]
        have H2 : Hid ((plc s (k + 1)).2 = k + 1) := by show (plc s (k + 1)).2 = _; rw [hst]
        clear hst hby hn
        go_wp2
        go_roundw
        case rel => exact ⟨k + 1, by push_cast; rfl, by omega, by rw [H1.out]; push_cast; rfl, by rw [H2.out]; push_cast; rfl, trivial⟩
        case measure => simp [vnatD]; omega
      · rw [if_neg hn] at hst
        have hn' : (((s[k]'hlt).toNat : Int) == 10) = false := beq_eq_false_iff_ne.2 (by omega)
        have H1 : Hid (plc s (k + 1) = plc s k) := hst
        clear hst hby hn
        go_wp2
        go_roundw
        case rel => exact ⟨k + 1, by push_cast; rfl, by omega, by rw [H1.out], by rw [H1.out], trivial⟩
        case measure => simp [vnatD]; omega
    · obtain rfl : k = p := by omega
      have q1 : (0 : Int) ≤ ((plc s k).2 : Int) := by omega
      have q2 : ((plc s k).2 : Int) ≤ (k : Int) := by omega
      have q3 : (k : Int) ≤ (s.size : Int) := by omega
      generalize hE : s.extract (plc s k).2 k = E at *
      go_wp2_with (go_at_call 19; (with_reducible refine (hct _).mono ?_); rintro e u1 ⟨rfl, hb1⟩)
      go_ret2
      exact ⟨rfl, hb1⟩
end Go.Proofs.YtngjjcmoekeciaaGreatDoor
namespace Go.Proofs.YtngjjcmoekeciaaGreatDoor
open Go.RowKit Go.Shelf

theorem ownsRow_base {w : World} {base base' : Nat} {e : TypeId} {size : Nat} {v : Value} {n : Nat} {xs : List Value} (h : w.ownsRow base e size v n xs) (hle : base' ≤ base) : w.ownsRow base' e size v n xs := by
  obtain ⟨h1, h2⟩ := h
  refine ⟨h1, ?_⟩
  rcases h2 with h2 | ⟨g, cap, cur, h3, h4, h5⟩
  · exact .inl h2
  · exact .inr ⟨g, cap, cur, h3, Nat.le_trans hle h4, h5⟩
theorem ownsRow_block {w : World} {base : Nat} {e : TypeId} {size : Nat} {v : Value} {n : Nat} {xs : List Value} (h : w.ownsRow base e size v n xs) : ∀ g, v.ownBlock = some g → base ≤ g ∧ ∃ cur, w.heap[g]? = some (.cells cur e (0, 0)) := by
  intro g hg
  rcases h.2 with ⟨rfl, _⟩ | ⟨g', cap, cur, rfl, h4, h5, _⟩
  · cases hg
  · cases hg
    exact ⟨h4, cur, h5⟩
theorem ownsRow_form {w : World} {base : Nat} {e : TypeId} {size : Nat} {v : Value} {n : Nat} {xs : List Value} (h : w.ownsRow base e size v n xs) : ∃ ad cap, v = .slice ad n cap ∧ (0 < n → ∃ g, ad = some ⟨g, 0, none⟩ ∧ base ≤ g ∧ g < w.heap.size ∧ n ≤ cap ∧ ∀ j u, xs[j]? = some u → w.cell? ⟨g, j, none⟩ = some u) := by
  obtain ⟨h1, h2⟩ := h
  rcases h2 with ⟨rfl, rfl⟩ | ⟨g, cap, cur, rfl, h4, h5, h6, h7, h8, h9⟩
  · exact ⟨none, 0, rfl, fun h => absurd h (by omega)⟩
  · refine ⟨some ⟨g, 0, none⟩, cap, rfl, fun _ => ⟨g, rfl, h4, (Array.getElem?_eq_some_iff.1 h5).1, h6, fun j u hj => ?_⟩⟩
    rw [cell_of h5 j, ← hj, ← h9, List.getElem?_take]
    have hjl : j < n * size := by have := (List.getElem?_eq_some_iff.1 hj).1; omega
    rw [if_pos hjl, Array.getElem?_toList]

theorem rowBox_kept {W w1 : World} {n0 B : Nat} {t e : TypeId} {size k : Nat} {v : Value} {xs : List Value} {tmp : Obj} (hv : Boxed W B t v) (hrow : W.ownsRow n0 e size v k xs) (hB : B < n0) (hgrow : (W.alloc tmp).grownBy w1 v.ownBlock) : Boxed w1 B t v :=
  (hv.alloc tmp).kept hgrow (fun e' => by have := (ownsRow_block hrow B e'.symm).1; omega)
theorem four_new (W : World) (a b c d : Value) (t : TypeId) : ∀ j u, [a, b, c, d][j]? = some u → (W.alloc (.cells #[a, b, c, d] t)).cell? ((⟨W.heap.size, 0, none⟩ : Addr).add j) = some u := by
  intro j u h
  have hg : (W.alloc (.cells #[a, b, c, d] t)).heap[W.heap.size]? = some (.cells #[a, b, c, d] t) := get_new rfl
  have ha : (⟨W.heap.size, 0, none⟩ : Addr).add j = ⟨W.heap.size, j, none⟩ := by unfold Addr.add; split <;> simp_all
  rw [ha, cell_of hg j, ← h]
  simp
theorem row_below {W W' : World} {B : Nat} {e : TypeId} {z : Nat} {v : Value} {n : Nat} {xs : List Value} (h : W.ownsRow B e z v n xs) (hb : Below W.heap.size W W') : W'.ownsRow B e z v n xs := by
  obtain ⟨h3, h4⟩ := h
  refine ⟨h3, ?_⟩
  rcases h4 with h4 | ⟨g, cap, cur, q1, q2, q3, q4⟩
  · exact Or.inl h4
  · exact Or.inr ⟨g, cap, cur, q1, q2, (hb.block g (Array.getElem?_eq_some_iff.1 q3).1).trans q3, q4⟩
/-- All blocks but b and r lie as they lay. -/
structure Tch (b : Nat) (r : Option Nat) (w w' : World) : Prop where
  os : w'.os = w.os
  tape : w'.tape = w.tape
  output : w'.output = w.output
  size : w.heap.size ≤ w'.heap.size
  block : ∀ k, k < w.heap.size → k ≠ b → some k ≠ r → w'.heap[k]? = w.heap[k]?

/-- The cells of a word. -/
def tokC (kind : Int) (text : ByteArray) (line col : Int) : List Value := [.int .i64 kind, .string text, .int .i64 line, .int .i64 col]
theorem infoTok : (Tryz.prog.info? 50).map (fun i => (i.zero, i.size, i.bytes)) = some (some (.agg #[.int .i64 0, .string ⟨#[]⟩, .int .i64 0, .int .i64 0]), 4, 40) := by kernel_rfl

theorem below_undrew {n : Nat} {Y W : World} (h : Below n Y.drew W) : Below n Y W := ⟨h.os, h.tape, h.output, h.size, h.block⟩
theorem tok_facts {X W1 : World} {a g : Nat} {line : Int} {kind col l0 : Int} {text : ByteArray} (hag : a ≠ g) (haX : Boxed X a 3 (.int .i64 line))
    (hX : X.heap[g]? = some (.cells #[.int .i64 kind, .string text, .int .i64 l0, .int .i64 col] 50)) (b1 : Below X.heap.size X W1) :
    W1.cell? ⟨a, 0, none⟩ = some (.int .i64 line) ∧ W1.cell? ⟨g, 0, none⟩ = some (.int .i64 kind) ∧ W1.cell? ⟨g, 1, none⟩ = some (.string text) ∧ W1.frozen? ⟨g, 1, none⟩ = false ∧
    (W1.setCell ⟨g, 1, none⟩ (.string text)).cell? ⟨g, 2, none⟩ = some (.int .i64 l0) ∧ (W1.setCell ⟨g, 1, none⟩ (.string text)).frozen? ⟨g, 2, none⟩ = false ∧
    (W1.setCell ⟨g, 1, none⟩ (.string text)).cell? ⟨a, 0, none⟩ = some (.int .i64 line) ∧ W1.cell? ⟨g, 3, none⟩ = some (.int .i64 col) := by
  have hblk : W1.heap[g]? = some (.cells #[.int .i64 kind, .string text, .int .i64 l0, .int .i64 col] 50) := (b1.block g (Array.getElem?_eq_some_iff.1 hX).1).trans hX
  have ha1 : Boxed W1 a 3 (.int .i64 line) := (b1.block a haX.lt).trans haX
  refine ⟨ha1.cell, cell_of hblk 0, cell_of hblk 1, by simp [World.frozen?, hblk], ?_, ?_, ?_, cell_of hblk 3⟩
  · rw [World.cell?_setCell_other _ _ _ _ (by simp)]
    exact cell_of hblk 2
  · have : (W1.setCell ⟨g, 1, none⟩ (.string text)).frozen? ⟨g, 2, none⟩ = W1.frozen? ⟨g, 2, none⟩ := World.frozen?_setCells g [.string text] 1 W1 ⟨g, 2, none⟩
    rw [this]
    simp [World.frozen?, hblk]
  · rw [World.cell?_setCell_other _ _ _ _ (fun h => hag (by have := congrArg Addr.block h; exact this.symm))]
    exact ha1.cell

set_option maxHeartbeats 2000000 in
set_option maxRecDepth 100000 in
theorem take_any (B a b : Nat) (kind col line l0 : Int) (text : ByteArray) (ht : text.size ≤ 65536) (v : Value) (n : Nat) (xs : List Value) (w : World)
    (ha : Boxed w a 3 (.int .i64 line)) (hb : Boxed w b 39 v) (hrow : w.ownsRow B 50 4 v n xs) (hn : n ≤ 1048576) (hBw : B ≤ w.heap.size) (hbB : b < B) :
    Calls Tryz.prog 16 #[.agg #[.int .i64 kind, .string text, .int .i64 l0, .int .i64 col], .pointer (some ⟨a, 0, none⟩), .pointer (some ⟨b, 0, none⟩)] w fun e w' => e = .returned (.bool true) ∧ ∃ v', Boxed w' b 39 v' ∧ w'.ownsRow B 50 4 v' (n + 1) (xs ++ tokC kind text line col) ∧ Tch b v.ownBlock w w' := by
  obtain ⟨ic, hic, hz0, hz1, hz2⟩ := info_parts infoTok
  have hca := ha.cell
  have hcb := hb.cell
  have halt := ha.lt
  have hblt := hb.lt
  go_enter Tryz.func16, Tryz.ntmps16
  go_wp2_with fail
  go_region_with (go_at_call 17; refine (clone_any text _ (by omega)).mono ?_; rintro e W1 ⟨rfl, b1⟩; have b2 : Below (w.alloc (.cells #[.int .i64 kind, .string text, .int .i64 l0, .int .i64 col] 50)).heap.size (w.alloc (.cells #[.int .i64 kind, .string text, .int .i64 l0, .int .i64 col] 50)) W1 := (by first | exact b1 | exact below_undrew b1 | exact below_undrew (below_undrew b1) | exact below_undrew (below_undrew (below_undrew b1)) | exact below_undrew (below_undrew (below_undrew (below_undrew b1)))); obtain ⟨hca1, hs0, hs1, hf1, hs2, hf2, hca2, hs3⟩ := tok_facts (g := w.heap.size) (Nat.ne_of_lt ha.lt) (ha.alloc _) (get_new rfl) b2)
  all_goals
    have hB3 : Below w.heap.size w ((W1.setCell ⟨w.heap.size, 1, none⟩ (.string text)).setCell ⟨w.heap.size, 2, none⟩ (.int .i64 line)) := ((((Below.refl _ w).alloc (Nat.le_refl _) _).trans (b2.mono (by simp))).setCell (Nat.le_refl _) _).setCell (Nat.le_refl _) _
    have y0 : ((W1.setCell ⟨w.heap.size, 1, none⟩ (.string text)).setCell ⟨w.heap.size, 2, none⟩ (.int .i64 line)).cell? ⟨w.heap.size, 0, none⟩ = some (.int .i64 kind) := by
      rw [World.cell?_setCell_other _ _ _ _ (by simp), World.cell?_setCell_other _ _ _ _ (by simp)]; exact hs0
    have y1 : ((W1.setCell ⟨w.heap.size, 1, none⟩ (.string text)).setCell ⟨w.heap.size, 2, none⟩ (.int .i64 line)).cell? ⟨w.heap.size, 1, none⟩ = some (.string text) := by
      rw [World.cell?_setCell_other _ _ _ _ (by simp)]; exact World.cell?_setCell_same _ _ _ hs1
    have y2 : ((W1.setCell ⟨w.heap.size, 1, none⟩ (.string text)).setCell ⟨w.heap.size, 2, none⟩ (.int .i64 line)).cell? ⟨w.heap.size, 2, none⟩ = some (.int .i64 line) := World.cell?_setCell_same _ _ _ hs2
    have y3 : ((W1.setCell ⟨w.heap.size, 1, none⟩ (.string text)).setCell ⟨w.heap.size, 2, none⟩ (.int .i64 line)).cell? ⟨w.heap.size, 3, none⟩ = some (.int .i64 col) := by
      rw [World.cell?_setCell_other _ _ _ _ (by simp), World.cell?_setCell_other _ _ _ _ (by simp)]; exact hs3
    clear hca1 hs0 hs1 hf1 hs2 hf2 hca2 hs3 b1 b2
    generalize ((W1.setCell ⟨w.heap.size, 1, none⟩ (.string text)).setCell ⟨w.heap.size, 2, none⟩ (.int .i64 line)) = W3 at *
    have hv3 : Boxed W3 b 39 v := (hB3.block b hblt).trans hb
    have hr3 := row_below hrow hB3
    have hc3 := hv3.cell
    have hz3 := hB3.size
    clear hca hcb
    go_wp2_with (at_builtin; refine wpList_append_own _ rfl _ _ 39 rfl B 50 ic _ 4 40 Tryz.underlying39 hic hz0 hz1 hz2 rfl (by decide) _ _ _ rfl (hr3.alloc _) ⟨W3.heap.size, 0, none⟩ 1 1 [.int .i64 kind, .string text, .int .i64 line, .int .i64 col] rfl rfl (four_new _ _ _ _ _ _) (by simp [Value.oneCell']) (by unfold maxLen; omega) (by omega) (by simp; omega) ?_; intro v' w4 hown' hgrow _; obtain ⟨g', cap', rfl⟩ := ownsRow_succ hown'; have hv4 := rowBox_kept hv3 hr3 hbB hgrow; have hc4 := hv4.cell; have hf4 := hv4.frozen)
    go_ret
    refine ⟨rfl, _, hv4.set _, ownsRow_setCell_below hown' hbB _, hgrow.os.trans hB3.os, hgrow.tape.trans hB3.tape, hgrow.output.trans hB3.output, ?_, fun k hk hkb hkr => ?_⟩
    · have h1 := hgrow.size
      have h2 : ∀ x, (w4.setCell ⟨b, 0, none⟩ x).heap.size = w4.heap.size := fun x => by simp [World.setCell]
      rw [h2]
      simp at h1
      omega
    · have h2 : ∀ x, (w4.setCell ⟨b, 0, none⟩ x).heap[k]? = w4.heap[k]? := fun x => by simp [World.setCell, Array.getElem?_modify, Ne.symm hkb]
      rw [h2, hgrow.block k (by simp; omega) hkr]
      refine Eq.trans ?_ (hB3.block k hk)
      show (W3.heap.push _)[k]? = _
      rw [Array.getElem?_push_lt (by omega), Array.getElem?_eq_getElem (by omega)]
end Go.Proofs.YtngjjcmoekeciaaGreatDoor
namespace Go.Proofs.YtngjjcmoekeciaaGreatDoor
open Go.RowKit Go.Shelf

theorem one_new (W : World) (a : Value) (t : TypeId) : ∀ j u, [a][j]? = some u → (W.alloc (.cells #[a] t)).cell? ((⟨W.heap.size, 0, none⟩ : Addr).add j) = some u := by
  intro j u h
  have hg : (W.alloc (.cells #[a] t)).heap[W.heap.size]? = some (.cells #[a] t) := get_new rfl
  have ha : (⟨W.heap.size, 0, none⟩ : Addr).add j = ⟨W.heap.size, j, none⟩ := by unfold Addr.add; split <;> simp_all
  rw [ha, cell_of hg j, ← h]
  simp
theorem two_new (W : World) (a b : Value) (t : TypeId) : ∀ j u, [a, b][j]? = some u → (W.alloc (.cells #[a, b] t)).cell? ((⟨W.heap.size, 0, none⟩ : Addr).add j) = some u := by
  intro j u h
  have hg : (W.alloc (.cells #[a, b] t)).heap[W.heap.size]? = some (.cells #[a, b] t) := get_new rfl
  have ha : (⟨W.heap.size, 0, none⟩ : Addr).add j = ⟨W.heap.size, j, none⟩ := by unfold Addr.add; split <;> simp_all
  rw [ha, cell_of hg j, ← h]
  simp
/-- A block of one byte that was just made is a row. -/
theorem three_new (W : World) (a b c : Value) (t : TypeId) : ∀ j u, [a, b, c][j]? = some u → (W.alloc (.cells #[a, b, c] t)).cell? ((⟨W.heap.size, 0, none⟩ : Addr).add j) = some u := by
  intro j u h
  have hg : (W.alloc (.cells #[a, b, c] t)).heap[W.heap.size]? = some (.cells #[a, b, c] t) := get_new rfl
  have ha : (⟨W.heap.size, 0, none⟩ : Addr).add j = ⟨W.heap.size, j, none⟩ := by unfold Addr.add; split <;> simp_all
  rw [ha, cell_of hg j, ← h]
  simp

theorem one_row (W : World) (v : Int) (n : Nat) (h : v = n) (hn : n < 256) : (W.alloc (.cells #[.int .u8 v] 5)).ownsRow W.heap.size 5 1 (.slice (some ⟨W.heap.size, 0, none⟩) 1 1) 1 (Lib.byteCells [UInt8.ofNat n]) := by
  have e : Lib.byteCells [UInt8.ofNat n] = [.int .u8 v] := by
    show [Value.int .u8 ((UInt8.ofNat n).toNat : Int)] = _
    rw [ofNat8 n hn, h]
  rw [e]
  refine ⟨rfl, Or.inr ⟨W.heap.size, 1, #[.int .u8 v], rfl, Nat.le_refl _, get_new rfl, ?_, ?_, ?_, ?_⟩⟩
  all_goals first | rfl | (unfold maxLen; omega) | decide | skip
theorem ret_i64 {a b : Int} (h : a = b) : Ending.returned (.int .i64 a) = .returned (.int .i64 b) := by rw [h]
set_option maxHeartbeats 1000000 in
set_option maxRecDepth 100000 in
theorem refDigit_any (s : ByteArray) (k : Nat) (w : World) :
    Calls Tryz.prog 135 #[.string s, .int .i64 k] w fun e w' => e = .returned (.int .i64 (hexV (byt s k))) ∧ w' = w := by
  by_cases h : k < s.size
  · have hb := byt_get h
    have hi : (k : Int) < (s.size : Int) := by omega
    have hlt := (s[k]'h).toNat_lt
    have HB : Hid (byt s k = (s[k]'h).toNat) := hb
    have HV : Hid (∀ z : Int, (∀ b : Nat, b = (s[k]'h).toNat → hexV b = z) → hexV (byt s k) = z) := fun z hz => hz _ hb
    clear hb
    go_enter Tryz.func135, Tryz.ntmps135
    go_wp2
    all_goals
      go_ret
      refine ⟨ret_i64 ?_, rfl⟩
      rw [HB.out]
      unfold hexV
      (repeat' split) <;> omega
  · have HB : Hid (hexV (byt s k) = -1) := by show hexV (byt s k) = -1; rw [byt_out h]; rfl
    have hi : ¬ (k : Int) < (s.size : Int) := by omega
    go_enter Tryz.func135, Tryz.ntmps135
    go_wp2
    go_ret
    rw [HB.out]
    exact ⟨rfl, rfl⟩

theorem okR_code (r : Nat) (h : okR r = true) : code (r : Int) = r := by
  unfold okR at h
  have h := of_decide_eq_true h
  unfold code Utf8.valid
  rw [if_pos]
  · rfl
  · simp only [Bool.or_eq_true, Bool.and_eq_true, decide_eq_true_eq]
    omega
theorem infoB : (Tryz.prog.info? 5).map (fun i => (i.zero, i.size, i.bytes)) = some (some (.int .u8 0), 1, 1) := by kernel_rfl
theorem cell8 (v : Int) (n : Nat) (h : v = n) (hn : n < 256) : Value.int .u8 v = .int .u8 ((UInt8.ofNat n).toNat : Int) := by rw [ofNat8 n hn, h]

set_option maxHeartbeats 2000000 in
set_option maxRecDepth 100000 in
theorem refPut_any (r : Nat) (hr : okR r = true) (w : World) :
    Calls Tryz.prog 136 #[.slice none 0 0, .int .i64 r] w fun e w' => ∃ v, e = .returned v ∧ w'.ownsRow w.heap.size 5 1 v (Utf8.encode (r : Int)).data.toList.length (Lib.byteCells (Utf8.encode (r : Int)).data.toList) ∧ Below w.heap.size w w' := by
  have hle : r ≤ 1114111 := by unfold okR at hr; have := of_decide_eq_true hr; omega
  have HC := okR_code r hr
  obtain ⟨ic, hic, hz0, hz1, hz2⟩ := info_parts infoB
  have HE := enc_list (r : Int)
  rw [HC] at HE
  generalize (Utf8.encode (r : Int)).data.toList = L at HE ⊢
  by_cases c1 : r < 128
  · rw [if_pos c1] at HE
    have HL : Hid (L = _) := HE
    clear HE
    have c1i : (r : Int) < 128 := by omega
    go_enter Tryz.func136, Tryz.ntmps136
    go_wp2_with (at_builtin; refine wpList_append_own _ rfl _ _ 106 rfl w.heap.size 5 ic _ 1 1 Tryz.underlying106 hic hz0 hz1 hz2 rfl (by decide) _ _ _ rfl (World.ownsRow_nil _ _ _ _) ⟨w.heap.size, 0, none⟩ 1 1 [_] rfl rfl (one_new _ _ _) (by simp [Value.oneCell']) (by unfold maxLen; omega) (by omega) (by simp) ?_; intro v' w2 hown' hgrow _)
    go_ret
    refine ⟨_, rfl, ?_, ((Below.refl _ w).alloc (Nat.le_refl _) _).grown hgrow (by simp) (fun k hk => by cases hk)⟩
    have e : Lib.byteCells [UInt8.ofNat (r)] = [.int .u8 (((r : Nat) : Int))] := by
      unfold Lib.byteCells
      simp only [List.map_cons, List.map_nil]
      rw [ofNat8 (r) (by omega)]
    rw [HL.out, e]
    simp only [List.nil_append] at hown'
    exact hown'
  rw [if_neg c1] at HE
  have c1i : ¬ (r : Int) < 128 := by omega
  by_cases c2 : r < 2048
  · rw [if_pos c2] at HE
    have HL : Hid (L = _) := HE
    clear HE
    have c2i : (r : Int) < 2048 := by omega
    go_enter Tryz.func136, Tryz.ntmps136
    go_wp2_with (at_builtin; refine wpList_append_own _ rfl _ _ 106 rfl w.heap.size 5 ic _ 1 1 Tryz.underlying106 hic hz0 hz1 hz2 rfl (by decide) _ _ _ rfl (World.ownsRow_nil _ _ _ _) ⟨w.heap.size, 0, none⟩ 2 2 [_, _] rfl rfl (two_new _ _ _ _) (by simp [Value.oneCell']) (by unfold maxLen; omega) (by omega) (by simp) ?_; intro v' w2 hown' hgrow _)
    go_ret
    refine ⟨_, rfl, ?_, ((Below.refl _ w).alloc (Nat.le_refl _) _).grown hgrow (by simp) (fun k hk => by cases hk)⟩
    have e : Lib.byteCells [UInt8.ofNat (192 + r / 64), UInt8.ofNat (128 + r % 64)] = [.int .u8 (((192 + r / 64 : Nat) : Int)), .int .u8 (((128 + r % 64 : Nat) : Int))] := by
      unfold Lib.byteCells
      simp only [List.map_cons, List.map_nil]
      rw [ofNat8 (192 + r / 64) (by omega), ofNat8 (128 + r % 64) (by omega)]
    rw [HL.out, e]
    simp only [List.nil_append] at hown'
    exact hown'
  rw [if_neg c2] at HE
  have c2i : ¬ (r : Int) < 2048 := by omega
  by_cases c3 : r < 65536
  · rw [if_pos c3] at HE
    have HL : Hid (L = _) := HE
    clear HE
    have c3i : (r : Int) < 65536 := by omega
    go_enter Tryz.func136, Tryz.ntmps136
    go_wp2_with (at_builtin; refine wpList_append_own _ rfl _ _ 106 rfl w.heap.size 5 ic _ 1 1 Tryz.underlying106 hic hz0 hz1 hz2 rfl (by decide) _ _ _ rfl (World.ownsRow_nil _ _ _ _) ⟨w.heap.size, 0, none⟩ 3 3 [_, _, _] rfl rfl (three_new _ _ _ _ _) (by simp [Value.oneCell']) (by unfold maxLen; omega) (by omega) (by simp) ?_; intro v' w2 hown' hgrow _)
    go_ret
    refine ⟨_, rfl, ?_, ((Below.refl _ w).alloc (Nat.le_refl _) _).grown hgrow (by simp) (fun k hk => by cases hk)⟩
    have e : Lib.byteCells [UInt8.ofNat (224 + r / 4096), UInt8.ofNat (128 + r / 64 % 64), UInt8.ofNat (128 + r % 64)] = [.int .u8 (((224 + r / 4096 : Nat) : Int)), .int .u8 (((128 + r / 64 % 64 : Nat) : Int)), .int .u8 (((128 + r % 64 : Nat) : Int))] := by
      unfold Lib.byteCells
      simp only [List.map_cons, List.map_nil]
      rw [ofNat8 (224 + r / 4096) (by omega), ofNat8 (128 + r / 64 % 64) (by omega), ofNat8 (128 + r % 64) (by omega)]
    rw [HL.out, e]
    simp only [List.nil_append] at hown'
    exact hown'
  · rw [if_neg c3] at HE
    have HL : Hid (L = _) := HE
    clear HE
    have c3i : ¬ (r : Int) < 65536 := by omega
    go_enter Tryz.func136, Tryz.ntmps136
    go_wp2_with (at_builtin; refine wpList_append_own _ rfl _ _ 106 rfl w.heap.size 5 ic _ 1 1 Tryz.underlying106 hic hz0 hz1 hz2 rfl (by decide) _ _ _ rfl (World.ownsRow_nil _ _ _ _) ⟨w.heap.size, 0, none⟩ 4 4 [_, _, _, _] rfl rfl (four_new _ _ _ _ _ _) (by simp [Value.oneCell']) (by unfold maxLen; omega) (by omega) (by simp) ?_; intro v' w2 hown' hgrow _)
    go_ret
    refine ⟨_, rfl, ?_, ((Below.refl _ w).alloc (Nat.le_refl _) _).grown hgrow (by simp) (fun k hk => by cases hk)⟩
    have e : Lib.byteCells [UInt8.ofNat (240 + r / 262144), UInt8.ofNat (128 + r / 4096 % 64), UInt8.ofNat (128 + r / 64 % 64), UInt8.ofNat (128 + r % 64)] = [.int .u8 (((240 + r / 262144 : Nat) : Int)), .int .u8 (((128 + r / 4096 % 64 : Nat) : Int)), .int .u8 (((128 + r / 64 % 64 : Nat) : Int)), .int .u8 (((128 + r % 64 : Nat) : Int))] := by
      unfold Lib.byteCells
      simp only [List.map_cons, List.map_nil]
      rw [ofNat8 (240 + r / 262144) (by omega), ofNat8 (128 + r / 4096 % 64) (by omega), ofNat8 (128 + r / 64 % 64) (by omega), ofNat8 (128 + r % 64) (by omega)]
    rw [HL.out, e]
    simp only [List.nil_append] at hown'
    exact hown'
end Go.Proofs.YtngjjcmoekeciaaGreatDoor
