/- SetPlaces: Nth, Ids and All tell one row of every set, which rises; what is taken out is in no longer; under the row's own word that math/bits.deBruijn32tab is laid as its text says. -/
import Derived.Test.YtahlehgibcdfeaaDoorRows
import Derived.WalkKit
import Derived.ProofKit
import Derived.OpenShut
import Derived.Stop.Joined
import Derived.Lay
import Derived.SevenTiedAt
import Derived.SizedLaws
import Derived.LaidMore
import Derived.Test.YtahlehgibcdfeaaDoorTie
import Derived.Test.YtahlehgibcdfeaaDoorCards
import Derived.Test.YtahlehgibcdfeaaDoorIds
import Derived.Test.YtahlehgibcdfeaaDoorWth
import Derived.Test.YtahlehgibcdfeaaDoorTabl
import Derived.Test.YtahlehgibcdfeaaDoorMrk
namespace Go.Proofs.YtahlehgibcdfeaaDoor
open Go.ChangeShapes Go.WideShapes Go.ChangeAt Go.RowKit
set_option linter.unusedVariables false


theorem own : ownKnob Tryd.prog.godebug = none := by kernel_rfl
open Go.Lib (popAux)
attribute [local go_sem] Oper.semAt_some
theorem fn_nil (bx : Nat) (w : World) : (binOp .eql 29 (.func (.func 18) #[] #[.pointer (some ⟨bx, 0, none⟩)]) (.nilFunc)).run Tryd.prog w = .ok (.bool false) w := by kernel_rfl
theorem bi_len (cs : Array Bool) (t : TypeId) (a : Option Addr) (n c : Nat) (w : World) : (builtin .len #[25] t cs #[.slice a n c]).run Tryd.prog w = .ok (.value (.int .i64 (n : Int))) w := by
  have hu := Tryd.underlying25
  show ((do pure (.value (← Builtin.len_ #[25] t #[.slice a n c]))) : Sem Next).run Tryd.prog w = _
  go_simp
/-- What lies where. -/
structure JP (w : World) (N : Nat) (l : List Nat) (v : Value) (b5 : Nat) (W : World) : Prop where
  s : Holds4 W w.heap.size (wd N)
  r : W.heap[w.heap.size + 1]? = some (.cells #[.bool false] 4)
  i : W.heap[b5]? = some (.cells #[v] 25)
  l : RdL W v l
  below : Below w.heap.size w W
theorem JP.carry {w : World} {N : Nat} {l : List Nat} {v : Value} {b5 : Nat} {W W' : World} (h : JP w N l v b5 W) (hb : Below W.heap.size W W') : JP w N l v b5 W' :=
  ⟨h.s.carry hb, (hb.block _ (Array.getElem?_eq_some_iff.1 h.r).1).trans h.r, (hb.block _ (Array.getElem?_eq_some_iff.1 h.i).1).trans h.i, h.l.carry hb, bcarry h.below (Nat.le_refl _) hb⟩
theorem jp_own {w : World} {N : Nat} {l : List Nat} {v : Value} {b5 B : Nat} (hB : w.heap.size ≤ B) {β : Type} : OwnFrom B (fun (_ : β) W => JP w N l v b5 W) := by
  intro s X Y row h hg hr
  have hr' : ∀ r, row = some r → ∃ o : Obj, X.heap[r]? = some o ∧ o.isCells = false := fun r e => (hr r e).2
  exact ⟨(grownBy_keeps_cells hg hr' h.s rfl).trans h.s, (grownBy_keeps_cells hg hr' h.r rfl).trans h.r, (grownBy_keeps_cells hg hr' h.i rfl).trans h.i, rdl_own v l () X Y row h.l hg hr', ownFrom_below (β := Unit) (Nat.le_refl _) hB () X Y row h.below hg hr⟩
theorem JP.set {w : World} {N : Nat} {l : List Nat} {v : Value} {b5 : Nat} {W : World} {B : Nat} (h : JP w N l v b5 W) (u : Value) (h1 : B ≠ w.heap.size) (h2 : B ≠ w.heap.size + 1) (h3 : B ≠ b5) (h5 : ∀ g off n c, v = .slice (some ⟨g, off, none⟩) n c → B ≠ g) (h6 : w.heap.size ≤ B) : JP w N l v b5 (W.setCell ⟨B, 0, none⟩ u) := by
  refine ⟨(set_other h1.symm).trans h.s, (set_other h2.symm).trans h.r, (set_other h3.symm).trans h.i, ?_, h.below.setCell (p := ⟨B, 0, none⟩) h6 u⟩
  obtain ⟨ad, cap, rfl, hf⟩ := h.l
  refine ⟨ad, cap, rfl, fun j x hj => ?_⟩
  obtain ⟨g, off, rfl, q2, q3, q4⟩ := hf j x hj
  refine ⟨g, off, rfl, by simpa [World.setCell] using q2, q3, ?_⟩
  rw [World.cell?_of_block (w := W) (set_other (h5 g off _ _ rfl).symm)]
  exact q4
theorem run_load1 {W : World} {b : Nat} {ad : Option Addr} {n c : Nat} (h : W.heap[b]? = some (.cells #[.slice ad n c] 25)) : (Instr.loadAt 25 (.pointer (some ⟨b, 0, none⟩))).run Tryd.prog W = .ok (.slice ad n c) W := by
  have := cell_of h 0
  go_simp
theorem RdL.at {W : World} {gb off n cap : Nat} {l : List Nat} (h : RdL W (.slice (some ⟨gb, off, none⟩) n cap) l) {i x : Nat} (hx : l[i]? = some x) : W.cell? ⟨gb, off + i, none⟩ = some (.int .i64 ((x : Nat) : Int)) := by
  obtain ⟨ad, c, e, hf⟩ := h
  obtain ⟨g', o', e', _, _, c3⟩ := hf i x hx
  subst e'
  cases e
  exact c3
theorem run_loadi {W : World} {gb o : Nat} {x : Int} (h : W.cell? ⟨gb, o, none⟩ = some (.int .i64 x)) : (Instr.loadAt 3 (.pointer (some ⟨gb, o, none⟩))).run Tryd.prog W = .ok (.int .i64 x) W := by go_simp
theorem run_idx (gb off n cap i : Nat) (h : i < n) (W : World) : (Instr.indexAt 25 (.slice (some ⟨gb, off, none⟩) n cap) (.int .i64 (i : Int))).run Tryd.prog W = .ok (.pointer (some ⟨gb, off + i, none⟩)) W := by
  have h1 : (i : Int) < (n : Int) := by omega
  have h2 : 0 ≤ (i : Int) := by omega
  go_simp
theorem run_storeb {W : World} {b : Nat} {u : Bool} (h : W.heap[b]? = some (.cells #[.bool u] 4)) (v : Bool) : (Instr.storeAt 4 (.pointer (some ⟨b, 0, none⟩)) (.bool v)).run Tryd.prog W = .ok () (W.setCell ⟨b, 0, none⟩ (.bool v)) := by
  have := cell_of h 0
  have := frozen_of h 0
  go_simp
theorem run_not (b : Bool) (W : World) : (Op.unary .not (.bool b)).run Tryd.prog W = .ok (.bool (!b)) W := by cases b <;> rfl
theorem run_ext0 (a b : Value) (W : World) : (Instr.extract (.tuple #[a, b]) 0).run Tryd.prog W = .ok a W := rfl
theorem run_ext1 (a b : Value) (W : World) : (Instr.extract (.tuple #[a, b]) 1).run Tryd.prog W = .ok b W := rfl
theorem stepG_new {G : Type} {md : Region.Mode} {ops : Array Oper} {Q : Exit → Act → World → Prop} {X0 : Array Value} {val : G → Nat → Value} {J : G → (Nat → Bool) → World → Prop} {i : Nat} {o : Oper} (hi : ops[i]? = some o) (hg : o.guard = none) (ho : o.op = .alloc 24)
    (h : ∀ g d W, J g d W → d i = false → (∀ j oj, ops[j]? = some oj → d j = true → ∀ k, bindsOn md oj k = true → d k = true) → ∃ g', (∀ j, d j = true → val g' j = val g j) ∧ val g' i = .pointer (some ⟨W.heap.size, 0, none⟩) ∧ J g' (fun j => if j = i then true else d j) (W.alloc (.cells (cells4 (fun _ => 0)) 24))) : StepG Tryd.prog md ops Q X0 val J i o := by
  intro g d a W hJ hun _ hcl _
  obtain ⟨g', h1, h2, h3⟩ := h g d W hJ hun hcl
  refine step_alloc hi hg ho ⟨g', h1, ?_, h3⟩
  rw [h2]
/-- While a set is laid in a new box; X: what else lies. -/
structure JX (X : World → Prop) (T lo : Nat) (g : Nat) (x6 x7 : Bool) (W : World) : Prop where
  p : X W
  lt : lo ≤ W.heap.size
  t : x6 = true → lo ≤ g ∧ Holds4 W g (if x7 = true then wd T else fun _ => 0)
theorem JX.new {X : World → Prop} (hX : ∀ W W', X W → Below W.heap.size W W' → X W') {T lo g : Nat} {x6 x7 : Bool} {W : World} (h : JX X T lo g x6 x7 W) (h7 : x7 = false) : JX X T lo W.heap.size true x7 (W.alloc (.cells (cells4 (fun _ => 0)) 24)) := by
  subst h7
  exact ⟨hX _ _ h.p (alloc_below W _), by have := h.lt; simp; omega, fun _ => ⟨h.lt, get_new rfl⟩⟩
theorem JX.store {X : World → Prop} {T lo g : Nat} {x7 : Bool} {W : World} (hX : ∀ W, X W → lo ≤ g → X (set4 W g T)) (h : JX X T lo g true x7 W) : JX X T lo g true true (set4 W g T) :=
  ⟨hX _ h.p (h.t rfl).1, by have := h.lt; simp [set4, World.setCell]; omega, fun _ => ⟨(h.t rfl).1, fin4 (h.t rfl).2 T⟩⟩
theorem JX.carry {X : World → Prop} (hX : ∀ W W', X W → Below W.heap.size W W' → X W') {T lo g : Nat} {x6 x7 : Bool} {W W' : World} (h : JX X T lo g x6 x7 W) (hb : Below W.heap.size W W') : JX X T lo g x6 x7 W' :=
  ⟨hX _ _ h.p hb, Nat.le_trans h.lt hb.size, fun e => ⟨(h.t e).1, (h.t e).2.carry hb⟩⟩
/-- What lies behind the loop. -/
structure JD (w : World) (N : Nat) (l : List Nat) (v : Value) (b5 b6 b7 : Nat) (W : World) : Prop where
  p : JP w N l v b5 W
  n : W.heap[b6]? = some (.cells #[.int .i64 (l.length : Nat)] 3)
  m : Marks w.heap.size [b7] W
theorem JD.carry {w : World} {N : Nat} {l : List Nat} {v : Value} {b5 b6 b7 : Nat} {W W' : World} (h : JD w N l v b5 b6 b7 W) (hb : Below W.heap.size W W') : JD w N l v b5 b6 b7 W' :=
  ⟨h.p.carry hb, (hb.block _ (Array.getElem?_eq_some_iff.1 h.n).1).trans h.n, h.m.carry hb⟩
theorem JD.below {w : World} {N : Nat} {l : List Nat} {v : Value} {b5 b6 b7 : Nat} {W W' : World} {lo : Nat} (h : JD w N l v b5 b6 b7 W) (hb : Below lo W W') (h1 : w.heap.size + 1 < lo) (h2 : b5 < lo) (h3 : b6 < lo) (h4 : b7 < lo) (h5 : ∀ g off n c, v = .slice (some ⟨g, off, none⟩) n c → g < lo) : JD w N l v b5 b6 b7 W' := by
  refine ⟨⟨(hb.block _ (by omega)).trans h.p.s, (hb.block _ h1).trans h.p.r, (hb.block _ h2).trans h.p.i, ?_, h.p.below.trans (hb.mono (by omega))⟩, (hb.block _ h3).trans h.n, ⟨h.m.nd, h.m.lo, fun k hk => ?_⟩⟩
  · obtain ⟨ad, c, rfl, hf⟩ := h.p.l
    refine ⟨ad, c, rfl, fun j x hj => ?_⟩
    obtain ⟨g', o', rfl, q2, q3, q4⟩ := hf j x hj
    exact ⟨g', o', rfl, Nat.lt_of_lt_of_le q2 hb.size, q3, (hb.cell (p := ⟨g', o' + j, none⟩) (h5 g' o' _ _ rfl)).trans q4⟩
  · rw [List.mem_singleton.1 hk]
    exact (hb.block _ h4).trans (h.m.on _ (List.mem_singleton.2 rfl))
theorem below_set4 (W : World) (g T : Nat) : Below g W (set4 W g T) := below4 (Below.refl _ _) (Nat.le_refl _) T
theorem Lib_flip (a b k : Nat) (hk : k < 128) (h : ∀ i, i < 128 → i ≠ k → a.testBit i = b.testBit i) (h1 : a.testBit k = false) (h2 : b.testBit k = true) : cnt b = cnt a + 1 := popAux_flip 128 a b k hk h h1 h2
section
theorem out_bits (N x : Nat) (hx : (cln N).testBit x = true) : x < 100 ∧ wolN N (x : Int) = dif (cln N) (2 ^ x) ∧ hasB (dif (cln N) (2 ^ x)) (x : Int) = false ∧ cnt (cln (dif (cln N) (2 ^ x))) + 1 = cnt (cln N) ∧ withV (dif (cln N) (2 ^ x)) (x : Int) = .tuple #[sv (cln N), .int .i64 0] := by
  have h1 : x < 100 := by rw [testBit_cln] at hx; simp at hx; exact hx.1
  have hr : 0 ≤ (x : Int) ∧ (x : Int) < 100 := ⟨by omega, by omega⟩
  have tb : ∀ j, (dif (cln N) (2 ^ x)).testBit j = ((cln N).testBit j && !decide (x = j)) := fun j => by rw [testBit_dif, Nat.testBit_two_pow]
  refine ⟨h1, by rw [wolN, if_pos hr]; rfl, ?_, ?_, ?_⟩
  · simp [hasB, tb]
  · refine (Lib_flip (cln (dif (cln N) (2 ^ x))) (cln N) x (by omega) (fun i _ hne => ?_) ?_ hx).symm
    · rw [testBit_cln, tb]
      have e : ¬ x = i := fun c => hne c.symm
      rw [testBit_cln]
      cases decide (i < 100) <;> simp [e]
    · rw [testBit_cln, tb]; simp
  · rw [withV, if_pos hr]
    have e : cln (dif (cln N) (2 ^ x)) ||| 2 ^ x = cln N := by
      apply Nat.eq_of_testBit_eq; intro j
      rw [Nat.testBit_or, testBit_cln, tb, Nat.testBit_two_pow, testBit_cln]
      by_cases e : x = j
      · subst e; rw [testBit_cln] at hx; simpa using hx
      · cases decide (j < 100) <;> simp [e]
    show Value.tuple #[sv (cln (dif (cln N) (2 ^ x)) ||| 2 ^ x), .int .i64 0] = _
    rw [e]
end
/-- The list rises. -/
theorem idsTo_rises (M : Nat) : ∀ n (i : Nat) (x y : Nat), (idsTo M n)[i]? = some x → (idsTo M n)[i + 1]? = some y → x < y := by
  intro n i x y hx hy
  have hp : (idsTo M n).Pairwise (· < ·) := List.Pairwise.filter _ List.pairwise_lt_range
  obtain ⟨h1, e1⟩ := List.getElem?_eq_some_iff.1 hx
  obtain ⟨h2, e2⟩ := List.getElem?_eq_some_iff.1 hy
  rw [← e1, ← e2]
  exact List.pairwise_iff_getElem.1 hp i (i + 1) h1 h2 (by omega)
set_option maxHeartbeats 8000000 in
set_option maxRecDepth 100000 in
theorem places_in (N0 : Nat) (a1 : Int) (hk : -9223372036854775808 ≤ a1 ∧ a1 ≤ 9223372036854775807) (w : World) (hT : Tab w) :
    CallsIn Fence.wide 0 Tryd.prog 3 #[sv N0, .int .i64 a1] w fun e w' => e = .returned (.bool true) ∧ Below w.heap.size w w' := by
  have hT0 := hT.lt
  have hmx : Tryd.prog.follows .mixedOrders = true := by kernel_rfl
  have hal := alive_any
  have hid := ids_any N0
  have hall := all_any N0
  have hcn := count_any N0
  have hle := least_any N0
  have hnt := nth_any N0
  have hlc : (idsTo (cln N0) 128).length = cnt (cln N0) := idsTo_length _ _
  have hlen : cnt (cln N0) ≤ 128 := cnt_le _
  obtain ⟨M, hM⟩ : ∃ M, cln N0 = M := ⟨_, rfl⟩
  rw [hM] at hid hall hcn hnt hlc hlen hle
  obtain ⟨l, hl⟩ : ∃ l, idsTo M 128 = l := ⟨_, rfl⟩
  rw [hl] at hid hlc
  rw [← hlc] at hid hcn hlen
  have hfn := fn_nil
  have hN0 : Hid (cln N0 = M) := hM
  clear hM hlc
  simp only [sv] at hid hall hcn hnt hle ⊢
  refine callsIn_of_wp_marks Tryd.func3 rfl trivial ?_ rfl
  simp only [Tryd.ntmps3, List.size_toArray, List.length_cons, List.length_nil, Nat.reduceAdd, Nat.reduceSub, Array.replicate_succ, Array.replicate_zero, List.push_toArray, List.append_toArray, List.nil_append, List.cons_append]
  refine (wpIn_wide (n := 0)).2 ?_
  go_wp2_with (go_at_call 5; refine (hid _ (hT.keep (((Below.refl _ w).alloc (by simp) _).alloc (by simp) _) hT0)).mono ?_; rintro e w1 ⟨v, rfl, hown, hb1⟩; obtain ⟨ad, cap, rfl, hform⟩ := ownsRow_form hown; have rl1 := RdL.of hown)
  have q1 : Holds4 w1 w.heap.size (wd N0) := (hb1.block _ (by simp; omega)).trans (get_old (get_new (by simp)))
  have r1 : w1.heap[w.heap.size + 1]? = some (.cells #[.bool false] 4) := (hb1.block _ (by simp)).trans (get_new (by simp))
  have b1 : Below w.heap.size w w1 := bcarry (((Below.refl _ w).alloc (by simp) _).alloc (by simp) _) (Nat.le_refl _) hb1
  have ls1 : w.heap.size + 1 < w1.heap.size := (Array.getElem?_eq_some_iff.1 r1).1
  have hvb : ∀ g off n c, (.slice ad l.length cap : Value) = .slice (some ⟨g, off, none⟩) n c → g < w1.heap.size := by
    intro g off n c e
    rcases hown.2 with ⟨h, _⟩ | ⟨g', cap', cur, h, h4, h5, _⟩
    · rw [e] at h; cases h
    · rw [e] at h; cases h; exact (Array.getElem?_eq_some_iff.1 h5).1
  have j1 : JP w N0 l (.slice ad l.length cap) w1.heap.size (w1.alloc (.cells #[.slice ad l.length cap] 25)) := ⟨get_old q1, get_old r1, get_new rfl, rl1.carry (alloc_below w1 _), b1.alloc (by omega) _⟩
  clear q1 r1 b1 rl1 hown hb1 hid hform
  rename_i Q0 K0 hK
  refine wp_region_any hmx ?_
  refine wpAny_pure (fun i__ => ([(.slice ad l.length cap), (.int .i64 (l.length : Nat)), (sv N0), (.int .i64 (l.length : Nat)), (.bool false)] : List Value).getD i__ undef) (fun W => JP w N0 l (.slice ad l.length cap) w1.heap.size W) (by kernel_rfl) (j1.carry (Below.refl _ _).drew) ?_ ?_
  · refine (stepsFrom_cons ?_ (stepsFrom_cons ?_ (stepsFrom_cons ?_ (stepsFrom_cons ?_ (stepsFrom_cons ?_ trivial)))))
    · exact step_load rfl trivial _ _ _ rfl rfl (fun w hw => run_load1 hw.i)
    · exact step_bi rfl trivial _ _ _ [(.slice ad l.length cap)] rfl (by kernel_rfl) (fun cs w hw => bi_len cs _ _ _ _ w)
    · exact step_load rfl trivial _ _ _ rfl rfl (fun w hw => whole4 w _ N0 hw.s)
    · exact step_call rfl trivial 6 _ _ [(sv N0)] rfl (by kernel_rfl) (enters_of Tryd.func6 (by kernel_rfl) rfl) (fun w hw => (hcn w).mono (by rintro e w' ⟨rfl, hb⟩; exact ⟨rfl, hw.carry hb⟩))
    · exact step_binOp rfl trivial _ _ _ _ _ _ _ rfl rfl rfl (fun w hw => (bin_neq .i64 _ _).trans (by simp))
  intro W hW
  first | refine hK _ _ ?_ | refine (‹∀ (a : Act) (w : World), Code.wp Tryd.prog _ _ a w → _›) _ _ ?_
  simp only [finL, List.getD_cons_zero, List.getD_cons_succ, Nat.zero_add, Nat.reduceAdd, List.setIfInBounds_toArray, List.set_cons_zero, List.set_cons_succ]
  clear hK j1
  obtain ⟨Wn, hWn⟩ : ∃ Wn, Wn = W := ⟨_, rfl⟩
  subst hWn
  obtain ⟨y0, y1, y2, y3, _⟩ := hW.s.facts
  have lsW : w1.heap.size < Wn.heap.size := (Array.getElem?_eq_some_iff.1 hW.i).1
  have lsW0 : w.heap.size < Wn.heap.size := by omega
  have HW : Hid (JP w N0 l (.slice ad l.length cap) w1.heap.size Wn) := hW
  clear hW
  have hfn1 := hfn (Wn.heap.size + 1)
  clear hfn
  go_wp2_with (first | (go_at_call 7; refine (hall _).mono ?_; rintro e w3 ⟨rfl, hb3, hh3⟩; (try simp only [World.size_alloc] at hh3); (try simp only [World.size_alloc])) | (go_at_call 8; refine (hal _).mono ?_; rintro e w4 ⟨rfl, hb4⟩))
  have j4 : JP w N0 l (.slice ad l.length cap) w1.heap.size w4 := ((HW.out.carry (alloc_below Wn _)).carry hb3).carry hb4
  have n4 : w4.heap[Wn.heap.size]? = some (.cells #[.int .i64 0] 3) := (hb4.block _ (by have := hb3.size; simp at this; omega)).trans ((hb3.block _ (by simp)).trans (get_new rfl))
  have x4 : Holds4 w4 (Wn.heap.size + 1) (wd M) := hh3.carry hb4
  have z4 := x4.lt
  have z4' := n4
  clear y0 y1 y2 y3 hb3 hb4 hh3 HW hfn1 hall hcn
  refine (wpIn_wide (n := 0)).1 ?_
  refine wp_rangeE (kb := 0) (gf := 18) (lb := #[.pointer (some ⟨Wn.heap.size + 1, 0, none⟩)]) rfl (enters_of Tryd.func18 (by kernel_rfl) rfl)
    (all1_seq M (Wn.heap.size + 1) _ x4) (by omega) (fun _ => rfl)
    (fun pre Wz => JP w N0 l (.slice ad l.length cap) w1.heap.size Wz ∧ Wz.heap[Wn.heap.size]? = some (.cells #[.int .i64 (pre.length : Nat)] 3))
    (fun _ _ _ => False)
    ((jp_own (by omega)).and ((blk_own _ (fun pre : List Nat => .cells #[.int .i64 (pre.length : Nat)] 3) (fun _ => rfl)).from _))
    (fun _ _ _ _ _ hs _ _ => hs)
    ⟨j4, n4⟩ (fun _ Wz h => hT.keep h.1.below hT0)
    (fun x a' _ => a' = { tmps := #[sv N0, .int .i64 a1, .pointer (some ⟨w.heap.size, 0, none⟩), undef, .pointer (some ⟨w.heap.size + 1, 0, none⟩), .pointer (some ⟨w1.heap.size, 0, none⟩), .pointer (some ⟨Wn.heap.size, 0, none⟩), .func (.func 18) #[] #[.pointer (some ⟨Wn.heap.size + 1, 0, none⟩)], .int .i64 ((x : Nat) : Int), undef, undef, undef, undef, undef, undef, sv N0, .slice ad l.length cap, .slice ad l.length cap, .int .i64 (l.length : Nat), sv N0, .int .i64 (l.length : Nat), .bool false, sv N0, .func (.func 18) #[] #[.pointer (some ⟨Wn.heap.size + 1, 0, none⟩)], .func (.func 18) #[] #[.pointer (some ⟨Wn.heap.size + 1, 0, none⟩)], .bool false, .bool false, .bool true, .bool false, .bool false, .func (.func 18) #[] #[.pointer (some ⟨Wn.heap.size + 1, 0, none⟩)], .int .i64 ((x : Nat) : Int), undef, undef, undef, undef, undef, undef, undef, undef, undef, undef, undef, undef, undef, undef, undef, undef, undef, undef, undef, undef, undef, undef, undef, undef, undef, undef, undef, undef, undef, undef, undef, undef, undef, undef, undef, undef, undef, undef, undef, undef, undef, undef, undef, undef, undef, undef, undef, undef, undef, undef, undef, undef, undef, undef, undef, undef, undef, undef, undef, undef, undef, undef, undef, undef, undef, undef, undef, undef, undef, undef, undef, undef, undef, undef, undef, undef, undef, undef, undef, undef, undef, undef, undef, undef, undef, undef, undef, undef, undef, undef, undef, undef, undef, undef, undef, undef, undef, undef, undef, undef, undef, undef, undef, undef, undef, undef, undef, undef, undef, undef, undef, undef, undef, undef, undef, undef, undef, undef, undef, undef, undef, undef], defers := [] })
    (fun _ _ _ _ _ _ hs _ _ => hs) ?assign ?body ?done ?stop
  case assign =>
    rintro lp pre x Wz K hi hsz hK
    gi_wp2
    exact hK _ _ (Kept.refl _ _ _ _) hi rfl
  case stop =>
    rintro c pre Wz _ h _
    exact h.elim
  case body =>
    rintro lp pre x a' Wz ⟨hj, hn⟩ rfl hsz hpr
    have hO := nthO_hit hpr
    have hnV : nthV M (pre.length : Int) = .tuple #[.int .i64 (x : Nat), .int .i64 0] := by rw [nthV, hO]
    rw [hl] at hpr
    have hpl : (pre ++ [x]).length ≤ l.length := hpr.length_le
    simp only [List.length_append, List.length_cons, List.length_nil] at hpl
    have hnt1 := hnt (pre.length : Int) (by omega) Wz (hT.keep hj.below hT0)
    rw [hnV] at hnt1
    have hx : l[pre.length]? = some x := by obtain ⟨r, hr⟩ := hpr; rw [← hr]; simp
    obtain ⟨ad', cap', hv, hf⟩ := hj.l
    obtain ⟨g, off, had, g1, g2, g3⟩ := hf pre.length x hx
    simp only [Value.slice.injEq, true_and] at hv
    obtain ⟨rfl, rfl⟩ := hv
    subst had
    have hne := hvb g off l.length cap rfl
    have hprev : pre.length ≠ 0 → ∃ y : Nat, Wz.cell? ⟨g, off + (pre.length - 1), none⟩ = some (.int .i64 ((y : Nat) : Int)) ∧ y < x := by
      intro h0
      have hlt : pre.length - 1 < l.length := by omega
      obtain ⟨y, hy⟩ : ∃ y, l[pre.length - 1]? = some y := ⟨_, List.getElem?_eq_getElem hlt⟩
      obtain ⟨g', off', e, _, _, c3⟩ := hf (pre.length - 1) y hy
      cases e
      refine ⟨y, c3, ?_⟩
      have hx2 : l[pre.length - 1 + 1]? = some x := by rw [show pre.length - 1 + 1 = pre.length by omega]; exact hx
      rw [← hl] at hy hx2
      exact idsTo_rises M 128 _ _ _ hy hx2
    obtain ⟨y0, y1, y2, y3, _⟩ := hj.s.facts
    have cn : Wz.cell? ⟨Wn.heap.size, 0, none⟩ = some (.int .i64 (pre.length : Nat)) := cell_of hn 0
    have HJ : Hid (JP w N0 l (.slice (some ⟨g, off, none⟩) l.length cap) w1.heap.size Wz) := hj
    have HN : Hid (Wz.heap[Wn.heap.size]? = some (.cells #[.int .i64 (pre.length : Nat)] 3)) := hn
    clear hf hpr hx hj hn hO hnV hnt hvb j4 n4 x4 hle hal
    have lq : Wn.heap.size < Wz.heap.size := (Array.getElem?_eq_some_iff.1 HN.out).1
    have lq1 : w1.heap.size < Wz.heap.size := by omega
    have t1 : ¬ (pre.length : Int) ≥ (l.length : Int) := by omega
    have t2 : ¬ (l.length : Int) ≤ (pre.length : Int) := by omega
    have t3 : (pre.length : Int) < (l.length : Int) := by omega
    have hlo : w.heap.size + 1 < Wn.heap.size := by omega
    by_cases h0 : pre.length = 0
    · obtain rfl : pre = [] := List.length_eq_zero_iff.1 h0
      have hnt2 : Calls Tryd.prog 9 #[.agg #[.int .u32 (wd N0 0 : Nat), .int .u32 (wd N0 1 : Nat), .int .u32 (wd N0 2 : Nat), .int .u32 (wd N0 3 : Nat)], .int .i64 0] Wz fun e w' => e = .returned (.tuple #[.int .i64 (x : Nat), .int .i64 0]) ∧ Below Wz.heap.size Wz w' := hnt1
      have cn' : Wz.cell? ⟨Wn.heap.size, 0, none⟩ = some (.int .i64 0) := cn
      have HN' : Hid (Wz.heap[Wn.heap.size]? = some (.cells #[.int .i64 0] 3)) := HN
      have g3' : Wz.cell? ⟨g, off, none⟩ = some (.int .i64 ((x : Nat) : Int)) := g3
      have t3' : (0 : Int) < (l.length : Int) := t3
      have t2' : ¬ (l.length : Int) ≤ 0 := by omega
      have t1' : ¬ (0 : Int) ≥ (l.length : Int) := by omega
      have t0b : ¬ l.length = 0 := by omega
      have t0a : ¬ l = [] := by rintro rfl; exact t0b rfl
      have t0c : 0 < l.length := by omega
      clear hprev hnt1 cn HN g3 h0 t1 t2 t3 hpl
      gi_wp2
      with_reducible (refine And.intro (wfn _) (And.intro wdep ?_))
      gi_at_call 9
      refine (CallsIn.inRound lp (callsIn_wide.2 hnt2)).mono ?_
      rintro e w5 ⟨rfl, hb5⟩
      have n5 : Hid (w5.heap[Wn.heap.size]? = some (.cells #[.int .i64 0] 3)) := (hb5.block _ lq).trans HN'.out
      have cn5 : w5.cell? ⟨Wn.heap.size, 0, none⟩ = some (.int .i64 0) := cell_of n5.out 0
      have fn5 := frozen_of n5.out 0
      have j5 : Hid (JP w N0 l (.slice (some ⟨g, off, none⟩) l.length cap) w1.heap.size w5) := HJ.out.carry hb5
      have c5 : w5.cell? ⟨w1.heap.size, 0, none⟩ = some (.slice (some ⟨g, off, none⟩) l.length cap) := cell_of j5.out.i 0
      have cx5 : w5.cell? ⟨g, off, none⟩ = some (.int .i64 ((x : Nat) : Int)) := (hb5.cell (p := ⟨g, off, none⟩) g1).trans g3'
      gi_wp2
      exact ⟨(Kept.below hb5 (by omega) (by omega)).trans (Kept.setCell (by omega) (by omega)), j5.out.set _ (by omega) (by omega) (by omega) (fun g' o' n' c' e => by cases e; omega) (by omega), by have := set_get 0 (.int .i64 1) n5.out; simpa using this⟩
    · have t4 : (pre.length : Int) > 0 := by omega
      have t5 : 0 < (pre.length : Int) := by omega
      obtain ⟨y, cy, hyx⟩ := hprev h0
      have t6 : (pre.length : Int) - 1 < (l.length : Int) := by omega
      have t7 : 0 ≤ (pre.length : Int) - 1 := by omega
      have t8 : ((pre.length : Int) - 1).toNat = pre.length - 1 := by omega
      have t9 : ¬ (y : Int) ≥ (x : Int) := by omega
      have t10 : ¬ (x : Int) ≤ (y : Int) := by omega
      clear hprev
      gi_wp2
      with_reducible (refine And.intro (wfn _) (And.intro wdep ?_))
      gi_at_call 9
      refine (CallsIn.inRound lp (callsIn_wide.2 hnt1)).mono ?_
      rintro e w5 ⟨rfl, hb5⟩
      have n5 : Hid (w5.heap[Wn.heap.size]? = some (.cells #[.int .i64 (pre.length : Nat)] 3)) := (hb5.block _ lq).trans HN.out
      have cn5 : w5.cell? ⟨Wn.heap.size, 0, none⟩ = some (.int .i64 (pre.length : Nat)) := cell_of n5.out 0
      have fn5 := frozen_of n5.out 0
      have j5 : Hid (JP w N0 l (.slice (some ⟨g, off, none⟩) l.length cap) w1.heap.size w5) := HJ.out.carry hb5
      have c5 : w5.cell? ⟨w1.heap.size, 0, none⟩ = some (.slice (some ⟨g, off, none⟩) l.length cap) := cell_of j5.out.i 0
      have cx5 : w5.cell? ⟨g, off + pre.length, none⟩ = some (.int .i64 ((x : Nat) : Int)) := (hb5.cell (p := ⟨g, off + pre.length, none⟩) g1).trans g3
      have cy5 : w5.cell? ⟨g, off + (pre.length - 1), none⟩ = some (.int .i64 ((y : Nat) : Int)) := (hb5.cell (p := ⟨g, off + (pre.length - 1), none⟩) g1).trans cy
      gi_wp2
      exact ⟨(Kept.below hb5 (by omega) (by omega)).trans (Kept.setCell (by omega) (by omega)), j5.out.set _ (by omega) (by omega) (by omega) (fun g' o' n' c' e => by cases e; omega) (by omega), by have := set_get 0 (.int .i64 ((pre.length : Int) + 1)) n5.out; simpa using this⟩
  case done =>
    rintro Wz ⟨hj, hn⟩ hK
    rw [hl] at hn
    have mk : Marks w.heap.size [w4.heap.size] Wz := (Marks.nil _ _).cons (by omega) (fun q hq => by cases hq) hK
    have cn : Wz.cell? ⟨Wn.heap.size, 0, none⟩ = some (.int .i64 (l.length : Nat)) := cell_of hn 0
    have c5 : Wz.cell? ⟨w1.heap.size, 0, none⟩ = some (.slice ad l.length cap) := cell_of hj.i 0
    have lq : Wn.heap.size < Wz.heap.size := (Array.getElem?_eq_some_iff.1 hn).1
    have HJ : Hid (JP w N0 l (.slice ad l.length cap) w1.heap.size Wz) := hj
    clear hK hnt j4 n4 x4
    by_cases hl0 : l = []
    · subst hl0
      have hlz : leastZ M = -1 := by rw [leastZ, hl]; rfl
      rw [hlz] at hle
      have cn' : Wz.cell? ⟨Wn.heap.size, 0, none⟩ = some (.int .i64 0) := cn
      have c5' : Wz.cell? ⟨w1.heap.size, 0, none⟩ = some (.slice ad 0 cap) := c5
      clear cn c5 hj
      go_wp2_with (first | (go_at_call 8; refine (hal _).mono ?_; rintro e w6 ⟨rfl, hb6⟩; have j6 : Hid (JP w N0 [] (.slice ad 0 cap) w1.heap.size w6) := HJ.out.carry hb6; have n6 : w6.cell? ⟨Wn.heap.size, 0, none⟩ = some (.int .i64 0) := (hb6.cell (p := ⟨Wn.heap.size, 0, none⟩) lq).trans cn'; obtain ⟨y0, y1, y2, y3, _⟩ := j6.out.s.facts) | (go_at_call 10; refine (hle _ (hT.keep j6.out.below hT0)).mono ?_; rintro e w7 ⟨rfl, hb7⟩; have j7 : Hid (JP w N0 [] (.slice ad 0 cap) w1.heap.size w7) := j6.out.carry hb7; have c7 : w7.cell? ⟨w.heap.size + 1, 0, none⟩ = some (.bool false) := cell_of j7.out.r 0; have f7 := frozen_of j7.out.r 0))
      have r7 := j7.out.r
      have m7 : Marks w.heap.size [w4.heap.size] (w7.setCell ⟨w.heap.size + 1, 0, none⟩ (.bool true)) := ((mk.carry hb6).carry hb7).set r7 _
      have g8 : (w7.setCell ⟨w.heap.size + 1, 0, none⟩ (.bool true)).heap[w.heap.size + 1]? = some (.cells #[.bool true] 4) := set_get 0 (.bool true) r7
      have b8 : Below w.heap.size w (w7.setCell ⟨w.heap.size + 1, 0, none⟩ (.bool true)) := j7.out.below.setCell (p := ⟨w.heap.size + 1, 0, none⟩) (by simp) _
      refine leaves_marks [w4.heap.size] _ m7 ?_
      intro W' hbW hcW
      have c6 := cell_of (hcW _ _ g8 rfl) 0
      exact ⟨.bool true, by simp [results, Tryd.results3, go_sem, c6], rfl, b8.trans hbW⟩
    · have hpos : 0 < l.length := by
        cases l with
        | nil => exact absurd rfl hl0
        | cons a b => simp
      have t0b : ¬ l.length = 0 := by omega
      have t0c : ¬ (l.length : Int) = 0 := by omega
      have t0d : ((l.length : Int) == 0) = false := by simp; omega
      obtain ⟨ix, hix, hrem⟩ : ∃ ix : Nat, ix < l.length ∧ (a1.tmod (l.length : Int) = (ix : Int) ∨ a1.tmod (l.length : Int) = (ix : Int) - (l.length : Int) ∧ a1.tmod (l.length : Int) < 0) := by
        have hb1 : a1.tmod (l.length : Int) < (l.length : Int) := Int.tmod_lt_of_pos a1 (by omega)
        have hb2 : -(l.length : Int) < a1.tmod (l.length : Int) := by
          have h3 := Int.tmod_lt_of_pos (-a1) (show 0 < (l.length : Int) by omega)
          rw [Int.neg_tmod] at h3
          omega
        by_cases hs : a1.tmod (l.length : Int) < 0
        · exact ⟨(a1.tmod (l.length : Int) + (l.length : Int)).toNat, by omega, .inr ⟨by omega, hs⟩⟩
        · exact ⟨(a1.tmod (l.length : Int)).toNat, by omega, .inl (by omega)⟩
      obtain ⟨x, hx⟩ : ∃ x, l[ix]? = some x := ⟨_, List.getElem?_eq_getElem hix⟩
      obtain ⟨x0, hx0⟩ : ∃ x0, l[0]? = some x0 := ⟨_, List.getElem?_eq_getElem hpos⟩
      have hmem : M.testBit x = true := by
        have hm : x ∈ idsTo M 128 := by rw [hl]; exact List.mem_of_getElem? hx
        exact (mem_idsTo.1 hm).2
      have hlz : leastZ M = (x0 : Int) := by
        rw [leastZ, hl]
        cases l with
        | nil => exact absurd rfl hl0
        | cons a b => simp at hx0; subst hx0; rfl
      rw [hlz] at hle
      have hcM : cnt M = l.length := by rw [← hl]; exact (idsTo_length M 128).symm
      obtain ⟨gb, off, had, hgb⟩ : ∃ gb off, ad = some ⟨gb, off, none⟩ ∧ gb < w1.heap.size := by
        obtain ⟨ad', c', e, hf⟩ := hj.l
        obtain ⟨g', o', e', _⟩ := hf ix x hx
        simp only [Value.slice.injEq, true_and] at e
        obtain ⟨rfl, rfl⟩ := e
        subst e'
        exact ⟨g', o', rfl, hvb g' o' _ _ rfl⟩
      subst had
      have hob := out_bits N0 x (by rw [hN0.out]; exact hmem)
      rw [hN0.out] at hob
      obtain ⟨hx100, ho1, ho2, ho3, ho4⟩ := hob
      have hwo := without_any N0 (x : Int)
      rw [ho1] at hwo
      have hwi := with_any (dif M (2 ^ x)) (x : Int)
      rw [ho4] at hwi
      have hha := has_any (dif M (2 ^ x)) (x : Int)
      rw [ho2] at hha
      have hct := count_any (dif M (2 ^ x))
      have hcc : cnt (cln (dif M (2 ^ x))) = l.length - 1 := by omega
      rw [hcc] at hct
      have hcl := clean_any N0
      rw [hN0.out] at hcl
      have hMl : M < S128 := by rw [← hN0.out]; exact cln_lt' _
      generalize dif M (2 ^ x) = T at *
      have hD : Hid (JD w N0 l (.slice (some ⟨gb, off, none⟩) l.length cap) w1.heap.size Wn.heap.size w4.heap.size Wz) := ⟨hj, hn, mk⟩
      have lz4 : w4.heap.size < Wz.heap.size := mk.lt _ (List.mem_singleton.2 rfl)
      have hsl : ∀ lo g' off' n' c', Wz.heap.size ≤ lo → (.slice (some ⟨gb, off, none⟩) l.length cap : Value) = .slice (some ⟨g', off', none⟩) n' c' → g' < lo := by
        intro lo g' off' n' c' h1 e
        cases e
        omega
      clear hj hn mk hmem ho1 ho2 ho3 ho4 hcc hcM hlz hx100 HJ hl0
      rcases hrem with hrem | ⟨hrem, hneg⟩
      · have t4 : ¬ (ix : Int) < 0 := by omega
        go_wp2
        rename_i K1 hK
        refine wp_region_any hmx ?_
        refine wpAny_tabG (G := (Nat)) (fun g i__ => ([(sv N0), (.slice (some ⟨gb, off, none⟩) l.length cap), (.int .i64 (ix : Int)), (.pointer (some ⟨gb, off + ix, none⟩)), (.int .i64 ((x : Nat) : Int)), (sv T), (.pointer (some ⟨g, 0, none⟩)), undef] : List Value).getD i__ undef) (fun g d W' => JX (JD w N0 l (.slice (some ⟨gb, off, none⟩) l.length cap) w1.heap.size Wn.heap.size w4.heap.size) T Wz.heap.size g (d 6) (d 7) W') (by kernel_rfl) (0) ⟨hD.out.carry (Below.refl _ _).drew, Nat.le_refl _, (fun e => by cases e)⟩ ?step1 ?fin1
        case step1 =>
          intro i o ho
          have hi : i < 8 := getElem?_lt ho
          match i, hi, ho with
          | 0, _, ho =>
            cases ho
            refine stepG_of (fun g d hdep => ?_)
            exact step_load rfl trivial _ _ _ rfl rfl (fun w hw => whole4 w _ N0 hw.p.p.s)
          | 1, _, ho =>
            cases ho
            refine stepG_of (fun g d hdep => ?_)
            exact step_load rfl trivial _ _ _ rfl rfl (fun w hw => run_load1 hw.p.p.i)
          | 2, _, ho =>
            cases ho
            refine stepG_of (fun g d hdep => ?_)
            exact step_move rfl trivial _ rfl (by kernel_rfl)
          | 3, _, ho =>
            cases ho
            refine stepG_of (fun g d hdep => ?_)
            exact step_indexAddr rfl trivial _ _ _ _ _ rfl rfl rfl (fun w hw => run_idx gb off l.length cap ix hix w)
          | 4, _, ho =>
            cases ho
            refine stepG_of (fun g d hdep => ?_)
            exact step_load rfl trivial _ _ _ rfl rfl (fun w hw => run_loadi (hw.p.p.l.at hx))
          | 5, _, ho =>
            cases ho
            refine stepG_of (fun g d hdep => ?_)
            exact step_call rfl trivial 11 _ _ [(sv N0), (.int .i64 ((x : Nat) : Int))] rfl (by kernel_rfl) (enters_of Tryd.func11 (by kernel_rfl) rfl) (fun w hw => (hwo w).mono (by rintro e w' ⟨rfl, hb⟩; exact ⟨rfl, hw.carry (fun _ _ h => h.carry) hb⟩))
          | 6, _, ho =>
            cases ho
            exact stepG_new rfl rfl rfl (fun g d W' hJ hun hcl => ⟨W'.heap.size, (fun j hj => match j, hj with | 6, hj => (by rw [hj] at hun; cases hun) | 0, _ => rfl | 1, _ => rfl | 2, _ => rfl | 3, _ => rfl | 4, _ => rfl | 5, _ => rfl | 7, _ => rfl | _ + 8, _ => rfl), rfl, JX.new (fun _ _ h => h.carry) hJ (by show d 7 = false; cases h : d 7 with | false => rfl | true => exact absurd (hcl 7 _ rfl h 6 (by kernel_rfl)) (by rw [hun]; simp))⟩)
          | 7, _, ho =>
            cases ho
            refine stepG_of (fun g d hdep => ?_)
            exact step_store rfl trivial rfl _ _ _ _ _ rfl rfl rfl (fun w' hw => ⟨_, wstore4 w' _ _ T (hw.t (hdep 6 (by kernel_rfl))).2, by have h6 := hdep 6 (by kernel_rfl); rw [h6] at hw; have := JX.store (fun W2 h2 hl2 => JD.below h2 ((below_set4 W2 g T).mono hl2) (by omega) (by omega) (by omega) (by omega) (fun g' o' n' c' e => hsl _ g' o' n' c' (Nat.le_refl _) e)) hw; simpa [h6] using this⟩)
        intro g d W hall hW
        first | refine hK _ _ ?_ | refine (‹∀ (a : Act) (w : World), Code.wp Tryd.prog _ _ a w → _›) _ _ ?_
        simp only [finL, List.getD_cons_zero, List.getD_cons_succ, Nat.zero_add, Nat.reduceAdd, List.setIfInBounds_toArray, List.set_cons_zero, List.set_cons_succ]
        obtain ⟨gt, e1⟩ : ∃ gt, gt = g := ⟨_, rfl⟩
        subst e1
        obtain ⟨Wt, e2⟩ : ∃ Wt, Wt = W := ⟨_, rfl⟩
        subst e2
        rw [hall 6 (by decide), hall 7 (by decide)] at hW
        clear hK hall
        obtain ⟨hD2, hlt2, ht2⟩ := hW
        obtain ⟨hg2, hT2⟩ := ht2 rfl
        simp only [if_true] at hT2
        have hgt : gt < Wt.heap.size := hT2.lt
        clear ht2 hD
        go_wp2
        rename_i K2 hK
        refine wp_region_any hmx ?_
        refine wpAny_tabG (G := (Nat)) (fun g i__ => ([(sv T), (.slice (some ⟨gb, off, none⟩) l.length cap), (.int .i64 (ix : Int)), (.pointer (some ⟨gb, off + ix, none⟩)), (.int .i64 ((x : Nat) : Int)), (.tuple #[sv M, .int .i64 0]), (.tuple #[sv M, .int .i64 0]), (sv M), (.int .i64 0), (.pointer (some ⟨g, 0, none⟩)), undef, (.int .i64 0)] : List Value).getD i__ undef) (fun gg d W' => JX (fun W2 => JD w N0 l (.slice (some ⟨gb, off, none⟩) l.length cap) w1.heap.size Wn.heap.size w4.heap.size W2 ∧ Holds4 W2 gt (wd T)) M Wt.heap.size gg (d 9) (d 10) W') (by kernel_rfl) (0) ⟨⟨hD2.carry (Below.refl _ _).drew, hT2.carry (Below.refl _ _).drew⟩, Nat.le_refl _, (fun e => by cases e)⟩ ?step2 ?fin2
        case step2 =>
          intro i o ho
          have hi : i < 12 := getElem?_lt ho
          match i, hi, ho with
          | 0, _, ho =>
            cases ho
            refine stepG_of (fun g d hdep => ?_)
            exact step_load rfl trivial _ _ _ rfl rfl (fun w hw => whole4 w _ T hw.p.2)
          | 1, _, ho =>
            cases ho
            refine stepG_of (fun g d hdep => ?_)
            exact step_load rfl trivial _ _ _ rfl rfl (fun w hw => run_load1 hw.p.1.p.i)
          | 2, _, ho =>
            cases ho
            refine stepG_of (fun g d hdep => ?_)
            exact step_move rfl trivial _ rfl (by kernel_rfl)
          | 3, _, ho =>
            cases ho
            refine stepG_of (fun g d hdep => ?_)
            exact step_indexAddr rfl trivial _ _ _ _ _ rfl rfl rfl (fun w hw => run_idx gb off l.length cap ix hix w)
          | 4, _, ho =>
            cases ho
            refine stepG_of (fun g d hdep => ?_)
            exact step_load rfl trivial _ _ _ rfl rfl (fun w hw => run_loadi (hw.p.1.p.l.at hx))
          | 5, _, ho =>
            cases ho
            refine stepG_of (fun g d hdep => ?_)
            exact step_call rfl trivial 12 _ _ [(sv T), (.int .i64 ((x : Nat) : Int))] rfl (by kernel_rfl) (enters_of Tryd.func12 (by kernel_rfl) rfl) (fun w hw => (hwi w).mono (by rintro e w' ⟨rfl, hb⟩; exact ⟨rfl, hw.carry (fun _ _ h hb2 => ⟨h.1.carry hb2, h.2.carry hb2⟩) hb⟩))
          | 6, _, ho =>
            cases ho
            refine stepG_of (fun g d hdep => ?_)
            exact step_move rfl trivial _ rfl (by kernel_rfl)
          | 7, _, ho =>
            cases ho
            refine stepG_of (fun g d hdep => ?_)
            exact step_extract rfl trivial _ _ _ rfl rfl (fun w hw => run_ext0 _ _ w)
          | 8, _, ho =>
            cases ho
            refine stepG_of (fun g d hdep => ?_)
            exact step_extract rfl trivial _ _ _ rfl rfl (fun w hw => run_ext1 _ _ w)
          | 9, _, ho =>
            cases ho
            exact stepG_new rfl rfl rfl (fun gg d W' hJ hun hcl => ⟨W'.heap.size, (fun j hj => match j, hj with | 9, hj => (by rw [hj] at hun; cases hun) | 0, _ => rfl | 1, _ => rfl | 2, _ => rfl | 3, _ => rfl | 4, _ => rfl | 5, _ => rfl | 6, _ => rfl | 7, _ => rfl | 8, _ => rfl | 10, _ => rfl | 11, _ => rfl | _ + 12, _ => rfl), rfl, JX.new (fun _ _ h hb2 => ⟨h.1.carry hb2, h.2.carry hb2⟩) hJ (by show d 10 = false; cases h : d 10 with | false => rfl | true => exact absurd (hcl 10 _ rfl h 9 (by kernel_rfl)) (by rw [hun]; simp))⟩)
          | 10, _, ho =>
            cases ho
            refine stepG_of (fun g d hdep => ?_)
            exact step_store rfl trivial rfl _ _ _ _ _ rfl rfl rfl (fun w' hw => ⟨_, wstore4 w' _ _ M (hw.t (hdep 9 (by kernel_rfl))).2, by have h6 := hdep 9 (by kernel_rfl); rw [h6] at hw; have := JX.store (fun W2 h2 hl2 => ⟨JD.below h2.1 ((below_set4 W2 _ M).mono hl2) (by omega) (by omega) (by omega) (by omega) (fun g' o' n' c' e => hsl _ g' o' n' c' (by omega) e), (hold4 (by omega)).trans h2.2⟩) hw; simpa [h6] using this⟩)
          | 11, _, ho =>
            cases ho
            refine stepG_of (fun g d hdep => ?_)
            exact step_assign rfl trivial _ rfl (by kernel_rfl) (fun _ h => h)
        intro g d W hall hW
        first | refine hK _ _ ?_ | refine (‹∀ (a : Act) (w : World), Code.wp Tryd.prog _ _ a w → _›) _ _ ?_
        simp only [finL, List.getD_cons_zero, List.getD_cons_succ, Nat.zero_add, Nat.reduceAdd, List.setIfInBounds_toArray, List.set_cons_zero, List.set_cons_succ]
        rw [hall 9 (by decide), hall 10 (by decide)] at hW
        clear hK hall
        obtain ⟨⟨hD3, hT3⟩, hlt3, ht3⟩ := hW
        obtain ⟨hg3, hM3⟩ := ht3 rfl
        simp only [if_true] at hM3
        clear ht3 hD2 hT2
        go_wp2
        rename_i K3 hK
        refine wp_region_any hmx ?_
        refine wpAny_last 42 (fun i__ => ([(.bool true), (.bool true), (.int .i64 ((l.length : Nat) : Int)), (.slice (some ⟨gb, off, none⟩) l.length cap), (.int .i64 ((l.length : Nat) : Int)), (.bool true), (.bool true), (.bool true), (sv N0), (.int .i64 ((x0 : Nat) : Int)), (.slice (some ⟨gb, off, none⟩) l.length cap), (.pointer (some ⟨gb, off + 0, none⟩)), (.int .i64 ((x0 : Nat) : Int)), (.bool true), (.bool true), (.bool true), (sv T), (.slice (some ⟨gb, off, none⟩) l.length cap), (.int .i64 (ix : Int)), (.pointer (some ⟨gb, off + ix, none⟩)), (.int .i64 ((x : Nat) : Int)), (.bool false), (.bool true), (.bool true), (.bool true), (sv T), (.int .i64 ((l.length - 1 : Nat) : Int)), (.slice (some ⟨gb, off, none⟩) l.length cap), (.int .i64 ((l.length : Nat) : Int)), (.int .i64 ((l.length - 1 : Nat) : Int)), (.bool true), (.bool true), (.bool true), (.int .i64 0), (.bool true), (.bool true), (.bool true), (sv M), (sv N0), (sv M), (.bool true), (.bool true), undef] : List Value).getD i__ undef) (fun W' => JD w N0 l (.slice (some ⟨gb, off, none⟩) l.length cap) w1.heap.size Wn.heap.size w4.heap.size W' ∧ Holds4 W' gt (wd T) ∧ Holds4 W' g (wd M)) (fun W' => W'.heap[w.heap.size + 1]? = some (.cells #[.bool true] 4) ∧ Marks w.heap.size [w4.heap.size] W' ∧ Below w.heap.size w W') rfl (by kernel_rfl) (by kernel_rfl) ⟨hD3.carry (Below.refl _ _).drew, hT3.carry (Below.refl _ _).drew, hM3.carry (Below.refl _ _).drew⟩ ?_ ?_  ?_
        · refine (stepsFrom_cons ?_ (stepsFrom_cons ?_ (stepsFrom_cons ?_ (stepsFrom_cons ?_ (stepsFrom_cons ?_ (stepsFrom_cons ?_ (stepsFrom_cons ?_ (stepsFrom_cons ?_ (stepsFrom_cons ?_ (stepsFrom_cons ?_ (stepsFrom_cons ?_ (stepsFrom_cons ?_ (stepsFrom_cons ?_ (stepsFrom_cons ?_ (stepsFrom_cons ?_ (stepsFrom_cons ?_ (stepsFrom_cons ?_ (stepsFrom_cons ?_ (stepsFrom_cons ?_ (stepsFrom_cons ?_ (stepsFrom_cons ?_ (stepsFrom_cons ?_ (stepsFrom_cons ?_ (stepsFrom_cons ?_ (stepsFrom_cons ?_ (stepsFrom_cons ?_ (stepsFrom_cons ?_ (stepsFrom_cons ?_ (stepsFrom_cons ?_ (stepsFrom_cons ?_ (stepsFrom_cons ?_ (stepsFrom_cons ?_ (stepsFrom_cons ?_ (stepsFrom_cons ?_ (stepsFrom_cons ?_ (stepsFrom_cons ?_ (stepsFrom_cons ?_ (stepsFrom_cons ?_ (stepsFrom_cons ?_ (stepsFrom_cons ?_ (stepsFrom_cons ?_ (stepsFrom_cons ?_ trivial))))))))))))))))))))))))))))))))))))))))))
          · exact step_call rfl trivial 8 _ _ [] rfl (by kernel_rfl) (enters_of Tryd.func8 (by kernel_rfl) rfl) (fun w hw => (alive_any  w).mono (by rintro e w' ⟨rfl, hb⟩; exact ⟨rfl, ⟨hw.1.carry hb, hw.2.1.carry hb, hw.2.2.carry hb⟩⟩))
          · exact step_move rfl trivial _ rfl (by kernel_rfl)
          · exact step_load rfl (by exact ⟨_, rfl, by kernel_rfl⟩) _ _ _ rfl rfl (fun w hw => run_loadi (cell_of hw.1.n 0))
          · exact step_load rfl (by exact ⟨_, rfl, by kernel_rfl⟩) _ _ _ rfl rfl (fun w hw => run_load1 hw.1.p.i)
          · exact step_bi rfl (by exact ⟨_, rfl, by kernel_rfl⟩) _ _ _ [(.slice (some ⟨gb, off, none⟩) l.length cap)] rfl (by kernel_rfl) (fun cs w hw => bi_len cs _ _ _ _ w)
          · exact step_binOp rfl (by exact ⟨_, rfl, by kernel_rfl⟩) _ _ _ _ _ _ _ rfl rfl rfl (fun w hw => (bin_eql .i64 _ _).trans (by simp))
          · exact step_pick rfl trivial _ _ _ true rfl (by kernel_rfl) (by kernel_rfl)
          · exact step_move rfl trivial _ rfl (by kernel_rfl)
          · exact step_load rfl (by exact ⟨_, rfl, by kernel_rfl⟩) _ _ _ rfl rfl (fun w hw => whole4 w _ N0 hw.1.p.s)
          · exact step_call rfl (by exact ⟨_, rfl, by kernel_rfl⟩) 10 _ _ [(sv N0)] rfl (by kernel_rfl) (enters_of Tryd.func10 (by kernel_rfl) rfl) (fun w hw => (hle w (hT.keep hw.1.p.below hT0)).mono (by rintro e w' ⟨rfl, hb⟩; exact ⟨rfl, hw.1.carry hb, hw.2.1.carry hb, hw.2.2.carry hb⟩))
          · exact step_load rfl (by exact ⟨_, rfl, by kernel_rfl⟩) _ _ _ rfl rfl (fun w hw => run_load1 hw.1.p.i)
          · exact step_indexAddr rfl (by exact ⟨_, rfl, by kernel_rfl⟩) _ _ _ _ _ rfl rfl rfl (fun w hw => run_idx gb off l.length cap 0 hpos w)
          · exact step_load rfl (by exact ⟨_, rfl, by kernel_rfl⟩) _ _ _ rfl rfl (fun w hw => run_loadi (hw.1.p.l.at hx0))
          · exact step_binOp rfl (by exact ⟨_, rfl, by kernel_rfl⟩) _ _ _ _ _ _ _ rfl rfl rfl (fun w hw => (bin_eql .i64 _ _).trans (by simp))
          · exact step_pick rfl trivial _ _ _ true rfl (by kernel_rfl) (by kernel_rfl)
          · exact step_move rfl trivial _ rfl (by kernel_rfl)
          · exact step_load rfl (by exact ⟨_, rfl, by kernel_rfl⟩) _ _ _ rfl rfl (fun w hw => whole4 w _ T hw.2.1)
          · exact step_load rfl (by exact ⟨_, rfl, by kernel_rfl⟩) _ _ _ rfl rfl (fun w hw => run_load1 hw.1.p.i)
          · exact step_move rfl (by exact ⟨_, rfl, by kernel_rfl⟩) _ rfl (by kernel_rfl)
          · exact step_indexAddr rfl (by exact ⟨_, rfl, by kernel_rfl⟩) _ _ _ _ _ rfl rfl rfl (fun w hw => run_idx gb off l.length cap ix hix w)
          · exact step_load rfl (by exact ⟨_, rfl, by kernel_rfl⟩) _ _ _ rfl rfl (fun w hw => run_loadi (hw.1.p.l.at hx))
          · exact step_call rfl (by exact ⟨_, rfl, by kernel_rfl⟩) 13 _ _ [(sv T), (.int .i64 ((x : Nat) : Int))] rfl (by kernel_rfl) (enters_of Tryd.func13 (by kernel_rfl) rfl) (fun w hw => (hha w).mono (by rintro e w' ⟨rfl, hb⟩; exact ⟨rfl, hw.1.carry hb, hw.2.1.carry hb, hw.2.2.carry hb⟩))
          · exact step_unOp rfl (by exact ⟨_, rfl, by kernel_rfl⟩) _ _ _ _ rfl rfl (fun w hw => run_not false w)
          · exact step_pick rfl trivial _ _ _ true rfl (by kernel_rfl) (by kernel_rfl)
          · exact step_move rfl trivial _ rfl (by kernel_rfl)
          · exact step_load rfl (by exact ⟨_, rfl, by kernel_rfl⟩) _ _ _ rfl rfl (fun w hw => whole4 w _ T hw.2.1)
          · exact step_call rfl (by exact ⟨_, rfl, by kernel_rfl⟩) 6 _ _ [(sv T)] rfl (by kernel_rfl) (enters_of Tryd.func6 (by kernel_rfl) rfl) (fun w hw => (hct w).mono (by rintro e w' ⟨rfl, hb⟩; exact ⟨rfl, hw.1.carry hb, hw.2.1.carry hb, hw.2.2.carry hb⟩))
          · exact step_load rfl (by exact ⟨_, rfl, by kernel_rfl⟩) _ _ _ rfl rfl (fun w hw => run_load1 hw.1.p.i)
          · exact step_bi rfl (by exact ⟨_, rfl, by kernel_rfl⟩) _ _ _ [(.slice (some ⟨gb, off, none⟩) l.length cap)] rfl (by kernel_rfl) (fun cs w hw => bi_len cs _ _ _ _ w)
          · exact step_binOp rfl (by exact ⟨_, rfl, by kernel_rfl⟩) _ _ _ _ _ _ _ rfl rfl rfl (fun w hw => bin_sub64 _ _ _ (by rw [IntKind.wrap_i64]; omega))
          · exact step_binOp rfl (by exact ⟨_, rfl, by kernel_rfl⟩) _ _ _ _ _ _ _ rfl rfl rfl (fun w hw => (bin_eql .i64 _ _).trans (by simp))
          · exact step_pick rfl trivial _ _ _ true rfl (by kernel_rfl) (by kernel_rfl)
          · exact step_move rfl trivial _ rfl (by kernel_rfl)
          · exact step_move rfl (by exact ⟨_, rfl, by kernel_rfl⟩) _ rfl (by kernel_rfl)
          · exact step_binOp rfl (by exact ⟨_, rfl, by kernel_rfl⟩) _ _ _ _ _ _ _ rfl rfl rfl (fun w hw => (bin_eql .i64 _ _).trans (by simp))
          · exact step_pick rfl trivial _ _ _ true rfl (by kernel_rfl) (by kernel_rfl)
          · exact step_move rfl trivial _ rfl (by kernel_rfl)
          · exact step_load rfl (by exact ⟨_, rfl, by kernel_rfl⟩) _ _ _ rfl rfl (fun w hw => whole4 w _ M hw.2.2)
          · exact step_load rfl (by exact ⟨_, rfl, by kernel_rfl⟩) _ _ _ rfl rfl (fun w hw => whole4 w _ N0 hw.1.p.s)
          · exact step_call rfl (by exact ⟨_, rfl, by kernel_rfl⟩) 14 _ _ [(sv N0)] rfl (by kernel_rfl) (enters_of Tryd.func14 (by kernel_rfl) rfl) (fun w hw => (hcl w).mono (by rintro e w' ⟨rfl, hb⟩; exact ⟨rfl, hw.1.carry hb, hw.2.1.carry hb, hw.2.2.carry hb⟩))
          · exact step_binOp rfl (by exact ⟨_, rfl, by kernel_rfl⟩) _ _ _ _ _ _ _ rfl rfl rfl (fun w hw => eqls rfl hMl w)
          · exact step_pick rfl trivial _ _ _ true rfl (by kernel_rfl) (by kernel_rfl)
        · intro o ho
          cases ho
          exact step_store rfl trivial rfl _ _ _ _ _ rfl rfl rfl (fun w' hw => ⟨_, run_storeb hw.1.p.r true, set_get 0 (.bool true) hw.1.p.r, hw.1.m.set hw.1.p.r _, hw.1.p.below.setCell (p := ⟨w.heap.size + 1, 0, none⟩) (by simp) _⟩)
        intro W hW
        first | refine hK _ _ ?_ | refine (‹∀ (a : Act) (w : World), Code.wp Tryd.prog _ _ a w → _›) _ _ ?_
        simp only [finL, List.getD_cons_zero, List.getD_cons_succ, Nat.zero_add, Nat.reduceAdd, List.setIfInBounds_toArray, List.set_cons_zero, List.set_cons_succ]
        clear hK
        go_wp2
        refine leaves_marks [w4.heap.size] _ hW.2.1 ?_
        intro W' hbW hcW
        have c6 := cell_of (hcW _ _ hW.1 rfl) 0
        exact ⟨.bool true, by simp [results, Tryd.results3, go_sem, c6], rfl, hW.2.2.trans hbW⟩
      · have t4 : (ix : Int) - (l.length : Int) < 0 := by omega
        go_wp2
        rename_i K1 hK
        refine wp_region_any hmx ?_
        refine wpAny_tabG (G := (Nat)) (fun g i__ => ([(sv N0), (.slice (some ⟨gb, off, none⟩) l.length cap), (.int .i64 (ix : Int)), (.pointer (some ⟨gb, off + ix, none⟩)), (.int .i64 ((x : Nat) : Int)), (sv T), (.pointer (some ⟨g, 0, none⟩)), undef] : List Value).getD i__ undef) (fun g d W' => JX (JD w N0 l (.slice (some ⟨gb, off, none⟩) l.length cap) w1.heap.size Wn.heap.size w4.heap.size) T Wz.heap.size g (d 6) (d 7) W') (by kernel_rfl) (0) ⟨hD.out.carry (Below.refl _ _).drew, Nat.le_refl _, (fun e => by cases e)⟩ ?step3 ?fin3
        case step3 =>
          intro i o ho
          have hi : i < 8 := getElem?_lt ho
          match i, hi, ho with
          | 0, _, ho =>
            cases ho
            refine stepG_of (fun g d hdep => ?_)
            exact step_load rfl trivial _ _ _ rfl rfl (fun w hw => whole4 w _ N0 hw.p.p.s)
          | 1, _, ho =>
            cases ho
            refine stepG_of (fun g d hdep => ?_)
            exact step_load rfl trivial _ _ _ rfl rfl (fun w hw => run_load1 hw.p.p.i)
          | 2, _, ho =>
            cases ho
            refine stepG_of (fun g d hdep => ?_)
            exact step_move rfl trivial _ rfl (by kernel_rfl)
          | 3, _, ho =>
            cases ho
            refine stepG_of (fun g d hdep => ?_)
            exact step_indexAddr rfl trivial _ _ _ _ _ rfl rfl rfl (fun w hw => run_idx gb off l.length cap ix hix w)
          | 4, _, ho =>
            cases ho
            refine stepG_of (fun g d hdep => ?_)
            exact step_load rfl trivial _ _ _ rfl rfl (fun w hw => run_loadi (hw.p.p.l.at hx))
          | 5, _, ho =>
            cases ho
            refine stepG_of (fun g d hdep => ?_)
            exact step_call rfl trivial 11 _ _ [(sv N0), (.int .i64 ((x : Nat) : Int))] rfl (by kernel_rfl) (enters_of Tryd.func11 (by kernel_rfl) rfl) (fun w hw => (hwo w).mono (by rintro e w' ⟨rfl, hb⟩; exact ⟨rfl, hw.carry (fun _ _ h => h.carry) hb⟩))
          | 6, _, ho =>
            cases ho
            exact stepG_new rfl rfl rfl (fun g d W' hJ hun hcl => ⟨W'.heap.size, (fun j hj => match j, hj with | 6, hj => (by rw [hj] at hun; cases hun) | 0, _ => rfl | 1, _ => rfl | 2, _ => rfl | 3, _ => rfl | 4, _ => rfl | 5, _ => rfl | 7, _ => rfl | _ + 8, _ => rfl), rfl, JX.new (fun _ _ h => h.carry) hJ (by show d 7 = false; cases h : d 7 with | false => rfl | true => exact absurd (hcl 7 _ rfl h 6 (by kernel_rfl)) (by rw [hun]; simp))⟩)
          | 7, _, ho =>
            cases ho
            refine stepG_of (fun g d hdep => ?_)
            exact step_store rfl trivial rfl _ _ _ _ _ rfl rfl rfl (fun w' hw => ⟨_, wstore4 w' _ _ T (hw.t (hdep 6 (by kernel_rfl))).2, by have h6 := hdep 6 (by kernel_rfl); rw [h6] at hw; have := JX.store (fun W2 h2 hl2 => JD.below h2 ((below_set4 W2 g T).mono hl2) (by omega) (by omega) (by omega) (by omega) (fun g' o' n' c' e => hsl _ g' o' n' c' (Nat.le_refl _) e)) hw; simpa [h6] using this⟩)
        intro g d W hall hW
        first | refine hK _ _ ?_ | refine (‹∀ (a : Act) (w : World), Code.wp Tryd.prog _ _ a w → _›) _ _ ?_
        simp only [finL, List.getD_cons_zero, List.getD_cons_succ, Nat.zero_add, Nat.reduceAdd, List.setIfInBounds_toArray, List.set_cons_zero, List.set_cons_succ]
        obtain ⟨gt, e1⟩ : ∃ gt, gt = g := ⟨_, rfl⟩
        subst e1
        obtain ⟨Wt, e2⟩ : ∃ Wt, Wt = W := ⟨_, rfl⟩
        subst e2
        rw [hall 6 (by decide), hall 7 (by decide)] at hW
        clear hK hall
        obtain ⟨hD2, hlt2, ht2⟩ := hW
        obtain ⟨hg2, hT2⟩ := ht2 rfl
        simp only [if_true] at hT2
        have hgt : gt < Wt.heap.size := hT2.lt
        clear ht2 hD
        go_wp2
        rename_i K2 hK
        refine wp_region_any hmx ?_
        refine wpAny_tabG (G := (Nat)) (fun g i__ => ([(sv T), (.slice (some ⟨gb, off, none⟩) l.length cap), (.int .i64 (ix : Int)), (.pointer (some ⟨gb, off + ix, none⟩)), (.int .i64 ((x : Nat) : Int)), (.tuple #[sv M, .int .i64 0]), (.tuple #[sv M, .int .i64 0]), (sv M), (.int .i64 0), (.pointer (some ⟨g, 0, none⟩)), undef, (.int .i64 0)] : List Value).getD i__ undef) (fun gg d W' => JX (fun W2 => JD w N0 l (.slice (some ⟨gb, off, none⟩) l.length cap) w1.heap.size Wn.heap.size w4.heap.size W2 ∧ Holds4 W2 gt (wd T)) M Wt.heap.size gg (d 9) (d 10) W') (by kernel_rfl) (0) ⟨⟨hD2.carry (Below.refl _ _).drew, hT2.carry (Below.refl _ _).drew⟩, Nat.le_refl _, (fun e => by cases e)⟩ ?step4 ?fin4
        case step4 =>
          intro i o ho
          have hi : i < 12 := getElem?_lt ho
          match i, hi, ho with
          | 0, _, ho =>
            cases ho
            refine stepG_of (fun g d hdep => ?_)
            exact step_load rfl trivial _ _ _ rfl rfl (fun w hw => whole4 w _ T hw.p.2)
          | 1, _, ho =>
            cases ho
            refine stepG_of (fun g d hdep => ?_)
            exact step_load rfl trivial _ _ _ rfl rfl (fun w hw => run_load1 hw.p.1.p.i)
          | 2, _, ho =>
            cases ho
            refine stepG_of (fun g d hdep => ?_)
            exact step_move rfl trivial _ rfl (by kernel_rfl)
          | 3, _, ho =>
            cases ho
            refine stepG_of (fun g d hdep => ?_)
            exact step_indexAddr rfl trivial _ _ _ _ _ rfl rfl rfl (fun w hw => run_idx gb off l.length cap ix hix w)
          | 4, _, ho =>
            cases ho
            refine stepG_of (fun g d hdep => ?_)
            exact step_load rfl trivial _ _ _ rfl rfl (fun w hw => run_loadi (hw.p.1.p.l.at hx))
          | 5, _, ho =>
            cases ho
            refine stepG_of (fun g d hdep => ?_)
            exact step_call rfl trivial 12 _ _ [(sv T), (.int .i64 ((x : Nat) : Int))] rfl (by kernel_rfl) (enters_of Tryd.func12 (by kernel_rfl) rfl) (fun w hw => (hwi w).mono (by rintro e w' ⟨rfl, hb⟩; exact ⟨rfl, hw.carry (fun _ _ h hb2 => ⟨h.1.carry hb2, h.2.carry hb2⟩) hb⟩))
          | 6, _, ho =>
            cases ho
            refine stepG_of (fun g d hdep => ?_)
            exact step_move rfl trivial _ rfl (by kernel_rfl)
          | 7, _, ho =>
            cases ho
            refine stepG_of (fun g d hdep => ?_)
            exact step_extract rfl trivial _ _ _ rfl rfl (fun w hw => run_ext0 _ _ w)
          | 8, _, ho =>
            cases ho
            refine stepG_of (fun g d hdep => ?_)
            exact step_extract rfl trivial _ _ _ rfl rfl (fun w hw => run_ext1 _ _ w)
          | 9, _, ho =>
            cases ho
            exact stepG_new rfl rfl rfl (fun gg d W' hJ hun hcl => ⟨W'.heap.size, (fun j hj => match j, hj with | 9, hj => (by rw [hj] at hun; cases hun) | 0, _ => rfl | 1, _ => rfl | 2, _ => rfl | 3, _ => rfl | 4, _ => rfl | 5, _ => rfl | 6, _ => rfl | 7, _ => rfl | 8, _ => rfl | 10, _ => rfl | 11, _ => rfl | _ + 12, _ => rfl), rfl, JX.new (fun _ _ h hb2 => ⟨h.1.carry hb2, h.2.carry hb2⟩) hJ (by show d 10 = false; cases h : d 10 with | false => rfl | true => exact absurd (hcl 10 _ rfl h 9 (by kernel_rfl)) (by rw [hun]; simp))⟩)
          | 10, _, ho =>
            cases ho
            refine stepG_of (fun g d hdep => ?_)
            exact step_store rfl trivial rfl _ _ _ _ _ rfl rfl rfl (fun w' hw => ⟨_, wstore4 w' _ _ M (hw.t (hdep 9 (by kernel_rfl))).2, by have h6 := hdep 9 (by kernel_rfl); rw [h6] at hw; have := JX.store (fun W2 h2 hl2 => ⟨JD.below h2.1 ((below_set4 W2 _ M).mono hl2) (by omega) (by omega) (by omega) (by omega) (fun g' o' n' c' e => hsl _ g' o' n' c' (by omega) e), (hold4 (by omega)).trans h2.2⟩) hw; simpa [h6] using this⟩)
          | 11, _, ho =>
            cases ho
            refine stepG_of (fun g d hdep => ?_)
            exact step_assign rfl trivial _ rfl (by kernel_rfl) (fun _ h => h)
        intro g d W hall hW
        first | refine hK _ _ ?_ | refine (‹∀ (a : Act) (w : World), Code.wp Tryd.prog _ _ a w → _›) _ _ ?_
        simp only [finL, List.getD_cons_zero, List.getD_cons_succ, Nat.zero_add, Nat.reduceAdd, List.setIfInBounds_toArray, List.set_cons_zero, List.set_cons_succ]
        rw [hall 9 (by decide), hall 10 (by decide)] at hW
        clear hK hall
        obtain ⟨⟨hD3, hT3⟩, hlt3, ht3⟩ := hW
        obtain ⟨hg3, hM3⟩ := ht3 rfl
        simp only [if_true] at hM3
        clear ht3 hD2 hT2
        go_wp2
        rename_i K3 hK
        refine wp_region_any hmx ?_
        refine wpAny_last 42 (fun i__ => ([(.bool true), (.bool true), (.int .i64 ((l.length : Nat) : Int)), (.slice (some ⟨gb, off, none⟩) l.length cap), (.int .i64 ((l.length : Nat) : Int)), (.bool true), (.bool true), (.bool true), (sv N0), (.int .i64 ((x0 : Nat) : Int)), (.slice (some ⟨gb, off, none⟩) l.length cap), (.pointer (some ⟨gb, off + 0, none⟩)), (.int .i64 ((x0 : Nat) : Int)), (.bool true), (.bool true), (.bool true), (sv T), (.slice (some ⟨gb, off, none⟩) l.length cap), (.int .i64 (ix : Int)), (.pointer (some ⟨gb, off + ix, none⟩)), (.int .i64 ((x : Nat) : Int)), (.bool false), (.bool true), (.bool true), (.bool true), (sv T), (.int .i64 ((l.length - 1 : Nat) : Int)), (.slice (some ⟨gb, off, none⟩) l.length cap), (.int .i64 ((l.length : Nat) : Int)), (.int .i64 ((l.length - 1 : Nat) : Int)), (.bool true), (.bool true), (.bool true), (.int .i64 0), (.bool true), (.bool true), (.bool true), (sv M), (sv N0), (sv M), (.bool true), (.bool true), undef] : List Value).getD i__ undef) (fun W' => JD w N0 l (.slice (some ⟨gb, off, none⟩) l.length cap) w1.heap.size Wn.heap.size w4.heap.size W' ∧ Holds4 W' gt (wd T) ∧ Holds4 W' g (wd M)) (fun W' => W'.heap[w.heap.size + 1]? = some (.cells #[.bool true] 4) ∧ Marks w.heap.size [w4.heap.size] W' ∧ Below w.heap.size w W') rfl (by kernel_rfl) (by kernel_rfl) ⟨hD3.carry (Below.refl _ _).drew, hT3.carry (Below.refl _ _).drew, hM3.carry (Below.refl _ _).drew⟩ ?_ ?_  ?_
        · refine (stepsFrom_cons ?_ (stepsFrom_cons ?_ (stepsFrom_cons ?_ (stepsFrom_cons ?_ (stepsFrom_cons ?_ (stepsFrom_cons ?_ (stepsFrom_cons ?_ (stepsFrom_cons ?_ (stepsFrom_cons ?_ (stepsFrom_cons ?_ (stepsFrom_cons ?_ (stepsFrom_cons ?_ (stepsFrom_cons ?_ (stepsFrom_cons ?_ (stepsFrom_cons ?_ (stepsFrom_cons ?_ (stepsFrom_cons ?_ (stepsFrom_cons ?_ (stepsFrom_cons ?_ (stepsFrom_cons ?_ (stepsFrom_cons ?_ (stepsFrom_cons ?_ (stepsFrom_cons ?_ (stepsFrom_cons ?_ (stepsFrom_cons ?_ (stepsFrom_cons ?_ (stepsFrom_cons ?_ (stepsFrom_cons ?_ (stepsFrom_cons ?_ (stepsFrom_cons ?_ (stepsFrom_cons ?_ (stepsFrom_cons ?_ (stepsFrom_cons ?_ (stepsFrom_cons ?_ (stepsFrom_cons ?_ (stepsFrom_cons ?_ (stepsFrom_cons ?_ (stepsFrom_cons ?_ (stepsFrom_cons ?_ (stepsFrom_cons ?_ (stepsFrom_cons ?_ (stepsFrom_cons ?_ trivial))))))))))))))))))))))))))))))))))))))))))
          · exact step_call rfl trivial 8 _ _ [] rfl (by kernel_rfl) (enters_of Tryd.func8 (by kernel_rfl) rfl) (fun w hw => (alive_any  w).mono (by rintro e w' ⟨rfl, hb⟩; exact ⟨rfl, ⟨hw.1.carry hb, hw.2.1.carry hb, hw.2.2.carry hb⟩⟩))
          · exact step_move rfl trivial _ rfl (by kernel_rfl)
          · exact step_load rfl (by exact ⟨_, rfl, by kernel_rfl⟩) _ _ _ rfl rfl (fun w hw => run_loadi (cell_of hw.1.n 0))
          · exact step_load rfl (by exact ⟨_, rfl, by kernel_rfl⟩) _ _ _ rfl rfl (fun w hw => run_load1 hw.1.p.i)
          · exact step_bi rfl (by exact ⟨_, rfl, by kernel_rfl⟩) _ _ _ [(.slice (some ⟨gb, off, none⟩) l.length cap)] rfl (by kernel_rfl) (fun cs w hw => bi_len cs _ _ _ _ w)
          · exact step_binOp rfl (by exact ⟨_, rfl, by kernel_rfl⟩) _ _ _ _ _ _ _ rfl rfl rfl (fun w hw => (bin_eql .i64 _ _).trans (by simp))
          · exact step_pick rfl trivial _ _ _ true rfl (by kernel_rfl) (by kernel_rfl)
          · exact step_move rfl trivial _ rfl (by kernel_rfl)
          · exact step_load rfl (by exact ⟨_, rfl, by kernel_rfl⟩) _ _ _ rfl rfl (fun w hw => whole4 w _ N0 hw.1.p.s)
          · exact step_call rfl (by exact ⟨_, rfl, by kernel_rfl⟩) 10 _ _ [(sv N0)] rfl (by kernel_rfl) (enters_of Tryd.func10 (by kernel_rfl) rfl) (fun w hw => (hle w (hT.keep hw.1.p.below hT0)).mono (by rintro e w' ⟨rfl, hb⟩; exact ⟨rfl, hw.1.carry hb, hw.2.1.carry hb, hw.2.2.carry hb⟩))
          · exact step_load rfl (by exact ⟨_, rfl, by kernel_rfl⟩) _ _ _ rfl rfl (fun w hw => run_load1 hw.1.p.i)
          · exact step_indexAddr rfl (by exact ⟨_, rfl, by kernel_rfl⟩) _ _ _ _ _ rfl rfl rfl (fun w hw => run_idx gb off l.length cap 0 hpos w)
          · exact step_load rfl (by exact ⟨_, rfl, by kernel_rfl⟩) _ _ _ rfl rfl (fun w hw => run_loadi (hw.1.p.l.at hx0))
          · exact step_binOp rfl (by exact ⟨_, rfl, by kernel_rfl⟩) _ _ _ _ _ _ _ rfl rfl rfl (fun w hw => (bin_eql .i64 _ _).trans (by simp))
          · exact step_pick rfl trivial _ _ _ true rfl (by kernel_rfl) (by kernel_rfl)
          · exact step_move rfl trivial _ rfl (by kernel_rfl)
          · exact step_load rfl (by exact ⟨_, rfl, by kernel_rfl⟩) _ _ _ rfl rfl (fun w hw => whole4 w _ T hw.2.1)
          · exact step_load rfl (by exact ⟨_, rfl, by kernel_rfl⟩) _ _ _ rfl rfl (fun w hw => run_load1 hw.1.p.i)
          · exact step_move rfl (by exact ⟨_, rfl, by kernel_rfl⟩) _ rfl (by kernel_rfl)
          · exact step_indexAddr rfl (by exact ⟨_, rfl, by kernel_rfl⟩) _ _ _ _ _ rfl rfl rfl (fun w hw => run_idx gb off l.length cap ix hix w)
          · exact step_load rfl (by exact ⟨_, rfl, by kernel_rfl⟩) _ _ _ rfl rfl (fun w hw => run_loadi (hw.1.p.l.at hx))
          · exact step_call rfl (by exact ⟨_, rfl, by kernel_rfl⟩) 13 _ _ [(sv T), (.int .i64 ((x : Nat) : Int))] rfl (by kernel_rfl) (enters_of Tryd.func13 (by kernel_rfl) rfl) (fun w hw => (hha w).mono (by rintro e w' ⟨rfl, hb⟩; exact ⟨rfl, hw.1.carry hb, hw.2.1.carry hb, hw.2.2.carry hb⟩))
          · exact step_unOp rfl (by exact ⟨_, rfl, by kernel_rfl⟩) _ _ _ _ rfl rfl (fun w hw => run_not false w)
          · exact step_pick rfl trivial _ _ _ true rfl (by kernel_rfl) (by kernel_rfl)
          · exact step_move rfl trivial _ rfl (by kernel_rfl)
          · exact step_load rfl (by exact ⟨_, rfl, by kernel_rfl⟩) _ _ _ rfl rfl (fun w hw => whole4 w _ T hw.2.1)
          · exact step_call rfl (by exact ⟨_, rfl, by kernel_rfl⟩) 6 _ _ [(sv T)] rfl (by kernel_rfl) (enters_of Tryd.func6 (by kernel_rfl) rfl) (fun w hw => (hct w).mono (by rintro e w' ⟨rfl, hb⟩; exact ⟨rfl, hw.1.carry hb, hw.2.1.carry hb, hw.2.2.carry hb⟩))
          · exact step_load rfl (by exact ⟨_, rfl, by kernel_rfl⟩) _ _ _ rfl rfl (fun w hw => run_load1 hw.1.p.i)
          · exact step_bi rfl (by exact ⟨_, rfl, by kernel_rfl⟩) _ _ _ [(.slice (some ⟨gb, off, none⟩) l.length cap)] rfl (by kernel_rfl) (fun cs w hw => bi_len cs _ _ _ _ w)
          · exact step_binOp rfl (by exact ⟨_, rfl, by kernel_rfl⟩) _ _ _ _ _ _ _ rfl rfl rfl (fun w hw => bin_sub64 _ _ _ (by rw [IntKind.wrap_i64]; omega))
          · exact step_binOp rfl (by exact ⟨_, rfl, by kernel_rfl⟩) _ _ _ _ _ _ _ rfl rfl rfl (fun w hw => (bin_eql .i64 _ _).trans (by simp))
          · exact step_pick rfl trivial _ _ _ true rfl (by kernel_rfl) (by kernel_rfl)
          · exact step_move rfl trivial _ rfl (by kernel_rfl)
          · exact step_move rfl (by exact ⟨_, rfl, by kernel_rfl⟩) _ rfl (by kernel_rfl)
          · exact step_binOp rfl (by exact ⟨_, rfl, by kernel_rfl⟩) _ _ _ _ _ _ _ rfl rfl rfl (fun w hw => (bin_eql .i64 _ _).trans (by simp))
          · exact step_pick rfl trivial _ _ _ true rfl (by kernel_rfl) (by kernel_rfl)
          · exact step_move rfl trivial _ rfl (by kernel_rfl)
          · exact step_load rfl (by exact ⟨_, rfl, by kernel_rfl⟩) _ _ _ rfl rfl (fun w hw => whole4 w _ M hw.2.2)
          · exact step_load rfl (by exact ⟨_, rfl, by kernel_rfl⟩) _ _ _ rfl rfl (fun w hw => whole4 w _ N0 hw.1.p.s)
          · exact step_call rfl (by exact ⟨_, rfl, by kernel_rfl⟩) 14 _ _ [(sv N0)] rfl (by kernel_rfl) (enters_of Tryd.func14 (by kernel_rfl) rfl) (fun w hw => (hcl w).mono (by rintro e w' ⟨rfl, hb⟩; exact ⟨rfl, hw.1.carry hb, hw.2.1.carry hb, hw.2.2.carry hb⟩))
          · exact step_binOp rfl (by exact ⟨_, rfl, by kernel_rfl⟩) _ _ _ _ _ _ _ rfl rfl rfl (fun w hw => eqls rfl hMl w)
          · exact step_pick rfl trivial _ _ _ true rfl (by kernel_rfl) (by kernel_rfl)
        · intro o ho
          cases ho
          exact step_store rfl trivial rfl _ _ _ _ _ rfl rfl rfl (fun w' hw => ⟨_, run_storeb hw.1.p.r true, set_get 0 (.bool true) hw.1.p.r, hw.1.m.set hw.1.p.r _, hw.1.p.below.setCell (p := ⟨w.heap.size + 1, 0, none⟩) (by simp) _⟩)
        intro W hW
        first | refine hK _ _ ?_ | refine (‹∀ (a : Act) (w : World), Code.wp Tryd.prog _ _ a w → _›) _ _ ?_
        simp only [finL, List.getD_cons_zero, List.getD_cons_succ, Nat.zero_add, Nat.reduceAdd, List.setIfInBounds_toArray, List.set_cons_zero, List.set_cons_succ]
        clear hK
        go_wp2
        refine leaves_marks [w4.heap.size] _ hW.2.1 ?_
        intro W' hbW hcW
        have c6 := cell_of (hcW _ _ hW.1 rfl) 0
        exact ⟨.bool true, by simp [results, Tryd.results3, go_sem, c6], rfl, hW.2.2.trans hbW⟩
theorem walk (N0 : Nat) (hN0 : N0 < S128) (a1 : Int) (w1 : (Lit.int .i64 a1).wf = true) (w : World) (hL : laidMetH Tryd.prog Rows.setPlacesRow.laid w) :
    Calls Tryd.prog 3 #[sv N0, .int .i64 a1] w fun e w' => e = .returned (.bool true) ∧ Below w.heap.size w w' := by
  exact callsIn_wide.1 (places_in N0 a1 (bounds_i64 w1) w (tab_of hL))

set_option maxRecDepth 100000 in
theorem lifted (os : Os) (started : os.Started) (H : Type) (enc : TypeId × Value → H) :
    ReturnsInHanded {} Tryd.checked os 3 .any (fun w args => (Rows.setPlacesSpec.pre enc Tryd.prog Tryd.f3 [] false w args ∧ laidMetH Tryd.prog Rows.setPlacesRow.laid w) ∧ sizedMet enc Tryd.prog Tryd.f3 (OpenSpec.ofChange Rows.setPlacesSpec) false w args)
      (Rows.setPlacesSpec.post enc Tryd.prog Tryd.f3 false true false false) := by
  refine returnsInHanded_of_change_and (C := Tryd.checked) (X := fun w _ => laidMetH Tryd.prog Rows.setPlacesRow.laid w) (fun _ _ _ hh h => h.of_heap hh) own started (by kernel_rfl) Tryd.func3
    (ChangeSpec.witness_shaped (enc := enc) (C := Tryd.checked) (os := os) (X := fun w _ => laidMetH Tryd.prog Rows.setPlacesRow.laid w) false (World.laidAll Tryd.prog os Rows.setPlacesRow.laid) #[.agg #[.int .u32 0, .int .u32 0, .int .u32 0, .int .u32 0], .int .i64 0] 8 (World.laidAll_os _ _ _)
      (World.shaped_of_ZipB (by kernel_rfl) (by kernel_rfl)) (by kernel_rfl) (by kernel_rfl) (by kernel_rfl)
      (by rw [MakeChecks.laidMetH_plain _ _ _ (by kernel_rfl)]; exact laidMet_laidAll _ (by kernel_rfl) (by kernel_rfl))) ?_
  intro W base args ds gs before hval0 hW _ _ hL hsz
  have hval : ∀ (j : Nat) t v, Tryd.f3.params[j]? = some t → args[j]? = some v → Value.okWide Tryd.prog W .any base t v := hval0
  have hW' := hW
  obtain ⟨p, q, hA0, hV, rfl, hfz, hnd⟩ := hW
  have hA : DataW.TrodAll enc Tryd.prog W 0 (fun _ => true) true Tryd.f3.params.toList args.toList ds p := hA0
  rw [Tryd.params3] at hA hval
  obtain ⟨v0, vs0, d0, ds0, p0, q0, hargs, rfl, rfl, h0, r0⟩ := trodAll_cons hA
  obtain ⟨v1, vs1, d1, ds1, p1, q1, rfl, rfl, rfl, h1, r1⟩ := trodAll_cons r0
  obtain ⟨rfl, rfl, rfl⟩ := trodAll_nil r1
  obtain rfl : args = #[v0, v1] := by cases args; simp_all
  obtain ⟨rfl, rfl⟩ := trodVars_none hV
  obtain ⟨N0, hN0, rfl, rfl, rfl⟩ := open_set (hval 0 24 v0 rfl rfl) h0
  obtain ⟨a1, rfl, rfl, rfl, w1⟩ := open_int Tryd.underlying3 (hval 1 3 v1 rfl rfl) h1
  clear hA0 hval0
  simp only [List.append_nil] at hW'
  refine (walk N0 hN0 a1 w1 W hL).mono fun e W' ⟨he, hg⟩ => ?_
  subst he
  exact ⟨_, rfl, _, _, _, [], _, [], hW', (trodAll_cons_mk (shut_bool Tryd.underlying4 _) trodAll_mk0), (trodAll_cons_mk (shut_set N0) (trodAll_cons_mk (shut_int Tryd.underlying3 w1) trodAll_mk0)), rfl, hg.frame _, fun h => by cases h⟩

theorem over : Rows.setPlacesRow.holds Tryd.pinned (OpenSpec.ofChange Rows.setPlacesSpec) :=
  OpenClaim.holds_of_wide 3 Tryd.f3 rfl rfl rfl rfl rfl rfl rfl ⟨rfl, rfl, rfl, rfl, rfl⟩ rfl rfl rfl rfl rfl (by kernel_rfl) Tryd.func3 (by kernel_rfl)
    (of_decide_eq_true (by kernel_rfl)) (by unfold Func.isWrapper; first | (rw [if_pos (by decide +kernel)]; kernel_rfl) | (rw [if_neg (by decide +kernel)]; exact ⟨rfl, rfl⟩))
    (fun os started H enc _ => lifted os started H enc)

theorem row_proved : Rows.SetPlacesSaid :=
  over
theorem proved : Rows.SetPlacesCardSaid :=
  Claim7.holds_tied_plain_at .later [] [.data] true (true, "ab9dd63586333e244ff8d78e7670b4c950c826a4a67afdc2dfd72f7e9f534053") false
    row_proved (fun _ h => by cases h) (by kernel_rfl) (fun _ h => by cases h) setPlaces_row_tie rfl ⟨rfl, rfl⟩ (by kernel_rfl) rfl
    (fun f fn hf hfn => by
      obtain rfl : f = 3 := Option.some.inj ((show Tryd.prog.funcNamed "earshot/earshotlaw3.SetPlaces" = some 3 by kernel_rfl).symm.trans hf) |>.symm
      obtain rfl : fn = Tryd.f3 := (Option.some.inj (Tryd.func3.symm.trans hfn)).symm
      exact ⟨by kernel_rfl, fun j t ht => by
        rw [Tryd.params3] at ht
        rcases j with _ | j
        · have e : t = 24 := by simpa using ht.symm
          subst e
          exact (show Tryd.prog.wantsStandIn 24 = false by kernel_rfl)
        rcases j with _ | j
        · have e : t = 3 := by simpa using ht.symm
          subst e
          exact (show Tryd.prog.wantsStandIn 3 = false by kernel_rfl)
        simp at ht⟩)
    (by kernel_rfl)
#print axioms proved
end Go.Proofs.YtahlehgibcdfeaaDoor
