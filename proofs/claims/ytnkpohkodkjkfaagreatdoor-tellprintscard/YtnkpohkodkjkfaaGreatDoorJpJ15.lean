/- notice.cutFirst, kindOf: what they answer, at every text. -/
import Derived.Test.YtnkpohkodkjkfaaGreatDoorJpJ12
import Derived.Test.YtnkpohkodkjkfaaGreatDoorJpJ14
import Derived.Test.YtnkpohkodkjkfaaGreatDoorJpJ0
import Derived.Test.YtnkpohkodkjkfaaGreatDoorJpJ11
import Derived.Test.YtnkpohkodkjkfaaGreatDoorJpJ13
import Derived.Maps.AppendAt
import Derived.OwnWalk
import Derived.Carry
import Derived.Laws.Cover4
import Derived.Deep.WholeRow
import Derived.WalkSmall
set_option maxHeartbeats 40000000
set_option maxRecDepth 100000
set_option linter.unusedVariables false
namespace Go.Proofs.YtnkpohkodkjkfaaGreatDoor
open Go.RowKit Go.Shelf Go.Lib

/-- The tables of utf8 lie in their variables. -/
def Ut (W : World) : Prop := Lib.Utf8Tabs (ren197.g 3) (ren197.g 4) W
theorem Ut.carry {W W' : World} (h : Ut W) (hb : Below W.heap.size W W') : Ut W' := Utf8Tabs_below h hb
/-- What stands behind the first character. -/
def cutFr (s : ByteArray) : ByteArray := s.extract (decodeGo s).2 s.size
theorem dec_le (s : ByteArray) : (decodeGo s).2 ≤ s.size := by
  unfold decodeGo
  split
  · omega
  · have := wdt_le s 0 (by omega)
    unfold wdt at this
    omega
theorem slice_str {s : ByteArray} {k : Nat} (hk : k ≤ s.size) (w : World) : (Instr.sliceAt 9 (.string s) (some (.int .i64 (k : Int))) none none).run Tryz.prog w = .ok (.string (s.extract k s.size)) w := by
  go_simp
set_option maxHeartbeats 1000000 in
set_option maxRecDepth 100000 in
theorem cut_any (s : ByteArray) (w : World) (hT : Ut w) : Calls Tryz.prog 145 #[.string s] w fun e w' => e = .returned (.tuple #[.int .i32 (decodeGo s).1, .string (cutFr s)]) ∧ Below w.heap.size w w' := by
  have hmx : Tryz.prog.follows .mixedOrders = true := by kernel_rfl
  have hd := dec_any s w hT
  have hk := dec_le s
  unfold cutFr
  generalize (decodeGo s).1 = a at *
  generalize (decodeGo s).2 = k at *
  go_enter Tryz.func145, Tryz.ntmps145
  go_wp2_with (go_at_call 84; (with_reducible refine hd.mono ?_); rintro e u1 ⟨rfl, hb1⟩)
  rename_i Q0 K0 hK
  refine wp_region_any hmx ?_
  refine wpAny_pure (fun i__ => ([(.int .i32 (a : Int)), (.string s), (.int .i64 (k : Int)), (.string (s.extract k s.size)), (.int .i32 (a : Int)), (.string (s.extract k s.size))] : List Value).getD i__ undef) (fun W => Below w.heap.size w W) (by kernel_rfl) hb1.drew ?_ ?_
  · refine (stepsFrom_cons ?_ (stepsFrom_cons ?_ (stepsFrom_cons ?_ (stepsFrom_cons ?_ (stepsFrom_cons ?_ (stepsFrom_cons ?_ trivial))))))
    · exact step_move rfl trivial _ rfl (by kernel_rfl)
    · exact step_move rfl trivial _ rfl (by kernel_rfl)
    · exact step_move rfl trivial _ rfl (by kernel_rfl)
    · exact step_slice rfl trivial _ _ _ _ _ (some (.int .i64 (k : Int))) none rfl rfl rfl rfl (fun w hw => slice_str hk w)
    · exact step_assign rfl trivial _ rfl (by kernel_rfl) (fun _ h => h)
    · exact step_assign rfl trivial _ rfl (by kernel_rfl) (fun _ h => h)
  intro W hW
  first | refine hK _ _ ?_ | refine (‹∀ (a : Act) (w : World), Code.wp Tryz.prog _ _ a w → _›) _ _ ?_ | skip
  simp only [finL, List.getD_cons_zero, List.getD_cons_succ, Nat.zero_add, Nat.reduceAdd, List.setIfInBounds_toArray, List.set_cons_zero, List.set_cons_succ]
  go_wp2
  go_ret2
  exact ⟨rfl, hW⟩
/-- The kind of a mark. -/
def kd (c : Int) : Int := if c = 33 then 1 else if c = 63 then 2 else 0
set_option maxHeartbeats 400000 in
theorem kindOf_any (c : Int) (w : World) : Calls Tryz.prog 146 #[.int .i32 c] w fun e w' => e = .returned (.int .i64 (kd c)) ∧ Below w.heap.size w w' := by
  unfold kd
  by_cases h1 : c = 33
  · subst h1
    go_enter Tryz.func146, Tryz.ntmps146
    go_wp2
    go_ret
    exact ⟨rfl, Below.refl _ _⟩
  · rw [if_neg h1]
    by_cases h2 : c = 63
    · subst h2
      go_enter Tryz.func146, Tryz.ntmps146
      go_wp2
      go_ret
      exact ⟨rfl, Below.refl _ _⟩
    · rw [if_neg h2]
      go_enter Tryz.func146, Tryz.ntmps146
      go_wp2
      go_ret
      exact ⟨rfl, Below.refl _ _⟩


/-- A slice of runes that holds these, all below M. -/
def RdS (M : Nat) (W : World) (v : Value) (l : List Int) : Prop := ∃ ad cap, v = .slice ad l.length cap ∧ (l ≠ [] → ∃ g, ad = some ⟨g, 0, none⟩ ∧ g < M ∧ l.length ≤ cap ∧ ∀ j x, l[j]? = some x → W.cell? ⟨g, j, none⟩ = some (.int .i32 x))
/-- A map that tells the ids of these signs, below M. -/
def MpS (M : Nat) (W : World) (v : Value) (l : List Int) : Prop := (v = .map none ∧ l = []) ∨ ∃ b n, ∃ D : DataW Unit, v = .map (some b) ∧ b < M ∧ W.ownsMap Tryz.prog 21 (plainElem Tryz.prog 3) b n D ∧ MapOf D l
/-- A roster of these signs. -/
def Ros (M : Nat) (W : World) (v : Value) (l : List Int) : Prop := Signs l ∧ ∃ sl mp, v = .agg #[sl, mp] ∧ RdS M W sl l ∧ MpS M W mp l

theorem RdS.below {M : Nat} {W W' : World} {v : Value} {l : List Int} (h : RdS M W v l) (hb : Below M W W') : RdS M W' v l := by
  obtain ⟨ad, cap, rfl, hf⟩ := h
  refine ⟨ad, cap, rfl, fun hl => ?_⟩
  obtain ⟨g, rfl, h2, h3, h4⟩ := hf hl
  exact ⟨g, rfl, h2, h3, fun j x hj => (hb.cell (p := ⟨g, j, none⟩) h2).trans (h4 j x hj)⟩
theorem MpS.below {M : Nat} {W W' : World} {v : Value} {l : List Int} (h : MpS M W v l) (hb : Below M W W') : MpS M W' v l := by
  rcases h with h | ⟨b, n, D, rfl, h2, ⟨es, clock, h3, h4⟩, h5⟩
  · exact .inl h
  · exact .inr ⟨b, n, D, rfl, h2, ⟨es, clock, (hb.block b h2).trans h3, h4⟩, h5⟩
theorem Ros.below {M : Nat} {W W' : World} {v : Value} {l : List Int} (h : Ros M W v l) (hb : Below M W W') : Ros M W' v l := by
  obtain ⟨h0, sl, mp, rfl, h1, h2⟩ := h
  exact ⟨h0, sl, mp, rfl, h1.below hb, h2.below hb⟩
theorem ros_nil (M : Nat) (W : World) : Ros M W (.agg #[.slice none 0 0, .map none]) [] := ⟨signs_nil, _, _, rfl, ⟨none, 0, rfl, fun h => absurd rfl h⟩, .inl ⟨rfl, rfl⟩⟩

theorem Ros.form {M : Nat} {W : World} {v : Value} {l : List Int} (h : Ros M W v l) : ∃ ad cap mb, v = .agg #[.slice ad l.length cap, .map mb] := by
  obtain ⟨_, sl, mp, rfl, ⟨ad, cap, rfl, _⟩, hm⟩ := h
  rcases hm with ⟨rfl, _⟩ | ⟨b, _, _, rfl, _⟩
  · exact ⟨ad, cap, none, rfl⟩
  · exact ⟨ad, cap, some b, rfl⟩
theorem Ros.alloc {M : Nat} {W : World} {v : Value} {l : List Int} (h : Ros M W v l) (hM : M ≤ W.heap.size) (o : Obj) : Ros M (W.alloc o) v l := h.below ((Below.refl M W).alloc hM o)
theorem Ros.call {M : Nat} {W W' : World} {v : Value} {l : List Int} (h : Ros M W v l) (hM : M ≤ W.heap.size) (hb : Below W.heap.size W W') : Ros M W' v l := h.below (hb.mono hM)
theorem keyR : Maps.Keyed Tryz.prog 21 := Maps.int_keyed Tryz.underlying21
theorem zeroI (w : World) : (zeroValue 3).run Tryz.prog w = .ok (.int .i64 0) w := by kernel_rfl
theorem wf_i32 {c : Int} (h0 : -2147483648 ≤ c) (h1 : c ≤ 2147483647) : (Lit.int .i32 c).wf = true := by
  simp [Lit.wf, IntKind.min, IntKind.max, IntKind.signed, IntKind.bits]
  omega
/-- The place of a sign; nought if it is none. -/
def idOf (l : List Int) (c : Int) : Int := if c ∈ l then (l.idxOf c : Int) else 0
theorem look_any {M : Nat} {W : World} {v : Value} {l : List Int} (h : MpS M W v l) {c : Int} (h0 : -2147483648 ≤ c) (h1 : c ≤ 2147483647) :
    (Instr.lookup 31 v (.int .i32 c) true).run Tryz.prog W = .ok (.tuple #[.int .i64 (idOf l c), .bool (decide (c ∈ l))]) W := by
  have hk := Maps.keyOf_int_mk (P := Tryz.prog) Tryz.underlying21 (wf_i32 h0 h1)
  rcases h with ⟨rfl, rfl⟩ | ⟨b, n, D, rfl, _, h2, h3⟩
  · rw [Maps.look_nil true keyR Tryz.underlying31 (zeroI W) hk]
    simp [idOf]
  · obtain ⟨v, ps, hr, hv⟩ := h2.look_ok keyR Tryz.underlying31 (zeroI W) (plainElem_int Tryz.underlying3 (by decide)) hk
    rw [hr, h3.has]
    obtain ⟨x, rfl, hx, _⟩ := plainElem_int_inv Tryz.underlying3 hv
    have hx' := congrArg Prod.fst hx
    dsimp only at hx'
    by_cases hc : c ∈ l
    · rw [h3.at' c hc] at hx'
      simp at hx'
      rw [idOf, if_pos hc, hx']
    · rw [Maps.atKey_of_not_has (by rw [h3.has]; simp [hc])] at hx'
      simp at hx'
      rw [idOf, if_neg hc, hx']

set_option maxHeartbeats 400000 in
theorem sizeP_any (ad : Option Addr) (n cap : Nat) (mp : Value) (w : World) : Calls Tryz.prog 15 #[.agg #[.slice ad n cap, mp]] w fun e w' => e = .returned (.int .i64 n) ∧ Below w.heap.size w w' := by
  go_enter Tryz.func15, Tryz.ntmps15
  go_wp2
  go_ret
  exact ⟨rfl, (Below.refl _ w).alloc (Nat.le_refl _) _⟩
theorem size_any {M : Nat} {v : Value} {l : List Int} (w : World) (h : Ros M w v l) : Calls Tryz.prog 15 #[v] w fun e w' => e = .returned (.int .i64 l.length) ∧ Below w.heap.size w w' := by
  obtain ⟨_, sl, mp, rfl, ⟨ad, cap, rfl, _⟩, _⟩ := h
  exact sizeP_any ad _ cap mp w

/-- What Id answers. -/
def idV (l : List Int) (c : Int) : Value := if c ∈ l then .tuple #[.int .i64 (l.idxOf c : Int), .int .i64 0] else .tuple #[.int .i64 0, .int .i64 41]
set_option maxHeartbeats 400000 in
theorem id_any {M : Nat} {v : Value} {l : List Int} (w : World) (h : Ros M w v l) (hM : M ≤ w.heap.size) {c : Int} (h0 : -2147483648 ≤ c) (h1 : c ≤ 2147483647) : Calls Tryz.prog 128 #[v, .int .i32 c] w fun e w' => e = .returned (idV l c) ∧ Below w.heap.size w w' := by
  obtain ⟨_, sl, mp, rfl, _, h2⟩ := h
  have hlk := look_any (h2.below (((Below.refl _ w).alloc (Nat.le_refl _) (.cells #[sl, mp] 33)).mono hM)) h0 h1
  by_cases hc : c ∈ l
  · have e1 : idV l c = .tuple #[.int .i64 (idOf l c), .int .i64 0] := by rw [idV, if_pos hc, idOf, if_pos hc]
    rw [e1, decide_eq_true hc] at *
    generalize idOf l c = x at *
    clear hc h2
    go_enter Tryz.func128, Tryz.ntmps128
    go_wp2
    go_ret2
    exact ⟨rfl, (Below.refl _ w).alloc (Nat.le_refl _) _⟩
  · have e1 : idV l c = .tuple #[.int .i64 0, .int .i64 41] := by rw [idV, if_neg hc]
    rw [e1, decide_eq_false hc] at *
    generalize idOf l c = x at *
    clear hc h2
    go_enter Tryz.func128, Tryz.ntmps128
    go_wp2
    go_ret2
    exact ⟨rfl, (Below.refl _ w).alloc (Nat.le_refl _) _⟩

/-- What sizeError answers. -/
def szE (s : ByteArray) : Int := if 65536 < s.size then 2 else if s.size = 0 then 40 else 0
set_option maxHeartbeats 400000 in
theorem sizeError_any (s : ByteArray) (hs : s.size ≤ maxLen) (w : World) : Calls Tryz.prog 22 #[.string s] w fun e w' => e = .returned (.int .i64 (szE s)) ∧ w' = w := by
  unfold maxLen at hs
  by_cases h1 : 65536 < s.size
  · have e : szE s = 2 := by rw [szE, if_pos h1]
    rw [e]
    go_enter Tryz.func22, Tryz.ntmps22
    go_wp2
    go_ret
    exact ⟨rfl, rfl⟩
  · by_cases h2 : s.size = 0
    · have e : szE s = 40 := by rw [szE, if_neg h1, if_pos h2]
      have hs : s = ⟨#[]⟩ := ByteArray.ext (Array.eq_empty_of_size_eq_zero h2)
      rw [e]
      subst hs
      go_enter Tryz.func22, Tryz.ntmps22
      go_wp2
      go_ret
      exact ⟨rfl, rfl⟩
    · have e : szE s = 0 := by rw [szE, if_neg h1, if_neg h2]
      have hne : s.toList.isEmpty = false := by
        rw [Lib.toList_data]
        cases hd : s.data.toList with
        | nil => exact absurd (by rw [Lib.size_eq, hd]; rfl) h2
        | cons a b => rfl
      rw [e]
      go_enter Tryz.func22, Tryz.ntmps22
      go_wp2
      go_ret
      exact ⟨rfl, rfl⟩

/-- What newSignError answers. -/
def nwE (l : List Int) (c : Int) : Int := if cls c = 4 then (if c ∈ l then 42 else if l.length < 100 then 0 else 2) else 41
/-- A roster as it is being read. -/
def RosP (M : Nat) (W : World) (v : Value) (l : List Int) : Prop := ∃ ad cap mp, v = .agg #[.slice ad l.length cap, mp] ∧ MpS M W mp l
set_option maxHeartbeats 1000000 in
set_option maxRecDepth 100000 in
theorem newSign_any {M : Nat} {v : Value} {l : List Int} (w : World) (hl : l.length ≤ 100) (h : RosP M w v l) (hM : M ≤ w.heap.size) {c : Int} (h0 : -2147483648 ≤ c) (h1 : c ≤ 2147483647) : Calls Tryz.prog 23 #[v, .int .i32 c] w fun e w' => e = .returned (.int .i64 (nwE l c)) ∧ Below w.heap.size w w' := by
  obtain ⟨ad, cap, mp, rfl, h2⟩ := h
  have hlk := look_any (h2.below (((Below.refl _ w).alloc (Nat.le_refl _) (.cells #[.slice ad l.length cap, mp] 33)).mono hM)) h0 h1
  have hcl := class_any c
  by_cases hc : cls c = 4
  · rw [hc] at hcl
    by_cases hm : c ∈ l
    · have e1 : nwE l c = 42 := by rw [nwE, if_pos hc, if_pos hm]
      rw [e1]
      rw [decide_eq_true hm] at hlk
      generalize idOf l c = x at *
      clear hm h2
      go_enter Tryz.func23, Tryz.ntmps23
      go_wp2_with (go_at_call 44; refine (hcl _).mono ?_; rintro e w1 ⟨rfl, rfl⟩)
      go_ret
      exact ⟨rfl, (Below.refl _ w).alloc (Nat.le_refl _) _⟩
    · by_cases hn : l.length < 100
      · have e1 : nwE l c = 0 := by rw [nwE, if_pos hc, if_neg hm, if_pos hn]
        rw [e1]
        rw [decide_eq_false hm] at hlk
        generalize idOf l c = x at *
        clear hm h2
        go_enter Tryz.func23, Tryz.ntmps23
        go_wp2_with (first | (go_at_call 44; refine (hcl _).mono ?_; rintro e w1 ⟨rfl, rfl⟩) | (go_at_call 15; refine (sizeP_any ad l.length cap mp _).mono ?_; rintro e w2 ⟨rfl, hb2⟩))
        go_ret
        exact ⟨rfl, ((Below.refl _ w).alloc (Nat.le_refl _) _).trans (hb2.mono (by simp))⟩
      · have e1 : nwE l c = 2 := by rw [nwE, if_pos hc, if_neg hm, if_neg hn]
        rw [e1]
        rw [decide_eq_false hm] at hlk
        generalize idOf l c = x at *
        clear hm h2
        go_enter Tryz.func23, Tryz.ntmps23
        go_wp2_with (first | (go_at_call 44; refine (hcl _).mono ?_; rintro e w1 ⟨rfl, rfl⟩) | (go_at_call 15; refine (sizeP_any ad l.length cap mp _).mono ?_; rintro e w2 ⟨rfl, hb2⟩))
        go_ret
        exact ⟨rfl, ((Below.refl _ w).alloc (Nat.le_refl _) _).trans (hb2.mono (by simp))⟩
  · have e1 : nwE l c = 41 := by rw [nwE, if_neg hc]
    have hne : (cls c == 4) = false := beq_eq_false_iff_ne.2 hc
    rw [e1]
    generalize cls c = y at *
    go_enter Tryz.func23, Tryz.ntmps23
    go_wp2_with (go_at_call 44; refine (hcl _).mono ?_; rintro e w1 ⟨rfl, rfl⟩)
    go_ret
    exact ⟨rfl, (Below.refl _ w).alloc (Nat.le_refl _) _⟩

theorem infoR : (Tryz.prog.info? 21).map (fun i => (i.zero, i.size, i.bytes)) = some (some (.int .i32 0), 1, 4) := by kernel_rfl
def runesV (l : List Int) : List Value := l.map (.int .i32)
theorem grown_below {W W' : World} (hb : Below W.heap.size W W') : W.grownBy W' none := ⟨hb.os, hb.tape, hb.output, hb.size, fun i hi _ => hb.block i hi⟩
theorem row_kept {w w' : World} {base : Nat} {e : TypeId} {size : Nat} {v : Value} {n : Nat} {xs : List Value} {row : Option Nat} (h : w.ownsRow base e size v n xs) (hg : w.grownBy w' row) (hr : ∀ k, row = some k → k < base) : w'.ownsRow base e size v n xs := by
  obtain ⟨h1, h2⟩ := h
  refine ⟨h1, ?_⟩
  rcases h2 with h2 | ⟨g, cap, cur, h3, h4, h5, h6⟩
  · exact .inl h2
  · exact .inr ⟨g, cap, cur, h3, h4, (hg.block g (lt_at h5) (fun e => by have := hr g e.symm; omega)).trans h5, h6⟩
theorem row_form {w : World} {base : Nat} {e : TypeId} {size : Nat} {v : Value} {n : Nat} {xs : List Value} (h : w.ownsRow base e size v n xs) : ∃ ad cap, v = .slice ad n cap ∧ (0 < n → ∃ g, ad = some ⟨g, 0, none⟩ ∧ base ≤ g ∧ g < w.heap.size ∧ n ≤ cap ∧ ∀ j u, xs[j]? = some u → w.cell? ⟨g, j, none⟩ = some u) := by
  obtain ⟨h1, h2⟩ := h
  rcases h2 with ⟨rfl, rfl⟩ | ⟨g, cap, cur, rfl, h4, h5, h6, h7, h8, h9⟩
  · exact ⟨none, 0, rfl, fun h => absurd h (by omega)⟩
  · refine ⟨some ⟨g, 0, none⟩, cap, rfl, fun _ => ⟨g, rfl, h4, lt_at h5, h6, fun j u hj => ?_⟩⟩
    rw [cell_at h5 j, ← hj, ← h9, List.getElem?_take]
    have hjl : j < n * size := by have := (List.getElem?_eq_some_iff.1 hj).1; omega
    rw [if_pos hjl, Array.getElem?_toList]
theorem row_block {w : World} {base : Nat} {e : TypeId} {size : Nat} {v : Value} {n : Nat} {xs : List Value} (h : w.ownsRow base e size v n xs) : ∀ g, v.ownBlock = some g → base ≤ g := by
  intro g hg
  rcases h.2 with ⟨rfl, _⟩ | ⟨g', cap, cur, rfl, h4, h5, _⟩
  · cases hg
  · cases hg
    exact h4
theorem one_at (W : World) (a : Value) (t : TypeId) : ∀ j u, [a][j]? = some u → (W.alloc (.cells #[a] t)).cell? ((⟨W.heap.size, 0, none⟩ : Addr).add j) = some u := by
  intro j u h
  have hg : (W.alloc (.cells #[a] t)).heap[W.heap.size]? = some (.cells #[a] t) := new_at rfl
  have ha : (⟨W.heap.size, 0, none⟩ : Addr).add j = ⟨W.heap.size, j, none⟩ := by unfold Addr.add; split <;> simp_all
  rw [ha, cell_at hg j, ← h]
  simp
theorem put_at {W : World} {B : Nat} {cs : Array Value} {t : TypeId} {z : Nat × Nat} (j : Nat) (v : Value) (h : W.heap[B]? = some (.cells cs t z)) : (W.setCell ⟨B, j, none⟩ v).heap[B]? = some (.cells (cs.setIfInBounds j v) t z) := by
  simp [World.setCell, Array.getElem?_modify, h]

/-- What Read has laid, as it goes: blocks B to B + 3, and the signs behind them. -/
structure RdH (B : Nat) (s : ByteArray) (pos : Nat) (l : List Int) (v : Value) (D : DataW Unit) (W : World) : Prop where
  res : W.heap[B]? = some (.cells #[.slice none 0 0, .map none] 33 (0, 0))
  mp : W.ownsMap Tryz.prog 21 (plainElem Tryz.prog 3) (B + 1) l.length D
  mo : MapOf D l
  var : W.heap[B + 2]? = some (.cells #[v, .map (some (B + 1))] 33 (0, 0))
  it : W.heap[B + 3]? = some (.stringIter s pos)
  row : W.ownsRow (B + 4) 21 1 v l.length (runesV l)
theorem RdH.lt {B : Nat} {s : ByteArray} {pos : Nat} {l : List Int} {v : Value} {D : DataW Unit} {W : World} (h : RdH B s pos l v D W) : B + 4 ≤ W.heap.size := lt_at h.it
theorem RdH.below {B : Nat} {s : ByteArray} {pos : Nat} {l : List Int} {v : Value} {D : DataW Unit} {W W' : World} (h : RdH B s pos l v D W) (hb : Below W.heap.size W W') : RdH B s pos l v D W' := by
  have hl := h.lt
  exact ⟨(hb.block _ (by omega)).trans h.res, h.mp.kept (grown_below hb) (by simp), h.mo, (hb.block _ (by omega)).trans h.var, (hb.block _ (by omega)).trans h.it, row_kept h.row (grown_below hb) (fun k e => by cases e)⟩
theorem RdH.step {B : Nat} {s : ByteArray} {pos : Nat} {l : List Int} {v : Value} {D : DataW Unit} {W : World} (h : RdH B s pos l v D W) (q : Nat) : RdH B s q l v D (W.iterAt (B + 3) s q) := by
  obtain ⟨es, clock, h3, h4⟩ := h.mp
  exact ⟨(iterAt_other _ _ _ _ _ (by omega)).trans h.res, ⟨es, clock, (iterAt_other _ _ _ _ _ (by omega)).trans h3, h4⟩, h.mo, (iterAt_other _ _ _ _ _ (by omega)).trans h.var, iterAt_heap _ _ _ _ _ h.it, ownsRow_iterAt h.row (by omega) s q⟩
theorem RdH.ros {B : Nat} {s : ByteArray} {pos : Nat} {l : List Int} {v : Value} {D : DataW Unit} {W : World} (h : RdH B s pos l v D W) : RosP W.heap.size W (.agg #[v, .map (some (B + 1))]) l := by
  have hl := h.lt
  obtain ⟨ad, cap, rfl, _⟩ := row_form h.row
  exact ⟨ad, cap, _, rfl, .inr ⟨B + 1, l.length, D, rfl, by omega, h.mp, h.mo⟩⟩
theorem RdH.push {B : Nat} {s : ByteArray} {pos : Nat} {l : List Int} {v v' : Value} {D : DataW Unit} {W W4 W5 : World} {c : Int} {o : Obj} (h : RdH B s pos l v D W) (hc : ¬ c ∈ l) (hg4 : W.grownBy W4 (some (B + 1)))
    (hmp4 : W4.ownsMap Tryz.prog 21 (plainElem Tryz.prog 3) (B + 1) (l.length + 1) (D.put (.int .i32 c) (.lit (.int .i64 l.length))))
    (hown : W5.ownsRow (B + 4) 21 1 v' (l.length + 1) (runesV l ++ [.int .i32 c])) (hg5 : (W4.alloc o).grownBy W5 v.ownBlock) :
    RdH B s pos (l ++ [c]) v' (D.put (.int .i32 c) (.lit (.int .i64 l.length))) (W5.setCell ⟨B + 2, 0, none⟩ v') := by
  have hl := h.lt
  have hl4 : B + 4 ≤ W4.heap.size := Nat.le_trans hl hg4.size
  have hne : ∀ k, k < B + 4 → some k ≠ v.ownBlock := fun k hk e => by have := row_block h.row k e.symm; omega
  have k5 : ∀ k, k < B + 4 → k ≠ B + 1 → W5.heap[k]? = W.heap[k]? := fun k hk hk1 => (hg5.block k (by simp; omega) (hne k hk)).trans ((Below.heap_alloc W4 o k (by omega)).trans (hg4.block k (by omega) (by simpa using hk1)))
  refine ⟨(Below.heap_setCell _ _ _ _ (by simp)).trans ((k5 B (by omega) (by omega)).trans h.res), ?_, mapOf_snoc h.mo hc, ?_, (Below.heap_setCell _ _ _ _ (by simp)).trans ((k5 _ (by omega) (by omega)).trans h.it), ?_⟩
  · have h1 := (hmp4.alloc o).kept hg5 (hne _ (by omega))
    have h2 := h1.setCell (a := ⟨B + 2, 0, none⟩) (by simp) v'
    simpa using h2
  · have h1 := put_at 0 v' ((k5 (B + 2) (by omega) (by omega)).trans h.var)
    simpa using h1
  · have h1 := ownsRow_setCell_below hown (a := ⟨B + 2, 0, none⟩) (by simp) v'
    simpa [runesV] using h1
theorem ret_ros {f : Func} {p q r : Tmp} {R : Ending → World → Prop} {a : Act} {w : World} {b : Nat} {u v x y : Value} (hres : f.results = #[.cell p 33, .tmp q, .tmp r]) (hp : a.tmps.getD p undef = .pointer (some ⟨b, 0, none⟩)) (hq : a.tmps.getD q undef = x) (hr : a.tmps.getD r undef = y) (hd : a.defers = [])
    (h : w.heap[b]? = some (.cells #[u, v] 33 (0, 0))) (hR : R (.returned (.tuple #[.agg #[u, v], x, y])) w) : bodyPost Tryz.prog f R .ret a w := by
  refine bodyPost_ret (v := .tuple #[.agg #[u, v], x, y]) ?_ hd hR
  have h1 := run_loadVar_row (P := Tryz.prog) w b 33 33 #[u, v] (0, 0) _ h Tryz.underlying33 rfl (by kernel_rfl)
  have hp' : a.tmps[p]?.getD undef = .pointer (some ⟨b, 0, none⟩) := by simpa using hp
  have hq' : a.tmps[q]?.getD undef = x := by simpa using hq
  have hr' : a.tmps[r]?.getD undef = y := by simpa using hr
  simp [results, hres, hp', hq', hr', asAddr, h1]
/-- What Read answers, and where it lies. -/
def RdV (s : ByteArray) (e : Ending) (W : World) : Prop := ∃ v, e = .returned (.tuple #[v, .int .i64 (readR s).2.1, .int .i64 (readR s).2.2]) ∧ Ros W.heap.size W v (readR s).1
theorem rdV_nil {s : ByteArray} {x y : Int} (h : readR s = ([], x, y)) (W : World) : RdV s (.returned (.tuple #[.agg #[.slice none 0 0, .map none], .int .i64 x, .int .i64 y])) W := ⟨_, by rw [h], by rw [h]; exact ros_nil _ _⟩
theorem below_set2 {w W : World} {n B : Nat} (h : Below n w W) (hB : n ≤ B) (a b : Value) : Below n w ((W.setCell ⟨B, 0, none⟩ a).setCell ⟨B, 1, none⟩ b) := (h.setCell (p := ⟨B, 0, none⟩) hB a).setCell (p := ⟨B, 1, none⟩) hB b

set_option maxHeartbeats 4000000 in
set_option maxRecDepth 100000 in
theorem read_any (s : ByteArray) (hs : s.size ≤ maxLen) (w : World) : Calls Tryz.prog 9 #[.string s] w fun e w' => RdV s e w' ∧ Below w.heap.size w w' := by
  have hsz := sizeError_any s hs
  have hmm := @run_makeMap Tryz.prog
  by_cases h1 : 65536 < s.size
  · have hR : readR s = ([], 0, 2) := by rw [readR, if_pos h1]
    rw [show szE s = 2 by rw [szE, if_pos h1]] at hsz
    have HR : Hid (readR s = ([], 0, 2)) := hR
    clear hR
    go_enter Tryz.func9, Tryz.ntmps9
    go_wp2_with (go_at_call 22; refine (hsz _).mono ?_; rintro e w1 ⟨rfl, rfl⟩)
    exact ret_ros rfl rfl rfl rfl rfl (new_at rfl) ⟨rdV_nil HR.out _, (Below.refl _ w).alloc (Nat.le_refl _) _⟩
  by_cases h2 : s.size = 0
  · have hR : readR s = ([], 0, 40) := by rw [readR, if_neg h1, if_pos h2]
    rw [show szE s = 40 by rw [szE, if_neg h1, if_pos h2]] at hsz
    have HR : Hid (readR s = ([], 0, 40)) := hR
    clear hR
    go_enter Tryz.func9, Tryz.ntmps9
    go_wp2_with (go_at_call 22; refine (hsz _).mono ?_; rintro e w1 ⟨rfl, rfl⟩)
    exact ret_ros rfl rfl rfl rfl rfl (new_at rfl) ⟨rdV_nil HR.out _, (Below.refl _ w).alloc (Nat.le_refl _) _⟩
  have hR : readR s = rdGo [] (charsOf s) := by rw [readR, if_neg h1, if_neg h2]
  rw [show szE s = 0 by rw [szE, if_neg h1, if_neg h2]] at hsz
  have HR : Hid (readR s = rdGo [] (charsOf s)) := hR
  clear hR
  obtain ⟨ic, hic, hz0, hz1, hz2⟩ := info_parts infoR
  go_enter Tryz.func9, Tryz.ntmps9
  go_wp2_with (go_at_call 22; refine (hsz _).mono ?_; rintro e w1 ⟨rfl, rfl⟩)
  clear hsz
  go_loopw [] (fun wr => ∃ (pos fuel : Nat) (l : List Int) (v : Value) (D : DataW Unit), Hid (rdGo l (charsFrom s fuel pos) = rdGo [] (charsOf s)) ∧ s.size ≤ pos + fuel ∧ Signs l ∧ RdH w.heap.size s pos l v D wr ∧ Below w.heap.size w wr) (fun wr => s.size - wr.iterPos (w.heap.size + 3))
  case atStart =>
    have hr : Hid (rdGo [] (charsFrom s s.size 0) = rdGo [] (charsOf s)) := rfl
    refine ⟨0, s.size, [], .slice none 0 0, .map [], hr, by omega, signs_nil, ⟨old_at (old_at (old_at (new_at rfl))), ?_, mapOf_nil, old_at (new_at (by simp)), new_at (by simp), ⟨rfl, .inl ⟨rfl, rfl⟩⟩⟩, ?_⟩
    · have h := ((World.ownsMap_made (w.alloc (.cells #[.slice none 0 0, .map none] 33)) Tryz.prog 21 (plainElem (H := Unit) Tryz.prog 3)).alloc (.cells #[.slice none 0 0, .map (some (w.heap.size + 1))] 33)).alloc (.stringIter s 0)
      have e1 : (w.alloc (.cells #[.slice none 0 0, .map none] 33)).heap.size = w.heap.size + 1 := by simp
      rw [e1] at h
      exact h
    · exact ((((Below.refl _ w).alloc (Nat.le_refl _) _).alloc (by simp) _).alloc (by simp; omega) _).alloc (by simp; omega) _
  case round =>
    obtain ⟨pos, fuel, l, v, D, hgo, hfu, hsg, hH, hbw⟩ := hrel
    have hlt := hH.lt
    have hls := hsg.short
    have hit := hH.it
    by_cases hp : pos < s.size
    · have hnx : ∀ ty, (Instr.next (.pointer (some ⟨w.heap.size + 3, 0, none⟩)) true ty).run Tryz.prog wr = .ok (.tuple #[.bool true, .int .i64 pos, .int .i32 (rn s pos)]) (wr.iterAt (w.heap.size + 3) s (pos + wdt s pos)) := fun ty => Lib.run_next_any_at wr (w.heap.size + 3) s pos ty hit hp
      have hwd := wdt_pos s pos
      have hrn := rn_le s pos
      have hb2 := Lib.below_iterAt hbw (k := w.heap.size + 3) (by omega) s (pos + wdt s pos)
      have hH2 := hH.step (pos + wdt s pos)
      obtain ⟨f, rfl⟩ : ∃ f, fuel = f + 1 := ⟨fuel - 1, by omega⟩
      rw [charsFrom_step s f pos hp] at hgo
      have hmeas : wr.iterPos (w.heap.size + 3) = pos := by simp only [World.iterPos, hit]
      generalize hW1 : wr.iterAt (w.heap.size + 3) s (pos + wdt s pos) = W1 at *
      clear hW1
      obtain ⟨ad, cap, rfl, _⟩ := row_form hH2.row
      have c0 := cell_at hH2.var 0
      have c1 := cell_at hH2.var 1
      have f0 := thaw_at hH2.var 0
      have hlt2 := hH2.lt
      have hcall := newSign_any W1 hls hH2.ros (Nat.le_refl _) (c := (rn s pos : Int)) (by omega) (by omega)
      have HR0 := HR
      have HR2 : Hid (readR s = rdGo l ((rn s pos : Int) :: charsFrom s f (pos + wdt s pos))) := HR.out.trans hgo.out.symm
      clear hgo HR
      by_cases hC : cls (rn s pos : Int) = 4 ∧ ¬ (rn s pos : Int) ∈ l ∧ l.length < 100
      · have e0 : nwE l (rn s pos : Int) = 0 := by rw [nwE, if_pos hC.1, if_neg hC.2.1, if_pos hC.2.2]
        have HR3 : Hid (readR s = rdGo (l ++ [(rn s pos : Int)]) (charsFrom s f (pos + wdt s pos))) := by
          have := HR2.out
          rw [rdGo, if_pos hC.1, if_neg hC.2.1, if_pos hC.2.2] at this
          exact this
        have hC2 : Hid (cls (rn s pos : Int) = 4 ∧ ¬ (rn s pos : Int) ∈ l ∧ l.length < 100) := hC
        rw [e0] at hcall
        clear e0 HR2 hC
        have hkey := Maps.keyOf_int_mk (P := Tryz.prog) Tryz.underlying21 (wf_i32 (c := (rn s pos : Int)) (by omega) (by omega))
        generalize (rn s pos : Int) = c at *
        have hwr : w.heap.size ≤ W1.heap.size := by omega
        go_wp2_with (first | (go_at_call 23; refine hcall.mono ?_; rintro e W2 ⟨rfl, hb3⟩; have hH3 := hH2.below hb3; have d0 := cell_at hH3.var 0; have d1 := cell_at hH3.var 1; have hlt3 := hH3.lt) | (at_mapUpdate; refine wpList_mapUpdate_own _ rfl _ _ _ 31 rfl 21 3 keyR Tryz.underlying31 _ (w.heap.size + 1) l.length _ rfl hH3.mp (by unfold maxLen; omega) _ _ _ rfl rfl hkey _ [] (plainElem_int Tryz.underlying3 (WalkArith.wf_i64 (by omega))) ?_; intro W4 hmp4 hg4; have hv4 := (hg4.block (w.heap.size + 2) (by omega) (by simp)).trans hH3.var; have e0 := cell_at hv4 0; have hr4 := row_kept hH3.row hg4 (fun k e => by cases e; omega); have hl4 := Nat.le_trans hlt3 hg4.size) | (at_builtin; refine wpList_append_own _ rfl _ _ 30 rfl (w.heap.size + 4) 21 ic _ 1 4 Tryz.underlying30 hic hz0 hz1 hz2 rfl (by decide) _ _ _ rfl (hr4.alloc _) ⟨W4.heap.size, 0, none⟩ 1 1 [.int .i32 c] rfl rfl (one_at _ _ _) (by simp [Value.oneCell']) (by unfold maxLen; omega) (by omega) (by simp; omega) ?_; intro v' W5 hown' hgrow _; obtain ⟨ad', cap', rfl, _⟩ := row_form hown'; have hH5 := hH3.push hC2.out.2.1 hg4 hmp4 hown' hgrow; have hv5 := (hgrow.block (w.heap.size + 2) (by simp; omega) (fun e => absurd (row_block hH3.row _ e.symm) (by omega))).trans (old_at hv4); have i0 := cell_at hv5 0; have j0 := thaw_at hv5 0; have hb5 : Below w.heap.size w W5 := (((hb2.trans (hb3.mono (by omega))).grown hg4 (by omega) (fun k e => by cases e; omega)).alloc (by omega) _).grown hgrow (by simp; omega) (fun k e => by have := row_block hH3.row k e; omega)))
        go_roundw
        case rel =>
          have hG : Hid (rdGo (l ++ [c]) (charsFrom s f (pos + wdt s pos)) = rdGo [] (charsOf s)) := HR3.out.symm.trans HR0.out
          exact ⟨pos + wdt s pos, f, l ++ [c], _, _, hG, by omega, signs_snoc hsg hC2.out.1 hC2.out.2.1 hC2.out.2.2, hH5, hb5.setCell (p := ⟨w.heap.size + 2, 0, none⟩) (by simp) _⟩
        case measure =>
          simp only [World.iterPos, hH5.it, hit]
          omega
      · have e0 : nwE l (rn s pos : Int) ≠ 0 ∧ readR s = ([], (l.length : Int), nwE l (rn s pos : Int)) := by
          have := HR2.out
          rw [rdGo] at this
          unfold nwE
          by_cases q1 : cls (rn s pos : Int) = 4
          · rw [if_pos q1] at this ⊢
            by_cases q2 : (rn s pos : Int) ∈ l
            · rw [if_pos q2] at this ⊢; exact ⟨by decide, this⟩
            · rw [if_neg q2] at this ⊢
              by_cases q3 : l.length < 100
              · exact absurd ⟨q1, q2, q3⟩ hC
              · rw [if_neg q3] at this ⊢; exact ⟨by decide, this⟩
          · rw [if_neg q1] at this ⊢; exact ⟨by decide, this⟩
        obtain ⟨e1, e2⟩ := e0
        have HE : Hid (readR s = ([], (l.length : Int), nwE l (rn s pos : Int))) := e2
        have hne : (nwE l (rn s pos : Int) == 0) = false := beq_eq_false_iff_ne.2 e1
        clear e1 e2 HR2 hC
        generalize nwE l (rn s pos : Int) = x at *
        generalize (rn s pos : Int) = c at *
        go_wp2_with (go_at_call 23; refine hcall.mono ?_; rintro e W2 ⟨rfl, hb3⟩; have hH3 := hH2.below hb3; have d0 := cell_at hH3.res 0; have d1 := cell_at hH3.res 1; have d2 := thaw_at hH3.res 0; have d3 := thaw_at hH3.res 1; have hlt3 := hH3.lt)
        exact ret_ros rfl rfl rfl rfl rfl (put_at 1 _ (put_at 0 _ hH3.res)) ⟨rdV_nil HE.out _, below_set2 (hb2.trans (hb3.mono (by omega))) (Nat.le_refl _) _ _⟩
    · have hnx : ∀ ty, (Instr.next (.pointer (some ⟨w.heap.size + 3, 0, none⟩)) true ty).run Tryz.prog wr = .ok (.tuple #[.bool false]) wr := fun ty => Lib.run_next_end_at wr (w.heap.size + 3) s pos ty hit hp
      have HE : Hid (readR s = (l, 0, 0)) := by
        have := hgo.out
        rw [charsFrom_end s fuel pos hp, rdGo] at this
        exact HR.out.trans this.symm
      obtain ⟨ad, cap, rfl, hrow⟩ := row_form hH.row
      have c0 := cell_at hH.var 0
      have c1 := cell_at hH.var 1
      have d0 := cell_at hH.res 0
      have d1 := cell_at hH.res 1
      have d2 := thaw_at hH.res 0
      have d3 := thaw_at hH.res 1
      clear hgo HR
      go_wp2
      refine ret_ros rfl rfl rfl rfl rfl (put_at 1 _ (put_at 0 _ hH.res)) ⟨⟨_, by rw [HE.out]; rfl, ?_⟩, below_set2 hbw (Nat.le_refl _) _ _⟩
      rw [HE.out]
      have hbl : Below (w.heap.size + 4) wr wr := Below.refl _ _
      refine ⟨hsg, _, _, rfl, ⟨ad, cap, rfl, fun hl => ?_⟩, .inr ⟨w.heap.size + 1, l.length, D, rfl, by simp; omega, (hH.mp.setCell (a := ⟨w.heap.size, 0, none⟩) (by simp) _).setCell (a := ⟨w.heap.size, 1, none⟩) (by simp) _, hH.mo⟩⟩
      obtain ⟨g, rfl, g1, g2, g3, g4⟩ := hrow (List.length_pos_iff.2 hl)
      refine ⟨g, rfl, by simp; exact g2, g3, fun j x hj => ?_⟩
      have e1 : ∀ (W : World) (k : Nat) (u : Value), k < g → (W.setCell ⟨k, 0, none⟩ u).cell? ⟨g, j, none⟩ = W.cell? ⟨g, j, none⟩ := fun W k u hk => World.cell?_of_block (Below.heap_setCell _ _ _ _ (by simp; omega))
      have e2 : ∀ (W : World) (k : Nat) (u : Value), k < g → (W.setCell ⟨k, 1, none⟩ u).cell? ⟨g, j, none⟩ = W.cell? ⟨g, j, none⟩ := fun W k u hk => World.cell?_of_block (Below.heap_setCell _ _ _ _ (by simp; omega))
      rw [e2 _ _ _ (by omega), e1 _ _ _ (by omega)]
      exact g4 j _ (by simp [runesV, hj])
end Go.Proofs.YtnkpohkodkjkfaaGreatDoor
