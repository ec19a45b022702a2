/- A roster in a world; Size, Id, Sign, newSignError, sizeError: what they answer, at every roster. -/
import Derived.Test.YtebpngapkkdifaaDoorRos
import Derived.Test.YtebpngapkkdifaaDoorBxs
import Derived.Maps.AppendAt
import Derived.OwnWalk
import Derived.Carry
import Derived.Laws.Cover4
import Derived.Deep.WholeRow
namespace Go.Proofs.YtebpngapkkdifaaDoor
open Go.RowKit Go.Shelf Go.Lib


/-- A slice of runes that holds these, all below M. -/
def RdS (M : Nat) (W : World) (v : Value) (l : List Int) : Prop := ∃ ad cap, v = .slice ad l.length cap ∧ (l ≠ [] → ∃ g, ad = some ⟨g, 0, none⟩ ∧ g < M ∧ l.length ≤ cap ∧ ∀ j x, l[j]? = some x → W.cell? ⟨g, j, none⟩ = some (.int .i32 x))
/-- A map that tells the ids of these signs, below M. -/
def MpS (M : Nat) (W : World) (v : Value) (l : List Int) : Prop := (v = .map none ∧ l = []) ∨ ∃ b n, ∃ D : DataW Unit, v = .map (some b) ∧ b < M ∧ W.ownsMap Tryd.prog 21 (plainElem Tryd.prog 3) b n D ∧ MapOf D l
/-- A roster of these signs. -/
def Ros (M : Nat) (W : World) (v : Value) (l : List Int) : Prop := Signs l ∧ ∃ sl mp, v = .agg #[sl, mp] ∧ RdS M W sl l ∧ MpS M W mp l

theorem RdS.below {M : Nat} {W W' : World} {v : Value} {l : List Int} (h : RdS M W v l) (hb : Below M W W') : RdS M W' v l := by
  obtain ⟨ad, cap, rfl, hf⟩ := h
  refine ⟨ad, cap, rfl, fun hl => ?_⟩
  obtain ⟨g, rfl, h2, h3, h4⟩ := hf hl
  exact ⟨g, rfl, h2, h3, fun j x hj => (hb.cell (p := ⟨g, j, none⟩) h2).trans (h4 j x hj)⟩
theorem MpS.below {M : Nat} {W W' : World} {v : Value} {l : List Int} (h : MpS M W v l) (hb : Below M W W') : MpS M W' v l := by
  rcases h with h | ⟨b, n, D, rfl, h2, ⟨es, clock, h3, h4⟩, h5⟩
  · exact .inl h
  · exact .inr ⟨b, n, D, rfl, h2, ⟨es, clock, (hb.block b h2).trans h3, h4⟩, h5⟩
theorem Ros.below {M : Nat} {W W' : World} {v : Value} {l : List Int} (h : Ros M W v l) (hb : Below M W W') : Ros M W' v l := by
  obtain ⟨h0, sl, mp, rfl, h1, h2⟩ := h
  exact ⟨h0, sl, mp, rfl, h1.below hb, h2.below hb⟩
theorem ros_nil (M : Nat) (W : World) : Ros M W (.agg #[.slice none 0 0, .map none]) [] := ⟨signs_nil, _, _, rfl, ⟨none, 0, rfl, fun h => absurd rfl h⟩, .inl ⟨rfl, rfl⟩⟩

theorem Ros.form {M : Nat} {W : World} {v : Value} {l : List Int} (h : Ros M W v l) : ∃ ad cap mb, v = .agg #[.slice ad l.length cap, .map mb] := by
  obtain ⟨_, sl, mp, rfl, ⟨ad, cap, rfl, _⟩, hm⟩ := h
  rcases hm with ⟨rfl, _⟩ | ⟨b, _, _, rfl, _⟩
  · exact ⟨ad, cap, none, rfl⟩
  · exact ⟨ad, cap, some b, rfl⟩
theorem Ros.alloc {M : Nat} {W : World} {v : Value} {l : List Int} (h : Ros M W v l) (hM : M ≤ W.heap.size) (o : Obj) : Ros M (W.alloc o) v l := h.below ((Below.refl M W).alloc hM o)
theorem Ros.call {M : Nat} {W W' : World} {v : Value} {l : List Int} (h : Ros M W v l) (hM : M ≤ W.heap.size) (hb : Below W.heap.size W W') : Ros M W' v l := h.below (hb.mono hM)
theorem keyR : Maps.Keyed Tryd.prog 21 := Maps.int_keyed Tryd.underlying21
theorem zeroI (w : World) : (zeroValue 3).run Tryd.prog w = .ok (.int .i64 0) w := by kernel_rfl
theorem wf_i32 {c : Int} (h0 : -2147483648 ≤ c) (h1 : c ≤ 2147483647) : (Lit.int .i32 c).wf = true := by
  simp [Lit.wf, IntKind.min, IntKind.max, IntKind.signed, IntKind.bits]
  omega
/-- The place of a sign; nought if it is none. -/
def idOf (l : List Int) (c : Int) : Int := if c ∈ l then (l.idxOf c : Int) else 0
theorem look_any {M : Nat} {W : World} {v : Value} {l : List Int} (h : MpS M W v l) {c : Int} (h0 : -2147483648 ≤ c) (h1 : c ≤ 2147483647) :
    (Instr.lookup 25 v (.int .i32 c) true).run Tryd.prog W = .ok (.tuple #[.int .i64 (idOf l c), .bool (decide (c ∈ l))]) W := by
  have hk := Maps.keyOf_int_mk (P := Tryd.prog) Tryd.underlying21 (wf_i32 h0 h1)
  rcases h with ⟨rfl, rfl⟩ | ⟨b, n, D, rfl, _, h2, h3⟩
  · rw [Maps.look_nil true keyR Tryd.underlying25 (zeroI W) hk]
    simp [idOf]
  · obtain ⟨v, ps, hr, hv⟩ := h2.look_ok keyR Tryd.underlying25 (zeroI W) (plainElem_int Tryd.underlying3 (by decide)) hk
    rw [hr, h3.has]
    obtain ⟨x, rfl, hx, _⟩ := plainElem_int_inv Tryd.underlying3 hv
    have hx' := congrArg Prod.fst hx
    dsimp only at hx'
    by_cases hc : c ∈ l
    · rw [h3.at' c hc] at hx'
      simp at hx'
      rw [idOf, if_pos hc, hx']
    · rw [Maps.atKey_of_not_has (by rw [h3.has]; simp [hc])] at hx'
      simp at hx'
      rw [idOf, if_neg hc, hx']

set_option maxHeartbeats 400000 in
theorem sizeP_any (ad : Option Addr) (n cap : Nat) (mp : Value) (w : World) : Calls Tryd.prog 11 #[.agg #[.slice ad n cap, mp]] w fun e w' => e = .returned (.int .i64 n) ∧ Below w.heap.size w w' := by
  go_enter Tryd.func11, Tryd.ntmps11
  go_wp2
  go_ret
  exact ⟨rfl, (Below.refl _ w).alloc (Nat.le_refl _) _⟩
theorem size_any {M : Nat} {v : Value} {l : List Int} (w : World) (h : Ros M w v l) : Calls Tryd.prog 11 #[v] w fun e w' => e = .returned (.int .i64 l.length) ∧ Below w.heap.size w w' := by
  obtain ⟨_, sl, mp, rfl, ⟨ad, cap, rfl, _⟩, _⟩ := h
  exact sizeP_any ad _ cap mp w

/-- What Id answers. -/
def idV (l : List Int) (c : Int) : Value := if c ∈ l then .tuple #[.int .i64 (l.idxOf c : Int), .int .i64 0] else .tuple #[.int .i64 0, .int .i64 41]
set_option maxHeartbeats 400000 in
theorem id_any {M : Nat} {v : Value} {l : List Int} (w : World) (h : Ros M w v l) (hM : M ≤ w.heap.size) {c : Int} (h0 : -2147483648 ≤ c) (h1 : c ≤ 2147483647) : Calls Tryd.prog 17 #[v, .int .i32 c] w fun e w' => e = .returned (idV l c) ∧ Below w.heap.size w w' := by
  obtain ⟨_, sl, mp, rfl, _, h2⟩ := h
  have hlk := look_any (h2.below (((Below.refl _ w).alloc (Nat.le_refl _) (.cells #[sl, mp] 27)).mono hM)) h0 h1
  by_cases hc : c ∈ l
  · have e1 : idV l c = .tuple #[.int .i64 (idOf l c), .int .i64 0] := by rw [idV, if_pos hc, idOf, if_pos hc]
    rw [e1, decide_eq_true hc] at *
    generalize idOf l c = x at *
    clear hc h2
    go_enter Tryd.func17, Tryd.ntmps17
    go_wp2
    go_ret2
    exact ⟨rfl, (Below.refl _ w).alloc (Nat.le_refl _) _⟩
  · have e1 : idV l c = .tuple #[.int .i64 0, .int .i64 41] := by rw [idV, if_neg hc]
    rw [e1, decide_eq_false hc] at *
    generalize idOf l c = x at *
    clear hc h2
    go_enter Tryd.func17, Tryd.ntmps17
    go_wp2
    go_ret2
    exact ⟨rfl, (Below.refl _ w).alloc (Nat.le_refl _) _⟩

/-- What sizeError answers. -/
def szE (s : ByteArray) : Int := if 65536 < s.size then 2 else if s.size = 0 then 40 else 0
set_option maxHeartbeats 400000 in
theorem sizeError_any (s : ByteArray) (hs : s.size ≤ maxLen) (w : World) : Calls Tryd.prog 8 #[.string s] w fun e w' => e = .returned (.int .i64 (szE s)) ∧ w' = w := by
  unfold maxLen at hs
  by_cases h1 : 65536 < s.size
  · have e : szE s = 2 := by rw [szE, if_pos h1]
    rw [e]
    go_enter Tryd.func8, Tryd.ntmps8
    go_wp2
    go_ret
    exact ⟨rfl, rfl⟩
  · by_cases h2 : s.size = 0
    · have e : szE s = 40 := by rw [szE, if_neg h1, if_pos h2]
      have hs : s = ⟨#[]⟩ := ByteArray.ext (Array.eq_empty_of_size_eq_zero h2)
      rw [e]
      subst hs
      go_enter Tryd.func8, Tryd.ntmps8
      go_wp2
      go_ret
      exact ⟨rfl, rfl⟩
    · have e : szE s = 0 := by rw [szE, if_neg h1, if_neg h2]
      have hne : s.toList.isEmpty = false := by
        rw [Lib.toList_data]
        cases hd : s.data.toList with
        | nil => exact absurd (by rw [Lib.size_eq, hd]; rfl) h2
        | cons a b => rfl
      rw [e]
      go_enter Tryd.func8, Tryd.ntmps8
      go_wp2
      go_ret
      exact ⟨rfl, rfl⟩

/-- What newSignError answers. -/
def nwE (l : List Int) (c : Int) : Int := if cls c = 4 then (if c ∈ l then 42 else if l.length < 100 then 0 else 2) else 41
/-- A roster as it is being read. -/
def RosP (M : Nat) (W : World) (v : Value) (l : List Int) : Prop := ∃ ad cap mp, v = .agg #[.slice ad l.length cap, mp] ∧ MpS M W mp l
set_option maxHeartbeats 1000000 in
set_option maxRecDepth 100000 in
theorem newSign_any {M : Nat} {v : Value} {l : List Int} (w : World) (hl : l.length ≤ 100) (h : RosP M w v l) (hM : M ≤ w.heap.size) {c : Int} (h0 : -2147483648 ≤ c) (h1 : c ≤ 2147483647) : Calls Tryd.prog 9 #[v, .int .i32 c] w fun e w' => e = .returned (.int .i64 (nwE l c)) ∧ Below w.heap.size w w' := by
  obtain ⟨ad, cap, mp, rfl, h2⟩ := h
  have hlk := look_any (h2.below (((Below.refl _ w).alloc (Nat.le_refl _) (.cells #[.slice ad l.length cap, mp] 27)).mono hM)) h0 h1
  have hcl := class_any c
  by_cases hc : cls c = 4
  · rw [hc] at hcl
    by_cases hm : c ∈ l
    · have e1 : nwE l c = 42 := by rw [nwE, if_pos hc, if_pos hm]
      rw [e1]
      rw [decide_eq_true hm] at hlk
      generalize idOf l c = x at *
      clear hm h2
      go_enter Tryd.func9, Tryd.ntmps9
      go_wp2_with (go_at_call 20; refine (hcl _).mono ?_; rintro e w1 ⟨rfl, rfl⟩)
      go_ret
      exact ⟨rfl, (Below.refl _ w).alloc (Nat.le_refl _) _⟩
    · by_cases hn : l.length < 100
      · have e1 : nwE l c = 0 := by rw [nwE, if_pos hc, if_neg hm, if_pos hn]
        rw [e1]
        rw [decide_eq_false hm] at hlk
        generalize idOf l c = x at *
        clear hm h2
        go_enter Tryd.func9, Tryd.ntmps9
        go_wp2_with (first | (go_at_call 20; refine (hcl _).mono ?_; rintro e w1 ⟨rfl, rfl⟩) | (go_at_call 11; refine (sizeP_any ad l.length cap mp _).mono ?_; rintro e w2 ⟨rfl, hb2⟩))
        go_ret
        exact ⟨rfl, ((Below.refl _ w).alloc (Nat.le_refl _) _).trans (hb2.mono (by simp))⟩
      · have e1 : nwE l c = 2 := by rw [nwE, if_pos hc, if_neg hm, if_neg hn]
        rw [e1]
        rw [decide_eq_false hm] at hlk
        generalize idOf l c = x at *
        clear hm h2
        go_enter Tryd.func9, Tryd.ntmps9
        go_wp2_with (first | (go_at_call 20; refine (hcl _).mono ?_; rintro e w1 ⟨rfl, rfl⟩) | (go_at_call 11; refine (sizeP_any ad l.length cap mp _).mono ?_; rintro e w2 ⟨rfl, hb2⟩))
        go_ret
        exact ⟨rfl, ((Below.refl _ w).alloc (Nat.le_refl _) _).trans (hb2.mono (by simp))⟩
  · have e1 : nwE l c = 41 := by rw [nwE, if_neg hc]
    have hne : (cls c == 4) = false := beq_eq_false_iff_ne.2 hc
    rw [e1]
    generalize cls c = y at *
    go_enter Tryd.func9, Tryd.ntmps9
    go_wp2_with (go_at_call 20; refine (hcl _).mono ?_; rintro e w1 ⟨rfl, rfl⟩)
    go_ret
    exact ⟨rfl, (Below.refl _ w).alloc (Nat.le_refl _) _⟩
end Go.Proofs.YtebpngapkkdifaaDoor
