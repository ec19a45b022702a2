/- Suspects: what it answers, at every book. -/
import Derived.Test.YtgehmidalfajgabGreatDoorInferDoubtsJ5
import Derived.Carry
namespace Go.Proofs.YtgehmidalfajgabGreatDoor
open Go.RowKit Go.Shelf Go.Lib
attribute [local go_sem] Oper.semAt_some

/-- The nodes that are suspected. -/
def sst (N : Nat) (x : N3) : Nat := if x.2.2 = 2 then N ||| 2 ^ x.1.toNat else N
def sus (l : List N3) : Nat := l.foldl sst 0
theorem pfx_at {pre l : List N3} {x : N3} (h : pre ++ [x] <+: l) : l[pre.length]? = some x := by
  obtain ⟨r, hr⟩ := h
  rw [← hr, List.append_assoc, List.getElem?_append_right (Nat.le_refl _)]
  simp
theorem pfx_pre {pre l : List N3} {x : N3} (h : pre ++ [x] <+: l) : pre <+: l := (List.prefix_append pre [x]).trans h
theorem fold_sst_lt : ∀ (m : List N3) (N : Nat), (∀ x ∈ m, x.1.toNat < 100) → N < 2 ^ 100 → m.foldl sst N < 2 ^ 100
  | [], _, _, h => h
  | x :: m, N, hv, h => by
    refine fold_sst_lt m (sst N x) (fun y hy => hv y (by simp [hy])) ?_
    unfold sst
    split
    · exact Nat.or_lt_two_pow h (Nat.pow_lt_pow_right (by decide) (hv x (by simp)))
    · exact h
theorem bok_lt {l : List N3} (hb : Bok l) (hl : l.length ≤ 100) : ∀ x ∈ l, x.1.toNat < 100 := by
  intro x hx
  obtain ⟨i, hi⟩ := List.mem_iff_getElem?.1 hx
  have := (hb i x hi).1
  have := (List.getElem?_eq_some_iff.1 hi).1
  omega
theorem fold_sst_bit : ∀ (m : List N3) (N i : Nat), (m.foldl sst N).testBit i = (N.testBit i || m.any fun x => decide (x.2.2 = 2 ∧ x.1.toNat = i))
  | [], N, i => by simp
  | x :: m, N, i => by
    rw [List.foldl_cons, fold_sst_bit m, List.any_cons]
    unfold sst
    by_cases h : x.2.2 = 2
    · rw [if_pos h, Nat.testBit_or, Nat.testBit_two_pow]
      simp [h, Bool.or_assoc]
    · rw [if_neg h]
      simp [h]
theorem sus_bit {l : List N3} (hb : Bok l) {i : Nat} {x : N3} (hx : l[i]? = some x) : (sus l).testBit i = decide (x.2.2 = 2) := by
  unfold sus
  rw [fold_sst_bit]
  simp only [Nat.zero_testBit, Bool.false_or]
  by_cases h : x.2.2 = 2
  · rw [decide_eq_true h, List.any_eq_true]
    exact ⟨x, List.mem_of_getElem? hx, decide_eq_true ⟨h, by have := (hb i x hx).1; omega⟩⟩
  · rw [decide_eq_false h, List.any_eq_false]
    intro y hy
    rw [decide_eq_true_iff]
    rintro ⟨h1, h2⟩
    obtain ⟨j, hj⟩ := List.mem_iff_getElem?.1 hy
    have := (hb j y hj).1
    obtain rfl : j = i := by omega
    rw [hx] at hj
    obtain rfl := Option.some.inj hj
    exact h h1
theorem sus_hi {l : List N3} (hb : Bok l) {i : Nat} (hi : l.length ≤ i) : (sus l).testBit i = false := by
  unfold sus
  rw [fold_sst_bit]
  simp only [Nat.zero_testBit, Bool.false_or]
  rw [List.any_eq_false]
  intro y hy
  rw [decide_eq_true_iff]
  rintro ⟨_, h2⟩
  obtain ⟨j, hj⟩ := List.mem_iff_getElem?.1 hy
  have := (hb j y hj).1
  have := (List.getElem?_eq_some_iff.1 hj).1
  omega
theorem sus_lt {l : List N3} (hb : Bok l) (hl : l.length ≤ 100) : sus l < 2 ^ 100 := fold_sst_lt l 0 (bok_lt hb hl) (by decide)
theorem kept_set4 {bx B m : Nat} {W : World} {b M : Nat} (h1 : b ≠ bx) (h2 : b < B ∨ B + m ≤ b) : Kept bx B m W (set4 W b M) := by
  unfold set4
  exact (((Kept.setCell h1 h2).trans (Kept.setCell h1 h2)).trans (Kept.setCell h1 h2)).trans (Kept.setCell h1 h2)
theorem Holds4.other4 {W : World} {b b' M : Nat} {c : Nat → Nat} (h : Holds4 W b' c) (hne : b' ≠ b) : Holds4 (set4 W b M) b' c := by
  unfold set4 Holds4
  rw [Below.heap_setCell _ _ _ _ hne, Below.heap_setCell _ _ _ _ hne, Below.heap_setCell _ _ _ _ hne, Below.heap_setCell _ _ _ _ hne]
  exact h
end Go.Proofs.YtgehmidalfajgabGreatDoor
namespace Go.Proofs.YtgehmidalfajgabGreatDoor
open Go.RowKit Go.Shelf Go.Lib
attribute [local go_sem] Oper.semAt_some

/-- A book that has no node: nil, or a zero one. -/
def EB (W : World) (v : Value) : Prop := v = .pointer none ∨ ∃ p, v = .pointer (some ⟨p, 0, none⟩) ∧ W.heap[p]? = some (.cells #[.slice none 0 0] 68 (0, 0))
theorem EB.carry {W V : World} {v : Value} (h : EB W v) (hb : Below W.heap.size W V) : EB V v := by
  rcases h with h | ⟨p, rfl, hp⟩
  · exact .inl h
  · exact .inr ⟨p, rfl, (hb.block _ (lt_at hp)).trans hp⟩
set_option maxHeartbeats 1000000 in
theorem ekept_any {w : World} {v : Value} (h : EB w v) : Calls Tryz.prog 95 #[v] w fun e w' => e = .returned (.slice none 0 0) ∧ Below w.heap.size w w' := by
  rcases h with rfl | ⟨p, rfl, hp⟩
  · go_enter Tryz.func95, Tryz.ntmps95
    go_wp2
    go_ret
    exact ⟨rfl, Below.refl _ _⟩
  · have c0 := cell_at hp 0
    simp at c0
    go_enter Tryz.func95, Tryz.ntmps95
    go_wp2
    go_ret
    exact ⟨rfl, Below.refl _ _⟩
set_option maxHeartbeats 1000000 in
theorem esize_any {w : World} {v : Value} (h : EB w v) : Calls Tryz.prog 22 #[v] w fun e w' => e = .returned (.int .i64 0) ∧ Below w.heap.size w w' := by
  have hk := ekept_any h
  go_enter Tryz.func22, Tryz.ntmps22
  go_wp2_with (go_at_call 95; (with_reducible refine hk.mono ?_); rintro e u1 ⟨rfl, hb1⟩)
  go_ret
  exact ⟨rfl, hb1⟩
set_option maxHeartbeats 1000000 in
theorem etwin_nil (w : World) : Calls Tryz.prog 142 #[.pointer none] w fun e w' => e = .returned (.pointer none) ∧ Below w.heap.size w w' := by
  go_enter Tryz.func142, Tryz.ntmps142
  go_wp2
  go_ret
  exact ⟨rfl, Below.refl _ _⟩
set_option maxHeartbeats 1000000 in
theorem etwin_any {w : World} {v : Value} (h : EB w v) : Calls Tryz.prog 142 #[v] w fun e w' => ∃ v', e = .returned v' ∧ EB w' v' ∧ Below w.heap.size w w' := by
  rcases h with rfl | ⟨p, rfl, hp⟩
  · exact (etwin_nil w).mono fun e w' h => ⟨_, h.1, .inl rfl, h.2⟩
  · have hz := esize_any (w := w.alloc (.cells #[.slice none 0 0] 68)) (v := .pointer (some ⟨p, 0, none⟩)) (.inr ⟨p, rfl, old_at hp⟩)
    go_enter Tryz.func142, Tryz.ntmps142
    go_wp2_with (go_at_call 22; (with_reducible refine hz.mono ?_); rintro e u1 ⟨rfl, hb1⟩)
    go_ret
    exact ⟨_, rfl, .inr ⟨_, rfl, (hb1.block _ (by simp)).trans (new_at rfl)⟩, bel2 (al1 _ _) hb1⟩
set_option maxHeartbeats 1000000 in
theorem eall_any {w : World} {v : Value} (h : EB w v) : Calls Tryz.prog 105 #[v] w fun e w' => ∃ bx, e = .returned (.func (.func 143) #[] #[.pointer (some ⟨bx, 0, none⟩)]) ∧ w.heap.size ≤ bx ∧ w'.heap[bx]? = some (.cells #[.slice none 0 0] 22 (0, 0)) ∧ Below w.heap.size w w' := by
  have ht := etwin_any h
  go_enter Tryz.func105, Tryz.ntmps105
  go_wp2_with (first | (go_at_call 142; (with_reducible refine ht.mono ?_); rintro e u1 ⟨v2, rfl, he2, hb2⟩; have hk := ekept_any he2) | (go_at_call 95; (with_reducible refine hk.mono ?_); rintro e u2 ⟨rfl, hb3⟩))
  go_ret
  have hbb := bel2 hb2 hb3
  exact ⟨u2.heap.size, rfl, hbb.size, new_at rfl, hbb.alloc hbb.size _⟩
set_option maxHeartbeats 1000000 in
set_option maxRecDepth 100000 in
theorem all0_seq (bx : Nat) (w : World) (hs : w.heap[bx]? = some (.cells #[.slice none 0 0] 22 (0, 0))) :
    SeqE Tryz.prog (fun _ => True) 143 #[.pointer (some ⟨bx, 0, none⟩)] (fun x : N3 => #[nt x.1 x.2.1 x.2.2]) bx 0 [] w := by
  intro ll J Jx W hW hJ hJx hE hY h0
  have hb0 : W.heap[bx]? = some (.cells #[.slice none 0 0] 22 (0, 0)) := (hW.block _ (lt_at hs)).trans hs
  have c0 := cell_at hb0 0
  simp at c0
  clear hE hY
  refine callsIn_of_wp Tryz.func143 rfl trivial ?_ rfl
  simp only [Tryz.ntmps143, List.size_toArray, List.length_cons, List.length_nil, Nat.reduceAdd, Nat.reduceSub, Array.replicate_succ, Array.replicate_zero, List.push_toArray, List.append_toArray, List.nil_append, List.cons_append]
  gi_wp2
  refine wpIn_loop_once ?_
  gi_wp2
  go_end0
  exact ⟨⟨_, rfl⟩, .inl h0⟩
theorem not_pfx {pre : List N3} {x : N3} (h : pre ++ [x] <+: []) : False := by
  have := h.length_le
  simp at this
set_option maxHeartbeats 4000000 in
set_option maxRecDepth 100000 in
theorem egl_in {w : World} {v : Value} (h : EB w v) : CallsIn Fence.wide 0 Tryz.prog 33 #[v, .func (.func 34) #[] #[]] w fun e w' => e = .returned (.slice none 0 0) ∧ Below w.heap.size w w' := by
  have hal := eall_any ((h.carry (al1 w (.cells #[.func (.func 34) #[] #[]] 74))).carry (al1 _ (.cells #[.slice none 0 0] 22)))
  clear h
  refine callsIn_of_wp_marks Tryz.func33 rfl trivial ?_ rfl
  simp only [Tryz.ntmps33, List.size_toArray, List.length_cons, List.length_nil, Nat.reduceAdd, Nat.reduceSub, Array.replicate_succ, Array.replicate_zero, List.push_toArray, List.append_toArray, List.nil_append, List.cons_append]
  gi_wp2
  with_reducible (refine And.intro (wfn _) (And.intro wdep ?_))
  refine (callsIn_wide.2 hal).mono ?_
  rintro e W0 ⟨bx, rfl, hbx, hsb, hb⟩
  have b0 : Below w.heap.size w W0 := bel2 (al2 _ _ _) hb
  have v0 : Boxed W0 (w.heap.size + 1) 22 (.slice none 0 0) := (hb.block _ (by simp)).trans (new_at (by simp))
  have hgl := lt_at hsb
  have hz : w.heap.size + 2 ≤ W0.heap.size := by simp at hbx; omega
  clear hal hb
  gi_wp2
  refine wp_rangeE (kb := 0) (gf := 143) (lb := #[.pointer (some ⟨bx, 0, none⟩)]) rfl (enters_of Tryz.func143 (by kernel_rfl) rfl)
    (all0_seq bx _ hsb) hgl (fun _ => rfl)
    (fun _ W => Boxed W (w.heap.size + 1) 22 (.slice none 0 0) ∧ Below w.heap.size w W)
    (fun _ _ _ => False)
    (OwnFrom.and ((boxed_own _ _ (fun _ : List N3 => (.slice none 0 0))).from _) (ownFrom_below (Nat.le_refl _) (by omega)))
    (fun _ _ _ _ _ hs _ _ => hs)
    ⟨v0, b0⟩ (fun _ _ _ => trivial) (fun _ _ _ => True) (fun _ _ _ _ _ _ _ _ _ => trivial) ?assign ?body ?done ?stop
  case assign =>
    rintro l2 pre ⟨o, t, k⟩ W K ⟨hv, hb⟩ hsz hK
    unfold nt
    gi_wp2
    exact hK _ _ (Kept.below (al1 _ _) (by omega) (by omega)) ⟨hv.alloc _, hb.alloc hb.size _⟩ trivial
  case body =>
    rintro l2 pre x a' W _ _ _ hpr
    exact (not_pfx hpr).elim
  case done =>
    rintro W ⟨hv, hb⟩ hK
    have hcv := hv.cell
    gi_wp2
    refine ⟨by simp, .inl ⟨_, _, rfl, run_takeDeferred hK, ?_⟩⟩
    exact ⟨.slice none 0 0, by simp [results, Tryz.results33, go_sem], rfl, below_taken _ hb (by omega)⟩
  case stop =>
    rintro c pre W _ h _
    exact h.elim
set_option maxHeartbeats 1000000 in
theorem elist_any {w : World} {v : Value} (h : EB w v) : Calls Tryz.prog 13 #[v] w fun e w' => e = .returned (.slice none 0 0) ∧ Below w.heap.size w w' := by
  have hg := callsIn_wide.1 (egl_in h)
  rcases h with rfl | ⟨p, rfl, hp⟩
  all_goals
    go_enter Tryz.func13, Tryz.ntmps13
    go_wp2_with (go_at_call 33; (with_reducible refine hg.mono ?_); rintro e u1 ⟨rfl, hb1⟩)
    go_ret
    exact ⟨rfl, hb1⟩
theorem rd_nil (W : World) : RdN W none [] := fun h => absurd rfl h
set_option maxHeartbeats 4000000 in
theorem eat_any {w : World} {v : Value} (h : EB w v) (id : Int) : Calls Tryz.prog 31 #[v, .int .i64 id] w fun e w' => e = .returned (.tuple #[.agg #[.int .i64 0, .int .i64 0, .int .i64 0], .int .i64 30]) ∧ Below w.heap.size w w' := by
  have hn1 : NB (w.alloc (.cells #[.int .i64 0, .int .i64 0, .int .i64 0] 70)) w.heap.size 0 0 0 := NB.new _ _ _ _
  have hb1 := al1 w (.cells #[.int .i64 0, .int .i64 0, .int .i64 0] 70)
  have hsz := esize_any (h.carry hb1)
  clear h
  by_cases h0 : id < 0
  · have c0 := hn1.c0
    have c1 := hn1.c1
    have c2 := hn1.c2
    have z0 := hn1.thaw 0
    have z1 := hn1.thaw 1
    have z2 := hn1.thaw 2
    go_enter Tryz.func31, Tryz.ntmps31
    go_wp2
    exact retNt rfl rfl rfl rfl hn1 ⟨rfl, hb1⟩
  · have hge : 0 ≤ id := by omega
    go_enter Tryz.func31, Tryz.ntmps31
    go_wp2_with (go_at_call 22; (with_reducible refine hsz.mono ?_); rintro e u1 ⟨rfl, hb2⟩; have hn2 := hn1.carry hb2; have c0 := hn2.c0; have c1 := hn2.c1; have c2 := hn2.c2; have z0 := hn2.thaw 0; have z1 := hn2.thaw 1; have z2 := hn2.thaw 2)
    exact retNt rfl rfl rfl rfl (NB.set hn2 _ _ _) ⟨rfl, below3 (bel2 hb1 hb2) (Nat.le_refl _) _ _ _⟩
end Go.Proofs.YtgehmidalfajgabGreatDoor
namespace Go.Proofs.YtgehmidalfajgabGreatDoor
open Go.RowKit Go.Shelf Go.Lib

theorem Holds4.turn {W V : World} {p g b : Nat} {c : Nat → Nat} {l : List N3} (hs : Holds4 W b c) (h : Bk W p g l) (hg : W.grownBy V (some g)) : Holds4 V b c :=
  (hg.block _ (lt_at hs) (by simpa using (h.ne4 hs).2.symm)).trans hs
theorem filter_all (l : List N3) : l.filter pAll = l := List.filter_eq_self.2 (fun _ _ => rfl)
/-- A list that was made, read. -/
theorem Made.rd {w W : World} {v : Value} {l : List N3} (h : Made w W v l) : ∃ ad cap, v = .slice ad l.length cap ∧ RdN W ad l ∧ (∀ a, ad = some a → w.heap.size ≤ a.block) := by
  unfold Made at h
  rcases own_form h with ⟨rfl, e⟩ | ⟨g, cap, rfl, h1, h2, h3⟩
  · refine ⟨none, 0, by rw [e], fun hn => ?_, fun a ha => by cases ha⟩
    exact absurd (List.eq_nil_of_length_eq_zero e) hn
  · exact ⟨some ⟨g, 0, none⟩, cap, rfl, fun _ => ⟨g, 0, rfl, h2, nts_own h rfl⟩, fun a ha => by obtain rfl := Option.some.inj ha; exact h1⟩
theorem sv_zero : sv 0 = .agg #[.int .u32 0, .int .u32 0, .int .u32 0, .int .u32 0] := by simp [sv, wd_zero]
/-- What is merged twice is merged once. -/
theorem bat_after {l m : List N3} (hb : Bok l) (h : m.all (vlx l.length) = true) : ∀ x ∈ m, bat (mrg l m) x = false := by
  intro x hx
  have hv := List.all_eq_true.1 h x hx
  have hl := mrg_len hb m
  rw [bat_iff (mrg_bok hb m) (by rw [hl]; exact hv), mrg_rk hb h]
  have := fold_upr_mem l.length m (rkl l x.1.toNat) x hx hv
  exact decide_eq_false (by omega)
theorem fold_still1 : ∀ (m : List N3) {l : List N3}, (∀ x ∈ m, bat l x = false) → m.foldl rse l = l
  | [], _, _ => rfl
  | x :: m, l, h => by
    have e : rse l x = l := if_neg (by rw [h x (by simp)]; decide)
    rw [List.foldl_cons, e]
    exact fold_still1 m (fun y hy => h y (by simp [hy]))
theorem still {l m : List N3} (h : ∀ x ∈ m, bat l x = false) : mrs l m = 0 ∧ mrg l m = l := by
  unfold mrs mrg
  rw [fold_still m 0 h, fold_still1 m h]
  constructor <;> split <;> rfl
theorem twice {l : List N3} (hb : Bok l) (m : List N3) : mrs (mrg l m) m = 0 ∧ mrg (mrg l m) m = mrg l m := by
  by_cases h : m.all (vlx l.length) = true
  · exact still (bat_after hb h)
  · have e : mrg l m = l := if_neg h
    rw [e]
    exact ⟨if_neg h, e⟩
theorem own_list {l : List N3} (hb : Bok l) (h1 : 1 ≤ l.length) (h2 : l.length ≤ 100) : l.all (vlx l.length) = true ∧ ∀ x ∈ l, bat l x = false := by
  have hv : ∀ x ∈ l, vlx l.length x = true := by
    intro x hx
    obtain ⟨i, hi⟩ := List.mem_iff_getElem?.1 hx
    obtain ⟨e, hr⟩ := hb i x hi
    have := (List.getElem?_eq_some_iff.1 hi).1
    exact vlx_iff.2 ⟨h1, h2, by omega, by omega, hr⟩
  refine ⟨List.all_eq_true.2 hv, fun x hx => ?_⟩
  rw [bat_iff hb (hv x hx)]
  obtain ⟨i, hi⟩ := List.mem_iff_getElem?.1 hx
  obtain ⟨e, _⟩ := hb i x hi
  rw [show x.1.toNat = i by omega, rkl_some hi]
  exact decide_eq_false (by omega)
theorem fold_tke_still : ∀ (m : List N3) {l : List N3}, (∀ x ∈ m, bat l x = false) → m.foldl tke l = l
  | [], _, _ => rfl
  | x :: m, l, h => by
    have e : tke l x = l := by
      unfold tke
      split
      · exact if_neg (by rw [h x (by simp)]; decide)
      · rfl
    rw [List.foldl_cons, e]
    exact fold_tke_still m (fun y hy => h y (by simp [hy]))
/-- Two books and two sets. -/
structure JT (w : World) (L : List (Nat × Nat × List N3)) (bs bt : Nat) (W : World) : Prop where
  books : Bks w L W
  one : Holds4 W bs (wd 0)
  two : Holds4 W bt (wd 0)
theorem JT.carry {w W V : World} {L : List (Nat × Nat × List N3)} {bs bt : Nat} (h : JT w L bs bt W) (hb : Below W.heap.size W V) : JT w L bs bt V := ⟨h.books.carry hb, h.one.carry hb, h.two.carry hb⟩
theorem JT.turn {w W V : World} {L : List (Nat × Nat × List N3)} {bs bt : Nat} (h : JT w L bs bt W) (i : Nat) {p g : Nat} {l l' : List N3} (hi : L[i]? = some (p, g, l)) (hk : Bk V p g l') (hg : W.grownBy V (some g)) : JT w (L.set i (p, g, l')) bs bt V :=
  ⟨h.books.turn i hi hk hg, h.one.turn (h.books.get i hi) hg, h.two.turn (h.books.get i hi) hg⟩
end Go.Proofs.YtgehmidalfajgabGreatDoor
