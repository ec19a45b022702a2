/- What glyph.Chars and glyph.Plain answer: at every text. -/
import Derived.Test.YtgihafldphpncabItD
import Derived.Maps.AppendAt
namespace Go.Proofs.Ytgihafldphpncab
open Go.RowKit Go.Shelf
attribute [local go_sem] Oper.semAt_some

/-- The cells of a list of characters. -/
def flat (s : ByteArray) : List Nat → List Value
  | [] => []
  | p :: r => (chC s p).toList ++ flat s r
theorem flat_append (s : ByteArray) : ∀ a b : List Nat, flat s (a ++ b) = flat s a ++ flat s b
  | [], _ => rfl
  | p :: r, b => by simp [flat, flat_append s r b]
theorem flat_length (s : ByteArray) : ∀ a : List Nat, (flat s a).length = a.length * 4
  | [] => rfl
  | p :: r => by simp [flat, flat_length s r, chC]; omega
theorem flat_get (s : ByteArray) : ∀ (a : List Nat) (i j p : Nat), a[i]? = some p → j < 4 → (flat s a)[i * 4 + j]? = (chC s p)[j]?
  | [], _, _, _, h, _ => by simp at h
  | q :: r, 0, j, p, h, hj => by
    simp at h; subst h
    simp only [flat, Nat.zero_mul, Nat.zero_add]
    rw [List.getElem?_append_left (by simp [chC]; omega)]
    simp
  | q :: r, i + 1, j, p, h, hj => by
    simp only [flat]
    rw [List.getElem?_append_right (by simp [chC]; omega)]
    have e : (i + 1) * 4 + j - (chC s q).toList.length = i * 4 + j := by simp [chC]; omega
    rw [e]
    exact flat_get s r i j p (by simpa using h) hj

theorem ownsRow_base {w : World} {base base' : Nat} {e : TypeId} {size : Nat} {v : Value} {n : Nat} {xs : List Value} (h : w.ownsRow base e size v n xs) (hle : base' ≤ base) : w.ownsRow base' e size v n xs := by
  obtain ⟨h1, h2⟩ := h
  refine ⟨h1, ?_⟩
  rcases h2 with h2 | ⟨g, cap, cur, h3, h4, h5⟩
  · exact .inl h2
  · exact .inr ⟨g, cap, cur, h3, Nat.le_trans hle h4, h5⟩
theorem ownsRow_block {w : World} {base : Nat} {e : TypeId} {size : Nat} {v : Value} {n : Nat} {xs : List Value} (h : w.ownsRow base e size v n xs) : ∀ g, v.ownBlock = some g → base ≤ g ∧ ∃ cur, w.heap[g]? = some (.cells cur e (0, 0)) := by
  intro g hg
  rcases h.2 with ⟨rfl, _⟩ | ⟨g', cap, cur, rfl, h4, h5, _⟩
  · cases hg
  · cases hg
    exact ⟨h4, cur, h5⟩
/-- A variable that holds a slice that the call owns: whatever is no cells may turn. -/
theorem rowBox_own {β : Type} (n0 B : Nat) (t e : TypeId) (size : Nat) (k : β → Nat) (xs : β → List Value) : Own (fun s W => ∃ v, Boxed W B t v ∧ W.ownsRow n0 e size v (k s) (xs s)) := by
  rintro s X Y row ⟨v, hb, ho⟩ hg hr
  refine ⟨v, boxed_own B t (fun _ : Unit => v) () X Y row hb hg hr, ho.kept hg ?_⟩
  cases hv : v.ownBlock with
  | none => exact .inl rfl
  | some g =>
    refine .inr (fun e' => ?_)
    obtain ⟨o, h1, h2⟩ := hr g e'.symm
    obtain ⟨_, cur, h3⟩ := ownsRow_block ho g hv
    rw [h1] at h3
    cases h3
    cases h2

theorem ownsRow_form {w : World} {base : Nat} {e : TypeId} {size : Nat} {v : Value} {n : Nat} {xs : List Value} (h : w.ownsRow base e size v n xs) : ∃ ad cap, v = .slice ad n cap ∧ (0 < n → ∃ g, ad = some ⟨g, 0, none⟩ ∧ base ≤ g ∧ g < w.heap.size ∧ n ≤ cap ∧ ∀ j u, xs[j]? = some u → w.cell? ⟨g, j, none⟩ = some u) := by
  obtain ⟨h1, h2⟩ := h
  rcases h2 with ⟨rfl, rfl⟩ | ⟨g, cap, cur, rfl, h4, h5, h6, h7, h8, h9⟩
  · exact ⟨none, 0, rfl, fun h => absurd h (by omega)⟩
  · refine ⟨some ⟨g, 0, none⟩, cap, rfl, fun _ => ⟨g, rfl, h4, (Array.getElem?_eq_some_iff.1 h5).1, h6, fun j u hj => ?_⟩⟩
    rw [cell_of h5 j, ← hj, ← h9, List.getElem?_take]
    have hjl : j < n * size := by have := (List.getElem?_eq_some_iff.1 hj).1; omega
    rw [if_pos hjl, Array.getElem?_toList]
theorem rowBox_kept {W w1 : World} {n0 B : Nat} {t e : TypeId} {size k : Nat} {v : Value} {xs : List Value} {tmp : Obj} (hv : Boxed W B t v) (hrow : W.ownsRow n0 e size v k xs) (hB : B < n0) (hgrow : (W.alloc tmp).grownBy w1 v.ownBlock) : Boxed w1 B t v :=
  (hv.alloc tmp).kept hgrow (fun e' => by have := (ownsRow_block hrow B e'.symm).1; omega)
theorem infoChar : (Try.prog.info? 32).map (fun i => (i.zero, i.size, i.bytes)) = some (some (.agg #[.int .i32 0, .int .i64 0, .int .i64 0, .bool false]), 4, 32) := by kernel_rfl

theorem four_new (W : World) (a b c d : Value) (t : TypeId) : ∀ j u, [a, b, c, d][j]? = some u → (W.alloc (.cells #[a, b, c, d] t)).cell? ((⟨W.heap.size, 0, none⟩ : Addr).add j) = some u := by
  intro j u h
  have hg : (W.alloc (.cells #[a, b, c, d] t)).heap[W.heap.size]? = some (.cells #[a, b, c, d] t) := get_new rfl
  have ha : (⟨W.heap.size, 0, none⟩ : Addr).add j = ⟨W.heap.size, j, none⟩ := by unfold Addr.add; split <;> simp_all
  rw [ha, cell_of hg j, ← h]
  simp

set_option maxHeartbeats 1000000 in
theorem chars_in (s : ByteArray) (hs : s.size ≤ 65536) (w : World) :
    CallsIn Fence.wide 0 Try.prog 9 #[.string s] w fun e w' => ∃ v, e = .returned (.tuple #[v, .int .i64 0]) ∧ w'.ownsRow w.heap.size 32 4 v (starts s).length (flat s (starts s)) ∧ Below w.heap.size w w' := by
  have hlen := starts_length s
  have hs' : s.size ≤ maxLen := by unfold maxLen; omega
  obtain ⟨ic, hic, hz0, hz1, hz2⟩ := info_parts infoChar
  have hgt : decide (65536 < (s.size : Int)) = false := by simp; omega
  refine callsIn_of_wp_marks Try.func9 rfl trivial ?_ rfl
  simp only [Try.ntmps9, List.size_toArray, List.length_cons, List.length_nil, Nat.reduceAdd, Nat.reduceSub, Array.replicate_succ, Array.replicate_zero, List.push_toArray, List.append_toArray, List.nil_append, List.cons_append]
  gi_wp2_with (with_reducible (refine And.intro (wfn _) (And.intro wdep ?_)); gi_at_call 30; refine (callsIn_wide.2 (each_any s _)).mono ?_; rintro e w' ⟨rfl, rfl⟩)
  obtain ⟨W0, hW0⟩ : ∃ W0, ((w.alloc (.cells #[.slice none 0 0] 23)).alloc (.cells #[.string s] 9)) = W0 := ⟨_, rfl⟩
  have z0 : W0.heap.size = w.heap.size + 2 := by rw [← hW0]; simp
  have b0 : Below w.heap.size w W0 := by rw [← hW0]; exact ((Below.refl _ w).alloc (by simp) _).alloc (by simp) _
  have l0 : Boxed W0 w.heap.size 23 (.slice none 0 0) := by show W0.heap[_]? = _; rw [← hW0]; exact get_old (get_new (by simp))
  have x0 : Boxed W0 (w.heap.size + 1) 9 (.string s) := by show W0.heap[_]? = _; rw [← hW0]; exact get_new (by simp)
  rw [hW0]
  clear hW0
  refine wp_range (kb := 0) (gf := 41) (lb := #[.pointer (some ⟨w.heap.size + 1, 0, none⟩)]) rfl (enters_of Try.func41 (by kernel_rfl) rfl)
    (each1_seq s hs' (w.heap.size + 1) _ x0) (by omega) (fun _ => rfl)
    (fun pre W => (∃ v, Boxed W w.heap.size 23 v ∧ W.ownsRow (W0.heap.size + 7) 32 4 v pre.length (flat s pre)) ∧ Below w.heap.size w W)
    (fun _ _ _ => False)
    (OwnFrom.and ((rowBox_own _ _ _ _ _ (fun pre : List Nat => pre.length) (flat s)).from _) (ownFrom_below (Nat.le_refl _) (by omega)))
    (fun _ _ _ _ _ hs _ _ => hs)
    ⟨⟨_, l0, World.ownsRow_nil _ _ _ _⟩, b0⟩
    (fun x a' W => ∃ Bx, W.heap[Bx]? = some (.cells (chC s x) 32) ∧ a' = { tmps := #[.string s, undef, .slice none 0 0, .int .i64 0, .pointer (some ⟨w.heap.size, 0, none⟩), .pointer (some ⟨Bx, 0, none⟩), .string s, .int .i64 s.size, .bool false, .string s, .func (.func 41) #[] #[.pointer (some ⟨w.heap.size + 1, 0, none⟩)], chV s x, undef, undef, undef, undef, undef], defers := [] })
    ?ax ?assign ?body ?done ?stop
  case ax =>
    rintro x a' _ X Y row ⟨Bx, h2, h3⟩ hg hr
    exact ⟨Bx, ((blk_own Bx (fun _ : Unit => .cells (chC s x) 32) (fun _ => rfl)).from _) () X Y row h2 hg hr, h3⟩
  case assign =>
    rintro l pre x W K ⟨⟨v, hv, hrow⟩, hb⟩ hsz hK
    simp only [chV]
    gi_wp2
    exact hK _ _ (Kept.below ((Below.refl _ W).alloc (Nat.le_refl _) _) (by omega) (by omega)) ⟨⟨v, hv.alloc _, hrow.alloc _⟩, hb.alloc (by omega) _⟩ ⟨W.heap.size, get_new rfl, rfl⟩
  case body =>
    rintro l pre x a' W ⟨⟨v, hv, hrow⟩, hb⟩ ⟨Bx, hx, rfl⟩ hsz hpr
    have hcv := hv.cell
    have x0 : W.cell? ⟨Bx, 0, none⟩ = some (.int .i32 (rn s x)) := cell_of hx 0
    have x1 : W.cell? ⟨Bx, 1, none⟩ = some (.int .i64 x) := cell_of hx 1
    have x2 : W.cell? ⟨Bx, 2, none⟩ = some (.int .i64 (wd s x)) := cell_of hx 2
    have x3 : W.cell? ⟨Bx, 3, none⟩ = some (.bool (looseB s x)) := cell_of hx 3
    have hpl : (pre ++ [x]).length ≤ (starts s).length := hpr.length_le
    simp only [List.length_append, List.length_cons, List.length_nil] at hpl
    gi_wp2_with (gi_at_builtin; refine wpListIn_append_own _ rfl _ _ 23 rfl (W0.heap.size + 7) 32 ic _ 4 32 Try.underlying23 hic hz0 hz1 hz2 rfl (by decide) _ _ _ rfl (hrow.alloc _) ⟨W.heap.size, 0, none⟩ 1 1 [.int .i32 (rn s x), .int .i64 x, .int .i64 (wd s x), .bool (looseB s x)] rfl rfl (four_new _ _ _ _ _ _) (by simp [Value.oneCell']) (by unfold maxLen; omega) (by omega) (by simp; omega) ?_; intro v' w1 hown' hgrow _; obtain ⟨g', cap', rfl⟩ := ownsRow_succ hown'; have hv1 := rowBox_kept hv hrow (by omega) hgrow; have hc1 := hv1.cell; have hf1 := hv1.frozen)
    refine ⟨?_, ⟨_, hv1.set _, ?_⟩, ?_⟩
    · refine ((Kept.below ((Below.refl _ W).alloc (Nat.le_refl _) _) (by omega) (by omega)).trans (Kept.grown hgrow (by simp; omega) (by simp; omega) (fun k hk => ?_))).trans (Kept.setCell (by omega) (by omega))
      have := (ownsRow_block hrow k hk).1
      omega
    · rw [flat_append]
      have e : (pre ++ [x]).length = pre.length + 1 := by simp
      rw [e]
      exact ownsRow_setCell_below hown' (by simp; omega) _
    · exact ((hb.alloc (by omega) _).grown hgrow (by simp; omega) (fun k hk => by have := (ownsRow_block hrow k hk).1; omega)).setCell (by simp) _
  case done =>
    rintro W ⟨⟨v, hv, hrow⟩, hb⟩ hK
    have hcv := hv.cell
    gi_wp2
    refine ⟨by simp, .inl ⟨_, _, rfl, run_takeDeferred hK, ?_⟩⟩
    refine ⟨.tuple #[v, .int .i64 0], by simp [results, Try.results9, go_sem], v, rfl, ?_, ?_⟩
    · exact ownsRow_base (ownsRow_putObj hrow _ hK rfl) (by omega)
    · exact hb.trans (belowK_b (w := w) (Nat.le_refl _) _ W0.heap.size _ _ (by omega) hK rfl rfl)
  case stop =>
    rintro c pre W _ h _
    exact h.elim
theorem chars_any (s : ByteArray) (hs : s.size ≤ 65536) (w : World) :
    Calls Try.prog 9 #[.string s] w fun e w' => ∃ v, e = .returned (.tuple #[v, .int .i64 0]) ∧ w'.ownsRow w.heap.size 32 4 v (starts s).length (flat s (starts s)) ∧ Below w.heap.size w w' := callsIn_wide.1 (chars_in s hs w)

/-- No byte is loose. -/
def plainB (s : ByteArray) : Bool := (starts s).all (fun p => !looseB s p)

/-- What Plain hands back. -/
theorem plain_end (W : World) (tmps : Array Value) (B : Nat) (a : Value) (h2 : tmps[2]? = some (.pointer (some ⟨B, 0, none⟩))) (h1 : W.heap[B]? = some (.cells #[a] 4)) (R : Ending → World → Prop) (h : R (.returned a) W) :
    LeavesInM Fence.wide 0 Try.prog Try.f14 tmps R [] .returning W := by
  have c0 : W.cell? ⟨B, 0, none⟩ = some a := cell_of h1 0
  refine ⟨a, ?_, h⟩
  simp [results, Try.results14, go_sem, c0, h2]

set_option maxHeartbeats 1000000 in
theorem plain_in (s : ByteArray) (hs : s.size ≤ maxLen) (w : World) :
    CallsIn Fence.wide 0 Try.prog 14 #[.string s] w fun e w' => e = .returned (.bool (plainB s)) ∧ Below w.heap.size w w' := by
  refine callsIn_of_wp_marks Try.func14 rfl trivial ?_ rfl
  simp only [Try.ntmps14, List.size_toArray, List.length_cons, List.length_nil, Nat.reduceAdd, Nat.reduceSub, Array.replicate_succ, Array.replicate_zero, List.push_toArray, List.append_toArray, List.nil_append, List.cons_append]
  gi_wp2_with (with_reducible (refine And.intro (wfn _) (And.intro wdep ?_)); gi_at_call 30; refine (callsIn_wide.2 (each_any s _)).mono ?_; rintro e w' ⟨rfl, rfl⟩)
  obtain ⟨W0, hW0⟩ : ∃ W0, ((w.alloc (.cells #[.bool false] 4)).alloc (.cells #[.string s] 9)) = W0 := ⟨_, rfl⟩
  have z0 : W0.heap.size = w.heap.size + 2 := by rw [← hW0]; simp
  have b0 : Below w.heap.size w W0 := by rw [← hW0]; exact ((Below.refl _ w).alloc (by simp) _).alloc (by simp) _
  have l0 : W0.heap[w.heap.size]? = some (.cells #[.bool false] 4) := by rw [← hW0]; exact get_old (get_new (by simp))
  have x0 : Boxed W0 (w.heap.size + 1) 9 (.string s) := by show W0.heap[_]? = _; rw [← hW0]; exact get_new (by simp)
  rw [hW0]
  clear hW0
  refine wp_range (kb := 0) (gf := 41) (lb := #[.pointer (some ⟨w.heap.size + 1, 0, none⟩)]) rfl (enters_of Try.func41 (by kernel_rfl) rfl)
    (each1_seq s hs (w.heap.size + 1) _ x0) (by omega) (fun _ => rfl)
    (fun pre W => W.heap[w.heap.size]? = some (.cells #[.bool false] 4) ∧ (Below w.heap.size w W ∧ ∀ p ∈ pre, looseB s p = false))
    (fun c _ W => W.heap[w.heap.size]? = some (.cells #[.bool false] 4) ∧ (Below w.heap.size w W ∧ (c = .ret ∧ plainB s = false)))
    (OwnFrom.and ((blk_own _ (fun _ => _) (fun _ => rfl)).from _) (OwnFrom.and (ownFrom_below (Nat.le_refl _) (by omega)) (ownFrom_pure _ (fun pre : List Nat => ∀ p ∈ pre, looseB s p = false))))
    (fun c => OwnFrom.and ((blk_own _ (fun _ => _) (fun _ => rfl)).from _) (OwnFrom.and (ownFrom_below (Nat.le_refl _) (by omega)) (ownFrom_pure _ (fun _ => c = .ret ∧ plainB s = false))))
    ⟨l0, b0, by simp⟩
    (fun x a' W => ∃ Bx, W.heap[Bx]? = some (.cells (chC s x) 32) ∧ a' = { tmps := #[.string s, undef, .pointer (some ⟨w.heap.size, 0, none⟩), .pointer (some ⟨Bx, 0, none⟩), .string s, .func (.func 41) #[] #[.pointer (some ⟨w.heap.size + 1, 0, none⟩)], chV s x, undef, undef], defers := [] })
    ?ax ?assign ?body ?done ?stop
  case ax =>
    rintro x a' _ X Y row ⟨Bx, h2, h3⟩ hg hr
    exact ⟨Bx, ((blk_own Bx (fun _ : Unit => .cells (chC s x) 32) (fun _ => rfl)).from _) () X Y row h2 hg hr, h3⟩
  case assign =>
    rintro l pre x W K ⟨hv, hb, hp⟩ hsz hK
    simp only [chV]
    gi_wp2
    exact hK _ _ (Kept.below ((Below.refl _ W).alloc (Nat.le_refl _) _) (by omega) (by omega)) ⟨get_old hv, hb.alloc (by omega) _, hp⟩ ⟨W.heap.size, get_new rfl, rfl⟩
  case body =>
    rintro l pre x a' W ⟨hv, hb, hp⟩ ⟨Bx, hx, rfl⟩ hsz hpr
    have hc : W.cell? ⟨w.heap.size, 0, none⟩ = some (.bool false) := cell_of hv 0
    have hf := frozen_of hv 0
    cases hL : looseB s x with
    | true =>
      have x3 : W.cell? ⟨Bx, 3, none⟩ = some (.bool true) := (cell_of hx 3).trans (by simp [chC, hL])
      have hpl : plainB s = false := by
        unfold plainB
        rw [List.all_eq_false]
        exact ⟨x, hpr.subset (by simp), by simp [hL]⟩
      have HP : Hid (plainB s = false) := hpl
      clear hpl
      gi_wp2
      exact ⟨Kept.setCell (by omega) (by omega), set_get 0 _ hv, hb.setCell (by simp) _, rfl, HP.out⟩
    | false =>
      have x3 : W.cell? ⟨Bx, 3, none⟩ = some (.bool false) := (cell_of hx 3).trans (by simp [chC, hL])
      gi_wp2
      exact ⟨Kept.refl _ _ _ _, hv, hb, fun p hq => (List.mem_append.1 hq).elim (fun h => hp p h) (fun h => by rw [List.mem_singleton.1 h]; exact hL)⟩
  case done =>
    rintro W ⟨hv, hb, hp⟩ hK
    have hc : W.cell? ⟨w.heap.size, 0, none⟩ = some (.bool false) := cell_of hv 0
    have hf := frozen_of hv 0
    gi_wp2
    have hK5 := (set_other (j := 0) (v := .bool true) (show W0.heap.size ≠ w.heap.size by omega)).trans hK
    refine ⟨by simp, .inl ⟨_, _, rfl, run_takeDeferred hK5, ?_⟩⟩
    refine plain_end _ _ w.heap.size _ rfl ((World.putObj_heap_other (by omega)).trans (set_get 0 (.bool true) hv)) _ ⟨?_, ?_⟩
    · have : plainB s = true := by unfold plainB; rw [List.all_eq_true]; intro p hq; simp [hp p hq]
      rw [this]
    · exact (hb.setCell (by simp) _).trans (belowK_b (w := w) (Nat.le_refl _) _ W0.heap.size _ _ (by omega) hK5 rfl rfl)
  case stop =>
    rintro c pre W _ ⟨hv, hb, rfl, hp⟩ hK
    gi_wp2
    refine ⟨by simp, .inl ⟨_, _, rfl, run_takeDeferred hK, ?_⟩⟩
    refine plain_end _ _ w.heap.size _ rfl ((World.putObj_heap_other (by omega)).trans hv) _ ⟨?_, ?_⟩
    · rw [hp]
    · exact hb.trans (belowK_b (w := w) (Nat.le_refl _) _ W0.heap.size _ _ (by omega) hK rfl rfl)
theorem plain_any (s : ByteArray) (hs : s.size ≤ maxLen) (w : World) :
    Calls Try.prog 14 #[.string s] w fun e w' => e = .returned (.bool (plainB s)) ∧ Below w.heap.size w w' := callsIn_wide.1 (plain_in s hs w)
end Go.Proofs.Ytgihafldphpncab
