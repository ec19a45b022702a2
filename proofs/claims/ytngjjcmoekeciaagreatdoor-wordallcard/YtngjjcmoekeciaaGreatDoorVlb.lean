/- The document's Lines: what it answers. -/
import Derived.Test.YtngjjcmoekeciaaGreatDoorVla
namespace Go.Proofs.YtngjjcmoekeciaaGreatDoor
open Go.RowKit Go.Shelf

theorem infoTq : (Tryz.prog.info? 50).map (fun i => (i.zero, i.size, i.bytes)) = some (some (.agg #[.int .i64 0, .string ByteArray.empty, .int .i64 0, .int .i64 0]), 4, 40) := by kernel_rfl
theorem infoLq : (Tryz.prog.info? 39).map (fun i => (i.zero, i.size, i.bytes)) = some (some (.slice none 0 0), 1, 24) := by kernel_rfl
theorem new_src {W : World} (cs : Array Value) (t : TypeId) : ∀ j u, cs.toList[j]? = some u → (W.alloc (.cells cs t)).cell? ((⟨W.heap.size, 0, none⟩ : Addr).add j) = some u := by
  intro j u h
  have hg : (W.alloc (.cells cs t)).heap[W.heap.size]? = some (.cells cs t) := new_at rfl
  rw [add_pl, Nat.zero_add, cell_at hg j, ← h]
  simp
theorem row_slice {w : World} {base size : Nat} {e : TypeId} {v : Value} {n : Nat} {xs : List Value} (h : w.ownsRow base e size v n xs) : ∃ ad cap, v = .slice ad n cap := by
  rcases own_form h with ⟨e1, e2⟩ | ⟨g, cap, e1, _⟩
  · exact ⟨none, 0, by rw [e1, e2]⟩
  · exact ⟨_, cap, e1⟩
/-- While the document's lines are gathered. -/
structure Ld (w : World) (l : List Fq) (k : Nat) (o r : Value) (x : List Value) (V : World) : Prop where
  out : V.ownsRow w.heap.size 39 1 o (lns (l.take k)).1.length x
  row : V.ownsRow w.heap.size 50 4 r (lns (l.take k)).2.length (cq (lns (l.take k)).2)
  kept : ∀ (i : Nat) (d : List Fq), (lns (l.take k)).1[i]? = some d → ∃ z, x[i]? = some z ∧ V.ownsRow w.heap.size 50 4 z d.length (cq d) ∧ d.length ≤ l.length
  ap : ∀ (i b : Nat) (z : Value), x[i]? = some z → z.ownBlock = some b → r.ownBlock ≠ some b
  bl : Below w.heap.size w V
section
variable {w V V' : World} {l : List Fq} {k : Nat} {o r : Value} {x : List Value}
theorem Ld.lx (h : Ld w l k o r x V) : x.length = (lns (l.take k)).1.length := by have := h.out.1; omega
theorem Ld.carry (h : Ld w l k o r x V) (hb : Below V.heap.size V V') : Ld w l k o r x V' :=
  ⟨row_below h.out hb, row_below h.row hb, fun i d hd => by
    obtain ⟨z, h1, h2, h3⟩ := h.kept i d hd
    exact ⟨z, h1, row_below h2 hb, h3⟩, h.ap, bel2 h.bl hb⟩
/-- All of them: what is told in the end. -/
theorem Ld.rows (h : Ld w l k o r x V) (hl : l.length * 40 ≤ 140737488351232) : RwQ V x (lns (l.take k)).1 := ⟨h.lx, fun i d hd => by
  obtain ⟨z, h1, h2, h3⟩ := h.kept i d hd
  obtain ⟨ad, c, rfl⟩ := row_slice h2
  exact ⟨ad, c, h1, RdQ.own h2, by omega⟩⟩
theorem get_snocQ {α : Type} (a : List α) (b : α) (i : Nat) (c : α) (h : (a ++ [b])[i]? = some c) : (i < a.length ∧ a[i]? = some c) ∨ (i = a.length ∧ c = b) := by
  have hi := (List.getElem?_eq_some_iff.1 h).1
  simp at hi
  by_cases q : i < a.length
  · rw [List.getElem?_append_left q] at h
    exact .inl ⟨q, h⟩
  · have e : i = a.length := by omega
    subst e
    simp at h
    exact .inr ⟨rfl, h.symm⟩
/-- The line is put behind the others. -/
theorem Ld.push (h : Ld w l k o r x V) (hk : k ≤ l.length) {o' : Value} (hg : V.grownBy V' o.ownBlock) (ho : V'.ownsRow w.heap.size 39 1 o' ((lns (l.take k)).1.length + 1) (x ++ [r])) : V'.ownsRow w.heap.size 39 1 o' ((lns (l.take k)).1 ++ [(lns (l.take k)).2]).length (x ++ [r]) ∧ (∀ (i : Nat) (d : List Fq), ((lns (l.take k)).1 ++ [(lns (l.take k)).2])[i]? = some d → ∃ z, (x ++ [r])[i]? = some z ∧ V'.ownsRow w.heap.size 50 4 z d.length (cq d) ∧ d.length ≤ l.length) ∧ Below w.heap.size w V' := by
  have hlx := h.lx
  have hty : ∀ {z : Value} {n : Nat} {ys : List Value}, V.ownsRow w.heap.size 50 4 z n ys → V'.ownsRow w.heap.size 50 4 z n ys := fun {z n ys} hz => row_apart2 hz hg (fun b e e2 => by
    obtain ⟨_, cur, h3⟩ := rowBlk hz b e2
    exact row_type h.out h3 (by decide) e)
  refine ⟨by rw [List.length_append]; exact ho, fun i d hd => ?_, h.bl.grown hg h.bl.size (fun q e => (row_lt2 h.out q e).1)⟩
  rcases get_snocQ _ _ i d hd with ⟨q1, q2⟩ | ⟨q1, rfl⟩
  · obtain ⟨z, h1, h2, h3⟩ := h.kept i d q2
    exact ⟨z, by rw [List.getElem?_append_left (by omega)]; exact h1, hty h2, h3⟩
  · refine ⟨r, by rw [q1, ← hlx]; simp, hty h.row, ?_⟩
    have := (lns_size l k hk).1
    omega
theorem Ld.done (h : Ld w l k o r x V) (hk : k < l.length) {y : Fq} (hy : l[k]? = some y) (h1 : y.1 = 1) {o' : Value} (hg : V.grownBy V' o.ownBlock) (ho : V'.ownsRow w.heap.size 39 1 o' ((lns (l.take k)).1.length + 1) (x ++ [r])) : Ld w l (k + 1) o' (.slice none 0 0) (x ++ [r]) V' := by
  obtain ⟨a, b, c⟩ := h.push (by omega) hg ho
  have e : lns (l.take (k + 1)) = ((lns (l.take k)).1 ++ [(lns (l.take k)).2], []) := by rw [lns_succ l k y hy, lnF, if_pos h1]
  refine ⟨by rw [e]; exact a, by rw [e]; exact World.ownsRow_nil _ _ _ _, fun i d hd => ?_, fun i b z hz hb e2 => (by cases e2), c⟩
  rw [e] at hd
  exact b i d hd
theorem Ld.more (h : Ld w l k o r x V) {y : Fq} (hy : l[k]? = some y) (h1 : y.1 ≠ 1) {r' : Value} (hg : V.grownBy V' r.ownBlock) (hr : V'.ownsRow w.heap.size 50 4 r' ((lns (l.take k)).2.length + 1) (cq (lns (l.take k)).2 ++ cq [y])) (hown : r'.ownBlock = r.ownBlock ∨ r'.ownBlock = some V.heap.size) : Ld w l (k + 1) o r' x V' := by
  have e : lns (l.take (k + 1)) = ((lns (l.take k)).1, (lns (l.take k)).2 ++ [y]) := by rw [lns_succ l k y hy, lnF, if_neg h1]
  refine ⟨?_, ?_, fun i d hd => ?_, fun i b z hz hb e2 => ?_, h.bl.grown hg h.bl.size (fun q e => (row_lt2 h.row q e).1)⟩
  · rw [e]
    exact row_apart2 h.out hg (fun b e e2 => by
      obtain ⟨_, cur, h3⟩ := rowBlk h.out b e2
      exact row_type h.row h3 (by decide) e)
  · rw [e]
    simp only [List.length_append, List.length_cons, List.length_nil]
    rw [cq_append]
    exact hr
  · rw [e] at hd
    obtain ⟨z, h2, h3, h4⟩ := h.kept i d hd
    exact ⟨z, h2, row_apart2 h3 hg (fun b e e2 => h.ap i b z h2 e2 e), h4⟩
  · rcases hown with q | q
    · exact h.ap i b z hz hb (q.symm.trans e2)
    · have hi : i < (lns (l.take k)).1.length := by rw [← h.lx]; exact (List.getElem?_eq_some_iff.1 hz).1
      obtain ⟨z', h2, h3, _⟩ := h.kept i _ (List.getElem?_eq_getElem hi)
      rw [hz] at h2
      obtain rfl := Option.some.inj h2
      have := (row_lt2 h3 b hb).2
      rw [q] at e2
      simp at e2
      omega
end
/-- What Lines answers: the lines, in a row of one's own. -/
def LnO (w : World) (l : List Fq) (e : Ending) (w' : World) : Prop := ∃ ao co x, e = .returned (.slice ao (outL l).length co) ∧ w'.ownsRow w.heap.size 39 1 (.slice ao (outL l).length co) (outL l).length x ∧ RwQ w' x (outL l) ∧ Below w.heap.size w w'
set_option maxHeartbeats 8000000 in
set_option maxRecDepth 100000 in
theorem rLines_any (ad : Option Addr) (cap : Nat) (l : List Fq) (w : World) (hr : RdQ w ad l) (hl : l.length * 40 ≤ 140737488351232) : Calls Tryz.prog 10 #[.slice ad l.length cap] w (LnO w l) := by
  obtain ⟨ic, hic, hz0, hz1, hz2⟩ := info_parts infoTq
  obtain ⟨ia, hia, hy0, hy1, hy2⟩ := info_parts infoLq
  obtain ⟨n, hn⟩ : ∃ n, l.length = n := ⟨_, rfl⟩
  rw [hn]
  have HN : Hid (l.length = n) := hn
  clear hn
  go_enter Tryz.func10, Tryz.ntmps10
  go_wp2
  go_loopw [3, 4, 5] (fun o r i wz => ∃ (k : Nat) (x : List Value), i = .int .i64 (k : Int) ∧ k ≤ n ∧ Ld w l k o r x wz) (fun _ _ i _ => n - vnatQ i)
  case atStart => exact ⟨0, [], rfl, Nat.zero_le _, World.ownsRow_nil _ _ _ _, World.ownsRow_nil _ _ _ _, fun i d hd => by simp [lns] at hd, fun i b z hz => by simp at hz, Below.refl _ _⟩
  case round =>
    obtain ⟨k, x, rfl, hk, hL⟩ := hrel
    have hs := lns_size l k (by rw [HN.out]; exact hk)
    obtain ⟨ao, co, eo⟩ := row_slice hL.out
    obtain ⟨ar, cr, er⟩ := row_slice hL.row
    subst eo er
    have hn40 := HN.out
    have hlim : n * 40 ≤ 140737488351232 := by rw [← hn40]; exact hl
    clear hn40
    obtain ⟨D, hD⟩ : ∃ D, (lns (l.take k)).1.length = D := ⟨_, rfl⟩
    obtain ⟨C, hC⟩ : ∃ C, (lns (l.take k)).2.length = C := ⟨_, rfl⟩
    have HD : Hid ((lns (l.take k)).1.length = D) := hD
    have HC : Hid ((lns (l.take k)).2.length = C) := hC
    have hDk : D ≤ k := by rw [← hD]; exact hs.2.1
    have hCk : C ≤ k := by rw [← hC]; exact hs.1
    rw [hD, hC] at hL ⊢
    have HL : Hid (Ld w l k (.slice ao D co) (.slice ar C cr) x wr) := hL
    clear hL hD hC hs
    by_cases hkl : k < n
    · have hki : (k : Int) < (n : Int) := by omega
      obtain ⟨y, hy⟩ : ∃ y, l[k]? = some y := ⟨_, List.getElem?_eq_getElem (by rw [HN.out]; exact hkl)⟩
      have hne : l ≠ [] := fun e => by subst e; simp at hy
      obtain ⟨b, off, rfl, hbl, hat⟩ := hr hne
      have hat' := hat.carry (HL.out.bl.block _ hbl)
      obtain ⟨c0, c1, c2, c3⟩ := hat' k y hy
      have hout : wr.ownsRow w.heap.size 39 1 (.slice ao D co) D x := by have := HL.out.out; rw [HD.out] at this; exact this
      have hrow : wr.ownsRow w.heap.size 50 4 (.slice ar C cr) C (cq (lns (l.take k)).2) := by have := HL.out.row; rw [HC.out] at this; exact this
      have hbz := HL.out.bl.size
      by_cases h1 : y.1 = 1
      · go_wp2_with (at_builtin; refine wpList_append_own_at _ rfl _ _ 27 rfl w.heap.size 39 ia _ 1 24 Tryz.underlying27 hia hy0 hy1 hy2 rfl (by decide) _ D x rfl (row_below hout (al1' _ _)) ⟨wr.heap.size, 0, none⟩ 1 1 [.slice ar C cr] rfl rfl (new_src #[.slice ar C cr] 39) (by simp [Value.oneCell']) (by unfold maxLen; omega) (by omega) (Nat.le_trans hbz (al1' _ _).size) ?_; intro v2 u2 ho2 hg2 _ _; have HX : Hid (Ld w l (k + 1) v2 (.slice none 0 0) (x ++ [.slice ar C cr]) u2) := (HL.out.carry (al1' wr (.cells #[.slice ar C cr] 39))).done (by rw [HN.out]; exact hkl) hy h1 hg2 (by rw [HD.out]; exact ho2); clear ho2 hg2)
        go_roundw
        case rel => exact ⟨k + 1, _, by simp, by omega, HX.out⟩
        case measure => simp [vnatQ]; omega
      · go_wp2_with (at_builtin; refine wpList_append_own_at _ rfl _ _ 39 rfl w.heap.size 50 ic _ 4 40 Tryz.underlying39 hic hz0 hz1 hz2 rfl (by decide) _ C (cq (lns (l.take k)).2) rfl (row_below hrow (al1' _ _)) ⟨wr.heap.size, 0, none⟩ 1 1 (cq [y]) rfl rfl (new_src #[.int .i64 y.1, .string y.2.1, .int .i64 y.2.2.1, .int .i64 y.2.2.2] 50) (cq_one _) (by unfold maxLen; omega) (by omega) (Nat.le_trans hbz (al1' _ _).size) ?_; intro v2 u2 ho2 hg2 _ hown; have HX : Hid (Ld w l (k + 1) (.slice ao D co) v2 x u2) := (HL.out.carry (al1' wr (.cells #[.int .i64 y.1, .string y.2.1, .int .i64 y.2.2.1, .int .i64 y.2.2.2] 50))).more hy h1 hg2 (by rw [HC.out]; exact ho2) hown; clear ho2 hg2 hown)
        go_roundw
        case rel => exact ⟨k + 1, _, by simp, by omega, HX.out⟩
        case measure => simp [vnatQ]; omega
    · have hkk : k = n := by omega
      subst hkk
      have hki : ¬ ((k : Int) < (k : Int)) := by omega
      have htk : l.take k = l := List.take_of_length_le (by rw [HN.out]; omega)
      have hbz := HL.out.bl.size
      have hout : wr.ownsRow w.heap.size 39 1 (.slice ao D co) D x := by have := HL.out.out; rw [HD.out] at this; exact this
      by_cases hC0 : C = 0
      · subst hC0
        have hnil : (lns l).2 = [] := by have := HC.out; rw [htk] at this; exact List.length_eq_zero_iff.1 this
        have eo : outL l = (lns l).1 := by unfold outL; rw [if_pos hnil]
        go_wp2
        go_ret
        have hrw := HL.out.rows hl
        have hD := HD.out
        rw [htk] at hrw hD
        refine ⟨ao, co, x, ?_, ?_, ?_, HL.out.bl⟩
        · rw [eo, hD]
          rfl
        · rw [eo, hD]
          exact hout
        · rw [eo]
          exact hrw
      · have hCi : 0 < (C : Int) := by omega
        have hnil : ¬ (lns l).2 = [] := fun e => by have := HC.out; rw [htk, e] at this; simp at this; omega
        have eo : outL l = (lns l).1 ++ [(lns l).2] := by unfold outL; rw [if_neg hnil]
        go_wp2_with (at_builtin; refine wpList_append_own_at _ rfl _ _ 27 rfl w.heap.size 39 ia _ 1 24 Tryz.underlying27 hia hy0 hy1 hy2 rfl (by decide) _ D x rfl (row_below hout (al1' _ _)) ⟨wr.heap.size, 0, none⟩ 1 1 [.slice ar C cr] rfl rfl (new_src #[.slice ar C cr] 39) (by simp [Value.oneCell']) (by unfold maxLen; omega) (by omega) (Nat.le_trans hbz (al1' _ _).size) ?_; intro v2 u2 ho2 hg2 _ _; obtain ⟨a2, c2, e2⟩ := row_slice ho2; subst e2; have HX := (HL.out.carry (al1' wr (.cells #[.slice ar C cr] 39))).push (by rw [HN.out]; omega) hg2 (by rw [HD.out]; exact ho2))
        go_ret
        obtain ⟨p1, p2, p3⟩ := HX
        rw [htk, ← eo] at p1 p2
        have hD := HD.out
        rw [htk] at hD
        have el : (outL l).length = D + 1 := by rw [eo]; simp [hD]
        refine ⟨a2, c2, x ++ [.slice ar C cr], ?_, ?_, ⟨?_, fun i d hd => ?_⟩, p3⟩
        · rw [el]
          rfl
        · rw [el]
          exact ho2
        · have := ho2.1
          rw [el]
          omega
        · obtain ⟨z, q1, q2, q3⟩ := p2 i d hd
          obtain ⟨az, cz, rfl⟩ := row_slice q2
          exact ⟨az, cz, q1, RdQ.own q2, by omega⟩
end Go.Proofs.YtngjjcmoekeciaaGreatDoor
