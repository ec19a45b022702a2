/- A book of lists of ints, kept one by one. -/
import Derived.Test.YtoplegfibdmjeaaDoorSmg
namespace Go.Proofs.YtoplegfibdmjeaaDoor
open Go.RowKit Go.Shelf Go.Lib

section
variable {base bb : Nat} {W V : World}
/-- A block that is neither the book nor a row of lists abides. -/
theorem Kp.blk (hk : Kp base bb W V) {u v : Value} (hkb : KB W bb u v) {g : Nat} {cur : Array Value} {t : TypeId} (h : W.heap[g]? = some (.cells cur t (0, 0))) (h1 : t ≠ 38) (h2 : t ≠ 42) : V.heap[g]? = some (.cells cur t (0, 0)) :=
  hk.block g _ h (fun e => by
    subst e
    have := hkb.symm.trans h
    simp only [Option.some.injEq, Obj.cells.injEq] at this
    exact h1 this.2.1.symm) (.inr (fun c fz e => by
    simp only [Obj.cells.injEq] at e
    exact h2 e.2.1))
theorem Fl.kp {z : Value} {l : List Int} {gi : Option Nat} (h : Fl W z l gi) (hk : Kp base bb W V) {u v : Value} (hkb : KB W bb u v) : Fl V z l gi := by
  refine h.carry fun g e => ?_
  rcases h with ⟨_, _, q⟩ | ⟨g', off, cur, t, h1, h2, h3, h4, h5, h6⟩
  · rw [q] at e; cases e
  · rw [h2] at e
    cases e
    rw [hk.blk hkb h3 h4 h5, h3]
/-- A copy: a slice of these bytes, in a block of bytes. -/
def Cpy (W : World) (z : Value) (l : List Int) : Prop := ∃ ad c, z = .slice ad l.length c ∧ RdY W ad l
theorem Cpy.carry {z : Value} {l : List Int} (h : Cpy W z l) (hb : Below W.heap.size W V) : Cpy V z l := by
  obtain ⟨ad, c, e, h1⟩ := h
  exact ⟨ad, c, e, h1.carry hb⟩
theorem Cpy.kp {z : Value} {l : List Int} (h : Cpy W z l) (hk : Kp base bb W V) {u v : Value} (hkb : KB W bb u v) : Cpy V z l := by
  obtain ⟨ad, c, e, h1⟩ := h
  refine ⟨ad, c, e, fun hl => ?_⟩
  obtain ⟨b, off, e1, ⟨cur, h2⟩, h3⟩ := h1 hl
  have h4 := hk.blk hkb h2 (by decide) (by decide)
  exact ⟨b, off, e1, ⟨cur, h4⟩, h3.carry (h4.trans h2.symm)⟩
theorem Cpy.own {base : Nat} {z : Value} {l : List Int} (h : W.ownsRow base 3 1 z l.length (cB l)) : Cpy W z l := by
  obtain ⟨a, c, e, _⟩ := ownsRow_form h
  subst e
  exact ⟨a, c, rfl, RdY.own h⟩
theorem NKx.carry {k : Nat} {x y : List Value} (h : NKx base bb W k x y) (hb : Below W.heap.size W V) : NKx base bb V k x y := by
  obtain ⟨u, v, h1, h2, h3, h4, h5, h6⟩ := h
  exact ⟨u, v, h1, (hb.block _ (lt_at h2)).trans h2, row_below h3 hb, row_below h4 hb, h5, h6⟩
/-- So many lists are kept, each in a block of its own below top. -/
def JQ (base bb top : Nat) (W : World) (kk : Nat) : Prop := ∃ (x y : List Value) (L : List (List Int)) (G : List (Option Nat)), L.length = kk ∧ G.length = kk ∧ NKx base bb W kk x y ∧ (∀ (i : Nat) (l : List Int), L[i]? = some l → ∃ z gi y', x[i]? = some z ∧ G[i]? = some gi ∧ y[i]? = some y' ∧ Fl W z l gi ∧ Cpy W y' l ∧ Byt l ∧ l.length ≤ 1000) ∧ (∀ (i j g : Nat), G[i]? = some (some g) → G[j]? = some (some g) → i = j) ∧ (∀ (i g : Nat), G[i]? = some (some g) → base ≤ g ∧ g < top)
theorem JQ.carry {top kk : Nat} (h : JQ base bb top W kk) (hb : Below W.heap.size W V) : JQ base bb top V kk := by
  obtain ⟨x, y, L, G, h1, h2, h3, h4, h5, h6⟩ := h
  refine ⟨x, y, L, G, h1, h2, h3.carry hb, fun i l hl => ?_, h5, h6⟩
  obtain ⟨z, gi, y', k1, k2, k3, k4, k5, k6⟩ := h4 i l hl
  exact ⟨z, gi, y', k1, k2, k3, k4.carry (fun g e => by subst e; exact hb.block g k4.lt), k5.carry hb, k6⟩
theorem JQ.mono {top top' kk : Nat} (h : JQ base bb top W kk) (ht : top ≤ top') : JQ base bb top' W kk := by
  obtain ⟨x, y, L, G, h1, h2, h3, h4, h5, h6⟩ := h
  exact ⟨x, y, L, G, h1, h2, h3, h4, h5, fun i g hg => ⟨(h6 i g hg).1, Nat.lt_of_lt_of_le (h6 i g hg).2 ht⟩⟩
theorem JQ.kl {top kk : Nat} (h : JQ base bb top W kk) : ∃ u v x y L G, Kl base bb W u v x L G ∧ Cp base W v y L := by
  obtain ⟨x, y, L, G, rfl, h2, ⟨u, v, k1, k2, k3, k4, k5, k6⟩, h4, h5, h6⟩ := h
  refine ⟨u, v, x, y, L, G, ⟨k2, k3, fun i l hl => ?_, h5, fun i g hg => (h6 i g hg).1, k6, k1⟩, k4, fun i l hl => ?_⟩
  · obtain ⟨z, gi, y', q1, q2, q3, q4, q5, q6⟩ := h4 i l hl
    exact ⟨z, gi, q1, q2, q4, q6⟩
  · obtain ⟨z, gi, y', q1, q2, q3, q4, ⟨ad, c, e, hr⟩, q6⟩ := h4 i l hl
    exact ⟨ad, c, by rw [q3, e], hr.rd⟩
theorem jq_zero (W : World) (base bb top : Nat) (hkb : KB W bb (.slice none 0 0) (.slice none 0 0)) (hb : base ≤ bb) : JQ base bb top W 0 :=
  ⟨[], [], [], [], rfl, rfl, ⟨_, _, by omega, hkb, ⟨rfl, .inl ⟨rfl, rfl⟩⟩, ⟨rfl, .inl ⟨rfl, rfl⟩⟩, fun q e => (by cases e), hb⟩, fun i l h => (by simp at h), fun i j g h => (by simp at h), fun i g h => (by simp at h)⟩
theorem JQ.bk {top kk : Nat} (h : JQ base bb top W kk) : ∃ u v, KB W bb u v := by
  obtain ⟨x, y, L, G, h1, h2, ⟨u, v, k1, k2, _⟩, _⟩ := h
  exact ⟨u, v, k2⟩
theorem get_snoc {α : Type} {l : List α} {a b : α} {i : Nat} (h : (l ++ [a])[i]? = some b) : l[i]? = some b ∨ (i = l.length ∧ b = a) := by
  by_cases hi : i < l.length
  · rw [List.getElem?_append_left hi] at h
    exact .inl h
  · have hlt := (List.getElem?_eq_some_iff.1 h).1
    simp at hlt
    have e : i = l.length := by omega
    subst e
    rw [List.getElem?_append_right (Nat.le_refl _), Nat.sub_self] at h
    cases h
    exact .inr ⟨rfl, rfl⟩
theorem snoc_old {α : Type} {l : List α} {a b : α} {i : Nat} (h : l[i]? = some b) : (l ++ [a])[i]? = some b := by
  rw [List.getElem?_append_left (List.getElem?_eq_some_iff.1 h).1]
  exact h
theorem snoc_new {α : Type} (l : List α) (a : α) {i : Nat} (h : i = l.length) : (l ++ [a])[i]? = some a := by subst h; simp
theorem jq_put {top kk b0 g : Nat} {l : List Int} (h : JQ base bb top W kk) (hbz : base ≤ W.heap.size) (hk : kk < 400) (hown : W.ownsRow b0 3 1 (.slice (some ⟨g, 0, none⟩) l.length l.length) l.length (cB l)) (hB : Byt l) (hl : l.length ≤ 1000) (hg : base ≤ g) (ht : top ≤ g) : Calls Tryd.prog 8 #[.pointer (some ⟨bb, 0, none⟩), .slice (some ⟨g, 0, none⟩) l.length l.length] W fun e V => (∃ v, e = .returned v) ∧ Kp base bb W V ∧ JQ base bb (g + 1) V (kk + 1) := by
  obtain ⟨x, y, L, G, h1, h2, h3, h4, h5, h6⟩ := h
  obtain ⟨hb0, cur, hcur⟩ := ownsRow_block hown g rfl
  have hkb : ∃ u v, KB W bb u v := by
    obtain ⟨u, v, _, k2, _⟩ := h3
    exact ⟨u, v, k2⟩
  obtain ⟨u, v, hkb⟩ := hkb
  have hfl : Fl W (.slice (some ⟨g, 0, none⟩) l.length l.length) l (some g) := .inr ⟨g, 0, cur, 3, rfl, rfl, hcur, by decide, by decide, b_own hown rfl⟩
  have hxl : x.length = kk := by
    obtain ⟨_, _, _, _, k3, _⟩ := h3
    have := k3.1
    omega
  have hyl : y.length = kk := by
    obtain ⟨_, _, _, _, _, k4, _⟩ := h3
    have := k4.1
    omega
  refine (kints_any h3 hbz (some ⟨g, 0, none⟩) l.length l (RdY.own hown).rd (fun a e => by cases e; exact ⟨cur, _, _, hcur, by decide, by decide⟩) hl (fun e => by cases e)).mono ?_
  rintro e V ⟨he, hkp, hc⟩
  rcases hc with ⟨_, z, hnk, hz⟩ | ⟨q, _⟩
  · refine ⟨he, hkp, x ++ [.slice (some ⟨g, 0, none⟩) l.length l.length], y ++ [z], L ++ [l], G ++ [some g], by simp [h1], by simp [h2], hnk, fun i l' hl' => ?_, fun i j g' hi hj => ?_, fun i g' hi => ?_⟩
    · rcases get_snoc hl' with q | ⟨e1, rfl⟩
      · obtain ⟨z', gi, y', q1, q2, q3, q4, q5, q6⟩ := h4 i l' q
        exact ⟨z', gi, y', snoc_old q1, snoc_old q2, snoc_old q3, q4.kp hkp hkb, q5.kp hkp hkb, q6⟩
      · exact ⟨_, _, _, snoc_new x _ (by omega), snoc_new G _ (by omega), snoc_new y _ (by omega), hfl.kp hkp hkb, Cpy.own hz, hB, hl⟩
    · rcases get_snoc hi with q | ⟨e1, e2⟩
      · rcases get_snoc hj with r | ⟨e3, e4⟩
        · exact h5 i j g' q r
        · have := (h6 i g' q).2
          cases e4
          omega
      · rcases get_snoc hj with r | ⟨e3, e4⟩
        · have := (h6 j g' r).2
          cases e2
          omega
        · omega
    · rcases get_snoc hi with q | ⟨e1, e2⟩
      · exact ⟨(h6 i g' q).1, by have := (h6 i g' q).2; omega⟩
      · cases e2
        exact ⟨hg, by omega⟩
  · omega
end
end Go.Proofs.YtoplegfibdmjeaaDoor
