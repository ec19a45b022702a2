/- Two lists of bytes that are kept; the document's and the program's Decode side by side. -/
import Derived.Test.YtnkdfpbgdimaoaaGreatApg
import Derived.Test.YtnkdfpbgdimaoaaGreatLtk
import Derived.Test.YtnkdfpbgdimaoaaGreatRtb
import Derived.Test.YtnkdfpbgdimaoaaGreatDls
namespace Go.Proofs.YtnkdfpbgdimaoaaGreat
open Go.RowKit Go.Shelf Go.Lib

section
variable {base bb : Nat} {W V : World}
/-- A block that is neither the book nor a row of lists abides. -/
theorem Kp.blk (hk : Kp base bb W V) {u v : Value} (hkb : KB W bb u v) {g : Nat} {cur : Array Value} {t : TypeId} (h : W.heap[g]? = some (.cells cur t (0, 0))) (h1 : t ≠ 47) (h2 : t ≠ 24) : V.heap[g]? = some (.cells cur t (0, 0)) :=
  hk.block g _ h (fun e => by
    subst e
    have := hkb.symm.trans h
    simp only [Option.some.injEq, Obj.cells.injEq] at this
    exact h1 this.2.1.symm) (.inr (fun c fz e => by
    simp only [Obj.cells.injEq] at e
    exact h2 e.2.1))
theorem Fl.kp {z : Value} {l : List Nat} {gi : Option Nat} (h : Fl W z l gi) (hk : Kp base bb W V) {u v : Value} (hkb : KB W bb u v) : Fl V z l gi := by
  refine h.carry fun g e => ?_
  rcases h with ⟨_, _, q⟩ | ⟨g', off, cur, t, h1, h2, h3, h4, h5, h6⟩
  · rw [q] at e; cases e
  · rw [h2] at e
    cases e
    rw [hk.blk hkb h3 h4 h5, h3]
/-- A copy: a slice of these bytes, in a block of bytes. -/
def Cpy (W : World) (z : Value) (l : List Nat) : Prop := ∃ ad c, z = .slice ad l.length c ∧ RdY W ad l
theorem Cpy.carry {z : Value} {l : List Nat} (h : Cpy W z l) (hb : Below W.heap.size W V) : Cpy V z l := by
  obtain ⟨ad, c, e, h1⟩ := h
  exact ⟨ad, c, e, h1.carry hb⟩
theorem Cpy.kp {z : Value} {l : List Nat} (h : Cpy W z l) (hk : Kp base bb W V) {u v : Value} (hkb : KB W bb u v) : Cpy V z l := by
  obtain ⟨ad, c, e, h1⟩ := h
  refine ⟨ad, c, e, fun hl => ?_⟩
  obtain ⟨b, off, e1, ⟨cur, h2⟩, h3⟩ := h1 hl
  have h4 := hk.blk hkb h2 (by decide) (by decide)
  exact ⟨b, off, e1, ⟨cur, h4⟩, h3.carry (h4.trans h2.symm)⟩
theorem Cpy.own {base : Nat} {z : Value} {l : List Nat} (h : W.ownsRow base 5 1 z l.length (cB l)) : Cpy W z l := by
  obtain ⟨a, c, e, _⟩ := ownsRow_form h
  subst e
  exact ⟨a, c, rfl, RdY.own h⟩
theorem two_kl {x1 x2 y1 y2 : Value} {l1 l2 : List Nat} {G1 G2 : Option Nat} (hn : NKx base bb W 2 [x1, x2] [y1, y2]) (f1 : Fl W x1 l1 G1) (f2 : Fl W x2 l2 G2) (b1 : Byt l1 ∧ l1.length ≤ 1000) (b2 : Byt l2 ∧ l2.length ≤ 1000) (ap : ∀ g, G1 = some g → G2 ≠ some g) (g1 : ∀ g, G1 = some g → base ≤ g) (g2 : ∀ g, G2 = some g → base ≤ g) (c1 : Cpy W y1 l1) (c2 : Cpy W y2 l2) : ∃ u v, Kl base bb W u v [x1, x2] [l1, l2] [G1, G2] ∧ Cp base W v [y1, y2] [l1, l2] := by
  obtain ⟨u, v, _, hkb, hr1, hr2, _, hbb⟩ := hn
  refine ⟨u, v, ⟨hkb, hr1, fun i l hl => ?_, fun i j g hi hj => ?_, fun i g hi => ?_, hbb, by simp⟩, hr2, fun i l hl => ?_⟩
  · match i, hl with
    | 0, hl => cases hl; exact ⟨_, _, rfl, rfl, f1, b1⟩
    | 1, hl => cases hl; exact ⟨_, _, rfl, rfl, f2, b2⟩
  · match i, j, hi, hj with
    | 0, 0, _, _ => rfl
    | 1, 1, _, _ => rfl
    | 0, 1, hi, hj => exact absurd (Option.some.inj hj) (ap g (Option.some.inj hi))
    | 1, 0, hi, hj => exact absurd (Option.some.inj hi) (ap g (Option.some.inj hj))
  · match i, hi with
    | 0, hi => exact g1 g (Option.some.inj hi)
    | 1, hi => exact g2 g (Option.some.inj hi)
  · match i, hl with
    | 0, hl =>
      cases hl
      obtain ⟨ad, c, e, h⟩ := c1
      exact ⟨ad, c, by rw [e]; rfl, h.rd⟩
    | 1, hl =>
      cases hl
      obtain ⟨ad, c, e, h⟩ := c2
      exact ⟨ad, c, by rw [e]; rfl, h.rd⟩
end
/-- Both tell one thing of any bytes. -/
theorem dec_both (l : List Nat) (hB : Byt l) : ∃ (q : Rec) (m g : Int), (∀ (V : World) (ad : Option Addr) (cap : Nat), RdB V ad l → Calls Tryz.prog 8 #[.slice ad l.length cap] V fun e w' => e = .returned (.tuple #[.agg #[.int .i64 q.li, .int .i64 q.ro, .int .i64 q.ta], .int .i64 m, .int .i64 g]) ∧ Below V.heap.size V w') ∧ (∀ (V : World) (ad : Option Addr) (cap : Nat), RdB V ad l → Calls Tryz.prog 9 #[.slice ad l.length cap] V fun e w' => e = .returned (.tuple #[.agg #[.int .i64 q.li, .int .i64 q.ro, .int .i64 q.ta], .int .i64 m, .int .i64 g]) ∧ Below V.heap.size V w') := by
  by_cases hl : l.length = 64
  · cases hs : say l with
    | none =>
      refine ⟨⟨0, 0, 0⟩, 0, 70, fun V ad cap h => ?_, fun V ad cap h => ?_⟩
      · have := dec_any ad cap l V h hl hB
        rw [hs] at this
        rw [hl]
        exact this
      · have := rdec_any ad cap l V h hl hB
        rw [hs] at this
        rw [hl]
        exact this
    | some x =>
      obtain ⟨q, s⟩ := x
      refine ⟨q, s, 0, fun V ad cap h => ?_, fun V ad cap h => ?_⟩
      · have := dec_any ad cap l V h hl hB
        rw [hs] at this
        rw [hl]
        exact this
      · have := rdec_any ad cap l V h hl hB
        rw [hs] at this
        rw [hl]
        exact this
  · exact ⟨⟨0, 0, 0⟩, 0, 102, fun V ad cap _ => dec_len ad cap l.length V hl, fun V ad cap _ => rdec_len ad cap l.length V hl⟩
theorem nk_zero (W : World) (base bb : Nat) (hkb : KB W bb (.slice none 0 0) (.slice none 0 0)) (hb : base ≤ bb) : NKx base bb W 0 [] [] := ⟨_, _, by omega, hkb, ⟨rfl, .inl ⟨rfl, rfl⟩⟩, ⟨rfl, .inl ⟨rfl, rfl⟩⟩, fun q e => (by cases e), hb⟩
end Go.Proofs.YtnkdfpbgdimaoaaGreat
