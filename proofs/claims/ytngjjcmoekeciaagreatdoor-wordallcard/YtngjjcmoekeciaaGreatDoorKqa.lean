/- Lists that are kept, rows of their own or pieces of a row: what does not hang on the kind. -/
import Derived.Test.YtngjjcmoekeciaaGreatDoorKpp
namespace Go.Proofs.YtngjjcmoekeciaaGreatDoor.Kel
open Go.RowKit Go.Shelf Go.Lib
set_option linter.unusedVariables false

/-- A row of its own, or a piece without room. -/
def Pq (base : Nat) (T : TypeId) (s : Nat) (z : Value) (n : Nat) (cs : List Value) (W : World) : Prop := W.ownsRow base T s z n cs ∨ ∃ g off, z = .slice (some ⟨g, off, none⟩) n n ∧ PzA base T s g off n n cs W
section
variable {base s n : Nat} {T : TypeId} {cs : List Value} {z z' : Value} {W V : World}
theorem Pq.pz (h : Pq base T s z n cs W) : Pz base T s z n cs W := by
  rcases h with h | ⟨g, off, e, h⟩
  · exact Pz.own h
  · exact .inr ⟨g, off, n, e, h⟩
theorem Pq.at (h : Pq base T s z n cs W) (e : ∀ g, z.ownBlock = some g → V.heap[g]? = W.heap[g]?) : Pq base T s z n cs V := by
  rcases h with h | ⟨g, off, ez, h⟩
  · exact .inl (row_at h e)
  · subst ez
    exact .inr ⟨g, off, rfl, h.at (e g rfl)⟩
theorem Pq.lt (h : Pq base T s z n cs W) : ∀ g, z.ownBlock = some g → base ≤ g ∧ g < W.heap.size := h.pz.lt
theorem Pq.carry (h : Pq base T s z n cs W) (hb : Below W.heap.size W V) : Pq base T s z n cs V := h.at fun q hq => hb.block q (h.lt q hq).2
theorem Pq.ty (h : Pq base T s z n cs W) : ∀ g, z.ownBlock = some g → ∃ cur, W.heap[g]? = some (.cells cur T (0, 0)) := h.pz.ty
theorem Pq.low {b2 : Nat} (h : Pq base T s z n cs W) (hb : b2 ≤ base) : Pq b2 T s z n cs W := by
  rcases h with h | ⟨g, off, e, h⟩
  · exact .inl (row_base h hb)
  · exact .inr ⟨g, off, e, ⟨Nat.le_trans hb h.bs, h.ex, h.nc, h.cm, h.ln, h.fa⟩⟩
theorem Pq.rd (h : Pq base T s z n cs W) : ∃ ad c, z = .slice ad n c ∧ RdF W ad cs ∧ (ad = none → c = 0) := h.pz.rd
theorem Pq.off (h : Pq base T s z n cs W) {ob : Option Nat} (hg : W.grownBy V ob) (hn : ∀ b, ob = some b → z.ownBlock ≠ some b) : Pq base T s z n cs V := h.at fun g hz => hg.block g (h.lt g hz).2 (fun e => hn g e.symm hz)
theorem Pq.type {q : Nat} {cur : Array Value} {t : TypeId} {fz : Nat × Nat} (h : Pq base T s z n cs W) (ho : W.heap[q]? = some (.cells cur t fz)) (ht : t ≠ T) : z.ownBlock ≠ some q := fun hq => by
  obtain ⟨c, h2⟩ := h.ty q hq
  have := h2.symm.trans ho
  simp only [Option.some.injEq, Obj.cells.injEq] at this
  exact ht this.2.1.symm
theorem own_sz {g cap : Nat} (h : W.ownsRow base T s (.slice (some ⟨g, 0, none⟩) n cap) n cs) : ∃ cur, W.heap[g]? = some (.cells cur T (0, 0)) ∧ cur.size = cap * s ∧ n ≤ cap ∧ base ≤ g ∧ cap ≤ maxLen := by
  rcases h.2 with ⟨e, _⟩ | ⟨g', cap', cur, e, h1, h2, h3, h4, h5, _⟩
  · cases e
  · cases e
    exact ⟨cur, h2, h5, h3, h1, h4⟩
/-- What is apart from a row that has room stays where it grows in place. -/
theorem keep_own (hs0 : 0 < s) {g cap n' : Nat} {b1 b2 : Nat} {xs xs' : List Value} (h : W.ownsRow b1 T s (.slice (some ⟨g, 0, none⟩) n cap) n xs) (hv : V.ownsRow b2 T s (.slice (some ⟨g, 0, none⟩) n' cap) n' xs') (hg : W.grownBy V (some g)) (hp : 0 < n') {n2 : Nat} {z2 : Value} {cs2 : List Value} {b3 : Nat} (h2 : Pq b3 T s z2 n2 cs2 W) (ha : Az s (.slice (some ⟨g, 0, none⟩) n cap) z2) : Pq b3 T s z2 n2 cs2 V := by
  obtain ⟨cur, c1, c2, c3, _⟩ := own_sz h
  obtain ⟨cur', d1, d2, d3, _⟩ := own_sz hv
  have hcap : 0 < cap := by omega
  have hcs : 0 < cap * s := Nat.mul_pos hcap hs0
  by_cases e : z2.ownBlock = some g
  · rcases h2 with h2 | ⟨g2, off2, ez, h2⟩
    · rcases own_form h2 with ⟨ez, _⟩ | ⟨g2, cap2, ez, _⟩
      · subst ez
        cases e
      · subst ez
        cases e
        obtain ⟨cur2, f1, f2, _⟩ := own_sz h2
        rw [c1] at f1
        cases f1
        have := ha g2 0 n cap 0 n2 cap2 rfl rfl
        omega
    · subst ez
      cases e
      obtain ⟨cur2, f1, f2⟩ := h2.ex
      rw [c1] at f1
      cases f1
      have := ha g2 0 n cap off2 n2 n2 rfl rfl
      have hz : n2 * s = 0 := by omega
      have hn2 : n2 = 0 := (Nat.mul_eq_zero.1 hz).resolve_right (by omega)
      subst hn2
      have hl := h2.ln
      have hnil : cs2 = [] := List.eq_nil_of_length_eq_zero (by omega)
      subst hnil
      exact .inr ⟨g2, off2, rfl, ⟨h2.bs, ⟨cur', d1, by omega⟩, Nat.le_refl _, h2.cm, by simp, fun j u hj => by simp at hj⟩⟩
  · exact h2.off hg (fun b eb => by cases eb; exact e)
end
section
variable {α : Type} {c : α → List Value} {s base : Nat} {T : TypeId} {W : World}
/-- An element is put: what is apart stays. -/
theorem pq_put (hs : ∀ a, (c a).length = s) (hs0 : 0 < s) (h1 : ∀ a, ∀ v ∈ c a, v.oneCell' = true) {g off n cap : Nat} {l : List α} (h : Pq base T s (.slice (some ⟨g, off, none⟩) n cap) n (fc c l) W) (hn : n = l.length) {j : Nat} (hj : j < n) (a : α) (val : Value) (hv : val.cells = (c a).toArray) (hi : (Tryz.prog.info? T).map (·.size) = some s) :
    ∃ V, (Instr.storeAt T (.pointer (some ⟨g, off + j * s, none⟩)) val).run Tryz.prog W = .ok () V ∧ Pq base T s (.slice (some ⟨g, off, none⟩) n cap) n (fc c (l.set j a)) V ∧ (∀ {b2 n2 : Nat} {z2 : Value} {cs2 : List Value}, Pq b2 T s z2 n2 cs2 W → Az s (.slice (some ⟨g, off, none⟩) n cap) z2 → Pq b2 T s z2 n2 cs2 V) ∧ W.grownBy V (some g) := by
  have hA : PzA base T s g off n cap (fc c l) W := by
    rcases h.pz with ⟨e, _⟩ | ⟨g', off', cap', e, h2⟩
    · cases e
    · cases e
      exact h2
  obtain ⟨V, r1, r2, r3, r4⟩ := pz_put hs h1 hA hn hj a val hv hi
  obtain ⟨cur, c1, c2⟩ := hA.ex
  have hcap : 0 < cap * s := Nat.mul_pos (by have := hA.nc; omega) hs0
  refine ⟨V, r1, ?_, fun {b2 n2 z2 cs2} h2 ha => ?_, r4⟩
  · rcases h with h | ⟨g', off', e, h⟩
    · rcases own_form h with ⟨e, _⟩ | ⟨g', cap', e, _⟩
      · cases e
      · cases e
        obtain ⟨V', q1, q2, q3⟩ := row_put hs h1 h hn hj a val hv hi
        rw [r1] at q1
        cases q1
        exact .inl q2
    · cases e
      exact .inr ⟨g, off, rfl, r2⟩
  · rcases h2 with h2 | ⟨g2, off2, ez, h2⟩
    · by_cases e : z2.ownBlock = some g
      · rcases own_form h2 with ⟨ez, _⟩ | ⟨g2, cap2, ez, _⟩
        · subst ez
          cases e
        · subst ez
          cases e
          obtain ⟨cur2, f1, f2, _⟩ := own_sz h2
          rw [c1] at f1
          cases f1
          have := ha g2 off n cap 0 n2 cap2 rfl rfl
          omega
      · exact .inl (row_off h2 r4 (fun b eb => by cases eb; exact e))
    · subst ez
      rcases r3 (.inr ⟨g2, off2, n2, rfl, h2⟩) ha with ⟨e, _⟩ | ⟨g3, off3, cap3, e, h3⟩
      · cases e
      · cases e
        exact .inr ⟨g2, off2, rfl, h3⟩
end
/-- Lists of a kind that are kept, some of them pieces. -/
structure Kq {α : Type} (c : α → List Value) (s : Nat) (T TT : TypeId) (base : Nat) (W : World) (u : Value) (x : List Value) (L : List (List α)) : Prop where
  row : W.ownsRow base TT 1 u L.length x
  ks : ∀ (i : Nat) (l : List α), L[i]? = some l → ∃ z, x[i]? = some z ∧ Pq base T s z l.length (fc c l) W ∧ l.length ≤ 1000000
  ap : ∀ (i j : Nat) (z z' : Value), i ≠ j → x[i]? = some z → x[j]? = some z' → Az s z z'
  k : L.length ≤ 400
section
variable {α : Type} {c : α → List Value} {s : Nat} {T TT TTT TB : TypeId} {by_ base bb : Nat} {W V : World} {u v : Value} {x y : List Value} {L : List (List α)} {C : Array Value}
theorem Kq.lenx (h : Kq c s T TT base W u x L) : x.length = L.length := by
  have := h.row.1
  omega
theorem Kq.get (h : Kq c s T TT base W u x L) {i : Nat} {z : Value} (hz : x[i]? = some z) : ∃ l, L[i]? = some l ∧ Pq base T s z l.length (fc c l) W ∧ l.length ≤ 1000000 := by
  have hi : i < L.length := by rw [← h.lenx]; exact (List.getElem?_eq_some_iff.1 hz).1
  obtain ⟨z', q1, q2, q3⟩ := h.ks i _ (List.getElem?_eq_getElem hi)
  rw [hz] at q1
  obtain rfl := Option.some.inj q1
  exact ⟨_, List.getElem?_eq_getElem hi, q2, q3⟩
theorem Kq.move (h : Kq c s T TT base W u x L) (hu : ∀ g, u.ownBlock = some g → V.heap[g]? = W.heap[g]?) (hx : ∀ (i : Nat) (z : Value) (g : Nat), x[i]? = some z → z.ownBlock = some g → V.heap[g]? = W.heap[g]?) : Kq c s T TT base V u x L :=
  ⟨row_at h.row hu, fun i l hl => by
    obtain ⟨z, h1, h2, h3⟩ := h.ks i l hl
    exact ⟨z, h1, h2.at (fun g hg => hx i z g h1 hg), h3⟩, h.ap, h.k⟩
theorem Kq.ltx (h : Kq c s T TT base W u x L) {i g : Nat} {z : Value} (hz : x[i]? = some z) (hg : z.ownBlock = some g) : base ≤ g ∧ g < W.heap.size := by
  obtain ⟨l, _, h2, _⟩ := h.get hz
  exact h2.lt g hg
theorem Kq.tyx (h : Kq c s T TT base W u x L) {i g : Nat} {z : Value} (hz : x[i]? = some z) (hg : z.ownBlock = some g) : ∃ cur, W.heap[g]? = some (.cells cur T (0, 0)) := by
  obtain ⟨l, _, h2, _⟩ := h.get hz
  exact h2.ty g hg
theorem Kq.carry (h : Kq c s T TT base W u x L) (hb : Below W.heap.size W V) : Kq c s T TT base V u x L :=
  h.move (fun g hg => hb.block _ (row_lt h.row g hg).2) (fun _ _ _ hz hg => hb.block _ (h.ltx hz hg).2)
theorem Kq.off (h : Kq c s T TT base W u x L) {ob : Option Nat} (hg : W.grownBy V ob) (hu : ∀ b, ob = some b → u.ownBlock ≠ some b) (hx : ∀ b, ob = some b → ∀ (i : Nat) (z : Value), x[i]? = some z → z.ownBlock ≠ some b) : Kq c s T TT base V u x L :=
  h.move (fun g hv => hg.block _ (row_lt h.row g hv).2 (fun e => hu g e.symm hv)) (fun i z g hz hv => hg.block _ (h.ltx hz hv).2 (fun e => hx g e.symm i z hz hv))
theorem Kq.bx {x' : List Value} (h : Kq c s T TT base W u x L) (hb : Bx x' W V) (hu : ∀ g, u.ownBlock = some g → Px x' g) (hx : ∀ (i : Nat) (z : Value) (g : Nat), x[i]? = some z → z.ownBlock = some g → Px x' g) : Kq c s T TT base V u x L :=
  h.move (fun g hg => hb.block _ (row_lt h.row g hg).2 (hu g hg)) (fun i z g hz hg => hb.block _ (h.ltx hz hg).2 (hx i z g hz hg))
theorem Kq.px (h : Kq c s T TT base W u x L) {g : Nat} {cur : Array Value} {t : TypeId} (hg : W.heap[g]? = some (.cells cur t (0, 0))) (ht : t ≠ T) : Px x g := fun i z hz e => by
  obtain ⟨cur', h2⟩ := h.tyx hz e
  rw [hg] at h2
  simp only [Option.some.injEq, Obj.cells.injEq] at h2
  exact ht h2.2.1
theorem Kq.cell (h : Kq c s T TT base W u x L) {i : Nat} {l : List α} (hl : L[i]? = some l) : ∃ g c' z, u = .slice (some ⟨g, 0, none⟩) L.length c' ∧ W.cell? ⟨g, i, none⟩ = some z ∧ x[i]? = some z ∧ Pq base T s z l.length (fc c l) W ∧ l.length ≤ 1000000 := by
  obtain ⟨z, h1, h2, h3⟩ := h.ks i l hl
  have hi : i < L.length := (List.getElem?_eq_some_iff.1 hl).1
  have hr := h.row
  rcases own_form hr with ⟨_, e⟩ | ⟨g, cap, e, _⟩
  · omega
  · rw [e] at hr
    exact ⟨g, cap, z, e, (hr.cellAt _ (by have := h.lenx; omega)).trans h1, h1, h2, h3⟩
/-- One list turns, in its own block. -/
theorem Kq.turn (hI : T ≠ TT) (h : Kq c s T TT base W u x L) {i g : Nat} {l l' : List α} {z : Value} (hl : L[i]? = some l) (hz : x[i]? = some z) (hzg : z.ownBlock = some g) (hV : Pq base T s z l'.length (fc c l') V) (hlen : l'.length = l.length) (hk : ∀ {n2 : Nat} {z2 : Value} {cs2 : List Value}, Pq base T s z2 n2 cs2 W → Az s z z2 → Pq base T s z2 n2 cs2 V) (hg : W.grownBy V (some g)) : Kq c s T TT base V u x (L.set i l') := by
  obtain ⟨cur, hgc⟩ := h.tyx hz hzg
  obtain ⟨z0, k1, k2, k3⟩ := h.ks i l hl
  refine ⟨by rw [List.length_set]; exact row_off h.row hg (fun b e => by obtain rfl := Option.some.inj e; exact row_type h.row hgc hI), fun i' l2 hl2 => ?_, h.ap, by rw [List.length_set]; exact h.k⟩
  by_cases e : i = i'
  · subst e
    rw [List.getElem?_set_self (List.getElem?_eq_some_iff.1 hl).1] at hl2
    obtain rfl := Option.some.inj hl2
    exact ⟨z, hz, hV, by omega⟩
  · rw [List.getElem?_set_ne e] at hl2
    obtain ⟨z', q1, q2, q3⟩ := h.ks i' l2 hl2
    exact ⟨z', q1, hk q2 (h.ap i i' z z' e hz q1), q3⟩
theorem Mkn.ofq {mk : Nat → Nat → α} (h : Kq c s T TT base W u x L) (hm : Mkd mk L) : Mkn mk c W x := fun i z hz => by
  obtain ⟨l, hl, h2, h3⟩ := h.get hz
  obtain ⟨ad, c', e, hr, _⟩ := h2.rd
  refine ⟨ad, l.length, c', e, ?_, by omega⟩
  rw [← hm i l hl]
  exact hr
end
end Go.Proofs.YtngjjcmoekeciaaGreatDoor.Kel
