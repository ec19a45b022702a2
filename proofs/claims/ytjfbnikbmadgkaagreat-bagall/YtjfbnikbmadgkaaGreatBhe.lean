/- A book of bytes and datagrams: Bytes and Gram keep lists, and it is told where these lie; the document's Move. -/
import Derived.Test.YtjfbnikbmadgkaaGreatKpzBG
import Derived.Test.YtjfbnikbmadgkaaGreatBgk
import Derived.Test.YtjfbnikbmadgkaaGreatBgl
import Derived.Test.YtjfbnikbmadgkaaGreatBhb
namespace Go.Proofs.YtjfbnikbmadgkaaGreat
open Go.RowKit Go.Shelf Go.Lib

theorem rMove_any {w : World} {base lb o : Nat} {ad : Option Addr} {cap : Nat} {last most : Int} {l : List Gr} {av : List (Option Addr × Nat)} (h : Rg w base lb o ad cap last most l av) (i to : Int) (hbs : base ≤ w.heap.size) : Calls Tryz.prog 24 #[.pointer (some ⟨lb, o, none⟩), .int .i64 i, .int .i64 to] w fun e w' => e = .returned (.int .i64 (sMv l i to).1) ∧ ∃ ad' cap' av', Rg w' base lb o ad' cap' last most (sMv l i to).2 av' ∧ Tr lb o (ob ad) (ob ad') w w' := by
  by_cases hi : (0 ≤ i ∧ i < (l.length : Int)) ∧ (0 ≤ to ∧ to < (l.length : Int))
  · obtain ⟨k0, rfl⟩ := Int.eq_ofNat_of_zero_le hi.1.1
    obtain ⟨j, rfl⟩ := Int.eq_ofNat_of_zero_le hi.2.1
    have hk : k0 < l.length := by omega
    obtain ⟨x, hx⟩ : ∃ x, l[k0]? = some x := ⟨_, List.getElem?_eq_getElem hk⟩
    rw [sMv_ok hx (by omega)]
    exact rMove_ok h hbs k0 j x hx (by omega)
  · rw [sMv_no hi]
    refine (rMove_no h i to hi).mono ?_
    rintro e w' ⟨rfl, rfl⟩
    exact ⟨rfl, ad, cap, av, h, Tr.of o _ (Below.refl _ _) h.lt⟩
/-- Nothing turns but the book of lists and its rows. -/
structure Kw (base bb : Nat) (W V : World) : Prop where
  os : V.os = W.os
  tape : V.tape = W.tape
  output : V.output = W.output
  size : W.heap.size ≤ V.heap.size
  block : ∀ (q : Nat) (cur : Array Value) (t : TypeId) (z : Nat × Nat), W.heap[q]? = some (.cells cur t z) → q ≠ bb → (q < base ∨ (t ≠ 55 ∧ t ≠ 43)) → V.heap[q]? = some (.cells cur t z)
  low : ∀ q, q < base → q ≠ bb → V.heap[q]? = W.heap[q]?
theorem Kw.ofBelow {base bb : Nat} {W V : World} (h : Below W.heap.size W V) (hz : base ≤ W.heap.size) : Kw base bb W V := ⟨h.os, h.tape, h.output, h.size, fun q _ _ _ hq _ _ => (h.block q (lt_at hq)).trans hq, fun q hq _ => h.block q (by omega)⟩
theorem Kw.trans {base bb : Nat} {U V W : World} (h : Kw base bb U V) (k : Kw base bb V W) : Kw base bb U W :=
  ⟨k.os.trans h.os, k.tape.trans h.tape, k.output.trans h.output, Nat.le_trans h.size k.size, fun q c t z hq h1 h2 => k.block q c t z (h.block q c t z hq h1 h2) h1 h2, fun q h1 h2 => (k.low q h1 h2).trans (h.low q h1 h2)⟩
theorem cB_fc (l : List Nat) : cB l = Kel.fc Kel.cBytes l := by
  induction l with
  | nil => rfl
  | cons x l ih => rw [Kel.fc_cons, ← ih]; rfl
/-- A list of datagrams as the book has it. -/
def gms : List Gr → List (Option Addr × Nat) → List Kel.tGrams
  | x :: l, a :: v => (x.1, x.2.1, x.2.2.1, a.1, x.2.2.2.length, a.2) :: gms l v
  | _, _ => []
theorem gms_len : ∀ (l : List Gr) (v : List (Option Addr × Nat)), v.length = l.length → (gms l v).length = l.length
  | [], _, _ => by simp [gms]
  | _ :: _, [], h => by simp at h
  | x :: l, a :: v, h => by simp [gms, gms_len l v (by simpa using h)]
theorem flG_fc : ∀ (l : List Gr) (v : List (Option Addr × Nat)), v.length = l.length → flG l v = Kel.fc Kel.cGrams (gms l v)
  | [], _, _ => by simp [gms, flG, Kel.fc]
  | _ :: _, [], h => by simp at h
  | x :: l, a :: v, h => by
    rw [gms, Kel.fc_cons, ← flG_fc l v (by simpa using h), flG]
    rfl
theorem row_uniq {W : World} {b b' n n' s : Nat} {e e' : TypeId} {v : Value} {xs xs' : List Value} (h : W.ownsRow b e s v n xs) (h' : W.ownsRow b' e' s v n' xs') : xs = xs' := by
  obtain ⟨l1, h1⟩ := h
  obtain ⟨l2, h2⟩ := h'
  rcases h1 with ⟨rfl, rfl⟩ | ⟨g, cap, cur, rfl, _, h5, _, _, _, h9⟩
  · rcases h2 with ⟨_, rfl⟩ | ⟨g, cap, cur, e, _⟩
    · rw [Nat.zero_mul] at l1 l2
      rw [List.length_eq_zero_iff.1 l1, List.length_eq_zero_iff.1 l2]
    · cases e
  · rcases h2 with ⟨e, _⟩ | ⟨g2, cap2, cur2, e, _, k5, _, _, _, k9⟩
    · cases e
    · cases e
      rw [h5] at k5
      cases k5
      rw [← h9, ← k9]
/-- The book of lists: the bytes that are kept lie where P says, the datagrams and their copies where Q says. -/
def NKp (P Q : Nat → Prop) (base bb : Nat) (W : World) : Prop := ∃ (uB vB : Value) (XB yB : List Value) (LB : List (List Nat)) (uG vG : Value) (XG yG : List Value) (LG : List (List Kel.tGrams)) (C : Array Value), Kel.Bb 41 W bb C ∧ C.size = 24 ∧ (∀ j, j < 24 → j ≠ 8 → j ≠ 9 → j ≠ 18 → j ≠ 19 → C[j]? = some (.slice none 0 0)) ∧ C[8]? = some uB ∧ C[9]? = some vB ∧ C[18]? = some uG ∧ C[19]? = some vG ∧ Kel.Kk Kel.cBytes 1 5 55 base W uB vB XB yB LB ∧ Kel.Kk Kel.cGrams 4 62 43 base W uG vG XG yG LG ∧ base ≤ bb ∧ (∀ (i : Nat) (z : Value), XB[i]? = some z → ∀ b, z.ownBlock = some b → P b) ∧ (∀ (i : Nat) (z : Value), XG[i]? = some z → ∀ b, z.ownBlock = some b → Q b) ∧ (∀ (i : Nat) (z : Value), yG[i]? = some z → ∀ b, z.ownBlock = some b → Q b) ∧ ∀ (i : Nat) (z : Value), yB[i]? = some z → ∀ b, z.ownBlock = some b → P b
def NK (σ : Nat → Prop) (base bb : Nat) (W : World) : Prop := NKp (fun b => ¬ σ b) (fun b => ¬ σ b) base bb W
section
variable {P Q P' Q' σ τ : Nat → Prop} {base bb : Nat} {W V : World}
theorem NKp.lo (h : NKp P Q base bb W) : base ≤ bb := by
  obtain ⟨_, _, _, _, _, _, _, _, _, _, _, _, _, _, _, _, _, _, _, _, h, _⟩ := h
  exact h
theorem NK.lo (h : NK σ base bb W) : base ≤ bb := NKp.lo h
theorem NKp.imp (h : NKp P Q base bb W) (hP : ∀ b, b < W.heap.size → P b → P' b) (hQ : ∀ b, b < W.heap.size → Q b → Q' b) : NKp P' Q' base bb W := by
  obtain ⟨uB, vB, XB, yB, LB, uG, vG, XG, yG, LG, C, h1, h2, h3, h4, h5, h6, h7, h8, h9, h10, h11, h12, h13, h14⟩ := h
  refine ⟨uB, vB, XB, yB, LB, uG, vG, XG, yG, LG, C, h1, h2, h3, h4, h5, h6, h7, h8, h9, h10, fun i z hz b hb => hP b (h8.kl.ltx hz hb).2 (h11 i z hz b hb), fun i z hz b hb => hQ b (h9.kl.ltx hz hb).2 (h12 i z hz b hb), fun i z hz b hb => hQ b ?_ (h13 i z hz b hb), fun i z hz b hb => hP b ?_ (h14 i z hz b hb)⟩
  · have hi : i < LG.length := by rw [← h9.leny]; exact (List.getElem?_eq_some_iff.1 hz).1
    obtain ⟨z', q1, q2⟩ := h9.cs i _ (List.getElem?_eq_getElem hi)
    rw [hz] at q1
    cases q1
    exact (Kel.row_lt q2 b hb).2
  · have hi : i < LB.length := by rw [← h8.leny]; exact (List.getElem?_eq_some_iff.1 hz).1
    obtain ⟨z', q1, q2⟩ := h8.cs i _ (List.getElem?_eq_getElem hi)
    rw [hz] at q1
    cases q1
    exact (Kel.row_lt q2 b hb).2
/-- Two that are told of one book. -/
theorem NKp.both (h : NKp P Q base bb W) (h' : NKp P' Q' base bb W) : NKp (fun b => P b ∧ P' b) (fun b => Q b ∧ Q' b) base bb W := by
  obtain ⟨uB, vB, XB, yB, LB, uG, vG, XG, yG, LG, C, h1, h2, h3, h4, h5, h6, h7, h8, h9, h10, h11, h12, h13, h14⟩ := h
  obtain ⟨uB', vB', XB', yB', LB', uG', vG', XG', yG', LG', C', k1, k2, k3, k4, k5, k6, k7, k8, k9, k10, k11, k12, k13, k14⟩ := h'
  have e := h1.symm.trans k1
  simp only [Option.some.injEq, Obj.cells.injEq] at e
  obtain rfl := e.1
  rw [h4] at k4
  rw [h5] at k5
  rw [h6] at k6
  rw [h7] at k7
  cases k4
  cases k5
  cases k6
  cases k7
  have e1 := row_uniq h8.kl.row k8.kl.row
  have e2 := row_uniq h9.kl.row k9.kl.row
  have e3 := row_uniq h9.cr k9.cr
  have e4 := row_uniq h8.cr k8.cr
  subst e1 e2 e3 e4
  exact ⟨uB, vB, XB, yB, LB, uG, vG, XG, yG, LG, C, h1, h2, h3, h4, h5, h6, h7, h8, h9, h10, fun i z hz b hb => ⟨h11 i z hz b hb, k11 i z hz b hb⟩, fun i z hz b hb => ⟨h12 i z hz b hb, k12 i z hz b hb⟩, fun i z hz b hb => ⟨h13 i z hz b hb, k13 i z hz b hb⟩, fun i z hz b hb => ⟨h14 i z hz b hb, k14 i z hz b hb⟩⟩
/-- It lies as it lay. -/
theorem NKp.move (h : NKp P Q base bb W) (e : ∀ (b : Nat) (cur : Array Value) (t : TypeId), W.heap[b]? = some (.cells cur t (0, 0)) → (t = 41 ∨ t = 55 ∨ t = 43 ∨ (t = 5 ∧ P b) ∨ (t = 62 ∧ Q b)) → V.heap[b]? = some (.cells cur t (0, 0))) : NKp P Q base bb V := by
  obtain ⟨uB, vB, XB, yB, LB, uG, vG, XG, yG, LG, C, h1, h2, h3, h4, h5, h6, h7, h8, h9, h10, h11, h12, h13, h14⟩ := h
  have eq : ∀ (b : Nat) (cur : Array Value) (t : TypeId), W.heap[b]? = some (.cells cur t (0, 0)) → (t = 41 ∨ t = 55 ∨ t = 43 ∨ (t = 5 ∧ P b) ∨ (t = 62 ∧ Q b)) → V.heap[b]? = W.heap[b]? := fun b cur t hc ht => (e b cur t hc ht).trans hc.symm
  refine ⟨uB, vB, XB, yB, LB, uG, vG, XG, yG, LG, C, e _ _ _ h1 (.inl rfl), h2, h3, h4, h5, h6, h7, ⟨h8.kl.move (fun g hg => ?_) (fun i z g hz hg => ?_), Kel.row_at h8.cr (fun g hg => ?_), fun i l hl => ?_, h8.uv⟩, ⟨h9.kl.move (fun g hg => ?_) (fun i z g hz hg => ?_), Kel.row_at h9.cr (fun g hg => ?_), fun i l hl => ?_, h9.uv⟩, h10, h11, h12, h13, h14⟩
  · obtain ⟨_, cur, hc⟩ := Kel.rowBlk h8.kl.row g hg
    exact eq g cur _ hc (.inr (.inl rfl))
  · obtain ⟨cur, hc⟩ := h8.kl.tyx hz hg
    exact eq g cur _ hc (.inr (.inr (.inr (.inl ⟨rfl, h11 i z hz g hg⟩))))
  · obtain ⟨_, cur, hc⟩ := Kel.rowBlk h8.cr g hg
    exact eq g cur _ hc (.inr (.inl rfl))
  · obtain ⟨z, q1, q2⟩ := h8.cs i l hl
    refine ⟨z, q1, Kel.row_at q2 (fun g hg => ?_)⟩
    obtain ⟨_, cur, hc⟩ := Kel.rowBlk q2 g hg
    exact eq g cur _ hc (.inr (.inr (.inr (.inl ⟨rfl, h14 i z q1 g hg⟩))))
  · obtain ⟨_, cur, hc⟩ := Kel.rowBlk h9.kl.row g hg
    exact eq g cur _ hc (.inr (.inr (.inl rfl)))
  · obtain ⟨cur, hc⟩ := h9.kl.tyx hz hg
    exact eq g cur _ hc (.inr (.inr (.inr (.inr ⟨rfl, h12 i z hz g hg⟩))))
  · obtain ⟨_, cur, hc⟩ := Kel.rowBlk h9.cr g hg
    exact eq g cur _ hc (.inr (.inr (.inl rfl)))
  · obtain ⟨z, q1, q2⟩ := h9.cs i l hl
    refine ⟨z, q1, Kel.row_at q2 (fun g hg => ?_)⟩
    obtain ⟨_, cur, hc⟩ := Kel.rowBlk q2 g hg
    exact eq g cur _ hc (.inr (.inr (.inr (.inr ⟨rfl, h13 i z q1 g hg⟩))))
theorem NKp.carry (h : NKp P Q base bb W) (hb : Below W.heap.size W V) : NKp P Q base bb V := h.move (fun b _ _ hc _ => (hb.block b (lt_at hc)).trans hc)
theorem NK.move (h : NK σ base bb W) (e : ∀ (b : Nat) (cur : Array Value) (t : TypeId), W.heap[b]? = some (.cells cur t (0, 0)) → (t = 41 ∨ t = 55 ∨ t = 43 ∨ (t = 5 ∧ ¬ σ b) ∨ (t = 62 ∧ ¬ σ b)) → V.heap[b]? = some (.cells cur t (0, 0))) : NK σ base bb V := NKp.move h e
theorem NK.carry (h : NK σ base bb W) (hb : Below W.heap.size W V) : NK σ base bb V := NKp.carry h hb
theorem NK.more (h : NK σ base bb W) (ht : ∀ b, τ b → σ b ∨ W.heap.size ≤ b) : NK τ base bb W := NKp.imp h (fun b hb hn q => (ht b q).elim hn (fun k => by omega)) (fun b hb hn q => (ht b q).elim hn (fun k => by omega))
theorem NKp.ne (h : NKp P Q base bb W) {q : Nat} {cur : Array Value} {t : TypeId} {z : Nat × Nat} (hq : W.heap[q]? = some (.cells cur t z)) (ht : t ≠ 41) : q ≠ bb := fun e => by
  obtain ⟨uB, vB, XB, yB, LB, uG, vG, XG, yG, LG, C, h1, _⟩ := h
  subst e
  have := (show W.heap[_]? = _ from h1).symm.trans hq
  simp only [Option.some.injEq, Obj.cells.injEq] at this
  exact ht this.2.1.symm
/-- A block of another type stays. -/
theorem Kw.atp {q : Nat} {cur : Array Value} {t : TypeId} {z : Nat × Nat} (h : Kw base bb W V) (hn : NKp P Q base bb W) (ho : W.heap[q]? = some (.cells cur t z)) (h1 : t ≠ 41) (h2 : t ≠ 55) (h3 : t ≠ 43) : V.heap[q]? = some (.cells cur t z) := h.block q cur t z ho (hn.ne ho h1) (.inr ⟨h2, h3⟩)
theorem Kw.at {q : Nat} {cur : Array Value} {t : TypeId} {z : Nat × Nat} (h : Kw base bb W V) (hn : NK σ base bb W) (ho : W.heap[q]? = some (.cells cur t z)) (h1 : t ≠ 41) (h2 : t ≠ 55) (h3 : t ≠ 43) : V.heap[q]? = some (.cells cur t z) := h.atp hn ho h1 h2 h3
theorem kw_of {TT : TypeId} {u v : Value} {n n' s' : Nat} {xs ys : List Value} (hb : Kel.Fk bb u v W V) (hu : W.ownsRow base TT s' u n xs) (hv : W.ownsRow base TT s' v n' ys) (ht : TT = 55 ∨ TT = 43) (hz : base ≤ W.heap.size) : Kw base bb W V := by
  refine ⟨hb.os, hb.tape, hb.output, hb.size, fun q cur t z hq h1 h2 => (hb.block q (lt_at hq) h1 (fun e => ?_) (fun e => ?_)).trans hq, fun q hq h1 => hb.block q (by omega) h1 (fun e => ?_) (fun e => ?_)⟩
  · obtain ⟨k1, c, k2⟩ := Kel.rowBlk hu q e
    have := hq.symm.trans k2
    simp only [Option.some.injEq, Obj.cells.injEq] at this
    rcases h2 with h2 | h2
    · omega
    · rcases ht with ht | ht
      · exact h2.1 (this.2.1.trans ht)
      · exact h2.2 (this.2.1.trans ht)
  · obtain ⟨k1, c, k2⟩ := Kel.rowBlk hv q e
    have := hq.symm.trans k2
    simp only [Option.some.injEq, Obj.cells.injEq] at this
    rcases h2 with h2 | h2
    · omega
    · rcases ht with ht | ht
      · exact h2.1 (this.2.1.trans ht)
      · exact h2.2 (this.2.1.trans ht)
  · have := (Kel.rowBlk hu q e).1
    omega
  · have := (Kel.rowBlk hv q e).1
    omega
/-- Bytes are kept. -/
theorem kby_any (h : NKp P Q base bb W) (hbz : base ≤ W.heap.size) {ad : Option Addr} {c : Nat} {l : List Nat} {B : Nat} (hr : W.ownsRow B 5 1 (.slice ad l.length c) l.length (cB l)) (hB : base ≤ B) (hl : l.length ≤ 2000) (hn : ∀ b, ob ad = some b → ¬ P b) : Calls Tryz.prog 17 #[.pointer (some ⟨bb, 0, none⟩), .slice ad l.length c] W fun e w' => (∃ v, e = .returned v) ∧ NKp (fun b => P b ∨ ob ad = some b ∨ W.heap.size ≤ b) Q base bb w' ∧ Kw base bb W w' := by
  obtain ⟨uB, vB, XB, yB, LB, uG, vG, XG, yG, LG, C, h1, h2, h3, h4, h5, h6, h7, h8, h9, h10, h11, h12, h13, h14⟩ := h
  rw [cB_fc] at hr
  refine (Kel.keepBytes_any h1 h4 h5 h8 hbz (Kel.row_base hr hB) (by omega) (fun i g z' hz' e e2 => hn g (by rw [ob_eq] at e; exact e) (h11 i z' hz' g e2))).mono ?_
  rintro e w' ⟨rfl, u', v', x', y', L', k1, k2, k3, k4, k5⟩
  refine ⟨⟨_, rfl⟩, ⟨u', v', x', y', L', uG, vG, XG, yG, LG, _, k1, by rw [Kel.put2_sz]; exact h2, fun j hj q0 q1 q6 q7 => by rw [Kel.put2_ne q0 q1]; exact h3 j hj q0 q1 q6 q7, Kel.put2_0 (by omega) _ _, Kel.put2_1 (by omega) _ _, by rw [Kel.put2_ne (by decide) (by decide)]; exact h6, by rw [Kel.put2_ne (by decide) (by decide)]; exact h7, k2, h9.fk k3 h1 h8.kl.row h8.cr (by decide) (by decide) (by decide) (by decide), h10, fun i z' hz' b hb => ?_, h12, h13, fun i z' hz' b hb => ?_⟩, kw_of k3 h8.kl.row h8.cr (.inl rfl) hbz⟩
  · rcases k4 i z' hz' with rfl | ⟨j, q⟩
    · exact .inr (.inl (by rw [ob_eq] at hb; exact hb))
    · exact .inl (h11 j z' q b hb)
  · rcases k5 i z' hz' with ⟨j, q⟩ | q
    · exact .inl (h14 j z' q b hb)
    · exact .inr (.inr (q b hb))
/-- Datagrams are kept. -/
theorem kgr_any (h : NKp P Q base bb W) (hbz : base ≤ W.heap.size) {ad : Option Addr} {c : Nat} {l : List Gr} {av : List (Option Addr × Nat)} {B : Nat} (hr : W.ownsRow B 62 4 (.slice ad l.length c) l.length (flG l av)) (hlen : av.length = l.length) (hB : base ≤ B) (hl : l.length ≤ 100000) (hn : ∀ b, ob ad = some b → ¬ Q b) : Calls Tryz.prog 90 #[.pointer (some ⟨bb, 0, none⟩), .slice ad l.length c] W fun e w' => (∃ v, e = .returned v) ∧ NKp P (fun b => Q b ∨ ob ad = some b ∨ W.heap.size ≤ b) base bb w' ∧ Kw base bb W w' := by
  obtain ⟨uB, vB, XB, yB, LB, uG, vG, XG, yG, LG, C, h1, h2, h3, h4, h5, h6, h7, h8, h9, h10, h11, h12, h13, h14⟩ := h
  rw [flG_fc _ _ hlen] at hr
  have e0 := gms_len _ _ hlen
  refine (Kel.keepGrams_any h1 h6 h7 h9 hbz (l := gms l av) (z := .slice ad l.length c) (by rw [e0]; exact Kel.row_base hr hB) (by omega) (fun i g z' hz' e e2 => hn g (by rw [ob_eq] at e; exact e) (h12 i z' hz' g e2))).mono ?_
  rintro e w' ⟨rfl, u', v', x', y', L', k1, k2, k3, k4, k5⟩
  refine ⟨⟨_, rfl⟩, ⟨uB, vB, XB, yB, LB, u', v', x', y', L', _, k1, by rw [Kel.put2_sz]; exact h2, fun j hj q0 q1 q6 q7 => by rw [Kel.put2_ne q6 q7]; exact h3 j hj q0 q1 q6 q7, by rw [Kel.put2_ne (by decide) (by decide)]; exact h4, by rw [Kel.put2_ne (by decide) (by decide)]; exact h5, Kel.put2_0 (by omega) _ _, Kel.put2_1 (by omega) _ _, h8.fk k3 h1 h9.kl.row h9.cr (by decide) (by decide) (by decide) (by decide), k2, h10, h11, fun i z' hz' b hb => ?_, fun i z' hz' b hb => ?_, h14⟩, kw_of k3 h9.kl.row h9.cr (.inr rfl) hbz⟩
  · rcases k4 i z' hz' with rfl | ⟨j, q⟩
    · exact .inr (.inl (by rw [ob_eq] at hb; exact hb))
    · exact .inl (h12 j z' q b hb)
  · rcases k5 i z' hz' with ⟨j, q⟩ | q
    · exact .inl (h13 j z' q b hb)
    · exact .inr (.inr (q b hb))
theorem napart (h : NKp P Q base bb W) (hbz : base ≤ W.heap.size) : Calls Tryz.prog 9 #[.pointer (some ⟨bb, 0, none⟩)] W fun e w' => e = .returned (.bool true) ∧ Below base W w' := by
  obtain ⟨uB, vB, XB, yB, LB, uG, vG, XG, yG, LG, C, h1, h2, h3, h4, h5, h6, h7, h8, h9, h10, h11, h12, h13, h14⟩ := h
  exact Kel.apart_any h1 h3 h4 h5 h8 h6 h7 h9 hbz
end
theorem gv_one (x : Gr) (a : Option Addr) (c : Nat) : ∀ u ∈ gv x a c, u.oneCell' = true := by
  intro u hu
  simp [gv] at hu
  rcases hu with rfl | rfl | rfl | rfl <;> rfl
theorem flG_one : ∀ (l : List Gr) (v : List (Option Addr × Nat)), ∀ u ∈ flG l v, u.oneCell' = true
  | [], _, u, hu => by simp [flG] at hu
  | _ :: _, [], u, hu => by simp [flG] at hu
  | x :: l, a :: v, u, hu => by
    rw [flG, List.mem_append] at hu
    rcases hu with hu | hu
    · exact gv_one x _ _ u hu
    · exact flG_one l v u hu
/-- What turns the book of lists leaves a list of datagrams. -/
theorem Gs.kw {P Q : Nat → Prop} {base bb : Nat} {W V : World} {B D : Nat} {v : Value} {l : List Gr} {av : List (Option Addr × Nat)} (h : Gs W B D v l av) (hk : Kw base bb W V) (hn : NKp P Q base bb W) : Gs V B D v l av :=
  ⟨row_at h.row (fun _ _ _ hc => hk.atp hn hc (by decide) (by decide) (by decide)), h.len, fun k x a h1 h2 => row_at (h.dat k x a h1 h2) (fun _ _ _ hc => hk.atp hn hc (by decide) (by decide) (by decide)), h.sep⟩
/-- The bytes that are kept while a list is gone through. -/
def Pk (σ : Nat → Prop) (S T : Nat) (av : List (Option Addr × Nat)) (k : Nat) (b : Nat) : Prop := (¬ σ b ∧ b < S) ∨ (∃ j a, j < k ∧ av[j]? = some a ∧ ob a.1 = some b) ∨ T ≤ b
set_option maxHeartbeats 4000000 in
set_option maxRecDepth 100000 in
theorem gram_any {σ : Nat → Prop} {base bb : Nat} {w : World} {S : Nat} {ad : Option Addr} {cap : Nat} {l : List Gr} {av : List (Option Addr × Nat)} (h : Gs w S S (.slice ad l.length cap) l av) (hn : NKp (fun b => ¬ σ b ∧ b < S) (fun b => ¬ σ b ∧ b < S) base bb w) (hS : base ≤ S) (hSw : S ≤ w.heap.size) (hσ : ∀ b, σ b → b < S) (hl : l.length ≤ 65536) (hd : ∀ x ∈ l, x.2.2.2.length ≤ 1024) : Calls Tryz.prog 28 #[.pointer (some ⟨bb, 0, none⟩), .slice ad l.length cap] w fun e w' => (∃ v, e = .returned v) ∧ NK σ base bb w' ∧ Kw base bb w w' := by
  have hbz : base ≤ w.heap.size := Nat.le_trans hS hSw
  have HKG : Hid (∀ V (k : Nat), NKp (Pk σ S w.heap.size av k) (fun b => ¬ σ b ∧ b < S) base bb V → Kw base bb w V → Calls Tryz.prog 90 #[.pointer (some ⟨bb, 0, none⟩), .slice ad l.length cap] V fun e w' => (∃ v, e = .returned v) ∧ NK σ base bb w' ∧ Kw base bb V w') := fun V k hNV hKV => by
    have hg := h.kw hKV hn
    refine (kgr_any hNV (Nat.le_trans hbz hKV.size) hg.row hg.len hS (by omega) (fun b hb q => ?_)).mono ?_
    · have := (own_blk hg.row b (by rw [ob_eq]; exact hb)).1
      omega
    · rintro e w' ⟨h1, h2, h3⟩
      refine ⟨h1, NKp.imp h2 (fun b _ q q2 => ?_) (fun b _ q q2 => ?_), h3⟩
      · have hs := hσ b q2
        rcases q with q | ⟨j, a, q1, q3, q4⟩ | q
        · exact q.1 q2
        · obtain ⟨y, hy⟩ : ∃ y, l[j]? = some y := ⟨_, List.getElem?_eq_getElem (by rw [← hg.len]; exact (List.getElem?_eq_some_iff.1 q3).1)⟩
          have := (own_blk (hg.dat j y a hy q3) b (by rw [ob_eq]; exact q4)).1
          omega
        · omega
      · have hs := hσ b q2
        rcases q with q | q | q
        · exact q.1 q2
        · have := (own_blk hg.row b (by rw [ob_eq]; exact q)).1
          omega
        · have := hKV.size
          omega
  have HKB : Hid (∀ V (k : Nat) (x : Gr) (a : Option Addr × Nat), l[k]? = some x → av[k]? = some a → NKp (Pk σ S w.heap.size av k) (fun b => ¬ σ b ∧ b < S) base bb V → Kw base bb w V → Calls Tryz.prog 17 #[.pointer (some ⟨bb, 0, none⟩), .slice a.1 x.2.2.2.length a.2] V fun e w' => (∃ v, e = .returned v) ∧ NKp (Pk σ S w.heap.size av (k + 1)) (fun b => ¬ σ b ∧ b < S) base bb w' ∧ Kw base bb V w') := fun V k x a hx ha hNV hKV => by
    have hg := h.kw hKV hn
    have ho := hg.dat k x a hx ha
    refine (kby_any hNV (Nat.le_trans hbz hKV.size) ho hS (by have := hd x (List.mem_of_getElem? hx); omega) (fun b hb q => ?_)).mono ?_
    · rcases q with q | ⟨j, a', q1, q2, q3⟩ | q
      · have := (own_blk ho b (by rw [ob_eq]; exact hb)).1
        omega
      · exact hg.sep j k a' a q1 q2 ha b q3 hb
      · obtain ⟨_, cur, hc⟩ := own_blk (h.dat k x a hx ha) b (by rw [ob_eq]; exact hb)
        have := lt_at hc
        omega
    · rintro e w' ⟨h1, h2, h3⟩
      refine ⟨h1, NKp.imp h2 (fun b _ q => ?_) (fun _ _ q => q), h3⟩
      rcases q with (q | ⟨j, a', q1, q2, q3⟩ | q) | q | q
      · exact .inl q
      · exact .inr (.inl ⟨j, a', by omega, q2, q3⟩)
      · exact .inr (.inr q)
      · exact .inr (.inl ⟨k, a, by omega, ha, q⟩)
      · exact .inr (.inr (Nat.le_trans hKV.size q))
  have HG : Hid (Gs w S S (.slice ad l.length cap) l av) := h
  have HN : Hid (NKp (fun b => ¬ σ b ∧ b < S) (fun b => ¬ σ b ∧ b < S) base bb w) := hn
  clear h hn
  go_enter Tryz.func28, Tryz.ntmps28
  go_wp2
  go_loopw [4] (fun i wz => ∃ (k : Nat), i = .int .i64 (k : Int) ∧ k ≤ l.length ∧ NKp (Pk σ S w.heap.size av k) (fun b => ¬ σ b ∧ b < S) base bb wz ∧ Kw base bb w wz) (fun i _ => l.length - vnat i)
  case atStart => exact ⟨0, rfl, Nat.zero_le _, NKp.imp HN.out (fun b _ q => .inl q) (fun _ _ q => q), Kw.ofBelow (Below.refl _ _) hbz⟩
  case round =>
    obtain ⟨k, rfl, hk, hNr, hKr⟩ := hrel
    by_cases hkl : k < l.length
    · have hki : (k : Int) < (l.length : Int) := by omega
      obtain ⟨⟨xi, xf, xt, xd⟩, hx⟩ : ∃ x, l[k]? = some x := ⟨_, List.getElem?_eq_getElem hkl⟩
      obtain ⟨a, ha⟩ : ∃ a, av[k]? = some a := ⟨_, List.getElem?_eq_getElem (by rw [HG.out.len]; exact hkl)⟩
      have hgr := HG.out.kw hKr HN.out
      have hcb := HKB.out wr k _ a hx ha hNr hKr
      obtain ⟨_, _, _, c3⟩ := flG_get l av k _ a hx ha
      dsimp only at hcb c3
      rcases own_form hgr.row with ⟨e1, e2⟩ | ⟨g, c', e1, _, h3, _⟩
      · omega
      · simp only [Value.slice.injEq] at e1
        obtain ⟨rfl, _, rfl⟩ := e1
        have d3 : wr.cell? ⟨g, k * 4 + 3, none⟩ = some (.slice a.1 xd.length a.2) := (hgr.row.cellAt _ (by omega)).trans c3
        have hix := idx_Gz g l.length cap k hkl
        clear hx ha hgr c3 hNr
        go_wp2_with (go_at_call 17; (with_reducible refine hcb.mono ?_); rintro e u1 ⟨⟨v1, rfl⟩, hN1, hK1⟩)
        go_roundw
        case rel => exact ⟨k + 1, by simp, by omega, hN1, hKr.trans hK1⟩
        case measure => simp [vnat]; omega
    · have hki : ¬ (k : Int) < (l.length : Int) := by omega
      have hkk : k = l.length := by omega
      have hcg := HKG.out wr _ hNr hKr
      go_wp2_with (go_at_call 90; (with_reducible refine hcg.mono ?_); rintro e u1 ⟨⟨v1, rfl⟩, hN1, hK1⟩)
      go_end0
      exact ⟨⟨_, rfl⟩, hN1, hKr.trans hK1⟩
end Go.Proofs.YtjfbnikbmadgkaaGreat
