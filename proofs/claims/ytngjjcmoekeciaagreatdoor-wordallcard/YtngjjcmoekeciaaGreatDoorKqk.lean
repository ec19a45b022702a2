/- The book of words and rows of words: one more is kept. -/
import Derived.Test.YtngjjcmoekeciaaGreatDoorKqz
namespace Go.Proofs.YtngjjcmoekeciaaGreatDoor.Kel
open Go.RowKit Go.Shelf Go.Lib
set_option linter.unusedVariables false

section
variable {α : Type} {c : α → List Value} {s : Nat} {T TT TB : TypeId} {base bb : Nat} {W V : World} {u v : Value} {x y : List Value} {L : List (List α)}
theorem Kk.moveX (h : Kk c s T TT base W u v x y L) (hu : ∀ g, (u.ownBlock = some g ∨ v.ownBlock = some g) → V.heap[g]? = W.heap[g]?) (hx : ∀ (i g : Nat) (z : Value), (x[i]? = some z ∨ y[i]? = some z) → z.ownBlock = some g → V.heap[g]? = W.heap[g]?) : Kk c s T TT base V u v x y L :=
  ⟨h.kl.move (fun g hg => hu g (.inl hg)) (fun i z g hz hg => hx i g z (.inl hz) hg), row_at h.cr (fun g hg => hu g (.inr hg)), fun i l hl => by
    obtain ⟨z, h1, h2⟩ := h.cs i l hl
    exact ⟨z, h1, row_at h2 (fun g hg => hx i g z (.inr h1) hg)⟩, h.uv⟩
theorem Kk.tyy (h : Kk c s T TT base W u v x y L) {i g : Nat} {z : Value} (hz : y[i]? = some z) (hg : z.ownBlock = some g) : ∃ cur, W.heap[g]? = some (.cells cur T (0, 0)) := by
  have hi : i < L.length := by rw [← h.leny]; exact (List.getElem?_eq_some_iff.1 hz).1
  obtain ⟨z', q1, q2⟩ := h.cs i _ (List.getElem?_eq_getElem hi)
  rw [hz] at q1
  cases q1
  exact (rowBlk q2 g hg).2
theorem Kk.tyxy (h : Kk c s T TT base W u v x y L) {i g : Nat} {z : Value} (hz : x[i]? = some z ∨ y[i]? = some z) (hg : z.ownBlock = some g) : ∃ cur, W.heap[g]? = some (.cells cur T (0, 0)) := hz.elim (fun q => h.kl.tyx q hg) (fun q => h.tyy q hg)
theorem Kk.tyuv (h : Kk c s T TT base W u v x y L) {g : Nat} (hg : u.ownBlock = some g ∨ v.ownBlock = some g) : ∃ cur, W.heap[g]? = some (.cells cur TT (0, 0)) := hg.elim (fun q => (rowBlk h.kl.row g q).2) (fun q => (rowBlk h.cr g q).2)
theorem Kkq.tyuv (h : Kkq c s T TT base W u v x y L) {g : Nat} (hg : u.ownBlock = some g ∨ v.ownBlock = some g) : ∃ cur, W.heap[g]? = some (.cells cur TT (0, 0)) := hg.elim (fun q => (rowBlk h.kl.row g q).2) (fun q => (rowBlk h.cr g q).2)
end
theorem ty_ne {W : World} {g q : Nat} {c d : Array Value} {t t' : TypeId} (h : W.heap[g]? = some (.cells c t (0, 0))) (k : W.heap[q]? = some (.cells d t' (0, 0))) (ht : t ≠ t') : g ≠ q := fun e => by
  subst e
  rw [h] at k
  simp only [Option.some.injEq, Obj.cells.injEq] at k
  exact ht k.2.1
/-- What turns where words are kept: the book and two rows of slices. -/
theorem Fk.ty {bb : Nat} {u v : Value} {w V : World} {C : Array Value} {TB TT : TypeId} (h : Fk bb u v w V) (hB : Bb TB w bb C) (huv : ∀ g, (u.ownBlock = some g ∨ v.ownBlock = some g) → ∃ cur, w.heap[g]? = some (.cells cur TT (0, 0))) {g : Nat} {cur : Array Value} {t : TypeId} (hg : w.heap[g]? = some (.cells cur t (0, 0))) (h1 : t ≠ TB) (h2 : t ≠ TT) : V.heap[g]? = w.heap[g]? := h.block g (lt_at hg) (ty_ne hg hB h1) (fun e => by
  obtain ⟨c, hc⟩ := huv g (.inl e)
  exact ty_ne hg hc h2 rfl) (fun e => by
  obtain ⟨c, hc⟩ := huv g (.inr e)
  exact ty_ne hg hc h2 rfl)
section
variable {base bb : Nat} {w : World} {C : Array Value} {uT vT : Value} {xT yT : List Value} {LT : List (List tTokens)} {uR vR : Value} {xR yR : List Value} {LR : List (List tRows)}
theorem BkW.nil (h : Bb 38 w bb (Array.replicate 24 (.slice none 0 0))) : BkW base bb w (Array.replicate 24 (.slice none 0 0)) (.slice none 0 0) (.slice none 0 0) [] [] [] (.slice none 0 0) (.slice none 0 0) [] [] [] := by
  have g : ∀ j, j < 24 → (Array.replicate 24 (Value.slice none 0 0))[j]? = some (.slice none 0 0) := fun j hj => by rw [Array.getElem?_replicate, if_pos hj]
  exact ⟨h, by simp, fun j hj _ _ _ _ => g j hj, g 4 (by decide), g 5 (by decide), g 22 (by decide), g 23 (by decide), Kkq.nil, Kk.nil, fun i hs e => by simp at e, fun g i z _ e => by simp at e⟩
theorem BkW.carry {V : World} (h : BkW base bb w C uT vT xT yT LT uR vR xR yR LR) (hb : Below w.heap.size w V) : BkW base bb V C uT vT xT yT LT uR vR xR yR LR := ⟨h.bk.carry hb, h.sz, h.cs, h.iT, h.jT, h.iR, h.jR, h.tk.carry hb, h.rw.carry hb, h.dp.carry hb, h.s1⟩
theorem tok_any (h : BkW base bb w C uT vT xT yT LT uR vR xR yR LR) (hbz : base ≤ w.heap.size) {z : Value} {l : List tTokens} (hz : Pq base 50 4 z l.length (fc cTokens l) w) (hl : l.length ≤ 1000000) (hn : ∀ (i : Nat) (z' : Value), xT[i]? = some z' → Az 4 z' z) : Calls Tryz.prog 11 #[.pointer (some ⟨bb, 0, none⟩), z] w fun e w' => e = .returned (.tuple #[]) ∧ ∃ C' uT' vT' xT' yT' LT', BkW base bb w' C' uT' vT' xT' yT' LT' uR vR xR yR LR ∧ Fk bb uT vT w w' ∧ Nb2 uT vT z xT yT w uT' vT' xT' yT' := by
  refine (keepTokens_any h.bk h.iT h.jT h.tk hbz hz hl hn).mono ?_
  rintro e w' ⟨rfl, u', v', x', y', L', k1, k2, k3, k4⟩
  have hC := h.sz
  have hty := fun {g : Nat} => @Kkq.tyuv _ _ _ _ _ _ _ _ _ _ _ _ h.tk g
  have hmv : ∀ (g : Nat) (cur : Array Value) (t : TypeId), w.heap[g]? = some (.cells cur t (0, 0)) → t ≠ 38 → t ≠ 39 → w'.heap[g]? = w.heap[g]? := fun g cur t hg h1 h2 => k3.ty h.bk (fun g hg => h.tk.tyuv hg) hg h1 h2
  refine ⟨rfl, _, u', v', x', y', L', ⟨k1, by rw [put2_sz]; exact hC, fun j hj q4 q5 q22 q23 => by rw [put2_ne q4 q5]; exact h.cs j hj q4 q5 q22 q23, put2_0 (by omega) _ _, put2_1 (by omega) _ _, by rw [put2_ne (by decide) (by decide)]; exact h.iR, by rw [put2_ne (by decide) (by decide)]; exact h.jR, k2, h.rw.moveX (fun g hg => ?_) (fun i g z2 hz2 hg => ?_), h.dp.move (fun g cur hg => hmv g cur _ hg (by decide) (by decide)), fun g i z2 hg hz2 hg2 => ?_⟩, k3, k4⟩
  · obtain ⟨cur, hc⟩ := h.rw.tyuv hg
    exact hmv g cur _ hc (by decide) (by decide)
  · obtain ⟨cur, hc⟩ := h.rw.tyxy hz2 hg
    exact k3.block g (lt_at hc) (ty_ne hc h.bk (by decide)) (fun e => h.s1 g i z2 (.inl e) hz2 hg) (fun e => h.s1 g i z2 (.inr e) hz2 hg)
  · obtain ⟨cur, hc⟩ := h.rw.tyxy hz2 hg2
    have hlt := lt_at hc
    rcases hg with e | e
    · rcases k4.2.1 g e with q | q
      · exact h.s1 g i z2 (.inl q) hz2 hg2
      · omega
    · rcases k4.2.2.1 g e with q | q
      · exact h.s1 g i z2 (.inr q) hz2 hg2
      · omega
theorem rows_any (h : BkW base bb w C uT vT xT yT LT uR vR xR yR LR) (hbz : base ≤ w.heap.size) {r : Value} {hs : List tRows} (hr : w.ownsRow base 39 1 r hs.length (fc cRows hs)) (hl : hs.length ≤ 1000000) {Ls : List (List tTokens)} (hLs : Ls.length = hs.length) (hd : DpR w hs Ls) (hn : ∀ (i g : Nat) (z' : Value), xR[i]? = some z' → r.ownBlock = some g → z'.ownBlock ≠ some g) (hu : ∀ g, (uT.ownBlock = some g ∨ vT.ownBlock = some g) → r.ownBlock ≠ some g) : Calls Tryz.prog 23 #[.pointer (some ⟨bb, 0, none⟩), r] w fun e w' => e = .returned (.tuple #[]) ∧ ∃ C' uR' vR' xR' yR' LR', BkW base bb w' C' uT vT xT yT LT uR' vR' xR' yR' LR' ∧ Fk bb uR vR w w' ∧ Nb2 uR vR r xR yR w uR' vR' xR' yR' := by
  refine (keepRows_any h.bk h.iR h.jR h.rw hbz hr hl hn).mono ?_
  rintro e w' ⟨rfl, u', v', x', y', L', k1, k2, k3, k4, k5⟩
  have hC := h.sz
  have hmv : ∀ (g : Nat) (cur : Array Value) (t : TypeId), w.heap[g]? = some (.cells cur t (0, 0)) → t ≠ 38 → t ≠ 27 → w'.heap[g]? = w.heap[g]? := fun g cur t hg h1 h2 => k3.ty h.bk (fun g hg => h.rw.tyuv hg) hg h1 h2
  have hdp : DpL w' LR := h.dp.move (fun g cur hg => hmv g cur _ hg (by decide) (by decide))
  have hd' : DpR w' hs Ls := hd.move (fun g cur hg => hmv g cur _ hg (by decide) (by decide))
  refine ⟨rfl, _, u', v', x', y', L', ⟨k1, by rw [put2_sz]; exact hC, fun j hj q4 q5 q22 q23 => by rw [put2_ne q22 q23]; exact h.cs j hj q4 q5 q22 q23, by rw [put2_ne (by decide) (by decide)]; exact h.iT, by rw [put2_ne (by decide) (by decide)]; exact h.jT, put2_0 (by omega) _ _, put2_1 (by omega) _ _, h.tk.move (fun g cur t _ hg ht => ?_), k2, ?_, fun g i z2 hg hz2 hg2 => ?_⟩, k3, k4⟩
  · rcases ht with rfl | ⟨rfl, _⟩
    · exact hmv g cur _ hg (by decide) (by decide)
    · exact hmv g cur _ hg (by decide) (by decide)
  · rcases k5 with rfl | rfl
    · exact hdp
    · intro i hs2 hi
      rcases get_snoc _ _ _ _ hi with ⟨_, q⟩ | ⟨_, q⟩
      · exact hdp i hs2 q
      · subst q
        exact ⟨Ls, hLs, hd'⟩
  · obtain ⟨cur, hc⟩ := h.tk.tyuv hg
    have hlt := lt_at hc
    rcases hz2 with hz2 | hz2
    · rcases k4.1 i z2 hz2 with rfl | ⟨j, q⟩
      · exact hu g hg hg2
      · exact h.s1 g j z2 hg (.inl q) hg2
    · rcases k4.2.2.2 i z2 hz2 with ⟨j, q⟩ | q
      · exact h.s1 g j z2 hg (.inr q) hg2
      · have := q g hg2
        omega
end
end Go.Proofs.YtngjjcmoekeciaaGreatDoor.Kel
