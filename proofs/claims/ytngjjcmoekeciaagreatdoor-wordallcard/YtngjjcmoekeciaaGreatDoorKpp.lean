/- Lists that are pieces of a row: what does not hang on the kind. -/
import Derived.Test.YtngjjcmoekeciaaGreatDoorKpb
namespace Go.Proofs.YtngjjcmoekeciaaGreatDoor.Kel
open Go.RowKit Go.Shelf Go.Lib

theorem splice_in {α : Type} {L : List α} {o : Nat} {cs : List α} {q : Nat} (h : o + cs.length ≤ L.length) (hq : q < cs.length) : (splice L o cs)[o + q]? = cs[q]? := by
  unfold splice
  have e : (L.take o).length = o := by rw [List.length_take, Nat.min_eq_left (by omega)]
  rw [List.getElem?_append_right (by omega), e, Nat.add_sub_cancel_left, List.getElem?_append_left hq]
theorem splice_out {α : Type} {L : List α} {o : Nat} {cs : List α} {q : Nat} (h : o + cs.length ≤ L.length) (hq : q < o ∨ o + cs.length ≤ q) : (splice L o cs)[q]? = L[q]? := by
  unfold splice
  have e : (L.take o).length = o := by rw [List.length_take, Nat.min_eq_left (by omega)]
  rcases hq with hq | hq
  · rw [List.getElem?_append_left (by omega), List.getElem?_take, if_pos hq]
  · rw [List.getElem?_append_right (by omega), e, List.getElem?_append_right (by omega), List.getElem?_drop]
    congr 1
    omega
/-- A list that lies in a block, from a place on, with the room behind it. -/
structure PzA (base : Nat) (T : TypeId) (s g off n cap : Nat) (cs : List Value) (W : World) : Prop where
  bs : base ≤ g
  ex : ∃ cur, W.heap[g]? = some (.cells cur T (0, 0)) ∧ off + cap * s ≤ cur.size
  nc : n ≤ cap
  cm : cap ≤ maxLen
  ln : cs.length = n * s
  fa : FA W g off cs
/-- A list that is a piece of a row, or the whole row. -/
def Pz (base : Nat) (T : TypeId) (s : Nat) (z : Value) (n : Nat) (cs : List Value) (W : World) : Prop := (z = .slice none 0 0 ∧ n = 0 ∧ cs = []) ∨ ∃ g off cap, z = .slice (some ⟨g, off, none⟩) n cap ∧ PzA base T s g off n cap cs W
/-- Two lists have no cell in common, nor room. -/
def Az (s : Nat) (z z' : Value) : Prop := ∀ g off n cap off' n' cap', z = .slice (some ⟨g, off, none⟩) n cap → z' = .slice (some ⟨g, off', none⟩) n' cap' → off + cap * s ≤ off' ∨ off' + cap' * s ≤ off
section
variable {base s g off n cap : Nat} {T : TypeId} {cs : List Value} {z z' : Value} {W V : World}
theorem PzA.lt (h : PzA base T s g off n cap cs W) : g < W.heap.size := by
  obtain ⟨cur, h1, _⟩ := h.ex
  exact lt_at h1
theorem PzA.at (h : PzA base T s g off n cap cs W) (e : V.heap[g]? = W.heap[g]?) : PzA base T s g off n cap cs V := ⟨h.bs, by rw [e]; exact h.ex, h.nc, h.cm, h.ln, h.fa.of e⟩
theorem Pz.at (h : Pz base T s z n cs W) (e : ∀ g, z.ownBlock = some g → V.heap[g]? = W.heap[g]?) : Pz base T s z n cs V := by
  rcases h with h | ⟨g, off, cap, rfl, h⟩
  · exact .inl h
  · exact .inr ⟨g, off, cap, rfl, h.at (e g rfl)⟩
theorem Pz.lt (h : Pz base T s z n cs W) : ∀ g, z.ownBlock = some g → base ≤ g ∧ g < W.heap.size := fun q hq => by
  rcases h with ⟨rfl, _⟩ | ⟨g, off, cap, rfl, h⟩
  · cases hq
  · cases hq
    exact ⟨h.bs, h.lt⟩
theorem Pz.carry (h : Pz base T s z n cs W) (hb : Below W.heap.size W V) : Pz base T s z n cs V := h.at fun q hq => hb.block q (h.lt q hq).2
theorem Pz.ty (h : Pz base T s z n cs W) : ∀ g, z.ownBlock = some g → ∃ cur, W.heap[g]? = some (.cells cur T (0, 0)) := fun q hq => by
  rcases h with ⟨rfl, _⟩ | ⟨g, off, cap, rfl, h⟩
  · cases hq
  · cases hq
    obtain ⟨cur, h1, _⟩ := h.ex
    exact ⟨cur, h1⟩
theorem Pz.base' {b2 : Nat} (h : Pz base T s z n cs W) (hb : b2 ≤ base) : Pz b2 T s z n cs W := by
  rcases h with h | ⟨g, off, cap, rfl, h⟩
  · exact .inl h
  · exact .inr ⟨g, off, cap, rfl, ⟨Nat.le_trans hb h.bs, h.ex, h.nc, h.cm, h.ln, h.fa⟩⟩
theorem Pz.own (h : W.ownsRow base T s z n cs) : Pz base T s z n cs W := by
  obtain ⟨l1, h2⟩ := h
  rcases h2 with ⟨rfl, rfl⟩ | ⟨g, cap, cur, rfl, hb, hc, h4, h5, h6, h7⟩
  · exact .inl ⟨rfl, rfl, List.eq_nil_of_length_eq_zero (by omega)⟩
  · exact .inr ⟨g, 0, cap, rfl, ⟨hb, ⟨cur, hc, by omega⟩, h4, h5, l1, FA.own ⟨l1, .inr ⟨g, cap, cur, rfl, hb, hc, h4, h5, h6, h7⟩⟩⟩⟩
theorem Pz.rd (h : Pz base T s z n cs W) : ∃ ad c, z = .slice ad n c ∧ RdF W ad cs ∧ (ad = none → c = 0) := by
  rcases h with ⟨rfl, rfl, rfl⟩ | ⟨g, off, cap, rfl, h⟩
  · exact ⟨none, 0, rfl, fun hn => absurd rfl hn, fun _ => rfl⟩
  · exact ⟨_, cap, rfl, fun _ => ⟨g, off, rfl, h.lt, h.fa⟩, fun e => by cases e⟩
/-- A piece of a piece, that has no room. -/
theorem PzA.cut (h : PzA base T s g off n cap cs W) (b m : Nat) (hm : b + m ≤ n) : PzA base T s g (off + b * s) m m ((cs.drop (b * s)).take (m * s)) W := by
  obtain ⟨cur, h1, h2⟩ := h.ex
  have e1 : (b + m) * s ≤ cap * s := Nat.mul_le_mul_right _ (Nat.le_trans hm h.nc)
  have e2 : (b + m) * s ≤ n * s := Nat.mul_le_mul_right _ hm
  rw [Nat.add_mul] at e1 e2
  refine ⟨h.bs, ⟨cur, h1, by omega⟩, Nat.le_refl _, Nat.le_trans (by omega) (Nat.le_trans h.nc h.cm), ?_, fun j u hj => ?_⟩
  · rw [List.length_take, List.length_drop, h.ln]
    omega
  · rw [List.getElem?_take] at hj
    split at hj
    · rw [List.getElem?_drop] at hj
      have := h.fa _ _ hj
      rw [Nat.add_assoc]
      exact this
    · cases hj
theorem Az.symm (h : Az s z z') : Az s z' z := fun g off n cap off' n' cap' e e' => (h g off' n' cap' off n cap e' e).symm
theorem Az.blk (h : ∀ g, z.ownBlock = some g → z'.ownBlock ≠ some g) : Az s z z' := fun g off n cap off' n' cap' e e' => by
  subst e
  subst e'
  exact absurd rfl (h g rfl)
end
section
variable {α : Type} {c : α → List Value} {s base : Nat} {T : TypeId} {W : World}
/-- An element is put: what is apart stays. -/
theorem pz_put (hs : ∀ a, (c a).length = s) (h1 : ∀ a, ∀ v ∈ c a, v.oneCell' = true) {g off n cap : Nat} {l : List α} (h : PzA base T s g off n cap (fc c l) W) (hn : n = l.length) {j : Nat} (hj : j < n) (a : α) (val : Value) (hv : val.cells = (c a).toArray) (hi : (Tryz.prog.info? T).map (·.size) = some s) :
    ∃ V, (Instr.storeAt T (.pointer (some ⟨g, off + j * s, none⟩)) val).run Tryz.prog W = .ok () V ∧ PzA base T s g off n cap (fc c (l.set j a)) V ∧ (∀ {b2 n2 : Nat} {z2 : Value} {cs2 : List Value}, Pz b2 T s z2 n2 cs2 W → Az s (.slice (some ⟨g, off, none⟩) n cap) z2 → Pz b2 T s z2 n2 cs2 V) ∧ W.grownBy V (some g) := by
  subst hn
  obtain ⟨cur, hc, hsz⟩ := h.ex
  have hm : (j + 1) * s ≤ l.length * s := Nat.mul_le_mul_right _ hj
  have hm2 : l.length * s ≤ cap * s := Nat.mul_le_mul_right _ h.nc
  rw [Nat.succ_mul] at hm
  have hcl : cur.toList.length = cur.size := by simp
  have hin : off + j * s + (c a).length ≤ cur.toList.length := by rw [hs]; omega
  have hs' := run_store_in (P := Tryz.prog) W g (off + j * s) T T cur.toList (c a) val hv (by simpa using hc) (by rw [hs]; exact hi) hin (h1 a)
  obtain ⟨V, hV⟩ : ∃ V, W.setRow g (splice cur.toList (off + j * s) (c a)).toArray = V := ⟨_, rfl⟩
  rw [hV] at hs'
  have hg : V.heap[g]? = some (.cells (splice cur.toList (off + j * s) (c a)).toArray T (0, 0)) := by rw [← hV]; exact setRow_heap _ _ _ _ _ _ hc
  have ho : ∀ q, q ≠ g → V.heap[q]? = W.heap[q]? := fun q hq => by rw [← hV]; exact Go.setRow_other _ _ _ _ hq
  have hlen : (splice cur.toList (off + j * s) (c a)).length = cur.size := by
    unfold splice
    simp only [List.length_append, List.length_take, List.length_drop]
    rw [hs] at hin ⊢
    omega
  have hgr : W.grownBy V (some g) := ⟨by rw [← hV]; rfl, by rw [← hV]; rfl, by rw [← hV]; rfl, by rw [← hV]; simp [World.setRow], fun k _ hk => ho k (fun e => hk (by rw [e]))⟩
  have e1 : (fc c l).length = l.length * s := fc_len hs l
  have hset : fc c (l.set j a) = splice (fc c l) (j * s) (c a) := by
    rw [fc_set hs l j a hj]
    unfold splice
    rw [hs]
  have hcell : ∀ q, V.cell? ⟨g, q, none⟩ = (splice cur.toList (off + j * s) (c a))[q]? := fun q => by rw [cell_at hg q]; simp
  have hcellW : ∀ q, W.cell? ⟨g, q, none⟩ = cur.toList[q]? := fun q => by rw [cell_at hc q]; simp
  refine ⟨V, hs', ⟨h.bs, ⟨_, hg, by simpa [hlen] using hsz⟩, h.nc, h.cm, by rw [fc_len hs, List.length_set], fun q u hq => ?_⟩, fun {b2 n2 z2 cs2} hz2 haz => ?_, hgr⟩
  · rw [hcell]
    rw [hset] at hq
    by_cases hr : j * s ≤ q ∧ q < j * s + s
    · obtain ⟨d, rfl⟩ : ∃ d, q = j * s + d := ⟨q - j * s, by omega⟩
      rw [splice_in (by rw [hs, e1]; omega) (by rw [hs]; omega)] at hq
      rw [show off + (j * s + d) = off + j * s + d by omega, splice_in hin (by rw [hs]; omega)]
      exact hq
    · rw [splice_out (by rw [hs, e1]; omega) (by rw [hs]; omega)] at hq
      rw [splice_out hin (by rw [hs]; omega), ← hcellW]
      exact h.fa q u hq
  · rcases hz2 with h2 | ⟨g2, off2, cap2, rfl, h2⟩
    · exact .inl h2
    by_cases e : g2 = g
    · subst e
      obtain ⟨cur2, hc2, hsz2⟩ := h2.ex
      have ecur : cur2 = cur := by
        rw [hc] at hc2
        simp only [Option.some.injEq, Obj.cells.injEq] at hc2
        exact hc2.1.symm
      subst ecur
      have hap := haz g2 off l.length cap off2 n2 cap2 rfl rfl
      have hn2 : n2 * s ≤ cap2 * s := Nat.mul_le_mul_right _ h2.nc
      refine .inr ⟨g2, off2, cap2, rfl, ⟨h2.bs, ⟨_, hg, by simpa [hlen] using hsz2⟩, h2.nc, h2.cm, h2.ln, fun q u hq => ?_⟩⟩
      have hql : q < cs2.length := (List.getElem?_eq_some_iff.1 hq).1
      rw [h2.ln] at hql
      rw [hcell, splice_out hin (by rw [hs]; omega), ← hcellW]
      exact h2.fa q u hq
    · exact .inr ⟨g2, off2, cap2, rfl, h2.at (ho g2 e)⟩
end
end Go.Proofs.YtngjjcmoekeciaaGreatDoor.Kel
