/- Lines, kept: where they lie. -/
import Derived.Test.YtngjjcmoekeciaaGreatDoorVlp
import Derived.Test.YtngjjcmoekeciaaGreatDoorKqk
namespace Go.Proofs.YtngjjcmoekeciaaGreatDoor
open Go.RowKit Go.Shelf
set_option linter.unusedVariables false

theorem stt_succ (L : List (List Fq)) (i : Nat) (d : List Fq) (h : L[i]? = some d) : stt L (i + 1) = stt L i + (d.length + 1) := by
  unfold stt
  rw [List.take_add_one, h]
  simp
theorem stt_le (L : List (List Fq)) (i : Nat) : ∀ j, i ≤ j → stt L i ≤ stt L j
  | 0, h => by
    obtain rfl : i = 0 := by omega
    exact Nat.le_refl _
  | j + 1, h => by
    by_cases e : i = j + 1
    · rw [e]
      exact Nat.le_refl _
    · have ih := stt_le L i j (by omega)
      cases hj : L[j]? with
      | none =>
        have : stt L (j + 1) = stt L j := by
          unfold stt
          rw [List.take_add_one, hj]
          simp
        omega
      | some d => rw [stt_succ L j d hj]; omega
theorem stt_lt (L : List (List Fq)) {i j : Nat} (h : i < j) {d : List Fq} (hd : L[i]? = some d) : stt L i + d.length < stt L j := by
  have h1 := stt_succ L i d hd
  have h2 := stt_le L (i + 1) j h
  omega
/-- The i-th line, a piece of the copy. -/
def pcV (g : Nat) (L : List (List Fq)) (i : Nat) (d : List Fq) : Value := .slice (some ⟨g, if d.length = 0 then 0 else stt L i * 4, none⟩) d.length d.length
theorem Kq.pc {w : World} {l : List Fq} {x : List Value} {L : List (List Fq)} (h : Kq w l x L) {i : Nat} {d : List Fq} (hd : L[i]? = some d) : x[i]? = some (pcV w.heap.size L i d) ∧ d = (l.drop (stt L i)).take d.length ∧ stt L i + d.length ≤ l.length := by
  obtain ⟨j, h1, h2, h3, rfl, h5⟩ := h i d hd
  exact ⟨h1, h2, h5⟩
theorem cq_fc (l : List Fq) : cq l = Kel.fc Kel.cTokens l := rfl
theorem pc_az {g : Nat} {L : List (List Fq)} {i j : Nat} {d d' : List Fq} (hij : i ≠ j) (hd : L[i]? = some d) (hd' : L[j]? = some d') : Kel.Az 4 (pcV g L i d) (pcV g L j d') := by
  intro b off n cap off' n' cap' e e'
  simp only [pcV, Value.slice.injEq, Option.some.injEq, Addr.mk.injEq] at e e'
  obtain ⟨⟨_, e1, _⟩, e2, e3⟩ := e
  obtain ⟨⟨_, f1, _⟩, f2, f3⟩ := e'
  by_cases z : d.length = 0
  · rw [if_pos z] at e1
    omega
  by_cases z' : d'.length = 0
  · rw [if_pos z'] at f1
    omega
  rw [if_neg z] at e1
  rw [if_neg z'] at f1
  rcases Nat.lt_or_gt_of_ne hij with q | q
  · have := stt_lt L q hd
    omega
  · have := stt_lt L q hd'
    omega
theorem pc_pz {w W : World} {l : List Fq} {x : List Value} {L : List (List Fq)} {base : Nat} (h : Kq w l x L) (hrow : W.heap[w.heap.size]? = some (.cells (cq l).toArray 50 (0, 0))) (hm : l.length ≤ 1000000) (hb : base ≤ w.heap.size) {i : Nat} {d : List Fq} (hd : L[i]? = some d) : ∃ o, pcV w.heap.size L i d = .slice (some ⟨w.heap.size, o, none⟩) d.length d.length ∧ Kel.PzA base 50 4 w.heap.size o d.length d.length (Kel.fc Kel.cTokens d) W := by
  obtain ⟨h1, h2, h3⟩ := h.pc hd
  have hA : Kel.PzA base 50 4 w.heap.size 0 l.length l.length (Kel.fc Kel.cTokens l) W := ⟨hb, ⟨_, hrow, by rw [List.size_toArray, cq_len]; omega⟩, Nat.le_refl _, by unfold maxLen; omega, Kel.fc_len Kel.hsTokens l, fun j u hj => by rw [Nat.zero_add, cell_at hrow, List.getElem?_toArray, cq_fc]; exact hj⟩
  by_cases z : d.length = 0
  · have hnil : d = [] := List.eq_nil_of_length_eq_zero z
    subst hnil
    refine ⟨0, rfl, ⟨hb, ⟨_, hrow, by simp⟩, Nat.le_refl _, by simp, by simp [Kel.fc], fun j u hj => by simp [Kel.fc] at hj⟩⟩
  · refine ⟨stt L i * 4, by unfold pcV; rw [if_neg z], ?_⟩
    have hc := hA.cut (stt L i) d.length h3
    rw [Kel.fc_drop Kel.hsTokens, Kel.fc_take Kel.hsTokens, ← h2, Nat.zero_add] at hc
    exact hc
theorem pc_pq {w W : World} {l : List Fq} {x : List Value} {L : List (List Fq)} {base : Nat} (h : Kq w l x L) (hrow : W.heap[w.heap.size]? = some (.cells (cq l).toArray 50 (0, 0))) (hm : l.length ≤ 1000000) (hb : base ≤ w.heap.size) {i : Nat} {d : List Fq} (hd : L[i]? = some d) : Kel.Pq base 50 4 (pcV w.heap.size L i d) d.length (Kel.fc Kel.cTokens d) W := by
  obtain ⟨o, e, hA⟩ := pc_pz h hrow hm hb hd
  exact .inr ⟨_, o, e, hA⟩
/-- Slices as their three parts. -/
def toH : Value → Kel.tRows
  | .slice a n c => (a, n, c)
  | _ => (none, 0, 0)
theorem toH_fc : ∀ x : List Value, (∀ (i : Nat) (v : Value), x[i]? = some v → ∃ a n c, v = .slice a n c) → Kel.fc Kel.cRows (x.map toH) = x
  | [], _ => rfl
  | v :: x, h => by
    obtain ⟨a, n, c, rfl⟩ := h 0 v rfl
    have ih := toH_fc x (fun i v' hv => h (i + 1) v' (by simpa using hv))
    rw [List.map_cons, Kel.fc_cons, ih]
    rfl
/-- Lines that were answered: the row of slices, the copy, and which piece each slice is. -/
structure LnS (b1 : Nat) (w1 : World) (l : List Fq) (L : List (List Fq)) (r : Value) (x : List Value) (W : World) : Prop where
  rw : W.ownsRow b1 39 1 r L.length x
  row : W.heap[w1.heap.size]? = some (.cells (cq l).toArray 50 (0, 0))
  kq : Kq w1 l x L
section
variable {b1 : Nat} {w1 W V : World} {l : List Fq} {L : List (List Fq)} {r : Value} {x : List Value}
theorem LnS.carry (h : LnS b1 w1 l L r x W) (hb : Below W.heap.size W V) : LnS b1 w1 l L r x V := ⟨row_below h.rw hb, (hb.block _ (lt_at h.row)).trans h.row, h.kq⟩
theorem LnS.lx (h : LnS b1 w1 l L r x W) : x.length = L.length := by
  have := h.rw.1
  omega
theorem LnS.sl (h : LnS b1 w1 l L r x W) : ∀ (i : Nat) (v : Value), x[i]? = some v → ∃ a n c, v = .slice a n c := fun i v hv => by
  have hi : i < L.length := by rw [← h.lx]; exact (List.getElem?_eq_some_iff.1 hv).1
  obtain ⟨h1, _⟩ := h.kq.pc (List.getElem?_eq_getElem hi)
  rw [hv] at h1
  cases h1
  exact ⟨_, _, _, rfl⟩
theorem LnS.fc (h : LnS b1 w1 l L r x W) : Kel.fc Kel.cRows (x.map toH) = x := toH_fc x h.sl
theorem LnS.dp (h : LnS b1 w1 l L r x W) (hm : l.length ≤ 1000000) : Kel.DpR W (x.map toH) L := fun k hd d e1 e2 => by
  obtain ⟨h1, h2, h3⟩ := h.kq.pc e2
  rw [List.getElem?_map, h1] at e1
  cases e1
  obtain ⟨o, e, hA⟩ := pc_pz (base := 0) h.kq h.row hm (Nat.zero_le _) e2
  rw [e]
  exact ⟨rfl, fun _ => ⟨_, o, rfl, lt_at h.row, hA.fa⟩, by show d.length ≤ _; omega, fun _ => ⟨_, o, _, rfl, h.row⟩⟩
theorem LnS.move (h : LnS b1 w1 l L r x W) (e1 : ∀ g, r.ownBlock = some g → V.heap[g]? = W.heap[g]?) (e2 : V.heap[w1.heap.size]? = W.heap[w1.heap.size]?) : LnS b1 w1 l L r x V := ⟨Kel.row_at h.rw e1, e2.trans h.row, h.kq⟩
end
end Go.Proofs.YtngjjcmoekeciaaGreatDoor
