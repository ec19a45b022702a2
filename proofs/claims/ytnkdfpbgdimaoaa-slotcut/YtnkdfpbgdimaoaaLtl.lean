/- For the statements over rows of Saves. -/
import Derived.Test.YtnkdfpbgdimaoaaLtk
import Derived.Test.YtnkdfpbgdimaoaaOpr
namespace Go.Proofs.Ytnkdfpbgdimaoaa
open Go.RowKit Go.Shelf Go.Lib

theorem RecsAt.carry {W V : World} {base b off : Nat} {l : List Rec} (h : RecsAt W b off l) (hV : Below base W V) (hb : b < base) : RecsAt V b off l := fun k x hk => by
  obtain ⟨h1, h2, h3⟩ := h k x hk
  have e := hV.block b hb
  exact ⟨(World.cell?_of_block (a := ⟨b, _, none⟩) e).trans h1, (World.cell?_of_block (a := ⟨b, _, none⟩) e).trans h2, (World.cell?_of_block (a := ⟨b, _, none⟩) e).trans h3⟩
theorem load_recs {W : World} {b off m : Nat} {l : List Rec} {x : Rec} (h : RecsAt W b off l) (hx : l[m]? = some x) : (Instr.loadAt 23 (.pointer (some ⟨b, off + m * 3, none⟩))).run Try.prog W = .ok (rV x) W := by
  obtain ⟨c0, c1, c2⟩ := h m x hx
  unfold rV
  go_simp
theorem load_rec {W : World} {B : Nat} {a b c : Value} (h : W.heap[B]? = some (.cells #[a, b, c] 23 (0, 0))) : (Instr.loadAt 23 (.pointer (some ⟨B, 0, none⟩))).run Try.prog W = .ok (.agg #[a, b, c]) W := by
  have c0 := cell_at h 0
  have c1 := cell_at h 1
  have c2 := cell_at h 2
  go_simp
theorem idx_recs (b off n cap m : Nat) (hm : m < n) (w : World) : (Instr.indexAt 33 (.slice (some ⟨b, off, none⟩) n cap) (.int .i64 (m : Int))).run Try.prog w = .ok (.pointer (some ⟨b, off + m * 3, none⟩)) w := by
  have h1 : (m : Int) < (n : Int) := by omega
  go_simp
theorem eqR {x y : Operand} {w : World} (r s : Rec) : binRun Try.prog .eql 23 x y (rV r) (rV s) w = .ok (.bool (decide (r = s))) w := by
  obtain ⟨o, t, k⟩ := r
  obtain ⟨o', t', k'⟩ := s
  unfold binRun rV
  rw [show decide ((⟨o, t, k⟩ : Rec) = ⟨o', t', k'⟩) = decide (o = o' ∧ t = t' ∧ k = k') by simp]
  by_cases h : o = o'
  · by_cases h1 : t = t'
    · by_cases h2 : k = k' <;> go_simp
    · go_simp
  · go_simp
theorem neqR_f {x y : Operand} {w : World} (r : Rec) : binRun Try.prog .neq 23 x y (rV r) (rV r) w = .ok (.bool false) w := by
  obtain ⟨o, t, k⟩ := r
  unfold binRun rV
  go_simp
theorem neqK_f {P : Program} {t : TypeId} {x y : Operand} {w : World} (k : IntKind) (a : Int) : binRun P .neq t x y (.int k a) (.int k a) w = .ok (.bool false) w := by simp [binRun, go_sem]
theorem bi_lenb (t : TypeId) (bs : Array Bool) (a : Option Addr) (n c : Nat) (w : World) : (builtin .len #[24] t bs #[.slice a n c]).run Try.prog w = .ok (.value (.int .i64 (n : Int))) w := by
  show ((do pure (.value (← Builtin.len_ #[24] t #[.slice a n c]))) : Sem Next).run Try.prog w = _
  go_simp
theorem splice_lo {L x : List Nat} {off k : Nat} (h : off + x.length ≤ L.length) (hk : k < off) : (splice L off x)[k]? = L[k]? := by
  rw [splice, List.getElem?_append_left (by rw [List.length_take]; omega), List.getElem?_take_of_lt hk]
theorem splice_hi {L x : List Nat} {off k : Nat} (h : off + x.length ≤ L.length) (hk : off + x.length ≤ k) : (splice L off x)[k]? = L[k]? := by
  have e : (L.take off).length = off := by rw [List.length_take]; omega
  rw [splice, List.getElem?_append_right (by omega), e, List.getElem?_append_right (by omega), List.getElem?_drop]
  congr 1
  omega
theorem put2_get {l S : List Nat} {q k : Nat} (h : l.length = 256) (hS : S.length = 64) (hq : q < 2) (hk : k < 64 * q ∨ 64 * q + 64 ≤ k) : (put2 l q S)[k]? = l[k]? := by
  obtain ⟨e1, e2⟩ := half_len hS
  have e3 := put1_len h hS hq
  unfold put2
  rcases hk with hk | hk
  · rw [putS, splice_lo (by rw [e2, e3]; omega) (by omega), putS, splice_lo (by rw [e1, h]; omega) (by omega)]
  · rw [putS, splice_hi (by rw [e2, e3]; omega) (by rw [e2]; omega), putS, splice_hi (by rw [e1, h]; omega) (by rw [e1]; omega)]
theorem own_at {W : World} {base g n c : Nat} {l : List Nat} (h : W.ownsRow base 5 1 (.slice (some ⟨g, 0, none⟩) n c) n (cB l)) (hn : n = l.length) : BAt W g 0 l ∧ g < W.heap.size ∧ base ≤ g := by
  refine ⟨b_own h hn, ?_, own_block h g rfl⟩
  rcases own_form h with ⟨e, _⟩ | ⟨g1, c1, e, _, h2, _⟩
  · cases e
  · cases e
    exact h2
end Go.Proofs.Ytnkdfpbgdimaoaa
