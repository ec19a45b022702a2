/- The play: its start, what holds in its rounds. -/
import Derived.Test.YtjleggnkacmbbaaPyg
import Derived.Test.YtjleggnkacmbbaaDkf
namespace Go.Proofs.Ytjleggnkacmbbaa
open Go.RowKit Go.Shelf Go.Lib

theorem bounds_hi2 {a : Int} (h : (Lit.int .i64 a).wf = true) : a ≤ 9223372036854775807 := by
  simp only [Lit.wf, Bool.and_eq_true, decide_eq_true_eq] at h
  have h2 : IntKind.i64.max = 9223372036854775807 := rfl
  omega
theorem field_rd1 (W : World) (B : Nat) : (Instr.fieldAt 64 (.pointer (some ⟨B, 0, none⟩)) 1).run Try.prog W = .ok (.pointer (some ⟨B, 1, none⟩)) W := by go_simp
theorem field_rd3 (W : World) (B : Nat) : (Instr.fieldAt 64 (.pointer (some ⟨B, 0, none⟩)) 3).run Try.prog W = .ok (.pointer (some ⟨B, 3, none⟩)) W := by go_simp
theorem load_bo {W : World} {B o : Nat} {x : Bool} (h : W.cell? ⟨B, o, none⟩ = some (.bool x)) : (Instr.loadAt 4 (.pointer (some ⟨B, o, none⟩))).run Try.prog W = .ok (.bool x) W := by go_simp
theorem eqB_f (x y : Operand) (w : World) (b : Bool) : binRun Try.prog .eql 4 x y (.bool (!b)) (.bool b) w = .ok (.bool false) w := by cases b <;> kernel_rfl
theorem idx_ob {W : World} {b off m n cap : Nat} (h : m < n) : (Instr.indexAt 39 (.slice (some ⟨b, off, none⟩) n cap) (.int .i64 (m : Int))).run Try.prog W = .ok (.pointer (some ⟨b, off + m * 2, none⟩)) W := by
  have h1 : (m : Int) < (n : Int) := by omega
  go_simp
theorem load_ob {W : World} {b off : Nat} {o : Ob} (h : ObAt W b off o) : (Instr.loadAt 80 (.pointer (some ⟨b, off, none⟩))).run Try.prog W = .ok (.agg #[.int .i64 o.k, .int .i64 o.a]) W := by
  obtain ⟨h0, h1⟩ := h
  go_simp
/-- In a round of the play. -/
def JL (w : World) (gb p lb r : Nat) (b0 b1 : Bo) (d0 d1 : Dst) (y : Nat × Nat) (f5 f17 : Bool) (V : World) : Prop := (∃ q, P2 w gb q p lb r 256 (if f5 = true then b1 else b0) (if f5 = true then d1 else d0) (if f5 = true then b1 else b0) (if f5 = true then d1 else d0) V) ∧ (f17 = true → BAt V y.1 0 d1.l ∧ y.1 < V.heap.size)
section
variable {w V V' : World} {gb p lb r : Nat} {b0 b1 : Bo} {d0 d1 : Dst} {y : Nat × Nat} {f5 f17 : Bool}
theorem JL.carry (h : JL w gb p lb r b0 b1 d0 d1 y f5 f17 V) (hb : Below V.heap.size V V') : JL w gb p lb r b0 b1 d0 d1 y f5 f17 V' := by
  obtain ⟨⟨q, h1⟩, h2⟩ := h
  refine ⟨⟨q, h1.carry hb⟩, fun e => ?_⟩
  obtain ⟨a1, a2⟩ := h2 e
  exact ⟨a1.carry (hb.block _ a2), Nat.lt_of_lt_of_le a2 hb.size⟩
theorem JL.bl (h : JL w gb p lb r b0 b1 d0 d1 y f5 f17 V) : Below w.heap.size w V := by
  obtain ⟨⟨q, h1⟩, _⟩ := h
  exact h1.bl
theorem JL.slc (h : JL w gb p lb r b0 b1 d0 d1 y f5 f17 V) : V.cell? ⟨lb, 0, none⟩ = some (.slice (some ⟨r, 0, none⟩) 256 256) := by
  obtain ⟨⟨q, h1⟩, _⟩ := h
  exact h1.rf.b
theorem JL.on (h : JL w gb p lb r b0 b1 d0 d1 y true f17 V) : ∃ q, P2 w gb q p lb r 256 b1 d1 b1 d1 V := h.1
theorem JL.same (h : JL w gb p lb r b0 b1 d0 d1 y true true V) : Calls Try.prog 36 #[.slice (some ⟨y.1, 0, none⟩) 256 y.2, .slice (some ⟨r, 0, none⟩) 256 256] V fun e w' => e = .returned (.bool true) ∧ Below V.heap.size V w' := by
  obtain ⟨q, hP⟩ := h.on
  obtain ⟨h1, h2⟩ := h.2 rfl
  have hl := hP.dk.len
  have s := sameB_yes (some ⟨y.1, 0, none⟩) (some ⟨r, 0, none⟩) y.2 256 d1.l V (fun _ => ⟨y.1, 0, rfl, h2, h1⟩) (fun _ => ⟨r, 0, rfl, hP.rf.lt.2, hP.rf.at⟩) (by rw [hl]; omega)
  rw [hl] at s
  exact s
end
/-- The first image. -/
def img (f : Rec) (s : Int) : List Nat := slB f s ++ d0.l.drop 64
theorem img_len (f : Rec) (s : Int) : (img f s).length = 256 := by rw [img, List.length_append, slB_len, List.length_drop, d0_len]
theorem img_byt (f : Rec) (s : Int) : Byt (img f s) := (slB_byt f s).append ((byt_zero 256).drop 64)
theorem own_list {W : World} {base r : Nat} {l : List Nat} (h : W.ownsRow base 5 1 (.slice (some ⟨r, 0, none⟩) 256 256) 256 (cB l)) : W.heap[r]? = some (.cells (cB l).toArray 5 (0, 0)) := by
  rcases h.2 with ⟨e1, _⟩ | ⟨g1, c1, cur, e1, _, h3, h4, h5, h6, h7⟩
  · cases e1
  · cases e1
    have e : cur = (cB l).toArray := by
      apply Array.toList_inj.1
      simp at h6 h7
      rw [← h7, List.take_of_length_le (by simp; omega)]
    rw [h3, e]
theorem list_own {W : World} {base r : Nat} {l : List Nat} (h : W.heap[r]? = some (.cells (cB l).toArray 5 (0, 0))) (hl : l.length = 256) (hb : base ≤ r) : W.ownsRow base 5 1 (.slice (some ⟨r, 0, none⟩) 256 256) 256 (cB l) := by
  refine ⟨by rw [cB_len, hl], .inr ⟨r, 256, _, rfl, hb, h, Nat.le_refl _, by unfold maxLen; omega, by simp [cB_len, hl], ?_⟩⟩
  simp [List.take_of_length_le, cB_len, hl]
end Go.Proofs.Ytjleggnkacmbbaa
