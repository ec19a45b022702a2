/- DiskTwins' writes: what lies in the world while one is done. -/
import Derived.Test.YtcnkpkdnpjhogaaDkh
import Derived.Test.YtcnkpkdnpjhogaaDki
import Derived.Test.YtcnkpkdnpjhogaaStg
import Derived.Test.YtcnkpkdnpjhogaaRgf
namespace Go.Proofs.Ytcnkpkdnpjhogaa
open Go.RowKit Go.Shelf
theorem bounds_i64 {a : Int} (h : (Lit.int .i64 a).wf = true) : -9223372036854775808 ≤ a ∧ a ≤ 9223372036854775807 := by
  simp only [Lit.wf, Bool.and_eq_true, decide_eq_true_eq] at h
  have h1 : IntKind.i64.min = -9223372036854775808 := rfl
  have h2 : IntKind.i64.max = 9223372036854775807 := rfl
  omega
theorem fz_fuse (d : Dst) {k : Int} (hk : k ≤ 9223372036854775807) : Fz (dFuse d k) := by
  intro q
  have h1 : 0 ≤ k := by simpa [dFuse] using q
  have e : (dFuse d k).fuse = k := by simp [dFuse, h1]
  rw [e]
  exact ⟨h1, hk⟩
/-- A write of 32 bytes, its answer by an exists. -/
theorem write_ex {W : World} {p : Nat} {d : Dst} (h : Dk W p d) (s : Int) {ad : Option Addr} {cap : Nat} {x : List Nat} (hx : RdB W ad x) (hb : Byt x) (hl : x.length = 32) (hf : Fz d) (hw0 : 0 ≤ d.writes) (hw : d.writes ≤ 4611686018427387904) : Calls Try.prog 10 #[.pointer (some ⟨p, 0, none⟩), .int .i64 s, .slice ad 32 cap] W fun e w' => ∃ r d2, e = .returned (.int .i64 r) ∧ dWr d s x = (r, d2) ∧ Dk w' p d2 ∧ Tp p W w' := by
  have := write_any h s ad cap x hx hb hf hw0 hw
  rw [hl] at this
  refine this.mono ?_
  rintro e w' ⟨rfl, h1, h2⟩
  exact ⟨_, _, rfl, rfl, h1, h2⟩
theorem o_facts {l x : List Nat} {r : Int} {d2 : Dst} (h : dWr (dOf l) 3 x = (r, d2)) (hx : x.length = 32) : d2.writes = 1 ∧ left d2 = -1 := by
  rw [dWr_ok rfl ⟨by decide, by decide⟩ hx (show ¬ left (dOf l) = 0 by show ¬ (-1 : Int) = 0; decide)] at h
  cases h
  exact ⟨rfl, rfl⟩
theorem stay_on {d : Dst} {s : Int} {x : List Nat} (h : d.off = false) (hf : d.fused = false) : (dWr d s x).2.off = false ∧ (dWr d s x).2.fused = false := by
  unfold dWr
  rw [if_neg (by rw [h]; decide)]
  split
  · exact ⟨h, hf⟩
  · split
    · exact ⟨h, hf⟩
    · rw [if_neg (by rw [left, hf, if_neg (by decide)]; decide)]
      exact ⟨h, hf⟩
theorem row_lt {W : World} {base g n c : Nat} {e : TypeId} {xs : List Value} (h : W.ownsRow base e 1 (.slice (some ⟨g, 0, none⟩) n c) n xs) : g < W.heap.size := by
  rcases h.2 with ⟨e1, _⟩ | ⟨g1, c1, cur, e1, _, h3, _⟩
  · cases e1
  · cases e1
    exact lt_at h3
theorem row_tp {W W' : World} {base p n : Nat} {v : Value} {d : Dst} {xs : List Value} (h : W.ownsRow base 5 1 v n xs) (hd : Dk W p d) (ht : Tp p W W') : W'.ownsRow base 5 1 v n xs := by
  refine ⟨h.1, ?_⟩
  rcases h.2 with h1 | ⟨g, cap, cur, h1, h2, h3, h4⟩
  · exact .inl h1
  · refine .inr ⟨g, cap, cur, h1, h2, (ht.block g (lt_at h3) (fun e => ?_)).trans h3, h4⟩
    subst e
    have := h3.symm.trans hd.obj
    simp only [Option.some.injEq, Obj.cells.injEq] at this
    exact absurd this.2.1 (by decide)
/-- While one write is done: a11: its bytes are made, a12: it is done. -/
def JTw (w : World) (p n : Nat) (dd d2 : Dst) (x : List Nat) (a11 a12 : Bool) (V : World) : Prop := Below w.heap.size w V ∧ (a12 = true → Dk V p d2) ∧ (a12 = false → Dk V p dd ∧ (a11 = true → Sc V n x) ∧ (a11 = false → V.heap.size = n))
theorem ld_int {V : World} {B j : Nat} {x : Int} (h : V.cell? ⟨B, j, none⟩ = some (.int .i64 x)) : (Instr.loadAt 3 (.pointer (some ⟨B, j, none⟩))).run Try.prog V = .ok (.int .i64 x) V := by go_simp
theorem ix_ints (g off n cap k : Nat) (h : k < n) (w : World) : (Instr.indexAt 32 (.slice (some ⟨g, off, none⟩) n cap) (.int .i64 (k : Int))).run Try.prog w = .ok (.pointer (some ⟨g, off + k, none⟩)) w := by
  have h1 : (k : Int) < (n : Int) := by omega
  go_simp
end Go.Proofs.Ytcnkpkdnpjhogaa
