/- Scripts that are handed in; the statements' light: what it answers. -/
import Derived.Test.YtcgghhfnlobodaaGreatBgm
namespace Go.Proofs.YtcgghhfnlobodaaGreat
open Go.RowKit Go.Shelf

/-- A step: its kind, who, three numbers, bytes. -/
abbrev Op6 := Int × Int × Int × Int × Int × List Nat
/-- A slice of bytes below B. -/
def RdU (W : World) (B : Nat) (a : Option Addr) (d : List Nat) : Prop := d ≠ [] → ∃ b off, a = some ⟨b, off, none⟩ ∧ b < B ∧ BAt W b off d
theorem RdU.rd {W : World} {B : Nat} {a : Option Addr} {d : List Nat} (h : RdU W B a d) (hB : B ≤ W.heap.size) : RdB W a d := fun hn => by
  obtain ⟨b, off, h1, h2, h3⟩ := h hn
  exact ⟨b, off, h1, by omega, h3⟩
/-- A script, below B. -/
def RdO (W : World) (B : Nat) (ad : Option Addr) (ops : List Op6) : Prop := ∀ (n : Nat) (o : Op6), ops[n]? = some o → ∃ b off a c, ad = some ⟨b, off, none⟩ ∧ b < B ∧ W.cell? ⟨b, off + n * 6, none⟩ = some (.int .i64 o.1) ∧ W.cell? ⟨b, off + n * 6 + 1, none⟩ = some (.int .i64 o.2.1) ∧ W.cell? ⟨b, off + n * 6 + 2, none⟩ = some (.int .i64 o.2.2.1) ∧ W.cell? ⟨b, off + n * 6 + 3, none⟩ = some (.int .i64 o.2.2.2.1) ∧ W.cell? ⟨b, off + n * 6 + 4, none⟩ = some (.int .i64 o.2.2.2.2.1) ∧ W.cell? ⟨b, off + n * 6 + 5, none⟩ = some (.slice a o.2.2.2.2.2.length c) ∧ RdU W B a o.2.2.2.2.2 ∧ Byt o.2.2.2.2.2 ∧ (a = none → c = 0)
theorem RdO.carry {W W' : World} {B : Nat} {ad : Option Addr} {ops : List Op6} (h : RdO W B ad ops) (hb : Below B W W') : RdO W' B ad ops := fun n o hn => by
  obtain ⟨b, off, a, c, h1, h2, c0, c1, c2, c3, c4, c5, h3, h4⟩ := h n o hn
  refine ⟨b, off, a, c, h1, h2, (hb.cell (p := ⟨b, _, none⟩) h2).trans c0, (hb.cell (p := ⟨b, _, none⟩) h2).trans c1, (hb.cell (p := ⟨b, _, none⟩) h2).trans c2, (hb.cell (p := ⟨b, _, none⟩) h2).trans c3, (hb.cell (p := ⟨b, _, none⟩) h2).trans c4, (hb.cell (p := ⟨b, _, none⟩) h2).trans c5, fun hd => ?_, h4⟩
  obtain ⟨b', off', e1, e2, e3⟩ := h3 hd
  exact ⟨b', off', e1, e2, e3.carry (hb.block _ e2)⟩
theorem idx_O (g off n cap k : Nat) (h : k < n) (w : World) : (Instr.indexAt 23 (.slice (some ⟨g, off, none⟩) n cap) (.int .i64 (k : Int))).run Tryz.prog w = .ok (.pointer (some ⟨g, off + k * 6, none⟩)) w := by
  have h1 : (k : Int) < (n : Int) := by omega
  go_simp
theorem fld_O (W : World) (B o : Nat) : (Instr.fieldAt 57 (.pointer (some ⟨B, o, none⟩)) 5).run Tryz.prog W = .ok (.pointer (some ⟨B, o + 5, none⟩)) W := by go_simp
theorem load_O {V : World} {b o : Nat} {x0 x1 x2 x3 x4 : Int} {a : Option Addr} {n c : Nat} (h0 : V.cell? ⟨b, o, none⟩ = some (.int .i64 x0)) (h1 : V.cell? ⟨b, o + 1, none⟩ = some (.int .i64 x1)) (h2 : V.cell? ⟨b, o + 2, none⟩ = some (.int .i64 x2)) (h3 : V.cell? ⟨b, o + 3, none⟩ = some (.int .i64 x3)) (h4 : V.cell? ⟨b, o + 4, none⟩ = some (.int .i64 x4)) (h5 : V.cell? ⟨b, o + 5, none⟩ = some (.slice a n c)) : (Instr.loadAt 57 (.pointer (some ⟨b, o, none⟩))).run Tryz.prog V = .ok (.agg #[.int .i64 x0, .int .i64 x1, .int .i64 x2, .int .i64 x3, .int .i64 x4, .slice a n c]) V := by
  go_simp
def lgt (ops : List Op6) : Bool := decide (ops.length ≤ 150 ∧ ∀ o ∈ ops, o.2.2.2.2.2.length ≤ 2000)
end Go.Proofs.YtcgghhfnlobodaaGreat
