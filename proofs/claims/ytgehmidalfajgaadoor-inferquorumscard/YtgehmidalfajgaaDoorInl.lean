/- Take in a drawn region, by its arguments; for quorums. -/
import Derived.Test.YtgehmidalfajgaaDoorInk
import Derived.Test.YtgehmidalfajgaaDoorTabl
import Derived.Test.YtgehmidalfajgaaDoorOss
import Derived.Test.YtgehmidalfajgaaDoorOpl
namespace Go.Proofs.YtgehmidalfajgaaDoor
open Go.RowKit Go.Shelf

/-- Ahead of a Take, and behind it. -/
def Jv (w : World) (base q : Nat) (ad : Option Addr) (t : Tl) (f r : Int) (N : Nat) (d : Bool) (V : World) : Prop := match d with
  | false => Below w.heap.size w V
  | true => ∃ ad' cap', Ta V base q ad' cap' (tk t f r N) ∧ Tn q (ob ad) (ob ad') w V
theorem Jv.go {w V : World} {base q cap : Nat} {ad : Option Addr} {t : Tl} {f r : Int} {N : Nat} (h : Jv w base q ad t f r N false V) (hT : Ta w base q ad cap t) (hv : Tv t) (hb : base ≤ w.heap.size) (hN : N < S128) : Calls Tryd.prog 9 #[.pointer (some ⟨q, 0, none⟩), .int .i64 f, .int .i64 r, sv N] V fun e w' => e = .returned (.tuple #[.int .i64 (kd (fate t f r N)), .int .i64 (ke (fate t f r N))]) ∧ Jv w base q ad t f r N true w' := by
  have h' : Below w.heap.size w V := h
  refine (take_any (hT.carry h') hv (Nat.le_trans hb h'.size) f r N hN).mono ?_
  rintro e w' ⟨rfl, ad', cap', h1, h2, _⟩
  exact ⟨rfl, ad', cap', h1, (Tn.of q _ h').trans h2⟩
theorem idx_i (g off n cap k : Nat) (h : k < n) (w : World) : (Instr.indexAt 23 (.slice (some ⟨g, off, none⟩) n cap) (.int .i64 (k : Int))).run Tryd.prog w = .ok (.pointer (some ⟨g, off + k, none⟩)) w := by
  have h1 : (k : Int) < (n : Int) := by omega
  go_simp
end Go.Proofs.YtgehmidalfajgaaDoor
