/- A []byte that is handed in: its data's form. -/
import Derived.Test.YtligjdmbjkppkabOpb
namespace Go.Proofs.Ytligjdmbjkppkab
open Go.ChangeShapes Go.WideShapes Go.ChangeAt Go.RowKit

set_option maxRecDepth 100000 in
theorem bytes_d {H : Type} {enc : TypeId × Value → H} {W : World} {ad : Option Addr} {n cap : Nat} {d : DataW H} {p : List MemPlace} (h : DataW.Trod enc Try.prog W 0 (fun _ => true) true 30 (.slice ad n cap) d p) : n = 0 ∨ ∃ E S, d = .slice E S ∧ E.length = n := by
  obtain ⟨fuel, hf⟩ := h
  rcases open_ints Try.underlying30 Try.underlying5 (by kernel_rfl) hf with ⟨hcs, _⟩ | ⟨x, l, c, zs, hcs, _, hl, hm, hz, hx, _, _⟩
  · simp [Value.cells] at hcs
    exact .inl hcs.2.1
  · simp [Value.cells] at hcs
    obtain ⟨rfl, rfl, rfl⟩ := hcs
    refine .inr ⟨_, _, (Prod.mk.inj hx).1, ?_⟩
    have hz' : zs.length = cap := by simpa using hz
    simp [lits]
    omega
end Go.Proofs.Ytligjdmbjkppkab
