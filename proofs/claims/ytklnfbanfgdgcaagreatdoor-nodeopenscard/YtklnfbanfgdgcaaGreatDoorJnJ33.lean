/- wire.reader.fields at every bytes; reader.end; fields.note: what they answer. -/
import Derived.Test.YtklnfbanfgdgcaaGreatDoorJnJ32
import Derived.Test.YtklnfbanfgdgcaaGreatDoorJnJ30
import Derived.Test.YtklnfbanfgdgcaaGreatDoorJnJ19
import Derived.Defers
import Derived.Recover
set_option maxHeartbeats 40000000
set_option maxRecDepth 100000
set_option linter.unusedVariables false
namespace Go.Proofs.YtklnfbanfgdgcaaGreatDoor
open Go.RowKit Go.Shelf

end Go.Proofs.YtklnfbanfgdgcaaGreatDoor
namespace Go.Proofs.YtklnfbanfgdgcaaGreatDoor
open Go.RowKit Go.Shelf Go.Lib
attribute [local go_sem] Oper.semAt_some

/-- A whole row is stored into a block of its own type. -/
theorem store_whole {W : World} {b : Nat} {C : Array Value} {T : TypeId} (h : W.heap[b]? = some (.cells C T (0, 0))) (vs : List Value) (hi : (Tryz.prog.info? T).map (·.size) = some vs.length) (hC : C.size = vs.length) (h1 : ∀ v ∈ vs, v.oneCell' = true) : ∃ W', (Instr.storeAt T (.pointer (some ⟨b, 0, none⟩)) (.agg vs.toArray)).run Tryz.prog W = .ok () W' ∧ W'.heap[b]? = some (.cells vs.toArray T (0, 0)) ∧ TpZ b W W' := by
  have hc : C = C.toList.toArray := by simp
  rw [hc] at h
  have e := run_store_inZ (P := Tryz.prog) W b 0 T T C.toList vs h hi (by simp; omega) h1
  have e2 : splice C.toList 0 vs = vs := by
    unfold splice
    simp only [List.take_zero, List.nil_append, Nat.zero_add]
    rw [List.drop_of_length_le (by simp; omega), List.append_nil]
  rw [e2] at e
  exact ⟨_, e, setRow_heap _ _ _ _ _ _ h, TpZ.row _ _ _⟩
section
variable {w W : World} {base x : Nat} {A : NA} {s : Ns}
end
end Go.Proofs.YtklnfbanfgdgcaaGreatDoor
namespace Go.Proofs.YtklnfbanfgdgcaaGreatDoor

end Go.Proofs.YtklnfbanfgdgcaaGreatDoor
namespace Go.Proofs.YtklnfbanfgdgcaaGreatDoor

end Go.Proofs.YtklnfbanfgdgcaaGreatDoor
namespace Go.Proofs.YtklnfbanfgdgcaaGreatDoor

end Go.Proofs.YtklnfbanfgdgcaaGreatDoor
namespace Go.Proofs.YtklnfbanfgdgcaaGreatDoor

/-! cut off -/
/-! one byte turned -/
end Go.Proofs.YtklnfbanfgdgcaaGreatDoor
namespace Go.Proofs.YtklnfbanfgdgcaaGreatDoor
open Go.RowKit Go.Shelf

theorem hmf : ∀ (fn : Fn) (first cap : Array Value) (w : World), (Instr.makeFunc fn first cap).run Tryz.prog w = .ok (.func fn first cap) w := fun _ _ _ _ => rfl
end Go.Proofs.YtklnfbanfgdgcaaGreatDoor
