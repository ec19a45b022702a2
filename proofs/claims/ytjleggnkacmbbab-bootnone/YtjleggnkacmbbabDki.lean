/- disk.Of: what it answers. -/
import Derived.Test.YtjleggnkacmbbabDkg
namespace Go.Proofs.Ytjleggnkacmbbab
open Go.RowKit Go.Shelf

theorem put_take (I Z : List Nat) (k : Nat) (hI : I.length = 256) (hk : k < 8) : putS (I.take (32 * k) ++ Z.drop (32 * k)) k (secs I k) = I.take (32 * (k + 1)) ++ Z.drop (32 * (k + 1)) := by
  have e1 : (I.take (32 * k)).length = 32 * k := by rw [List.length_take, hI]; omega
  have e2 := secs_len hI hk
  rw [putS, splice, List.take_append_of_le_length (by omega), List.take_of_length_le (by omega), e2, List.drop_append, List.drop_of_length_le (by omega), List.nil_append, e1, List.drop_drop, show 32 * k + (32 * k + 32 - 32 * k) = 32 * (k + 1) by omega, ← List.append_assoc, ← take_step]
  rfl
theorem secs_byt {l : List Nat} (h : Byt l) (k : Nat) : Byt (secs l k) := fun x hx => h x (List.mem_of_mem_drop (List.mem_of_mem_take hx))
end Go.Proofs.Ytjleggnkacmbbab
