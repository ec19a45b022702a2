/- What glyph.Back answers: at every text of at most 2^47 bytes. -/
import Derived.Test.YtakobmhnochlhaaAny
import Derived.Lib.BufferWrite
import Derived.Laws.IdiomStrings
import Derived.Laws.CopyOwn
import Derived.Laws.Tables
import Derived.Laws.OwnMore
namespace Go.Proofs.Ytakobmhnochlhaa
open Go.RowKit Go.Shelf
attribute [local go_sem] Oper.semAt_some

/-- The bytes of a character; of a list of characters, the last one first. -/
def chB (s : ByteArray) (p : Nat) : List UInt8 := (s.data.toList.drop p).take (wd s p)
def backL (s : ByteArray) : List Nat → List UInt8
  | [] => []
  | p :: r => backL s r ++ chB s p
theorem backL_snoc (s : ByteArray) (x : Nat) : ∀ l : List Nat, backL s (l ++ [x]) = chB s x ++ backL s l
  | [] => by simp [backL]
  | p :: r => by simp [backL, backL_snoc s x r]
def backB (s : ByteArray) : ByteArray := ⟨(backL s (starts s)).toArray⟩
theorem chB_len (s : ByteArray) (p : Nat) (h : p < s.size) : (chB s p).length = wd s p := by
  have := wd_le s p h
  have hl : s.data.toList.length = s.size := by simp
  unfold chB
  rw [List.length_take, List.length_drop]
  omega
/-- The cells of the row, once so many characters are in. -/
def rowC (s : ByteArray) (pre : List Nat) : List Value := List.replicate (s.size - (backL s pre).length) (.int .u8 0) ++ Lib.byteCells (backL s pre)
/-- Where the walk is. -/
def At (s : ByteArray) (pre : List Nat) : Prop := ∃ pos fuel, starts s = pre ++ startsFrom s fuel pos ∧ s.size ≤ pos + fuel ∧ (backL s pre).length = pos ∧ pos ≤ s.size
theorem at_step (s : ByteArray) (pre : List Nat) (x : Nat) (h : At s pre) (hp : pre ++ [x] <+: starts s) : (backL s pre).length = x ∧ x < s.size ∧ At s (pre ++ [x]) := by
  obtain ⟨pos, fuel, h1, h2, h3, h4⟩ := h
  rw [h1, List.prefix_append_right_inj] at hp
  have hlt : pos < s.size := by
    rcases Nat.lt_or_ge pos s.size with h | h
    · exact h
    · rw [startsFrom_end s fuel pos (by omega)] at hp
      cases List.prefix_nil.1 hp
  obtain ⟨f, rfl⟩ : ∃ f, fuel = f + 1 := ⟨fuel - 1, by omega⟩
  rw [startsFrom_step s f pos hlt] at hp h1
  obtain ⟨rfl, _⟩ := List.cons_prefix_cons.1 hp
  have := wd_pos s x
  refine ⟨h3, hlt, x + wd s x, f, by rw [h1]; simp, by omega, ?_, wd_le s x hlt⟩
  rw [backL_snoc, List.length_append, chB_len s x hlt, h3]
  omega
theorem at_end (s : ByteArray) (h : At s (starts s)) : (backL s (starts s)).length = s.size := by
  obtain ⟨pos, fuel, h1, h2, h3, h4⟩ := h
  have h5 : startsFrom s fuel pos = [] := by
    have := congrArg List.length h1
    rw [List.length_append] at this
    exact List.length_eq_zero_iff.1 (by omega)
  rcases Nat.lt_or_ge pos s.size with h | h
  · obtain ⟨f, rfl⟩ : ∃ f, fuel = f + 1 := ⟨fuel - 1, by omega⟩
    rw [startsFrom_step s f pos h] at h5
    cases h5
  · omega
theorem row_step (s : ByteArray) (pre : List Nat) (x : Nat) (hbl : (backL s pre).length = x) (hx : x < s.size) :
    ((rowC s pre).toArray.toList.take (s.size - (x + wd s x)) ++ Lib.byteCells (s.extract x (x + wd s x)).data.toList ++ (rowC s pre).toArray.toList.drop (s.size - (x + wd s x) + wd s x)).toArray = (rowC s (pre ++ [x])).toArray := by
  have hwd := wd_le s x hx
  have e1 : (s.extract x (x + wd s x)).data.toList = chB s x := by
    rw [ByteArray.data_extract, Array.toList_extract]
    unfold chB
    simp [List.extract]
  have e2 : s.size - (x + wd s x) + wd s x = s.size - x := by omega
  have e3 : (rowC s pre) = List.replicate (s.size - x) (.int .u8 0) ++ Lib.byteCells (backL s pre) := by unfold rowC; rw [hbl]
  have e4 : rowC s (pre ++ [x]) = List.replicate (s.size - (x + wd s x)) (.int .u8 0) ++ (Lib.byteCells (chB s x) ++ Lib.byteCells (backL s pre)) := by
    unfold rowC
    rw [backL_snoc, List.length_append, chB_len s x hx, hbl, Lib.byteCells_append, Nat.add_comm (wd s x) x]
  rw [e1, e2, e4]
  show (List.take _ (rowC s pre) ++ _ ++ List.drop _ (rowC s pre)).toArray = _
  rw [e3, List.take_append_of_le_length (by simp; omega), List.take_replicate, List.drop_append_of_le_length (by simp), List.drop_replicate, Nat.min_eq_left (by omega), Nat.sub_self, List.replicate_zero, List.nil_append, List.append_assoc]
theorem infoByte8 : (Try.prog.info? 5).map (fun i => (i.zero, i.size, i.bytes)) = some (some (.int .u8 0), 1, 1) := by kernel_rfl

end Go.Proofs.Ytakobmhnochlhaa
