/- A set that is told by signs: plain mathematics. -/
import Derived.Test.YtginkcjhfdoodabDoorTrm
import Derived.Test.YtginkcjhfdoodabDoorIdm
import Derived.Test.YtginkcjhfdoodabDoorWtn
namespace Go.Proofs.YtginkcjhfdoodabDoor

/-- The signs of these ids. -/
def sgs (l : List Int) (ids : List Nat) : List Int := ids.map (fun i => l.getD i 0)
/-- What Print answers. -/
def prR (l : List Int) (N : Nat) : ByteArray × Int := if wthB N l.length then (if N = 0 then (dash, 0) else (txt (sgs l (idsTo N 128)), 0)) else (⟨#[]⟩, 30)
theorem wth_lt {N n : Nat} (h : wthB N n = true) : N < 2 ^ topW n := by
  unfold wthB at h
  have := of_decide_eq_true h
  rw [this]
  exact Nat.mod_lt _ (Nat.two_pow_pos _)
theorem wth_lt100 {N n : Nat} (h : wthB N n = true) : N < S100 := by
  have e : S100 = 2 ^ 100 := by decide
  rw [e]
  exact Nat.lt_of_lt_of_le (wth_lt h) (Nat.pow_le_pow_right (by decide) (topW_le _))
theorem wth_id {N n i : Nat} (h : wthB N n = true) (hi : N.testBit i = true) : i < n ∧ i < 100 := by
  have h1 := wth_lt h
  have h2 : i < topW n := by
    refine Decidable.byContradiction (fun hc => ?_)
    rw [Nat.testBit_lt_two_pow (Nat.lt_of_lt_of_le h1 (Nat.pow_le_pow_right (by decide) (by omega)))] at hi
    cases hi
  rw [topW_lt] at h2
  omega
theorem txt_again (l : List Int) : (⟨(txt l).data.toList.toArray⟩ : ByteArray) = txt l := by
  apply ByteArray.ext
  simp
end Go.Proofs.YtginkcjhfdoodabDoor
