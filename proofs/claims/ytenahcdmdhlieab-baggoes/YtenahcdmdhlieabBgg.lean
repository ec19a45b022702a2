/- bag's Double, Move, round: what they answer. -/
import Derived.Test.YtenahcdmdhlieabBgf
namespace Go.Proofs.Ytenahcdmdhlieab
open Go.RowKit Go.Shelf

section
variable {w : World} {base p : Nat} {ad : Option Addr} {cap : Nat} {room last : Int} {ps : List Nat} {l : List Gr}
def sDb (room last : Int) (l : List Gr) (i : Int) : Int × Int × Int × List Gr := if 0 ≤ i ∧ i < (l.length : Int) then sAdd room last l ((l[i.toNat]?).getD g0).2.1 ((l[i.toNat]?).getD g0).2.2.1 ((l[i.toNat]?).getD g0).2.2.2 else (0, 91, last, l)
theorem sDb_ok {k : Nat} {x : Gr} (h : l[k]? = some x) : sDb room last l (k : Int) = sAdd room last l x.2.1 x.2.2.1 x.2.2.2 := by
  have h1 := (List.getElem?_eq_some_iff.1 h).1
  rw [sDb, if_pos (by omega), Int.toNat_natCast, h]
  rfl
theorem sDb_no {i : Int} (h : ¬ (0 ≤ i ∧ i < (l.length : Int))) : sDb room last l i = (0, 91, last, l) := if_neg h
/-- What holds while a datagram is doubled. -/
def JDb (w : World) (base p : Nat) (ad : Option Addr) (cap : Nat) (room last : Int) (ps : List Nat) (l : List Gr) (q : Nat) (x : Gr) (a : Option Addr) (c : Nat) (r3 : Int) (r4 : List Gr) (d13 : Bool) (W : World) : Prop :=
  GAt W q x a c ∧ match d13 with
  | false => Bg W base p ad cap room last ps l ∧ Below w.heap.size w W
  | true => ∃ ad' cap' ps', Bg W base p ad' cap' room r3 ps' r4 ∧ Tn p (ob ad) (ob ad') w W
theorem field_g (W : World) (B : Nat) : (Instr.fieldAt 35 (.pointer (some ⟨B, 0, none⟩)) 1).run Try.prog W = .ok (.pointer (some ⟨B, 1, none⟩)) W ∧ (Instr.fieldAt 35 (.pointer (some ⟨B, 0, none⟩)) 2).run Try.prog W = .ok (.pointer (some ⟨B, 2, none⟩)) W ∧ (Instr.fieldAt 35 (.pointer (some ⟨B, 0, none⟩)) 3).run Try.prog W = .ok (.pointer (some ⟨B, 3, none⟩)) W := by
  refine ⟨?_, ?_, ?_⟩ <;> go_simp
theorem load_b {V : World} {B j : Nat} {a : Option Addr} {n c : Nat} (h : V.cell? ⟨B, j, none⟩ = some (.slice a n c)) : (Instr.loadAt 28 (.pointer (some ⟨B, j, none⟩))).run Try.prog V = .ok (.slice a n c) V := by go_simp
theorem ext2 (x y : Value) (W : World) : (Instr.extract (.tuple #[x, y]) 0).run Try.prog W = .ok x W ∧ (Instr.extract (.tuple #[x, y]) 1).run Try.prog W = .ok y W := by
  refine ⟨?_, ?_⟩ <;> go_simp
def sMv (l : List Gr) (i to : Int) : Int × List Gr := if (0 ≤ i ∧ i < (l.length : Int)) ∧ (0 ≤ to ∧ to < (l.length : Int)) then (0, (l.take i.toNat ++ l.drop (i.toNat + 1)).take to.toNat ++ (l[i.toNat]?).getD g0 :: (l.take i.toNat ++ l.drop (i.toNat + 1)).drop to.toNat) else (91, l)
theorem sMv_ok {k j : Nat} {x : Gr} (h : l[k]? = some x) (hj : j < l.length) : sMv l (k : Int) (j : Int) = (0, (l.take k ++ l.drop (k + 1)).take j ++ x :: (l.take k ++ l.drop (k + 1)).drop j) := by
  have h1 := (List.getElem?_eq_some_iff.1 h).1
  rw [sMv, if_pos (by omega), Int.toNat_natCast, Int.toNat_natCast, h]
  rfl
theorem sMv_no {i to : Int} (h : ¬ ((0 ≤ i ∧ i < (l.length : Int)) ∧ (0 ≤ to ∧ to < (l.length : Int)))) : sMv l i to = (91, l) := if_neg h
theorem rfs_2no {n i j : Int} (h : ¬ ((0 ≤ i ∧ i < n) ∧ (0 ≤ j ∧ j < n))) : rfs n [i, j] = 91 := by
  by_cases hi : i < 0 ∨ n ≤ i
  · exact if_pos hi
  · rw [rfs_ok _ hi]
    exact if_pos (by omega)
theorem rfs_2ok {n i j : Int} (h : (0 ≤ i ∧ i < n) ∧ (0 ≤ j ∧ j < n)) : rfs n [i, j] = 0 := by
  rw [rfs_ok _ (by omega), rfs_ok _ (by omega)]
  rfl
theorem refuse_2 (h : Bg w base p ad cap room last ps l) (i j : Int) {V : World} (hV : w.alloc (.cells #[.int .i64 i, .int .i64 j] 3) = V) : Calls Try.prog 17 #[.pointer (some ⟨p, 0, none⟩), .slice (some ⟨w.heap.size, 0, none⟩) 2 2] V fun e w' => e = .returned (.int .i64 (rfs (l.length : Int) [i, j])) ∧ w' = V := by
  subst hV
  refine refuse_any (h.carry (al1' _ _)) w.heap.size [i, j] 2 (fun k z hk => ?_) (by simp)
  match k, hk with
  | 0, hk =>
    simp at hk
    subst hk
    exact cell_at (new_at rfl) 0
  | 1, hk =>
    simp at hk
    subst hk
    exact cell_at (new_at rfl) 1
end
end Go.Proofs.Ytenahcdmdhlieab
