/- What is read of bytes: mathematics alone, no program. -/
import Derived.Test.YtnomeinppdnhfaaGreatWra
namespace Go.Proofs.YtnomeinppdnhfaaGreat

/-- The number of so many bytes, from there on. -/
def nm (b : List Nat) (i m : Nat) : Nat := valB 0 ((b.drop i).take m)
/-- So many notices, from there on, each of a node above the one ahead; and where they end. -/
def rdK (n : Nat) (b : List Nat) : Nat → Int → Nat → Except Int (List (Int × Int × Int) × Nat)
  | 0, _, i => .ok ([], i)
  | c + 1, a, i =>
    if b.length < i + 5 then .error 76
    else if (vl n (b.getD i 0 : Nat) (nm b (i + 2) 3 : Nat) (b.getD (i + 1) 0 : Nat) && decide (a < ((b.getD i 0 : Nat) : Int))) = false then .error 75
    else match rdK n b c (b.getD i 0 : Nat) (i + 5) with
      | .error e => .error e
      | .ok (l, j) => .ok (((b.getD i 0 : Nat), (nm b (i + 2) 3 : Nat), (b.getD (i + 1) 0 : Nat)) :: l, j)
/-- The notices ahead of others. -/
def glu (l : List (Int × Int × Int)) : Except Int (List (Int × Int × Int) × Nat) → Except Int (List (Int × Int × Int) × Nat)
  | .error e => .error e
  | .ok (m, j) => .ok (l ++ m, j)
theorem glu_nil (r : Except Int (List (Int × Int × Int) × Nat)) : glu [] r = r := by
  cases r with
  | error e => rfl
  | ok x => rfl
theorem rdK_short {n : Nat} {b : List Nat} {c : Nat} {a : Int} {i : Nat} (h : b.length < i + 5) : rdK n b (c + 1) a i = .error 76 := by rw [rdK, if_pos h]
theorem rdK_bad {n : Nat} {b : List Nat} {c : Nat} {a : Int} {i : Nat} (h : ¬ b.length < i + 5) (h2 : (vl n (b.getD i 0 : Nat) (nm b (i + 2) 3 : Nat) (b.getD (i + 1) 0 : Nat) && decide (a < ((b.getD i 0 : Nat) : Int))) = false) : rdK n b (c + 1) a i = .error 75 := by rw [rdK, if_neg h, if_pos h2]
theorem rdK_next {n : Nat} {b : List Nat} {c : Nat} {a : Int} {i : Nat} (h : ¬ b.length < i + 5) (h2 : ¬ (vl n (b.getD i 0 : Nat) (nm b (i + 2) 3 : Nat) (b.getD (i + 1) 0 : Nat) && decide (a < ((b.getD i 0 : Nat) : Int))) = false) : rdK n b (c + 1) a i = glu [((b.getD i 0 : Nat), (nm b (i + 2) 3 : Nat), (b.getD (i + 1) 0 : Nat))] (rdK n b c (b.getD i 0 : Nat) (i + 5)) := by
  rw [rdK, if_neg h, if_neg h2]
  cases rdK n b c (b.getD i 0 : Nat) (i + 5) with
  | error e => rfl
  | ok x => rfl
theorem glu_glu (l m : List (Int × Int × Int)) (r : Except Int (List (Int × Int × Int) × Nat)) : glu l (glu m r) = glu (l ++ m) r := by
  cases r with
  | error e => rfl
  | ok x => simp [glu]
def rdW (n : Nat) (b : List Nat) (i : Nat) : Except Int (List (Int × Int × Int) × Nat) :=
  if b.length < i + 1 then .error 76 else if n < nm b i 1 then .error 75 else rdK n b (nm b i 1) (-1) (i + 1)
/-- A note's fields: kind, from, round, heard, news; and where they end. -/
abbrev FN := Nat × Nat × Nat × Nat × List (Int × Int × Int)
def rd4 (n : Nat) (b : List Nat) (kd fr rd N i : Nat) : Except Int (FN × Nat) :=
  match rdW n b i with
  | .error e => .error e
  | .ok (l, j) => .ok ((kd, fr, rd, N, l), j)
def rd3 (n : Nat) (b : List Nat) (kd fr rd i : Nat) : Except Int (FN × Nat) :=
  if kd = 2 then (if b.length < i + hsz n then .error 76 else if wthB (vlS ((b.drop i).take (hsz n))) n = false then .error 74 else rd4 n b kd fr rd (vlS ((b.drop i).take (hsz n))) (i + hsz n)) else rd4 n b kd fr rd 0 i
def rd2 (n : Nat) (b : List Nat) (kd fr : Nat) : Except Int (FN × Nat) :=
  if kd = 3 then rd3 n b kd fr 0 5 else if b.length < 10 then .error 76 else if ¬ (1 ≤ nm b 5 5 ∧ nm b 5 5 ≤ 1099511627775) then .error 73 else rd3 n b kd fr (nm b 5 5) 10
def rdF (n : Nat) (b : List Nat) : Except Int (FN × Nat) :=
  if b.length < 2 then .error 76 else if nm b 0 2 ≠ 25971 then .error 70
  else if b.length < 3 then .error 76 else if ¬ (1 ≤ nm b 2 1 ∧ nm b 2 1 ≤ 3) then .error 71
  else if b.length < 4 then .error 76 else if nm b 3 1 ≠ n then .error 102
  else if b.length < 5 then .error 76 else if n ≤ nm b 4 1 then .error 72
  else rd2 n b (nm b 2 1) (nm b 4 1)
/-- All of it. -/
def rdE (n : Nat) (b : List Nat) : Except Int FN :=
  match rdF n b with
  | .error e => .error e
  | .ok (f, j) => if b.length < j + 4 then .error 76 else if nm b j 4 ≠ sumV (b.take j) then .error 77 else if j + 4 < b.length then .error 2 else .ok f
/-- What Decode tells. -/
def dec (n : Int) (b : List Nat) : Except Int FN :=
  if ¬ (1 ≤ n ∧ n ≤ 100) then .error 1 else if 1024 < b.length then .error 2 else rdE n.toNat b
end Go.Proofs.YtnomeinppdnhfaaGreat
