/- Sums of bytes, numbers and sets as bytes, the form of a note, and what is read of bytes: mathematics alone, no program. -/
import Derived.Test.YtnomeinppdnhfaaGreatWtn
import Derived.Test.YtnomeinppdnhfaaGreatFll
namespace Go.Proofs.YtnomeinppdnhfaaGreat
open Go.RowKit

/-- All of them are bytes. -/
def Byt (l : List Nat) : Prop := ∀ x ∈ l, x < 256
theorem Byt.take {l : List Nat} (h : Byt l) (k : Nat) : Byt (l.take k) := fun x hx => h x (List.mem_of_mem_take hx)
theorem Byt.drop {l : List Nat} (h : Byt l) (k : Nat) : Byt (l.drop k) := fun x hx => h x (List.mem_of_mem_drop hx)
theorem Byt.append {a b : List Nat} (h : Byt a) (k : Byt b) : Byt (a ++ b) := by
  intro x hx
  rcases List.mem_append.1 hx with q | q
  · exact h x q
  · exact k x q
theorem byt_nil : Byt [] := by intro x hx; cases hx
theorem byt_cons {x : Nat} {l : List Nat} (h : x < 256) (k : Byt l) : Byt (x :: l) := by
  intro y hy
  rcases List.mem_cons.1 hy with rfl | q
  · exact h
  · exact k y q
theorem Byt.head {x : Nat} {l : List Nat} (h : Byt (x :: l)) : x < 256 := h x (List.mem_cons_self ..)
theorem Byt.tail {x : Nat} {l : List Nat} (h : Byt (x :: l)) : Byt l := fun y hy => h y (List.mem_cons_of_mem _ hy)

/-- The two halves of the sum, from there on. -/
def sumF : Nat → Nat → List Nat → Nat × Nat
  | p, q, [] => (p, q)
  | p, q, x :: l => sumF ((p + x) % 65521) ((q + (p + x) % 65521) % 65521) l
def sumV (l : List Nat) : Nat := (sumF 1 0 l).2 * 65536 + (sumF 1 0 l).1
theorem sumF_lt : ∀ (l : List Nat) (p q : Nat), p < 65521 → q < 65521 → (sumF p q l).1 < 65521 ∧ (sumF p q l).2 < 65521
  | [], p, q, h, k => ⟨h, k⟩
  | x :: l, p, q, h, k => sumF_lt l _ _ (Nat.mod_lt _ (by decide)) (Nat.mod_lt _ (by decide))
theorem sumV_lt (l : List Nat) : sumV l < 4294967296 := by
  have h := sumF_lt l 1 0 (by decide) (by decide)
  unfold sumV
  omega
theorem sumF_app : ∀ (a b : List Nat) (p q : Nat), sumF p q (a ++ b) = sumF (sumF p q a).1 (sumF p q a).2 b
  | [], _, _, _ => rfl
  | _ :: a, b, _, _ => sumF_app a b _ _
theorem sumF_drop (l : List Nat) (k p q x : Nat) (h : l[k]? = some x) : sumF p q (l.drop k) = sumF ((p + x) % 65521) ((q + (p + x) % 65521) % 65521) (l.drop (k + 1)) := by
  obtain ⟨hk, rfl⟩ := List.getElem?_eq_some_iff.1 h
  rw [List.drop_eq_getElem_cons hk]
  rfl
/-- The first half is the sum of all, round by 65521. -/
theorem sumF_fst : ∀ (l : List Nat) (p q : Nat), (sumF p q l).1 % 65521 = (p + l.sum) % 65521
  | [], p, q => by simp [sumF]
  | x :: l, p, q => by
    rw [sumF, sumF_fst l, List.sum_cons]
    omega

/-- A number in so many bytes, the highest first. -/
def numB (v : Nat) : Nat → List Nat
  | 0 => []
  | m + 1 => (v / 2 ^ (8 * m) % 256) :: numB v m
theorem numB_len (v : Nat) : ∀ m, (numB v m).length = m
  | 0 => rfl
  | m + 1 => by rw [numB, List.length_cons, numB_len v m]
theorem numB_byt (v : Nat) : ∀ m, Byt (numB v m)
  | 0 => byt_nil
  | m + 1 => byt_cons (Nat.mod_lt _ (by decide)) (numB_byt v m)
/-- What number bytes are, behind another one. -/
def valB : Nat → List Nat → Nat
  | v, [] => v
  | v, x :: l => valB (v * 256 + x) l
theorem valB_drop (l : List Nat) (k v x : Nat) (h : l[k]? = some x) : valB v (l.drop k) = valB (v * 256 + x) (l.drop (k + 1)) := by
  obtain ⟨hk, rfl⟩ := List.getElem?_eq_some_iff.1 h
  rw [List.drop_eq_getElem_cons hk]
  rfl
theorem valB_num (u : Nat) : ∀ (m v : Nat), valB v (numB u m) = v * 2 ^ (8 * m) + u % 2 ^ (8 * m)
  | 0, v => by rw [numB, valB, Nat.mul_zero, Nat.pow_zero, Nat.mod_one]; omega
  | m + 1, v => by
    rw [numB, valB, valB_num u m]
    have h1 : 2 ^ (8 * (m + 1)) = 256 * 2 ^ (8 * m) := by rw [Nat.mul_add, Nat.pow_add, Nat.mul_comm]
    have h2 : u % (2 ^ (8 * m) * 256) = u % 2 ^ (8 * m) + 2 ^ (8 * m) * (u / 2 ^ (8 * m) % 256) := Nat.mod_mul
    rw [h1, Nat.mul_comm 256, h2, Nat.add_mul, Nat.mul_assoc v 256, Nat.mul_comm 256 (2 ^ (8 * m)), Nat.mul_comm (u / 2 ^ (8 * m) % 256)]
    omega
theorem val_num {u m : Nat} (h : u < 2 ^ (8 * m)) : valB 0 (numB u m) = u := by rw [valB_num, Nat.zero_mul, Nat.zero_add, Nat.mod_eq_of_lt h]
theorem valB_acc : ∀ (l : List Nat) (v : Nat), valB v l = v * 2 ^ (8 * l.length) + valB 0 l
  | [], v => by simp [valB]
  | x :: l, v => by
    have h1 : 2 ^ (8 * (l.length + 1)) = 256 * 2 ^ (8 * l.length) := by rw [Nat.mul_add, Nat.pow_add, Nat.mul_comm]
    rw [valB, valB, valB_acc l (v * 256 + x), valB_acc l (0 * 256 + x), List.length_cons, h1, Nat.add_mul, Nat.zero_mul, Nat.zero_add, Nat.mul_assoc]
    omega
theorem valB_lt : ∀ (l : List Nat), Byt l → valB 0 l < 2 ^ (8 * l.length)
  | [], _ => by simp [valB]
  | x :: l, h => by
    have ih := valB_lt l h.tail
    have hx := h.head
    have h1 : 2 ^ (8 * (l.length + 1)) = 256 * 2 ^ (8 * l.length) := by rw [Nat.mul_add, Nat.pow_add, Nat.mul_comm]
    rw [valB, valB_acc, List.length_cons, h1, Nat.zero_mul, Nat.zero_add]
    have := Nat.mul_le_mul_right (2 ^ (8 * l.length)) (show x ≤ 255 by omega)
    omega
theorem num_mod (v : Nat) : ∀ m k, m ≤ k → numB (v % 2 ^ (8 * k)) m = numB v m
  | 0, k, _ => rfl
  | m + 1, k, h => by
    rw [numB, numB, num_mod v m k (by omega)]
    congr 1
    have e : 8 * k = 8 * m + (8 + 8 * (k - m - 1)) := by omega
    rw [e, Nat.pow_add, Nat.mod_mul_right_div_self, Nat.pow_add]
    exact Nat.mod_mul_right_mod _ _ _
theorem num_val : ∀ (l : List Nat), Byt l → numB (valB 0 l) l.length = l
  | [], _ => rfl
  | x :: l, h => by
    have hx := h.head
    have hl := valB_lt l h.tail
    have ih := num_val l h.tail
    have e1 : (x * 2 ^ (8 * l.length) + valB 0 l) / 2 ^ (8 * l.length) = x := by
      rw [Nat.add_comm, Nat.mul_comm, Nat.add_mul_div_left _ _ (Nat.two_pow_pos _), Nat.div_eq_of_lt hl, Nat.zero_add]
    have e2 : (x * 2 ^ (8 * l.length) + valB 0 l) % 2 ^ (8 * l.length) = valB 0 l := by
      rw [Nat.add_comm, Nat.mul_comm, Nat.add_mul_mod_self_left, Nat.mod_eq_of_lt hl]
    rw [valB, valB_acc, Nat.zero_mul, Nat.zero_add, List.length_cons, numB, e1, Nat.mod_eq_of_lt hx, ← num_mod _ l.length l.length (Nat.le_refl _), e2, ih]

/-- Bytes of a set, from one on, so many. -/
def stB (N : Nat) : Nat → Nat → List Nat
  | _, 0 => []
  | i, m + 1 => (N / 2 ^ (8 * i) % 256) :: stB N (i + 1) m
theorem stB_len (N : Nat) : ∀ (m i : Nat), (stB N i m).length = m
  | 0, i => rfl
  | m + 1, i => by rw [stB, List.length_cons, stB_len N m]
theorem stB_byt (N : Nat) : ∀ (m i : Nat), Byt (stB N i m)
  | 0, i => byt_nil
  | m + 1, i => byt_cons (Nat.mod_lt _ (by decide)) (stB_byt N m _)
/-- The number that such bytes are. -/
def vlS : List Nat → Nat
  | [] => 0
  | x :: l => x + 256 * vlS l
theorem vlS_lt : ∀ (l : List Nat), Byt l → vlS l < 2 ^ (8 * l.length)
  | [], _ => by simp [vlS]
  | x :: l, h => by
    have ih := vlS_lt l h.tail
    have hx := h.head
    have h1 : 2 ^ (8 * (l.length + 1)) = 256 * 2 ^ (8 * l.length) := by rw [Nat.mul_add, Nat.pow_add, Nat.mul_comm]
    rw [vlS, List.length_cons, h1]
    omega
theorem vlS_st (N : Nat) : ∀ (m i : Nat), vlS (stB N i m) = N / 2 ^ (8 * i) % 2 ^ (8 * m)
  | 0, i => by rw [stB, vlS, Nat.mul_zero, Nat.pow_zero, Nat.mod_one]
  | m + 1, i => by
    rw [stB, vlS, vlS_st N m (i + 1)]
    have h1 : 2 ^ (8 * (m + 1)) = 256 * 2 ^ (8 * m) := by rw [Nat.mul_add, Nat.pow_add, Nat.mul_comm]
    have h2 : 2 ^ (8 * (i + 1)) = 2 ^ (8 * i) * 256 := by rw [Nat.mul_add, Nat.pow_add]
    rw [h1, h2, ← Nat.div_div_eq_div_mul, Nat.mod_mul]
theorem st_vlS : ∀ (l : List Nat) (i : Nat) (M : Nat), Byt l → M < 2 ^ (8 * i) → stB (M + 2 ^ (8 * i) * vlS l) i l.length = l
  | [], i, M, _, _ => rfl
  | x :: l, i, M, h, hM => by
    have hx := h.head
    have h2 : 2 ^ (8 * (i + 1)) = 2 ^ (8 * i) * 256 := by rw [Nat.mul_add, Nat.pow_add]
    have e1 : (M + 2 ^ (8 * i) * vlS (x :: l)) / 2 ^ (8 * i) % 256 = x := by
      rw [Nat.add_mul_div_left _ _ (Nat.two_pow_pos _), Nat.div_eq_of_lt hM, Nat.zero_add, vlS]
      omega
    have e2 : M + 2 ^ (8 * i) * vlS (x :: l) = (M + 2 ^ (8 * i) * x) + 2 ^ (8 * (i + 1)) * vlS l := by
      rw [vlS, h2, Nat.mul_add, ← Nat.mul_assoc]
      omega
    have e3 : M + 2 ^ (8 * i) * x < 2 ^ (8 * (i + 1)) := by
      rw [h2]
      have := Nat.mul_le_mul_left (2 ^ (8 * i)) (show x ≤ 255 by omega)
      omega
    rw [List.length_cons, stB, e1, e2, st_vlS l (i + 1) _ h.tail e3]
theorem st_vl (l : List Nat) (h : Byt l) : stB (vlS l) 0 l.length = l := by
  have := st_vlS l 0 0 h (by simp)
  simpa using this
theorem vlS_snoc : ∀ (l : List Nat) (x : Nat), vlS (l ++ [x]) = vlS l + 2 ^ (8 * l.length) * x
  | [], x => by simp [vlS]
  | y :: l, x => by
    have h1 : 2 ^ (8 * (l.length + 1)) = 256 * 2 ^ (8 * l.length) := by rw [Nat.mul_add, Nat.pow_add, Nat.mul_comm]
    rw [List.cons_append, vlS, vlS, vlS_snoc l x, List.length_cons, h1, Nat.mul_assoc]
    omega

/-- How many bytes a set of n nodes has. -/
def hsz (n : Nat) : Nat := (n + 7) / 8
/-- Notices as bytes. -/
def newsB : List (Int × Int × Int) → List Nat
  | [] => []
  | x :: l => x.1.toNat % 256 :: x.2.2.toNat % 256 :: (numB x.2.1.toNat 3 ++ newsB l)
theorem newsB_len : ∀ l, (newsB l).length = 5 * l.length
  | [] => rfl
  | x :: l => by
    rw [newsB, List.length_cons, List.length_cons, List.length_append, numB_len, newsB_len l, List.length_cons]
    omega
theorem newsB_byt : ∀ l, Byt (newsB l)
  | [] => byt_nil
  | x :: l => byt_cons (Nat.mod_lt _ (by decide)) (byt_cons (Nat.mod_lt _ (by decide)) ((numB_byt _ _).append (newsB_byt l)))
theorem newsB_app : ∀ a b, newsB (a ++ b) = newsB a ++ newsB b
  | [], b => rfl
  | x :: a, b => by simp [newsB, newsB_app a b]
/-- The round's bytes, the set's bytes. -/
def rndB (kd rd : Nat) : List Nat := if kd = 3 then [] else numB rd 5
def setB (kd n N : Nat) : List Nat := if kd = 2 then stB N 0 (hsz n) else []
/-- A note's form, but for its sum. -/
def frm (kd n fr rd N : Nat) (l : List (Int × Int × Int)) : List Nat :=
  [101, 115, kd % 256, n % 256, fr % 256] ++ (rndB kd rd ++ (setB kd n N ++ (l.length % 256 :: newsB l)))
def byt7 (kd n fr rd N : Nat) (l : List (Int × Int × Int)) : List Nat := frm kd n fr rd N l ++ numB (sumV (frm kd n fr rd N l)) 4
theorem rndB_len (kd rd : Nat) : (rndB kd rd).length ≤ 5 := by unfold rndB; split <;> simp [numB_len]
theorem rndB_byt (kd rd : Nat) : Byt (rndB kd rd) := by
  unfold rndB
  split
  · exact byt_nil
  · exact numB_byt _ _
theorem setB_len (kd n N : Nat) : (setB kd n N).length ≤ hsz n := by unfold setB; split <;> simp [stB_len]
theorem setB_byt (kd n N : Nat) : Byt (setB kd n N) := by
  unfold setB
  split
  · exact stB_byt _ _ _
  · exact byt_nil
theorem frm_byt (kd n fr rd N : Nat) (l : List (Int × Int × Int)) : Byt (frm kd n fr rd N l) :=
  Byt.append (byt_cons (by decide) (byt_cons (by decide) (byt_cons (Nat.mod_lt _ (by decide)) (byt_cons (Nat.mod_lt _ (by decide)) (byt_cons (Nat.mod_lt _ (by decide)) byt_nil))))) ((rndB_byt _ _).append ((setB_byt _ _ _).append (byt_cons (Nat.mod_lt _ (by decide)) (newsB_byt _))))
theorem byt7_byt (kd n fr rd N : Nat) (l : List (Int × Int × Int)) : Byt (byt7 kd n fr rd N l) := Byt.append (frm_byt _ _ _ _ _ _) (numB_byt _ _)
theorem frm_len (kd n fr rd N : Nat) (l : List (Int × Int × Int)) : (frm kd n fr rd N l).length ≤ 11 + hsz n + 5 * l.length := by
  have h1 := rndB_len kd rd
  have h2 := setB_len kd n N
  unfold frm
  simp only [List.length_append, List.length_cons, List.length_nil, newsB_len]
  omega
theorem byt7_len (kd n fr rd N : Nat) (l : List (Int × Int × Int)) : (byt7 kd n fr rd N l).length = (frm kd n fr rd N l).length + 4 := by
  rw [byt7, List.length_append, numB_len]

/-- Why n nodes can't have such a note. -/
def flt (kd : Nat) (n fr rd : Int) (N : Nat) (l : List (Int × Int × Int)) : Int :=
  if ¬ (1 ≤ n ∧ n ≤ 100) then 1
  else if fr < 0 ∨ n ≤ fr then 72
  else if kd ≠ 3 ∧ ¬ (1 ≤ rd ∧ rd ≤ 1099511627775) then 73
  else if wthB N n = false then 74
  else if ris n (-1) l = false then 75
  else 0
theorem flt_0 {kd : Nat} {n fr rd : Int} {N : Nat} {l : List (Int × Int × Int)} (h : flt kd n fr rd N l = 0) : (1 ≤ n ∧ n ≤ 100) ∧ (0 ≤ fr ∧ fr < n) ∧ (kd = 3 ∨ (1 ≤ rd ∧ rd ≤ 1099511627775)) ∧ wthB N n = true ∧ ris n (-1) l = true := by
  unfold flt at h
  split at h
  · cases h
  rename_i h1
  split at h
  · cases h
  rename_i h2
  split at h
  · cases h
  rename_i h3
  split at h
  · cases h
  rename_i h4
  split at h
  · cases h
  rename_i h5
  refine ⟨Classical.not_not.1 h1, by omega, ?_, by simpa using h4, by simpa using h5⟩
  by_cases hk : kd = 3
  · exact .inl hk
  · exact .inr (Classical.byContradiction fun q => h3 ⟨hk, q⟩)

/-- The notices of so many, each of them above the one ahead; and what is left. -/
def rdN (n : Nat) : Nat → Int → List Nat → Except Int (List (Int × Int × Int) × List Nat)
  | 0, _, b => .ok ([], b)
  | c + 1, a, b =>
    if b.length < 5 then .error 76
    else if (vl n (b.getD 0 0 : Nat) (valB 0 ((b.drop 2).take 3) : Nat) (b.getD 1 0 : Nat) && decide (a < ((b.getD 0 0 : Nat) : Int))) = false then .error 75
    else match rdN n c (b.getD 0 0 : Nat) (b.drop 5) with
      | .error e => .error e
      | .ok (l, r) => .ok (((b.getD 0 0 : Nat), (valB 0 ((b.drop 2).take 3) : Nat), (b.getD 1 0 : Nat)) :: l, r)
end Go.Proofs.YtnomeinppdnhfaaGreat
