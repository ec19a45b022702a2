/- Numbers as bytes, a slot's bytes, and what they say: mathematics alone, no program. -/
import Derived.Test.YtjleggnkacmbbaaDki
namespace Go.Proofs.Ytjleggnkacmbbaa
open Go.RowKit Go.Shelf

theorem Byt.take {l : List Nat} (h : Byt l) (k : Nat) : Byt (l.take k) := fun x hx => h x (List.mem_of_mem_take hx)
theorem Byt.drop {l : List Nat} (h : Byt l) (k : Nat) : Byt (l.drop k) := fun x hx => h x (List.mem_of_mem_drop hx)
theorem Byt.append {a b : List Nat} (h : Byt a) (k : Byt b) : Byt (a ++ b) := by
  intro x hx
  rcases List.mem_append.1 hx with q | q
  · exact h x q
  · exact k x q
theorem byt_cons {x : Nat} {l : List Nat} (h : x < 256) (k : Byt l) : Byt (x :: l) := by
  intro y hy
  rcases List.mem_cons.1 hy with rfl | q
  · exact h
  · exact k y q
theorem Byt.head {x : Nat} {l : List Nat} (h : Byt (x :: l)) : x < 256 := h x (List.mem_cons_self ..)
theorem Byt.tail {x : Nat} {l : List Nat} (h : Byt (x :: l)) : Byt l := fun y hy => h y (List.mem_cons_of_mem _ hy)
/-- A number in so many bytes, the highest first. -/
def numB (v : Nat) : Nat → List Nat
  | 0 => []
  | m + 1 => (v / 2 ^ (8 * m) % 256) :: numB v m
theorem numB_len (v : Nat) : ∀ m, (numB v m).length = m
  | 0 => rfl
  | m + 1 => by rw [numB, List.length_cons, numB_len v m]
theorem numB_byt (v : Nat) : ∀ m, Byt (numB v m)
  | 0 => byt_nil
  | m + 1 => byt_cons (Nat.mod_lt _ (by decide)) (numB_byt v m)
/-- What number bytes are, behind another one. -/
def valB : Nat → List Nat → Nat
  | v, [] => v
  | v, x :: l => valB (v * 256 + x) l
theorem valB_drop (l : List Nat) (k v x : Nat) (h : l[k]? = some x) : valB v (l.drop k) = valB (v * 256 + x) (l.drop (k + 1)) := by
  obtain ⟨hk, rfl⟩ := List.getElem?_eq_some_iff.1 h
  rw [List.drop_eq_getElem_cons hk]
  rfl
theorem valB_num (u : Nat) : ∀ (m v : Nat), valB v (numB u m) = v * 2 ^ (8 * m) + u % 2 ^ (8 * m)
  | 0, v => by rw [numB, valB, Nat.mul_zero, Nat.pow_zero, Nat.mod_one]; omega
  | m + 1, v => by
    rw [numB, valB, valB_num u m]
    have h1 : 2 ^ (8 * (m + 1)) = 256 * 2 ^ (8 * m) := by rw [Nat.mul_add, Nat.pow_add, Nat.mul_comm]
    have h2 : u % (2 ^ (8 * m) * 256) = u % 2 ^ (8 * m) + 2 ^ (8 * m) * (u / 2 ^ (8 * m) % 256) := Nat.mod_mul
    rw [h1, Nat.mul_comm 256, h2, Nat.add_mul, Nat.mul_assoc v 256, Nat.mul_comm 256 (2 ^ (8 * m)), Nat.mul_comm (u / 2 ^ (8 * m) % 256)]
    omega
theorem val_num {u m : Nat} (h : u < 2 ^ (8 * m)) : valB 0 (numB u m) = u := by rw [valB_num, Nat.zero_mul, Nat.zero_add, Nat.mod_eq_of_lt h]
theorem valB_acc : ∀ (l : List Nat) (v : Nat), valB v l = v * 2 ^ (8 * l.length) + valB 0 l
  | [], v => by simp [valB]
  | x :: l, v => by
    have h1 : 2 ^ (8 * (l.length + 1)) = 256 * 2 ^ (8 * l.length) := by rw [Nat.mul_add, Nat.pow_add, Nat.mul_comm]
    rw [valB, valB, valB_acc l (v * 256 + x), valB_acc l (0 * 256 + x), List.length_cons, h1, Nat.add_mul, Nat.zero_mul, Nat.zero_add, Nat.mul_assoc]
    omega
theorem valB_lt : ∀ (l : List Nat), Byt l → valB 0 l < 2 ^ (8 * l.length)
  | [], _ => by simp [valB]
  | x :: l, h => by
    have ih := valB_lt l h.tail
    have hx := h.head
    have h1 : 2 ^ (8 * (l.length + 1)) = 256 * 2 ^ (8 * l.length) := by rw [Nat.mul_add, Nat.pow_add, Nat.mul_comm]
    rw [valB, valB_acc, List.length_cons, h1, Nat.zero_mul, Nat.zero_add]
    have := Nat.mul_le_mul_right (2 ^ (8 * l.length)) (show x ≤ 255 by omega)
    omega
theorem num_mod (v : Nat) : ∀ m k, m ≤ k → numB (v % 2 ^ (8 * k)) m = numB v m
  | 0, k, _ => rfl
  | m + 1, k, h => by
    rw [numB, numB, num_mod v m k (by omega)]
    congr 1
    have e : 8 * k = 8 * m + (8 + 8 * (k - m - 1)) := by omega
    rw [e, Nat.pow_add, Nat.mod_mul_right_div_self, Nat.pow_add]
    exact Nat.mod_mul_right_mod _ _ _
theorem num_val : ∀ (l : List Nat), Byt l → numB (valB 0 l) l.length = l
  | [], _ => rfl
  | x :: l, h => by
    have hx := h.head
    have hl := valB_lt l h.tail
    have ih := num_val l h.tail
    have e1 : (x * 2 ^ (8 * l.length) + valB 0 l) / 2 ^ (8 * l.length) = x := by
      rw [Nat.add_comm, Nat.mul_comm, Nat.add_mul_div_left _ _ (Nat.two_pow_pos _), Nat.div_eq_of_lt hl, Nat.zero_add]
    have e2 : (x * 2 ^ (8 * l.length) + valB 0 l) % 2 ^ (8 * l.length) = valB 0 l := by
      rw [Nat.add_comm, Nat.mul_comm, Nat.add_mul_mod_self_left, Nat.mod_eq_of_lt hl]
    rw [valB, valB_acc, Nat.zero_mul, Nat.zero_add, List.length_cons, numB, e1, Nat.mod_eq_of_lt hx, ← num_mod _ l.length l.length (Nat.le_refl _), e2, ih]

/-- A record. -/
structure Rec where
  li : Int
  ro : Int
  ta : Int
deriving DecidableEq
def May (r : Rec) : Prop := (1 ≤ r.li ∧ r.li ≤ 1073741824) ∧ (0 ≤ r.ro ∧ r.ro ≤ 1099511627775) ∧ 0 ≤ r.ta ∧ r.ta ≤ 1048576
def Fit (r : Rec) (s : Int) : Prop := May r ∧ 1 ≤ s ∧ s ≤ 1099511627776
instance (r : Rec) : Decidable (May r) := by unfold May; infer_instance
instance (r : Rec) (s : Int) : Decidable (Fit r s) := by unfold Fit; infer_instance
/-- A slot's bytes. -/
def slN (a b c s : Nat) : List Nat := numB 1700885041 4 ++ (numB s 8 ++ (numB a 4 ++ (numB b 5 ++ (List.replicate 11 0 ++ (numB 1700885042 4 ++ (numB s 8 ++ (numB c 3 ++ List.replicate 17 0)))))))
def slB (r : Rec) (s : Int) : List Nat := slN r.li.toNat r.ro.toNat r.ta.toNat s.toNat
theorem slN_len (a b c s : Nat) : (slN a b c s).length = 64 := by simp [slN, numB_len]
theorem slN_byt (a b c s : Nat) : Byt (slN a b c s) := by
  unfold slN
  exact (numB_byt _ _).append ((numB_byt _ _).append ((numB_byt _ _).append ((numB_byt _ _).append ((byt_zero 11).append ((numB_byt _ _).append ((numB_byt _ _).append ((numB_byt _ _).append (byt_zero 17))))))))
theorem slB_len (r : Rec) (s : Int) : (slB r s).length = 64 := slN_len _ _ _ _
theorem slB_byt (r : Rec) (s : Int) : Byt (slB r s) := slN_byt _ _ _ _
theorem slN_s (a b c s : Nat) : ((slN a b c s).drop 4).take 8 = numB s 8 := rfl
theorem slN_a (a b c s : Nat) : ((slN a b c s).drop 12).take 4 = numB a 4 := rfl
theorem slN_b (a b c s : Nat) : ((slN a b c s).drop 16).take 5 = numB b 5 := rfl
theorem slN_c (a b c s : Nat) : ((slN a b c s).drop 44).take 3 = numB c 3 := rfl
theorem slN_s2 (a b c s : Nat) : ((slN a b c s).drop 36).take 8 = numB s 8 := rfl
/-- What stands in a slot's bytes. -/
def rdR (l : List Nat) : Rec := ⟨(valB 0 ((l.drop 12).take 4) : Nat), (valB 0 ((l.drop 16).take 5) : Nat), (valB 0 ((l.drop 44).take 3) : Nat)⟩
def rdS (l : List Nat) : Int := IntKind.i64.wrap ((valB 0 ((l.drop 4).take 8) : Nat) : Int)
/-- What a slot's bytes say. -/
def say (l : List Nat) : Option (Rec × Int) := if Fit (rdR l) (rdS l) ∧ slB (rdR l) (rdS l) = l then some (rdR l, rdS l) else none
theorem rd_sl {r : Rec} {s : Int} (h : Fit r s) : rdR (slB r s) = r ∧ rdS (slB r s) = s := by
  obtain ⟨⟨⟨h1, h2⟩, ⟨h3, h4⟩, h5, h6⟩, h7, h8⟩ := h
  obtain ⟨a, b, c⟩ := r
  dsimp only at h1 h2 h3 h4 h5 h6
  have e1 : valB 0 (numB a.toNat 4) = a.toNat := val_num (by show a.toNat < 4294967296; omega)
  have e2 : valB 0 (numB b.toNat 5) = b.toNat := val_num (by show b.toNat < 1099511627776; omega)
  have e3 : valB 0 (numB c.toNat 3) = c.toNat := val_num (by show c.toNat < 16777216; omega)
  have e4 : valB 0 (numB s.toNat 8) = s.toNat := val_num (by show s.toNat < 18446744073709551616; omega)
  constructor
  · unfold rdR slB
    rw [slN_a, slN_b, slN_c]
    dsimp only
    rw [e1, e2, e3, Int.toNat_of_nonneg (by omega), Int.toNat_of_nonneg (by omega), Int.toNat_of_nonneg (by omega)]
  · unfold rdS slB
    rw [slN_s, e4, Int.toNat_of_nonneg (by omega)]
    exact i64_id _ (by omega) (by omega)
theorem say_sl {r : Rec} {s : Int} (h : Fit r s) : say (slB r s) = some (r, s) := by
  obtain ⟨e1, e2⟩ := rd_sl h
  unfold say
  rw [e1, e2, if_pos ⟨h, rfl⟩]
theorem say_some {l : List Nat} {r : Rec} {s : Int} (h : say l = some (r, s)) : Fit r s ∧ slB r s = l := by
  unfold say at h
  split at h
  · cases h
    assumption
  · cases h
theorem say_inj {l m : List Nat} {x : Rec × Int} (h : say l = some x) (k : say m = some x) : l = m := by
  obtain ⟨r, s⟩ := x
  rw [← (say_some h).2, ← (say_some k).2]
/-- Both halves have the seq. -/
theorem say_seq {l : List Nat} {r : Rec} {s : Int} (h : say l = some (r, s)) : ((l.drop 4).take 8 = numB s.toNat 8) ∧ (l.drop 36).take 8 = numB s.toNat 8 := by
  obtain ⟨_, rfl⟩ := say_some h
  exact ⟨rfl, rfl⟩
theorem say_len {l : List Nat} {x : Rec × Int} (h : say l = some x) : l.length = 64 := by
  obtain ⟨r, s⟩ := x
  rw [← (say_some h).2, slB_len]
/-- The bytes of a slot as they are laid one behind the other. -/
theorem sl_made (a b c s : Nat) : splice (splice (splice (splice (splice (splice (splice (List.replicate 64 0) 0 (numB 1700885041 4)) 4 (numB s 8)) 12 (numB a 4)) 16 (numB b 5)) 32 (numB 1700885042 4)) 36 (numB s 8)) 44 (numB c 3) = slN a b c s := rfl
theorem splice_step {L x : List Nat} {off k y : Nat} (hk : x[k]? = some y) (hL : off + x.length ≤ L.length) : (splice L off (x.take k)).set (off + k) y = splice L off (x.take (k + 1)) := by
  obtain ⟨hlt, rfl⟩ := List.getElem?_eq_some_iff.1 hk
  have e1 : (x.take k).length = k := by rw [List.length_take]; omega
  have e2 : (x.take (k + 1)).length = k + 1 := by rw [List.length_take]; omega
  have e3 : (L.take off).length = off := by rw [List.length_take]; omega
  have e4 : x.take (k + 1) = x.take k ++ [x[k]] := (List.take_append_getElem hlt).symm
  have e5 : L.drop (off + k) = L[off + k] :: L.drop (off + k + 1) := List.drop_eq_getElem_cons (by omega)
  unfold splice
  rw [e1, e2, List.set_append_right _ _ (by omega), e3, Nat.add_sub_cancel_left, List.set_append_right _ _ (by omega), e1, Nat.sub_self, e5, List.set_cons_zero, e4, ← Nat.add_assoc, List.append_assoc (x.take k)]
  rfl
theorem splice_nil (L : List Nat) (off : Nat) : splice L off [] = L := by simp [splice]
theorem numB_get (v : Nat) : ∀ (m k : Nat), k < m → (numB v m)[k]? = some (v / 2 ^ (8 * (m - 1 - k)) % 256)
  | 0, k, h => by omega
  | m + 1, 0, _ => by simp [numB]
  | m + 1, k + 1, h => by
    rw [numB, List.getElem?_cons_succ, numB_get v m k (by omega), show m + 1 - 1 - (k + 1) = m - 1 - k by omega]
end Go.Proofs.Ytjleggnkacmbbaa
