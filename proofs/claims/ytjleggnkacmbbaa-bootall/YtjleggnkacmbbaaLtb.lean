/- slot's within, mayBe, fits, number, lay: what they answer. -/
import Derived.Test.YtjleggnkacmbbaaLta
namespace Go.Proofs.Ytjleggnkacmbbaa
open Go.RowKit Go.Shelf

theorem get_lt {l : List Nat} {k : Nat} (h : k < l.length) : ∃ x, l[k]? = some x := ⟨_, List.getElem?_eq_getElem h⟩
theorem byt_get8 {l : List Nat} {k x : Nat} (h : Byt l) (hk : l[k]? = some x) : x < 256 := h x (List.mem_of_getElem? hk)
theorem or256 (v x : Nat) (h : x < 256) : (v * 256 ||| x) = v * 256 + x := by
  have := Nat.two_pow_add_eq_or_of_lt (i := 8) h v
  rw [Nat.mul_comm v 256]
  exact this.symm
theorem i64_or8 (a x : Nat) (ha : a < 72057594037927936) (hx : x < 256) : bits .or .i64 (IntKind.i64.wrap ((a : Int) * 256)) (x : Int) = IntKind.i64.wrap ((a * 256 + x : Nat) : Int) := by
  have e1 : (BitVec.ofInt 64 (IntKind.i64.wrap ((a : Int) * 256))).toNat = a * 256 := by
    rw [BitVec.toNat_ofInt, IntKind.wrap_i64]
    omega
  have e2 : (BitVec.ofInt 64 (x : Int)).toNat = x := by
    rw [BitVec.toNat_ofInt]
    omega
  show IntKind.i64.wrap ((BitVec.ofInt 64 (IntKind.i64.wrap ((a : Int) * 256)) ||| BitVec.ofInt 64 (x : Int)).toNat : Int) = _
  rw [BitVec.toNat_or, e1, e2, or256 a x hx]
theorem byte_of (v k : Nat) : ((v : Int) / 2 ^ k) % 256 = ((v / 2 ^ k % 256 : Nat) : Int) := by
  have : ((2 : Int) ^ k) = ((2 ^ k : Nat) : Int) := by simp
  rw [this]
  simp
theorem within_any (v lo hi : Int) (w : World) : Calls Try.prog 64 #[.int .i64 v, .int .i64 lo, .int .i64 hi] w fun e w' => e = .returned (.bool (decide (lo ≤ v ∧ v ≤ hi))) ∧ w' = w := by
  by_cases h1 : lo ≤ v
  · by_cases h2 : v ≤ hi
    · rw [decide_eq_true (show lo ≤ v ∧ v ≤ hi from ⟨h1, h2⟩)]
      go_enter Try.func64, Try.ntmps64
      go_wp2
      go_ret
      exact ⟨rfl, rfl⟩
    · rw [decide_eq_false (show ¬ (lo ≤ v ∧ v ≤ hi) from fun q => h2 q.2)]
      go_enter Try.func64, Try.ntmps64
      go_wp2
      go_ret
      exact ⟨rfl, rfl⟩
  · rw [decide_eq_false (show ¬ (lo ≤ v ∧ v ≤ hi) from fun q => h1 q.1)]
    go_enter Try.func64, Try.ntmps64
    go_wp2
    go_ret
    exact ⟨rfl, rfl⟩
/-- A record, an entry as values. -/
def rV (r : Rec) : Value := .agg #[.int .i64 r.li, .int .i64 r.ro, .int .i64 r.ta]
def eV (r : Rec) (s : Int) : Value := .agg #[.int .i64 r.li, .int .i64 r.ro, .int .i64 r.ta, .int .i64 s]
set_option maxHeartbeats 2000000 in
theorem mayBe_any (r : Rec) (w : World) : Calls Try.prog 56 #[rV r] w fun e w' => e = .returned (.bool (decide (May r))) ∧ Below w.heap.size w w' := by
  have hw := within_any
  obtain ⟨a, b, c⟩ := r
  have e : decide (May ⟨a, b, c⟩) = (decide (1 ≤ a ∧ a ≤ 1073741824) && (decide (0 ≤ b ∧ b ≤ 1099511627775) && decide (0 ≤ c ∧ c ≤ 1048576))) := by
    rw [Bool.eq_iff_iff, decide_eq_true_iff]
    simp only [May, decide_eq_true_eq, Bool.and_eq_true]
  rw [e]
  unfold rV
  have hw1 := fun v => hw a 1 1073741824 v
  have hw2 := fun v => hw b 0 1099511627775 v
  have hw3 := fun v => hw c 0 1048576 v
  clear hw e
  generalize decide (1 ≤ a ∧ a ≤ 1073741824) = A at *
  generalize decide (0 ≤ b ∧ b ≤ 1099511627775) = B at *
  generalize decide (0 ≤ c ∧ c ≤ 1048576) = C at *
  cases A <;> cases B <;> cases C
  all_goals
    go_enter Try.func56, Try.ntmps56
    go_wp2_with (first | (go_at_call 64; (with_reducible refine (hw1 _).mono ?_); rintro e u1 ⟨rfl, hu⟩; obtain rfl := hu.symm) | (go_at_call 64; (with_reducible refine (hw2 _).mono ?_); rintro e u1 ⟨rfl, hu⟩; obtain rfl := hu.symm) | (go_at_call 64; (with_reducible refine (hw3 _).mono ?_); rintro e u1 ⟨rfl, hu⟩; obtain rfl := hu.symm))
    go_ret
    exact ⟨rfl, al1' _ _⟩
set_option maxHeartbeats 2000000 in
theorem fits_any (r : Rec) (s : Int) (w : World) : Calls Try.prog 63 #[eV r s] w fun e w' => e = .returned (.bool (decide (Fit r s))) ∧ Below w.heap.size w w' := by
  have hw := mayBe_any r
  have hv := fun v => within_any s 1 1099511627776 v
  have e : decide (Fit r s) = (decide (May r) && decide (1 ≤ s ∧ s ≤ 1099511627776)) := by
    rw [Bool.eq_iff_iff, decide_eq_true_iff]
    simp only [Fit, decide_eq_true_eq, Bool.and_eq_true]
  rw [e]
  obtain ⟨a, b, c⟩ := r
  unfold rV at hw
  unfold eV
  generalize decide (May ⟨a, b, c⟩) = A at *
  generalize decide (1 ≤ s ∧ s ≤ 1099511627776) = B at *
  clear e
  cases A <;> cases B
  all_goals
    go_enter Try.func63, Try.ntmps63
    go_wp2_with (first | (go_at_call 56; (with_reducible refine (hw _).mono ?_); rintro e u1 ⟨rfl, hu⟩; have c3 : u1.cell? ⟨w.heap.size, 3, none⟩ = some (.int .i64 s) := (by rw [cell_at ((hu.block _ (by simp)).trans (new_at rfl))]; rfl)) | (go_at_call 64; (with_reducible refine (hv _).mono ?_); rintro e u2 ⟨rfl, hu2⟩; obtain rfl := hu2.symm))
    go_ret
    exact ⟨rfl, bel2 (al1' _ _) hu⟩
set_option maxHeartbeats 2000000 in
set_option maxRecDepth 100000 in
theorem number_any (ad : Option Addr) (cap : Nat) (l : List Nat) (w : World) (h : RdB w ad l) (hb : Byt l) (hl : l.length ≤ 8) : Calls Try.prog 62 #[.slice ad l.length cap] w fun e w' => e = .returned (.int .i64 (IntKind.i64.wrap ((valB 0 l : Nat) : Int))) ∧ w' = w := by
  obtain ⟨R, hR⟩ : ∃ R, valB 0 l = R := ⟨_, rfl⟩
  rw [hR]
  have HR : Hid (valB 0 (l.drop 0) = R) := hR
  clear hR
  go_enter Try.func62, Try.ntmps62
  go_wp2
  go_loopw [3, 8] (fun p i wz => ∃ (k a : Nat) (b : Int), p = .int .i64 b ∧ b = IntKind.i64.wrap (a : Int) ∧ i = .int .i64 k ∧ k ≤ l.length ∧ a < 2 ^ (8 * k) ∧ Hid (valB a (l.drop k) = R) ∧ wz = w) (fun _ i _ => l.length - vnat i)
  case atStart => exact ⟨0, 0, 0, rfl, rfl, rfl, Nat.zero_le _, by decide, HR, rfl⟩
  case round =>
    obtain ⟨k, a, b, rfl, hba, rfl, hk, ha, HK, rfl⟩ := hrel
    by_cases hkl : k < l.length
    · obtain ⟨g, off, e1, hbl, hat⟩ := h (fun e => by subst e; simp at hkl)
      subst e1
      obtain ⟨x, hx⟩ := get_lt hkl
      have c0 := hat k _ hx
      have hx8 := byt_get8 hb hx
      have HS := valB_drop l k a x hx
      rw [HK.out] at HS
      have HS2 : Hid (R = valB (a * 256 + x) (l.drop (k + 1))) := HS
      clear HS HK HR
      have hki : (k : Int) < (l.length : Int) := by omega
      have h6 : 2 ^ (8 * k) ≤ 2 ^ (8 * 7) := Nat.pow_le_pow_right (by decide) (by omega)
      have ha6 : a < 72057594037927936 := Nat.lt_of_lt_of_le ha h6
      have hor := i64_or8 a x ha6 hx8
      rw [IntWalk.i64_left ((a : Int) * 256)] at hor
      have hba2 : b = (a : Int) := by rw [hba]; exact i64_id _ (by omega) (by omega)
      clear hba
      subst hba2
      have hnew : Hid (a * 256 + x < 2 ^ (8 * (k + 1))) := by
        show a * 256 + x < 2 ^ (8 * (k + 1))
        rw [Nat.mul_add, Nat.pow_add]
        generalize 2 ^ (8 * k) = z at *
        omega
      clear h6 ha
      go_wp2
      go_roundw
      case rel => exact ⟨k + 1, a * 256 + x, _, rfl, by rw [IntWalk.i64_left, Int.natCast_add, Int.natCast_mul]; rfl, by simp, by omega, hnew.out, HS2.out.symm, trivial⟩
      case measure => simp [vnat]; omega
    · have hkk : k = l.length := by omega
      subst hkk
      have hki : ¬ ((l.length : Int) < (l.length : Int)) := by omega
      have HE : Hid (R = a) := by have := HK.out; rw [List.drop_length] at this; exact this.symm
      clear HK HR h hb ha
      have HB : Hid (b = IntKind.i64.wrap (a : Int)) := hba
      clear hba
      go_wp2
      go_ret
      exact ⟨by rw [HE.out, HB.out]; rfl, rfl⟩
set_option maxHeartbeats 2000000 in
set_option maxRecDepth 100000 in
theorem lay_any (w : World) (g off n cap v : Nat) (ty : TypeId) (L : List Nat) (hg : w.heap[g]? = some (.cells (cB L).toArray ty (0, 0))) (ho : off + n ≤ L.length) (hn : n ≤ 8) : Calls Try.prog 66 #[.slice (some ⟨g, off, none⟩) n cap, .int .i64 (v : Int)] w fun e w' => e = .returned (.tuple #[]) ∧ w'.heap[g]? = some (.cells (cB (splice L off (numB v n))).toArray ty (0, 0)) ∧ Tp g w w' := by
  go_enter Try.func66, Try.ntmps66
  go_wp2
  go_loopw [7] (fun i wz => ∃ (k : Nat) (C : List Nat), i = .int .i64 k ∧ k ≤ n ∧ Hid (C = splice L off ((numB v n).take k)) ∧ C.length = L.length ∧ wz.heap[g]? = some (.cells (cB C).toArray ty (0, 0)) ∧ Tp g w wz) (fun i _ => n - vnat i)
  case atStart => exact ⟨0, L, rfl, Nat.zero_le _, by show L = _; rw [List.take_zero, splice_nil], rfl, hg, Tp.of _ (Below.refl _ _)⟩
  case round =>
    obtain ⟨k, C, rfl, hk, HC, hCl, hgz, ht⟩ := hrel
    by_cases hkl : k < n
    · have hki : (k : Int) < (n : Int) := by omega
      obtain ⟨j, hj⟩ : ∃ j, n - 1 - k = j := ⟨_, rfl⟩
      have hget := numB_get v n k hkl
      rw [hj] at hget
      have HN : Hid (C.set (off + k) (v / 2 ^ (8 * j) % 256) = splice L off ((numB v n).take (k + 1))) := by
        show C.set (off + k) (v / 2 ^ (8 * j) % 256) = splice L off ((numB v n).take (k + 1))
        rw [HC.out]
        exact splice_step hget (by rw [numB_len]; exact ho)
      have h8 : (8 : Int) * ((n : Int) - 1 - (k : Int)) = ((8 * j : Nat) : Int) := by omega
      have hby := byte_of v (8 * j)
      obtain ⟨D, hD⟩ : ∃ D : Nat, D = v / 2 ^ (8 * j) % 256 := ⟨_, rfl⟩
      rw [← hD] at hby HN hget
      clear hD HC
      have hlt : off + k < C.length := by omega
      obtain ⟨x, hx⟩ := get_lt hlt
      have c0 : wr.cell? ⟨g, off + k, none⟩ = some (.int .u8 (x : Int)) := by rw [cell_at hgz, List.getElem?_toArray]; exact cB_get hx
      have z0 := thaw_at hgz (off + k)
      clear hget
      go_wp2
      go_roundw
      case rel =>
        refine ⟨k + 1, C.set (off + k) D, by simp, by omega, HN, by simp [hCl], ?_, ht.trans (Tp.set _ _ _ _)⟩
        rw [heap_setCell_same _ _ _ _ _ _ hgz, List.setIfInBounds_toArray]
        simp [cB, List.map_set]
      case measure => simp [vnat]; omega
    · have hkk : k = n := by omega
      subst hkk
      have hki : ¬ ((k : Int) < (k : Int)) := by omega
      have HE : Hid (C = splice L off (numB v k)) := by have := HC.out; rw [List.take_of_length_le (by rw [numB_len]; omega)] at this; exact this
      clear HC
      go_wp2
      go_end0
      exact ⟨rfl, by rw [← HE.out]; exact hgz, ht⟩
end Go.Proofs.Ytjleggnkacmbbaa
