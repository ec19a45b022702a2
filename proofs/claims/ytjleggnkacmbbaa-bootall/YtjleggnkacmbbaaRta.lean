/- The document's May, lay, value, Encode: what they answer. -/
import Derived.Test.YtjleggnkacmbbaaLte
import Derived.Lib.BufferWrite
namespace Go.Proofs.Ytjleggnkacmbbaa
open Go.RowKit Go.Shelf Go.Lib

theorem valB_app : ∀ (a b : List Nat) (v : Nat), valB v (a ++ b) = valB (valB v a) b
  | [], _, _ => rfl
  | x :: a, b, v => valB_app a b (v * 256 + x)
set_option maxHeartbeats 4000000 in
theorem rMay_any (r : Rec) (w : World) : Calls Try.prog 43 #[rV r] w fun e w' => e = .returned (.bool (decide (May r))) ∧ Below w.heap.size w w' := by
  obtain ⟨a, b, c⟩ := r
  have hx0 : (w.alloc (.cells #[.int .i64 a, .int .i64 b, .int .i64 c] 36)).heap[w.heap.size]? = some (.cells #[.int .i64 a, .int .i64 b, .int .i64 c] 36 (0, 0)) := new_at rfl
  clear hx0
  unfold rV
  dsimp only
  by_cases h1 : 1 ≤ a
  case neg =>
    rw [decide_eq_false (show ¬ May ⟨a, b, c⟩ from fun q => h1 q.1.1)]
    go_enter Try.func43, Try.ntmps43
    go_wp2
    go_ret
    exact ⟨rfl, al1' _ _⟩
  by_cases h2 : a ≤ 1073741824
  case neg =>
    rw [decide_eq_false (show ¬ May ⟨a, b, c⟩ from fun q => h2 q.1.2)]
    go_enter Try.func43, Try.ntmps43
    go_wp2
    go_ret
    exact ⟨rfl, al1' _ _⟩
  by_cases h3 : 0 ≤ b
  case neg =>
    rw [decide_eq_false (show ¬ May ⟨a, b, c⟩ from fun q => h3 q.2.1.1)]
    go_enter Try.func43, Try.ntmps43
    go_wp2
    go_ret
    exact ⟨rfl, al1' _ _⟩
  by_cases h4 : b ≤ 1099511627775
  case neg =>
    rw [decide_eq_false (show ¬ May ⟨a, b, c⟩ from fun q => h4 q.2.1.2)]
    go_enter Try.func43, Try.ntmps43
    go_wp2
    go_ret
    exact ⟨rfl, al1' _ _⟩
  by_cases h5 : 0 ≤ c
  case neg =>
    rw [decide_eq_false (show ¬ May ⟨a, b, c⟩ from fun q => h5 q.2.2.1)]
    go_enter Try.func43, Try.ntmps43
    go_wp2
    go_ret
    exact ⟨rfl, al1' _ _⟩
  by_cases h6 : c ≤ 1048576
  case neg =>
    rw [decide_eq_false (show ¬ May ⟨a, b, c⟩ from fun q => h6 q.2.2.2)]
    go_enter Try.func43, Try.ntmps43
    go_wp2
    go_ret
    exact ⟨rfl, al1' _ _⟩
  case pos =>
    rw [decide_eq_true (show May ⟨a, b, c⟩ from ⟨⟨h1, h2⟩, ⟨h3, h4⟩, h5, h6⟩)]
    go_enter Try.func43, Try.ntmps43
    go_wp2
    go_ret
    exact ⟨rfl, al1' _ _⟩
set_option maxHeartbeats 2000000 in
set_option maxRecDepth 100000 in
theorem rlay_any (w : World) (g at' n cap v : Nat) (ty : TypeId) (L : List Nat) (hg : w.heap[g]? = some (.cells (cB L).toArray ty (0, 0))) (hL : L.length = 64) (ho : at' + n ≤ 64) (hn : n ≤ 8) : Calls Try.prog 44 #[.slice (some ⟨g, 0, none⟩) 64 cap, .int .i64 (at' : Int), .int .i64 (n : Int), .int .i64 (v : Int)] w fun e w' => e = .returned (.tuple #[]) ∧ w'.heap[g]? = some (.cells (cB (splice L at' (numB v n))).toArray ty (0, 0)) ∧ Tp g w w' := by
  go_enter Try.func44, Try.ntmps44
  go_wp2
  go_loopw [8] (fun i wz => ∃ (k : Nat) (C : List Nat), i = .int .i64 k ∧ k ≤ n ∧ Hid (C = splice L at' ((numB v n).take k)) ∧ C.length = 64 ∧ wz.heap[g]? = some (.cells (cB C).toArray ty (0, 0)) ∧ Tp g w wz) (fun i _ => n - vnat i)
  case atStart => exact ⟨0, L, rfl, Nat.zero_le _, by show L = _; rw [List.take_zero, splice_nil], hL, hg, Tp.of _ (Below.refl _ _)⟩
  case round =>
    obtain ⟨k, C, rfl, hk, HC, hCl, hgz, ht⟩ := hrel
    by_cases hkl : k < n
    · have hki : (k : Int) < (n : Int) := by omega
      obtain ⟨j, hj⟩ : ∃ j, n - 1 - k = j := ⟨_, rfl⟩
      have hget := numB_get v n k hkl
      rw [hj] at hget
      have HN : Hid (C.set (at' + k) (v / 2 ^ (8 * j) % 256) = splice L at' ((numB v n).take (k + 1))) := by
        show C.set (at' + k) (v / 2 ^ (8 * j) % 256) = splice L at' ((numB v n).take (k + 1))
        rw [HC.out]
        exact splice_step hget (by rw [numB_len]; omega)
      have h8 : (8 : Int) * ((n : Int) - 1 - (k : Int)) = ((8 * j : Nat) : Int) := by omega
      have hby := byte_of v (8 * j)
      obtain ⟨D, hD⟩ : ∃ D : Nat, D = v / 2 ^ (8 * j) % 256 := ⟨_, rfl⟩
      rw [← hD] at hby HN hget
      clear hD HC
      obtain ⟨q, hq⟩ : ∃ q, at' + k = q := ⟨_, rfl⟩
      obtain ⟨x, hx⟩ := get_lt (l := C) (k := q) (by omega)
      have c0 : wr.cell? ⟨g, q, none⟩ = some (.int .u8 (x : Int)) := by rw [cell_at hgz, List.getElem?_toArray]; exact cB_get hx
      have z0 := thaw_at hgz q
      have hz1 : (at' : Int) + (k : Int) = (q : Int) := by omega
      have hz2 : (q : Int) < 64 := by omega
      rw [hq] at HN
      clear hget hq
      go_wp2
      go_roundw
      case rel =>
        refine ⟨k + 1, C.set q D, by simp, by omega, HN, by simp [hCl], ?_, ht.trans (Tp.set _ _ _ _)⟩
        rw [heap_setCell_same _ _ _ _ _ _ hgz, List.setIfInBounds_toArray]
        simp [cB, List.map_set]
      case measure => simp [vnat]; omega
    · have hkk : k = n := by omega
      subst hkk
      have hki : ¬ ((k : Int) < (k : Int)) := by omega
      have HE : Hid (C = splice L at' (numB v k)) := by have := HC.out; rw [List.take_of_length_le (by rw [numB_len]; omega)] at this; exact this
      clear HC
      go_wp2
      go_end0
      exact ⟨rfl, by rw [← HE.out]; exact hgz, ht⟩
set_option maxHeartbeats 2000000 in
set_option maxRecDepth 100000 in
theorem rvalue_any (ad : Option Addr) (cap at' n : Nat) (l : List Nat) (w : World) (h : RdB w ad l) (hb : Byt l) (hl : l.length = 64) (ho : at' + n ≤ 64) (hn : n ≤ 8) (hv : ∀ k, k < n → valB 0 (((l.drop at').take n).take k) < 36028797018963968) : Calls Try.prog 72 #[.slice ad 64 cap, .int .i64 (at' : Int), .int .i64 (n : Int)] w fun e w' => e = .returned (.int .i64 ((valB 0 ((l.drop at').take n) : Nat) : Int)) ∧ w' = w := by
  obtain ⟨g, off, e1, hbl, hat⟩ := h (fun e => by subst e; simp at hl)
  subst e1
  obtain ⟨X, hX⟩ : ∃ X, (l.drop at').take n = X := ⟨_, rfl⟩
  have hXl : X.length = n := by rw [← hX, List.length_take, List.length_drop]; omega
  have hXb : Byt X := by rw [← hX]; exact (hb.drop _).take _
  have hXa : ∀ (k x : Nat), X[k]? = some x → w.cell? ⟨g, off + (at' + k), none⟩ = some (.int .u8 (x : Int)) := fun k x hk => by
    have hk2 : k < X.length := (List.getElem?_eq_some_iff.1 hk).1
    rw [← hX, List.getElem?_take_of_lt (by omega), List.getElem?_drop] at hk
    exact hat _ _ hk
  rw [hX] at hv ⊢
  clear hX hat
  go_enter Try.func72, Try.ntmps72
  go_wp2
  go_loopw [7, 8] (fun p i wz => ∃ (k a : Nat), p = .int .i64 (a : Int) ∧ i = .int .i64 k ∧ k ≤ n ∧ Hid (a = valB 0 (X.take k)) ∧ wz = w) (fun _ i _ => n - vnat i)
  case atStart => exact ⟨0, 0, rfl, rfl, Nat.zero_le _, rfl, rfl⟩
  case round =>
    obtain ⟨k, a, rfl, rfl, hk, HA, rfl⟩ := hrel
    by_cases hkl : k < n
    · have hki : (k : Int) < (n : Int) := by omega
      obtain ⟨x, hx⟩ := get_lt (l := X) (k := k) (by omega)
      have c0 := hXa k x hx
      have hx8 := byt_get8 hXb hx
      have ha : a < 36028797018963968 := by rw [HA.out]; exact hv k hkl
      have HN : Hid (a * 256 + x = valB 0 (X.take (k + 1))) := by
        obtain ⟨hlt, rfl⟩ := List.getElem?_eq_some_iff.1 hx
        show a * 256 + X[k] = _
        rw [HA.out, ← List.take_append_getElem hlt, valB_app]
        rfl
      obtain ⟨q, hq⟩ : ∃ q, at' + k = q := ⟨_, rfl⟩
      rw [hq] at c0
      have hz1 : (at' : Int) + (k : Int) = (q : Int) := by omega
      have hz2 : (q : Int) < 64 := by omega
      clear HA hv hq hx
      go_wp2
      go_roundw
      case rel => exact ⟨k + 1, a * 256 + x, by simp, by simp, by omega, HN, trivial⟩
      case measure => simp [vnat]; omega
    · have hkk : k = n := by omega
      subst hkk
      have hki : ¬ ((k : Int) < (k : Int)) := by omega
      have HE : Hid (a = valB 0 X) := by have := HA.out; rw [List.take_of_length_le (by omega)] at this; exact this
      clear HA hv
      go_wp2
      go_ret
      exact ⟨by rw [← HE.out]; rfl, rfl⟩
/-- While the document lays a slot's bytes. -/
def JE (w : World) (g : Nat) (E : Array Value) (L : List Nat) (V : World) : Prop := V.heap[w.heap.size]? = some (.cells E 36 (0, 0)) ∧ V.heap[g]? = some (.cells (cB L).toArray 5 (0, 0)) ∧ L.length = 64 ∧ w.heap.size < g ∧ Below w.heap.size w V
theorem JE.lay {w V : World} {g : Nat} {E : Array Value} {L : List Nat} (h : JE w g E L V) (off n cap v : Nat) (ho : off + n ≤ 64) (hn : n ≤ 8) : Calls Try.prog 44 #[.slice (some ⟨g, 0, none⟩) 64 cap, .int .i64 (off : Int), .int .i64 (n : Int), .int .i64 (v : Int)] V fun e V' => e = .returned (.tuple #[]) ∧ JE w g E (splice L off (numB v n)) V' := by
  obtain ⟨h1, h2, h3, h4, h5⟩ := h
  refine (rlay_any V g off n cap v _ L h2 h3 ho hn).mono ?_
  rintro e V' ⟨rfl, hg, ht⟩
  exact ⟨rfl, (ht.block _ (lt_at h1) (by omega)).trans h1, hg, (length_splice _ _ _ (by rw [numB_len]; omega)).trans h3, h4, h5.trans (ht.below (by omega) h5.size)⟩
theorem JE.c {w V : World} {g : Nat} {E : Array Value} {L : List Nat} (h : JE w g E L V) (k : Nat) (x : Value) (hk : E[k]? = some x) : V.cell? ⟨w.heap.size, k, none⟩ = some x := by
  rw [cell_at h.1]
  exact hk
theorem JE.copy {w V : World} {g : Nat} {E : Array Value} {L : List Nat} (h : JE w g E L V) (off n cap m : Nat) (s : ByteArray) (hs : s.size = 4) (hn : 4 ≤ n) (ho : off + 4 ≤ 64) (hd : byteCells s.data.toList = cB (numB m 4)) : ∃ V', (Builtin.copy_ #[62, 9] 3 #[.slice (some ⟨g, off, none⟩) n cap, .string s]).run Try.prog V = .ok (goInt 4) V' ∧ JE w g E (splice L off (numB m 4)) V' := by
  obtain ⟨h1, h2, h3, h4, h5⟩ := h
  have hr := run_copy_row_string (P := Try.prog) V 62 9 3 5 g off n cap s (cB L).toArray 5 Try.underlying62 infoB1 h2 (by omega) (by rw [List.size_toArray, cB_len, hs]; omega)
  rw [hd, hs] at hr
  refine ⟨_, hr, (setRow_other _ _ _ _ (by omega)).trans h1, (setRow_heap _ _ _ _ _ _ h2).trans ?_, (length_splice _ _ _ (by rw [numB_len]; omega)).trans h3, h4, below_setRow h5 (by omega) _⟩
  simp [splice, cB, numB_len, List.map_take, List.map_drop]
theorem mk64 (w : World) : (Instr.makeSlice 62 (.int .i64 64) (.int .i64 64)).run Try.prog w = .ok (.slice (some ⟨w.heap.size, 0, none⟩) 64 64) (w.alloc (.cells (cB z64).toArray 5)) := by kernel_rfl
set_option maxHeartbeats 4000000 in
set_option maxRecDepth 100000 in
theorem rEnc_any (r : Rec) (s : Int) (w : World) : Calls Try.prog 31 #[rV r, .int .i64 s] w fun e w' => (Fit r s → ∃ g, e = .returned (.tuple #[.slice (some ⟨g, 0, none⟩) 64 64, .int .i64 0]) ∧ w.heap.size ≤ g ∧ w'.heap[g]? = some (.cells (cB (slB r s)).toArray 5 (0, 0))) ∧ (¬ Fit r s → e = .returned (.tuple #[.slice none 0 0, .int .i64 1])) ∧ Below w.heap.size w w' := by
  have hmy := rMay_any r
  unfold rV at hmy ⊢
  by_cases hm : May r
  case neg =>
    rw [decide_eq_false hm] at hmy
    have hf : ¬ Fit r s := fun q => hm q.1
    go_enter Try.func31, Try.ntmps31
    go_wp2_with (go_at_call 43; (with_reducible refine (hmy _).mono ?_); rintro e u1 ⟨rfl, hu1⟩)
    go_ret2
    exact ⟨fun q => absurd q hf, fun _ => rfl, bel2 (al1' _ _) hu1⟩
  rw [decide_eq_true hm] at hmy
  by_cases h1 : 1 ≤ s
  case neg =>
    have hf : ¬ Fit r s := fun q => h1 q.2.1
    have h1i : s < 1 := by omega
    go_enter Try.func31, Try.ntmps31
    go_wp2_with (go_at_call 43; (with_reducible refine (hmy _).mono ?_); rintro e u1 ⟨rfl, hu1⟩)
    go_ret2
    exact ⟨fun q => absurd q hf, fun _ => rfl, bel2 (al1' _ _) hu1⟩
  have h1i : ¬ s < 1 := by omega
  by_cases h2 : s ≤ 1099511627776
  case neg =>
    have hf : ¬ Fit r s := fun q => h2 q.2.2
    have h2i : s > 1099511627776 := by omega
    go_enter Try.func31, Try.ntmps31
    go_wp2_with (go_at_call 43; (with_reducible refine (hmy _).mono ?_); rintro e u1 ⟨rfl, hu1⟩)
    go_ret2
    exact ⟨fun q => absurd q hf, fun _ => rfl, bel2 (al1' _ _) hu1⟩
  have h2i : ¬ s > 1099511627776 := by omega
  have hf : Fit r s := ⟨hm, h1, h2⟩
  obtain ⟨⟨a1, a2⟩, ⟨b1, b2⟩, c1, c2⟩ := hm
  obtain ⟨ra, rb, rc⟩ := r
  dsimp only at a1 a2 b1 b2 c1 c2 hmy ⊢
  obtain ⟨a, rfl⟩ := Int.eq_ofNat_of_zero_le (show 0 ≤ ra by omega)
  obtain ⟨b, rfl⟩ := Int.eq_ofNat_of_zero_le (show 0 ≤ rb by omega)
  obtain ⟨c, rfl⟩ := Int.eq_ofNat_of_zero_le (show 0 ≤ rc by omega)
  obtain ⟨s, rfl⟩ := Int.eq_ofNat_of_zero_le (show 0 ≤ s by omega)
  have HSL : Hid (slB ⟨(a : Int), (b : Int), (c : Int)⟩ (s : Int) = slN a b c s) := by show slN _ _ _ _ = _; simp
  have HF : Hid (Fit ⟨(a : Int), (b : Int), (c : Int)⟩ (s : Int)) := hf
  clear hf a1 a2 b1 b2 c1 c2
  have hmk := mk64
  obtain ⟨Z, hZ⟩ : ∃ Z, (cB z64).toArray = Z := ⟨_, rfl⟩
  rw [hZ] at hmk
  obtain ⟨E, hE⟩ : ∃ E : Array Value, #[.int .i64 (a : Int), .int .i64 (b : Int), .int .i64 (c : Int)] = E := ⟨_, rfl⟩
  simp only [hE] at hmy
  obtain ⟨w1, hw1⟩ : ∃ w1, w.alloc (.cells E 36) = w1 := ⟨_, rfl⟩
  have hb1 : Below w.heap.size w w1 := by rw [← hw1]; exact al1' _ _
  have hg1 : w1.heap[w.heap.size]? = some (.cells E 36 (0, 0)) := by rw [← hw1]; exact new_at rfl
  have e0 : E[0]? = some (.int .i64 (a : Int)) := by rw [← hE]; rfl
  have e1 : E[1]? = some (.int .i64 (b : Int)) := by rw [← hE]; rfl
  have e2 : E[2]? = some (.int .i64 (c : Int)) := by rw [← hE]; rfl
  have HE0 : Hid (E[0]? = some (.int .i64 (a : Int))) := e0
  have HE1 : Hid (E[1]? = some (.int .i64 (b : Int))) := e1
  have HE2 : Hid (E[2]? = some (.int .i64 (c : Int))) := e2
  have x0 : w1.cell? ⟨w.heap.size, 0, none⟩ = some (.int .i64 (a : Int)) := by rw [cell_at hg1]; exact e0
  have x1 : w1.cell? ⟨w.heap.size, 1, none⟩ = some (.int .i64 (b : Int)) := by rw [cell_at hg1]; exact e1
  have x2 : w1.cell? ⟨w.heap.size, 2, none⟩ = some (.int .i64 (c : Int)) := by rw [cell_at hg1]; exact e2
  clear e0 e1 e2
  go_enter Try.func31, Try.ntmps31
  go_wp2_with (first | (go_at_call 43; (with_reducible refine (hmy _).mono ?_); rintro e u1 ⟨rfl, hu1⟩; obtain ⟨u2, hu2⟩ : ∃ u2, u1.alloc (.cells Z 5) = u2 := ⟨_, rfl⟩; have j0 : JE w u1.heap.size E z64 u2 := (by rw [← hu2, ← hZ]; exact ⟨old_at ((hu1.block _ (lt_at hg1)).trans hg1), new_at rfl, by simp [z64], Nat.lt_of_lt_of_le (lt_at hg1) hu1.size, bel2 (bel2 hb1 hu1) (al1' _ _)⟩); obtain ⟨v1, hcp, j1⟩ := j0.copy 0 64 64 1700885041 ⟨#[101, 97, 114, 49]⟩ rfl (by omega) (by omega) rfl; have hl1 : Calls Try.prog 44 #[.slice (some ⟨u1.heap.size, 0, none⟩) 64 64, .int .i64 4, .int .i64 8, .int .i64 (s : Int)] v1 (fun e V' => e = .returned (.tuple #[]) ∧ JE w u1.heap.size E (splice (splice z64 0 (numB 1700885041 4)) 4 (numB s 8)) V') := j1.lay 4 8 64 s (by omega) (by omega)) | (go_at_call 44; (with_reducible refine hl1.mono ?_); rintro e v2 ⟨rfl, j2⟩; clear hl1; have y0 := j2.c 0 _ HE0.out; have y1 := j2.c 1 _ HE1.out; have hl2 : Calls Try.prog 44 #[.slice (some ⟨u1.heap.size, 0, none⟩) 64 64, .int .i64 12, .int .i64 4, .int .i64 (a : Int)] v2 (fun e V' => e = .returned (.tuple #[]) ∧ JE w u1.heap.size E (splice (splice (splice z64 0 (numB 1700885041 4)) 4 (numB s 8)) 12 (numB a 4)) V') := j2.lay 12 4 64 a (by omega) (by omega)) | (go_at_call 44; (with_reducible refine hl2.mono ?_); rintro e v3 ⟨rfl, j3⟩; clear hl2; have y2 := j3.c 0 _ HE0.out; have y3 := j3.c 1 _ HE1.out; have hl3 : Calls Try.prog 44 #[.slice (some ⟨u1.heap.size, 0, none⟩) 64 64, .int .i64 16, .int .i64 5, .int .i64 (b : Int)] v3 (fun e V' => e = .returned (.tuple #[]) ∧ JE w u1.heap.size E (splice (splice (splice (splice z64 0 (numB 1700885041 4)) 4 (numB s 8)) 12 (numB a 4)) 16 (numB b 5)) V') := j3.lay 16 5 64 b (by omega) (by omega)) | (go_at_call 44; (with_reducible refine hl3.mono ?_); rintro e v4 ⟨rfl, j4⟩; clear hl3; obtain ⟨v5, hcq, j5⟩ := j4.copy 32 32 32 1700885042 ⟨#[101, 97, 114, 50]⟩ rfl (by omega) (by omega) rfl; have hl4 : Calls Try.prog 44 #[.slice (some ⟨u1.heap.size, 0, none⟩) 64 64, .int .i64 36, .int .i64 8, .int .i64 (s : Int)] v5 (fun e V' => e = .returned (.tuple #[]) ∧ JE w u1.heap.size E (splice (splice (splice (splice (splice (splice z64 0 (numB 1700885041 4)) 4 (numB s 8)) 12 (numB a 4)) 16 (numB b 5)) 32 (numB 1700885042 4)) 36 (numB s 8)) V') := j5.lay 36 8 64 s (by omega) (by omega)) | (go_at_call 44; (with_reducible refine hl4.mono ?_); rintro e v6 ⟨rfl, j6⟩; clear hl4; have y4 := j6.c 2 _ HE2.out; have hl5 : Calls Try.prog 44 #[.slice (some ⟨u1.heap.size, 0, none⟩) 64 64, .int .i64 44, .int .i64 3, .int .i64 (c : Int)] v6 (fun e V' => e = .returned (.tuple #[]) ∧ JE w u1.heap.size E (splice (splice (splice (splice (splice (splice (splice z64 0 (numB 1700885041 4)) 4 (numB s 8)) 12 (numB a 4)) 16 (numB b 5)) 32 (numB 1700885042 4)) 36 (numB s 8)) 44 (numB c 3)) V') := j6.lay 44 3 64 c (by omega) (by omega)) | (go_at_call 44; (with_reducible refine hl5.mono ?_); rintro e v7 ⟨rfl, j7⟩; clear hl5; skip))
  go_ret2
  have hfin : JE w u1.heap.size E (slN a b c s) v7 := j7
  exact ⟨fun _ => ⟨_, rfl, Nat.le_of_lt hfin.2.2.2.1, by rw [HSL.out]; exact hfin.2.1⟩, fun q => absurd HF.out q, hfin.2.2.2.2⟩
end Go.Proofs.Ytjleggnkacmbbaa
