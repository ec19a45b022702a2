/- The package's own error, by what the row lists; a nil boot. -/
import Derived.Test.YtlpmehmoeladjaaGreatDoorRows
import Derived.Test.YtlpmehmoeladjaaGreatDoorJnJ21
import Derived.Stop.LaidErr
import Derived.Lay
import Derived.LaidMore
import Derived.MakeChecks
import Derived.Test.YtlpmehmoeladjaaGreatDoorJnJ15
import Derived.Lib.BufferWrite
import Derived.Test.YtlpmehmoeladjaaGreatDoorJnJ13
import Derived.Test.YtlpmehmoeladjaaGreatDoorJnJ18
namespace Go.Proofs.YtlpmehmoeladjaaGreatDoor
open Go.ChangeShapes Go.WideShapes Go.ChangeAt Go.RowKit Go.Lib Go.Shelf

theorem row_errS (u : TypeId) (h : Tryz.prog.typeName? 3 u = some "*errors.errorString") : u = 176 :=
  typeName_ptr_named (nm := "errors.errorString") (by rw [show "*" ++ "errors.errorString" = "*errors.errorString" by decide]; kernel_rfl) (by kernel_rfl) (by decide) u (by rw [show "*" ++ "errors.errorString" = "*errors.errorString" by decide]; exact h)
theorem sn_of {W : World} (h : laidMetH Tryz.prog [("earshot/refute.errNotTaken", Rows.laid_earshot_refute_errNotTaken)] W) : ∃ a, Sn W a := by
  rw [MakeChecks.laidMetH_plain _ _ _ (by kernel_rfl)] at h
  obtain ⟨a, s, hv, _⟩ := laid_sentinel h (show Tryz.prog.globalNamed "earshot/refute.errNotTaken" = some 0 by kernel_rfl) (show (Tryz.prog.globals[0]?).map (·.type) = some 135 by kernel_rfl) Tryz.underlying135 row_errS Tryz.underlying176 Tryz.underlying201 rfl rfl Tryz.underlying9 (by kernel_rfl) (by kernel_rfl)
  refine ⟨a, ?_⟩
  have := World.var?_cell (show Tryz.prog.globalNamed "earshot/refute.errNotTaken" = some 0 by kernel_rfl) hv 0
  unfold Sn
  simpa using this
set_option maxHeartbeats 1000000 in
set_option maxRecDepth 100000 in
theorem readyN (W : World) : Calls Tryz.prog 83 #[.pointer none] W fun e w' => e = .returned (.int .i64 1) ∧ w' = W := by
  go_enter Tryz.func83, Tryz.ntmps83
  go_wp2
  go_ret
  exact ⟨rfl, rfl⟩
set_option maxHeartbeats 1000000 in
set_option maxRecDepth 100000 in
theorem raiseN (W : World) (t : Int) : Calls Tryz.prog 68 #[.pointer none, .int .i64 t] W fun e w' => e = .returned (.int .i64 1) ∧ Below W.heap.size W w' := by
  obtain ⟨w1, hw1⟩ : ∃ w1, W.alloc (.cells #[.int .i64 t] 3) = w1 := ⟨_, rfl⟩
  have hb1 : Below W.heap.size W w1 := by rw [← hw1]; exact al1 _ _
  have hr1 := readyN w1
  go_enter Tryz.func68, Tryz.ntmps68
  go_wp2_with (go_at_call 83; (with_reducible refine hr1.mono ?_); rintro e u ⟨rfl, hu⟩; obtain rfl := hu.symm)
  go_ret
  exact ⟨rfl, hb1⟩
set_option maxHeartbeats 1000000 in
set_option maxRecDepth 100000 in
theorem durablyN (w : World) (v : Value) (o t k : Int) : Calls Tryz.prog 45 #[.pointer none, nt o t k, .func (.func 46) #[v] #[]] w fun e w' => e = .returned (.int .i64 1) ∧ Below w.heap.size w w' := by
  obtain ⟨w1, hw1⟩ : ∃ w1, w.alloc (.cells #[.int .i64 o, .int .i64 t, .int .i64 k] 60) = w1 := ⟨_, rfl⟩
  have hb1 : Below w.heap.size w w1 := by rw [← hw1]; exact al1 _ _
  have hn : NB w1 w.heap.size o t k := by rw [← hw1]; exact NB.new _ _ _ _
  have c0 := hn.c0
  have c1 := hn.c1
  have c2 := hn.c2
  have hr := raiseN w1 t
  unfold nt at *
  go_enter Tryz.func45, Tryz.ntmps45
  go_wp2_with (go_at_call 68; (with_reducible refine hr.mono ?_); rintro e u1 ⟨rfl, hu⟩)
  go_ret
  exact ⟨rfl, bel2 hb1 hu⟩
theorem defendN {w : World} {bp g : Nat} {l : List N3} (h : Bk w bp g l) (hbo : Bok l) (self : Int) {x : N3} (hx : dueN l self = some x) : Calls Tryz.prog 16 #[.pointer (some ⟨bp, 0, none⟩), .int .i64 self, .pointer none] w fun e w' => e = .returned (.tuple #[nt 0 0 0, .bool false, .int .i64 1]) ∧ Below w.heap.size w w' := by
  have hdu : ∀ W, Below w.heap.size w W → Calls Tryz.prog 44 #[.agg #[.pointer (some ⟨bp, 0, none⟩), .int .i64 self]] W fun e w' => e = .returned (dueV (some x)) ∧ Below W.heap.size W w' := fun W hW => by
    have := due_any (h.carry hW) hbo self
    rw [hx] at this
    exact this
  refine (defend_of (w := w) bp (.pointer none) self x 1 (fun W V => Below W.heap.size W V) ?_ hdu ?_).mono ?_
  · intro W V hW ht k hk1 hk2
    exact ht.block k hk2
  · intro W hW
    exact durablyN W _ _ _ _
  · rintro e w' ⟨rfl, W, V, hW, hV, hU⟩
    exact ⟨rfl, (bel2 hW hV).trans hU⟩
end Go.Proofs.YtlpmehmoeladjaaGreatDoor
namespace Go.Proofs.YtlpmehmoeladjaaGreatDoor
open Go.RowKit Go.Shelf Go.Lib

theorem valB_app : ∀ (a b : List Nat) (v : Nat), valB v (a ++ b) = valB (valB v a) b
  | [], _, _ => rfl
  | x :: a, b, v => valB_app a b (v * 256 + x)
set_option maxHeartbeats 4000000 in
theorem rMay_any (r : Rec) (w : World) : Calls Tryz.prog 55 #[rV r] w fun e w' => e = .returned (.bool (decide (May r))) ∧ Below w.heap.size w w' := by
  obtain ⟨a, b, c⟩ := r
  have hx0 : (w.alloc (.cells #[.int .i64 a, .int .i64 b, .int .i64 c] 35)).heap[w.heap.size]? = some (.cells #[.int .i64 a, .int .i64 b, .int .i64 c] 35 (0, 0)) := new_at rfl
  clear hx0
  unfold rV
  dsimp only
  by_cases h1 : 1 ≤ a
  case neg =>
    rw [decide_eq_false (show ¬ May ⟨a, b, c⟩ from fun q => h1 q.1.1)]
    go_enter Tryz.func55, Tryz.ntmps55
    go_wp2
    go_ret
    exact ⟨rfl, al1' _ _⟩
  by_cases h2 : a ≤ 1073741824
  case neg =>
    rw [decide_eq_false (show ¬ May ⟨a, b, c⟩ from fun q => h2 q.1.2)]
    go_enter Tryz.func55, Tryz.ntmps55
    go_wp2
    go_ret
    exact ⟨rfl, al1' _ _⟩
  by_cases h3 : 0 ≤ b
  case neg =>
    rw [decide_eq_false (show ¬ May ⟨a, b, c⟩ from fun q => h3 q.2.1.1)]
    go_enter Tryz.func55, Tryz.ntmps55
    go_wp2
    go_ret
    exact ⟨rfl, al1' _ _⟩
  by_cases h4 : b ≤ 1099511627775
  case neg =>
    rw [decide_eq_false (show ¬ May ⟨a, b, c⟩ from fun q => h4 q.2.1.2)]
    go_enter Tryz.func55, Tryz.ntmps55
    go_wp2
    go_ret
    exact ⟨rfl, al1' _ _⟩
  by_cases h5 : 0 ≤ c
  case neg =>
    rw [decide_eq_false (show ¬ May ⟨a, b, c⟩ from fun q => h5 q.2.2.1)]
    go_enter Tryz.func55, Tryz.ntmps55
    go_wp2
    go_ret
    exact ⟨rfl, al1' _ _⟩
  by_cases h6 : c ≤ 1048576
  case neg =>
    rw [decide_eq_false (show ¬ May ⟨a, b, c⟩ from fun q => h6 q.2.2.2)]
    go_enter Tryz.func55, Tryz.ntmps55
    go_wp2
    go_ret
    exact ⟨rfl, al1' _ _⟩
  case pos =>
    rw [decide_eq_true (show May ⟨a, b, c⟩ from ⟨⟨h1, h2⟩, ⟨h3, h4⟩, h5, h6⟩)]
    go_enter Tryz.func55, Tryz.ntmps55
    go_wp2
    go_ret
    exact ⟨rfl, al1' _ _⟩
set_option maxHeartbeats 2000000 in
set_option maxRecDepth 100000 in
theorem rlay_any (w : World) (g at' n cap v : Nat) (ty : TypeId) (L : List Nat) (hg : w.heap[g]? = some (.cells (cB L).toArray ty (0, 0))) (hL : L.length = 64) (ho : at' + n ≤ 64) (hn : n ≤ 8) : Calls Tryz.prog 78 #[.slice (some ⟨g, 0, none⟩) 64 cap, .int .i64 (at' : Int), .int .i64 (n : Int), .int .i64 (v : Int)] w fun e w' => e = .returned (.tuple #[]) ∧ w'.heap[g]? = some (.cells (cB (splice L at' (numB v n))).toArray ty (0, 0)) ∧ Tp g w w' := by
  go_enter Tryz.func78, Tryz.ntmps78
  go_wp2
  go_loopw [8] (fun i wz => ∃ (k : Nat) (C : List Nat), i = .int .i64 k ∧ k ≤ n ∧ Hid (C = splice L at' ((numB v n).take k)) ∧ C.length = 64 ∧ wz.heap[g]? = some (.cells (cB C).toArray ty (0, 0)) ∧ Tp g w wz) (fun i _ => n - vnatZ i)
  case atStart => exact ⟨0, L, rfl, Nat.zero_le _, by show L = _; rw [List.take_zero, splice_nil], hL, hg, Tp.of _ (Below.refl _ _)⟩
  case round =>
    obtain ⟨k, C, rfl, hk, HC, hCl, hgz, ht⟩ := hrel
    by_cases hkl : k < n
    · have hki : (k : Int) < (n : Int) := by omega
      obtain ⟨j, hj⟩ : ∃ j, n - 1 - k = j := ⟨_, rfl⟩
      have hget := numB_get v n k hkl
      rw [hj] at hget
      have HN : Hid (C.set (at' + k) (v / 2 ^ (8 * j) % 256) = splice L at' ((numB v n).take (k + 1))) := by
        show C.set (at' + k) (v / 2 ^ (8 * j) % 256) = splice L at' ((numB v n).take (k + 1))
        rw [HC.out]
        exact splice_step hget (by rw [numB_len]; omega)
      have h8 : (8 : Int) * ((n : Int) - 1 - (k : Int)) = ((8 * j : Nat) : Int) := by omega
      have hby := byte_of v (8 * j)
      obtain ⟨D, hD⟩ : ∃ D : Nat, D = v / 2 ^ (8 * j) % 256 := ⟨_, rfl⟩
      rw [← hD] at hby HN hget
      clear hD HC
      obtain ⟨q, hq⟩ : ∃ q, at' + k = q := ⟨_, rfl⟩
      obtain ⟨x, hx⟩ := get_lt (l := C) (k := q) (by omega)
      have c0 : wr.cell? ⟨g, q, none⟩ = some (.int .u8 (x : Int)) := by rw [cell_at hgz, List.getElem?_toArray]; exact cB_get hx
      have z0 := thaw_at hgz q
      have hz1 : (at' : Int) + (k : Int) = (q : Int) := by omega
      have hz2 : (q : Int) < 64 := by omega
      rw [hq] at HN
      clear hget hq
      go_wp2
      go_roundw
      case rel =>
        refine ⟨k + 1, C.set q D, by simp, by omega, HN, by simp [hCl], ?_, ht.trans (Tp.set _ _ _ _)⟩
        rw [heap_setCell_same _ _ _ _ _ _ hgz, List.setIfInBounds_toArray]
        simp [cB, List.map_set]
      case measure => simp [vnatZ]; omega
    · have hkk : k = n := by omega
      subst hkk
      have hki : ¬ ((k : Int) < (k : Int)) := by omega
      have HE : Hid (C = splice L at' (numB v k)) := by have := HC.out; rw [List.take_of_length_le (by rw [numB_len]; omega)] at this; exact this
      clear HC
      go_wp2
      go_end0
      exact ⟨rfl, by rw [← HE.out]; exact hgz, ht⟩
set_option maxHeartbeats 2000000 in
set_option maxRecDepth 100000 in
theorem rvalue_any (ad : Option Addr) (cap at' n : Nat) (l : List Nat) (w : World) (h : RdB w ad l) (hb : Byt l) (hl : l.length = 64) (ho : at' + n ≤ 64) (hn : n ≤ 8) (hv : ∀ k, k < n → valB 0 (((l.drop at').take n).take k) < 36028797018963968) : Calls Tryz.prog 95 #[.slice ad 64 cap, .int .i64 (at' : Int), .int .i64 (n : Int)] w fun e w' => e = .returned (.int .i64 ((valB 0 ((l.drop at').take n) : Nat) : Int)) ∧ w' = w := by
  obtain ⟨g, off, e1, hbl, hat⟩ := h (fun e => by subst e; simp at hl)
  subst e1
  obtain ⟨X, hX⟩ : ∃ X, (l.drop at').take n = X := ⟨_, rfl⟩
  have hXl : X.length = n := by rw [← hX, List.length_take, List.length_drop]; omega
  have hXb : Byt X := by rw [← hX]; exact (hb.drop _).take _
  have hXa : ∀ (k x : Nat), X[k]? = some x → w.cell? ⟨g, off + (at' + k), none⟩ = some (.int .u8 (x : Int)) := fun k x hk => by
    have hk2 : k < X.length := (List.getElem?_eq_some_iff.1 hk).1
    rw [← hX, List.getElem?_take_of_lt (by omega), List.getElem?_drop] at hk
    exact hat _ _ hk
  rw [hX] at hv ⊢
  clear hX hat
  go_enter Tryz.func95, Tryz.ntmps95
  go_wp2
  go_loopw [7, 8] (fun p i wz => ∃ (k a : Nat), p = .int .i64 (a : Int) ∧ i = .int .i64 k ∧ k ≤ n ∧ Hid (a = valB 0 (X.take k)) ∧ wz = w) (fun _ i _ => n - vnatZ i)
  case atStart => exact ⟨0, 0, rfl, rfl, Nat.zero_le _, rfl, rfl⟩
  case round =>
    obtain ⟨k, a, rfl, rfl, hk, HA, rfl⟩ := hrel
    by_cases hkl : k < n
    · have hki : (k : Int) < (n : Int) := by omega
      obtain ⟨x, hx⟩ := get_lt (l := X) (k := k) (by omega)
      have c0 := hXa k x hx
      have hx8 := byt_get8 hXb hx
      have ha : a < 36028797018963968 := by rw [HA.out]; exact hv k hkl
      have HN : Hid (a * 256 + x = valB 0 (X.take (k + 1))) := by
        obtain ⟨hlt, rfl⟩ := List.getElem?_eq_some_iff.1 hx
        show a * 256 + X[k] = _
        rw [HA.out, ← List.take_append_getElem hlt, valB_app]
        rfl
      obtain ⟨q, hq⟩ : ∃ q, at' + k = q := ⟨_, rfl⟩
      rw [hq] at c0
      have hz1 : (at' : Int) + (k : Int) = (q : Int) := by omega
      have hz2 : (q : Int) < 64 := by omega
      clear HA hv hq hx
      go_wp2
      go_roundw
      case rel => exact ⟨k + 1, a * 256 + x, by simp, by simp, by omega, HN, trivial⟩
      case measure => simp [vnatZ]; omega
    · have hkk : k = n := by omega
      subst hkk
      have hki : ¬ ((k : Int) < (k : Int)) := by omega
      have HE : Hid (a = valB 0 X) := by have := HA.out; rw [List.take_of_length_le (by omega)] at this; exact this
      clear HA hv
      go_wp2
      go_ret
      exact ⟨by rw [← HE.out]; rfl, rfl⟩
/-- While the document lays a slot's bytes. -/
def JE (w : World) (g : Nat) (E : Array Value) (L : List Nat) (V : World) : Prop := V.heap[w.heap.size]? = some (.cells E 35 (0, 0)) ∧ V.heap[g]? = some (.cells (cB L).toArray 5 (0, 0)) ∧ L.length = 64 ∧ w.heap.size < g ∧ Below w.heap.size w V
theorem JE.lay {w V : World} {g : Nat} {E : Array Value} {L : List Nat} (h : JE w g E L V) (off n cap v : Nat) (ho : off + n ≤ 64) (hn : n ≤ 8) : Calls Tryz.prog 78 #[.slice (some ⟨g, 0, none⟩) 64 cap, .int .i64 (off : Int), .int .i64 (n : Int), .int .i64 (v : Int)] V fun e V' => e = .returned (.tuple #[]) ∧ JE w g E (splice L off (numB v n)) V' := by
  obtain ⟨h1, h2, h3, h4, h5⟩ := h
  refine (rlay_any V g off n cap v _ L h2 h3 ho hn).mono ?_
  rintro e V' ⟨rfl, hg, ht⟩
  exact ⟨rfl, (ht.block _ (lt_at h1) (by omega)).trans h1, hg, (length_splice _ _ _ (by rw [numB_len]; omega)).trans h3, h4, h5.trans (ht.below (by omega) h5.size)⟩
theorem JE.c {w V : World} {g : Nat} {E : Array Value} {L : List Nat} (h : JE w g E L V) (k : Nat) (x : Value) (hk : E[k]? = some x) : V.cell? ⟨w.heap.size, k, none⟩ = some x := by
  rw [cell_at h.1]
  exact hk
theorem JE.copy {w V : World} {g : Nat} {E : Array Value} {L : List Nat} (h : JE w g E L V) (off n cap m : Nat) (s : ByteArray) (hs : s.size = 4) (hn : 4 ≤ n) (ho : off + 4 ≤ 64) (hd : byteCells s.data.toList = cB (numB m 4)) : ∃ V', (Builtin.copy_ #[26, 9] 3 #[.slice (some ⟨g, off, none⟩) n cap, .string s]).run Tryz.prog V = .ok (goInt 4) V' ∧ JE w g E (splice L off (numB m 4)) V' := by
  obtain ⟨h1, h2, h3, h4, h5⟩ := h
  have hr := run_copy_row_string (P := Tryz.prog) V 26 9 3 5 g off n cap s (cB L).toArray 5 Tryz.underlying26 infoB1 h2 (by omega) (by rw [List.size_toArray, cB_len, hs]; omega)
  rw [hd, hs] at hr
  refine ⟨_, hr, (setRow_other _ _ _ _ (by omega)).trans h1, (setRow_heap _ _ _ _ _ _ h2).trans ?_, (length_splice _ _ _ (by rw [numB_len]; omega)).trans h3, h4, below_setRow h5 (by omega) _⟩
  simp [splice, cB, numB_len, List.map_take, List.map_drop]
theorem mk64 (w : World) : (Instr.makeSlice 26 (.int .i64 64) (.int .i64 64)).run Tryz.prog w = .ok (.slice (some ⟨w.heap.size, 0, none⟩) 64 64) (w.alloc (.cells (cB z64).toArray 5)) := by kernel_rfl
set_option maxHeartbeats 4000000 in
set_option maxRecDepth 100000 in
theorem rEnc_any (r : Rec) (s : Int) (w : World) : Calls Tryz.prog 56 #[rV r, .int .i64 s] w fun e w' => (Fit r s → ∃ g, e = .returned (.tuple #[.slice (some ⟨g, 0, none⟩) 64 64, .int .i64 0]) ∧ w.heap.size ≤ g ∧ w'.heap[g]? = some (.cells (cB (slB r s)).toArray 5 (0, 0))) ∧ (¬ Fit r s → e = .returned (.tuple #[.slice none 0 0, .int .i64 1])) ∧ Below w.heap.size w w' := by
  have hmy := rMay_any r
  unfold rV at hmy ⊢
  by_cases hm : May r
  case neg =>
    rw [decide_eq_false hm] at hmy
    have hf : ¬ Fit r s := fun q => hm q.1
    go_enter Tryz.func56, Tryz.ntmps56
    go_wp2_with (go_at_call 55; (with_reducible refine (hmy _).mono ?_); rintro e u1 ⟨rfl, hu1⟩)
    go_ret2
    exact ⟨fun q => absurd q hf, fun _ => rfl, bel2Z (al1' _ _) hu1⟩
  rw [decide_eq_true hm] at hmy
  by_cases h1 : 1 ≤ s
  case neg =>
    have hf : ¬ Fit r s := fun q => h1 q.2.1
    have h1i : s < 1 := by omega
    go_enter Tryz.func56, Tryz.ntmps56
    go_wp2_with (go_at_call 55; (with_reducible refine (hmy _).mono ?_); rintro e u1 ⟨rfl, hu1⟩)
    go_ret2
    exact ⟨fun q => absurd q hf, fun _ => rfl, bel2Z (al1' _ _) hu1⟩
  have h1i : ¬ s < 1 := by omega
  by_cases h2 : s ≤ 1099511627776
  case neg =>
    have hf : ¬ Fit r s := fun q => h2 q.2.2
    have h2i : s > 1099511627776 := by omega
    go_enter Tryz.func56, Tryz.ntmps56
    go_wp2_with (go_at_call 55; (with_reducible refine (hmy _).mono ?_); rintro e u1 ⟨rfl, hu1⟩)
    go_ret2
    exact ⟨fun q => absurd q hf, fun _ => rfl, bel2Z (al1' _ _) hu1⟩
  have h2i : ¬ s > 1099511627776 := by omega
  have hf : Fit r s := ⟨hm, h1, h2⟩
  obtain ⟨⟨a1, a2⟩, ⟨b1, b2⟩, c1, c2⟩ := hm
  obtain ⟨ra, rb, rc⟩ := r
  dsimp only at a1 a2 b1 b2 c1 c2 hmy ⊢
  obtain ⟨a, rfl⟩ := Int.eq_ofNat_of_zero_le (show 0 ≤ ra by omega)
  obtain ⟨b, rfl⟩ := Int.eq_ofNat_of_zero_le (show 0 ≤ rb by omega)
  obtain ⟨c, rfl⟩ := Int.eq_ofNat_of_zero_le (show 0 ≤ rc by omega)
  obtain ⟨s, rfl⟩ := Int.eq_ofNat_of_zero_le (show 0 ≤ s by omega)
  have HSL : Hid (slB ⟨(a : Int), (b : Int), (c : Int)⟩ (s : Int) = slN a b c s) := by show slN _ _ _ _ = _; simp
  have HF : Hid (Fit ⟨(a : Int), (b : Int), (c : Int)⟩ (s : Int)) := hf
  clear hf a1 a2 b1 b2 c1 c2
  have hmk := mk64
  obtain ⟨Z, hZ⟩ : ∃ Z, (cB z64).toArray = Z := ⟨_, rfl⟩
  rw [hZ] at hmk
  obtain ⟨E, hE⟩ : ∃ E : Array Value, #[.int .i64 (a : Int), .int .i64 (b : Int), .int .i64 (c : Int)] = E := ⟨_, rfl⟩
  simp only [hE] at hmy
  obtain ⟨w1, hw1⟩ : ∃ w1, w.alloc (.cells E 35) = w1 := ⟨_, rfl⟩
  have hb1 : Below w.heap.size w w1 := by rw [← hw1]; exact al1' _ _
  have hg1 : w1.heap[w.heap.size]? = some (.cells E 35 (0, 0)) := by rw [← hw1]; exact new_at rfl
  have e0 : E[0]? = some (.int .i64 (a : Int)) := by rw [← hE]; rfl
  have e1 : E[1]? = some (.int .i64 (b : Int)) := by rw [← hE]; rfl
  have e2 : E[2]? = some (.int .i64 (c : Int)) := by rw [← hE]; rfl
  have HE0 : Hid (E[0]? = some (.int .i64 (a : Int))) := e0
  have HE1 : Hid (E[1]? = some (.int .i64 (b : Int))) := e1
  have HE2 : Hid (E[2]? = some (.int .i64 (c : Int))) := e2
  have x0 : w1.cell? ⟨w.heap.size, 0, none⟩ = some (.int .i64 (a : Int)) := by rw [cell_at hg1]; exact e0
  have x1 : w1.cell? ⟨w.heap.size, 1, none⟩ = some (.int .i64 (b : Int)) := by rw [cell_at hg1]; exact e1
  have x2 : w1.cell? ⟨w.heap.size, 2, none⟩ = some (.int .i64 (c : Int)) := by rw [cell_at hg1]; exact e2
  clear e0 e1 e2
  go_enter Tryz.func56, Tryz.ntmps56
  go_wp2_with (first | (go_at_call 55; (with_reducible refine (hmy _).mono ?_); rintro e u1 ⟨rfl, hu1⟩; obtain ⟨u2, hu2⟩ : ∃ u2, u1.alloc (.cells Z 5) = u2 := ⟨_, rfl⟩; have j0 : JE w u1.heap.size E z64 u2 := (by rw [← hu2, ← hZ]; exact ⟨old_at ((hu1.block _ (lt_at hg1)).trans hg1), new_at rfl, by simp [z64], Nat.lt_of_lt_of_le (lt_at hg1) hu1.size, bel2Z (bel2Z hb1 hu1) (al1' _ _)⟩); obtain ⟨v1, hcp, j1⟩ := j0.copy 0 64 64 1700885041 ⟨#[101, 97, 114, 49]⟩ rfl (by omega) (by omega) rfl; have hl1 : Calls Tryz.prog 78 #[.slice (some ⟨u1.heap.size, 0, none⟩) 64 64, .int .i64 4, .int .i64 8, .int .i64 (s : Int)] v1 (fun e V' => e = .returned (.tuple #[]) ∧ JE w u1.heap.size E (splice (splice z64 0 (numB 1700885041 4)) 4 (numB s 8)) V') := j1.lay 4 8 64 s (by omega) (by omega)) | (go_at_call 78; (with_reducible refine hl1.mono ?_); rintro e v2 ⟨rfl, j2⟩; clear hl1; have y0 := j2.c 0 _ HE0.out; have y1 := j2.c 1 _ HE1.out; have hl2 : Calls Tryz.prog 78 #[.slice (some ⟨u1.heap.size, 0, none⟩) 64 64, .int .i64 12, .int .i64 4, .int .i64 (a : Int)] v2 (fun e V' => e = .returned (.tuple #[]) ∧ JE w u1.heap.size E (splice (splice (splice z64 0 (numB 1700885041 4)) 4 (numB s 8)) 12 (numB a 4)) V') := j2.lay 12 4 64 a (by omega) (by omega)) | (go_at_call 78; (with_reducible refine hl2.mono ?_); rintro e v3 ⟨rfl, j3⟩; clear hl2; have y2 := j3.c 0 _ HE0.out; have y3 := j3.c 1 _ HE1.out; have hl3 : Calls Tryz.prog 78 #[.slice (some ⟨u1.heap.size, 0, none⟩) 64 64, .int .i64 16, .int .i64 5, .int .i64 (b : Int)] v3 (fun e V' => e = .returned (.tuple #[]) ∧ JE w u1.heap.size E (splice (splice (splice (splice z64 0 (numB 1700885041 4)) 4 (numB s 8)) 12 (numB a 4)) 16 (numB b 5)) V') := j3.lay 16 5 64 b (by omega) (by omega)) | (go_at_call 78; (with_reducible refine hl3.mono ?_); rintro e v4 ⟨rfl, j4⟩; clear hl3; obtain ⟨v5, hcq, j5⟩ := j4.copy 32 32 32 1700885042 ⟨#[101, 97, 114, 50]⟩ rfl (by omega) (by omega) rfl; have hl4 : Calls Tryz.prog 78 #[.slice (some ⟨u1.heap.size, 0, none⟩) 64 64, .int .i64 36, .int .i64 8, .int .i64 (s : Int)] v5 (fun e V' => e = .returned (.tuple #[]) ∧ JE w u1.heap.size E (splice (splice (splice (splice (splice (splice z64 0 (numB 1700885041 4)) 4 (numB s 8)) 12 (numB a 4)) 16 (numB b 5)) 32 (numB 1700885042 4)) 36 (numB s 8)) V') := j5.lay 36 8 64 s (by omega) (by omega)) | (go_at_call 78; (with_reducible refine hl4.mono ?_); rintro e v6 ⟨rfl, j6⟩; clear hl4; have y4 := j6.c 2 _ HE2.out; have hl5 : Calls Tryz.prog 78 #[.slice (some ⟨u1.heap.size, 0, none⟩) 64 64, .int .i64 44, .int .i64 3, .int .i64 (c : Int)] v6 (fun e V' => e = .returned (.tuple #[]) ∧ JE w u1.heap.size E (splice (splice (splice (splice (splice (splice (splice z64 0 (numB 1700885041 4)) 4 (numB s 8)) 12 (numB a 4)) 16 (numB b 5)) 32 (numB 1700885042 4)) 36 (numB s 8)) 44 (numB c 3)) V') := j6.lay 44 3 64 c (by omega) (by omega)) | (go_at_call 78; (with_reducible refine hl5.mono ?_); rintro e v7 ⟨rfl, j7⟩; clear hl5; skip))
  go_ret2
  have hfin : JE w u1.heap.size E (slN a b c s) v7 := j7
  exact ⟨fun _ => ⟨_, rfl, Nat.le_of_lt hfin.2.2.2.1, by rw [HSL.out]; exact hfin.2.1⟩, fun q => absurd HF.out q, hfin.2.2.2.2⟩
end Go.Proofs.YtlpmehmoeladjaaGreatDoor
namespace Go.Proofs.YtlpmehmoeladjaaGreatDoor
open Go.RowKit Go.Shelf Go.Lib

section
variable {l : List Nat}
theorem val_pre {X : List Nat} (hb : Byt X) (hl : X.length ≤ 5) (k : Nat) : valB 0 (X.take k) < 36028797018963968 := by
  have h1 := valB_lt (X.take k) (hb.take k)
  have h2 : 2 ^ (8 * (X.take k).length) ≤ 2 ^ (8 * 5) := Nat.pow_le_pow_right (by decide) (by rw [List.length_take]; omega)
  omega
theorem eight (hl : l.length = 64) : ∃ y Y, (l.drop 4).take 8 = y :: Y ∧ Y.length = 7 ∧ l[4]? = some y := by
  have h4 : 4 < l.length := by omega
  refine ⟨l[4], (l.drop 5).take 7, ?_, ?_, List.getElem?_eq_getElem h4⟩
  · rw [List.drop_eq_getElem_cons h4]
    rfl
  · rw [List.length_take, List.length_drop]
    omega
theorem val_eight {y : Nat} {Y : List Nat} (hb : Byt (y :: Y)) (hY : Y.length = 7) : valB 0 (y :: Y) = y * 72057594037927936 + valB 0 Y ∧ valB 0 Y < 72057594037927936 := by
  have h1 := valB_lt Y hb.tail
  rw [hY] at h1
  have h2 := valB_acc Y (0 * 256 + y)
  rw [hY] at h2
  refine ⟨?_, h1⟩
  show valB (0 * 256 + y) Y = _
  rw [h2, Nat.zero_mul, Nat.zero_add]
theorem say_top (hl : l.length = 64) (hB : Byt l) {y : Nat} (h : l[4]? = some y) (hy : y ≠ 0) : say l = none := by
  obtain ⟨y', Y, e1, e2, e3⟩ := eight hl
  rw [h] at e3
  cases e3
  have hb : Byt (y :: Y) := by rw [← e1]; exact (hB.drop 4).take 8
  obtain ⟨e4, e5⟩ := val_eight hb e2
  have hy8 := hb.head
  unfold say
  rw [if_neg]
  rintro ⟨⟨_, q1, q2⟩, _⟩
  unfold rdS at q1 q2
  rw [e1, e4, IntKind.wrap_i64] at q1 q2
  omega
theorem rdS_low (hl : l.length = 64) (hB : Byt l) (h : l[4]? = some 0) : rdS l = ((valB 0 ((l.drop 4).take 8) : Nat) : Int) ∧ ∀ k, k < 8 → valB 0 (((l.drop 4).take 8).take k) < 36028797018963968 := by
  obtain ⟨y', Y, e1, e2, e3⟩ := eight hl
  rw [h] at e3
  cases e3
  have hb : Byt (0 :: Y) := by rw [← e1]; exact (hB.drop 4).take 8
  obtain ⟨e4, e5⟩ := val_eight hb e2
  refine ⟨?_, fun k hk => ?_⟩
  · unfold rdS
    rw [e1, e4]
    exact i64_id _ (by omega) (by omega)
  · rw [e1]
    cases k with
    | zero => simp [valB]
    | succ k =>
      rw [List.take_succ_cons]
      show valB (0 * 256 + 0) (Y.take k) < _
      have h1 := valB_lt (Y.take k) (hb.tail.take k)
      have h2 : 2 ^ (8 * (Y.take k).length) ≤ 2 ^ (8 * 6) := Nat.pow_le_pow_right (by decide) (by rw [List.length_take]; omega)
      show valB 0 (Y.take k) < _
      omega
end
set_option maxHeartbeats 4000000 in
set_option maxRecDepth 100000 in
theorem rdec_len (ad : Option Addr) (cap n : Nat) (w : World) (hn : ¬ n = 64) : Calls Tryz.prog 77 #[.slice ad n cap] w fun e w' => e = .returned (.tuple #[.agg r0A, .int .i64 0, .int .i64 102]) ∧ Below w.heap.size w w' := by
  have hni : ¬ (n : Int) = 64 := by omega
  obtain ⟨w1, hw1⟩ : ∃ w1, w.alloc (.cells #[.int .i64 0, .int .i64 0, .int .i64 0] 35) = w1 := ⟨_, rfl⟩
  have hb1 : Below w.heap.size w w1 := by rw [← hw1]; exact al1' _ _
  have hg1 : w1.heap[w.heap.size]? = some (.cells #[.int .i64 0, .int .i64 0, .int .i64 0] 35 (0, 0)) := by rw [← hw1]; exact new_at rfl
  go_enter Tryz.func77, Tryz.ntmps77
  go_wp2_with (refine wpList_store_row rfl 35 (.tmp 2) (.tmp 13) rfl w.heap.size #[.int .i64 0, .int .i64 0, .int .i64 0] rfl rfl 35 _ hg1 infoR rfl (by simp [Value.oneCell']) ?_; obtain ⟨v, hv⟩ : ∃ v, w1.setRow w.heap.size #[.int .i64 0, .int .i64 0, .int .i64 0] = v := ⟨_, rfl⟩; have HV : Hid (v.heap[w.heap.size]? = some (.cells #[.int .i64 0, .int .i64 0, .int .i64 0] 35 (0, 0))) := (by rw [← hv]; exact setRow_heap _ _ _ _ _ _ hg1); have HB : Hid (Below w.heap.size w v) := (by rw [← hv]; exact below_setRow hb1 (Nat.le_refl _) _); rw [hv])
  (try simp only [Exit.inBlock, Exit.then])
  exact retC3 rfl rfl rfl rfl rfl HV.out undR infoR ⟨rfl, HB.out⟩
/-- While the document reads a slot's bytes. -/
def JD (w : World) (r : Rec) (V : World) : Prop := V.heap[w.heap.size]? = some (.cells #[.int .i64 0, .int .i64 0, .int .i64 0] 35 (0, 0)) ∧ V.heap[w.heap.size + 1]? = some (.cells #[.int .i64 r.li, .int .i64 r.ro, .int .i64 r.ta] 35 (0, 0)) ∧ Below w.heap.size w V
theorem JD.carry {w V V' : World} {r : Rec} (h : JD w r V) (hb : Below V.heap.size V V') : JD w r V' := ⟨(hb.block _ (lt_at h.1)).trans h.1, (hb.block _ (lt_at h.2.1)).trans h.2.1, bel2Z h.2.2 hb⟩
set_option maxHeartbeats 8000000 in
set_option maxRecDepth 100000 in
theorem rdec_any (ad : Option Addr) (cap : Nat) (l : List Nat) (w : World) (h : RdB w ad l) (hl : l.length = 64) (hB : Byt l) : Calls Tryz.prog 77 #[.slice ad 64 cap] w fun e w' => e = .returned (decV (say l)) ∧ Below w.heap.size w w' := by
  have hmx : Tryz.prog.follows .mixedOrders = true := by kernel_rfl
  obtain ⟨w1, hw1⟩ : ∃ w1, w.alloc (.cells #[.int .i64 0, .int .i64 0, .int .i64 0] 35) = w1 := ⟨_, rfl⟩
  have hb1 : Below w.heap.size w w1 := by rw [← hw1]; exact al1' _ _
  have hg1 : w1.heap[w.heap.size]? = some (.cells #[.int .i64 0, .int .i64 0, .int .i64 0] 35 (0, 0)) := by rw [← hw1]; exact new_at rfl
  have hs1 : w1.heap.size = w.heap.size + 1 := by rw [← hw1]; simp
  have h1 := h.carry hb1
  have n1 : Calls Tryz.prog 95 #[.slice ad 64 cap, .int .i64 12, .int .i64 4] w1 (fun e w' => e = .returned (.int .i64 (rdR l).li) ∧ w' = w1) := rvalue_any ad cap 12 4 l w1 h1 hB hl (by omega) (by omega) (fun k _ => val_pre ((hB.drop _).take _) (by rw [List.length_take]; omega) k)
  have n2 : Calls Tryz.prog 95 #[.slice ad 64 cap, .int .i64 16, .int .i64 5] w1 (fun e w' => e = .returned (.int .i64 (rdR l).ro) ∧ w' = w1) := rvalue_any ad cap 16 5 l w1 h1 hB hl (by omega) (by omega) (fun k _ => val_pre ((hB.drop _).take _) (by rw [List.length_take]; omega) k)
  have n3 : Calls Tryz.prog 95 #[.slice ad 64 cap, .int .i64 44, .int .i64 3] w1 (fun e w' => e = .returned (.int .i64 (rdR l).ta) ∧ w' = w1) := rvalue_any ad cap 44 3 l w1 h1 hB hl (by omega) (by omega) (fun k _ => val_pre ((hB.drop _).take _) (by rw [List.length_take]; omega) k)
  obtain ⟨r, hr⟩ : ∃ r, rdR l = r := ⟨_, rfl⟩
  rw [hr] at n1 n2 n3
  obtain ⟨w2, hw2⟩ : ∃ w2, w1.alloc (.cells #[.int .i64 r.li, .int .i64 r.ro, .int .i64 r.ta] 35) = w2 := ⟨_, rfl⟩
  have hj2 : JD w r w2 := by
    rw [← hw2]
    exact ⟨old_at hg1, by rw [← hs1]; exact new_at rfl, bel2Z hb1 (al1' _ _)⟩
  obtain ⟨y, hy⟩ := get_lt (l := l) (k := 4) (by omega)
  have h2 := h.carry hj2.2.2
  obtain ⟨bb, off, e1, hbl, hat⟩ := h2 (fun e => by subst e; simp at hl)
  subst e1
  have c4 := hat 4 y hy
  by_cases hy0 : y = 0
  case neg =>
    have hsn := say_top hl hB hy hy0
    have hyi : ¬ (y : Int) = 0 := by omega
    rw [hsn]
    clear hat h h1 h2
    go_enter Tryz.func77, Tryz.ntmps77
    go_wp2_with (first | (go_at_call 95; (with_reducible refine n1.mono ?_); rintro e v ⟨rfl, hv⟩; obtain rfl := hv.symm) | (go_at_call 95; (with_reducible refine n2.mono ?_); rintro e v ⟨rfl, hv⟩; obtain rfl := hv.symm) | (go_at_call 95; (with_reducible refine n3.mono ?_); rintro e v ⟨rfl, hv⟩; obtain rfl := hv.symm) | (refine wpList_store_row rfl 35 (.tmp 2) (.tmp 25) rfl w.heap.size #[.int .i64 0, .int .i64 0, .int .i64 0] rfl rfl 35 _ hj2.1 infoR rfl (by simp [Value.oneCell']) ?_; obtain ⟨v, hv⟩ : ∃ v, w2.setRow w.heap.size #[.int .i64 0, .int .i64 0, .int .i64 0] = v := ⟨_, rfl⟩; have HV : Hid (v.heap[w.heap.size]? = some (.cells #[.int .i64 0, .int .i64 0, .int .i64 0] 35 (0, 0))) := (by rw [← hv]; exact setRow_heap _ _ _ _ _ _ hj2.1); have HB : Hid (Below w.heap.size w v) := (by rw [← hv]; exact below_setRow hj2.2.2 (Nat.le_refl _) _); rw [hv]))
    (try simp only [Exit.inBlock, Exit.then])
    exact retC3 rfl rfl rfl rfl rfl HV.out undR infoR ⟨rfl, HB.out⟩
  subst hy0
  obtain ⟨hs0, hvs⟩ := rdS_low hl hB hy
  have n4 : Calls Tryz.prog 95 #[.slice (some ⟨bb, off, none⟩) 64 cap, .int .i64 4, .int .i64 8] w2 (fun e w' => e = .returned (.int .i64 ((valB 0 ((l.drop 4).take 8) : Nat) : Int)) ∧ w' = w2) := rvalue_any _ cap 4 8 l w2 h2 hB hl (by omega) (by omega) hvs
  rw [← hs0] at n4
  obtain ⟨s, hs⟩ : ∃ s, rdS l = s := ⟨_, rfl⟩
  rw [hs] at n4
  have HS : Hid (say l = if Fit r s ∧ slB r s = l then some (r, s) else none) := by show say l = _; rw [← hr, ← hs]; rfl
  have he := rEnc_any r s w2
  unfold rV at he
  clear hs0 hvs hs hr h h1 h2 hy
  by_cases hf : Fit r s
  case neg =>
    have HN : Hid (say l = none) := by show say l = none; rw [HS.out, if_neg (fun q => hf q.1)]
    clear HS hat
    go_enter Tryz.func77, Tryz.ntmps77
    go_wp2_with (first | (go_at_call 95; (with_reducible refine n1.mono ?_); rintro e v ⟨rfl, hv⟩; obtain rfl := hv.symm) | (go_at_call 95; (with_reducible refine n2.mono ?_); rintro e v ⟨rfl, hv⟩; obtain rfl := hv.symm) | (go_at_call 95; (with_reducible refine n3.mono ?_); rintro e v ⟨rfl, hv⟩; obtain rfl := hv.symm) | (go_at_call 95; (with_reducible refine n4.mono ?_); rintro e v ⟨rfl, hv⟩; obtain rfl := hv.symm) | (refine wpList_load_row rfl 35 (.tmp 5) rfl (w.heap.size + 1) rfl 35 _ (0, 0) _ hj2.2.1 undR rfl infoR ?_) | (go_at_call 56; (with_reducible refine he.mono ?_); rintro e W3 ⟨-, hno, hu3⟩; obtain rfl := hno hf; have hj3 := hj2.carry hu3) | (refine wpList_store_row rfl 35 (.tmp 2) (.tmp 36) rfl w.heap.size #[.int .i64 0, .int .i64 0, .int .i64 0] rfl rfl 35 _ hj3.1 infoR rfl (by simp [Value.oneCell']) ?_; obtain ⟨v, hv⟩ : ∃ v, W3.setRow w.heap.size #[.int .i64 0, .int .i64 0, .int .i64 0] = v := ⟨_, rfl⟩; have HV : Hid (v.heap[w.heap.size]? = some (.cells #[.int .i64 0, .int .i64 0, .int .i64 0] 35 (0, 0))) := (by rw [← hv]; exact setRow_heap _ _ _ _ _ _ hj3.1); have HB : Hid (Below w.heap.size w v) := (by rw [← hv]; exact below_setRow hj3.2.2 (Nat.le_refl _) _); rw [hv]))
    (try simp only [Exit.inBlock, Exit.then])
    exact retC3 rfl rfl rfl rfl rfl HV.out undR infoR ⟨by rw [HN.out]; rfl, HB.out⟩
  have hSl := slB_len r s
  obtain ⟨S, hS⟩ : ∃ S, slB r s = S := ⟨_, rfl⟩
  rw [hS] at he hSl
  have HS2 : Hid (say l = if S = l then some (r, s) else none) := by
    show say l = _
    rw [HS.out, hS]
    by_cases q : S = l
    · rw [if_pos q, if_pos ⟨hf, q⟩]
    · rw [if_neg q, if_neg (fun z => q z.2)]
  clear HS hS
  go_enter Tryz.func77, Tryz.ntmps77
  go_wp2_with (first | (go_at_call 95; (with_reducible refine n1.mono ?_); rintro e v ⟨rfl, hv⟩; obtain rfl := hv.symm) | (go_at_call 95; (with_reducible refine n2.mono ?_); rintro e v ⟨rfl, hv⟩; obtain rfl := hv.symm) | (go_at_call 95; (with_reducible refine n3.mono ?_); rintro e v ⟨rfl, hv⟩; obtain rfl := hv.symm) | (go_at_call 95; (with_reducible refine n4.mono ?_); rintro e v ⟨rfl, hv⟩; obtain rfl := hv.symm) | (refine wpList_load_row rfl 35 (.tmp 5) rfl (w.heap.size + 1) rfl 35 _ (0, 0) _ hj2.2.1 undR rfl infoR ?_) | (go_at_call 56; (with_reducible refine he.mono ?_); rintro e W3 ⟨hyes, -, hu3⟩; obtain ⟨g3, rfl, hg3, hI3⟩ := hyes hf; have hj3 := hj2.carry hu3; have hat3 : BAt W3 bb off l := hat.carry (hu3.block bb hbl); have hbl3 : bb < W3.heap.size := Nat.lt_of_lt_of_le hbl hu3.size))
  go_loopw [9] (fun i wz => ∃ k : Nat, i = .int .i64 (k : Int) ∧ k ≤ 64 ∧ Hid (∀ j, j < k → l[j]? = S[j]?) ∧ Below W3.heap.size W3 wz) (fun i _ => 64 - vnatZ i)
  case atStart => exact ⟨0, rfl, by omega, fun j hj => absurd hj (by omega), Below.refl _ _⟩
  case round =>
    obtain ⟨k, rfl, hk, HK, hbk⟩ := hrel
    by_cases hk4 : k < 64
    · have hki : (k : Int) < 64 := by omega
      obtain ⟨x, hx⟩ := get_lt (l := l) (k := k) (by omega)
      obtain ⟨z, hz⟩ := get_lt (l := S) (k := k) (by omega)
      have HX : Hid (l[k]? = some x) := hx
      have HZ : Hid (S[k]? = some z) := hz
      clear hx hz
      by_cases hxz : x = z
      · subst hxz
        have HK2 : Hid (∀ j, j < k + 1 → l[j]? = S[j]?) := fun j hj => by
          rcases Nat.lt_or_ge j k with q | q
          · exact HK.out j q
          · obtain rfl : j = k := by omega
            rw [HX.out, HZ.out]
        go_wp2
        rename_i hK
        refine wp_region_any hmx ?_
        refine wpAny_pure (fun i__ => ([(.slice (some ⟨bb, off, none⟩) 64 cap), (.int .i64 (k : Int)), (.pointer (some ⟨bb, off + k, none⟩)), (.int .u8 (x : Int)), (.slice (some ⟨g3, 0, none⟩) 64 64), (.int .i64 (k : Int)), (.pointer (some ⟨g3, 0 + k, none⟩)), (.int .u8 (x : Int)), (.bool false)] : List Value).getD i__ undef) (fun V => Below W3.heap.size W3 V) (by kernel_rfl) (hbk.drew) ?_ ?_
        · refine (stepsFrom_cons ?_ (stepsFrom_cons ?_ (stepsFrom_cons ?_ (stepsFrom_cons ?_ (stepsFrom_cons ?_ (stepsFrom_cons ?_ (stepsFrom_cons ?_ (stepsFrom_cons ?_ (stepsFrom_cons ?_ trivial)))))))))
          · exact step_move rfl trivial _ rfl (by kernel_rfl)
          · exact step_move rfl trivial _ rfl (by kernel_rfl)
          · exact step_indexAddr rfl trivial _ _ _ _ _ rfl rfl rfl (fun v hw => idx_bz bb off _ _ k hk4 v)
          · exact step_load rfl trivial _ _ _ rfl rfl (fun v hw => load_u8 ((hat3.carry (hw.block bb hbl3)) k x HX.out))
          · exact step_move rfl trivial _ rfl (by kernel_rfl)
          · exact step_move rfl trivial _ rfl (by kernel_rfl)
          · exact step_indexAddr rfl trivial _ _ _ _ _ rfl rfl rfl (fun v hw => idx_bz g3 0 _ _ k hk4 v)
          · exact step_load rfl trivial _ _ _ rfl rfl (fun v hw => load_u8 (by rw [Nat.zero_add, cell_at ((hw.block g3 (lt_at hI3)).trans hI3), List.getElem?_toArray]; exact cB_get HZ.out))
          · exact step_binOp rfl trivial _ _ _ _ _ _ _ rfl rfl rfl (fun v hw => neqK_f _ _)
        intro W hW
        first | refine hK _ _ ?_ | refine (‹∀ (a : Act) (w : World), Code.wp Tryz.prog _ _ a w → _›) _ _ ?_
        simp only [finL, List.getD_cons_zero, List.getD_cons_succ, Nat.zero_add, Nat.reduceAdd, List.setIfInBounds_toArray, List.set_cons_zero, List.set_cons_succ]
        clear hK
        go_wp2
        go_roundw
        case rel => exact ⟨k + 1, by simp, by omega, HK2.out, hW⟩
        case measure => simp [vnatZ]; omega
      · have hne : ¬ S = l := fun e => hxz (by have := HX.out; rw [← e, HZ.out] at this; exact (Option.some.inj this).symm)
        have HN : Hid (say l = none) := by show say l = none; rw [HS2.out, if_neg hne]
        go_wp2
        rename_i hK
        refine wp_region_any hmx ?_
        refine wpAny_pure (fun i__ => ([(.slice (some ⟨bb, off, none⟩) 64 cap), (.int .i64 (k : Int)), (.pointer (some ⟨bb, off + k, none⟩)), (.int .u8 (x : Int)), (.slice (some ⟨g3, 0, none⟩) 64 64), (.int .i64 (k : Int)), (.pointer (some ⟨g3, 0 + k, none⟩)), (.int .u8 (z : Int)), (.bool true)] : List Value).getD i__ undef) (fun V => Below W3.heap.size W3 V) (by kernel_rfl) (hbk.drew) ?_ ?_
        · refine (stepsFrom_cons ?_ (stepsFrom_cons ?_ (stepsFrom_cons ?_ (stepsFrom_cons ?_ (stepsFrom_cons ?_ (stepsFrom_cons ?_ (stepsFrom_cons ?_ (stepsFrom_cons ?_ (stepsFrom_cons ?_ trivial)))))))))
          · exact step_move rfl trivial _ rfl (by kernel_rfl)
          · exact step_move rfl trivial _ rfl (by kernel_rfl)
          · exact step_indexAddr rfl trivial _ _ _ _ _ rfl rfl rfl (fun v hw => idx_bz bb off _ _ k hk4 v)
          · exact step_load rfl trivial _ _ _ rfl rfl (fun v hw => load_u8 ((hat3.carry (hw.block bb hbl3)) k x HX.out))
          · exact step_move rfl trivial _ rfl (by kernel_rfl)
          · exact step_move rfl trivial _ rfl (by kernel_rfl)
          · exact step_indexAddr rfl trivial _ _ _ _ _ rfl rfl rfl (fun v hw => idx_bz g3 0 _ _ k hk4 v)
          · exact step_load rfl trivial _ _ _ rfl rfl (fun v hw => load_u8 (by rw [Nat.zero_add, cell_at ((hw.block g3 (lt_at hI3)).trans hI3), List.getElem?_toArray]; exact cB_get HZ.out))
          · exact step_binOp rfl trivial _ _ _ _ _ _ _ rfl rfl rfl (fun v hw => neqK_t (by omega))
        intro W hW
        first | refine hK _ _ ?_ | refine (‹∀ (a : Act) (w : World), Code.wp Tryz.prog _ _ a w → _›) _ _ ?_
        simp only [finL, List.getD_cons_zero, List.getD_cons_succ, Nat.zero_add, Nat.reduceAdd, List.setIfInBounds_toArray, List.set_cons_zero, List.set_cons_succ]
        have hj3 := hj3.carry hW
        clear hK
        go_wp2_with (refine wpList_store_row rfl 35 (.tmp 2) (.tmp 50) rfl w.heap.size #[.int .i64 0, .int .i64 0, .int .i64 0] rfl rfl 35 _ hj3.1 infoR rfl (by simp [Value.oneCell']) ?_; obtain ⟨v, hv⟩ : ∃ v, W.setRow w.heap.size #[.int .i64 0, .int .i64 0, .int .i64 0] = v := ⟨_, rfl⟩; have HV : Hid (v.heap[w.heap.size]? = some (.cells #[.int .i64 0, .int .i64 0, .int .i64 0] 35 (0, 0))) := (by rw [← hv]; exact setRow_heap _ _ _ _ _ _ hj3.1); have HB : Hid (Below w.heap.size w v) := (by rw [← hv]; exact below_setRow hj3.2.2 (Nat.le_refl _) _); rw [hv])
        (try simp only [Exit.inBlock, Exit.then])
        exact retC3 rfl rfl rfl rfl rfl HV.out undR infoR ⟨by rw [HN.out]; rfl, HB.out⟩
    · have hk6 : k = 64 := by omega
      subst hk6
      have hSl2 : S = l := List.ext_getElem? fun j => by
        rcases Nat.lt_or_ge j 64 with q | q
        · exact (HK.out j q).symm
        · rw [List.getElem?_eq_none (by omega), List.getElem?_eq_none (by omega)]
      have HN : Hid (say l = some (r, s)) := by show say l = _; rw [HS2.out, if_pos hSl2]
      have hj3 := hj3.carry hbk
      clear HS2 HK hSl2
      go_wp2_with (first | (refine wpList_load_row rfl 35 (.tmp 5) rfl (w.heap.size + 1) rfl 35 _ (0, 0) _ hj3.2.1 undR rfl infoR ?_) | (refine wpList_store_row rfl 35 (.tmp 2) (.tmp 51) rfl w.heap.size #[.int .i64 r.li, .int .i64 r.ro, .int .i64 r.ta] rfl rfl 35 _ hj3.1 infoR rfl (by simp [Value.oneCell']) ?_; obtain ⟨v, hv⟩ : ∃ v, wr.setRow w.heap.size #[.int .i64 r.li, .int .i64 r.ro, .int .i64 r.ta] = v := ⟨_, rfl⟩; have HV : Hid (v.heap[w.heap.size]? = some (.cells #[.int .i64 r.li, .int .i64 r.ro, .int .i64 r.ta] 35 (0, 0))) := (by rw [← hv]; exact setRow_heap _ _ _ _ _ _ hj3.1); have HB : Hid (Below w.heap.size w v) := (by rw [← hv]; exact below_setRow hj3.2.2 (Nat.le_refl _) _); rw [hv]))
      (try simp only [Exit.inBlock, Exit.then])
      exact retC3 rfl rfl rfl rfl rfl HV.out undR infoR ⟨by rw [HN.out]; rfl, HB.out⟩
end Go.Proofs.YtlpmehmoeladjaaGreatDoor
