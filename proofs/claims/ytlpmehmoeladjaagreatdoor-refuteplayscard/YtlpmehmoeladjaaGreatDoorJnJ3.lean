/- tagbook.New, alive: what they answer. -/
import Derived.Test.YtlpmehmoeladjaaGreatDoorJnJ2
import Derived.Laws.BitsAllLaws
import Derived.Lib.BitFns
import Derived.Lib.TrailingZeros
import Derived.Test.YtlpmehmoeladjaaGreatDoorProg
import Derived.Test.YtlpmehmoeladjaaGreatDoorReg
import Derived.Shelf.Abstract
import Derived.Laws.BitsAll
import Derived.Laws.Shifts
namespace Go.Proofs.YtlpmehmoeladjaaGreatDoor
open Go.RowKit Go.Shelf

theorem fl_zero : ∀ N : Nat, fl (List.replicate N (0, 0, 0)) = List.replicate (N * 3) (.int .i64 0)
  | 0 => rfl
  | N + 1 => by
    rw [List.replicate_succ, fl_cons, fl_zero N, show (N + 1) * 3 = N * 3 + 1 + 1 + 1 by omega, List.replicate_succ, List.replicate_succ, List.replicate_succ]
theorem made3 (N : Nat) : madeCells (Value.agg #[.int .i64 0, .int .i64 0, .int .i64 0]).cells (N * 3) = (fl (List.replicate N (0, 0, 0))).toArray := by
  rw [fl_zero]
  apply Array.ext
  · rw [size_madeCells]; simp
  · intro j h1 h2
    have hz : (Value.agg #[Value.int .i64 0, Value.int .i64 0, Value.int .i64 0]).cells = #[Value.int .i64 0, Value.int .i64 0, Value.int .i64 0] := rfl
    simp only [madeCells, hz, Array.getElem_map, Array.getElem_range, List.getElem_toArray, List.getElem_replicate]
    have : j % 3 < 3 := Nat.mod_lt _ (by decide)
    show #[Value.int IntKind.i64 0, Value.int IntKind.i64 0, Value.int IntKind.i64 0][j % 3]! = _
    match j % 3, this with
    | 0, _ => rfl
    | 1, _ => rfl
    | 2, _ => rfl
/-- The list while it is made. -/
def mkl (N k : Nat) : List N3 := (List.range N).map fun (i : Nat) => if i < k then ((i : Int), 0, 1) else (0, 0, 0)
theorem mkl_len (N k : Nat) : (mkl N k).length = N := by simp [mkl]
theorem mkl_zero (N : Nat) : mkl N 0 = List.replicate N (0, 0, 0) := by
  apply List.ext_getElem
  · simp [mkl]
  · intro i h1 h2; simp [mkl]
theorem mkl_full (N : Nat) : mkl N N = frs N := by
  apply List.ext_getElem
  · simp [mkl, frs]
  · intro i h1 h2
    rw [mkl_len] at h1
    simp [mkl, frs, h1]
theorem mkl_set (N k : Nat) : (mkl N k).set k ((k : Int), 0, 1) = mkl N (k + 1) := by
  apply List.ext_getElem
  · simp [mkl]
  · intro i h1 h2
    rw [List.length_set, mkl_len] at h1
    rw [List.getElem_set]
    by_cases e : k = i
    · subst e
      simp [mkl]
    · rw [if_neg e]
      have : i < k + 1 ↔ i < k := by omega
      simp [mkl, this]
theorem fl_set1 : ∀ (l : List N3) (i : Nat) (o t k t' : Int), l[i]? = some (o, t, k) → (fl l).set (i * 3 + 1) (.int .i64 t') = fl (l.set i (o, t', k))
  | [], i, o, t, k, t', h => by simp at h
  | y :: l, 0, o, t, k, t', h => by
    obtain rfl := Option.some.inj (show some y = some (o, t, k) from h)
    rfl
  | y :: l, i + 1, o, t, k, t', h => by
    have ih := fl_set1 l i o t k t' h
    rw [show (y :: l).set (i + 1) (o, t', k) = y :: l.set i (o, t', k) from rfl, fl_cons, fl_cons, ← ih, show (i + 1) * 3 + 1 = i * 3 + 1 + 1 + 1 + 1 by omega]
    rfl
theorem Bk.put1 {W : World} {p g : Nat} {l : List N3} (h : Bk W p g l) {i : Nat} {o t k : Int} (hi : l[i]? = some (o, t, k)) (t' : Int) : Bk (W.setCell ⟨g, i * 3 + 1, none⟩ (.int .i64 t')) p g (l.set i (o, t', k)) := by
  refine ⟨?_, ?_⟩
  · rw [Below.heap_setCell _ _ _ _ h.ne]
    simpa using h.obj
  · have h0 := heap_setCell_same _ _ (i * 3 + 1) _ _ (.int .i64 t') h.row
    rw [h0, ← fl_set1 l i o t k t' hi]
    simp
/-- What New answers. -/
def NewV (n self tag : Int) (w : World) (e : Ending) (w' : World) : Prop :=
  Below w.heap.size w w' ∧
  if n < 1 ∨ 100 < n then e = .returned (.tuple #[.pointer none, .int .i64 1])
  else if self < 0 ∨ n ≤ self then e = .returned (.tuple #[.pointer none, .int .i64 30])
  else if tag < 0 ∨ 1048576 < tag then e = .returned (.tuple #[.pointer none, .int .i64 50])
  else ∃ p g, e = .returned (.tuple #[.pointer (some ⟨p, 0, none⟩), .int .i64 0]) ∧ w.heap.size ≤ p ∧ w.heap.size ≤ g ∧ Bk w' p g (bk0 n.toNat self.toNat tag)
set_option maxHeartbeats 4000000 in
set_option maxRecDepth 100000 in
theorem new_any (n self tag : Int) (w : World) : Calls Tryz.prog 9 #[.int .i64 n, .int .i64 self, .int .i64 tag] w fun e w' => NewV n self tag w e w' := by
  have hmx : Tryz.prog.follows .mixedOrders = true := by kernel_rfl
  by_cases h1 : n < 1 ∨ 100 < n
  · have HV : Hid (∀ w', Below w.heap.size w w' → NewV n self tag w (.returned (.tuple #[.pointer none, .int .i64 1])) w') := fun w' hb => ⟨hb, by rw [if_pos h1]⟩
    rcases h1 with h1 | h1
    all_goals
      go_enter Tryz.func9, Tryz.ntmps9
      go_wp2
      go_ret2
      exact HV.out _ (Below.refl _ _)
  by_cases h2 : self < 0 ∨ n ≤ self
  · have HV : Hid (∀ w', Below w.heap.size w w' → NewV n self tag w (.returned (.tuple #[.pointer none, .int .i64 30])) w') := fun w' hb => ⟨hb, by rw [if_neg h1, if_pos h2]⟩
    have h10 : ¬ n < 1 := by omega
    have h11 : ¬ 100 < n := by omega
    clear h1
    rcases h2 with h2 | h2
    all_goals
      go_enter Tryz.func9, Tryz.ntmps9
      go_wp2
      go_ret2
      exact HV.out _ (Below.refl _ _)
  by_cases h3 : tag < 0 ∨ 1048576 < tag
  · have HV : Hid (∀ w', Below w.heap.size w w' → NewV n self tag w (.returned (.tuple #[.pointer none, .int .i64 50])) w') := fun w' hb => ⟨hb, by rw [if_neg h1, if_neg h2, if_pos h3]⟩
    have h10 : ¬ n < 1 := by omega
    have h11 : ¬ 100 < n := by omega
    have h12 : ¬ self < 0 := by omega
    have h13 : ¬ n ≤ self := by omega
    clear h1 h2
    rcases h3 with h3 | h3
    all_goals
      go_enter Tryz.func9, Tryz.ntmps9
      go_wp2
      go_ret2
      exact HV.out _ (Below.refl _ _)
  obtain ⟨N, rfl⟩ : ∃ N : Nat, n = (N : Int) := ⟨n.toNat, by omega⟩
  obtain ⟨s, rfl⟩ : ∃ s : Nat, self = (s : Int) := ⟨self.toNat, by omega⟩
  have HV : Hid (∀ w' p g, Below w.heap.size w w' → w.heap.size ≤ p → w.heap.size ≤ g → Bk w' p g (bk0 N s tag) → NewV (N : Int) (s : Int) tag w (.returned (.tuple #[.pointer (some ⟨p, 0, none⟩), .int .i64 0])) w') := fun w' p g hb hp hg hk => ⟨hb, by rw [if_neg h1, if_neg h2, if_neg h3]; exact ⟨p, g, rfl, hp, hg, by simpa using hk⟩⟩
  have h10 : ¬ (N : Int) < 1 := by omega
  have h11 : ¬ 100 < (N : Int) := by omega
  have h12 : ¬ (s : Int) < 0 := by omega
  have h13 : ¬ (N : Int) ≤ (s : Int) := by omega
  have h14 : ¬ tag < 0 := by omega
  have h15 : ¬ 1048576 < tag := by omega
  have hsN : s < N := by omega
  have hsi : (s : Int) < (N : Int) := by omega
  have hN : N ≤ 100 := by omega
  clear h1 h2 h3
  obtain ⟨ic, hic, hz0, hz1, hz2⟩ := info_partsN
  have hmk : ∀ W : World, (Instr.makeSlice 44 (.int .i64 (N : Int)) (.int .i64 (N : Int))).run Tryz.prog W = .ok (.slice (some ⟨W.heap.size, 0, none⟩) N N) (W.alloc (.cells (fl (mkl N 0)).toArray 60)) := by
    intro W
    have := run_make (P := Tryz.prog) W 44 60 ic _ Tryz.underlying44 hic hz0 .i64 .i64 (N : Int) (N : Int) (by omega) (Int.le_refl _) (by rw [hz2]; omega) (by omega)
    rw [Int.toNat_natCast, hz1, made3, ← mkl_zero] at this
    exact this
  have hfr := fun (k : Nat) (W : World) => fresh_any (k : Int) W
  unfold nt at hfr
  generalize hM0 : (fl (mkl N 0)).toArray = M0 at hmk
  go_enter Tryz.func9, Tryz.ntmps9
  go_wp2
  go_loopw [37] (fun i wz => ∃ (k : Nat), i = .int .i64 k ∧ k ≤ N ∧ Bk wz (w.heap.size + 1) w.heap.size (mkl N k) ∧ Below w.heap.size w wz) (fun i _ => N - vnatR i)
  case atStart =>
    refine ⟨0, rfl, Nat.zero_le _, ⟨?_, ?_⟩, al2 _ _ _⟩
    · rw [mkl_len]; exact new_at (by simp)
    · rw [hM0]; exact old_at (new_at rfl)
  case round =>
    obtain ⟨k, rfl, hk, hbk, hbw⟩ := hrel
    by_cases hkl : k < N
    · have hki : (k : Int) < (N : Int) := by omega
      have hkm : k < (mkl N k).length := by rw [mkl_len]; exact hkl
      go_wp2
      rename_i Q0 K0 hK
      refine wp_region_any hmx ?_
      refine wpAny_last 8 (fun i__ => ([(.pointer (some ⟨w.heap.size + 1, 0, none⟩)), (.pointer (some ⟨w.heap.size + 1, 0, none⟩)), (.pointer (some ⟨w.heap.size + 1, 0, none⟩)), (.slice (some ⟨w.heap.size, 0, none⟩) (mkl N k).length (mkl N k).length), (.int .i64 (k : Int)), (.int .i64 (k : Int)), (nt (k : Int) 0 1), (.pointer (some ⟨w.heap.size, 0 + k * 3, none⟩)), undef] : List Value).getD i__ undef) (fun V => Bk V (w.heap.size + 1) w.heap.size (mkl N k) ∧ Below w.heap.size w V) (fun V => Bk V (w.heap.size + 1) w.heap.size (mkl N (k + 1)) ∧ Below w.heap.size w V) rfl (by kernel_rfl) (by kernel_rfl) ⟨hbk.carry (Below.refl _ _).drew, hbw.drew⟩ ?_ ?_  ?_
      · refine (stepsFrom_cons ?_ (stepsFrom_cons ?_ (stepsFrom_cons ?_ (stepsFrom_cons ?_ (stepsFrom_cons ?_ (stepsFrom_cons ?_ (stepsFrom_cons ?_ (stepsFrom_cons ?_ trivial))))))))
        · exact step_move rfl trivial _ rfl (by kernel_rfl)
        · exact step_nilCheck rfl trivial _ _ _ rfl rfl rfl
        · exact step_fieldAddr rfl trivial _ _ _ _ rfl rfl (fun w hw => field_b0 w _)
        · exact step_load rfl trivial _ _ _ rfl rfl (fun w hw => load_b0 hw.1)
        · exact step_move rfl trivial _ rfl (by kernel_rfl)
        · exact step_move rfl trivial _ rfl (by kernel_rfl)
        · exact step_call rfl trivial 33 _ _ [(.int .i64 (k : Int))] rfl (by kernel_rfl) (enters_of Tryz.func33 (by kernel_rfl) rfl) (fun w hw => (fresh_any (k : Int) w).mono (by rintro e w' ⟨rfl, hb⟩; exact ⟨rfl, hw.1.carry hb, bel2 hw.2 hb⟩))
        · exact step_indexAddr rfl trivial _ _ _ _ _ rfl rfl rfl (fun w hw => idx_n _ 0 _ _ k hkm w)
      · intro o ho
        cases ho
        exact step_store rfl trivial rfl _ _ _ _ _ rfl rfl rfl (fun w hw => ⟨_, store_b hw.1 k hkm _ _ _, by rw [← mkl_set]; exact hw.1.put k _ _ _, ((hw.2.setCell (Nat.le_refl _) _).setCell (Nat.le_refl _) _).setCell (Nat.le_refl _) _⟩)
      intro W hW
      first | refine hK _ _ ?_ | refine (‹∀ (a : Act) (w : World), Code.wp Tryz.prog _ _ a w → _›) _ _ ?_
      simp only [finL, List.getD_cons_zero, List.getD_cons_succ, Nat.zero_add, Nat.reduceAdd, List.setIfInBounds_toArray, List.set_cons_zero, List.set_cons_succ]
      clear hK
      go_wp2
      go_roundw
      case rel => exact ⟨k + 1, by simp, by omega, hW.1, hW.2⟩
      case measure => simp [vnatR]; omega
    · have hkk : k = N := by omega
      subst hkk
      rw [mkl_full] at hbk
      have hx : (frs k)[s]? = some ((s : Int), 0, 1) := frs_get hsN
      have d := hbk.cell
      obtain ⟨e0, e1, e2⟩ := hbk.nts s _ hx
      rw [Nat.zero_add] at e0 e1 e2
      have z1 := hbk.thaw (s * 3 + 1)
      rw [frs_len] at d
      go_wp2
      go_ret2
      exact HV.out _ _ _ (hbw.setCell (Nat.le_refl _) _) (Nat.le_succ _) (Nat.le_refl _) (hbk.put1 hx tag)
theorem NewV.ok {n self tag : Int} {w w' : World} {e : Ending} (h : NewV n self tag w e w') (h1 : ¬ (n < 1 ∨ 100 < n)) (h2 : ¬ (self < 0 ∨ n ≤ self)) (h3 : ¬ (tag < 0 ∨ 1048576 < tag)) : ∃ p g, e = .returned (.tuple #[.pointer (some ⟨p, 0, none⟩), .int .i64 0]) ∧ w.heap.size ≤ p ∧ w.heap.size ≤ g ∧ Bk w' p g (bk0 n.toNat self.toNat tag) := by
  have := h.2
  rw [if_neg h1, if_neg h2, if_neg h3] at this
  exact this
end Go.Proofs.YtlpmehmoeladjaaGreatDoor
namespace Go.Proofs.YtlpmehmoeladjaaGreatDoor
open Go.Lib (popAux)

/-- The word w of a number. -/
def wd (N w : Nat) : Nat := N / 2 ^ (32 * w) % 4294967296
def wval (x : Nat) : Value := .int .u32 (x : Int)
/-- A set's value. -/
def sv (N : Nat) : Value := .agg #[.int .u32 (wd N 0 : Nat), .int .u32 (wd N 1 : Nat), .int .u32 (wd N 2 : Nat), .int .u32 (wd N 3 : Nat)]
def joinW (a b c d : Nat) : Nat := a + 4294967296 * b + 18446744073709551616 * c + 79228162514264337593543950336 * d
def S128 : Nat := 340282366920938463463374607431768211456
def S100 : Nat := 1267650600228229401496703205376
def dif (N M : Nat) : Nat := N ^^^ (N &&& M)
def cln (N : Nat) : Nat := N % S100

theorem wd_lt (N w : Nat) : wd N w < 4294967296 := Nat.mod_lt _ (by decide)
theorem wd_0 (N : Nat) : wd N 0 = N % 4294967296 := by simp [wd]
theorem wd_1 (N : Nat) : wd N 1 = N / 4294967296 % 4294967296 := by simp [wd]
theorem wd_2 (N : Nat) : wd N 2 = N / 18446744073709551616 % 4294967296 := by simp [wd]
theorem wd_3 (N : Nat) : wd N 3 = N / 79228162514264337593543950336 % 4294967296 := by simp [wd]
theorem testBit_wd (N w i : Nat) : (wd N w).testBit i = (decide (i < 32) && N.testBit (32 * w + i)) := by
  rw [wd, show (4294967296 : Nat) = 2 ^ 32 from rfl, Nat.testBit_mod_two_pow, Nat.testBit_div_two_pow, Nat.add_comm i]
theorem wd_or (N M w : Nat) : wd (N ||| M) w = wd N w ||| wd M w := by
  apply Nat.eq_of_testBit_eq; intro i
  simp only [testBit_wd, Nat.testBit_or]
  cases decide (i < 32) <;> simp
theorem wd_and (N M w : Nat) : wd (N &&& M) w = wd N w &&& wd M w := by
  apply Nat.eq_of_testBit_eq; intro i
  simp only [testBit_wd, Nat.testBit_and]
  cases decide (i < 32) <;> simp
theorem wd_xor (N M w : Nat) : wd (N ^^^ M) w = wd N w ^^^ wd M w := by
  apply Nat.eq_of_testBit_eq; intro i
  simp only [testBit_wd, Nat.testBit_xor]
  cases decide (i < 32) <;> simp
theorem testBit_dif (N M i : Nat) : (dif N M).testBit i = (N.testBit i && !M.testBit i) := by
  simp only [dif, Nat.testBit_xor, Nat.testBit_and]
  cases N.testBit i <;> cases M.testBit i <;> rfl
theorem testBit_not32 (b i : Nat) (hb : b < 4294967296) : (4294967295 - b).testBit i = (decide (i < 32) && !b.testBit i) := by
  have := Nat.testBit_two_pow_sub_succ (x := b) (n := 32) hb i
  rw [← this]
  congr 1
  omega
theorem wd_dif (N M w : Nat) : wd (dif N M) w = wd N w &&& (4294967295 - wd M w) := by
  apply Nat.eq_of_testBit_eq; intro i
  rw [Nat.testBit_and, testBit_not32 _ _ (wd_lt M w)]
  simp only [testBit_wd, testBit_dif]
  cases decide (i < 32) <;> simp
theorem wd_mod (N n w : Nat) : wd (N % 2 ^ n) w = wd N w &&& (2 ^ (min (n - 32 * w) 32) - 1) := by
  apply Nat.eq_of_testBit_eq; intro i
  rw [Nat.testBit_and, Nat.testBit_two_pow_sub_one]
  simp only [testBit_wd, Nat.testBit_mod_two_pow]
  by_cases h : i < 32
  · by_cases h2 : 32 * w + i < n
    · have : i < min (n - 32 * w) 32 := by omega
      simp [h, h2, this]
    · have : ¬ i < min (n - 32 * w) 32 := by omega
      simp [h2, this]
  · simp [h]
theorem cln_eq (N : Nat) : cln N = N % 2 ^ 100 := rfl
theorem wd_join0 (a b c d : Nat) (ha : a < 4294967296) : wd (joinW a b c d) 0 = a := by rw [wd_0, joinW]; omega
theorem wd_join1 (a b c d : Nat) (ha : a < 4294967296) (hb : b < 4294967296) : wd (joinW a b c d) 1 = b := by rw [wd_1, joinW]; omega
theorem wd_join2 (a b c d : Nat) (ha : a < 4294967296) (hb : b < 4294967296) (hc : c < 4294967296) : wd (joinW a b c d) 2 = c := by rw [wd_2, joinW]; omega
theorem wd_join3 (a b c d : Nat) (ha : a < 4294967296) (hb : b < 4294967296) (hc : c < 4294967296) (hd : d < 4294967296) : wd (joinW a b c d) 3 = d := by rw [wd_3, joinW]; omega
theorem join_lt (a b c d : Nat) (ha : a < 4294967296) (hb : b < 4294967296) (hc : c < 4294967296) (hd : d < 4294967296) : joinW a b c d < S128 := by rw [joinW, S128]; omega
theorem join_wd (N : Nat) (h : N < S128) : joinW (wd N 0) (wd N 1) (wd N 2) (wd N 3) = N := by
  rw [wd_0, wd_1, wd_2, wd_3, joinW]; rw [S128] at h; omega
theorem ext_wd {N M : Nat} (h : N < S128) (k : M < S128) (h0 : wd N 0 = wd M 0) (h1 : wd N 1 = wd M 1) (h2 : wd N 2 = wd M 2) (h3 : wd N 3 = wd M 3) : N = M := by
  rw [← join_wd N h, ← join_wd M k, h0, h1, h2, h3]
theorem or_lt {N M : Nat} (h : N < S128) (k : M < S128) : N ||| M < S128 := Nat.or_lt_two_pow (n := 128) h k
theorem and_lt {N M : Nat} (h : N < S128) : N &&& M < S128 := Nat.lt_of_le_of_lt Nat.and_le_left h
theorem xor_lt {N M : Nat} (h : N < S128) (k : M < S128) : N ^^^ M < S128 := Nat.xor_lt_two_pow (n := 128) h k
theorem dif_lt {N M : Nat} (h : N < S128) : dif N M < S128 := xor_lt h (and_lt h)
theorem cln_lt (N : Nat) : cln N < S100 := Nat.mod_lt _ (by decide)
theorem cln_lt' (N : Nat) : cln N < S128 := Nat.lt_trans (cln_lt N) (by decide)
theorem testBit_cln (N i : Nat) : (cln N).testBit i = (decide (i < 100) && N.testBit i) := by rw [cln_eq, Nat.testBit_mod_two_pow]
theorem cln_cln (N : Nat) : cln (cln N) = cln N := Nat.mod_mod _ _
theorem cln_of_lt {N : Nat} (h : N < S100) : cln N = N := Nat.mod_eq_of_lt h

/-! counts -/
theorem popAux_add : ∀ (a b x : Nat), popAux (a + b) x = popAux a x + popAux b (x / 2 ^ a)
  | 0, b, x => by simp [popAux]
  | a + 1, b, x => by
    rw [show a + 1 + b = a + b + 1 by omega, popAux, popAux, popAux_add a b (x / 2), Nat.div_div_eq_div_mul, Nat.pow_succ, Nat.mul_comm 2]
    omega
theorem popAux_mod : ∀ (a x : Nat), popAux a (x % 2 ^ a) = popAux a x
  | 0, x => rfl
  | a + 1, x => by
    have h1 : x % 2 ^ (a + 1) % 2 = x % 2 := by rw [Nat.pow_succ, Nat.mul_comm]; exact Nat.mod_mul_right_mod _ _ _
    have h2 : x % 2 ^ (a + 1) / 2 = x / 2 % 2 ^ a := by rw [Nat.pow_succ, Nat.mul_comm]; exact Nat.mod_mul_right_div_self _ _ _
    rw [popAux, popAux, h1, h2, popAux_mod a (x / 2)]
theorem popAux_le : ∀ (f x : Nat), popAux f x ≤ f
  | 0, x => by simp [popAux]
  | f + 1, x => by rw [popAux]; have := popAux_le f (x / 2); have := Nat.mod_lt x (show 2 > 0 by decide); omega
theorem popAux_zero : ∀ f, popAux f 0 = 0
  | 0 => rfl
  | f + 1 => by rw [popAux, show 0 / 2 = 0 from rfl, popAux_zero f]
theorem popAux_succ' (f x : Nat) : popAux (f + 1) x = popAux f x + (x.testBit f).toNat := by
  rw [popAux_add f 1 x]
  congr 1
  rw [popAux, popAux, Nat.testBit_eq_decide_div_mod_eq]
  have := Nat.mod_lt (x / 2 ^ f) (show 2 > 0 by decide)
  rcases (show x / 2 ^ f % 2 = 0 ∨ x / 2 ^ f % 2 = 1 by omega) with h | h <;> rw [h] <;> rfl
theorem popAux_or_and : ∀ (f a b : Nat), popAux f (a ||| b) + popAux f (a &&& b) = popAux f a + popAux f b
  | 0, a, b => rfl
  | f + 1, a, b => by
    have := popAux_or_and f a b
    rw [popAux_succ', popAux_succ', popAux_succ', popAux_succ', Nat.testBit_or, Nat.testBit_and]
    cases a.testBit f <;> cases b.testBit f <;> simp <;> omega
theorem popAux_congr : ∀ (f a b : Nat), (∀ i, i < f → a.testBit i = b.testBit i) → popAux f a = popAux f b
  | 0, a, b, _ => rfl
  | f + 1, a, b, h => by rw [popAux_succ', popAux_succ', popAux_congr f a b (fun i hi => h i (by omega)), h f (by omega)]
theorem popAux_flip : ∀ (f a b k : Nat), k < f → (∀ i, i < f → i ≠ k → a.testBit i = b.testBit i) → a.testBit k = false → b.testBit k = true → popAux f b = popAux f a + 1
  | 0, a, b, k, hk, _, _, _ => by omega
  | f + 1, a, b, k, hk, h, h1, h2 => by
    rw [popAux_succ', popAux_succ']
    by_cases e : k = f
    · subst e
      rw [popAux_congr k a b (fun i hi => h i (by omega) (by omega)), h1, h2]; simp
    · rw [popAux_flip f a b k (by omega) (fun i hi hne => h i (by omega) hne) h1 h2, h f (by omega) (by omega)]; omega
def cnt (N : Nat) : Nat := popAux 128 N
theorem cnt_words (N : Nat) : cnt N = popAux 32 (wd N 0) + popAux 32 (wd N 1) + popAux 32 (wd N 2) + popAux 32 (wd N 3) := by
  have m (x : Nat) : popAux 32 (x % 4294967296) = popAux 32 x := popAux_mod 32 x
  rw [cnt, show (128 : Nat) = 32 + (32 + (32 + 32)) from rfl, popAux_add, popAux_add, popAux_add, wd_0, wd_1, wd_2, wd_3, m, m, m, m, Nat.div_div_eq_div_mul, Nat.div_div_eq_div_mul]
  simp only [Nat.reducePow, Nat.reduceMul]
  omega
theorem cnt_or_and (a b : Nat) : cnt (a ||| b) + cnt (a &&& b) = cnt a + cnt b := popAux_or_and 128 a b
theorem cnt_le (a : Nat) : cnt a ≤ 128 := popAux_le 128 a
theorem cnt_congr {a b : Nat} (h : ∀ i, a.testBit i = b.testBit i) : cnt a = cnt b := popAux_congr 128 a b (fun i _ => h i)
theorem cnt_zero : cnt 0 = 0 := popAux_zero 128
end Go.Proofs.YtlpmehmoeladjaaGreatDoor
namespace Go.Proofs.YtlpmehmoeladjaaGreatDoor
open Go.RowKit Go.Shelf Go.Lib
attribute [local go_sem] Oper.semAt_some

theorem ret_int {k : IntKind} {a b : Int} (h : a = b) : Ending.returned (.int k a) = .returned (.int k b) := by rw [h]
theorem ret_bool {a b : Bool} (h : a = b) : Ending.returned (.bool a) = .returned (.bool b) := by rw [h]
def lowN (k : Int) : Nat := 2 ^ (min (max k 0) 32).toNat - 1
theorem two_pow_int (n : Nat) : (2 : Int) ^ n = ((2 ^ n : Nat) : Int) := by simp
theorem pow_le32 (n : Nat) (h : n ≤ 32) : 1 ≤ 2 ^ n ∧ 2 ^ n ≤ 4294967296 := ⟨Nat.one_le_two_pow, Nat.pow_le_pow_right (n := 2) (j := 32) (by decide) h⟩
theorem lowN_lt (k : Int) : lowN k < 4294967296 := by
  unfold lowN
  have := pow_le32 (min (max k 0) 32).toNat (by omega)
  omega
set_option maxHeartbeats 1000000 in
theorem lowest_any (k : Int) (w : World) : Calls Tryz.prog 96 #[.int .i64 k] w fun e w' => e = .returned (.int .u32 (lowN k : Nat)) ∧ w' = w := by
  go_enter Tryz.func96, Tryz.ntmps96
  go_wp2
  all_goals
    go_ret
    refine ⟨ret_int ?_, rfl⟩
    unfold lowN
    first
    | (rw [show (min (max k 0) 32) = 32 by omega]; rfl)
    | (rw [show (min (max k 0) 32) = 0 by omega]; rfl)
    | (rw [show (min (max k 0) 32) = k by omega, two_pow_int]
       have := pow_le32 k.toNat (by omega)
       generalize 2 ^ k.toNat = z at *
       omega)
set_option maxHeartbeats 1000000 in
theorem bit_any (k : Nat) (h : k < 128) (w : World) : Calls Tryz.prog 63 #[.int .i64 (k : Int)] w fun e w' => e = .returned (.int .u32 ((2 ^ (k % 32) : Nat) : Int)) ∧ w' = w := by
  go_enter Tryz.func63, Tryz.ntmps63
  go_wp2
  go_ret
  refine ⟨ret_int ?_, rfl⟩
  have h1 := pow_le32 (k % 32) (by omega)
  have h2 : 2 ^ (k % 32) ≤ 2 ^ 31 := Nat.pow_le_pow_right (by decide) (by omega)
  simp only [two_pow_int]
  generalize 2 ^ (k % 32) = z at *
  omega
set_option maxHeartbeats 1000000 in
theorem isId_any (k : Int) (w : World) : Calls Tryz.prog 61 #[.int .i64 k] w fun e w' => e = .returned (.bool (decide (0 ≤ k ∧ k < 100))) ∧ w' = w := by
  go_enter Tryz.func61, Tryz.ntmps61
  go_wp2
  all_goals
    go_ret
    refine ⟨ret_bool ?_, rfl⟩
    first
    | (have h : 0 ≤ k := by omega
       simp [h])
    | (have h : ¬ 0 ≤ k := by omega
       simp [h])
end Go.Proofs.YtlpmehmoeladjaaGreatDoor
