/- What glyph.Cut answers, and its callees: at every text of at most 2^47 bytes. -/
import Derived.Test.YtgihafldphpncaaItD
import Derived.Lib.BufferWrite
import Derived.Lib.UnsafeStr
import Derived.Laws.MakeOwn
namespace Go.Proofs.Ytgihafldphpncaa
open Go.RowKit Go.Shelf

/-- The byte that character i begins at; of i = Count(s) the length; else -1. -/
def begV (s : ByteArray) (i : Int) : Int := match nthO s i with
  | some p => p
  | none => if i = (starts s).length then s.size else -1

set_option maxHeartbeats 400000 in
theorem begins_any (s : ByteArray) (hs : s.size ≤ maxLen) (i : Int) (w : World) :
    Calls Try.prog 19 #[.string s, .int .i64 i] w fun e w' => e = .returned (.int .i64 (begV s i)) ∧ Below w.heap.size w w' := by
  have hlen := starts_length s
  unfold maxLen at hs
  go_enter Try.func19, Try.ntmps19
  go_wp2
  go_loopw [5] (fun c wr => ∃ (pos fuel : Nat) (pre : List Nat), starts s = pre ++ startsFrom s fuel pos ∧ s.size ≤ pos + fuel ∧ c = .int .i64 pre.length ∧ ¬ (0 ≤ i ∧ i < (pre.length : Int)) ∧ wr.heap[w.heap.size]? = some (.stringIter s pos) ∧ Below w.heap.size w wr) (fun _ wr => s.size - wr.iterPos w.heap.size)
  case atStart =>
    exact ⟨0, s.size, [], rfl, by omega, rfl, by simp, World.iter_heap w s 0, (Below.refl _ w).alloc (Nat.le_refl _) _⟩
  case round =>
    obtain ⟨pos, fuel, pre, hst, hfu, rfl, hn, hit, hb⟩ := hrel
    by_cases hp : pos < s.size
    · have hnx : ∀ ty, (Instr.next (.pointer (some ⟨w.heap.size, 0, none⟩)) true ty).run Try.prog wr = .ok (.tuple #[.bool true, .int .i64 pos, .int .i32 (rn s pos)]) (wr.iterAt w.heap.size s (pos + wd s pos)) := fun ty => Lib.run_next_any_at wr w.heap.size s pos ty hit hp
      have hit2 := Lib.iterAt_heap wr w.heap.size s pos (pos + wd s pos) hit
      have hb2 := Lib.below_iterAt hb (k := w.heap.size) (Nat.le_refl _) s (pos + wd s pos)
      obtain ⟨f, rfl⟩ : ∃ f, fuel = f + 1 := ⟨fuel - 1, by omega⟩
      rw [startsFrom_step s f pos hp] at hst
      have hll : pre.length + 1 ≤ s.size := by rw [hst] at hlen; simp at hlen; omega
      have hO : pre ++ [pos] <+: starts s := ⟨startsFrom s f (pos + wd s pos), by rw [hst]; simp⟩
      have HS : Hid (starts s = pre ++ pos :: startsFrom s f (pos + wd s pos)) := hst
      clear hst
      by_cases heq : (pre.length : Int) = i
      · subst heq
        have HO : Hid (begV s (pre.length : Int) = (pos : Int)) := by show begV s _ = _; unfold begV; rw [nthO_hit hO]
        clear hO
        go_wp2
        go_ret
        rw [HO.out]
        exact ⟨rfl, hb2⟩
      · have hq : ((pre.length : Int) == i) = false := beq_eq_false_iff_ne.2 heq
        clear hO
        go_wp2
        go_roundw
        case rel =>
          have := wd_pos s pos
          exact ⟨pos + wd s pos, f, pre ++ [pos], by rw [HS.out]; simp, by omega, by simp, by simp; omega, hit2, hb2⟩
        case measure =>
          have := wd_pos s pos
          simp only [World.iterPos, hit2, hit]
          omega
    · have hnx : ∀ ty, (Instr.next (.pointer (some ⟨w.heap.size, 0, none⟩)) true ty).run Try.prog wr = .ok (.tuple #[.bool false]) wr := fun ty => Lib.run_next_end_at wr w.heap.size s pos ty hit hp
      rw [startsFrom_end s fuel pos hp, List.append_nil] at hst
      subst hst
      have hO := nthO_miss hn
      by_cases heq : ((starts s).length : Int) = i
      · have HO : Hid (begV s i = (s.size : Int)) := by show begV s _ = _; unfold begV; rw [hO]; simp [heq]
        have hq : (((starts s).length : Int) == i) = true := beq_iff_eq.2 heq
        clear hO heq
        go_wp2
        go_ret
        rw [HO.out]
        exact ⟨rfl, hb⟩
      · have HO : Hid (begV s i = -1) := by show begV s _ = _; unfold begV; rw [hO]; simp; omega
        have hq : (((starts s).length : Int) == i) = false := beq_eq_false_iff_ne.2 heq
        clear hO heq
        go_wp2
        go_ret
        rw [HO.out]
        exact ⟨rfl, hb⟩

theorem cellsU8 : (Try.prog.info? 5).map (fun i => (i.zero, i.size, i.bytes)) = some (some (.int .u8 0), 1, 1) := by kernel_rfl

set_option maxHeartbeats 1000000 in
theorem clone_any (s : ByteArray) (w : World) (hlim : s.size ≤ 281474976710656) :
    Calls Try.prog 20 #[.string s] w fun e w' => e = .returned (.string s) ∧ Below w.heap.size w w' := by
  by_cases h0 : s.size = 0
  · have hs : s = ⟨#[]⟩ := ByteArray.ext (Array.eq_empty_of_size_eq_zero h0)
    subst hs
    go_enter Try.func20, Try.ntmps20
    go_wp2
    go_ret
    exact ⟨rfl, Below.refl _ _⟩
  · obtain ⟨i0, hi, hz0, hz1, hz2⟩ := info_parts cellsU8
    have hinfo : (Try.prog.info? 5).map (·.size) = some 1 := by rw [hi]; simp [hz1]
    have hco : Try.prog.cellsOf 5 = 1 := by simp [Program.cellsOf, hi, hz1]
    obtain ⟨M, hM⟩ : ∃ M, M = madeCells (Value.int .u8 0).cells (((s.size : Nat) : Int).toNat * i0.size) := ⟨_, rfl⟩
    have hMs : M.size = s.size := by rw [hM, size_madeCells, hz1]; simp
    have hmk : ∀ W : World, (Instr.makeSlice 42 (.int .i64 (s.size : Int)) (.int .i64 (s.size : Int))).run Try.prog W = .ok (.slice (some ⟨W.heap.size, 0, none⟩) s.size s.size) (W.alloc (.cells M 5)) := fun W => by
      have h := run_make (P := Try.prog) W 42 5 i0 (.int .u8 0) Try.underlying42 hi hz0 .i64 .i64 (s.size : Int) (s.size : Int) (by omega) (by omega) (by rw [hz2]; omega) (by omega)
      rw [← hM] at h
      simpa using h
    clear hM
    have hcp := Lib.run_copy_row_string (P := Try.prog) (w.alloc (.cells M 5)) 42 9 3 5 w.heap.size 0 s.size s.size s M 5 Try.underlying42 hinfo (World.alloc_heap_new w _) (Nat.le_refl _) (by omega)
    obtain ⟨Y, hY⟩ : ∃ Y, Y = (M.toList.take 0 ++ Lib.byteCells s.data.toList ++ M.toList.drop (0 + s.size)).toArray := ⟨_, rfl⟩
    rw [← hY] at hcp
    have hYl : Y.toList = Lib.byteCells s.data.toList := by
      rw [hY, List.toList_toArray, List.take_zero, List.nil_append, List.drop_of_length_le (by rw [Array.length_toList]; omega), List.append_nil]
    have hYs : Y.size = s.size := by rw [← Array.length_toList, hYl, Lib.byteCells_length, ← Lib.size_eq]
    have hgY : ((w.alloc (.cells M 5)).setRow w.heap.size Y).heap[w.heap.size]? = some (.cells Y 5 (0, 0)) := setRow_heap _ _ M _ 5 (0, 0) (World.alloc_heap_new w _)
    have hne : s.data.toList ≠ [] := fun e => h0 (by rw [Lib.size_eq, e]; rfl)
    have hUS := Lib.run_unsafeString_row (P := Try.prog) ((w.alloc (.cells M 5)).setRow w.heap.size Y) 58 3 9 5 Try.underlying58 hco w.heap.size Y.size (by unfold World.shape?; rw [hgY]) s.data.toList hne (by rw [← Lib.size_eq]; omega) (by rw [← Lib.size_eq]; omega)
      (fun j x hx => Lib.cells_of_row hgY Y.size j _ (by rw [List.take_of_length_le (by rw [Array.length_toList]; exact Nat.le_refl _), hYl]; simp [Lib.byteCells, hx]))
    rw [← Lib.size_eq] at hUS
    clear hY
    go_enter Try.func20, Try.ntmps20
    go_wp2
    go_ret
    have hb1 : Below w.heap.size w (w.alloc (.cells M 5)) := (Below.refl _ w).alloc (Nat.le_refl _) _
    have hb2 : Below w.heap.size (w.alloc (.cells M 5)) ((w.alloc (.cells M 5)).setRow w.heap.size Y) := ⟨rfl, rfl, rfl, by simp, fun k hk => setRow_other _ _ _ _ (by omega)⟩
    exact ⟨rfl, Lib.below_freeze (hb1.trans hb2) (p := ⟨w.heap.size, 0, none⟩) (Nat.le_refl _) _⟩
theorem begV_hi (s : ByteArray) (i : Int) : -1 ≤ begV s i ∧ begV s i ≤ s.size := by
  unfold begV
  cases h : nthO s i with
  | some p =>
    have hp : p < s.size := by
      unfold nthO at h
      by_cases h0 : i < 0
      · rw [if_pos h0] at h; cases h
      · rw [if_neg h0] at h
        exact starts_lt s p (List.mem_of_getElem? h)
    dsimp only
    omega
  | none =>
    dsimp only
    split <;> omega
theorem begV_zero (s : ByteArray) : begV s 0 = 0 := by
  unfold begV nthO
  rw [if_neg (by omega)]
  by_cases h : 0 < s.size
  · have e : starts s = 0 :: startsFrom s (s.size - 1) (0 + wd s 0) := by
      rw [← startsFrom_step s (s.size - 1) 0 h]
      exact startsFrom_fuel s _ _ 0 (by omega) (by omega)
    rw [e]
    rfl
  · have e : starts s = [] := startsFrom_end s _ 0 h
    rw [e]
    show (if (0 : Int) = ((([] : List Nat).length : Nat) : Int) then (s.size : Int) else -1) = 0
    rw [if_pos (by simp)]
    omega
theorem begV_in (s : ByteArray) (k : Int) (h0 : 0 ≤ k) (h1 : k ≤ (starts s).length) : 0 ≤ begV s k := by
  unfold begV nthO
  rw [if_neg (by omega)]
  by_cases h : k.toNat < (starts s).length
  · rw [List.getElem?_eq_getElem h]; dsimp only; omega
  · rw [List.getElem?_eq_none (by omega)]
    dsimp only
    rw [if_pos (by omega)]
    omega
theorem begV_end (s : ByteArray) : begV s (starts s).length = s.size := by
  unfold begV nthO
  rw [if_neg (by omega), List.getElem?_eq_none (by simp)]
  simp
theorem begV_out (s : ByteArray) (k : Int) (h : k < 0 ∨ ((starts s).length : Int) < k) : begV s k = -1 := by
  unfold begV
  rw [nthO_miss (by omega)]
  dsimp only
  rw [if_neg (by omega)]

set_option maxHeartbeats 400000 in
theorem cut_ok (s : ByteArray) (hs : s.size ≤ 140737488355328) (i k : Int) (b e : Nat) (h1 : begV s i = b) (h2 : begV s k = e) (h3 : b ≤ e) (h4 : e ≤ s.size) (w : World) :
    Calls Try.prog 15 #[.string s, .int .i64 i, .int .i64 k] w fun x w' => x = .returned (.tuple #[.string (s.extract b e), .int .i64 0]) ∧ Below w.heap.size w w' := by
  have hs' : s.size ≤ maxLen := by unfold maxLen; omega
  have H1 : Hid (begV s i = b) := h1
  have H2 : Hid (begV s k = e) := h2
  clear h1 h2
  go_enter Try.func15, Try.ntmps15
  go_wp2_with fail
  refine (begins_any s hs' i _).mono ?_
  rintro x w1 ⟨rfl, hb1⟩
  rw [H1.out]
  go_wp2_with fail
  refine (begins_any s hs' k _).mono ?_
  rintro x w2 ⟨rfl, hb2⟩
  rw [H2.out]
  go_wp2_with (go_at_call 20; refine (clone_any _ _ ?_).mono ?_)
  · simp; omega
  rintro x w3 ⟨rfl, hb3⟩
  go_wp2
  go_ret2
  exact ⟨rfl, hb1.trans ((hb2.mono hb1.size).trans (hb3.mono (Nat.le_trans hb1.size hb2.size)))⟩

set_option maxHeartbeats 400000 in
theorem cut_bad (s : ByteArray) (hs : s.size ≤ maxLen) (i k : Int) (h : begV s i < 0 ∨ begV s k < begV s i) (w : World) :
    Calls Try.prog 15 #[.string s, .int .i64 i, .int .i64 k] w fun x w' => x = .returned (.tuple #[.string ⟨#[]⟩, .int .i64 3]) ∧ Below w.heap.size w w' := by
  go_enter Try.func15, Try.ntmps15
  go_wp2_with fail
  refine (begins_any s hs i _).mono ?_
  rintro x w1 ⟨rfl, hb1⟩
  go_wp2_with fail
  refine (begins_any s hs k _).mono ?_
  rintro x w2 ⟨rfl, hb2⟩
  generalize begV s i = b at *
  generalize begV s k = e at *
  by_cases hb : b < 0
  · go_wp2
    go_ret2
    exact ⟨rfl, hb1.trans (hb2.mono hb1.size)⟩
  · have he : e < b := by omega
    clear h
    go_wp2
    go_ret2
    exact ⟨rfl, hb1.trans (hb2.mono hb1.size)⟩
end Go.Proofs.Ytgihafldphpncaa
