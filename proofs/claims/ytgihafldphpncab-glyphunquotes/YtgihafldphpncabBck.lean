/- What glyph.Back answers: at every text of at most 2^47 bytes. -/
import Derived.Test.YtgihafldphpncabAny
import Derived.Lib.BufferWrite
import Derived.Laws.IdiomStrings
import Derived.Laws.CopyOwn
import Derived.Laws.Tables
import Derived.Laws.OwnMore
namespace Go.Proofs.Ytgihafldphpncab
open Go.RowKit Go.Shelf
attribute [local go_sem] Oper.semAt_some

/-- The bytes of a character; of a list of characters, the last one first. -/
def chB (s : ByteArray) (p : Nat) : List UInt8 := (s.data.toList.drop p).take (wd s p)
def backL (s : ByteArray) : List Nat → List UInt8
  | [] => []
  | p :: r => backL s r ++ chB s p
theorem backL_snoc (s : ByteArray) (x : Nat) : ∀ l : List Nat, backL s (l ++ [x]) = chB s x ++ backL s l
  | [] => by simp [backL]
  | p :: r => by simp [backL, backL_snoc s x r]
def backB (s : ByteArray) : ByteArray := ⟨(backL s (starts s)).toArray⟩
theorem chB_len (s : ByteArray) (p : Nat) (h : p < s.size) : (chB s p).length = wd s p := by
  have := wd_le s p h
  have hl : s.data.toList.length = s.size := by simp
  unfold chB
  rw [List.length_take, List.length_drop]
  omega
/-- The cells of the row, once so many characters are in. -/
def rowC (s : ByteArray) (pre : List Nat) : List Value := List.replicate (s.size - (backL s pre).length) (.int .u8 0) ++ Lib.byteCells (backL s pre)
/-- Where the walk is. -/
def At (s : ByteArray) (pre : List Nat) : Prop := ∃ pos fuel, starts s = pre ++ startsFrom s fuel pos ∧ s.size ≤ pos + fuel ∧ (backL s pre).length = pos ∧ pos ≤ s.size
theorem at_step (s : ByteArray) (pre : List Nat) (x : Nat) (h : At s pre) (hp : pre ++ [x] <+: starts s) : (backL s pre).length = x ∧ x < s.size ∧ At s (pre ++ [x]) := by
  obtain ⟨pos, fuel, h1, h2, h3, h4⟩ := h
  rw [h1, List.prefix_append_right_inj] at hp
  have hlt : pos < s.size := by
    rcases Nat.lt_or_ge pos s.size with h | h
    · exact h
    · rw [startsFrom_end s fuel pos (by omega)] at hp
      cases List.prefix_nil.1 hp
  obtain ⟨f, rfl⟩ : ∃ f, fuel = f + 1 := ⟨fuel - 1, by omega⟩
  rw [startsFrom_step s f pos hlt] at hp h1
  obtain ⟨rfl, _⟩ := List.cons_prefix_cons.1 hp
  have := wd_pos s x
  refine ⟨h3, hlt, x + wd s x, f, by rw [h1]; simp, by omega, ?_, wd_le s x hlt⟩
  rw [backL_snoc, List.length_append, chB_len s x hlt, h3]
  omega
theorem at_end (s : ByteArray) (h : At s (starts s)) : (backL s (starts s)).length = s.size := by
  obtain ⟨pos, fuel, h1, h2, h3, h4⟩ := h
  have h5 : startsFrom s fuel pos = [] := by
    have := congrArg List.length h1
    rw [List.length_append] at this
    exact List.length_eq_zero_iff.1 (by omega)
  rcases Nat.lt_or_ge pos s.size with h | h
  · obtain ⟨f, rfl⟩ : ∃ f, fuel = f + 1 := ⟨fuel - 1, by omega⟩
    rw [startsFrom_step s f pos h] at h5
    cases h5
  · omega
theorem row_step (s : ByteArray) (pre : List Nat) (x : Nat) (hbl : (backL s pre).length = x) (hx : x < s.size) :
    ((rowC s pre).toArray.toList.take (s.size - (x + wd s x)) ++ Lib.byteCells (s.extract x (x + wd s x)).data.toList ++ (rowC s pre).toArray.toList.drop (s.size - (x + wd s x) + wd s x)).toArray = (rowC s (pre ++ [x])).toArray := by
  have hwd := wd_le s x hx
  have e1 : (s.extract x (x + wd s x)).data.toList = chB s x := by
    rw [ByteArray.data_extract, Array.toList_extract]
    unfold chB
    simp [List.extract]
  have e2 : s.size - (x + wd s x) + wd s x = s.size - x := by omega
  have e3 : (rowC s pre) = List.replicate (s.size - x) (.int .u8 0) ++ Lib.byteCells (backL s pre) := by unfold rowC; rw [hbl]
  have e4 : rowC s (pre ++ [x]) = List.replicate (s.size - (x + wd s x)) (.int .u8 0) ++ (Lib.byteCells (chB s x) ++ Lib.byteCells (backL s pre)) := by
    unfold rowC
    rw [backL_snoc, List.length_append, chB_len s x hx, hbl, Lib.byteCells_append, Nat.add_comm (wd s x) x]
  rw [e1, e2, e4]
  show (List.take _ (rowC s pre) ++ _ ++ List.drop _ (rowC s pre)).toArray = _
  rw [e3, List.take_append_of_le_length (by simp; omega), List.take_replicate, List.drop_append_of_le_length (by simp), List.drop_replicate, Nat.min_eq_left (by omega), Nat.sub_self, List.replicate_zero, List.nil_append, List.append_assoc]
theorem infoByte8 : (Try.prog.info? 5).map (fun i => (i.zero, i.size, i.bytes)) = some (some (.int .u8 0), 1, 1) := by kernel_rfl

set_option maxHeartbeats 4000000 in
theorem back_in (s : ByteArray) (hs : s.size ≤ 140737488355328) (w : World) :
    CallsIn Fence.wide 0 Try.prog 18 #[.string s] w fun e w' => e = .returned (.string (backB s)) ∧ Below w.heap.size w w' := by
  have hlen := starts_length s
  have hs' : s.size ≤ maxLen := by unfold maxLen; omega
  obtain ⟨ic, hic, hz0, hz1, hz2⟩ := info_parts infoByte8
  have hmk : ∀ W : World, (Instr.makeSlice 54 (.int .i64 (s.size : Int)) (.int .i64 (s.size : Int))).run Try.prog W = .ok (.slice (some ⟨W.heap.size, 0, none⟩) s.size s.size) (W.alloc (.cells (rowC s []).toArray 5)) := by
    intro W
    have h := run_make (P := Try.prog) W 54 5 ic _ Try.underlying54 hic hz0 .i64 .i64 (s.size : Int) (s.size : Int) (by omega) (Int.le_refl _) (by rw [hz2]; omega) (by omega)
    rw [h, hz1]
    have e : madeCells (Value.int .u8 0).cells (((s.size : Int).toNat) * 1) = (rowC s []).toArray := by
      apply Array.toList_inj.1
      have := toList_madeCells_one (.int .u8 0) s.size
      simpa [rowC, backL, Lib.byteCells, Value.cells] using this
    rw [e]; rfl
  refine callsIn_of_wp_marks Try.func18 rfl trivial ?_ rfl
  simp only [Try.ntmps18, List.size_toArray, List.length_cons, List.length_nil, Nat.reduceAdd, Nat.reduceSub, Array.replicate_succ, Array.replicate_zero, List.push_toArray, List.append_toArray, List.nil_append, List.cons_append]
  gi_wp2_with (with_reducible (refine And.intro (wfn _) (And.intro wdep ?_)); gi_at_call 30; refine (callsIn_wide.2 (each_any s _)).mono ?_; rintro e w' ⟨rfl, rfl⟩)
  simp only [Nat.add_assoc, Nat.reduceAdd]
  obtain ⟨W0, hW0⟩ : ∃ W0, ((((w.alloc (.cells #[.string s] 9)).alloc (.cells (rowC s []).toArray 5)).alloc (.cells #[.slice (some ⟨w.heap.size + 1, 0, none⟩) s.size s.size] 54)).alloc (.cells #[.string s] 9)) = W0 := ⟨_, rfl⟩
  have z0 : W0.heap.size = w.heap.size + 4 := by rw [← hW0]; simp
  have b0 : Below w.heap.size w W0 := by rw [← hW0]; exact ((((Below.refl _ w).alloc (by simp) _).alloc (by simp) _).alloc (by simp; omega) _).alloc (by simp; omega) _
  have l0 : W0.heap[w.heap.size]? = some (.cells #[.string s] 9) := by rw [← hW0]; exact get_old (get_old (get_old (get_new (by simp))))
  have l1 : W0.heap[w.heap.size + 1]? = some (.cells (rowC s []).toArray 5) := by rw [← hW0]; exact get_old (get_old (get_new (by simp)))
  have l2 : W0.heap[w.heap.size + 2]? = some (.cells #[.slice (some ⟨w.heap.size + 1, 0, none⟩) s.size s.size] 54) := by rw [← hW0]; exact get_old (get_new (by simp))
  have x0 : Boxed W0 (w.heap.size + 3) 9 (.string s) := by show W0.heap[_]? = _; rw [← hW0]; exact get_new (by simp)
  rw [hW0]
  clear hW0
  refine wp_range (kb := 0) (gf := 41) (lb := #[.pointer (some ⟨w.heap.size + 3, 0, none⟩)]) rfl (enters_of Try.func41 (by kernel_rfl) rfl)
    (each1_seq s hs' (w.heap.size + 3) _ x0) (by omega) (fun _ => rfl)
    (fun pre W => W.heap[w.heap.size]? = some (.cells #[.string s] 9) ∧ (W.heap[w.heap.size + 2]? = some (.cells #[.slice (some ⟨w.heap.size + 1, 0, none⟩) s.size s.size] 54) ∧ (W.heap[w.heap.size + 1]? = some (.cells (rowC s pre).toArray 5) ∧ (Below w.heap.size w W ∧ At s pre))))
    (fun _ _ _ => False)
    (OwnFrom.and ((blk_own _ (fun _ => _) (fun _ => rfl)).from _) (OwnFrom.and ((blk_own _ (fun _ => _) (fun _ => rfl)).from _) (OwnFrom.and ((blk_own _ (fun pre : List Nat => .cells (rowC s pre).toArray 5) (fun _ => rfl)).from _) (OwnFrom.and (ownFrom_below (Nat.le_refl _) (by omega)) (ownFrom_pure _ (At s))))))
    (fun _ _ _ _ _ hs _ _ => hs)
    ⟨l0, l2, l1, b0, 0, s.size, rfl, by omega, rfl, by omega⟩
    (fun x a' W => ∃ Bx, W.heap[Bx]? = some (.cells (chC s x) 32) ∧ a' = { tmps := #[.string s, .pointer (some ⟨w.heap.size, 0, none⟩), .string ⟨#[]⟩, .pointer (some ⟨w.heap.size + 2, 0, none⟩), .pointer (some ⟨Bx, 0, none⟩), undef, .string s, .int .i64 s.size, .slice (some ⟨w.heap.size + 1, 0, none⟩) s.size s.size, .string s, .func (.func 41) #[] #[.pointer (some ⟨w.heap.size + 3, 0, none⟩)], chV s x, undef, undef, undef, undef, undef, undef, undef, undef, undef, undef, undef, undef, undef, undef, undef, undef, undef, undef, undef], defers := [] })
    ?ax ?assign ?body ?done ?stop
  case ax =>
    rintro x a' _ X Y row ⟨Bx, h2, h3⟩ hg hr
    exact ⟨Bx, ((blk_own Bx (fun _ : Unit => .cells (chC s x) 32) (fun _ => rfl)).from _) () X Y row h2 hg hr, h3⟩
  case assign =>
    rintro l pre x W K ⟨h1, h2, h3, hb, hat⟩ hsz hK
    simp only [chV]
    gi_wp2
    exact hK _ _ (Kept.below ((Below.refl _ W).alloc (Nat.le_refl _) _) (by omega) (by omega)) ⟨get_old h1, get_old h2, get_old h3, hb.alloc (by omega) _, hat⟩ ⟨W.heap.size, get_new rfl, rfl⟩
  case body =>
    rintro l pre x a' W ⟨h1, h2, h3, hb, hat⟩ ⟨Bx, hx, rfl⟩ hsz hpr
    obtain ⟨hbl, hxs, hat2⟩ := at_step s pre x hat hpr
    have hwd := wd_le s x hxs
    have hwp := wd_pos s x
    have x1 : W.cell? ⟨Bx, 1, none⟩ = some (.int .i64 x) := cell_of hx 1
    have x2 : W.cell? ⟨Bx, 2, none⟩ = some (.int .i64 (wd s x)) := cell_of hx 2
    have c0 : W.cell? ⟨w.heap.size, 0, none⟩ = some (.string s) := cell_of h1 0
    have c2 : W.cell? ⟨w.heap.size + 2, 0, none⟩ = some (.slice (some ⟨w.heap.size + 1, 0, none⟩) s.size s.size) := cell_of h2 0
    have hmx : Try.prog.follows .mixedOrders = true := by kernel_rfl
    gi_wp2
    refine wpIn_region_any hmx ?_
    have hzz : (W.drew).heap = W.heap := rfl
    show wpAnyIn _ _ _ _ _ _ 12 _ _ W.drew
    have d1 : W.drew.cell? ⟨Bx, 1, none⟩ = some (.int .i64 x) := x1
    have d0 : W.drew.cell? ⟨w.heap.size, 0, none⟩ = some (.string s) := c0
    have d2 : W.drew.cell? ⟨w.heap.size + 2, 0, none⟩ = some (.slice (some ⟨w.heap.size + 1, 0, none⟩) s.size s.size) := c2
    have d3 : W.drew.heap[w.heap.size + 1]? = some (.cells (rowC s pre).toArray 5) := h3
    have hcp : ∀ ty, (Builtin.copy_ #[54, 9] ty #[.slice (some ⟨w.heap.size + 1, s.size - (x + wd s x), none⟩) (x + wd s x) (x + wd s x), .string (s.extract x (x + wd s x))]).run Try.prog W.drew = .ok (.int .i64 (wd s x)) (W.drew.setRow (w.heap.size + 1) (rowC s (pre ++ [x])).toArray) := by
      intro ty
      have hez : (s.extract x (x + wd s x)).size = wd s x := by rw [ByteArray.size_extract]; omega
      have hrl : (rowC s pre).length = s.size := by simp [rowC, Lib.byteCells_length, hbl]; omega
      have h := Lib.run_copy_row_string (P := Try.prog) W.drew 54 9 ty 5 (w.heap.size + 1) (s.size - (x + wd s x)) (x + wd s x) (x + wd s x) (s.extract x (x + wd s x)) _ _ Try.underlying54 (by rw [hic]; simp [hz1]) h3 (by omega) (by rw [hez, List.size_toArray, hrl]; omega)
      rw [h, hez, row_step s pre x hbl hxs]
      rfl
    have hbV : Below w.heap.size w W.drew := hb.trans ⟨rfl, rfl, rfl, Nat.le_refl _, fun _ _ => rfl⟩
    generalize W.drew = V at hzz d1 d0 d2 d3 hcp hbV ⊢
    clear x1 x2 c0 c2
    have hwr : IntKind.i64.wrap ((s.size : Int) - ((x : Int) + (wd s x : Int))) = (s.size : Int) - ((x : Int) + (wd s x : Int)) := by rw [IntKind.wrap_i64]; omega
    have hc1 : (x : Int) + (wd s x : Int) ≤ (s.size : Int) ∧ (s.size : Int) - ((x : Int) + (wd s x : Int)) ≤ (s.size : Int) := by omega
    have htn : ((s.size : Int) - ((x : Int) + (wd s x : Int))).toNat = s.size - (x + wd s x) := by omega
    have hne : ¬ s.size = s.size - (x + wd s x) := by omega
    have hsub : s.size - (s.size - (x + wd s x)) = x + wd s x := by omega
    have hc2 : 0 ≤ (x : Int) + (wd s x : Int) ∧ (x : Int) + (wd s x : Int) ≤ (s.size : Int) := by omega
    have hc3 : (x : Int) ≤ (x : Int) + (wd s x : Int) := by omega
    have htm : ((x : Int) + (wd s x : Int)).toNat = x + wd s x := by omega
    refine wpAnyIn_inv (fun k listed a w1 => (∃ b0 b1 b2 b3 b4 b5 b6 b7 b8 b9 b10 : Bool, (b5 = true → b0 = true ∧ b4 = true) ∧ (b4 = true → b2 = true ∧ b3 = true) ∧ (b2 = true → b1 = true) ∧ (b10 = true → b6 = true ∧ b8 = true ∧ b9 = true) ∧ (b8 = true → b7 = true) ∧ fls b0 + fls b1 + fls b2 + fls b3 + fls b4 + fls b5 + fls b6 + fls b7 + fls b8 + fls b9 + fls b10 + 1 = k ∧ listed = #[b0, b1, b2, b3, b4, b5, b6, b7, b8, b9, b10, false] ∧ a = { tmps := #[.string s, .pointer (some ⟨w.heap.size, 0, none⟩), .string ⟨#[]⟩, .pointer (some ⟨w.heap.size + 2, 0, none⟩), .pointer (some ⟨Bx, 0, none⟩), .int .i64 (x + wd s x), .string s, .int .i64 s.size, .slice (some ⟨w.heap.size + 1, 0, none⟩) s.size s.size, .string s, .func (.func 41) #[] #[.pointer (some ⟨w.heap.size + 3, 0, none⟩)], chV s x, .pointer (some ⟨Bx, 1, none⟩), .int .i64 x, .pointer (some ⟨Bx, 2, none⟩), .int .i64 (wd s x), .int .i64 (x + wd s x), bif b0 then .slice (some ⟨w.heap.size + 1, 0, none⟩) s.size s.size else undef, bif b1 then .string s else undef, bif b2 then .int .i64 s.size else undef, bif b3 then .int .i64 (x + wd s x) else undef, bif b4 then .int .i64 (s.size - (x + wd s x)) else undef, bif b5 then .slice (some ⟨w.heap.size + 1, s.size - (x + wd s x), none⟩) (x + wd s x) (x + wd s x) else undef, bif b6 then .string s else undef, bif b7 then .pointer (some ⟨Bx, 1, none⟩) else undef, bif b8 then .int .i64 x else undef, bif b9 then .int .i64 (x + wd s x) else undef, bif b10 then .string (s.extract x (x + wd s x)) else undef, undef, undef, undef], defers := [] } ∧ w1 = V) ∨ (k = 0 ∧ listed = #[true, true, true, true, true, true, true, true, true, true, true, true] ∧ a = { tmps := #[.string s, .pointer (some ⟨w.heap.size, 0, none⟩), .string ⟨#[]⟩, .pointer (some ⟨w.heap.size + 2, 0, none⟩), .pointer (some ⟨Bx, 0, none⟩), .int .i64 (x + wd s x), .string s, .int .i64 s.size, .slice (some ⟨w.heap.size + 1, 0, none⟩) s.size s.size, .string s, .func (.func 41) #[] #[.pointer (some ⟨w.heap.size + 3, 0, none⟩)], chV s x, .pointer (some ⟨Bx, 1, none⟩), .int .i64 x, .pointer (some ⟨Bx, 2, none⟩), .int .i64 (wd s x), .int .i64 (x + wd s x), .slice (some ⟨w.heap.size + 1, 0, none⟩) s.size s.size, .string s, .int .i64 s.size, .int .i64 (x + wd s x), .int .i64 (s.size - (x + wd s x)), .slice (some ⟨w.heap.size + 1, s.size - (x + wd s x), none⟩) (x + wd s x) (x + wd s x), .string s, .pointer (some ⟨Bx, 1, none⟩), .int .i64 x, .int .i64 (x + wd s x), .string (s.extract x (x + wd s x)), .int .i64 (wd s x), undef, undef], defers := [] } ∧ w1 = V.setRow (w.heap.size + 1) (rowC s (pre ++ [x])).toArray)) ?h0 ?hs 12 _ _ _ (Or.inl ⟨false, false, false, false, false, false, false, false, false, false, false, by simp, by simp, by simp, by simp, by simp, rfl, rfl, rfl, rfl⟩)
    case h0 =>
      rintro listed a w1 (⟨b0, b1, b2, b3, b4, b5, b6, b7, b8, b9, b10, _, _, _, _, _, h, _⟩ | ⟨_, rfl, rfl, rfl⟩)
      · omega
      · refine ⟨by kernel_rfl, ?_⟩
        show Kept (w.heap.size + 3) W0.heap.size (5 + 2) W (V.setRow _ _) ∧ _
        refine ⟨⟨by rw [size_setRow, hzz]; exact Nat.le_refl _, by rw [setRow_other _ _ _ _ (by omega), hzz], fun k h1 h2 => by rw [setRow_other _ _ _ _ (by omega), hzz]⟩, ?_, ?_, setRow_heap _ _ _ _ _ _ d3, below_setRow hbV (by omega) _, hat2⟩
        · rw [setRow_other _ _ _ _ (by omega), hzz]; exact h1
        · rw [setRow_other _ _ _ _ (by omega), hzz]; exact h2
    case hs =>
      rintro k listed a w1 (⟨b0, b1, b2, b3, b4, b5, b6, b7, b8, b9, b10, q5, q4, q2, q10, q8, hk, rfl, rfl, rfl⟩ | ⟨h, _⟩)
      · refine ⟨fun h => ?_, fun i hi => ?_⟩
        · have nr := List.eq_nil_iff_forall_not_mem.1 h
          cases b0 with
          | false => exact absurd (mem_ready.2 ⟨rfl, _, rfl, by simp [Region.binds]⟩) (nr 0)
          | true =>
          cases b1 with
          | false => exact absurd (mem_ready.2 ⟨rfl, _, rfl, by simp [Region.binds]⟩) (nr 1)
          | true =>
          cases b2 with
          | false => exact absurd (mem_ready.2 ⟨rfl, _, rfl, by simp [Region.binds]⟩) (nr 2)
          | true =>
          cases b3 with
          | false => exact absurd (mem_ready.2 ⟨rfl, _, rfl, by simp [Region.binds]⟩) (nr 3)
          | true =>
          cases b4 with
          | false => exact absurd (mem_ready.2 ⟨rfl, _, rfl, by simp [Region.binds]⟩) (nr 4)
          | true =>
          cases b5 with
          | false => exact absurd (mem_ready.2 ⟨rfl, _, rfl, by simp [Region.binds]⟩) (nr 5)
          | true =>
          cases b6 with
          | false => exact absurd (mem_ready.2 ⟨rfl, _, rfl, by simp [Region.binds]⟩) (nr 6)
          | true =>
          cases b7 with
          | false => exact absurd (mem_ready.2 ⟨rfl, _, rfl, by simp [Region.binds]⟩) (nr 7)
          | true =>
          cases b8 with
          | false => exact absurd (mem_ready.2 ⟨rfl, _, rfl, by simp [Region.binds]⟩) (nr 8)
          | true =>
          cases b9 with
          | false => exact absurd (mem_ready.2 ⟨rfl, _, rfl, by simp [Region.binds]⟩) (nr 9)
          | true =>
          cases b10 with
          | false => exact absurd (mem_ready.2 ⟨rfl, _, rfl, by simp [Region.binds]⟩) (nr 10)
          | true =>
          exact absurd (mem_ready.2 ⟨rfl, _, rfl, by simp [Region.binds]⟩) (nr 11)
        · obtain ⟨hun, o, ho, haf⟩ := mem_ready.1 hi
          have ef : fls false = 1 := rfl
          have et : fls true = 0 := rfl
          have hi12 : i < 12 := by
            have := (Array.getElem?_eq_some_iff.1 ho).1
            simpa using this
          match i, hi12 with
          | 0, _ =>
            simp at hun; subst hun
            clear hi
            refine wpOpIn_step rfl (fun K hK => ?_)
            go_simp
            exact hK _ _ (Or.inl ⟨true, b1, b2, b3, b4, b5, b6, b7, b8, b9, b10, fun h => ⟨rfl, (q5 h).2⟩, q4, q2, q10, q8, by omega, rfl, rfl, rfl⟩)
          | 1, _ =>
            simp at hun; subst hun
            clear hi
            refine wpOpIn_step rfl (fun K hK => ?_)
            go_simp
            exact hK _ _ (Or.inl ⟨b0, true, b2, b3, b4, b5, b6, b7, b8, b9, b10, q5, q4, fun h => rfl, q10, q8, by omega, rfl, rfl, rfl⟩)
          | 2, _ =>
            simp at hun; subst hun
            simp at ho; subst ho
            simp [Region.binds] at haf
            obtain rfl := haf
            clear hi
            refine wpOpIn_step rfl (fun K hK => ?_)
            go_simp
            exact hK _ _ (Or.inl ⟨b0, true, true, b3, b4, b5, b6, b7, b8, b9, b10, q5, fun h => ⟨rfl, (q4 h).2⟩, fun _ => rfl, q10, q8, by omega, rfl, rfl, rfl⟩)
          | 3, _ =>
            simp at hun; subst hun
            clear hi
            refine wpOpIn_step rfl (fun K hK => ?_)
            go_simp
            exact hK _ _ (Or.inl ⟨b0, b1, b2, true, b4, b5, b6, b7, b8, b9, b10, q5, fun h => ⟨(q4 h).1, rfl⟩, q2, q10, q8, by omega, rfl, rfl, rfl⟩)
          | 4, _ =>
            simp at hun; subst hun
            simp at ho; subst ho
            simp [Region.binds] at haf
            obtain ⟨rfl, rfl⟩ := haf
            obtain rfl := q2 rfl
            clear hi
            refine wpOpIn_step rfl (fun K hK => ?_)
            go_simp
            exact hK _ _ (Or.inl ⟨b0, true, true, true, true, b5, b6, b7, b8, b9, b10, fun h => ⟨(q5 h).1, rfl⟩, fun _ => ⟨rfl, rfl⟩, q2, q10, q8, by omega, rfl, rfl, rfl⟩)
          | 5, _ =>
            simp at hun; subst hun
            simp at ho; subst ho
            simp [Region.binds] at haf
            obtain ⟨rfl, rfl⟩ := haf
            obtain ⟨rfl, rfl⟩ := q4 rfl
            obtain rfl := q2 rfl
            clear hi
            refine wpOpIn_step rfl (fun K hK => ?_)
            go_simp
            exact hK _ _ (Or.inl ⟨true, true, true, true, true, true, b6, b7, b8, b9, b10, fun _ => ⟨rfl, rfl⟩, q4, q2, q10, q8, by omega, rfl, rfl, rfl⟩)
          | 6, _ =>
            simp at hun; subst hun
            clear hi
            refine wpOpIn_step rfl (fun K hK => ?_)
            go_simp
            exact hK _ _ (Or.inl ⟨b0, b1, b2, b3, b4, b5, true, b7, b8, b9, b10, q5, q4, q2, fun h => ⟨rfl, (q10 h).2.1, (q10 h).2.2⟩, q8, by omega, rfl, rfl, rfl⟩)
          | 7, _ =>
            simp at hun; subst hun
            clear hi
            refine wpOpIn_step rfl (fun K hK => ?_)
            go_simp
            exact hK _ _ (Or.inl ⟨b0, b1, b2, b3, b4, b5, b6, true, b8, b9, b10, q5, q4, q2, q10, fun h => rfl, by omega, rfl, rfl, rfl⟩)
          | 8, _ =>
            simp at hun; subst hun
            simp at ho; subst ho
            simp [Region.binds] at haf
            obtain rfl := haf
            clear hi
            refine wpOpIn_step rfl (fun K hK => ?_)
            go_simp
            exact hK _ _ (Or.inl ⟨b0, b1, b2, b3, b4, b5, b6, true, true, b9, b10, q5, q4, q2, fun h => ⟨(q10 h).1, rfl, (q10 h).2.2⟩, fun _ => rfl, by omega, rfl, rfl, rfl⟩)
          | 9, _ =>
            simp at hun; subst hun
            clear hi
            refine wpOpIn_step rfl (fun K hK => ?_)
            go_simp
            exact hK _ _ (Or.inl ⟨b0, b1, b2, b3, b4, b5, b6, b7, b8, true, b10, q5, q4, q2, fun h => ⟨(q10 h).1, (q10 h).2.1, rfl⟩, q8, by omega, rfl, rfl, rfl⟩)
          | 10, _ =>
            simp at hun; subst hun
            simp at ho; subst ho
            simp [Region.binds] at haf
            obtain ⟨rfl, rfl, rfl⟩ := haf
            obtain rfl := q8 rfl
            clear hi
            refine wpOpIn_step rfl (fun K hK => ?_)
            go_simp
            exact hK _ _ (Or.inl ⟨b0, b1, b2, b3, b4, b5, true, true, true, true, true, q5, q4, q2, fun _ => ⟨rfl, rfl, rfl⟩, q8, by omega, rfl, rfl, rfl⟩)
          | 11, _ =>
            simp at ho; subst ho
            simp [Region.binds] at haf
            obtain ⟨rfl, rfl⟩ := haf
            obtain ⟨rfl, rfl⟩ := q5 rfl
            obtain ⟨rfl, rfl⟩ := q4 rfl
            obtain rfl := q2 rfl
            obtain ⟨rfl, rfl, rfl⟩ := q10 rfl
            obtain rfl := q8 rfl
            clear hi
            refine wpOpIn_step rfl (fun K hK => ?_)
            go_simp
            exact hK _ _ (Or.inr ⟨by omega, rfl, rfl, rfl⟩)
      · omega
  case done =>
    rintro W ⟨h1, h2, h3, hb, hat⟩ hK
    have c2 : W.cell? ⟨w.heap.size + 2, 0, none⟩ = some (.slice (some ⟨w.heap.size + 1, 0, none⟩) s.size s.size) := cell_of h2 0
    have hbl := at_end s hat
    have hrow : rowC s (starts s) = Lib.byteCells (backL s (starts s)) := by unfold rowC; rw [hbl, Nat.sub_self]; rfl
    have hcv : (convert 54 9 (.slice (some ⟨w.heap.size + 1, 0, none⟩) s.size s.size)).run Try.prog W = .ok (.string (backB s)) W := by
      have h := run_convert_bytes_back (P := Try.prog) W 54 9 5 ⟨w.heap.size + 1, 0, none⟩ s.size (backL s (starts s)) Try.underlying54 Try.underlying5 Try.underlying9 (fun j hj => by
        have ha : (⟨w.heap.size + 1, 0, none⟩ : Addr).add j = ⟨w.heap.size + 1, j, none⟩ := by unfold Addr.add; split <;> simp_all
        rw [ha, cell_of h3 j, hrow]
        simp [Lib.byteCells, hj])
      rw [hbl] at h
      exact h
    gi_wp2
    refine ⟨by simp, .inl ⟨_, _, rfl, run_takeDeferred hK, ?_⟩⟩
    refine ⟨.string (backB s), by simp [results, Try.results18, go_sem], rfl, ?_⟩
    exact hb.trans (belowK_b (w := w) (Nat.le_refl _) _ W0.heap.size _ _ (by omega) hK rfl rfl)
  case stop =>
    rintro c pre W _ h _
    exact h.elim
theorem back_any (s : ByteArray) (hs : s.size ≤ 140737488355328) (w : World) :
    Calls Try.prog 18 #[.string s] w fun e w' => e = .returned (.string (backB s)) ∧ Below w.heap.size w w' := callsIn_wide.1 (back_in s hs w)
end Go.Proofs.Ytgihafldphpncab
