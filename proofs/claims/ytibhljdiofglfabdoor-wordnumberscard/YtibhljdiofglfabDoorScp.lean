/- A line put ahead of a text, and its words: plain mathematics. And that the first call of the statements of chapter 2 answers true. -/
import Derived.Test.YtibhljdiofglfabDoorSca
namespace Go.Proofs.YtibhljdiofglfabDoor
open Go.RowKit Go.Shelf

theorem lines_fuel : ∀ (f g : Nat) (s : ByteArray), s.size ≤ f → s.size ≤ g → linesAux f s = linesAux g s
  | 0, g, s, h, _ => by
    have hb := nl_bounds s
    have hn : nlAt s < 0 := by omega
    rw [lines_last hn, lines_last hn]
  | f + 1, 0, s, _, h => by
    have hb := nl_bounds s
    have hn : nlAt s < 0 := by omega
    rw [lines_last hn, lines_last hn]
  | f + 1, g + 1, s, h, k => by
    by_cases hn : nlAt s < 0
    · rw [lines_last hn, lines_last hn]
    · obtain ⟨n, e⟩ := Int.eq_ofNat_of_zero_le (show 0 ≤ nlAt s by omega)
      have hb := nl_bounds s
      have e2 : (s.extract (n + 1) s.size).size = s.size - (n + 1) := by rw [ByteArray.size_extract]; omega
      rw [lines_more e, lines_more e, lines_fuel f g _ (by omega) (by omega)]
/-- A line and its end, ahead of a text. -/
def headX : ByteArray := ⟨#[35, 32, 226, 152, 131]⟩
def headT : ByteArray := ⟨#[35, 32, 226, 152, 131, 10]⟩
theorem head_nl (s : ByteArray) : nlAt (headT ++ s) = ((5 : Nat) : Int) := by
  have e : (headT ++ s).data.toList = 35 :: 32 :: 226 :: 152 :: 131 :: 10 :: s.data.toList := by
    rw [ByteArray.data_append]
    simp [headT]
  unfold nlAt
  rw [e]
  simp [Lib.indexByte]
theorem head_size (s : ByteArray) : (headT ++ s).size = s.size + 6 := by
  rw [ByteArray.size_append]
  show 6 + s.size = _
  omega
theorem head_lines (s : ByteArray) : linesOf (headT ++ s) = headX :: linesOf s := by
  unfold linesOf
  have hz := head_size s
  have e1 : (headT ++ s).extract 0 5 = headX := by
    apply ByteArray.ext
    rw [ByteArray.data_extract, ByteArray.data_append]
    apply Array.ext'
    simp [headT, headX]
  have e2 : (headT ++ s).extract (5 + 1) (headT ++ s).size = s := by
    apply ByteArray.ext
    rw [ByteArray.data_extract, ByteArray.data_append, hz]
    apply Array.ext'
    simp [headT]
    exact List.take_of_length_le (by simp)
  rw [show (headT ++ s).size = (s.size + 5) + 1 by omega] at *
  rw [lines_more (head_nl s), e1]
  congr 1
  have e3 : ((headT ++ s).extract (5 + 1) (headT ++ s).size) = s := by rw [show (headT ++ s).size = s.size + 5 + 1 by rw [head_size]]; exact e2
  rw [e3]
  exact lines_fuel _ _ _ (by omega) (Nat.le_refl _)
theorem head_cut : cutR headX = ([], 0, 0) := by kernel_rfl
theorem head_bad (L : List ByteArray) : badL (headX :: L) = (badL L).map (fun r => (r.1 + 1, r.2)) := by
  rw [badL, head_cut, if_neg (by simp)]
theorem head_kk (L : List ByteArray) : kkL (headX :: L) = kkL L := by
  rw [kkL, lineN, head_cut]
  simp
theorem head_xx (L : List ByteArray) : xxL 0 (headX :: L) = xxL 1 L := by
  rw [xxL, lineT, head_cut]
  simp

/-- The words of a text as fours. -/
abbrev Fou := Int × ByteArray × Int × Int
def cells4 : List Fou → List Value
  | [] => []
  | (k, t, l, c) :: r => tokC k t l c ++ cells4 r
theorem cells4_append : ∀ a b : List Fou, cells4 (a ++ b) = cells4 a ++ cells4 b
  | [], b => rfl
  | (k, t, l, c) :: a, b => by rw [List.cons_append, cells4, cells4, cells4_append a b, List.append_assoc]
theorem flat_cells (ln : Int) : ∀ l : List Tok, flatT ln l = cells4 (l.map (fun x => (x.1, x.2.1, ln, (x.2.2 : Int))))
  | [] => rfl
  | (k, t, c) :: l => by rw [flatT, List.map_cons, cells4, flat_cells ln l]
def lineQ (ln : Nat) (x : ByteArray) : List Fou := if (cutR x).1.length = 0 then [] else (cutR x).1.map (fun x => (x.1, x.2.1, (ln : Int), (x.2.2 : Int))) ++ [(1, ⟨#[10]⟩, (ln : Int), (((starts x).length + 1 : Nat) : Int))]
theorem lineT_cells (ln : Nat) (x : ByteArray) : lineT ln x = cells4 (lineQ ln x) := by
  unfold lineT lineQ
  split
  · rfl
  · rw [cells4_append, ← flat_cells, cells4, cells4, List.append_nil]
theorem lineQ_len (ln : Nat) (x : ByteArray) : (lineQ ln x).length = lineN x := by
  unfold lineN lineQ
  split
  · rfl
  · simp
def up1 (q : Fou) : Fou := (q.1, q.2.1, q.2.2.1 + 1, q.2.2.2)
theorem lineQ_up (ln : Nat) (x : ByteArray) : lineQ (ln + 1) x = (lineQ ln x).map up1 := by
  unfold lineQ
  split
  · rfl
  · rw [List.map_append, List.map_map]
    rfl
theorem lineQ_ln (ln : Nat) (x : ByteArray) : ∀ q ∈ lineQ ln x, q.2.2.1 = ln := by
  intro q hq
  unfold lineQ at hq
  split at hq
  · cases hq
  · rcases List.mem_append.1 hq with h | h
    · obtain ⟨y, _, rfl⟩ := List.mem_map.1 h
      rfl
    · rw [List.mem_singleton.1 h]
def fours : Nat → List ByteArray → List Fou
  | _, [] => []
  | n, x :: t => lineQ (n + 1) x ++ fours (n + 1) t
theorem fours_cells : ∀ (n : Nat) (L : List ByteArray), xxL n L = cells4 (fours n L)
  | _, [] => rfl
  | n, x :: t => by rw [xxL, fours, cells4_append, lineT_cells, fours_cells (n + 1) t]
theorem fours_len : ∀ (n : Nat) (L : List ByteArray), (fours n L).length = kkL L
  | _, [] => rfl
  | n, x :: t => by rw [kkL, fours, List.length_append, lineQ_len, fours_len (n + 1) t]
theorem fours_up : ∀ (n : Nat) (L : List ByteArray), fours (n + 1) L = (fours n L).map up1
  | _, [] => rfl
  | n, x :: t => by rw [fours, fours, List.map_append, lineQ_up, fours_up (n + 1) t]
theorem fours_ln : ∀ (n : Nat) (L : List ByteArray), ∀ q ∈ fours n L, 0 ≤ q.2.2.1 ∧ q.2.2.1 ≤ ((n + L.length : Nat) : Int)
  | _, [], q, h => by cases h
  | n, x :: t, q, h => by
    rw [fours] at h
    rw [List.length_cons]
    rcases List.mem_append.1 h with h | h
    · have := lineQ_ln _ _ q h
      omega
    · have := fours_ln (n + 1) t q h
      omega
theorem cells4_get : ∀ (l : List Fou) (i : Nat) (q : Fou), l[i]? = some q → (cells4 l)[i * 4]? = some (.int .i64 q.1) ∧ (cells4 l)[i * 4 + 1]? = some (.string q.2.1) ∧ (cells4 l)[i * 4 + 2]? = some (.int .i64 q.2.2.1) ∧ (cells4 l)[i * 4 + 3]? = some (.int .i64 q.2.2.2)
  | [], _, _, h => by cases h
  | (k, t, l, c) :: r, 0, q, h => by
    cases h
    exact ⟨rfl, rfl, rfl, rfl⟩
  | (k, t, l, c) :: r, i + 1, q, h => by
    have h' : r[i]? = some q := by simpa using h
    have ih := cells4_get r i q h'
    have e : ∀ j, (cells4 ((k, t, l, c) :: r))[(i + 1) * 4 + j]? = (cells4 r)[i * 4 + j]? := by
      intro j
      rw [cells4, show (i + 1) * 4 + j = i * 4 + j + 4 by omega]
      rfl
    have e0 := e 0
    rw [Nat.add_zero, Nat.add_zero] at e0
    rw [e0, e 1, e 2, e 3]
    exact ih
/-- How many lines a text has. -/
theorem lines_many (s : ByteArray) : (linesOf s).length ≤ s.size + 1 := by
  have h3 := lines_sum s.size s (Nat.le_refl _)
  have : ∀ L : List ByteArray, L.length ≤ (L.map (fun x => x.size + 1)).sum := by
    intro L
    induction L with
    | nil => simp
    | cons y t ih => rw [List.map_cons, List.sum_cons, List.length_cons]; omega
  have := this (linesOf s)
  unfold linesOf at this ⊢
  omega

/-- The text that is scanned first. -/
def T0 : ByteArray := ⟨#[206, 177, 206, 178, 32, 49, 50]⟩
theorem T0_lines : linesOf T0 = [T0] := by kernel_rfl
theorem T0_cut : cutR T0 = ([(2, ⟨#[206, 177, 206, 178]⟩, 1), (3, ⟨#[49, 50]⟩, 4)], 0, 0) := by kernel_rfl
theorem T0_starts : (starts T0).length = 5 := by kernel_rfl
theorem scan_T0 (w : World) : Calls Tryd.prog 13 #[.string T0] w fun e w' => ∃ ad cap g, ad = some ⟨g, 0, none⟩ ∧ e = .returned (.tuple #[.slice ad 3 cap, .int .i64 0, .int .i64 0, .int .i64 0]) ∧ w'.cell? ⟨g, 1, none⟩ = some (.string ⟨#[206, 177, 206, 178]⟩) ∧ w'.cell? ⟨g, 7, none⟩ = some (.int .i64 4) ∧ Below w.heap.size w w' := by
  have h := callsIn_wide.1 (scan_in T0 (by decide) w)
  refine h.mono ?_
  rintro e w' ⟨hv, hb⟩
  unfold ScV at hv
  rw [T0_lines, show badL [T0] = none by simp [badL, T0_cut]] at hv
  obtain ⟨v, rfl, hrow⟩ := hv
  rw [show kkL [T0] = 3 by simp [kkL, lineN, T0_cut], show xxL 0 [T0] = flatT (1 : Nat) [(2, ⟨#[206, 177, 206, 178]⟩, 1), (3, ⟨#[49, 50]⟩, 4)] ++ tokC 1 ⟨#[10]⟩ (1 : Nat) ((6 : Nat) : Int) by simp [xxL, lineT, T0_cut, T0_starts]] at hrow
  obtain ⟨ad, cap, rfl, hc⟩ := ownsRow_form hrow
  obtain ⟨g, rfl, _, _, _, hcell⟩ := hc (by simp)
  exact ⟨_, cap, g, rfl, rfl, hcell 1 _ rfl, hcell 7 _ rfl, hb⟩
set_option maxHeartbeats 1000000 in
set_option maxRecDepth 100000 in
theorem alive_any (w : World) : Calls Tryd.prog 7 #[] w fun e w' => e = .returned (.bool true) ∧ Below w.heap.size w w' := by
  go_enter Tryd.func7, Tryd.ntmps7
  go_wp2_with (go_at_call 13; refine (scan_T0 _).mono ?_; rintro e w1 ⟨ad, cap, g, rfl, rfl, c1, c7, hb⟩)
  go_ret
  exact ⟨rfl, hb⟩
end Go.Proofs.YtibhljdiofglfabDoor
