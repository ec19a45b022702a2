/- A line put ahead of a text, and its words: plain mathematics. And that the first call of the statements of chapter 2 answers true. -/
import Derived.Test.YtngjjcmoekeciaaGreatDoorJnJ11
import Derived.Test.YtngjjcmoekeciaaGreatDoorJnJ7
namespace Go.Proofs.YtngjjcmoekeciaaGreatDoor
open Go.RowKit Go.Shelf

theorem lines_fuel : ∀ (f g : Nat) (s : ByteArray), s.size ≤ f → s.size ≤ g → linesAux f s = linesAux g s
  | 0, g, s, h, _ => by
    have hb := nl_bounds s
    have hn : nlAt s < 0 := by omega
    rw [lines_last hn, lines_last hn]
  | f + 1, 0, s, _, h => by
    have hb := nl_bounds s
    have hn : nlAt s < 0 := by omega
    rw [lines_last hn, lines_last hn]
  | f + 1, g + 1, s, h, k => by
    by_cases hn : nlAt s < 0
    · rw [lines_last hn, lines_last hn]
    · obtain ⟨n, e⟩ := Int.eq_ofNat_of_zero_le (show 0 ≤ nlAt s by omega)
      have hb := nl_bounds s
      have e2 : (s.extract (n + 1) s.size).size = s.size - (n + 1) := by rw [ByteArray.size_extract]; omega
      rw [lines_more e, lines_more e, lines_fuel f g _ (by omega) (by omega)]
/-- A line and its end, ahead of a text. -/
def headX : ByteArray := ⟨#[35, 32, 226, 152, 131]⟩
def headT : ByteArray := ⟨#[35, 32, 226, 152, 131, 10]⟩
theorem head_nl (s : ByteArray) : nlAt (headT ++ s) = ((5 : Nat) : Int) := by
  have e : (headT ++ s).data.toList = 35 :: 32 :: 226 :: 152 :: 131 :: 10 :: s.data.toList := by
    rw [ByteArray.data_append]
    simp [headT]
  unfold nlAt
  rw [e]
  simp [Lib.indexByte]
theorem head_size (s : ByteArray) : (headT ++ s).size = s.size + 6 := by
  rw [ByteArray.size_append]
  show 6 + s.size = _
  omega
theorem head_lines (s : ByteArray) : linesOf (headT ++ s) = headX :: linesOf s := by
  unfold linesOf
  have hz := head_size s
  have e1 : (headT ++ s).extract 0 5 = headX := by
    apply ByteArray.ext
    rw [ByteArray.data_extract, ByteArray.data_append]
    apply Array.ext'
    simp [headT, headX]
  have e2 : (headT ++ s).extract (5 + 1) (headT ++ s).size = s := by
    apply ByteArray.ext
    rw [ByteArray.data_extract, ByteArray.data_append, hz]
    apply Array.ext'
    simp [headT]
    exact List.take_of_length_le (by simp)
  rw [show (headT ++ s).size = (s.size + 5) + 1 by omega] at *
  rw [lines_more (head_nl s), e1]
  congr 1
  have e3 : ((headT ++ s).extract (5 + 1) (headT ++ s).size) = s := by rw [show (headT ++ s).size = s.size + 5 + 1 by rw [head_size]]; exact e2
  rw [e3]
  exact lines_fuel _ _ _ (by omega) (Nat.le_refl _)
theorem head_cut : cutR headX = ([], 0, 0) := by kernel_rfl
theorem head_bad (L : List ByteArray) : badL (headX :: L) = (badL L).map (fun r => (r.1 + 1, r.2)) := by
  rw [badL, head_cut, if_neg (by simp)]
theorem head_kk (L : List ByteArray) : kkL (headX :: L) = kkL L := by
  rw [kkL, lineN, head_cut]
  simp
theorem head_xx (L : List ByteArray) : xxL 0 (headX :: L) = xxL 1 L := by
  rw [xxL, lineT, head_cut]
  simp

/-- The words of a text as fours. -/
abbrev Fou := Int × ByteArray × Int × Int
def cells4 : List Fou → List Value
  | [] => []
  | (k, t, l, c) :: r => tokC k t l c ++ cells4 r
theorem cells4_append : ∀ a b : List Fou, cells4 (a ++ b) = cells4 a ++ cells4 b
  | [], b => rfl
  | (k, t, l, c) :: a, b => by rw [List.cons_append, cells4, cells4, cells4_append a b, List.append_assoc]
theorem flat_cells (ln : Int) : ∀ l : List Tok, flatT ln l = cells4 (l.map (fun x => (x.1, x.2.1, ln, (x.2.2 : Int))))
  | [] => rfl
  | (k, t, c) :: l => by rw [flatT, List.map_cons, cells4, flat_cells ln l]
def lineQ (ln : Nat) (x : ByteArray) : List Fou := if (cutR x).1.length = 0 then [] else (cutR x).1.map (fun x => (x.1, x.2.1, (ln : Int), (x.2.2 : Int))) ++ [(1, ⟨#[10]⟩, (ln : Int), (((starts x).length + 1 : Nat) : Int))]
theorem lineT_cells (ln : Nat) (x : ByteArray) : lineT ln x = cells4 (lineQ ln x) := by
  unfold lineT lineQ
  split
  · rfl
  · rw [cells4_append, ← flat_cells, cells4, cells4, List.append_nil]
theorem lineQ_len (ln : Nat) (x : ByteArray) : (lineQ ln x).length = lineN x := by
  unfold lineN lineQ
  split
  · rfl
  · simp
def up1 (q : Fou) : Fou := (q.1, q.2.1, q.2.2.1 + 1, q.2.2.2)
theorem lineQ_up (ln : Nat) (x : ByteArray) : lineQ (ln + 1) x = (lineQ ln x).map up1 := by
  unfold lineQ
  split
  · rfl
  · rw [List.map_append, List.map_map]
    rfl
theorem lineQ_ln (ln : Nat) (x : ByteArray) : ∀ q ∈ lineQ ln x, q.2.2.1 = ln := by
  intro q hq
  unfold lineQ at hq
  split at hq
  · cases hq
  · rcases List.mem_append.1 hq with h | h
    · obtain ⟨y, _, rfl⟩ := List.mem_map.1 h
      rfl
    · rw [List.mem_singleton.1 h]
def fours : Nat → List ByteArray → List Fou
  | _, [] => []
  | n, x :: t => lineQ (n + 1) x ++ fours (n + 1) t
theorem fours_cells : ∀ (n : Nat) (L : List ByteArray), xxL n L = cells4 (fours n L)
  | _, [] => rfl
  | n, x :: t => by rw [xxL, fours, cells4_append, lineT_cells, fours_cells (n + 1) t]
theorem fours_len : ∀ (n : Nat) (L : List ByteArray), (fours n L).length = kkL L
  | _, [] => rfl
  | n, x :: t => by rw [kkL, fours, List.length_append, lineQ_len, fours_len (n + 1) t]
theorem fours_up : ∀ (n : Nat) (L : List ByteArray), fours (n + 1) L = (fours n L).map up1
  | _, [] => rfl
  | n, x :: t => by rw [fours, fours, List.map_append, lineQ_up, fours_up (n + 1) t]
theorem fours_ln : ∀ (n : Nat) (L : List ByteArray), ∀ q ∈ fours n L, 0 ≤ q.2.2.1 ∧ q.2.2.1 ≤ ((n + L.length : Nat) : Int)
  | _, [], q, h => by cases h
  | n, x :: t, q, h => by
    rw [fours] at h
    rw [List.length_cons]
    rcases List.mem_append.1 h with h | h
    · have := lineQ_ln _ _ q h
      omega
    · have := fours_ln (n + 1) t q h
      omega
theorem cells4_get : ∀ (l : List Fou) (i : Nat) (q : Fou), l[i]? = some q → (cells4 l)[i * 4]? = some (.int .i64 q.1) ∧ (cells4 l)[i * 4 + 1]? = some (.string q.2.1) ∧ (cells4 l)[i * 4 + 2]? = some (.int .i64 q.2.2.1) ∧ (cells4 l)[i * 4 + 3]? = some (.int .i64 q.2.2.2)
  | [], _, _, h => by cases h
  | (k, t, l, c) :: r, 0, q, h => by
    cases h
    exact ⟨rfl, rfl, rfl, rfl⟩
  | (k, t, l, c) :: r, i + 1, q, h => by
    have h' : r[i]? = some q := by simpa using h
    have ih := cells4_get r i q h'
    have e : ∀ j, (cells4 ((k, t, l, c) :: r))[(i + 1) * 4 + j]? = (cells4 r)[i * 4 + j]? := by
      intro j
      rw [cells4, show (i + 1) * 4 + j = i * 4 + j + 4 by omega]
      rfl
    have e0 := e 0
    rw [Nat.add_zero, Nat.add_zero] at e0
    rw [e0, e 1, e 2, e 3]
    exact ih
/-- How many lines a text has. -/
theorem lines_many (s : ByteArray) : (linesOf s).length ≤ s.size + 1 := by
  have h3 := lines_sum s.size s (Nat.le_refl _)
  have : ∀ L : List ByteArray, L.length ≤ (L.map (fun x => x.size + 1)).sum := by
    intro L
    induction L with
    | nil => simp
    | cons y t ih => rw [List.map_cons, List.sum_cons, List.length_cons]; omega
  have := this (linesOf s)
  unfold linesOf at this ⊢
  omega

/-- The text that is scanned first. -/
def T0 : ByteArray := ⟨#[206, 177, 206, 178, 32, 49, 50]⟩
theorem T0_lines : linesOf T0 = [T0] := by kernel_rfl
theorem T0_cut : cutR T0 = ([(2, ⟨#[206, 177, 206, 178]⟩, 1), (3, ⟨#[49, 50]⟩, 4)], 0, 0) := by kernel_rfl
theorem T0_starts : (starts T0).length = 5 := by kernel_rfl
theorem scan_T0 (w : World) : Calls Tryz.prog 5 #[.string T0] w fun e w' => ∃ ad cap g, ad = some ⟨g, 0, none⟩ ∧ e = .returned (.tuple #[.slice ad 3 cap, .int .i64 0, .int .i64 0, .int .i64 0]) ∧ w'.cell? ⟨g, 1, none⟩ = some (.string ⟨#[206, 177, 206, 178]⟩) ∧ w'.cell? ⟨g, 7, none⟩ = some (.int .i64 4) ∧ Below w.heap.size w w' := by
  have h := callsIn_wide.1 (scan_in T0 (by decide) w)
  refine h.mono ?_
  rintro e w' ⟨hv, hb⟩
  unfold ScV at hv
  rw [T0_lines, show badL [T0] = none by simp [badL, T0_cut]] at hv
  obtain ⟨v, rfl, hrow⟩ := hv
  rw [show kkL [T0] = 3 by simp [kkL, lineN, T0_cut], show xxL 0 [T0] = flatT (1 : Nat) [(2, ⟨#[206, 177, 206, 178]⟩, 1), (3, ⟨#[49, 50]⟩, 4)] ++ tokC 1 ⟨#[10]⟩ (1 : Nat) ((6 : Nat) : Int) by simp [xxL, lineT, T0_cut, T0_starts]] at hrow
  obtain ⟨ad, cap, rfl, hc⟩ := ownsRow_form hrow
  obtain ⟨g, rfl, _, _, _, hcell⟩ := hc (by simp)
  exact ⟨_, cap, g, rfl, rfl, hcell 1 _ rfl, hcell 7 _ rfl, hb⟩
set_option maxHeartbeats 1000000 in
set_option maxRecDepth 100000 in
theorem alive_any (w : World) : Calls Tryz.prog 4 #[] w fun e w' => e = .returned (.bool true) ∧ Below w.heap.size w w' := by
  go_enter Tryz.func4, Tryz.ntmps4
  go_wp2_with (go_at_call 5; refine (scan_T0 _).mono ?_; rintro e w1 ⟨ad, cap, g, rfl, rfl, c1, c7, hb⟩)
  go_ret
  exact ⟨rfl, hb⟩
end Go.Proofs.YtngjjcmoekeciaaGreatDoor
namespace Go.Proofs.YtngjjcmoekeciaaGreatDoor
open Go.RowKit Go.Shelf

/-- Where the line ends. -/
def le10 (s : ByteArray) : Nat → Nat → Nat
  | 0, p => p
  | f + 1, p => if p < s.size ∧ byt s p ≠ 10 then le10 s f (p + 1) else p
theorem le10_end (s : ByteArray) : ∀ (f p : Nat), p ≤ s.size → s.size ≤ p + f → LEnd s p (le10 s f p)
  | 0, p, h, k => ⟨Nat.le_refl _, h, fun j a b => by rw [le10] at b; omega, .inl (by rw [le10]; omega)⟩
  | f + 1, p, h, k => by
    rw [le10]
    split
    · rename_i hc
      have ih := le10_end s f (p + 1) (by omega) (by omega)
      refine ⟨Nat.le_of_succ_le ih.1, ih.2.1, fun j a b => ?_, ih.2.2.2⟩
      by_cases e : j = p
      · rw [e]; exact hc.2
      · exact ih.2.2.1 j (by omega) b
    · rename_i hc
      refine ⟨Nat.le_refl _, h, fun j a b => by omega, ?_⟩
      by_cases q : p < s.size
      · right
        by_cases e : byt s p = 10
        · exact e
        · exact absurd ⟨q, e⟩ hc
      · left; omega
def LE (s : ByteArray) (p : Nat) : Nat := le10 s s.size p
theorem le_end (s : ByteArray) (p : Nat) (h : p ≤ s.size) : LEnd s p (LE s p) := le10_end s s.size p h (by omega)
theorem LEnd.uniq {s : ByteArray} {p E E' : Nat} (h : LEnd s p E) (h' : LEnd s p E') : E = E' := by
  obtain ⟨a, b, c, d⟩ := h
  obtain ⟨a', b', c', d'⟩ := h'
  rcases Nat.lt_trichotomy E E' with q | q | q
  · rcases d with d | d
    · omega
    · exact absurd d (c' E a q)
  · exact q
  · rcases d' with d' | d'
    · omega
    · exact absurd d' (c E' a' q)
theorem nx_le (s : ByteArray) (i E : Nat) (hi : i < s.size) (hE : LEnd s (i + 1) E) : (nxD s i E).2.1 ≤ s.size := by
  have hwl := wd_le s i hi
  have h1 := (runD_le s s.size i (by omega)).2
  have hsz : (s.extract 0 E).size = E := by have := hE.2.1; simp; omega
  have h6 := lead_le (s.extract 0 E) E (i + 1) [] (by have := hE.1; omega)
  have h7 := hE.2.1
  unfold nxD
  split
  · dsimp only; omega
  split
  · split <;> (dsimp only; omega)
  split
  · split <;> (dsimp only; omega)
  split <;> (dsimp only; omega)
abbrev Res := List Fou ⊕ (Nat × Nat × Nat)
/-- How many characters lie between. -/
def cnt (s : ByteArray) (a b : Nat) : Nat := (starts (s.extract a b)).length
def scD (s : ByteArray) : Nat → Nat → Nat → Nat → Bool → List Fou → Res
  | 0, _, _, _, _, l => .inl l
  | f + 1, i, ln, fr, so, l =>
    if s.size < i then .inl l
    else if i = s.size ∨ byt s i = 10 then scD s f (i + 1) (ln + 1) (i + 1) false (if so = true then l ++ [(1, ⟨#[10]⟩, (ln : Int), ((cnt s fr i + 1 : Nat) : Int))] else l)
    else if byt s i = 9 ∨ byt s i = 13 ∨ byt s i = 32 then scD s f (i + 1) ln fr so l
    else if byt s i = 35 then scD s f (LE s i) ln fr so l
    else if (nxD s i (LE s (i + 1))).2.2 = 0 then scD s f (nxD s i (LE s (i + 1))).2.1 ln fr true (l ++ [(((nxD s i (LE s (i + 1))).1 : Int), s.extract i (nxD s i (LE s (i + 1))).2.1, (ln : Int), ((cnt s fr i + 1 : Nat) : Int))])
    else .inr ((nxD s i (LE s (i + 1))).2.2, (plc s (nxD s i (LE s (i + 1))).2.1).1, cnt s (plc s (nxD s i (LE s (i + 1))).2.1).2 (nxD s i (LE s (i + 1))).2.1 + 1)
section
variable (s : ByteArray) (f i ln fr : Nat) (so : Bool) (l : List Fou)
theorem sc_end (h : s.size < i) : scD s (f + 1) i ln fr so l = .inl l := by rw [scD, if_pos h]
theorem sc_eol (h : ¬ s.size < i) (h1 : i = s.size ∨ byt s i = 10) : scD s (f + 1) i ln fr so l = scD s f (i + 1) (ln + 1) (i + 1) false (if so = true then l ++ [(1, ⟨#[10]⟩, (ln : Int), ((cnt s fr i + 1 : Nat) : Int))] else l) := by rw [scD, if_neg h, if_pos h1]
theorem sc_gap (h : i < s.size) (h2 : byt s i = 9 ∨ byt s i = 13 ∨ byt s i = 32) : scD s (f + 1) i ln fr so l = scD s f (i + 1) ln fr so l := by
  rw [scD, if_neg (by omega), if_neg (by rintro (e | e) <;> omega), if_pos h2]
theorem sc_rem (h : i < s.size) (h2 : byt s i = 35) : scD s (f + 1) i ln fr so l = scD s f (LE s i) ln fr so l := by
  rw [scD, if_neg (by omega), if_neg (by rintro (e | e) <;> omega), if_neg (by rintro (e | e | e) <;> omega), if_pos h2]
theorem sc_word (h : i < s.size) (h1 : byt s i ≠ 10) (h2 : ¬ (byt s i = 9 ∨ byt s i = 13 ∨ byt s i = 32)) (h3 : byt s i ≠ 35) (h4 : (nxD s i (LE s (i + 1))).2.2 = 0) : scD s (f + 1) i ln fr so l = scD s f (nxD s i (LE s (i + 1))).2.1 ln fr true (l ++ [(((nxD s i (LE s (i + 1))).1 : Int), s.extract i (nxD s i (LE s (i + 1))).2.1, (ln : Int), ((cnt s fr i + 1 : Nat) : Int))]) := by
  rw [scD, if_neg (by omega), if_neg (by rintro (e | e) <;> omega), if_neg h2, if_neg h3, if_pos h4]
theorem sc_err (h : i < s.size) (h1 : byt s i ≠ 10) (h2 : ¬ (byt s i = 9 ∨ byt s i = 13 ∨ byt s i = 32)) (h3 : byt s i ≠ 35) (h4 : (nxD s i (LE s (i + 1))).2.2 ≠ 0) : scD s (f + 1) i ln fr so l = .inr ((nxD s i (LE s (i + 1))).2.2, (plc s (nxD s i (LE s (i + 1))).2.1).1, cnt s (plc s (nxD s i (LE s (i + 1))).2.1).2 (nxD s i (LE s (i + 1))).2.1 + 1) := by
  rw [scD, if_neg (by omega), if_neg (by rintro (e | e) <;> omega), if_neg h2, if_neg h3, if_neg h4]
end
end Go.Proofs.YtngjjcmoekeciaaGreatDoor
namespace Go.Proofs.YtngjjcmoekeciaaGreatDoor
open Go.RowKit Go.Shelf

theorem dec_cut (N M b0 b1 b2 b3 c1 c2 c3 : Nat) (h0 : 0 < M) (hle : M ≤ N) (e1 : 1 < M → c1 = b1) (e2 : 2 < M → c2 = b2) (e3 : 3 < M → c3 = b3)
    (l1 : M = 1 → M < N → b1 < 128) (l2 : M = 2 → M < N → b2 < 128) (l3 : M = 3 → M < N → b3 < 128) : Lib.decodeN N b0 b1 b2 b3 = Lib.decodeN M b0 c1 c2 c3 := by
  have A1 : (1 < N ∧ b1 / 64 = 2) ↔ (1 < M ∧ c1 / 64 = 2) := by
    by_cases h : 1 < M
    · rw [e1 h]; omega
    · have := l1 (by omega); omega
  have A2 : 1 < M → ((2 < N ∧ b2 / 64 = 2) ↔ (2 < M ∧ c2 / 64 = 2)) := by
    intro hM
    by_cases h : 2 < M
    · rw [e2 h]; omega
    · have := l2 (by omega); omega
  have A3 : 2 < M → ((3 < N ∧ b3 / 64 = 2) ↔ (3 < M ∧ c3 / 64 = 2)) := by
    intro hM
    by_cases h : 3 < M
    · rw [e3 h]; omega
    · have := l3 (by omega); omega
  unfold Lib.decodeN
  by_cases q0 : b0 < 128
  · rw [if_pos q0, if_pos q0]
  rw [if_neg q0, if_neg q0]
  by_cases p1 : 1 < M
  case neg =>
    have n1 : ¬ (1 < M ∧ c1 / 64 = 2) := fun h => p1 h.1
    have n2 : ¬ (1 < N ∧ b1 / 64 = 2) := fun h => n1 (A1.1 h)
    rw [if_neg (fun h => n2 h.2), if_neg (fun h => n2 h.2.1), if_neg (fun h => n2 h.2.1), if_neg (fun h => n1 h.2), if_neg (fun h => n1 h.2.1), if_neg (fun h => n1 h.2.1)]
  have E1 := e1 p1
  subst E1
  have t1 : 1 < N := by omega
  by_cases p2 : 2 < M
  case neg =>
    have n1 : ¬ (2 < M ∧ c2 / 64 = 2) := fun h => p2 h.1
    have n2 : ¬ (2 < N ∧ b2 / 64 = 2) := fun h => n1 ((A2 p1).1 h)
    rw [if_neg (c := b0 / 16 = 14 ∧ (1 < N ∧ c1 / 64 = 2) ∧ 2 < N ∧ b2 / 64 = 2) (fun h => n2 h.2.2), if_neg (c := b0 / 8 = 30 ∧ (1 < N ∧ c1 / 64 = 2) ∧ (2 < N ∧ b2 / 64 = 2) ∧ 3 < N ∧ b3 / 64 = 2) (fun h => n2 h.2.2.1), if_neg (c := b0 / 16 = 14 ∧ (1 < M ∧ c1 / 64 = 2) ∧ 2 < M ∧ c2 / 64 = 2) (fun h => n1 h.2.2), if_neg (c := b0 / 8 = 30 ∧ (1 < M ∧ c1 / 64 = 2) ∧ (2 < M ∧ c2 / 64 = 2) ∧ 3 < M ∧ c3 / 64 = 2) (fun h => n1 h.2.2.1)]
    simp only [t1, p1, true_and]
  have E2 := e2 p2
  subst E2
  have t2 : 2 < N := by omega
  by_cases p3 : 3 < M
  case neg =>
    have n1 : ¬ (3 < M ∧ c3 / 64 = 2) := fun h => p3 h.1
    have n2 : ¬ (3 < N ∧ b3 / 64 = 2) := fun h => n1 ((A3 p2).1 h)
    rw [if_neg (c := b0 / 8 = 30 ∧ (1 < N ∧ c1 / 64 = 2) ∧ (2 < N ∧ c2 / 64 = 2) ∧ 3 < N ∧ b3 / 64 = 2) (fun h => n2 h.2.2.2), if_neg (c := b0 / 8 = 30 ∧ (1 < M ∧ c1 / 64 = 2) ∧ (2 < M ∧ c2 / 64 = 2) ∧ 3 < M ∧ c3 / 64 = 2) (fun h => n1 h.2.2.2)]
    simp only [t1, p1, t2, p2, true_and]
  have E3 := e3 p3
  subst E3
  have t3 : 3 < N := by omega
  simp only [t1, p1, t2, p2, t3, p3, true_and]
theorem get_byt (s : ByteArray) (i : Nat) (h : i < s.size) : (s.get! i).toNat = byt s i := by rw [byt_get h, get_eq s i h]; rfl
theorem byt_ext (s : ByteArray) (o m k : Nat) (h : o + m ≤ s.size) (hk : k < m) : byt (s.extract o (o + m)) k = byt s (o + k) := by
  have hsz : (s.extract o (o + m)).size = m := by simp; omega
  rw [byt_get (s := s.extract o (o + m)) (by omega), byt_get (show o + k < s.size by omega)]
  congr 1
  exact ByteArray.getElem_extract ..
/-- A character of a line is the same in the text. -/
theorem dec_line (s : ByteArray) (o m p : Nat) (h : o + m ≤ s.size) (hp : p < m) (hend : o + m = s.size ∨ byt s (o + m) < 128) : Utf8.decode (s.extract o (o + m)) p = Utf8.decode s (o + p) := by
  have hsz : (s.extract o (o + m)).size = m := by simp; omega
  have hb : ∀ k, k < m → ((s.extract o (o + m)).get! k).toNat = (s.get! (o + k)).toNat := fun k hk => by rw [get_byt _ k (by omega), get_byt s (o + k) (by omega), byt_ext s o m k h hk]
  rw [shape, shape, hsz, hb p hp]
  refine (dec_cut _ _ _ _ _ _ _ _ _ (by omega) (by omega) (fun h1 => hb (p + 1) (by omega)) (fun h1 => hb (p + 2) (by omega)) (fun h1 => hb (p + 3) (by omega)) ?_ ?_ ?_).symm
  · intro e l
    rw [get_byt s _ (by omega), show o + (p + 1) = o + m by omega]
    omega
  · intro e l
    rw [get_byt s _ (by omega), show o + (p + 2) = o + m by omega]
    omega
  · intro e l
    rw [get_byt s _ (by omega), show o + (p + 3) = o + m by omega]
    omega
theorem wd_line (s : ByteArray) (o m p : Nat) (h : o + m ≤ s.size) (hp : p < m) (hend : o + m = s.size ∨ byt s (o + m) < 128) : wd (s.extract o (o + m)) p = wd s (o + p) := by
  unfold wd
  rw [dec_line s o m p h hp hend]

/-- The character number c of a line begins at the byte p. -/
inductive ChAt (x : ByteArray) : Nat → Nat → Prop
  | zero : ChAt x 0 0
  | step {p c : Nat} : ChAt x p c → p < x.size → ChAt x (p + wd x p) (c + 1)
theorem chAt_le {x : ByteArray} {p c : Nat} (h : ChAt x p c) : p ≤ x.size := by
  cases h with
  | zero => exact Nat.zero_le _
  | step h hp => exact wd_le x _ hp
theorem chAt_count {x : ByteArray} {p c : Nat} (h : ChAt x p c) : c + (startsFrom x x.size p).length = (starts x).length := by
  induction h with
  | zero => simp [starts]
  | @step p c h hp ih =>
    have hz := wd_pos x p
    rw [startsFrom_fuel x x.size (x.size - 1 + 1) p (by omega) (by omega), startsFrom_step x _ p hp, List.length_cons, startsFrom_fuel x _ x.size (p + wd x p) (by omega) (by omega)] at ih
    omega
theorem chAt_lt {x : ByteArray} {p c : Nat} (h : ChAt x p c) (hp : p < x.size) : c < (starts x).length := by
  have h1 := chAt_count h
  rw [startsFrom_fuel x x.size (x.size - 1 + 1) p (by omega) (by omega), startsFrom_step x _ p hp, List.length_cons] at h1
  omega
theorem chAt_end (x : ByteArray) : ∀ (f p c : Nat), x.size - p ≤ f → ChAt x p c → ∃ c', ChAt x x.size c'
  | 0, p, c, hf, h => by
    have := chAt_le h
    rw [show p = x.size by omega] at h
    exact ⟨c, h⟩
  | f + 1, p, c, hf, h => by
    by_cases hp : p < x.size
    · have := wd_pos x p
      exact chAt_end x f _ _ (by omega) (h.step hp)
    · have := chAt_le h
      rw [show p = x.size by omega] at h
      exact ⟨c, h⟩

theorem step_word {s : ByteArray} {p : Nat} (hp : p < s.size) {k : Int} {sz : Nat} (h : stepR s p = .word k sz) : k ≠ 1 ∧ p + sz ≤ s.size := by
  have e2 : (s.extract p s.size).size = s.size - p := by simp
  have h1 := runR_le (s.extract p s.size)
  have h2 := leadR_le (s.extract p s.size)
  unfold stepR at h
  repeat' split at h
  all_goals first
    | (cases h; done)
    | (cases h; exact ⟨by decide, by omega⟩)
/-- A word of a line stands at its column. -/
def Stand (x : ByteArray) (t : Tok) : Prop := t.1 ≠ 1 ∧ ∃ p c, t.2.2 = c + 1 ∧ ChAt x p c ∧ p < x.size ∧ p + t.2.1.size ≤ x.size ∧ t.2.1 = x.extract p (p + t.2.1.size)
theorem cutAt_stand (x : ByteArray) : ∀ (f p nx col : Nat) (acc : List Tok), ChAt x p col → (∀ t ∈ acc, Stand x t) → ∀ t ∈ (cutAt x f p nx col acc).1, Stand x t
  | 0, p, nx, col, acc, _, ha => ha
  | f + 1, p, nx, col, acc, hc, ha => by
    unfold cutAt
    split
    · exact ha
    · rename_i hp
      have hp' : p < x.size := by omega
      split
      · exact cutAt_stand x f _ _ _ _ (hc.step hp') ha
      · split
        · exact cutAt_stand x f _ _ _ _ (hc.step hp') ha
        · exact ha
        · exact ha
        · rename_i k sz hk
          obtain ⟨w1, w2⟩ := step_word hp' hk
          have hz : (x.extract p (p + sz)).size = sz := by simp; omega
          refine cutAt_stand x f _ _ _ _ (hc.step hp') ?_
          intro t ht
          rcases List.mem_append.1 ht with h | h
          · exact ha t h
          · rw [List.mem_singleton.1 h]
            exact ⟨w1, p, col, rfl, hc, hp', by dsimp only; omega, by dsimp only; rw [hz]⟩
theorem cutR_stand (x : ByteArray) : ∀ t ∈ (cutR x).1, Stand x t := cutAt_stand x _ _ _ _ _ .zero (fun _ h => by cases h)
theorem cutAt_rise (x : ByteArray) : ∀ (f p nx col : Nat) (acc : List Tok), acc.Pairwise (fun a b => a.2.2 < b.2.2) → (∀ t ∈ acc, t.2.2 ≤ col) → (cutAt x f p nx col acc).1.Pairwise (fun a b => a.2.2 < b.2.2)
  | 0, p, nx, col, acc, h, _ => h
  | f + 1, p, nx, col, acc, h, ha => by
    have ha' : ∀ t ∈ acc, t.2.2 ≤ col + 1 := fun t ht => Nat.le_succ_of_le (ha t ht)
    unfold cutAt
    split
    · exact h
    · split
      · exact cutAt_rise x f _ _ _ _ h ha'
      · split
        · exact cutAt_rise x f _ _ _ _ h ha'
        · exact h
        · exact h
        · refine cutAt_rise x f _ _ _ _ ?_ ?_
          · rw [List.pairwise_append]
            refine ⟨h, List.pairwise_singleton _ _, ?_⟩
            intro a h1 b h2
            rw [List.mem_singleton.1 h2]
            have := ha a h1
            dsimp only
            omega
          · intro t ht
            rcases List.mem_append.1 ht with h1 | h1
            · exact ha' t h1
            · rw [List.mem_singleton.1 h1]
              exact Nat.le_refl _
theorem cutR_rise (x : ByteArray) : (cutR x).1.Pairwise (fun a b => a.2.2 < b.2.2) := cutAt_rise x _ _ _ _ _ List.Pairwise.nil (fun _ h => by cases h)

/-- The places of a text's words rise. -/
def PlLt (a b : Fou) : Prop := a.2.2.1 < b.2.2.1 ∨ (a.2.2.1 = b.2.2.1 ∧ a.2.2.2 < b.2.2.2)
theorem lineQ_rise (ln : Nat) (x : ByteArray) : (lineQ ln x).Pairwise PlLt := by
  unfold lineQ
  split
  · exact List.Pairwise.nil
  · rw [List.pairwise_append]
    refine ⟨?_, List.pairwise_singleton _ _, ?_⟩
    · rw [List.pairwise_map]
      refine (cutR_rise x).imp ?_
      intro a b h
      right
      exact ⟨rfl, by dsimp only; omega⟩
    · intro a ha b hb
      obtain ⟨t, ht, rfl⟩ := List.mem_map.1 ha
      rw [List.mem_singleton.1 hb]
      obtain ⟨_, p, c, e, hc, hp, _⟩ := cutR_stand x t ht
      have := chAt_lt hc hp
      right
      exact ⟨rfl, by dsimp only; omega⟩
theorem fours_rise : ∀ (n : Nat) (L : List ByteArray), (fours n L).Pairwise PlLt
  | _, [] => List.Pairwise.nil
  | n, x :: t => by
    rw [fours, List.pairwise_append]
    refine ⟨lineQ_rise _ _, fours_rise _ _, ?_⟩
    intro a ha b hb
    have h1 := lineQ_ln _ _ a ha
    have h2 : ∀ (n : Nat) (L : List ByteArray), ∀ q ∈ fours n L, ((n + 1 : Nat) : Int) ≤ q.2.2.1 := by
      intro n L
      induction L generalizing n with
      | nil => intro q h; cases h
      | cons y l ih =>
        intro q h
        rw [fours] at h
        rcases List.mem_append.1 h with h | h
        · rw [lineQ_ln _ _ q h]; omega
        · have := ih _ q h; omega
    have h3 := h2 _ _ b hb
    left
    omega

/-- Gone through character by character, from the byte a at a line and column to another. -/
inductive Reach (s : ByteArray) : Nat → Nat → Nat → Nat → Nat → Nat → Prop
  | here (a l c : Nat) : Reach s a l c a l c
  | step {a l c P L C : Nat} : a < s.size → Reach s (a + wd s a) (if byt s a = 10 then l + 1 else l) (if byt s a = 10 then 1 else c + 1) P L C → Reach s a l c P L C
theorem Reach.snoc {s : ByteArray} {a l c P L C : Nat} (h : Reach s a l c P L C) (hP : P < s.size) : Reach s a l c (P + wd s P) (if byt s P = 10 then L + 1 else L) (if byt s P = 10 then 1 else C + 1) := by
  induction h with
  | here a l c => exact .step hP (.here _ _ _)
  | step ha _ ih => exact .step ha (ih hP)
theorem Reach.lex {s : ByteArray} {a l c P L C : Nat} (h : Reach s a l c P L C) : (a = P ∧ l = L ∧ c = C) ∨ l < L ∨ (l = L ∧ c < C) := by
  induction h with
  | here a l c => exact .inl ⟨rfl, rfl, rfl⟩
  | @step a l c P L C ha _ ih =>
    right
    split at ih <;> omega
theorem Reach.here_of {s : ByteArray} {a l c P L C : Nat} (h : Reach s a l c P L C) (hl : l = L) (hc : c = C) : a = P := by
  have := h.lex
  omega
theorem Reach.out {s : ByteArray} {a l c P L C : Nat} (h : Reach s a l c P L C) (ha : ¬ a < s.size) : a = P := by
  cases h with
  | here => rfl
  | step h1 => exact absurd h1 ha
theorem Reach.more {s : ByteArray} {a l c P L C : Nat} (h : Reach s a l c P L C) (hn : ¬ (l = L ∧ c = C)) : a < s.size ∧ Reach s (a + wd s a) (if byt s a = 10 then l + 1 else l) (if byt s a = 10 then 1 else c + 1) P L C := by
  cases h with
  | here => exact absurd ⟨rfl, rfl⟩ hn
  | step h1 h2 => exact ⟨h1, h2⟩
theorem reach_line {s : ByteArray} {o m n : Nat} (h : o + m ≤ s.size) (hend : o + m = s.size ∨ byt s (o + m) < 128) (hno : ∀ k, k < m → byt s (o + k) ≠ 10) (h0 : Reach s 0 1 1 o (n + 1) 1) {p c : Nat} (hc : ChAt (s.extract o (o + m)) p c) : Reach s 0 1 1 (o + p) (n + 1) (c + 1) := by
  have hsz : (s.extract o (o + m)).size = m := by simp; omega
  induction hc with
  | zero => exact h0
  | @step p c hc hp ih =>
    rw [hsz] at hp
    have h1 := ih.snoc (by omega)
    rw [if_neg (hno p hp), if_neg (hno p hp)] at h1
    rw [wd_line s o m p h hp hend, ← Nat.add_assoc]
    exact h1
theorem reach_eol {s : ByteArray} {o m n : Nat} (h : o + m < s.size) (hnl : byt s (o + m) = 10) (hno : ∀ k, k < m → byt s (o + k) ≠ 10) (h0 : Reach s 0 1 1 o (n + 1) 1) : Reach s 0 1 1 (o + m + 1) (n + 1 + 1) 1 := by
  have hsz : (s.extract o (o + m)).size = m := by simp; omega
  obtain ⟨c, hc⟩ := chAt_end (s.extract o (o + m)) _ 0 0 (Nat.le_refl _) .zero
  rw [hsz] at hc
  have h1 := (reach_line (by omega) (.inr (by omega)) hno h0 hc).snoc (by omega)
  rw [if_pos hnl, if_pos hnl, (one_byte s (o + m) (by omega) (by omega)).2] at h1
  exact h1
/-- A word of a text stands where its place says. -/
def FStand (s : ByteArray) (q : Fou) : Prop := q.1 ≠ 1 → ∃ P L C : Nat, q.2.2.1 = (L : Int) ∧ q.2.2.2 = (C : Int) ∧ Reach s 0 1 1 P L C ∧ P < s.size ∧ P + q.2.1.size ≤ s.size ∧ s.extract P (P + q.2.1.size) = q.2.1
theorem line_stand {s : ByteArray} {o m n : Nat} (h : o + m ≤ s.size) (hend : o + m = s.size ∨ byt s (o + m) < 128) (hno : ∀ k, k < m → byt s (o + k) ≠ 10) (h0 : Reach s 0 1 1 o (n + 1) 1) : ∀ q ∈ lineQ (n + 1) (s.extract o (o + m)), FStand s q := by
  have hsz : (s.extract o (o + m)).size = m := by simp; omega
  intro q hq
  unfold lineQ at hq
  split at hq
  · cases hq
  · rcases List.mem_append.1 hq with h1 | h1
    · obtain ⟨t, ht, rfl⟩ := List.mem_map.1 h1
      intro _
      obtain ⟨_, p, c, e, hc, hp, hle, hx⟩ := cutR_stand _ t ht
      refine ⟨o + p, n + 1, c + 1, rfl, by dsimp only; rw [e], reach_line h hend hno h0 hc, by omega, by dsimp only; omega, ?_⟩
      dsimp only
      rw [hsz] at hle
      have : (s.extract o (o + m)).extract p (p + t.2.1.size) = s.extract (o + p) (o + p + t.2.1.size) := by
        rw [ByteArray.extract_extract]
        congr 1
        omega
      rw [← this, ← hx]
    · rw [List.mem_singleton.1 h1]
      intro hk
      exact absurd rfl hk
theorem byt_list (s : ByteArray) (k : Nat) (h : k < s.size) : s.data.toList[k]? = some (s[k]'h) := by
  have : k < s.data.toList.length := by simpa using h
  rw [List.getElem?_eq_getElem this]
  rfl
theorem nl_some {s : ByteArray} {n : Nat} (h : nlAt s = (n : Int)) : byt s n = 10 ∧ n < s.size ∧ ∀ k, k < n → byt s k ≠ 10 := by
  have hb := nl_bounds s
  have hn : n < s.size := by omega
  obtain ⟨h1, h2⟩ := Lib.indexByte_some (o := n) h
  rw [byt_list s n hn] at h1
  refine ⟨?_, hn, ?_⟩
  · rw [byt_get hn, Option.some.inj h1]; rfl
  · intro k hk e
    have hks : k < s.size := by omega
    apply h2 k hk
    rw [byt_list s k hks]
    rw [byt_get hks] at e
    congr 1
    exact UInt8.toNat_inj.1 e
theorem nl_none {s : ByteArray} (h : nlAt s < 0) : ∀ k, k < s.size → byt s k ≠ 10 := by
  have hb := nl_bounds s
  intro k hks e
  apply Lib.indexByte_none (l := s.data.toList) (c := 10) (by show nlAt s = -1; omega) k
  rw [byt_list s k hks]
  rw [byt_get hks] at e
  congr 1
  exact UInt8.toNat_inj.1 e
theorem lines_stand (s : ByteArray) : ∀ (f o n : Nat), o ≤ s.size → s.size - o ≤ f → Reach s 0 1 1 o (n + 1) 1 → ∀ q ∈ fours n (linesAux f (s.extract o s.size)), FStand s q := by
  intro f
  induction f with
  | zero =>
    intro o n ho hf h0 q hq
    have e : s.extract o s.size = s.extract o (o + (s.size - o)) := by congr 1; omega
    rw [linesAux, fours, fours, List.append_nil, e] at hq
    exact line_stand (by omega) (.inl (by omega)) (fun k hk => by omega) h0 q hq
  | succ f ih =>
    intro o n ho hf h0 q hq
    have hz : (s.extract o s.size).size = s.size - o := by simp
    by_cases hn : nlAt (s.extract o s.size) < 0
    · have e : s.extract o s.size = s.extract o (o + (s.size - o)) := by congr 1; omega
      rw [lines_last hn, fours, fours, List.append_nil, e] at hq
      refine line_stand (by omega) (.inl (by omega)) (fun k hk => ?_) h0 q hq
      have := nl_none hn k (by omega)
      rwa [byt_extract s o k ho] at this
    · obtain ⟨m, e⟩ := Int.eq_ofNat_of_zero_le (show 0 ≤ nlAt (s.extract o s.size) by omega)
      obtain ⟨b1, b2, b3⟩ := nl_some e
      rw [byt_extract s o m ho] at b1
      have b4 : ∀ k, k < m → byt s (o + k) ≠ 10 := fun k hk => by have := b3 k hk; rwa [byt_extract s o k ho] at this
      have e1 : (s.extract o s.size).extract 0 m = s.extract o (o + m) := by
        rw [ByteArray.extract_extract]
        congr 1
        omega
      have e2 : (s.extract o s.size).extract (m + 1) (s.extract o s.size).size = s.extract (o + m + 1) s.size := by
        rw [ByteArray.extract_extract, hz]
        congr 1 <;> omega
      rw [lines_more e, e1, e2, fours] at hq
      rcases List.mem_append.1 hq with h1 | h1
      · exact line_stand (by omega) (.inr (by omega)) b4 h0 q h1
      · exact ih (o + m + 1) (n + 1) (by omega) (by omega) (reach_eol (by omega) b1 b4 h0) q h1
theorem text_stand (s : ByteArray) : ∀ q ∈ fours 0 (linesOf s), FStand s q := by
  have h := lines_stand s s.size 0 0 (Nat.zero_le _) (by omega) (.here _ _ _)
  have e : s.extract 0 s.size = s := by simp
  rw [e] at h
  exact h
end Go.Proofs.YtngjjcmoekeciaaGreatDoor
