import Derived.Test.YtmahamdmapbilaaGreatDoorJwJ31
import Derived.Test.YtmahamdmapbilaaGreatDoorJwJ6
import Derived.Test.YtmahamdmapbilaaGreatDoorJwJ29
set_option maxHeartbeats 40000000
set_option maxRecDepth 100000
set_option linter.unusedVariables false
namespace Go.Proofs.YtmahamdmapbilaaGreatDoor
open Go.RowKit Go.Shelf Go.Lib
end Go.Proofs.YtmahamdmapbilaaGreatDoor
namespace Go.Proofs.YtmahamdmapbilaaGreatDoor
open Go.RowKit Go.Shelf
abbrev Fou := Int × ByteArray × Int × Int
def cells4Q : List Fou → List Value
 | [] => []
 | (k, t, l, c) :: r => tokC k t l c ++ cells4Q r
theorem cells4_append : ∀ a b : List Fou, cells4Q (a ++ b) = cells4Q a ++ cells4Q b
 | [], b => rfl
 | (k, t, l, c) :: a, b => by rw [List.cons_append, cells4Q, cells4Q, cells4_append a b, List.append_assoc]
theorem flat_cells (ln : Int) : ∀ l : List Tok, flatT ln l = cells4Q (l.map (fun x => (x.1, x.2.1, ln, (x.2.2 : Int))))
 | [] => rfl
 | (k, t, c) :: l => by rw [flatT, List.map_cons, cells4Q, flat_cells ln l]
def lineQ (ln : Nat) (x : ByteArray) : List Fou := if (cutR x).1.length = 0 then [] else (cutR x).1.map (fun x => (x.1, x.2.1, (ln : Int), (x.2.2 : Int))) ++ [(1, ⟨#[10]⟩, (ln : Int), (((starts x).length + 1 : Nat) : Int))]
theorem lineT_cells (ln : Nat) (x : ByteArray) : lineT ln x = cells4Q (lineQ ln x) := by
 unfold lineT lineQ
 split
 · rfl
 · rw [cells4_append, ← flat_cells, cells4Q, cells4Q, List.append_nil]
theorem lineQ_len (ln : Nat) (x : ByteArray) : (lineQ ln x).length = lineN x := by
 unfold lineN lineQ
 split
 · rfl
 · simp
def fours : Nat → List ByteArray → List Fou
 | _, [] => []
 | n, x :: t => lineQ (n + 1) x ++ fours (n + 1) t
theorem fours_cells : ∀ (n : Nat) (L : List ByteArray), xxL n L = cells4Q (fours n L)
 | _, [] => rfl
 | n, x :: t => by rw [xxL, fours, cells4_append, lineT_cells, fours_cells (n + 1) t]
theorem fours_len : ∀ (n : Nat) (L : List ByteArray), (fours n L).length = kkL L
 | _, [] => rfl
 | n, x :: t => by rw [kkL, fours, List.length_append, lineQ_len, fours_len (n + 1) t]
def le10 (s : ByteArray) : Nat → Nat → Nat
 | 0, p => p
 | f + 1, p => if p < s.size ∧ byt s p ≠ 10 then le10 s f (p + 1) else p
theorem le10_end (s : ByteArray) : ∀ (f p : Nat), p ≤ s.size → s.size ≤ p + f → LEnd s p (le10 s f p)
 | 0, p, h, k => ⟨Nat.le_refl _, h, fun j a b => by rw [le10] at b; omega, .inl (by rw [le10]; omega)⟩
 | f + 1, p, h, k => by
  rw [le10]
  split
  · rename_i hc
    have ih := le10_end s f (p + 1) (by omega) (by omega)
    refine ⟨Nat.le_of_succ_le ih.1, ih.2.1, fun j a b => ?_, ih.2.2.2⟩
    by_cases e : j = p
    · rw [e]; exact hc.2
    · exact ih.2.2.1 j (by omega) b
  · rename_i hc
    refine ⟨Nat.le_refl _, h, fun j a b => by omega, ?_⟩
    by_cases q : p < s.size
    · right
      by_cases e : byt s p = 10
      · exact e
      · exact absurd ⟨q, e⟩ hc
    · left; omega
def LE (s : ByteArray) (p : Nat) : Nat := le10 s s.size p
theorem le_end (s : ByteArray) (p : Nat) (h : p ≤ s.size) : LEnd s p (LE s p) := le10_end s s.size p h (by omega)
theorem LEnd.uniq {s : ByteArray} {p E E' : Nat} (h : LEnd s p E) (h' : LEnd s p E') : E = E' := by
 obtain ⟨a, b, c, d⟩ := h
 obtain ⟨a', b', c', d'⟩ := h'
 rcases Nat.lt_trichotomy E E' with q | q | q
 · rcases d with d | d
   · omega
   · exact absurd d (c' E a q)
 · exact q
 · rcases d' with d' | d'
   · omega
   · exact absurd d' (c E' a' q)
theorem nx_le (s : ByteArray) (i E : Nat) (hi : i < s.size) (hE : LEnd s (i + 1) E) : (nxD s i E).2.1 ≤ s.size := by
 have hwl := wdt_le s i hi
 have h1 := (runD_le s s.size i (by omega)).2
 have hsz : (s.extract 0 E).size = E := by have := hE.2.1; simp; omega
 have h6 := lead_le (s.extract 0 E) E (i + 1) [] (by have := hE.1; omega)
 have h7 := hE.2.1
 unfold nxD
 split
 · dsimp only; omega
 split
 · split <;> (dsimp only; omega)
 split
 · split <;> (dsimp only; omega)
 split <;> (dsimp only; omega)
abbrev Res := List Fou ⊕ (Nat × Nat × Nat)
def cntQ (s : ByteArray) (a b : Nat) : Nat := (starts (s.extract a b)).length
def scD (s : ByteArray) : Nat → Nat → Nat → Nat → Bool → List Fou → Res
 | 0, _, _, _, _, l => .inl l
 | f + 1, i, ln, fr, so, l =>
  if s.size < i then .inl l
  else if i = s.size ∨ byt s i = 10 then scD s f (i + 1) (ln + 1) (i + 1) false (if so = true then l ++ [(1, ⟨#[10]⟩, (ln : Int), ((cntQ s fr i + 1 : Nat) : Int))] else l)
  else if byt s i = 9 ∨ byt s i = 13 ∨ byt s i = 32 then scD s f (i + 1) ln fr so l
  else if byt s i = 35 then scD s f (LE s i) ln fr so l
  else if (nxD s i (LE s (i + 1))).2.2 = 0 then scD s f (nxD s i (LE s (i + 1))).2.1 ln fr true (l ++ [(((nxD s i (LE s (i + 1))).1 : Int), s.extract i (nxD s i (LE s (i + 1))).2.1, (ln : Int), ((cntQ s fr i + 1 : Nat) : Int))])
  else .inr ((nxD s i (LE s (i + 1))).2.2, (plc s (nxD s i (LE s (i + 1))).2.1).1, cntQ s (plc s (nxD s i (LE s (i + 1))).2.1).2 (nxD s i (LE s (i + 1))).2.1 + 1)
section
variable (s : ByteArray) (f i ln fr : Nat) (so : Bool) (l : List Fou)
theorem sc_end (h : s.size < i) : scD s (f + 1) i ln fr so l = .inl l := by rw [scD, if_pos h]
theorem sc_eol (h : ¬ s.size < i) (h1 : i = s.size ∨ byt s i = 10) : scD s (f + 1) i ln fr so l = scD s f (i + 1) (ln + 1) (i + 1) false (if so = true then l ++ [(1, ⟨#[10]⟩, (ln : Int), ((cntQ s fr i + 1 : Nat) : Int))] else l) := by rw [scD, if_neg h, if_pos h1]
theorem sc_gap (h : i < s.size) (h2 : byt s i = 9 ∨ byt s i = 13 ∨ byt s i = 32) : scD s (f + 1) i ln fr so l = scD s f (i + 1) ln fr so l := by
 rw [scD, if_neg (by omega), if_neg (by rintro (e | e) <;> omega), if_pos h2]
theorem sc_rem (h : i < s.size) (h2 : byt s i = 35) : scD s (f + 1) i ln fr so l = scD s f (LE s i) ln fr so l := by
 rw [scD, if_neg (by omega), if_neg (by rintro (e | e) <;> omega), if_neg (by rintro (e | e | e) <;> omega), if_pos h2]
theorem sc_word (h : i < s.size) (h1 : byt s i ≠ 10) (h2 : ¬ (byt s i = 9 ∨ byt s i = 13 ∨ byt s i = 32)) (h3 : byt s i ≠ 35) (h4 : (nxD s i (LE s (i + 1))).2.2 = 0) : scD s (f + 1) i ln fr so l = scD s f (nxD s i (LE s (i + 1))).2.1 ln fr true (l ++ [(((nxD s i (LE s (i + 1))).1 : Int), s.extract i (nxD s i (LE s (i + 1))).2.1, (ln : Int), ((cntQ s fr i + 1 : Nat) : Int))]) := by
 rw [scD, if_neg (by omega), if_neg (by rintro (e | e) <;> omega), if_neg h2, if_neg h3, if_pos h4]
theorem sc_err (h : i < s.size) (h1 : byt s i ≠ 10) (h2 : ¬ (byt s i = 9 ∨ byt s i = 13 ∨ byt s i = 32)) (h3 : byt s i ≠ 35) (h4 : (nxD s i (LE s (i + 1))).2.2 ≠ 0) : scD s (f + 1) i ln fr so l = .inr ((nxD s i (LE s (i + 1))).2.2, (plc s (nxD s i (LE s (i + 1))).2.1).1, cntQ s (plc s (nxD s i (LE s (i + 1))).2.1).2 (nxD s i (LE s (i + 1))).2.1 + 1) := by
 rw [scD, if_neg (by omega), if_neg (by rintro (e | e) <;> omega), if_neg h2, if_neg h3, if_neg h4]
end
theorem dec_cut (N M b0 b1 b2 b3 c1 c2 c3 : Nat) (h0 : 0 < M) (hle : M ≤ N) (e1 : 1 < M → c1 = b1) (e2 : 2 < M → c2 = b2) (e3 : 3 < M → c3 = b3)
   (l1 : M = 1 → M < N → b1 < 128) (l2 : M = 2 → M < N → b2 < 128) (l3 : M = 3 → M < N → b3 < 128) : Lib.decodeN N b0 b1 b2 b3 = Lib.decodeN M b0 c1 c2 c3 := by
 have A1 : (1 < N ∧ b1 / 64 = 2) ↔ (1 < M ∧ c1 / 64 = 2) := by
   by_cases h : 1 < M
   · rw [e1 h]; omega
   · have := l1 (by omega); omega
 have A2 : 1 < M → ((2 < N ∧ b2 / 64 = 2) ↔ (2 < M ∧ c2 / 64 = 2)) := by
   intro hM
   by_cases h : 2 < M
   · rw [e2 h]; omega
   · have := l2 (by omega); omega
 have A3 : 2 < M → ((3 < N ∧ b3 / 64 = 2) ↔ (3 < M ∧ c3 / 64 = 2)) := by
   intro hM
   by_cases h : 3 < M
   · rw [e3 h]; omega
   · have := l3 (by omega); omega
 unfold Lib.decodeN
 by_cases q0 : b0 < 128
 · rw [if_pos q0, if_pos q0]
 rw [if_neg q0, if_neg q0]
 by_cases p1 : 1 < M
 case neg =>
   have n1 : ¬ (1 < M ∧ c1 / 64 = 2) := fun h => p1 h.1
   have n2 : ¬ (1 < N ∧ b1 / 64 = 2) := fun h => n1 (A1.1 h)
   rw [if_neg (fun h => n2 h.2), if_neg (fun h => n2 h.2.1), if_neg (fun h => n2 h.2.1), if_neg (fun h => n1 h.2), if_neg (fun h => n1 h.2.1), if_neg (fun h => n1 h.2.1)]
 have E1 := e1 p1
 subst E1
 have t1 : 1 < N := by omega
 by_cases p2 : 2 < M
 case neg =>
   have n1 : ¬ (2 < M ∧ c2 / 64 = 2) := fun h => p2 h.1
   have n2 : ¬ (2 < N ∧ b2 / 64 = 2) := fun h => n1 ((A2 p1).1 h)
   rw [if_neg (c := b0 / 16 = 14 ∧ (1 < N ∧ c1 / 64 = 2) ∧ 2 < N ∧ b2 / 64 = 2) (fun h => n2 h.2.2), if_neg (c := b0 / 8 = 30 ∧ (1 < N ∧ c1 / 64 = 2) ∧ (2 < N ∧ b2 / 64 = 2) ∧ 3 < N ∧ b3 / 64 = 2) (fun h => n2 h.2.2.1), if_neg (c := b0 / 16 = 14 ∧ (1 < M ∧ c1 / 64 = 2) ∧ 2 < M ∧ c2 / 64 = 2) (fun h => n1 h.2.2), if_neg (c := b0 / 8 = 30 ∧ (1 < M ∧ c1 / 64 = 2) ∧ (2 < M ∧ c2 / 64 = 2) ∧ 3 < M ∧ c3 / 64 = 2) (fun h => n1 h.2.2.1)]
   simp only [t1, p1, true_and]
 have E2 := e2 p2
 subst E2
 have t2 : 2 < N := by omega
 by_cases p3 : 3 < M
 case neg =>
   have n1 : ¬ (3 < M ∧ c3 / 64 = 2) := fun h => p3 h.1
   have n2 : ¬ (3 < N ∧ b3 / 64 = 2) := fun h => n1 ((A3 p2).1 h)
   rw [if_neg (c := b0 / 8 = 30 ∧ (1 < N ∧ c1 / 64 = 2) ∧ (2 < N ∧ c2 / 64 = 2) ∧ 3 < N ∧ b3 / 64 = 2) (fun h => n2 h.2.2.2), if_neg (c := b0 / 8 = 30 ∧ (1 < M ∧ c1 / 64 = 2) ∧ (2 < M ∧ c2 / 64 = 2) ∧ 3 < M ∧ c3 / 64 = 2) (fun h => n1 h.2.2.2)]
   simp only [t1, p1, t2, p2, true_and]
 have E3 := e3 p3
 subst E3
 have t3 : 3 < N := by omega
 simp only [t1, p1, t2, p2, t3, p3, true_and]
theorem get_byt (s : ByteArray) (i : Nat) (h : i < s.size) : (s.get! i).toNat = byt s i := by rw [byt_get h, get_eq s i h]; rfl
theorem byt_ext (s : ByteArray) (o m k : Nat) (h : o + m ≤ s.size) (hk : k < m) : byt (s.extract o (o + m)) k = byt s (o + k) := by
 have hsz : (s.extract o (o + m)).size = m := by simp; omega
 rw [byt_get (s := s.extract o (o + m)) (by omega), byt_get (show o + k < s.size by omega)]
 congr 1
 exact ByteArray.getElem_extract ..
theorem dec_line (s : ByteArray) (o m p : Nat) (h : o + m ≤ s.size) (hp : p < m) (hend : o + m = s.size ∨ byt s (o + m) < 128) : Utf8.decode (s.extract o (o + m)) p = Utf8.decode s (o + p) := by
 have hsz : (s.extract o (o + m)).size = m := by simp; omega
 have hb : ∀ k, k < m → ((s.extract o (o + m)).get! k).toNat = (s.get! (o + k)).toNat := fun k hk => by rw [get_byt _ k (by omega), get_byt s (o + k) (by omega), byt_ext s o m k h hk]
 rw [shape, shape, hsz, hb p hp]
 refine (dec_cut _ _ _ _ _ _ _ _ _ (by omega) (by omega) (fun h1 => hb (p + 1) (by omega)) (fun h1 => hb (p + 2) (by omega)) (fun h1 => hb (p + 3) (by omega)) ?_ ?_ ?_).symm
 · intro e l
   rw [get_byt s _ (by omega), show o + (p + 1) = o + m by omega]
   omega
 · intro e l
   rw [get_byt s _ (by omega), show o + (p + 2) = o + m by omega]
   omega
 · intro e l
   rw [get_byt s _ (by omega), show o + (p + 3) = o + m by omega]
   omega
theorem wd_line (s : ByteArray) (o m p : Nat) (h : o + m ≤ s.size) (hp : p < m) (hend : o + m = s.size ∨ byt s (o + m) < 128) : wdt (s.extract o (o + m)) p = wdt s (o + p) := by
 unfold wdt
 rw [dec_line s o m p h hp hend]
inductive ChAt (x : ByteArray) : Nat → Nat → Prop
 | zero : ChAt x 0 0
 | step {p c : Nat} : ChAt x p c → p < x.size → ChAt x (p + wdt x p) (c + 1)
theorem chAt_le {x : ByteArray} {p c : Nat} (h : ChAt x p c) : p ≤ x.size := by
 cases h with
 | zero => exact Nat.zero_le _
 | step h hp => exact wdt_le x _ hp
theorem chAt_count {x : ByteArray} {p c : Nat} (h : ChAt x p c) : c + (startsFrom x x.size p).length = (starts x).length := by
 induction h with
 | zero => simp [starts]
 | @step p c h hp ih =>
  have hz := wdt_pos x p
  rw [startsFrom_fuel x x.size (x.size - 1 + 1) p (by omega) (by omega), startsFrom_step x _ p hp, List.length_cons, startsFrom_fuel x _ x.size (p + wdt x p) (by omega) (by omega)] at ih
  omega
theorem chAt_end (x : ByteArray) : ∀ (f p c : Nat), x.size - p ≤ f → ChAt x p c → ∃ c', ChAt x x.size c'
 | 0, p, c, hf, h => by
  have := chAt_le h
  rw [show p = x.size by omega] at h
  exact ⟨c, h⟩
 | f + 1, p, c, hf, h => by
  by_cases hp : p < x.size
  · have := wdt_pos x p
    exact chAt_end x f _ _ (by omega) (h.step hp)
  · have := chAt_le h
    rw [show p = x.size by omega] at h
    exact ⟨c, h⟩
theorem byt_list (s : ByteArray) (k : Nat) (h : k < s.size) : s.data.toList[k]? = some (s[k]'h) := by
 have : k < s.data.toList.length := by simpa using h
 rw [List.getElem?_eq_getElem this]
 rfl
theorem nl_some {s : ByteArray} {n : Nat} (h : nlAt s = (n : Int)) : byt s n = 10 ∧ n < s.size ∧ ∀ k, k < n → byt s k ≠ 10 := by
 have hb := nl_bounds s
 have hn : n < s.size := by omega
 obtain ⟨h1, h2⟩ := Lib.indexByte_some (o := n) h
 rw [byt_list s n hn] at h1
 refine ⟨?_, hn, ?_⟩
 · rw [byt_get hn, Option.some.inj h1]; rfl
 · intro k hk e
   have hks : k < s.size := by omega
   apply h2 k hk
   rw [byt_list s k hks]
   rw [byt_get hks] at e
   congr 1
   exact UInt8.toNat_inj.1 e
theorem nl_none {s : ByteArray} (h : nlAt s < 0) : ∀ k, k < s.size → byt s k ≠ 10 := by
 have hb := nl_bounds s
 intro k hks e
 apply Lib.indexByte_none (l := s.data.toList) (c := 10) (by show nlAt s = -1; omega) k
 rw [byt_list s k hks]
 rw [byt_get hks] at e
 congr 1
 exact UInt8.toNat_inj.1 e
theorem dec_short (N M b0 b1 b2 b3 c1 c2 c3 : Nat) (hle : M ≤ N) (e1 : 1 < M → c1 = b1) (e2 : 2 < M → c2 = b2) (e3 : 3 < M → c3 = b3) (hw : (Lib.decodeN N b0 b1 b2 b3).2 ≤ M) : Lib.decodeN M b0 c1 c2 c3 = Lib.decodeN N b0 b1 b2 b3 := by
 by_cases h1 : 1 < M
 · obtain rfl := e1 h1
   have n1 : 1 < N := by omega
   by_cases h2 : 2 < M
   · obtain rfl := e2 h2
     have n2 : 2 < N := by omega
     by_cases h3 : 3 < M
     · obtain rfl := e3 h3
       have n3 : 3 < N := by omega
       simp only [Lib.decodeN, h1, h2, h3, n1, n2, n3]
     · unfold Lib.decodeN at hw ⊢
       simp only [h1, h2, h3, n1, n2, true_and, false_and, and_false, if_false] at hw ⊢
       repeat' split
       all_goals first | rfl | (simp_all; done) | (simp_all; omega)
   · unfold Lib.decodeN at hw ⊢
     have h3 : ¬ 3 < M := by omega
     simp only [h1, h2, h3, n1, true_and, false_and, and_false, if_false] at hw ⊢
     repeat' split
     all_goals first | rfl | (simp_all; done) | (simp_all; omega)
 · have h2 : ¬ 2 < M := by omega
   have h3 : ¬ 3 < M := by omega
   unfold Lib.decodeN at hw ⊢
   simp only [h1, h2, h3, false_and, and_false, if_false] at hw ⊢
   repeat' split
   all_goals first | rfl | (simp_all; done) | (simp_all; omega)
theorem dec_pre (x : ByteArray) (p q : Nat) (hp : p < x.size) (hq : p + wdt x p ≤ q) (hqs : q ≤ x.size) : Utf8.decode (x.extract 0 q) p = Utf8.decode x p := by
 have hsz : (x.extract 0 q).size = q := by simp; omega
 have hw := wdt_pos x p
 have hb : ∀ k, k < q → ((x.extract 0 q).get! k).toNat = (x.get! k).toNat := fun k hk => by
  have h := byt_ext x 0 q k (by omega) hk
  rw [Nat.zero_add, Nat.zero_add] at h
  rw [get_byt _ k (by omega), get_byt x k (by omega), h]
 have hwd : (Lib.decodeN (x.size - p) (x.get! p).toNat (x.get! (p + 1)).toNat (x.get! (p + 2)).toNat (x.get! (p + 3)).toNat).2 = wdt x p := by rw [← shape]; rfl
 rw [shape, shape, hsz, hb p (by omega)]
 exact dec_short _ _ _ _ _ _ _ _ _ (by omega) (fun h => hb (p + 1) (by omega)) (fun h => hb (p + 2) (by omega)) (fun h => hb (p + 3) (by omega)) (by rw [hwd]; omega)
theorem wd_pre (x : ByteArray) (p q : Nat) (hp : p < x.size) (hq : p + wdt x p ≤ q) (hqs : q ≤ x.size) : wdt (x.extract 0 q) p = wdt x p := by
 unfold wdt
 rw [dec_pre x p q hp hq hqs]
theorem chAt_pre {x : ByteArray} {p c : Nat} (h : ChAt x p c) : ∀ q, p ≤ q → q ≤ x.size → ChAt (x.extract 0 q) p c := by
 induction h with
 | zero => exact fun q _ _ => .zero
 | @step p c h hp ih =>
  intro q hq hqs
  have hw := wdt_pos x p
  have hsz : (x.extract 0 q).size = q := by simp; omega
  have e := wd_pre x p q hp hq hqs
  have := ChAt.step (ih q (by omega) hqs) (by omega)
  rw [e] at this
  exact this
theorem chAt_cnt {x : ByteArray} {p c : Nat} (h : ChAt x p c) : cntQ x 0 p = c := by
 have hp := chAt_le h
 have hsz : (x.extract 0 p).size = p := by simp; omega
 have h1 := chAt_count (chAt_pre h p (Nat.le_refl _) hp)
 rw [startsFrom_end _ _ p (by omega)] at h1
 simpa [cntQ] using h1.symm
theorem cq_cells4 : ∀ l : List Fou, cells4Q l = l.flatMap (fun x => [.int .i64 x.1, .string x.2.1, .int .i64 x.2.2.1, .int .i64 x.2.2.2])
 | [] => rfl
 | (k, t, l, c) :: r => by rw [cells4Q, cq_cells4 r]; rfl
end Go.Proofs.YtmahamdmapbilaaGreatDoor
