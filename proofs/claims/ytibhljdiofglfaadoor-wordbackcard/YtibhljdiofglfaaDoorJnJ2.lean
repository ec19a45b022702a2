/- A line: the program's words of it, and the document's. -/
import Derived.Test.YtibhljdiofglfaaDoorJnJ1
import Derived.WalkKit
import Derived.WalkSpells
import Derived.Below
import Derived.Shelf.Abstract
import Derived.Lib.OthersKept
import Derived.Maps.AppendAt
import Derived.OwnWalk
import Derived.Carry
import Derived.Deep.WholeRow
namespace Go.Proofs.YtibhljdiofglfaaDoor
open Go.RowKit Go.Shelf

def frr (ln : Nat) (t : Tok) : Fou := (t.1, t.2.1, (ln : Int), (t.2.2 : Int))
theorem cnt_ch {s : ByteArray} {a M p c : Nat} (h : ChAt (s.extract a (a + M)) p c) (hp : p ≤ M) : cnt s a (a + p) = c := by
  have h1 := chAt_cnt h
  unfold cnt at h1 ⊢
  rw [ext_ext s a M 0 p hp, Nat.add_zero] at h1
  exact h1
set_option maxHeartbeats 2000000 in
theorem line_eq (s : ByteArray) (a M ln : Nat) (h : a + M ≤ s.size) (hend : a + M = s.size ∨ byt s (a + M) = 10) (hno : ∀ k, k < M → byt s (a + k) ≠ 10) (hpl : plc s a = (ln, a)) : ∀ (n p nx col f F : Nat) (acc : List Tok) (so : Bool) (l : List Fou), M - p ≤ n → p ≤ M → nx ≤ p → ChAt (s.extract a (a + M)) p col → M < p + f → s.size + 1 < a + p + F →
    ∃ tk : List Tok, (cutAt (s.extract a (a + M)) f p nx col acc = (acc ++ tk, 0, 0) ∧ ∃ G, s.size + 1 < a + M + G ∧ scD s F (a + p) ln a so l = scD s G (a + M) ln a (so || decide (tk ≠ [])) (l ++ tk.map (frr ln))) ∨ (∃ e c, cutAt (s.extract a (a + M)) f p nx col acc = (acc ++ tk, e, c) ∧ e ≠ 0 ∧ scD s F (a + p) ln a so l = .inr (e, ln, c)) := by
  intro n
  induction n with
  | zero =>
    intro p nx col f F acc so l hn hp hx hc hf hF
    obtain ⟨f, rfl⟩ : ∃ f', f = f' + 1 := ⟨f - 1, by omega⟩
    have hsz : (s.extract a (a + M)).size = M := by simp; omega
    obtain rfl : p = M := by omega
    exact ⟨[], .inl ⟨by rw [cut_end _ f p nx col acc (by omega)]; simp, F, hF, by simp⟩⟩
  | succ n ih =>
    intro p nx col f F acc so l hn hp hx hc hf hF
    have hsz : (s.extract a (a + M)).size = M := by simp; omega
    obtain ⟨f, rfl⟩ : ∃ f', f = f' + 1 := ⟨f - 1, by omega⟩
    by_cases hpM : p < M
    case neg =>
      obtain rfl : p = M := by omega
      exact ⟨[], .inl ⟨by rw [cut_end _ f p nx col acc (by omega)]; simp, F, hF, by simp⟩⟩
    obtain ⟨F, rfl⟩ : ∃ F', F = F' + 1 := ⟨F - 1, by omega⟩
    have hst := step_eq s a M p h hpM hend (hno p hpM)
    have hb := byt_ext s a M p h hpM
    have hend' : a + M = s.size ∨ byt s (a + M) < 128 := by omega
    have hbm : a + p + (M - p) = a + M := by omega
    have hL : ∀ q, a ≤ q → q ≤ a + M → LEnd s q (a + M) := fun q h1 h2 => ⟨h2, h, fun j j1 j2 => by have := hno (j - a) (by omega); rw [show a + (j - a) = j by omega] at this; exact this, hend⟩
    have hE1 : LE s (a + p + 1) = a + p + (M - p) := by rw [hbm]; exact (le_end s (a + p + 1) (by omega)).uniq (hL _ (by omega) (by omega))
    rw [cut_step _ f p nx col acc (by omega) (by omega)]
    cases hs : stepR (s.extract a (a + M)) p with
    | gap =>
      rw [hs] at hst
      have hg : byt s (a + p) = 9 ∨ byt s (a + p) = 13 ∨ byt s (a + p) = 32 := hst
      have hw := (rn_asc (s.extract a (a + M)) p (by omega) (by omega)).2
      have hc2 := hc.step (by omega)
      rw [hw] at hc2
      dsimp only
      rw [hw, sc_gap s F (a + p) ln a so l (by omega) hg]
      exact ih (p + 1) nx (col + 1) f F acc so l (by omega) (by omega) (by omega) hc2 (by omega) (by omega)
    | stop =>
      rw [hs] at hst
      have h35 : byt s (a + p) = 35 := hst
      refine ⟨[], .inl ⟨by simp, F, by omega, ?_⟩⟩
      rw [sc_rem s F (a + p) ln a so l (by omega) h35, (le_end s (a + p) (by omega)).uniq (hL _ (by omega) (by omega))]
      simp
    | bad e off =>
      rw [hs] at hst
      obtain ⟨ng, n35, he, hne, r, c, hr1, hr2, hoff, hch⟩ := hst
      refine ⟨[], .inr ⟨e, col + 1 + off, by simp, hne, ?_⟩⟩
      rw [sc_err s F (a + p) ln a so l (by omega) (hno p hpM) ng n35 (by rw [hE1, he]; exact hne), hE1, he, hr1]
      have hadd := chAt_add h hend' hp hc hch
      have hcn := cnt_ch hadd (by omega)
      have hof := cnt_ch hch hr2
      have hp2 := plc_line s a ln hpl (p + r) (fun k hk => hno k (by omega))
      rw [← Nat.add_assoc] at hcn hp2
      rw [hp2]
      dsimp only
      rw [hcn, hoff, hof]
      rw [show col + c + 1 = col + 1 + c by omega]
    | word k sz =>
      rw [hs] at hst
      obtain ⟨ng, n35, hk, h21, h22, hszm, c, hch⟩ := hst
      have hadd := chAt_add h hend' hp hc hch
      have hbd := nx_bounds s (a + p) (a + p + (M - p)) (by omega) (by rw [hbm]; exact hL _ (by omega) (by omega)) h22
      have hlt := chAt_lt2 hc hadd (by omega)
      have hw := wd_pos (s.extract a (a + M)) p
      have hcn := cnt_ch hc hp
      have hxe : (s.extract a (a + M)).extract p (p + sz) = s.extract (a + p) (a + p + sz) := (ext_ext s a M p _ (by omega)).trans (congrArg (fun z => s.extract (a + p) z) (by omega))
      dsimp only
      rw [sc_word s F (a + p) ln a so l (by omega) (hno p hpM) ng n35 (by rw [hE1]; exact h22), hE1, h21, hk, hcn, hxe]
      obtain ⟨g, hg, eg⟩ := cut_to (s.extract a (a + M)) (p + sz) (col + c) (acc ++ [(k, s.extract (a + p) (a + p + sz), col + 1)]) hadd f (p + wd (s.extract a (a + M)) p) (col + 1) (hc.step (by omega)) hlt.2 (by omega)
      rw [eg, Nat.add_assoc a p sz]
      obtain ⟨tk, hh⟩ := ih (p + sz) (p + sz) (col + c) g F (acc ++ [(k, s.extract (a + p) (a + (p + sz)), col + 1)]) true (l ++ [(k, s.extract (a + p) (a + (p + sz)), (ln : Int), ((col + 1 : Nat) : Int))]) (by omega) (by omega) (Nat.le_refl _) hadd (by omega) (by omega)
      refine ⟨(k, s.extract (a + p) (a + (p + sz)), col + 1) :: tk, ?_⟩
      rcases hh with ⟨h1, G, h2, h3⟩ | ⟨e, c', h1, h2, h3⟩
      · exact .inl ⟨by rw [h1]; simp, G, h2, by rw [h3]; simp [frr]⟩
      · exact .inr ⟨e, c', by rw [h1]; simp, h2, h3⟩
end Go.Proofs.YtibhljdiofglfaaDoor
namespace Go.Proofs.YtibhljdiofglfaaDoor
open Go.RowKit Go.Shelf

theorem line_done (s : ByteArray) (a M n : Nat) (h : a + M ≤ s.size) (hend : a + M = s.size ∨ byt s (a + M) = 10) (hno : ∀ k, k < M → byt s (a + k) ≠ 10) (hpl : plc s a = (n + 1, a)) (F : Nat) (l : List Fou) (hF : s.size + 1 < a + F) :
    ((cutR (s.extract a (a + M))).2.1 = 0 ∧ ∃ G, s.size + 1 < a + M + 1 + G ∧ scD s F a (n + 1) a false l = scD s G (a + M + 1) (n + 1 + 1) (a + M + 1) false (l ++ lineQ (n + 1) (s.extract a (a + M)))) ∨ ((cutR (s.extract a (a + M))).2.1 ≠ 0 ∧ scD s F a (n + 1) a false l = .inr ((cutR (s.extract a (a + M))).2.1, n + 1, (cutR (s.extract a (a + M))).2.2)) := by
  have hsz : (s.extract a (a + M)).size = M := by simp; omega
  obtain ⟨tk, hh⟩ := line_eq s a M (n + 1) h hend hno hpl M 0 0 0 (M + 1) F [] false l (by omega) (Nat.zero_le _) (Nat.le_refl _) .zero (by omega) hF
  have hcr : cutR (s.extract a (a + M)) = cutAt (s.extract a (a + M)) (M + 1) 0 0 0 [] := by rw [cutR, hsz]
  rw [List.nil_append, ← hcr] at hh
  rcases hh with ⟨h1, G, h2, h3⟩ | ⟨e, c, h1, h2, h3⟩
  · left
    obtain ⟨G, rfl⟩ : ∃ G', G = G' + 1 := ⟨G - 1, by omega⟩
    refine ⟨by rw [h1], G, by omega, ?_⟩
    have h3' : scD s F a (n + 1) a false l = _ := h3
    rw [h3', sc_eol s G (a + M) (n + 1) a _ _ (by omega) hend]
    congr 1
    unfold lineQ
    rw [h1]
    cases tk with
    | nil => simp
    | cons t tk =>
      rw [if_pos (by simp), if_neg (by simp), List.append_assoc]
      rfl
  · right
    rw [h1]
    exact ⟨h2, h3⟩
/-- What the document's Scan says of the lines from there on. -/
def TxE (s : ByteArray) (F o n : Nat) (l : List Fou) (L : List ByteArray) : Prop := match badL L with
  | none => scD s F o (n + 1) o false l = .inl (l ++ fours n L)
  | some (i, er, c) => scD s F o (n + 1) o false l = .inr (er, n + i + 1, c)
theorem last_eq (s : ByteArray) (o n F : Nat) (l : List Fou) (ho : o ≤ s.size) (hno : ∀ k, k < s.size - o → byt s (o + k) ≠ 10) (hpl : plc s o = (n + 1, o)) (hF : s.size + 1 < o + F) : TxE s F o n l [s.extract o s.size] := by
  have e : s.extract o s.size = s.extract o (o + (s.size - o)) := by congr 1; omega
  rcases line_done s o (s.size - o) n (by omega) (.inl (by omega)) hno hpl F l hF with ⟨h1, G, h2, h3⟩ | ⟨h1, h3⟩
  · have hb : badL [s.extract o s.size] = none := by rw [badL, badL, e, if_neg (by rw [h1]; simp)]; rfl
    unfold TxE
    rw [hb]
    obtain ⟨G, rfl⟩ : ∃ G', G = G' + 1 := ⟨G - 1, by omega⟩
    dsimp only
    rw [h3, sc_end s G _ _ _ _ _ (by omega), fours, fours, List.append_nil, e]
  · have hb : badL [s.extract o s.size] = some (0, (cutR (s.extract o s.size)).2.1, (cutR (s.extract o s.size)).2.2) := by rw [badL, e, if_pos h1]
    unfold TxE
    rw [hb]
    dsimp only
    rw [h3, ← e]
theorem text_eq (s : ByteArray) : ∀ (f o n F : Nat) (l : List Fou), o ≤ s.size → s.size - o ≤ f → plc s o = (n + 1, o) → s.size + 1 < o + F → TxE s F o n l (linesAux f (s.extract o s.size)) := by
  intro f
  induction f with
  | zero =>
    intro o n F l ho hf hpl hF
    rw [linesAux]
    exact last_eq s o n F l ho (fun k hk => by omega) hpl hF
  | succ f ih =>
    intro o n F l ho hf hpl hF
    have hz : (s.extract o s.size).size = s.size - o := by simp
    by_cases hn : nlAt (s.extract o s.size) < 0
    · rw [lines_last hn]
      refine last_eq s o n F l ho (fun k hk => ?_) hpl hF
      have := nl_none hn k (by omega)
      rwa [byt_extract s o k ho] at this
    · obtain ⟨m, e⟩ := Int.eq_ofNat_of_zero_le (show 0 ≤ nlAt (s.extract o s.size) by omega)
      obtain ⟨b1, b2, b3⟩ := nl_some e
      rw [byt_extract s o m ho] at b1
      have b4 : ∀ k, k < m → byt s (o + k) ≠ 10 := fun k hk => by have := b3 k hk; rwa [byt_extract s o k ho] at this
      have e1 : (s.extract o s.size).extract 0 m = s.extract o (o + m) := by
        rw [ByteArray.extract_extract]
        congr 1
        omega
      have e2 : (s.extract o s.size).extract (m + 1) (s.extract o s.size).size = s.extract (o + m + 1) s.size := by
        rw [ByteArray.extract_extract, hz]
        congr 1 <;> omega
      rw [lines_more e, e1, e2]
      rcases line_done s o m n (by omega) (.inr b1) b4 hpl F l hF with ⟨h1, G, h2, h3⟩ | ⟨h1, h3⟩
      · have hp2 : plc s (o + m + 1) = (n + 1 + 1, o + m + 1) := by rw [plc, if_pos b1, plc_line s o (n + 1) hpl m b4]
        have hi := ih (o + m + 1) (n + 1) G (l ++ lineQ (n + 1) (s.extract o (o + m))) (by omega) (by omega) hp2 (by omega)
        unfold TxE at hi ⊢
        rw [badL, if_neg (by rw [h1]; simp)]
        cases hb : badL (linesAux f (s.extract (o + m + 1) s.size)) with
        | none =>
          rw [hb] at hi
          dsimp only [Option.map] at hi ⊢
          rw [h3, hi, fours, List.append_assoc]
        | some r =>
          obtain ⟨i, er, c⟩ := r
          rw [hb] at hi
          dsimp only [Option.map] at hi ⊢
          rw [h3, hi, show n + 1 + i + 1 = n + (i + 1) + 1 by omega]
      · unfold TxE
        rw [badL, if_pos h1]
        exact h3
/-- The whole text. -/
theorem scan_eq (s : ByteArray) : TxE s (s.size + 2) 0 0 [] (linesOf s) := by
  have h := text_eq s s.size 0 0 (s.size + 2) [] (Nat.zero_le _) (by omega) rfl (by omega)
  have e : s.extract 0 s.size = s := by simp
  rw [e] at h
  exact h
end Go.Proofs.YtibhljdiofglfaaDoor
namespace Go.Proofs.YtibhljdiofglfaaDoor
open Go.RowKit Go.Shelf

/-- A word of this kind, wherever it is put ahead of a blank. -/
structure Wrd (N : Nat) (k : Int) (x : ByteArray) : Prop where
  some : 0 < x.size
  le : x.size ≤ N
  there : ∀ (t : ByteArray) (j : Nat), j + x.size < t.size → t.extract j (j + x.size) = x → Sep (byt t (j + x.size)) → (byt t j ≠ 10 ∧ ¬ (byt t j = 9 ∨ byt t j = 13 ∨ byt t j = 32) ∧ byt t j ≠ 35) ∧ ((nxD t j (LE t (j + 1))).1 : Int) = k ∧ (nxD t j (LE t (j + 1))).2.1 = j + x.size ∧ (nxD t j (LE t (j + 1))).2.2 = 0
/-- Ends of lines stand behind words alone, and at the end. -/
def Shp (N : Nat) : Bool → List Fou → Prop
  | so, [] => so = false
  | so, q :: r => (q.1 = 1 ∧ q.2.1 = ⟨#[10]⟩ ∧ so = true ∧ Shp N false r) ∨ (q.1 ≠ 1 ∧ Wrd N q.1 q.2.1 ∧ Shp N true r)
theorem nx_kind (s : ByteArray) (i E : Nat) (_ : (nxD s i E).2.2 = 0) : (nxD s i E).1 ≠ 1 := by
  unfold nxD
  split
  · dsimp only; omega
  split
  · split <;> (dsimp only; omega)
  split
  · split <;> (dsimp only; omega)
  split <;> (dsimp only; omega)
/-- Of a text that is read the words are so. -/
theorem sc_shp (s : ByteArray) : ∀ (f i ln fr : Nat) (so : Bool) (l r : List Fou), scD s f i ln fr so l = .inl r → s.size + 1 < i + f → (s.size < i → so = false) → ∃ m, r = l ++ m ∧ Shp s.size so m
  | 0, i, ln, fr, so, l, r, h, hf, hso => by
    rw [scD] at h
    cases h
    exact ⟨[], by simp, hso (by omega)⟩
  | f + 1, i, ln, fr, so, l, r, h, hf, hso => by
    by_cases h0 : s.size < i
    · rw [sc_end s f i ln fr so l h0] at h
      cases h
      exact ⟨[], by simp, hso h0⟩
    by_cases h1 : i = s.size ∨ byt s i = 10
    · rw [sc_eol s f i ln fr so l h0 h1] at h
      obtain ⟨m, e, hm⟩ := sc_shp s f (i + 1) (ln + 1) (i + 1) false _ r h (by omega) (fun _ => rfl)
      cases so with
      | false => exact ⟨m, by rw [e, if_neg (by simp)], hm⟩
      | true => exact ⟨(1, ⟨#[10]⟩, (ln : Int), ((cnt s fr i + 1 : Nat) : Int)) :: m, by rw [e, if_pos rfl, List.append_assoc]; rfl, .inl ⟨rfl, rfl, rfl, hm⟩⟩
    have hi : i < s.size := by omega
    have h1' : byt s i ≠ 10 := fun e => h1 (.inr e)
    by_cases h2 : byt s i = 9 ∨ byt s i = 13 ∨ byt s i = 32
    · rw [sc_gap s f i ln fr so l hi h2] at h
      exact sc_shp s f (i + 1) ln fr so l r h (by omega) (fun q => by omega)
    by_cases h3 : byt s i = 35
    · rw [sc_rem s f i ln fr so l hi h3] at h
      obtain ⟨a, b, c, d⟩ := le_end s i (by omega)
      have : i < LE s i := by
        rcases Nat.lt_or_ge i (LE s i) with q | q
        · exact q
        · exfalso
          have e : LE s i = i := by omega
          rw [e] at d
          rcases d with d | d <;> omega
      exact sc_shp s f (LE s i) ln fr so l r h (by omega) (fun q => by omega)
    by_cases h4 : (nxD s i (LE s (i + 1))).2.2 = 0
    · rw [sc_word s f i ln fr so l hi h1' h2 h3 h4] at h
      have hE := le_end s (i + 1) (by omega)
      obtain ⟨b1, b2⟩ := nx_bounds s i _ hi hE h4
      obtain ⟨n, hn⟩ : ∃ n, (nxD s i (LE s (i + 1))).2.1 = i + n := ⟨(nxD s i (LE s (i + 1))).2.1 - i, by omega⟩
      have hk := nx_kind s i _ h4
      rw [hn] at h b1 b2
      obtain ⟨m, e, hm⟩ := sc_shp s f (i + n) ln fr true _ r h (by omega) (fun q => by omega)
      have hsz : (s.extract i (i + n)).size = n := by simp; omega
      refine ⟨_ :: m, by rw [e, List.append_assoc]; rfl, .inr ⟨by dsimp only; omega, ⟨by dsimp only; omega, by dsimp only; omega, ?_⟩, hm⟩⟩
      dsimp only
      rw [hsz]
      intro t j ht he hb
      have hL : Loc s i t j n := ⟨b2, by omega, .inr (sep_cls hb).1, he.symm⟩
      have hE' := le_end t (j + 1) (by omega)
      have hx := nx_loc s i _ hi hE h4 n hn t j _ hL hb hE' ht
      have hb0 := hL.byt 0 (by omega)
      rw [Nat.add_zero, Nat.add_zero] at hb0
      rw [hx, hb0]
      exact ⟨⟨h1', h2, h3⟩, rfl, rfl, rfl⟩
    · rw [sc_err s f i ln fr so l hi h1' h2 h3 h4] at h
      cases h
def bE : ByteArray := ⟨#[32, 35, 32, 34, 32, 226, 152, 131, 10, 13, 10]⟩
def bA : ByteArray := ⟨#[32, 9]⟩
def bZ : ByteArray := ⟨#[13, 32]⟩
def bH : ByteArray := ⟨#[9, 10, 32, 35, 32, 195, 169, 32, 255, 32, 34, 10]⟩
/-- What is put for a word. -/
def pc (q : Fou) : ByteArray := if q.1 = 1 then bE else bA ++ q.2.1 ++ bZ
def bls : List Fou → ByteArray
  | [] => ByteArray.empty
  | q :: r => pc q ++ bls r
theorem bls_append : ∀ a b : List Fou, bls (a ++ b) = bls a ++ bls b
  | [], b => by rw [bls, List.nil_append, ByteArray.empty_append]
  | q :: r, b => by rw [List.cons_append, bls, bls, bls_append r b, ByteArray.append_assoc]
theorem rest_app (t x y : ByteArray) (p : Nat) (hp : p ≤ t.size) (h : t.extract p t.size = x ++ y) : p + x.size ≤ t.size ∧ (∀ k, k < x.size → byt t (p + k) = byt x k) ∧ t.extract (p + x.size) t.size = y ∧ t.extract p (p + x.size) = x := by
  have hsz : (t.extract p t.size).size = t.size - p := by simp
  rw [h, ByteArray.size_append] at hsz
  refine ⟨by omega, fun k hk => ?_, ?_, ?_⟩
  · rw [← byt_extract t p k hp, h, byt_get (s := x ++ y) (by rw [ByteArray.size_append]; omega), byt_get hk]
    congr 1
    exact ByteArray.getElem_append_left hk
  · have e : (x ++ y).extract x.size (x.size + y.size) = y := ByteArray.extract_append_eq_right rfl rfl
    rw [← h, ByteArray.extract_extract] at e
    rw [← e]
    congr 1
    omega
  · have e : (x ++ y).extract 0 x.size = x := ByteArray.extract_append_eq_left rfl
    rw [← h, ByteArray.extract_extract] at e
    conv => rhs; rw [← e]
    congr 1
    omega
theorem le_is (t : ByteArray) (p E : Nat) (h : LEnd t p E) (hp : p ≤ t.size) : LE t p = E := (le_end t p hp).uniq h
def kt (q : Fou) : Int × ByteArray := (q.1, q.2.1)
theorem blank_scan : ∀ (N : Nat) (l : List Fou) (so : Bool) (t : ByteArray) (p f ln fr : Nat) (acc : List Fou), Shp N so l → p ≤ t.size → t.extract p t.size = bls l → t.size + 1 < p + f → ∃ r, scD t f p ln fr so acc = .inl (acc ++ r) ∧ l.map kt = r.map kt
  | N, [], so, t, p, f, ln, fr, acc, hs, hp, he, hf => by
    have hso : so = false := hs
    subst hso
    have hsz : (t.extract p t.size).size = t.size - p := by simp
    rw [he] at hsz
    have h0 : (bls []).size = 0 := rfl
    obtain ⟨f, rfl⟩ : ∃ g, f = g + 2 := ⟨f - 2, by omega⟩
    rw [sc_eol t (f + 1) p ln fr false acc (by omega) (.inl (by omega)), if_neg (by simp), sc_end t f (p + 1) _ _ _ _ (by omega)]
    exact ⟨[], by simp, rfl⟩
  | N, q :: r, so, t, p, f, ln, fr, acc, hs, hp, he, hf => by
    rcases hs with ⟨k1, k2, rfl, hr⟩ | ⟨k1, hw, hr⟩
    · have hpc : pc q = bE := by rw [pc, if_pos k1]
      rw [bls, hpc] at he
      obtain ⟨a1, a2, a3, _⟩ := rest_app t bE (bls r) p hp he
      have hz : bE.size = 11 := rfl
      rw [hz] at a1 a2 a3
      have b0 : byt t (p + 0) = 32 := a2 0 (by omega)
      rw [Nat.add_zero] at b0
      have b1 : byt t (p + 1) = 35 := a2 1 (by omega)
      have b2 : byt t (p + 2) = 32 := a2 2 (by omega)
      have b3 : byt t (p + 3) = 34 := a2 3 (by omega)
      have b4 : byt t (p + 4) = 32 := a2 4 (by omega)
      have b5 : byt t (p + 5) = 226 := a2 5 (by omega)
      have b6 : byt t (p + 6) = 152 := a2 6 (by omega)
      have b7 : byt t (p + 7) = 131 := a2 7 (by omega)
      have b8 : byt t (p + 8) = 10 := a2 8 (by omega)
      have b9 : byt t (p + 9) = 13 := a2 9 (by omega)
      have b10 : byt t (p + 10) = 10 := a2 10 (by omega)
      obtain ⟨f, rfl⟩ : ∃ g, f = g + 5 := ⟨f - 5, by omega⟩
      have hLE : LE t (p + 1) = p + 8 := le_is t _ _ ⟨by omega, by omega, fun j x y => by
        have : j = p + 1 ∨ j = p + 2 ∨ j = p + 3 ∨ j = p + 4 ∨ j = p + 5 ∨ j = p + 6 ∨ j = p + 7 := by omega
        rcases this with rfl | rfl | rfl | rfl | rfl | rfl | rfl <;> omega, .inr b8⟩ (by omega)
      rw [sc_gap t (f + 4) p _ _ _ _ (by omega) (.inr (.inr b0)), sc_rem t (f + 3) (p + 1) _ _ _ _ (by omega) b1, hLE, sc_eol t (f + 2) (p + 8) _ _ _ _ (by omega) (.inr b8), if_pos rfl, sc_gap t (f + 1) (p + 9) _ _ _ _ (by omega) (.inr (.inl b9)), sc_eol t f (p + 10) _ _ _ _ (by omega) (.inr b10), if_neg (by simp)]
      obtain ⟨R, e1, e2⟩ := blank_scan N r false t (p + 11) f _ _ (acc ++ [(1, ⟨#[10]⟩, (ln : Int), ((cnt t fr (p + 8) + 1 : Nat) : Int))]) hr a1 a3 (by omega)
      refine ⟨_ :: R, by rw [e1, List.append_assoc]; rfl, ?_⟩
      rw [List.map_cons, List.map_cons, e2]
      congr 1
      show (q.1, q.2.1) = _
      rw [k1, k2]
      rfl
    · have hpc : pc q = bA ++ q.2.1 ++ bZ := by rw [pc, if_neg k1]
      rw [bls, hpc, ByteArray.append_assoc, ByteArray.append_assoc] at he
      obtain ⟨a1, a2, a3, _⟩ := rest_app t bA _ p hp he
      have hz : bA.size = 2 := rfl
      rw [hz] at a1 a2 a3
      obtain ⟨c1, c2, c3, c4⟩ := rest_app t q.2.1 _ (p + 2) a1 a3
      obtain ⟨d1, d2, d3, _⟩ := rest_app t bZ _ (p + 2 + q.2.1.size) c1 c3
      have hz' : bZ.size = 2 := rfl
      rw [hz'] at d1 d2 d3
      have b0 : byt t (p + 0) = 32 := a2 0 (by omega)
      rw [Nat.add_zero] at b0
      have b1 : byt t (p + 1) = 9 := a2 1 (by omega)
      have e0 : byt t (p + 2 + q.2.1.size + 0) = 13 := d2 0 (by omega)
      rw [Nat.add_zero] at e0
      have e1 : byt t (p + 2 + q.2.1.size + 1) = 32 := d2 1 (by omega)
      have hx0 := hw.some
      obtain ⟨⟨g1, g2, g3⟩, g4, g5, g6⟩ := hw.there t (p + 2) (by omega) c4 (.inl e0)
      obtain ⟨f, rfl⟩ : ∃ g, f = g + 5 := ⟨f - 5, by omega⟩
      rw [sc_gap t (f + 4) p _ _ _ _ (by omega) (.inr (.inr b0)), sc_gap t (f + 3) (p + 1) _ _ _ _ (by omega) (.inl b1), sc_word t (f + 2) (p + 2) _ _ _ _ (by omega) g1 g2 g3 g6, g5, g4, sc_gap t (f + 1) (p + 2 + q.2.1.size) _ _ _ _ (by omega) (.inr (.inl e0)), sc_gap t f (p + 2 + q.2.1.size + 1) _ _ _ _ (by omega) (.inr (.inr e1))]
      obtain ⟨R, h1, h2⟩ := blank_scan N r true t (p + 2 + q.2.1.size + 1 + 1) f ln fr _ hr (by omega) d3 (by omega)
      refine ⟨_ :: R, by rw [h1, List.append_assoc]; rfl, ?_⟩
      rw [List.map_cons, List.map_cons, h2]
      congr 1
      show (q.1, q.2.1) = (q.1, _)
      rw [c4]
theorem blank_text (N : Nat) (l : List Fou) (hs : Shp N false l) : badL (linesOf (bH ++ bls l)) = none ∧ l.map kt = (fours 0 (linesOf (bH ++ bls l))).map kt := by
  obtain ⟨t, ht⟩ : ∃ t, bH ++ bls l = t := ⟨_, rfl⟩
  have he0 : t.extract 0 t.size = bH ++ bls l := by rw [ht]; simp
  rw [ht]
  obtain ⟨a1, a2, a3, _⟩ := rest_app t bH (bls l) 0 (Nat.zero_le _) he0
  have hz : bH.size = 12 := rfl
  rw [hz] at a1 a2 a3
  simp only [Nat.zero_add] at a1 a2 a3
  have b0 : byt t 0 = 9 := a2 0 (by omega)
  have b1 : byt t 1 = 10 := a2 1 (by omega)
  have b2 : byt t 2 = 32 := a2 2 (by omega)
  have b3 : byt t 3 = 35 := a2 3 (by omega)
  have b4 : byt t 4 = 32 := a2 4 (by omega)
  have b5 : byt t 5 = 195 := a2 5 (by omega)
  have b6 : byt t 6 = 169 := a2 6 (by omega)
  have b7 : byt t 7 = 32 := a2 7 (by omega)
  have b8 : byt t 8 = 255 := a2 8 (by omega)
  have b9 : byt t 9 = 32 := a2 9 (by omega)
  have b10 : byt t 10 = 34 := a2 10 (by omega)
  have b11 : byt t 11 = 10 := a2 11 (by omega)
  have hLE : LE t 3 = 11 := le_is t _ _ ⟨by omega, by omega, fun j x y => by
    have : j = 3 ∨ j = 4 ∨ j = 5 ∨ j = 6 ∨ j = 7 ∨ j = 8 ∨ j = 9 ∨ j = 10 := by omega
    rcases this with rfl | rfl | rfl | rfl | rfl | rfl | rfl | rfl <;> omega, .inr b11⟩ (by omega)
  have hE := scan_eq t
  obtain ⟨z, hzz⟩ : ∃ z, t.size + 2 = z + 5 := ⟨t.size - 3, by omega⟩
  obtain ⟨R, e1, e2⟩ := blank_scan N l false t 12 z 3 12 [] hs a1 a3 (by omega)
  have hk : scD t (t.size + 2) 0 1 0 false [] = .inl R := by
    rw [hzz, sc_gap t (z + 4) 0 _ _ _ _ (by omega) (.inl b0), sc_eol t (z + 3) (0 + 1) _ _ _ _ (by omega) (.inr b1), if_neg (by simp), sc_gap t (z + 2) (0 + 1 + 1) _ _ _ _ (by omega) (.inr (.inr b2)), sc_rem t (z + 1) (0 + 1 + 1 + 1) _ _ _ _ (by omega) b3, show LE t (0 + 1 + 1 + 1) = 11 from hLE, sc_eol t z 11 _ _ _ _ (by omega) (.inr b11), if_neg (by simp)]
    rw [List.nil_append] at e1
    exact e1
  unfold TxE at hE
  cases hb : badL (linesOf t) with
  | none =>
    rw [hb] at hE
    dsimp only at hE
    rw [hk, List.nil_append] at hE
    cases hE
    exact ⟨rfl, e2⟩
  | some x =>
    obtain ⟨i, er, c⟩ := x
    rw [hb] at hE
    dsimp only at hE
    rw [hk] at hE
    cases hE
theorem fours_shp (s : ByteArray) (h : badL (linesOf s) = none) : Shp s.size false (fours 0 (linesOf s)) := by
  have hE := scan_eq s
  unfold TxE at hE
  rw [h] at hE
  dsimp only at hE
  obtain ⟨m, e, hm⟩ := sc_shp s _ _ _ _ _ _ _ hE (by omega) (fun _ => rfl)
  simp only [List.nil_append] at e
  rw [e]
  exact hm
theorem shp_le {N : Nat} : ∀ (l : List Fou) (so : Bool), Shp N so l → ∀ q ∈ l, q.2.1.size ≤ N + 1
  | [], _, _, q, h => by cases h
  | x :: r, so, hs, q, h => by
    rcases hs with ⟨k1, k2, _, hr⟩ | ⟨k1, hw, hr⟩
    · rcases List.mem_cons.1 h with rfl | h
      · rw [k2]; show 1 ≤ _; omega
      · exact shp_le r _ hr q h
    · rcases List.mem_cons.1 h with rfl | h
      · have := hw.le; omega
      · exact shp_le r _ hr q h
theorem pc_le {N : Nat} (q : Fou) (h : q.2.1.size ≤ N + 1) : (pc q).size ≤ N + 12 := by
  unfold pc
  split
  · show 11 ≤ _; omega
  · rw [ByteArray.size_append, ByteArray.size_append]
    show 2 + q.2.1.size + 2 ≤ _
    omega
theorem bls_le {N : Nat} : ∀ (l : List Fou), (∀ q ∈ l, q.2.1.size ≤ N + 1) → (bls l).size ≤ l.length * (N + 12)
  | [], _ => by show 0 ≤ _; omega
  | q :: r, h => by
    have h1 := pc_le q (h q (by simp))
    have h2 := bls_le r (fun x hx => h x (by simp [hx]))
    rw [bls, ByteArray.size_append, List.length_cons, Nat.add_mul]
    omega
end Go.Proofs.YtibhljdiofglfaaDoor
namespace Go.Proofs.YtibhljdiofglfaaDoor
open Go.RowKit
theorem new_at {w : World} {o : Obj} {k : Nat} (h : k = w.heap.size) : (w.alloc o).heap[k]? = some o := by subst h; exact heap_alloc_last w o
theorem old_at {w : World} {o o' : Obj} {k : Nat} (h : w.heap[k]? = some o') : (w.alloc o).heap[k]? = some o' := (Below.heap_alloc w o k (Array.getElem?_eq_some_iff.1 h).1).trans h
theorem cell_at {W : World} {B : Nat} {cs : Array Value} {t : TypeId} {z : Nat × Nat} (h : W.heap[B]? = some (.cells cs t z)) (j : Nat) : W.cell? ⟨B, j, none⟩ = cs[j]? := by simp [World.cell?, h]
theorem thaw_at {W : World} {B : Nat} {cs : Array Value} {t : TypeId} (h : W.heap[B]? = some (.cells cs t (0, 0))) (j : Nat) : W.frozen? ⟨B, j, none⟩ = false := by simp [World.frozen?, h]
theorem lt_at {W : World} {B : Nat} {o : Obj} (h : W.heap[B]? = some o) : B < W.heap.size := (Array.getElem?_eq_some_iff.1 h).1
end Go.Proofs.YtibhljdiofglfaaDoor
