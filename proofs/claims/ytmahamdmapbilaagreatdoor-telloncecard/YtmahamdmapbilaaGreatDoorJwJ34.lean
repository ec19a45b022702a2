import Derived.Test.YtmahamdmapbilaaGreatDoorJwJ33
import Derived.Test.YtmahamdmapbilaaGreatDoorJwJ32
import Derived.Test.YtmahamdmapbilaaGreatDoorJwJ16
set_option maxHeartbeats 40000000
set_option maxRecDepth 100000
set_option linter.unusedVariables false
namespace Go.Proofs.YtmahamdmapbilaaGreatDoor
open Go.RowKit Go.Shelf
def frr (ln : Nat) (t : Tok) : Fou := (t.1, t.2.1, (ln : Int), (t.2.2 : Int))
theorem cnt_ch {s : ByteArray} {a M p c : Nat} (h : ChAt (s.extract a (a + M)) p c) (hp : p ≤ M) : cntQ s a (a + p) = c := by
 have h1 := chAt_cnt h
 unfold cntQ at h1 ⊢
 rw [ext_ext s a M 0 p hp, Nat.add_zero] at h1
 exact h1
theorem line_eq (s : ByteArray) (a M ln : Nat) (h : a + M ≤ s.size) (hend : a + M = s.size ∨ byt s (a + M) = 10) (hno : ∀ k, k < M → byt s (a + k) ≠ 10) (hpl : plc s a = (ln, a)) : ∀ (n p nx col f F : Nat) (acc : List Tok) (so : Bool) (l : List Fou), M - p ≤ n → p ≤ M → nx ≤ p → ChAt (s.extract a (a + M)) p col → M < p + f → s.size + 1 < a + p + F →
  ∃ tk : List Tok, (cutAt (s.extract a (a + M)) f p nx col acc = (acc ++ tk, 0, 0) ∧ ∃ G, s.size + 1 < a + M + G ∧ scD s F (a + p) ln a so l = scD s G (a + M) ln a (so || decide (tk ≠ [])) (l ++ tk.map (frr ln))) ∨ (∃ e c, cutAt (s.extract a (a + M)) f p nx col acc = (acc ++ tk, e, c) ∧ e ≠ 0 ∧ scD s F (a + p) ln a so l = .inr (e, ln, c)) := by
 intro n
 induction n with
 | zero =>
  intro p nx col f F acc so l hn hp hx hc hf hF
  obtain ⟨f, rfl⟩ : ∃ f', f = f' + 1 := ⟨f - 1, by omega⟩
  have hsz : (s.extract a (a + M)).size = M := by simp; omega
  obtain rfl : p = M := by omega
  exact ⟨[], .inl ⟨by rw [cut_end _ f p nx col acc (by omega)]; simp, F, hF, by simp⟩⟩
 | succ n ih =>
  intro p nx col f F acc so l hn hp hx hc hf hF
  have hsz : (s.extract a (a + M)).size = M := by simp; omega
  obtain ⟨f, rfl⟩ : ∃ f', f = f' + 1 := ⟨f - 1, by omega⟩
  by_cases hpM : p < M
  case neg =>
   obtain rfl : p = M := by omega
   exact ⟨[], .inl ⟨by rw [cut_end _ f p nx col acc (by omega)]; simp, F, hF, by simp⟩⟩
  obtain ⟨F, rfl⟩ : ∃ F', F = F' + 1 := ⟨F - 1, by omega⟩
  have hst := step_eq s a M p h hpM hend (hno p hpM)
  have hb := byt_ext s a M p h hpM
  have hend' : a + M = s.size ∨ byt s (a + M) < 128 := by omega
  have hbm : a + p + (M - p) = a + M := by omega
  have hL : ∀ q, a ≤ q → q ≤ a + M → LEnd s q (a + M) := fun q h1 h2 => ⟨h2, h, fun j j1 j2 => by have := hno (j - a) (by omega); rw [show a + (j - a) = j by omega] at this; exact this, hend⟩
  have hE1 : LE s (a + p + 1) = a + p + (M - p) := by rw [hbm]; exact (le_end s (a + p + 1) (by omega)).uniq (hL _ (by omega) (by omega))
  rw [cut_step _ f p nx col acc (by omega) (by omega)]
  cases hs : stepR (s.extract a (a + M)) p with
  | gap =>
   rw [hs] at hst
   have hg : byt s (a + p) = 9 ∨ byt s (a + p) = 13 ∨ byt s (a + p) = 32 := hst
   have hw := (rn_asc (s.extract a (a + M)) p (by omega) (by omega)).2
   have hc2 := hc.step (by omega)
   rw [hw] at hc2
   dsimp only
   rw [hw, sc_gap s F (a + p) ln a so l (by omega) hg]
   exact ih (p + 1) nx (col + 1) f F acc so l (by omega) (by omega) (by omega) hc2 (by omega) (by omega)
  | stop =>
   rw [hs] at hst
   have h35 : byt s (a + p) = 35 := hst
   refine ⟨[], .inl ⟨by simp, F, by omega, ?_⟩⟩
   rw [sc_rem s F (a + p) ln a so l (by omega) h35, (le_end s (a + p) (by omega)).uniq (hL _ (by omega) (by omega))]
   simp
  | bad e off =>
   rw [hs] at hst
   obtain ⟨ng, n35, he, hne, r, c, hr1, hr2, hoff, hch⟩ := hst
   refine ⟨[], .inr ⟨e, col + 1 + off, by simp, hne, ?_⟩⟩
   rw [sc_err s F (a + p) ln a so l (by omega) (hno p hpM) ng n35 (by rw [hE1, he]; exact hne), hE1, he, hr1]
   have hadd := chAt_add h hend' hp hc hch
   have hcn := cnt_ch hadd (by omega)
   have hof := cnt_ch hch hr2
   have hp2 := plc_line s a ln hpl (p + r) (fun k hk => hno k (by omega))
   rw [← Nat.add_assoc] at hcn hp2
   rw [hp2]
   dsimp only
   rw [hcn, hoff, hof]
   rw [show col + c + 1 = col + 1 + c by omega]
  | word k sz =>
   rw [hs] at hst
   obtain ⟨ng, n35, hk, h21, h22, hszm, c, hch⟩ := hst
   have hadd := chAt_add h hend' hp hc hch
   have hbd := nx_bounds s (a + p) (a + p + (M - p)) (by omega) (by rw [hbm]; exact hL _ (by omega) (by omega)) h22
   have hlt := chAt_lt2 hc hadd (by omega)
   have hw := wdt_pos (s.extract a (a + M)) p
   have hcn := cnt_ch hc hp
   have hxe : (s.extract a (a + M)).extract p (p + sz) = s.extract (a + p) (a + p + sz) := (ext_ext s a M p _ (by omega)).trans (congrArg (fun z => s.extract (a + p) z) (by omega))
   dsimp only
   rw [sc_word s F (a + p) ln a so l (by omega) (hno p hpM) ng n35 (by rw [hE1]; exact h22), hE1, h21, hk, hcn, hxe]
   obtain ⟨g, hg, eg⟩ := cut_to (s.extract a (a + M)) (p + sz) (col + c) (acc ++ [(k, s.extract (a + p) (a + p + sz), col + 1)]) hadd f (p + wdt (s.extract a (a + M)) p) (col + 1) (hc.step (by omega)) hlt.2 (by omega)
   rw [eg, Nat.add_assoc a p sz]
   obtain ⟨tk, hh⟩ := ih (p + sz) (p + sz) (col + c) g F (acc ++ [(k, s.extract (a + p) (a + (p + sz)), col + 1)]) true (l ++ [(k, s.extract (a + p) (a + (p + sz)), (ln : Int), ((col + 1 : Nat) : Int))]) (by omega) (by omega) (Nat.le_refl _) hadd (by omega) (by omega)
   refine ⟨(k, s.extract (a + p) (a + (p + sz)), col + 1) :: tk, ?_⟩
   rcases hh with ⟨h1, G, h2, h3⟩ | ⟨e, c', h1, h2, h3⟩
   · exact .inl ⟨by rw [h1]; simp, G, h2, by rw [h3]; simp [frr]⟩
   · exact .inr ⟨e, c', by rw [h1]; simp, h2, h3⟩
theorem line_done (s : ByteArray) (a M n : Nat) (h : a + M ≤ s.size) (hend : a + M = s.size ∨ byt s (a + M) = 10) (hno : ∀ k, k < M → byt s (a + k) ≠ 10) (hpl : plc s a = (n + 1, a)) (F : Nat) (l : List Fou) (hF : s.size + 1 < a + F) :
   ((cutR (s.extract a (a + M))).2.1 = 0 ∧ ∃ G, s.size + 1 < a + M + 1 + G ∧ scD s F a (n + 1) a false l = scD s G (a + M + 1) (n + 1 + 1) (a + M + 1) false (l ++ lineQ (n + 1) (s.extract a (a + M)))) ∨ ((cutR (s.extract a (a + M))).2.1 ≠ 0 ∧ scD s F a (n + 1) a false l = .inr ((cutR (s.extract a (a + M))).2.1, n + 1, (cutR (s.extract a (a + M))).2.2)) := by
 have hsz : (s.extract a (a + M)).size = M := by simp; omega
 obtain ⟨tk, hh⟩ := line_eq s a M (n + 1) h hend hno hpl M 0 0 0 (M + 1) F [] false l (by omega) (Nat.zero_le _) (Nat.le_refl _) .zero (by omega) hF
 have hcr : cutR (s.extract a (a + M)) = cutAt (s.extract a (a + M)) (M + 1) 0 0 0 [] := by rw [cutR, hsz]
 rw [List.nil_append, ← hcr] at hh
 rcases hh with ⟨h1, G, h2, h3⟩ | ⟨e, c, h1, h2, h3⟩
 · left
   obtain ⟨G, rfl⟩ : ∃ G', G = G' + 1 := ⟨G - 1, by omega⟩
   refine ⟨by rw [h1], G, by omega, ?_⟩
   have h3' : scD s F a (n + 1) a false l = _ := h3
   rw [h3', sc_eol s G (a + M) (n + 1) a _ _ (by omega) hend]
   congr 1
   unfold lineQ
   rw [h1]
   cases tk with
   | nil => simp
   | cons t tk =>
    rw [if_pos (by simp), if_neg (by simp), List.append_assoc]
    rfl
 · right
   rw [h1]
   exact ⟨h2, h3⟩
def TxE (s : ByteArray) (F o n : Nat) (l : List Fou) (L : List ByteArray) : Prop := match badL L with
 | none => scD s F o (n + 1) o false l = .inl (l ++ fours n L)
 | some (i, er, c) => scD s F o (n + 1) o false l = .inr (er, n + i + 1, c)
theorem last_eq (s : ByteArray) (o n F : Nat) (l : List Fou) (ho : o ≤ s.size) (hno : ∀ k, k < s.size - o → byt s (o + k) ≠ 10) (hpl : plc s o = (n + 1, o)) (hF : s.size + 1 < o + F) : TxE s F o n l [s.extract o s.size] := by
 have e : s.extract o s.size = s.extract o (o + (s.size - o)) := by congr 1; omega
 rcases line_done s o (s.size - o) n (by omega) (.inl (by omega)) hno hpl F l hF with ⟨h1, G, h2, h3⟩ | ⟨h1, h3⟩
 · have hb : badL [s.extract o s.size] = none := by rw [badL, badL, e, if_neg (by rw [h1]; simp)]; rfl
   unfold TxE
   rw [hb]
   obtain ⟨G, rfl⟩ : ∃ G', G = G' + 1 := ⟨G - 1, by omega⟩
   dsimp only
   rw [h3, sc_end s G _ _ _ _ _ (by omega), fours, fours, List.append_nil, e]
 · have hb : badL [s.extract o s.size] = some (0, (cutR (s.extract o s.size)).2.1, (cutR (s.extract o s.size)).2.2) := by rw [badL, e, if_pos h1]
   unfold TxE
   rw [hb]
   dsimp only
   rw [h3, ← e]
theorem text_eq (s : ByteArray) : ∀ (f o n F : Nat) (l : List Fou), o ≤ s.size → s.size - o ≤ f → plc s o = (n + 1, o) → s.size + 1 < o + F → TxE s F o n l (linesAux f (s.extract o s.size)) := by
 intro f
 induction f with
 | zero =>
  intro o n F l ho hf hpl hF
  rw [linesAux]
  exact last_eq s o n F l ho (fun k hk => by omega) hpl hF
 | succ f ih =>
  intro o n F l ho hf hpl hF
  have hz : (s.extract o s.size).size = s.size - o := by simp
  by_cases hn : nlAt (s.extract o s.size) < 0
  · rw [lines_last hn]
    refine last_eq s o n F l ho (fun k hk => ?_) hpl hF
    have := nl_none hn k (by omega)
    rwa [byt_extract s o k ho] at this
  · obtain ⟨m, e⟩ := Int.eq_ofNat_of_zero_le (show 0 ≤ nlAt (s.extract o s.size) by omega)
    obtain ⟨b1, b2, b3⟩ := nl_some e
    rw [byt_extract s o m ho] at b1
    have b4 : ∀ k, k < m → byt s (o + k) ≠ 10 := fun k hk => by have := b3 k hk; rwa [byt_extract s o k ho] at this
    have e1 : (s.extract o s.size).extract 0 m = s.extract o (o + m) := by
      rw [ByteArray.extract_extract]
      congr 1
      omega
    have e2 : (s.extract o s.size).extract (m + 1) (s.extract o s.size).size = s.extract (o + m + 1) s.size := by
      rw [ByteArray.extract_extract, hz]
      congr 1 <;> omega
    rw [lines_more e, e1, e2]
    rcases line_done s o m n (by omega) (.inr b1) b4 hpl F l hF with ⟨h1, G, h2, h3⟩ | ⟨h1, h3⟩
    · have hp2 : plc s (o + m + 1) = (n + 1 + 1, o + m + 1) := by rw [plc, if_pos b1, plc_line s o (n + 1) hpl m b4]
      have hi := ih (o + m + 1) (n + 1) G (l ++ lineQ (n + 1) (s.extract o (o + m))) (by omega) (by omega) hp2 (by omega)
      unfold TxE at hi ⊢
      rw [badL, if_neg (by rw [h1]; simp)]
      cases hb : badL (linesAux f (s.extract (o + m + 1) s.size)) with
      | none =>
       rw [hb] at hi
       dsimp only [Option.map] at hi ⊢
       rw [h3, hi, fours, List.append_assoc]
      | some r =>
       obtain ⟨i, er, c⟩ := r
       rw [hb] at hi
       dsimp only [Option.map] at hi ⊢
       rw [h3, hi, show n + 1 + i + 1 = n + (i + 1) + 1 by omega]
    · unfold TxE
      rw [badL, if_pos h1]
      exact h3
theorem scan_eq (s : ByteArray) : TxE s (s.size + 2) 0 0 [] (linesOf s) := by
 have h := text_eq s s.size 0 0 (s.size + 2) [] (Nat.zero_le _) (by omega) rfl (by omega)
 have e : s.extract 0 s.size = s := by simp
 rw [e] at h
 exact h
structure Wrd (N : Nat) (k : Int) (x : ByteArray) : Prop where
 some : 0 < x.size
 le : x.size ≤ N
 there : ∀ (t : ByteArray) (j : Nat), j + x.size < t.size → t.extract j (j + x.size) = x → Sep (byt t (j + x.size)) → (byt t j ≠ 10 ∧ ¬ (byt t j = 9 ∨ byt t j = 13 ∨ byt t j = 32) ∧ byt t j ≠ 35) ∧ ((nxD t j (LE t (j + 1))).1 : Int) = k ∧ (nxD t j (LE t (j + 1))).2.1 = j + x.size ∧ (nxD t j (LE t (j + 1))).2.2 = 0
def Shp (N : Nat) : Bool → List Fou → Prop
 | so, [] => so = false
 | so, q :: r => (q.1 = 1 ∧ q.2.1 = ⟨#[10]⟩ ∧ so = true ∧ Shp N false r) ∨ (q.1 ≠ 1 ∧ Wrd N q.1 q.2.1 ∧ Shp N true r)
theorem nx_kind (s : ByteArray) (i E : Nat) (_ : (nxD s i E).2.2 = 0) : (nxD s i E).1 ≠ 1 := by
 unfold nxD
 split
 · dsimp only; omega
 split
 · split <;> (dsimp only; omega)
 split
 · split <;> (dsimp only; omega)
 split <;> (dsimp only; omega)
theorem sc_shp (s : ByteArray) : ∀ (f i ln fr : Nat) (so : Bool) (l r : List Fou), scD s f i ln fr so l = .inl r → s.size + 1 < i + f → (s.size < i → so = false) → ∃ m, r = l ++ m ∧ Shp s.size so m
 | 0, i, ln, fr, so, l, r, h, hf, hso => by
  rw [scD] at h
  cases h
  exact ⟨[], by simp, hso (by omega)⟩
 | f + 1, i, ln, fr, so, l, r, h, hf, hso => by
  by_cases h0 : s.size < i
  · rw [sc_end s f i ln fr so l h0] at h
    cases h
    exact ⟨[], by simp, hso h0⟩
  by_cases h1 : i = s.size ∨ byt s i = 10
  · rw [sc_eol s f i ln fr so l h0 h1] at h
    obtain ⟨m, e, hm⟩ := sc_shp s f (i + 1) (ln + 1) (i + 1) false _ r h (by omega) (fun _ => rfl)
    cases so with
    | false => exact ⟨m, by rw [e, if_neg (by simp)], hm⟩
    | true => exact ⟨(1, ⟨#[10]⟩, (ln : Int), ((cntQ s fr i + 1 : Nat) : Int)) :: m, by rw [e, if_pos rfl, List.append_assoc]; rfl, .inl ⟨rfl, rfl, rfl, hm⟩⟩
  have hi : i < s.size := by omega
  have h1' : byt s i ≠ 10 := fun e => h1 (.inr e)
  by_cases h2 : byt s i = 9 ∨ byt s i = 13 ∨ byt s i = 32
  · rw [sc_gap s f i ln fr so l hi h2] at h
    exact sc_shp s f (i + 1) ln fr so l r h (by omega) (fun q => by omega)
  by_cases h3 : byt s i = 35
  · rw [sc_rem s f i ln fr so l hi h3] at h
    obtain ⟨a, b, c, d⟩ := le_end s i (by omega)
    have : i < LE s i := by
     rcases Nat.lt_or_ge i (LE s i) with q | q
     · exact q
     · exfalso
       have e : LE s i = i := by omega
       rw [e] at d
       rcases d with d | d <;> omega
    exact sc_shp s f (LE s i) ln fr so l r h (by omega) (fun q => by omega)
  by_cases h4 : (nxD s i (LE s (i + 1))).2.2 = 0
  · rw [sc_word s f i ln fr so l hi h1' h2 h3 h4] at h
    have hE := le_end s (i + 1) (by omega)
    obtain ⟨b1, b2⟩ := nx_bounds s i _ hi hE h4
    obtain ⟨n, hn⟩ : ∃ n, (nxD s i (LE s (i + 1))).2.1 = i + n := ⟨(nxD s i (LE s (i + 1))).2.1 - i, by omega⟩
    have hk := nx_kind s i _ h4
    rw [hn] at h b1 b2
    obtain ⟨m, e, hm⟩ := sc_shp s f (i + n) ln fr true _ r h (by omega) (fun q => by omega)
    have hsz : (s.extract i (i + n)).size = n := by simp; omega
    refine ⟨_ :: m, by rw [e, List.append_assoc]; rfl, .inr ⟨by dsimp only; omega, ⟨by dsimp only; omega, by dsimp only; omega, ?_⟩, hm⟩⟩
    dsimp only
    rw [hsz]
    intro t j ht he hb
    have hL : Loc s i t j n := ⟨b2, by omega, .inr (sep_cls hb).1, he.symm⟩
    have hE' := le_end t (j + 1) (by omega)
    have hx := nx_loc s i _ hi hE h4 n hn t j _ hL hb hE' ht
    have hb0 := hL.byt 0 (by omega)
    rw [Nat.add_zero, Nat.add_zero] at hb0
    rw [hx, hb0]
    exact ⟨⟨h1', h2, h3⟩, rfl, rfl, rfl⟩
  · rw [sc_err s f i ln fr so l hi h1' h2 h3 h4] at h
    cases h
theorem rest_app (t x y : ByteArray) (p : Nat) (hp : p ≤ t.size) (h : t.extract p t.size = x ++ y) : p + x.size ≤ t.size ∧ (∀ k, k < x.size → byt t (p + k) = byt x k) ∧ t.extract (p + x.size) t.size = y ∧ t.extract p (p + x.size) = x := by
 have hsz : (t.extract p t.size).size = t.size - p := by simp
 rw [h, ByteArray.size_append] at hsz
 refine ⟨by omega, fun k hk => ?_, ?_, ?_⟩
 · rw [← byt_extract t p k hp, h, byt_get (s := x ++ y) (by rw [ByteArray.size_append]; omega), byt_get hk]
   congr 1
   exact ByteArray.getElem_append_left hk
 · have e : (x ++ y).extract x.size (x.size + y.size) = y := ByteArray.extract_append_eq_right rfl rfl
   rw [← h, ByteArray.extract_extract] at e
   rw [← e]
   congr 1
   omega
 · have e : (x ++ y).extract 0 x.size = x := ByteArray.extract_append_eq_left rfl
   rw [← h, ByteArray.extract_extract] at e
   conv => rhs; rw [← e]
   congr 1
   omega
theorem le_is (t : ByteArray) (p E : Nat) (h : LEnd t p E) (hp : p ≤ t.size) : LE t p = E := (le_end t p hp).uniq h
end Go.Proofs.YtmahamdmapbilaaGreatDoor
namespace Go.Proofs.YtmahamdmapbilaaGreatDoor
open Go.RowKit Go.Shelf Go.Lib
theorem numAt_leT (s : ByteArray) : ∀ (f p v u : Nat), v ≤ 1099511627776 → numAt s f p v = some u → u ≤ 1099511627776
 | 0, p, v, u, hv, h => by
  by_cases hp : p < s.size
  · unfold numAt at h
    simp at h
    omega
  · rw [numAt_end s 0 p v hp] at h
    cases h
    exact hv
 | f + 1, p, v, u, hv, h => by
  by_cases hp : p < s.size
  · by_cases hd : 48 ≤ byt s p ∧ byt s p ≤ 57
    · by_cases hg : 1099511627776 < v * 10 + (byt s p - 48)
      · rw [numAt_great s f p v hp hd hg] at h
        cases h
      · rw [numAt_on s f p v hp hd hg] at h
        exact numAt_leT s f _ _ u (by omega) h
    · rw [numAt_no s f p v hp hd] at h
      cases h
  · rw [numAt_end s (f + 1) p v hp] at h
    cases h
    exact hv
theorem numR_leT {s : ByteArray} {u : Nat} (h : numR s = some u) : u ≤ 1099511627776 := by
 unfold numR at h
 split at h
 · cases h
 · exact numAt_leT s _ _ _ u (by decide) h
theorem numR_size {s : ByteArray} {u : Nat} (h : numR s = some u) : 0 < s.size ∧ s.size ≤ 20 := by
 have hu := numR_leT h
 have h1 := num_canon h
 have h2 : s.size = (decDigits u).length := by rw [← h1]; rfl
 have h3 := decDigits_length u
 have h4 := nDigits_le20 u (by omega)
 have h5 := nDigits_pos u
 omega
structure WdsT (l : List Tk4) : Prop where
 kn : Wk4 l
 sz : Shw6 l
 num : ∀ i, (hereT l i).1 = 3 → ∃ v, numR (hereT l i).2.1 = some v
 fst : ∀ i, kdW (hereT l i).2.1 ≠ 0 → (hereT l i).1 = 2
 sgn : ∀ i, oneS (hereT l i) = true → looseB (hereT l i).2.1 0 = false
theorem one_wdt {x : ByteArray} (h : ((starts x).length : Int) = 1) : wdt x 0 = x.size := by
 have hp := pos_of_one h
 have hle := wdt_le x 0 hp
 obtain ⟨f, hf⟩ : ∃ f, x.size = f + 1 := ⟨x.size - 1, by omega⟩
 unfold starts at h
 rw [hf, startsFrom_step x f 0 hp, List.length_cons, Nat.zero_add] at h
 rcases Nat.lt_or_ge (wdt x 0) x.size with q | q
 · exfalso
   have hw := wdt_pos x 0
   obtain ⟨g, rfl⟩ : ∃ g, f = g + 1 := ⟨f - 1, by omega⟩
   rw [startsFrom_step x g _ q, List.length_cons] at h
   omega
 · omega
theorem rdP_nt {L : List Int} (hS : Signs L) {x y z : ByteArray} {c u : Nat} (hx : ((starts x).length : Int) = 1) (hlo : looseB x 0 = false) (hin : ((rn x 0 : Nat) : Int) ∈ L) (hy : y = ⟨#[UInt8.ofNat c]⟩) (hc : c = 63 ∨ c = 33) (hz : numR z = some u) : rdP L (x ++ y ++ z) = if 1048576 < u then (0, 0, 0, 80) else (((L.idxOf ((rn x 0 : Nat) : Int) : Nat) : Int), (u : Int), if c = 63 then 2 else 1, 0) := by
 have hp := pos_of_one hx
 have hw := one_wdt hx
 have hw4 := wdt_le4 x 0
 obtain ⟨z0, z1⟩ := numR_size hz
 rw [rd_eq hS]
 obtain ⟨s, hs⟩ : ∃ s, x ++ y ++ z = s := ⟨_, rfl⟩
 have hs2 : s = x ++ (y ++ z) := by rw [← hs, ByteArray.append_assoc]
 have hys : y.size = 1 := by rw [hy]; rfl
 have hss : s.size = x.size + 1 + z.size := by rw [← hs, ByteArray.size_append, ByteArray.size_append, hys]
 have hfull : s.extract 0 s.size = s := by
  apply ByteArray.ext
  simp
 obtain ⟨a1, a2, a3, a4⟩ := rest_app s x (y ++ z) 0 (Nat.zero_le _) (by rw [hfull]; exact hs2)
 rw [Nat.zero_add] at a1 a3 a4
 obtain ⟨b1, b2, b3, b4⟩ := rest_app s y z x.size (by omega) a3
 have hb := b2 0 (by omega)
 rw [Nat.add_zero] at hb
 have hyb : byt y 0 = c := by
  rw [hy]
  rcases hc with rfl | rfl <;> rfl
 rw [hyb] at hb
 rw [hys] at b3
 have hdl := dec_line s 0 x.size 0 (by omega) hp (.inr (by rw [Nat.zero_add, hb]; rcases hc with rfl | rfl <;> decide))
 rw [Nat.zero_add, a4, Nat.add_zero] at hdl
 have e1 : rn s 0 = rn x 0 := by unfold rn; rw [hdl]
 have e2 : wdt s 0 = wdt x 0 := by unfold wdt; rw [hdl]
 have e3 : looseB s 0 = looseB x 0 := by unfold looseB; rw [e1, e2]
 rw [hs, rdD, if_neg (by omega), if_neg (by
  rw [e1, e2, e3, hlo, hw]
  rintro (q | q | q | q | ⟨q, q2⟩)
  · omega
  · cases q
  · exact q hin
  · omega
  · rcases hc with rfl | rfl <;> omega), e2, hw, b3, hz, e1, hb]
theorem mkD_text {y : Tk4} {b : UInt8} (h : mkD y ⟨#[b]⟩ = true) : y.2.1 = ⟨#[b]⟩ := by
 unfold mkD at h
 rw [Bool.and_eq_true] at h
 have h2 : y.2.1.toList = (⟨#[b]⟩ : ByteArray).toList := by simpa using h.2
 have e : ∀ a : ByteArray, a.toList = a.data.toList := fun a => by simp [ByteArray.toList_eq]
 exact ByteArray.ext (Array.ext' (by rw [← e, h2, e]))
end Go.Proofs.YtmahamdmapbilaaGreatDoor
