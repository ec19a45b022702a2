/- The text: the program's words of it, and the document's. -/
import Derived.Test.YtngjjcmoekeciaaGreatDoorJnJ14
namespace Go.Proofs.YtngjjcmoekeciaaGreatDoor
open Go.RowKit Go.Shelf

theorem line_done (s : ByteArray) (a M n : Nat) (h : a + M ≤ s.size) (hend : a + M = s.size ∨ byt s (a + M) = 10) (hno : ∀ k, k < M → byt s (a + k) ≠ 10) (hpl : plc s a = (n + 1, a)) (F : Nat) (l : List Fou) (hF : s.size + 1 < a + F) :
    ((cutR (s.extract a (a + M))).2.1 = 0 ∧ ∃ G, s.size + 1 < a + M + 1 + G ∧ scD s F a (n + 1) a false l = scD s G (a + M + 1) (n + 1 + 1) (a + M + 1) false (l ++ lineQ (n + 1) (s.extract a (a + M)))) ∨ ((cutR (s.extract a (a + M))).2.1 ≠ 0 ∧ scD s F a (n + 1) a false l = .inr ((cutR (s.extract a (a + M))).2.1, n + 1, (cutR (s.extract a (a + M))).2.2)) := by
  have hsz : (s.extract a (a + M)).size = M := by simp; omega
  obtain ⟨tk, hh⟩ := line_eq s a M (n + 1) h hend hno hpl M 0 0 0 (M + 1) F [] false l (by omega) (Nat.zero_le _) (Nat.le_refl _) .zero (by omega) hF
  have hcr : cutR (s.extract a (a + M)) = cutAt (s.extract a (a + M)) (M + 1) 0 0 0 [] := by rw [cutR, hsz]
  rw [List.nil_append, ← hcr] at hh
  rcases hh with ⟨h1, G, h2, h3⟩ | ⟨e, c, h1, h2, h3⟩
  · left
    obtain ⟨G, rfl⟩ : ∃ G', G = G' + 1 := ⟨G - 1, by omega⟩
    refine ⟨by rw [h1], G, by omega, ?_⟩
    have h3' : scD s F a (n + 1) a false l = _ := h3
    rw [h3', sc_eol s G (a + M) (n + 1) a _ _ (by omega) hend]
    congr 1
    unfold lineQ
    rw [h1]
    cases tk with
    | nil => simp
    | cons t tk =>
      rw [if_pos (by simp), if_neg (by simp), List.append_assoc]
      rfl
  · right
    rw [h1]
    exact ⟨h2, h3⟩
/-- What the document's Scan says of the lines from there on. -/
def TxE (s : ByteArray) (F o n : Nat) (l : List Fou) (L : List ByteArray) : Prop := match badL L with
  | none => scD s F o (n + 1) o false l = .inl (l ++ fours n L)
  | some (i, er, c) => scD s F o (n + 1) o false l = .inr (er, n + i + 1, c)
theorem last_eq (s : ByteArray) (o n F : Nat) (l : List Fou) (ho : o ≤ s.size) (hno : ∀ k, k < s.size - o → byt s (o + k) ≠ 10) (hpl : plc s o = (n + 1, o)) (hF : s.size + 1 < o + F) : TxE s F o n l [s.extract o s.size] := by
  have e : s.extract o s.size = s.extract o (o + (s.size - o)) := by congr 1; omega
  rcases line_done s o (s.size - o) n (by omega) (.inl (by omega)) hno hpl F l hF with ⟨h1, G, h2, h3⟩ | ⟨h1, h3⟩
  · have hb : badL [s.extract o s.size] = none := by rw [badL, badL, e, if_neg (by rw [h1]; simp)]; rfl
    unfold TxE
    rw [hb]
    obtain ⟨G, rfl⟩ : ∃ G', G = G' + 1 := ⟨G - 1, by omega⟩
    dsimp only
    rw [h3, sc_end s G _ _ _ _ _ (by omega), fours, fours, List.append_nil, e]
  · have hb : badL [s.extract o s.size] = some (0, (cutR (s.extract o s.size)).2.1, (cutR (s.extract o s.size)).2.2) := by rw [badL, e, if_pos h1]
    unfold TxE
    rw [hb]
    dsimp only
    rw [h3, ← e]
theorem text_eq (s : ByteArray) : ∀ (f o n F : Nat) (l : List Fou), o ≤ s.size → s.size - o ≤ f → plc s o = (n + 1, o) → s.size + 1 < o + F → TxE s F o n l (linesAux f (s.extract o s.size)) := by
  intro f
  induction f with
  | zero =>
    intro o n F l ho hf hpl hF
    rw [linesAux]
    exact last_eq s o n F l ho (fun k hk => by omega) hpl hF
  | succ f ih =>
    intro o n F l ho hf hpl hF
    have hz : (s.extract o s.size).size = s.size - o := by simp
    by_cases hn : nlAt (s.extract o s.size) < 0
    · rw [lines_last hn]
      refine last_eq s o n F l ho (fun k hk => ?_) hpl hF
      have := nl_none hn k (by omega)
      rwa [byt_extract s o k ho] at this
    · obtain ⟨m, e⟩ := Int.eq_ofNat_of_zero_le (show 0 ≤ nlAt (s.extract o s.size) by omega)
      obtain ⟨b1, b2, b3⟩ := nl_some e
      rw [byt_extract s o m ho] at b1
      have b4 : ∀ k, k < m → byt s (o + k) ≠ 10 := fun k hk => by have := b3 k hk; rwa [byt_extract s o k ho] at this
      have e1 : (s.extract o s.size).extract 0 m = s.extract o (o + m) := by
        rw [ByteArray.extract_extract]
        congr 1
        omega
      have e2 : (s.extract o s.size).extract (m + 1) (s.extract o s.size).size = s.extract (o + m + 1) s.size := by
        rw [ByteArray.extract_extract, hz]
        congr 1 <;> omega
      rw [lines_more e, e1, e2]
      rcases line_done s o m n (by omega) (.inr b1) b4 hpl F l hF with ⟨h1, G, h2, h3⟩ | ⟨h1, h3⟩
      · have hp2 : plc s (o + m + 1) = (n + 1 + 1, o + m + 1) := by rw [plc, if_pos b1, plc_line s o (n + 1) hpl m b4]
        have hi := ih (o + m + 1) (n + 1) G (l ++ lineQ (n + 1) (s.extract o (o + m))) (by omega) (by omega) hp2 (by omega)
        unfold TxE at hi ⊢
        rw [badL, if_neg (by rw [h1]; simp)]
        cases hb : badL (linesAux f (s.extract (o + m + 1) s.size)) with
        | none =>
          rw [hb] at hi
          dsimp only [Option.map] at hi ⊢
          rw [h3, hi, fours, List.append_assoc]
        | some r =>
          obtain ⟨i, er, c⟩ := r
          rw [hb] at hi
          dsimp only [Option.map] at hi ⊢
          rw [h3, hi, show n + 1 + i + 1 = n + (i + 1) + 1 by omega]
      · unfold TxE
        rw [badL, if_pos h1]
        exact h3
/-- The whole text. -/
theorem scan_eq (s : ByteArray) : TxE s (s.size + 2) 0 0 [] (linesOf s) := by
  have h := text_eq s s.size 0 0 (s.size + 2) [] (Nat.zero_le _) (by omega) rfl (by omega)
  have e : s.extract 0 s.size = s := by simp
  rw [e] at h
  exact h
end Go.Proofs.YtngjjcmoekeciaaGreatDoor
