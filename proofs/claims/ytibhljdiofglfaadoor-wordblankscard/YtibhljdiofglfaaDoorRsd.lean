/- Characters of a text that is cut behind one of them: plain mathematics. -/
import Derived.Test.YtibhljdiofglfaaDoorRsa
import Derived.Test.YtibhljdiofglfaaDoorFnd
namespace Go.Proofs.YtibhljdiofglfaaDoor
open Go.RowKit Go.Shelf

set_option maxRecDepth 100000 in
set_option maxHeartbeats 2000000 in
theorem dec_short (N M b0 b1 b2 b3 c1 c2 c3 : Nat) (hle : M ≤ N) (e1 : 1 < M → c1 = b1) (e2 : 2 < M → c2 = b2) (e3 : 3 < M → c3 = b3) (hw : (Lib.decodeN N b0 b1 b2 b3).2 ≤ M) : Lib.decodeN M b0 c1 c2 c3 = Lib.decodeN N b0 b1 b2 b3 := by
  by_cases h1 : 1 < M
  · obtain rfl := e1 h1
    have n1 : 1 < N := by omega
    by_cases h2 : 2 < M
    · obtain rfl := e2 h2
      have n2 : 2 < N := by omega
      by_cases h3 : 3 < M
      · obtain rfl := e3 h3
        have n3 : 3 < N := by omega
        simp only [Lib.decodeN, h1, h2, h3, n1, n2, n3]
      · unfold Lib.decodeN at hw ⊢
        simp only [h1, h2, h3, n1, n2, true_and, false_and, and_false, if_false] at hw ⊢
        repeat' split
        all_goals first | rfl | (simp_all; done) | (simp_all; omega)
    · unfold Lib.decodeN at hw ⊢
      have h3 : ¬ 3 < M := by omega
      simp only [h1, h2, h3, n1, true_and, false_and, and_false, if_false] at hw ⊢
      repeat' split
      all_goals first | rfl | (simp_all; done) | (simp_all; omega)
  · have h2 : ¬ 2 < M := by omega
    have h3 : ¬ 3 < M := by omega
    unfold Lib.decodeN at hw ⊢
    simp only [h1, h2, h3, false_and, and_false, if_false] at hw ⊢
    repeat' split
    all_goals first | rfl | (simp_all; done) | (simp_all; omega)
theorem dec_pre (x : ByteArray) (p q : Nat) (hp : p < x.size) (hq : p + wd x p ≤ q) (hqs : q ≤ x.size) : Utf8.decode (x.extract 0 q) p = Utf8.decode x p := by
  have hsz : (x.extract 0 q).size = q := by simp; omega
  have hw := wd_pos x p
  have hb : ∀ k, k < q → ((x.extract 0 q).get! k).toNat = (x.get! k).toNat := fun k hk => by
    have h := byt_ext x 0 q k (by omega) hk
    rw [Nat.zero_add, Nat.zero_add] at h
    rw [get_byt _ k (by omega), get_byt x k (by omega), h]
  have hwd : (Lib.decodeN (x.size - p) (x.get! p).toNat (x.get! (p + 1)).toNat (x.get! (p + 2)).toNat (x.get! (p + 3)).toNat).2 = wd x p := by rw [← shape]; rfl
  rw [shape, shape, hsz, hb p (by omega)]
  exact dec_short _ _ _ _ _ _ _ _ _ (by omega) (fun h => hb (p + 1) (by omega)) (fun h => hb (p + 2) (by omega)) (fun h => hb (p + 3) (by omega)) (by rw [hwd]; omega)
theorem wd_pre (x : ByteArray) (p q : Nat) (hp : p < x.size) (hq : p + wd x p ≤ q) (hqs : q ≤ x.size) : wd (x.extract 0 q) p = wd x p := by
  unfold wd
  rw [dec_pre x p q hp hq hqs]
theorem chAt_pre {x : ByteArray} {p c : Nat} (h : ChAt x p c) : ∀ q, p ≤ q → q ≤ x.size → ChAt (x.extract 0 q) p c := by
  induction h with
  | zero => exact fun q _ _ => .zero
  | @step p c h hp ih =>
    intro q hq hqs
    have hw := wd_pos x p
    have hsz : (x.extract 0 q).size = q := by simp; omega
    have e := wd_pre x p q hp hq hqs
    have := ChAt.step (ih q (by omega) hqs) (by omega)
    rw [e] at this
    exact this
/-- How many characters lie ahead of one of them. -/
theorem chAt_cnt {x : ByteArray} {p c : Nat} (h : ChAt x p c) : cnt x 0 p = c := by
  have hp := chAt_le h
  have hsz : (x.extract 0 p).size = p := by simp; omega
  have h1 := chAt_count (chAt_pre h p (Nat.le_refl _) hp)
  rw [startsFrom_end _ _ p (by omega)] at h1
  simpa [cnt] using h1.symm
theorem cq_cells4 : ∀ l : List Fou, cells4 l = l.flatMap (fun x => [.int .i64 x.1, .string x.2.1, .int .i64 x.2.2.1, .int .i64 x.2.2.2])
  | [] => rfl
  | (k, t, l, c) :: r => by rw [cells4, cq_cells4 r]; rfl
end Go.Proofs.YtibhljdiofglfaaDoor
