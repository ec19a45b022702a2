/- Absorbing: mathematics. -/
import Derived.Test.YtddblfffjhoiaaaSpj
namespace Go.Proofs.Ytddblfffjhoiaaa
open Go.RowKit Go.Shelf Go.Lib

theorem all_filter {m : List N3} {n : Nat} (p : N3 → Bool) (h : m.all (vlx n) = true) : (m.filter p).all (vlx n) = true := by
  rw [List.all_eq_true] at h ⊢
  intro x hx
  exact h x (List.mem_filter.1 hx).1
theorem mrg_tke {l m : List N3} (h : m.all (vlx l.length) = true) : mrg l m = m.foldl tke l := by
  unfold mrg
  rw [if_pos h, fold_rse m h]
theorem mrg_nil (l : List N3) : mrg l [] = l := by simp [mrg]
theorem abs_comm {l : List N3} (hb : Bok l) (s : Int) (a b : List N3) : abs (abs l s a) s b = abs (abs l s b) s a := by
  unfold abs
  by_cases ha : a.all (vlx l.length) = true
  · by_cases hb' : b.all (vlx l.length) = true
    · have fa := all_filter (nm s) ha
      have fb := all_filter (nm s) hb'
      rw [if_pos ha, if_pos hb', mrg_len hb, mrg_len hb, if_pos ha, if_pos hb']
      rw [mrg_tke (l := mrg l (a.filter (nm s))) (by rw [mrg_len hb]; exact fb), mrg_tke (l := mrg l (b.filter (nm s))) (by rw [mrg_len hb]; exact fa), mrg_tke fa, mrg_tke fb, ← List.foldl_append, ← List.foldl_append]
      exact fold_perm List.perm_append_comm hb
    · rw [if_pos ha, if_neg hb', mrg_len hb, if_neg hb', if_pos ha]
  · by_cases hb' : b.all (vlx l.length) = true
    · rw [if_neg ha, if_pos hb', mrg_len hb, if_neg ha]
    · rw [if_neg ha, if_neg hb', if_neg ha]
theorem abs_twice {l : List N3} (hb : Bok l) (s : Int) (a : List N3) : abs (abs l s a) s a = abs l s a := by
  unfold abs
  by_cases ha : a.all (vlx l.length) = true
  · rw [if_pos ha, mrg_len hb, if_pos ha, (twice hb _).2]
  · rw [if_neg ha, if_neg ha]
theorem abs_four {l : List N3} (hb : Bok l) (s : Int) (a b : List N3) : abs (abs (abs (abs l s a) s b) s a) s b = abs (abs l s a) s b := by
  rw [abs_comm (l := abs l s a) (abs_bok hb s a) s b a, abs_twice hb, abs_twice (abs_bok hb s a)]
theorem absorb_some {w : World} {p g : Nat} {l : List N3} (h : Bk w p g l) (self : Int) (ad : Option Addr) (cap : Nat) (m : List N3) (hm : RdN w ad m) (hl : m.length ≤ 1000000) : Calls Try.prog 13 #[.pointer (some ⟨p, 0, none⟩), .int .i64 self, .slice ad m.length cap] w fun e w' => (∃ (N : Nat) (E : Int), e = .returned (.tuple #[.agg #[.int .u32 (wd N 0 : Nat), .int .u32 (wd N 1 : Nat), .int .u32 (wd N 2 : Nat), .int .u32 (wd N 3 : Nat)], .int .i64 E])) ∧ Bk w' p g (abs l self m) ∧ w.grownBy w' (some g) :=
  (absorb_any h self ad cap m hm hl).mono fun _ _ hq => ⟨⟨_, _, hq.1⟩, hq.2⟩
theorem made0_any (w : World) (N s : Nat) (h0 : 1 ≤ N) (h1 : N ≤ 100) (hs : s < N) : Calls Try.prog 9 #[.int .i64 (N : Int), .int .i64 (s : Int), .slice none 0 0] w fun e w' => ∃ p g, e = .returned (.pointer (some ⟨p, 0, none⟩)) ∧ w.heap.size ≤ p ∧ w.heap.size ≤ g ∧ Bk w' p g (bk0 N s 0) ∧ Below w.heap.size w w' := by
  have := made_any (w := w) N s h0 h1 hs none 0 [] (fun e => absurd rfl e) (by simp)
  rw [mrg_nil] at this
  exact this
/-- What lies in a book behind a merge is what lay there, or one of the list. -/
theorem fold_rse_mem : ∀ (m l : List N3) (i : Nat) (y : N3), (m.foldl rse l)[i]? = some y → l[i]? = some y ∨ y ∈ m
  | [], l, i, y, h => .inl h
  | x :: m, l, i, y, h => by
    rcases fold_rse_mem m (rse l x) i y h with h1 | h1
    · unfold rse at h1
      split at h1
      · rw [List.getElem?_set] at h1
        split at h1
        · split at h1
          · cases h1; exact .inr (by simp)
          · cases h1
        · exact .inl h1
      · exact .inl h1
    · exact .inr (List.mem_cons_of_mem _ h1)
end Go.Proofs.Ytddblfffjhoiaaa
