/- Books and the sets and lists beside them; what is taken twice. -/
import Derived.Test.YtddblfffjhoiaaaBkg
import Derived.Test.YtddblfffjhoiaaaBku
namespace Go.Proofs.Ytddblfffjhoiaaa
open Go.RowKit Go.Shelf Go.Lib

theorem Holds4.turn {W V : World} {p g b : Nat} {c : Nat → Nat} {l : List N3} (hs : Holds4 W b c) (h : Bk W p g l) (hg : W.grownBy V (some g)) : Holds4 V b c :=
  (hg.block _ (lt_at hs) (by simpa using (h.ne4 hs).2.symm)).trans hs
theorem filter_all (l : List N3) : l.filter pAll = l := List.filter_eq_self.2 (fun _ _ => rfl)
/-- A list that was made, read. -/
theorem Made.rd {w W : World} {v : Value} {l : List N3} (h : Made w W v l) : ∃ ad cap, v = .slice ad l.length cap ∧ RdN W ad l ∧ (∀ a, ad = some a → w.heap.size ≤ a.block) := by
  unfold Made at h
  rcases own_form h with ⟨rfl, e⟩ | ⟨g, cap, rfl, h1, h2, h3⟩
  · refine ⟨none, 0, by rw [e], fun hn => ?_, fun a ha => by cases ha⟩
    exact absurd (List.eq_nil_of_length_eq_zero e) hn
  · exact ⟨some ⟨g, 0, none⟩, cap, rfl, fun _ => ⟨g, 0, rfl, h2, nts_own h rfl⟩, fun a ha => by obtain rfl := Option.some.inj ha; exact h1⟩
theorem sv_zero : sv 0 = .agg #[.int .u32 0, .int .u32 0, .int .u32 0, .int .u32 0] := by simp [sv, wd_zero]
/-- What is merged twice is merged once. -/
theorem bat_after {l m : List N3} (hb : Bok l) (h : m.all (vlx l.length) = true) : ∀ x ∈ m, bat (mrg l m) x = false := by
  intro x hx
  have hv := List.all_eq_true.1 h x hx
  have hl := mrg_len hb m
  rw [bat_iff (mrg_bok hb m) (by rw [hl]; exact hv), mrg_rk hb h]
  have := fold_upr_mem l.length m (rkl l x.1.toNat) x hx hv
  exact decide_eq_false (by omega)
theorem fold_still1 : ∀ (m : List N3) {l : List N3}, (∀ x ∈ m, bat l x = false) → m.foldl rse l = l
  | [], _, _ => rfl
  | x :: m, l, h => by
    have e : rse l x = l := if_neg (by rw [h x (by simp)]; decide)
    rw [List.foldl_cons, e]
    exact fold_still1 m (fun y hy => h y (by simp [hy]))
theorem still {l m : List N3} (h : ∀ x ∈ m, bat l x = false) : mrs l m = 0 ∧ mrg l m = l := by
  unfold mrs mrg
  rw [fold_still m 0 h, fold_still1 m h]
  constructor <;> split <;> rfl
theorem twice {l : List N3} (hb : Bok l) (m : List N3) : mrs (mrg l m) m = 0 ∧ mrg (mrg l m) m = mrg l m := by
  by_cases h : m.all (vlx l.length) = true
  · exact still (bat_after hb h)
  · have e : mrg l m = l := if_neg h
    rw [e]
    exact ⟨if_neg h, e⟩
theorem own_list {l : List N3} (hb : Bok l) (h1 : 1 ≤ l.length) (h2 : l.length ≤ 100) : l.all (vlx l.length) = true ∧ ∀ x ∈ l, bat l x = false := by
  have hv : ∀ x ∈ l, vlx l.length x = true := by
    intro x hx
    obtain ⟨i, hi⟩ := List.mem_iff_getElem?.1 hx
    obtain ⟨e, hr⟩ := hb i x hi
    have := (List.getElem?_eq_some_iff.1 hi).1
    exact vlx_iff.2 ⟨h1, h2, by omega, by omega, hr⟩
  refine ⟨List.all_eq_true.2 hv, fun x hx => ?_⟩
  rw [bat_iff hb (hv x hx)]
  obtain ⟨i, hi⟩ := List.mem_iff_getElem?.1 hx
  obtain ⟨e, _⟩ := hb i x hi
  rw [show x.1.toNat = i by omega, rkl_some hi]
  exact decide_eq_false (by omega)
theorem fold_tke_still : ∀ (m : List N3) {l : List N3}, (∀ x ∈ m, bat l x = false) → m.foldl tke l = l
  | [], _, _ => rfl
  | x :: m, l, h => by
    have e : tke l x = l := by
      unfold tke
      split
      · exact if_neg (by rw [h x (by simp)]; decide)
      · rfl
    rw [List.foldl_cons, e]
    exact fold_tke_still m (fun y hy => h y (by simp [hy]))
/-- Two books and two sets. -/
structure JT (w : World) (L : List (Nat × Nat × List N3)) (bs bt : Nat) (W : World) : Prop where
  books : Bks w L W
  one : Holds4 W bs (wd 0)
  two : Holds4 W bt (wd 0)
theorem JT.carry {w W V : World} {L : List (Nat × Nat × List N3)} {bs bt : Nat} (h : JT w L bs bt W) (hb : Below W.heap.size W V) : JT w L bs bt V := ⟨h.books.carry hb, h.one.carry hb, h.two.carry hb⟩
theorem JT.turn {w W V : World} {L : List (Nat × Nat × List N3)} {bs bt : Nat} (h : JT w L bs bt W) (i : Nat) {p g : Nat} {l l' : List N3} (hi : L[i]? = some (p, g, l)) (hk : Bk V p g l') (hg : W.grownBy V (some g)) : JT w (L.set i (p, g, l')) bs bt V :=
  ⟨h.books.turn i hi hk hg, h.one.turn (h.books.get i hi) hg, h.two.turn (h.books.get i hi) hg⟩
end Go.Proofs.Ytddblfffjhoiaaa
