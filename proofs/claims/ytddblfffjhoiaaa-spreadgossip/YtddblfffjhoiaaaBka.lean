/- Books: the plain mathematics of lists of notices, one for each node. -/
import Derived.Test.YtddblfffjhoiaaaNtd
namespace Go.Proofs.Ytddblfffjhoiaaa
abbrev N3 := Int × Int × Int
def rkx (x : N3) : Int := rk x.2.1 x.2.2
/-- A book's list: of each node a notice that has a rank. -/
def Bok (l : List N3) : Prop := ∀ (i : Nat) (x : N3), l[i]? = some x → x.1 = (i : Int) ∧ rkx x ≠ -1
def rkl (l : List N3) (i : Nat) : Int := match l[i]? with | some x => rkx x | none => -1
theorem rkl_some {l : List N3} {i : Nat} {x : N3} (h : l[i]? = some x) : rkl l i = rkx x := by simp [rkl, h]
theorem bok_ext {a b : List N3} (ha : Bok a) (hb : Bok b) (hl : a.length = b.length) (h : ∀ i, i < a.length → rkl a i = rkl b i) : a = b := by
  apply List.ext_getElem?
  intro i
  by_cases hi : i < a.length
  · obtain ⟨x, hx⟩ : ∃ x, a[i]? = some x := ⟨_, List.getElem?_eq_getElem hi⟩
    obtain ⟨y, hy⟩ : ∃ y, b[i]? = some y := ⟨_, List.getElem?_eq_getElem (by omega)⟩
    have hh := h i hi
    rw [rkl_some hx, rkl_some hy] at hh
    obtain ⟨x0, x1⟩ := ha i x hx
    obtain ⟨y0, y1⟩ := hb i y hy
    have := rk_inj hh x1
    rw [hx, hy]
    exact congrArg some (Prod.ext (x0.trans y0.symm) (Prod.ext this.1 this.2))
  · rw [List.getElem?_eq_none (by omega), List.getElem?_eq_none (by omega)]
/-- The fresh ones; a new book. -/
def frs (n : Nat) : List N3 := (List.range n).map fun (i : Nat) => ((i : Int), 0, 1)
def bk0 (n s : Nat) (tag : Int) : List N3 := (frs n).set s ((s : Int), tag, 1)
theorem frs_len (n : Nat) : (frs n).length = n := by simp [frs]
theorem frs_get {n i : Nat} (h : i < n) : (frs n)[i]? = some ((i : Int), 0, 1) := by simp [frs, h]
theorem bk0_len (n s : Nat) (tag : Int) : (bk0 n s tag).length = n := by simp [bk0, frs_len]
theorem bk0_get {n s i : Nat} (tag : Int) (h : i < n) : (bk0 n s tag)[i]? = some (if i = s then ((s : Int), tag, 1) else ((i : Int), 0, 1)) := by
  unfold bk0
  rw [List.getElem?_set, frs_len, frs_get h]
  by_cases e : s = i
  · subst e; simp [h]
  · rw [if_neg e, if_neg (fun q => e q.symm)]
theorem bk0_bok {n s : Nat} {tag : Int} (h0 : 0 ≤ tag) (h1 : tag ≤ 1048576) : Bok (bk0 n s tag) := by
  intro i x hx
  have hi : i < n := by have := (List.getElem?_eq_some_iff.1 hx).1; rwa [bk0_len] at this
  rw [bk0_get tag hi] at hx
  obtain rfl := Option.some.inj hx
  by_cases e : i = s
  · subst e
    rw [if_pos rfl]
    exact ⟨rfl, rk_ok.2 ⟨h0, h1, .inl rfl⟩⟩
  · rw [if_neg e]
    exact ⟨rfl, rk_ok.2 ⟨Int.le_refl _, (by decide : (0 : Int) ≤ 1048576), .inl rfl⟩⟩
/-- Beats x the one that there is? The list that has it then. -/
def btx (x y : N3) : Bool := bt x.1 x.2.1 x.2.2 y.1 y.2.1 y.2.2
def bat (l : List N3) (x : N3) : Bool := match l[x.1.toNat]? with | some y => btx x y | none => false
def rse (l : List N3) (x : N3) : List N3 := if bat l x = true then l.set x.1.toNat x else l
def vlx (n : Nat) (x : N3) : Bool := vl (n : Int) x.1 x.2.1 x.2.2
def tke (l : List N3) (x : N3) : List N3 := if vlx l.length x = true then rse l x else l
theorem vlx_iff {n : Nat} {x : N3} : vlx n x = true ↔ (1 ≤ n ∧ n ≤ 100 ∧ 0 ≤ x.1 ∧ x.1.toNat < n ∧ rkx x ≠ -1) := by
  unfold vlx vl rkx
  rw [decide_eq_true_iff]
  constructor
  · rintro ⟨h1, h2, h3, h4, h5⟩; exact ⟨by omega, by omega, h3, by omega, h5⟩
  · rintro ⟨h1, h2, h3, h4, h5⟩; exact ⟨by omega, by omega, h3, by omega, h5⟩
theorem rse_len (l : List N3) (x : N3) : (rse l x).length = l.length := by unfold rse; split <;> simp
theorem tke_len (l : List N3) (x : N3) : (tke l x).length = l.length := by unfold tke; split <;> simp [rse_len]
theorem bat_iff {l : List N3} {x : N3} (hb : Bok l) (hv : vlx l.length x = true) : bat l x = decide (rkl l x.1.toNat < rkx x) := by
  obtain ⟨_, _, h0, h1, h2⟩ := vlx_iff.1 hv
  obtain ⟨y, hy⟩ : ∃ y, l[x.1.toNat]? = some y := ⟨_, List.getElem?_eq_getElem h1⟩
  obtain ⟨y0, y1⟩ := hb _ y hy
  unfold bat
  rw [rkl_some hy, hy]
  have e : x.1 = y.1 := by omega
  unfold rkx at *
  unfold btx bt
  exact decide_eq_decide.2 ⟨fun h => h.2.2.2, fun h => ⟨e, h2, y1, h⟩⟩
theorem rse_rk {l : List N3} {x : N3} (hb : Bok l) (hv : vlx l.length x = true) (i : Nat) : rkl (rse l x) i = if i = x.1.toNat then max (rkl l i) (rkx x) else rkl l i := by
  obtain ⟨_, _, h0, h1, h2⟩ := vlx_iff.1 hv
  unfold rse
  rw [bat_iff hb hv]
  by_cases h : rkl l x.1.toNat < rkx x
  · rw [if_pos (decide_eq_true h)]
    by_cases e : i = x.1.toNat
    · subst e
      rw [if_pos rfl, rkl_some (x := x) (by rw [List.getElem?_set]; simp [h1])]
      omega
    · rw [if_neg e]
      unfold rkl
      rw [List.getElem?_set, if_neg (fun q => e q.symm)]
  · rw [if_neg (by simpa using h)]
    by_cases e : i = x.1.toNat
    · subst e; rw [if_pos rfl]; omega
    · rw [if_neg e]
theorem rse_bok {l : List N3} {x : N3} (hb : Bok l) (hv : vlx l.length x = true) : Bok (rse l x) := by
  obtain ⟨_, _, h0, h1, h2⟩ := vlx_iff.1 hv
  unfold rse
  split
  · intro i y hy
    rw [List.getElem?_set] at hy
    by_cases e : x.1.toNat = i
    · subst e
      simp only [h1, if_true] at hy
      obtain rfl := Option.some.inj hy
      exact ⟨by omega, h2⟩
    · rw [if_neg e] at hy
      exact hb i y hy
  · exact hb
theorem tke_bok {l : List N3} (hb : Bok l) (x : N3) : Bok (tke l x) := by
  unfold tke
  split
  · next h => exact rse_bok hb h
  · exact hb
/-- How a node's rank goes up. -/
def upr (n i : Nat) (r : Int) (x : N3) : Int := if vlx n x = true ∧ i = x.1.toNat then max r (rkx x) else r
theorem upr_ge (n i : Nat) (r : Int) (x : N3) : r ≤ upr n i r x := by unfold upr; split <;> omega
theorem upr_comm (n i : Nat) (r : Int) (x y : N3) : upr n i (upr n i r x) y = upr n i (upr n i r y) x := by
  unfold upr
  by_cases h1 : vlx n x = true ∧ i = x.1.toNat <;> by_cases h2 : vlx n y = true ∧ i = y.1.toNat 
  · simp only [if_pos h1, if_pos h2]; omega
  · simp only [if_pos h1, if_neg h2]
  · simp only [if_neg h1, if_pos h2]
  · simp only [if_neg h1, if_neg h2]
theorem tke_rk {l : List N3} (hb : Bok l) (x : N3) (i : Nat) : rkl (tke l x) i = upr l.length i (rkl l i) x := by
  unfold tke upr
  by_cases hv : vlx l.length x = true
  · rw [if_pos hv, rse_rk hb hv]
    by_cases e : i = x.1.toNat
    · rw [if_pos e, if_pos ⟨hv, e⟩]
    · rw [if_neg e, if_neg (fun q => e q.2)]
  · rw [if_neg hv, if_neg (fun q => hv q.1)]
theorem fold_tke : ∀ (m : List N3) {l : List N3}, Bok l → Bok (m.foldl tke l) ∧ (m.foldl tke l).length = l.length ∧ ∀ i, rkl (m.foldl tke l) i = m.foldl (upr l.length i) (rkl l i)
  | [], l, hb => ⟨hb, rfl, fun _ => rfl⟩
  | x :: m, l, hb => by
    obtain ⟨h1, h2, h3⟩ := fold_tke m (tke_bok hb x)
    refine ⟨h1, h2.trans (tke_len l x), fun i => ?_⟩
    have := h3 i
    rw [tke_len, tke_rk hb] at this
    exact this
/-- Whatever the order: one book. -/
theorem fold_perm {m m' : List N3} (hp : m.Perm m') {l : List N3} (hb : Bok l) : m.foldl tke l = m'.foldl tke l := by
  obtain ⟨h1, h2, h3⟩ := fold_tke m hb
  obtain ⟨k1, k2, k3⟩ := fold_tke m' hb
  refine bok_ext h1 k1 (h2.trans k2.symm) (fun i _ => ?_)
  rw [h3, k3]
  exact hp.foldl_eq' (fun x _ y _ r => upr_comm l.length i r x y) _
/-- Merge: all or none; the nodes of which another one stands. -/
def mrg (l m : List N3) : List N3 := if m.all (vlx l.length) = true then m.foldl rse l else l
def bst (s : List N3 × Nat) (x : N3) : List N3 × Nat := if bat s.1 x = true then (rse s.1 x, s.2 ||| 2 ^ x.1.toNat) else s
def mrs (l m : List N3) : Nat := if m.all (vlx l.length) = true then (m.foldl bst (l, 0)).2 else 0
theorem fold_rse : ∀ (m : List N3) {l : List N3}, m.all (vlx l.length) = true → m.foldl rse l = m.foldl tke l
  | [], l, _ => rfl
  | x :: m, l, h => by
    rw [List.all_cons, Bool.and_eq_true] at h
    have e : tke l x = rse l x := if_pos h.1
    rw [List.foldl_cons, List.foldl_cons, e]
    exact fold_rse m (by rw [rse_len]; exact h.2)
theorem bst_1 (s : List N3 × Nat) (x : N3) : (bst s x).1 = rse s.1 x := by
  unfold bst
  by_cases h : bat s.1 x = true
  · rw [if_pos h]
  · rw [if_neg h, rse, if_neg h]
theorem fold_bst : ∀ (m : List N3) (s : List N3 × Nat), (m.foldl bst s).1 = m.foldl rse s.1
  | [], s => rfl
  | x :: m, s => by rw [List.foldl_cons, List.foldl_cons, fold_bst m, bst_1]
theorem mrg_bok {l : List N3} (hb : Bok l) (m : List N3) : Bok (mrg l m) := by
  unfold mrg
  split
  · next h => rw [fold_rse m h]; exact (fold_tke m hb).1
  · exact hb
theorem mrg_len {l : List N3} (hb : Bok l) (m : List N3) : (mrg l m).length = l.length := by
  unfold mrg
  split
  · next h => rw [fold_rse m h]; exact (fold_tke m hb).2.1
  · rfl
theorem mrg_rk {l : List N3} (hb : Bok l) {m : List N3} (h : m.all (vlx l.length) = true) (i : Nat) : rkl (mrg l m) i = m.foldl (upr l.length i) (rkl l i) := by
  unfold mrg
  rw [if_pos h, fold_rse m h]
  exact (fold_tke m hb).2.2 i
theorem fold_upr_ge (n i : Nat) : ∀ (m : List N3) (r : Int), r ≤ m.foldl (upr n i) r
  | [], _ => Int.le_refl _
  | x :: m, r => Int.le_trans (upr_ge n i r x) (fold_upr_ge n i m _)
theorem fold_upr_mem (n : Nat) : ∀ (m : List N3) (r : Int) (x : N3), x ∈ m → vlx n x = true → rkx x ≤ m.foldl (upr n x.1.toNat) r
  | [], _, x, h, _ => by cases h
  | y :: m, r, x, h, hv => by
    rcases List.mem_cons.1 h with rfl | h
    · have h1 : rkx x ≤ upr n x.1.toNat r x := by unfold upr; rw [if_pos ⟨hv, rfl⟩]; omega
      exact Int.le_trans h1 (fold_upr_ge n _ m _)
    · exact fold_upr_mem n m _ x h hv
/-- None of them beats: nothing turns. -/
theorem fold_still : ∀ (m : List N3) {l : List N3} (N : Nat), (∀ x ∈ m, bat l x = false) → m.foldl bst (l, N) = (l, N)
  | [], l, N, _ => rfl
  | x :: m, l, N, h => by
    have e : bst (l, N) x = (l, N) := by unfold bst; rw [if_neg (by rw [h x (by simp)]; decide)]
    rw [List.foldl_cons, e]
    exact fold_still m N (fun y hy => h y (by simp [hy]))
/-- The set has the nodes whose rank rose. -/
theorem bits_bst : ∀ (m : List N3) {l : List N3} (N : Nat), Bok l → m.all (vlx l.length) = true → ∀ i, (m.foldl bst (l, N)).2.testBit i = (N.testBit i || decide (rkl l i < rkl (m.foldl rse l) i))
  | [], l, N, _, _, i => by simp
  | x :: m, l, N, hb, h, i => by
    rw [List.all_cons, Bool.and_eq_true] at h
    obtain ⟨hx, hm⟩ := h
    have hm' : m.all (vlx (rse l x).length) = true := by rw [rse_len]; exact hm
    have hb' := rse_bok hb hx
    have hge : rkl (rse l x) i ≤ rkl (m.foldl rse (rse l x)) i := by
      rw [fold_rse m hm', (fold_tke m hb').2.2]
      exact fold_upr_ge _ _ _ _
    rw [List.foldl_cons, List.foldl_cons]
    have hr := rse_rk hb hx i
    by_cases hbt : bat l x = true
    · have eb : bst (l, N) x = (rse l x, N ||| 2 ^ x.1.toNat) := if_pos hbt
      rw [eb, bits_bst m _ hb' hm' i, Nat.testBit_or, Nat.testBit_two_pow]
      rw [bat_iff hb hx, decide_eq_true_iff] at hbt
      by_cases e : i = x.1.toNat
      · rw [if_pos e] at hr
        subst e
        have h1 : rkl l x.1.toNat < rkl (m.foldl rse (rse l x)) x.1.toNat := by omega
        simp [h1]
      · rw [if_neg e] at hr
        rw [hr]
        have : ¬ x.1.toNat = i := fun q => e q.symm
        simp [this]
    · have eb : bst (l, N) x = (l, N) := if_neg hbt
      rw [eb]
      have e : rse l x = l := if_neg hbt
      have := bits_bst m N hb hm i
      rw [e]
      exact this
theorem bst_lt : ∀ (m : List N3) {l : List N3} (N : Nat), m.all (vlx l.length) = true → N < 2 ^ 100 → (m.foldl bst (l, N)).2 < 2 ^ 100
  | [], l, N, _, h => h
  | x :: m, l, N, hv, h => by
    rw [List.all_cons, Bool.and_eq_true] at hv
    rw [List.foldl_cons]
    by_cases hbt : bat l x = true
    · have eb : bst (l, N) x = (rse l x, N ||| 2 ^ x.1.toNat) := if_pos hbt
      rw [eb]
      refine bst_lt m _ (by rw [rse_len]; exact hv.2) (Nat.or_lt_two_pow h ?_)
      obtain ⟨_, h1, _, h2, _⟩ := vlx_iff.1 hv.1
      exact Nat.pow_lt_pow_right (by decide) (by omega)
    · have eb : bst (l, N) x = (l, N) := if_neg hbt
      rw [eb]
      exact bst_lt m N hv.2 h
theorem mrs_lt (l m : List N3) : mrs l m < 2 ^ 100 := by
  unfold mrs
  split
  · next h => exact bst_lt m 0 h (by decide)
  · decide
theorem mrs_bit {l : List N3} (hb : Bok l) (m : List N3) (i : Nat) : (mrs l m).testBit i = decide (rkl l i < rkl (mrg l m) i) := by
  unfold mrs mrg
  split
  · next h => rw [bits_bst m 0 hb h i]; simp
  · simp
theorem mrg_one (l : List N3) (x : N3) : mrg l [x] = tke l x := by
  unfold mrg tke
  simp
theorem mrg_ge {l : List N3} (hb : Bok l) (m : List N3) (i : Nat) : rkl l i ≤ rkl (mrg l m) i := by
  by_cases h : m.all (vlx l.length) = true
  · rw [mrg_rk hb h]; exact fold_upr_ge _ _ _ _
  · unfold mrg; rw [if_neg h]; exact Int.le_refl _
end Go.Proofs.Ytddblfffjhoiaaa
