/- Books: the plain mathematics of lists of notices, one for each node. -/
import Derived.Test.YtgehmidalfajgabGreatDoorInferDoubtsJ0
namespace Go.Proofs.YtgehmidalfajgabGreatDoor
abbrev N3 := Int × Int × Int
def rkx (x : N3) : Int := rk x.2.1 x.2.2
/-- A book's list: of each node a notice that has a rank. -/
def Bok (l : List N3) : Prop := ∀ (i : Nat) (x : N3), l[i]? = some x → x.1 = (i : Int) ∧ rkx x ≠ -1
def rkl (l : List N3) (i : Nat) : Int := match l[i]? with | some x => rkx x | none => -1
theorem rkl_some {l : List N3} {i : Nat} {x : N3} (h : l[i]? = some x) : rkl l i = rkx x := by simp [rkl, h]
theorem bok_ext {a b : List N3} (ha : Bok a) (hb : Bok b) (hl : a.length = b.length) (h : ∀ i, i < a.length → rkl a i = rkl b i) : a = b := by
  apply List.ext_getElem?
  intro i
  by_cases hi : i < a.length
  · obtain ⟨x, hx⟩ : ∃ x, a[i]? = some x := ⟨_, List.getElem?_eq_getElem hi⟩
    obtain ⟨y, hy⟩ : ∃ y, b[i]? = some y := ⟨_, List.getElem?_eq_getElem (by omega)⟩
    have hh := h i hi
    rw [rkl_some hx, rkl_some hy] at hh
    obtain ⟨x0, x1⟩ := ha i x hx
    obtain ⟨y0, y1⟩ := hb i y hy
    have := rk_inj hh x1
    rw [hx, hy]
    exact congrArg some (Prod.ext (x0.trans y0.symm) (Prod.ext this.1 this.2))
  · rw [List.getElem?_eq_none (by omega), List.getElem?_eq_none (by omega)]
/-- The fresh ones; a new book. -/
def frs (n : Nat) : List N3 := (List.range n).map fun (i : Nat) => ((i : Int), 0, 1)
def bk0 (n s : Nat) (tag : Int) : List N3 := (frs n).set s ((s : Int), tag, 1)
theorem frs_len (n : Nat) : (frs n).length = n := by simp [frs]
theorem frs_get {n i : Nat} (h : i < n) : (frs n)[i]? = some ((i : Int), 0, 1) := by simp [frs, h]
theorem bk0_len (n s : Nat) (tag : Int) : (bk0 n s tag).length = n := by simp [bk0, frs_len]
theorem bk0_get {n s i : Nat} (tag : Int) (h : i < n) : (bk0 n s tag)[i]? = some (if i = s then ((s : Int), tag, 1) else ((i : Int), 0, 1)) := by
  unfold bk0
  rw [List.getElem?_set, frs_len, frs_get h]
  by_cases e : s = i
  · subst e; simp [h]
  · rw [if_neg e, if_neg (fun q => e q.symm)]
theorem bk0_bok {n s : Nat} {tag : Int} (h0 : 0 ≤ tag) (h1 : tag ≤ 1048576) : Bok (bk0 n s tag) := by
  intro i x hx
  have hi : i < n := by have := (List.getElem?_eq_some_iff.1 hx).1; rwa [bk0_len] at this
  rw [bk0_get tag hi] at hx
  obtain rfl := Option.some.inj hx
  by_cases e : i = s
  · subst e
    rw [if_pos rfl]
    exact ⟨rfl, rk_ok.2 ⟨h0, h1, .inl rfl⟩⟩
  · rw [if_neg e]
    exact ⟨rfl, rk_ok.2 ⟨Int.le_refl _, (by decide : (0 : Int) ≤ 1048576), .inl rfl⟩⟩
/-- Beats x the one that there is? The list that has it then. -/
def btx (x y : N3) : Bool := bt x.1 x.2.1 x.2.2 y.1 y.2.1 y.2.2
def bat (l : List N3) (x : N3) : Bool := match l[x.1.toNat]? with | some y => btx x y | none => false
def rse (l : List N3) (x : N3) : List N3 := if bat l x = true then l.set x.1.toNat x else l
def vlx (n : Nat) (x : N3) : Bool := vl (n : Int) x.1 x.2.1 x.2.2
def tke (l : List N3) (x : N3) : List N3 := if vlx l.length x = true then rse l x else l
theorem vlx_iff {n : Nat} {x : N3} : vlx n x = true ↔ (1 ≤ n ∧ n ≤ 100 ∧ 0 ≤ x.1 ∧ x.1.toNat < n ∧ rkx x ≠ -1) := by
  unfold vlx vl rkx
  rw [decide_eq_true_iff]
  constructor
  · rintro ⟨h1, h2, h3, h4, h5⟩; exact ⟨by omega, by omega, h3, by omega, h5⟩
  · rintro ⟨h1, h2, h3, h4, h5⟩; exact ⟨by omega, by omega, h3, by omega, h5⟩
theorem rse_len (l : List N3) (x : N3) : (rse l x).length = l.length := by unfold rse; split <;> simp
theorem tke_len (l : List N3) (x : N3) : (tke l x).length = l.length := by unfold tke; split <;> simp [rse_len]
theorem bat_iff {l : List N3} {x : N3} (hb : Bok l) (hv : vlx l.length x = true) : bat l x = decide (rkl l x.1.toNat < rkx x) := by
  obtain ⟨_, _, h0, h1, h2⟩ := vlx_iff.1 hv
  obtain ⟨y, hy⟩ : ∃ y, l[x.1.toNat]? = some y := ⟨_, List.getElem?_eq_getElem h1⟩
  obtain ⟨y0, y1⟩ := hb _ y hy
  unfold bat
  rw [rkl_some hy, hy]
  have e : x.1 = y.1 := by omega
  unfold rkx at *
  unfold btx bt
  exact decide_eq_decide.2 ⟨fun h => h.2.2.2, fun h => ⟨e, h2, y1, h⟩⟩
theorem rse_rk {l : List N3} {x : N3} (hb : Bok l) (hv : vlx l.length x = true) (i : Nat) : rkl (rse l x) i = if i = x.1.toNat then max (rkl l i) (rkx x) else rkl l i := by
  obtain ⟨_, _, h0, h1, h2⟩ := vlx_iff.1 hv
  unfold rse
  rw [bat_iff hb hv]
  by_cases h : rkl l x.1.toNat < rkx x
  · rw [if_pos (decide_eq_true h)]
    by_cases e : i = x.1.toNat
    · subst e
      rw [if_pos rfl, rkl_some (x := x) (by rw [List.getElem?_set]; simp [h1])]
      omega
    · rw [if_neg e]
      unfold rkl
      rw [List.getElem?_set, if_neg (fun q => e q.symm)]
  · rw [if_neg (by simpa using h)]
    by_cases e : i = x.1.toNat
    · subst e; rw [if_pos rfl]; omega
    · rw [if_neg e]
theorem rse_bok {l : List N3} {x : N3} (hb : Bok l) (hv : vlx l.length x = true) : Bok (rse l x) := by
  obtain ⟨_, _, h0, h1, h2⟩ := vlx_iff.1 hv
  unfold rse
  split
  · intro i y hy
    rw [List.getElem?_set] at hy
    by_cases e : x.1.toNat = i
    · subst e
      simp only [h1, if_true] at hy
      obtain rfl := Option.some.inj hy
      exact ⟨by omega, h2⟩
    · rw [if_neg e] at hy
      exact hb i y hy
  · exact hb
theorem tke_bok {l : List N3} (hb : Bok l) (x : N3) : Bok (tke l x) := by
  unfold tke
  split
  · next h => exact rse_bok hb h
  · exact hb
/-- How a node's rank goes up. -/
def upr (n i : Nat) (r : Int) (x : N3) : Int := if vlx n x = true ∧ i = x.1.toNat then max r (rkx x) else r
theorem upr_ge (n i : Nat) (r : Int) (x : N3) : r ≤ upr n i r x := by unfold upr; split <;> omega
theorem upr_comm (n i : Nat) (r : Int) (x y : N3) : upr n i (upr n i r x) y = upr n i (upr n i r y) x := by
  unfold upr
  by_cases h1 : vlx n x = true ∧ i = x.1.toNat <;> by_cases h2 : vlx n y = true ∧ i = y.1.toNat 
  · simp only [if_pos h1, if_pos h2]; omega
  · simp only [if_pos h1, if_neg h2]
  · simp only [if_neg h1, if_pos h2]
  · simp only [if_neg h1, if_neg h2]
theorem tke_rk {l : List N3} (hb : Bok l) (x : N3) (i : Nat) : rkl (tke l x) i = upr l.length i (rkl l i) x := by
  unfold tke upr
  by_cases hv : vlx l.length x = true
  · rw [if_pos hv, rse_rk hb hv]
    by_cases e : i = x.1.toNat
    · rw [if_pos e, if_pos ⟨hv, e⟩]
    · rw [if_neg e, if_neg (fun q => e q.2)]
  · rw [if_neg hv, if_neg (fun q => hv q.1)]
theorem fold_tke : ∀ (m : List N3) {l : List N3}, Bok l → Bok (m.foldl tke l) ∧ (m.foldl tke l).length = l.length ∧ ∀ i, rkl (m.foldl tke l) i = m.foldl (upr l.length i) (rkl l i)
  | [], l, hb => ⟨hb, rfl, fun _ => rfl⟩
  | x :: m, l, hb => by
    obtain ⟨h1, h2, h3⟩ := fold_tke m (tke_bok hb x)
    refine ⟨h1, h2.trans (tke_len l x), fun i => ?_⟩
    have := h3 i
    rw [tke_len, tke_rk hb] at this
    exact this
/-- Whatever the order: one book. -/
theorem fold_perm {m m' : List N3} (hp : m.Perm m') {l : List N3} (hb : Bok l) : m.foldl tke l = m'.foldl tke l := by
  obtain ⟨h1, h2, h3⟩ := fold_tke m hb
  obtain ⟨k1, k2, k3⟩ := fold_tke m' hb
  refine bok_ext h1 k1 (h2.trans k2.symm) (fun i _ => ?_)
  rw [h3, k3]
  exact hp.foldl_eq' (fun x _ y _ r => upr_comm l.length i r x y) _
/-- Merge: all or none; the nodes of which another one stands. -/
def mrg (l m : List N3) : List N3 := if m.all (vlx l.length) = true then m.foldl rse l else l
def bst (s : List N3 × Nat) (x : N3) : List N3 × Nat := if bat s.1 x = true then (rse s.1 x, s.2 ||| 2 ^ x.1.toNat) else s
def mrs (l m : List N3) : Nat := if m.all (vlx l.length) = true then (m.foldl bst (l, 0)).2 else 0
theorem fold_rse : ∀ (m : List N3) {l : List N3}, m.all (vlx l.length) = true → m.foldl rse l = m.foldl tke l
  | [], l, _ => rfl
  | x :: m, l, h => by
    rw [List.all_cons, Bool.and_eq_true] at h
    have e : tke l x = rse l x := if_pos h.1
    rw [List.foldl_cons, List.foldl_cons, e]
    exact fold_rse m (by rw [rse_len]; exact h.2)
theorem bst_1 (s : List N3 × Nat) (x : N3) : (bst s x).1 = rse s.1 x := by
  unfold bst
  by_cases h : bat s.1 x = true
  · rw [if_pos h]
  · rw [if_neg h, rse, if_neg h]
theorem fold_bst : ∀ (m : List N3) (s : List N3 × Nat), (m.foldl bst s).1 = m.foldl rse s.1
  | [], s => rfl
  | x :: m, s => by rw [List.foldl_cons, List.foldl_cons, fold_bst m, bst_1]
theorem mrg_bok {l : List N3} (hb : Bok l) (m : List N3) : Bok (mrg l m) := by
  unfold mrg
  split
  · next h => rw [fold_rse m h]; exact (fold_tke m hb).1
  · exact hb
theorem mrg_len {l : List N3} (hb : Bok l) (m : List N3) : (mrg l m).length = l.length := by
  unfold mrg
  split
  · next h => rw [fold_rse m h]; exact (fold_tke m hb).2.1
  · rfl
theorem mrg_rk {l : List N3} (hb : Bok l) {m : List N3} (h : m.all (vlx l.length) = true) (i : Nat) : rkl (mrg l m) i = m.foldl (upr l.length i) (rkl l i) := by
  unfold mrg
  rw [if_pos h, fold_rse m h]
  exact (fold_tke m hb).2.2 i
theorem fold_upr_ge (n i : Nat) : ∀ (m : List N3) (r : Int), r ≤ m.foldl (upr n i) r
  | [], _ => Int.le_refl _
  | x :: m, r => Int.le_trans (upr_ge n i r x) (fold_upr_ge n i m _)
theorem fold_upr_mem (n : Nat) : ∀ (m : List N3) (r : Int) (x : N3), x ∈ m → vlx n x = true → rkx x ≤ m.foldl (upr n x.1.toNat) r
  | [], _, x, h, _ => by cases h
  | y :: m, r, x, h, hv => by
    rcases List.mem_cons.1 h with rfl | h
    · have h1 : rkx x ≤ upr n x.1.toNat r x := by unfold upr; rw [if_pos ⟨hv, rfl⟩]; omega
      exact Int.le_trans h1 (fold_upr_ge n _ m _)
    · exact fold_upr_mem n m _ x h hv
/-- None of them beats: nothing turns. -/
theorem fold_still : ∀ (m : List N3) {l : List N3} (N : Nat), (∀ x ∈ m, bat l x = false) → m.foldl bst (l, N) = (l, N)
  | [], l, N, _ => rfl
  | x :: m, l, N, h => by
    have e : bst (l, N) x = (l, N) := by unfold bst; rw [if_neg (by rw [h x (by simp)]; decide)]
    rw [List.foldl_cons, e]
    exact fold_still m N (fun y hy => h y (by simp [hy]))
/-- The set has the nodes whose rank rose. -/
theorem bits_bst : ∀ (m : List N3) {l : List N3} (N : Nat), Bok l → m.all (vlx l.length) = true → ∀ i, (m.foldl bst (l, N)).2.testBit i = (N.testBit i || decide (rkl l i < rkl (m.foldl rse l) i))
  | [], l, N, _, _, i => by simp
  | x :: m, l, N, hb, h, i => by
    rw [List.all_cons, Bool.and_eq_true] at h
    obtain ⟨hx, hm⟩ := h
    have hm' : m.all (vlx (rse l x).length) = true := by rw [rse_len]; exact hm
    have hb' := rse_bok hb hx
    have hge : rkl (rse l x) i ≤ rkl (m.foldl rse (rse l x)) i := by
      rw [fold_rse m hm', (fold_tke m hb').2.2]
      exact fold_upr_ge _ _ _ _
    rw [List.foldl_cons, List.foldl_cons]
    have hr := rse_rk hb hx i
    by_cases hbt : bat l x = true
    · have eb : bst (l, N) x = (rse l x, N ||| 2 ^ x.1.toNat) := if_pos hbt
      rw [eb, bits_bst m _ hb' hm' i, Nat.testBit_or, Nat.testBit_two_pow]
      rw [bat_iff hb hx, decide_eq_true_iff] at hbt
      by_cases e : i = x.1.toNat
      · rw [if_pos e] at hr
        subst e
        have h1 : rkl l x.1.toNat < rkl (m.foldl rse (rse l x)) x.1.toNat := by omega
        simp [h1]
      · rw [if_neg e] at hr
        rw [hr]
        have : ¬ x.1.toNat = i := fun q => e q.symm
        simp [this]
    · have eb : bst (l, N) x = (l, N) := if_neg hbt
      rw [eb]
      have e : rse l x = l := if_neg hbt
      have := bits_bst m N hb hm i
      rw [e]
      exact this
theorem bst_lt : ∀ (m : List N3) {l : List N3} (N : Nat), m.all (vlx l.length) = true → N < 2 ^ 100 → (m.foldl bst (l, N)).2 < 2 ^ 100
  | [], l, N, _, h => h
  | x :: m, l, N, hv, h => by
    rw [List.all_cons, Bool.and_eq_true] at hv
    rw [List.foldl_cons]
    by_cases hbt : bat l x = true
    · have eb : bst (l, N) x = (rse l x, N ||| 2 ^ x.1.toNat) := if_pos hbt
      rw [eb]
      refine bst_lt m _ (by rw [rse_len]; exact hv.2) (Nat.or_lt_two_pow h ?_)
      obtain ⟨_, h1, _, h2, _⟩ := vlx_iff.1 hv.1
      exact Nat.pow_lt_pow_right (by decide) (by omega)
    · have eb : bst (l, N) x = (l, N) := if_neg hbt
      rw [eb]
      exact bst_lt m N hv.2 h
theorem mrs_lt (l m : List N3) : mrs l m < 2 ^ 100 := by
  unfold mrs
  split
  · next h => exact bst_lt m 0 h (by decide)
  · decide
theorem mrs_bit {l : List N3} (hb : Bok l) (m : List N3) (i : Nat) : (mrs l m).testBit i = decide (rkl l i < rkl (mrg l m) i) := by
  unfold mrs mrg
  split
  · next h => rw [bits_bst m 0 hb h i]; simp
  · simp
theorem mrg_one (l : List N3) (x : N3) : mrg l [x] = tke l x := by
  unfold mrg tke
  simp
theorem mrg_ge {l : List N3} (hb : Bok l) (m : List N3) (i : Nat) : rkl l i ≤ rkl (mrg l m) i := by
  by_cases h : m.all (vlx l.length) = true
  · rw [mrg_rk hb h]; exact fold_upr_ge _ _ _ _
  · unfold mrg; rw [if_neg h]; exact Int.le_refl _
end Go.Proofs.YtgehmidalfajgabGreatDoor
namespace Go.Proofs.YtgehmidalfajgabGreatDoor
open Go.RowKit Go.Shelf

set_option maxHeartbeats 1000000 in
theorem rRank_any (o t k : Int) (w : World) : Calls Tryz.prog 100 #[nt o t k] w fun e w' => e = .returned (.int .i64 (rk t k)) ∧ Below w.heap.size w w' := by
  unfold nt
  by_cases h : t < 0 ∨ 1048576 < t
  · rw [rk_lo h]
    rcases h with h | h
    all_goals
      go_enter Tryz.func100, Tryz.ntmps100
      go_wp2
      go_ret
      exact ⟨rfl, al1 _ _⟩
  · have h0 : ¬ t < 0 := by omega
    have h1 : ¬ 1048576 < t := by omega
    by_cases k1 : k = 1
    · subst k1
      rw [rk_m h]
      go_enter Tryz.func100, Tryz.ntmps100
      go_wp2
      go_ret
      exact ⟨congrArg (fun x => Ending.returned (.int .i64 x)) (show (2 * t : Int) = 2 * t from rfl), al1 _ _⟩
    · by_cases k2 : k = 2
      · subst k2
        rw [rk_s h]
        go_enter Tryz.func100, Tryz.ntmps100
        go_wp2
        go_ret
        exact ⟨congrArg (fun x => Ending.returned (.int .i64 x)) (show 2 * t + 2 - 1 = 2 * t + 1 by omega), al1 _ _⟩
      · rw [rk_n k1 k2]
        have hk : (k != 1 && k != 2) = true := by simp [k1, k2]
        go_enter Tryz.func100, Tryz.ntmps100
        go_wp2
        go_ret
        exact ⟨rfl, al1 _ _⟩
set_option maxHeartbeats 2000000 in
theorem rValid_any (n o t k : Int) (w : World) : Calls Tryz.prog 26 #[.int .i64 n, nt o t k] w fun e w' => e = .returned (.bool (vl n o t k)) ∧ Below w.heap.size w w' := by
  by_cases h : 1 ≤ n ∧ n ≤ 100 ∧ 0 ≤ o ∧ o < n ∧ rk t k ≠ -1
  · have hv : vl n o t k = true := decide_eq_true h
    rw [hv]
    obtain ⟨a1, a2, a3, a4, a5⟩ := h
    obtain ⟨a6, a7, a8⟩ := rk_ok.1 a5
    clear hv a5
    unfold nt
    rcases a8 with rfl | rfl
    all_goals
      go_enter Tryz.func26, Tryz.ntmps26
      go_wp2
      go_ret
      exact ⟨rfl, al1 _ _⟩
  · have hv : vl n o t k = false := decide_eq_false h
    rw [hv]
    have h2 : n < 1 ∨ (1 ≤ n ∧ 100 < n) ∨ (1 ≤ n ∧ n ≤ 100 ∧ o < 0) ∨ (1 ≤ n ∧ n ≤ 100 ∧ 0 ≤ o ∧ n ≤ o) ∨ (1 ≤ n ∧ n ≤ 100 ∧ 0 ≤ o ∧ o < n ∧ t < 0) ∨ (1 ≤ n ∧ n ≤ 100 ∧ 0 ≤ o ∧ o < n ∧ 0 ≤ t ∧ 1048576 < t) ∨ (1 ≤ n ∧ n ≤ 100 ∧ 0 ≤ o ∧ o < n ∧ 0 ≤ t ∧ t ≤ 1048576 ∧ ¬ k = 1 ∧ ¬ k = 2) := by
      rw [rk_ok] at h
      omega
    clear hv h
    unfold nt
    rcases h2 with a1 | ⟨a1, a2⟩ | ⟨a1, a2, a3⟩ | ⟨a1, a2, a3, a4⟩ | ⟨a1, a2, a3, a4, a5⟩ | ⟨a1, a2, a3, a4, a5, a6⟩ | ⟨a1, a2, a3, a4, a5, a6, a7, a8⟩
    all_goals
      go_enter Tryz.func26, Tryz.ntmps26
      go_wp2
      go_ret
      first | exact ⟨rfl, al1 _ _⟩ | exact ⟨(show Ending.returned (.bool (k == 1 || k == 2)) = .returned (.bool false) by simp [a7, a8]), al1 _ _⟩
set_option maxHeartbeats 400000 in
theorem rFresh_any (o : Int) (w : World) : Calls Tryz.prog 20 #[.int .i64 o] w fun e w' => e = .returned (nt o 0 1) ∧ Below w.heap.size w w' := by
  go_enter Tryz.func20, Tryz.ntmps20
  go_wp2
  exact retN rfl rfl rfl (new_at rfl) ⟨rfl, al1 _ _⟩
set_option maxHeartbeats 2000000 in
set_option maxRecDepth 100000 in
theorem rBeats_any (o t k o' t' k' : Int) (w : World) : Calls Tryz.prog 28 #[nt o t k, nt o' t' k'] w fun e w' => e = .returned (.bool (bt o t k o' t' k')) ∧ Below w.heap.size w w' := by
  have hmx : Tryz.prog.follows .mixedOrders = true := by kernel_rfl
  have hj0 : JL w [(w.heap.size, o, t, k), (w.heap.size + 1, o', t', k')] ((w.alloc (.cells #[.int .i64 o, .int .i64 t, .int .i64 k] 70)).alloc (.cells #[.int .i64 o', .int .i64 t', .int .i64 k'] 70)) := by
    have := ((JL.nil w).new o t k).new o' t' k'
    simpa using this
  have n1 := @rk_neg t k
  have n2 := @rk_neg t' k'
  by_cases h0 : o = o'
  case neg =>
    have hb : bt o t k o' t' k' = false := decide_eq_false (by intro h; exact h0 h.1)
    rw [hb]
    go_enter Tryz.func28, Tryz.ntmps28
    unfold nt
    go_wp2
    rename_i Q0 K0 hK
    refine wp_region_any hmx ?_
    refine wpAny_pure (fun i__ => ([(.pointer (some ⟨w.heap.size, 0, none⟩)), (.int .i64 o), (.pointer (some ⟨(w.heap.size + 1), 0, none⟩)), (.int .i64 (o')), (.bool false), (.bool false), undef, undef, undef, (.bool false), (.bool false), undef, undef, undef, (.bool false), (.bool false), undef, undef, undef, undef, undef, (.bool false), (.bool false)] : List Value).getD i__ undef) (fun W => JL w [(w.heap.size, o, t, k), (w.heap.size + 1, o', t', k')] W) (by kernel_rfl) (hj0.carry (Below.refl _ _).drew) ?_ ?_
    · refine (stepsFrom_cons ?_ (stepsFrom_cons ?_ (stepsFrom_cons ?_ (stepsFrom_cons ?_ (stepsFrom_cons ?_ (stepsFrom_cons ?_ (stepsFrom_cons ?_ (stepsFrom_cons ?_ (stepsFrom_cons ?_ (stepsFrom_cons ?_ (stepsFrom_cons ?_ (stepsFrom_cons ?_ (stepsFrom_cons ?_ (stepsFrom_cons ?_ (stepsFrom_cons ?_ (stepsFrom_cons ?_ (stepsFrom_cons ?_ (stepsFrom_cons ?_ (stepsFrom_cons ?_ (stepsFrom_cons ?_ (stepsFrom_cons ?_ (stepsFrom_cons ?_ (stepsFrom_cons ?_ trivial)))))))))))))))))))))))
      · exact step_fieldAddr rfl trivial _ _ _ _ rfl rfl (fun w hw => field_n0 w _)
      · exact step_load rfl trivial _ _ _ rfl rfl (fun w hw => load_n0 (hw.get 0 rfl))
      · exact step_fieldAddr rfl trivial _ _ _ _ rfl rfl (fun w hw => field_n0 w _)
      · exact step_load rfl trivial _ _ _ rfl rfl (fun w hw => load_n0 (hw.get 1 rfl))
      · exact step_binOp rfl trivial _ _ _ _ _ _ _ rfl rfl rfl (fun w hw => (bin_eql .i64 _ _).trans (by simp [h0]))
      · exact step_move rfl trivial _ rfl (by kernel_rfl)
      · exact step_skip rfl 5 true 10 (.bool false) rfl rfl (by kernel_rfl) (by intro h; cases h) rfl
      · exact step_skip rfl 5 true 10 (.bool false) rfl rfl (by kernel_rfl) (by intro h; cases h) rfl
      · exact step_skip rfl 5 true 10 (.bool false) rfl rfl (by kernel_rfl) (by intro h; cases h) rfl
      · exact step_pick rfl trivial _ _ _ false rfl (by kernel_rfl) (by kernel_rfl)
      · exact step_move rfl trivial _ rfl (by kernel_rfl)
      · exact step_skip rfl 10 true 15 (.bool false) rfl rfl (by kernel_rfl) (by intro h; cases h) rfl
      · exact step_skip rfl 10 true 15 (.bool false) rfl rfl (by kernel_rfl) (by intro h; cases h) rfl
      · exact step_skip rfl 10 true 15 (.bool false) rfl rfl (by kernel_rfl) (by intro h; cases h) rfl
      · exact step_pick rfl trivial _ _ _ false rfl (by kernel_rfl) (by kernel_rfl)
      · exact step_move rfl trivial _ rfl (by kernel_rfl)
      · exact step_skip rfl 15 true 20 (.bool false) rfl rfl (by kernel_rfl) (by intro h; cases h) rfl
      · exact step_skip rfl 15 true 20 (.bool false) rfl rfl (by kernel_rfl) (by intro h; cases h) rfl
      · exact step_skip rfl 15 true 20 (.bool false) rfl rfl (by kernel_rfl) (by intro h; cases h) rfl
      · exact step_skip rfl 15 true 20 (.bool false) rfl rfl (by kernel_rfl) (by intro h; cases h) rfl
      · exact step_skip rfl 15 true 20 (.bool false) rfl rfl (by kernel_rfl) (by intro h; cases h) rfl
      · exact step_pick rfl trivial _ _ _ false rfl (by kernel_rfl) (by kernel_rfl)
      · exact step_assign rfl trivial _ rfl (by kernel_rfl) (fun _ h => h)
    intro W hW
    first | refine hK _ _ ?_ | refine (‹∀ (a : Act) (w : World), Code.wp Tryz.prog _ _ a w → _›) _ _ ?_
    simp only [finL, List.getD_cons_zero, List.getD_cons_succ, Nat.zero_add, Nat.reduceAdd, List.setIfInBounds_toArray, List.set_cons_zero, List.set_cons_succ]
    go_wp2
    go_ret
    exact ⟨rfl, hW.below⟩

  subst h0
  by_cases h1 : rk t k = -1
  case pos =>
    have hb : bt o t k o t' k' = false := decide_eq_false (by intro h; exact h.2.1 h1)
    rw [hb]
    go_enter Tryz.func28, Tryz.ntmps28
    unfold nt
    go_wp2
    rename_i Q0 K0 hK
    refine wp_region_any hmx ?_
    refine wpAny_pure (fun i__ => ([(.pointer (some ⟨w.heap.size, 0, none⟩)), (.int .i64 o), (.pointer (some ⟨(w.heap.size + 1), 0, none⟩)), (.int .i64 o), (.bool true), (.bool true), (nt o t k), (.int .i64 (rk t k)), (.bool false), (.bool false), (.bool false), undef, undef, undef, (.bool false), (.bool false), undef, undef, undef, undef, undef, (.bool false), (.bool false)] : List Value).getD i__ undef) (fun W => JL w [(w.heap.size, o, t, k), (w.heap.size + 1, o, t', k')] W) (by kernel_rfl) (hj0.carry (Below.refl _ _).drew) ?_ ?_
    · refine (stepsFrom_cons ?_ (stepsFrom_cons ?_ (stepsFrom_cons ?_ (stepsFrom_cons ?_ (stepsFrom_cons ?_ (stepsFrom_cons ?_ (stepsFrom_cons ?_ (stepsFrom_cons ?_ (stepsFrom_cons ?_ (stepsFrom_cons ?_ (stepsFrom_cons ?_ (stepsFrom_cons ?_ (stepsFrom_cons ?_ (stepsFrom_cons ?_ (stepsFrom_cons ?_ (stepsFrom_cons ?_ (stepsFrom_cons ?_ (stepsFrom_cons ?_ (stepsFrom_cons ?_ (stepsFrom_cons ?_ (stepsFrom_cons ?_ (stepsFrom_cons ?_ (stepsFrom_cons ?_ trivial)))))))))))))))))))))))
      · exact step_fieldAddr rfl trivial _ _ _ _ rfl rfl (fun w hw => field_n0 w _)
      · exact step_load rfl trivial _ _ _ rfl rfl (fun w hw => load_n0 (hw.get 0 rfl))
      · exact step_fieldAddr rfl trivial _ _ _ _ rfl rfl (fun w hw => field_n0 w _)
      · exact step_load rfl trivial _ _ _ rfl rfl (fun w hw => load_n0 (hw.get 1 rfl))
      · exact step_binOp rfl trivial _ _ _ _ _ _ _ rfl rfl rfl (fun w hw => (bin_eql .i64 _ _).trans (by simp))
      · exact step_move rfl trivial _ rfl (by kernel_rfl)
      · exact step_load rfl (by exact ⟨_, rfl, by kernel_rfl⟩) _ _ _ rfl rfl (fun w hw => load_nt (hw.get 0 rfl))
      · exact step_call rfl (by exact ⟨_, rfl, by kernel_rfl⟩) 100 _ _ [(nt o t k)] rfl (by kernel_rfl) (enters_of Tryz.func100 (by kernel_rfl) rfl) (fun w hw => (rRank_any o t k w).mono (by rintro e w' ⟨rfl, hb⟩; exact ⟨rfl, hw.carry hb⟩))
      · exact step_binOp rfl (by exact ⟨_, rfl, by kernel_rfl⟩) _ _ _ _ _ _ _ rfl rfl rfl (fun w hw => (bin_geq .i64 _ _).trans (by simp [h1]))
      · exact step_pick rfl trivial _ _ _ true rfl (by kernel_rfl) (by kernel_rfl)
      · exact step_move rfl trivial _ rfl (by kernel_rfl)
      · exact step_skip rfl 10 true 15 (.bool false) rfl rfl (by kernel_rfl) (by intro h; cases h) rfl
      · exact step_skip rfl 10 true 15 (.bool false) rfl rfl (by kernel_rfl) (by intro h; cases h) rfl
      · exact step_skip rfl 10 true 15 (.bool false) rfl rfl (by kernel_rfl) (by intro h; cases h) rfl
      · exact step_pick rfl trivial _ _ _ false rfl (by kernel_rfl) (by kernel_rfl)
      · exact step_move rfl trivial _ rfl (by kernel_rfl)
      · exact step_skip rfl 15 true 20 (.bool false) rfl rfl (by kernel_rfl) (by intro h; cases h) rfl
      · exact step_skip rfl 15 true 20 (.bool false) rfl rfl (by kernel_rfl) (by intro h; cases h) rfl
      · exact step_skip rfl 15 true 20 (.bool false) rfl rfl (by kernel_rfl) (by intro h; cases h) rfl
      · exact step_skip rfl 15 true 20 (.bool false) rfl rfl (by kernel_rfl) (by intro h; cases h) rfl
      · exact step_skip rfl 15 true 20 (.bool false) rfl rfl (by kernel_rfl) (by intro h; cases h) rfl
      · exact step_pick rfl trivial _ _ _ false rfl (by kernel_rfl) (by kernel_rfl)
      · exact step_assign rfl trivial _ rfl (by kernel_rfl) (fun _ h => h)
    intro W hW
    first | refine hK _ _ ?_ | refine (‹∀ (a : Act) (w : World), Code.wp Tryz.prog _ _ a w → _›) _ _ ?_
    simp only [finL, List.getD_cons_zero, List.getD_cons_succ, Nat.zero_add, Nat.reduceAdd, List.setIfInBounds_toArray, List.set_cons_zero, List.set_cons_succ]
    go_wp2
    go_ret
    exact ⟨rfl, hW.below⟩

  by_cases h2 : rk t' k' = -1
  case pos =>
    have hb : bt o t k o t' k' = false := decide_eq_false (by intro h; exact h.2.2.1 h2)
    rw [hb]
    go_enter Tryz.func28, Tryz.ntmps28
    unfold nt
    go_wp2
    rename_i Q0 K0 hK
    refine wp_region_any hmx ?_
    refine wpAny_pure (fun i__ => ([(.pointer (some ⟨w.heap.size, 0, none⟩)), (.int .i64 o), (.pointer (some ⟨(w.heap.size + 1), 0, none⟩)), (.int .i64 o), (.bool true), (.bool true), (nt o t k), (.int .i64 (rk t k)), (.bool true), (.bool true), (.bool true), (nt o (t') (k')), (.int .i64 (rk (t') (k'))), (.bool false), (.bool false), (.bool false), undef, undef, undef, undef, undef, (.bool false), (.bool false)] : List Value).getD i__ undef) (fun W => JL w [(w.heap.size, o, t, k), (w.heap.size + 1, o, t', k')] W) (by kernel_rfl) (hj0.carry (Below.refl _ _).drew) ?_ ?_
    · refine (stepsFrom_cons ?_ (stepsFrom_cons ?_ (stepsFrom_cons ?_ (stepsFrom_cons ?_ (stepsFrom_cons ?_ (stepsFrom_cons ?_ (stepsFrom_cons ?_ (stepsFrom_cons ?_ (stepsFrom_cons ?_ (stepsFrom_cons ?_ (stepsFrom_cons ?_ (stepsFrom_cons ?_ (stepsFrom_cons ?_ (stepsFrom_cons ?_ (stepsFrom_cons ?_ (stepsFrom_cons ?_ (stepsFrom_cons ?_ (stepsFrom_cons ?_ (stepsFrom_cons ?_ (stepsFrom_cons ?_ (stepsFrom_cons ?_ (stepsFrom_cons ?_ (stepsFrom_cons ?_ trivial)))))))))))))))))))))))
      · exact step_fieldAddr rfl trivial _ _ _ _ rfl rfl (fun w hw => field_n0 w _)
      · exact step_load rfl trivial _ _ _ rfl rfl (fun w hw => load_n0 (hw.get 0 rfl))
      · exact step_fieldAddr rfl trivial _ _ _ _ rfl rfl (fun w hw => field_n0 w _)
      · exact step_load rfl trivial _ _ _ rfl rfl (fun w hw => load_n0 (hw.get 1 rfl))
      · exact step_binOp rfl trivial _ _ _ _ _ _ _ rfl rfl rfl (fun w hw => (bin_eql .i64 _ _).trans (by simp))
      · exact step_move rfl trivial _ rfl (by kernel_rfl)
      · exact step_load rfl (by exact ⟨_, rfl, by kernel_rfl⟩) _ _ _ rfl rfl (fun w hw => load_nt (hw.get 0 rfl))
      · exact step_call rfl (by exact ⟨_, rfl, by kernel_rfl⟩) 100 _ _ [(nt o t k)] rfl (by kernel_rfl) (enters_of Tryz.func100 (by kernel_rfl) rfl) (fun w hw => (rRank_any o t k w).mono (by rintro e w' ⟨rfl, hb⟩; exact ⟨rfl, hw.carry hb⟩))
      · exact step_binOp rfl (by exact ⟨_, rfl, by kernel_rfl⟩) _ _ _ _ _ _ _ rfl rfl rfl (fun w hw => (bin_geq .i64 _ _).trans (by simp; omega))
      · exact step_pick rfl trivial _ _ _ true rfl (by kernel_rfl) (by kernel_rfl)
      · exact step_move rfl trivial _ rfl (by kernel_rfl)
      · exact step_load rfl (by exact ⟨_, rfl, by kernel_rfl⟩) _ _ _ rfl rfl (fun w hw => load_nt (hw.get 1 rfl))
      · exact step_call rfl (by exact ⟨_, rfl, by kernel_rfl⟩) 100 _ _ [(nt o (t') (k'))] rfl (by kernel_rfl) (enters_of Tryz.func100 (by kernel_rfl) rfl) (fun w hw => (rRank_any o (t') (k') w).mono (by rintro e w' ⟨rfl, hb⟩; exact ⟨rfl, hw.carry hb⟩))
      · exact step_binOp rfl (by exact ⟨_, rfl, by kernel_rfl⟩) _ _ _ _ _ _ _ rfl rfl rfl (fun w hw => (bin_geq .i64 _ _).trans (by simp [h2]))
      · exact step_pick rfl trivial _ _ _ true rfl (by kernel_rfl) (by kernel_rfl)
      · exact step_move rfl trivial _ rfl (by kernel_rfl)
      · exact step_skip rfl 15 true 20 (.bool false) rfl rfl (by kernel_rfl) (by intro h; cases h) rfl
      · exact step_skip rfl 15 true 20 (.bool false) rfl rfl (by kernel_rfl) (by intro h; cases h) rfl
      · exact step_skip rfl 15 true 20 (.bool false) rfl rfl (by kernel_rfl) (by intro h; cases h) rfl
      · exact step_skip rfl 15 true 20 (.bool false) rfl rfl (by kernel_rfl) (by intro h; cases h) rfl
      · exact step_skip rfl 15 true 20 (.bool false) rfl rfl (by kernel_rfl) (by intro h; cases h) rfl
      · exact step_pick rfl trivial _ _ _ false rfl (by kernel_rfl) (by kernel_rfl)
      · exact step_assign rfl trivial _ rfl (by kernel_rfl) (fun _ h => h)
    intro W hW
    first | refine hK _ _ ?_ | refine (‹∀ (a : Act) (w : World), Code.wp Tryz.prog _ _ a w → _›) _ _ ?_
    simp only [finL, List.getD_cons_zero, List.getD_cons_succ, Nat.zero_add, Nat.reduceAdd, List.setIfInBounds_toArray, List.set_cons_zero, List.set_cons_succ]
    go_wp2
    go_ret
    exact ⟨rfl, hW.below⟩

  case neg =>
    have hb : bt o t k o t' k' = decide (rk t' k' < rk t k) := by
      unfold bt
      simp [h1, h2]
    rw [hb]
    go_enter Tryz.func28, Tryz.ntmps28
    unfold nt
    go_wp2
    rename_i Q0 K0 hK
    refine wp_region_any hmx ?_
    refine wpAny_pure (fun i__ => ([(.pointer (some ⟨w.heap.size, 0, none⟩)), (.int .i64 o), (.pointer (some ⟨(w.heap.size + 1), 0, none⟩)), (.int .i64 o), (.bool true), (.bool true), (nt o t k), (.int .i64 (rk t k)), (.bool true), (.bool true), (.bool true), (nt o (t') (k')), (.int .i64 (rk (t') (k'))), (.bool true), (.bool true), (.bool true), (nt o t k), (.int .i64 (rk t k)), (nt o (t') (k')), (.int .i64 (rk (t') (k'))), (.bool (decide (rk t' k' < rk t k))), (.bool (decide (rk t' k' < rk t k))), (.bool (decide (rk t' k' < rk t k)))] : List Value).getD i__ undef) (fun W => JL w [(w.heap.size, o, t, k), (w.heap.size + 1, o, t', k')] W) (by kernel_rfl) (hj0.carry (Below.refl _ _).drew) ?_ ?_
    · refine (stepsFrom_cons ?_ (stepsFrom_cons ?_ (stepsFrom_cons ?_ (stepsFrom_cons ?_ (stepsFrom_cons ?_ (stepsFrom_cons ?_ (stepsFrom_cons ?_ (stepsFrom_cons ?_ (stepsFrom_cons ?_ (stepsFrom_cons ?_ (stepsFrom_cons ?_ (stepsFrom_cons ?_ (stepsFrom_cons ?_ (stepsFrom_cons ?_ (stepsFrom_cons ?_ (stepsFrom_cons ?_ (stepsFrom_cons ?_ (stepsFrom_cons ?_ (stepsFrom_cons ?_ (stepsFrom_cons ?_ (stepsFrom_cons ?_ (stepsFrom_cons ?_ (stepsFrom_cons ?_ trivial)))))))))))))))))))))))
      · exact step_fieldAddr rfl trivial _ _ _ _ rfl rfl (fun w hw => field_n0 w _)
      · exact step_load rfl trivial _ _ _ rfl rfl (fun w hw => load_n0 (hw.get 0 rfl))
      · exact step_fieldAddr rfl trivial _ _ _ _ rfl rfl (fun w hw => field_n0 w _)
      · exact step_load rfl trivial _ _ _ rfl rfl (fun w hw => load_n0 (hw.get 1 rfl))
      · exact step_binOp rfl trivial _ _ _ _ _ _ _ rfl rfl rfl (fun w hw => (bin_eql .i64 _ _).trans (by simp))
      · exact step_move rfl trivial _ rfl (by kernel_rfl)
      · exact step_load rfl (by exact ⟨_, rfl, by kernel_rfl⟩) _ _ _ rfl rfl (fun w hw => load_nt (hw.get 0 rfl))
      · exact step_call rfl (by exact ⟨_, rfl, by kernel_rfl⟩) 100 _ _ [(nt o t k)] rfl (by kernel_rfl) (enters_of Tryz.func100 (by kernel_rfl) rfl) (fun w hw => (rRank_any o t k w).mono (by rintro e w' ⟨rfl, hb⟩; exact ⟨rfl, hw.carry hb⟩))
      · exact step_binOp rfl (by exact ⟨_, rfl, by kernel_rfl⟩) _ _ _ _ _ _ _ rfl rfl rfl (fun w hw => (bin_geq .i64 _ _).trans (by simp; omega))
      · exact step_pick rfl trivial _ _ _ true rfl (by kernel_rfl) (by kernel_rfl)
      · exact step_move rfl trivial _ rfl (by kernel_rfl)
      · exact step_load rfl (by exact ⟨_, rfl, by kernel_rfl⟩) _ _ _ rfl rfl (fun w hw => load_nt (hw.get 1 rfl))
      · exact step_call rfl (by exact ⟨_, rfl, by kernel_rfl⟩) 100 _ _ [(nt o (t') (k'))] rfl (by kernel_rfl) (enters_of Tryz.func100 (by kernel_rfl) rfl) (fun w hw => (rRank_any o (t') (k') w).mono (by rintro e w' ⟨rfl, hb⟩; exact ⟨rfl, hw.carry hb⟩))
      · exact step_binOp rfl (by exact ⟨_, rfl, by kernel_rfl⟩) _ _ _ _ _ _ _ rfl rfl rfl (fun w hw => (bin_geq .i64 _ _).trans (by simp; omega))
      · exact step_pick rfl trivial _ _ _ true rfl (by kernel_rfl) (by kernel_rfl)
      · exact step_move rfl trivial _ rfl (by kernel_rfl)
      · exact step_load rfl (by exact ⟨_, rfl, by kernel_rfl⟩) _ _ _ rfl rfl (fun w hw => load_nt (hw.get 0 rfl))
      · exact step_call rfl (by exact ⟨_, rfl, by kernel_rfl⟩) 100 _ _ [(nt o t k)] rfl (by kernel_rfl) (enters_of Tryz.func100 (by kernel_rfl) rfl) (fun w hw => (rRank_any o t k w).mono (by rintro e w' ⟨rfl, hb⟩; exact ⟨rfl, hw.carry hb⟩))
      · exact step_load rfl (by exact ⟨_, rfl, by kernel_rfl⟩) _ _ _ rfl rfl (fun w hw => load_nt (hw.get 1 rfl))
      · exact step_call rfl (by exact ⟨_, rfl, by kernel_rfl⟩) 100 _ _ [(nt o (t') (k'))] rfl (by kernel_rfl) (enters_of Tryz.func100 (by kernel_rfl) rfl) (fun w hw => (rRank_any o (t') (k') w).mono (by rintro e w' ⟨rfl, hb⟩; exact ⟨rfl, hw.carry hb⟩))
      · exact step_binOp rfl (by exact ⟨_, rfl, by kernel_rfl⟩) _ _ _ _ _ _ _ rfl rfl rfl (fun w hw => (bin_gtr .i64 _ _).trans rfl)
      · exact step_pick rfl trivial _ _ _ true rfl (by kernel_rfl) (by kernel_rfl)
      · exact step_assign rfl trivial _ rfl (by kernel_rfl) (fun _ h => h)
    intro W hW
    first | refine hK _ _ ?_ | refine (‹∀ (a : Act) (w : World), Code.wp Tryz.prog _ _ a w → _›) _ _ ?_
    simp only [finL, List.getD_cons_zero, List.getD_cons_succ, Nat.zero_add, Nat.reduceAdd, List.setIfInBounds_toArray, List.set_cons_zero, List.set_cons_succ]
    go_wp2
    go_ret
    exact ⟨rfl, hW.below⟩

end Go.Proofs.YtgehmidalfajgabGreatDoor
namespace Go.Proofs.YtgehmidalfajgabGreatDoor
open Go.RowKit Go.Shelf

/-- From there on these notices lie. -/
def NtsAt (W : World) (b off : Nat) (l : List (Int × Int × Int)) : Prop := ∀ k x, l[k]? = some x → W.cell? ⟨b, off + k * 3, none⟩ = some (.int .i64 x.1) ∧ W.cell? ⟨b, off + k * 3 + 1, none⟩ = some (.int .i64 x.2.1) ∧ W.cell? ⟨b, off + k * 3 + 2, none⟩ = some (.int .i64 x.2.2)
/-- A slice of these notices. -/
def RdN (W : World) (ad : Option Addr) (l : List (Int × Int × Int)) : Prop := l ≠ [] → ∃ b off, ad = some ⟨b, off, none⟩ ∧ b < W.heap.size ∧ NtsAt W b off l
theorem RdN.carry {W W' : World} {ad : Option Addr} {l : List (Int × Int × Int)} (h : RdN W ad l) (hb : Below W.heap.size W W') : RdN W' ad l := by
  intro hl
  obtain ⟨b, off, h1, h2, h3⟩ := h hl
  refine ⟨b, off, h1, Nat.lt_of_lt_of_le h2 hb.size, fun k x hk => ?_⟩
  obtain ⟨c0, c1, c2⟩ := h3 k x hk
  exact ⟨(hb.cell (p := ⟨b, _, none⟩) h2).trans c0, (hb.cell (p := ⟨b, _, none⟩) h2).trans c1, (hb.cell (p := ⟨b, _, none⟩) h2).trans c2⟩
/-- Are they of rising nodes, from there on? -/
def ris (n : Int) : Int → List (Int × Int × Int) → Bool
  | _, [] => true
  | a, x :: r => vl n x.1 x.2.1 x.2.2 && (decide (a < x.1) && ris n x.1 r)
theorem ris_step (n a : Int) (x : Int × Int × Int) (l : List (Int × Int × Int)) (k : Nat) (h : l[k]? = some x) : ris n a (l.drop k) = (vl n x.1 x.2.1 x.2.2 && (decide (a < x.1) && ris n x.1 (l.drop (k + 1)))) := by
  obtain ⟨hk, rfl⟩ := List.getElem?_eq_some_iff.1 h
  rw [List.drop_eq_getElem_cons hk]
  rfl
def vnatR (v : Value) : Nat := match v with | .int _ n => n.toNat | _ => 0
end Go.Proofs.YtgehmidalfajgabGreatDoor
