/- Books that hear one another, round about: mathematics. -/
import Derived.Test.YtddblfffjhoiaaaJnJ3
import Derived.Test.YtddblfffjhoiaaaRnt
import Derived.Test.YtddblfffjhoiaaaRows
import Derived.ProofKit
import Derived.OpenShut
import Derived.ChangeOld
import Derived.Below
import Derived.Deep.Slices
import Derived.Deep.Strs
namespace Go.Proofs.Ytddblfffjhoiaaa
open Go.RowKit Go.Shelf Go.Lib

/-- Nothing is said of the first nodes. -/
def Frh (k : Nat) (l : List N3) : Prop := ∀ i, i < k → ∀ x, l[i]? = some x → x = ((i : Int), 0, 1)
theorem rk_fresh : rk 0 1 = 0 := by decide
theorem rkl_ge {l : List N3} (hb : Bok l) {i : Nat} (hi : i < l.length) : 0 ≤ rkl l i := by
  obtain ⟨x, hx⟩ : ∃ x, l[i]? = some x := ⟨_, List.getElem?_eq_getElem hi⟩
  rw [rkl_some hx]
  have h1 := (hb i x hx).2
  rcases rk_neg (t := x.2.1) (k := x.2.2) with h | h
  · exact absurd h h1
  · exact h
/-- What a book has of a node behind another one's news. -/
theorem hear_rk {a b : List N3} (ha : Bok a) (hb : Bok b) (hl : a.length = b.length) (h0 : 1 ≤ a.length) (h1 : a.length ≤ 100) {k s : Nat} (hs : s < k) (hf : Frh k b) (i : Nat) (hi : i < a.length) : rkl (abs a (s : Int) (b.filter pNew)) i = max (rkl a i) (rkl b i) := by
  have hv : (b.filter pNew).all (vlx a.length) = true := by
    rw [hl]
    exact all_filter _ (own_list hb (by omega) (by omega)).1
  have hA : abs a (s : Int) (b.filter pNew) = mrg a (b.filter fun x => nm (s : Int) x && pNew x) := by
    unfold abs
    rw [if_pos hv, List.filter_filter]
  have hvf : (b.filter fun x => nm (s : Int) x && pNew x).all (vlx a.length) = true := by
    rw [hl]
    exact all_filter _ (own_list hb (by omega) (by omega)).1
  obtain ⟨y, hy⟩ : ∃ y, b[i]? = some y := ⟨_, List.getElem?_eq_getElem (by omega)⟩
  rw [hA, mrg_rk ha hvf, hl, upr_part hb (by omega) (by omega) _ hy, rkl_some hy]
  by_cases h : (nm (s : Int) y && pNew y) = true
  · rw [if_pos h]
  · rw [if_neg h]
    have hge := rkl_ge ha hi
    have hy0 : y = ((i : Int), 0, 1) := by
      have hyi := (hb i y hy).1
      cases hp : pNew y with
      | false =>
        simp [pNew] at hp
        rw [hp, hyi]
      | true =>
        have hn : nm (s : Int) y = false := by
          cases h2 : nm (s : Int) y with
          | false => rfl
          | true => rw [h2, hp] at h; exact absurd rfl h
        simp [nm] at hn
        exact hf i (by omega) y hy
    have : rkx y = 0 := by rw [hy0]; exact rk_fresh
    omega
theorem hear_frh {a b : List N3} (ha : Bok a) (hb : Bok b) (hl : a.length = b.length) (h0 : 1 ≤ a.length) (h1 : a.length ≤ 100) {k s : Nat} (hs : s < k) (hf : Frh k b) (hg : Frh k a) : Frh k (abs a (s : Int) (b.filter pNew)) := fun i hi x hx => by
  have hlen := abs_len ha (s : Int) (b.filter pNew)
  have hil : i < a.length := by rw [← hlen]; exact (List.getElem?_eq_some_iff.1 hx).1
  have hbo := abs_bok ha (s : Int) (b.filter pNew)
  obtain ⟨y, hy⟩ : ∃ y, a[i]? = some y := ⟨_, List.getElem?_eq_getElem hil⟩
  obtain ⟨z, hz⟩ : ∃ z, b[i]? = some z := ⟨_, List.getElem?_eq_getElem (by omega)⟩
  have hr := hear_rk ha hb hl h0 h1 hs hf i hil
  have ey := hg i hi y hy
  have ez := hf i hi z hz
  rw [rkl_some hx, rkl_some hy, rkl_some hz, ey, ez] at hr
  have : rkx x = rkx y := by rw [ey, hr]; omega
  rw [← ey]
  exact el_eq hbo ha hx hy this
/-- A notice of a node that is spoken of is taken. -/
def tg (k : Nat) (l : List N3) (x : N3) : List N3 := if (k : Int) ≤ x.1 then tke l x else l
theorem tg_ok {k : Nat} : ∀ (m : List N3) {l : List N3}, Bok l → Frh k l → Bok (m.foldl (tg k) l) ∧ Frh k (m.foldl (tg k) l) ∧ (m.foldl (tg k) l).length = l.length
  | [], l, hb, hf => ⟨hb, hf, rfl⟩
  | x :: m, l, hb, hf => by
    have h1 : Bok (tg k l x) := by unfold tg; split; exact tke_bok hb x; exact hb
    have h2 : Frh k (tg k l x) := by
      unfold tg
      split
      · rename_i hk
        intro i hi y hy
        unfold tke at hy
        split at hy
        · unfold rse at hy
          split at hy
          · rw [List.getElem?_set_ne (by omega)] at hy
            exact hf i hi y hy
          · exact hf i hi y hy
        · exact hf i hi y hy
      · exact hf
    have h3 : (tg k l x).length = l.length := by unfold tg; split; exact tke_len l x; rfl
    obtain ⟨a, b, c⟩ := tg_ok m h1 h2
    exact ⟨a, b, c.trans h3⟩
theorem bk0_frh (N s k : Nat) : Frh k (bk0 N s 0) := fun i _ x hx => by
  have hi : i < N := by have := (List.getElem?_eq_some_iff.1 hx).1; rw [bk0_len] at this; exact this
  rw [bk0_get 0 hi] at hx
  have := (Option.some.inj hx).symm
  rw [this]
  split
  · rename_i e; rw [e]
  · rfl
/-- The greatest of several is one of them, and none beats it. -/
theorem grt_ok (i : Int) : ∀ (xs : List N3), xs ≠ [] → (∀ x ∈ xs, x.1 = i ∧ rkx x ≠ -1) → grt xs ∈ xs ∧ ∀ x ∈ xs, rkx x ≤ rkx (grt xs) := by
  intro xs hne h
  have key : ∀ (ys : List N3) (s : N3), (∀ x ∈ ys, x.1 = i ∧ rkx x ≠ -1) → s.1 = i ∧ rkx s ≠ -1 → ∃ r, ys.foldl gst (true, s) = (true, r) ∧ (r = s ∨ r ∈ ys) ∧ rkx s ≤ rkx r ∧ ∀ x ∈ ys, rkx x ≤ rkx r := by
    intro ys
    induction ys with
    | nil => intro s _ hs; exact ⟨s, rfl, .inl rfl, Int.le_refl _, by simp⟩
    | cons y t ih =>
      intro s hy hs
      have hy1 := hy y (by simp)
      have ht : ∀ x ∈ t, x.1 = i ∧ rkx x ≠ -1 := fun x hx => hy x (List.mem_cons_of_mem _ hx)
      have hbt : btx y s = decide (rkx s < rkx y) := by
        unfold btx bt
        rw [decide_eq_decide]
        constructor
        · rintro ⟨_, _, _, h⟩; exact h
        · intro h; exact ⟨by rw [hy1.1, hs.1], hy1.2, hs.2, h⟩
      by_cases hb : rkx s < rkx y
      · obtain ⟨r, h1, h2, h3, h4⟩ := ih y ht hy1
        have e : gst (true, s) y = (true, y) := by simp [gst, hbt, hb]
        refine ⟨r, by rw [List.foldl_cons, e]; exact h1, .inr (by rcases h2 with rfl | h2; simp; exact List.mem_cons_of_mem _ h2), by omega, fun x hx => ?_⟩
        rcases List.mem_cons.1 hx with rfl | hx
        · exact h3
        · exact h4 x hx
      · obtain ⟨r, h1, h2, h3, h4⟩ := ih s ht hs
        have e : gst (true, s) y = (true, s) := by simp [gst, hbt, hb]
        refine ⟨r, by rw [List.foldl_cons, e]; exact h1, by rcases h2 with rfl | h2; exact .inl rfl; exact .inr (List.mem_cons_of_mem _ h2), h3, fun x hx => ?_⟩
        rcases List.mem_cons.1 hx with rfl | hx
        · omega
        · exact h4 x hx
  cases xs with
  | nil => exact absurd rfl hne
  | cons y t =>
    obtain ⟨r, h1, h2, h3, h4⟩ := key t y (fun x hx => h x (List.mem_cons_of_mem _ hx)) (h y (by simp))
    have e : grt (y :: t) = r := by
      unfold grt
      have : gst (false, (0, 0, 0)) y = (true, y) := by simp [gst]
      rw [List.foldl_cons, this, h1]
    rw [e]
    refine ⟨by rcases h2 with rfl | h2; simp; exact List.mem_cons_of_mem _ h2, fun x hx => ?_⟩
    rcases List.mem_cons.1 hx with rfl | hx
    · exact h3
    · exact h4 x hx
/-- Level of books of one size. -/
theorem lvl_ok {ls : List (List N3)} {n : Nat} (hne : ls ≠ []) (h : ∀ l ∈ ls, Bok l ∧ l.length = n) : lvE ls = 0 ∧ (lvl ls).length = n ∧ Bok (lvl ls) ∧ (∀ l ∈ ls, ∀ i, i < n → rkl l i ≤ rkl (lvl ls) i) ∧ (∀ i, i < n → ∃ l ∈ ls, rkl (lvl ls) i = rkl l i) := by
  have hhd : (ls.headD []).length = n := by
    cases ls with
    | nil => exact absurd rfl hne
    | cons a t => exact (h a (by simp)).2
  have ho : ones ls = true := by
    unfold ones
    rw [List.all_eq_true]
    intro l hl
    rw [hhd]
    exact decide_eq_true (h l hl).2
  have hL : lvl ls = lvs ls n := by unfold lvl; rw [if_pos ⟨hne, ho⟩, hhd]
  have hel : ∀ i, i < n → ∃ x, (lvl ls)[i]? = some x ∧ x ∈ ls.map (fun l => atN l (i : Int)) ∧ ∀ y ∈ ls.map (fun l => atN l (i : Int)), rkx y ≤ rkx x := fun i hi => by
    have hg := grt_ok (i : Int) (ls.map fun l => atN l (i : Int)) (by simpa using hne) (fun x hx => by
      obtain ⟨l, hl, rfl⟩ := List.mem_map.1 hx
      obtain ⟨hb, hn⟩ := h l hl
      obtain ⟨y, hy⟩ : ∃ y, l[i]? = some y := ⟨_, List.getElem?_eq_getElem (by omega)⟩
      rw [atN_at hy]
      exact hb i y hy)
    refine ⟨_, ?_, hg.1, hg.2⟩
    rw [hL]
    unfold lvs lvA
    rw [List.getElem?_map, List.getElem?_range hi]
    rfl
  have hmem : ∀ i, i < n → ∀ l ∈ ls, ∃ y, l[i]? = some y ∧ atN l (i : Int) = y := fun i hi l hl => by
    obtain ⟨y, hy⟩ : ∃ y, l[i]? = some y := ⟨_, List.getElem?_eq_getElem (by rw [(h l hl).2]; exact hi)⟩
    exact ⟨y, hy, atN_at hy⟩
  refine ⟨by simp [lvE, hne, ho], by rw [hL, lvs_len], fun i x hx => ?_, fun l hl i hi => ?_, fun i hi => ?_⟩
  · have hi : i < n := by have := (List.getElem?_eq_some_iff.1 hx).1; rw [hL, lvs_len] at this; exact this
    obtain ⟨x', hx', hm, _⟩ := hel i hi
    rw [hx] at hx'
    cases hx'
    obtain ⟨l, hl, e⟩ := List.mem_map.1 hm
    obtain ⟨y, hy, e2⟩ := hmem i hi l hl
    rw [← e, e2]
    exact (h l hl).1 i y hy
  · obtain ⟨x, hx, _, hm⟩ := hel i hi
    obtain ⟨y, hy, e2⟩ := hmem i hi l hl
    rw [rkl_some hx, rkl_some hy, ← e2]
    exact hm _ (List.mem_map.2 ⟨l, hl, rfl⟩)
  · obtain ⟨x, hx, hm, _⟩ := hel i hi
    obtain ⟨l, hl, e⟩ := List.mem_map.1 hm
    obtain ⟨y, hy, e2⟩ := hmem i hi l hl
    exact ⟨l, hl, by rw [rkl_some hx, rkl_some hy, ← e, e2]⟩
/-- What a book has of a node, by its place. -/
def rq (ls : List (List N3)) (j p : Nat) : Int := rkl ((ls[j]?).getD []) p
/-- All books are of one kind. -/
def Gd (k n : Nat) (ls : List (List N3)) : Prop := ls.length = k ∧ ∀ (j : Nat) l, ls[j]? = some l → Bok l ∧ l.length = n ∧ Frh k l
/-- How far the news have come. -/
structure Ph (k n : Nat) (l0 : List (List N3)) (top : List N3) (r i : Nat) (ls : List (List N3)) : Prop where
  gd : Gd k n ls
  lo : ∀ j p, j < k → p < n → rq l0 j p ≤ rq ls j p
  hi : ∀ j p, j < k → p < n → rq ls j p ≤ rkl top p
  a : r = 0 → i < k → ∀ q, q ≤ i → ∀ p, p < n → rq l0 q p ≤ rq ls i p
  b : r = 0 → i = k → ∀ q, q < k → ∀ p, p < n → rq l0 q p ≤ rq ls 0 p
  c : r = 1 → ∀ q, q ≤ i → q < k → ∀ p, p < n → rkl top p ≤ rq ls q p
  d : 2 ≤ r → ∀ q, q < k → ∀ p, p < n → rkl top p ≤ rq ls q p
theorem rq_set {ls : List (List N3)} {j q p : Nat} {l : List N3} (hj : j < ls.length) : rq (ls.set j l) q p = if q = j then rkl l p else rq ls q p := by
  unfold rq
  by_cases e : q = j
  · subst e
    rw [if_pos rfl, List.getElem?_set_self hj]
    rfl
  · rw [if_neg e, List.getElem?_set_ne (Ne.symm e)]
theorem Ph.step {k n r i : Nat} {l0 ls : List (List N3)} {top : List N3} (h : Ph k n l0 top r i ls) (hik : i < k) (h0 : 1 ≤ n) (h1 : n ≤ 100) {j : Nat} (hj : (i + 1) % k = j) {a b : List N3} (ha : ls[j]? = some a) (hb : ls[i]? = some b) : Ph k n l0 top r (i + 1) (ls.set j (abs a (j : Int) (b.filter pNew))) := by
  have hk0 : 0 < k := by omega
  have hjk : j < k := by rw [← hj]; exact Nat.mod_lt _ hk0
  have hlen := h.gd.1
  obtain ⟨a1, a2, a3⟩ := h.gd.2 j a ha
  obtain ⟨b1, b2, b3⟩ := h.gd.2 i b hb
  have hR : ∀ q p, q < k → p < n → rq (ls.set j (abs a (j : Int) (b.filter pNew))) q p = if q = j then max (rq ls j p) (rq ls i p) else rq ls q p := fun q p _ hp => by
    rw [rq_set (by omega)]
    split
    · rw [hear_rk a1 b1 (by omega) (by omega) (by omega) hjk b3 p (by omega)]
      unfold rq
      rw [ha, hb]
      rfl
    · rfl
  have hge : ∀ q p, q < k → p < n → rq ls q p ≤ rq (ls.set j (abs a (j : Int) (b.filter pNew))) q p := fun q p hq hp => by
    rw [hR q p hq hp]
    split
    · rename_i e; rw [e]; omega
    · omega
  have hj2 : (i + 1 < k → j = i + 1) ∧ (i + 1 = k → j = 0) := ⟨fun e => by rw [← hj, Nat.mod_eq_of_lt e], fun e => by rw [← hj, e, Nat.mod_self]⟩
  refine ⟨⟨by rw [List.length_set]; exact hlen, fun q l hq => ?_⟩, fun q p hq hp => Int.le_trans (h.lo q p hq hp) (hge q p hq hp), fun q p hq hp => ?_, fun hr hi' q hq p hp => ?_, fun hr hi' q hq p hp => ?_, fun hr q hq hqk p hp => ?_, fun hr q hq p hp => Int.le_trans (h.d hr q hq p hp) (hge q p hq hp)⟩
  · by_cases e : q = j
    · subst e
      rw [List.getElem?_set_self (by omega)] at hq
      cases hq
      exact ⟨abs_bok a1 _ _, (abs_len a1 _ _).trans a2, hear_frh a1 b1 (by omega) (by omega) (by omega) hjk b3 a3⟩
    · rw [List.getElem?_set_ne (Ne.symm e)] at hq
      exact h.gd.2 q l hq
  · rw [hR q p hq hp]
    have e1 := h.hi j p hjk hp
    have e2 := h.hi i p hik hp
    split
    · omega
    · exact h.hi q p hq hp
  · have e := hj2.1 hi'
    rw [hR (i + 1) p hi' hp, if_pos e.symm]
    by_cases hqi : q ≤ i
    · have := h.a hr hik q hqi p hp
      omega
    · obtain rfl : q = i + 1 := by omega
      have := h.lo (i + 1) p hi' hp
      rw [e]
      omega
  · have e := hj2.2 hi'
    rw [hR 0 p hk0 hp, if_pos e.symm]
    have := h.a hr hik q (by omega) p hp
    omega
  · by_cases hqi : q ≤ i
    · exact Int.le_trans (h.c hr q hqi hqk p hp) (hge q p hqk hp)
    · obtain rfl : q = i + 1 := by omega
      have e := hj2.1 hqk
      rw [hR (i + 1) p hqk hp, if_pos e.symm]
      have := h.c hr i (Nat.le_refl _) hik p hp
      omega
theorem Ph.next {k n r : Nat} {l0 ls : List (List N3)} {top : List N3} (h : Ph k n l0 top r k ls) (ht : ∀ p, p < n → ∃ q, q < k ∧ rkl top p = rq l0 q p) : Ph k n l0 top (r + 1) 0 ls := by
  have top0 : r = 0 → ∀ p, p < n → rkl top p ≤ rq ls 0 p := fun hr p hp => by
    obtain ⟨q, hq, e⟩ := ht p hp
    rw [e]
    exact h.b hr rfl q hq p hp
  refine ⟨h.gd, h.lo, h.hi, fun e => by omega, fun e => by omega, fun e q hq hqk p hp => ?_, fun e q hq p hp => ?_⟩
  · obtain rfl : q = 0 := by omega
    exact top0 (by omega) p hp
  · by_cases hr1 : r = 1
    · exact h.c hr1 q (by omega) hq p hp
    · exact h.d (by omega) q hq p hp
theorem Ph.done {k n : Nat} {l0 ls : List (List N3)} {top : List N3} (h : Ph k n l0 top k 0 ls) (hk : 1 ≤ k) (ht : Bok top) (hn : top.length = n) {q : Nat} {l : List N3} (hq : ls[q]? = some l) : l = top := by
  obtain ⟨l1, l2, _⟩ := h.gd.2 q l hq
  have hqk : q < k := by have := (List.getElem?_eq_some_iff.1 hq).1; rw [h.gd.1] at this; exact this
  have e : ∀ p, rq ls q p = rkl l p := fun p => by unfold rq; rw [hq]; rfl
  refine bok_ext l1 ht (by omega) (fun p hp => ?_)
  have h1 := h.hi q p hqk (by omega)
  have h2 : rkl top p ≤ rq ls q p := by
    by_cases hk1 : k = 1
    · exact h.c hk1 q (by omega) hqk p (by omega)
    · exact h.d (by omega) q hqk p (by omega)
  rw [e] at h1 h2
  omega
end Go.Proofs.Ytddblfffjhoiaaa
namespace Go.Proofs.Ytddblfffjhoiaaa
open Go.RowKit Go.Shelf Go.Lib

def pB (x : Nat × Nat × List N3) : Value := .pointer (some ⟨x.1, 0, none⟩)
/-- A row of books, and the books. -/
structure JGo (w : World) (k : Nat) (B : List (Nat × Nat × List N3)) (va : Value) (V : World) : Prop where
  bks : Bks w B V
  row : V.ownsRow w.heap.size 25 1 va k (B.map pB)
theorem JGo.carry {w : World} {k : Nat} {B : List (Nat × Nat × List N3)} {va : Value} {V V' : World} (h : JGo w k B va V) (hb : Below V.heap.size V V') : JGo w k B va V' := ⟨h.bks.carry hb, row_below h.row hb⟩
theorem row_off {V V' : World} {base k : Nat} {va : Value} {xs : List Value} {g : Nat} {cur : Array Value} {t : TypeId} (h : V.ownsRow base 25 1 va k xs) (hc : V.heap[g]? = some (.cells cur t (0, 0))) (ht : t ≠ 25) (hg : V.grownBy V' (some g)) : V'.ownsRow base 25 1 va k xs := by
  obtain ⟨h1, h2⟩ := h
  refine ⟨h1, ?_⟩
  rcases h2 with h2 | ⟨b, cap, cur', h3, h4, h5, h6⟩
  · exact .inl h2
  · refine .inr ⟨b, cap, cur', h3, h4, (hg.block b (lt_at h5) (fun e => ?_)).trans h5, h6⟩
    have e' : b = g := by simpa using e
    subst e'
    rw [hc] at h5
    cases h5
    exact ht rfl
theorem map_set {B : List (Nat × Nat × List N3)} {i p g : Nat} {l l' : List N3} (hi : B[i]? = some (p, g, l)) : (B.set i (p, g, l')).map pB = B.map pB := by
  refine List.ext_getElem? (fun j => ?_)
  rw [List.getElem?_map, List.getElem?_map]
  by_cases e : j = i
  · subst e
    rw [List.getElem?_set_self (List.getElem?_eq_some_iff.1 hi).1, hi]
    rfl
  · rw [List.getElem?_set_ne (Ne.symm e)]
theorem JGo.turn {w : World} {k : Nat} {B : List (Nat × Nat × List N3)} {va : Value} {V V' : World} (h : JGo w k B va V) {i p g : Nat} {l l' : List N3} (hi : B[i]? = some (p, g, l)) (hk : Bk V' p g l') (hg : V.grownBy V' (some g)) : JGo w k (B.set i (p, g, l')) va V' :=
  ⟨h.bks.turn i hi hk hg, by rw [map_set hi]; exact row_off h.row (h.bks.get i hi).row (by decide) hg⟩
theorem JGo.at {w : World} {k : Nat} {B : List (Nat × Nat × List N3)} {va : Value} {V : World} (h : JGo w k B va V) (hk : B.length = k) : ∃ a c, va = .slice a k c ∧ (B ≠ [] → ∃ b, a = some ⟨b, 0, none⟩ ∧ b < V.heap.size ∧ ∀ (i : Nat) x, B[i]? = some x → V.cell? ⟨b, i, none⟩ = some (pB x)) := by
  rcases own_form h.row with ⟨e1, e2⟩ | ⟨g, cap, e1, h1, h2, h3⟩
  · subst e1
    subst e2
    exact ⟨none, 0, rfl, fun hne => absurd (List.length_eq_zero_iff.1 hk) hne⟩
  · have hr := h.row
    rw [e1] at hr
    refine ⟨_, cap, e1, fun _ => ⟨g, rfl, h2, fun i x hx => ?_⟩⟩
    have hlt := (List.getElem?_eq_some_iff.1 hx).1
    exact (hr.cellAt i (by omega)).trans (by rw [List.getElem?_map, hx]; rfl)
theorem JGo.bvs {w : World} {k n : Nat} {B : List (Nat × Nat × List N3)} {a : Option Addr} {c : Nat} {V : World} (h : JGo w k B (.slice a k c) V) (hk : B.length = k) (h0 : 1 ≤ n) (h1 : n ≤ 100) (hl : ∀ (i : Nat) x, B[i]? = some x → Bok x.2.2 ∧ x.2.2.length = n) : BVs V a (B.map pB) (B.map (·.2.2)) := by
  obtain ⟨a', c', e, hc⟩ := h.at hk
  cases e
  refine ⟨by simp, fun hne => ?_, fun i v l h2 h3 => ?_⟩
  · obtain ⟨b, e, hb, hx⟩ := hc (by simpa using hne)
    refine ⟨b, 0, e, hb, fun i v hv => ?_⟩
    rw [List.getElem?_map] at hv
    obtain ⟨x, hx1, rfl⟩ := Option.map_eq_some_iff.1 hv
    rw [Nat.zero_add]
    exact hx i x hx1
  · rw [List.getElem?_map] at h2 h3
    obtain ⟨x, hx1, rfl⟩ := Option.map_eq_some_iff.1 h2
    rw [hx1] at h3
    obtain ⟨b1, b2⟩ := hl i x hx1
    have e : x.2.2 = l := Option.some.inj h3
    subst e
    exact bv_of (h.bks.all i x hx1) (by omega) (by omega) b1
theorem info_bpP : ∃ i, Try.prog.info? 25 = some i ∧ i.zero = some (.pointer none) ∧ i.size = 1 ∧ i.bytes = 8 := by
  have h : (Try.prog.info? 25).map (fun i => (i.zero, i.size, i.bytes)) = some (some (.pointer none), 1, 8) := by kernel_rfl
  cases hi : Try.prog.info? 25 with
  | none => simp [hi] at h
  | some i =>
    simp [hi] at h
    exact ⟨i, rfl, h.1, h.2.1, h.2.2⟩
/-- A book is put behind the row. -/
theorem JGo.app {w : World} {k : Nat} {B : List (Nat × Nat × List N3)} {x : Nat × Nat × List N3} {va v' : Value} {W V : World} (hb : Bks w (B ++ [x]) W) (hr : W.ownsRow w.heap.size 25 1 va k (B.map pB)) (hg : W.grownBy V va.ownBlock) (ho : V.ownsRow w.heap.size 25 1 v' (k + 1) (B.map pB ++ [pB x])) : JGo w (k + 1) (B ++ [x]) v' V := by
  refine ⟨⟨fun i y hy => ?_, hb.new, hb.apart, hb.below.grown hg hb.below.size (fun b e => own_block hr b e)⟩, by simpa using ho⟩
  have hk := hb.all i y hy
  have kt : ∀ {b : Nat} {cur : Array Value} {t : TypeId}, W.heap[b]? = some (.cells cur t (0, 0)) → t ≠ 25 → V.heap[b]? = some (.cells cur t (0, 0)) := fun {b cur t} hc ht => by
    refine (hg.block _ (lt_at hc) (fun e => ?_)).trans hc
    rcases hr.2 with ⟨e2, _⟩ | ⟨g, cap, cur', h3, h4, h5, h6⟩
    · rw [e2] at e
      cases e
    · rw [h3] at e
      have e' : b = g := by simpa [Value.ownBlock] using e
      subst e'
      rw [hc] at h5
      cases h5
      exact ht rfl
  exact ⟨kt hk.obj (by decide), kt hk.row (by decide)⟩
/-- While one hears another one. -/
def JH (w : World) (k : Nat) (B B' : List (Nat × Nat × List N3)) (va : Value) (adT : Option Addr) (top nw : List N3) (q : Option Addr × Nat) (x y : Bool) (V : World) : Prop := match y with
  | false => JGo w k B va V ∧ RdN V adT top ∧ (x = true → RdN V q.1 nw)
  | true => JGo w k B' va V ∧ RdN V adT top
theorem jh_cell {w : World} {k : Nat} {B B' : List (Nat × Nat × List N3)} {gB cB : Nat} {adT : Option Addr} {top nw : List N3} {q : Option Addr × Nat} {x y : Bool} {V : World} (h : JH w k B B' (.slice (some ⟨gB, 0, none⟩) k cB) adT top nw q x y V) (hm : B'.map pB = B.map pB) (hk : B.length = k) {i : Nat} {z : Nat × Nat × List N3} (hi : B[i]? = some z) : V.cell? ⟨gB, i, none⟩ = some (.pointer (some ⟨z.1, 0, none⟩)) := by
  have hr : V.ownsRow w.heap.size 25 1 (.slice (some ⟨gB, 0, none⟩) k cB) k (B.map pB) := by
    cases y with
    | false => exact h.1.row
    | true => rw [← hm]; exact h.1.row
  have hlt := (List.getElem?_eq_some_iff.1 hi).1
  exact (hr.cellAt i (by omega)).trans (by rw [List.getElem?_map, hi]; rfl)
theorem map_at {B : List (Nat × Nat × List N3)} {i : Nat} {l : List N3} (h : (B.map (·.2.2))[i]? = some l) : ∃ p g, B[i]? = some (p, g, l) := by
  rw [List.getElem?_map] at h
  obtain ⟨x, hx, e⟩ := Option.map_eq_some_iff.1 h
  exact ⟨x.1, x.2.1, by rw [hx, ← e]⟩
theorem map_set2 {B : List (Nat × Nat × List N3)} {i p g : Nat} {l : List N3} : (B.set i (p, g, l)).map (·.2.2) = (B.map (·.2.2)).set i l := by
  rw [List.map_set]
theorem set_last {α : Type} (B : List α) (x y : α) : (B ++ [x]).set B.length y = B ++ [y] := by
  rw [List.set_append_right _ _ (Nat.le_refl _)]
  simp
theorem get_last {α : Type} (B : List α) (x : α) : (B ++ [x])[B.length]? = some x := by simp
theorem fold_take {k : Nat} {m : List N3} {l : List N3} {j : Nat} {x : N3} (hx : m[j]? = some x) : (m.take (j + 1)).foldl (tg k) l = tg k ((m.take j).foldl (tg k) l) x := by
  rw [List.take_add_one, hx, Option.toList_some, List.foldl_append]
  rfl
theorem idx_pb (gb n cap i : Nat) (h : i < n) (W : World) : (Instr.indexAt 45 (.slice (some ⟨gb, 0, none⟩) n cap) (.int .i64 (i : Int))).run Try.prog W = .ok (.pointer (some ⟨gb, i, none⟩)) W := by
  have := idx_p gb 0 n cap i h W
  rw [Nat.zero_add] at this
  exact this
theorem bin_addb {P : Program} {t : TypeId} {x y : Operand} {w : World} (a : Nat) (h : a < 1000) : binRun P .add t x y (.int .i64 (a : Int)) (.int .i64 1) w = .ok (.int .i64 ((a + 1 : Nat) : Int)) w := by
  refine bin_add64 _ _ _ ?_
  rw [IntKind.wrap_i64]
  omega
end Go.Proofs.Ytddblfffjhoiaaa
namespace Go.Proofs.Ytddblfffjhoiaaa
open Go.ChangeShapes Go.WideShapes Go.ChangeAt Go.RowKit

theorem cellsIM : Try.prog.cellsOf 3 = 1 := by kernel_rfl
theorem cellsNM : Try.prog.cellsOf 32 = 3 := by kernel_rfl
theorem cell_ltM {W : World} {a : Addr} {v : Value} (h : W.cell? a = some v) : a.block < W.heap.size := by
  unfold World.cell? at h
  cases hb : W.heap[a.block]? with
  | none => simp [hb] at h
  | some o => exact (Array.getElem?_eq_some_iff.1 hb).1
/-- One notice, out of its cells. -/
theorem one_nt {H : Type} {enc : TypeId × Value → H} {W : World} {n : Nat} {cs : List Value} {x : DataW H × List MemPlace} (hl : cs.length = 3) (h : DataW.trod enc Try.prog W 0 (fun _ => true) true n 32 cs = some x) : ∃ o t k : Int, cs = [.int .i64 o, .int .i64 t, .int .i64 k] := by
  obtain ⟨y0, y1, y2, m, hx, _, hy0, hy1, hy2⟩ := Deep.trod_struct3 Try.underlying32 h
  match cs, hl with
  | [c0, c1, c2], _ =>
    obtain ⟨x0, e0, _, _⟩ := DataW.trod_int Try.underlying3 hy0
    obtain ⟨x1, e1, _, _⟩ := DataW.trod_int Try.underlying3 hy1
    obtain ⟨x2, e2, _, _⟩ := DataW.trod_int Try.underlying3 hy2
    simp [cellsIM] at e0 e1 e2
    subst e0 e1 e2
    exact ⟨x0, x1, x2, rfl⟩
set_option maxRecDepth 100000 in
theorem open_nts {H : Type} {enc : TypeId × Value → H} {W : World} {base : Nat} {v : Value} {d : DataW H} {p : List MemPlace} (hval : Value.okWide Try.prog W .any base 22 v)
    (h : DataW.Trod enc Try.prog W 0 (fun _ => true) true 22 v d p) : ∃ (ad : Option Addr) (cap : Nat) (l : List (Int × Int × Int)), v = .slice ad l.length cap ∧ RdN W ad l ∧ (ad = none → cap = 0) ∧ l.length ≤ cap ∧ (l = [] ∨ ∃ E S, d = .slice E S ∧ E.length = l.length) := by
  obtain ⟨a0, len0, cap0, rfl⟩ := okWide_slice Try.underlying22 hval
  obtain ⟨fuel, hf⟩ := h
  rcases Deep.open_slice Try.underlying22 hf with ⟨hcs, _⟩ | ⟨a, len, cap, m, n, D, Pl, hcs, _, hlc, hcm, hmm, hx, hel⟩
  · simp [Value.cells] at hcs
    obtain ⟨rfl, rfl, rfl⟩ := hcs
    exact ⟨none, 0, [], rfl, fun h => absurd rfl h, fun _ => rfl, Nat.le_refl _, .inl rfl⟩
  · simp [Value.cells] at hcs
    obtain ⟨rfl, rfl, rfl⟩ := hcs
    have hm : m = cap0 := by simpa using hmm
    have each : ∀ i, i < len0 → ∃ x : Int × Int × Int, W.cell? (a.add (i * 3)) = some (.int .i64 x.1) ∧ W.cell? (a.add (i * 3 + 1)) = some (.int .i64 x.2.1) ∧ W.cell? (a.add (i * 3 + 2)) = some (.int .i64 x.2.2) := by
      intro i hi
      obtain ⟨cs, h1, h2⟩ := hel i (by omega)
      rw [cellsNM] at h1
      obtain ⟨_, hlen, hcell⟩ := World.cells?_some h1
      obtain ⟨o, t, k, rfl⟩ := one_nt hlen h2
      have e0 := hcell 0 (by omega)
      have e1 := hcell 1 (by omega)
      have e2 := hcell 2 (by omega)
      rw [Deep.add_add] at e0 e1 e2
      exact ⟨(o, t, k), by simpa using e0, by simpa using e1, by simpa using e2⟩
    obtain ⟨q, hq⟩ := Deep.choose_lt each
    refine ⟨some a, cap0, (List.range len0).map q, by simp, fun hne => ?_, (by intro e; cases e), (by simpa using hlc), .inr ⟨_, _, (Prod.mk.inj hx).1, by simp⟩⟩
    have hpos : 0 < len0 := by
      cases len0 with
      | zero => simp at hne
      | succ n => omega
    obtain ⟨b', off', x'⟩ := a
    have hx' : x' = none := by simpa [Addr.add] using World.cell?_spot (hq 0 hpos).1
    subst hx'
    have hadd : ∀ j, (⟨b', off', none⟩ : Addr).add j = ⟨b', off' + j, none⟩ := fun j => by unfold Addr.add; split <;> simp_all
    refine ⟨b', off', rfl, ?_, fun k y hy => ?_⟩
    · have := cell_ltM (hq 0 hpos).1
      rw [hadd] at this
      exact this
    · rw [List.getElem?_map] at hy
      obtain ⟨k', hk', rfl⟩ := Option.map_eq_some_iff.1 hy
      have hk := (List.getElem?_eq_some_iff.1 hk').1
      simp at hk
      have hkk : k' = k := by
        rw [List.getElem?_range hk] at hk'
        exact (Option.some.inj hk').symm
      subst hkk
      obtain ⟨c0, c1, c2⟩ := hq k' hk
      rw [hadd] at c0 c1 c2
      exact ⟨c0, by simpa [Nat.add_assoc] using c1, by simpa [Nat.add_assoc] using c2⟩
end Go.Proofs.Ytddblfffjhoiaaa
namespace Go.Proofs.Ytddblfffjhoiaaa
open Go.ChangeShapes Go.WideShapes Go.ChangeAt Go.RowKit

set_option maxRecDepth 100000 in
theorem cs_nts {H : Type} {enc : TypeId × Value → H} {W : World} {fuel : Nat} {cs : List Value} {x : DataW H × List MemPlace} (hf : DataW.trod enc Try.prog W 0 (fun _ => true) true fuel 22 cs = some x) : ∃ (ad : Option Addr) (cap : Nat) (l : List (Int × Int × Int)), cs = [.slice ad l.length cap] ∧ RdN W ad l ∧ (ad = none → cap = 0) ∧ l.length ≤ cap := by
  obtain ⟨d, p⟩ := x
  rcases Deep.open_slice Try.underlying22 hf with ⟨hcs, _⟩ | ⟨a, len, cap, m, n, D, Pl, hcs, _, hlc, hcm, hmm, hx, hel⟩
  · exact ⟨none, 0, [], hcs, fun h => absurd rfl h, fun _ => rfl, Nat.le_refl _⟩
  · have hm : m = cap := by simpa using hmm
    have each : ∀ i, i < len → ∃ x : Int × Int × Int, W.cell? (a.add (i * 3)) = some (.int .i64 x.1) ∧ W.cell? (a.add (i * 3 + 1)) = some (.int .i64 x.2.1) ∧ W.cell? (a.add (i * 3 + 2)) = some (.int .i64 x.2.2) := by
      intro i hi
      obtain ⟨cs, h1, h2⟩ := hel i (by omega)
      rw [cellsNM] at h1
      obtain ⟨_, hlen, hcell⟩ := World.cells?_some h1
      obtain ⟨o, t, k, rfl⟩ := one_nt hlen h2
      have e0 := hcell 0 (by omega)
      have e1 := hcell 1 (by omega)
      have e2 := hcell 2 (by omega)
      rw [Deep.add_add] at e0 e1 e2
      exact ⟨(o, t, k), by simpa using e0, by simpa using e1, by simpa using e2⟩
    obtain ⟨q, hq⟩ := Deep.choose_lt each
    refine ⟨some a, cap, (List.range len).map q, by simpa using hcs, fun hne => ?_, fun e => (by cases e), by simpa using hlc⟩
    have hpos : 0 < len := by
      cases len with
      | zero => simp at hne
      | succ n => omega
    obtain ⟨b', off', x'⟩ := a
    have hx' : x' = none := by simpa [Addr.add] using World.cell?_spot (hq 0 hpos).1
    subst hx'
    have hadd : ∀ j, (⟨b', off', none⟩ : Addr).add j = ⟨b', off' + j, none⟩ := fun j => by unfold Addr.add; split <;> simp_all
    refine ⟨b', off', rfl, ?_, fun k y hy => ?_⟩
    · have := cell_ltM (hq 0 hpos).1
      rw [hadd] at this
      exact this
    · rw [List.getElem?_map] at hy
      obtain ⟨k', hk', rfl⟩ := Option.map_eq_some_iff.1 hy
      have hk := (List.getElem?_eq_some_iff.1 hk').1
      simp at hk
      have hkk : k' = k := by
        rw [List.getElem?_range hk] at hk'
        exact (Option.some.inj hk').symm
      subst hkk
      obtain ⟨c0, c1, c2⟩ := hq k' hk
      rw [hadd] at c0 c1 c2
      exact ⟨c0, by simpa [Nat.add_assoc] using c1, by simpa [Nat.add_assoc] using c2⟩
/-- A slice of slices of notices. -/
def RdNN (W : World) (ad : Option Addr) (ls : List (List (Int × Int × Int))) : Prop := ls ≠ [] → ∃ b off, ad = some ⟨b, off, none⟩ ∧ b < W.heap.size ∧ ∀ (i : Nat) (l : List (Int × Int × Int)), ls[i]? = some l → ∃ adi capi, W.cell? ⟨b, off + i, none⟩ = some (.slice adi l.length capi) ∧ RdN W adi l ∧ (adi = none → capi = 0)
set_option maxRecDepth 100000 in
theorem RdNN.carry {W W' : World} {ad : Option Addr} {ls : List (List (Int × Int × Int))} (h : RdNN W ad ls) (hb : Below W.heap.size W W') : RdNN W' ad ls := by
  intro hl
  obtain ⟨b, off, h1, h2, h3⟩ := h hl
  refine ⟨b, off, h1, Nat.lt_of_lt_of_le h2 hb.size, fun i l hi => ?_⟩
  obtain ⟨adi, capi, c, hr, hc⟩ := h3 i l hi
  exact ⟨adi, capi, (hb.cell (p := ⟨b, _, none⟩) h2).trans c, hr.carry hb, hc⟩
set_option maxRecDepth 100000 in
theorem cellsSM : Try.prog.cellsOf 22 = 1 := by kernel_rfl
set_option maxRecDepth 100000 in
set_option maxRecDepth 100000 in
theorem open_ntss {H : Type} {enc : TypeId × Value → H} {W : World} {base : Nat} {v : Value} {d : DataW H} {p : List MemPlace} (hval : Value.okWide Try.prog W .any base 44 v)
    (h : DataW.Trod enc Try.prog W 0 (fun _ => true) true 44 v d p) : ∃ (ad : Option Addr) (cap : Nat) (ls : List (List (Int × Int × Int))), v = .slice ad ls.length cap ∧ RdNN W ad ls := by
  obtain ⟨a0, len0, cap0, rfl⟩ := okWide_slice Try.underlying44 hval
  obtain ⟨fuel, hf⟩ := h
  rcases Deep.open_slice Try.underlying44 hf with ⟨hcs, _⟩ | ⟨a, len, cap, m, n, D, Pl, hcs, _, hlc, hcm, hmm, hx, hel⟩
  · simp [Value.cells] at hcs
    obtain ⟨rfl, rfl, rfl⟩ := hcs
    exact ⟨none, 0, [], rfl, fun h => absurd rfl h⟩
  · simp [Value.cells] at hcs
    obtain ⟨rfl, rfl, rfl⟩ := hcs
    have hm : m = cap0 := by simpa using hmm
    have each : ∀ i, i < len0 → ∃ l : List (Int × Int × Int), ∃ adi capi, W.cell? (a.add i) = some (.slice adi l.length capi) ∧ RdN W adi l ∧ (adi = none → capi = 0) := by
      intro i hi
      obtain ⟨cs, h1, h2⟩ := hel i (by omega)
      rw [cellsSM] at h1
      obtain ⟨_, hlen, hcell⟩ := World.cells?_some h1
      obtain ⟨adi, capi, l, rfl, hr, hc, _⟩ := cs_nts h2
      have e0 := hcell 0 (by omega)
      rw [Deep.add_add] at e0
      exact ⟨l, adi, capi, by simpa using e0, hr, hc⟩
    obtain ⟨q, hq⟩ := Deep.choose_lt each
    refine ⟨some a, cap0, (List.range len0).map q, by simp, fun hne => ?_⟩
    have hpos : 0 < len0 := by
      cases len0 with
      | zero => simp at hne
      | succ n => omega
    obtain ⟨b', off', x'⟩ := a
    obtain ⟨ad0, cap0', c0, _⟩ := hq 0 hpos
    have hx' : x' = none := by simpa [Addr.add] using World.cell?_spot c0
    subst hx'
    have hadd : ∀ j, (⟨b', off', none⟩ : Addr).add j = ⟨b', off' + j, none⟩ := fun j => by unfold Addr.add; split <;> simp_all
    refine ⟨b', off', rfl, ?_, fun k y hy => ?_⟩
    · have := cell_ltM c0
      rw [hadd] at this
      exact this
    · rw [List.getElem?_map] at hy
      obtain ⟨k', hk', rfl⟩ := Option.map_eq_some_iff.1 hy
      have hk := (List.getElem?_eq_some_iff.1 hk').1
      simp at hk
      have hkk : k' = k := by
        rw [List.getElem?_range hk] at hk'
        exact (Option.some.inj hk').symm
      subst hkk
      obtain ⟨adi, capi, c, hr⟩ := hq k' hk
      rw [hadd] at c
      exact ⟨adi, capi, c, hr⟩
end Go.Proofs.Ytddblfffjhoiaaa
