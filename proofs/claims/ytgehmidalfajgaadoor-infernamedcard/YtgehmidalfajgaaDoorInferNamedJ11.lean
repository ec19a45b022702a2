/- Doubts that are taken: mathematics. -/
import Derived.Test.YtgehmidalfajgaaDoorInferNamedJ6
import Derived.Test.YtgehmidalfajgaaDoorInferNamedJ10
import Derived.Test.YtgehmidalfajgaaDoorInferNamedJ5
import Derived.Test.YtgehmidalfajgaaDoorSlg
namespace Go.Proofs.YtgehmidalfajgaaDoor

/-- Doubts of a book: each of another node, of which the book has the mistake at that tag. -/
structure Dok (L D : List N3) : Prop where
  each : ∀ d ∈ D, ∃ (i : Nat) (t : Int), d = ((i : Int), t, 2) ∧ L[i]? = some ((i : Int), t, 1)
  apart : D.Pairwise (fun a b => a.1 ≠ b.1)
theorem dbF_some {L : List N3} (hb : Bok L) {i : Nat} {d : N3} (h : dbF L i = some d) : ∃ t, d = ((i : Int), t, 2) ∧ L[i]? = some ((i : Int), t, 1) := by
  unfold dbF at h
  cases hx : L[i]? with
  | none => rw [hx] at h; cases h
  | some x =>
    rw [hx] at h
    have hx1 := (hb i x hx).1
    obtain ⟨a, t, k⟩ := x
    dsimp only at h hx1
    split at h
    · next hk =>
      subst hk hx1
      cases h
      exact ⟨t, rfl, rfl⟩
    · cases h
theorem dbF_none {L : List N3} {i : Nat} (h : L[i]? = none) : dbF L i = none := by
  unfold dbF
  rw [h]
theorem dbF_at {L : List N3} {i : Nat} {x : N3} (h : L[i]? = some x) : dbF L i = if x.2.2 = 1 then some ((i : Int), x.2.1, 2) else none := by
  unfold dbF
  rw [h]
theorem dbs_ok {L : List N3} (hb : Bok L) {ids : List Nat} (hn : ids.Nodup) : Dok L (dbs L ids) := by
  refine ⟨fun d hd => ?_, ?_⟩
  · obtain ⟨i, _, hi⟩ := List.mem_filterMap.1 hd
    obtain ⟨t, h1, h2⟩ := dbF_some hb hi
    exact ⟨i, t, h1, h2⟩
  · unfold dbs
    rw [List.pairwise_filterMap]
    refine List.Pairwise.imp ?_ hn
    intro a b hab x hx y hy e
    obtain ⟨_, rfl, _⟩ := dbF_some hb hx
    obtain ⟨_, rfl, _⟩ := dbF_some hb hy
    have e' : (a : Int) = (b : Int) := e
    exact hab (by omega)
theorem ids_nodup (M n : Nat) : (idsTo M n).Nodup := List.Pairwise.filter _ List.nodup_range
/-- Whether a node is doubted. -/
def isD (D : List N3) (o : Int) : Bool := D.any (fun d => decide (d.1 = o))
/-- The book in which these doubts were taken. -/
def upF (L D : List N3) : List N3 := L.map (fun x => if isD D x.1 = true then (x.1, x.2.1, 2) else x)
theorem upF_len (L D : List N3) : (upF L D).length = L.length := by simp [upF]
theorem upF_nil (L : List N3) : upF L [] = L := by
  unfold upF isD
  simp
theorem upF_get (L D : List N3) (i : Nat) (x : N3) (h : L[i]? = some x) : (upF L D)[i]? = some (if isD D x.1 = true then (x.1, x.2.1, 2) else x) := by
  simp [upF, h]
theorem upF_bok {L D : List N3} (hb : Bok L) : Bok (upF L D) := by
  intro i y hy
  cases hx : L[i]? with
  | none =>
    have : (upF L D)[i]? = none := by simp [upF, hx]
    rw [this] at hy
    cases hy
  | some x =>
    rw [upF_get L D i x hx] at hy
    obtain ⟨h1, h2⟩ := hb i x hx
    split at hy
    · cases hy
      refine ⟨h1, ?_⟩
      have := rk_ok.1 h2
      exact rk_ok.2 ⟨this.1, this.2.1, .inr rfl⟩
    · cases hy
      exact ⟨h1, h2⟩
section
variable {L D : List N3} {k : Nat} {d : N3}
/-- What is looked at and taken in a round. -/
theorem Dok.round (h : Dok L D) (hb : Bok L) (h1 : L.length ≤ 100) (hk : D[k]? = some d) : ∃ (i : Nat) (t : Int), d = ((i : Int), t, 2) ∧ i < L.length ∧ (upF L (D.take k))[i]? = some ((i : Int), t, 1) ∧ vlx (upF L (D.take k)).length d = true ∧ bat (upF L (D.take k)) d = true ∧ tke (upF L (D.take k)) d = upF L (D.take (k + 1)) := by
  obtain ⟨i, t, rfl, hL⟩ := h.each d (List.mem_of_getElem? hk)
  have hi : i < L.length := (List.getElem?_eq_some_iff.1 hL).1
  have hr := rk_ok.1 (hb i _ hL).2
  dsimp only at hr
  have hne : isD (D.take k) (i : Int) = false := by
    unfold isD
    rw [List.any_eq_false]
    intro e he
    have he' : e.1 ≠ (i : Int) := by
      obtain ⟨j, hj⟩ := List.getElem?_of_mem he
      rw [List.getElem?_take] at hj
      split at hj
      · next hjk =>
        have := (List.pairwise_iff_getElem.1 h.apart) j k (List.getElem?_eq_some_iff.1 hj).1 (List.getElem?_eq_some_iff.1 hk).1 hjk
        rw [(List.getElem?_eq_some_iff.1 hj).2, (List.getElem?_eq_some_iff.1 hk).2] at this
        exact this
      · cases hj
    simpa using he'
  have hg := upF_get L (D.take k) i _ hL
  rw [if_neg (by rw [hne]; decide)] at hg
  have hv : vlx (upF L (D.take k)).length ((i : Int), t, 2) = true := by
    rw [upF_len]
    exact vlx_iff.2 ⟨by omega, h1, by simp, by simpa using hi, rk_ok.2 ⟨hr.1, hr.2.1, .inr rfl⟩⟩
  have hbt : bat (upF L (D.take k)) ((i : Int), t, 2) = true := by
    unfold bat
    rw [show ((i : Int), t, (2 : Int)).1.toNat = i by simp, hg]
    show btx ((i : Int), t, 2) ((i : Int), t, 1) = true
    unfold btx bt
    have q : ¬ (t < 0 ∨ 1048576 < t) := by omega
    simp only [rk_m q, rk_s q]
    simp
    omega
  refine ⟨i, t, rfl, hi, hg, hv, hbt, ?_⟩
  unfold tke
  rw [if_pos hv]
  unfold rse
  rw [if_pos hbt]
  have e : D.take (k + 1) = D.take k ++ [((i : Int), t, 2)] := by rw [List.take_add_one, hk]; rfl
  apply List.ext_getElem?
  intro j
  rw [show ((i : Int), t, (2 : Int)).1.toNat = i by simp, List.getElem?_set]
  by_cases hij : i = j
  · subst hij
    rw [if_pos rfl, if_pos (by rw [upF_len]; exact hi), upF_get L (D.take (k + 1)) i _ hL, if_pos]
    rw [e]
    simp [isD]
  · rw [if_neg hij]
    cases hx : L[j]? with
    | none =>
      have e1 : (upF L (D.take k))[j]? = none := by simp [upF, hx]
      have e2 : (upF L (D.take (k + 1)))[j]? = none := by simp [upF, hx]
      rw [e1, e2]
    | some x =>
      have hx1 := (hb j x hx).1
      rw [upF_get L _ j x hx, upF_get L _ j x hx]
      have e3 : isD (D.take (k + 1)) x.1 = isD (D.take k) x.1 := by
        rw [e]
        unfold isD
        rw [List.any_append]
        have : ¬ (i : Int) = x.1 := by rw [hx1]; omega
        simp [this]
      rw [e3]
end
/-- Whom the doubts are of. -/
theorem isD_dbs {L : List N3} (hb : Bok L) (ids : List Nat) {i : Nat} {x : N3} (hx : L[i]? = some x) : isD (dbs L ids) (i : Int) = (decide (i ∈ ids) && decide (x.2.2 = 1)) := by
  unfold isD
  rw [Bool.eq_iff_iff, List.any_eq_true, Bool.and_eq_true, decide_eq_true_eq, decide_eq_true_eq]
  constructor
  · rintro ⟨d, hd, he⟩
    obtain ⟨j, hj, hjd⟩ := List.mem_filterMap.1 hd
    obtain ⟨t, rfl, hL⟩ := dbF_some hb hjd
    have he' : (j : Int) = (i : Int) := by simpa using he
    obtain rfl : j = i := by omega
    rw [hx] at hL
    cases hL
    exact ⟨hj, rfl⟩
  · rintro ⟨h1, h2⟩
    refine ⟨((i : Int), x.2.1, 2), List.mem_filterMap.2 ⟨i, h1, ?_⟩, by simp⟩
    unfold dbF
    rw [hx]
    simp [h2]
/-- Behind all doubts: who is suspected; that nobody is doubted any more. -/
theorem up_sus {L : List N3} (hb : Bok L) (h1 : L.length ≤ 100) (M : Nat) : sus (upF L (dbs L (idsTo (cln M) 128))) = cln (sus L ||| cln (M &&& fullN L.length)) := by
  apply Nat.eq_of_testBit_eq
  intro i
  rw [testBit_cln, Nat.testBit_or, testBit_cln, Nat.testBit_and, full_bit]
  by_cases hi : i < L.length
  · obtain ⟨x, hx⟩ : ∃ x, L[i]? = some x := ⟨_, List.getElem?_eq_getElem hi⟩
    have hx1 := (hb i x hx).1
    have hk := (rk_ok.1 (hb i x hx).2).2.2
    rw [sus_bit (upF_bok hb) (upF_get L _ i x hx), sus_bit hb hx, hx1, isD_dbs hb _ hx]
    have hm : decide (i ∈ idsTo (cln M) 128) = M.testBit i := by
      rw [Bool.eq_iff_iff, decide_eq_true_eq, mem_idsTo, testBit_cln]
      have q1 : i < 100 := by omega
      have q2 : i < 128 := by omega
      simp [q1, q2]
    rw [hm]
    have h100 : i < 100 := by omega
    rcases hk with hk | hk <;> cases hb2 : M.testBit i <;> simp [hk, hi, h100]
  · rw [sus_hi (upF_bok hb) (by rw [upF_len]; omega), sus_hi hb (by omega)]
    simp [hi]
theorem up_dbs {L : List N3} (hb : Bok L) (ids : List Nat) : dbs (upF L (dbs L ids)) ids = [] := by
  unfold dbs
  rw [List.filterMap_eq_nil_iff]
  intro i hi
  cases hx : L[i]? with
  | none =>
    exact dbF_none (show (upF L (List.filterMap (dbF L) ids))[i]? = none by simp [upF, hx])
  | some x =>
    have hx1 := (hb i x hx).1
    have hk := (rk_ok.1 (hb i x hx).2).2.2
    have hg := upF_get L (dbs L ids) i x hx
    rw [hx1, isD_dbs hb _ hx] at hg
    rw [dbF_at (show (upF L (List.filterMap (dbF L) ids))[i]? = _ from hg)]
    rcases hk with hk | hk <;> simp [hi, hk]
end Go.Proofs.YtgehmidalfajgaaDoor
namespace Go.Proofs.YtgehmidalfajgaaDoor
open Go.RowKit Go.Shelf Go.Lib

theorem Holds4.turn {W V : World} {p g b : Nat} {c : Nat → Nat} {l : List N3} (hs : Holds4 W b c) (h : Bk W p g l) (hg : W.grownBy V (some g)) : Holds4 V b c :=
  (hg.block _ (lt_at hs) (by simpa using (h.ne4 hs).2.symm)).trans hs
theorem filter_all (l : List N3) : l.filter pAll = l := List.filter_eq_self.2 (fun _ _ => rfl)
/-- A list that was made, read. -/
theorem Made.rd {w W : World} {v : Value} {l : List N3} (h : Made w W v l) : ∃ ad cap, v = .slice ad l.length cap ∧ RdN W ad l ∧ (∀ a, ad = some a → w.heap.size ≤ a.block) := by
  unfold Made at h
  rcases own_form h with ⟨rfl, e⟩ | ⟨g, cap, rfl, h1, h2, h3⟩
  · refine ⟨none, 0, by rw [e], fun hn => ?_, fun a ha => by cases ha⟩
    exact absurd (List.eq_nil_of_length_eq_zero e) hn
  · exact ⟨some ⟨g, 0, none⟩, cap, rfl, fun _ => ⟨g, 0, rfl, h2, nts_own h rfl⟩, fun a ha => by obtain rfl := Option.some.inj ha; exact h1⟩
theorem sv_zero : sv 0 = .agg #[.int .u32 0, .int .u32 0, .int .u32 0, .int .u32 0] := by simp [sv, wd_zero]
/-- What is merged twice is merged once. -/
theorem bat_after {l m : List N3} (hb : Bok l) (h : m.all (vlx l.length) = true) : ∀ x ∈ m, bat (mrg l m) x = false := by
  intro x hx
  have hv := List.all_eq_true.1 h x hx
  have hl := mrg_len hb m
  rw [bat_iff (mrg_bok hb m) (by rw [hl]; exact hv), mrg_rk hb h]
  have := fold_upr_mem l.length m (rkl l x.1.toNat) x hx hv
  exact decide_eq_false (by omega)
theorem fold_still1 : ∀ (m : List N3) {l : List N3}, (∀ x ∈ m, bat l x = false) → m.foldl rse l = l
  | [], _, _ => rfl
  | x :: m, l, h => by
    have e : rse l x = l := if_neg (by rw [h x (by simp)]; decide)
    rw [List.foldl_cons, e]
    exact fold_still1 m (fun y hy => h y (by simp [hy]))
theorem still {l m : List N3} (h : ∀ x ∈ m, bat l x = false) : mrs l m = 0 ∧ mrg l m = l := by
  unfold mrs mrg
  rw [fold_still m 0 h, fold_still1 m h]
  constructor <;> split <;> rfl
theorem twice {l : List N3} (hb : Bok l) (m : List N3) : mrs (mrg l m) m = 0 ∧ mrg (mrg l m) m = mrg l m := by
  by_cases h : m.all (vlx l.length) = true
  · exact still (bat_after hb h)
  · have e : mrg l m = l := if_neg h
    rw [e]
    exact ⟨if_neg h, e⟩
theorem own_list {l : List N3} (hb : Bok l) (h1 : 1 ≤ l.length) (h2 : l.length ≤ 100) : l.all (vlx l.length) = true ∧ ∀ x ∈ l, bat l x = false := by
  have hv : ∀ x ∈ l, vlx l.length x = true := by
    intro x hx
    obtain ⟨i, hi⟩ := List.mem_iff_getElem?.1 hx
    obtain ⟨e, hr⟩ := hb i x hi
    have := (List.getElem?_eq_some_iff.1 hi).1
    exact vlx_iff.2 ⟨h1, h2, by omega, by omega, hr⟩
  refine ⟨List.all_eq_true.2 hv, fun x hx => ?_⟩
  rw [bat_iff hb (hv x hx)]
  obtain ⟨i, hi⟩ := List.mem_iff_getElem?.1 hx
  obtain ⟨e, _⟩ := hb i x hi
  rw [show x.1.toNat = i by omega, rkl_some hi]
  exact decide_eq_false (by omega)
theorem fold_tke_still : ∀ (m : List N3) {l : List N3}, (∀ x ∈ m, bat l x = false) → m.foldl tke l = l
  | [], _, _ => rfl
  | x :: m, l, h => by
    have e : tke l x = l := by
      unfold tke
      split
      · exact if_neg (by rw [h x (by simp)]; decide)
      · rfl
    rw [List.foldl_cons, e]
    exact fold_tke_still m (fun y hy => h y (by simp [hy]))
/-- Two books and two sets. -/
structure JT (w : World) (L : List (Nat × Nat × List N3)) (bs bt : Nat) (W : World) : Prop where
  books : Bks w L W
  one : Holds4 W bs (wd 0)
  two : Holds4 W bt (wd 0)
theorem JT.carry {w W V : World} {L : List (Nat × Nat × List N3)} {bs bt : Nat} (h : JT w L bs bt W) (hb : Below W.heap.size W V) : JT w L bs bt V := ⟨h.books.carry hb, h.one.carry hb, h.two.carry hb⟩
theorem JT.turn {w W V : World} {L : List (Nat × Nat × List N3)} {bs bt : Nat} (h : JT w L bs bt W) (i : Nat) {p g : Nat} {l l' : List N3} (hi : L[i]? = some (p, g, l)) (hk : Bk V p g l') (hg : W.grownBy V (some g)) : JT w (L.set i (p, g, l')) bs bt V :=
  ⟨h.books.turn i hi hk hg, h.one.turn (h.books.get i hi) hg, h.two.turn (h.books.get i hi) hg⟩
end Go.Proofs.YtgehmidalfajgaaDoor
namespace Go.Proofs.YtgehmidalfajgaaDoor
open Go.RowKit
/-- A call whose answer is found out on the way. -/
theorem stepG_call {G : Type} {P : Program} {md : Region.Mode} {ops : Array Oper} {Q : Exit → Act → World → Prop} {X0 : Array Value} {val : G → Nat → Value} {J : G → (Nat → Bool) → World → Prop} {i : Nat} {o : Oper}
    (hi : ops[i]? = some o) (hg : ∀ g, GOk md ops X0 (val g) i o) (f : FuncId) (xs : Array Operand) (ts : Array TypeId) (vs : G → List Value) (ho : o.op = .call { callee := .value (.func f), args := xs, argTypes := ts })
    (hx : ∀ g, xs.toList.map (rdo md ops X0 (val g) i o) = (vs g).map some) (hen : ∀ args w, (callFunc f args).run P w = .ok (.enter f args) w)
    (hc : ∀ g d w, J g d w → d i = false → (∀ j, bindsOn md o j = true → d j = true) → (∀ j oj, ops[j]? = some oj → d j = true → ∀ k, bindsOn md oj k = true → d k = true) → Calls P f (vs g).toArray w fun e w' => ∃ g', e = .returned (val g' i) ∧ (∀ j, d j = true → val g' j = val g j) ∧ J g' (fun j => if j = i then true else d j) w') : StepG P md ops Q X0 val J i o := by
  intro g d a w hJ hun hdep hcl hS
  unfold wpOp
  rw [hi]
  have hS' : Seen md ops X0 (val g) i o a := hS
  simp only [wanted_of hS' (hg g), if_true]
  refine .inl ?_
  unfold Oper.wp execOp
  have e : xs.map a.eval = (vs g).toArray := by
    apply Array.toList_inj.1
    rw [Array.toList_map]
    exact hS'.evals _ _ (hx g)
  have e2 : a.eval (.func f) = .func (.func f) #[] #[] := rfl
  simp only [ho, resolve, e, e2, Deferred.ofValue, Sem.run_bind, Sem.run_pure, Result.andThen_ok, invoke, Array.empty_append, Array.append_empty, hen, Oper.upon_enter]
  refine (hc g d w hJ hun hdep hcl).mono ?_
  rintro e' w' ⟨g', rfl, h1, h2⟩
  exact ⟨g', h1, rfl, h2⟩
end Go.Proofs.YtgehmidalfajgaaDoor
