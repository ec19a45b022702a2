/- SpreadOwn: what a node has of itself behind Absorb. -/
import Derived.Test.YtddblfffjhoiaaaJnJ2
import Derived.Test.YtddblfffjhoiaaaSla
namespace Go.Proofs.Ytddblfffjhoiaaa
open Go.RowKit Go.Shelf Go.Lib

/-- While the list is gone through: the list, what was, what is now. -/
structure JO (w : World) (ad : Option Addr) (l : List N3) (Bw Bn : Nat) (x y : N3) (W : World) : Prop where
  rd : RdN W ad l
  was : NB W Bw x.1 x.2.1 x.2.2
  now : NB W Bn y.1 y.2.1 y.2.2
  be : Below w.heap.size w W
theorem JO.carry {w W V : World} {ad : Option Addr} {l : List N3} {Bw Bn : Nat} {x y : N3} (h : JO w ad l Bw Bn x y W) (hb : Below W.heap.size W V) : JO w ad l Bw Bn x y V := ⟨h.rd.carry hb, h.was.carry hb, h.now.carry hb, bel2 h.be hb⟩
theorem own_fact {N s : Nat} (hs : s < N) (l : List N3) : ∃ t k E, (abs (bk0 N s 0) (s : Int) l)[s]? = some ((s : Int), t, k) ∧ (if l.all (vlx (bk0 N s 0).length) = true then (0 : Int) else 50) = E ∧ ((t = 0 ∧ k = 1 ∧ E = 50) ∨ (t = 0 ∧ k = 1 ∧ E = 0) ∨ (k = 2 ∧ E = 0)) ∧ (E = 0 → ∀ x ∈ l, x.1 = (s : Int) → x.2.2 = 2 → bt x.1 x.2.1 x.2.2 (s : Int) t k = false) := by
  have hb0 : Bok (bk0 N s 0) := bk0_bok (by omega) (by omega)
  have hx0 : (bk0 N s 0)[s]? = some ((s : Int), 0, 1) := by rw [bk0_get 0 hs, if_pos rfl]
  by_cases ha : l.all (vlx (bk0 N s 0).length) = true
  · have hA : abs (bk0 N s 0) (s : Int) l = mrg (bk0 N s 0) (l.filter (nm s)) := by unfold abs; rw [if_pos ha]
    have hbo := abs_bok hb0 (s : Int) l
    have hlen := (abs_len hb0 (s : Int) l).trans (bk0_len N s 0)
    obtain ⟨⟨o, t, k⟩, hy⟩ : ∃ y, (abs (bk0 N s 0) (s : Int) l)[s]? = some y := ⟨_, List.getElem?_eq_getElem (by omega)⟩
    have ho : o = (s : Int) := (hbo s _ hy).1
    subst ho
    have hrk : rk t k ≠ -1 := (hbo s _ hy).2
    refine ⟨t, k, 0, hy, if_pos ha, ?_, fun _ x hx hx1 hx2 => ?_⟩
    · rw [hA] at hy
      unfold mrg at hy
      rw [if_pos (all_filter _ ha)] at hy
      rcases fold_rse_mem _ _ _ _ hy with h | h
      · rw [hx0] at h
        cases h
        exact .inr (.inl ⟨rfl, rfl, rfl⟩)
      · have h2 := (List.mem_filter.1 h).2
        have h3 := (rk_ok.1 hrk).2.2
        simp [nm] at h2
        exact .inr (.inr ⟨by omega, rfl⟩)
    · have hmem : x ∈ l.filter (nm s) := List.mem_filter.2 ⟨hx, by simp [nm, hx2]⟩
      have hbt := bat_after hb0 (all_filter (nm (s : Int)) ha) x hmem
      rw [← hA] at hbt
      unfold bat at hbt
      rw [hx1, Int.toNat_natCast, hy] at hbt
      exact hbt
  · refine ⟨0, 1, 50, ?_, if_neg ha, .inl ⟨rfl, rfl, rfl⟩, fun e => absurd e (by decide)⟩
    unfold abs
    rw [if_neg ha]
    exact hx0
theorem bin_eqb {P : Program} {t : TypeId} {x y : Operand} {w : World} (k : IntKind) (a b : Int) (B : Bool) (h : (a == b) = B) : binRun P .eql t x y (.int k a) (.int k b) w = .ok (.bool B) w := by
  rw [← h]
  simp [binRun, go_sem]
theorem nts_idx {W : World} {gb off : Nat} {l : List N3} (h : NtsAt W gb off l) {j : Nat} {x : N3} (hx : l[j]? = some x) : W.cell? ⟨gb, off + j * 3 + 2, none⟩ = some (.int .i64 x.2.2) := (h j x hx).2.2
theorem field_at2 (W : World) (b off : Nat) : (Instr.fieldAt 32 (.pointer (some ⟨b, off, none⟩)) 2).run Try.prog W = .ok (.pointer (some ⟨b, off + 2, none⟩)) W := by go_simp
theorem load_of2 {W : World} {b o : Nat} {v : Int} (h : W.cell? ⟨b, o, none⟩ = some (.int .i64 v)) : (Instr.loadAt 3 (.pointer (some ⟨b, o, none⟩))).run Try.prog W = .ok (.int .i64 v) W := by go_simp
end Go.Proofs.Ytddblfffjhoiaaa
namespace Go.Proofs.Ytddblfffjhoiaaa
open Go.RowKit Go.Shelf Go.Lib

theorem el_eq {l m : List N3} (hl : Bok l) (hm : Bok m) {i : Nat} {x y : N3} (hx : l[i]? = some x) (hy : m[i]? = some y) (h : rkx x = rkx y) : x = y := by
  obtain ⟨a1, a2⟩ := hl i x hx
  obtain ⟨b1, b2⟩ := hm i y hy
  obtain ⟨o, t, k⟩ := x
  obtain ⟨o', t', k'⟩ := y
  obtain ⟨e1, e2⟩ := rk_inj h a2
  simp only at a1 b1 e1 e2
  rw [a1, b1, e1, e2]
theorem fold_upr_top (n i : Nat) (R : Int) : ∀ (m : List N3) (r : Int), (∀ x ∈ m, i = x.1.toNat → rkx x ≤ R) → r ≤ R → m.foldl (upr n i) r ≤ R
  | [], _, _, h => h
  | x :: m, r, hm, h => by
    refine fold_upr_top n i R m (upr n i r x) (fun y hy => hm y (by simp [hy])) ?_
    unfold upr
    split
    · next hc => have := hm x (by simp) hc.2; omega
    · exact h
theorem bok_valid {b : List N3} (hb : Bok b) (h0 : 1 ≤ b.length) (h1 : b.length ≤ 100) : ∀ x ∈ b, vlx b.length x = true := by
  intro x hx
  exact List.all_eq_true.1 (own_list hb h0 h1).1 x hx
/-- Of a node a part of a book has its notice, or none. -/
theorem upr_part {b : List N3} (hb : Bok b) (h0 : 1 ≤ b.length) (h1 : b.length ≤ 100) (p : N3 → Bool) {i : Nat} {y : N3} (hy : b[i]? = some y) (r : Int) : (b.filter p).foldl (upr b.length i) r = if p y = true then max r (rkx y) else r := by
  have hyi : y.1.toNat = i := by rw [(hb i y hy).1]; simp
  have hmem : ∀ x ∈ b.filter p, i = x.1.toNat → x = y := fun x hx e => by
    obtain ⟨j, hj⟩ := List.getElem?_of_mem (List.mem_filter.1 hx).1
    have hji : j = i := by rw [(hb j x hj).1] at e; simp at e; exact e.symm
    rw [hji, hy] at hj
    exact (Option.some.inj hj).symm
  by_cases hp : p y = true
  · rw [if_pos hp]
    apply Int.le_antisymm
    · refine fold_upr_top _ _ _ _ _ (fun x hx e => ?_) (by omega)
      rw [hmem x hx e]
      omega
    · have g1 := fold_upr_ge b.length i (b.filter p) r
      have g2 := fold_upr_mem b.length (b.filter p) r y (List.mem_filter.2 ⟨List.mem_of_getElem? hy, hp⟩) (bok_valid hb h0 h1 y (List.mem_of_getElem? hy))
      rw [hyi] at g2
      omega
  · rw [if_neg hp]
    apply Int.le_antisymm
    · refine fold_upr_top _ _ _ _ _ (fun x hx e => ?_) (Int.le_refl _)
      exact absurd (hmem x hx e ▸ (List.mem_filter.1 hx).2) hp
    · exact fold_upr_ge _ _ _ _
theorem atN_at {l : List N3} {i : Nat} {x : N3} (h : l[i]? = some x) : atN l (i : Int) = x := by
  have hi : i < l.length := (List.getElem?_eq_some_iff.1 h).1
  rw [atN, if_pos ⟨by omega, by omega⟩, Int.toNat_natCast, h]
  rfl
theorem grt2 (x y : N3) : grt [x, y] = if btx y x = true then y else x := by
  simp only [grt, List.foldl_cons, List.foldl_nil, gst, true_or, if_true]
  by_cases h : btx y x = true
  · rw [if_pos (.inr h), if_pos h]
  · rw [if_neg (by simp [h]), if_neg h]
theorem lvl2 {a b : List N3} (h : a.length = b.length) : lvE [a, b] = 0 ∧ (lvl [a, b]).length = a.length ∧ ∀ (i : Nat) (x y : N3), a[i]? = some x → b[i]? = some y → (lvl [a, b])[i]? = some (if btx y x = true then y else x) := by
  have ho : ones [a, b] = true := by simp [ones, h]
  have hl : lvl [a, b] = lvs [a, b] a.length := by simp [lvl, ho]
  refine ⟨by simp [lvE, ho], by rw [hl, lvs_len], fun i x y hx hy => ?_⟩
  have hi : i < a.length := (List.getElem?_eq_some_iff.1 hx).1
  rw [hl]
  unfold lvs lvA
  rw [List.getElem?_map, List.getElem?_range hi]
  simp only [Option.map_some, List.map_cons, List.map_nil, atN_at hx, atN_at hy, grt2]
theorem btx_rk {a b : List N3} (ha : Bok a) (hb : Bok b) {i : Nat} {x y : N3} (hx : a[i]? = some x) (hy : b[i]? = some y) : btx y x = decide (rkx x < rkx y) := by
  obtain ⟨a1, a2⟩ := ha i x hx
  obtain ⟨b1, b2⟩ := hb i y hy
  unfold btx bt
  rw [decide_eq_decide]
  constructor
  · rintro ⟨_, _, _, h⟩
    exact h
  · intro h
    exact ⟨by rw [a1, b1], b2, a2, h⟩
/-- Absorbing what is above. -/
theorem meets {a b : List N3} (ha : Bok a) (hb : Bok b) (hl : a.length = b.length) (h0 : 1 ≤ a.length) (h1 : a.length ≤ 100) (s : Int) : (abv b a).all (vlx a.length) = true ∧ ∀ (i : Nat) (x y : N3), a[i]? = some x → b[i]? = some y → (abs a s (abv b a))[i]? = some (if (btx y x && nm s y) = true then y else x) := by
  have hab : abv b a = b.filter (abn a) := by unfold abv; rw [if_pos hl.symm]
  have hv : (abv b a).all (vlx a.length) = true := by
    rw [hab, hl]
    exact all_filter _ (own_list hb (by omega) (by omega)).1
  refine ⟨hv, fun i x y hx hy => ?_⟩
  have hi : i < a.length := (List.getElem?_eq_some_iff.1 hx).1
  have hA : abs a s (abv b a) = mrg a (b.filter fun x => nm s x && abn a x) := by
    unfold abs
    rw [if_pos hv, hab, List.filter_filter]
  have hvf : (b.filter fun x => nm s x && abn a x).all (vlx a.length) = true := by
    rw [hl]
    exact all_filter _ (own_list hb (by omega) (by omega)).1
  have hbo := abs_bok ha s (abv b a)
  have hrk := mrg_rk ha hvf i
  rw [← hA, hl, upr_part hb (by omega) (by omega) _ hy, rkl_some hx] at hrk
  obtain ⟨z, hz⟩ : ∃ z, (abs a s (abv b a))[i]? = some z := ⟨_, List.getElem?_eq_getElem (by rw [abs_len ha]; exact hi)⟩
  rw [rkl_some hz] at hrk
  have hy1 : y.1 = (i : Int) := (hb i y hy).1
  have hn : abn a y = btx y x := by unfold abn; rw [hy1, atN_at hx]
  rw [hn] at hrk
  have hbr := btx_rk ha hb hx hy
  rw [hz]
  by_cases h : (btx y x && nm s y) = true
  · rw [if_pos h]
    rw [Bool.and_comm] at h
    rw [if_pos h] at hrk
    rw [Bool.and_comm, Bool.and_eq_true] at h
    rw [h.1] at hbr
    have := of_decide_eq_true hbr.symm
    rw [el_eq hbo hb hz hy (by omega)]
  · rw [if_neg h]
    rw [Bool.and_comm] at h
    rw [if_neg h] at hrk
    rw [el_eq hbo ha hz hx hrk]
theorem one_of : ∀ (b : List N3) (k : Int) (s : Int), (∀ (i : Nat) (x : N3), b[i]? = some x → x.1 = k + i) → (b.filter fun x => decide (x.1 = s)).length ≤ 1
  | [], _, _, _ => by simp
  | x :: t, k, s, h => by
    have h0 := h 0 x rfl
    have ht : ∀ (i : Nat) (y : N3), t[i]? = some y → y.1 = (k + 1) + i := fun i y hy => by
      have := h (i + 1) y (by simpa using hy)
      omega
    rw [List.filter_cons]
    split
    · rename_i hx
      have hx' : x.1 = s := of_decide_eq_true hx
      have : (t.filter fun x => decide (x.1 = s)) = [] := by
        rw [List.filter_eq_nil_iff]
        intro y hy
        obtain ⟨j, hj⟩ := List.getElem?_of_mem hy
        have := ht j y hj
        simp
        omega
      rw [this]
      simp
    · exact one_of t (k + 1) s ht
/-- What is above then. -/
theorem rest_one {a b : List N3} (ha : Bok a) (hb : Bok b) (hl : a.length = b.length) (h0 : 1 ≤ a.length) (h1 : a.length ≤ 100) (s : Int) : abv b (abs a s (abv b a)) = [] ∨ ∃ t, abv b (abs a s (abv b a)) = [(s, t, 1)] := by
  have hbo := abs_bok ha s (abv b a)
  have hle := abs_len ha s (abv b a)
  have hab : abv b (abs a s (abv b a)) = b.filter (abn (abs a s (abv b a))) := by
    have e : b.length = (abs a s (abv b a)).length := by rw [hle, hl]
    show (if b.length = (abs a s (abv b a)).length then _ else _) = _
    rw [if_pos e]
  have hp : ∀ x ∈ b, abn (abs a s (abv b a)) x = true → x.1 = s ∧ x.2.2 = 1 := fun y hy hn => by
    obtain ⟨i, hi⟩ := List.getElem?_of_mem hy
    have hil : i < b.length := (List.getElem?_eq_some_iff.1 hi).1
    obtain ⟨x, hx⟩ : ∃ x, a[i]? = some x := ⟨_, List.getElem?_eq_getElem (by omega)⟩
    have hm := (meets ha hb hl h0 h1 s).2 i x y hx hi
    unfold abn at hn
    rw [(hb i y hi).1, atN_at hm] at hn
    by_cases h : (btx y x && nm s y) = true
    · rw [if_pos h, btx_rk hb hb hi hi] at hn
      simp at hn
    · rw [if_neg h] at hn
      rw [hn] at h
      simp [nm] at h
      exact h
  rw [hab]
  have hlen : (b.filter (abn (abs a s (abv b a)))).length ≤ 1 := by
    refine Nat.le_trans ?_ (one_of b 0 s (fun i x hx => by rw [(hb i x hx).1]; simp))
    have : b.filter (abn (abs a s (abv b a))) = (b.filter fun x => decide (x.1 = s)).filter (abn (abs a s (abv b a))) := by
      rw [List.filter_filter]
      refine List.filter_congr (fun x hx => ?_)
      cases h : abn (abs a s (abv b a)) x with
      | false => rfl
      | true => simp [(hp x hx h).1]
    rw [this]
    exact List.length_filter_le _ _
  match hc : b.filter (abn (abs a s (abv b a))), hlen with
  | [], _ => exact .inl rfl
  | [x], _ =>
    have hx : x ∈ b.filter (abn (abs a s (abv b a))) := by rw [hc]; simp
    obtain ⟨h3, h4⟩ := List.mem_filter.1 hx
    obtain ⟨h5, h6⟩ := hp x h3 h4
    obtain ⟨o, t, k⟩ := x
    simp only at h5 h6
    exact .inr ⟨t, by rw [h5, h6]⟩
  | x :: y :: t, hlen => simp at hlen
end Go.Proofs.Ytddblfffjhoiaaa
namespace Go.Proofs.Ytddblfffjhoiaaa
open Go.RowKit
/-- A call whose answer is found out on the way. -/
theorem stepG_call {G : Type} {P : Program} {md : Region.Mode} {ops : Array Oper} {Q : Exit → Act → World → Prop} {X0 : Array Value} {val : G → Nat → Value} {J : G → (Nat → Bool) → World → Prop} {i : Nat} {o : Oper}
    (hi : ops[i]? = some o) (hg : ∀ g, GOk md ops X0 (val g) i o) (f : FuncId) (xs : Array Operand) (ts : Array TypeId) (vs : G → List Value) (ho : o.op = .call { callee := .value (.func f), args := xs, argTypes := ts })
    (hx : ∀ g, xs.toList.map (rdo md ops X0 (val g) i o) = (vs g).map some) (hen : ∀ args w, (callFunc f args).run P w = .ok (.enter f args) w)
    (hc : ∀ g d w, J g d w → d i = false → (∀ j, bindsOn md o j = true → d j = true) → (∀ j oj, ops[j]? = some oj → d j = true → ∀ k, bindsOn md oj k = true → d k = true) → Calls P f (vs g).toArray w fun e w' => ∃ g', e = .returned (val g' i) ∧ (∀ j, d j = true → val g' j = val g j) ∧ J g' (fun j => if j = i then true else d j) w') : StepG P md ops Q X0 val J i o := by
  intro g d a w hJ hun hdep hcl hS
  unfold wpOp
  rw [hi]
  have hS' : Seen md ops X0 (val g) i o a := hS
  simp only [wanted_of hS' (hg g), if_true]
  refine .inl ?_
  unfold Oper.wp execOp
  have e : xs.map a.eval = (vs g).toArray := by
    apply Array.toList_inj.1
    rw [Array.toList_map]
    exact hS'.evals _ _ (hx g)
  have e2 : a.eval (.func f) = .func (.func f) #[] #[] := rfl
  simp only [ho, resolve, e, e2, Deferred.ofValue, Sem.run_bind, Sem.run_pure, Result.andThen_ok, invoke, Array.empty_append, Array.append_empty, hen, Oper.upon_enter]
  refine (hc g d w hJ hun hdep hcl).mono ?_
  rintro e' w' ⟨g', rfl, h1, h2⟩
  exact ⟨g', h1, rfl, h2⟩
end Go.Proofs.Ytddblfffjhoiaaa
namespace Go.Proofs.Ytddblfffjhoiaaa
open Go.RowKit Go.Shelf Go.Lib

theorem bv_of {W : World} {p g : Nat} {l : List N3} (h : Bk W p g l) (h0 : 1 ≤ l.length) (h1 : l.length ≤ 100) (hb : Bok l) : BV W (.pointer (some ⟨p, 0, none⟩)) l := .inr ⟨p, g, rfl, h, h0, h1, hb⟩
theorem bvs2 {V : World} {p g p' g' : Nat} {a b : List N3} (h : Bk V p g a) (h' : Bk V p' g' b) (ha : Bok a) (hb : Bok b) (hl : a.length = b.length) (h0 : 1 ≤ a.length) (h1 : a.length ≤ 100) : BVs (V.alloc (.cells #[.pointer (some ⟨p, 0, none⟩), .pointer (some ⟨p', 0, none⟩)] 25)) (some ⟨V.heap.size, 0, none⟩) [.pointer (some ⟨p, 0, none⟩), .pointer (some ⟨p', 0, none⟩)] [a, b] := by
  have hr : (V.alloc (.cells #[.pointer (some ⟨p, 0, none⟩), .pointer (some ⟨p', 0, none⟩)] 25)).heap[V.heap.size]? = some (.cells #[.pointer (some ⟨p, 0, none⟩), .pointer (some ⟨p', 0, none⟩)] 25 (0, 0)) := new_at rfl
  refine ⟨rfl, fun _ => ⟨_, _, rfl, lt_at hr, fun k v hk => by rw [Nat.zero_add]; exact (cell_at hr k).trans (by simpa using hk)⟩, fun k v l h1' h2 => ?_⟩
  match k, h1', h2 with
  | 0, h1', h2 => cases h1'; cases h2; exact bv_of (h.alloc _) h0 h1 ha
  | 1, h1', h2 => cases h1'; cases h2; exact bv_of (h'.alloc _) (by omega) (by omega) hb
  | k + 2, h1', h2 => simp at h1'
/-- Both books, while they are made. -/
def JMt (w : World) (A B : List N3) (q : (Nat × Nat) × (Nat × Nat)) (x y : Bool) (V : World) : Prop :=
  match x, y with
  | false, _ => Bks w [] V
  | true, false => Bks w [(q.1.1, q.1.2, A)] V
  | true, true => Bks w [(q.1.1, q.1.2, A), (q.2.1, q.2.2, B)] V
/-- What lies where, when all are compared. -/
structure JMl (w : World) (p g : Nat) (L : List N3) (Bo : Nat) (own : N3) (adT adR : Option Addr) (top rest : List N3) (V : World) : Prop where
  bk : Bk V p g L
  own : NB V Bo own.1 own.2.1 own.2.2
  top : RdN V adT top
  rest : RdN V adR rest
  be : Below w.heap.size w V
theorem JMl.carry {w V V' : World} {p g : Nat} {L : List N3} {Bo : Nat} {own : N3} {adT adR : Option Addr} {top rest : List N3} (h : JMl w p g L Bo own adT adR top rest V) (hb : Below V.heap.size V V') : JMl w p g L Bo own adT adR top rest V' := ⟨h.bk.carry hb, NB.carry h.own hb, h.top.carry hb, h.rest.carry hb, bel2 h.be hb⟩
theorem Made.rd' {w W : World} {v : Value} {l : List N3} {n : Nat} (h : Made w W v l) (hn : l.length = n) : ∃ ad cap, v = .slice ad n cap ∧ RdN W ad l ∧ (∀ a, ad = some a → w.heap.size ≤ a.block) := by
  subst hn
  exact h.rd
theorem bin_eqnb {x y : Operand} {w : World} (a b : N3) (B : Bool) (h : decide (a = b) = B) : binRun Try.prog .eql 32 x y (nt a.1 a.2.1 a.2.2) (nt b.1 b.2.1 b.2.2) w = .ok (.bool B) w := by
  rw [bin_eqn, ← h]
  obtain ⟨a1, a2, a3⟩ := a
  obtain ⟨b1, b2, b3⟩ := b
  simp
theorem bin_remb {P : Program} {t : TypeId} {x y : Operand} {w : World} (a b c : Nat) (hb : 0 < b) (h : a % b = c) : binRun P .rem t x y (.int .i64 (a : Int)) (.int .i64 (b : Int)) w = .ok (.int .i64 (c : Int)) w := by
  rw [← h]
  exact bin_rem64 a b hb
end Go.Proofs.Ytddblfffjhoiaaa
