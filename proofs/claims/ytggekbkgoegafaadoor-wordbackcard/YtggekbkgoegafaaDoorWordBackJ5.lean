/- Words printed, and read again: plain mathematics. -/
import Derived.Test.YtggekbkgoegafaaDoorWordBackJ4
import Derived.WalkKit
import Derived.WalkSpells
import Derived.Below
import Derived.Shelf.Abstract
import Derived.Lib.OthersKept
import Derived.Maps.AppendAt
import Derived.OwnWalk
import Derived.Carry
import Derived.Deep.WholeRow
import Derived.Test.YtggekbkgoegafaaDoorWordBackJ2
import Derived.Test.YtggekbkgoegafaaDoorProg
import Derived.Laws.OwnMore
import Derived.ArgAppend
namespace Go.Proofs.YtggekbkgoegafaaDoor
open Go.RowKit Go.Shelf

def bS : ByteArray := ⟨#[32]⟩
/-- What stands ahead of a word. -/
def btw (so : Bool) (k : Int) : ByteArray := if so = true ∧ k ≠ 1 then bS else ByteArray.empty
/-- The printed text; so: a word stands ahead. -/
def prs : Bool → List Fou → ByteArray
  | _, [] => ByteArray.empty
  | so, q :: r => btw so q.1 ++ (q.2.1 ++ prs (decide (q.1 ≠ 1)) r)
theorem prs_kt : ∀ (l m : List Fou) (so : Bool), l.map kt = m.map kt → prs so l = prs so m
  | [], [], _, _ => rfl
  | [], y :: m, _, h => by simp at h
  | x :: l, [], _, h => by simp at h
  | x :: l, y :: m, so, h => by
    rw [List.map_cons, List.map_cons] at h
    obtain ⟨h1, h2⟩ := List.cons.inj h
    have e1 : x.1 = y.1 := (Prod.mk.inj h1).1
    have e2 : x.2.1 = y.2.1 := (Prod.mk.inj h1).2
    rw [prs, prs, e1, e2, prs_kt l m _ h2]
theorem shp_kt {N : Nat} : ∀ (l m : List Fou) (so : Bool), l.map kt = m.map kt → Shp N so l → Shp N so m
  | [], [], _, _, hs => hs
  | [], y :: m, _, h, _ => by simp at h
  | x :: l, [], _, h, _ => by simp at h
  | x :: l, y :: m, so, h, hs => by
    rw [List.map_cons, List.map_cons] at h
    obtain ⟨h1, h2⟩ := List.cons.inj h
    have e1 : x.1 = y.1 := (Prod.mk.inj h1).1
    have e2 : x.2.1 = y.2.1 := (Prod.mk.inj h1).2
    rcases hs with ⟨k1, k2, k3, hr⟩ | ⟨k1, hw, hr⟩
    · exact .inl ⟨by rw [← e1]; exact k1, by rw [← e2]; exact k2, k3, shp_kt l m _ h2 hr⟩
    · exact .inr ⟨by rw [← e1]; exact k1, by rw [← e1, ← e2]; exact hw, shp_kt l m _ h2 hr⟩
/-- Behind a word stands a blank, or the line's end. -/
theorem prs_sep {N : Nat} : ∀ (l : List Fou), Shp N true l → 0 < (prs true l).size ∧ Sep (byt (prs true l) 0)
  | [], h => by cases h
  | q :: r, h => by
    rcases h with ⟨k1, k2, _, hr⟩ | ⟨k1, hw, hr⟩
    · have e : prs true (q :: r) = ⟨#[10]⟩ ++ prs false r := by
        rw [prs, btw, if_neg (by rintro ⟨_, h⟩; exact h k1), ByteArray.empty_append, k2, decide_eq_false (by rw [k1]; simp)]
      have hz : (⟨#[10]⟩ : ByteArray).size = 1 := rfl
      have hz2 : (prs true (q :: r)).size = 1 + (prs false r).size := by rw [e, ByteArray.size_append, hz]
      refine ⟨by omega, .inr (.inr ?_)⟩
      have h0 : 0 < (⟨#[10]⟩ ++ prs false r : ByteArray).size := by rw [ByteArray.size_append, hz]; omega
      rw [e, byt_get h0, ByteArray.getElem_append_left (by rw [hz]; omega)]
      rfl
    · have e : prs true (q :: r) = bS ++ (q.2.1 ++ prs true r) := by
        rw [prs, btw, if_pos ⟨rfl, k1⟩, decide_eq_true k1]
      have hz : bS.size = 1 := rfl
      have hz2 : (prs true (q :: r)).size = 1 + (q.2.1 ++ prs true r).size := by rw [e, ByteArray.size_append, hz]
      refine ⟨by omega, .inr (.inl ?_)⟩
      have h0 : 0 < (bS ++ (q.2.1 ++ prs true r) : ByteArray).size := by rw [ByteArray.size_append, hz]; omega
      rw [e, byt_get h0, ByteArray.getElem_append_left (by rw [hz]; omega)]
      rfl
theorem print_scan : ∀ (N : Nat) (l : List Fou) (so : Bool) (t : ByteArray) (p f ln fr : Nat) (acc : List Fou), Shp N so l → p ≤ t.size → t.extract p t.size = prs so l → t.size + 1 < p + f → ∃ r, scD t f p ln fr so acc = .inl (acc ++ r) ∧ l.map kt = r.map kt
  | N, [], so, t, p, f, ln, fr, acc, hs, hp, he, hf => by
    have hso : so = false := hs
    subst hso
    have hsz : (t.extract p t.size).size = t.size - p := by simp
    rw [he] at hsz
    have h0 : (prs false []).size = 0 := rfl
    obtain ⟨f, rfl⟩ : ∃ g, f = g + 2 := ⟨f - 2, by omega⟩
    rw [sc_eol t (f + 1) p ln fr false acc (by omega) (.inl (by omega)), if_neg (by simp), sc_end t f (p + 1) _ _ _ _ (by omega)]
    exact ⟨[], by simp, rfl⟩
  | N, q :: r, so, t, p, f, ln, fr, acc, hs, hp, he, hf => by
    rcases hs with ⟨k1, k2, rfl, hr⟩ | ⟨k1, hw, hr⟩
    · rw [prs, btw, if_neg (by rintro ⟨_, h⟩; exact h k1), ByteArray.empty_append, k2, decide_eq_false (by rw [k1]; simp)] at he
      obtain ⟨a1, a2, a3, _⟩ := rest_app t ⟨#[10]⟩ _ p hp he
      have hz : (⟨#[10]⟩ : ByteArray).size = 1 := rfl
      rw [hz] at a1 a2 a3
      have b0 : byt t (p + 0) = 10 := a2 0 (by omega)
      rw [Nat.add_zero] at b0
      obtain ⟨f, rfl⟩ : ∃ g, f = g + 1 := ⟨f - 1, by omega⟩
      rw [sc_eol t f p _ _ _ _ (by omega) (.inr b0), if_pos rfl]
      obtain ⟨R, e1, e2⟩ := print_scan N r false t (p + 1) f (ln + 1) (p + 1) (acc ++ [(1, ⟨#[10]⟩, (ln : Int), ((cnt t fr p + 1 : Nat) : Int))]) hr a1 a3 (by omega)
      refine ⟨_ :: R, by rw [e1, List.append_assoc]; rfl, ?_⟩
      rw [List.map_cons, List.map_cons, e2]
      congr 1
      show (q.1, q.2.1) = _
      rw [k1, k2]
      rfl
    · have hx0 := hw.some
      have word : ∀ (p f : Nat), p ≤ t.size → t.extract p t.size = q.2.1 ++ prs true r → t.size + 1 < p + f → ∃ R, scD t f p ln fr so acc = .inl (acc ++ R) ∧ (q :: r).map kt = R.map kt := fun p f hp he hf => by
        obtain ⟨c1, c2, c3, c4⟩ := rest_app t q.2.1 _ p hp he
        obtain ⟨s1, s2⟩ := prs_sep r hr
        have hsz : (t.extract (p + q.2.1.size) t.size).size = t.size - (p + q.2.1.size) := by simp
        rw [c3] at hsz
        have hb : byt t (p + q.2.1.size + 0) = byt (prs true r) 0 := by rw [← byt_extract t (p + q.2.1.size) 0 c1, c3]
        rw [Nat.add_zero] at hb
        obtain ⟨⟨g1, g2, g3⟩, g4, g5, g6⟩ := hw.there t p (by omega) c4 (by rw [hb]; exact s2)
        obtain ⟨f, rfl⟩ : ∃ g, f = g + 1 := ⟨f - 1, by omega⟩
        rw [sc_word t f p _ _ _ _ (by omega) g1 g2 g3 g6, g5, g4]
        obtain ⟨R, h1, h2⟩ := print_scan N r true t (p + q.2.1.size) f ln fr (acc ++ [(q.1, t.extract p (p + q.2.1.size), (ln : Int), ((cnt t fr p + 1 : Nat) : Int))]) hr c1 c3 (by omega)
        refine ⟨_ :: R, by rw [h1, List.append_assoc]; rfl, ?_⟩
        rw [List.map_cons, List.map_cons, h2]
        congr 1
        show (q.1, q.2.1) = (q.1, _)
        rw [c4]
      rw [prs, decide_eq_true k1] at he
      cases so with
      | false =>
        rw [btw, if_neg (by simp), ByteArray.empty_append] at he
        exact word p f hp he hf
      | true =>
        rw [btw, if_pos ⟨rfl, k1⟩] at he
        obtain ⟨a1, a2, a3, _⟩ := rest_app t bS _ p hp he
        have hz : bS.size = 1 := rfl
        rw [hz] at a1 a2 a3
        have b0 : byt t (p + 0) = 32 := a2 0 (by omega)
        rw [Nat.add_zero] at b0
        obtain ⟨f, rfl⟩ : ∃ g, f = g + 1 := ⟨f - 1, by omega⟩
        obtain ⟨R, h1, h2⟩ := word (p + 1) f a1 a3 (by omega)
        exact ⟨R, by rw [sc_gap t f p _ _ _ _ (by omega) (.inr (.inr b0)), h1], h2⟩
theorem print_text (N : Nat) (l : List Fou) (hs : Shp N false l) : badL (linesOf (prs false l)) = none ∧ l.map kt = (fours 0 (linesOf (prs false l))).map kt := by
  obtain ⟨t, ht⟩ : ∃ t, prs false l = t := ⟨_, rfl⟩
  have he0 : t.extract 0 t.size = prs false l := by rw [ht]; simp
  rw [ht]
  have hE := scan_eq t
  obtain ⟨R, e1, e2⟩ := print_scan N l false t 0 (t.size + 2) 1 0 [] hs (Nat.zero_le _) he0 (by omega)
  rw [List.nil_append] at e1
  unfold TxE at hE
  cases hb : badL (linesOf t) with
  | none =>
    rw [hb] at hE
    dsimp only at hE
    rw [show (0 : Nat) + 1 = 1 from rfl, e1, List.nil_append] at hE
    cases hE
    exact ⟨rfl, e2⟩
  | some x =>
    obtain ⟨i, er, c⟩ := x
    rw [hb] at hE
    dsimp only at hE
    rw [show (0 : Nat) + 1 = 1 from rfl, e1] at hE
    cases hE
set_option maxHeartbeats 1000000 in
/-- A word is what its first step tells. -/
theorem wrd_step {N : Nat} {k : Int} {x : ByteArray} (h : Wrd N k x) : stepR x 0 = .word k x.size := by
  obtain ⟨t, ht⟩ : ∃ t, x ++ ⟨#[10]⟩ = t := ⟨_, rfl⟩
  have hz : (⟨#[10]⟩ : ByteArray).size = 1 := rfl
  have hsz : t.size = x.size + 1 := by rw [← ht, ByteArray.size_append, hz]
  have h0 := h.some
  have hx : t.extract 0 (0 + x.size) = x := by
    rw [Nat.zero_add, ← ht]
    exact ByteArray.extract_append_eq_left rfl
  have hb : byt t (0 + x.size) = 10 := by
    rw [Nat.zero_add, ← ht, byt_get (by rw [ByteArray.size_append, hz]; omega), ByteArray.getElem_append_right (Nat.le_refl _)]
    simp
    rfl
  obtain ⟨⟨g1, g2, g3⟩, g4, g5, g6⟩ := h.there t 0 (by omega) hx (by rw [hb]; exact .inr (.inr rfl))
  have hE := le_end t (0 + 1) (by omega)
  have hs := step_eq t 0 x.size 0 (by omega) h0 (.inr hb) g1
  rw [hx] at hs
  have hn : nxD t 0 x.size = nxD t 0 (LE t (0 + 1)) := by
    by_cases q : byt t 0 = 34
    · have hq : LE t (0 + 1) = x.size := by
        obtain ⟨r1, r2⟩ := rn_asc t 0 (by omega) (by omega)
        have hlo : looseB t 0 = false := by unfold looseB; rw [r1, q]; rfl
        have hc : cls (rn t 0 : Int) = 5 := by rw [r1, q]; decide
        have e : (nxD t 0 (LE t (0 + 1))).2.1 = (lead (t.extract 0 (LE t (0 + 1))) (LE t (0 + 1)) (0 + 1) []).2.1 := by
          unfold nxD
          rw [if_neg (by rw [hlo, hc]; simp), if_neg (by rw [hc]; decide), if_neg (by rw [hc]; decide), if_pos q]
        have h1 := hE.1
        have h2 := hE.2.1
        have hEs : (t.extract 0 (LE t (0 + 1))).size = LE t (0 + 1) := by rw [ByteArray.size_extract, Nat.min_eq_left h2, Nat.sub_zero]
        have hle := lead_le (t.extract 0 (LE t (0 + 1))) (LE t (0 + 1)) (0 + 1) [] (by omega)
        rw [← e, g5, hEs] at hle
        rcases Nat.lt_or_ge x.size (LE t (0 + 1)) with k | k
        · have := hE.2.2.1 x.size (by omega) k
          rw [Nat.zero_add] at hb
          exact absurd hb this
        · omega
      rw [hq]
    · unfold nxD
      simp only [if_neg q]
  have e0 : (0 : Nat) + 0 + (x.size - 0) = x.size := by omega
  cases hst : stepR x 0 with
  | gap => rw [hst] at hs; exact absurd hs g2
  | stop => rw [hst] at hs; exact absurd hs g3
  | bad e off =>
    rw [hst] at hs
    obtain ⟨_, _, h1, h2, _⟩ := hs
    rw [e0, show (0 : Nat) + 0 = 0 from rfl, hn, g6] at h1
    exact absurd h1.symm h2
  | word k' sz =>
    rw [hst] at hs
    obtain ⟨_, _, h1, h2, _⟩ := hs
    rw [e0, show (0 : Nat) + 0 = 0 from rfl, hn] at h1 h2
    rw [g4] at h1
    rw [g5] at h2
    have : sz = x.size := by omega
    rw [h1, this]
end Go.Proofs.YtggekbkgoegafaaDoor
namespace Go.Proofs.YtggekbkgoegafaaDoor
open Go.RowKit
theorem new_at {w : World} {o : Obj} {k : Nat} (h : k = w.heap.size) : (w.alloc o).heap[k]? = some o := by subst h; exact heap_alloc_last w o
theorem old_at {w : World} {o o' : Obj} {k : Nat} (h : w.heap[k]? = some o') : (w.alloc o).heap[k]? = some o' := (Below.heap_alloc w o k (Array.getElem?_eq_some_iff.1 h).1).trans h
theorem cell_at {W : World} {B : Nat} {cs : Array Value} {t : TypeId} {z : Nat × Nat} (h : W.heap[B]? = some (.cells cs t z)) (j : Nat) : W.cell? ⟨B, j, none⟩ = cs[j]? := by simp [World.cell?, h]
theorem thaw_at {W : World} {B : Nat} {cs : Array Value} {t : TypeId} (h : W.heap[B]? = some (.cells cs t (0, 0))) (j : Nat) : W.frozen? ⟨B, j, none⟩ = false := by simp [World.frozen?, h]
theorem lt_at {W : World} {B : Nat} {o : Obj} (h : W.heap[B]? = some o) : B < W.heap.size := (Array.getElem?_eq_some_iff.1 h).1
end Go.Proofs.YtggekbkgoegafaaDoor
namespace Go.Proofs.YtggekbkgoegafaaDoor
open Go.RowKit
def StepG {G : Type} (P : Program) (md : Region.Mode) (ops : Array Oper) (Q : Exit → Act → World → Prop) (X0 : Array Value) (val : G → Nat → Value) (J : G → (Nat → Bool) → World → Prop) (i : Nat) (o : Oper) : Prop :=
  ∀ g d a w, J g d w → d i = false → (∀ j, bindsOn md o j = true → d j = true) → (∀ j oj, ops[j]? = some oj → d j = true → ∀ k, bindsOn md oj k = true → d k = true) → (∀ s v, rdv md ops X0 (val g) i o s = some v → a.tmps.getD s undef = v) →
      wpOp P ops Q i (fun a' w' => ∃ g', (∀ j, d j = true → val g' j = val g j) ∧ a' = a.put o.dst (val g' i) ∧ J g' (fun j => if j = i then true else d j) w') a w
theorem stepG_of {G : Type} {P : Program} {md : Region.Mode} {ops : Array Oper} {Q : Exit → Act → World → Prop} {X0 : Array Value} {val : G → Nat → Value} {J : G → (Nat → Bool) → World → Prop} {i : Nat} {o : Oper}
    (h : ∀ g d, (∀ j, bindsOn md o j = true → d j = true) → StepAt P md ops Q X0 (val g) (J g d) (J g (fun j => if j = i then true else d j)) i o) : StepG P md ops Q X0 val J i o := by
  intro g d a w hJ _ hdep _ hS
  exact wpOp_mono (fun a' w' hq => ⟨g, fun _ _ => rfl, hq.1, hq.2⟩) (h g d hdep a w hJ hS)
theorem wpAny_tabG {P : Program} {md : Region.Mode} {ops : Array Oper} {Q : Exit → Act → World → Prop} {G : Type} (val : G → Nat → Value) (J : G → (Nat → Bool) → World → Prop)
    {X0 : Array Value} {df : List Deferred} (hok : tabOk md ops X0.size = true) (g : G) {w : World} (hJ : J g (fun _ => false) w)
    (hstep : ∀ i o, ops[i]? = some o → StepG P md ops Q X0 val J i o)
    (hend : ∀ g d w, (∀ j, j < ops.size → d j = true) → J g d w → Q .normal { tmps := finL (val g) ops.toList 0 X0, defers := df } w) :
    wpAny P md ops Q ops.size (Array.replicate ops.size false) { tmps := X0, defers := df } w :=
  wpAny_tab val J hok hend (fun i o ho g d a w => hstep i o ho g d a w) g hJ
theorem step_slice {P : Program} {md : Region.Mode} {ops : Array Oper} {Q : Exit → Act → World → Prop} {X0 : Array Value} {val : Nat → Value} {J : World → Prop} {i : Nat} {o : Oper} (hi : ops[i]? = some o) (hg : GOk md ops X0 val i o) (t : TypeId) (x : Operand) (lo hi' : Option Operand) (p : Value) (lv hv : Option Value) (ho : o.op = .slice t x lo hi' none) (hx : rdo md ops X0 val i o x = some p)
    (hlo : lo.map (rdo md ops X0 val i o) = lv.map some) (hhi : hi'.map (rdo md ops X0 val i o) = hv.map some) (hr : ∀ w, J w → (Instr.sliceAt t p lv hv none).run P w = .ok (val i) w) : StepAt P md ops Q X0 val J J i o :=
  step_of hi hg fun a w hJ hS => by
    have e1 : lo.map a.eval = lv := by
      cases lo with
      | none => cases lv with
        | none => rfl
        | some v => cases hlo
      | some y => cases lv with
        | none => cases hlo
        | some v => simp only [Option.map_some, Option.some.injEq] at hlo ⊢; exact hS.eval hlo
    have e2 : hi'.map a.eval = hv := by
      cases hi' with
      | none => cases hv with
        | none => rfl
        | some v => cases hhi
      | some y => cases hv with
        | none => cases hhi
        | some v => simp only [Option.map_some, Option.some.injEq] at hhi ⊢; exact hS.eval hhi
    unfold Oper.wp execOp
    simp only [ho, hS.eval hx, e1, e2, Option.map_none, Sem.run_bind, hr w hJ, Result.andThen_ok, Sem.run_pure, Oper.upon_value]
    exact ⟨trivial, hJ⟩
end Go.Proofs.YtggekbkgoegafaaDoor
namespace Go.Proofs.YtggekbkgoegafaaDoor
open Go.RowKit
theorem step_fieldAddr {P : Program} {md : Region.Mode} {ops : Array Oper} {Q : Exit → Act → World → Prop} {X0 : Array Value} {val : Nat → Value} {J : World → Prop} {i : Nat} {o : Oper} (hi : ops[i]? = some o) (hg : GOk md ops X0 val i o) (t : TypeId) (x : Operand) (f : Nat) (p : Value) (ho : o.op = .fieldAddr t x f) (hx : rdo md ops X0 val i o x = some p) (hr : ∀ w, J w → (Instr.fieldAt t p f).run P w = .ok (val i) w) : StepAt P md ops Q X0 val J J i o :=
  step_of hi hg fun a w hJ hS => by
    unfold Oper.wp execOp
    simp only [ho, hS.eval hx, Sem.run_bind, hr w hJ, Result.andThen_ok, Sem.run_pure, Oper.upon_value]
    exact ⟨trivial, hJ⟩
theorem bin_eql0 {P : Program} {t : TypeId} {x y : Operand} {w : World} (k : IntKind) (a b : Int) : binRun P .eql t x y (.int k a) (.int k b) w = .ok (.bool (a == b)) w := by simp [binRun, go_sem]
theorem bin_eqls {P : Program} {t : TypeId} {x y : Operand} {w : World} (a : ByteArray) : binRun P .eql t x y (.string a) (.string a) w = .ok (.bool true) w := by simp [binRun, go_sem]
end Go.Proofs.YtggekbkgoegafaaDoor
namespace Go.Proofs.YtggekbkgoegafaaDoor
open Go.RowKit
section
variable {P : Program} {md : Region.Mode} {ops : Array Oper} {Q : Exit → Act → World → Prop} {X0 : Array Value} {val : Nat → Value} {J J' : World → Prop} {i : Nat} {o : Oper}
theorem step_nilCheck (hi : ops[i]? = some o) (hg : GOk md ops X0 val i o) (x : Operand) (b off : Nat) (ho : o.op = .nilCheck x) (hx : rdo md ops X0 val i o x = some (.pointer (some ⟨b, off, none⟩))) (hv : val i = .pointer (some ⟨b, off, none⟩)) : StepAt P md ops Q X0 val J J i o :=
  step_of hi hg fun a w hJ hS => by
    unfold Oper.wp execOp
    simp [ho, hS.eval hx, Sem.run_pure, Oper.upon_value, hv, hJ]
end
end Go.Proofs.YtggekbkgoegafaaDoor
namespace Go.Proofs.YtggekbkgoegafaaDoor
open Go.RowKit Go.Shelf

theorem bel2 {w w1 w2 : World} (h : Below w.heap.size w w1) (k : Below w1.heap.size w1 w2) : Below w.heap.size w w2 := h.trans (k.mono h.size)
theorem al1' (w : World) (o : Obj) : Below w.heap.size w (w.alloc o) := (Below.refl _ w).alloc (Nat.le_refl _) o
theorem add_pl (b off j : Nat) : (⟨b, off, none⟩ : Addr).add j = ⟨b, off + j, none⟩ := by unfold Addr.add; split <;> simp_all
theorem own_form {W : World} {base : Nat} {e : TypeId} {size : Nat} {v : Value} {n : Nat} {xs : List Value} (h : W.ownsRow base e size v n xs) : (v = .slice none 0 0 ∧ n = 0) ∨ ∃ g cap, v = .slice (some ⟨g, 0, none⟩) n cap ∧ base ≤ g ∧ g < W.heap.size ∧ n ≤ cap ∧ cap ≤ maxLen ∧ ∃ cur, W.heap[g]? = some (.cells cur e (0, 0)) := by
  rcases h.2 with h1 | ⟨g, cap, cur, h1, h2, h3, h4, h5, _⟩
  · exact .inl h1
  · exact .inr ⟨g, cap, h1, h2, lt_at h3, h4, h5, cur, h3⟩
theorem own_block {W : World} {base : Nat} {e : TypeId} {size : Nat} {v : Value} {n : Nat} {xs : List Value} (h : W.ownsRow base e size v n xs) : ∀ k, v.ownBlock = some k → base ≤ k := fun k e => (h.lt k e).1
theorem row_base {w : World} {base base' : Nat} {e : TypeId} {size : Nat} {v : Value} {n : Nat} {xs : List Value} (h : w.ownsRow base e size v n xs) (hb : base' ≤ base) : w.ownsRow base' e size v n xs := by
  refine ⟨h.1, ?_⟩
  rcases h.2 with h1 | ⟨g, cap, cur, h1, h2, h3, h4⟩
  · exact .inl h1
  · exact .inr ⟨g, cap, cur, h1, Nat.le_trans hb h2, h3, h4⟩
/-- All of them are bytes. -/
theorem row_other {w : World} {base : Nat} {e : TypeId} {v : Value} {size n b j : Nat} {xs : List Value} (h : w.ownsRow base e size v n xs) (hb : v.ownBlock ≠ some b) (u : Value) : (w.setCell ⟨b, j, none⟩ u).ownsRow base e size v n xs := by
  refine ⟨h.1, ?_⟩
  rcases h.2 with h1 | ⟨g1, cap, cur, rfl, h2, h3, h4⟩
  · exact .inl h1
  · exact .inr ⟨g1, cap, cur, rfl, h2, (Below.heap_setCell _ _ _ _ (fun e => hb (congrArg some e))).trans h3, h4⟩
theorem row_apart2 {w w' : World} {base : Nat} {e : TypeId} {size : Nat} {v : Value} {n : Nat} {xs : List Value} {row : Option Nat} (h : w.ownsRow base e size v n xs) (hg : w.grownBy w' row) (hne : ∀ b, row = some b → v.ownBlock ≠ some b) : w'.ownsRow base e size v n xs := by
  obtain ⟨h1, h2⟩ := h
  refine ⟨h1, ?_⟩
  rcases h2 with h2 | ⟨g, cap, cur, h3, h4, h5, h6⟩
  · exact .inl h2
  · subst h3
    exact .inr ⟨g, cap, cur, rfl, h4, (hg.block g (lt_at h5) (fun e => hne g e.symm rfl)).trans h5, h6⟩
theorem rowBlk {w : World} {base : Nat} {e : TypeId} {size : Nat} {v : Value} {n : Nat} {xs : List Value} (h : w.ownsRow base e size v n xs) : ∀ g, v.ownBlock = some g → base ≤ g ∧ ∃ cur, w.heap[g]? = some (.cells cur e (0, 0)) := by
  intro g hg
  rcases h.2 with ⟨rfl, _⟩ | ⟨g', cap, cur, rfl, h4, h5, _⟩
  · cases hg
  · cases hg
    exact ⟨h4, cur, h5⟩
theorem row_lt2 {w : World} {base : Nat} {e : TypeId} {size : Nat} {v : Value} {n : Nat} {xs : List Value} (h : w.ownsRow base e size v n xs) : ∀ b, v.ownBlock = some b → base ≤ b ∧ b < w.heap.size := fun b hb => by
  obtain ⟨h1, cur, h2⟩ := rowBlk h b hb
  exact ⟨h1, lt_at h2⟩
theorem info_parts {t : TypeId} {z : Option Value} {s b : Nat} (h : (Tryd.prog.info? t).map (fun i => (i.zero, i.size, i.bytes)) = some (z, s, b)) : ∃ i, Tryd.prog.info? t = some i ∧ i.zero = z ∧ i.size = s ∧ i.bytes = b := by
  cases hi : Tryd.prog.info? t with
  | none => rw [hi] at h; cases h
  | some i =>
    rw [hi] at h
    simp only [Option.map_some, Option.some.injEq, Prod.mk.injEq] at h
    exact ⟨i, rfl, h.1, h.2.1, h.2.2⟩
theorem own_some {W : World} {base : Nat} {e : TypeId} {size : Nat} {v : Value} {n : Nat} {xs : List Value} (h : W.ownsRow base e size v n xs) (hn : 0 < n) : ∃ g c, v = .slice (some ⟨g, 0, none⟩) n c := by
  rcases own_form h with ⟨_, e2⟩ | ⟨g, c, e1, _⟩
  · omega
  · exact ⟨g, c, e1⟩
theorem own_prefix {W : World} {base g n cap N size : Nat} {e : TypeId} {xs : List Value} (h : W.ownsRow base e size (.slice (some ⟨g, 0, none⟩) n cap) n xs) (hN : N ≤ n) : W.ownsRow base e size (.slice (some ⟨g, 0, none⟩) N cap) N (xs.take (N * size)) := by
  obtain ⟨h1, h2⟩ := h
  have hle : N * size ≤ n * size := Nat.mul_le_mul_right _ hN
  rcases h2 with ⟨q, _⟩ | ⟨g', cap', cur, q, hb, hc, h4, h5, h6, h7⟩
  · cases q
  cases q
  refine ⟨by rw [List.length_take]; omega, .inr ⟨g, cap, cur, rfl, hb, hc, by omega, h5, h6, ?_⟩⟩
  rw [← h7, List.take_take, Nat.min_eq_left hle]
theorem row_type {W : World} {base n q size : Nat} {e : TypeId} {v : Value} {xs : List Value} {cur : Array Value} {t : TypeId} {fz : Nat × Nat} (h : W.ownsRow base e size v n xs) (ho : W.heap[q]? = some (.cells cur t fz)) (ht : t ≠ e) : v.ownBlock ≠ some q := fun hq => by
  obtain ⟨_, c, h2⟩ := rowBlk h q hq
  have := h2.symm.trans ho
  simp only [Option.some.injEq, Obj.cells.injEq] at this
  exact ht this.2.1.symm
/-- The row is at another place. -/
theorem row_moved {W V : World} {base n size : Nat} {e : TypeId} {v : Value} {xs : List Value} (h : W.ownsRow base e size v n xs) (hV : ∀ b, v.ownBlock = some b → V.heap[b]? = W.heap[b]?) : V.ownsRow base e size v n xs := by
  obtain ⟨h1, h2⟩ := h
  refine ⟨h1, ?_⟩
  rcases h2 with h2 | ⟨g, cap, cur, h3, h4, h5, h6⟩
  · exact .inl h2
  · subst h3
    exact .inr ⟨g, cap, cur, rfl, h4, (hV g rfl).trans h5, h6⟩
theorem wpList_append_two {P : Program} (w : World) {ops : Array Oper} {rest : List Oper} {o : Oper} {a : Act} {Q : Exit → Act → World → Prop}
    (hg : o.guard = none) (s x : Operand) (t : TypeId) (hop : o.op = Op.call { callee := Callee.builtin Builtin.append, args := #[s, x], argTypes := #[t, t] })
    (base : Nat) (e : TypeId) (i : TypeInfo) (z : Value) (size bytes : Nat) (h1 : P.underlying t = some (.slice e)) (h2 : P.info? e = some i) (h3 : i.zero = some z) (h4 : i.size = size) (h5 : i.bytes = bytes) (h6 : z.cells.size = size) (h7 : 0 < size)
    (v : Value) (n : Nat) (xs : List Value) (hs : a.eval s = v) (hown : w.ownsRow base e size v n xs)
    (ad : Addr) (m c : Nat) (news : List Value) (hx : a.eval x = .slice (some ad) m c) (hn : news.length = m * size) (hc : ∀ j u, news[j]? = some u → w.cell? (ad.add j) = some u) (h1c : ∀ u ∈ news, u.oneCell' = true)
    (hm0 : 0 < m) (b1 : n + m ≤ maxLen) (b2 : (n + m) * bytes ≤ 140737488355328) (hbase : base ≤ w.heap.size)
    (hK : ∀ v' w', w'.ownsRow base e size v' (n + m) (xs ++ news) → ((∃ g cap, v = .slice (some ⟨g, 0, none⟩) n cap ∧ v' = .slice (some ⟨g, 0, none⟩) (n + m) cap ∧ w.grownBy w' (some g)) ∨ (w'.ownsRow w.heap.size e size v' (n + m) (xs ++ news) ∧ w.grownBy w' none)) → wpList P ops Q rest (a.put o.dst v') w') :
    wpList P ops Q (o :: rest) a w := by
  obtain ⟨l1, l2⟩ := hown
  have hfin : ∀ v' w', w'.ownsRow w.heap.size e size v' (n + m) (xs ++ news) → w.grownBy w' none → wpList P ops Q rest (a.put o.dst v') w' := fun v' w' q1 q2 => hK v' w' (row_base q1 hbase) (.inr ⟨q1, q2⟩)
  rcases l2 with ⟨rfl, rfl⟩ | ⟨g, cap, cur, rfl, hb, hgc, hnc, hcm, hsz, htk⟩
  · exact wpList_append_grows w hg s x t hop e i z size bytes h1 h2 h3 h4 h5 h6 h7 none 0 0 xs hs (fun _ => ⟨rfl, rfl⟩) l1 (fun b hb => by cases hb) ad m c news hx hn hc h1c (by omega) b1 b2 hfin
  by_cases hr : n + m ≤ cap
  case neg =>
    refine wpList_append_grows w hg s x t hop e i z size bytes h1 h2 h3 h4 h5 h6 h7 (some ⟨g, 0, none⟩) n cap xs hs (fun q => by cases q) l1 (fun b hb j u hj => ?_) ad m c news hx hn hc h1c (by omega) b1 b2 hfin
    obtain rfl := Option.some.inj hb
    rw [add_pl, Nat.zero_add, cell_at hgc, ← Array.getElem?_toList]
    rw [← htk] at hj
    rw [List.getElem?_take] at hj
    split at hj
    · exact hj
    · cases hj
  · subst h4
    have hm1 : (n + m) * i.size ≤ cap * i.size := Nat.mul_le_mul_right _ hr
    have hm2 : (n + m) * i.size = n * i.size + m * i.size := Nat.add_mul _ _ _
    have hrun := run_append_room (P := P) w t o.type e i h1 h2 g n cap cur hgc ad m c news hn hc h1c hr (by omega)
    refine wpList_plain hg fun K hK' => ?_
    unfold Oper.wp
    simp [execOp, hop, resolve, invoke, builtin, hs, hx, hrun, Result.andThen]
    refine hK' _ _ (hK _ _ ⟨by rw [List.length_append]; omega, .inr ⟨g, cap, _, rfl, hb, setRow_heap _ _ _ _ _ _ hgc, hr, hcm, ?_, ?_⟩⟩ (.inl ⟨g, cap, rfl, rfl, ⟨rfl, rfl, rfl, by simp [World.setRow], fun k _ hk => setRow_other _ _ _ _ (fun e => hk (by rw [e]))⟩⟩))
    · simp
      omega
    · have e1 : xs.length = n * i.size := l1
      rw [htk, ← List.append_assoc, List.take_append_of_le_length (by rw [List.length_append]; omega), List.take_of_length_le (by rw [List.length_append]; omega)]
section
variable {G : Type} {P : Program} {md : Region.Mode} {ops : Array Oper} {Q : Exit → Act → World → Prop} {X0 : Array Value} {val : G → Nat → Value} {J : G → (Nat → Bool) → World → Prop} {i : Nat} {o : Oper}
theorem stepG_buildG (hi : ops[i]? = some o) (hg : o.guard = none) (t : TypeId) (x : Operand) (v : G → Value) (ho : o.op = .buildSlice t 1 #[(0, x)]) (hx : ∀ g, rdo md ops X0 (val g) i o x = some (v g))
    (h : ∀ g d w, J g d w → d i = false → (∀ j, bindsOn md o j = true → d j = true) → (∀ j oj, ops[j]? = some oj → d j = true → ∀ k, bindsOn md oj k = true → d k = true) → ∃ g' w', (Instr.buildSlice t 1 #[(0, v g)]).run P w = .ok (val g' i) w' ∧ (∀ j, d j = true → val g' j = val g j) ∧ J g' (fun j => if j = i then true else d j) w') : StepG P md ops Q X0 val J i o := by
  intro g d a w hJ hun hdep hcl hS
  have hS' : Seen md ops X0 (val g) i o a := hS
  obtain ⟨g', w', h1, h2, h3⟩ := h g d w hJ hun hdep hcl
  unfold wpOp
  rw [hi]
  simp only [Region.wanted, hg, if_true]
  refine .inl ?_
  unfold Oper.wp execOp
  simp only [ho, List.map_toArray, List.map_cons, List.map_nil, hS'.eval (hx g), Sem.run_bind, h1, Result.andThen_ok, Sem.run_pure, Oper.upon_value]
  exact ⟨g', h2, rfl, h3⟩
theorem stepG_append (hi : ops[i]? = some o) (hg : o.guard = none) (t : TypeId) (x y : Operand) (vx vy : G → Value) (ho : o.op = .call { callee := .builtin .append, args := #[x, y], argTypes := #[t, t] }) (hx : ∀ g, rdo md ops X0 (val g) i o x = some (vx g)) (hy : ∀ g, rdo md ops X0 (val g) i o y = some (vy g))
    (h : ∀ g d w, J g d w → d i = false → (∀ j, bindsOn md o j = true → d j = true) → (∀ j oj, ops[j]? = some oj → d j = true → ∀ k, bindsOn md oj k = true → d k = true) → ∃ g' w', (Builtin.append_ #[t, t] o.type #[vx g, vy g]).run P w = .ok (val g' i) w' ∧ (∀ j, d j = true → val g' j = val g j) ∧ J g' (fun j => if j = i then true else d j) w') : StepG P md ops Q X0 val J i o := by
  intro g d a w hJ hun hdep hcl hS
  have hS' : Seen md ops X0 (val g) i o a := hS
  obtain ⟨g', w', h1, h2, h3⟩ := h g d w hJ hun hdep hcl
  unfold wpOp
  rw [hi]
  simp only [Region.wanted, hg, if_true]
  refine .inl ?_
  unfold Oper.wp execOp
  simp only [ho, resolve, invoke, builtin, List.map_toArray, List.map_cons, List.map_nil, hS'.eval (hx g), hS'.eval (hy g), Sem.run_bind, h1, Result.andThen_ok, Sem.run_pure, Oper.upon_value]
  exact ⟨g', h2, rfl, h3⟩
theorem stepG_store (hi : ops[i]? = some o) (hg : o.guard = none) (hd : o.dst = none) (t : TypeId) (x y : Operand) (vx vy : G → Value) (ho : o.op = .store t x y) (hx : ∀ g, rdo md ops X0 (val g) i o x = some (vx g)) (hy : ∀ g, rdo md ops X0 (val g) i o y = some (vy g))
    (h : ∀ g d w, J g d w → d i = false → (∀ j, bindsOn md o j = true → d j = true) → ∃ w', (Instr.storeAt t (vx g) (vy g)).run P w = .ok () w' ∧ J g (fun j => if j = i then true else d j) w') : StepG P md ops Q X0 val J i o := by
  intro g d a w hJ hun hdep hcl hS
  have hS' : Seen md ops X0 (val g) i o a := hS
  obtain ⟨w', h1, h3⟩ := h g d w hJ hun hdep
  unfold wpOp
  rw [hi]
  simp only [Region.wanted, hg, if_true]
  refine .inl ?_
  unfold Oper.wp execOp
  simp only [ho, hS'.eval (hx g), hS'.eval (hy g), Sem.run_bind, h1, Result.andThen_ok, Sem.run_pure, Oper.upon_skip]
  exact ⟨g, fun _ _ => rfl, by rw [hd]; rfl, h3⟩
end
theorem stepG_ofC {G : Type} {P : Program} {md : Region.Mode} {ops : Array Oper} {Q : Exit → Act → World → Prop} {X0 : Array Value} {val : G → Nat → Value} {J : G → (Nat → Bool) → World → Prop} {i : Nat} {o : Oper}
    (h : ∀ g d, d i = false → (∀ j, bindsOn md o j = true → d j = true) → (∀ j oj, ops[j]? = some oj → d j = true → ∀ k, bindsOn md oj k = true → d k = true) → StepAt P md ops Q X0 (val g) (J g d) (J g (fun j => if j = i then true else d j)) i o) : StepG P md ops Q X0 val J i o := by
  intro g d a w hJ hun hdep hcl hS
  exact wpOp_mono (fun a' w' hq => ⟨g, fun _ _ => rfl, hq.1, hq.2⟩) (h g d hun hdep hcl a w hJ hS)
/-- What turns the block p alone, and its list's. -/
structure Tn (p : Nat) (g g' : Option Nat) (W W' : World) : Prop where
  os : W'.os = W.os
  tape : W'.tape = W.tape
  output : W'.output = W.output
  size : W.heap.size ≤ W'.heap.size
  block : ∀ k, k < W.heap.size → k ≠ p → some k ≠ g → W'.heap[k]? = W.heap[k]?
  own : g' = g ∨ ∀ b, g' = some b → W.heap.size ≤ b
theorem Tn.below {p : Nat} {g g' : Option Nat} {W W' : World} {base : Nat} (h : Tn p g g' W W') (hp : base ≤ p) (hg : ∀ b, g = some b → base ≤ b) (hb : base ≤ W.heap.size) : Below base W W' :=
  ⟨h.os, h.tape, h.output, h.size, fun k hk => h.block k (by omega) (by omega) (fun e => by have := hg k e.symm; omega)⟩
theorem Tn.of (p : Nat) (g : Option Nat) {W W' : World} (hb : Below W.heap.size W W') : Tn p g g W W' := ⟨hb.os, hb.tape, hb.output, hb.size, fun k hk _ _ => hb.block k hk, .inl rfl⟩
theorem Tn.trans {p : Nat} {g g' g'' : Option Nat} {W W' W'' : World} (h : Tn p g g' W W') (k : Tn p g' g'' W' W'') : Tn p g g'' W W'' := by
  refine ⟨k.os.trans h.os, k.tape.trans h.tape, k.output.trans h.output, Nat.le_trans h.size k.size, fun j hj h1 h2 => ?_, ?_⟩
  · refine (k.block j (Nat.lt_of_lt_of_le hj h.size) h1 (fun e => ?_)).trans (h.block j hj h1 h2)
    rcases h.own with q | q
    · exact h2 (e.trans q)
    · have := q j e.symm
      omega
  · rcases k.own with q | q
    · rw [q]
      exact h.own
    · exact .inr fun b e => Nat.le_trans h.size (q b e)

end Go.Proofs.YtggekbkgoegafaaDoor
