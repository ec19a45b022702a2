/- Words printed, and read again: plain mathematics. -/
import Derived.Test.YtibhljdiofglfaaDoorJnJ2
import Derived.Test.YtibhljdiofglfaaDoorScp
import Derived.Test.YtibhljdiofglfaaDoorCutS
import Derived.Test.YtibhljdiofglfaaDoorJnJ4
import Derived.Test.YtibhljdiofglfaaDoorLea
namespace Go.Proofs.YtibhljdiofglfaaDoor
open Go.RowKit Go.Shelf

def bS : ByteArray := ⟨#[32]⟩
/-- What stands ahead of a word. -/
def btw (so : Bool) (k : Int) : ByteArray := if so = true ∧ k ≠ 1 then bS else ByteArray.empty
/-- The printed text; so: a word stands ahead. -/
def prs : Bool → List Fou → ByteArray
  | _, [] => ByteArray.empty
  | so, q :: r => btw so q.1 ++ (q.2.1 ++ prs (decide (q.1 ≠ 1)) r)
theorem prs_kt : ∀ (l m : List Fou) (so : Bool), l.map kt = m.map kt → prs so l = prs so m
  | [], [], _, _ => rfl
  | [], y :: m, _, h => by simp at h
  | x :: l, [], _, h => by simp at h
  | x :: l, y :: m, so, h => by
    rw [List.map_cons, List.map_cons] at h
    obtain ⟨h1, h2⟩ := List.cons.inj h
    have e1 : x.1 = y.1 := (Prod.mk.inj h1).1
    have e2 : x.2.1 = y.2.1 := (Prod.mk.inj h1).2
    rw [prs, prs, e1, e2, prs_kt l m _ h2]
theorem shp_kt {N : Nat} : ∀ (l m : List Fou) (so : Bool), l.map kt = m.map kt → Shp N so l → Shp N so m
  | [], [], _, _, hs => hs
  | [], y :: m, _, h, _ => by simp at h
  | x :: l, [], _, h, _ => by simp at h
  | x :: l, y :: m, so, h, hs => by
    rw [List.map_cons, List.map_cons] at h
    obtain ⟨h1, h2⟩ := List.cons.inj h
    have e1 : x.1 = y.1 := (Prod.mk.inj h1).1
    have e2 : x.2.1 = y.2.1 := (Prod.mk.inj h1).2
    rcases hs with ⟨k1, k2, k3, hr⟩ | ⟨k1, hw, hr⟩
    · exact .inl ⟨by rw [← e1]; exact k1, by rw [← e2]; exact k2, k3, shp_kt l m _ h2 hr⟩
    · exact .inr ⟨by rw [← e1]; exact k1, by rw [← e1, ← e2]; exact hw, shp_kt l m _ h2 hr⟩
/-- Behind a word stands a blank, or the line's end. -/
theorem prs_sep {N : Nat} : ∀ (l : List Fou), Shp N true l → 0 < (prs true l).size ∧ Sep (byt (prs true l) 0)
  | [], h => by cases h
  | q :: r, h => by
    rcases h with ⟨k1, k2, _, hr⟩ | ⟨k1, hw, hr⟩
    · have e : prs true (q :: r) = ⟨#[10]⟩ ++ prs false r := by
        rw [prs, btw, if_neg (by rintro ⟨_, h⟩; exact h k1), ByteArray.empty_append, k2, decide_eq_false (by rw [k1]; simp)]
      have hz : (⟨#[10]⟩ : ByteArray).size = 1 := rfl
      have hz2 : (prs true (q :: r)).size = 1 + (prs false r).size := by rw [e, ByteArray.size_append, hz]
      refine ⟨by omega, .inr (.inr ?_)⟩
      have h0 : 0 < (⟨#[10]⟩ ++ prs false r : ByteArray).size := by rw [ByteArray.size_append, hz]; omega
      rw [e, byt_get h0, ByteArray.getElem_append_left (by rw [hz]; omega)]
      rfl
    · have e : prs true (q :: r) = bS ++ (q.2.1 ++ prs true r) := by
        rw [prs, btw, if_pos ⟨rfl, k1⟩, decide_eq_true k1]
      have hz : bS.size = 1 := rfl
      have hz2 : (prs true (q :: r)).size = 1 + (q.2.1 ++ prs true r).size := by rw [e, ByteArray.size_append, hz]
      refine ⟨by omega, .inr (.inl ?_)⟩
      have h0 : 0 < (bS ++ (q.2.1 ++ prs true r) : ByteArray).size := by rw [ByteArray.size_append, hz]; omega
      rw [e, byt_get h0, ByteArray.getElem_append_left (by rw [hz]; omega)]
      rfl
theorem print_scan : ∀ (N : Nat) (l : List Fou) (so : Bool) (t : ByteArray) (p f ln fr : Nat) (acc : List Fou), Shp N so l → p ≤ t.size → t.extract p t.size = prs so l → t.size + 1 < p + f → ∃ r, scD t f p ln fr so acc = .inl (acc ++ r) ∧ l.map kt = r.map kt
  | N, [], so, t, p, f, ln, fr, acc, hs, hp, he, hf => by
    have hso : so = false := hs
    subst hso
    have hsz : (t.extract p t.size).size = t.size - p := by simp
    rw [he] at hsz
    have h0 : (prs false []).size = 0 := rfl
    obtain ⟨f, rfl⟩ : ∃ g, f = g + 2 := ⟨f - 2, by omega⟩
    rw [sc_eol t (f + 1) p ln fr false acc (by omega) (.inl (by omega)), if_neg (by simp), sc_end t f (p + 1) _ _ _ _ (by omega)]
    exact ⟨[], by simp, rfl⟩
  | N, q :: r, so, t, p, f, ln, fr, acc, hs, hp, he, hf => by
    rcases hs with ⟨k1, k2, rfl, hr⟩ | ⟨k1, hw, hr⟩
    · rw [prs, btw, if_neg (by rintro ⟨_, h⟩; exact h k1), ByteArray.empty_append, k2, decide_eq_false (by rw [k1]; simp)] at he
      obtain ⟨a1, a2, a3, _⟩ := rest_app t ⟨#[10]⟩ _ p hp he
      have hz : (⟨#[10]⟩ : ByteArray).size = 1 := rfl
      rw [hz] at a1 a2 a3
      have b0 : byt t (p + 0) = 10 := a2 0 (by omega)
      rw [Nat.add_zero] at b0
      obtain ⟨f, rfl⟩ : ∃ g, f = g + 1 := ⟨f - 1, by omega⟩
      rw [sc_eol t f p _ _ _ _ (by omega) (.inr b0), if_pos rfl]
      obtain ⟨R, e1, e2⟩ := print_scan N r false t (p + 1) f (ln + 1) (p + 1) (acc ++ [(1, ⟨#[10]⟩, (ln : Int), ((cnt t fr p + 1 : Nat) : Int))]) hr a1 a3 (by omega)
      refine ⟨_ :: R, by rw [e1, List.append_assoc]; rfl, ?_⟩
      rw [List.map_cons, List.map_cons, e2]
      congr 1
      show (q.1, q.2.1) = _
      rw [k1, k2]
      rfl
    · have hx0 := hw.some
      have word : ∀ (p f : Nat), p ≤ t.size → t.extract p t.size = q.2.1 ++ prs true r → t.size + 1 < p + f → ∃ R, scD t f p ln fr so acc = .inl (acc ++ R) ∧ (q :: r).map kt = R.map kt := fun p f hp he hf => by
        obtain ⟨c1, c2, c3, c4⟩ := rest_app t q.2.1 _ p hp he
        obtain ⟨s1, s2⟩ := prs_sep r hr
        have hsz : (t.extract (p + q.2.1.size) t.size).size = t.size - (p + q.2.1.size) := by simp
        rw [c3] at hsz
        have hb : byt t (p + q.2.1.size + 0) = byt (prs true r) 0 := by rw [← byt_extract t (p + q.2.1.size) 0 c1, c3]
        rw [Nat.add_zero] at hb
        obtain ⟨⟨g1, g2, g3⟩, g4, g5, g6⟩ := hw.there t p (by omega) c4 (by rw [hb]; exact s2)
        obtain ⟨f, rfl⟩ : ∃ g, f = g + 1 := ⟨f - 1, by omega⟩
        rw [sc_word t f p _ _ _ _ (by omega) g1 g2 g3 g6, g5, g4]
        obtain ⟨R, h1, h2⟩ := print_scan N r true t (p + q.2.1.size) f ln fr (acc ++ [(q.1, t.extract p (p + q.2.1.size), (ln : Int), ((cnt t fr p + 1 : Nat) : Int))]) hr c1 c3 (by omega)
        refine ⟨_ :: R, by rw [h1, List.append_assoc]; rfl, ?_⟩
        rw [List.map_cons, List.map_cons, h2]
        congr 1
        show (q.1, q.2.1) = (q.1, _)
        rw [c4]
      rw [prs, decide_eq_true k1] at he
      cases so with
      | false =>
        rw [btw, if_neg (by simp), ByteArray.empty_append] at he
        exact word p f hp he hf
      | true =>
        rw [btw, if_pos ⟨rfl, k1⟩] at he
        obtain ⟨a1, a2, a3, _⟩ := rest_app t bS _ p hp he
        have hz : bS.size = 1 := rfl
        rw [hz] at a1 a2 a3
        have b0 : byt t (p + 0) = 32 := a2 0 (by omega)
        rw [Nat.add_zero] at b0
        obtain ⟨f, rfl⟩ : ∃ g, f = g + 1 := ⟨f - 1, by omega⟩
        obtain ⟨R, h1, h2⟩ := word (p + 1) f a1 a3 (by omega)
        exact ⟨R, by rw [sc_gap t f p _ _ _ _ (by omega) (.inr (.inr b0)), h1], h2⟩
theorem print_text (N : Nat) (l : List Fou) (hs : Shp N false l) : badL (linesOf (prs false l)) = none ∧ l.map kt = (fours 0 (linesOf (prs false l))).map kt := by
  obtain ⟨t, ht⟩ : ∃ t, prs false l = t := ⟨_, rfl⟩
  have he0 : t.extract 0 t.size = prs false l := by rw [ht]; simp
  rw [ht]
  have hE := scan_eq t
  obtain ⟨R, e1, e2⟩ := print_scan N l false t 0 (t.size + 2) 1 0 [] hs (Nat.zero_le _) he0 (by omega)
  rw [List.nil_append] at e1
  unfold TxE at hE
  cases hb : badL (linesOf t) with
  | none =>
    rw [hb] at hE
    dsimp only at hE
    rw [show (0 : Nat) + 1 = 1 from rfl, e1, List.nil_append] at hE
    cases hE
    exact ⟨rfl, e2⟩
  | some x =>
    obtain ⟨i, er, c⟩ := x
    rw [hb] at hE
    dsimp only at hE
    rw [show (0 : Nat) + 1 = 1 from rfl, e1] at hE
    cases hE
set_option maxHeartbeats 1000000 in
/-- A word is what its first step tells. -/
theorem wrd_step {N : Nat} {k : Int} {x : ByteArray} (h : Wrd N k x) : stepR x 0 = .word k x.size := by
  obtain ⟨t, ht⟩ : ∃ t, x ++ ⟨#[10]⟩ = t := ⟨_, rfl⟩
  have hz : (⟨#[10]⟩ : ByteArray).size = 1 := rfl
  have hsz : t.size = x.size + 1 := by rw [← ht, ByteArray.size_append, hz]
  have h0 := h.some
  have hx : t.extract 0 (0 + x.size) = x := by
    rw [Nat.zero_add, ← ht]
    exact ByteArray.extract_append_eq_left rfl
  have hb : byt t (0 + x.size) = 10 := by
    rw [Nat.zero_add, ← ht, byt_get (by rw [ByteArray.size_append, hz]; omega), ByteArray.getElem_append_right (Nat.le_refl _)]
    simp
    rfl
  obtain ⟨⟨g1, g2, g3⟩, g4, g5, g6⟩ := h.there t 0 (by omega) hx (by rw [hb]; exact .inr (.inr rfl))
  have hE := le_end t (0 + 1) (by omega)
  have hs := step_eq t 0 x.size 0 (by omega) h0 (.inr hb) g1
  rw [hx] at hs
  have hn : nxD t 0 x.size = nxD t 0 (LE t (0 + 1)) := by
    by_cases q : byt t 0 = 34
    · have hq : LE t (0 + 1) = x.size := by
        obtain ⟨r1, r2⟩ := rn_asc t 0 (by omega) (by omega)
        have hlo : looseB t 0 = false := by unfold looseB; rw [r1, q]; rfl
        have hc : cls (rn t 0 : Int) = 5 := by rw [r1, q]; decide
        have e : (nxD t 0 (LE t (0 + 1))).2.1 = (lead (t.extract 0 (LE t (0 + 1))) (LE t (0 + 1)) (0 + 1) []).2.1 := by
          unfold nxD
          rw [if_neg (by rw [hlo, hc]; simp), if_neg (by rw [hc]; decide), if_neg (by rw [hc]; decide), if_pos q]
        have h1 := hE.1
        have h2 := hE.2.1
        have hEs : (t.extract 0 (LE t (0 + 1))).size = LE t (0 + 1) := by rw [ByteArray.size_extract, Nat.min_eq_left h2, Nat.sub_zero]
        have hle := lead_le (t.extract 0 (LE t (0 + 1))) (LE t (0 + 1)) (0 + 1) [] (by omega)
        rw [← e, g5, hEs] at hle
        rcases Nat.lt_or_ge x.size (LE t (0 + 1)) with k | k
        · have := hE.2.2.1 x.size (by omega) k
          rw [Nat.zero_add] at hb
          exact absurd hb this
        · omega
      rw [hq]
    · unfold nxD
      simp only [if_neg q]
  have e0 : (0 : Nat) + 0 + (x.size - 0) = x.size := by omega
  cases hst : stepR x 0 with
  | gap => rw [hst] at hs; exact absurd hs g2
  | stop => rw [hst] at hs; exact absurd hs g3
  | bad e off =>
    rw [hst] at hs
    obtain ⟨_, _, h1, h2, _⟩ := hs
    rw [e0, show (0 : Nat) + 0 = 0 from rfl, hn, g6] at h1
    exact absurd h1.symm h2
  | word k' sz =>
    rw [hst] at hs
    obtain ⟨_, _, h1, h2, _⟩ := hs
    rw [e0, show (0 : Nat) + 0 = 0 from rfl, hn] at h1 h2
    rw [g4] at h1
    rw [g5] at h2
    have : sz = x.size := by omega
    rw [h1, this]
end Go.Proofs.YtibhljdiofglfaaDoor
namespace Go.Proofs.YtibhljdiofglfaaDoor
open Go.RowKit Go.Shelf

/-- A word in a box of its own. -/
def TkB (W : World) (a : Nat) (q : Fou) : Prop := W.heap[a]? = some (.cells #[.int .i64 q.1, .string q.2.1, .int .i64 q.2.2.1, .int .i64 q.2.2.2] 32 (0, 0))
theorem TkB.lt {W : World} {a : Nat} {q : Fou} (h : TkB W a q) : a < W.heap.size := (Array.getElem?_eq_some_iff.1 h).1
theorem TkB.cells {W : World} {a : Nat} {q : Fou} (h : TkB W a q) : W.cell? ⟨a, 0, none⟩ = some (.int .i64 q.1) ∧ W.cell? ⟨a, 1, none⟩ = some (.string q.2.1) ∧ W.cell? ⟨a, 2, none⟩ = some (.int .i64 q.2.2.1) ∧ W.cell? ⟨a, 3, none⟩ = some (.int .i64 q.2.2.2) := ⟨cell_of h 0, cell_of h 1, cell_of h 2, cell_of h 3⟩
theorem new_tk (w : World) (q : Fou) : TkB (w.alloc (.cells #[.int .i64 q.1, .string q.2.1, .int .i64 q.2.2.1, .int .i64 q.2.2.2] 32)) w.heap.size q := by
  show (w.alloc _).heap[w.heap.size]? = some _
  exact new_at rfl
set_option maxHeartbeats 2000000 in
set_option maxRecDepth 100000 in
theorem isw1_any (a b : Nat) (q : Fou) (y : ByteArray) (l c : Int) (z : Bool) (w : World) (ha : TkB w a q) (hb : Boxed w b 4 (.bool z)) (hy : y.size = q.2.1.size) :
    Calls Tryd.prog 51 #[.agg #[.int .i64 q.1, .string y, .int .i64 l, .int .i64 c], .pointer (some ⟨a, 0, none⟩), .pointer (some ⟨b, 0, none⟩)] w fun e w' => e = .returned (.bool false) ∧ Boxed w' b 4 (.bool true) ∧ Tch b none w w' := by
  obtain ⟨W1, hW1⟩ : ∃ W1, w.alloc (.cells #[.int .i64 q.1, .string y, .int .i64 l, .int .i64 c] 32) = W1 := ⟨_, rfl⟩
  have hB : Below w.heap.size w W1 := by rw [← hW1]; exact (Below.refl _ w).alloc (Nat.le_refl _) _
  have hn : TkB W1 w.heap.size (q.1, y, l, c) := by rw [← hW1]; exact new_tk w (q.1, y, l, c)
  have hs : W1.heap.size = w.heap.size + 1 := by rw [← hW1]; simp
  have ha1 : TkB W1 a q := (hB.block a ha.lt).trans ha
  have hb1 : Boxed W1 b 4 (.bool z) := (hB.block b hb.lt).trans hb
  obtain ⟨x0, x1, _, _⟩ := hn.cells
  obtain ⟨y0, y1, _, _⟩ := ha1.cells
  have hcb := hb1.cell
  have hfb := hb1.frozen
  have hsy : (y.size : Int) = (q.2.1.size : Int) := by omega
  obtain ⟨k, x, l2, c2⟩ := q
  dsimp only at x0 x1 y0 y1 hsy hW1 ⊢
  clear hn ha1
  go_enter Tryd.func51, Tryd.ntmps51
  go_wp2
  go_ret
  refine ⟨rfl, hb1.set _, hB.os, hB.tape, hB.output, ?_, fun i hi hib _ => ?_⟩
  · have h2 : ∀ v, (W1.setCell ⟨b, 0, none⟩ v).heap.size = W1.heap.size := fun v => by simp [World.setCell]
    rw [h2]
    omega
  · have h2 : ∀ v, (W1.setCell ⟨b, 0, none⟩ v).heap[i]? = W1.heap[i]? := fun v => by simp [World.setCell, Array.getElem?_modify, Ne.symm hib]
    rw [h2]
    exact hB.block i hi
structure Iw (s : ByteArray) (a b k0 : Nat) (q : Fou) (w : World) (pos : Nat) (z : Bool) (W : World) : Prop where
  it : W.heap[k0]? = some (.stringIter s pos)
  bx : Boxed W b 4 (.bool z)
  ba : TkB W a q
  tch : TchB w.heap.size b w W
theorem Iw.below {s : ByteArray} {a b k0 : Nat} {q : Fou} {w : World} {pos : Nat} {z : Bool} {W W' : World} (h : Iw s a b k0 q w pos z W) (hb : Below W.heap.size W W') : Iw s a b k0 q w pos z W' :=
  ⟨(hb.block k0 (Array.getElem?_eq_some_iff.1 h.it).1).trans h.it, (hb.block b h.bx.lt).trans h.bx, (hb.block a h.ba.lt).trans h.ba, h.tch.below hb (Nat.le_refl _)⟩
theorem Iw.iter {s : ByteArray} {a b k0 : Nat} {q : Fou} {w : World} {pos : Nat} {z : Bool} {W : World} (h : Iw s a b k0 q w pos z W) (hk : w.heap.size ≤ k0) (hbB : b < w.heap.size) (haB : a < w.heap.size) (p : Nat) : Iw s a b k0 q w p z (W.iterAt k0 s p) :=
  ⟨Lib.iterAt_heap W k0 s pos p h.it, (Lib.iterAt_other W k0 b s p (by omega)).trans h.bx, (Lib.iterAt_other W k0 a s p (by omega)).trans h.ba, h.tch.os, h.tch.tape, h.tch.output, by rw [Lib.iterAt_size]; exact h.tch.size, fun k hk2 hkb => (Lib.iterAt_other W k0 k s p (by omega)).trans (h.tch.block k hk2 hkb)⟩
/-- What stands at a jump out of the loop. -/
def Jx (b : Nat) (w : World) (l m : Nat) (a' : Act) (W : World) : Prop :=
  m = 0 ∧ l = 0 ∧ ∃ (X : Array Value), a' = { tmps := X, defers := [] } ∧ X = frO (X.getD 9 undef) (X.getD 10 undef) (fun i => X.getD i undef) ∧ Boxed W b 4 (.bool true) ∧ TchB w.heap.size b w W
/-- What stands at a jump within a round. -/
def Jy (s : ByteArray) (tk : Value) (a b k0 : Nat) (q : Fou) (w : World) (pos nx col : Nat) (z : Bool) (l m : Nat) (a' : Act) (W : World) : Prop :=
  ∃ (X : Array Value) (kind : Int), a' = { tmps := X, defers := [] } ∧ X = frI s tk k0 kind (X.getD 7 undef) col nx pos (fun i => X.getD i undef) ∧ Iw s a b k0 q w (pos + wd s pos) z W ∧ kindR (rn s pos : Int) = kind ∧
    ((l = 1 ∧ m = 2 ∧ kind = 2) ∨ (l = 2 ∧ m = 2 ∧ kind = 3) ∨ (l = 3 ∧ m = 2 ∧ kind = 4) ∨ (l = 4 ∧ m = 1 ∧ X.getD 7 undef = .int .i64 s.size ∧ q.1 = kind))
set_option maxHeartbeats 4000000 in
set_option maxRecDepth 1000000 in
theorem cutW_any (s : ByteArray) (hs : s.size ≤ 65536) (h0 : 0 < s.size) (a b : Nat) (q : Fou) (hq : q.2.1.size = s.size) (hst : stepR s 0 = .word q.1 s.size) (z : Bool) (w : World) (ha : TkB w a q) (hb : Boxed w b 4 (.bool z)) :
    Calls Tryd.prog 17 #[.string s, .func (.func 51) #[] #[.pointer (some ⟨a, 0, none⟩), .pointer (some ⟨b, 0, none⟩)]] w fun e w' => e = .returned (.tuple #[.int .i64 0, .int .i64 0]) ∧ Boxed w' b 4 (.bool true) ∧ TchB w.heap.size b w w' := by
  have hbB := hb.lt
  have haB := ha.lt
  have HST : Hid (stepR s 0 = .word q.1 s.size) := hst
  clear hst
  go_enter Tryd.func17, Tryd.ntmps17
  go_wp2
  refine wp_scope_out [] (Jx b w) (fun l h => by cases h) ?_ ?_
  · go_wp2
    go_loopw [10, 11] (fun c x wz => ∃ (pos nx col : Nat), c = .int .i64 col ∧ x = .int .i64 nx ∧ col ≤ pos ∧ Hid (pos = 0) ∧ ¬ pos < nx ∧ Iw s a b w.heap.size q w pos z wz) (fun _ _ wz => s.size - wz.iterPos w.heap.size)
    case atStart =>
      have hb0 : Below w.heap.size w (w.alloc (.stringIter s 0)) := (Below.refl _ w).alloc (Nat.le_refl _) _
      exact ⟨0, 0, 0, rfl, rfl, Nat.le_refl _, rfl, by omega, World.iter_heap w s 0, hb.alloc _, (hb0.block a haB).trans ha, rfl, rfl, rfl, hb0.size, fun k hk _ => hb0.block k (by omega)⟩
    case round =>
      obtain ⟨pos, nx, col, rfl, rfl, hcp, HP, hin, hI⟩ := hrel
      have hit := hI.it
      have hsz : w.heap.size < wr.heap.size := (Array.getElem?_eq_some_iff.1 hit).1
      have hp : pos < s.size := by have := HP.out; omega
      have HS : Hid (stepR s pos = .word q.1 s.size) := by show _ = _; rw [HP.out]; exact HST.out
      have HX : Hid (s.extract pos (pos + s.size) = s) := by show _ = _; rw [HP.out]; simp
      have hp65 : pos ≤ 65536 := by omega
      clear HP HST
      have hnx : ∀ ty, (Instr.next (.pointer (some ⟨w.heap.size, 0, none⟩)) true ty).run Tryd.prog wr = _ := fun ty => Lib.run_next_any_at wr w.heap.size s pos ty hit hp
      have hwd := wd_pos s pos
      have hwl := wd_le s pos hp
      have erw : (Utf8.decode s pos).1 = rn s pos := rfl
      have eww : (Utf8.decode s pos).2 = wd s pos := rfl
      rw [erw, eww] at hnx
      clear erw eww
      have hI2 : Iw s a b w.heap.size q w (pos + wd s pos) z (wr.iterAt w.heap.size s (pos + wd s pos)) := hI.iter (Nat.le_refl _) hbB haB _
      generalize wr.iterAt w.heap.size s (pos + wd s pos) = W2 at *
      go_wp2
      refine wp_scope_out [0, 5] (Jy s (.func (.func 51) #[] #[.pointer (some ⟨a, 0, none⟩), .pointer (some ⟨b, 0, none⟩)]) a b w.heap.size q w pos nx (col + 1) z) (by
        intro l hl
        simp only [List.mem_cons, List.mem_nil_iff, or_false] at hl
        rcases hl with rfl | rfl <;> rfl) ?_ ?_
      · have hini : ¬ (pos : Int) < (nx : Int) := by omega
        have hS := HS.out
        by_cases k1 : kindR (rn s pos : Int) = -1
        · rw [stepR, if_pos k1] at hS; cases hS
        by_cases k2 : kindR (rn s pos : Int) = -2
        · rw [stepR, if_neg k1, if_pos k2] at hS; cases hS
        by_cases k3 : kindR (rn s pos : Int) = 2
        · have hk := k3
          clear hS
          go_wp2_with (go_at_call 30; refine (kindAt_any _ _).mono ?_; rintro e W9 ⟨rfl, hb9⟩; rw [hk]; have hI9 := hI2.below hb9)
          go_step3
          exact Or.inr ⟨2, _, 2, rfl, rfl, hI9, hk, Or.inl ⟨rfl, rfl, rfl⟩⟩
        by_cases k4 : kindR (rn s pos : Int) = 3
        · have hk := k4
          clear hS
          go_wp2_with (go_at_call 30; refine (kindAt_any _ _).mono ?_; rintro e W9 ⟨rfl, hb9⟩; rw [hk]; have hI9 := hI2.below hb9)
          go_step3
          exact Or.inr ⟨2, _, 3, rfl, rfl, hI9, hk, Or.inr (Or.inl ⟨rfl, rfl, rfl⟩)⟩
        by_cases k5 : kindR (rn s pos : Int) = 4
        · have hk := k5
          clear hS
          go_wp2_with (go_at_call 30; refine (kindAt_any _ _).mono ?_; rintro e W9 ⟨rfl, hb9⟩; rw [hk]; have hI9 := hI2.below hb9)
          go_step3
          exact Or.inr ⟨2, _, 4, rfl, rfl, hI9, hk, Or.inr (Or.inr (Or.inl ⟨rfl, rfl, rfl⟩))⟩
        by_cases k6 : kindR (rn s pos : Int) = 5
        · rw [stepR, if_neg k1, if_neg k2, if_neg k3, if_neg k4, if_neg k5, if_pos k6] at hS
          have HK : Hid ((5 : Int) = q.1 ∧ 1 = s.size) := (Stp.word.injEq .. ▸ hS)
          have hk := k6
          clear hS
          go_wp2_with (go_at_call 30; refine (kindAt_any _ _).mono ?_; rintro e W9 ⟨rfl, hb9⟩; rw [hk]; have hI9 := hI2.below hb9)
          go_step3
          refine Or.inr ⟨1, _, 5, rfl, rfl, hI9, hk, Or.inr (Or.inr (Or.inr ⟨rfl, rfl, ?_, HK.out.1.symm⟩))⟩
          rw [← HK.out.2]
          rfl
        · rw [stepR, if_neg k1, if_neg k2, if_neg k3, if_neg k4, if_neg k5, if_neg k6] at hS; cases hS
      · rintro l m a2 W ⟨X, kind, rfl, hX, hIW, hk, hcase⟩
        generalize X.getD 7 undef = x7 at hX hcase
        generalize (fun i => X.getD i undef) = u at hX
        subst hX
        simp only [frI]
        have hpi : (pos : Int) ≤ (s.size : Int) := by omega
        have hxe := ext_size s pos s.size (by omega) (Nat.le_refl _)
        have hxm : (s.extract pos s.size).size ≤ maxLen := by unfold maxLen; omega
        have hS := HS.out
        rcases hcase with ⟨rfl, rfl, rfl⟩ | ⟨rfl, rfl, rfl⟩ | ⟨rfl, rfl, rfl⟩ | ⟨rfl, rfl, rfl, hqk⟩
        · have hrun := run_any (s.extract pos s.size) hxm
          rw [stepR, hk, if_neg (by decide), if_neg (by decide), if_pos rfl] at hS
          generalize runR (s.extract pos s.size) = R at hrun hS
          obtain ⟨sz, ch⟩ := R
          dsimp only at hrun hS
          refine ⟨_, rfl, ?_⟩
          by_cases hch : 128 < ch
          · rw [if_pos hch] at hS; cases hS
          · rw [if_neg hch] at hS
            have HK : Hid ((2 : Int) = q.1 ∧ sz = s.size) := (Stp.word.injEq .. ▸ hS)
            have hci : ¬ 128 < (ch : Int) := by omega
            have HK2 : Hid (kindR (rn s pos : Int) = 2) := hk
            clear hS hk
            go_wp2_with (go_at_call 31; refine (hrun _).mono ?_; rintro e W5 ⟨rfl, hb5⟩; have hI5 := hIW.below hb5)
            go_step3
            refine Or.inr ⟨1, by omega, _, 2, rfl, rfl, hI5, HK2.out, Or.inr (Or.inr (Or.inr ⟨rfl, rfl, ?_, HK.out.1.symm⟩))⟩
            rw [← HK.out.2]
            rfl
        · have hrun := run_any (s.extract pos s.size) hxm
          have hrl := runR_le (s.extract pos s.size)
          rw [stepR, hk, if_neg (by decide), if_neg (by decide), if_neg (by decide), if_pos rfl] at hS
          generalize runR (s.extract pos s.size) = R at hrun hS hrl
          obtain ⟨sz, ch⟩ := R
          dsimp only at hrun hS hrl
          have hsi : (pos : Int) + sz ≤ (s.size : Int) := by omega
          have hnum := number_any (s.extract pos (pos + sz)) (by unfold maxLen; rw [ext_size s pos (pos + sz) (by omega) (by omega)]; omega)
          refine ⟨_, rfl, ?_⟩
          cases ho : numR (s.extract pos (pos + sz)) with
          | none => rw [if_pos ho] at hS; cases hS
          | some val =>
            rw [ho] at hnum
            unfold numV at hnum
            rw [if_neg (by rw [ho]; simp)] at hS
            have HK : Hid ((3 : Int) = q.1 ∧ sz = s.size) := (Stp.word.injEq .. ▸ hS)
            have HK2 : Hid (kindR (rn s pos : Int) = 3) := hk
            clear hS hk ho
            go_wp2_with (first | (go_at_call 31; refine (hrun _).mono ?_; rintro e W5 ⟨rfl, hb5⟩; have hI5 := hIW.below hb5) | (go_at_call 13; refine (hnum _).mono ?_; rintro e W4 ⟨rfl, hb4⟩; have hI4 := hI5.below hb4))
            go_step3
            refine Or.inr ⟨1, by omega, _, 3, rfl, rfl, hI4, HK2.out, Or.inr (Or.inr (Or.inr ⟨rfl, rfl, ?_, HK.out.1.symm⟩))⟩
            rw [← HK.out.2]
            rfl
        · have hlead := leading_any (s.extract pos s.size) (by omega)
          unfold leadV at hlead
          have hrl := leadR_le (s.extract pos s.size)
          rw [stepR, hk, if_neg (by decide), if_neg (by decide), if_neg (by decide), if_neg (by decide), if_pos rfl] at hS
          generalize leadR (s.extract pos s.size) = R at hlead hS hrl
          obtain ⟨lb, sz, er⟩ := R
          dsimp only at hlead hS hrl
          refine ⟨_, rfl, ?_⟩
          by_cases he : er = 0
          · subst he
            rw [if_neg (by simp)] at hS
            have HK : Hid ((4 : Int) = q.1 ∧ sz = s.size) := (Stp.word.injEq .. ▸ hS)
            have hsi : (pos : Int) + sz ≤ (s.size : Int) := by omega
            have hty : (s.extract pos (pos + sz)).size = q.2.1.size := by rw [HK.out.2, HX.out, hq]
            have hw1 := fun V (hV : TkB V a q) (hV2 : Boxed V b 4 (.bool z)) => isw1_any a b q (s.extract pos (pos + sz)) 0 ((col + 1 : Nat) : Int) z V hV hV2 hty
            rw [← HK.out.1] at hw1
            clear hS hk
            go_wp2_with (go_at_call 32; refine (hlead _).mono ?_; rintro e W5 ⟨rfl, hb5⟩; have hI5 := hIW.below hb5)
            go_step3
            go_wp2_with (go_at_call 51; refine (hw1 _ hI5.ba hI5.bx).mono ?_; rintro e W6 ⟨rfl, hb6, ht6⟩)
            go_step3
            refine Or.inl ⟨by simp, ?_⟩
            exact Or.inr ⟨0, rfl, rfl, _, rfl, rfl, hb6, hI5.tch.tch ht6 (Nat.le_refl _) (fun g e => by cases e)⟩
          · rw [if_pos he] at hS; cases hS
        · have hty : (s.extract pos (pos + s.size)).size = q.2.1.size := by rw [HX.out, hq]
          have hw1 := fun V (hV : TkB V a q) (hV2 : Boxed V b 4 (.bool z)) => isw1_any a b q (s.extract pos (pos + s.size)) 0 ((col + 1 : Nat) : Int) z V hV hV2 hty
          rw [hqk] at hw1
          have hps : pos + s.size ≤ s.size := by have h1 : (s.extract pos (pos + s.size)).size = s.size := by rw [HX.out]
                                                 rw [ByteArray.size_extract] at h1; omega
          have hsi : (pos : Int) + (s.size : Int) ≤ (s.size : Int) := by omega
          refine ⟨_, rfl, ?_⟩
          clear hS hk
          go_wp2_with (go_at_call 51; refine (hw1 _ hIW.ba hIW.bx).mono ?_; rintro e W6 ⟨rfl, hb6, ht6⟩)
          go_step3
          refine Or.inl ⟨by simp, ?_⟩
          exact Or.inr ⟨0, rfl, rfl, _, rfl, rfl, hb6, hIW.tch.tch ht6 (Nat.le_refl _) (fun g e => by cases e)⟩
  · rintro l m a2 W ⟨rfl, rfl, X, rfl, hX, h1, h2⟩
    generalize X.getD 9 undef = x9 at *
    generalize X.getD 10 undef = x10 at *
    generalize (fun i => X.getD i undef) = u at *
    subst hX
    simp only [frO]
    refine ⟨_, rfl, ?_⟩
    go_wp2
    rw [jo_ret]
    go_ret2
    exact ⟨rfl, h1, h2⟩
end Go.Proofs.YtibhljdiofglfaaDoor
namespace Go.Proofs.YtibhljdiofglfaaDoor
open Go.RowKit Go.Shelf

set_option maxHeartbeats 2000000 in
set_option maxRecDepth 100000 in
theorem isWord_yes (q : Fou) (hq : (q.1 = 1 ∧ q.2.1 = ⟨#[10]⟩) ∨ (q.1 ≠ 1 ∧ 0 < q.2.1.size ∧ q.2.1.size ≤ 65536 ∧ stepR q.2.1 0 = .word q.1 q.2.1.size)) (w : World) : Calls Tryd.prog 34 #[.agg #[.int .i64 q.1, .string q.2.1, .int .i64 q.2.2.1, .int .i64 q.2.2.2]] w fun e w' => e = .returned (.bool true) ∧ Below w.heap.size w w' := by
  obtain ⟨W1, hW1⟩ : ∃ W1, w.alloc (.cells #[.int .i64 q.1, .string q.2.1, .int .i64 q.2.2.1, .int .i64 q.2.2.2] 32) = W1 := ⟨_, rfl⟩
  have hB1 : Below w.heap.size w W1 := by rw [← hW1]; exact (Below.refl _ w).alloc (Nat.le_refl _) _
  have hn1 : TkB W1 w.heap.size q := by rw [← hW1]; exact new_tk w q
  have hs1 : W1.heap.size = w.heap.size + 1 := by rw [← hW1]; simp
  obtain ⟨x0, x1, _, _⟩ := hn1.cells
  rcases hq with ⟨k1, k2⟩ | ⟨k1, h0, h65, hst⟩
  · obtain ⟨k, x, l, c⟩ := q
    dsimp only at k1 k2 x0 x1 hW1 ⊢
    subst k1 k2
    clear hs1 hn1
    go_enter Tryd.func34, Tryd.ntmps34
    go_wp2
    go_ret
    exact ⟨rfl, hB1⟩
  · obtain ⟨b, hb⟩ : ∃ b, W1.heap.size = b := ⟨_, rfl⟩
    obtain ⟨W2, hW2⟩ : ∃ W2, W1.alloc (.cells #[.bool false] 4) = W2 := ⟨_, rfl⟩
    have hbx : Boxed W2 b 4 (.bool false) := by rw [← hW2, ← hb]; exact new_at rfl
    have hB2 : Below W1.heap.size W1 W2 := by rw [← hW2]; exact (Below.refl _ W1).alloc (Nat.le_refl _) _
    have hc := hbx.cell
    have hf := hbx.frozen
    obtain ⟨W3, hW3⟩ : ∃ W3, W2.setCell ⟨b, 0, none⟩ (.bool false) = W3 := ⟨_, rfl⟩
    have hb3 : Boxed W3 b 4 (.bool false) := by rw [← hW3]; exact hbx.set _
    have hB3 : Below w.heap.size w W3 := by rw [← hW3]; exact (bel2 hB1 hB2).setCell (by show w.heap.size ≤ b; omega) _
    have hB4 : Below b W1 W3 := by rw [← hW3]; exact (by rw [← hb]; exact hB2 : Below b W1 W2).setCell (Nat.le_refl _) _
    have hn3 : TkB W3 w.heap.size q := (hB4.block _ (by omega)).trans hn1
    obtain ⟨y0, y1, _, _⟩ := hn3.cells
    have hcut := cutW_any q.2.1 h65 h0 w.heap.size b q rfl hst false W3 hn3 hb3
    obtain ⟨k, x, l, c⟩ := q
    dsimp only at k1 x0 x1 y0 y1 hcut hW1 h0 h65 ⊢
    have HB : Hid (∀ W, TchB W3.heap.size b W3 W → Below w.heap.size w W) := fun W h => ⟨h.os.trans hB3.os, h.tape.trans hB3.tape, h.output.trans hB3.output, Nat.le_trans hB3.size h.size, fun i hi => (h.block i (by have := hB3.size; omega) (by omega)).trans (hB3.block i hi)⟩
    clear hn1 hn3 hst hB1 hB2 hB3 hB4 hs1 hbx hb3
    go_enter Tryd.func34, Tryd.ntmps34
    go_wp2_with (go_at_call 17; (with_reducible refine hcut.mono ?_); rintro e W9 ⟨rfl, hb9, ht9⟩; have c9 := hb9.cell)
    go_ret
    exact ⟨rfl, HB.out _ ht9⟩
theorem shp_drop {N : Nat} : ∀ (l : List Fou) (so : Bool) (k : Nat) (x : Fou), Shp N so (l.drop k) → l[k]? = some x → (x.1 = 1 ∧ x.2.1 = ⟨#[10]⟩ ∧ so = true ∧ Shp N false (l.drop (k + 1))) ∨ (x.1 ≠ 1 ∧ Wrd N x.1 x.2.1 ∧ Shp N true (l.drop (k + 1))) := by
  intro l so k x h hx
  have e : l.drop k = x :: l.drop (k + 1) := by
    have hk : k < l.length := (List.getElem?_eq_some_iff.1 hx).1
    rw [List.drop_eq_getElem_cons hk]
    congr 1
    exact (List.getElem?_eq_some_iff.1 hx).2
  rw [e] at h
  exact h
set_option maxHeartbeats 2000000 in
set_option maxRecDepth 100000 in
theorem areLines_yes (N : Nat) (hN : N ≤ 65536) (ad : Option Addr) (cap n : Nat) (l : List Fou) (w : World) (hr : RdQ w ad l) (hn : l.length = n) (hs : Shp N false l) (hl : n ≤ 4611686018427387904) : Calls Tryd.prog 21 #[.slice ad n cap] w fun e w' => e = .returned (.bool true) ∧ Below w.heap.size w w' := by
  have HS : Hid (Shp N false l) := hs
  have HN : Hid (l.length = n) := hn
  clear hs hn
  go_enter Tryd.func21, Tryd.ntmps21
  go_wp2
  go_loopw [3, 8] (fun c i wz => ∃ (k : Nat) (so : Bool) (la : Int), c = .int .i64 la ∧ i = .int .i64 (k : Int) ∧ Hid (la = 1 ↔ so = false) ∧ k ≤ n ∧ Hid (Shp N so (l.drop k)) ∧ Below w.heap.size w wz) (fun _ i _ => n - vnatQ i)
  case atStart => exact ⟨0, false, 1, rfl, rfl, (by show _ ↔ _; simp), Nat.zero_le _, HS.out, Below.refl _ _⟩
  case round =>
    obtain ⟨k, so, la, rfl, rfl, HL, hk, HD, hbw⟩ := hrel
    by_cases hkl : k < n
    · have hki : (k : Int) < (n : Int) := by omega
      obtain ⟨x, hx⟩ : ∃ x, l[k]? = some x := ⟨_, List.getElem?_eq_getElem (by rw [HN.out]; exact hkl)⟩
      have hne : l ≠ [] := fun e => by subst e; simp at hx
      obtain ⟨b, off, rfl, hbl, hat⟩ := hr hne
      obtain ⟨c0, c1, c2, c3⟩ := hat.carry (hbw.block _ hbl) k x hx
      have hw := shp_drop l so k x HD.out hx
      obtain ⟨W1, hW1⟩ : ∃ W1, wr.alloc (.cells #[.int .i64 x.1, .string x.2.1, .int .i64 x.2.2.1, .int .i64 x.2.2.2] 32) = W1 := ⟨_, rfl⟩
      have hB1 : Below wr.heap.size wr W1 := by rw [← hW1]; exact (Below.refl _ wr).alloc (Nat.le_refl _) _
      have hn1 : TkB W1 wr.heap.size x := by rw [← hW1]; exact new_tk wr x
      obtain ⟨x0, x1, x2, x3⟩ := hn1.cells
      have HN1 : Hid (TkB W1 wr.heap.size x) := hn1
      clear hx hat hn1
      rcases hw with ⟨k1, k2, k3, hd⟩ | ⟨k1, hw, hd⟩
      · have hiw := isWord_yes x (.inl ⟨k1, k2⟩)
        have hla : ¬ la = 1 := fun e => by have := HL.out.1 e; rw [k3] at this; cases this
        have HD2 : Hid (Shp N false (l.drop (k + 1))) := hd
        obtain ⟨xk, xt, xl, xc⟩ := x
        dsimp only at k1 k2 c0 c1 c2 c3 x0 x1 x2 x3 hiw hW1
        subst k1 k2
        clear hd HD
        go_wp2_with (go_at_call 34; (with_reducible refine (hiw _).mono ?_); rintro e W9 ⟨rfl, hb9⟩; obtain ⟨z0, _, _, _⟩ := TkB.cells ((hb9.block _ HN1.out.lt).trans HN1.out))
        go_roundw
        case rel => exact ⟨k + 1, false, 1, rfl, by simp, (by show _ ↔ _; simp), by omega, HD2.out, bel2 (bel2 hbw hB1) hb9⟩
        case measure => simp [vnatQ]; omega
      · have hwl := hw.le
        have hiw := isWord_yes x (.inr ⟨k1, hw.some, by omega, wrd_step hw⟩)
        have HD2 : Hid (Shp N true (l.drop (k + 1))) := hd
        obtain ⟨xk, xt, xl, xc⟩ := x
        dsimp only at k1 c0 c1 c2 c3 x0 x1 x2 x3 hiw hW1
        clear hd HD hw hwl
        go_wp2_with (go_at_call 34; (with_reducible refine (hiw _).mono ?_); rintro e W9 ⟨rfl, hb9⟩; obtain ⟨z0, _, _, _⟩ := TkB.cells ((hb9.block _ HN1.out.lt).trans HN1.out))
        go_roundw
        case rel => exact ⟨k + 1, true, xk, rfl, by simp, (by show _ ↔ _; simp [k1]), by omega, HD2.out, bel2 (bel2 hbw hB1) hb9⟩
        case measure => simp [vnatQ]; omega
    · have hkk : k = n := by omega
      subst hkk
      have hki : ¬ ((k : Int) < (k : Int)) := by omega
      have hla : la = 1 := by
        have h1 : Shp N so (l.drop k) := HD.out
        rw [List.drop_of_length_le (by rw [HN.out]; exact Nat.le_refl _)] at h1
        exact HL.out.2 h1
      subst hla
      clear HL HD
      go_wp2
      go_ret
      exact ⟨rfl, hbw⟩
end Go.Proofs.YtibhljdiofglfaaDoor
namespace Go.Proofs.YtibhljdiofglfaaDoor
open Go.RowKit Go.Shelf

theorem strC_append (a b : ByteArray) : Lib.strCells (a ++ b) = Lib.strCells a ++ Lib.strCells b := by
  unfold Lib.strCells
  rw [ByteArray.toList_data_append, List.map_append]
set_option maxHeartbeats 1000000 in
theorem blen_any (B b : Nat) (bs : List Value) (n : Nat) (hn : bs.length = n) (w : World) (h : Lib.IsBuilderF 48 5 B b bs w) : Calls Tryd.prog 22 #[.pointer (some ⟨b, 0, none⟩)] w fun e w' => e = .returned (.int .i64 (n : Int)) ∧ Below w.heap.size w w' := by
  obtain ⟨p, v, hb, ho⟩ : ∃ p v, w.heap[b]? = some (.cells #[p, v] 48 (0, 0)) ∧ w.ownsRowF B 5 1 v bs.length bs := by
    rcases h with ⟨_, v, h2, h3, _⟩ | ⟨_, v, h2, h3, _⟩
    · exact ⟨_, v, h2, h3⟩
    · exact ⟨_, v, h2, h3⟩
  rw [hn] at ho
  have hc : w.cell? ⟨b, 1, none⟩ = some v := cell_of hb 1
  rcases ho.2 with ⟨rfl, rfl⟩ | ⟨g, cap, cur, fz, rfl, _⟩
  · go_enter Tryd.func22, Tryd.ntmps22
    go_wp2
    go_ret
    exact ⟨rfl, Below.refl _ _⟩
  · go_enter Tryd.func22, Tryd.ntmps22
    go_wp2
    go_ret
    exact ⟨rfl, Below.refl _ _⟩
theorem bi_lenS (t : TypeId) (bs : Array Bool) (s : ByteArray) (w : World) : (builtin .len #[9] t bs #[.string s]).run Tryd.prog w = .ok (.value (.int .i64 (s.size : Int))) w := by
  go_simp
theorem addN {x y : Operand} {w : World} (a b : Nat) (h : a + b ≤ 4611686018427387904) : binRun Tryd.prog .add 3 x y (.int .i64 (a : Int)) (.int .i64 (b : Int)) w = .ok (.int .i64 ((a + b : Nat) : Int)) w := by
  have hw : IntKind.i64.wrap ((a : Int) + (b : Int)) = ((a + b : Nat) : Int) := by rw [IntKind.wrap_i64]; omega
  simp [binRun, go_sem, hw]
theorem gtN {x y : Operand} {w : World} (a : Nat) (d : Bool) (h : decide (65536 < a) = d) : binRun Tryd.prog .gtr 3 x y (.int .i64 (a : Int)) (.int .i64 65536) w = .ok (.bool d) w := by
  subst h
  simp [binRun, go_sem]
  omega
/-- What Print answers. -/
def PrO (w : World) (l : List Fou) (n : Nat) (e : Ending) (w' : World) : Prop := Below w.heap.size w w' ∧ ((e = .returned (.tuple #[.string ⟨#[]⟩, .int .i64 2]) ∧ (65536 < n ∨ 65536 < (prs false l).size)) ∨ (e = .returned (.tuple #[.string (prs false l), .int .i64 0]) ∧ n ≤ 65536 ∧ (prs false l).size ≤ 65536))
theorem okept {b : Nat} {q : Fou} {a : Nat} {W V : World} (hk : Lib.OthersKept 5 (some b) W V) (h : TkB W a q) (hab : a ≠ b) : TkB V a q := hk a _ h (fun e => hab (Option.some.inj e)) (fun c fz e => by cases e)
set_option maxHeartbeats 4000000 in
set_option maxRecDepth 100000 in
theorem print_any (N : Nat) (hN : N ≤ 65536) (ad : Option Addr) (cap n : Nat) (l : List Fou) (w : World) (hr : RdQ w ad l) (hn : l.length = n) (hs : Shp N false l) (hl : n ≤ 4611686018427387904) : Calls Tryd.prog 11 #[.slice ad n cap] w (PrO w l n) := by
  have hmx : Tryd.prog.follows .mixedOrders = true := by kernel_rfl
  have hal := areLines_yes N hN ad cap n l w hr hn hs hl
  have hle : ∀ q ∈ l, q.2.1.size ≤ 65537 := fun q hq => by have := shp_le l _ hs q hq; omega
  have HN : Hid (l.length = n) := hn
  clear hs hn
  by_cases h65 : 65536 < n
  · have h65i : (65536 : Int) < (n : Int) := by omega
    go_enter Tryd.func11, Tryd.ntmps11
    go_wp2
    go_ret2
    exact ⟨Below.refl _ _, .inl ⟨rfl, .inl h65⟩⟩
  have h65i : ¬ (65536 : Int) < (n : Int) := by omega
  go_enter Tryd.func11, Tryd.ntmps11
  go_wp2_with (go_at_call 21; (with_reducible refine hal.mono ?_); rintro e u1 ⟨rfl, hb1⟩)
  obtain ⟨b, hb⟩ : ∃ b, u1.heap.size = b := ⟨_, rfl⟩
  have HI0 : Hid (Lib.IsBuilderF 48 5 b b (Lib.strCells ByteArray.empty) (u1.alloc (.cells #[.pointer none, .slice none 0 0] 48))) := by rw [← hb]; exact Lib.IsBuilderF.of (Lib.fresh_isBuilder 48 5 u1)
  have HB0 : Hid (Below b u1 (u1.alloc (.cells #[.pointer none, .slice none 0 0] 48))) := by rw [← hb]; exact (Below.refl _ u1).alloc (Nat.le_refl _) _
  have HA0 : Hid (b < (u1.alloc (.cells #[.pointer none, .slice none 0 0] 48)).heap.size) := by rw [← hb]; show _ < _; simp
  have HB1 : Hid (∀ V, Below b u1 V → Below w.heap.size w V) := by rw [← hb]; exact fun V h => bel2 hb1 h
  have HR : Hid (RdQ u1 ad l) := hr.carry hb1
  have HLT : Hid (∀ g, g < u1.heap.size → g < b) := fun g h => by omega
  rw [hb]
  clear hal hr hb1 hb
  go_loopw [16] (fun i wz => ∃ (k : Nat) (so : Bool) (acc : ByteArray), i = .int .i64 (k : Int) ∧ k ≤ n ∧ Hid (acc ++ prs so (l.drop k) = prs false l) ∧ acc.size ≤ 65536 ∧ Hid ((k = 0 → so = false) ∧ ∀ k' y, k = k' + 1 → l[k']? = some y → so = decide (y.1 ≠ 1)) ∧ Hid (Lib.IsBuilderF 48 5 b b (Lib.strCells acc) wz) ∧ Hid (Below b u1 wz) ∧ b < wz.heap.size) (fun i _ => n - vnatQ i)
  case atStart => exact ⟨0, false, ByteArray.empty, rfl, Nat.zero_le _, (by show _ = _; rw [ByteArray.empty_append, List.drop_zero]), by simp, ⟨fun _ => rfl, fun k' y e => by omega⟩, HI0.out, HB0.out, HA0.out⟩
  case round =>
    obtain ⟨k, so, acc, rfl, hk, HE, hacc, HSO, HI, HB, hbl⟩ := hrel
    by_cases hkl : k < n
    · have hki : (k : Int) < (n : Int) := by omega
      obtain ⟨x, hx⟩ : ∃ x, l[k]? = some x := ⟨_, List.getElem?_eq_getElem (by rw [HN.out]; exact hkl)⟩
      have hne : l ≠ [] := fun e => by subst e; simp at hx
      obtain ⟨a9, off, rfl, hal, hat⟩ := HR.out hne
      have hat' := hat.carry (HB.out.block _ (HLT.out _ hal))
      obtain ⟨c0, c1, c2, c3⟩ := hat' k x hx
      have hxs : x.2.1.size ≤ 65537 := hle x (List.mem_of_getElem? hx)
      have HDR : Hid (l.drop k = x :: l.drop (k + 1)) := by
        have hk : k < l.length := (List.getElem?_eq_some_iff.1 hx).1
        show _ = _
        rw [List.drop_eq_getElem_cons hk]
        congr 1
        exact (List.getElem?_eq_some_iff.1 hx).2
      obtain ⟨W1, hW1⟩ : ∃ W1, wr.alloc (.cells #[.int .i64 x.1, .string x.2.1, .int .i64 x.2.2.1, .int .i64 x.2.2.2] 32) = W1 := ⟨_, rfl⟩
      have hB1 : Below wr.heap.size wr W1 := by rw [← hW1]; exact (Below.refl _ wr).alloc (Nat.le_refl _) _
      have hn1 : TkB W1 wr.heap.size x := by rw [← hW1]; exact new_tk wr x
      obtain ⟨x0, x1, x2, x3⟩ := hn1.cells
      have HN1 : Hid (TkB W1 wr.heap.size x) := hn1
      have HB2 : Hid (Below b u1 W1) := HB.out.trans (hB1.mono (by omega))
      have HI1 : Hid (Lib.IsBuilderF 48 5 b b (Lib.strCells acc) W1) := isb_below HI.out hB1
      have hwb : wr.heap.size ≠ b := by omega
      have hW1s : b ≤ W1.heap.size := by have := hB1.size; omega
      have hcl := Lib.strCells_length acc
      have HSO2 : Hid (∀ y, l[k]? = some y → decide (x.1 ≠ 1) = decide (y.1 ≠ 1)) := fun y hy => by rw [hx] at hy; cases hy; rfl
      by_cases hkz : k = 0
      · have hso : so = false := HSO.out.1 hkz
        have hk1 : ¬ 0 < (k : Int) := by omega
        have HBT : Hid (btw so x.1 = ⟨#[]⟩) := by show _ = _; rw [hso, btw, if_neg (by simp)]; rfl
        obtain ⟨xk, xt, xl, xc⟩ := x
        dsimp only at c0 c1 c2 c3 x0 x1 x2 x3 hxs hW1
        clear hx hat hat' hn1 hle hkz
        have HX : Hid (acc ++ ((⟨#[]⟩ : ByteArray) ++ (xt ++ prs (decide (xk ≠ 1)) (l.drop (k + 1)))) = prs false l) := by
          have h1 := HE.out
          rw [HDR.out, prs] at h1
          rw [← h1]
          show _ = acc ++ (btw so xk ++ (xt ++ prs (decide (xk ≠ 1)) (l.drop (k + 1))))
          rw [HBT.out]
        have HSZ : Hid ((prs false l).size = acc.size + (0 + (xt.size + (prs (decide (xk ≠ 1)) (l.drop (k + 1))).size))) := by show _ = _; rw [← HX.out, ByteArray.size_append, ByteArray.size_append, ByteArray.size_append]; rfl
        have hlen := fun V (hV : Below W1.heap.size W1 V) => blen_any b b (Lib.strCells acc) acc.size hcl V (isb_below HI1.out hV)
        clear HE HSO HDR HBT
        by_cases hov : 65536 < acc.size + 0 + xt.size
        · go_wp2
          refine wp_region_any hmx ?_
          refine wpAny_pure (fun i__ => ([(.int .i64 ((acc.size : Nat) : Int)), (.string (⟨#[]⟩ : ByteArray)), (.int .i64 ((0 : Nat) : Int)), (.int .i64 ((acc.size + 0 : Nat) : Int)), (.pointer (some ⟨wr.heap.size, 0 + 1, none⟩)), (.string xt), (.int .i64 ((xt.size : Nat) : Int)), (.int .i64 ((acc.size + 0 + xt.size : Nat) : Int)), (.bool true)] : List Value).getD i__ undef) (fun W => Below W1.heap.size W1 W) (by kernel_rfl) (Below.refl _ _).drew ?_ ?_
          · refine (stepsFrom_cons ?_ (stepsFrom_cons ?_ (stepsFrom_cons ?_ (stepsFrom_cons ?_ (stepsFrom_cons ?_ (stepsFrom_cons ?_ (stepsFrom_cons ?_ (stepsFrom_cons ?_ (stepsFrom_cons ?_ trivial)))))))))
            · exact step_call rfl trivial 22 _ _ [(.pointer (some ⟨b, 0, none⟩))] rfl (by kernel_rfl) (enters_of Tryd.func22 (by kernel_rfl) rfl) (fun v hw => (hlen v hw).mono (by rintro e w2 ⟨rfl, hb⟩; exact ⟨rfl, bel2 hw hb⟩))
            · exact step_move rfl trivial _ rfl (by kernel_rfl)
            · exact step_bi rfl trivial _ _ _ [(.string (⟨#[]⟩ : ByteArray))] rfl (by kernel_rfl) (fun cs v hw => bi_lenS _ cs _ v)
            · exact step_binOp rfl trivial _ _ _ _ _ _ _ rfl rfl rfl (fun v hw => addN _ _ (by omega))
            · exact step_fieldAddr rfl trivial _ _ _ _ rfl rfl (fun v hw => fdq1 _ _ _)
            · exact step_load rfl trivial _ _ _ rfl rfl (fun v hw => ldqs ((World.cell?_of_block (a := ⟨wr.heap.size, _, none⟩) (hw.block _ HN1.out.lt)).trans x1))
            · exact step_bi rfl trivial _ _ _ [(.string xt)] rfl (by kernel_rfl) (fun cs v hw => bi_lenS _ cs _ v)
            · exact step_binOp rfl trivial _ _ _ _ _ _ _ rfl rfl rfl (fun v hw => addN _ _ (by omega))
            · exact step_binOp rfl trivial _ _ _ _ _ _ _ rfl rfl rfl (fun v hw => gtN _ true (by simp; omega))
          intro W hW
          first | refine hK _ _ ?_ | refine (‹∀ (a : Act) (w : World), Code.wp Tryd.prog _ _ a w → _›) _ _ ?_ | skip
          simp only [finL, List.getD_cons_zero, List.getD_cons_succ, Nat.zero_add, Nat.reduceAdd, List.setIfInBounds_toArray, List.set_cons_zero, List.set_cons_succ]
          go_wp2
          go_ret2
          exact ⟨HB1.out _ (HB2.out.trans (hW.mono hW1s)), .inl ⟨rfl, .inr (by rw [HSZ.out]; omega)⟩⟩
        · go_wp2
          refine wp_region_any hmx ?_
          refine wpAny_pure (fun i__ => ([(.int .i64 ((acc.size : Nat) : Int)), (.string (⟨#[]⟩ : ByteArray)), (.int .i64 ((0 : Nat) : Int)), (.int .i64 ((acc.size + 0 : Nat) : Int)), (.pointer (some ⟨wr.heap.size, 0 + 1, none⟩)), (.string xt), (.int .i64 ((xt.size : Nat) : Int)), (.int .i64 ((acc.size + 0 + xt.size : Nat) : Int)), (.bool false)] : List Value).getD i__ undef) (fun W => Below W1.heap.size W1 W) (by kernel_rfl) (Below.refl _ _).drew ?_ ?_
          · refine (stepsFrom_cons ?_ (stepsFrom_cons ?_ (stepsFrom_cons ?_ (stepsFrom_cons ?_ (stepsFrom_cons ?_ (stepsFrom_cons ?_ (stepsFrom_cons ?_ (stepsFrom_cons ?_ (stepsFrom_cons ?_ trivial)))))))))
            · exact step_call rfl trivial 22 _ _ [(.pointer (some ⟨b, 0, none⟩))] rfl (by kernel_rfl) (enters_of Tryd.func22 (by kernel_rfl) rfl) (fun v hw => (hlen v hw).mono (by rintro e w2 ⟨rfl, hb⟩; exact ⟨rfl, bel2 hw hb⟩))
            · exact step_move rfl trivial _ rfl (by kernel_rfl)
            · exact step_bi rfl trivial _ _ _ [(.string (⟨#[]⟩ : ByteArray))] rfl (by kernel_rfl) (fun cs v hw => bi_lenS _ cs _ v)
            · exact step_binOp rfl trivial _ _ _ _ _ _ _ rfl rfl rfl (fun v hw => addN _ _ (by omega))
            · exact step_fieldAddr rfl trivial _ _ _ _ rfl rfl (fun v hw => fdq1 _ _ _)
            · exact step_load rfl trivial _ _ _ rfl rfl (fun v hw => ldqs ((World.cell?_of_block (a := ⟨wr.heap.size, _, none⟩) (hw.block _ HN1.out.lt)).trans x1))
            · exact step_bi rfl trivial _ _ _ [(.string xt)] rfl (by kernel_rfl) (fun cs v hw => bi_lenS _ cs _ v)
            · exact step_binOp rfl trivial _ _ _ _ _ _ _ rfl rfl rfl (fun v hw => addN _ _ (by omega))
            · exact step_binOp rfl trivial _ _ _ _ _ _ _ rfl rfl rfl (fun v hw => gtN _ false (by simp; omega))
          intro W hW
          first | refine hK _ _ ?_ | refine (‹∀ (a : Act) (w : World), Code.wp Tryd.prog _ _ a w → _›) _ _ ?_ | skip
          simp only [finL, List.getD_cons_zero, List.getD_cons_succ, Nat.zero_add, Nat.reduceAdd, List.setIfInBounds_toArray, List.set_cons_zero, List.set_cons_succ]
          have HW : Hid (Below W1.heap.size W1 W) := hW
          have hWs : b ≤ W.heap.size := Nat.le_trans hW1s hW.size
          have hws1 := writeString_any b b (Lib.strCells acc) (⟨#[]⟩ : ByteArray) W (isb_below HI1.out hW) (by rw [hcl]; show acc.size + 0 ≤ _; omega) hWs
          clear hlen hW
          go_wp2_with (first
            | (go_at_call 23; (with_reducible refine hws1.mono ?_); rintro e V1 ⟨rfl, hV1, hV1b, hV1k⟩; have hT1 : TkB V1 wr.heap.size (xk, xt, xl, xc) := okept hV1k ((HW.out.block _ HN1.out.lt).trans HN1.out) hwb; obtain ⟨_, z1, _, _⟩ := hT1.cells; have hV1s : b ≤ V1.heap.size := Nat.le_trans hWs hV1b.size; have hws2 := writeString_any b b (Lib.strCells acc ++ Lib.strCells (⟨#[]⟩ : ByteArray)) xt V1 (Or.inr hV1) (by rw [List.length_append, hcl, Lib.strCells_length]; show acc.size + 0 + xt.size ≤ _; omega) hV1s)
            | (go_at_call 23; (with_reducible refine hws2.mono ?_); rintro e V2 ⟨rfl, hV2, hV2b, hV2k⟩))
          go_roundw
          case rel =>
            refine ⟨k + 1, decide (xk ≠ 1), acc ++ (⟨#[]⟩ : ByteArray) ++ xt, by simp, by omega, ?_, ?_, ⟨fun e => by omega, fun k2 y2 e2 h2 => HSO2.out y2 (by rw [show k = k2 by omega]; exact h2)⟩, ?_, ((HB2.out.trans (HW.out.mono hW1s)).trans hV1b).trans hV2b, Nat.lt_of_lt_of_le (Nat.lt_of_lt_of_le hbl (Nat.le_trans (Nat.le_trans hB1.size HW.out.size) hV1b.size)) hV2b.size⟩
            · show _ = _
              rw [ByteArray.append_assoc, ByteArray.append_assoc]
              exact HX.out
            · rw [ByteArray.size_append, ByteArray.size_append]
              show acc.size + 0 + xt.size ≤ _
              omega
            · rw [strC_append, strC_append]
              exact Or.inr hV2
          case measure => simp [vnatQ]; omega
      · obtain ⟨k', hkp⟩ : ∃ k', k = k' + 1 := ⟨k - 1, by omega⟩
        obtain ⟨y, hy⟩ : ∃ y, l[k']? = some y := ⟨_, List.getElem?_eq_getElem (by rw [HN.out]; omega)⟩
        obtain ⟨d9, _, _, _⟩ := hat' k' y hy
        have d0 := (World.cell?_of_block (a := ⟨a9, off + k' * 4, none⟩) (hB1.block a9 (by have := HLT.out _ hal; omega))).trans d9
        have hso : so = decide (y.1 ≠ 1) := HSO.out.2 k' y hkp hy
        have hk1 : 0 < (k : Int) := by omega
        have hsub : IntKind.i64.wrap ((k : Int) - 1) = (k' : Int) := by rw [IntKind.wrap_i64]; omega
        have hk'i : (k' : Int) < (n : Int) := by omega
        by_cases hxk : x.1 = 1
        · skip
          have HBT : Hid (btw so x.1 = ⟨#[]⟩) := by show _ = _; rw [btw, if_neg (by rintro ⟨_, h⟩; exact h hxk)]; rfl
          obtain ⟨xk, xt, xl, xc⟩ := x
          dsimp only at c0 c1 c2 c3 x0 x1 x2 x3 hxs hW1
          obtain ⟨yk, yt, yl, yc⟩ := y
          dsimp only at d0 hxk
          try dsimp only at hyk
          try dsimp only at hxb hyb
          subst hxk
          clear hx hat hat' hn1 hle hkz hkp hy d9
          have HX : Hid (acc ++ ((⟨#[]⟩ : ByteArray) ++ (xt ++ prs (decide ((1 : Int) ≠ 1)) (l.drop (k + 1)))) = prs false l) := by
            have h1 := HE.out
            rw [HDR.out, prs] at h1
            rw [← h1]
            show _ = acc ++ (btw so (1 : Int) ++ (xt ++ prs (decide ((1 : Int) ≠ 1)) (l.drop (k + 1))))
            rw [HBT.out]
          have HSZ : Hid ((prs false l).size = acc.size + (0 + (xt.size + (prs (decide ((1 : Int) ≠ 1)) (l.drop (k + 1))).size))) := by show _ = _; rw [← HX.out, ByteArray.size_append, ByteArray.size_append, ByteArray.size_append]; rfl
          have hlen := fun V (hV : Below W1.heap.size W1 V) => blen_any b b (Lib.strCells acc) acc.size hcl V (isb_below HI1.out hV)
          clear HE HSO HDR HBT
          by_cases hov : 65536 < acc.size + 0 + xt.size
          · go_wp2
            refine wp_region_any hmx ?_
            refine wpAny_pure (fun i__ => ([(.int .i64 ((acc.size : Nat) : Int)), (.string (⟨#[]⟩ : ByteArray)), (.int .i64 ((0 : Nat) : Int)), (.int .i64 ((acc.size + 0 : Nat) : Int)), (.pointer (some ⟨wr.heap.size, 0 + 1, none⟩)), (.string xt), (.int .i64 ((xt.size : Nat) : Int)), (.int .i64 ((acc.size + 0 + xt.size : Nat) : Int)), (.bool true)] : List Value).getD i__ undef) (fun W => Below W1.heap.size W1 W) (by kernel_rfl) (Below.refl _ _).drew ?_ ?_
            · refine (stepsFrom_cons ?_ (stepsFrom_cons ?_ (stepsFrom_cons ?_ (stepsFrom_cons ?_ (stepsFrom_cons ?_ (stepsFrom_cons ?_ (stepsFrom_cons ?_ (stepsFrom_cons ?_ (stepsFrom_cons ?_ trivial)))))))))
              · exact step_call rfl trivial 22 _ _ [(.pointer (some ⟨b, 0, none⟩))] rfl (by kernel_rfl) (enters_of Tryd.func22 (by kernel_rfl) rfl) (fun v hw => (hlen v hw).mono (by rintro e w2 ⟨rfl, hb⟩; exact ⟨rfl, bel2 hw hb⟩))
              · exact step_move rfl trivial _ rfl (by kernel_rfl)
              · exact step_bi rfl trivial _ _ _ [(.string (⟨#[]⟩ : ByteArray))] rfl (by kernel_rfl) (fun cs v hw => bi_lenS _ cs _ v)
              · exact step_binOp rfl trivial _ _ _ _ _ _ _ rfl rfl rfl (fun v hw => addN _ _ (by omega))
              · exact step_fieldAddr rfl trivial _ _ _ _ rfl rfl (fun v hw => fdq1 _ _ _)
              · exact step_load rfl trivial _ _ _ rfl rfl (fun v hw => ldqs ((World.cell?_of_block (a := ⟨wr.heap.size, _, none⟩) (hw.block _ HN1.out.lt)).trans x1))
              · exact step_bi rfl trivial _ _ _ [(.string xt)] rfl (by kernel_rfl) (fun cs v hw => bi_lenS _ cs _ v)
              · exact step_binOp rfl trivial _ _ _ _ _ _ _ rfl rfl rfl (fun v hw => addN _ _ (by omega))
              · exact step_binOp rfl trivial _ _ _ _ _ _ _ rfl rfl rfl (fun v hw => gtN _ true (by simp; omega))
            intro W hW
            first | refine hK _ _ ?_ | refine (‹∀ (a : Act) (w : World), Code.wp Tryd.prog _ _ a w → _›) _ _ ?_ | skip
            simp only [finL, List.getD_cons_zero, List.getD_cons_succ, Nat.zero_add, Nat.reduceAdd, List.setIfInBounds_toArray, List.set_cons_zero, List.set_cons_succ]
            go_wp2
            go_ret2
            exact ⟨HB1.out _ (HB2.out.trans (hW.mono hW1s)), .inl ⟨rfl, .inr (by rw [HSZ.out]; omega)⟩⟩
          · go_wp2
            refine wp_region_any hmx ?_
            refine wpAny_pure (fun i__ => ([(.int .i64 ((acc.size : Nat) : Int)), (.string (⟨#[]⟩ : ByteArray)), (.int .i64 ((0 : Nat) : Int)), (.int .i64 ((acc.size + 0 : Nat) : Int)), (.pointer (some ⟨wr.heap.size, 0 + 1, none⟩)), (.string xt), (.int .i64 ((xt.size : Nat) : Int)), (.int .i64 ((acc.size + 0 + xt.size : Nat) : Int)), (.bool false)] : List Value).getD i__ undef) (fun W => Below W1.heap.size W1 W) (by kernel_rfl) (Below.refl _ _).drew ?_ ?_
            · refine (stepsFrom_cons ?_ (stepsFrom_cons ?_ (stepsFrom_cons ?_ (stepsFrom_cons ?_ (stepsFrom_cons ?_ (stepsFrom_cons ?_ (stepsFrom_cons ?_ (stepsFrom_cons ?_ (stepsFrom_cons ?_ trivial)))))))))
              · exact step_call rfl trivial 22 _ _ [(.pointer (some ⟨b, 0, none⟩))] rfl (by kernel_rfl) (enters_of Tryd.func22 (by kernel_rfl) rfl) (fun v hw => (hlen v hw).mono (by rintro e w2 ⟨rfl, hb⟩; exact ⟨rfl, bel2 hw hb⟩))
              · exact step_move rfl trivial _ rfl (by kernel_rfl)
              · exact step_bi rfl trivial _ _ _ [(.string (⟨#[]⟩ : ByteArray))] rfl (by kernel_rfl) (fun cs v hw => bi_lenS _ cs _ v)
              · exact step_binOp rfl trivial _ _ _ _ _ _ _ rfl rfl rfl (fun v hw => addN _ _ (by omega))
              · exact step_fieldAddr rfl trivial _ _ _ _ rfl rfl (fun v hw => fdq1 _ _ _)
              · exact step_load rfl trivial _ _ _ rfl rfl (fun v hw => ldqs ((World.cell?_of_block (a := ⟨wr.heap.size, _, none⟩) (hw.block _ HN1.out.lt)).trans x1))
              · exact step_bi rfl trivial _ _ _ [(.string xt)] rfl (by kernel_rfl) (fun cs v hw => bi_lenS _ cs _ v)
              · exact step_binOp rfl trivial _ _ _ _ _ _ _ rfl rfl rfl (fun v hw => addN _ _ (by omega))
              · exact step_binOp rfl trivial _ _ _ _ _ _ _ rfl rfl rfl (fun v hw => gtN _ false (by simp; omega))
            intro W hW
            first | refine hK _ _ ?_ | refine (‹∀ (a : Act) (w : World), Code.wp Tryd.prog _ _ a w → _›) _ _ ?_ | skip
            simp only [finL, List.getD_cons_zero, List.getD_cons_succ, Nat.zero_add, Nat.reduceAdd, List.setIfInBounds_toArray, List.set_cons_zero, List.set_cons_succ]
            have HW : Hid (Below W1.heap.size W1 W) := hW
            have hWs : b ≤ W.heap.size := Nat.le_trans hW1s hW.size
            have hws1 := writeString_any b b (Lib.strCells acc) (⟨#[]⟩ : ByteArray) W (isb_below HI1.out hW) (by rw [hcl]; show acc.size + 0 ≤ _; omega) hWs
            clear hlen hW
            go_wp2_with (first
              | (go_at_call 23; (with_reducible refine hws1.mono ?_); rintro e V1 ⟨rfl, hV1, hV1b, hV1k⟩; have hT1 : TkB V1 wr.heap.size ((1 : Int), xt, xl, xc) := okept hV1k ((HW.out.block _ HN1.out.lt).trans HN1.out) hwb; obtain ⟨_, z1, _, _⟩ := hT1.cells; have hV1s : b ≤ V1.heap.size := Nat.le_trans hWs hV1b.size; have hws2 := writeString_any b b (Lib.strCells acc ++ Lib.strCells (⟨#[]⟩ : ByteArray)) xt V1 (Or.inr hV1) (by rw [List.length_append, hcl, Lib.strCells_length]; show acc.size + 0 + xt.size ≤ _; omega) hV1s)
              | (go_at_call 23; (with_reducible refine hws2.mono ?_); rintro e V2 ⟨rfl, hV2, hV2b, hV2k⟩))
            go_roundw
            case rel =>
              refine ⟨k + 1, decide ((1 : Int) ≠ 1), acc ++ (⟨#[]⟩ : ByteArray) ++ xt, by simp, by omega, ?_, ?_, ⟨fun e => by omega, fun k2 y2 e2 h2 => HSO2.out y2 (by rw [show k = k2 by omega]; exact h2)⟩, ?_, ((HB2.out.trans (HW.out.mono hW1s)).trans hV1b).trans hV2b, Nat.lt_of_lt_of_le (Nat.lt_of_lt_of_le hbl (Nat.le_trans (Nat.le_trans hB1.size HW.out.size) hV1b.size)) hV2b.size⟩
              · show _ = _
                rw [ByteArray.append_assoc, ByteArray.append_assoc]
                exact HX.out
              · rw [ByteArray.size_append, ByteArray.size_append]
                show acc.size + 0 + xt.size ≤ _
                omega
              · rw [strC_append, strC_append]
                exact Or.inr hV2
            case measure => simp [vnatQ]; omega
        by_cases hyk : y.1 = 1
        · skip
          have HBT : Hid (btw so x.1 = ⟨#[]⟩) := by show _ = _; rw [hso, hyk, btw, if_neg (by simp)]; rfl
          obtain ⟨xk, xt, xl, xc⟩ := x
          dsimp only at c0 c1 c2 c3 x0 x1 x2 x3 hxs hW1
          obtain ⟨yk, yt, yl, yc⟩ := y
          dsimp only at d0 hxk
          try dsimp only at hyk
          try dsimp only at hxb hyb
          clear hx hat hat' hn1 hle hkz hkp hy d9
          have HX : Hid (acc ++ ((⟨#[]⟩ : ByteArray) ++ (xt ++ prs (decide (xk ≠ 1)) (l.drop (k + 1)))) = prs false l) := by
            have h1 := HE.out
            rw [HDR.out, prs] at h1
            rw [← h1]
            show _ = acc ++ (btw so xk ++ (xt ++ prs (decide (xk ≠ 1)) (l.drop (k + 1))))
            rw [HBT.out]
          have HSZ : Hid ((prs false l).size = acc.size + (0 + (xt.size + (prs (decide (xk ≠ 1)) (l.drop (k + 1))).size))) := by show _ = _; rw [← HX.out, ByteArray.size_append, ByteArray.size_append, ByteArray.size_append]; rfl
          have hlen := fun V (hV : Below W1.heap.size W1 V) => blen_any b b (Lib.strCells acc) acc.size hcl V (isb_below HI1.out hV)
          clear HE HSO HDR HBT
          by_cases hov : 65536 < acc.size + 0 + xt.size
          · go_wp2
            refine wp_region_any hmx ?_
            refine wpAny_pure (fun i__ => ([(.int .i64 ((acc.size : Nat) : Int)), (.string (⟨#[]⟩ : ByteArray)), (.int .i64 ((0 : Nat) : Int)), (.int .i64 ((acc.size + 0 : Nat) : Int)), (.pointer (some ⟨wr.heap.size, 0 + 1, none⟩)), (.string xt), (.int .i64 ((xt.size : Nat) : Int)), (.int .i64 ((acc.size + 0 + xt.size : Nat) : Int)), (.bool true)] : List Value).getD i__ undef) (fun W => Below W1.heap.size W1 W) (by kernel_rfl) (Below.refl _ _).drew ?_ ?_
            · refine (stepsFrom_cons ?_ (stepsFrom_cons ?_ (stepsFrom_cons ?_ (stepsFrom_cons ?_ (stepsFrom_cons ?_ (stepsFrom_cons ?_ (stepsFrom_cons ?_ (stepsFrom_cons ?_ (stepsFrom_cons ?_ trivial)))))))))
              · exact step_call rfl trivial 22 _ _ [(.pointer (some ⟨b, 0, none⟩))] rfl (by kernel_rfl) (enters_of Tryd.func22 (by kernel_rfl) rfl) (fun v hw => (hlen v hw).mono (by rintro e w2 ⟨rfl, hb⟩; exact ⟨rfl, bel2 hw hb⟩))
              · exact step_move rfl trivial _ rfl (by kernel_rfl)
              · exact step_bi rfl trivial _ _ _ [(.string (⟨#[]⟩ : ByteArray))] rfl (by kernel_rfl) (fun cs v hw => bi_lenS _ cs _ v)
              · exact step_binOp rfl trivial _ _ _ _ _ _ _ rfl rfl rfl (fun v hw => addN _ _ (by omega))
              · exact step_fieldAddr rfl trivial _ _ _ _ rfl rfl (fun v hw => fdq1 _ _ _)
              · exact step_load rfl trivial _ _ _ rfl rfl (fun v hw => ldqs ((World.cell?_of_block (a := ⟨wr.heap.size, _, none⟩) (hw.block _ HN1.out.lt)).trans x1))
              · exact step_bi rfl trivial _ _ _ [(.string xt)] rfl (by kernel_rfl) (fun cs v hw => bi_lenS _ cs _ v)
              · exact step_binOp rfl trivial _ _ _ _ _ _ _ rfl rfl rfl (fun v hw => addN _ _ (by omega))
              · exact step_binOp rfl trivial _ _ _ _ _ _ _ rfl rfl rfl (fun v hw => gtN _ true (by simp; omega))
            intro W hW
            first | refine hK _ _ ?_ | refine (‹∀ (a : Act) (w : World), Code.wp Tryd.prog _ _ a w → _›) _ _ ?_ | skip
            simp only [finL, List.getD_cons_zero, List.getD_cons_succ, Nat.zero_add, Nat.reduceAdd, List.setIfInBounds_toArray, List.set_cons_zero, List.set_cons_succ]
            go_wp2
            go_ret2
            exact ⟨HB1.out _ (HB2.out.trans (hW.mono hW1s)), .inl ⟨rfl, .inr (by rw [HSZ.out]; omega)⟩⟩
          · go_wp2
            refine wp_region_any hmx ?_
            refine wpAny_pure (fun i__ => ([(.int .i64 ((acc.size : Nat) : Int)), (.string (⟨#[]⟩ : ByteArray)), (.int .i64 ((0 : Nat) : Int)), (.int .i64 ((acc.size + 0 : Nat) : Int)), (.pointer (some ⟨wr.heap.size, 0 + 1, none⟩)), (.string xt), (.int .i64 ((xt.size : Nat) : Int)), (.int .i64 ((acc.size + 0 + xt.size : Nat) : Int)), (.bool false)] : List Value).getD i__ undef) (fun W => Below W1.heap.size W1 W) (by kernel_rfl) (Below.refl _ _).drew ?_ ?_
            · refine (stepsFrom_cons ?_ (stepsFrom_cons ?_ (stepsFrom_cons ?_ (stepsFrom_cons ?_ (stepsFrom_cons ?_ (stepsFrom_cons ?_ (stepsFrom_cons ?_ (stepsFrom_cons ?_ (stepsFrom_cons ?_ trivial)))))))))
              · exact step_call rfl trivial 22 _ _ [(.pointer (some ⟨b, 0, none⟩))] rfl (by kernel_rfl) (enters_of Tryd.func22 (by kernel_rfl) rfl) (fun v hw => (hlen v hw).mono (by rintro e w2 ⟨rfl, hb⟩; exact ⟨rfl, bel2 hw hb⟩))
              · exact step_move rfl trivial _ rfl (by kernel_rfl)
              · exact step_bi rfl trivial _ _ _ [(.string (⟨#[]⟩ : ByteArray))] rfl (by kernel_rfl) (fun cs v hw => bi_lenS _ cs _ v)
              · exact step_binOp rfl trivial _ _ _ _ _ _ _ rfl rfl rfl (fun v hw => addN _ _ (by omega))
              · exact step_fieldAddr rfl trivial _ _ _ _ rfl rfl (fun v hw => fdq1 _ _ _)
              · exact step_load rfl trivial _ _ _ rfl rfl (fun v hw => ldqs ((World.cell?_of_block (a := ⟨wr.heap.size, _, none⟩) (hw.block _ HN1.out.lt)).trans x1))
              · exact step_bi rfl trivial _ _ _ [(.string xt)] rfl (by kernel_rfl) (fun cs v hw => bi_lenS _ cs _ v)
              · exact step_binOp rfl trivial _ _ _ _ _ _ _ rfl rfl rfl (fun v hw => addN _ _ (by omega))
              · exact step_binOp rfl trivial _ _ _ _ _ _ _ rfl rfl rfl (fun v hw => gtN _ false (by simp; omega))
            intro W hW
            first | refine hK _ _ ?_ | refine (‹∀ (a : Act) (w : World), Code.wp Tryd.prog _ _ a w → _›) _ _ ?_ | skip
            simp only [finL, List.getD_cons_zero, List.getD_cons_succ, Nat.zero_add, Nat.reduceAdd, List.setIfInBounds_toArray, List.set_cons_zero, List.set_cons_succ]
            have HW : Hid (Below W1.heap.size W1 W) := hW
            have hWs : b ≤ W.heap.size := Nat.le_trans hW1s hW.size
            have hws1 := writeString_any b b (Lib.strCells acc) (⟨#[]⟩ : ByteArray) W (isb_below HI1.out hW) (by rw [hcl]; show acc.size + 0 ≤ _; omega) hWs
            clear hlen hW
            go_wp2_with (first
              | (go_at_call 23; (with_reducible refine hws1.mono ?_); rintro e V1 ⟨rfl, hV1, hV1b, hV1k⟩; have hT1 : TkB V1 wr.heap.size (xk, xt, xl, xc) := okept hV1k ((HW.out.block _ HN1.out.lt).trans HN1.out) hwb; obtain ⟨_, z1, _, _⟩ := hT1.cells; have hV1s : b ≤ V1.heap.size := Nat.le_trans hWs hV1b.size; have hws2 := writeString_any b b (Lib.strCells acc ++ Lib.strCells (⟨#[]⟩ : ByteArray)) xt V1 (Or.inr hV1) (by rw [List.length_append, hcl, Lib.strCells_length]; show acc.size + 0 + xt.size ≤ _; omega) hV1s)
              | (go_at_call 23; (with_reducible refine hws2.mono ?_); rintro e V2 ⟨rfl, hV2, hV2b, hV2k⟩))
            go_roundw
            case rel =>
              refine ⟨k + 1, decide (xk ≠ 1), acc ++ (⟨#[]⟩ : ByteArray) ++ xt, by simp, by omega, ?_, ?_, ⟨fun e => by omega, fun k2 y2 e2 h2 => HSO2.out y2 (by rw [show k = k2 by omega]; exact h2)⟩, ?_, ((HB2.out.trans (HW.out.mono hW1s)).trans hV1b).trans hV2b, Nat.lt_of_lt_of_le (Nat.lt_of_lt_of_le hbl (Nat.le_trans (Nat.le_trans hB1.size HW.out.size) hV1b.size)) hV2b.size⟩
              · show _ = _
                rw [ByteArray.append_assoc, ByteArray.append_assoc]
                exact HX.out
              · rw [ByteArray.size_append, ByteArray.size_append]
                show acc.size + 0 + xt.size ≤ _
                omega
              · rw [strC_append, strC_append]
                exact Or.inr hV2
            case measure => simp [vnatQ]; omega
        · skip
          have hxb : (x.1 != 1) = true := by simpa using hxk
          have hyb : (y.1 != 1) = true := by simpa using hyk
          have HBT : Hid (btw so x.1 = ⟨#[32]⟩) := by show _ = _; rw [hso, btw, if_pos ⟨by simp [hyk], hxk⟩]; rfl
          obtain ⟨xk, xt, xl, xc⟩ := x
          dsimp only at c0 c1 c2 c3 x0 x1 x2 x3 hxs hW1
          obtain ⟨yk, yt, yl, yc⟩ := y
          dsimp only at d0 hxk
          try dsimp only at hyk
          try dsimp only at hxb hyb
          clear hx hat hat' hn1 hle hkz hkp hy d9
          have HX : Hid (acc ++ ((⟨#[32]⟩ : ByteArray) ++ (xt ++ prs (decide (xk ≠ 1)) (l.drop (k + 1)))) = prs false l) := by
            have h1 := HE.out
            rw [HDR.out, prs] at h1
            rw [← h1]
            show _ = acc ++ (btw so xk ++ (xt ++ prs (decide (xk ≠ 1)) (l.drop (k + 1))))
            rw [HBT.out]
          have HSZ : Hid ((prs false l).size = acc.size + (1 + (xt.size + (prs (decide (xk ≠ 1)) (l.drop (k + 1))).size))) := by show _ = _; rw [← HX.out, ByteArray.size_append, ByteArray.size_append, ByteArray.size_append]; rfl
          have hlen := fun V (hV : Below W1.heap.size W1 V) => blen_any b b (Lib.strCells acc) acc.size hcl V (isb_below HI1.out hV)
          clear HE HSO HDR HBT
          by_cases hov : 65536 < acc.size + 1 + xt.size
          · go_wp2
            refine wp_region_any hmx ?_
            refine wpAny_pure (fun i__ => ([(.int .i64 ((acc.size : Nat) : Int)), (.string (⟨#[32]⟩ : ByteArray)), (.int .i64 ((1 : Nat) : Int)), (.int .i64 ((acc.size + 1 : Nat) : Int)), (.pointer (some ⟨wr.heap.size, 0 + 1, none⟩)), (.string xt), (.int .i64 ((xt.size : Nat) : Int)), (.int .i64 ((acc.size + 1 + xt.size : Nat) : Int)), (.bool true)] : List Value).getD i__ undef) (fun W => Below W1.heap.size W1 W) (by kernel_rfl) (Below.refl _ _).drew ?_ ?_
            · refine (stepsFrom_cons ?_ (stepsFrom_cons ?_ (stepsFrom_cons ?_ (stepsFrom_cons ?_ (stepsFrom_cons ?_ (stepsFrom_cons ?_ (stepsFrom_cons ?_ (stepsFrom_cons ?_ (stepsFrom_cons ?_ trivial)))))))))
              · exact step_call rfl trivial 22 _ _ [(.pointer (some ⟨b, 0, none⟩))] rfl (by kernel_rfl) (enters_of Tryd.func22 (by kernel_rfl) rfl) (fun v hw => (hlen v hw).mono (by rintro e w2 ⟨rfl, hb⟩; exact ⟨rfl, bel2 hw hb⟩))
              · exact step_move rfl trivial _ rfl (by kernel_rfl)
              · exact step_bi rfl trivial _ _ _ [(.string (⟨#[32]⟩ : ByteArray))] rfl (by kernel_rfl) (fun cs v hw => bi_lenS _ cs _ v)
              · exact step_binOp rfl trivial _ _ _ _ _ _ _ rfl rfl rfl (fun v hw => addN _ _ (by omega))
              · exact step_fieldAddr rfl trivial _ _ _ _ rfl rfl (fun v hw => fdq1 _ _ _)
              · exact step_load rfl trivial _ _ _ rfl rfl (fun v hw => ldqs ((World.cell?_of_block (a := ⟨wr.heap.size, _, none⟩) (hw.block _ HN1.out.lt)).trans x1))
              · exact step_bi rfl trivial _ _ _ [(.string xt)] rfl (by kernel_rfl) (fun cs v hw => bi_lenS _ cs _ v)
              · exact step_binOp rfl trivial _ _ _ _ _ _ _ rfl rfl rfl (fun v hw => addN _ _ (by omega))
              · exact step_binOp rfl trivial _ _ _ _ _ _ _ rfl rfl rfl (fun v hw => gtN _ true (by simp; omega))
            intro W hW
            first | refine hK _ _ ?_ | refine (‹∀ (a : Act) (w : World), Code.wp Tryd.prog _ _ a w → _›) _ _ ?_ | skip
            simp only [finL, List.getD_cons_zero, List.getD_cons_succ, Nat.zero_add, Nat.reduceAdd, List.setIfInBounds_toArray, List.set_cons_zero, List.set_cons_succ]
            go_wp2
            go_ret2
            exact ⟨HB1.out _ (HB2.out.trans (hW.mono hW1s)), .inl ⟨rfl, .inr (by rw [HSZ.out]; omega)⟩⟩
          · go_wp2
            refine wp_region_any hmx ?_
            refine wpAny_pure (fun i__ => ([(.int .i64 ((acc.size : Nat) : Int)), (.string (⟨#[32]⟩ : ByteArray)), (.int .i64 ((1 : Nat) : Int)), (.int .i64 ((acc.size + 1 : Nat) : Int)), (.pointer (some ⟨wr.heap.size, 0 + 1, none⟩)), (.string xt), (.int .i64 ((xt.size : Nat) : Int)), (.int .i64 ((acc.size + 1 + xt.size : Nat) : Int)), (.bool false)] : List Value).getD i__ undef) (fun W => Below W1.heap.size W1 W) (by kernel_rfl) (Below.refl _ _).drew ?_ ?_
            · refine (stepsFrom_cons ?_ (stepsFrom_cons ?_ (stepsFrom_cons ?_ (stepsFrom_cons ?_ (stepsFrom_cons ?_ (stepsFrom_cons ?_ (stepsFrom_cons ?_ (stepsFrom_cons ?_ (stepsFrom_cons ?_ trivial)))))))))
              · exact step_call rfl trivial 22 _ _ [(.pointer (some ⟨b, 0, none⟩))] rfl (by kernel_rfl) (enters_of Tryd.func22 (by kernel_rfl) rfl) (fun v hw => (hlen v hw).mono (by rintro e w2 ⟨rfl, hb⟩; exact ⟨rfl, bel2 hw hb⟩))
              · exact step_move rfl trivial _ rfl (by kernel_rfl)
              · exact step_bi rfl trivial _ _ _ [(.string (⟨#[32]⟩ : ByteArray))] rfl (by kernel_rfl) (fun cs v hw => bi_lenS _ cs _ v)
              · exact step_binOp rfl trivial _ _ _ _ _ _ _ rfl rfl rfl (fun v hw => addN _ _ (by omega))
              · exact step_fieldAddr rfl trivial _ _ _ _ rfl rfl (fun v hw => fdq1 _ _ _)
              · exact step_load rfl trivial _ _ _ rfl rfl (fun v hw => ldqs ((World.cell?_of_block (a := ⟨wr.heap.size, _, none⟩) (hw.block _ HN1.out.lt)).trans x1))
              · exact step_bi rfl trivial _ _ _ [(.string xt)] rfl (by kernel_rfl) (fun cs v hw => bi_lenS _ cs _ v)
              · exact step_binOp rfl trivial _ _ _ _ _ _ _ rfl rfl rfl (fun v hw => addN _ _ (by omega))
              · exact step_binOp rfl trivial _ _ _ _ _ _ _ rfl rfl rfl (fun v hw => gtN _ false (by simp; omega))
            intro W hW
            first | refine hK _ _ ?_ | refine (‹∀ (a : Act) (w : World), Code.wp Tryd.prog _ _ a w → _›) _ _ ?_ | skip
            simp only [finL, List.getD_cons_zero, List.getD_cons_succ, Nat.zero_add, Nat.reduceAdd, List.setIfInBounds_toArray, List.set_cons_zero, List.set_cons_succ]
            have HW : Hid (Below W1.heap.size W1 W) := hW
            have hWs : b ≤ W.heap.size := Nat.le_trans hW1s hW.size
            have hws1 := writeString_any b b (Lib.strCells acc) (⟨#[32]⟩ : ByteArray) W (isb_below HI1.out hW) (by rw [hcl]; show acc.size + 1 ≤ _; omega) hWs
            clear hlen hW
            go_wp2_with (first
              | (go_at_call 23; (with_reducible refine hws1.mono ?_); rintro e V1 ⟨rfl, hV1, hV1b, hV1k⟩; have hT1 : TkB V1 wr.heap.size (xk, xt, xl, xc) := okept hV1k ((HW.out.block _ HN1.out.lt).trans HN1.out) hwb; obtain ⟨_, z1, _, _⟩ := hT1.cells; have hV1s : b ≤ V1.heap.size := Nat.le_trans hWs hV1b.size; have hws2 := writeString_any b b (Lib.strCells acc ++ Lib.strCells (⟨#[32]⟩ : ByteArray)) xt V1 (Or.inr hV1) (by rw [List.length_append, hcl, Lib.strCells_length]; show acc.size + 1 + xt.size ≤ _; omega) hV1s)
              | (go_at_call 23; (with_reducible refine hws2.mono ?_); rintro e V2 ⟨rfl, hV2, hV2b, hV2k⟩))
            go_roundw
            case rel =>
              refine ⟨k + 1, decide (xk ≠ 1), acc ++ (⟨#[32]⟩ : ByteArray) ++ xt, by simp, by omega, ?_, ?_, ⟨fun e => by omega, fun k2 y2 e2 h2 => HSO2.out y2 (by rw [show k = k2 by omega]; exact h2)⟩, ?_, ((HB2.out.trans (HW.out.mono hW1s)).trans hV1b).trans hV2b, Nat.lt_of_lt_of_le (Nat.lt_of_lt_of_le hbl (Nat.le_trans (Nat.le_trans hB1.size HW.out.size) hV1b.size)) hV2b.size⟩
              · show _ = _
                rw [ByteArray.append_assoc, ByteArray.append_assoc]
                exact HX.out
              · rw [ByteArray.size_append, ByteArray.size_append]
                show acc.size + 1 + xt.size ≤ _
                omega
              · rw [strC_append, strC_append]
                exact Or.inr hV2
            case measure => simp [vnatQ]; omega
    · have hkk : k = n := by omega
      subst hkk
      have hki : ¬ ((k : Int) < (k : Int)) := by omega
      have hpe : acc = prs false l := by
        have h1 := HE.out
        rw [List.drop_of_length_le (by rw [HN.out]; exact Nat.le_refl _)] at h1
        rw [← h1]
        cases so <;> exact ByteArray.append_empty.symm
      have hst := string_any b b acc.data.toList wr HI.out (by omega)
      clear HE HSO HI
      go_wp2_with (go_at_call 24; refine hst.mono ?_; rintro e V ⟨rfl, _, hb9, _⟩)
      go_ret2
      refine ⟨HB1.out _ (HB.out.trans hb9), .inr ⟨?_, by omega, by rw [← hpe]; exact hacc⟩⟩
      rfl
end Go.Proofs.YtibhljdiofglfaaDoor
