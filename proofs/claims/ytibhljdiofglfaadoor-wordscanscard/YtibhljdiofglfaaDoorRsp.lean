/- What word.Scan answers: at a text of more than 2^16 bytes. -/
import Derived.Test.YtibhljdiofglfaaDoorScp
import Derived.Test.YtibhljdiofglfaaDoorRnx
import Derived.Test.YtibhljdiofglfaaDoorCutP
import Derived.Test.YtibhljdiofglfaaDoorVla
import Derived.Test.YtibhljdiofglfaaDoorSlg
import Derived.Test.YtibhljdiofglfaaDoorFnd
namespace Go.Proofs.YtibhljdiofglfaaDoor
open Go.RowKit Go.Shelf
set_option maxHeartbeats 1000000 in
set_option maxRecDepth 100000 in
theorem scan_long (s : ByteArray) (hs : 65536 < s.size) (w : World) : Calls Tryd.prog 9 #[.string s] w fun e w' => e = .returned (.tuple #[.slice none 0 0, .int .i64 2, .int .i64 0, .int .i64 0]) ∧ Below w.heap.size w w' := by
  have hg : 65536 < (s.size : Int) := by omega
  go_enter Tryd.func9, Tryd.ntmps9
  go_wp2
  refine ⟨rfl, .tuple #[.slice none 0 0, .int .i64 2, .int .i64 0, .int .i64 0], by simp [results, Tryd.results9, go_sem], rfl, ?_⟩
  exact ((((Below.refl _ w).alloc (by simp) _).alloc (by simp) _).alloc (by simp; omega) _).alloc (by simp; omega) _
end Go.Proofs.YtibhljdiofglfaaDoor
namespace Go.Proofs.YtibhljdiofglfaaDoor
open Go.RowKit Go.Shelf

/-- A text that is read to its quote ends behind its place. -/
theorem lead_gt (s : ByteArray) : ∀ (f p : Nat) (acc : List UInt8), (lead s f p acc).2.2 = 0 → p ≤ (lead s f p acc).2.1
  | 0, p, acc, h => by
    by_cases hp : p < s.size
    · unfold lead at h ⊢
      first | omega | simp_all
    · rw [lead_end s 0 p acc hp] at h
      simp at h
  | f + 1, p, acc, h => by
    by_cases hp : p < s.size
    · by_cases hq : byt s p = 34
      · rw [lead_quote s f p acc hp hq]
        show p ≤ p + 1
        omega
      · cases hpr : pieceR s p with
        | inl x =>
          obtain ⟨l, n⟩ := x
          obtain ⟨e, _, _, _⟩ := piece_ok s f p acc l n hp hq hpr
          rw [e] at h ⊢
          have := lead_gt s f (p + n) (acc ++ l) h
          omega
        | inr k =>
          obtain ⟨e, hk⟩ := piece_err s f p acc k hp hq hpr
          rw [e] at h
          exact absurd h hk
    · rw [lead_end s (f + 1) p acc hp] at h
      simp at h
theorem nx_bounds (s : ByteArray) (i E : Nat) (hi : i < s.size) (hE : LEnd s (i + 1) E) (h : (nxD s i E).2.2 = 0) : i < (nxD s i E).2.1 ∧ (nxD s i E).2.1 ≤ s.size := by
  have hw := wd_pos s i
  have hwl := wd_le s i hi
  have hEs := hE.2.1
  unfold nxD at h ⊢
  by_cases h1 : looseB s i = true ∨ cls (rn s i : Int) = 6
  · rw [if_pos h1] at h
    cases h
  rw [if_neg h1] at h ⊢
  have hrun : cls (rn s i : Int) = 3 ∨ cls (rn s i : Int) = 4 → i < runD s s.size i ∧ runD s s.size i ≤ s.size := fun hc => by
    have hlo : looseB s i = false := by
      cases e : looseB s i with
      | false => rfl
      | true => exact absurd (.inl e) h1
    obtain ⟨g, hg⟩ : ∃ g, s.size = g + 1 := ⟨s.size - 1, by omega⟩
    have h2 := runD_le s g (i + wd s i) hwl
    have h3 : runD s (g + 1) i = runD s g (i + wd s i) := runD_on s g i hi hlo hc
    rw [← hg] at h3
    rw [h3]
    omega
  by_cases h4 : cls (rn s i : Int) = 4
  · rw [if_pos h4] at h ⊢
    by_cases hc : 128 < (starts (s.extract i (runD s s.size i))).length
    · rw [if_pos hc] at h
      cases h
    · rw [if_neg hc]
      exact hrun (.inr h4)
  rw [if_neg h4] at h ⊢
  by_cases h3 : cls (rn s i : Int) = 3
  · rw [if_pos h3] at h ⊢
    cases hv : numR (s.extract i (runD s s.size i)) with
    | none =>
      rw [hv] at h
      cases h
    | some v => exact hrun (.inl h3)
  rw [if_neg h3] at h ⊢
  by_cases h34 : byt s i = 34
  · rw [if_pos h34] at h ⊢
    have h5 := lead_gt (s.extract 0 E) E (i + 1) [] h
    have hsz : (s.extract 0 E).size = E := by simp; omega
    have h6 := lead_le (s.extract 0 E) E (i + 1) [] (by have := hE.1; omega)
    dsimp only
    omega
  · rw [if_neg h34]
    dsimp only
    omega
end Go.Proofs.YtibhljdiofglfaaDoor
namespace Go.Proofs.YtibhljdiofglfaaDoor
open Go.RowKit Go.Shelf

/-- Where the line ends. -/
def le10 (s : ByteArray) : Nat → Nat → Nat
  | 0, p => p
  | f + 1, p => if p < s.size ∧ byt s p ≠ 10 then le10 s f (p + 1) else p
theorem le10_end (s : ByteArray) : ∀ (f p : Nat), p ≤ s.size → s.size ≤ p + f → LEnd s p (le10 s f p)
  | 0, p, h, k => ⟨Nat.le_refl _, h, fun j a b => by rw [le10] at b; omega, .inl (by rw [le10]; omega)⟩
  | f + 1, p, h, k => by
    rw [le10]
    split
    · rename_i hc
      have ih := le10_end s f (p + 1) (by omega) (by omega)
      refine ⟨Nat.le_of_succ_le ih.1, ih.2.1, fun j a b => ?_, ih.2.2.2⟩
      by_cases e : j = p
      · rw [e]; exact hc.2
      · exact ih.2.2.1 j (by omega) b
    · rename_i hc
      refine ⟨Nat.le_refl _, h, fun j a b => by omega, ?_⟩
      by_cases q : p < s.size
      · right
        by_cases e : byt s p = 10
        · exact e
        · exact absurd ⟨q, e⟩ hc
      · left; omega
def LE (s : ByteArray) (p : Nat) : Nat := le10 s s.size p
theorem le_end (s : ByteArray) (p : Nat) (h : p ≤ s.size) : LEnd s p (LE s p) := le10_end s s.size p h (by omega)
theorem LEnd.uniq {s : ByteArray} {p E E' : Nat} (h : LEnd s p E) (h' : LEnd s p E') : E = E' := by
  obtain ⟨a, b, c, d⟩ := h
  obtain ⟨a', b', c', d'⟩ := h'
  rcases Nat.lt_trichotomy E E' with q | q | q
  · rcases d with d | d
    · omega
    · exact absurd d (c' E a q)
  · exact q
  · rcases d' with d' | d'
    · omega
    · exact absurd d' (c E' a' q)
theorem nx_le (s : ByteArray) (i E : Nat) (hi : i < s.size) (hE : LEnd s (i + 1) E) : (nxD s i E).2.1 ≤ s.size := by
  have hwl := wd_le s i hi
  have h1 := (runD_le s s.size i (by omega)).2
  have hsz : (s.extract 0 E).size = E := by have := hE.2.1; simp; omega
  have h6 := lead_le (s.extract 0 E) E (i + 1) [] (by have := hE.1; omega)
  have h7 := hE.2.1
  unfold nxD
  split
  · dsimp only; omega
  split
  · split <;> (dsimp only; omega)
  split
  · split <;> (dsimp only; omega)
  split <;> (dsimp only; omega)
abbrev Res := List Fou ⊕ (Nat × Nat × Nat)
/-- How many characters lie between. -/
def cnt (s : ByteArray) (a b : Nat) : Nat := (starts (s.extract a b)).length
def scD (s : ByteArray) : Nat → Nat → Nat → Nat → Bool → List Fou → Res
  | 0, _, _, _, _, l => .inl l
  | f + 1, i, ln, fr, so, l =>
    if s.size < i then .inl l
    else if i = s.size ∨ byt s i = 10 then scD s f (i + 1) (ln + 1) (i + 1) false (if so = true then l ++ [(1, ⟨#[10]⟩, (ln : Int), ((cnt s fr i + 1 : Nat) : Int))] else l)
    else if byt s i = 9 ∨ byt s i = 13 ∨ byt s i = 32 then scD s f (i + 1) ln fr so l
    else if byt s i = 35 then scD s f (LE s i) ln fr so l
    else if (nxD s i (LE s (i + 1))).2.2 = 0 then scD s f (nxD s i (LE s (i + 1))).2.1 ln fr true (l ++ [(((nxD s i (LE s (i + 1))).1 : Int), s.extract i (nxD s i (LE s (i + 1))).2.1, (ln : Int), ((cnt s fr i + 1 : Nat) : Int))])
    else .inr ((nxD s i (LE s (i + 1))).2.2, (plc s (nxD s i (LE s (i + 1))).2.1).1, cnt s (plc s (nxD s i (LE s (i + 1))).2.1).2 (nxD s i (LE s (i + 1))).2.1 + 1)
section
variable (s : ByteArray) (f i ln fr : Nat) (so : Bool) (l : List Fou)
theorem sc_end (h : s.size < i) : scD s (f + 1) i ln fr so l = .inl l := by rw [scD, if_pos h]
theorem sc_eol (h : ¬ s.size < i) (h1 : i = s.size ∨ byt s i = 10) : scD s (f + 1) i ln fr so l = scD s f (i + 1) (ln + 1) (i + 1) false (if so = true then l ++ [(1, ⟨#[10]⟩, (ln : Int), ((cnt s fr i + 1 : Nat) : Int))] else l) := by rw [scD, if_neg h, if_pos h1]
theorem sc_gap (h : i < s.size) (h2 : byt s i = 9 ∨ byt s i = 13 ∨ byt s i = 32) : scD s (f + 1) i ln fr so l = scD s f (i + 1) ln fr so l := by
  rw [scD, if_neg (by omega), if_neg (by rintro (e | e) <;> omega), if_pos h2]
theorem sc_rem (h : i < s.size) (h2 : byt s i = 35) : scD s (f + 1) i ln fr so l = scD s f (LE s i) ln fr so l := by
  rw [scD, if_neg (by omega), if_neg (by rintro (e | e) <;> omega), if_neg (by rintro (e | e | e) <;> omega), if_pos h2]
theorem sc_word (h : i < s.size) (h1 : byt s i ≠ 10) (h2 : ¬ (byt s i = 9 ∨ byt s i = 13 ∨ byt s i = 32)) (h3 : byt s i ≠ 35) (h4 : (nxD s i (LE s (i + 1))).2.2 = 0) : scD s (f + 1) i ln fr so l = scD s f (nxD s i (LE s (i + 1))).2.1 ln fr true (l ++ [(((nxD s i (LE s (i + 1))).1 : Int), s.extract i (nxD s i (LE s (i + 1))).2.1, (ln : Int), ((cnt s fr i + 1 : Nat) : Int))]) := by
  rw [scD, if_neg (by omega), if_neg (by rintro (e | e) <;> omega), if_neg h2, if_neg h3, if_pos h4]
theorem sc_err (h : i < s.size) (h1 : byt s i ≠ 10) (h2 : ¬ (byt s i = 9 ∨ byt s i = 13 ∨ byt s i = 32)) (h3 : byt s i ≠ 35) (h4 : (nxD s i (LE s (i + 1))).2.2 ≠ 0) : scD s (f + 1) i ln fr so l = .inr ((nxD s i (LE s (i + 1))).2.2, (plc s (nxD s i (LE s (i + 1))).2.1).1, cnt s (plc s (nxD s i (LE s (i + 1))).2.1).2 (nxD s i (LE s (i + 1))).2.1 + 1) := by
  rw [scD, if_neg (by omega), if_neg (by rintro (e | e) <;> omega), if_neg h2, if_neg h3, if_neg h4]
end
end Go.Proofs.YtibhljdiofglfaaDoor
namespace Go.Proofs.YtibhljdiofglfaaDoor
open Go.RowKit Go.Shelf

theorem infoTs : (Tryd.prog.info? 32).map (fun i => (i.zero, i.size, i.bytes)) = some (some (.agg #[.int .i64 0, .string ByteArray.empty, .int .i64 0, .int .i64 0]), 4, 40) := by kernel_rfl
theorem new_src {W : World} (cs : Array Value) (t : TypeId) : ∀ j u, cs.toList[j]? = some u → (W.alloc (.cells cs t)).cell? ((⟨W.heap.size, 0, none⟩ : Addr).add j) = some u := by
  intro j u h
  have hg : (W.alloc (.cells cs t)).heap[W.heap.size]? = some (.cells cs t) := new_at rfl
  rw [add_pl, Nat.zero_add, cell_at hg j, ← h]
  simp
theorem row_slice {w : World} {base size : Nat} {e : TypeId} {v : Value} {n : Nat} {xs : List Value} (h : w.ownsRow base e size v n xs) : ∃ ad cap, v = .slice ad n cap := by
  rcases own_form h with ⟨e1, e2⟩ | ⟨g, cap, e1, _⟩
  · exact ⟨none, 0, by rw [e1, e2]⟩
  · exact ⟨_, cap, e1⟩
/-- What Scan answers, and where it lies. -/
def ScO (w : World) (R : Res) (e : Ending) (w' : World) : Prop := Below w.heap.size w w' ∧ match R with
  | .inl l => ∃ ad cap, e = .returned (.tuple #[.slice ad l.length cap, .int .i64 0, .int .i64 0, .int .i64 0]) ∧ w'.ownsRow w.heap.size 32 4 (.slice ad l.length cap) l.length (cells4 l)
  | .inr (er, a, b) => e = .returned (.tuple #[.slice none 0 0, .int .i64 (er : Int), .int .i64 (a : Int), .int .i64 (b : Int)])
/-- While the text is gone through. -/
structure SL (w : World) (tk : List Fou) (r : Value) (V : World) : Prop where
  row : V.ownsRow w.heap.size 32 4 r tk.length (cells4 tk)
  bl : Below w.heap.size w V
theorem SL.carry {w V V' : World} {tk : List Fou} {r : Value} (h : SL w tk r V) (hb : Below V.heap.size V V') : SL w tk r V' := ⟨row_below h.row hb, bel2 h.bl hb⟩
theorem SL.more {w V V' : World} {tk : List Fou} {r r' : Value} (h : SL w tk r V) (q : Fou) (hg : V.grownBy V' r.ownBlock) (hr : V'.ownsRow w.heap.size 32 4 r' (tk.length + 1) (cells4 tk ++ [.int .i64 q.1, .string q.2.1, .int .i64 q.2.2.1, .int .i64 q.2.2.2])) : SL w (tk ++ [q]) r' V' := by
  refine ⟨?_, h.bl.grown hg h.bl.size (fun b e => (row_lt2 h.row b e).1)⟩
  rw [List.length_append, cells4_append]
  exact hr
theorem bel_drewN {n : Nat} {w a : World} (h : Below n w a) (k : Nat) : Below n w (a.drewN k) := h.trans ⟨rfl, rfl, rfl, Nat.le_refl _, fun _ _ => rfl⟩
theorem results_tmp4 {fn : Func} {t u v x : Tmp} (h : fn.results = #[.tmp t, .tmp u, .tmp v, .tmp x]) (tmps : Array Value) (P : Program) (w : World) : (results fn tmps).run P w = .ok (.tuple #[tmps.getD t undef, tmps.getD u undef, tmps.getD v undef, tmps.getD x undef]) w := by
  simp [results, h]
theorem stepG_struct4 {G : Type} {P : Program} {md : Region.Mode} {ops : Array Oper} {Q : Exit → Act → World → Prop} {X0 : Array Value} {val : G → Nat → Value} {J : G → (Nat → Bool) → World → Prop} {i : Nat} {o : Oper}
    (hi : ops[i]? = some o) (hg : o.guard = none) (t : TypeId) (x0 x1 x2 x3 : Operand) (v0 v1 v2 v3 : G → Value) (ho : o.op = .build t #[(0, x0), (1, x1), (2, x2), (3, x3)]) (hx : ∀ g, rdo md ops X0 (val g) i o x0 = some (v0 g) ∧ rdo md ops X0 (val g) i o x1 = some (v1 g) ∧ rdo md ops X0 (val g) i o x2 = some (v2 g) ∧ rdo md ops X0 (val g) i o x3 = some (v3 g))
    (h : ∀ g d w, J g d w → d i = false → (Instr.build t #[(0, v0 g), (1, v1 g), (2, v2 g), (3, v3 g)]).run P w = .ok (val g i) w ∧ J g (fun j => if j = i then true else d j) w) : StepG P md ops Q X0 val J i o := by
  intro g d a w hJ hun hdep hcl hS
  have hS' : Seen md ops X0 (val g) i o a := hS
  obtain ⟨h1, h3⟩ := h g d w hJ hun
  obtain ⟨q0, q1, q2, q3⟩ := hx g
  unfold wpOp
  rw [hi]
  simp only [Region.wanted, hg, if_true]
  refine .inl ?_
  unfold Oper.wp execOp
  simp only [ho, List.map_toArray, List.map_cons, List.map_nil, hS'.eval q0, hS'.eval q1, hS'.eval q2, hS'.eval q3, Sem.run_bind, h1, Result.andThen_ok, Sem.run_pure, Oper.upon_value]
  exact ⟨g, fun _ _ => rfl, rfl, h3⟩
theorem slice_lhS {s : ByteArray} {a b : Nat} (h : a ≤ b) (hb : b ≤ s.size) (w : World) : (Instr.sliceAt 9 (.string s) (some (.int .i64 (a : Int))) (some (.int .i64 (b : Int))) none).run Tryd.prog w = .ok (.string (s.extract a b)) w := by
  have h1 : (a : Int) ≤ (b : Int) := by omega
  have h2 : (b : Int) ≤ (s.size : Int) := by omega
  go_simp
theorem build_q (k : Int) (t : ByteArray) (l c : Int) (W : World) : (Instr.build 32 #[(0, .int .i64 k), (1, .string t), (2, .int .i64 l), (3, .int .i64 c)]).run Tryd.prog W = .ok (.agg #[.int .i64 k, .string t, .int .i64 l, .int .i64 c]) W := by go_simp
theorem bs_q (k : Int) (t : ByteArray) (l c : Int) (W : World) : (Instr.buildSlice 22 1 #[(0, .agg #[.int .i64 k, .string t, .int .i64 l, .int .i64 c])]).run Tryd.prog W = .ok (.slice (some ⟨W.heap.size, 0, none⟩) 1 1) (W.alloc (.cells #[.int .i64 k, .string t, .int .i64 l, .int .i64 c] 32)) := by go_simp
/-- While a word is put behind the others. -/
def JW (w : World) (tk : List Fou) (ar : Option Addr) (N cr : Nat) (x : Fou) (g : Nat × Option Addr × Nat) (d14 d15 : Bool) (W : World) : Prop :=
  match d14, d15 with
  | false, _ => SL w tk (.slice ar N cr) W
  | true, false => SL w tk (.slice ar N cr) W ∧ W.heap[g.1]? = some (.cells #[.int .i64 x.1, .string x.2.1, .int .i64 x.2.2.1, .int .i64 x.2.2.2] 32 (0, 0))
  | true, true => SL w (tk ++ [x]) (.slice g.2.1 (N + 1) g.2.2) W
theorem JW.carry {w : World} {tk : List Fou} {ar : Option Addr} {N cr : Nat} {x : Fou} {g : Nat × Option Addr × Nat} {d14 d15 : Bool} {W W' : World} (h : JW w tk ar N cr x g d14 d15 W) (hb : Below W.heap.size W W') : JW w tk ar N cr x g d14 d15 W' := by
  match d14, d15, h with
  | false, _, h => exact SL.carry h hb
  | true, false, h => exact ⟨h.1.carry hb, (hb.block _ (lt_at h.2)).trans h.2⟩
  | true, true, h => exact SL.carry h hb
set_option maxHeartbeats 8000000 in
set_option maxRecDepth 100000 in
theorem rScan_any (s : ByteArray) (hs : s.size ≤ 65536) (w : World) : Calls Tryd.prog 14 #[.string s] w (ScO w (scD s (s.size + 2) 0 1 0 false [])) := by
  have hmx : Tryd.prog.follows .mixedOrders = true := by kernel_rfl
  obtain ⟨ic, hic, hz0, hz1, hz2⟩ := info_parts infoTs
  have hsi : ¬ (s.size : Int) > 65536 := by omega
  obtain ⟨R, hR⟩ : ∃ R, scD s (s.size + 2) 0 1 0 false [] = R := ⟨_, rfl⟩
  rw [hR]
  have HR : Hid (scD s (s.size + 2) 0 1 0 false [] = R) := hR
  clear hR
  go_enter Tryd.func14, Tryd.ntmps14
  go_wp2
  go_loopw [6, 7, 8, 9, 10] (fun r vl vf vs vi wz => ∃ (f i ln fr : Nat) (so : Bool) (tk : List Fou), vl = .int .i64 (ln : Int) ∧ vf = .int .i64 (fr : Int) ∧ vs = .bool so ∧ vi = .int .i64 (i : Int) ∧ i ≤ s.size + 1 ∧ fr ≤ i ∧ ln ≤ i + 1 ∧ tk.length ≤ i ∧ s.size + 1 < i + f ∧ Hid (scD s f i ln fr so tk = R) ∧ Hid (SL w tk r wz)) (fun _ _ _ _ vi _ => s.size + 1 - vnatD vi)
  case atStart => exact ⟨s.size + 2, 0, 1, 0, false, [], rfl, rfl, rfl, rfl, Nat.zero_le _, Nat.le_refl _, Nat.le_refl _, Nat.le_refl _, by omega, HR, ⟨World.ownsRow_nil _ _ _ _, Below.refl _ _⟩⟩
  case round =>
    obtain ⟨f, ip, ln, fr, so, tk, rfl, rfl, rfl, rfl, hi, hfr, hln, htk, hf, HS, HL⟩ := hrel
    obtain ⟨f, rfl⟩ : ∃ g, f = g + 1 := ⟨f - 1, by omega⟩
    clear HR
    obtain ⟨ar, cr, er⟩ := row_slice HL.out.row
    subst er
    obtain ⟨N, hN⟩ : ∃ N, tk.length = N := ⟨_, rfl⟩
    have HN : Hid (tk.length = N) := hN
    rw [hN] at HL htk ⊢
    clear hN
    have hbz := HL.out.bl.size
    by_cases hin : ip < s.size
    case neg =>
      by_cases hie : s.size < ip
      · have hle : ¬ ((ip : Int) ≤ (s.size : Int)) := by omega
        have hR := sc_end s f ip ln fr so tk hie
        have HV : Hid (R = .inl tk) := HS.out.symm.trans hR
        clear HS hR
        go_wp2
        (try simp only [Exit.inBlock, Exit.then])
        refine bodyPost_ret (results_tmp4 rfl _ _ _) rfl ?_
        rw [HV.out]
        refine ⟨HL.out.bl, ar, cr, ?_, ?_⟩
        · rw [HN.out]
          rfl
        · have := HL.out.row
          rw [HN.out] at this ⊢
          exact this
      · obtain rfl : ip = s.size := by omega
        have hE : s.size = s.size ∨ byt s s.size = 10 := .inl rfl
        cases so with
        | false =>
          have hR := sc_eol s f s.size ln fr false tk (by omega) hE
          rw [if_neg (by simp)] at hR
          have HV : Hid (scD s f (s.size + 1) (ln + 1) (s.size + 1) false tk = R) := hR.symm.trans HS.out
          clear HS hR hE
          go_wp2
          go_roundw
          case rel => exact ⟨f, s.size + 1, ln + 1, s.size + 1, false, tk, by simp, by simp, rfl, by simp, by omega, by omega, by omega, by rw [HN.out]; omega, by omega, HV, HL⟩
          case measure => simp [vnatD] <;> omega
        | true =>
          have hR := sc_eol s f s.size ln fr true tk (by omega) hE
          rw [if_pos rfl] at hR
          have hct := refCount_any (s.extract fr s.size) (by simp; omega)
          have hcb := starts_length (s.extract fr s.size)
          have hce : (s.extract fr s.size).size ≤ 65536 := by simp; omega
          unfold cnt at hR
          generalize (starts (s.extract fr s.size)).length = C at *
          have HV : Hid (scD s f (s.size + 1) (ln + 1) (s.size + 1) false (tk ++ [(1, ⟨#[10]⟩, (ln : Int), ((C + 1 : Nat) : Int))]) = R) := hR.symm.trans HS.out
          have hfi : (fr : Int) ≤ (s.size : Int) := by omega
          clear HS hR hE
          go_wp2_with (first | (go_at_call 26; (with_reducible refine (hct _).mono ?_); rintro e u1 ⟨rfl, hb1⟩; have HL1 : Hid (SL w tk (.slice ar N cr) u1) := HL.out.carry hb1; have hrow1 : u1.ownsRow w.heap.size 32 4 (.slice ar N cr) N (cells4 tk) := (by have := HL1.out.row; rw [HN.out] at this; exact this); have hbz1 := HL1.out.bl.size) | (at_builtin; refine wpList_append_own_at _ rfl _ _ 22 rfl w.heap.size 32 ic _ 4 40 Tryd.underlying22 hic hz0 hz1 hz2 rfl (by decide) _ N (cells4 tk) rfl (row_below hrow1 (al1' _ _)) ⟨u1.heap.size, 0, none⟩ 1 1 [.int .i64 1, .string ⟨#[10]⟩, .int .i64 (ln : Int), .int .i64 ((C : Int) + 1)] rfl rfl (new_src #[.int .i64 1, .string ⟨#[10]⟩, .int .i64 (ln : Int), .int .i64 ((C : Int) + 1)] 32) (by simp [Value.oneCell']) (by unfold maxLen; omega) (by omega) (Nat.le_trans hbz1 (al1' _ _).size) ?_; intro v2 u2 ho2 hg2 _ _; have HX : Hid (SL w (tk ++ [(1, ⟨#[10]⟩, (ln : Int), ((C + 1 : Nat) : Int))]) v2 u2) := (HL1.out.carry (al1' u1 (.cells #[.int .i64 1, .string ⟨#[10]⟩, .int .i64 (ln : Int), .int .i64 ((C : Int) + 1)] 32))).more (1, ⟨#[10]⟩, (ln : Int), ((C + 1 : Nat) : Int)) hg2 (by rw [HN.out]; exact ho2); clear ho2 hg2))
          go_roundw
          case rel => exact ⟨f, s.size + 1, ln + 1, s.size + 1, false, _, by simp, by simp, rfl, by simp, by omega, by omega, by omega, by rw [List.length_append, HN.out]; simp; omega, by omega, HV, HX⟩
          case measure => simp [vnatD] <;> omega
    case pos =>
      have hby := byt_get hin
      have hii : (ip : Int) < (s.size : Int) := by omega
      have hle : (ip : Int) ≤ (s.size : Int) := by omega
      have hne : ¬ ((ip : Int) = (s.size : Int)) := by omega
      have hwn : IntKind.i64.wrap ((ip : Int) + 1) = (ip : Int) + 1 := by rw [IntKind.wrap_i64]; omega
      by_cases h10 : byt s ip = 10
      · have hq : (s[ip]'hin).toNat = 10 := by omega
        have hE : ip = s.size ∨ byt s ip = 10 := .inr h10
        clear hby h10
        cases so with
        | false =>
          have hR := sc_eol s f ip ln fr false tk (by omega) hE
          rw [if_neg (by simp)] at hR
          have HV : Hid (scD s f (ip + 1) (ln + 1) (ip + 1) false tk = R) := hR.symm.trans HS.out
          clear HS hR hE
          go_wp2
          go_roundw
          case rel => exact ⟨f, ip + 1, ln + 1, ip + 1, false, tk, by simp, by simp, rfl, by simp, by omega, by omega, by omega, by rw [HN.out]; omega, by omega, HV, HL⟩
          case measure => simp [vnatD] <;> omega
        | true =>
          have hR := sc_eol s f ip ln fr true tk (by omega) hE
          rw [if_pos rfl] at hR
          have hct := refCount_any (s.extract fr ip) (by simp; omega)
          have hcb := starts_length (s.extract fr ip)
          have hce : (s.extract fr ip).size ≤ 65536 := by simp; omega
          unfold cnt at hR
          generalize (starts (s.extract fr ip)).length = C at *
          have HV : Hid (scD s f (ip + 1) (ln + 1) (ip + 1) false (tk ++ [(1, ⟨#[10]⟩, (ln : Int), ((C + 1 : Nat) : Int))]) = R) := hR.symm.trans HS.out
          have hfi : (fr : Int) ≤ (ip : Int) := by omega
          clear HS hR hE
          go_wp2_with (first | (go_at_call 26; (with_reducible refine (hct _).mono ?_); rintro e u1 ⟨rfl, hb1⟩; have HL1 : Hid (SL w tk (.slice ar N cr) u1) := HL.out.carry hb1; have hrow1 : u1.ownsRow w.heap.size 32 4 (.slice ar N cr) N (cells4 tk) := (by have := HL1.out.row; rw [HN.out] at this; exact this); have hbz1 := HL1.out.bl.size) | (at_builtin; refine wpList_append_own_at _ rfl _ _ 22 rfl w.heap.size 32 ic _ 4 40 Tryd.underlying22 hic hz0 hz1 hz2 rfl (by decide) _ N (cells4 tk) rfl (row_below hrow1 (al1' _ _)) ⟨u1.heap.size, 0, none⟩ 1 1 [.int .i64 1, .string ⟨#[10]⟩, .int .i64 (ln : Int), .int .i64 ((C : Int) + 1)] rfl rfl (new_src #[.int .i64 1, .string ⟨#[10]⟩, .int .i64 (ln : Int), .int .i64 ((C : Int) + 1)] 32) (by simp [Value.oneCell']) (by unfold maxLen; omega) (by omega) (Nat.le_trans hbz1 (al1' _ _).size) ?_; intro v2 u2 ho2 hg2 _ _; have HX : Hid (SL w (tk ++ [(1, ⟨#[10]⟩, (ln : Int), ((C + 1 : Nat) : Int))]) v2 u2) := (HL1.out.carry (al1' u1 (.cells #[.int .i64 1, .string ⟨#[10]⟩, .int .i64 (ln : Int), .int .i64 ((C : Int) + 1)] 32))).more (1, ⟨#[10]⟩, (ln : Int), ((C + 1 : Nat) : Int)) hg2 (by rw [HN.out]; exact ho2); clear ho2 hg2))
          go_roundw
          case rel => exact ⟨f, ip + 1, ln + 1, ip + 1, false, _, by simp, by simp, rfl, by simp, by omega, by omega, by omega, by rw [List.length_append, HN.out]; simp; omega, by omega, HV, HX⟩
          case measure => simp [vnatD] <;> omega
      have q10 : (((s[ip]'hin).toNat : Int) == 10) = false := beq_eq_false_iff_ne.2 (by omega)
      by_cases hg : byt s ip = 9 ∨ byt s ip = 13 ∨ byt s ip = 32
      · have hR := sc_gap s f ip ln fr so tk hin hg
        have HV : Hid (scD s f (ip + 1) ln fr so tk = R) := hR.symm.trans HS.out
        clear HS hR
        rcases hg with hg | hg | hg
        · have hq : (s[ip]'hin).toNat = 9 := by omega
          clear hby h10 hg q10
          go_wp2
          go_roundw
          case rel => exact ⟨f, ip + 1, ln, fr, so, tk, rfl, rfl, rfl, by simp, by omega, by omega, by omega, by rw [HN.out]; omega, by omega, HV, HL⟩
          case measure => simp [vnatD] <;> omega
        · have hq : (s[ip]'hin).toNat = 13 := by omega
          clear hby h10 hg q10
          go_wp2
          go_roundw
          case rel => exact ⟨f, ip + 1, ln, fr, so, tk, rfl, rfl, rfl, by simp, by omega, by omega, by omega, by rw [HN.out]; omega, by omega, HV, HL⟩
          case measure => simp [vnatD] <;> omega
        · have hq : (s[ip]'hin).toNat = 32 := by omega
          clear hby h10 hg q10
          go_wp2
          go_roundw
          case rel => exact ⟨f, ip + 1, ln, fr, so, tk, rfl, rfl, rfl, by simp, by omega, by omega, by omega, by rw [HN.out]; omega, by omega, HV, HL⟩
          case measure => simp [vnatD] <;> omega
      by_cases h35 : byt s ip = 35
      · have hR := sc_rem s f ip ln fr so tk hin h35
        have hq : (s[ip]'hin).toNat = 35 := by omega
        have HLE : Hid (LEnd s ip (LE s ip)) := le_end s ip (by omega)
        have hEi : ip < LE s ip := by
          have h := HLE.out
          rcases Nat.lt_or_ge ip (LE s ip) with q | q
          · exact q
          · have e : LE s ip = ip := by have := h.1; omega
            rcases h.2.2.2 with q2 | q2
            · omega
            · rw [e] at q2; omega
        have hEs : LE s ip ≤ s.size := HLE.out.2.1
        have HV : Hid (scD s f (LE s ip) ln fr so tk = R) := hR.symm.trans HS.out
        clear HS hR
        generalize LE s ip = E at *
        clear hby h10 hg q10 h35
        go_wp2
        go_loopw [10] (fun vi wz => ∃ (j : Nat), vi = .int .i64 (j : Int) ∧ ip ≤ j ∧ j ≤ E ∧ Hid (SL w tk (.slice ar N cr) wz)) (fun vi _ => s.size - vnatD vi)
        case atStart => exact ⟨ip, rfl, Nat.le_refl _, by omega, HL⟩
        case round =>
          obtain ⟨j, rfl, hij, hjE, HL2⟩ := hrel
          by_cases hjl : j < E
          · have hjs : j < s.size := by omega
            have hji : (j : Int) < (s.size : Int) := by omega
            have hb := HLE.out.2.2.1 j hij hjl
            have hby2 := byt_get hjs
            have qj : (((s[j]'hjs).toNat : Int) == 10) = false := beq_eq_false_iff_ne.2 (by omega)
            clear hb hby2
            go_wp2
            go_roundw
            case rel => exact ⟨j + 1, by simp, by omega, by omega, HL2⟩
            case measure => simp [vnatD] <;> omega
          · obtain rfl : j = E := by omega
            by_cases hjs : j < s.size
            · have hb : byt s j = 10 := by
                rcases HLE.out.2.2.2 with q | q
                · omega
                · exact q
              have hby2 := byt_get hjs
              have hji : (j : Int) < (s.size : Int) := by omega
              have qj : (s[j]'hjs).toNat = 10 := by omega
              clear hb hby2
              go_wp2
              go_roundw
              case rel => exact ⟨f, j, ln, fr, so, tk, rfl, rfl, rfl, rfl, by omega, by omega, by omega, by rw [HN.out]; omega, by omega, HV, HL2⟩
              case measure => simp [vnatD] <;> omega
            · have hji : ¬ ((j : Int) < (s.size : Int)) := by omega
              go_wp2
              go_roundw
              case rel => exact ⟨f, j, ln, fr, so, tk, rfl, rfl, rfl, rfl, by omega, by omega, by omega, by rw [HN.out]; omega, by omega, HV, HL2⟩
              case measure => simp [vnatD] <;> omega
      have q9 : (((s[ip]'hin).toNat : Int) == 9) = false := beq_eq_false_iff_ne.2 (by omega)
      have q13 : (((s[ip]'hin).toNat : Int) == 13) = false := beq_eq_false_iff_ne.2 (by omega)
      have q32 : (((s[ip]'hin).toNat : Int) == 32) = false := beq_eq_false_iff_ne.2 (by omega)
      have q35 : (((s[ip]'hin).toNat : Int) == 35) = false := beq_eq_false_iff_ne.2 (by omega)
      have hLE := le_end s (ip + 1) (by omega)
      have hnx := next_any s hs ip (LE s (ip + 1)) hin hLE
      have hnl := nx_le s ip (LE s (ip + 1)) hin hLE
      have hnb := nx_bounds s ip (LE s (ip + 1)) hin hLE
      have hRw := sc_word s f ip ln fr so tk hin h10 hg h35
      have hRe := sc_err s f ip ln fr so tk hin h10 hg h35
      generalize nxD s ip (LE s (ip + 1)) = X at *
      obtain ⟨K, e, er⟩ := X
      dsimp only at hnl hnb hRw hRe
      unfold nxV at hnx
      dsimp only at hnx
      clear hby h10 hg h35 hLE
      by_cases her : er = 0
      · subst her
        obtain ⟨hie, hes⟩ := hnb rfl
        have hR := hRw rfl
        have hct := refCount_any (s.extract fr ip) (by simp; omega)
        have hcb := starts_length (s.extract fr ip)
        have hce : (s.extract fr ip).size ≤ 65536 := by simp; omega
        unfold cnt at hR
        generalize (starts (s.extract fr ip)).length = C at *
        have HV : Hid (scD s f e ln fr true (tk ++ [((K : Int), s.extract ip e, (ln : Int), ((C + 1 : Nat) : Int))]) = R) := hR.symm.trans HS.out
        clear HS hR hRw hRe hnb
        go_wp2_with (go_at_call 27; (with_reducible refine (hnx _).mono ?_); rintro e u1 ⟨rfl, hb1⟩; have HL1 : Hid (SL w tk (.slice ar N cr) u1) := HL.out.carry hb1; have hbz1 := HL1.out.bl.size)
        have bld : ∀ {d : Nat → Bool} (g : Nat × Option Addr × Nat) (V : World), JW w tk ar N cr ((K : Int), s.extract ip e, (ln : Int), ((C + 1 : Nat) : Int)) g (d 14) (d 15) V → d 14 = false → d 15 = false → JW w tk ar N cr ((K : Int), s.extract ip e, (ln : Int), ((C + 1 : Nat) : Int)) (V.heap.size, g.2) true (d 15) (V.alloc (.cells #[.int .i64 (K : Int), .string (s.extract ip e), .int .i64 (ln : Int), .int .i64 ((C + 1 : Nat) : Int)] 32)) := by
          intro d g V hJ h14 h15
          rw [h14] at hJ
          rw [h15]
          have hJ' : SL w tk (.slice ar N cr) V := hJ
          exact ⟨hJ'.carry (al1' _ _), new_at rfl⟩
        have app : ∀ {d : Nat → Bool} (g : Nat × Option Addr × Nat) (V : World), JW w tk ar N cr ((K : Int), s.extract ip e, (ln : Int), ((C + 1 : Nat) : Int)) g (d 14) (d 15) V → d 14 = true → d 15 = false → ∃ (g' : Nat × Option Addr × Nat) (w' : World), (Builtin.append_ #[22, 22] 22 #[.slice ar N cr, .slice (some ⟨g.1, 0, none⟩) 1 1]).run Tryd.prog V = .ok (.slice g'.2.1 (N + 1) g'.2.2) w' ∧ g' = (g.1, g'.2) ∧ JW w tk ar N cr ((K : Int), s.extract ip e, (ln : Int), ((C + 1 : Nat) : Int)) g' (d 14) true w' := by
          intro d g V hJ h14 h15
          rw [h14, h15] at hJ
          rw [h14]
          obtain ⟨k1, k2⟩ := hJ
          have hrow : V.ownsRow w.heap.size 32 4 (.slice ar N cr) N (cells4 tk) := by have := k1.row; rw [HN.out] at this; exact this
          obtain ⟨v', w', hr, h2, h3, _, _⟩ := run_append_own_at (P := Tryd.prog) V w.heap.size 22 22 32 ic _ 4 40 Tryd.underlying22 hic hz0 hz1 hz2 rfl (by decide) (.slice ar N cr) N (cells4 tk) hrow ⟨g.1, 0, none⟩ 1 1 [.int .i64 (K : Int), .string (s.extract ip e), .int .i64 (ln : Int), .int .i64 ((C + 1 : Nat) : Int)] rfl (fun j u hj => by rw [add_pl, Nat.zero_add, cell_at k2 j, ← hj]; simp) (by simp [Value.oneCell']) (by unfold maxLen; omega) (by omega) (by have := k1.bl.size; omega)
          obtain ⟨ad', cap', rfl⟩ := row_slice h2
          exact ⟨(g.1, ad', cap'), w', hr, rfl, k1.more ((K : Int), s.extract ip e, (ln : Int), ((C + 1 : Nat) : Int)) h3 (by rw [HN.out]; exact h2)⟩
        refine wp_region_any hmx ?_
        refine wpAny_tabG (G := (Nat × Option Addr × Nat)) (fun g i__ => ([(.slice ar N cr), (.int .i64 (K : Int)), (.string s), (.int .i64 (ip : Int)), (.int .i64 (e : Int)), (.string (s.extract ip e)), (.int .i64 (ln : Int)), (.string s), (.int .i64 (fr : Int)), (.int .i64 (ip : Int)), (.string (s.extract fr ip)), (.int .i64 (C : Int)), (.int .i64 ((C + 1 : Nat) : Int)), (.agg #[.int .i64 (K : Int), .string (s.extract ip e), .int .i64 (ln : Int), .int .i64 ((C + 1 : Nat) : Int)]), (.slice (some ⟨g.1, 0, none⟩) 1 1), (.slice g.2.1 (N + 1) g.2.2), (.slice g.2.1 (N + 1) g.2.2)] : List Value).getD i__ undef) (fun g d V => JW w tk ar N cr ((K : Int), s.extract ip e, (ln : Int), ((C + 1 : Nat) : Int)) g (d 14) (d 15) V) (by kernel_rfl) ((0, none, 0)) (HL1.out.carry (Below.refl _ _).drew) ?step1 ?fin1
        case step1 =>
          intro i o ho
          have hi : i < 17 := getElem?_lt ho
          match i, hi, ho with
          | 0, _, ho =>
            cases ho
            refine stepG_of (fun g d hdep => ?_)
            exact step_move rfl trivial _ rfl (by kernel_rfl)
          | 1, _, ho =>
            cases ho
            refine stepG_of (fun g d hdep => ?_)
            exact step_move rfl trivial _ rfl (by kernel_rfl)
          | 2, _, ho =>
            cases ho
            refine stepG_of (fun g d hdep => ?_)
            exact step_move rfl trivial _ rfl (by kernel_rfl)
          | 3, _, ho =>
            cases ho
            refine stepG_of (fun g d hdep => ?_)
            exact step_move rfl trivial _ rfl (by kernel_rfl)
          | 4, _, ho =>
            cases ho
            refine stepG_of (fun g d hdep => ?_)
            exact step_move rfl trivial _ rfl (by kernel_rfl)
          | 5, _, ho =>
            cases ho
            refine stepG_of (fun g d hdep => ?_)
            exact step_slice rfl trivial _ _ _ _ _ (some (.int .i64 (ip : Int))) (some (.int .i64 (e : Int))) rfl rfl rfl rfl (fun v hw => slice_lhS (by omega) hes v)
          | 6, _, ho =>
            cases ho
            refine stepG_of (fun g d hdep => ?_)
            exact step_move rfl trivial _ rfl (by kernel_rfl)
          | 7, _, ho =>
            cases ho
            refine stepG_of (fun g d hdep => ?_)
            exact step_move rfl trivial _ rfl (by kernel_rfl)
          | 8, _, ho =>
            cases ho
            refine stepG_of (fun g d hdep => ?_)
            exact step_move rfl trivial _ rfl (by kernel_rfl)
          | 9, _, ho =>
            cases ho
            refine stepG_of (fun g d hdep => ?_)
            exact step_move rfl trivial _ rfl (by kernel_rfl)
          | 10, _, ho =>
            cases ho
            refine stepG_of (fun g d hdep => ?_)
            exact step_slice rfl trivial _ _ _ _ _ (some (.int .i64 (fr : Int))) (some (.int .i64 (ip : Int))) rfl rfl rfl rfl (fun v hw => slice_lhS hfr (by omega) v)
          | 11, _, ho =>
            cases ho
            refine stepG_of (fun g d hdep => ?_)
            exact step_call rfl trivial 26 _ _ [(.string (s.extract fr ip))] rfl (by kernel_rfl) (enters_of Tryd.func26 (by kernel_rfl) rfl) (fun v hw => (hct v).mono (by rintro e0 w' ⟨rfl, hb⟩; exact ⟨rfl, JW.carry hw hb⟩))
          | 12, _, ho =>
            cases ho
            refine stepG_of (fun g d hdep => ?_)
            exact step_binOp rfl trivial _ _ _ _ _ _ _ rfl rfl rfl (fun v hw => bin_add1 C (by omega))
          | 13, _, ho =>
            cases ho
            exact stepG_struct4 rfl rfl _ _ _ _ _ (fun g => .int .i64 (K : Int)) (fun g => .string (s.extract ip e)) (fun g => .int .i64 (ln : Int)) (fun g => .int .i64 ((C + 1 : Nat) : Int)) rfl (fun g => ⟨rfl, rfl, rfl, rfl⟩) (fun g d V hJ hun => ⟨build_q _ _ _ _ V, hJ⟩)
          | 14, _, ho =>
            cases ho
            exact stepG_buildG rfl rfl _ _ (fun g => .agg #[.int .i64 (K : Int), .string (s.extract ip e), .int .i64 (ln : Int), .int .i64 ((C + 1 : Nat) : Int)]) rfl (fun g => rfl) (fun g d V hJ hun hdep hcl => ⟨(V.heap.size, g.2), _, bs_q _ _ _ _ V, (fun j hj => match j, hj with | 14, hj => (by rw [hj] at hun; cases hun)  | 0, _ => rfl | 1, _ => rfl | 2, _ => rfl | 3, _ => rfl | 4, _ => rfl | 5, _ => rfl | 6, _ => rfl | 7, _ => rfl | 8, _ => rfl | 9, _ => rfl | 10, _ => rfl | 11, _ => rfl | 12, _ => rfl | 13, _ => rfl | 15, _ => rfl | 16, _ => rfl | _ + 17, _ => rfl), bld g V hJ hun (by cases h : d 15 with | false => rfl | true => exact absurd (hcl 15 _ rfl h 14 (by kernel_rfl)) (by rw [hun]; simp))⟩)
          | 15, _, ho =>
            cases ho
            exact stepG_append rfl rfl _ _ _ (fun _ => .slice ar N cr) (fun g => .slice (some ⟨g.1, 0, none⟩) 1 1) rfl (fun g => rfl) (fun g => rfl) (fun g d V hJ hun hdep hcl => by obtain ⟨g', w', a1, a2, a3⟩ := app g V hJ (hdep 14 (by kernel_rfl)) hun; exact ⟨g', w', a1, (by rw [a2]; exact (fun j hj => match j, hj with | 15, hj => (by rw [hj] at hun; cases hun) | 16, hj => absurd ((hcl 16 _ rfl hj 15 (by kernel_rfl))) (by rw [hun]; simp) | 0, _ => rfl | 1, _ => rfl | 2, _ => rfl | 3, _ => rfl | 4, _ => rfl | 5, _ => rfl | 6, _ => rfl | 7, _ => rfl | 8, _ => rfl | 9, _ => rfl | 10, _ => rfl | 11, _ => rfl | 12, _ => rfl | 13, _ => rfl | 14, _ => rfl | _ + 17, _ => rfl)), a3⟩)
          | 16, _, ho =>
            cases ho
            refine stepG_of (fun g d hdep => ?_)
            exact step_assign rfl trivial _ rfl (by kernel_rfl) (fun _ h => h)
        intro g d W hall hW
        first | refine hK _ _ ?_ | refine (‹∀ (a : Act) (w : World), Code.wp Tryd.prog _ _ a w → _›) _ _ ?_ | skip
        simp only [finL, List.getD_cons_zero, List.getD_cons_succ, Nat.zero_add, Nat.reduceAdd, List.setIfInBounds_toArray, List.set_cons_zero, List.set_cons_succ]
        have hJ : JW w tk ar N cr ((K : Int), s.extract ip e, (ln : Int), ((C + 1 : Nat) : Int)) g (d 14) (d 15) W := hW
        rw [hall 14 (by decide), hall 15 (by decide)] at hJ
        have HX : Hid (SL w (tk ++ [((K : Int), s.extract ip e, (ln : Int), ((C + 1 : Nat) : Int))]) (.slice g.2.1 (N + 1) g.2.2) W) := hJ
        clear hW hJ bld app
        go_wp2
        go_roundw
        case rel => exact ⟨f, e, ln, fr, true, _, rfl, rfl, rfl, rfl, by omega, by omega, by omega, by rw [List.length_append, HN.out]; simp; omega, by omega, HV, HX⟩
        case measure => simp [vnatD] <;> omega
      · have hR := hRe her
        have hri : ¬ ((er : Int) = 0) := by omega
        have hpl := place_any s hs e hnl
        unfold cnt at hR
        have hcb := starts_length (s.extract (plc s e).2 e)
        have hce : (s.extract (plc s e).2 e).size ≤ 65536 := by simp; omega
        generalize (starts (s.extract (plc s e).2 e)).length = C at *
        generalize (plc s e).1 = A at *
        have HV : Hid (R = .inr (er, A, C + 1)) := HS.out.symm.trans hR
        clear HS hR hRw hRe hnb
        go_wp2_with (first | (go_at_call 27; (with_reducible refine (hnx _).mono ?_); rintro e u1 ⟨rfl, hb1⟩) | (go_at_call 28; (with_reducible refine (hpl _).mono ?_); rintro e u2 ⟨rfl, hb2⟩))
        (try simp only [Exit.inBlock, Exit.then])
        refine bodyPost_ret (results_tmp4 rfl _ _ _) rfl ?_
        rw [HV.out]
        exact ⟨bel2 (bel2 HL.out.bl hb1) hb2, rfl⟩
end Go.Proofs.YtibhljdiofglfaaDoor
namespace Go.Proofs.YtibhljdiofglfaaDoor
open Go.RowKit Go.Shelf

set_option maxRecDepth 100000 in
theorem rScan_long (s : ByteArray) (hs : 65536 < s.size) (w : World) : Calls Tryd.prog 14 #[.string s] w fun e w' => e = .returned (.tuple #[.slice none 0 0, .int .i64 2, .int .i64 0, .int .i64 0]) ∧ Below w.heap.size w w' := by
  have hsi : (s.size : Int) > 65536 := by omega
  go_enter Tryd.func14, Tryd.ntmps14
  go_wp2
  (try simp only [Exit.inBlock, Exit.then])
  refine bodyPost_ret (results_tmp4 rfl _ _ _) rfl ?_
  exact ⟨rfl, Below.refl _ _⟩
end Go.Proofs.YtibhljdiofglfaaDoor
namespace Go.Proofs.YtibhljdiofglfaaDoor
open Go.RowKit Go.Shelf

set_option maxRecDepth 100000 in
set_option maxHeartbeats 2000000 in
theorem dec_short (N M b0 b1 b2 b3 c1 c2 c3 : Nat) (hle : M ≤ N) (e1 : 1 < M → c1 = b1) (e2 : 2 < M → c2 = b2) (e3 : 3 < M → c3 = b3) (hw : (Lib.decodeN N b0 b1 b2 b3).2 ≤ M) : Lib.decodeN M b0 c1 c2 c3 = Lib.decodeN N b0 b1 b2 b3 := by
  by_cases h1 : 1 < M
  · obtain rfl := e1 h1
    have n1 : 1 < N := by omega
    by_cases h2 : 2 < M
    · obtain rfl := e2 h2
      have n2 : 2 < N := by omega
      by_cases h3 : 3 < M
      · obtain rfl := e3 h3
        have n3 : 3 < N := by omega
        simp only [Lib.decodeN, h1, h2, h3, n1, n2, n3]
      · unfold Lib.decodeN at hw ⊢
        simp only [h1, h2, h3, n1, n2, true_and, false_and, and_false, if_false] at hw ⊢
        repeat' split
        all_goals first | rfl | (simp_all; done) | (simp_all; omega)
    · unfold Lib.decodeN at hw ⊢
      have h3 : ¬ 3 < M := by omega
      simp only [h1, h2, h3, n1, true_and, false_and, and_false, if_false] at hw ⊢
      repeat' split
      all_goals first | rfl | (simp_all; done) | (simp_all; omega)
  · have h2 : ¬ 2 < M := by omega
    have h3 : ¬ 3 < M := by omega
    unfold Lib.decodeN at hw ⊢
    simp only [h1, h2, h3, false_and, and_false, if_false] at hw ⊢
    repeat' split
    all_goals first | rfl | (simp_all; done) | (simp_all; omega)
theorem dec_pre (x : ByteArray) (p q : Nat) (hp : p < x.size) (hq : p + wd x p ≤ q) (hqs : q ≤ x.size) : Utf8.decode (x.extract 0 q) p = Utf8.decode x p := by
  have hsz : (x.extract 0 q).size = q := by simp; omega
  have hw := wd_pos x p
  have hb : ∀ k, k < q → ((x.extract 0 q).get! k).toNat = (x.get! k).toNat := fun k hk => by
    have h := byt_ext x 0 q k (by omega) hk
    rw [Nat.zero_add, Nat.zero_add] at h
    rw [get_byt _ k (by omega), get_byt x k (by omega), h]
  have hwd : (Lib.decodeN (x.size - p) (x.get! p).toNat (x.get! (p + 1)).toNat (x.get! (p + 2)).toNat (x.get! (p + 3)).toNat).2 = wd x p := by rw [← shape]; rfl
  rw [shape, shape, hsz, hb p (by omega)]
  exact dec_short _ _ _ _ _ _ _ _ _ (by omega) (fun h => hb (p + 1) (by omega)) (fun h => hb (p + 2) (by omega)) (fun h => hb (p + 3) (by omega)) (by rw [hwd]; omega)
theorem wd_pre (x : ByteArray) (p q : Nat) (hp : p < x.size) (hq : p + wd x p ≤ q) (hqs : q ≤ x.size) : wd (x.extract 0 q) p = wd x p := by
  unfold wd
  rw [dec_pre x p q hp hq hqs]
theorem chAt_pre {x : ByteArray} {p c : Nat} (h : ChAt x p c) : ∀ q, p ≤ q → q ≤ x.size → ChAt (x.extract 0 q) p c := by
  induction h with
  | zero => exact fun q _ _ => .zero
  | @step p c h hp ih =>
    intro q hq hqs
    have hw := wd_pos x p
    have hsz : (x.extract 0 q).size = q := by simp; omega
    have e := wd_pre x p q hp hq hqs
    have := ChAt.step (ih q (by omega) hqs) (by omega)
    rw [e] at this
    exact this
/-- How many characters lie ahead of one of them. -/
theorem chAt_cnt {x : ByteArray} {p c : Nat} (h : ChAt x p c) : cnt x 0 p = c := by
  have hp := chAt_le h
  have hsz : (x.extract 0 p).size = p := by simp; omega
  have h1 := chAt_count (chAt_pre h p (Nat.le_refl _) hp)
  rw [startsFrom_end _ _ p (by omega)] at h1
  simpa [cnt] using h1.symm
theorem cq_cells4 : ∀ l : List Fou, cells4 l = l.flatMap (fun x => [.int .i64 x.1, .string x.2.1, .int .i64 x.2.2.1, .int .i64 x.2.2.2])
  | [] => rfl
  | (k, t, l, c) :: r => by rw [cells4, cq_cells4 r]; rfl
end Go.Proofs.YtibhljdiofglfaaDoor
namespace Go.Proofs.YtibhljdiofglfaaDoor
open Go.RowKit Go.Shelf

theorem dec_asc (s : ByteArray) (p : Nat) (hp : p < s.size) (h : byt s p < 128) : Utf8.decode s p = (byt s p, 1) := by
  rw [shape, get_byt s p hp, Lib.decodeN, if_pos h]
theorem rn_asc (s : ByteArray) (p : Nat) (hp : p < s.size) (h : byt s p < 128) : rn s p = byt s p ∧ wd s p = 1 := by
  unfold rn wd
  rw [dec_asc s p hp h]
  exact ⟨rfl, rfl⟩
theorem ext_ext (s : ByteArray) (b m p q : Nat) (hq : q ≤ m) : (s.extract b (b + m)).extract p q = s.extract (b + p) (b + q) := by
  rw [ByteArray.extract_extract]
  congr 1
  omega
theorem loose_cls (s : ByteArray) (p : Nat) (h : cls (rn s p : Int) = 3 ∨ cls (rn s p : Int) = 4) : looseB s p = false := by
  unfold looseB
  rw [decide_eq_false_iff_not]
  rintro ⟨e, _⟩
  rw [e] at h
  revert h
  decide
theorem run_eq (s : ByteArray) (b m : Nat) (h : b + m ≤ s.size) (hend : b + m = s.size ∨ byt s (b + m) = 10) : ∀ (f F q n c : Nat), q ≤ m → m < q + f → s.size ≤ b + q + F → ChAt (s.extract b (b + m)) q c → runD s F (b + q) = b + (runAt (s.extract b (b + m)) f q n).1 ∧ n ≤ (runAt (s.extract b (b + m)) f q n).2 ∧ ChAt (s.extract b (b + m)) (runAt (s.extract b (b + m)) f q n).1 (c + ((runAt (s.extract b (b + m)) f q n).2 - n))
  | 0, F, q, n, c, hq, hf, _, _ => by omega
  | f + 1, F, q, n, c, hq, hf, hF, hc => by
    have hsz : (s.extract b (b + m)).size = m := by simp; omega
    have hend' : b + m = s.size ∨ byt s (b + m) < 128 := by omega
    by_cases hqm : q < m
    · have hd := dec_line s b m q h hqm hend'
      have hr : rn (s.extract b (b + m)) q = rn s (b + q) := by unfold rn; rw [hd]
      have hw : wd (s.extract b (b + m)) q = wd s (b + q) := by unfold wd; rw [hd]
      have hwp := wd_pos s (b + q)
      have hwl := wd_le (s.extract b (b + m)) q (by omega)
      rw [runAt, if_neg (by omega)]
      by_cases hk : cls (rn s (b + q) : Int) = 3 ∨ cls (rn s (b + q) : Int) = 4
      · rw [if_pos (by rw [hr]; exact hk.symm)]
        obtain ⟨G, rfl⟩ : ∃ G, F = G + 1 := ⟨F - 1, by omega⟩
        rw [runD_on s G (b + q) (by omega) (loose_cls s _ hk) hk]
        have ih := run_eq s b m h hend f G (q + wd (s.extract b (b + m)) q) (n + 1) (c + 1) (by omega) (by omega) (by omega) (hc.step (by omega))
        rw [hw] at ih ⊢
        rw [← Nat.add_assoc] at ih
        refine ⟨ih.1, by omega, ?_⟩
        have e : c + 1 + ((runAt (s.extract b (b + m)) f (q + wd s (b + q)) (n + 1)).2 - (n + 1)) = c + ((runAt (s.extract b (b + m)) f (q + wd s (b + q)) (n + 1)).2 - n) := by omega
        rw [← e]
        exact ih.2.2
      · rw [if_neg (by rw [hr]; exact fun e => hk e.symm)]
        refine ⟨runD_end s F _ (fun e => hk e.2.2), Nat.le_refl _, ?_⟩
        simpa using hc
    · obtain rfl : q = m := by omega
      rw [runAt, if_pos (by omega), hsz]
      refine ⟨runD_end s F _ (fun e => ?_), Nat.le_refl _, by simpa using hc⟩
      rcases hend with q1 | q1
      · omega
      · have := (rn_asc s (b + q) e.1 (by omega)).1
        rw [this, q1] at e
        revert e
        rintro ⟨_, _, e | e⟩ <;> simp [cls] at e
/-- A run of the rest of a line: its end, and its characters. -/
theorem runR_eq (s : ByteArray) (b m : Nat) (h : b + m ≤ s.size) (hend : b + m = s.size ∨ byt s (b + m) = 10) : runD s s.size b = b + (runR (s.extract b (b + m))).1 ∧ (runR (s.extract b (b + m))).2 = cnt s b (b + (runR (s.extract b (b + m))).1) := by
  have hsz : (s.extract b (b + m)).size = m := by simp; omega
  have hh := run_eq s b m h hend (m + 1) s.size 0 0 0 (Nat.zero_le _) (by omega) (by omega) .zero
  unfold runR
  rw [hsz]
  refine ⟨hh.1, ?_⟩
  have h3 := hh.2.2
  have hle := chAt_le h3
  have h4 := chAt_cnt h3
  unfold cnt at h4 ⊢
  rw [ext_ext s b m 0 _ (by omega), Nat.add_zero] at h4
  rw [h4]
  omega
end Go.Proofs.YtibhljdiofglfaaDoor
namespace Go.Proofs.YtibhljdiofglfaaDoor
open Go.RowKit Go.Shelf

theorem byt_tail (X : ByteArray) (a m k : Nat) (h : a + m = X.size) : byt (X.extract a (a + m)) k = byt X (a + k) := by
  have hsz : (X.extract a (a + m)).size = m := by simp; omega
  by_cases hk : k < m
  · exact byt_ext X a m k (by omega) hk
  · rw [byt, dif_neg (by omega), byt, dif_neg (by omega)]
theorem lead_shift (X : ByteArray) (a m : Nat) (h : a + m = X.size) : ∀ (f g q : Nat) (acc : List UInt8), m ≤ q + f → m ≤ q + g → (lead X g (a + q) acc).1 = (lead (X.extract a (a + m)) f q acc).1 ∧ (lead X g (a + q) acc).2.1 = a + (lead (X.extract a (a + m)) f q acc).2.1 ∧ (lead X g (a + q) acc).2.2 = (lead (X.extract a (a + m)) f q acc).2.2
  | f, g, q, acc, hf, hg => by
    have hsz : (X.extract a (a + m)).size = m := by simp; omega
    by_cases hq : q < m
    case neg =>
      rw [lead_end _ f q acc (by omega), lead_end X g (a + q) acc (by omega), hsz, ← h]
      exact ⟨rfl, rfl, rfl⟩
    obtain ⟨f, rfl⟩ : ∃ f', f = f' + 1 := ⟨f - 1, by omega⟩
    obtain ⟨g, rfl⟩ : ∃ g', g = g' + 1 := ⟨g - 1, by omega⟩
    have hd := dec_line X a m q (by omega) hq (.inl h)
    have hr : rn (X.extract a (a + m)) q = rn X (a + q) := by unfold rn; rw [hd]
    have hw : wd (X.extract a (a + m)) q = wd X (a + q) := by unfold wd; rw [hd]
    have hl : looseB (X.extract a (a + m)) q = looseB X (a + q) := by unfold looseB; rw [hr, hw]
    have hb := byt_tail X a m q h
    have he : esc (fun k => byt (X.extract a (a + m)) (q + k)) = esc (fun k => byt X (a + q + k)) := by
      congr 1
      funext k
      rw [byt_tail X a m (q + k) h, Nat.add_assoc]
    by_cases c1 : byt X (a + q) = 34
    · rw [lead_quote X g (a + q) acc (by omega) c1, lead_quote _ f q acc (by omega) (by rw [hb]; exact c1)]
      exact ⟨rfl, by dsimp only; omega, rfl⟩
    by_cases c2 : byt X (a + q) = 92
    · cases ho : esc (fun k => byt X (a + q + k)) with
      | none =>
        rw [lead_none X g (a + q) acc (by omega) c2 ho, lead_none _ f q acc (by omega) (by rw [hb]; exact c2) (he.trans ho)]
        exact ⟨rfl, rfl, rfl⟩
      | some x =>
        obtain ⟨l, n⟩ := x
        have hn := (esc_ok _ l n ho).1
        rw [lead_some X g (a + q) acc l n (by omega) c2 ho, lead_some _ f q acc l n (by omega) (by rw [hb]; exact c2) (he.trans ho), Nat.add_assoc]
        exact lead_shift X a m h f g (q + n) (acc ++ l) (by omega) (by omega)
    by_cases c3 : ctl (rn X (a + q) : Int) = true ∨ looseB X (a + q) = true
    · rw [lead_bad X g (a + q) acc (by omega) c1 c2 c3, lead_bad _ f q acc (by omega) (by rw [hb]; exact c1) (by rw [hb]; exact c2) (by rw [hr, hl]; exact c3)]
      exact ⟨rfl, rfl, rfl⟩
    · have hwp := wd_pos X (a + q)
      rw [lead_char X g (a + q) acc (by omega) c1 c2 c3, lead_char _ f q acc (by omega) (by rw [hb]; exact c1) (by rw [hb]; exact c2) (by rw [hr, hl]; exact c3), hr, hw, Nat.add_assoc]
      exact lead_shift X a m h f g (q + wd X (a + q)) _ (by omega) (by omega)
termination_by f => f
theorem ch_bytes {y : ByteArray} : ∀ (n q c : Nat), ChAt y q c → (∀ k, k < n → q + k < y.size ∧ byt y (q + k) < 128) → ChAt y (q + n) (c + n)
  | 0, q, c, h, _ => h
  | n + 1, q, c, h, hk => by
    obtain ⟨h1, h2⟩ := hk 0 (by omega)
    rw [Nat.add_zero] at h1 h2
    have e := (rn_asc y q h1 h2).2
    have hs := h.step h1
    rw [e] at hs
    have := ch_bytes n (q + 1) (c + 1) hs (fun k hkn => by have := hk (k + 1) (by omega); rw [show q + 1 + k = q + (k + 1) by omega]; exact this)
    rw [show q + (n + 1) = q + 1 + n by omega, show c + (n + 1) = c + 1 + n by omega]
    exact this
/-- Where a quoted text ends a character ends, or begins. -/
theorem lead_ch (y : ByteArray) : ∀ (f q c : Nat) (acc : List UInt8), ChAt y q c → ∃ c', ChAt y (lead y f q acc).2.1 c'
  | 0, q, c, acc, h => chAt_end y _ q c (Nat.le_refl _) h
  | f + 1, q, c, acc, h => by
    by_cases hq : q < y.size
    case neg =>
      rw [lead_end y _ q acc hq]
      exact chAt_end y _ q c (Nat.le_refl _) h
    by_cases c1 : byt y q = 34
    · rw [lead_quote y f q acc hq c1]
      have hs := h.step hq
      rw [(rn_asc y q hq (by omega)).2] at hs
      exact ⟨_, hs⟩
    by_cases c2 : byt y q = 92
    · cases ho : esc (fun k => byt y (q + k)) with
      | none =>
        rw [lead_none y f q acc hq c2 ho]
        exact ⟨c, h⟩
      | some x =>
        obtain ⟨l, n⟩ := x
        obtain ⟨k1, k2, k3, k4⟩ := esc_ok _ l n ho
        rw [lead_some y f q acc l n hq c2 ho]
        refine lead_ch y f (q + n) (c + n) _ (ch_bytes n q c h (fun k hk => ?_))
        by_cases k0 : k = 0
        · subst k0
          rw [Nat.add_zero]
          exact ⟨hq, by omega⟩
        · have := k4 k (by omega) hk
          exact ⟨byt_in (by omega), this.2⟩
    by_cases c3 : ctl (rn y q : Int) = true ∨ looseB y q = true
    · rw [lead_bad y f q acc hq c1 c2 c3]
      exact ⟨c, h⟩
    · rw [lead_char y f q acc hq c1 c2 c3]
      exact lead_ch y f _ _ _ (h.step hq)
end Go.Proofs.YtibhljdiofglfaaDoor
namespace Go.Proofs.YtibhljdiofglfaaDoor
open Go.RowKit Go.Shelf

theorem rn_small (s : ByteArray) (p : Nat) (hp : p < s.size) (h : rn s p < 128) : byt s p = rn s p := by
  by_cases hb : byt s p < 128
  · exact (rn_asc s p hp hb).1.symm
  · exfalso
    unfold rn at h
    rw [shape, get_byt s p hp] at h
    unfold Lib.decodeN at h
    rw [if_neg hb] at h
    revert h
    repeat' split
    all_goals (intro h; dsimp only at h; omega)
/-- What the document says at a place of a line where the program says this. -/
def StepE (s : ByteArray) (b m : Nat) : Stp → Prop
  | .gap => byt s b = 9 ∨ byt s b = 13 ∨ byt s b = 32
  | .stop => byt s b = 35
  | .bad e off => ¬ (byt s b = 9 ∨ byt s b = 13 ∨ byt s b = 32) ∧ byt s b ≠ 35 ∧ (nxD s b (b + m)).2.2 = e ∧ e ≠ 0 ∧ ∃ r c, (nxD s b (b + m)).2.1 = b + r ∧ r ≤ m ∧ off = cnt s b (b + r) ∧ ChAt (s.extract b (b + m)) r c
  | .word k sz => ¬ (byt s b = 9 ∨ byt s b = 13 ∨ byt s b = 32) ∧ byt s b ≠ 35 ∧ ((nxD s b (b + m)).1 : Int) = k ∧ (nxD s b (b + m)).2.1 = b + sz ∧ (nxD s b (b + m)).2.2 = 0 ∧ sz ≤ m ∧ ∃ c, ChAt (s.extract b (b + m)) sz c
theorem cls_1 (r : Int) (h : cls r = 1) : r = 9 ∨ r = 13 ∨ r = 32 := by
  unfold cls at h
  split at h
  · assumption
  · exfalso
    revert h
    repeat' split
    all_goals (intro h; omega)
theorem cls_2 (r : Int) (h : cls r = 2) : r = 10 := by
  unfold cls at h
  revert h
  repeat' split
  all_goals (intro h; omega)
theorem cls_5 (r : Int) (h : cls r = 5) : 33 ≤ r ∧ r ≤ 126 := by
  unfold cls at h
  revert h
  repeat' split
  all_goals (intro h; omega)
theorem cnt_nil (s : ByteArray) (b : Nat) : cnt s b (b + 0) = 0 := by
  have hl := starts_length (s.extract b (b + 0))
  have hz : (s.extract b (b + 0)).size = 0 := by simp
  unfold cnt
  omega
/-- The program's step at the rest of a line, in the text's own words. -/
theorem step_eq (s : ByteArray) (a M p : Nat) (h : a + M ≤ s.size) (hp : p < M) (hend : a + M = s.size ∨ byt s (a + M) = 10) (hno : byt s (a + p) ≠ 10) : StepE s (a + p) (M - p) (stepR (s.extract a (a + M)) p) := by
  have hsz : (s.extract a (a + M)).size = M := by simp; omega
  have hd := dec_line s a M p h hp (by omega)
  have hr : rn (s.extract a (a + M)) p = rn s (a + p) := by unfold rn; rw [hd]
  have hbm : a + p + (M - p) = a + M := by omega
  have hy : (s.extract a (a + M)).extract p (s.extract a (a + M)).size = s.extract (a + p) (a + p + (M - p)) := by rw [hsz, ext_ext s a M p M (Nat.le_refl _), hbm]
  obtain ⟨hrun, hcn⟩ := runR_eq s (a + p) (M - p) (by omega) (by rw [hbm]; exact hend)
  have hrle := runR_le (s.extract (a + p) (a + p + (M - p)))
  have hysz : (s.extract (a + p) (a + p + (M - p))).size = M - p := by simp; omega
  have hch := (run_eq s (a + p) (M - p) (by omega) (by rw [hbm]; exact hend) (M - p + 1) s.size 0 0 0 (Nat.zero_le _) (by omega) (by omega) .zero).2.2
  have hrun0 : runAt (s.extract (a + p) (a + p + (M - p))) (M - p + 1) 0 0 = runR (s.extract (a + p) (a + p + (M - p))) := by unfold runR; rw [hysz]
  rw [hrun0] at hch
  have hpx : (s.extract a (a + M)).extract p (p + (runR (s.extract (a + p) (a + p + (M - p)))).1) = s.extract (a + p) (a + p + (runR (s.extract (a + p) (a + p + (M - p)))).1) := (ext_ext s a M p _ (by omega)).trans (congrArg (fun z => s.extract (a + p) z) (by omega))
  have hsm : rn s (a + p) < 128 → byt s (a + p) = rn s (a + p) := rn_small s (a + p) (by omega)
  have hasc : byt s (a + p) < 128 → rn s (a + p) = byt s (a + p) := fun q => (rn_asc s (a + p) (by omega) q).1
  have hle1 : (leadR (s.extract (a + p) (a + p + (M - p)))).2.1 ≤ M - p := by have := leadR_le (s.extract (a + p) (a + p + (M - p))); omega
  have hlx : (s.extract a (a + M)).extract p (p + (leadR (s.extract (a + p) (a + p + (M - p)))).2.1) = s.extract (a + p) (a + p + (leadR (s.extract (a + p) (a + p + (M - p)))).2.1) := (ext_ext s a M p _ (by omega)).trans (congrArg (fun z => s.extract (a + p) z) (by omega))
  have hcl : cls (rn s (a + p) : Int) ≠ 2 := fun e => by
    have e1 := cls_2 _ e
    have e2 := hsm (by omega)
    omega
  have hlo : cls (rn s (a + p) : Int) ≠ 6 → looseB s (a + p) = false := fun e => by
    unfold looseB
    rw [decide_eq_false_iff_not]
    rintro ⟨q, _⟩
    rw [q] at e
    exact e (by decide)
  unfold stepR
  rw [hr, hy, hpx, hlx]
  by_cases e34 : (rn s (a + p) : Int) = 34
  · have hk : kindR (rn s (a + p) : Int) = 4 := by rw [kindR, if_pos e34]
    have hc5 : cls (rn s (a + p) : Int) = 5 := by rw [e34]; decide
    have hb34 : byt s (a + p) = 34 := by have := hsm (by omega); omega
    have hb0 : byt (s.extract (a + p) (a + p + (M - p))) 0 = 34 := by rw [byt_ext s (a + p) (M - p) 0 (by omega) (by omega)]; exact hb34
    have hlr : leadR (s.extract (a + p) (a + p + (M - p))) = lead (s.extract (a + p) (a + p + (M - p))) (M - p) 1 [] := by rw [leadR, if_pos hb0, hysz]
    have hXs : (s.extract 0 (a + p + (M - p))).size = a + p + (M - p) := by simp; omega
    have hXe : (s.extract 0 (a + p + (M - p))).extract (a + p) (a + p + (M - p)) = s.extract (a + p) (a + p + (M - p)) := by
      have := ext_ext s 0 (a + p + (M - p)) (a + p) (a + p + (M - p)) (Nat.le_refl _)
      simpa using this
    have hsh := lead_shift (s.extract 0 (a + p + (M - p))) (a + p) (M - p) hXs.symm (M - p) (a + p + (M - p)) 1 [] (by omega) (by omega)
    rw [hXe, ← hlr] at hsh
    have hn : nxD s (a + p) (a + p + (M - p)) = (4, a + p + (leadR (s.extract (a + p) (a + p + (M - p)))).2.1, (leadR (s.extract (a + p) (a + p + (M - p)))).2.2) := by
      unfold nxD
      rw [if_neg (by rw [hlo (by rw [hc5]; decide), hc5]; simp), if_neg (by rw [hc5]; decide), if_neg (by rw [hc5]; decide), if_pos hb34, hsh.2.1, hsh.2.2]
    obtain ⟨c', hc'⟩ := lead_ch (s.extract (a + p) (a + p + (M - p))) (M - p) 1 1 [] (by
      have := (ChAt.zero (x := s.extract (a + p) (a + p + (M - p)))).step (by omega)
      rw [(rn_asc _ 0 (by omega) (by omega)).2] at this
      exact this)
    rw [← hlr] at hc'
    rw [hk, if_neg (by decide), if_neg (by decide), if_neg (by decide), if_neg (by decide), if_pos rfl]
    by_cases he : (leadR (s.extract (a + p) (a + p + (M - p)))).2.2 = 0
    · rw [if_neg (by rw [he]; simp)]
      refine ⟨by omega, by omega, ?_, ?_, ?_, hle1, c', hc'⟩
      · rw [hn]; rfl
      · rw [hn]
      · rw [hn]; exact he
    · rw [if_pos he]
      refine ⟨by omega, by omega, ?_, he, _, c', ?_, hle1, rfl, hc'⟩
      · rw [hn]
      · rw [hn]
  by_cases e35 : (rn s (a + p) : Int) = 35
  · have hk : kindR (rn s (a + p) : Int) = -2 := by rw [kindR, if_neg e34, if_pos e35]
    rw [hk, if_neg (by decide), if_pos rfl]
    have := hsm (by omega)
    show byt s (a + p) = 35
    omega
  have h35 : byt s (a + p) ≠ 35 := fun e => by
    have := hasc (by omega)
    omega
  have hng : cls (rn s (a + p) : Int) ≠ 1 → ¬ (byt s (a + p) = 9 ∨ byt s (a + p) = 13 ∨ byt s (a + p) = 32) := fun hc e => by
    have e1 := hasc (by omega)
    rw [e1] at hc
    rcases e with e | e | e <;> (rw [e] at hc; exact hc (by decide))
  have hb34 : byt s (a + p) ≠ 34 := fun e => by
    have := hasc (by omega)
    omega
  by_cases h1 : cls (rn s (a + p) : Int) = 1
  · have hk : kindR (rn s (a + p) : Int) = -1 := by rw [kindR, if_neg e34, if_neg e35, if_pos h1]
    rw [hk, if_pos rfl]
    have e1 := cls_1 _ h1
    have e2 := hsm (by omega)
    show byt s (a + p) = 9 ∨ byt s (a + p) = 13 ∨ byt s (a + p) = 32
    omega
  by_cases h3 : cls (rn s (a + p) : Int) = 3
  · have hk : kindR (rn s (a + p) : Int) = 3 := by rw [kindR, if_neg e34, if_neg e35, if_neg h1, if_pos h3]
    have hn : nxD s (a + p) (a + p + (M - p)) = (match numR (s.extract (a + p) (a + p + (runR (s.extract (a + p) (a + p + (M - p)))).1)) with | none => (0, a + p, 21) | some _ => (3, a + p + (runR (s.extract (a + p) (a + p + (M - p)))).1, 0)) := by
      unfold nxD
      rw [if_neg (by rw [hlo (by rw [h3]; decide), h3]; simp), if_neg (by rw [h3]; decide), if_pos h3, hrun]
      cases numR (s.extract (a + p) (a + p + (runR (s.extract (a + p) (a + p + (M - p)))).1)) <;> rfl
    rw [hk, if_neg (by decide), if_neg (by decide), if_neg (by decide), if_pos rfl]
    cases hv : numR (s.extract (a + p) (a + p + (runR (s.extract (a + p) (a + p + (M - p)))).1)) with
    | none =>
      rw [hv] at hn
      rw [if_pos rfl]
      exact ⟨hng h1, h35, by rw [hn], by decide, 0, 0, by rw [hn]; rfl, Nat.zero_le _, (cnt_nil s (a + p)).symm, .zero⟩
    | some v =>
      rw [hv] at hn
      rw [if_neg (by simp)]
      exact ⟨hng h1, h35, by rw [hn]; rfl, by rw [hn], by rw [hn], by omega, _, hch⟩
  by_cases h4 : cls (rn s (a + p) : Int) = 4
  · have hk : kindR (rn s (a + p) : Int) = 2 := by rw [kindR, if_neg e34, if_neg e35, if_neg h1, if_neg h3, if_pos h4]
    have hn : nxD s (a + p) (a + p + (M - p)) = (if 128 < (runR (s.extract (a + p) (a + p + (M - p)))).2 then (0, a + p, 22) else (2, a + p + (runR (s.extract (a + p) (a + p + (M - p)))).1, 0)) := by
      unfold nxD
      rw [if_neg (by rw [hlo (by rw [h4]; decide), h4]; simp), if_pos h4, hrun, hcn]
      rfl
    rw [hk, if_neg (by decide), if_neg (by decide), if_pos rfl]
    by_cases hv : 128 < (runR (s.extract (a + p) (a + p + (M - p)))).2
    · rw [if_pos hv] at hn
      rw [if_pos hv]
      exact ⟨hng h1, h35, by rw [hn], by decide, 0, 0, by rw [hn]; rfl, Nat.zero_le _, (cnt_nil s (a + p)).symm, .zero⟩
    · rw [if_neg hv] at hn
      rw [if_neg hv]
      exact ⟨hng h1, h35, by rw [hn]; rfl, by rw [hn], by rw [hn], by omega, _, hch⟩
  by_cases h5 : cls (rn s (a + p) : Int) = 5
  · have hk : kindR (rn s (a + p) : Int) = 5 := by rw [kindR, if_neg e34, if_neg e35, if_neg h1, if_neg h3, if_neg h4, if_pos h5]
    have hr5 := cls_5 _ h5
    have hb5 := hsm (by omega)
    have hw1 := (rn_asc s (a + p) (by omega) (by omega)).2
    have hn : nxD s (a + p) (a + p + (M - p)) = (5, a + p + 1, 0) := by
      unfold nxD
      rw [if_neg (by rw [hlo (by rw [h5]; decide), h5]; simp), if_neg h4, if_neg h3, if_neg hb34, hw1]
    rw [hk, if_neg (by decide), if_neg (by decide), if_neg (by decide), if_neg (by decide), if_neg (by decide), if_pos rfl]
    refine ⟨hng h1, h35, by rw [hn]; rfl, by rw [hn], by rw [hn], by omega, 1, ?_⟩
    have h0 : byt (s.extract (a + p) (a + p + (M - p))) 0 = byt s (a + p) := byt_ext s (a + p) (M - p) 0 (by omega) (by omega)
    have := (ChAt.zero (x := s.extract (a + p) (a + p + (M - p)))).step (by omega)
    rw [(rn_asc _ 0 (by omega) (by omega)).2] at this
    exact this
  have h6 : cls (rn s (a + p) : Int) = 6 := by
    rcases cls_range (rn s (a + p) : Int) with q | q | q | q | q | q <;> omega
  have hk : kindR (rn s (a + p) : Int) = 0 := by rw [kindR, if_neg e34, if_neg e35, if_neg h1, if_neg h3, if_neg h4, if_neg h5]
  have hn : nxD s (a + p) (a + p + (M - p)) = (0, a + p, 20) := by
    unfold nxD
    rw [if_pos (.inr h6)]
  rw [hk, if_neg (by decide), if_neg (by decide), if_neg (by decide), if_neg (by decide), if_neg (by decide), if_neg (by decide)]
  exact ⟨hng h1, h35, by rw [hn], by decide, 0, 0, by rw [hn]; rfl, Nat.zero_le _, (cnt_nil s (a + p)).symm, .zero⟩
end Go.Proofs.YtibhljdiofglfaaDoor
namespace Go.Proofs.YtibhljdiofglfaaDoor
open Go.RowKit Go.Shelf

def chp (x : ByteArray) : Nat → Nat
  | 0 => 0
  | n + 1 => chp x n + wd x (chp x n)
theorem chAt_chp {x : ByteArray} {p c : Nat} (h : ChAt x p c) : p = chp x c := by
  induction h with
  | zero => rfl
  | step h hp ih => rw [chp, ← ih]
theorem chp_lt (x : ByteArray) : ∀ (d c : Nat), chp x c + d ≤ chp x (c + d)
  | 0, c => Nat.le_refl _
  | d + 1, c => by
    have ih := chp_lt x d c
    have hw := wd_pos x (chp x (c + d))
    have e : chp x (c + (d + 1)) = chp x (c + d) + wd x (chp x (c + d)) := rfl
    omega
theorem chAt_lt2 {x : ByteArray} {p c q d : Nat} (h : ChAt x p c) (h' : ChAt x q d) (hpq : p < q) : c < d ∧ p + wd x p ≤ q := by
  have e := chAt_chp h
  have e' := chAt_chp h'
  have hcd : c < d := by
    rcases Nat.lt_or_ge c d with k | k
    · exact k
    · have := chp_lt x (c - d) d
      rw [show d + (c - d) = c by omega] at this
      omega
  have := chp_lt x (d - (c + 1)) (c + 1)
  rw [show c + 1 + (d - (c + 1)) = d by omega, chp, ← e] at this
  exact ⟨hcd, by omega⟩
theorem chAt_same {x : ByteArray} {p c d : Nat} (h : ChAt x p c) (h' : ChAt x p d) : c = d := by
  have e := chAt_chp h
  have e' := chAt_chp h'
  rcases Nat.lt_trichotomy c d with k | k | k
  · have := chp_lt x (d - c) c
    rw [show c + (d - c) = d by omega] at this
    omega
  · exact k
  · have := chp_lt x (c - d) d
    rw [show d + (c - d) = c by omega] at this
    omega
/-- Characters behind characters. -/
theorem chAt_add {s : ByteArray} {a M p c : Nat} (h : a + M ≤ s.size) (hend : a + M = s.size ∨ byt s (a + M) < 128) (hp : p ≤ M) (h1 : ChAt (s.extract a (a + M)) p c) {r d : Nat} (h2 : ChAt (s.extract (a + p) (a + p + (M - p))) r d) : ChAt (s.extract a (a + M)) (p + r) (c + d) := by
  have hbm : a + p + (M - p) = a + M := by omega
  have hsz : (s.extract a (a + M)).size = M := by simp; omega
  have hysz : (s.extract (a + p) (a + p + (M - p))).size = M - p := by simp; omega
  induction h2 with
  | zero => exact h1
  | @step r d h2 hr ih =>
    have e1 := wd_line s a M (p + r) h (by omega) hend
    have e2 := wd_line s (a + p) (M - p) r (by omega) (by omega) (by rw [hbm]; exact hend)
    rw [e2, Nat.add_assoc a p r, ← e1]
    have := ih.step (by omega)
    rw [← Nat.add_assoc, ← Nat.add_assoc]
    exact this
/-- What lies within a word is skipped. -/
theorem cut_to (x : ByteArray) (nx c : Nat) (acc : List Tok) (hn : ChAt x nx c) : ∀ (f p col : Nat), ChAt x p col → p ≤ nx → x.size < p + f → ∃ g, x.size < nx + g ∧ cutAt x f p nx col acc = cutAt x g nx nx c acc
  | 0, p, col, h, _, hf => by have := chAt_le h; omega
  | f + 1, p, col, h, hpn, hf => by
    by_cases e : p = nx
    · subst e
      obtain rfl := chAt_same h hn
      exact ⟨f + 1, hf, rfl⟩
    · have hlt : p < nx := by omega
      have hns := chAt_le hn
      have h2 := chAt_lt2 h hn hlt
      have hw := wd_pos x p
      obtain ⟨g, hg, eg⟩ := cut_to x nx c acc hn f (p + wd x p) (col + 1) (h.step (by omega)) h2.2 (by omega)
      exact ⟨g, hg, by rw [cut_skip x f p nx col acc (by omega) hlt]; exact eg⟩
/-- Within a line the place's line is the same. -/
theorem plc_line (s : ByteArray) (a ln : Nat) (h : plc s a = (ln, a)) : ∀ r, (∀ k, k < r → byt s (a + k) ≠ 10) → plc s (a + r) = (ln, a)
  | 0, _ => h
  | r + 1, hk => by
    rw [← Nat.add_assoc, plc, if_neg (hk r (by omega))]
    exact plc_line s a ln h r (fun k hr => hk k (by omega))
end Go.Proofs.YtibhljdiofglfaaDoor
namespace Go.Proofs.YtibhljdiofglfaaDoor
open Go.RowKit Go.Shelf

def frr (ln : Nat) (t : Tok) : Fou := (t.1, t.2.1, (ln : Int), (t.2.2 : Int))
theorem cnt_ch {s : ByteArray} {a M p c : Nat} (h : ChAt (s.extract a (a + M)) p c) (hp : p ≤ M) : cnt s a (a + p) = c := by
  have h1 := chAt_cnt h
  unfold cnt at h1 ⊢
  rw [ext_ext s a M 0 p hp, Nat.add_zero] at h1
  exact h1
set_option maxHeartbeats 2000000 in
theorem line_eq (s : ByteArray) (a M ln : Nat) (h : a + M ≤ s.size) (hend : a + M = s.size ∨ byt s (a + M) = 10) (hno : ∀ k, k < M → byt s (a + k) ≠ 10) (hpl : plc s a = (ln, a)) : ∀ (n p nx col f F : Nat) (acc : List Tok) (so : Bool) (l : List Fou), M - p ≤ n → p ≤ M → nx ≤ p → ChAt (s.extract a (a + M)) p col → M < p + f → s.size + 1 < a + p + F →
    ∃ tk : List Tok, (cutAt (s.extract a (a + M)) f p nx col acc = (acc ++ tk, 0, 0) ∧ ∃ G, s.size + 1 < a + M + G ∧ scD s F (a + p) ln a so l = scD s G (a + M) ln a (so || decide (tk ≠ [])) (l ++ tk.map (frr ln))) ∨ (∃ e c, cutAt (s.extract a (a + M)) f p nx col acc = (acc ++ tk, e, c) ∧ e ≠ 0 ∧ scD s F (a + p) ln a so l = .inr (e, ln, c)) := by
  intro n
  induction n with
  | zero =>
    intro p nx col f F acc so l hn hp hx hc hf hF
    obtain ⟨f, rfl⟩ : ∃ f', f = f' + 1 := ⟨f - 1, by omega⟩
    have hsz : (s.extract a (a + M)).size = M := by simp; omega
    obtain rfl : p = M := by omega
    exact ⟨[], .inl ⟨by rw [cut_end _ f p nx col acc (by omega)]; simp, F, hF, by simp⟩⟩
  | succ n ih =>
    intro p nx col f F acc so l hn hp hx hc hf hF
    have hsz : (s.extract a (a + M)).size = M := by simp; omega
    obtain ⟨f, rfl⟩ : ∃ f', f = f' + 1 := ⟨f - 1, by omega⟩
    by_cases hpM : p < M
    case neg =>
      obtain rfl : p = M := by omega
      exact ⟨[], .inl ⟨by rw [cut_end _ f p nx col acc (by omega)]; simp, F, hF, by simp⟩⟩
    obtain ⟨F, rfl⟩ : ∃ F', F = F' + 1 := ⟨F - 1, by omega⟩
    have hst := step_eq s a M p h hpM hend (hno p hpM)
    have hb := byt_ext s a M p h hpM
    have hend' : a + M = s.size ∨ byt s (a + M) < 128 := by omega
    have hbm : a + p + (M - p) = a + M := by omega
    have hL : ∀ q, a ≤ q → q ≤ a + M → LEnd s q (a + M) := fun q h1 h2 => ⟨h2, h, fun j j1 j2 => by have := hno (j - a) (by omega); rw [show a + (j - a) = j by omega] at this; exact this, hend⟩
    have hE1 : LE s (a + p + 1) = a + p + (M - p) := by rw [hbm]; exact (le_end s (a + p + 1) (by omega)).uniq (hL _ (by omega) (by omega))
    rw [cut_step _ f p nx col acc (by omega) (by omega)]
    cases hs : stepR (s.extract a (a + M)) p with
    | gap =>
      rw [hs] at hst
      have hg : byt s (a + p) = 9 ∨ byt s (a + p) = 13 ∨ byt s (a + p) = 32 := hst
      have hw := (rn_asc (s.extract a (a + M)) p (by omega) (by omega)).2
      have hc2 := hc.step (by omega)
      rw [hw] at hc2
      dsimp only
      rw [hw, sc_gap s F (a + p) ln a so l (by omega) hg]
      exact ih (p + 1) nx (col + 1) f F acc so l (by omega) (by omega) (by omega) hc2 (by omega) (by omega)
    | stop =>
      rw [hs] at hst
      have h35 : byt s (a + p) = 35 := hst
      refine ⟨[], .inl ⟨by simp, F, by omega, ?_⟩⟩
      rw [sc_rem s F (a + p) ln a so l (by omega) h35, (le_end s (a + p) (by omega)).uniq (hL _ (by omega) (by omega))]
      simp
    | bad e off =>
      rw [hs] at hst
      obtain ⟨ng, n35, he, hne, r, c, hr1, hr2, hoff, hch⟩ := hst
      refine ⟨[], .inr ⟨e, col + 1 + off, by simp, hne, ?_⟩⟩
      rw [sc_err s F (a + p) ln a so l (by omega) (hno p hpM) ng n35 (by rw [hE1, he]; exact hne), hE1, he, hr1]
      have hadd := chAt_add h hend' hp hc hch
      have hcn := cnt_ch hadd (by omega)
      have hof := cnt_ch hch hr2
      have hp2 := plc_line s a ln hpl (p + r) (fun k hk => hno k (by omega))
      rw [← Nat.add_assoc] at hcn hp2
      rw [hp2]
      dsimp only
      rw [hcn, hoff, hof]
      rw [show col + c + 1 = col + 1 + c by omega]
    | word k sz =>
      rw [hs] at hst
      obtain ⟨ng, n35, hk, h21, h22, hszm, c, hch⟩ := hst
      have hadd := chAt_add h hend' hp hc hch
      have hbd := nx_bounds s (a + p) (a + p + (M - p)) (by omega) (by rw [hbm]; exact hL _ (by omega) (by omega)) h22
      have hlt := chAt_lt2 hc hadd (by omega)
      have hw := wd_pos (s.extract a (a + M)) p
      have hcn := cnt_ch hc hp
      have hxe : (s.extract a (a + M)).extract p (p + sz) = s.extract (a + p) (a + p + sz) := (ext_ext s a M p _ (by omega)).trans (congrArg (fun z => s.extract (a + p) z) (by omega))
      dsimp only
      rw [sc_word s F (a + p) ln a so l (by omega) (hno p hpM) ng n35 (by rw [hE1]; exact h22), hE1, h21, hk, hcn, hxe]
      obtain ⟨g, hg, eg⟩ := cut_to (s.extract a (a + M)) (p + sz) (col + c) (acc ++ [(k, s.extract (a + p) (a + p + sz), col + 1)]) hadd f (p + wd (s.extract a (a + M)) p) (col + 1) (hc.step (by omega)) hlt.2 (by omega)
      rw [eg, Nat.add_assoc a p sz]
      obtain ⟨tk, hh⟩ := ih (p + sz) (p + sz) (col + c) g F (acc ++ [(k, s.extract (a + p) (a + (p + sz)), col + 1)]) true (l ++ [(k, s.extract (a + p) (a + (p + sz)), (ln : Int), ((col + 1 : Nat) : Int))]) (by omega) (by omega) (Nat.le_refl _) hadd (by omega) (by omega)
      refine ⟨(k, s.extract (a + p) (a + (p + sz)), col + 1) :: tk, ?_⟩
      rcases hh with ⟨h1, G, h2, h3⟩ | ⟨e, c', h1, h2, h3⟩
      · exact .inl ⟨by rw [h1]; simp, G, h2, by rw [h3]; simp [frr]⟩
      · exact .inr ⟨e, c', by rw [h1]; simp, h2, h3⟩
end Go.Proofs.YtibhljdiofglfaaDoor
namespace Go.Proofs.YtibhljdiofglfaaDoor
open Go.RowKit Go.Shelf

theorem line_done (s : ByteArray) (a M n : Nat) (h : a + M ≤ s.size) (hend : a + M = s.size ∨ byt s (a + M) = 10) (hno : ∀ k, k < M → byt s (a + k) ≠ 10) (hpl : plc s a = (n + 1, a)) (F : Nat) (l : List Fou) (hF : s.size + 1 < a + F) :
    ((cutR (s.extract a (a + M))).2.1 = 0 ∧ ∃ G, s.size + 1 < a + M + 1 + G ∧ scD s F a (n + 1) a false l = scD s G (a + M + 1) (n + 1 + 1) (a + M + 1) false (l ++ lineQ (n + 1) (s.extract a (a + M)))) ∨ ((cutR (s.extract a (a + M))).2.1 ≠ 0 ∧ scD s F a (n + 1) a false l = .inr ((cutR (s.extract a (a + M))).2.1, n + 1, (cutR (s.extract a (a + M))).2.2)) := by
  have hsz : (s.extract a (a + M)).size = M := by simp; omega
  obtain ⟨tk, hh⟩ := line_eq s a M (n + 1) h hend hno hpl M 0 0 0 (M + 1) F [] false l (by omega) (Nat.zero_le _) (Nat.le_refl _) .zero (by omega) hF
  have hcr : cutR (s.extract a (a + M)) = cutAt (s.extract a (a + M)) (M + 1) 0 0 0 [] := by rw [cutR, hsz]
  rw [List.nil_append, ← hcr] at hh
  rcases hh with ⟨h1, G, h2, h3⟩ | ⟨e, c, h1, h2, h3⟩
  · left
    obtain ⟨G, rfl⟩ : ∃ G', G = G' + 1 := ⟨G - 1, by omega⟩
    refine ⟨by rw [h1], G, by omega, ?_⟩
    have h3' : scD s F a (n + 1) a false l = _ := h3
    rw [h3', sc_eol s G (a + M) (n + 1) a _ _ (by omega) hend]
    congr 1
    unfold lineQ
    rw [h1]
    cases tk with
    | nil => simp
    | cons t tk =>
      rw [if_pos (by simp), if_neg (by simp), List.append_assoc]
      rfl
  · right
    rw [h1]
    exact ⟨h2, h3⟩
/-- What the document's Scan says of the lines from there on. -/
def TxE (s : ByteArray) (F o n : Nat) (l : List Fou) (L : List ByteArray) : Prop := match badL L with
  | none => scD s F o (n + 1) o false l = .inl (l ++ fours n L)
  | some (i, er, c) => scD s F o (n + 1) o false l = .inr (er, n + i + 1, c)
theorem last_eq (s : ByteArray) (o n F : Nat) (l : List Fou) (ho : o ≤ s.size) (hno : ∀ k, k < s.size - o → byt s (o + k) ≠ 10) (hpl : plc s o = (n + 1, o)) (hF : s.size + 1 < o + F) : TxE s F o n l [s.extract o s.size] := by
  have e : s.extract o s.size = s.extract o (o + (s.size - o)) := by congr 1; omega
  rcases line_done s o (s.size - o) n (by omega) (.inl (by omega)) hno hpl F l hF with ⟨h1, G, h2, h3⟩ | ⟨h1, h3⟩
  · have hb : badL [s.extract o s.size] = none := by rw [badL, badL, e, if_neg (by rw [h1]; simp)]; rfl
    unfold TxE
    rw [hb]
    obtain ⟨G, rfl⟩ : ∃ G', G = G' + 1 := ⟨G - 1, by omega⟩
    dsimp only
    rw [h3, sc_end s G _ _ _ _ _ (by omega), fours, fours, List.append_nil, e]
  · have hb : badL [s.extract o s.size] = some (0, (cutR (s.extract o s.size)).2.1, (cutR (s.extract o s.size)).2.2) := by rw [badL, e, if_pos h1]
    unfold TxE
    rw [hb]
    dsimp only
    rw [h3, ← e]
theorem text_eq (s : ByteArray) : ∀ (f o n F : Nat) (l : List Fou), o ≤ s.size → s.size - o ≤ f → plc s o = (n + 1, o) → s.size + 1 < o + F → TxE s F o n l (linesAux f (s.extract o s.size)) := by
  intro f
  induction f with
  | zero =>
    intro o n F l ho hf hpl hF
    rw [linesAux]
    exact last_eq s o n F l ho (fun k hk => by omega) hpl hF
  | succ f ih =>
    intro o n F l ho hf hpl hF
    have hz : (s.extract o s.size).size = s.size - o := by simp
    by_cases hn : nlAt (s.extract o s.size) < 0
    · rw [lines_last hn]
      refine last_eq s o n F l ho (fun k hk => ?_) hpl hF
      have := nl_none hn k (by omega)
      rwa [byt_extract s o k ho] at this
    · obtain ⟨m, e⟩ := Int.eq_ofNat_of_zero_le (show 0 ≤ nlAt (s.extract o s.size) by omega)
      obtain ⟨b1, b2, b3⟩ := nl_some e
      rw [byt_extract s o m ho] at b1
      have b4 : ∀ k, k < m → byt s (o + k) ≠ 10 := fun k hk => by have := b3 k hk; rwa [byt_extract s o k ho] at this
      have e1 : (s.extract o s.size).extract 0 m = s.extract o (o + m) := by
        rw [ByteArray.extract_extract]
        congr 1
        omega
      have e2 : (s.extract o s.size).extract (m + 1) (s.extract o s.size).size = s.extract (o + m + 1) s.size := by
        rw [ByteArray.extract_extract, hz]
        congr 1 <;> omega
      rw [lines_more e, e1, e2]
      rcases line_done s o m n (by omega) (.inr b1) b4 hpl F l hF with ⟨h1, G, h2, h3⟩ | ⟨h1, h3⟩
      · have hp2 : plc s (o + m + 1) = (n + 1 + 1, o + m + 1) := by rw [plc, if_pos b1, plc_line s o (n + 1) hpl m b4]
        have hi := ih (o + m + 1) (n + 1) G (l ++ lineQ (n + 1) (s.extract o (o + m))) (by omega) (by omega) hp2 (by omega)
        unfold TxE at hi ⊢
        rw [badL, if_neg (by rw [h1]; simp)]
        cases hb : badL (linesAux f (s.extract (o + m + 1) s.size)) with
        | none =>
          rw [hb] at hi
          dsimp only [Option.map] at hi ⊢
          rw [h3, hi, fours, List.append_assoc]
        | some r =>
          obtain ⟨i, er, c⟩ := r
          rw [hb] at hi
          dsimp only [Option.map] at hi ⊢
          rw [h3, hi, show n + 1 + i + 1 = n + (i + 1) + 1 by omega]
      · unfold TxE
        rw [badL, if_pos h1]
        exact h3
/-- The whole text. -/
theorem scan_eq (s : ByteArray) : TxE s (s.size + 2) 0 0 [] (linesOf s) := by
  have h := text_eq s s.size 0 0 (s.size + 2) [] (Nat.zero_le _) (by omega) rfl (by omega)
  have e : s.extract 0 s.size = s := by simp
  rw [e] at h
  exact h
end Go.Proofs.YtibhljdiofglfaaDoor
