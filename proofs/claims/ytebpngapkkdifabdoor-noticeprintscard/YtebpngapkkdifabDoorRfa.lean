/- The document's find, Read, Put, Text, Id: what they answer, at every input. -/
import Derived.Test.YtebpngapkkdifabDoorRrd
import Derived.Test.YtebpngapkkdifabDoorRef
import Derived.Test.YtebpngapkkdifabDoorEnl
namespace Go.Proofs.YtebpngapkkdifabDoor
open Go.RowKit Go.Shelf Go.Lib

/-- A slice of ints that holds these, all below M. -/
def RdI (M : Nat) (W : World) (v : Value) (l : List Int) : Prop := ∃ ad cap, v = .slice ad l.length cap ∧ (l ≠ [] → ∃ g, ad = some ⟨g, 0, none⟩ ∧ g < M ∧ l.length ≤ cap ∧ ∀ j x, l[j]? = some x → W.cell? ⟨g, j, none⟩ = some (.int .i64 x))
/-- The document's roster of these signs. -/
def RosR (M : Nat) (W : World) (v : Value) (l : List Int) : Prop := Signs l ∧ ∃ sl, v = .agg #[sl] ∧ RdI M W sl l
theorem RdI.below {M : Nat} {W W' : World} {v : Value} {l : List Int} (h : RdI M W v l) (hb : Below M W W') : RdI M W' v l := by
  obtain ⟨ad, cap, rfl, hf⟩ := h
  refine ⟨ad, cap, rfl, fun hl => ?_⟩
  obtain ⟨g, rfl, h2, h3, h4⟩ := hf hl
  exact ⟨g, rfl, h2, h3, fun j x hj => (hb.cell (p := ⟨g, j, none⟩) h2).trans (h4 j x hj)⟩
theorem RosR.below {M : Nat} {W W' : World} {v : Value} {l : List Int} (h : RosR M W v l) (hb : Below M W W') : RosR M W' v l := by
  obtain ⟨h0, sl, rfl, h1⟩ := h
  exact ⟨h0, sl, rfl, h1.below hb⟩
theorem rosR_nil (M : Nat) (W : World) : RosR M W (.agg #[.slice none 0 0]) [] := ⟨signs_nil, _, rfl, ⟨none, 0, rfl, fun h => absurd rfl h⟩⟩
theorem RosR.form {M : Nat} {W : World} {v : Value} {l : List Int} (h : RosR M W v l) : ∃ ad cap, v = .agg #[.slice ad l.length cap] := by
  obtain ⟨_, sl, rfl, ⟨ad, cap, rfl, _⟩⟩ := h
  exact ⟨ad, cap, rfl⟩
theorem RosR.alloc {M : Nat} {W : World} {v : Value} {l : List Int} (h : RosR M W v l) (hM : M ≤ W.heap.size) (o : Obj) : RosR M (W.alloc o) v l := h.below ((Below.refl M W).alloc hM o)
theorem RosR.call {M : Nat} {W W' : World} {v : Value} {l : List Int} (h : RosR M W v l) (hM : M ≤ W.heap.size) (hb : Below W.heap.size W W') : RosR M W' v l := h.below (hb.mono hM)
def numsV (l : List Int) : List Value := l.map (.int .i64)
theorem RdI.of {w : World} {base : Nat} {v : Value} {l : List Int} (h : w.ownsRow base 3 1 v l.length (numsV l)) : RdI w.heap.size w v l := by
  obtain ⟨ad, cap, rfl, hf⟩ := row_form h
  refine ⟨ad, cap, rfl, fun hl => ?_⟩
  obtain ⟨g, rfl, _, h2, h3, h4⟩ := hf (List.length_pos_iff.2 hl)
  exact ⟨g, rfl, h2, h3, fun j x hj => h4 j _ (by simp [numsV, hj])⟩

theorem idxOf_at : ∀ (l : List Int) (k : Nat) (r : Int), l[k]? = some r → (∀ j, j < k → l[j]? ≠ some r) → l.idxOf r = k
  | a :: l, 0, r, h, _ => by simp at h; subst h; simp
  | a :: l, k + 1, r, h, hn => by
    have h0 : a ≠ r := by simpa using hn 0 (by omega)
    rw [List.idxOf_cons, beq_false_of_ne h0, idxOf_at l k r (by simpa using h) (fun j hj => by simpa using hn (j + 1) (by omega))]
    rfl
/-- What find answers. -/
def findV (l : List Int) (r : Int) : Int := if r ∈ l then (l.idxOf r : Int) else -1
theorem findV_hit {l : List Int} {k : Nat} {r : Int} (h : l[k]? = some r) (hn : ∀ j, j < k → l[j]? ≠ some r) : findV l r = k := by
  unfold findV
  rw [if_pos (List.mem_of_getElem? h), idxOf_at l k r h hn]
theorem findV_miss {l : List Int} {r : Int} (hn : ∀ j, j < l.length → l[j]? ≠ some r) : findV l r = -1 := by
  unfold findV
  rw [if_neg]
  intro h
  obtain ⟨k, hk⟩ := List.getElem?_of_mem h
  exact hn k (List.getElem?_eq_some_iff.1 hk).1 hk
set_option maxHeartbeats 1000000 in
theorem find_any {M : Nat} {v : Value} {l : List Int} (w : World) (h : RdI M w v l) (hM : M ≤ w.heap.size) (hl : l.length ≤ 100) (r : Int) : Calls Tryd.prog 16 #[v, .int .i64 r] w fun e w' => e = .returned (.int .i64 (findV l r)) ∧ w' = w := by
  obtain ⟨ad, cap, rfl, hf⟩ := h
  go_enter Tryd.func16, Tryd.ntmps16
  go_wp2
  go_loopw [5] (fun c wr => ∃ k : Nat, c = .int .i64 k ∧ k ≤ l.length ∧ Hid (∀ j, j < k → l[j]? ≠ some r) ∧ wr = w) (fun c _ => l.length - (intOf c).toNat)
  case atStart =>
    have h0 : Hid (∀ j, j < 0 → l[j]? ≠ some r) := fun j hj => absurd hj (by omega)
    exact ⟨0, rfl, by omega, h0, rfl⟩
  case round =>
    obtain ⟨k, rfl, hk, hno, rfl⟩ := hrel
    by_cases hkl : k < l.length
    · obtain ⟨g, rfl, g1, g2, g3⟩ := hf (fun e => by subst e; simp at hkl)
      have gk := g3 k l[k] (List.getElem?_eq_getElem hkl)
      have HK : Hid (l[k]? = some l[k]) := List.getElem?_eq_getElem hkl
      have hgl : g < wr.heap.size := by omega
      clear hf g3
      generalize l[k] = x at *
      by_cases hx : x = r
      · subst hx
        have HF : Hid (findV l x = k) := findV_hit HK.out hno.out
        go_wp2
        go_ret
        rw [HF.out]
        exact ⟨rfl, rfl⟩
      · have hq : (x == r) = false := beq_eq_false_iff_ne.2 hx
        have hno2 : Hid (∀ j, j < k + 1 → l[j]? ≠ some r) := fun j hj => by
          by_cases e : j = k
          · subst e; rw [HK.out]; intro e; cases e; exact hx rfl
          · exact hno.out j (by omega)
        clear hx
        go_wp2
        go_roundw
        case rel => exact ⟨k + 1, by simp, by omega, hno2, trivial⟩
        case measure => simp [intOf]; omega
    · have hkk : k = l.length := by omega
      subst hkk
      have HF : Hid (findV l r = -1) := findV_miss hno.out
      clear hf
      go_wp2
      go_ret
      rw [HF.out]
      exact ⟨rfl, rfl⟩
set_option maxHeartbeats 400000 in
theorem rId_any {M : Nat} {v : Value} {l : List Int} (w : World) (h : RosR M w v l) (hM : M ≤ w.heap.size) (r : Int) : Calls Tryd.prog 29 #[v, .int .i64 r] w fun e w' => e = .returned (.int .i64 (findV l r)) ∧ Below w.heap.size w w' := by
  obtain ⟨h0, sl, rfl, hS⟩ := h
  have hS2 := hS.below (((Below.refl _ w).alloc (Nat.le_refl _) (.cells #[sl] 33)).mono hM)
  obtain ⟨ad, cap, rfl, _⟩ := hS
  have hc := find_any _ hS2 (by simp; omega) h0.short r
  go_enter Tryd.func29, Tryd.ntmps29
  go_wp2_with (go_at_call 16; refine hc.mono ?_; rintro e w1 ⟨rfl, rfl⟩)
  go_ret
  exact ⟨rfl, (Below.refl _ w).alloc (Nat.le_refl _) _⟩
theorem infoI : (Tryd.prog.info? 3).map (fun i => (i.zero, i.size, i.bytes)) = some (some (.int .i64 0), 1, 8) := by kernel_rfl
theorem ret_rosR {f : Func} {p q r : Tmp} {R : Ending → World → Prop} {a : Act} {w : World} {b : Nat} {u x y : Value} (hres : f.results = #[.cell p 33, .tmp q, .tmp r]) (hp : a.tmps.getD p undef = .pointer (some ⟨b, 0, none⟩)) (hq : a.tmps.getD q undef = x) (hr : a.tmps.getD r undef = y) (hd : a.defers = [])
    (h : w.heap[b]? = some (.cells #[u] 33 (0, 0))) (hR : R (.returned (.tuple #[.agg #[u], x, y])) w) : bodyPost Tryd.prog f R .ret a w := by
  refine bodyPost_ret (v := .tuple #[.agg #[u], x, y]) ?_ hd hR
  have h1 := run_loadVar_row (P := Tryd.prog) w b 33 33 #[u] (0, 0) _ h Tryd.underlying33 rfl (by kernel_rfl)
  have hp' : a.tmps[p]?.getD undef = .pointer (some ⟨b, 0, none⟩) := by simpa using hp
  have hq' : a.tmps[q]?.getD undef = x := by simpa using hq
  have hr' : a.tmps[r]?.getD undef = y := by simpa using hr
  simp [results, hres, hp', hq', hr', asAddr, h1]
/-- What Read answers, and where it lies. -/
def RdR (s : ByteArray) (e : Ending) (W : World) : Prop := ∃ v, e = .returned (.tuple #[v, .int .i64 (readR s).2.1, .int .i64 (readR s).2.2]) ∧ RosR W.heap.size W v (readR s).1
theorem rdR_nil {s : ByteArray} {x y : Int} (h : readR s = ([], x, y)) (W : World) : RdR s (.returned (.tuple #[.agg #[.slice none 0 0], .int .i64 x, .int .i64 y])) W := ⟨_, by rw [h], by rw [h]; exact rosR_nil _ _⟩
theorem at_below (s : ByteArray) (hs : s.size ≤ 65536) (p : Nat) (hp : p < s.size) (w : World) : Calls Tryd.prog 14 #[.string s, .int .i64 p] w fun e w' => e = .returned (.tuple #[.int .i64 (rn s p), .int .i64 (wdt s p), .bool (looseB s p)]) ∧ Below w.heap.size w w' := by
  refine (at_any s (by omega) p hp w).mono ?_
  rintro e w' ⟨he, n, rfl⟩
  exact ⟨he, ⟨rfl, rfl, rfl, Nat.le_refl _, fun _ _ => rfl⟩⟩

set_option maxHeartbeats 4000000 in
set_option maxRecDepth 100000 in
theorem rRead_any (s : ByteArray) (hs : s.size ≤ maxLen) (w : World) : Calls Tryd.prog 6 #[.string s] w fun e w' => RdR s e w' ∧ Below w.heap.size w w' := by
  unfold maxLen at hs
  by_cases h1 : 65536 < s.size
  · have HR : Hid (readR s = ([], 0, 2)) := by show readR s = _; rw [readR, if_pos h1]
    go_enter Tryd.func6, Tryd.ntmps6
    go_wp2
    exact ret_rosR rfl rfl rfl rfl rfl (new_at rfl) ⟨rdR_nil HR.out _, (Below.refl _ w).alloc (Nat.le_refl _) _⟩
  have hs16 : s.size ≤ 65536 := by omega
  obtain ⟨ic, hic, hz0, hz1, hz2⟩ := info_parts infoI
  go_enter Tryd.func6, Tryd.ntmps6
  go_wp2
  go_loopw [5, 6] (fun o c wr => ∃ (pos fuel : Nat) (l : List Int), Hid (rdGo l (charsFrom s fuel pos) = rdGo [] (charsOf s)) ∧ s.size ≤ pos + fuel ∧ (pos = 0 ∨ l ≠ []) ∧ Signs l ∧ c = .int .i64 pos ∧ pos ≤ s.size ∧ wr.ownsRow (w.heap.size + 1) 3 1 o l.length (numsV l) ∧ wr.heap[w.heap.size]? = some (.cells #[.slice none 0 0] 33 (0, 0)) ∧ Below w.heap.size w wr) (fun _ c _ => s.size - (intOf c).toNat)
  case atStart =>
    have hr : Hid (rdGo [] (charsFrom s s.size 0) = rdGo [] (charsOf s)) := rfl
    exact ⟨0, s.size, [], hr, by omega, .inl rfl, signs_nil, rfl, by omega, ⟨rfl, .inl ⟨rfl, rfl⟩⟩, new_at rfl, (Below.refl _ w).alloc (Nat.le_refl _) _⟩
  case round =>
    obtain ⟨pos, fuel, l, hgo, hfu, hne, hsg, rfl, hps, hrow, hres, hbw⟩ := hrel
    have hls := hsg.short
    have hlt := lt_at hres
    obtain ⟨ad, cap, rfl, hform⟩ := row_form hrow
    have d0 := cell_at hres 0
    have d1 := thaw_at hres 0
    by_cases hp : pos < s.size
    · have hwd := wdt_pos s pos
      have hwl := wdt_le s pos hp
      have hrn := rn_le s pos
      have hpi : (pos : Int) < (s.size : Int) := by omega
      obtain ⟨f, rfl⟩ : ∃ f, fuel = f + 1 := ⟨fuel - 1, by omega⟩
      rw [charsFrom_step s f pos hp] at hgo
      have HR2 : Hid (readR s = rdGo l ((rn s pos : Int) :: charsFrom s f (pos + wdt s pos))) := by
        show readR s = _
        rw [readR, if_neg h1, if_neg (by omega)]
        exact hgo.out.symm
      have hat := at_below s hs16 pos hp wr
      have hcl := refClass_any (rn s pos : Int)
      have hfi := fun (W : World) (hb : Below wr.heap.size wr W) => find_any W ((RdI.of hrow).below hb) hb.size hls (rn s pos : Int)
      by_cases q1 : cls (rn s pos : Int) = 4
      · rw [loose_no_letter q1] at hat
        rw [q1] at hcl
        by_cases q2 : (rn s pos : Int) ∈ l
        · have HE : Hid (readR s = ([], (l.length : Int), 42)) := by
            have := HR2.out
            rw [rdGo, if_pos q1, if_pos q2] at this
            exact this
          have hfv : findV l (rn s pos : Int) = ((l.idxOf (rn s pos : Int) : Nat) : Int) := by rw [findV, if_pos q2]
          simp only [hfv] at hfi
          clear HR2 hgo q1 q2 hfv
          generalize l.idxOf (rn s pos : Int) = k at *
          generalize (rn s pos : Int) = c at *
          go_wp2_with (first | (go_at_call 14; refine hat.mono ?_; rintro e W1 ⟨rfl, hb1⟩; have hsz1 := hb1.size; have e0 := (hb1.block _ hlt).trans hres; have e1 := cell_at e0 0; have e2 := thaw_at e0 0) | (go_at_call 15; refine (hcl _).mono ?_; rintro e W2 ⟨rfl, rfl⟩) | (go_at_call 16; refine (hfi _ hb1).mono ?_; rintro e W3 ⟨rfl, rfl⟩))
          exact ret_rosR rfl rfl rfl rfl rfl (put_at 0 _ e0) ⟨rdR_nil HE.out _, (hbw.trans (hb1.mono (by omega))).setCell (p := ⟨w.heap.size, 0, none⟩) (Nat.le_refl _) _⟩
        · have hfv : findV l (rn s pos : Int) = -1 := by rw [findV, if_neg q2]
          simp only [hfv] at hfi
          by_cases q3 : l.length < 100
          · have HR3 : Hid (rdGo (l ++ [(rn s pos : Int)]) (charsFrom s f (pos + wdt s pos)) = rdGo [] (charsOf s)) := by
              have := hgo.out
              rw [rdGo, if_pos q1, if_neg q2, if_pos q3] at this
              exact this
            have hsg2 : Hid (Signs (l ++ [(rn s pos : Int)])) := signs_snoc hsg q1 q2 q3
            clear HR2 hgo q1 q2 hfv
            generalize (rn s pos : Int) = c at *
            go_wp2_with (first | (go_at_call 14; refine hat.mono ?_; rintro e W1 ⟨rfl, hb1⟩; have hsz1 := hb1.size; have e0 := (hb1.block _ hlt).trans hres; have hrow1 := row_kept hrow (grown_below hb1) (fun k e => by cases e)) | (go_at_call 15; refine (hcl _).mono ?_; rintro e W2 ⟨rfl, rfl⟩) | (go_at_call 16; refine (hfi _ hb1).mono ?_; rintro e W3 ⟨rfl, rfl⟩) | (at_builtin; refine wpList_append_own _ rfl _ _ 31 rfl (w.heap.size + 1) 3 ic _ 1 8 Tryd.underlying31 hic hz0 hz1 hz2 rfl (by decide) _ _ _ rfl (hrow1.alloc _) ⟨W3.heap.size, 0, none⟩ 1 1 [.int .i64 c] rfl rfl (one_at _ _ _) (by simp [Value.oneCell']) (by unfold maxLen; omega) (by omega) (by simp; omega) ?_; intro v' W5 hown' hgrow _))
            go_roundw
            case rel =>
              refine ⟨pos + wdt s pos, f, l ++ [c], HR3, by omega, .inr (by simp), hsg2.out, by simp, by omega, by simpa [numsV] using hown', (hgrow.block _ (by simp; omega) (fun e => absurd (row_block hrow1 _ e.symm) (by omega))).trans (old_at e0), ?_⟩
              exact ((hbw.trans (hb1.mono (by omega))).alloc (by omega) _).grown hgrow (by simp; omega) (fun k e => by have := row_block hrow1 k e; omega)
            case measure => simp [intOf]; omega
          · have HE : Hid (readR s = ([], (l.length : Int), 2)) := by
              have := HR2.out
              rw [rdGo, if_pos q1, if_neg q2, if_neg q3] at this
              exact this
            clear HR2 hgo q1 q2 hfv
            generalize (rn s pos : Int) = c at *
            go_wp2_with (first | (go_at_call 14; refine hat.mono ?_; rintro e W1 ⟨rfl, hb1⟩; have hsz1 := hb1.size; have e0 := (hb1.block _ hlt).trans hres; have e1 := cell_at e0 0; have e2 := thaw_at e0 0) | (go_at_call 15; refine (hcl _).mono ?_; rintro e W2 ⟨rfl, rfl⟩) | (go_at_call 16; refine (hfi _ hb1).mono ?_; rintro e W3 ⟨rfl, rfl⟩))
            exact ret_rosR rfl rfl rfl rfl rfl (put_at 0 _ e0) ⟨rdR_nil HE.out _, (hbw.trans (hb1.mono (by omega))).setCell (p := ⟨w.heap.size, 0, none⟩) (Nat.le_refl _) _⟩
      · have HE : Hid (readR s = ([], (l.length : Int), 41)) := by
          have := HR2.out
          rw [rdGo, if_neg q1] at this
          exact this
        have hqc : (cls (rn s pos : Int) == 4) = false := beq_eq_false_iff_ne.2 q1
        clear HR2 hgo q1 hfi
        generalize cls (rn s pos : Int) = y at *
        generalize (rn s pos : Int) = c at *
        generalize looseB s pos = lo at *
        cases lo with
        | true =>
          go_wp2_with (go_at_call 14; refine hat.mono ?_; rintro e W1 ⟨rfl, hb1⟩; have hsz1 := hb1.size; have e0 := (hb1.block _ hlt).trans hres; have e1 := cell_at e0 0; have e2 := thaw_at e0 0)
          exact ret_rosR rfl rfl rfl rfl rfl (put_at 0 _ e0) ⟨rdR_nil HE.out _, (hbw.trans (hb1.mono (by omega))).setCell (p := ⟨w.heap.size, 0, none⟩) (Nat.le_refl _) _⟩
        | false =>
          go_wp2_with (first | (go_at_call 14; refine hat.mono ?_; rintro e W1 ⟨rfl, hb1⟩; have hsz1 := hb1.size; have e0 := (hb1.block _ hlt).trans hres; have e1 := cell_at e0 0; have e2 := thaw_at e0 0) | (go_at_call 15; refine (hcl _).mono ?_; rintro e W2 ⟨rfl, rfl⟩))
          exact ret_rosR rfl rfl rfl rfl rfl (put_at 0 _ e0) ⟨rdR_nil HE.out _, (hbw.trans (hb1.mono (by omega))).setCell (p := ⟨w.heap.size, 0, none⟩) (Nat.le_refl _) _⟩
    · have hpi : ¬ (pos : Int) < (s.size : Int) := by omega
      have hgo2 := hgo.out
      rw [charsFrom_end s fuel pos hp, rdGo] at hgo2
      by_cases hl : l = []
      · subst hl
        have hs0 : s.size = 0 := by
          rcases hne with h | h
          · omega
          · exact absurd rfl h
        have HE : Hid (readR s = ([], 0, 40)) := by show readR s = _; rw [readR, if_neg h1, if_pos hs0]
        clear hgo hgo2 hne
        go_wp2
        exact ret_rosR rfl rfl rfl rfl rfl (put_at 0 _ hres) ⟨rdR_nil HE.out _, hbw.setCell (p := ⟨w.heap.size, 0, none⟩) (Nat.le_refl _) _⟩
      · have hs0 : ¬ s.size = 0 := by
          intro e
          have : charsOf s = [] := charsFrom_end s _ 0 (by omega)
          rw [this, rdGo] at hgo2
          exact hl (congrArg Prod.fst hgo2)
        have HE : Hid (readR s = (l, 0, 0)) := by show readR s = _; rw [readR, if_neg h1, if_neg hs0]; exact hgo2.symm
        have hln : 0 < l.length := List.length_pos_iff.2 hl
        have hlz : ¬ (l.length : Int) = 0 := by omega
        have HL : Hid (l ≠ []) := hl
        clear hgo hgo2 hne hl
        go_wp2
        refine ret_rosR rfl rfl rfl rfl rfl (put_at 0 _ hres) ⟨⟨_, by rw [HE.out]; rfl, ?_⟩, hbw.setCell (p := ⟨w.heap.size, 0, none⟩) (Nat.le_refl _) _⟩
        rw [HE.out]
        obtain ⟨g, rfl, g1, g2, g3, g4⟩ := hform hln
        refine ⟨hsg, _, rfl, ⟨some ⟨g, 0, none⟩, cap, rfl, fun _ => ⟨g, rfl, by simp; exact g2, g3, fun j x hj => ?_⟩⟩⟩
        have e1 : (wr.setCell ⟨w.heap.size, 0, none⟩ (.slice (some ⟨g, 0, none⟩) l.length cap)).cell? ⟨g, j, none⟩ = wr.cell? ⟨g, j, none⟩ := World.cell?_of_block (Below.heap_setCell _ _ _ _ (by simp; omega))
        rw [e1]
        exact g4 j _ (by simp [numsV, hj])
end Go.Proofs.YtebpngapkkdifabDoor
