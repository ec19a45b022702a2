/- The document's books: New, Copy, Merge: what they answer. -/
import Derived.Test.YtojegojeolkgpaaGreatBku
import Derived.Test.YtojegojeolkgpaaGreatBkg
import Derived.Test.YtojegojeolkgpaaGreatNte
import Derived.Test.YtojegojeolkgpaaGreatRft
namespace Go.Proofs.YtojegojeolkgpaaGreat
open Go.RowKit Go.Shelf Go.Lib

theorem cln_self {N : Nat} (h : N < 2 ^ 100) : cln N = N := cln_of_lt h
set_option maxHeartbeats 1000000 in
set_option maxRecDepth 100000 in
theorem rPut_any (N : Nat) (hN : N < 2 ^ 100) (i : Nat) (hi : i < 100) (w : World) : Calls Tryz.prog 90 #[sv N, .int .i64 (i : Int)] w fun e w' => e = .returned (sv (N ||| 2 ^ i)) ∧ Below w.heap.size w w' := by
  have hw := rWith_any N (i : Int)
  have e3 : withV N (i : Int) = .tuple #[sv (N ||| 2 ^ i), .int .i64 0] := by
    unfold withV
    rw [if_pos (by omega), Int.toNat_natCast, cln_self hN]
  rw [e3] at hw
  clear e3
  generalize N ||| 2 ^ i = N2 at *
  simp only [sv] at hw ⊢
  go_enter Tryz.func90, Tryz.ntmps90
  go_wp2_with (go_at_call 125; refine (hw _).mono ?_; rintro e w1 ⟨rfl, hb1⟩; have q : Holds4 w1 (w.heap.size + 1) (fun _ => 0) := (hb1.block _ (by simp)).trans (get_new (by simp)); have hs1 := q.lt; obtain ⟨y0, y1, y2, y3, z0, z1, z2, z3⟩ := q.facts; have H1 : Hid (Holds4 w1 (w.heap.size + 1) (fun _ => 0)) := q; clear q)
  have k5 : Below w.heap.size w ((set4 w1 (w.heap.size + 1) N2).alloc (.cells (cells4 (wd N2)) 76)) := (below4 (bcarry (((Below.refl _ w).alloc (by simp) _).alloc (by simp) _) (Nat.le_refl _) hb1) (by omega) _).alloc (Nat.le_of_lt (Nat.lt_of_le_of_lt (Nat.le_add_right _ _) (Holds4.lt (fin4 H1.out N2)))) _
  exact ret4 rfl rfl rfl (get_old (fin4 H1.out N2)) ⟨rfl, k5⟩
/-- A box that holds a book of the document. -/
def RB (W : World) (b : Nat) (v : Value) : Prop := W.heap[b]? = some (.cells #[v] 47 (0, 0))
theorem RB.cell {W : World} {b : Nat} {v : Value} (h : RB W b v) : W.cell? ⟨b, 0, none⟩ = some v := cell_at h 0
theorem RB.thaw {W : World} {b : Nat} {v : Value} (h : RB W b v) : W.frozen? ⟨b, 0, none⟩ = false := thaw_at h 0
theorem RB.carry {W V : World} {b : Nat} {v : Value} (h : RB W b v) (hb : Below W.heap.size W V) : RB V b v := (hb.block _ (lt_at h)).trans h
theorem RB.set {W : World} {b : Nat} {v : Value} (h : RB W b v) (u : Value) : RB (W.setCell ⟨b, 0, none⟩ u) b u := by
  have := heap_setCell_same _ _ 0 _ _ u h
  unfold RB
  simpa using this
theorem RB.other {W : World} {b b' j : Nat} {v u : Value} (h : RB W b v) (hne : b ≠ b') : RB (W.setCell ⟨b', j, none⟩ u) b v := (Below.heap_setCell _ _ _ _ hne).trans h
theorem field_rb (W : World) (B : Nat) : (Instr.fieldAt 47 (.pointer (some ⟨B, 0, none⟩)) 0).run Tryz.prog W = .ok (.pointer (some ⟨B, 0, none⟩)) W := by go_simp
theorem load_rb {W : World} {b n c : Nat} {ad : Option Addr} (h : RB W b (.slice ad n c)) : (Instr.loadAt 23 (.pointer (some ⟨b, 0, none⟩))).run Tryz.prog W = .ok (.slice ad n c) W := by
  have c0 := h.cell
  go_simp
theorem load_rbw {W : World} {b n c : Nat} {ad : Option Addr} (h : RB W b (.slice ad n c)) : (Instr.loadAt 47 (.pointer (some ⟨b, 0, none⟩))).run Tryz.prog W = .ok (.agg #[.slice ad n c]) W := by
  have c0 := h.cell
  go_simp
theorem retR {f : Func} {p : Tmp} {R : Ending → World → Prop} {a : Act} {w : World} {b n c : Nat} {ad : Option Addr} (hres : f.results = #[.cell p 47]) (hp : a.tmps.getD p undef = .pointer (some ⟨b, 0, none⟩)) (hd : a.defers = []) (h : RB w b (.slice ad n c)) (hR : R (.returned (.agg #[.slice ad n c])) w) : bodyPost Tryz.prog f R .ret a w := by
  refine bodyPost_ret (v := .agg #[.slice ad n c]) ?_ hd hR
  have hp' : a.tmps[p]?.getD undef = .pointer (some ⟨b, 0, none⟩) := by simpa using hp
  have c0 := h.cell
  simp [results, hres, hp', asAddr]
  go_simp
theorem retRt {f : Func} {p q : Tmp} {R : Ending → World → Prop} {a : Act} {w : World} {b n c : Nat} {ad : Option Addr} {x : Value} (hres : f.results = #[.cell p 47, .tmp q]) (hp : a.tmps.getD p undef = .pointer (some ⟨b, 0, none⟩)) (hq : a.tmps.getD q undef = x) (hd : a.defers = []) (h : RB w b (.slice ad n c)) (hR : R (.returned (.tuple #[.agg #[.slice ad n c], x])) w) : bodyPost Tryz.prog f R .ret a w := by
  refine bodyPost_ret (v := .tuple #[.agg #[.slice ad n c], x]) ?_ hd hR
  have hp' : a.tmps[p]?.getD undef = .pointer (some ⟨b, 0, none⟩) := by simpa using hp
  have hq' : a.tmps[q]?.getD undef = x := by simpa using hq
  have c0 := h.cell
  simp [results, hres, hp', hq', asAddr]
  go_simp
theorem retRst {f : Func} {p r q : Tmp} {R : Ending → World → Prop} {a : Act} {w : World} {b bs M n c : Nat} {ad : Option Addr} {x : Value} (hres : f.results = #[.cell p 47, .cell r 76, .tmp q]) (hp : a.tmps.getD p undef = .pointer (some ⟨b, 0, none⟩)) (hr : a.tmps.getD r undef = .pointer (some ⟨bs, 0, none⟩)) (hq : a.tmps.getD q undef = x) (hd : a.defers = []) (h : RB w b (.slice ad n c)) (hs : Holds4 w bs (wd M)) (hR : R (.returned (.tuple #[.agg #[.slice ad n c], sv M, x])) w) : bodyPost Tryz.prog f R .ret a w := by
  refine bodyPost_ret (v := .tuple #[.agg #[.slice ad n c], sv M, x]) ?_ hd hR
  have h1 := run_loadVar_row (P := Tryz.prog) w bs 76 76 (cells4 (wd M)) (0, 0) _ hs Tryz.underlying76 rfl (by kernel_rfl)
  have h2 := run_loadVar_row (P := Tryz.prog) w b 47 47 #[.slice ad n c] (0, 0) _ h Tryz.underlying47 rfl (by kernel_rfl)
  have hp' : a.tmps[p]?.getD undef = .pointer (some ⟨b, 0, none⟩) := by simpa using hp
  have hr' : a.tmps[r]?.getD undef = .pointer (some ⟨bs, 0, none⟩) := by simpa using hr
  have hq' : a.tmps[q]?.getD undef = x := by simpa using hq
  simp [results, hres, hp', hr', hq', asAddr, h1, h2]
  rfl
theorem NtsAt.put {W : World} {g : Nat} {cur : Array Value} {l : List N3} (h : NtsAt W g 0 l) (hg : W.heap[g]? = some (.cells cur 62 (0, 0))) (i : Nat) (hi : i < l.length) (o t k : Int) : NtsAt (W3o W g (i * 3) o t k) g 0 (l.set i (o, t, k)) := by
  intro j x hj
  rw [Nat.zero_add]
  have h0 := heap_setCell_same _ _ (i * 3) _ _ (.int .i64 o) hg
  have h1 := heap_setCell_same _ _ (i * 3 + 1) _ _ (.int .i64 t) h0
  have h2 := heap_setCell_same _ _ (i * 3 + 2) _ _ (.int .i64 k) h1
  have hsz : i * 3 + 2 < cur.size := by
    obtain ⟨y, hy⟩ : ∃ y, l[i]? = some y := ⟨_, List.getElem?_eq_getElem hi⟩
    obtain ⟨_, _, c2⟩ := h i y hy
    rw [Nat.zero_add, cell_at hg] at c2
    exact (Array.getElem?_eq_some_iff.1 c2).1
  rw [List.getElem?_set] at hj
  by_cases e : i = j
  · subst e
    simp only [hi, if_true] at hj
    obtain rfl := Option.some.inj hj
    refine ⟨(cell_at h2 _).trans ?_, (cell_at h2 _).trans ?_, (cell_at h2 _).trans ?_⟩
    · simp [Array.getElem?_setIfInBounds]; omega
    · simp [Array.getElem?_setIfInBounds]; omega
    · simp [Array.getElem?_setIfInBounds]; omega
  · rw [if_neg e] at hj
    obtain ⟨c0, c1, c2⟩ := h j x hj
    rw [Nat.zero_add, cell_at hg] at c0 c1 c2
    refine ⟨(cell_at h2 _).trans ?_, (cell_at h2 _).trans ?_, (cell_at h2 _).trans ?_⟩
    · rw [Array.getElem?_setIfInBounds_ne (by omega), Array.getElem?_setIfInBounds_ne (by omega), Array.getElem?_setIfInBounds_ne (by omega)]; exact c0
    · rw [Array.getElem?_setIfInBounds_ne (by omega), Array.getElem?_setIfInBounds_ne (by omega), Array.getElem?_setIfInBounds_ne (by omega)]; exact c1
    · rw [Array.getElem?_setIfInBounds_ne (by omega), Array.getElem?_setIfInBounds_ne (by omega), Array.getElem?_setIfInBounds_ne (by omega)]; exact c2
theorem NtsAt.put1 {W : World} {g : Nat} {cur : Array Value} {l : List N3} (h : NtsAt W g 0 l) (hg : W.heap[g]? = some (.cells cur 62 (0, 0))) {i : Nat} {o t k : Int} (hi : l[i]? = some (o, t, k)) (t' : Int) : NtsAt (W.setCell ⟨g, i * 3 + 1, none⟩ (.int .i64 t')) g 0 (l.set i (o, t', k)) := by
  intro j x hj
  rw [Nat.zero_add]
  have h2 := heap_setCell_same _ _ (i * 3 + 1) _ _ (.int .i64 t') hg
  obtain ⟨d0, d1, d2⟩ := h i _ hi
  rw [Nat.zero_add, cell_at hg] at d0 d1 d2
  have hsz : i * 3 + 1 < cur.size := (Array.getElem?_eq_some_iff.1 d1).1
  have hil := (List.getElem?_eq_some_iff.1 hi).1
  rw [List.getElem?_set] at hj
  by_cases e : i = j
  · subst e
    simp only [hil, if_true] at hj
    obtain rfl := Option.some.inj hj
    refine ⟨(cell_at h2 _).trans ?_, (cell_at h2 _).trans ?_, (cell_at h2 _).trans ?_⟩
    · rw [Array.getElem?_setIfInBounds_ne (by omega)]; exact d0
    · simp [hsz]
    · rw [Array.getElem?_setIfInBounds_ne (by omega)]; exact d2
  · rw [if_neg e] at hj
    obtain ⟨c0, c1, c2⟩ := h j x hj
    rw [Nat.zero_add, cell_at hg] at c0 c1 c2
    refine ⟨(cell_at h2 _).trans ?_, (cell_at h2 _).trans ?_, (cell_at h2 _).trans ?_⟩
    · rw [Array.getElem?_setIfInBounds_ne (by omega)]; exact c0
    · rw [Array.getElem?_setIfInBounds_ne (by omega)]; exact c1
    · rw [Array.getElem?_setIfInBounds_ne (by omega)]; exact c2
theorem NtsAt.aside {W : World} {g b j off : Nat} {v : Value} {l : List N3} (h : NtsAt W g off l) (hne : g ≠ b) : NtsAt (W.setCell ⟨b, j, none⟩ v) g off l := fun k x hk => by
  obtain ⟨c0, c1, c2⟩ := h k x hk
  have hb : (W.setCell ⟨b, j, none⟩ v).heap[g]? = W.heap[g]? := Below.heap_setCell _ _ _ _ hne
  exact ⟨(World.cell?_of_block (a := ⟨g, _, none⟩) hb).trans c0, (World.cell?_of_block (a := ⟨g, _, none⟩) hb).trans c1, (World.cell?_of_block (a := ⟨g, _, none⟩) hb).trans c2⟩
/-- A row of the call's own: where it lies, and that it can be written. -/
theorem own_block2 {W : World} {base g n cap : Nat} {xs : List Value} (h : W.ownsRow base 62 3 (.slice (some ⟨g, 0, none⟩) n cap) n xs) : base ≤ g ∧ n ≤ cap ∧ ∃ cur, W.heap[g]? = some (.cells cur 62 (0, 0)) := by
  rcases h.2 with ⟨e, _⟩ | ⟨g', cap', cur, e, h4, h5, h6, _⟩
  · cases e
  · cases e
    exact ⟨h4, h6, cur, h5⟩
theorem frs_succ (k : Nat) : frs (k + 1) = frs k ++ [((k : Int), 0, 1)] := by
  unfold frs
  rw [List.range_succ, List.map_append]
  rfl
theorem below3o {w0 w : World} {n B : Nat} (hb : Below n w0 w) (hB : n ≤ B) (off : Nat) (a b c : Int) : Below n w0 (W3o w B off a b c) := ((hb.setCell hB _).setCell hB _).setCell hB _
/-- What the document's New answers. -/
def RNewV (n self tag : Int) (w : World) (e : Ending) (w' : World) : Prop :=
  Below w.heap.size w w' ∧
  if n < 1 ∨ 100 < n then e = .returned (.tuple #[.agg #[.slice none 0 0], .int .i64 1])
  else if self < 0 ∨ n ≤ self then e = .returned (.tuple #[.agg #[.slice none 0 0], .int .i64 30])
  else if tag < 0 ∨ 1048576 < tag then e = .returned (.tuple #[.agg #[.slice none 0 0], .int .i64 50])
  else ∃ ad cap, e = .returned (.tuple #[.agg #[.slice ad n.toNat cap], .int .i64 0]) ∧ RdN w' ad (bk0 n.toNat self.toNat tag) ∧ n.toNat ≤ cap ∧ (∀ a, ad = some a → w.heap.size ≤ a.block ∧ ∃ cur, w'.heap[a.block]? = some (.cells cur 62 (0, 0)))
theorem RNewV.ok {n self tag : Int} {w w' : World} {e : Ending} (h : RNewV n self tag w e w') (h1 : ¬ (n < 1 ∨ 100 < n)) (h2 : ¬ (self < 0 ∨ n ≤ self)) (h3 : ¬ (tag < 0 ∨ 1048576 < tag)) : ∃ ad cap, e = .returned (.tuple #[.agg #[.slice ad n.toNat cap], .int .i64 0]) ∧ RdN w' ad (bk0 n.toNat self.toNat tag) ∧ n.toNat ≤ cap ∧ (∀ a, ad = some a → w.heap.size ≤ a.block ∧ ∃ cur, w'.heap[a.block]? = some (.cells cur 62 (0, 0))) := by
  have := h.2
  rw [if_neg h1, if_neg h2, if_neg h3] at this
  exact this
theorem RNewV.bad {n self tag : Int} {w w' w2 w3 : World} {e e2 : Ending} (h : RNewV n self tag w e w') (k : NewV n self tag w2 e2 w3) (hb : ¬ (¬ (n < 1 ∨ 100 < n) ∧ ¬ (self < 0 ∨ n ≤ self) ∧ ¬ (tag < 0 ∨ 1048576 < tag))) : ∃ E : Int, (E != 0) = true ∧ e = .returned (.tuple #[.agg #[.slice none 0 0], .int .i64 E]) ∧ e2 = .returned (.tuple #[.pointer none, .int .i64 E]) := by
  have h := h.2
  have k := k.2
  by_cases h1 : n < 1 ∨ 100 < n
  · rw [if_pos h1] at h k; exact ⟨1, by decide, h, k⟩
  · rw [if_neg h1] at h k
    by_cases h2 : self < 0 ∨ n ≤ self
    · rw [if_pos h2] at h k; exact ⟨30, by decide, h, k⟩
    · rw [if_neg h2] at h k
      by_cases h3 : tag < 0 ∨ 1048576 < tag
      · rw [if_pos h3] at h k; exact ⟨50, by decide, h, k⟩
      · exact absurd ⟨h1, h2, h3⟩ hb
set_option maxHeartbeats 4000000 in
set_option maxRecDepth 100000 in
theorem rNew_any (n self tag : Int) (w : World) : Calls Tryz.prog 9 #[.int .i64 n, .int .i64 self, .int .i64 tag] w fun e w' => RNewV n self tag w e w' := by
  have hr0 : RB (w.alloc (.cells #[.slice none 0 0] 47)) w.heap.size (.slice none 0 0) := new_at rfl
  have hb0 : Below w.heap.size w (w.alloc (.cells #[.slice none 0 0] 47)) := al1 _ _
  by_cases h1 : n < 1 ∨ 100 < n
  · have HV : Hid (∀ w', Below w.heap.size w w' → RNewV n self tag w (.returned (.tuple #[.agg #[.slice none 0 0], .int .i64 1])) w') := fun w' hb => ⟨hb, by rw [if_pos h1]⟩
    rcases h1 with h1 | h1
    all_goals
      go_enter Tryz.func9, Tryz.ntmps9
      go_wp2
      exact retRt rfl rfl rfl rfl hr0 (HV.out _ hb0)
  by_cases h2 : self < 0 ∨ n ≤ self
  · have HV : Hid (∀ w', Below w.heap.size w w' → RNewV n self tag w (.returned (.tuple #[.agg #[.slice none 0 0], .int .i64 30])) w') := fun w' hb => ⟨hb, by rw [if_neg h1, if_pos h2]⟩
    have h10 : ¬ n < 1 := by omega
    have h11 : ¬ 100 < n := by omega
    clear h1
    rcases h2 with h2 | h2
    all_goals
      go_enter Tryz.func9, Tryz.ntmps9
      go_wp2
      exact retRt rfl rfl rfl rfl hr0 (HV.out _ hb0)
  by_cases h3 : tag < 0 ∨ 1048576 < tag
  · have HV : Hid (∀ w', Below w.heap.size w w' → RNewV n self tag w (.returned (.tuple #[.agg #[.slice none 0 0], .int .i64 50])) w') := fun w' hb => ⟨hb, by rw [if_neg h1, if_neg h2, if_pos h3]⟩
    have h10 : ¬ n < 1 := by omega
    have h11 : ¬ 100 < n := by omega
    have h12 : ¬ self < 0 := by omega
    have h13 : ¬ n ≤ self := by omega
    clear h1 h2
    rcases h3 with h3 | h3
    all_goals
      go_enter Tryz.func9, Tryz.ntmps9
      go_wp2
      exact retRt rfl rfl rfl rfl hr0 (HV.out _ hb0)
  obtain ⟨N, rfl⟩ : ∃ N : Nat, n = (N : Int) := ⟨n.toNat, by omega⟩
  obtain ⟨s, rfl⟩ : ∃ s : Nat, self = (s : Int) := ⟨self.toNat, by omega⟩
  have HV : Hid (∀ w' ad cap, Below w.heap.size w w' → RdN w' ad (bk0 N s tag) → N ≤ cap → (∀ a, ad = some a → w.heap.size ≤ a.block ∧ ∃ cur, w'.heap[a.block]? = some (.cells cur 62 (0, 0))) → RNewV (N : Int) (s : Int) tag w (.returned (.tuple #[.agg #[.slice ad N cap], .int .i64 0])) w') := fun w' ad cap hb hr hc ha => ⟨hb, by rw [if_neg h1, if_neg h2, if_neg h3]; exact ⟨ad, cap, rfl, by simpa using hr, by simpa using hc, ha⟩⟩
  have h10 : ¬ (N : Int) < 1 := by omega
  have h11 : ¬ 100 < (N : Int) := by omega
  have h12 : ¬ (s : Int) < 0 := by omega
  have h13 : ¬ (N : Int) ≤ (s : Int) := by omega
  have h14 : ¬ tag < 0 := by omega
  have h15 : ¬ 1048576 < tag := by omega
  have hsN : s < N := by omega
  have hsi : (s : Int) < (N : Int) := by omega
  have hN : N ≤ 100 := by omega
  clear h1 h2 h3
  obtain ⟨ic, hic, hz0, hz1, hz2⟩ := info_partsN
  have hfr := fun (k : Nat) (W : World) => rFresh_any (k : Int) W
  unfold nt at hfr
  go_enter Tryz.func9, Tryz.ntmps9
  go_wp2
  go_loopw [8, 9] (fun c i wz => ∃ (k : Nat), i = .int .i64 k ∧ k ≤ N ∧ wz.ownsRow (w.heap.size + 1) 62 3 c k (fl (frs k)) ∧ RB wz w.heap.size (.slice none 0 0) ∧ Below w.heap.size w wz) (fun _ i _ => N - vnatR i)
  case atStart => exact ⟨0, rfl, Nat.zero_le _, World.ownsRow_nil _ _ _ _, hr0, hb0⟩
  case round =>
    obtain ⟨k, rfl, hk, hrow, hrb, hbw⟩ := hrel
    have hlw := lt_at hrb
    by_cases hkl : k < N
    · have hki : (k : Int) < (N : Int) := by omega
      have hf := hfr k wr
      go_wp2_with (first | (go_at_call 19; (with_reducible refine hf.mono ?_); rintro e u1 ⟨rfl, hb1⟩; have hrow1 := row_below hrow hb1; have hsz1 := hb1.size) | (at_builtin; refine wpList_append_own _ rfl _ _ 23 rfl (w.heap.size + 1) 62 ic _ 3 24 Tryz.underlying23 hic hz0 hz1 hz2 rfl (by decide) _ _ _ rfl (hrow1.alloc _) ⟨u1.heap.size, 0, none⟩ 1 1 [_, _, _] rfl rfl (rowN _ #[_, _, _] _) (by simp [Value.oneCell']) (by unfold maxLen; omega) (by omega) (by simp; omega) ?_; intro v' w2 hown' hgrow _))
      go_roundw
      case rel =>
        have hbu := bel2 hbw hb1
        refine ⟨k + 1, by simp, by omega, ?_, ?_, (hbu.alloc hbu.size _).grown hgrow (Nat.le_trans hbu.size (by simp)) (fun q e => by have := own_block hrow1 q e; omega)⟩
        · rw [frs_succ, fl_append]; exact hown'
        · exact (hgrow.block _ (by simp; omega) (fun e => by have := own_block hrow1 _ e.symm; omega)).trans (old_at (hrb.carry hb1))
      case measure => simp [vnatR]; omega
    · have hkk : k = N := by omega
      subst hkk
      rcases own_form hrow with ⟨_, e⟩ | ⟨g, cap, rfl, hg0, hg1, hcp⟩
      · omega
      obtain ⟨_, hcap, cur, hcur⟩ := own_block2 hrow
      have hnt := nts_own hrow (frs_len k).symm
      have hx : (frs k)[s]? = some ((s : Int), 0, 1) := frs_get hsN
      obtain ⟨e0, e1, e2⟩ := hnt s _ hx
      rw [Nat.zero_add] at e0 e1 e2
      have z1 := thaw_at hcur (s * 3 + 1)
      have hgl := lt_at hcur
      have HNT : Hid (NtsAt wr g 0 (frs k)) := hnt
      have HRB : Hid (RB wr w.heap.size (.slice none 0 0)) := hrb
      have r0 := hrb.cell
      have r1 := hrb.thaw
      clear hnt hrow hrb
      go_wp2
      have hne : w.heap.size ≠ g := by omega
      refine retRt (x := .int .i64 0) rfl rfl rfl rfl ((HRB.out.other hne).set _) (HV.out _ _ cap ((hbw.setCell (show w.heap.size ≤ g by omega) _).setCell (Nat.le_refl _) _) ?_ hcap (fun a ha => by obtain rfl := Option.some.inj ha; exact ⟨by simp only; omega, ⟨_, (Below.heap_setCell _ _ _ _ (Ne.symm hne)).trans (heap_setCell_same _ _ _ _ _ _ hcur)⟩⟩))
      intro _
      exact ⟨g, 0, rfl, by simpa using hgl, ((HNT.out.put1 hcur hx tag).aside (Ne.symm hne))⟩
end Go.Proofs.YtojegojeolkgpaaGreat
