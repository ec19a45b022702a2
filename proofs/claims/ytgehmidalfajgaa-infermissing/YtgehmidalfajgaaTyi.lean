/- Who was counted, and with which sets: lists that are kept beside a tally. -/
import Derived.Test.YtgehmidalfajgaaTyh
namespace Go.Proofs.Ytgehmidalfajgaa
open Go.RowKit Go.Shelf

theorem ofN_snoc : ∀ (l : List Int) (i : Int) (N : Nat), ofN (l ++ [i]) N = (ofN l N).bind fun M => if 0 ≤ i ∧ i < 100 then some (M ||| 2 ^ i.toNat) else none
  | [], i, N => rfl
  | j :: l, i, N => by
    have ih := ofN_snoc l i (N ||| 2 ^ j.toNat)
    show (if 0 ≤ j ∧ j < 100 then ofN (l ++ [i]) (N ||| 2 ^ j.toNat) else none) = (if 0 ≤ j ∧ j < 100 then ofN l (N ||| 2 ^ j.toNat) else none).bind _
    split
    · exact ih
    · rfl
/-- Who was counted. -/
structure Cw (t : Tl) (wh : List Int) : Prop where
  of : ofN wh 0 = some t.reps
  cn : cnt t.reps = wh.length
  ln : wh.length = t.hs.length
theorem cnt_flip {N : Nat} {f : Int} (h : 0 ≤ f ∧ f < 100) (hN : N < S100) (hne : wthN N f ≠ N) : cnt (wthN N f) = cnt N + 1 := by
  have hb : N.testBit f.toNat = false := by
    cases q : N.testBit f.toNat
    · rfl
    · refine absurd ((wthN_bit h hN).2 ?_) hne
      unfold hasB
      simp [h, q]
  rw [wthN_in h hN]
  refine popAux_flip 128 _ _ f.toNat (by omega) (fun i _ hi => ?_) hb ?_
  · rw [Nat.testBit_or, Nat.testBit_two_pow_of_ne (fun e => hi e.symm), Bool.or_false]
  · rw [Nat.testBit_or, Nat.testBit_two_pow_self, Bool.or_true]
theorem Cw.new {n f self ro : Int} {N : Nat} (h : nwE n f self ro N = 0) : Cw (nwT n f self ro N) [self] := by
  obtain ⟨h1, h2, h3, h4, h5, _⟩ := nw_ok h
  have hs := isN_id h5 h2
  have e : wthN 0 self = 0 ||| 2 ^ self.toNat := wthN_in hs (by decide)
  refine ⟨?_, ?_, rfl⟩
  · show (if 0 ≤ self ∧ self < 100 then some (0 ||| 2 ^ self.toNat) else none) = some (wthN 0 self)
    rw [if_pos hs, e]
  · show cnt (wthN 0 self) = 1
    rw [cnt_flip hs (by decide) (by rw [e, Nat.zero_or]; exact Nat.ne_of_gt (Nat.two_pow_pos _)), cnt_zero]
theorem Cw.step {t : Tl} {wh : List Int} (h : Cw t wh) (hv : Tv t) {o : Rp} (h5 : fto t o = 5) : Cw (tko t o) (wh ++ [o.f]) := by
  rw [tko_cnt h5]
  unfold fto at h5
  rw [fate_5] at h5
  have hi := isN_id h5.1 hv.n1
  refine ⟨?_, ?_, ?_⟩
  · rw [ofN_snoc, h.of]
    show (if 0 ≤ o.f ∧ o.f < 100 then some (t.reps ||| 2 ^ o.f.toNat) else none) = some (wthN t.reps o.f)
    rw [if_pos hi, wthN_in hi hv.reps]
  · show cnt (wthN t.reps o.f) = _
    rw [cnt_flip hi hv.reps h5.2.2.2.1, h.cn]
    simp
  · simp [cntT, h.ln]
def inV (l : List Int) : List Value := l.map fun x => .int .i64 x
theorem inV_snoc (l : List Int) (i : Int) : inV (l ++ [i]) = inV l ++ inV [i] := by simp [inV]
theorem inV_one (l : List Int) : ∀ u ∈ inV l, u.oneCell' = true := by
  intro u hu
  simp [inV] at hu
  obtain ⟨x, _, rfl⟩ := hu
  rfl
theorem infoJ : (Try.prog.info? 3).map (fun i => (i.zero, i.size, i.bytes)) = some (some (.int .i64 0), 1, 8) := by kernel_rfl
theorem inV_ints {W : World} {base c : Nat} {ad : Option Addr} {l : List Int} (h : W.ownsRow base 3 1 (.slice ad l.length c) l.length (inV l)) : l ≠ [] → ∃ a, ad = some a ∧ Ints W a l := fun hl => by
  rcases own_form h with ⟨_, e2⟩ | ⟨g, cap, e1, _, h3, _⟩
  · exact absurd (List.length_eq_zero_iff.1 e2) hl
  · simp only [Value.slice.injEq] at e1
    obtain ⟨rfl, _, rfl⟩ := e1
    refine ⟨_, rfl, rfl, fun k x hk => ?_, h3⟩
    have hlt : k < l.length := (List.getElem?_eq_some_iff.1 hk).1
    show W.cell? ⟨g, 0 + k, none⟩ = _
    rw [Nat.zero_add]
    exact (h.cellAt k (by omega)).trans (by simp [inV, hk])
/-- Who was counted, with which sets, beside the tally; while one more is put behind. -/
structure Jw (w : World) (B q : Nat) (ad : Option Addr) (cap : Nat) (t : Tl) (aw : Option Addr) (cw : Nat) (hs : List Nat) (ah : Option Addr) (ch : Nat) (wh : List Int) (o : Rp) (g : (Nat × Option Addr × Nat) × (Nat × Option Addr × Nat)) (d6 d7 d14 d15 : Bool) (V : World) : Prop where
  ta : Ta V B q ad cap t
  bl : Below w.heap.size w V
  r0 : d7 = false → V.ownsRow w.heap.size 24 4 (.slice aw hs.length cw) hs.length (fs hs) ∧ (∀ b, ob ad = some b → ob aw ≠ some b)
  r1 : d7 = true → V.ownsRow w.heap.size 24 4 (.slice g.1.2.1 (hs.length + 1) g.1.2.2) (hs.length + 1) (fs (hs ++ [o.N])) ∧ (∀ b, ob ad = some b → ob g.1.2.1 ≠ some b)
  i0 : d15 = false → V.ownsRow w.heap.size 3 1 (.slice ah wh.length ch) wh.length (inV wh)
  i1 : d15 = true → V.ownsRow w.heap.size 3 1 (.slice g.2.2.1 (wh.length + 1) g.2.2.2) (wh.length + 1) (inV (wh ++ [o.f]))
  b0 : d6 = true → d7 = false → Holds4 V g.1.1 (wd o.N) ∧ ob aw ≠ some g.1.1
  b1 : d14 = true → d15 = false → V.heap[g.2.1]? = some (.cells #[.int .i64 o.f] 3 (0, 0)) ∧ ob ah ≠ some g.2.1
section
variable {w V V' : World} {B q cap cw ch : Nat} {ad aw ah : Option Addr} {t : Tl} {hs : List Nat} {wh : List Int} {o : Rp} {g : (Nat × Option Addr × Nat) × (Nat × Option Addr × Nat)} {d6 d7 d14 d15 : Bool}
theorem Jw.carry (h : Jw w B q ad cap t aw cw hs ah ch wh o g d6 d7 d14 d15 V) (hb : Below V.heap.size V V') : Jw w B q ad cap t aw cw hs ah ch wh o g d6 d7 d14 d15 V' :=
  ⟨h.ta.carry hb, bel2 h.bl hb, fun e => ⟨row_below (h.r0 e).1 hb, (h.r0 e).2⟩, fun e => ⟨row_below (h.r1 e).1 hb, (h.r1 e).2⟩, fun e => row_below (h.i0 e) hb, fun e => row_below (h.i1 e) hb, fun e f => ⟨(h.b0 e f).1.carry hb, (h.b0 e f).2⟩, fun e f => ⟨(hb.block _ (lt_at (h.b1 e f).1)).trans (h.b1 e f).1, (h.b1 e f).2⟩⟩
theorem Jw.bs0 (h : Jw w B q ad cap t aw cw hs ah ch wh o g d6 false d14 d15 V) : Jw w B q ad cap t aw cw hs ah ch wh o ((V.heap.size, g.1.2), g.2) true false d14 d15 (V.alloc (.cells (cells4 (wd o.N)) 24)) := by
  have k := h.carry (al1' V (.cells (cells4 (wd o.N)) 24))
  exact ⟨k.ta, k.bl, k.r0, (fun e => by cases e), k.i0, k.i1, fun _ _ => ⟨new_at rfl, fun e => by have := (row_lt2 (h.r0 rfl).1 V.heap.size (by rw [ob_eq]; exact e)).2; omega⟩, k.b1⟩
theorem Jw.bs1 (h : Jw w B q ad cap t aw cw hs ah ch wh o g d6 d7 d14 false V) : Jw w B q ad cap t aw cw hs ah ch wh o (g.1, (V.heap.size, g.2.2)) d6 d7 true false (V.alloc (.cells #[.int .i64 o.f] 3)) := by
  have k := h.carry (al1' V (.cells #[.int .i64 o.f] 3))
  exact ⟨k.ta, k.bl, k.r0, k.r1, k.i0, (fun e => by cases e), k.b0, fun _ _ => ⟨new_at rfl, fun e => by have := (row_lt2 (h.i0 rfl) V.heap.size (by rw [ob_eq]; exact e)).2; omega⟩⟩
theorem bsI (W : World) (x : Int) : (Instr.buildSlice 47 1 #[(0, .int .i64 x)]).run Try.prog W = .ok (.slice (some ⟨W.heap.size, 0, none⟩) 1 1) (W.alloc (.cells #[.int .i64 x] 3)) := by go_simp
/-- A tally elsewhere stays. -/
theorem Ta.grown {W : World} {r : Option Nat} (h : Ta W B q ad cap t) (hg : W.grownBy V r) (h1 : r ≠ some q) (h2 : ∀ b, ob ad = some b → r ≠ some b) : Ta V B q ad cap t :=
  ⟨h.qb, (hg.block _ h.lt (fun e => h1 e.symm)).trans h.obj, row_apart2 h.row hg (fun b e e2 => h2 b (by rw [← ob_eq]; exact e2) e)⟩
theorem Jw.app0 (h : Jw w B q ad cap t aw cw hs ah ch wh o g true false d14 d15 V) (hl : hs.length ≤ 1000) (ty : TypeId) : ∃ a c V', (Builtin.append_ #[43, 43] ty #[.slice aw hs.length cw, .slice (some ⟨g.1.1, 0, none⟩) 1 1]).run Try.prog V = .ok (.slice a (hs.length + 1) c) V' ∧ Jw w B q ad cap t aw cw hs ah ch wh o ((g.1.1, a, c), g.2) true true d14 d15 V' := by
  obtain ⟨ic, hic, hz0, hz1, hz2⟩ := info_parts infoZ
  obtain ⟨hg, hne⟩ := h.b0 rfl rfl
  obtain ⟨hr0, hap⟩ := h.r0 rfl
  obtain ⟨v', V', hr, ho, hgr, hn, hown⟩ := run_append_own_at (P := Try.prog) V w.heap.size 43 ty 24 ic _ 4 16 Try.underlying43 hic hz0 hz1 hz2 rfl (by decide) _ hs.length (fs hs) hr0 ⟨g.1.1, 0, none⟩ 1 1 (fs [o.N]) rfl (fun j u hj => by
    rw [add_pl, Nat.zero_add, cell_at hg]
    have e : (fs [o.N]) = (cells4 (wd o.N)).toList := rfl
    rw [e] at hj
    simpa using hj) (fs_one _) (by unfold maxLen; omega) (by omega) h.bl.size
  rw [← fs_append] at ho
  rcases own_form ho with ⟨_, e2⟩ | ⟨g2, c, e1, _⟩
  · omega
  · subst e1
    rw [ob_eq] at hgr
    have hty : ∀ b cur ty2 z, V.heap[b]? = some (.cells cur ty2 z) → ty2 ≠ 24 → ob aw ≠ some b := fun b cur ty2 z h1 h2 e => row_type hr0 h1 h2 (by rw [ob_eq]; exact e)
    have hri : ∀ {v : Value} {n : Nat} {xs : List Value}, V.ownsRow w.heap.size 3 1 v n xs → V'.ownsRow w.heap.size 3 1 v n xs := fun {v n xs} k => row_apart2 k hgr (fun b e e2 => by
      obtain ⟨_, cur, h3⟩ := rowBlk k b e2
      exact hty b cur _ _ h3 (by decide) e)
    refine ⟨_, c, V', hr, h.ta.grown hgr (hty q _ _ _ h.ta.obj (by decide)) (fun b e => hap b e), h.bl.grown hgr (Nat.le_trans (Nat.le_refl _) h.bl.size) (fun b e => (row_lt2 hr0 b (by rw [ob_eq]; exact e)).1), fun e => (by cases e), fun _ => ⟨ho, fun b e e2 => ?_⟩, fun e => hri (h.i0 e), fun e => hri (h.i1 e), fun _ e => (by cases e), fun e f => ?_⟩
    · rcases hown with k | k
      · exact hap b e ((ob_eq _ _ _).symm.trans (k.symm.trans e2))
      · have h1 : some V.heap.size = some b := k.symm.trans e2
        have h2 := (row_lt2 h.ta.row b (by rw [ob_eq]; exact e)).2
        simp at h1
        omega
    · have h1 := h.b1 e f
      exact ⟨(hgr.block _ (lt_at h1.1) (fun e => hty _ _ _ _ h1.1 (by decide) e.symm)).trans h1.1, h1.2⟩
theorem Jw.app1 (h : Jw w B q ad cap t aw cw hs ah ch wh o g d6 d7 true false V) (hl : wh.length ≤ 1000) (ty : TypeId) : ∃ a c V', (Builtin.append_ #[47, 47] ty #[.slice ah wh.length ch, .slice (some ⟨g.2.1, 0, none⟩) 1 1]).run Try.prog V = .ok (.slice a (wh.length + 1) c) V' ∧ Jw w B q ad cap t aw cw hs ah ch wh o (g.1, (g.2.1, a, c)) d6 d7 true true V' := by
  obtain ⟨ic, hic, hz0, hz1, hz2⟩ := info_parts infoJ
  obtain ⟨hg, hne⟩ := h.b1 rfl rfl
  have hr0 := h.i0 rfl
  obtain ⟨v', V', hr, ho, hgr, hn, hown⟩ := run_append_own_at (P := Try.prog) V w.heap.size 47 ty 3 ic _ 1 8 Try.underlying47 hic hz0 hz1 hz2 rfl (by decide) _ wh.length (inV wh) hr0 ⟨g.2.1, 0, none⟩ 1 1 (inV [o.f]) rfl (fun j u hj => by
    rw [add_pl, Nat.zero_add, cell_at hg]
    have e : (inV [o.f]) = (#[Value.int .i64 o.f] : Array Value).toList := rfl
    rw [e] at hj
    simpa using hj) (inV_one _) (by unfold maxLen; omega) (by omega) h.bl.size
  rw [← inV_snoc] at ho
  rcases own_form ho with ⟨_, e2⟩ | ⟨g2, c, e1, _⟩
  · omega
  · subst e1
    rw [ob_eq] at hgr
    have hty : ∀ b cur ty2 z, V.heap[b]? = some (.cells cur ty2 z) → ty2 ≠ 3 → ob ah ≠ some b := fun b cur ty2 z h1 h2 e => row_type hr0 h1 h2 (by rw [ob_eq]; exact e)
    have hrs : ∀ {v : Value} {n : Nat} {xs : List Value}, V.ownsRow w.heap.size 24 4 v n xs → V'.ownsRow w.heap.size 24 4 v n xs := fun {v n xs} k => row_apart2 k hgr (fun b e e2 => by
      obtain ⟨_, cur, h3⟩ := rowBlk k b e2
      exact hty b cur _ _ h3 (by decide) e)
    refine ⟨_, c, V', hr, h.ta.grown hgr (hty q _ _ _ h.ta.obj (by decide)) (fun b e e2 => by obtain ⟨_, cur, h3⟩ := h.ta.blk e; exact hty b cur _ _ h3 (by decide) e2), h.bl.grown hgr (Nat.le_trans (Nat.le_refl _) h.bl.size) (fun b e => (row_lt2 hr0 b (by rw [ob_eq]; exact e)).1), fun e => ⟨hrs (h.r0 e).1, (h.r0 e).2⟩, fun e => ⟨hrs (h.r1 e).1, (h.r1 e).2⟩, fun e => (by cases e), fun _ => ho, fun e f => ?_, fun _ e => (by cases e)⟩
    have h1 := h.b0 e f
    exact ⟨(hgr.block _ h1.1.lt (fun e => hty _ _ _ _ h1.1 (by decide) e.symm)).trans h1.1, h1.2⟩
end
theorem bi_lenI (t : TypeId) (bs : Array Bool) (a : Option Addr) (n c : Nat) (w : World) : (builtin .len #[47] t bs #[.slice a n c]).run Try.prog w = .ok (.value (.int .i64 (n : Int))) w := by
  go_simp
end Go.Proofs.Ytgehmidalfajgaa
