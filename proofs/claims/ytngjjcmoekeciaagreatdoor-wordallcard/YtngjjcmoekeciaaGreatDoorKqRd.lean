/- Rows of words that are kept: grown. -/
import Derived.Test.YtngjjcmoekeciaaGreatDoorKqRc
namespace Go.Proofs.YtngjjcmoekeciaaGreatDoor.Kel
open Go.RowKit Go.Shelf Go.Lib
set_option linter.unusedVariables false

section
variable {i f lo : Nat} {hs : List tRows} {W V : World} {L : List (List tRows)} {t : TypeId} {ob : Option Nat}
theorem MkR.offO (H : MkR i f lo hs W) (hg : W.grownBy V ob) (hb : ∀ b, ob = some b → ∃ cur, W.heap[b]? = some (.cells cur t (0, 0))) (ht : t ≠ 50) : MkR i f lo hs V := fun k x e => by
  obtain ⟨g, e1, e2, e3⟩ := H k x e
  refine ⟨g, e1, e2, (hg.block g (lt_at e3) (fun e9 => ?_)).trans e3⟩
  obtain ⟨cur, hc⟩ := hb g e9.symm
  rw [hc] at e3
  simp only [Option.some.injEq, Obj.cells.injEq] at e3
  exact ht e3.2.1
theorem MkdR.offO (H : MkdR L lo W) (hg : W.grownBy V ob) (hb : ∀ b, ob = some b → ∃ cur, W.heap[b]? = some (.cells cur t (0, 0))) (ht : t ≠ 50) : MkdR L lo V := fun j l hl => (H j l hl).offO hg hb ht
theorem MkdR.carry (H : MkdR L lo W) (hb : Below W.heap.size W V) : MkdR L lo V := fun j l hl => (H j l hl).carry hb
end
/-- The rows that were grown. -/
def GknR (base s0 lo : Nat) (x : List Value) (W : World) (O : List Value) : Prop := ∀ (i : Nat) (z' : Value), O[i]? = some z' → ∃ hs, W.ownsRow base 39 1 z' hs.length (fc cRows hs) ∧ MkR i 0 lo hs W ∧ hs.length ≤ 1001000 ∧ ((∃ z, x[i]? = some z ∧ z'.ownBlock = z.ownBlock) ∨ ∀ b, z'.ownBlock = some b → s0 ≤ b)
section
variable {base s0 lo : Nat} {x O : List Value} {W V : World} {t : TypeId} {ob : Option Nat}
theorem GknR.carry (h : GknR base s0 lo x W O) (hb : Below W.heap.size W V) : GknR base s0 lo x V O := fun i z hz => by
  obtain ⟨hs, h1, h2, h3, h4⟩ := h i z hz
  exact ⟨hs, row_below h1 hb, h2.carry hb, h3, h4⟩
theorem GknR.offO (h : GknR base s0 lo x W O) (hg : W.grownBy V ob) (hb : ∀ b, ob = some b → ∃ cur, W.heap[b]? = some (.cells cur t (0, 0))) (ht : t ≠ 50) (hO : ∀ b, ob = some b → ∀ (i : Nat) (z : Value), O[i]? = some z → z.ownBlock ≠ some b) : GknR base s0 lo x V O := fun i z hz => by
  obtain ⟨hs, h1, h2, h3, h4⟩ := h i z hz
  exact ⟨hs, row_off h1 hg (fun b e => hO b e i z hz), h2.offO hg hb ht, h3, h4⟩
theorem GknR.mkn (h : GknR base s0 lo x W O) : MknR W O := fun i z hz => by
  obtain ⟨hs, h1, h2, h3, _⟩ := h i z hz
  obtain ⟨ad, c', e, hr, _⟩ := own_rd h1
  exact ⟨ad, hs.length, c', hs, lo, e, rfl, hr, h2, h3⟩
end
theorem MknR.of {base lo : Nat} {W : World} {u : Value} {x : List Value} {L : List (List tRows)} (h : Kl cRows 1 39 27 base W u x L) (hm : MkdR L lo W) : MknR W x := fun i z hz => by
  obtain ⟨l, hl, h2, h3⟩ := h.get hz
  obtain ⟨ad, c', e, hr, _⟩ := own_rd h2
  exact ⟨ad, l.length, c', l, lo, e, rfl, hr, hm i l hl, by omega⟩
/-- While one row is grown. -/
structure GsR (base s0 sz lo N k : Nat) (l0 : List tRows) (u z uo : Value) (x O : List Value) (L : List (List tRows)) (w W : World) (a : Value) (M : Nat) (cur : List tRows) : Prop where
  row : W.ownsRow base 39 1 a M (fc cRows cur)
  rel : (∃ g cap, z = .slice (some ⟨g, 0, none⟩) N cap ∧ a = .slice (some ⟨g, 0, none⟩) M cap) ∨ a = .slice none 0 0 ∨ W.ownsRow sz 39 1 a M (fc cRows cur)
  pre : cur.take N = l0
  mr : MkR k 0 lo cur W
  ml : MkdR L lo W
  kn : Kl cRows 1 39 27 base W u x L
  gk : GknR base s0 lo x W O
  ro : W.ownsRow s0 27 1 uo k O
  bl : Bx x w W
  sz : sz ≤ W.heap.size
  nm : N ≤ M
  w0 : w.heap.size ≤ s0
/-- What stays the same meanwhile. -/
structure GcR (base s0 sz N k : Nat) (l0 : List tRows) (u z uo : Value) (x O : List Value) (L : List (List tRows)) : Prop where
  lk : L[k]? = some l0
  ln : l0.length = N
  xk : x[k]? = some z
  b0 : base ≤ s0
  le : s0 ≤ sz
  xl : ∀ (i : Nat) (z' : Value) (b : Nat), x[i]? = some z' → z'.ownBlock = some b → b < s0
  ul : ∀ b, u.ownBlock = some b → b < s0
  ol : ∀ (i : Nat) (z' : Value) (b : Nat), O[i]? = some z' → z'.ownBlock = some b → b < sz
  oo : ∀ b, uo.ownBlock = some b → b < sz
  ok : O.length = k
section
variable {base s0 sz lo N k M m : Nat} {l0 cur news : List tRows} {u z uo a v' : Value} {x O : List Value} {L : List (List tRows)} {w W V : World}
theorem GsR.carry (h : GsR base s0 sz lo N k l0 u z uo x O L w W a M cur) (hb : Below W.heap.size W V) : GsR base s0 sz lo N k l0 u z uo x O L w V a M cur :=
  ⟨row_below h.row hb, h.rel.imp_right (fun q => q.imp_right (fun q => row_below q hb)), h.pre, h.mr.carry hb, h.ml.carry hb, h.kn.carry hb, h.gk.carry hb, row_below h.ro hb, h.bl.below hb, Nat.le_trans h.sz hb.size, h.nm, h.w0⟩
theorem GsR.app (hI : (39 : TypeId) ≠ 27) (h : GsR base s0 sz lo N k l0 u z uo x O L w W a M cur) (hc : GcR base s0 sz N k l0 u z uo x O L) (hm : MkR k M lo news W) (hn : news.length = m) (hv : V.ownsRow base 39 1 v' (M + m) (fc cRows cur ++ fc cRows news))
    (h2 : (∃ g cap, a = .slice (some ⟨g, 0, none⟩) M cap ∧ v' = .slice (some ⟨g, 0, none⟩) (M + m) cap ∧ W.grownBy V (some g)) ∨ (V.ownsRow W.heap.size 39 1 v' (M + m) (fc cRows cur ++ fc cRows news) ∧ W.grownBy V none)) : GsR base s0 sz lo N k l0 u z uo x O L w V v' (M + m) (cur ++ news) := by
  have hsz := h.sz
  have hc0 := hc.b0
  have hc1 := hc.le
  have hcl := row_lh h.row
  rw [← fc_append] at hv h2
  have hmA : MkR k 0 lo (cur ++ news) W := h.mr.app (by rw [hcl]; exact hm)
  have hpre : (cur ++ news).take N = l0 := by rw [List.take_append_of_le_length (by have := h.nm; omega)]; exact h.pre
  rcases h2 with ⟨g, cap, rfl, rfl, hg⟩ | ⟨hf, hg⟩
  · obtain ⟨hbg, curg, hgc⟩ := rowBlk h.row g rfl
    have hblk : ∀ b, some g = some b → ∃ cur, W.heap[b]? = some (.cells cur 39 (0, 0)) := fun b e => by
      cases e
      exact ⟨curg, hgc⟩
    have hcase : ¬ Px x g ∨ w.heap.size ≤ g := by
      rcases h.rel with ⟨g', cap', ez, q⟩ | q | q
      · simp only [Value.slice.injEq, Option.some.injEq, Addr.mk.injEq] at q
        exact .inl (Px.no hc.xk (by rw [ez, ← q.1.1]; rfl))
      · cases q
      · have k1 := (row_lt q g rfl).1
        have k2 := h.w0
        exact .inr (by omega)
    have hbl : Bx x w V := h.bl.grown hg (fun q e => by obtain rfl := Option.some.inj e; exact hcase)
    have hro : V.ownsRow s0 27 1 uo k O := row_off h.ro hg (fun b e => by obtain rfl := Option.some.inj e; exact row_type h.ro hgc hI)
    have hmV := hmA.offO hg hblk (by decide)
    have hLV := h.ml.offO hg hblk (by decide)
    rcases h.rel with ⟨g', cap', rfl, q⟩ | q | q
    · simp only [Value.slice.injEq, Option.some.injEq, Addr.mk.injEq] at q
      obtain ⟨⟨rfl, _⟩, _, rfl⟩ := q
      have hg0 : g < s0 := hc.xl k _ g hc.xk rfl
      refine ⟨hv, .inl ⟨g, cap, rfl, rfl⟩, hpre, hmV, hLV, ?_, h.gk.offO hg hblk (by decide) (fun b e i z' hz e2 => ?_), hro, hbl, Nat.le_trans h.sz hg.size, by have := h.nm; omega, h.w0⟩
      · have hp := own_prefix hv (show N ≤ M + m by have := h.nm; omega)
        rw [fc_take hsRows, hpre] at hp
        have := h.kn.turn hI hc.lk hc.xk rfl (l' := l0) (by rw [hc.ln]; exact hp) rfl hg
        rw [set_same hc.lk] at this
        exact this
      · obtain rfl := Option.some.inj e
        obtain ⟨hs9, _, _, _, h5⟩ := h.gk i z' hz
        have hik : i < k := by rw [← hc.ok]; exact (List.getElem?_eq_some_iff.1 hz).1
        rcases h5 with ⟨zz, h6, h7⟩ | h5
        · have := h.kn.ap i k g zz _ h6 hc.xk (h7.symm.trans e2) rfl
          omega
        · have := h5 g e2
          omega
    · cases q
    · have hgz : sz ≤ g := (rowBlk q g rfl).1
      refine ⟨hv, .inr (.inr ?_), hpre, hmV, hLV, h.kn.off hg (fun b e e2 => ?_) (fun b e i z' hz e2 => ?_), h.gk.offO hg hblk (by decide) (fun b e i z' hz e2 => ?_), hro, hbl, Nat.le_trans h.sz hg.size, by have := h.nm; omega, h.w0⟩
      · obtain ⟨q1, q2⟩ := hv
        refine ⟨q1, .inr ?_⟩
        rcases q2 with ⟨q3, _⟩ | ⟨g9, c9, cur9, q3, q4, q5⟩
        · cases q3
        · cases q3
          exact ⟨g, cap, cur9, rfl, hgz, q5⟩
      · obtain rfl := Option.some.inj e
        have := hc.ul _ e2
        omega
      · obtain rfl := Option.some.inj e
        have := hc.xl i z' _ hz e2
        omega
      · obtain rfl := Option.some.inj e
        have := hc.ol i z' _ hz e2
        omega
  · have hb : Below W.heap.size W V := ⟨hg.os, hg.tape, hg.output, hg.size, fun q hq => hg.block q hq (by simp)⟩
    have h9 := h.carry hb
    exact ⟨hv, .inr (.inr (row_base hf h.sz)), hpre, hmA.carry hb, h9.ml, h9.kn, h9.gk, h9.ro, h9.bl, h9.sz, by have := h.nm; omega, h.w0⟩
end
set_option maxHeartbeats 8000000 in
set_option maxRecDepth 100000 in
theorem growRows_any {base bb : Nat} {w : World} {u : Value} {C : Array Value} {x : List Value} {L : List (List tRows)} {lo : Nat} (hB : Bb 38 w bb C) (hu : C[22]? = some u) (h : Kl cRows 1 39 27 base w u x L) (hm : MkdR L lo w) (hlo : lo ≤ w.heap.size) (hbz : base ≤ w.heap.size) : Calls Tryz.prog 59 #[.pointer (some ⟨bb, 0, none⟩)] w fun e w' => ∃ uo, e = .returned uo ∧ ∃ O, w'.ownsRow w.heap.size 27 1 uo L.length O ∧ GknR base w.heap.size lo x w' O ∧ Kl cRows 1 39 27 base w' u x L ∧ MkdR L lo w' ∧ Bx x w w' := by
  have hTT : (39 : TypeId) ≠ 27 := by decide
  obtain ⟨ic, zc, hic, hz0, hz1, hz2, hz3⟩ := kiRows.iT
  obtain ⟨is, his, hs0, hs1, hs2⟩ := kiRows.iS
  obtain ⟨au, cu, eu, _⟩ := rowForm h.row
  subst eu
  have hk4 := h.k
  have hxl : ∀ (i : Nat) (z' : Value) (b : Nat), x[i]? = some z' → z'.ownBlock = some b → b < w.heap.size := fun i z' b hz hb => (h.ltx hz hb).2
  have hul : ∀ b, (Value.slice au L.length cu).ownBlock = some b → b < w.heap.size := fun b hb => (row_lt h.row b hb).2
  have hpB := h.px hB (by decide)
  have m6 : ∀ (V : World), Bx x w V → V.cell? ⟨bb, 22, none⟩ = some (.slice au L.length cu) := fun V hV => by
    rw [cell_at ((hV.block _ (lt_at hB) hpB).trans hB), hu]
  obtain ⟨s0, hs⟩ : ∃ s0, w.heap.size = s0 := ⟨_, rfl⟩
  rw [hs] at hxl hul hbz hlo ⊢
  have hs0w : s0 ≤ w.heap.size := by omega
  have hsw0 : w.heap.size ≤ s0 := by omega
  clear hs
  obtain ⟨NN, hN⟩ : ∃ N, N = L.length := ⟨_, rfl⟩
  rw [← hN] at m6 h hk4 hul ⊢
  have HN : Hid (NN = L.length) := hN
  clear hN hu
  go_enter Tryz.func59, Tryz.ntmps59
  go_wp2
  go_loopw [3, 4] (fun o i wz => ∃ (k : Nat) (O : List Value), i = .int .i64 (k : Int) ∧ k ≤ NN ∧ wz.ownsRow s0 27 1 o k O ∧ GknR base s0 lo x wz O ∧ Kl cRows 1 39 27 base wz (.slice au NN cu) x L ∧ MkdR L lo wz ∧ Bx x w wz ∧ s0 ≤ wz.heap.size) (fun _ i _ => NN - vnat i)
  case atStart => exact ⟨0, [], rfl, Nat.zero_le _, World.ownsRow_nil _ _ _ _, fun i z hz => (by cases hz), h, hm, Bx.refl _ _, hs0w⟩
  case round =>
    clear hm
    obtain ⟨k, O, rfl, hk, hro, hgk, hK', hmL, hbw, hsw⟩ := hrel
    obtain ⟨ao, co, eo, _⟩ := rowForm hro
    subst eo
    have mm := m6 _ hbw
    have hOl : O.length = k := by have := hro.1; omega
    by_cases hkl : k < NN
    case neg =>
      have hki : ¬ (k : Int) < (NN : Int) := by omega
      obtain rfl : k = NN := by omega
      go_wp2
      go_ret
      exact ⟨_, rfl, O, hro, hgk, hK', hmL, hbw⟩
    have hki : (k : Int) < (NN : Int) := by omega
    obtain ⟨l, hl⟩ : ∃ l, L[k]? = some l := ⟨_, List.getElem?_eq_getElem (by rw [← HN.out]; exact hkl)⟩
    obtain ⟨gu, cu', z, e1, c1, hxz, hfl, hln⟩ := hK'.cell hl
    simp only [Value.slice.injEq] at e1
    obtain ⟨rfl, -, rfl⟩ := e1
    have hml := hmL k l hl
    obtain ⟨N, hN⟩ : ∃ N, l.length = N := ⟨_, rfl⟩
    rw [hN] at hln hfl
    have hlN : l.length = N := hN
    obtain ⟨adx, cx, rfl, -, -⟩ := own_rd hfl
    have hrel0 : (∃ g cap, Value.slice adx N cx = .slice (some ⟨g, 0, none⟩) N cap ∧ Value.slice adx N cx = .slice (some ⟨g, 0, none⟩) N cap) ∨ Value.slice adx N cx = .slice none 0 0 ∨ wr.ownsRow wr.heap.size 39 1 (.slice adx N cx) N (fc cRows l) := by
      rcases own_form hfl with ⟨q, _⟩ | ⟨g, cap, q, _⟩
      · exact .inr (.inl q)
      · exact .inl ⟨g, cap, q, q⟩
    have hGs : GsR base s0 wr.heap.size lo N k l (.slice (some ⟨gu, 0, none⟩) NN cu) (.slice adx N cx) (.slice ao k co) x O L w wr (.slice adx N cx) N l := ⟨hfl, hrel0, by rw [← hlN]; exact List.take_length, hml, hmL, hK', hgk, hro, hbw, Nat.le_refl _, Nat.le_refl _, hsw0⟩
    have hGc : GcR base s0 wr.heap.size N k l (.slice (some ⟨gu, 0, none⟩) NN cu) (.slice adx N cx) (.slice ao k co) x O L := ⟨hl, hlN, hxz, hbz, hsw, hxl, hul, fun i z' b hz hb => (by
      obtain ⟨hs9, q1, _⟩ := hgk i z' hz
      exact (row_lt q1 b hb).2), fun b hb => (row_lt hro b hb).2, hOl⟩
    obtain ⟨sz, hsz⟩ : ∃ sz, wr.heap.size = sz := ⟨_, rfl⟩
    rw [hsz] at hGs hGc
    have hsz2 : s0 ≤ sz := by omega
    have hlsz : lo ≤ sz := by omega
    clear hrel0 hfl hgk hro hl hml hmL hsz hK' hbw hsw hxz
    go_wp2
    clear mm c1
    go_loopw [5, 6] (fun a i wz => ∃ (n : Nat) (cur : List tRows), i = .int .i64 (n : Int) ∧ n ≤ 16 ∧ GsR base s0 sz lo N k l (.slice (some ⟨gu, 0, none⟩) NN cu) (.slice adx N cx) (.slice ao k co) x O L w wz a (N + n) cur) (fun _ i _ => 16 - vnat i)
    case atStart => exact ⟨0, l, rfl, by omega, hGs⟩
    case round =>
      clear hGs
      obtain ⟨n, cur, rfl, hn, hG⟩ := hrel
      have hloz : lo ≤ wr.heap.size := by have := hG.sz; omega
      obtain ⟨aa, ca, ea, _⟩ := rowForm hG.row
      subst ea
      have hbz2 : base ≤ wr.heap.size := by have := hG.sz; omega
      by_cases hn16 : n < 16
      · have hni : (n : Int) < 16 := by omega
        obtain ⟨M, hM⟩ : ∃ M, N + n = M := ⟨_, rfl⟩
        have HM : Hid (N + n = M) := hM
        rw [hM] at hG ⊢
        have hM2 : M ≤ 1000016 := by omega
        clear hM
        have hmk : Calls Tryz.prog 104 #[.int .i64 (k : Int), .int .i64 (M : Int), .int .i64 1] wr (fun e w' => ∃ v, e = .returned v ∧ ∃ hs, w'.ownsRow wr.heap.size 39 1 v 1 (fc cRows hs) ∧ MkR k M wr.heap.size hs w' ∧ Below wr.heap.size wr w') := markRows_any k M 1 (by omega) (by omega) (by omega) wr
        go_wp2_with (first | (go_at_call 104; (with_reducible refine hmk.mono ?_); rintro e va ⟨vm, rfl, HS, hrm, hmk9, hba⟩; have hHS := row_lh hrm; obtain ⟨gm, cm, em⟩ := rowSucc (n := 0) hrm; subst em; have hGa := hG.carry hba; have hsa := hba.size) | (at_builtin; refine wpList_append_two _ rfl _ _ 27 rfl base 39 ic _ 1 24 Tryz.underlying27 hic hz0 hz1 hz2 hz3 (by decide) _ M (fc cRows cur) rfl hGa.row ⟨gm, 0, none⟩ 1 cm (fc cRows HS) rfl (by rw [fc_len hsRows, hHS]) (FA.own hrm).src (fc_one h1Rows _) (by omega) (by unfold maxLen; omega) (by omega) (by omega) ?_; intro v' w2 hown' htwo; have hG2 := hGa.app hTT hGc (hmk9.low hloz) hHS hown' htwo))
        go_roundw
        case rel => exact ⟨n + 1, cur ++ HS, by simp, by omega, by have := HM.out; rw [show N + (n + 1) = M + 1 by omega]; exact hG2⟩
        case measure => simp [vnat]; omega
      · obtain rfl : n = 16 := by omega
        have hni : ¬ ((16 : Nat) : Int) < 16 := by omega
        obtain ⟨M, hM⟩ : ∃ M, N + 16 = M := ⟨_, rfl⟩
        rw [hM] at hG ⊢
        have hM2 : M ≤ 1000016 := by omega
        clear hM
        have hbs := bslRows
        have hmk : Calls Tryz.prog 104 #[.int .i64 (k : Int), .int .i64 (M : Int), .int .i64 80] wr (fun e w' => ∃ v, e = .returned v ∧ ∃ hs, w'.ownsRow wr.heap.size 39 1 v 80 (fc cRows hs) ∧ MkR k M wr.heap.size hs w' ∧ Below wr.heap.size wr w') := markRows_any k M 80 (by omega) (by omega) (by omega) wr
        go_wp2_with (first | (go_at_call 104; (with_reducible refine hmk.mono ?_); rintro e va ⟨vm, rfl, HS, hrm, hmk9, hba⟩; have hHS := row_lh hrm; obtain ⟨gm, cm, em⟩ := rowSucc (n := 79) hrm; subst em; have hGa := hG.carry hba; have hsa := hba.size) | (at_builtin; refine wpList_append_two _ rfl _ _ 27 rfl base 39 ic _ 1 24 Tryz.underlying27 hic hz0 hz1 hz2 hz3 (by decide) _ M (fc cRows cur) rfl hGa.row ⟨gm, 0, none⟩ 80 cm (fc cRows HS) rfl (by rw [fc_len hsRows, hHS]) (FA.own hrm).src (fc_one h1Rows _) (by omega) (by unfold maxLen; omega) (by omega) (by omega) ?_; intro v' w2 hown' htwo; obtain ⟨a', c', e', _⟩ := rowForm hown'; subst e'; have hG2 := hGa.app hTT hGc (hmk9.low hloz) hHS hown' htwo; have hz2' : sz ≤ w2.heap.size := hG2.sz; have hG3 := hG2.carry (al1 w2 (.cells #[.slice a' (M + 80) c'] 27))) | (at_builtin; refine wpList_append_own _ rfl _ _ 36 rfl s0 27 is _ 1 24 Tryz.underlying36 his hs0 hs1 hs2 rfl (by decide) _ k O rfl hG3.ro ⟨w2.heap.size, 0, none⟩ 1 1 [_] rfl rfl (newRows _ #[_] _) (by simp [Value.oneCell']) (by unfold maxLen; omega) (by omega) (by simp; omega) ?_; intro v2 w4 hown4 hgrow4 _))
        go_roundw
        case rel =>
          have hty : ∀ {z' : Value} {n : Nat} {ys : List Value} {b : Nat}, (w2.alloc (.cells #[.slice a' (M + 80) c'] 27)).ownsRow base 39 1 z' n ys → (Value.slice ao k co).ownBlock = some b → z'.ownBlock ≠ some b := fun hr e e2 => by
            obtain ⟨_, c5, q5⟩ := rowBlk hr _ e2
            exact row_type hG3.ro q5 (by decide) e
          have hblk : ∀ b, (Value.slice ao k co).ownBlock = some b → ∃ cur, (w2.alloc (.cells #[.slice a' (M + 80) c'] 27)).heap[b]? = some (.cells cur 27 (0, 0)) := fun b e => (rowBlk hG3.ro b e).2
          refine ⟨k + 1, O ++ [.slice a' (M + 80) c'], by simp, by omega, hown4, ?_, hG3.kn.off hgrow4 (fun b e e2 => ?_) (fun b e i z' hz e2 => ?_), hG3.ml.offO hgrow4 hblk (by decide), hG3.bl.grown hgrow4 (fun q e => .inr (by have := (row_lt hG3.ro q e).1; omega)), by have := hgrow4.size; simp at this; omega⟩
          · intro i z' hz
            rcases Nat.lt_or_ge i k with q | q
            · rw [List.getElem?_append_left (by omega)] at hz
              refine (hG3.gk.offO hgrow4 hblk (by decide) (fun b e i2 z2 hz2 => ?_)) i z' hz
              obtain ⟨hs2, r2, _⟩ := hG3.gk i2 z2 hz2
              exact hty r2 e
            · have hik : i = k := by
                have := (List.getElem?_eq_some_iff.1 hz).1
                simp at this
                omega
              subst hik
              rw [List.getElem?_append_right (by omega), hOl, Nat.sub_self] at hz
              cases hz
              have hlc := row_lh hG3.row
              refine ⟨cur ++ HS, by rw [hlc]; exact row_off hG3.row hgrow4 (fun b e => hty hG3.row e), hG3.mr.offO hgrow4 hblk (by decide), by omega, ?_⟩
              rcases hG3.rel with ⟨g, cap, q1, q2⟩ | q2 | q2
              · exact .inl ⟨_, hGc.xk, by rw [q1, q2]; rfl⟩
              · exact .inr (fun b e => by rw [q2] at e; cases e)
              · exact .inr (fun b e => by have := (row_lt q2 b e).1; omega)
          · have := hul b e2
            have := (row_lt hG3.ro b e).1
            omega
          · have := hxl i z' b hz e2
            have := (row_lt hG3.ro b e).1
            omega
        case measure => simp [vnat]; omega
end Go.Proofs.YtngjjcmoekeciaaGreatDoor.Kel
