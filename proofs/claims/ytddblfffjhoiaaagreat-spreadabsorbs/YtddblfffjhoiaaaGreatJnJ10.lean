/- The document's Absorb. -/
import Derived.Test.YtddblfffjhoiaaaGreatJnJ9
import Derived.Test.YtddblfffjhoiaaaGreatJnJ6
import Derived.Test.YtddblfffjhoiaaaGreatJnJ2
namespace Go.Proofs.YtddblfffjhoiaaaGreat
open Go.RowKit Go.Shelf Go.Lib

theorem made_form' {W : World} {base : Nat} {v : Value} {l : List N3} (h' : W.ownsRow base 66 3 v l.length (fl l)) : ∃ a c, v = .slice a l.length c ∧ W.ownsRow base 66 3 (.slice a l.length c) l.length (fl l) ∧ (a = none → c = 0) := by
  rcases own_form h' with ⟨e1, e2⟩ | ⟨g, cap, e1, _⟩
  · subst e1
    refine ⟨none, 0, by rw [e2], by rw [e2]; rw [e2] at h'; exact h', fun _ => rfl⟩
  · subst e1
    exact ⟨_, cap, rfl, h', fun e => by cases e⟩
theorem mrg_len2 (l m : List N3) : (mrg l m).length = l.length := by
  unfold mrg
  split
  · exact fold_rse_len m l
  · rfl
theorem rd_keep {W V : World} {ad : Option Addr} {l : List N3} (h : RdN W ad l) (hz : W.heap.size ≤ V.heap.size) (hk : l ≠ [] → ∀ a, ad = some a → V.heap[a.block]? = W.heap[a.block]?) : RdN V ad l := fun hne => by
  obtain ⟨bk, off, e, h1, h2⟩ := h hne
  have q : V.heap[bk]? = W.heap[bk]? := hk hne _ e
  refine ⟨bk, off, e, by omega, fun k x hx => ?_⟩
  obtain ⟨c0, c1, c2⟩ := h2 k x hx
  exact ⟨(World.cell?_of_block (a := ⟨bk, _, none⟩) q).trans c0, (World.cell?_of_block (a := ⟨bk, _, none⟩) q).trans c1, (World.cell?_of_block (a := ⟨bk, _, none⟩) q).trans c2⟩
/-- The document's Merge, of a book of any size. -/
theorem rmergeN {w : World} (ad : Option Addr) (n cap : Nat) (L : List N3) (hL : RdN w ad L) (hn : L.length = n) (h1 : n ≤ 100) (hcap : n ≤ cap) (hz : n = 0 → ad = none ∧ cap = 0) (ad2 : Option Addr) (cap2 : Nat) (m : List N3) (hm : RdN w ad2 m) (hz2 : n = 0 → ad2 = none ∧ cap2 = 0) (hv : m.all (vlx L.length) = true) (hl : m.length ≤ 1000000) : Calls Tryz.prog 22 #[.agg #[.slice ad n cap], .slice ad2 m.length cap2] w fun e w' => ∃ ad' cap', e = .returned (.tuple #[.agg #[.slice ad' n cap'], sv (mrs L m), .int .i64 0]) ∧ RdN w' ad' (mrg L m) ∧ n ≤ cap' ∧ (n = 0 → ad' = none ∧ cap' = 0) ∧ (ad' = ad ∨ ∀ a, ad' = some a → w.heap.size ≤ a.block ∧ ∃ cur, w'.heap[a.block]? = some (.cells cur 66 (0, 0))) ∧ Below w.heap.size w w' := by
  by_cases h0 : n = 0
  · obtain ⟨rfl, rfl⟩ := hz h0
    subst h0
    have hL0 : L = [] := List.length_eq_zero_iff.1 hn
    subst hL0
    have hm0 : m = [] := by
      cases m with
      | nil => rfl
      | cons x t =>
        rw [List.all_cons, List.length_nil, vlx0] at hv
        cases hv
    subst hm0
    obtain ⟨rfl, rfl⟩ := hz2 rfl
    refine (rmerge0 w).mono ?_
    rintro e w' ⟨rfl, hb⟩
    exact ⟨none, 0, by simp [mrs], fun e => absurd rfl e, Nat.le_refl _, fun _ => ⟨rfl, rfl⟩, .inl rfl, hb⟩
  · refine (rMerge_any ad n cap L hL hn (by omega) h1 hcap ad2 cap2 m hm (by omega)).mono ?_
    rintro e w' ⟨ad', cap', rfl, hr, hc, ho, hb⟩
    rw [if_pos hv]
    exact ⟨ad', cap', rfl, hr, hc, fun e => absurd e h0, ho, hb⟩
set_option maxHeartbeats 8000000 in
set_option maxRecDepth 100000 in
theorem rAbsorb_any {w : World} (ad : Option Addr) (n cap : Nat) (L : List N3) (hL : RdN w ad L) (hn : L.length = n) (h1 : n ≤ 100) (hcap : n ≤ cap) (hz : n = 0 → ad = none ∧ cap = 0) (self : Int) (ad2 : Option Addr) (cap2 : Nat) (m : List N3) (hm : RdN w ad2 m) (hl : m.length ≤ 1000000) (E : Int) (hE : (if m.all (vlx L.length) = true then (0 : Int) else 50) = E) : Calls Tryz.prog 9 #[.agg #[.slice ad n cap], .int .i64 self, .slice ad2 m.length cap2] w fun e w' => ∃ ad' cap', e = .returned (.tuple #[.agg #[.slice ad' n cap'], sv (abr L self m), .int .i64 E]) ∧ RdN w' ad' (abs L self m) ∧ n ≤ cap' ∧ (n = 0 → ad' = none ∧ cap' = 0) ∧ (ad' = ad ∨ ∀ a, ad' = some a → w.heap.size ≤ a.block ∧ ∃ cur, w'.heap[a.block]? = some (.cells cur 66 (0, 0))) ∧ Below w.heap.size w w' := by
  obtain ⟨ic, hic, hz0, hz1, hz2⟩ := info_partsN
  have hmx : Tryz.prog.follows .mixedOrders = true := by kernel_rfl
  obtain ⟨w1, hw1⟩ : ∃ w1, ((w.alloc (.cells #[.slice ad n cap] 27)).alloc (.cells #[.slice none 0 0] 27)).alloc (.cells #[.int .u32 0, .int .u32 0, .int .u32 0, .int .u32 0] 47) = w1 := ⟨_, rfl⟩
  have hb1 : Below w.heap.size w w1 := by rw [← hw1]; exact ((al1 _ _).alloc (by simp) _).alloc (by simp; omega) _
  have hzz : w1.heap.size = w.heap.size + 3 := by rw [← hw1]; simp
  have r0 : RB w1 w.heap.size (.slice ad n cap) := by rw [← hw1]; exact old_at (old_at (new_at rfl))
  have r1 : RB w1 (w.heap.size + 1) (.slice none 0 0) := by rw [← hw1]; exact old_at (new_at (by simp))
  have s2 : Holds4 w1 (w.heap.size + 2) (fun _ => 0) := by rw [← hw1]; exact new_at (by simp)
  have HZ : Hid (w1.heap.size = w.heap.size + 3) := hzz
  obtain ⟨M, hM⟩ : ∃ M, m.length = M := ⟨_, rfl⟩
  have HM : Hid (m.length = M) := hM
  have HR : Hid (RdN w ad2 m) := hm
  have HLR : Hid (RdN w ad L) := hL
  have HLN : Hid (L.length = n) := hn
  have HE : Hid ((if m.all (vlx L.length) = true then (0 : Int) else 50) = E) := hE
  have HZN : Hid (n = 0 → ad = none ∧ cap = 0) := hz
  rw [hM] at hl ⊢
  clear hM hm hL hn hE hzz hz
  go_enter Tryz.func9, Tryz.ntmps9
  go_wp2
  simp only [Nat.add_assoc, Nat.reduceAdd]
  go_loopw [9, 10] (fun c i wz => ∃ (k : Nat), i = .int .i64 k ∧ k ≤ M ∧ (m.take k).all (vlx n) = true ∧ (k = 0 → c = .slice none 0 0) ∧ wz.ownsRow w1.heap.size 66 3 c ((m.take k).filter (nm self)).length (fl ((m.take k).filter (nm self))) ∧ Below w1.heap.size w1 wz) (fun _ i _ => M - vnatR i)
  case atStart => exact ⟨0, rfl, Nat.zero_le _, rfl, fun _ => rfl, World.ownsRow_nil _ _ _ _, Below.refl _ _⟩
  case round =>
    obtain ⟨k, rfl, hk, hall, hk0, hrow, hbr⟩ := hrel
    have HK : Hid ((m.take k).all (vlx n) = true) := hall
    have HK0 : Hid (k = 0 → u9 = .slice none 0 0) := hk0
    clear hall hk0
    have t0 := r0.carry hbr
    have c0 := t0.cell
    by_cases hkl : k < M
    · have hki : (k : Int) < (M : Int) := by omega
      have hkl1 : k < m.length := by rw [HM.out]; exact hkl
      obtain ⟨⟨o, t, q⟩, hx⟩ : ∃ x, m[k]? = some x := ⟨_, List.getElem?_eq_getElem hkl1⟩
      obtain ⟨gb, off, rfl, hgl, hat⟩ := ((HR.out.carry hb1).carry hbr) (fun e => by rw [e] at hkl1; simp at hkl1)
      have HX : Hid (m[k]? = some (o, t, q)) := hx
      have hva := rValid_any (n : Int) o t q
      have HVX : Hid (vlx n (o, t, q) = vl (n : Int) o t q) := rfl
      generalize vl (n : Int) o t q = B at hva HVX
      clear hx hkl1
      have hjc : ∀ {V V' : World}, (RB V w.heap.size (.slice ad n cap) ∧ NtsAt V gb off m ∧ Below wr.heap.size wr V) → Below V.heap.size V V' → (RB V' w.heap.size (.slice ad n cap) ∧ NtsAt V' gb off m ∧ Below wr.heap.size wr V') := fun h hb => ⟨h.1.carry hb, h.2.1.carry (Nat.lt_of_lt_of_le hgl h.2.2.size) hb, bel2 h.2.2 hb⟩
      go_wp2
      rename_i Q0 K0 hK
      refine wp_region_any hmx ?_
      refine wpAny_pure (fun i__ => ([(.pointer (some ⟨w.heap.size, 0, none⟩)), (.slice ad n cap), (.int .i64 (n : Int)), (.slice (some ⟨gb, off, none⟩) M cap2), (.int .i64 (k : Int)), (.pointer (some ⟨gb, off + k * 3, none⟩)), (nt o t q), (.bool B), (.bool (!B))] : List Value).getD i__ undef) (fun V => RB V w.heap.size (.slice ad n cap) ∧ NtsAt V gb off m ∧ Below wr.heap.size wr V) (by kernel_rfl) (hjc ⟨t0, hat, Below.refl _ _⟩ (Below.refl _ _).drew) ?_ ?_
      · refine (stepsFrom_cons ?_ (stepsFrom_cons ?_ (stepsFrom_cons ?_ (stepsFrom_cons ?_ (stepsFrom_cons ?_ (stepsFrom_cons ?_ (stepsFrom_cons ?_ (stepsFrom_cons ?_ (stepsFrom_cons ?_ trivial)))))))))
        · exact step_fieldAddr rfl trivial _ _ _ _ rfl rfl (fun w hw => field_rb w _)
        · exact step_load rfl trivial _ _ _ rfl rfl (fun w hw => load_rb hw.1)
        · exact step_bi rfl trivial _ _ _ [(.slice ad n cap)] rfl (by kernel_rfl) (fun bs w hw => bi_lenN _ bs _ _ _ w)
        · exact step_move rfl trivial _ rfl (by kernel_rfl)
        · exact step_move rfl trivial _ rfl (by kernel_rfl)
        · exact step_indexAddr rfl trivial _ _ _ _ _ rfl rfl rfl (fun w hw => idx_n gb off M cap2 k hkl w)
        · exact step_load rfl trivial _ _ _ rfl rfl (fun w hw => load_at hw.2.1 HX.out)
        · exact step_call rfl trivial 29 _ _ [(.int .i64 (n : Int)), (nt o t q)] rfl (by kernel_rfl) (enters_of Tryz.func29 (by kernel_rfl) rfl) (fun w hw => (hva w).mono (by rintro e w' ⟨rfl, hb⟩; exact ⟨rfl, hjc hw hb⟩))
        · exact step_unOp rfl trivial _ _ _ _ rfl rfl (fun w hw => un_not _ w)
      intro W hW
      first | refine hK _ _ ?_ | refine (‹∀ (a : Act) (w : World), Code.wp Tryz.prog _ _ a w → _›) _ _ ?_
      simp only [finL, List.getD_cons_zero, List.getD_cons_succ, Nat.zero_add, Nat.reduceAdd, List.setIfInBounds_toArray, List.set_cons_zero, List.set_cons_succ]
      obtain ⟨t1, hat1, hbW⟩ := hW
      have hrowW := row_below hrow hbW
      have hbw := bel2 hbr hbW
      have d0 := t1.cell
      obtain ⟨e0, e1, e2⟩ := hat1 k _ HX.out
      dsimp only at e0 e1 e2
      cases B with
      | false =>
        have k1 := r1.carry hbw
        have k2 := s2.carry hbw
        obtain ⟨y0, y1, y2, y3, z2, z3, z4, z5⟩ := k2.facts
        have HNA : Hid (m.all (vlx L.length) = false) := by
          show _ = _
          rw [HLN.out, Bool.eq_false_iff]
          intro e
          have := List.all_eq_true.1 e _ (List.mem_of_getElem? HX.out)
          rw [HVX.out] at this
          cases this
        obtain rfl : (50 : Int) = E := by rw [← HE.out, if_neg (by rw [HNA.out]; decide)]
        clear hva hK
        go_wp2_with (refine wpList_store_row rfl 27 (.tmp 6) (.tmp 26) rfl (w.heap.size + 1) #[.slice ad n cap] rfl rfl 27 _ k1 infoR1 rfl (by simp [Value.oneCell']) ?_; obtain ⟨y, hy⟩ : ∃ x, W.setRow (w.heap.size + 1) #[.slice ad n cap] = x := ⟨_, rfl⟩; have j1 : RB y (w.heap.size + 1) (.slice ad n cap) := (by rw [← hy]; exact setRow_heap _ _ _ _ _ _ k1); have j2 : Holds4 y (w.heap.size + 2) (fun _ => 0) := (by rw [← hy]; exact (setRow_other (by omega)).trans k2); have hyb : Below w.heap.size w y := (by rw [← hy]; exact below_sr (bel2 hb1 hbw) (by omega)); rw [hy]; obtain ⟨g0, g1, g2, g3, g4, g5, g6, g7⟩ := j2.facts)
        refine retRst (M := 0) (x := .int .i64 50) rfl rfl rfl rfl rfl (rb_ne4 (M := 0) j1 (by omega)) (fin4 j2 0) ?_
        have hAB : abs L self m = L ∧ abr L self m = 0 := by
          unfold abs abr
          rw [if_neg (by rw [HNA.out]; decide), if_neg (by rw [HNA.out]; decide)]
          exact ⟨rfl, rfl⟩
        rw [hAB.1, hAB.2]
        have hyb' : Below w.heap.size w (set4 y (w.heap.size + 2) 0) := below4 hyb (by omega) 0
        exact ⟨_, _, rfl, HLR.out.carry hyb', hcap, HZN.out, .inl rfl, hyb'⟩
      | true =>
        have HK1 : Hid ((m.take (k + 1)).all (vlx n) = true) := by
          show _ = _
          rw [List.take_add_one, HX.out, List.all_append, HK.out]
          simpa using HVX.out
        have HT : Hid ((m.take (k + 1)).filter (nm self) = if nm self (o, t, q) = true then (m.take k).filter (nm self) ++ [(o, t, q)] else (m.take k).filter (nm self)) := by
          show _ = _
          rw [List.take_add_one, HX.out, Option.toList_some, filter_snoc]
        have hfl : ((m.take k).filter (nm self)).length ≤ k := Nat.le_trans (List.length_filter_le _ _) (by simp; omega)
        clear hva hK
        by_cases ho : o = self
        · by_cases hq : q = 1
          · have HNM : Hid (nm self (o, t, q) = false) := by show _ = _; simp [nm, ho, hq]
            have hob : (o != self) = false := by simpa using ho
            have hqb : (q != 1) = false := by simpa using hq
            clear ho hq
            go_wp2
            go_roundw
            case rel =>
              refine ⟨k + 1, by simp, by omega, HK1.out, fun e => (by omega), ?_, hbw⟩
              rw [HT.out, HNM.out, if_neg (by decide)]
              exact hrowW
            case measure => simp [vnatR]; omega
          · have HNM : Hid (nm self (o, t, q) = true) := by show _ = _; simp [nm, hq]
            have hob' : (o != self) = false := by simpa using ho
            have hqb : (q != 1) = true := by simpa using hq
            clear ho hq
            go_wp2_with (at_builtin; refine wpList_append_own_at _ rfl _ _ 22 rfl w1.heap.size 66 ic _ 3 24 Tryz.underlying22 hic hz0 hz1 hz2 rfl (by decide) _ ((m.take k).filter (nm self)).length (fl ((m.take k).filter (nm self))) rfl (hrowW.alloc _) ⟨W.heap.size, 0, none⟩ 1 1 [_, _, _] rfl rfl (rowN _ #[_, _, _] _) (by simp [Value.oneCell']) (by unfold maxLen; omega) (by omega) (Nat.le_trans hbw.size (by simp)) ?_; intro v' w2 hown' hgrow _ hob)
            go_roundw
            case rel =>
              refine ⟨k + 1, by simp, by omega, HK1.out, fun e => (by omega), ?_, (hbw.alloc hbw.size _).grown hgrow (by have := hbw.size; simp; omega) (fun q hq' => own_block hrowW q hq')⟩
              rw [HT.out, HNM.out, if_pos rfl, fl_append, List.length_append]
              exact hown'
            case measure => simp [vnatR]; omega
        · have HNM : Hid (nm self (o, t, q) = true) := by show _ = _; simp [nm, ho]
          have hob' : (o != self) = true := by simpa using ho
          clear ho
          go_wp2_with (at_builtin; refine wpList_append_own_at _ rfl _ _ 22 rfl w1.heap.size 66 ic _ 3 24 Tryz.underlying22 hic hz0 hz1 hz2 rfl (by decide) _ ((m.take k).filter (nm self)).length (fl ((m.take k).filter (nm self))) rfl (hrowW.alloc _) ⟨W.heap.size, 0, none⟩ 1 1 [_, _, _] rfl rfl (rowN _ #[_, _, _] _) (by simp [Value.oneCell']) (by unfold maxLen; omega) (by omega) (Nat.le_trans hbw.size (by simp)) ?_; intro v' w2 hown' hgrow _ hob)
          go_roundw
          case rel =>
            refine ⟨k + 1, by simp, by omega, HK1.out, fun e => (by omega), ?_, (hbw.alloc hbw.size _).grown hgrow (by have := hbw.size; simp; omega) (fun q hq' => own_block hrowW q hq')⟩
            rw [HT.out, HNM.out, if_pos rfl, fl_append, List.length_append]
            exact hown'
          case measure => simp [vnatR]; omega
    · have hkk : k = M := by omega
      subst hkk
      have HAL : Hid (m.all (vlx L.length) = true) := by
        have := HK.out
        rw [List.take_of_length_le (by rw [HM.out]; exact Nat.le_refl _)] at this
        rw [HLN.out]
        exact this
      obtain rfl : (0 : Int) = E := by rw [← HE.out, if_pos HAL.out]
      rw [List.take_of_length_le (by rw [HM.out]; exact Nat.le_refl _)] at hrow
      have HFA : Hid ((m.filter (nm self)).all (vlx L.length) = true) := all_filter _ HAL.out
      have hfl : (m.filter (nm self)).length ≤ 1000000 := Nat.le_trans (List.length_filter_le _ _) (by rw [HM.out]; exact hl)
      obtain ⟨a9, c9, rfl, hr9, hc9⟩ := made_form' hrow
      have hz9 : n = 0 → a9 = none ∧ c9 = 0 := fun e => by
        have hk0 : k = 0 := by
          cases k with
          | zero => rfl
          | succ k =>
            exfalso
            have h2 := HAL.out
            rw [HLN.out, e] at h2
            have hne : m ≠ [] := fun e2 => by have := HM.out; rw [e2] at this; simp at this
            obtain ⟨x, hx⟩ := List.exists_mem_of_ne_nil m hne
            have := List.all_eq_true.1 h2 x hx
            rw [vlx0] at this
            cases this
        have := HK0.out hk0
        simp only [Value.slice.injEq] at this
        exact ⟨this.1, this.2.2⟩
      have hmg := rmergeN (w := wr) ad n cap L ((HLR.out.carry hb1).carry hbr) HLN.out h1 hcap HZN.out a9 c9 (m.filter (nm self)) (own_rdn hr9) hz9 HFA.out hfl
      unfold sv at hmg
      have k1 := r1.carry hbr
      have k2 := s2.carry hbr
      go_wp2_with (first
        | (go_at_call 22; (with_reducible refine hmg.mono ?_); rintro e u ⟨ad', cap', rfl, hrd', hcp', hz', hor', hbu⟩; have j1 := k1.carry hbu; have j2 := k2.carry hbu)
        | (refine wpList_store_row rfl 27 (.tmp 6) (.tmp 53) rfl (w.heap.size + 1) #[.slice ad' n cap'] rfl rfl 27 _ j1 infoR1 rfl (by simp [Value.oneCell']) ?_; obtain ⟨y, hy⟩ : ∃ x, u.setRow (w.heap.size + 1) #[.slice ad' n cap'] = x := ⟨_, rfl⟩; have i1 : RB y (w.heap.size + 1) (.slice ad' n cap') := (by rw [← hy]; exact setRow_heap _ _ _ _ _ _ j1); have i2 : Holds4 y (w.heap.size + 2) (fun _ => 0) := (by rw [← hy]; exact (setRow_other (by omega)).trans j2); have hyb : Below w.heap.size w y := (by rw [← hy]; exact below_sr (bel2 hb1 (bel2 hbr hbu)) (by omega)); rw [hy]; obtain ⟨g0, g1, g2, g3, g4, g5, g6, g7⟩ := i2.facts))
      refine retRst (M := mrs L (m.filter (nm self))) (x := .int .i64 0) rfl rfl rfl rfl rfl (rb_ne4 i1 (by omega)) (fin4 i2 _) ?_
      have hAB : abs L self m = mrg L (m.filter (nm self)) ∧ abr L self m = mrs L (m.filter (nm self)) := by
        unfold abs abr
        rw [if_pos HAL.out, if_pos HAL.out]
        exact ⟨rfl, rfl⟩
      rw [hAB.1, hAB.2]
      have hyb' : Below w.heap.size w (set4 y (w.heap.size + 2) (mrs L (m.filter (nm self)))) := below4 hyb (by omega) _
      have hzr := HZ.out
      have hsr := hbr.size
      have hbl : mrg L (m.filter (nm self)) ≠ [] → ∀ a, ad' = some a → a.block ≠ w.heap.size + 1 ∧ a.block ≠ w.heap.size + 2 := fun hne a e => by
        rcases hor' with h | h
        · have hL : L ≠ [] := fun e2 => hne (List.length_eq_zero_iff.1 (by rw [mrg_len2, e2]; rfl))
          obtain ⟨b, off, e3, hb, _⟩ := HLR.out hL
          rw [h, e3] at e
          cases e
          exact ⟨by simp only; omega, by simp only; omega⟩
        · have := (h a e).1
          exact ⟨by omega, by omega⟩
      have hkp : ∀ b, b ≠ w.heap.size + 1 → b ≠ w.heap.size + 2 → (set4 y (w.heap.size + 2) (mrs L (m.filter (nm self)))).heap[b]? = u.heap[b]? := fun b n1 n2 => by
        rw [← hy]
        unfold set4
        rw [Below.heap_setCell _ _ _ _ n2, Below.heap_setCell _ _ _ _ n2, Below.heap_setCell _ _ _ _ n2, Below.heap_setCell _ _ _ _ n2]
        exact setRow_other n1
      refine ⟨_, _, rfl, ?_, hcp', hz', hor'.imp id (fun h a e => ⟨by have := (h a e).1; omega, ?_⟩), hyb'⟩
      rotate_left
      · obtain ⟨h3, cur, h4⟩ := h a e
        exact ⟨cur, (hkp _ (by omega) (by omega)).trans h4⟩
      refine rd_keep hrd' ?_ (fun hne a e => ?_)
      · rw [← hy]
        simp [World.setRow]
      · obtain ⟨n1, n2⟩ := hbl hne a e
        exact hkp _ n1 n2
end Go.Proofs.YtddblfffjhoiaaaGreat
namespace Go.Proofs.YtddblfffjhoiaaaGreat
open Go.RowKit Go.Shelf Go.Lib
attribute [local go_sem] Oper.semAt_some

theorem load_pv {W : World} {bx : Nat} {a : Option Addr} (h : W.heap[bx]? = some (.cells #[.pointer a] 25 (0, 0))) : (Instr.loadAt 25 (.pointer (some ⟨bx, 0, none⟩))).run Tryz.prog W = .ok (.pointer a) W := by
  have c0 := cell_at h 0
  simp at c0
  go_simp
set_option maxHeartbeats 4000000 in
set_option maxRecDepth 100000 in
theorem emerge_any {w : World} {a : Option Addr} (h : EB w (.pointer a)) (ad : Option Addr) (cap : Nat) (l : List N3) (hl : RdN w ad l) : Calls Tryz.prog 21 #[.pointer a, .slice ad l.length cap] w fun e w' => e = .returned (.tuple #[sv 0, .int .i64 (if 0 < l.length then 50 else 0)]) ∧ Below w.heap.size w w' := by
  have hmx : Tryz.prog.follows .mixedOrders = true := by kernel_rfl
  have hb0 := al2 w (.cells #[.pointer a] 25) (.cells #[.int .u32 0, .int .u32 0, .int .u32 0, .int .u32 0] 47)
  have hbx : ((w.alloc (.cells #[.pointer a] 25)).alloc (.cells #[.int .u32 0, .int .u32 0, .int .u32 0, .int .u32 0] 47)).heap[w.heap.size]? = some (.cells #[.pointer a] 25 (0, 0)) := old_at (new_at rfl)
  have hrs : Holds4 ((w.alloc (.cells #[.pointer a] 25)).alloc (.cells #[.int .u32 0, .int .u32 0, .int .u32 0, .int .u32 0] 47)) (w.heap.size + 1) (fun _ => 0) := new_at (by simp)
  cases l with
  | nil =>
    go_enter Tryz.func21, Tryz.ntmps21
    go_wp2
    refine wp_loop_once ?_
    go_wp2
    refine wp_loop_once ?_
    have HR : Hid (Holds4 (((w.alloc (.cells #[.pointer a] 25)).alloc (.cells #[.int .u32 0, .int .u32 0, .int .u32 0, .int .u32 0] 47)).alloc (.cells #[.int .u32 0, .int .u32 0, .int .u32 0, .int .u32 0] 47)) (w.heap.size + 1) (fun _ => 0)) := hrs.carry (al1 _ _)
    obtain ⟨y0, y1, y2, y3, z0, z1, z2, z3⟩ := HR.out.facts
    clear hrs
    go_wp2
    exact ret4t (M := 0) (x := .int .i64 0) rfl rfl rfl rfl (HR.out.congr (fun j _ => (wd_zero j).symm)) ⟨rfl, al3 _ _ _ _⟩
  | cons x r =>
    obtain ⟨o, t, q⟩ := x
    obtain ⟨b, off, rfl, hbl, hat⟩ := hl (by simp)
    have hva := valid_any 0 o t q
    rw [show vl 0 o t q = false from decide_eq_false (by omega)] at hva
    have hat2 := hat.carry hbl hb0
    obtain ⟨c0, c1, c2⟩ := hat2 0 (o, t, q) rfl
    dsimp only at c0 c1 c2
    simp only [Nat.zero_mul, Nat.add_zero] at c0 c1 c2
    have heb := (h.carry hb0).carry (al1 _ (.cells #[.int .i64 o, .int .i64 t, .int .i64 q] 66))
    have hn1 := NB.new ((w.alloc (.cells #[.pointer a] 25)).alloc (.cells #[.int .u32 0, .int .u32 0, .int .u32 0, .int .u32 0] 47)) o t q
    simp only [World.size_alloc] at hn1
    have hb1 := hb0.alloc hb0.size (.cells #[.int .i64 o, .int .i64 t, .int .i64 q] 66)
    have hbx1 := old_at (o := .cells #[.int .i64 o, .int .i64 t, .int .i64 q] 66) hbx
    have hrs1 := hrs.carry (al1 _ (.cells #[.int .i64 o, .int .i64 t, .int .i64 q] 66))
    have hlp : (0 : Int) < ((r.length + 1 : Nat) : Int) := by omega
    have hbu : b < w.heap.size + 2 := by omega
    clear h hl hat hat2 hbx hrs hb0
    go_enter Tryz.func21, Tryz.ntmps21
    go_wp2
    refine wp_loop_once ?_
    go_wp2
    rename_i Q0 K0 hK
    refine wp_region_any hmx ?_
    refine wpAny_pure (fun i__ => ([(.pointer a), (.int .i64 0), (nt o t q), (.bool false), (.bool true)] : List Value).getD i__ undef) (fun V => NB V (w.heap.size + 1 + 1) o t q ∧ EB V (.pointer a) ∧ V.heap[w.heap.size]? = some (.cells #[.pointer a] 25 (0, 0)) ∧ Holds4 V (w.heap.size + 1) (fun _ => 0) ∧ Below w.heap.size w V) (by kernel_rfl) ⟨hn1.carry (Below.refl _ _).drew, heb.carry (Below.refl _ _).drew, hbx1, hrs1.carry (Below.refl _ _).drew, hb1.drew⟩ ?_ ?_
    · refine (stepsFrom_cons ?_ (stepsFrom_cons ?_ (stepsFrom_cons ?_ (stepsFrom_cons ?_ (stepsFrom_cons ?_ trivial)))))
      · exact step_load rfl trivial _ _ _ rfl rfl (fun w hw => load_pv hw.2.2.1)
      · exact step_call rfl trivial 24 _ _ [(.pointer a)] rfl (by kernel_rfl) (enters_of Tryz.func24 (by kernel_rfl) rfl) (fun w hw => (esize_any hw.2.1).mono (by rintro e w' ⟨rfl, hb⟩; exact ⟨rfl, hw.1.carry hb, hw.2.1.carry hb, (hb.block _ (lt_at hw.2.2.1)).trans hw.2.2.1, hw.2.2.2.1.carry hb, bel2 hw.2.2.2.2 hb⟩))
      · exact step_load rfl trivial _ _ _ rfl rfl (fun w hw => load_nt hw.1)
      · exact step_call rfl trivial 90 _ _ [(.int .i64 0), (nt o t q)] rfl (by kernel_rfl) (enters_of Tryz.func90 (by kernel_rfl) rfl) (fun w hw => (hva w).mono (by rintro e w' ⟨rfl, hb⟩; exact ⟨rfl, hw.1.carry hb, hw.2.1.carry hb, (hb.block _ (lt_at hw.2.2.1)).trans hw.2.2.1, hw.2.2.2.1.carry hb, bel2 hw.2.2.2.2 hb⟩))
      · exact step_unOp rfl trivial _ _ _ _ rfl rfl (fun w hw => un_not false w)
    intro W hW
    first | refine hK _ _ ?_ | refine (‹∀ (a : Act) (w : World), Code.wp Tryz.prog _ _ a w → _›) _ _ ?_
    simp only [finL, List.getD_cons_zero, List.getD_cons_succ, Nat.zero_add, Nat.reduceAdd, List.setIfInBounds_toArray, List.set_cons_zero, List.set_cons_succ]
    obtain ⟨_, _, _, hrs2, hb2⟩ := hW
    have HR : Hid (Holds4 W (w.heap.size + 1) (fun _ => 0)) := hrs2
    obtain ⟨y0, y1, y2, y3, z0, z1, z2, z3⟩ := HR.out.facts
    clear hK hrs2 hn1 heb hbx1 hrs1 hb1 hva c0 c1 c2
    go_wp2
    exact ret4t (M := 0) (x := .int .i64 50) rfl rfl rfl rfl (fin4 HR.out 0) ⟨rfl, below4 hb2 (by omega) 0⟩
theorem NK.carry {σ : Sg} {base bb : Nat} {W V : World} (h : NK σ base bb W) (hb : Below W.heap.size W V) : NK σ base bb V := by
  obtain ⟨hs, k, x, y, L, hx, hl, hL⟩ := h
  exact ⟨fun b q => Nat.lt_of_lt_of_le (hs b q) hb.size, k, x, y, L, hx.carry hb, hl, hL.carry (fun g cur _ hc => (hb.block g (lt_at hc)).trans hc)⟩
theorem NK.grown {σ : Sg} {base bb : Nat} {W V : World} {q : Nat} {cur : Array Value} {t : TypeId} {fz : Nat × Nat} (h : NK σ base bb W) (ho : W.heap[q]? = some (.cells cur t fz)) (h1 : t ≠ 43) (h2 : t ≠ 22) (h3 : t ≠ 66 ∨ σ q) (hg : W.grownBy V (some q)) : NK σ base bb V := by
  obtain ⟨hs, k, x, y, L, ⟨u, v, hk, hkb, h6, h7, hap, hbb⟩, hl, hL⟩ := h
  refine ⟨fun b q => Nat.lt_of_lt_of_le (hs b q) hg.size, k, x, y, L, ⟨u, v, hk, (hg.block _ (lt_at hkb) (fun e => ?_)).trans hkb, row_apart2 h6 hg (fun b e => ?_), row_apart2 h7 hg (fun b e => ?_), hap, hbb⟩, hl, hL.carry (fun g cur' hsg hc => (hg.block g (lt_at hc) (fun e => by
    have e := Option.some.inj e
    rw [e] at hc hsg
    have := hc.symm.trans ho
    simp only [Option.some.injEq, Obj.cells.injEq] at this
    rcases h3 with h3 | h3
    · exact h3 this.2.1.symm
    · exact hsg h3)).trans hc)⟩
  · have e := Option.some.inj e
    subst e
    have := hkb.symm.trans ho
    simp only [Option.some.injEq, Obj.cells.injEq] at this
    exact h1 this.2.1.symm
  · obtain rfl := Option.some.inj e
    exact row_free h6 ho h2
  · obtain rfl := Option.some.inj e
    exact row_free h7 ho h2
set_option maxHeartbeats 4000000 in
set_option maxRecDepth 100000 in
theorem absorbN_any {w : World} (self : Int) (ad : Option Addr) (cap : Nat) (m : List N3) (hm : RdN w ad m) (hl : m.length ≤ 1000000) : Calls Tryz.prog 8 #[.pointer none, .int .i64 self, .slice ad m.length cap] w fun e w' => e = .returned (.tuple #[sv (abr [] self m), .int .i64 (if m.all (vlx 0) = true then 0 else 50)]) ∧ Below w.heap.size w w' := by
  obtain ⟨w1, hw1⟩ : ∃ w1, (w.alloc (.cells #[.int .i64 self] 3)).alloc (.cells #[.int .u32 0, .int .u32 0, .int .u32 0, .int .u32 0] 47) = w1 := ⟨_, rfl⟩
  have hb1 : Below w.heap.size w w1 := by rw [← hw1]; exact al2 _ _ _
  have hz1 : w1.heap.size = w.heap.size + 2 := by rw [← hw1]; simp
  have HZ1 : Hid (w1.heap.size = w.heap.size + 2) := hz1
  have hs1 : w1.heap[w.heap.size]? = some (.cells #[.int .i64 self] 3 (0, 0)) := by rw [← hw1]; exact old_at (new_at rfl)
  have hr1 : Holds4 w1 (w.heap.size + 1) (fun _ => 0) := by rw [← hw1]; exact new_at (by simp)
  clear hz1
  have hsz := esize_any (w := w1) (.inl rfl)
  generalize hA : m.all (vlx 0) = A
  have HA : Hid (m.all (vlx 0) = A) := hA
  have HR : Hid (abr [] self m = if A = true then mrs [] (m.filter (nm self)) else 0) := by show _ = _; unfold abr; rw [List.length_nil, hA]
  clear hA
  cases A with
  | false =>
    go_enter Tryz.func8, Tryz.ntmps8
    go_wp2_with (first | (go_at_call 24; (with_reducible refine hsz.mono ?_); rintro e u2 ⟨rfl, hb2⟩; have hav := allv_any (0 : Int) ad cap m u2 ((hm.carry hb1).carry hb2) (by omega); have hva : m.all (vln (0 : Int)) = false := HA.out; rw [hva] at hav; clear hva) | (go_at_call 23; (with_reducible refine hav.mono ?_); rintro e u3 ⟨rfl, hb3⟩; have hr3 := (hr1.carry hb2).carry hb3; obtain ⟨x0, x1, x2, x3, y0, y1, y2, y3⟩ := hr3.facts))
    refine ret4t (M := 0) (x := .int .i64 50) rfl rfl rfl rfl (fin4 hr3 0) ?_
    rw [HR.out, if_neg (by decide)]
    have hbb : Below w.heap.size w u3 := bel2 (bel2 hb1 hb2) hb3
    exact ⟨rfl, below4 hbb (by omega) 0⟩
  | true =>
    have HF0 : Hid ((m.filter (nm self)).length = 0) := by
      show _ = _
      have hm0 : m = [] := by
        cases m with
        | nil => rfl
        | cons x t =>
          have := HA.out
          rw [List.all_cons, vlx0] at this
          cases this
      rw [hm0]
      rfl
    have hfl : (m.filter (nm self)).length ≤ 1000000 := Nat.le_trans (List.length_filter_le _ _) hl
    go_enter Tryz.func8, Tryz.ntmps8
    go_wp2_with (first | (go_at_call 24; (with_reducible refine hsz.mono ?_); rintro e u2 ⟨rfl, hb2⟩; have hav := allv_any (0 : Int) ad cap m u2 ((hm.carry hb1).carry hb2) (by omega); have hva : m.all (vln (0 : Int)) = true := HA.out; rw [hva] at hav; clear hva) | (go_at_call 23; (with_reducible refine hav.mono ?_); rintro e u3 ⟨rfl, hb3⟩; have hvs := vals_any u3 ad m.length cap) | (go_at_call 28; (with_reducible refine hvs.mono ?_); rintro e u4 ⟨rfl, hv4, hb4⟩; have hps := pass_any u4 101 25 #[.pointer (some ⟨u3.heap.size, 0, none⟩)] #[.pointer (some ⟨w.heap.size, 0, none⟩)]) | (go_at_call 27; (with_reducible refine hps.mono ?_); rintro e u5 ⟨rfl, hp5, hq5, hb5⟩; have hbb : Below w1.heap.size w1 u5 := bel2 (bel2 (bel2 hb2 hb3) hb4) hb5; have hs5 := (hbb.block _ (lt_at hs1)).trans hs1; have hm5 := (hm.carry hb1).carry hbb; have hsq := passV_seq (w := u5) m u4.heap.size (u4.heap.size + 1) u3.heap.size w.heap.size w.heap.size (nm self) _ (fun W => W.heap[w.heap.size]? = some (.cells #[.int .i64 self] 3 (0, 0))) (vals_seq m u3.heap.size w.heap.size ad cap u5 (by omega) ((hb5.block _ (lt_at hv4)).trans hv4)) hp5 (lt_at hs5) (fun x _ W hW => own1_any w.heap.size self x.1 x.2.1 x.2.2 hW); have hco := collect_any u4.heap.size (u4.heap.size + 1) hsq (lt_at hs5) (fun W hW => ⟨hm5.carry hW, (hW.block _ (lt_at hs5)).trans hs5, (hW.block _ (lt_at hq5)).trans hq5⟩) hfl; clear hsq) | (go_at_call 26; (with_reducible refine hco.mono ?_); rintro e u6 ⟨v, rfl, hmd, hb6⟩; obtain ⟨ad6, cap6, rfl, hrd, hnew⟩ := hmd.rd; have hb16 : Below w1.heap.size w1 u6 := bel2 hbb hb6; have hmg := emerge_any (w := u6) (a := none) (.inl rfl) ad6 cap6 (m.filter (nm self)) hrd; rw [if_neg (by rw [HF0.out]; decide)] at hmg; unfold sv at hmg) | (go_at_call 21; (with_reducible refine hmg.mono ?_); rintro e u7 ⟨rfl, hb7⟩; have hr6 := hr1.carry hb16; have hr7 := hr6.carry hb7; obtain ⟨x0, x1, x2, x3, y0, y1, y2, y3⟩ := hr7.facts))
    refine ret4t (M := 0) (x := .int .i64 0) rfl rfl rfl rfl (fin4 hr7 0) ?_
    rw [HR.out]
    simp only [if_true]
    rw [List.length_eq_zero_iff.1 HF0.out]
    exact ⟨rfl, below4 (bel2 (bel2 hb1 hb16) hb7) (by omega) 0⟩
/-- A book that is handed in, with its list's block: nil, or one that has l. -/
def BQ (W : World) (v : Value) (q : Option Nat) (l : List N3) : Prop := (v = .pointer none ∧ q = none ∧ l = []) ∨ ∃ p g, v = .pointer (some ⟨p, 0, none⟩) ∧ q = some g ∧ Bk W p g l ∧ 0 < l.length ∧ l.length ≤ 100 ∧ Bok l
theorem BQ.carry {W V : World} {v : Value} {q : Option Nat} {l : List N3} (h : BQ W v q l) (hb : Below W.heap.size W V) : BQ V v q l := by
  rcases h with h | ⟨p, g, e, e2, h, h1⟩
  · exact .inl h
  · exact .inr ⟨p, g, e, e2, h.carry hb, h1⟩
theorem BQ.val {W : World} {v : Value} {q : Option Nat} {l : List N3} (h : BQ W v q l) : BV W v l := by
  rcases h with ⟨e, _, e2⟩ | ⟨p, g, e, _, h, h1⟩
  · exact .inl ⟨e, e2⟩
  · exact .inr ⟨p, g, e, h, h1⟩
theorem abs_nil (self : Int) (m : List N3) : abs [] self m = [] := by
  have := mrg_len2 [] (m.filter (nm self))
  unfold abs
  split
  · exact List.length_eq_zero_iff.1 this
  · rfl
theorem absorbQ_any {w : World} {v : Value} {q : Option Nat} {l : List N3} (h : BQ w v q l) (self : Int) (ad : Option Addr) (cap : Nat) (m : List N3) (hm : RdN w ad m) (hl : m.length ≤ 1000000) : Calls Tryz.prog 8 #[v, .int .i64 self, .slice ad m.length cap] w fun e w' => e = .returned (.tuple #[sv (abr l self m), .int .i64 (if m.all (vlx l.length) = true then 0 else 50)]) ∧ BQ w' v q (abs l self m) ∧ w.grownBy w' q := by
  rcases h with ⟨rfl, rfl, rfl⟩ | ⟨p, g, rfl, rfl, h, h0, h1, hb⟩
  · refine (absorbN_any self ad cap m hm hl).mono ?_
    rintro e w' ⟨rfl, hb⟩
    rw [abs_nil]
    exact ⟨rfl, .inl ⟨rfl, rfl, rfl⟩, ⟨hb.os, hb.tape, hb.output, hb.size, fun k hk _ => hb.block k hk⟩⟩
  · refine (absorb_any h self ad cap m hm hl).mono ?_
    rintro e w' ⟨rfl, hk, hg⟩
    exact ⟨rfl, .inr ⟨p, g, rfl, rfl, hk, by rw [abs_len hb]; exact h0, by rw [abs_len hb]; exact h1, abs_bok hb _ _⟩, hg⟩
theorem rideQ_any {w : World} {v : Value} {q : Option Nat} {l : List N3} (h : BQ w v q l) : Calls Tryz.prog 10 #[v] w fun e w' => ∃ v, e = .returned v ∧ Made w w' v (l.filter pNew) ∧ Below w.heap.size w w' := by
  rcases h with ⟨rfl, rfl, rfl⟩ | ⟨p, g, rfl, rfl, h, h0, h1, hb⟩
  · have hn := enews_any (w := w) (v := .pointer none) (.inl rfl)
    go_enter Tryz.func10, Tryz.ntmps10
    go_wp2_with (go_at_call 30; (with_reducible refine hn.mono ?_); rintro e u1 ⟨rfl, hb1⟩)
    go_ret
    exact ⟨_, rfl, World.ownsRow_nil _ _ _ _, hb1⟩
  · exact ride_any h h0 h1
end Go.Proofs.YtddblfffjhoiaaaGreat
namespace Go.Proofs.YtddblfffjhoiaaaGreat
open Go.RowKit Go.Shelf Go.Lib

theorem run_allocR2 (w : World) : (Instr.alloc 27 true (.tuple #[])).run Tryz.prog w = .ok (.pointer (some ⟨w.heap.size, 0, none⟩)) (w.alloc (.cells #[.slice none 0 0] 27)) := by go_simp
theorem run_allocS2 (w : World) : (Instr.alloc 47 true (.tuple #[])).run Tryz.prog w = .ok (.pointer (some ⟨w.heap.size, 0, none⟩)) (w.alloc (.cells #[.int .u32 0, .int .u32 0, .int .u32 0, .int .u32 0] 47)) := by go_simp
theorem stepG_newR2 {G : Type} {md : Region.Mode} {ops : Array Oper} {Q : Exit → Act → World → Prop} {X0 : Array Value} {val : G → Nat → Value} {J : G → (Nat → Bool) → World → Prop} {i : Nat} {o : Oper} (hi : ops[i]? = some o) (hg : o.guard = none) (ho : o.op = .alloc 27)
    (h : ∀ g d W, J g d W → d i = false → (∀ j oj, ops[j]? = some oj → d j = true → ∀ k, bindsOn md oj k = true → d k = true) → ∃ g', (∀ j, d j = true → val g' j = val g j) ∧ val g' i = .pointer (some ⟨W.heap.size, 0, none⟩) ∧ J g' (fun j => if j = i then true else d j) (W.alloc (.cells #[.slice none 0 0] 27))) : StepG Tryz.prog md ops Q X0 val J i o := by
  intro g d a W hJ hun _ hcl _
  obtain ⟨g', h1, h2, h3⟩ := h g d W hJ hun hcl
  unfold wpOp
  rw [hi]
  simp only [Region.wanted, hg, if_true]
  refine .inl ?_
  unfold Oper.wp execOp
  simp only [ho, Sem.run_bind, run_allocR2, Result.andThen_ok, Sem.run_pure, Oper.upon_value]
  exact ⟨g', h1, by rw [h2], h3⟩
theorem stepG_newS2 {G : Type} {md : Region.Mode} {ops : Array Oper} {Q : Exit → Act → World → Prop} {X0 : Array Value} {val : G → Nat → Value} {J : G → (Nat → Bool) → World → Prop} {i : Nat} {o : Oper} (hi : ops[i]? = some o) (hg : o.guard = none) (ho : o.op = .alloc 47)
    (h : ∀ g d W, J g d W → d i = false → (∀ j oj, ops[j]? = some oj → d j = true → ∀ k, bindsOn md oj k = true → d k = true) → ∃ g', (∀ j, d j = true → val g' j = val g j) ∧ val g' i = .pointer (some ⟨W.heap.size, 0, none⟩) ∧ J g' (fun j => if j = i then true else d j) (W.alloc (.cells #[.int .u32 0, .int .u32 0, .int .u32 0, .int .u32 0] 47))) : StepG Tryz.prog md ops Q X0 val J i o := by
  intro g d a W hJ hun _ hcl _
  obtain ⟨g', h1, h2, h3⟩ := h g d W hJ hun hcl
  unfold wpOp
  rw [hi]
  simp only [Region.wanted, hg, if_true]
  refine .inl ?_
  unfold Oper.wp execOp
  simp only [ho, Sem.run_bind, run_allocS2, Result.andThen_ok, Sem.run_pure, Oper.upon_value]
  exact ⟨g', h1, by rw [h2], h3⟩
theorem rd_ne_rb {V : World} {ad : Option Addr} {l : List N3} {b : Nat} {x : Value} (h : RdN V ad l) (hr : RB V b x) (hx : ∀ k i, x ≠ .int k i) : l ≠ [] → ∀ a, ad = some a → a.block ≠ b := fun hne a e hb => by
  obtain ⟨bk, off, e2, _, hat⟩ := h hne
  rw [e2] at e
  cases e
  obtain ⟨y, t, rfl⟩ : ∃ y t, l = y :: t := by
    cases l with
    | nil => exact absurd rfl hne
    | cons y t => exact ⟨y, t, rfl⟩
  have h0 := (hat 0 y rfl).1
  have h1 : V.cell? ⟨bk, off + 0 * 3, none⟩ = #[x][off + 0 * 3]? := cell_at (by rw [← hb] at hr; exact hr) _
  rw [h0] at h1
  cases ho : off + 0 * 3 with
  | zero =>
    rw [ho] at h1
    simp at h1
    exact hx _ _ h1.symm
  | succ n =>
    rw [ho] at h1
    simp at h1
theorem rd_ne_h4 {V : World} {ad : Option Addr} {l : List N3} {b : Nat} {c : Nat → Nat} (h : RdN V ad l) (hr : Holds4 V b c) : l ≠ [] → ∀ a, ad = some a → a.block ≠ b := fun hne a e hb => by
  obtain ⟨bk, off, e2, _, hat⟩ := h hne
  rw [e2] at e
  cases e
  obtain ⟨y, t, rfl⟩ : ∃ y t, l = y :: t := by
    cases l with
    | nil => exact absurd rfl hne
    | cons y t => exact ⟨y, t, rfl⟩
  have h0 := (hat 0 y rfl).1
  have h1 : V.cell? ⟨bk, off + 0 * 3, none⟩ = (cells4 c)[off + 0 * 3]? := cell_at (by rw [← hb] at hr; exact hr) _
  rw [h0] at h1
  match ho : off + 0 * 3, h1 with
  | 0, h1 => simp [cells4] at h1
  | 1, h1 => simp [cells4] at h1
  | 2, h1 => simp [cells4] at h1
  | 3, h1 => simp [cells4] at h1
  | n + 4, h1 => simp [cells4] at h1
theorem h4_blk {V : World} {b k R : Nat} {c : Nat → Nat} {cur : Array Value} (h : Holds4 V b c) (hc : V.heap[k]? = some (.cells cur 66 (0, 0))) : (set4 V b R).heap[k]? = some (.cells cur 66 (0, 0)) := by
  have hn : k ≠ b := fun e => by
    subst e
    have := hc.symm.trans h
    simp only [Option.some.injEq, Obj.cells.injEq] at this
    exact absurd this.2.1 (by decide)
  unfold set4
  rw [Below.heap_setCell _ _ _ _ hn, Below.heap_setCell _ _ _ _ hn, Below.heap_setCell _ _ _ _ hn, Below.heap_setCell _ _ _ _ hn]
  exact hc
/-- What holds while the document's answer is laid. -/
structure JRr (W0 : World) (n : Nat) (ar : Option Addr) (L : List N3) (R : Nat) (q : (Option Addr × Nat) × (Nat × Nat)) (d6 d11 d12 d13 d14 : Bool) (V : World) : Prop where
  be : Below W0.heap.size W0 V
  rs : d6 = true → RdN V q.1.1 L ∧ n ≤ q.1.2 ∧ (n = 0 → q.1.1 = none ∧ q.1.2 = 0) ∧ (q.1.1 = ar ∨ ∀ a, q.1.1 = some a → W0.heap.size ≤ a.block ∧ ∃ cur, V.heap[a.block]? = some (.cells cur 66 (0, 0)))
  x8 : d11 = true → W0.heap.size ≤ q.2.1 ∧ RB V q.2.1 (if d13 = true then .slice q.1.1 n q.1.2 else .slice none 0 0)
  x9 : d12 = true → W0.heap.size ≤ q.2.2 ∧ Holds4 V q.2.2 (if d14 = true then wd R else fun _ => 0)
section
variable {W0 : World} {n : Nat} {ar : Option Addr} {L : List N3} {R : Nat} {q : (Option Addr × Nat) × (Nat × Nat)} {d6 d11 d12 d13 d14 : Bool} {V V' : World}
theorem JRr.carry (h : JRr W0 n ar L R q d6 d11 d12 d13 d14 V) (hb : Below V.heap.size V V') : JRr W0 n ar L R q d6 d11 d12 d13 d14 V' :=
  ⟨bel2 h.be hb, fun e => ⟨(h.rs e).1.carry hb, (h.rs e).2.1, (h.rs e).2.2.1, (h.rs e).2.2.2.imp id (fun h5 x e => ⟨(h5 x e).1, (h5 x e).2.imp (fun _ h6 => (hb.block _ (lt_at h6)).trans h6)⟩)⟩, fun e => ⟨(h.x8 e).1, (h.x8 e).2.carry hb⟩, fun e => ⟨(h.x9 e).1, (h.x9 e).2.carry hb⟩⟩
theorem JRr.call (h : JRr W0 n ar L R q false d11 d12 false d14 V) (hb : Below V.heap.size V V') (a : Option Addr) (c : Nat) (h1 : RdN V' a L) (h2 : n ≤ c) (h3 : n = 0 → a = none ∧ c = 0) (h4 : a = ar ∨ ∀ x, a = some x → V.heap.size ≤ x.block ∧ ∃ cur, V'.heap[x.block]? = some (.cells cur 66 (0, 0))) : JRr W0 n ar L R ((a, c), q.2) true d11 d12 false d14 V' :=
  ⟨bel2 h.be hb, fun _ => ⟨h1, h2, h3, h4.imp id (fun h5 x e => ⟨Nat.le_trans h.be.size (h5 x e).1, (h5 x e).2⟩)⟩, fun e => ⟨(h.x8 e).1, (h.x8 e).2.carry hb⟩, fun e => ⟨(h.x9 e).1, (h.x9 e).2.carry hb⟩⟩
theorem JRr.new8 (h : JRr W0 n ar L R q d6 false d12 false d14 V) : JRr W0 n ar L R (q.1, (V.heap.size, q.2.2)) d6 true d12 false d14 (V.alloc (.cells #[.slice none 0 0] 27)) := by
  have hb := al1 V (.cells #[.slice none 0 0] 27)
  exact ⟨bel2 h.be hb, fun e => ⟨(h.rs e).1.carry hb, (h.rs e).2.1, (h.rs e).2.2.1, (h.rs e).2.2.2.imp id (fun h5 x e => ⟨(h5 x e).1, (h5 x e).2.imp (fun _ h6 => (hb.block _ (lt_at h6)).trans h6)⟩)⟩, fun _ => ⟨h.be.size, new_at rfl⟩, fun e => ⟨(h.x9 e).1, (h.x9 e).2.carry hb⟩⟩
theorem JRr.new9 (h : JRr W0 n ar L R q d6 d11 false d13 false V) : JRr W0 n ar L R (q.1, (q.2.1, V.heap.size)) d6 d11 true d13 false (V.alloc (.cells #[.int .u32 0, .int .u32 0, .int .u32 0, .int .u32 0] 47)) := by
  have hb := al1 V (.cells #[.int .u32 0, .int .u32 0, .int .u32 0, .int .u32 0] 47)
  exact ⟨bel2 h.be hb, fun e => ⟨(h.rs e).1.carry hb, (h.rs e).2.1, (h.rs e).2.2.1, (h.rs e).2.2.2.imp id (fun h5 x e => ⟨(h5 x e).1, (h5 x e).2.imp (fun _ h6 => (hb.block _ (lt_at h6)).trans h6)⟩)⟩, fun e => ⟨(h.x8 e).1, (h.x8 e).2.carry hb⟩, fun _ => ⟨h.be.size, new_at rfl⟩⟩
theorem rbh_ne {b b' : Nat} {v : Value} {c : Nat → Nat} (h : RB V b v) (h' : Holds4 V b' c) : b ≠ b' := fun e => by
  subst e
  have h1 : V.heap[b]? = some (.cells #[v] 27 (0, 0)) := h
  have := h1.symm.trans h'
  simp only [Option.some.injEq, Obj.cells.injEq] at this
  exact absurd this.2.1 (by decide)
theorem JRr.st8 (h : JRr W0 n ar L R q true true d12 false d14 V) : JRr W0 n ar L R q true true d12 true d14 (V.setCell ⟨q.2.1, 0, none⟩ (.slice q.1.1 n q.1.2)) := by
  have h8 := (h.x8 rfl).2
  refine ⟨h.be.setCell (h.x8 rfl).1 _, fun _ => ⟨rd_keep (h.rs rfl).1 (by simp) (fun hne a e => Below.heap_setCell _ _ _ _ (rd_ne_rb (h.rs rfl).1 h8 (fun k i e => by simp at e) hne a e)), (h.rs rfl).2.1, (h.rs rfl).2.2.1, (h.rs rfl).2.2.2.imp id (fun h5 x e => ⟨(h5 x e).1, (h5 x e).2.imp (fun _ h6 => (Below.heap_setCell _ _ _ _ (rb_ne h8 h6)).trans h6)⟩)⟩, fun _ => ⟨(h.x8 rfl).1, h8.set _⟩, fun e => ⟨(h.x9 e).1, (Below.heap_setCell _ _ _ _ (Ne.symm (rbh_ne h8 (h.x9 e).2))).trans (h.x9 e).2⟩⟩
theorem JRr.st9 (h : JRr W0 n ar L R q true d11 true d13 false V) : JRr W0 n ar L R q true d11 true d13 true (set4 V q.2.2 R) := by
  have h9 := (h.x9 rfl).2
  refine ⟨below4 h.be (h.x9 rfl).1 R, fun _ => ⟨rd_keep (h.rs rfl).1 (by simp [set4]) (fun hne a e => ?_), (h.rs rfl).2.1, (h.rs rfl).2.2.1, (h.rs rfl).2.2.2.imp id (fun h5 x e => ⟨(h5 x e).1, (h5 x e).2.imp (fun _ h6 => h4_blk h9 h6)⟩)⟩, fun e => ⟨(h.x8 e).1, rb_ne4 (h.x8 e).2 (rbh_ne (h.x8 e).2 h9)⟩, fun _ => ⟨(h.x9 rfl).1, fin4 h9 R⟩⟩
  have hn := rd_ne_h4 (h.rs rfl).1 h9 hne a e
  unfold set4
  rw [Below.heap_setCell _ _ _ _ hn, Below.heap_setCell _ _ _ _ hn, Below.heap_setCell _ _ _ _ hn, Below.heap_setCell _ _ _ _ hn]
end
theorem ext3_0 (a b c : Value) (W : World) : (Instr.extract (.tuple #[a, b, c]) 0).run Tryz.prog W = .ok a W := rfl
theorem ext3_1 (a b c : Value) (W : World) : (Instr.extract (.tuple #[a, b, c]) 1).run Tryz.prog W = .ok b W := rfl
theorem ext3_2 (a b c : Value) (W : World) : (Instr.extract (.tuple #[a, b, c]) 2).run Tryz.prog W = .ok c W := rfl
end Go.Proofs.YtddblfffjhoiaaaGreat
namespace Go.Proofs.YtddblfffjhoiaaaGreat
open Go.RowKit Go.Shelf Go.Lib

def LentW (w : World) (l : List (Int × Int × Int)) (e : Ending) (w' : World) : Prop := ∃ g cap, e = .returned (.slice (some ⟨g, 0, none⟩) l.length cap) ∧ l.length + 3 ≤ cap ∧ g < w'.heap.size ∧ NtsAt w' g 0 (l ++ mks) ∧ Below w.heap.size w w' ∧ w.heap.size ≤ g ∧ ∃ cur, w'.heap[g]? = some (.cells cur 66 (0, 0))
set_option maxHeartbeats 4000000 in
set_option maxRecDepth 100000 in
theorem lent2_any (ad : Option Addr) (cap : Nat) (l : List (Int × Int × Int)) (w : World) (h : RdN w ad l) (hcap : ad = none → cap = 0) (hl : l.length * 24 ≤ 140737488351232) : Calls Tryz.prog 7 #[.slice ad l.length cap] w fun e w' => LentW w l e w' := by
  obtain ⟨ic, hic, hz0, hz1, hz2⟩ := info_partsN
  have hnil := World.ownsRow_nil w w.heap.size 66 3
  cases ad with
  | none =>
    have hl0 : l = [] := by
      cases l with
      | nil => rfl
      | cons x r => obtain ⟨b, off, e, _⟩ := h (by simp); cases e
    subst hl0
    obtain rfl := hcap rfl
    have hap := run_append_owned_none (P := Tryz.prog) w w.heap.size 22 22 66 ic 3 Tryz.underlying22 hic _ _ _ hnil
    go_enter Tryz.func7, Tryz.ntmps7
    have hbu := Below.refl w.heap.size w
    have ho := hnil
    go_wp2
    go_loopw [3, 4] (fun b i wz => ∃ (k : Nat), i = .int .i64 k ∧ k ≤ 3 ∧ wz.ownsRow w.heap.size 66 3 b (([] : List (Int × Int × Int)).length + k) (fl (([] : List (Int × Int × Int)) ++ mks.take k)) ∧ Below w.heap.size w wz) (fun _ i _ => 3 - vnatR i)
    case atStart => exact ⟨0, rfl, Nat.zero_le _, by simpa [fl_append, fl_nil] using ho, hbu⟩
    case round =>
      obtain ⟨k, rfl, hk, hrow, hbw⟩ := hrel
      have hsw := hbw.size
      by_cases hkl : k < 3
      · have hki : (k : Int) < 3 := by omega
        have hst := mks_step k hkl
        have hfl : fl (([] : List (Int × Int × Int)) ++ mks.take (k + 1)) = fl (([] : List (Int × Int × Int)) ++ mks.take k) ++ [.int .i64 (-7), .int .i64 (k : Int), .int .i64 0] := by
          rw [hst, ← List.append_assoc, fl_append (([] : List (Int × Int × Int)) ++ mks.take k)]
          rfl
        have HF : Hid (fl (([] : List (Int × Int × Int)) ++ mks.take (k + 1)) = fl (([] : List (Int × Int × Int)) ++ mks.take k) ++ [.int .i64 (-7), .int .i64 (k : Int), .int .i64 0]) := hfl
        clear hst hfl
        go_wp2_with (at_builtin; refine wpList_append_own _ rfl _ _ 22 rfl w.heap.size 66 ic _ 3 24 Tryz.underlying22 hic hz0 hz1 hz2 rfl (by decide) _ (([] : List (Int × Int × Int)).length + k) (fl (([] : List (Int × Int × Int)) ++ mks.take k)) rfl (hrow.alloc _) ⟨wr.heap.size, 0, none⟩ 1 1 [_, _, _] rfl rfl (rowN _ #[_, _, _] _) (by simp [Value.oneCell']) (by unfold maxLen; omega) (by omega) (Nat.le_trans hsw (by simp)) ?_; intro v' w2 hown' hgrow _)
        go_roundw
        case rel =>
          refine ⟨k + 1, by simp, by omega, ?_, (hbw.alloc hsw _).grown hgrow (Nat.le_trans hsw (by simp)) (fun q e => own_block hrow q e)⟩
          rw [HF.out, ← Nat.add_assoc]
          exact hown'
        case measure => simp [vnatR]; omega
      · have hkk : k = 3 := by omega
        subst hkk
        rcases own_form hrow with ⟨_, e⟩ | ⟨g, cp, rfl, hg0, hg1, hcp⟩
        · omega
        have hnt := nts_own hrow (by simp [mks])
        have hcpi : ((([] : List (Int × Int × Int)).length + 3 : Nat) : Int) ≤ (cp : Int) := by omega
        have hl0 : (([] : List (Int × Int × Int)).length : Int) ≤ ((([] : List (Int × Int × Int)).length + 3 : Nat) : Int) := by omega
        have hlc : (([] : List (Int × Int × Int)).length : Int) ≤ (cp : Int) := by omega
        have HQ : Hid (NtsAt wr g 0 (([] : List (Int × Int × Int)) ++ mks)) := hnt
        clear hnt
        have HTY : Hid (∃ cur, wr.heap[g]? = some (.cells cur 66 (0, 0))) := (ownsRow_block hrow g rfl).2
        go_wp2
        go_ret
        exact ⟨g, cp, rfl, by omega, hg1, HQ.out, hbw, hg0, HTY.out⟩
  | some a =>
    have hnews : ∀ j u, (fl l)[j]? = some u → w.cell? (a.add j) = some u := by
      intro j u hj
      obtain ⟨b, off, e, _, hat⟩ := h (fun e => by subst e; simp [fl_nil] at hj)
      obtain rfl := Option.some.inj e
      exact nts_src hat j u hj
    have hfl : (fl l).length = l.length * 3 := fl_len l
    clear h hcap
    go_enter Tryz.func7, Tryz.ntmps7
    go_wp2_with (at_builtin; refine wpList_append_own _ rfl _ _ 22 rfl w.heap.size 66 ic _ 3 24 Tryz.underlying22 hic hz0 hz1 hz2 rfl (by decide) _ 0 [] rfl hnil a l.length cap (fl l) rfl hfl hnews (fl_one l) (by unfold maxLen; omega) (by omega) (Nat.le_refl _) ?_; intro v u ho0 hgu _)
    have hbu : Below w.heap.size w u := (Below.refl w.heap.size w).grown hgu (Nat.le_refl _) (fun q e => own_block hnil q e)
    have ho : u.ownsRow w.heap.size 66 3 v l.length (fl l) := by simpa using ho0
    clear ho0 hgu hnews
    go_loopw [3, 4] (fun b i wz => ∃ (k : Nat), i = .int .i64 k ∧ k ≤ 3 ∧ wz.ownsRow w.heap.size 66 3 b (l.length + k) (fl (l ++ mks.take k)) ∧ Below w.heap.size w wz) (fun _ i _ => 3 - vnatR i)
    case atStart => exact ⟨0, rfl, Nat.zero_le _, by simpa [fl_append, fl_nil] using ho, hbu⟩
    case round =>
      obtain ⟨k, rfl, hk, hrow, hbw⟩ := hrel
      have hsw := hbw.size
      by_cases hkl : k < 3
      · have hki : (k : Int) < 3 := by omega
        have hst := mks_step k hkl
        have hfl : fl (l ++ mks.take (k + 1)) = fl (l ++ mks.take k) ++ [.int .i64 (-7), .int .i64 (k : Int), .int .i64 0] := by
          rw [hst, ← List.append_assoc, fl_append (l ++ mks.take k)]
          rfl
        have HF : Hid (fl (l ++ mks.take (k + 1)) = fl (l ++ mks.take k) ++ [.int .i64 (-7), .int .i64 (k : Int), .int .i64 0]) := hfl
        clear hst hfl
        go_wp2_with (at_builtin; refine wpList_append_own _ rfl _ _ 22 rfl w.heap.size 66 ic _ 3 24 Tryz.underlying22 hic hz0 hz1 hz2 rfl (by decide) _ (l.length + k) (fl (l ++ mks.take k)) rfl (hrow.alloc _) ⟨wr.heap.size, 0, none⟩ 1 1 [_, _, _] rfl rfl (rowN _ #[_, _, _] _) (by simp [Value.oneCell']) (by unfold maxLen; omega) (by omega) (Nat.le_trans hsw (by simp)) ?_; intro v' w2 hown' hgrow _)
        go_roundw
        case rel =>
          refine ⟨k + 1, by simp, by omega, ?_, (hbw.alloc hsw _).grown hgrow (Nat.le_trans hsw (by simp)) (fun q e => own_block hrow q e)⟩
          rw [HF.out, ← Nat.add_assoc]
          exact hown'
        case measure => simp [vnatR]; omega
      · have hkk : k = 3 := by omega
        subst hkk
        rcases own_form hrow with ⟨_, e⟩ | ⟨g, cp, rfl, hg0, hg1, hcp⟩
        · omega
        have hnt := nts_own hrow (by simp [mks])
        have hcpi : ((l.length + 3 : Nat) : Int) ≤ (cp : Int) := by omega
        have hl0 : (l.length : Int) ≤ ((l.length + 3 : Nat) : Int) := by omega
        have hlc : (l.length : Int) ≤ (cp : Int) := by omega
        have HQ : Hid (NtsAt wr g 0 (l ++ mks)) := hnt
        clear hnt
        have HTY : Hid (∃ cur, wr.heap[g]? = some (.cells cur 66 (0, 0))) := (ownsRow_block hrow g rfl).2
        go_wp2
        go_ret
        exact ⟨g, cp, rfl, by omega, hg1, HQ.out, hbw, hg0, HTY.out⟩
end Go.Proofs.YtddblfffjhoiaaaGreat
