/- earshotbook's growSets: all kept lists are grown, in place or into new memory. -/
import Derived.Test.YtcdefcaoocnlbaaZme
import Derived.ArgAppend
namespace Go.Proofs.Ytcdefcaoocnlbaa
open Go.RowKit Go.Shelf Go.Lib

section
variable {base bb : Nat} {W V : World} {u v : Value} {x : List Value} {L : List (List Nat)}
theorem Kn.off (h : Kn base bb W u v x L) {ob : Option Nat} (hg : W.grownBy V ob) (hbb : ob ≠ some bb) (hu : ∀ b, ob = some b → u.ownBlock ≠ some b) (hx : ∀ b, ob = some b → ∀ (i : Nat) (z : Value), x[i]? = some z → z.ownBlock ≠ some b) : Kn base bb V u v x L :=
  ⟨(hg.block _ (lt_at h.kb) (fun e => hbb e.symm)).trans h.kb, row_apart2 h.row hg hu, fun i l hl => by
    obtain ⟨z, q1, q2, q3⟩ := h.ks i l hl
    exact ⟨z, q1, row_apart2 q2 hg (fun b e => hx b e i z q1), q3⟩, h.ap, h.bb, h.k⟩
/-- The lists that were grown. -/
def Gkn (base s0 : Nat) (x : List Value) (W : World) (O : List Value) : Prop := ∀ (i : Nat) (z' : Value), O[i]? = some z' → ∃ n, W.ownsRow base 24 4 z' n (fs (mkM i 0 n)) ∧ n ≤ 5000 ∧ ((∃ z, x[i]? = some z ∧ z'.ownBlock = z.ownBlock) ∨ ∀ b, z'.ownBlock = some b → s0 ≤ b)
theorem Gkn.mkn {s0 : Nat} {O : List Value} (h : Gkn base s0 x W O) : Mkn W O := fun i z hz => by
  obtain ⟨n, h1, h2, _⟩ := h i z hz
  obtain ⟨ad, c, e, hr⟩ := own_rdm h1
  exact ⟨ad, n, c, e, hr, h2⟩
theorem Gkn.off {s0 : Nat} {O : List Value} (h : Gkn base s0 x W O) {ob : Option Nat} (hg : W.grownBy V ob) (hO : ∀ b, ob = some b → ∀ (i : Nat) (z : Value), O[i]? = some z → z.ownBlock ≠ some b) : Gkn base s0 x V O := fun i z hz => by
  obtain ⟨n, h1, h2, h3⟩ := h i z hz
  exact ⟨n, row_apart2 h1 hg (fun b e => hO b e i z hz), h2, h3⟩
/-- While one list is grown. -/
structure Gs (base bb s0 sz N k : Nat) (u v z uo : Value) (x O : List Value) (L : List (List Nat)) (w W : World) (a : Value) (M : Nat) : Prop where
  row : W.ownsRow base 24 4 a M (fs (mkM k 0 M))
  rel : (∃ g cap, z = .slice (some ⟨g, 0, none⟩) N cap ∧ a = .slice (some ⟨g, 0, none⟩) M cap) ∨ a = .slice none 0 0 ∨ W.ownsRow sz 24 4 a M (fs (mkM k 0 M))
  kn : Kn base bb W u v x L
  gk : Gkn base s0 x W O
  ro : W.ownsRow s0 31 1 uo k O
  bl : Bx x w W
  sz : sz ≤ W.heap.size
  nm : N ≤ M
  w0 : w.heap.size ≤ s0
/-- What stays the same meanwhile. -/
structure Gc (base bb s0 sz N k : Nat) (u z uo : Value) (x O : List Value) (L : List (List Nat)) : Prop where
  lk : L[k]? = some (mkM k 0 N)
  xk : x[k]? = some z
  b0 : base ≤ s0
  le : s0 ≤ sz
  xl : ∀ (i : Nat) (z' : Value) (b : Nat), x[i]? = some z' → z'.ownBlock = some b → b < s0
  ul : ∀ b, u.ownBlock = some b → b < s0
  bl : bb < s0
  ol : ∀ (i : Nat) (z' : Value) (b : Nat), O[i]? = some z' → z'.ownBlock = some b → b < sz
  oo : ∀ b, uo.ownBlock = some b → b < sz
  ok : O.length = k
theorem Gs.carry {s0 sz N k M : Nat} {z uo a : Value} {O : List Value} {w : World} (h : Gs base bb s0 sz N k u v z uo x O L w W a M) (hb : Below W.heap.size W V) (hbz : base ≤ W.heap.size) : Gs base bb s0 sz N k u v z uo x O L w V a M :=
  ⟨row_below h.row hb, h.rel.imp_right (fun q => q.imp_right (fun q => row_below q hb)), h.kn.carry hb, fun i z hz => by
    obtain ⟨n, h1, h2, h3⟩ := h.gk i z hz
    exact ⟨n, row_below h1 hb, h2, h3⟩, row_below h.ro hb, (fun _ => h.bl.below hb) hbz, Nat.le_trans h.sz hb.size, h.nm, h.w0⟩
theorem Gs.app {s0 sz N k M m : Nat} {z uo a v' : Value} {O : List Value} {w : World} (h : Gs base bb s0 sz N k u v z uo x O L w W a M) (hc : Gc base bb s0 sz N k u z uo x O L) (hv : V.ownsRow base 24 4 v' (M + m) (fs (mkM k 0 M) ++ fs (mkM k M m)))
    (h2 : (∃ g cap, a = .slice (some ⟨g, 0, none⟩) M cap ∧ v' = .slice (some ⟨g, 0, none⟩) (M + m) cap ∧ W.grownBy V (some g)) ∨ (V.ownsRow W.heap.size 24 4 v' (M + m) (fs (mkM k 0 M) ++ fs (mkM k M m)) ∧ W.grownBy V none)) : Gs base bb s0 sz N k u v z uo x O L w V v' (M + m) := by
  have hsz := h.sz
  have hc0 := hc.b0
  have hc1 := hc.le
  have e3 := mkM_app k 0 M m
  rw [Nat.zero_add] at e3
  have e4 : fs (mkM k 0 M) ++ fs (mkM k M m) = fs (mkM k 0 (M + m)) := by rw [← fs_append, e3]
  rw [e4] at hv h2
  rcases h2 with ⟨g, cap, rfl, rfl, hg⟩ | ⟨hf, hg⟩
  · obtain ⟨hbg, cur, hgc⟩ := ownsRow_block h.row g rfl
    have hcase : ¬ Px x g ∨ w.heap.size ≤ g := by
      rcases h.rel with ⟨g', cap', ez, q⟩ | q | q
      · simp only [Value.slice.injEq, Option.some.injEq, Addr.mk.injEq] at q
        exact .inl (Px.no hc.xk (by rw [ez, ← q.1.1]; rfl))
      · cases q
      · have k1 := (row_lt2 q g rfl).1
        have k2 := h.w0
        exact .inr (by omega)
    have hbl : Bx x w V := h.bl.grown hg (fun q e => by obtain rfl := Option.some.inj e; exact hcase)
    have hro : V.ownsRow s0 31 1 uo k O := row_apart2 h.ro hg (fun b e => by obtain rfl := Option.some.inj e; exact row_type h.ro hgc (by decide))
    rcases h.rel with ⟨g', cap', rfl, q⟩ | q | q
    · simp only [Value.slice.injEq, Option.some.injEq, Addr.mk.injEq] at q
      obtain ⟨⟨rfl, _⟩, _, rfl⟩ := q
      have hg0 : g < s0 := hc.xl k _ g hc.xk rfl
      refine ⟨hv, .inl ⟨g, cap, rfl, rfl⟩, ?_, h.gk.off hg (fun b e i z' hz e2 => ?_), hro, hbl, Nat.le_trans h.sz hg.size, by have := h.nm; omega, h.w0⟩
      · have hp := own_prefix hv (show N ≤ M + m by have := h.nm; omega)
        rw [fs_take, mkM_take _ _ _ (by have := h.nm; omega)] at hp
        have := h.kn.turn hc.lk hc.xk rfl (l' := mkM k 0 N) (by rw [mkM_len]; exact hp) rfl hg
        rw [set_sameN hc.lk] at this
        exact this
      · obtain rfl := Option.some.inj e
        obtain ⟨n, _, _, h5⟩ := h.gk i z' hz
        have hik : i < k := by rw [← hc.ok]; exact (List.getElem?_eq_some_iff.1 hz).1
        rcases h5 with ⟨zz, h6, h7⟩ | h5
        · have := h.kn.ap i k g zz _ h6 hc.xk (h7.symm.trans e2) rfl
          omega
        · have := h5 g e2
          omega
    · cases q
    · have hgz : sz ≤ g := (ownsRow_block q g rfl).1
      refine ⟨hv, .inr (.inr ?_), h.kn.off hg (fun e => ?_) (fun b e e2 => ?_) (fun b e i z' hz e2 => ?_), h.gk.off hg (fun b e i z' hz e2 => ?_), hro, hbl, Nat.le_trans h.sz hg.size, by have := h.nm; omega, h.w0⟩
      · obtain ⟨q1, q2⟩ := hv
        refine ⟨q1, .inr ?_⟩
        rcases q2 with ⟨q3, _⟩ | ⟨g9, c9, cur9, q3, q4, q5⟩
        · cases q3
        · cases q3
          exact ⟨g, cap, cur9, rfl, hgz, q5⟩
      · have := hc.bl
        have := Option.some.inj e
        omega
      · obtain rfl := Option.some.inj e
        have := hc.ul _ e2
        omega
      · obtain rfl := Option.some.inj e
        have := hc.xl i z' _ hz e2
        omega
      · obtain rfl := Option.some.inj e
        have := hc.ol i z' _ hz e2
        omega
  · have hb : Below W.heap.size W V := ⟨hg.os, hg.tape, hg.output, hg.size, fun q hq => hg.block q hq (by simp)⟩
    have h9 := h.carry hb (by omega)
    exact ⟨hv, .inr (.inr (row_base hf h.sz)), h9.kn, h9.gk, h9.ro, h9.bl, h9.sz, by have := h.nm; omega, h.w0⟩
end
set_option maxHeartbeats 8000000 in
set_option maxRecDepth 100000 in
theorem grown_any {base bb : Nat} {w : World} {u v : Value} {x : List Value} {L : List (List Nat)} (h : Kn base bb w u v x L) (hm : ∀ (j : Nat) (l : List Nat), L[j]? = some l → l = mkM j 0 l.length) (hbz : base ≤ w.heap.size) : Calls Try.prog 62 #[.pointer (some ⟨bb, 0, none⟩)] w fun e w' => ∃ uo, e = .returned uo ∧ ∃ O, w'.ownsRow w.heap.size 31 1 uo L.length O ∧ Mkn w' O ∧ Kn base bb w' u v x L ∧ Bx x w w' := by
  obtain ⟨ic, hic, hz0, hz1, hz2⟩ := info_partsZ
  obtain ⟨is, his, hs0, hs1, hs2⟩ := info_partsSS
  obtain ⟨au, cu, eu, _⟩ := ownsRow_form h.row
  subst eu
  have hk4 := h.k
  have hxl : ∀ (i : Nat) (z' : Value) (b : Nat), x[i]? = some z' → z'.ownBlock = some b → b < w.heap.size := fun i z' b hz hb => by
    have hi : i < L.length := by rw [← h.lenx]; exact (List.getElem?_eq_some_iff.1 hz).1
    obtain ⟨z2, q1, q2, _⟩ := h.ks i _ (List.getElem?_eq_getElem hi)
    rw [hz] at q1
    obtain rfl := Option.some.inj q1
    exact (row_lt2 q2 b hb).2
  have hul : ∀ b, (Value.slice au L.length cu).ownBlock = some b → b < w.heap.size := fun b hb => (row_lt2 h.row b hb).2
  have hbl : bb < w.heap.size := lt_at h.kb
  have m6 : ∀ V, Kn base bb V (.slice au L.length cu) v x L → V.cell? ⟨bb, 10, none⟩ = some (.slice au L.length cu) := fun V hV => by
    rw [cell_at hV.kb]
    rfl
  obtain ⟨s0, hs⟩ : ∃ s0, w.heap.size = s0 := ⟨_, rfl⟩
  rw [hs] at hxl hul hbl hbz ⊢
  have hs0w : s0 ≤ w.heap.size := by omega
  have hsw0 : w.heap.size ≤ s0 := by omega
  clear hs
  go_enter Try.func62, Try.ntmps62
  go_wp2
  go_loopw [3, 4] (fun o i wz => ∃ (k : Nat) (O : List Value), i = .int .i64 (k : Int) ∧ k ≤ L.length ∧ wz.ownsRow s0 31 1 o k O ∧ Gkn base s0 x wz O ∧ Kn base bb wz (.slice au L.length cu) v x L ∧ Bx x w wz ∧ s0 ≤ wz.heap.size) (fun _ i _ => L.length - vnatR i)
  case atStart => exact ⟨0, [], rfl, Nat.zero_le _, World.ownsRow_nil _ _ _ _, fun i z hz => (by cases hz), h, Bx.refl _ _, hs0w⟩
  case round =>
    obtain ⟨k, O, rfl, hk, hro, hgk, hK', hbw, hsw⟩ := hrel
    obtain ⟨ao, co, eo, _⟩ := ownsRow_form hro
    subst eo
    have mm := m6 _ hK'
    have hOl : O.length = k := by have := hro.1; omega
    by_cases hkl : k < L.length
    case neg =>
      have hki : ¬ (k : Int) < (L.length : Int) := by omega
      obtain rfl : k = L.length := by omega
      go_wp2
      go_ret
      exact ⟨_, rfl, O, hro, hgk.mkn, hK', hbw⟩
    have hki : (k : Int) < (L.length : Int) := by omega
    obtain ⟨l, hl⟩ : ∃ l, L[k]? = some l := ⟨_, List.getElem?_eq_getElem hkl⟩
    obtain ⟨gu, cu', z, e1, c1, hxz, hfl, hln⟩ := hK'.cell hl
    simp only [Value.slice.injEq] at e1
    obtain ⟨rfl, _, rfl⟩ := e1
    have hml := hm k l hl
    obtain ⟨N, hN⟩ : ∃ N, l.length = N := ⟨_, rfl⟩
    rw [hN] at hml hln hfl
    rw [hml] at hl hfl
    obtain ⟨adx, cx, rfl, _⟩ := own_rdm hfl
    have hrel0 : (∃ g cap, Value.slice adx N cx = .slice (some ⟨g, 0, none⟩) N cap ∧ Value.slice adx N cx = .slice (some ⟨g, 0, none⟩) N cap) ∨ Value.slice adx N cx = .slice none 0 0 ∨ wr.ownsRow wr.heap.size 24 4 (.slice adx N cx) N (fs (mkM k 0 N)) := by
      rcases own_form hfl with ⟨q, _⟩ | ⟨g, cap, q, _⟩
      · exact .inr (.inl q)
      · exact .inl ⟨g, cap, q, q⟩
    have hGs : Gs base bb s0 wr.heap.size N k (.slice (some ⟨gu, 0, none⟩) L.length cu) v (.slice adx N cx) (.slice ao k co) x O L w wr (.slice adx N cx) N := ⟨hfl, hrel0, hK', hgk, hro, hbw, Nat.le_refl _, Nat.le_refl _, hsw0⟩
    have hGc : Gc base bb s0 wr.heap.size N k (.slice (some ⟨gu, 0, none⟩) L.length cu) (.slice adx N cx) (.slice ao k co) x O L := ⟨hl, hxz, hbz, hsw, hxl, hul, hbl, fun i z' b hz hb => (by
      obtain ⟨n, q1, _⟩ := hgk i z' hz
      exact (row_lt2 q1 b hb).2), fun b hb => (row_lt2 hro b hb).2, hOl⟩
    obtain ⟨sz, hsz⟩ : ∃ sz, wr.heap.size = sz := ⟨_, rfl⟩
    rw [hsz] at hGs hGc
    have hsz2 : s0 ≤ sz := by omega
    clear hrel0 hfl hgk hro hl hml hm hsz hK' hbw hsw
    go_wp2
    clear mm c1
    go_loopw [5, 6] (fun a i wz => ∃ n : Nat, i = .int .i64 (n : Int) ∧ n ≤ 16 ∧ Gs base bb s0 sz N k (.slice (some ⟨gu, 0, none⟩) L.length cu) v (.slice adx N cx) (.slice ao k co) x O L w wz a (N + n)) (fun _ i _ => 16 - vnatR i)
    case atStart => exact ⟨0, rfl, by omega, hGs⟩
    case round =>
      clear hGs
      obtain ⟨n, rfl, hn, hG⟩ := hrel
      obtain ⟨aa, ca, ea, _⟩ := ownsRow_form hG.row
      subst ea
      have hbz2 : base ≤ wr.heap.size := by have := hG.sz; omega
      by_cases hn16 : n < 16
      · have hni : (n : Int) < 16 := by omega
        obtain ⟨M, hM⟩ : ∃ M, N + n = M := ⟨_, rfl⟩
        have HM : Hid (N + n = M) := hM
        rw [hM] at hG ⊢
        have hM2 : M ≤ 2000 := by omega
        clear hM
        have hmk := markn_any k M 1 (by omega) (by omega) (by omega) wr
        have hmk : Calls Try.prog 107 #[.int .i64 (k : Int), .int .i64 (M : Int), .int .i64 1] wr (fun e w' => ∃ v, e = .returned v ∧ w'.ownsRow wr.heap.size 24 4 v 1 (fs (mkM k M 1)) ∧ Below wr.heap.size wr w') := hmk
        go_wp2_with (first | (go_at_call 107; (with_reducible refine hmk.mono ?_); rintro e va ⟨vm, rfl, hrm, hba⟩; obtain ⟨gm, cm, em⟩ := ownsRow_succ (n := 0) hrm; subst em; have hGa := hG.carry hba hbz2; have hsa := hba.size) | (at_builtin; refine wpList_append_two _ rfl _ _ 31 rfl base 24 ic _ 4 16 Try.underlying31 hic hz0 hz1 hz2 rfl (by decide) _ M (fs (mkM k 0 M)) rfl hGa.row ⟨gm, 0, none⟩ 1 cm (fs (mkM k M 1)) rfl (by rw [fs_len, mkM_len]) (ss_src (ss_own hrm (mkM_len k M 1).symm)) (fs_one _) (by omega) (by unfold maxLen; omega) (by omega) (by omega) ?_; intro v' w2 hown' htwo; have hG2 := hGa.app hGc hown' htwo))
        go_roundw
        case rel => exact ⟨n + 1, by simp, by omega, by have := HM.out; rw [show N + (n + 1) = M + 1 by omega]; exact hG2⟩
        case measure => simp [vnatR]; omega
      · obtain rfl : n = 16 := by omega
        have hni : ¬ ((16 : Nat) : Int) < 16 := by omega
        obtain ⟨M, hM⟩ : ∃ M, N + 16 = M := ⟨_, rfl⟩
        rw [hM] at hG ⊢
        have hM2 : M ≤ 2000 := by omega
        clear hM
        have hbs := bs_nts
        have hmk : Calls Try.prog 107 #[.int .i64 (k : Int), .int .i64 (M : Int), .int .i64 80] wr (fun e w' => ∃ v, e = .returned v ∧ w'.ownsRow wr.heap.size 24 4 v 80 (fs (mkM k M 80)) ∧ Below wr.heap.size wr w') := markn_any k M 80 (by omega) (by omega) (by omega) wr
        go_wp2_with (first | (go_at_call 107; (with_reducible refine hmk.mono ?_); rintro e va ⟨vm, rfl, hrm, hba⟩; obtain ⟨gm, cm, em⟩ := ownsRow_succ (n := 79) hrm; subst em; have hGa := hG.carry hba hbz2; have hsa := hba.size) | (at_builtin; refine wpList_append_two _ rfl _ _ 31 rfl base 24 ic _ 4 16 Try.underlying31 hic hz0 hz1 hz2 rfl (by decide) _ M (fs (mkM k 0 M)) rfl hGa.row ⟨gm, 0, none⟩ 80 cm (fs (mkM k M 80)) rfl (by rw [fs_len, mkM_len]) (ss_src (ss_own hrm (mkM_len k M 80).symm)) (fs_one _) (by omega) (by unfold maxLen; omega) (by omega) (by omega) ?_; intro v' w2 hown' htwo; obtain ⟨a', c', e', _⟩ := ownsRow_form hown'; subst e'; have hG2 := hGa.app hGc hown' htwo; have hz2' : sz ≤ w2.heap.size := hG2.sz; have hG3 := hG2.carry (al1 w2 (.cells #[.slice a' (M + 80) c'] 31)) (by omega)) | (at_builtin; refine wpList_append_own _ rfl _ _ 52 rfl s0 31 is _ 1 24 Try.underlying52 his hs0 hs1 hs2 rfl (by decide) _ k O rfl hG3.ro ⟨w2.heap.size, 0, none⟩ 1 1 [_] rfl rfl (one_new _ _ _) (by simp [Value.oneCell']) (by unfold maxLen; omega) (by omega) (by simp; omega) ?_; intro v2 w4 hown4 hgrow4 _))
        go_roundw
        case rel =>
          have hty : ∀ {z' : Value} {n : Nat} {ys : List Value} {b : Nat}, (w2.alloc (.cells #[.slice a' (M + 80) c'] 31)).ownsRow base 24 4 z' n ys → (Value.slice ao k co).ownBlock = some b → z'.ownBlock ≠ some b := fun hr e e2 => by
            obtain ⟨_, c5, q5⟩ := ownsRow_block hr _ e2
            exact row_type hG3.ro q5 (by decide) e
          refine ⟨k + 1, O ++ [.slice a' (M + 80) c'], by simp, by omega, hown4, ?_, hG3.kn.off hgrow4 (fun e => kb_row hG3.kn.kb hG3.ro e) (fun b e e2 => ?_) (fun b e i z' hz e2 => ?_), hG3.bl.grown hgrow4 (fun q e => .inr (by have := (row_lt2 hG3.ro q e).1; omega)), by have := hgrow4.size; simp at this; omega⟩
          · intro i z' hz
            rcases Nat.lt_or_ge i k with q | q
            · rw [List.getElem?_append_left (by omega)] at hz
              refine (hG3.gk.off hgrow4 (fun b e i2 z2 hz2 => ?_)) i z' hz
              obtain ⟨n2, r2, _⟩ := hG3.gk i2 z2 hz2
              exact hty r2 e
            · have hik : i = k := by
                have := (List.getElem?_eq_some_iff.1 hz).1
                simp at this
                omega
              subst hik
              rw [List.getElem?_append_right (by omega), hOl, Nat.sub_self] at hz
              cases hz
              refine ⟨M + 80, row_apart2 hG3.row hgrow4 (fun b e => hty hG3.row e), by omega, ?_⟩
              rcases hG3.rel with ⟨g, cap, q1, q2⟩ | q2 | q2
              · exact .inl ⟨_, hGc.xk, by rw [q1, q2]; rfl⟩
              · exact .inr (fun b e => by rw [q2] at e; cases e)
              · exact .inr (fun b e => by have := (row_lt2 q2 b e).1; omega)
          · have := hul b e2
            have := (row_lt2 hG3.ro b e).1
            omega
          · have := hxl i z' b hz e2
            have := (row_lt2 hG3.ro b e).1
            omega
        case measure => simp [vnatR]; omega
end Go.Proofs.Ytcdefcaoocnlbaa
