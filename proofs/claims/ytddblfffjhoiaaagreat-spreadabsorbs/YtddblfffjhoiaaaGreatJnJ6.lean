/- The document's Above, Absorb; a book and the document's, of some notices. -/
import Derived.Test.YtddblfffjhoiaaaGreatJnJ2
import Derived.Test.YtddblfffjhoiaaaGreatJnJ5
import Derived.Test.YtddblfffjhoiaaaGreatFll
import Derived.Maps.AppendAt
import Derived.OwnWalk
import Derived.Laws.OwnMore
namespace Go.Proofs.YtddblfffjhoiaaaGreat
open Go.RowKit Go.Shelf Go.Lib

theorem atN_at' {l : List N3} {i : Nat} {x : N3} (h : l[i]? = some x) : atN l (i : Int) = x := by
  have hi : i < l.length := (List.getElem?_eq_some_iff.1 h).1
  rw [atN, if_pos ⟨by omega, by omega⟩, Int.toNat_natCast, h]
  rfl
set_option maxHeartbeats 4000000 in
set_option maxRecDepth 100000 in
theorem rAbove_any {w : World} (ad1 ad2 : Option Addr) (n1 n2 c1 c2 : Nat) (a b : List N3) (h1 : RdN w ad1 a) (h2 : RdN w ad2 b) (e1 : a.length = n1) (e2 : b.length = n2) (hl : n1 ≤ 100) (ha : Bok a) : Calls Tryz.prog 18 #[.agg #[.slice ad1 n1 c1], .agg #[.slice ad2 n2 c2]] w fun e w' => ∃ v, e = .returned (.tuple #[v, .int .i64 (if a.length = b.length then 0 else 1)]) ∧ Made w w' v (abv a b) ∧ Below w.heap.size w w' := by
  obtain ⟨ic, hic, hz0, hz1, hz2⟩ := info_partsN
  have hmx : Tryz.prog.follows .mixedOrders = true := by kernel_rfl
  obtain ⟨w1, hw1⟩ : ∃ w1, (w.alloc (.cells #[.slice ad1 n1 c1] 27)).alloc (.cells #[.slice ad2 n2 c2] 27) = w1 := ⟨_, rfl⟩
  have hb1 : Below w.heap.size w w1 := by rw [← hw1]; exact al2 _ _ _
  have r1 : RB w1 w.heap.size (.slice ad1 n1 c1) := by rw [← hw1]; exact old_at (new_at rfl)
  have r2 : RB w1 (w.heap.size + 1) (.slice ad2 n2 c2) := by rw [← hw1]; exact new_at (by simp)
  have q1 := r1.cell
  have q2 := r2.cell
  have HV : Hid (abv a b = if n1 = n2 then a.filter (abn b) else []) := by show _ = _; unfold abv; rw [e1, e2]
  by_cases hn : n1 = n2
  · subst hn
    rw [if_pos (show a.length = b.length by rw [e1, e2])]
    have HA : Hid (a.length = n1) := e1
    have HBL : Hid (b.length = n1) := e2
    have HR1 : Hid (RdN w ad1 a) := h1
    have HR2 : Hid (RdN w ad2 b) := h2
    have HBO : Hid (Bok a) := ha
    clear e1 e2 h1 h2 ha
    go_enter Tryz.func18, Tryz.ntmps18
    go_wp2
    go_loopw [6, 7] (fun c i wz => ∃ (k : Nat), i = .int .i64 k ∧ k ≤ n1 ∧ wz.ownsRow w1.heap.size 66 3 c ((a.take k).filter (abn b)).length (fl ((a.take k).filter (abn b))) ∧ Below w1.heap.size w1 wz) (fun _ i _ => n1 - vnatR i)
    case atStart => exact ⟨0, rfl, Nat.zero_le _, World.ownsRow_nil _ _ _ _, Below.refl _ _⟩
    case round =>
      obtain ⟨k, rfl, hk, hrow, hbr⟩ := hrel
      have s1 := r1.carry hbr
      have s2 := r2.carry hbr
      have p1 := s1.cell
      have p2 := s2.cell
      by_cases hkl : k < n1
      · have hki : (k : Int) < (n1 : Int) := by omega
        obtain ⟨⟨o, t, q⟩, hx⟩ : ∃ x, a[k]? = some x := ⟨_, List.getElem?_eq_getElem (by rw [HA.out]; exact hkl)⟩
        obtain ⟨⟨o', t', q'⟩, hy⟩ : ∃ x, b[k]? = some x := ⟨_, List.getElem?_eq_getElem (by rw [HBL.out]; exact hkl)⟩
        obtain ⟨g1, f1, rfl, hg1, hn1⟩ := ((HR1.out.carry hb1).carry hbr) (fun e => by rw [e] at hx; simp at hx)
        obtain ⟨g2, f2, rfl, hg2, hn2⟩ := ((HR2.out.carry hb1).carry hbr) (fun e => by rw [e] at hy; simp at hy)
        have hP : abn b (o, t, q) = bt o t q o' t' q' := by
          have : o = (k : Int) := (HBO.out k _ hx).1
          subst this
          unfold abn
          rw [atN_at' hy]
          rfl
        have HT : Hid ((a.take (k + 1)).filter (abn b) = if bt o t q o' t' q' = true then (a.take k).filter (abn b) ++ [(o, t, q)] else (a.take k).filter (abn b)) := by
          show _ = _
          rw [List.take_add_one, hx, Option.toList_some, filter_snoc, hP]
        have hfl : ((a.take k).filter (abn b)).length ≤ k := Nat.le_trans (List.length_filter_le _ _) (by simp; omega)
        have hbe := rBeats_any o t q o' t' q'
        have HX : Hid (a[k]? = some (o, t, q)) := hx
        have HY : Hid (b[k]? = some (o', t', q')) := hy
        obtain ⟨c0', c1', c2'⟩ := hn1 k _ hx
        dsimp only at c0' c1' c2'
        clear hP hx hy
        generalize bt o t q o' t' q' = B at HT hbe
        have hj0 : RB wr w.heap.size (.slice (some ⟨g1, f1, none⟩) n1 c1) ∧ RB wr (w.heap.size + 1) (.slice (some ⟨g2, f2, none⟩) n1 c2) ∧ NtsAt wr g1 f1 a ∧ NtsAt wr g2 f2 b ∧ Below wr.heap.size wr wr := ⟨s1, s2, hn1, hn2, Below.refl _ _⟩
        have hjc : ∀ {V V' : World}, (RB V w.heap.size (.slice (some ⟨g1, f1, none⟩) n1 c1) ∧ RB V (w.heap.size + 1) (.slice (some ⟨g2, f2, none⟩) n1 c2) ∧ NtsAt V g1 f1 a ∧ NtsAt V g2 f2 b ∧ Below wr.heap.size wr V) → Below V.heap.size V V' → (RB V' w.heap.size (.slice (some ⟨g1, f1, none⟩) n1 c1) ∧ RB V' (w.heap.size + 1) (.slice (some ⟨g2, f2, none⟩) n1 c2) ∧ NtsAt V' g1 f1 a ∧ NtsAt V' g2 f2 b ∧ Below wr.heap.size wr V') := fun h hb => ⟨h.1.carry hb, h.2.1.carry hb, h.2.2.1.carry (Nat.lt_of_lt_of_le hg1 h.2.2.2.2.size) hb, h.2.2.2.1.carry (Nat.lt_of_lt_of_le hg2 h.2.2.2.2.size) hb, bel2 h.2.2.2.2 hb⟩
        go_wp2
        rename_i Q0 K0 hK
        refine wp_region_any hmx ?_
        refine wpAny_pure (fun i__ => ([(.pointer (some ⟨w.heap.size, 0, none⟩)), (.slice (some ⟨g1, f1, none⟩) n1 c1), (.int .i64 (k : Int)), (.pointer (some ⟨g1, f1 + k * 3, none⟩)), (nt o t q), (.pointer (some ⟨w.heap.size + 1, 0, none⟩)), (.slice (some ⟨g2, f2, none⟩) n1 c2), (.int .i64 (k : Int)), (.pointer (some ⟨g2, f2 + k * 3, none⟩)), (nt o' t' q'), (.bool B)] : List Value).getD i__ undef) (fun V => RB V w.heap.size (.slice (some ⟨g1, f1, none⟩) n1 c1) ∧ RB V (w.heap.size + 1) (.slice (some ⟨g2, f2, none⟩) n1 c2) ∧ NtsAt V g1 f1 a ∧ NtsAt V g2 f2 b ∧ Below wr.heap.size wr V) (by kernel_rfl) (hjc hj0 (Below.refl _ _).drew) ?_ ?_
        · refine (stepsFrom_cons ?_ (stepsFrom_cons ?_ (stepsFrom_cons ?_ (stepsFrom_cons ?_ (stepsFrom_cons ?_ (stepsFrom_cons ?_ (stepsFrom_cons ?_ (stepsFrom_cons ?_ (stepsFrom_cons ?_ (stepsFrom_cons ?_ (stepsFrom_cons ?_ trivial)))))))))))
          · exact step_fieldAddr rfl trivial _ _ _ _ rfl rfl (fun w hw => field_rb w _)
          · exact step_load rfl trivial _ _ _ rfl rfl (fun w hw => load_rb hw.1)
          · exact step_move rfl trivial _ rfl (by kernel_rfl)
          · exact step_indexAddr rfl trivial _ _ _ _ _ rfl rfl rfl (fun w hw => idx_n g1 f1 n1 c1 k hkl w)
          · exact step_load rfl trivial _ _ _ rfl rfl (fun w hw => load_at hw.2.2.1 HX.out)
          · exact step_fieldAddr rfl trivial _ _ _ _ rfl rfl (fun w hw => field_rb w _)
          · exact step_load rfl trivial _ _ _ rfl rfl (fun w hw => load_rb hw.2.1)
          · exact step_move rfl trivial _ rfl (by kernel_rfl)
          · exact step_indexAddr rfl trivial _ _ _ _ _ rfl rfl rfl (fun w hw => idx_n g2 f2 n1 c2 k hkl w)
          · exact step_load rfl trivial _ _ _ rfl rfl (fun w hw => load_at hw.2.2.2.1 HY.out)
          · exact step_call rfl trivial 87 _ _ [(nt o t q), (nt o' t' q')] rfl (by kernel_rfl) (enters_of Tryz.func87 (by kernel_rfl) rfl) (fun w hw => (hbe w).mono (by rintro e w' ⟨rfl, hb⟩; exact ⟨rfl, hjc hw hb⟩))
        intro W hW
        first | refine hK _ _ ?_ | refine (‹∀ (a : Act) (w : World), Code.wp Tryz.prog _ _ a w → _›) _ _ ?_
        simp only [finL, List.getD_cons_zero, List.getD_cons_succ, Nat.zero_add, Nat.reduceAdd, List.setIfInBounds_toArray, List.set_cons_zero, List.set_cons_succ]
        obtain ⟨t1, t2, t3, t4, hbW⟩ := hW
        have hrowW := row_below hrow hbW
        have hbw := bel2 hbr hbW
        have y1 := t1.cell
        obtain ⟨d0, d1, d2⟩ := t3 k _ HX.out
        dsimp only at d0 d1 d2
        clear hj0 t2 t4
        cases B with
        | false =>
          go_wp2
          go_roundw
          case rel =>
            refine ⟨k + 1, by simp, by omega, ?_, hbw⟩
            rw [HT.out]
            exact hrowW
          case measure => simp [vnatR]; omega
        | true =>
          go_wp2_with (at_builtin; refine wpList_append_own_at _ rfl _ _ 22 rfl w1.heap.size 66 ic _ 3 24 Tryz.underlying22 hic hz0 hz1 hz2 rfl (by decide) _ ((a.take k).filter (abn b)).length (fl ((a.take k).filter (abn b))) rfl (hrowW.alloc _) ⟨W.heap.size, 0, none⟩ 1 1 [_, _, _] rfl rfl (rowN _ #[_, _, _] _) (by simp [Value.oneCell']) (by unfold maxLen; omega) (by omega) (Nat.le_trans hbw.size (by simp)) ?_; intro v' w2 hown' hgrow _ hob)
          go_roundw
          case rel =>
            refine ⟨k + 1, by simp, by omega, ?_, ?_⟩
            · rw [HT.out]
              simp only [if_true]
              rw [fl_append, List.length_append]
              exact hown'
            · exact (hbw.alloc hbw.size _).grown hgrow (by have := hbw.size; simp; omega) (fun q hq' => own_block hrowW q hq')
          case measure => simp [vnatR]; omega
      · have hkk : k = n1 := by omega
        subst hkk
        rw [List.take_of_length_le (by rw [HA.out]; exact Nat.le_refl _)] at hrow
        go_wp2
        go_ret2
        rw [HV.out]
        simp only [if_true]
        exact ⟨_, rfl, row_from hrow hb1.size, bel2 hb1 hbr⟩
  · have hni : ((n1 : Int) != (n2 : Int)) = true := by simp; omega
    rw [if_neg (show ¬ a.length = b.length by rw [e1, e2]; exact hn)]
    clear e1 e2 h1 h2 ha
    go_enter Tryz.func18, Tryz.ntmps18
    go_wp2
    go_ret2
    rw [HV.out, if_neg hn]
    exact ⟨_, rfl, World.ownsRow_nil _ _ _ _, hb1⟩
end Go.Proofs.YtddblfffjhoiaaaGreat
namespace Go.Proofs.YtddblfffjhoiaaaGreat
open Go.RowKit Go.Shelf Go.Lib

theorem retTR {f : Func} {p q : Tmp} {R : Ending → World → Prop} {a : Act} {w : World} {b n c : Nat} {ad : Option Addr} {x : Value} (hres : f.results = #[.tmp q, .cell p 27]) (hp : a.tmps.getD p undef = .pointer (some ⟨b, 0, none⟩)) (hq : a.tmps.getD q undef = x) (hd : a.defers = []) (h : RB w b (.slice ad n c)) (hR : R (.returned (.tuple #[x, .agg #[.slice ad n c]])) w) : bodyPost Tryz.prog f R .ret a w := by
  refine bodyPost_ret (v := .tuple #[x, .agg #[.slice ad n c]]) ?_ hd hR
  have hp' : a.tmps[p]?.getD undef = .pointer (some ⟨b, 0, none⟩) := by simpa using hp
  have hq' : a.tmps[q]?.getD undef = x := by simpa using hq
  have c0 := h.cell
  simp [results, hres, hp', hq', asAddr]
  go_simp
theorem rd_set {W : World} {ad : Option Addr} {L : List N3} {b j : Nat} {v : Value} (h : RdN W ad L) (hne : ∀ a, ad = some a → a.block ≠ b) : RdN (W.setCell ⟨b, j, none⟩ v) ad L := fun hl => by
  obtain ⟨bk, off, e, h1, h2⟩ := h hl
  have hn : bk ≠ b := hne _ e
  have q : (W.setCell ⟨b, j, none⟩ v).heap[bk]? = W.heap[bk]? := Below.heap_setCell _ _ _ _ hn
  refine ⟨bk, off, e, by simpa using h1, fun k x hx => ?_⟩
  obtain ⟨c0, c1, c2⟩ := h2 k x hx
  exact ⟨(World.cell?_of_block (a := ⟨bk, _, none⟩) q).trans c0, (World.cell?_of_block (a := ⟨bk, _, none⟩) q).trans c1, (World.cell?_of_block (a := ⟨bk, _, none⟩) q).trans c2⟩
theorem Bk.cellNe {W : World} {p g b j : Nat} {l : List N3} {v : Value} (h : Bk W p g l) (h1 : p ≠ b) (h2 : g ≠ b) : Bk (W.setCell ⟨b, j, none⟩ v) p g l := ⟨(Below.heap_setCell _ _ _ _ h1).trans h.obj, (Below.heap_setCell _ _ _ _ h2).trans h.row⟩
/-- What the book and the document's have. -/
def mk2 (n self : Int) (l : List N3) : List N3 := if ¬ (n < 1 ∨ 100 < n) ∧ ¬ (self < 0 ∨ n ≤ self) then mrg (bk0 n.toNat self.toNat 0) l else []
theorem mk2_ok (n self : Int) (l : List N3) : (mk2 n self l).length ≤ 100 ∧ Bok (mk2 n self l) := by
  unfold mk2
  split
  · rename_i h
    have hb : Bok (bk0 n.toNat self.toNat 0) := bk0_bok (by omega) (by omega)
    refine ⟨?_, mrg_bok hb _⟩
    rw [mrg_len hb, bk0_len]
    omega
  · exact ⟨by simp, fun i x hx => by simp at hx⟩
/-- Both, in a world: the program's is nil, or lies in blocks of its own. -/
structure M2 (w W : World) (v : Value) (ad : Option Addr) (n cap : Nat) (L : List N3) : Prop where
  rd : RdN W ad L
  len : L.length = n
  room : n ≤ cap
  le : n ≤ 100
  bok : Bok L
  nw : ∀ a, ad = some a → w.heap.size ≤ a.block
  bv : (v = .pointer none ∧ L = [] ∧ ad = none ∧ cap = 0) ∨ ∃ p g, v = .pointer (some ⟨p, 0, none⟩) ∧ Bk W p g L ∧ w.heap.size ≤ p ∧ w.heap.size ≤ g ∧ (∀ a, ad = some a → a.block ≠ g) ∧ 0 < n
theorem M2.carry {w W V : World} {v : Value} {ad : Option Addr} {n cap : Nat} {L : List N3} (h : M2 w W v ad n cap L) (hb : Below W.heap.size W V) : M2 w V v ad n cap L :=
  ⟨h.rd.carry hb, h.len, h.room, h.le, h.bok, h.nw, by
    rcases h.bv with h1 | ⟨p, g, e, h1, h2⟩
    · exact .inl h1
    · exact .inr ⟨p, g, e, h1.carry hb, h2⟩⟩
theorem M2.val {w W : World} {v : Value} {ad : Option Addr} {n cap : Nat} {L : List N3} (h : M2 w W v ad n cap L) : BV W v L := by
  rcases h.bv with ⟨e1, e2, _⟩ | ⟨p, g, e, h1, h2, h3, h4, h5⟩
  · exact .inl ⟨e1, e2⟩
  · exact .inr ⟨p, g, e, h1, by rw [h.len]; exact h5, by rw [h.len]; exact h.le, h.bok⟩
theorem rnew_bad {n self : Int} {w w' : World} {e : Ending} (h : RNewV n self 0 w e w') (hb : ¬ (¬ (n < 1 ∨ 100 < n) ∧ ¬ (self < 0 ∨ n ≤ self))) : ∃ E : Int, (E == 0) = false ∧ e = .returned (.tuple #[.agg #[.slice none 0 0], .int .i64 E]) := by
  obtain ⟨_, h⟩ := h
  split at h
  · exact ⟨1, rfl, h⟩
  · rename_i h1
    split at h
    · exact ⟨30, rfl, h⟩
    · rename_i h2
      exact absurd ⟨h1, h2⟩ hb
theorem new_bad2 {n self : Int} {w w' : World} {e : Ending} (h : NewV n self 0 w e w') (hb : ¬ (¬ (n < 1 ∨ 100 < n) ∧ ¬ (self < 0 ∨ n ≤ self))) : ∃ E : Int, e = .returned (.tuple #[.pointer none, .int .i64 E]) := by
  obtain ⟨_, h⟩ := h
  split at h
  · exact ⟨1, h⟩
  · rename_i h1
    split at h
    · exact ⟨30, h⟩
    · rename_i h2
      exact absurd ⟨h1, h2⟩ hb
set_option maxHeartbeats 8000000 in
set_option maxRecDepth 100000 in
theorem make2_any {w : World} (n self : Int) (ad : Option Addr) (cap : Nat) (l : List N3) (h : RdN w ad l) (hl : l.length ≤ 1000000) : Calls Tryz.prog 6 #[.int .i64 n, .int .i64 self, .slice ad l.length cap] w fun e w' => ∃ v ad' n' cap', e = .returned (.tuple #[v, .agg #[.slice ad' n' cap']]) ∧ M2 w w' v ad' n' cap' (mk2 n self l) ∧ Below w.heap.size w w' := by
  have hmx : Tryz.prog.follows .mixedOrders = true := by kernel_rfl
  obtain ⟨w1, hw1⟩ : ∃ w1, w.alloc (.cells #[.slice none 0 0] 27) = w1 := ⟨_, rfl⟩
  have hb1 : Below w.heap.size w w1 := by rw [← hw1]; exact al1 _ _
  have hz1 : w.heap.size < w1.heap.size := by rw [← hw1]; simp
  have r1 : RB w1 w.heap.size (.slice none 0 0) := by rw [← hw1]; exact new_at rfl
  have hnw := new_any n self 0 w1
  have hrn := fun V => rNew_any n self 0 V
  have HW : Hid (RdN w ad l) := h
  clear h
  by_cases hok : ¬ (n < 1 ∨ 100 < n) ∧ ¬ (self < 0 ∨ n ≤ self)
  case neg =>
    have HM : Hid (mk2 n self l = []) := by show _ = _; unfold mk2; rw [if_neg hok]
    have HB1 : Hid (∀ e V, NewV n self 0 w1 e V → ∃ E : Int, e = .returned (.tuple #[.pointer none, .int .i64 E])) := fun e V hV => new_bad2 hV hok
    have HB2 : Hid (∀ V e V', RNewV n self 0 V e V' → ∃ E : Int, (E == 0) = false ∧ e = .returned (.tuple #[.agg #[.slice none 0 0], .int .i64 E])) := fun V e V' hV => rnew_bad hV hok
    clear hok
    go_enter Tryz.func6, Tryz.ntmps6
    go_wp2_with (first
      | (go_at_call 19; (with_reducible refine hnw.mono ?_); rintro e u1 hV; obtain ⟨E1, rfl⟩ := HB1.out _ _ hV; have hu1 := hV.1; clear hV)
      | (go_at_call 20; (with_reducible refine (hrn _).mono ?_); rintro e u2 hV; obtain ⟨E2, hE2, rfl⟩ := HB2.out _ _ _ hV; have hu2 := hV.1; clear hV; obtain ⟨u3, hu3⟩ : ∃ u3, u2.alloc (.cells #[.slice none 0 0] 27) = u3 := ⟨_, rfl⟩; have k1 : Hid (u3.heap[u2.heap.size]? = some (.cells #[.slice none 0 0] 27 (0, 0))) := (by rw [← hu3]; exact new_at rfl); have k2 : Hid (Below u2.heap.size u2 u3) := (by rw [← hu3]; exact al1 _ _))
      | (refine wpList_store_row rfl 27 (.tmp 10) (.tmp 22) rfl u2.heap.size #[.slice none 0 0] rfl rfl 27 _ k1.out infoR1 rfl (by simp [Value.oneCell']) ?_; obtain ⟨u4, hu4⟩ : ∃ x, u3.setRow u2.heap.size #[.slice none 0 0] = x := ⟨_, rfl⟩; have j1 : RB u4 u2.heap.size (.slice none 0 0) := (by rw [← hu4]; exact setRow_heap _ _ _ _ _ _ k1.out); have j2 : Hid (Below u2.heap.size u2 u4) := (by rw [← hu4]; exact below_sr k2.out (Nat.le_refl _)); rw [hu4]))
    have hB4 : Below w1.heap.size w1 u4 := bel2 (bel2 hu1 hu2) j2.out
    have hR4 := r1.carry hB4
    rename_i Q0 K0 hK
    refine wp_region_any hmx ?_
    refine wpAny_last 3 (fun i__ => ([(.pointer none), (.agg #[.slice none 0 0]), (.pointer none), undef] : List Value).getD i__ undef) (fun V => Below u4.heap.size u4 V) (fun V => ∃ V0, Below u4.heap.size u4 V0 ∧ V = V0.setCell ⟨w.heap.size, 0, none⟩ (.slice none 0 0)) rfl (by kernel_rfl) (by kernel_rfl) ((Below.refl _ _).drew) ?_ ?_  ?_
    · refine (stepsFrom_cons ?_ (stepsFrom_cons ?_ (stepsFrom_cons ?_ trivial)))
      · exact step_move rfl trivial _ rfl (by kernel_rfl)
      · exact step_load rfl trivial _ _ _ rfl rfl (fun V hw => load_rbw (j1.carry hw))
      · exact step_assign rfl trivial _ rfl (by kernel_rfl) (fun _ h => h)
    · intro o ho
      cases ho
      exact step_store rfl trivial rfl _ _ _ _ _ rfl rfl rfl (fun V hw => ⟨_, store_rb (hR4.carry hw), V, hw, rfl⟩)
    intro W hW
    first | refine hK _ _ ?_ | refine (‹∀ (a : Act) (w : World), Code.wp Tryz.prog _ _ a w → _›) _ _ ?_
    simp only [finL, List.getD_cons_zero, List.getD_cons_succ, Nat.zero_add, Nat.reduceAdd, List.setIfInBounds_toArray, List.set_cons_zero, List.set_cons_succ]
    obtain ⟨V0, hV0, rfl⟩ := hW
    go_wp2
    refine retTR rfl rfl rfl rfl ((hR4.carry hV0).set _) ?_
    rw [HM.out]
    exact ⟨_, _, _, _, rfl, ⟨fun e => absurd rfl e, rfl, Nat.le_refl _, by omega, fun i x hx => (by simp at hx), fun a e => (by cases e), .inl ⟨rfl, rfl, rfl, rfl⟩⟩, (bel2 hb1 (bel2 hB4 hV0)).setCell (Nat.le_refl _) _⟩
  obtain ⟨h1, h2⟩ := hok
  obtain ⟨N, rfl⟩ : ∃ N : Nat, n = (N : Int) := ⟨n.toNat, by omega⟩
  obtain ⟨s, rfl⟩ : ∃ s : Nat, self = (s : Int) := ⟨self.toNat, by omega⟩
  have HM : Hid (mk2 (N : Int) (s : Int) l = mrg (bk0 N s 0) l) := by show _ = _; unfold mk2; rw [if_pos ⟨h1, h2⟩]; rfl
  have HB0 : Hid (Bok (bk0 N s 0)) := bk0_bok (by omega) (by omega)
  have HL0 : Hid ((bk0 N s 0).length = N) := bk0_len _ _ _
  have HOK : Hid (∀ (V : World) (e : Ending), NewV (N : Int) (s : Int) 0 w1 e V → ∃ p g, e = .returned (.tuple #[.pointer (some ⟨p, 0, none⟩), .int .i64 0]) ∧ w1.heap.size ≤ p ∧ w1.heap.size ≤ g ∧ Bk V p g (bk0 N s 0)) := fun V e hV => by simpa using hV.ok h1 h2 (by omega)
  have HRK : Hid (∀ (W V : World) (e : Ending), RNewV (N : Int) (s : Int) 0 W e V → ∃ ad cap, e = .returned (.tuple #[.agg #[.slice ad N cap], .int .i64 0]) ∧ RdN V ad (bk0 N s 0) ∧ N ≤ cap ∧ (∀ a, ad = some a → W.heap.size ≤ a.block ∧ ∃ cur, V.heap[a.block]? = some (.cells cur 66 (0, 0)))) := fun W V e hV => by simpa using hV.ok h1 h2 (by omega)
  have HME : Hid (∀ (W : World) (p g : Nat), Bk W p g (bk0 N s 0) → Below w.heap.size w W → w.heap.size ≤ g → Calls Tryz.prog 21 #[.pointer (some ⟨p, 0, none⟩), .slice ad l.length cap] W fun e w' => (∃ (N : Nat) (E : Int), e = .returned (.tuple #[.agg #[.int .u32 (wd N 0 : Nat), .int .u32 (wd N 1 : Nat), .int .u32 (wd N 2 : Nat), .int .u32 (wd N 3 : Nat)], .int .i64 E])) ∧ Bk w' p g (mrg (bk0 N s 0) l) ∧ W.grownBy w' (some g)) := fun W p g hk hb hg => merge_some hk ad cap l (HW.out.carry hb) (HW.out.ne hg) (by omega)
  have HRM : Hid (∀ (V : World) (a : Option Addr) (c : Nat), RdN V a (bk0 N s 0) → N ≤ c → RdN V ad l → Calls Tryz.prog 22 #[.agg #[.slice a N c], .slice ad l.length cap] V fun e w' => ∃ ad' cap', ∃ (S : Nat) (E : Int), e = .returned (.tuple #[.agg #[.slice ad' N cap'], .agg #[.int .u32 (wd S 0 : Nat), .int .u32 (wd S 1 : Nat), .int .u32 (wd S 2 : Nat), .int .u32 (wd S 3 : Nat)], .int .i64 E]) ∧ RdN w' ad' (mrg (bk0 N s 0) l) ∧ N ≤ cap' ∧ (ad' = a ∨ ∀ x, ad' = some x → V.heap.size ≤ x.block ∧ ∃ cur, w'.heap[x.block]? = some (.cells cur 66 (0, 0))) ∧ Below V.heap.size V w') := fun V a c ha hc hm => rmerge_some a N c (bk0 N s 0) ha HL0.out (by omega) (by omega) hc ad cap l hm (by omega)
  have HBM : Hid (Bok (mrg (bk0 N s 0) l)) := mrg_bok HB0.out _
  have HLM : Hid ((mrg (bk0 N s 0) l).length = N) := (mrg_len HB0.out _).trans HL0.out
  have hN1 : 1 ≤ N := by omega
  have hN2 : N ≤ 100 := by omega
  clear h1 h2
  go_enter Tryz.func6, Tryz.ntmps6
  go_wp2_with (first
    | (go_at_call 19; (with_reducible refine hnw.mono ?_); rintro e u1 hV; obtain ⟨p, g, rfl, hp, hg, hK⟩ := HOK.out _ _ hV; have hu1 := hV.1; clear hV)
    | (go_at_call 20; (with_reducible refine (hrn _).mono ?_); rintro e u2 hV; obtain ⟨adr, capr, rfl, hrd, hcap, hty⟩ := HRK.out _ _ _ hV; have hu2 := hV.1; clear hV; obtain ⟨u3, hu3⟩ : ∃ u3, u2.alloc (.cells #[.slice none 0 0] 27) = u3 := ⟨_, rfl⟩; have k1 : Hid (u3.heap[u2.heap.size]? = some (.cells #[.slice none 0 0] 27 (0, 0))) := (by rw [← hu3]; exact new_at rfl); have k2 : Hid (Below u2.heap.size u2 u3) := (by rw [← hu3]; exact al1 _ _))
    | (have m := k1; refine wpList_store_row rfl 27 (.tmp 10) (.tmp 22) rfl u2.heap.size #[.slice adr N capr] rfl rfl 27 _ k1.out infoR1 rfl (by simp [Value.oneCell']) ?_; obtain ⟨u4, hu4⟩ : ∃ x, u3.setRow u2.heap.size #[.slice adr N capr] = x := ⟨_, rfl⟩; have j1 : RB u4 u2.heap.size (.slice adr N capr) := (by rw [← hu4]; exact setRow_heap _ _ _ _ _ _ k1.out); have j2 : Hid (Below u2.heap.size u2 u4) := (by rw [← hu4]; exact below_sr k2.out (Nat.le_refl _)); rw [hu4]; have hB4 : Below w1.heap.size w1 u4 := bel2 (bel2 hu1 hu2) j2.out; have hK4 := (hK.carry hu2).carry j2.out; have hrd4 := hrd.carry j2.out; have hgl := hK.glt; have hme := HME.out u4 p g hK4 (bel2 hb1 hB4) (Nat.le_trans hb1.size hg); clear m)
    | (go_at_call 21; (with_reducible refine hme.mono ?_); rintro e u5 ⟨⟨S5, E5, rfl⟩, hK5, hg5⟩; have hB5 : Below w1.heap.size w1 u5 := grown_new hB4 hg5 hg; have j5 : RB u5 u2.heap.size (.slice adr N capr) := RB.turn j1 hK4 hg5; have c5 := j5.cell; have hrd5 : RdN u5 adr (bk0 N s 0) := hrd4.turn hg5 (fun _ a e => (by have := (hty a e).1; omega)); have hrm := HRM.out u5 adr capr hrd5 hcap (HW.out.carry (bel2 hb1 hB5)))
    | (go_at_call 22; (with_reducible refine hrm.mono ?_); rintro e u6 ⟨ar, cr, Sm, Er, rfl, hrd6, hcr, hor, hu6⟩; have j6 : RB u6 u2.heap.size (.slice adr N capr) := j5.carry hu6)
    | (have m := j6; refine wpList_store_row rfl 27 (.tmp 10) (.tmp 33) rfl u2.heap.size #[.slice ar N cr] rfl rfl 27 _ j6 infoR1 rfl (by simp [Value.oneCell']) ?_; obtain ⟨u7, hu7⟩ : ∃ x, u6.setRow u2.heap.size #[.slice ar N cr] = x := ⟨_, rfl⟩; rw [hu7]))
  have s2 := hu2.size
  have s4 := j2.out.size
  have s5 := hg5.size
  have s6 := hu6.size
  have sz1 := hu1.size
  have hnA : ∀ a, ar = some a → w1.heap.size ≤ a.block ∧ a.block ≠ g ∧ a.block ≠ u2.heap.size := fun a e => by
    have hge : g < u1.heap.size := hgl
    rcases hor with hor | hor
    · obtain ⟨ha1, cur, ha2⟩ := hty a (by rw [← hor]; exact e)
      exact ⟨by omega, by omega, Nat.ne_of_lt (lt_at ha2)⟩
    · obtain ⟨ha1, cur, ha2⟩ := hor a e
      have := lt_at j5
      exact ⟨by omega, by omega, by omega⟩
  have hB6 : Below w1.heap.size w1 u6 := bel2 hB5 hu6
  have hB7 : Below w1.heap.size w1 u7 := by rw [← hu7]; exact below_sr hB6 (by omega)
  have j7 : RB u7 u2.heap.size (.slice ar N cr) := by rw [← hu7]; exact setRow_heap _ _ _ _ _ _ j6
  have hK7 : Bk u7 p g (mrg (bk0 N s 0) l) := by rw [← hu7]; exact bk_row4 (hK5.carry hu6) j6 _
  have hrd7 : RdN u7 ar (mrg (bk0 N s 0) l) := by rw [← hu7]; exact rd_row _ hrd6 (fun a e => (hnA a e).2.2)
  have hR7 := r1.carry hB7
  rename_i Q0 K0 hK'
  refine wp_region_any hmx ?_
  refine wpAny_last 3 (fun i__ => ([(.pointer (some ⟨p, 0, none⟩)), (.agg #[.slice ar N cr]), (.pointer (some ⟨p, 0, none⟩)), undef] : List Value).getD i__ undef) (fun V => Below u7.heap.size u7 V) (fun V => ∃ V0, Below u7.heap.size u7 V0 ∧ V = V0.setCell ⟨w.heap.size, 0, none⟩ (.slice ar N cr)) rfl (by kernel_rfl) (by kernel_rfl) ((Below.refl _ _).drew) ?_ ?_  ?_
  · refine (stepsFrom_cons ?_ (stepsFrom_cons ?_ (stepsFrom_cons ?_ trivial)))
    · exact step_move rfl trivial _ rfl (by kernel_rfl)
    · exact step_load rfl trivial _ _ _ rfl rfl (fun V hw => load_rbw (j7.carry hw))
    · exact step_assign rfl trivial _ rfl (by kernel_rfl) (fun _ h => h)
  · intro o ho
    cases ho
    exact step_store rfl trivial rfl _ _ _ _ _ rfl rfl rfl (fun V hw => ⟨_, store_rb (hR7.carry hw), V, hw, rfl⟩)
  intro W hW
  first | refine hK _ _ ?_ | refine (‹∀ (a : Act) (w : World), Code.wp Tryz.prog _ _ a w → _›) _ _ ?_
  simp only [finL, List.getD_cons_zero, List.getD_cons_succ, Nat.zero_add, Nat.reduceAdd, List.setIfInBounds_toArray, List.set_cons_zero, List.set_cons_succ]
  obtain ⟨V0, hV0, rfl⟩ := hW
  go_wp2
  refine retTR rfl rfl rfl rfl ((hR7.carry hV0).set _) ?_
  rw [HM.out]
  refine ⟨_, _, _, _, rfl, ⟨rd_set (hrd7.carry hV0) (fun a e => by have := (hnA a e).1; omega), HLM.out, hcr, hN2, HBM.out, fun a e => Nat.le_trans hb1.size (hnA a e).1, .inr ⟨p, g, rfl, (hK7.carry hV0).cellNe (by omega) (by omega), Nat.le_trans hb1.size hp, Nat.le_trans hb1.size hg, fun a e => (hnA a e).2.1, hN1⟩⟩, (bel2 hb1 (bel2 hB7 hV0)).setCell (Nat.le_refl _) _⟩
end Go.Proofs.YtddblfffjhoiaaaGreat
namespace Go.Proofs.YtddblfffjhoiaaaGreat
open Go.RowKit Go.Shelf Go.Lib

section
variable {W : World} {bb : Nat}
set_option maxHeartbeats 1000000 in
theorem stillInts_e (h : W.cell? ⟨bb, 0, none⟩ = some (.slice none 0 0)) : Calls Tryz.prog 34 #[.pointer (some ⟨bb, 0, none⟩)] W fun e w' => e = .returned (.bool true) ∧ w' = W := by
  go_enter Tryz.func34, Tryz.ntmps34
  go_wp2
  go_loopw [3] (fun i wz => i = .int .i64 0 ∧ wz = W) (fun _ _ => 0)
  case atStart => exact ⟨rfl, rfl⟩
  case round =>
    obtain ⟨rfl, rfl⟩ := hrel
    go_wp2
    go_ret
    exact ⟨rfl, rfl⟩
set_option maxHeartbeats 1000000 in
theorem putInts_e (h : W.cell? ⟨bb, 0, none⟩ = some (.slice none 0 0)) : Calls Tryz.prog 46 #[.pointer (some ⟨bb, 0, none⟩)] W fun e w' => e = .returned (.tuple #[]) ∧ w' = W := by
  go_enter Tryz.func46, Tryz.ntmps46
  go_wp2
  go_loopw [2] (fun i wz => i = .int .i64 0 ∧ wz = W) (fun _ _ => 0)
  case atStart => exact ⟨rfl, rfl⟩
  case round =>
    obtain ⟨rfl, rfl⟩ := hrel
    go_wp2
    go_end0
    exact ⟨rfl, rfl⟩
set_option maxHeartbeats 1000000 in
theorem growInts_e (h : W.cell? ⟨bb, 0, none⟩ = some (.slice none 0 0)) : Calls Tryz.prog 58 #[.pointer (some ⟨bb, 0, none⟩)] W fun e w' => e = .returned (.slice none 0 0) ∧ w' = W := by
  go_enter Tryz.func58, Tryz.ntmps58
  go_wp2
  go_loopw [3, 4] (fun o i wz => o = .slice none 0 0 ∧ i = .int .i64 0 ∧ wz = W) (fun _ _ _ => 0)
  case atStart => exact ⟨rfl, rfl, rfl⟩
  case round =>
    obtain ⟨rfl, rfl, rfl⟩ := hrel
    go_wp2
    go_ret
    exact ⟨rfl, rfl⟩
set_option maxHeartbeats 1000000 in
theorem markedInts_e (W : World) : Calls Tryz.prog 70 #[.slice none 0 0] W fun e w' => e = .returned (.bool true) ∧ w' = W := by
  go_enter Tryz.func70, Tryz.ntmps70
  go_wp2
  go_loopw [3] (fun i wz => i = .int .i64 0 ∧ wz = W) (fun _ _ => 0)
  case atStart => exact ⟨rfl, rfl⟩
  case round =>
    obtain ⟨rfl, rfl⟩ := hrel
    go_wp2
    go_ret
    exact ⟨rfl, rfl⟩
set_option maxHeartbeats 1000000 in
theorem stillChars_e (h : W.cell? ⟨bb, 2, none⟩ = some (.slice none 0 0)) : Calls Tryz.prog 35 #[.pointer (some ⟨bb, 0, none⟩)] W fun e w' => e = .returned (.bool true) ∧ w' = W := by
  go_enter Tryz.func35, Tryz.ntmps35
  go_wp2
  go_loopw [3] (fun i wz => i = .int .i64 0 ∧ wz = W) (fun _ _ => 0)
  case atStart => exact ⟨rfl, rfl⟩
  case round =>
    obtain ⟨rfl, rfl⟩ := hrel
    go_wp2
    go_ret
    exact ⟨rfl, rfl⟩
set_option maxHeartbeats 1000000 in
theorem putChars_e (h : W.cell? ⟨bb, 2, none⟩ = some (.slice none 0 0)) : Calls Tryz.prog 47 #[.pointer (some ⟨bb, 0, none⟩)] W fun e w' => e = .returned (.tuple #[]) ∧ w' = W := by
  go_enter Tryz.func47, Tryz.ntmps47
  go_wp2
  go_loopw [2] (fun i wz => i = .int .i64 0 ∧ wz = W) (fun _ _ => 0)
  case atStart => exact ⟨rfl, rfl⟩
  case round =>
    obtain ⟨rfl, rfl⟩ := hrel
    go_wp2
    go_end0
    exact ⟨rfl, rfl⟩
set_option maxHeartbeats 1000000 in
theorem growChars_e (h : W.cell? ⟨bb, 2, none⟩ = some (.slice none 0 0)) : Calls Tryz.prog 59 #[.pointer (some ⟨bb, 0, none⟩)] W fun e w' => e = .returned (.slice none 0 0) ∧ w' = W := by
  go_enter Tryz.func59, Tryz.ntmps59
  go_wp2
  go_loopw [3, 4] (fun o i wz => o = .slice none 0 0 ∧ i = .int .i64 0 ∧ wz = W) (fun _ _ _ => 0)
  case atStart => exact ⟨rfl, rfl, rfl⟩
  case round =>
    obtain ⟨rfl, rfl, rfl⟩ := hrel
    go_wp2
    go_ret
    exact ⟨rfl, rfl⟩
set_option maxHeartbeats 1000000 in
theorem markedChars_e (W : World) : Calls Tryz.prog 71 #[.slice none 0 0] W fun e w' => e = .returned (.bool true) ∧ w' = W := by
  go_enter Tryz.func71, Tryz.ntmps71
  go_wp2
  go_loopw [3] (fun i wz => i = .int .i64 0 ∧ wz = W) (fun _ _ => 0)
  case atStart => exact ⟨rfl, rfl⟩
  case round =>
    obtain ⟨rfl, rfl⟩ := hrel
    go_wp2
    go_ret
    exact ⟨rfl, rfl⟩
set_option maxHeartbeats 1000000 in
theorem stillTokens_e (h : W.cell? ⟨bb, 4, none⟩ = some (.slice none 0 0)) : Calls Tryz.prog 36 #[.pointer (some ⟨bb, 0, none⟩)] W fun e w' => e = .returned (.bool true) ∧ w' = W := by
  go_enter Tryz.func36, Tryz.ntmps36
  go_wp2
  go_loopw [3] (fun i wz => i = .int .i64 0 ∧ wz = W) (fun _ _ => 0)
  case atStart => exact ⟨rfl, rfl⟩
  case round =>
    obtain ⟨rfl, rfl⟩ := hrel
    go_wp2
    go_ret
    exact ⟨rfl, rfl⟩
set_option maxHeartbeats 1000000 in
theorem putTokens_e (h : W.cell? ⟨bb, 4, none⟩ = some (.slice none 0 0)) : Calls Tryz.prog 48 #[.pointer (some ⟨bb, 0, none⟩)] W fun e w' => e = .returned (.tuple #[]) ∧ w' = W := by
  go_enter Tryz.func48, Tryz.ntmps48
  go_wp2
  go_loopw [2] (fun i wz => i = .int .i64 0 ∧ wz = W) (fun _ _ => 0)
  case atStart => exact ⟨rfl, rfl⟩
  case round =>
    obtain ⟨rfl, rfl⟩ := hrel
    go_wp2
    go_end0
    exact ⟨rfl, rfl⟩
set_option maxHeartbeats 1000000 in
theorem growTokens_e (h : W.cell? ⟨bb, 4, none⟩ = some (.slice none 0 0)) : Calls Tryz.prog 60 #[.pointer (some ⟨bb, 0, none⟩)] W fun e w' => e = .returned (.slice none 0 0) ∧ w' = W := by
  go_enter Tryz.func60, Tryz.ntmps60
  go_wp2
  go_loopw [3, 4] (fun o i wz => o = .slice none 0 0 ∧ i = .int .i64 0 ∧ wz = W) (fun _ _ _ => 0)
  case atStart => exact ⟨rfl, rfl, rfl⟩
  case round =>
    obtain ⟨rfl, rfl, rfl⟩ := hrel
    go_wp2
    go_ret
    exact ⟨rfl, rfl⟩
set_option maxHeartbeats 1000000 in
theorem markedTokens_e (W : World) : Calls Tryz.prog 72 #[.slice none 0 0] W fun e w' => e = .returned (.bool true) ∧ w' = W := by
  go_enter Tryz.func72, Tryz.ntmps72
  go_wp2
  go_loopw [3] (fun i wz => i = .int .i64 0 ∧ wz = W) (fun _ _ => 0)
  case atStart => exact ⟨rfl, rfl⟩
  case round =>
    obtain ⟨rfl, rfl⟩ := hrel
    go_wp2
    go_ret
    exact ⟨rfl, rfl⟩
set_option maxHeartbeats 1000000 in
theorem stillBytes_e (h : W.cell? ⟨bb, 8, none⟩ = some (.slice none 0 0)) : Calls Tryz.prog 38 #[.pointer (some ⟨bb, 0, none⟩)] W fun e w' => e = .returned (.bool true) ∧ w' = W := by
  go_enter Tryz.func38, Tryz.ntmps38
  go_wp2
  go_loopw [3] (fun i wz => i = .int .i64 0 ∧ wz = W) (fun _ _ => 0)
  case atStart => exact ⟨rfl, rfl⟩
  case round =>
    obtain ⟨rfl, rfl⟩ := hrel
    go_wp2
    go_ret
    exact ⟨rfl, rfl⟩
set_option maxHeartbeats 1000000 in
theorem putBytes_e (h : W.cell? ⟨bb, 8, none⟩ = some (.slice none 0 0)) : Calls Tryz.prog 50 #[.pointer (some ⟨bb, 0, none⟩)] W fun e w' => e = .returned (.tuple #[]) ∧ w' = W := by
  go_enter Tryz.func50, Tryz.ntmps50
  go_wp2
  go_loopw [2] (fun i wz => i = .int .i64 0 ∧ wz = W) (fun _ _ => 0)
  case atStart => exact ⟨rfl, rfl⟩
  case round =>
    obtain ⟨rfl, rfl⟩ := hrel
    go_wp2
    go_end0
    exact ⟨rfl, rfl⟩
set_option maxHeartbeats 1000000 in
theorem growBytes_e (h : W.cell? ⟨bb, 8, none⟩ = some (.slice none 0 0)) : Calls Tryz.prog 62 #[.pointer (some ⟨bb, 0, none⟩)] W fun e w' => e = .returned (.slice none 0 0) ∧ w' = W := by
  go_enter Tryz.func62, Tryz.ntmps62
  go_wp2
  go_loopw [3, 4] (fun o i wz => o = .slice none 0 0 ∧ i = .int .i64 0 ∧ wz = W) (fun _ _ _ => 0)
  case atStart => exact ⟨rfl, rfl, rfl⟩
  case round =>
    obtain ⟨rfl, rfl, rfl⟩ := hrel
    go_wp2
    go_ret
    exact ⟨rfl, rfl⟩
set_option maxHeartbeats 1000000 in
theorem markedBytes_e (W : World) : Calls Tryz.prog 74 #[.slice none 0 0] W fun e w' => e = .returned (.bool true) ∧ w' = W := by
  go_enter Tryz.func74, Tryz.ntmps74
  go_wp2
  go_loopw [3] (fun i wz => i = .int .i64 0 ∧ wz = W) (fun _ _ => 0)
  case atStart => exact ⟨rfl, rfl⟩
  case round =>
    obtain ⟨rfl, rfl⟩ := hrel
    go_wp2
    go_ret
    exact ⟨rfl, rfl⟩
set_option maxHeartbeats 1000000 in
theorem stillSets_e (h : W.cell? ⟨bb, 10, none⟩ = some (.slice none 0 0)) : Calls Tryz.prog 39 #[.pointer (some ⟨bb, 0, none⟩)] W fun e w' => e = .returned (.bool true) ∧ w' = W := by
  go_enter Tryz.func39, Tryz.ntmps39
  go_wp2
  go_loopw [3] (fun i wz => i = .int .i64 0 ∧ wz = W) (fun _ _ => 0)
  case atStart => exact ⟨rfl, rfl⟩
  case round =>
    obtain ⟨rfl, rfl⟩ := hrel
    go_wp2
    go_ret
    exact ⟨rfl, rfl⟩
set_option maxHeartbeats 1000000 in
theorem putSets_e (h : W.cell? ⟨bb, 10, none⟩ = some (.slice none 0 0)) : Calls Tryz.prog 51 #[.pointer (some ⟨bb, 0, none⟩)] W fun e w' => e = .returned (.tuple #[]) ∧ w' = W := by
  go_enter Tryz.func51, Tryz.ntmps51
  go_wp2
  go_loopw [2] (fun i wz => i = .int .i64 0 ∧ wz = W) (fun _ _ => 0)
  case atStart => exact ⟨rfl, rfl⟩
  case round =>
    obtain ⟨rfl, rfl⟩ := hrel
    go_wp2
    go_end0
    exact ⟨rfl, rfl⟩
set_option maxHeartbeats 1000000 in
theorem growSets_e (h : W.cell? ⟨bb, 10, none⟩ = some (.slice none 0 0)) : Calls Tryz.prog 63 #[.pointer (some ⟨bb, 0, none⟩)] W fun e w' => e = .returned (.slice none 0 0) ∧ w' = W := by
  go_enter Tryz.func63, Tryz.ntmps63
  go_wp2
  go_loopw [3, 4] (fun o i wz => o = .slice none 0 0 ∧ i = .int .i64 0 ∧ wz = W) (fun _ _ _ => 0)
  case atStart => exact ⟨rfl, rfl, rfl⟩
  case round =>
    obtain ⟨rfl, rfl, rfl⟩ := hrel
    go_wp2
    go_ret
    exact ⟨rfl, rfl⟩
set_option maxHeartbeats 1000000 in
theorem markedSets_e (W : World) : Calls Tryz.prog 75 #[.slice none 0 0] W fun e w' => e = .returned (.bool true) ∧ w' = W := by
  go_enter Tryz.func75, Tryz.ntmps75
  go_wp2
  go_loopw [3] (fun i wz => i = .int .i64 0 ∧ wz = W) (fun _ _ => 0)
  case atStart => exact ⟨rfl, rfl⟩
  case round =>
    obtain ⟨rfl, rfl⟩ := hrel
    go_wp2
    go_ret
    exact ⟨rfl, rfl⟩
set_option maxHeartbeats 1000000 in
theorem stillEvents_e (h : W.cell? ⟨bb, 12, none⟩ = some (.slice none 0 0)) : Calls Tryz.prog 40 #[.pointer (some ⟨bb, 0, none⟩)] W fun e w' => e = .returned (.bool true) ∧ w' = W := by
  go_enter Tryz.func40, Tryz.ntmps40
  go_wp2
  go_loopw [3] (fun i wz => i = .int .i64 0 ∧ wz = W) (fun _ _ => 0)
  case atStart => exact ⟨rfl, rfl⟩
  case round =>
    obtain ⟨rfl, rfl⟩ := hrel
    go_wp2
    go_ret
    exact ⟨rfl, rfl⟩
set_option maxHeartbeats 1000000 in
theorem putEvents_e (h : W.cell? ⟨bb, 12, none⟩ = some (.slice none 0 0)) : Calls Tryz.prog 52 #[.pointer (some ⟨bb, 0, none⟩)] W fun e w' => e = .returned (.tuple #[]) ∧ w' = W := by
  go_enter Tryz.func52, Tryz.ntmps52
  go_wp2
  go_loopw [2] (fun i wz => i = .int .i64 0 ∧ wz = W) (fun _ _ => 0)
  case atStart => exact ⟨rfl, rfl⟩
  case round =>
    obtain ⟨rfl, rfl⟩ := hrel
    go_wp2
    go_end0
    exact ⟨rfl, rfl⟩
set_option maxHeartbeats 1000000 in
theorem growEvents_e (h : W.cell? ⟨bb, 12, none⟩ = some (.slice none 0 0)) : Calls Tryz.prog 64 #[.pointer (some ⟨bb, 0, none⟩)] W fun e w' => e = .returned (.slice none 0 0) ∧ w' = W := by
  go_enter Tryz.func64, Tryz.ntmps64
  go_wp2
  go_loopw [3, 4] (fun o i wz => o = .slice none 0 0 ∧ i = .int .i64 0 ∧ wz = W) (fun _ _ _ => 0)
  case atStart => exact ⟨rfl, rfl, rfl⟩
  case round =>
    obtain ⟨rfl, rfl, rfl⟩ := hrel
    go_wp2
    go_ret
    exact ⟨rfl, rfl⟩
set_option maxHeartbeats 1000000 in
theorem markedEvents_e (W : World) : Calls Tryz.prog 76 #[.slice none 0 0] W fun e w' => e = .returned (.bool true) ∧ w' = W := by
  go_enter Tryz.func76, Tryz.ntmps76
  go_wp2
  go_loopw [3] (fun i wz => i = .int .i64 0 ∧ wz = W) (fun _ _ => 0)
  case atStart => exact ⟨rfl, rfl⟩
  case round =>
    obtain ⟨rfl, rfl⟩ := hrel
    go_wp2
    go_ret
    exact ⟨rfl, rfl⟩
set_option maxHeartbeats 1000000 in
theorem stillErrs_e (h : W.cell? ⟨bb, 14, none⟩ = some (.slice none 0 0)) : Calls Tryz.prog 41 #[.pointer (some ⟨bb, 0, none⟩)] W fun e w' => e = .returned (.bool true) ∧ w' = W := by
  go_enter Tryz.func41, Tryz.ntmps41
  go_wp2
  go_loopw [3] (fun i wz => i = .int .i64 0 ∧ wz = W) (fun _ _ => 0)
  case atStart => exact ⟨rfl, rfl⟩
  case round =>
    obtain ⟨rfl, rfl⟩ := hrel
    go_wp2
    go_ret
    exact ⟨rfl, rfl⟩
set_option maxHeartbeats 1000000 in
theorem putErrs_e (h : W.cell? ⟨bb, 14, none⟩ = some (.slice none 0 0)) : Calls Tryz.prog 53 #[.pointer (some ⟨bb, 0, none⟩)] W fun e w' => e = .returned (.tuple #[]) ∧ w' = W := by
  go_enter Tryz.func53, Tryz.ntmps53
  go_wp2
  go_loopw [2] (fun i wz => i = .int .i64 0 ∧ wz = W) (fun _ _ => 0)
  case atStart => exact ⟨rfl, rfl⟩
  case round =>
    obtain ⟨rfl, rfl⟩ := hrel
    go_wp2
    go_end0
    exact ⟨rfl, rfl⟩
set_option maxHeartbeats 1000000 in
theorem growErrs_e (h : W.cell? ⟨bb, 14, none⟩ = some (.slice none 0 0)) : Calls Tryz.prog 65 #[.pointer (some ⟨bb, 0, none⟩)] W fun e w' => e = .returned (.slice none 0 0) ∧ w' = W := by
  go_enter Tryz.func65, Tryz.ntmps65
  go_wp2
  go_loopw [3, 4] (fun o i wz => o = .slice none 0 0 ∧ i = .int .i64 0 ∧ wz = W) (fun _ _ _ => 0)
  case atStart => exact ⟨rfl, rfl, rfl⟩
  case round =>
    obtain ⟨rfl, rfl, rfl⟩ := hrel
    go_wp2
    go_ret
    exact ⟨rfl, rfl⟩
set_option maxHeartbeats 1000000 in
theorem markedErrs_e (W : World) : Calls Tryz.prog 77 #[.slice none 0 0] W fun e w' => e = .returned (.bool true) ∧ w' = W := by
  go_enter Tryz.func77, Tryz.ntmps77
  go_wp2
  go_loopw [3] (fun i wz => i = .int .i64 0 ∧ wz = W) (fun _ _ => 0)
  case atStart => exact ⟨rfl, rfl⟩
  case round =>
    obtain ⟨rfl, rfl⟩ := hrel
    go_wp2
    go_ret
    exact ⟨rfl, rfl⟩
set_option maxHeartbeats 1000000 in
theorem stillOuts_e (h : W.cell? ⟨bb, 16, none⟩ = some (.slice none 0 0)) : Calls Tryz.prog 42 #[.pointer (some ⟨bb, 0, none⟩)] W fun e w' => e = .returned (.bool true) ∧ w' = W := by
  go_enter Tryz.func42, Tryz.ntmps42
  go_wp2
  go_loopw [3] (fun i wz => i = .int .i64 0 ∧ wz = W) (fun _ _ => 0)
  case atStart => exact ⟨rfl, rfl⟩
  case round =>
    obtain ⟨rfl, rfl⟩ := hrel
    go_wp2
    go_ret
    exact ⟨rfl, rfl⟩
set_option maxHeartbeats 1000000 in
theorem putOuts_e (h : W.cell? ⟨bb, 16, none⟩ = some (.slice none 0 0)) : Calls Tryz.prog 54 #[.pointer (some ⟨bb, 0, none⟩)] W fun e w' => e = .returned (.tuple #[]) ∧ w' = W := by
  go_enter Tryz.func54, Tryz.ntmps54
  go_wp2
  go_loopw [2] (fun i wz => i = .int .i64 0 ∧ wz = W) (fun _ _ => 0)
  case atStart => exact ⟨rfl, rfl⟩
  case round =>
    obtain ⟨rfl, rfl⟩ := hrel
    go_wp2
    go_end0
    exact ⟨rfl, rfl⟩
set_option maxHeartbeats 1000000 in
theorem growOuts_e (h : W.cell? ⟨bb, 16, none⟩ = some (.slice none 0 0)) : Calls Tryz.prog 66 #[.pointer (some ⟨bb, 0, none⟩)] W fun e w' => e = .returned (.slice none 0 0) ∧ w' = W := by
  go_enter Tryz.func66, Tryz.ntmps66
  go_wp2
  go_loopw [3, 4] (fun o i wz => o = .slice none 0 0 ∧ i = .int .i64 0 ∧ wz = W) (fun _ _ _ => 0)
  case atStart => exact ⟨rfl, rfl, rfl⟩
  case round =>
    obtain ⟨rfl, rfl, rfl⟩ := hrel
    go_wp2
    go_ret
    exact ⟨rfl, rfl⟩
set_option maxHeartbeats 1000000 in
theorem markedOuts_e (W : World) : Calls Tryz.prog 78 #[.slice none 0 0] W fun e w' => e = .returned (.bool true) ∧ w' = W := by
  go_enter Tryz.func78, Tryz.ntmps78
  go_wp2
  go_loopw [3] (fun i wz => i = .int .i64 0 ∧ wz = W) (fun _ _ => 0)
  case atStart => exact ⟨rfl, rfl⟩
  case round =>
    obtain ⟨rfl, rfl⟩ := hrel
    go_wp2
    go_ret
    exact ⟨rfl, rfl⟩
set_option maxHeartbeats 1000000 in
theorem stillGrams_e (h : W.cell? ⟨bb, 18, none⟩ = some (.slice none 0 0)) : Calls Tryz.prog 43 #[.pointer (some ⟨bb, 0, none⟩)] W fun e w' => e = .returned (.bool true) ∧ w' = W := by
  go_enter Tryz.func43, Tryz.ntmps43
  go_wp2
  go_loopw [3] (fun i wz => i = .int .i64 0 ∧ wz = W) (fun _ _ => 0)
  case atStart => exact ⟨rfl, rfl⟩
  case round =>
    obtain ⟨rfl, rfl⟩ := hrel
    go_wp2
    go_ret
    exact ⟨rfl, rfl⟩
set_option maxHeartbeats 1000000 in
theorem putGrams_e (h : W.cell? ⟨bb, 18, none⟩ = some (.slice none 0 0)) : Calls Tryz.prog 55 #[.pointer (some ⟨bb, 0, none⟩)] W fun e w' => e = .returned (.tuple #[]) ∧ w' = W := by
  go_enter Tryz.func55, Tryz.ntmps55
  go_wp2
  go_loopw [2] (fun i wz => i = .int .i64 0 ∧ wz = W) (fun _ _ => 0)
  case atStart => exact ⟨rfl, rfl⟩
  case round =>
    obtain ⟨rfl, rfl⟩ := hrel
    go_wp2
    go_end0
    exact ⟨rfl, rfl⟩
set_option maxHeartbeats 1000000 in
theorem growGrams_e (h : W.cell? ⟨bb, 18, none⟩ = some (.slice none 0 0)) : Calls Tryz.prog 67 #[.pointer (some ⟨bb, 0, none⟩)] W fun e w' => e = .returned (.slice none 0 0) ∧ w' = W := by
  go_enter Tryz.func67, Tryz.ntmps67
  go_wp2
  go_loopw [3, 4] (fun o i wz => o = .slice none 0 0 ∧ i = .int .i64 0 ∧ wz = W) (fun _ _ _ => 0)
  case atStart => exact ⟨rfl, rfl, rfl⟩
  case round =>
    obtain ⟨rfl, rfl, rfl⟩ := hrel
    go_wp2
    go_ret
    exact ⟨rfl, rfl⟩
set_option maxHeartbeats 1000000 in
theorem markedGrams_e (W : World) : Calls Tryz.prog 79 #[.slice none 0 0] W fun e w' => e = .returned (.bool true) ∧ w' = W := by
  go_enter Tryz.func79, Tryz.ntmps79
  go_wp2
  go_loopw [3] (fun i wz => i = .int .i64 0 ∧ wz = W) (fun _ _ => 0)
  case atStart => exact ⟨rfl, rfl⟩
  case round =>
    obtain ⟨rfl, rfl⟩ := hrel
    go_wp2
    go_ret
    exact ⟨rfl, rfl⟩
set_option maxHeartbeats 1000000 in
theorem stillSteps_e (h : W.cell? ⟨bb, 20, none⟩ = some (.slice none 0 0)) : Calls Tryz.prog 44 #[.pointer (some ⟨bb, 0, none⟩)] W fun e w' => e = .returned (.bool true) ∧ w' = W := by
  go_enter Tryz.func44, Tryz.ntmps44
  go_wp2
  go_loopw [3] (fun i wz => i = .int .i64 0 ∧ wz = W) (fun _ _ => 0)
  case atStart => exact ⟨rfl, rfl⟩
  case round =>
    obtain ⟨rfl, rfl⟩ := hrel
    go_wp2
    go_ret
    exact ⟨rfl, rfl⟩
set_option maxHeartbeats 1000000 in
theorem putSteps_e (h : W.cell? ⟨bb, 20, none⟩ = some (.slice none 0 0)) : Calls Tryz.prog 56 #[.pointer (some ⟨bb, 0, none⟩)] W fun e w' => e = .returned (.tuple #[]) ∧ w' = W := by
  go_enter Tryz.func56, Tryz.ntmps56
  go_wp2
  go_loopw [2] (fun i wz => i = .int .i64 0 ∧ wz = W) (fun _ _ => 0)
  case atStart => exact ⟨rfl, rfl⟩
  case round =>
    obtain ⟨rfl, rfl⟩ := hrel
    go_wp2
    go_end0
    exact ⟨rfl, rfl⟩
set_option maxHeartbeats 1000000 in
theorem growSteps_e (h : W.cell? ⟨bb, 20, none⟩ = some (.slice none 0 0)) : Calls Tryz.prog 68 #[.pointer (some ⟨bb, 0, none⟩)] W fun e w' => e = .returned (.slice none 0 0) ∧ w' = W := by
  go_enter Tryz.func68, Tryz.ntmps68
  go_wp2
  go_loopw [3, 4] (fun o i wz => o = .slice none 0 0 ∧ i = .int .i64 0 ∧ wz = W) (fun _ _ _ => 0)
  case atStart => exact ⟨rfl, rfl, rfl⟩
  case round =>
    obtain ⟨rfl, rfl, rfl⟩ := hrel
    go_wp2
    go_ret
    exact ⟨rfl, rfl⟩
set_option maxHeartbeats 1000000 in
theorem markedSteps_e (W : World) : Calls Tryz.prog 80 #[.slice none 0 0] W fun e w' => e = .returned (.bool true) ∧ w' = W := by
  go_enter Tryz.func80, Tryz.ntmps80
  go_wp2
  go_loopw [3] (fun i wz => i = .int .i64 0 ∧ wz = W) (fun _ _ => 0)
  case atStart => exact ⟨rfl, rfl⟩
  case round =>
    obtain ⟨rfl, rfl⟩ := hrel
    go_wp2
    go_ret
    exact ⟨rfl, rfl⟩
set_option maxHeartbeats 1000000 in
theorem stillRows_e (h : W.cell? ⟨bb, 22, none⟩ = some (.slice none 0 0)) : Calls Tryz.prog 45 #[.pointer (some ⟨bb, 0, none⟩)] W fun e w' => e = .returned (.bool true) ∧ w' = W := by
  go_enter Tryz.func45, Tryz.ntmps45
  go_wp2
  go_loopw [3] (fun i wz => i = .int .i64 0 ∧ wz = W) (fun _ _ => 0)
  case atStart => exact ⟨rfl, rfl⟩
  case round =>
    obtain ⟨rfl, rfl⟩ := hrel
    go_wp2
    go_ret
    exact ⟨rfl, rfl⟩
set_option maxHeartbeats 1000000 in
theorem putRows_e (h : W.cell? ⟨bb, 22, none⟩ = some (.slice none 0 0)) : Calls Tryz.prog 57 #[.pointer (some ⟨bb, 0, none⟩)] W fun e w' => e = .returned (.tuple #[]) ∧ w' = W := by
  go_enter Tryz.func57, Tryz.ntmps57
  go_wp2
  go_loopw [2] (fun i wz => i = .int .i64 0 ∧ wz = W) (fun _ _ => 0)
  case atStart => exact ⟨rfl, rfl⟩
  case round =>
    obtain ⟨rfl, rfl⟩ := hrel
    go_wp2
    go_end0
    exact ⟨rfl, rfl⟩
set_option maxHeartbeats 1000000 in
theorem growRows_e (h : W.cell? ⟨bb, 22, none⟩ = some (.slice none 0 0)) : Calls Tryz.prog 69 #[.pointer (some ⟨bb, 0, none⟩)] W fun e w' => e = .returned (.slice none 0 0) ∧ w' = W := by
  go_enter Tryz.func69, Tryz.ntmps69
  go_wp2
  go_loopw [3, 4] (fun o i wz => o = .slice none 0 0 ∧ i = .int .i64 0 ∧ wz = W) (fun _ _ _ => 0)
  case atStart => exact ⟨rfl, rfl, rfl⟩
  case round =>
    obtain ⟨rfl, rfl, rfl⟩ := hrel
    go_wp2
    go_ret
    exact ⟨rfl, rfl⟩
set_option maxHeartbeats 1000000 in
theorem markedRows_e (W : World) : Calls Tryz.prog 81 #[.slice none 0 0] W fun e w' => e = .returned (.bool true) ∧ w' = W := by
  go_enter Tryz.func81, Tryz.ntmps81
  go_wp2
  go_loopw [3] (fun i wz => i = .int .i64 0 ∧ wz = W) (fun _ _ => 0)
  case atStart => exact ⟨rfl, rfl⟩
  case round =>
    obtain ⟨rfl, rfl⟩ := hrel
    go_wp2
    go_ret
    exact ⟨rfl, rfl⟩
end
end Go.Proofs.YtddblfffjhoiaaaGreat
namespace Go.Proofs.YtddblfffjhoiaaaGreat
open Go.RowKit Go.Shelf

/-- What LentNotices answers. -/
def LentV (w : World) (l : List (Int × Int × Int)) (e : Ending) (w' : World) : Prop := ∃ g cap, e = .returned (.slice (some ⟨g, 0, none⟩) l.length cap) ∧ l.length + 3 ≤ cap ∧ g < w'.heap.size ∧ NtsAt w' g 0 (l ++ mks) ∧ Below w.heap.size w w' ∧ w.heap.size ≤ g
theorem mks_step (k : Nat) (hk : k < 3) : mks.take (k + 1) = mks.take k ++ [(-7, (k : Int), 0)] := by
  match k, hk with
  | 0, _ => rfl
  | 1, _ => rfl
  | 2, _ => rfl
set_option maxHeartbeats 4000000 in
set_option maxRecDepth 100000 in
theorem lent_any (ad : Option Addr) (cap : Nat) (l : List (Int × Int × Int)) (w : World) (h : RdN w ad l) (hcap : ad = none → cap = 0) (hl : l.length * 24 ≤ 140737488351232) : Calls Tryz.prog 7 #[.slice ad l.length cap] w fun e w' => LentV w l e w' := by
  obtain ⟨ic, hic, hz0, hz1, hz2⟩ := info_partsN
  have hnil := World.ownsRow_nil w w.heap.size 66 3
  cases ad with
  | none =>
    have hl0 : l = [] := by
      cases l with
      | nil => rfl
      | cons x r => obtain ⟨b, off, e, _⟩ := h (by simp); cases e
    subst hl0
    obtain rfl := hcap rfl
    have hap := run_append_owned_none (P := Tryz.prog) w w.heap.size 22 22 66 ic 3 Tryz.underlying22 hic _ _ _ hnil
    go_enter Tryz.func7, Tryz.ntmps7
    have hbu := Below.refl w.heap.size w
    have ho := hnil
    go_wp2
    go_loopw [3, 4] (fun b i wz => ∃ (k : Nat), i = .int .i64 k ∧ k ≤ 3 ∧ wz.ownsRow w.heap.size 66 3 b (([] : List (Int × Int × Int)).length + k) (fl (([] : List (Int × Int × Int)) ++ mks.take k)) ∧ Below w.heap.size w wz) (fun _ i _ => 3 - vnatR i)
    case atStart => exact ⟨0, rfl, Nat.zero_le _, by simpa [fl_append, fl_nil] using ho, hbu⟩
    case round =>
      obtain ⟨k, rfl, hk, hrow, hbw⟩ := hrel
      have hsw := hbw.size
      by_cases hkl : k < 3
      · have hki : (k : Int) < 3 := by omega
        have hst := mks_step k hkl
        have hfl : fl (([] : List (Int × Int × Int)) ++ mks.take (k + 1)) = fl (([] : List (Int × Int × Int)) ++ mks.take k) ++ [.int .i64 (-7), .int .i64 (k : Int), .int .i64 0] := by
          rw [hst, ← List.append_assoc, fl_append (([] : List (Int × Int × Int)) ++ mks.take k)]
          rfl
        have HF : Hid (fl (([] : List (Int × Int × Int)) ++ mks.take (k + 1)) = fl (([] : List (Int × Int × Int)) ++ mks.take k) ++ [.int .i64 (-7), .int .i64 (k : Int), .int .i64 0]) := hfl
        clear hst hfl
        go_wp2_with (at_builtin; refine wpList_append_own _ rfl _ _ 22 rfl w.heap.size 66 ic _ 3 24 Tryz.underlying22 hic hz0 hz1 hz2 rfl (by decide) _ (([] : List (Int × Int × Int)).length + k) (fl (([] : List (Int × Int × Int)) ++ mks.take k)) rfl (hrow.alloc _) ⟨wr.heap.size, 0, none⟩ 1 1 [_, _, _] rfl rfl (rowN _ #[_, _, _] _) (by simp [Value.oneCell']) (by unfold maxLen; omega) (by omega) (Nat.le_trans hsw (by simp)) ?_; intro v' w2 hown' hgrow _)
        go_roundw
        case rel =>
          refine ⟨k + 1, by simp, by omega, ?_, (hbw.alloc hsw _).grown hgrow (Nat.le_trans hsw (by simp)) (fun q e => own_block hrow q e)⟩
          rw [HF.out, ← Nat.add_assoc]
          exact hown'
        case measure => simp [vnatR]; omega
      · have hkk : k = 3 := by omega
        subst hkk
        rcases own_form hrow with ⟨_, e⟩ | ⟨g, cp, rfl, hg0, hg1, hcp⟩
        · omega
        have hnt := nts_own hrow (by simp [mks])
        have hcpi : ((([] : List (Int × Int × Int)).length + 3 : Nat) : Int) ≤ (cp : Int) := by omega
        have hl0 : (([] : List (Int × Int × Int)).length : Int) ≤ ((([] : List (Int × Int × Int)).length + 3 : Nat) : Int) := by omega
        have hlc : (([] : List (Int × Int × Int)).length : Int) ≤ (cp : Int) := by omega
        have HQ : Hid (NtsAt wr g 0 (([] : List (Int × Int × Int)) ++ mks)) := hnt
        clear hnt
        go_wp2
        go_ret
        exact ⟨g, cp, rfl, by omega, hg1, HQ.out, hbw, hg0⟩
  | some a =>
    have hnews : ∀ j u, (fl l)[j]? = some u → w.cell? (a.add j) = some u := by
      intro j u hj
      obtain ⟨b, off, e, _, hat⟩ := h (fun e => by subst e; simp [fl_nil] at hj)
      obtain rfl := Option.some.inj e
      exact nts_src hat j u hj
    have hfl : (fl l).length = l.length * 3 := fl_len l
    clear h hcap
    go_enter Tryz.func7, Tryz.ntmps7
    go_wp2_with (at_builtin; refine wpList_append_own _ rfl _ _ 22 rfl w.heap.size 66 ic _ 3 24 Tryz.underlying22 hic hz0 hz1 hz2 rfl (by decide) _ 0 [] rfl hnil a l.length cap (fl l) rfl hfl hnews (fl_one l) (by unfold maxLen; omega) (by omega) (Nat.le_refl _) ?_; intro v u ho0 hgu _)
    have hbu : Below w.heap.size w u := (Below.refl w.heap.size w).grown hgu (Nat.le_refl _) (fun q e => own_block hnil q e)
    have ho : u.ownsRow w.heap.size 66 3 v l.length (fl l) := by simpa using ho0
    clear ho0 hgu hnews
    go_loopw [3, 4] (fun b i wz => ∃ (k : Nat), i = .int .i64 k ∧ k ≤ 3 ∧ wz.ownsRow w.heap.size 66 3 b (l.length + k) (fl (l ++ mks.take k)) ∧ Below w.heap.size w wz) (fun _ i _ => 3 - vnatR i)
    case atStart => exact ⟨0, rfl, Nat.zero_le _, by simpa [fl_append, fl_nil] using ho, hbu⟩
    case round =>
      obtain ⟨k, rfl, hk, hrow, hbw⟩ := hrel
      have hsw := hbw.size
      by_cases hkl : k < 3
      · have hki : (k : Int) < 3 := by omega
        have hst := mks_step k hkl
        have hfl : fl (l ++ mks.take (k + 1)) = fl (l ++ mks.take k) ++ [.int .i64 (-7), .int .i64 (k : Int), .int .i64 0] := by
          rw [hst, ← List.append_assoc, fl_append (l ++ mks.take k)]
          rfl
        have HF : Hid (fl (l ++ mks.take (k + 1)) = fl (l ++ mks.take k) ++ [.int .i64 (-7), .int .i64 (k : Int), .int .i64 0]) := hfl
        clear hst hfl
        go_wp2_with (at_builtin; refine wpList_append_own _ rfl _ _ 22 rfl w.heap.size 66 ic _ 3 24 Tryz.underlying22 hic hz0 hz1 hz2 rfl (by decide) _ (l.length + k) (fl (l ++ mks.take k)) rfl (hrow.alloc _) ⟨wr.heap.size, 0, none⟩ 1 1 [_, _, _] rfl rfl (rowN _ #[_, _, _] _) (by simp [Value.oneCell']) (by unfold maxLen; omega) (by omega) (Nat.le_trans hsw (by simp)) ?_; intro v' w2 hown' hgrow _)
        go_roundw
        case rel =>
          refine ⟨k + 1, by simp, by omega, ?_, (hbw.alloc hsw _).grown hgrow (Nat.le_trans hsw (by simp)) (fun q e => own_block hrow q e)⟩
          rw [HF.out, ← Nat.add_assoc]
          exact hown'
        case measure => simp [vnatR]; omega
      · have hkk : k = 3 := by omega
        subst hkk
        rcases own_form hrow with ⟨_, e⟩ | ⟨g, cp, rfl, hg0, hg1, hcp⟩
        · omega
        have hnt := nts_own hrow (by simp [mks])
        have hcpi : ((l.length + 3 : Nat) : Int) ≤ (cp : Int) := by omega
        have hl0 : (l.length : Int) ≤ ((l.length + 3 : Nat) : Int) := by omega
        have hlc : (l.length : Int) ≤ (cp : Int) := by omega
        have HQ : Hid (NtsAt wr g 0 (l ++ mks)) := hnt
        clear hnt
        go_wp2
        go_ret
        exact ⟨g, cp, rfl, by omega, hg1, HQ.out, hbw, hg0⟩
end Go.Proofs.YtddblfffjhoiaaaGreat
