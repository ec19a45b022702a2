/- tell's reader: a notice: where nothing is refused. -/
import Derived.Test.YtnkpohkodkjkfaaGreatDoorJpJ28
import Derived.Test.YtnkpohkodkjkfaaGreatDoorJpJ17
import Derived.Test.YtnkpohkodkjkfaaGreatDoorJpJ14
set_option maxHeartbeats 40000000
set_option maxRecDepth 100000
set_option linter.unusedVariables false
namespace Go.Proofs.YtnkpohkodkjkfaaGreatDoor
open Go.RowKit Go.Shelf Go.Lib

/-- What a reader stands on: a roster, and the library's tables; both abide, whatever words are taken. -/
structure En (M : Nat) (L : List Int) (sl mp : Value) (nb : Nat) (w : World) : Prop where
  ros : ∀ V, Ob nb w V → Ros M V (.agg #[sl, mp]) L
  ut : ∀ V, Ob nb w V → Ut V
  nb : M ≤ nb
  le : M ≤ w.heap.size
theorem En.on {M : Nat} {L : List Int} {sl mp : Value} {nb : Nat} {w V : World} (h : En M L sl mp nb w) (ho : Ob nb w V) : En M L sl mp nb V := ⟨fun U hU => h.ros U (ho.trans hU), fun U hU => h.ut U (ho.trans hU), h.nb, Nat.le_trans h.le ho.size⟩
set_option maxHeartbeats 8000000 in
set_option maxRecDepth 100000 in
theorem notice_ok {M : Nat} {sl mp : Value} {L : List Int} {nb wb : Nat} {l : List Tk4} {i : Nat} {w : World} (hE : En M L sl mp nb w) (h : Tk nb wb l i w) (z x y : Tk4) (hx : l[i]? = some x) (hy : l[i + 1]? = some y) (hl : l.length ≤ 1000000) (hkx : ((x.1 == 5 && x.2.1.toList == [63]) || (x.1 == 5 && x.2.1.toList == [33])) = true) (hky : y.1 = 3) (hz1 : z.2.1.size ≤ 100000) (hx1 : x.2.1.size ≤ 100000) (hy1 : y.2.1.size ≤ 100000) (o t k : Int) (hr : rdP L (z.2.1 ++ x.2.1 ++ y.2.1) = (o, t, k, 0)) : Calls Tryz.prog 108 #[.agg #[sl, mp, rdF nb wb], tk4 z] w fun e w' => e = .returned (nt o t k) ∧ Tk nb wb l (i + 2) w' ∧ Ob nb w w' := by
  obtain ⟨W1, hW1⟩ : ∃ W1, w.alloc (.cells #[sl, mp, rdF nb wb] 84) = W1 := ⟨_, rfl⟩
  have hb1 : Below w.heap.size w W1 := by rw [← hW1]; exact al1t _ _
  have hr1 : W1.heap[w.heap.size]? = some (.cells #[sl, mp, rdF nb wb] 84 (0, 0)) := by rw [← hW1]; exact new_at rfl
  obtain ⟨W2, hW2⟩ : ∃ W2, W1.alloc (.cells #[.int .i64 z.1, .string z.2.1, .int .i64 z.2.2.1, .int .i64 z.2.2.2] 56) = W2 := ⟨_, rfl⟩
  have hb2 : Below W1.heap.size W1 W2 := by rw [← hW2]; exact al1t _ _
  have hr2' : W2.heap[W1.heap.size]? = some (.cells #[.int .i64 z.1, .string z.2.1, .int .i64 z.2.2.1, .int .i64 z.2.2.2] 56 (0, 0)) := by rw [← hW2]; exact new_at rfl
  obtain ⟨W3', hW3⟩ : ∃ W3', W2.alloc (.cells #[.int .i64 0, .int .i64 0, .int .i64 0] 99) = W3' := ⟨_, rfl⟩
  have hb3' : Below W2.heap.size W2 W3' := by rw [← hW3]; exact al1t _ _
  have hr3' : W3'.heap[W2.heap.size]? = some (.cells #[.int .i64 0, .int .i64 0, .int .i64 0] 99 (0, 0)) := by rw [← hW3]; exact new_at rfl
  have hq1 := (hb3'.block _ (Nat.lt_of_lt_of_le (lt_at hr1) hb2.size)).trans ((hb2.block _ (lt_at hr1)).trans hr1)
  have hq2 := (hb3'.block _ (lt_at hr2')).trans hr2'
  have hb03 := bel3 (bel3 hb1 hb2) hb3'
  have hnb := lt_at h.nx
  have hs1 := hb1.size
  have hs2 := hb2.size
  have hs3' := hb3'.size
  have hl1 := lt_at hr1
  have hl2 := lt_at hr2'
  have hl3 := lt_at hr3'
  have h0 : Hid (Tk nb wb l i w) := h
  have HK := tk_of (w := W3') 130 (enters_of Tryz.func130 (by kernel_rfl) rfl) (h.carry hb03) x hx hl _ (isNoticeMark_any _ _ _ _) hkx
  have HL : Hid (∀ V, Tk nb wb l (i + 1) V → Calls Tryz.prog 47 #[.func (.func 104) #[] #[], .pointer (some ⟨nb, 0, none⟩), .pointer (some ⟨wb, 0, none⟩)] V fun e w' => e = .returned (.agg (tkC y)) ∧ Tk nb wb l (i + 1 + 1) w' ∧ Ob nb V w') := fun V hV => tk_of 104 (enters_of Tryz.func104 (by kernel_rfl) rfl) hV y hy hl _ (isNumber_any _ _ _ _) (by rw [hky]; rfl)
  have hsz : (z.2.1 ++ x.2.1 ++ y.2.1).size ≤ maxLen := by rw [ByteArray.size_append, ByteArray.size_append]; unfold maxLen; omega
  have hz2 : (z.2.1 ++ x.2.1).size + y.2.1.size ≤ 9223372036854775807 := by rw [ByteArray.size_append]; omega
  have hz3 : z.2.1.size + x.2.1.size ≤ 9223372036854775807 := by omega
  have HP : Hid (∀ V, Ob nb w V → Calls Tryz.prog 131 #[.agg #[sl, mp], .string (z.2.1 ++ x.2.1 ++ y.2.1)] V fun e w' => e = .returned (.tuple #[.agg #[.int .i64 o, .int .i64 t, .int .i64 k], .int .i64 0]) ∧ Below V.heap.size V w') := fun V hV => by
    have := nread_any V (hE.ros V hV) (Nat.le_trans hE.le hV.size) _ hsz (hE.ut V hV)
    rw [hr] at this
    exact this
  have HF : ∀ c, Calls Tryz.prog 48 #[.bool false, .int .i64 75, .agg #[.int .i64 y.1, .string y.2.1, .int .i64 y.2.2.1, .int .i64 y.2.2.2]] c fun en w' => en = .returned (.tuple #[]) ∧ Below c.heap.size c w' := trefuse_no 75 y.1 y.2.2.1 y.2.2.2 y.2.1
  have c2 : W3'.cell? ⟨w.heap.size, 2, none⟩ = some (rdF nb wb) := (cell_at hq1 2).trans rfl
  have hrd : Hid (rdF nb wb = .func (.func 47) #[] #[.pointer (some ⟨nb, 0, none⟩), .pointer (some ⟨wb, 0, none⟩)]) := rfl
  unfold rdF at c2 hW1 ⊢
  unfold tk4 tkV
  clear h hx hy hr hE hkx hky hsz hz1 hx1 hy1 hb1 hb2 hb3'
  unfold tkC at HK HL
  unfold nt
  go_enter Tryz.func108, Tryz.ntmps108
  go_wp2_with (first
    | (go_at_call 48; (with_reducible refine (HF _).mono ?_); rintro e u6 ⟨rfl, hb6⟩; (have s6 := (hb6.block _ (lt_at s5)).trans s5); (have y0 : u6.cell? ⟨u4.heap.size, 0, none⟩ = some (.int .i64 o) := (cell_at s6 0).trans rfl); (have y1 : u6.cell? ⟨u4.heap.size, 1, none⟩ = some (.int .i64 t) := (cell_at s6 1).trans rfl); (have y2 : u6.cell? ⟨u4.heap.size, 2, none⟩ = some (.int .i64 k) := (cell_at s6 2).trans rfl); (have hb46 := bel3 (bel3 hb4 hb5) hb6); (have q : Hid (NB u6 W2.heap.size 0 0 0) := (hb46.block _ (by omega)).trans ((hc3.block _ (by omega)).trans ((hOv.block _ (by omega) (by omega)).trans ((hb3.block _ (by omega)).trans ((hO.block _ (by omega) (by omega)).trans hr3'))))); (have k0 : u6.cell? ⟨W2.heap.size, 0, none⟩ = some (.int .i64 0) := (cell_at q.out 0).trans rfl); (have k1 : u6.cell? ⟨W2.heap.size, 1, none⟩ = some (.int .i64 0) := (cell_at q.out 1).trans rfl); (have k2 : u6.cell? ⟨W2.heap.size, 2, none⟩ = some (.int .i64 0) := (cell_at q.out 2).trans rfl); (have f0 := thaw_at q.out 0); (have f1 := thaw_at q.out 1); (have f2 := thaw_at q.out 2))
    | (go_at_call 131; (with_reducible refine (HP.out _ hO3).mono ?_); rintro e u4 ⟨rfl, hb4⟩; (have r4 := (hb4.block _ (lt_at hd3)).trans hd3); obtain ⟨u5, hu5⟩ : ∃ u5, u4.alloc (.cells #[.int .i64 o, .int .i64 t, .int .i64 k] 99) = u5 := ⟨_, rfl⟩; (have hb5 : Below u4.heap.size u4 u5 := by rw [← hu5]; exact al1t _ _); (have s5 : u5.heap[u4.heap.size]? = some (.cells #[.int .i64 o, .int .i64 t, .int .i64 k] 99 (0, 0)) := by rw [← hu5]; exact new_at rfl); (have r5 := (hb5.block _ (lt_at r4)).trans r4); (have t0 : u5.cell? ⟨v.heap.size, 0, none⟩ = some (.int .i64 y.1) := (cell_at r5 0).trans rfl); (have t1 : u5.cell? ⟨v.heap.size, 1, none⟩ = some (.string y.2.1) := (cell_at r5 1).trans rfl); (have t2 : u5.cell? ⟨v.heap.size, 2, none⟩ = some (.int .i64 y.2.2.1) := (cell_at r5 2).trans rfl); (have t3 : u5.cell? ⟨v.heap.size, 3, none⟩ = some (.int .i64 y.2.2.2) := (cell_at r5 3).trans rfl))
    | (refine wpList_store_row rfl 56 (.tmp 6) (.tmp 14) rfl v.heap.size (tkC y) rfl rfl 56 _ hd2 infoTk rfl (by simp [tkC, Value.oneCell']) ?_; rw [hv3]; (have p1 : v3.cell? ⟨v.heap.size, 1, none⟩ = some (.string y.2.1) := (cell_at hd3 1).trans rfl); (have hO3 : Ob nb w v3 := (Ob.of hb03).trans ((hO.trans (Ob.of hb3)).trans (hOv.trans (Ob.of hc3)))); (have g1 := (hc3.block _ (by omega)).trans ((hOv.block _ (by omega) (by omega)).trans ((hb3.block _ (by omega)).trans ((hO.block _ (by omega) (by omega)).trans hq1)))); (have g2 := (hc3.block _ (by omega)).trans ((hOv.block _ (by omega) (by omega)).trans ((hb3.block _ (by omega)).trans ((hO.block _ (by omega) (by omega)).trans hq2)))); (have g3 := (hc3.block _ (by omega)).trans ((hOv.block _ (by omega) (by omega)).trans hr3)); (have z0 : v3.cell? ⟨w.heap.size, 0, none⟩ = some sl := (cell_at g1 0).trans rfl); (have z1 : v3.cell? ⟨w.heap.size, 1, none⟩ = some mp := (cell_at g1 1).trans rfl); (have z2 : v3.cell? ⟨W1.heap.size, 1, none⟩ = some (.string z.2.1) := (cell_at g2 1).trans rfl); (have z3 : v3.cell? ⟨u.heap.size, 1, none⟩ = some (.string x.2.1) := (cell_at g3 1).trans rfl))
    | (refine wpList_store_row rfl 56 (.tmp 5) (.tmp 11) rfl u.heap.size (tkC x) rfl rfl 56 _ hr2 infoTk rfl (by simp [tkC, Value.oneCell']) ?_; rw [hu3]; (have rr := (hb3.block _ (by omega)).trans ((hO.block _ (by omega) (by omega)).trans hq1)); (have z2 : u3.cell? ⟨w.heap.size, 2, none⟩ = some (rdF nb wb) := (cell_at rr 2).trans rfl); rw [hrd.out] at z2; (have hT3 := hT.carry hb3))
    | (go_at_call 47; (have hzz := hT3); (with_reducible refine (HL.out _ hT3).mono ?_); rintro e v ⟨rfl, hTv, hOv⟩; (have hOvs := hOv.size); obtain ⟨v2, v3, hv2, hv3, hd2, hd3, hc3, hcs3⟩ := box_word v y)
    | (go_at_call 47; (with_reducible refine HK.mono ?_); rintro e u ⟨rfl, hT, hO⟩; (have hOs := hO.size); obtain ⟨u2, u3, hu2, hu3, hr2, hr3, hb3, hs3⟩ := box_word u x))
  have hs46 := hb46.size
  have hO6 : Ob nb w u6 := hO3.trans (Ob.of hb46)
  refine retN rfl rfl rfl (q.out.set o t k) ⟨rfl, ?_⟩
  have hO7 : Ob nb w (W3 u6 W2.heap.size o t k) := ⟨hO6.os, hO6.tape, hO6.output, Nat.le_trans hO6.size (by simp [W3]), fun r g1 g2 => (other3 (by omega) _ _ _).trans (hO6.block r g1 g2)⟩
  exact ⟨h0.out.move hTv hO7 ((other3 (by omega) _ _ _).trans ((hb46.block nb (by omega)).trans (hc3.block nb (by omega)))), hO7⟩
end Go.Proofs.YtnkpohkodkjkfaaGreatDoor
namespace Go.Proofs.YtnkpohkodkjkfaaGreatDoor
open Go.RowKit Go.Shelf

set_option maxHeartbeats 2000000 in
theorem rValid_any (n o t k : Int) (w : World) : Calls Tryz.prog 91 #[.int .i64 n, nt o t k] w fun e w' => e = .returned (.bool (vl n o t k)) ∧ Below w.heap.size w w' := by
  by_cases h : 1 ≤ n ∧ n ≤ 100 ∧ 0 ≤ o ∧ o < n ∧ rk t k ≠ -1
  · have hv : vl n o t k = true := decide_eq_true h
    rw [hv]
    obtain ⟨a1, a2, a3, a4, a5⟩ := h
    obtain ⟨a6, a7, a8⟩ := rk_ok.1 a5
    clear hv a5
    unfold nt
    rcases a8 with rfl | rfl
    all_goals
      go_enter Tryz.func91, Tryz.ntmps91
      go_wp2
      go_ret
      exact ⟨rfl, al1 _ _⟩
  · have hv : vl n o t k = false := decide_eq_false h
    rw [hv]
    have h2 : n < 1 ∨ (1 ≤ n ∧ 100 < n) ∨ (1 ≤ n ∧ n ≤ 100 ∧ o < 0) ∨ (1 ≤ n ∧ n ≤ 100 ∧ 0 ≤ o ∧ n ≤ o) ∨ (1 ≤ n ∧ n ≤ 100 ∧ 0 ≤ o ∧ o < n ∧ t < 0) ∨ (1 ≤ n ∧ n ≤ 100 ∧ 0 ≤ o ∧ o < n ∧ 0 ≤ t ∧ 1048576 < t) ∨ (1 ≤ n ∧ n ≤ 100 ∧ 0 ≤ o ∧ o < n ∧ 0 ≤ t ∧ t ≤ 1048576 ∧ ¬ k = 1 ∧ ¬ k = 2) := by
      rw [rk_ok] at h
      omega
    clear hv h
    unfold nt
    rcases h2 with a1 | ⟨a1, a2⟩ | ⟨a1, a2, a3⟩ | ⟨a1, a2, a3, a4⟩ | ⟨a1, a2, a3, a4, a5⟩ | ⟨a1, a2, a3, a4, a5, a6⟩ | ⟨a1, a2, a3, a4, a5, a6, a7, a8⟩
    all_goals
      go_enter Tryz.func91, Tryz.ntmps91
      go_wp2
      go_ret
      first | exact ⟨rfl, al1 _ _⟩ | exact ⟨(show Ending.returned (.bool (k == 1 || k == 2)) = .returned (.bool false) by simp [a7, a8]), al1 _ _⟩

/-- From there on these notices lie. -/
def NtsAt (W : World) (b off : Nat) (l : List (Int × Int × Int)) : Prop := ∀ k x, l[k]? = some x → W.cell? ⟨b, off + k * 3, none⟩ = some (.int .i64 x.1) ∧ W.cell? ⟨b, off + k * 3 + 1, none⟩ = some (.int .i64 x.2.1) ∧ W.cell? ⟨b, off + k * 3 + 2, none⟩ = some (.int .i64 x.2.2)
/-- A slice of these notices. -/
def RdN (W : World) (ad : Option Addr) (l : List (Int × Int × Int)) : Prop := l ≠ [] → ∃ b off, ad = some ⟨b, off, none⟩ ∧ b < W.heap.size ∧ NtsAt W b off l
theorem RdN.carry {W W' : World} {ad : Option Addr} {l : List (Int × Int × Int)} (h : RdN W ad l) (hb : Below W.heap.size W W') : RdN W' ad l := by
  intro hl
  obtain ⟨b, off, h1, h2, h3⟩ := h hl
  refine ⟨b, off, h1, Nat.lt_of_lt_of_le h2 hb.size, fun k x hk => ?_⟩
  obtain ⟨c0, c1, c2⟩ := h3 k x hk
  exact ⟨(hb.cell (p := ⟨b, _, none⟩) h2).trans c0, (hb.cell (p := ⟨b, _, none⟩) h2).trans c1, (hb.cell (p := ⟨b, _, none⟩) h2).trans c2⟩
/-- Are they of rising nodes, from there on? -/
def ris (n : Int) : Int → List (Int × Int × Int) → Bool
  | _, [] => true
  | a, x :: r => vl n x.1 x.2.1 x.2.2 && (decide (a < x.1) && ris n x.1 r)
theorem ris_step (n a : Int) (x : Int × Int × Int) (l : List (Int × Int × Int)) (k : Nat) (h : l[k]? = some x) : ris n a (l.drop k) = (vl n x.1 x.2.1 x.2.2 && (decide (a < x.1) && ris n x.1 (l.drop (k + 1)))) := by
  obtain ⟨hk, rfl⟩ := List.getElem?_eq_some_iff.1 h
  rw [List.drop_eq_getElem_cons hk]
  rfl
def vnatR (v : Value) : Nat := match v with | .int _ n => n.toNat | _ => 0
set_option maxHeartbeats 4000000 in
set_option maxRecDepth 100000 in
theorem rising_any (n : Int) (ad : Option Addr) (cap : Nat) (l : List (Int × Int × Int)) (w : World) (h : RdN w ad l) (hl : l.length ≤ 6000000000000) : Calls Tryz.prog 189 #[.int .i64 n, .slice ad l.length cap] w fun e w' => e = .returned (.bool (ris n (-1) l)) ∧ Below w.heap.size w w' := by
  obtain ⟨R, hR⟩ : ∃ R, ris n (-1) l = R := ⟨_, rfl⟩
  rw [hR]
  have HR : Hid (ris n (-1) (l.drop 0) = R) := hR
  clear hR
  go_enter Tryz.func189, Tryz.ntmps189
  go_wp2
  go_loopw [5, 10] (fun c i wz => ∃ (k : Nat) (a : Int), c = .int .i64 a ∧ i = .int .i64 k ∧ k ≤ l.length ∧ Hid (ris n a (l.drop k) = R) ∧ Below w.heap.size w wz) (fun _ i _ => l.length - vnatR i)
  case atStart => exact ⟨0, -1, rfl, rfl, Nat.zero_le _, HR, Below.refl _ _⟩
  case round =>
    obtain ⟨k, a, rfl, rfl, hk, HK, hbw⟩ := hrel
    have hsw := hbw.size
    by_cases hkl : k < l.length
    · obtain ⟨b, off, e1, hbl, hat⟩ := h.carry hbw (fun e => by subst e; simp at hkl)
      subst e1
      obtain ⟨⟨o, t, q⟩, hx⟩ : ∃ x, l[k]? = some x := ⟨_, List.getElem?_eq_getElem hkl⟩
      obtain ⟨c0, c1, c2⟩ := hat k _ hx
      dsimp only at c0 c1 c2
      have HS := ris_step n a _ l k hx
      rw [HK.out] at HS
      dsimp only at HS
      have hki : (k : Int) < (l.length : Int) := by omega
      have hvl := valid_any n o t q
      unfold nt at hvl
      cases hv : vl n o t q with
      | false =>
        rw [hv] at hvl HS
        have HF : Hid (R = false) := HS
        clear HS hv HK HR
        go_wp2_with (go_at_call 117; (with_reducible refine (hvl _).mono ?_); rintro e u1 ⟨rfl, hb1⟩; have hn1 : NB u1 wr.heap.size o t q := NB.carry (NB.new wr o t q) hb1; have n0 := hn1.c0; have n1 := hn1.c1; have n2 := hn1.c2)
        go_ret
        rw [HF.out]
        exact ⟨rfl, bel2 (hbw.alloc hsw _) hb1⟩
      | true =>
        rw [hv] at hvl HS
        by_cases hlt : a < o
        · rw [decide_eq_true hlt] at HS
          have HN : Hid (ris n o (l.drop (k + 1)) = R) := by show _ = R; rw [HS]; rfl
          have hle : ¬ o ≤ a := by omega
          clear HS hv HK HR
          go_wp2_with (go_at_call 117; (with_reducible refine (hvl _).mono ?_); rintro e u1 ⟨rfl, hb1⟩; have hn1 : NB u1 wr.heap.size o t q := NB.carry (NB.new wr o t q) hb1; have n0 := hn1.c0; have n1 := hn1.c1; have n2 := hn1.c2)
          go_roundw
          case rel => exact ⟨k + 1, o, rfl, by simp, by omega, HN, bel2 (hbw.alloc hsw _) hb1⟩
          case measure => simp [vnatR]; omega
        · rw [decide_eq_false hlt] at HS
          have HF : Hid (R = false) := HS
          have hle : o ≤ a := by omega
          clear HS hv HK HR
          go_wp2_with (go_at_call 117; (with_reducible refine (hvl _).mono ?_); rintro e u1 ⟨rfl, hb1⟩; have hn1 : NB u1 wr.heap.size o t q := NB.carry (NB.new wr o t q) hb1; have n0 := hn1.c0; have n1 := hn1.c1; have n2 := hn1.c2)
          go_ret
          rw [HF.out]
          exact ⟨rfl, bel2 (hbw.alloc hsw _) hb1⟩
    · have hkk : k = l.length := by omega
      subst hkk
      have HF : Hid (R = true) := by
        have := HK.out
        rw [List.drop_length] at this
        exact this.symm
      clear HK HR
      go_wp2
      go_ret
      rw [HF.out]
      exact ⟨rfl, hbw⟩
end Go.Proofs.YtnkpohkodkjkfaaGreatDoor
