import Derived.Test.YtmahamdmapbilaaGreatDoorJwJ14
import Derived.Test.YtmahamdmapbilaaGreatDoorJwJ16
import Derived.Test.YtmahamdmapbilaaGreatDoorJwJ15
import Derived.Maps.AppendAt
import Derived.OwnWalk
import Derived.Laws.OwnMore
set_option maxHeartbeats 40000000
set_option maxRecDepth 100000
set_option linter.unusedVariables false
namespace Go.Proofs.YtmahamdmapbilaaGreatDoor
open Go.RowKit Go.Shelf Go.Lib
structure En (M : Nat) (L : List Int) (sl mp : Value) (nb : Nat) (w : World) : Prop where
 ros : ∀ V, Ob nb w V → Ros M V (.agg #[sl, mp]) L
 ut : ∀ V, Ob nb w V → Ut V
 nb : M ≤ nb
 le : M ≤ w.heap.size
theorem En.on {M : Nat} {L : List Int} {sl mp : Value} {nb : Nat} {w V : World} (h : En M L sl mp nb w) (ho : Ob nb w V) : En M L sl mp nb V := ⟨fun U hU => h.ros U (ho.trans hU), fun U hU => h.ut U (ho.trans hU), h.nb, Nat.le_trans h.le ho.size⟩
theorem notice_ok {M : Nat} {sl mp : Value} {L : List Int} {nb wb : Nat} {l : List Tk4} {i : Nat} {w : World} (hE : En M L sl mp nb w) (h : Tk nb wb l i w) (z x y : Tk4) (hx : l[i]? = some x) (hy : l[i + 1]? = some y) (hl : l.length ≤ 1000000) (hkx : ((x.1 == 5 && x.2.1.toList == [63]) || (x.1 == 5 && x.2.1.toList == [33])) = true) (hky : y.1 = 3) (hz1 : z.2.1.size ≤ 100000) (hx1 : x.2.1.size ≤ 100000) (hy1 : y.2.1.size ≤ 100000) (o t k : Int) (hr : rdP L (z.2.1 ++ x.2.1 ++ y.2.1) = (o, t, k, 0)) : Calls Tryz.prog 184 #[.agg #[sl, mp, rdF nb wb], tk4 z] w fun e w' => e = .returned (nt o t k) ∧ Tk nb wb l (i + 2) w' ∧ Ob nb w w' := by
 obtain ⟨W1, hW1⟩ : ∃ W1, w.alloc (.cells #[sl, mp, rdF nb wb] 86) = W1 := ⟨_, rfl⟩
 have hb1 : Below w.heap.size w W1 := by rw [← hW1]; exact al1t _ _
 have hr1 : W1.heap[w.heap.size]? = some (.cells #[sl, mp, rdF nb wb] 86 (0, 0)) := by rw [← hW1]; exact zna rfl
 obtain ⟨W2, hW2⟩ : ∃ W2, W1.alloc (.cells #[.int .i64 z.1, .string z.2.1, .int .i64 z.2.2.1, .int .i64 z.2.2.2] 48) = W2 := ⟨_, rfl⟩
 have hb2 : Below W1.heap.size W1 W2 := by rw [← hW2]; exact al1t _ _
 have hr2' : W2.heap[W1.heap.size]? = some (.cells #[.int .i64 z.1, .string z.2.1, .int .i64 z.2.2.1, .int .i64 z.2.2.2] 48 (0, 0)) := by rw [← hW2]; exact zna rfl
 obtain ⟨W3', hW3⟩ : ∃ W3', W2.alloc (.cells #[.int .i64 0, .int .i64 0, .int .i64 0] 124) = W3' := ⟨_, rfl⟩
 have hb3' : Below W2.heap.size W2 W3' := by rw [← hW3]; exact al1t _ _
 have hr3' : W3'.heap[W2.heap.size]? = some (.cells #[.int .i64 0, .int .i64 0, .int .i64 0] 124 (0, 0)) := by rw [← hW3]; exact zna rfl
 have hq1 := (hb3'.block _ (Nat.lt_of_lt_of_le (zla hr1) hb2.size)).trans ((hb2.block _ (zla hr1)).trans hr1)
 have hq2 := (hb3'.block _ (zla hr2')).trans hr2'
 have hb03 := bel3 (bel3 hb1 hb2) hb3'
 have hnb := zla h.nx
 have hs1 := hb1.size
 have hs2 := hb2.size
 have hs3' := hb3'.size
 have hl1 := zla hr1
 have hl2 := zla hr2'
 have hl3 := zla hr3'
 have h0 : Hid (Tk nb wb l i w) := h
 have HK := tk_of (w := W3') 207 (enters_of Tryz.func207 (by kernel_rfl) rfl) (h.carry hb03) x hx hl _ (isNoticeMark_any _ _ _ _) hkx
 have HL : Hid (∀ V, Tk nb wb l (i + 1) V → Calls Tryz.prog 93 #[.func (.func 180) #[] #[], .pointer (some ⟨nb, 0, none⟩), .pointer (some ⟨wb, 0, none⟩)] V fun e w' => e = .returned (.agg (tkC y)) ∧ Tk nb wb l (i + 1 + 1) w' ∧ Ob nb V w') := fun V hV => tk_of 180 (enters_of Tryz.func180 (by kernel_rfl) rfl) hV y hy hl _ (isNumber_any _ _ _ _) (by rw [hky]; rfl)
 have hsz : (z.2.1 ++ x.2.1 ++ y.2.1).size ≤ maxLen := by rw [ByteArray.size_append, ByteArray.size_append]; unfold maxLen; omega
 have hz2 : (z.2.1 ++ x.2.1).size + y.2.1.size ≤ 9223372036854775807 := by rw [ByteArray.size_append]; omega
 have hz3 : z.2.1.size + x.2.1.size ≤ 9223372036854775807 := by omega
 have HP : Hid (∀ V, Ob nb w V → Calls Tryz.prog 208 #[.agg #[sl, mp], .string (z.2.1 ++ x.2.1 ++ y.2.1)] V fun e w' => e = .returned (.tuple #[.agg #[.int .i64 o, .int .i64 t, .int .i64 k], .int .i64 0]) ∧ Below V.heap.size V w') := fun V hV => by
  have := nread_any V (hE.ros V hV) (Nat.le_trans hE.le hV.size) _ hsz (hE.ut V hV)
  rw [hr] at this
  exact this
 have HF : ∀ c, Calls Tryz.prog 94 #[.bool false, .int .i64 75, .agg #[.int .i64 y.1, .string y.2.1, .int .i64 y.2.2.1, .int .i64 y.2.2.2]] c fun en w' => en = .returned (.tuple #[]) ∧ Below c.heap.size c w' := trefuse_no 75 y.1 y.2.2.1 y.2.2.2 y.2.1
 have c2 : W3'.cell? ⟨w.heap.size, 2, none⟩ = some (rdF nb wb) := (zca hq1 2).trans rfl
 have hrd : Hid (rdF nb wb = .func (.func 93) #[] #[.pointer (some ⟨nb, 0, none⟩), .pointer (some ⟨wb, 0, none⟩)]) := rfl
 unfold rdF at c2 hW1 ⊢
 unfold tk4 tkV
 clear h hx hy hr hE hkx hky hsz hz1 hx1 hy1 hb1 hb2 hb3'
 unfold tkC at HK HL
 unfold nt
 go_enter Tryz.func184, Tryz.ntmps184
 go_wp2_with (first
  | (go_at_call 94; (with_reducible refine (HF _).mono ?_); rintro e u6 ⟨rfl, hb6⟩; (have s6 := (hb6.block _ (zla s5)).trans s5); (have y0 : u6.cell? ⟨u4.heap.size, 0, none⟩ = some (.int .i64 o) := (zca s6 0).trans rfl); (have y1 : u6.cell? ⟨u4.heap.size, 1, none⟩ = some (.int .i64 t) := (zca s6 1).trans rfl); (have y2 : u6.cell? ⟨u4.heap.size, 2, none⟩ = some (.int .i64 k) := (zca s6 2).trans rfl); (have hb46 := bel3 (bel3 hb4 hb5) hb6); (have q : Hid (NB u6 W2.heap.size 0 0 0) := (hb46.block _ (by omega)).trans ((hc3.block _ (by omega)).trans ((hOv.block _ (by omega) (by omega)).trans ((hb3.block _ (by omega)).trans ((hO.block _ (by omega) (by omega)).trans hr3'))))); (have k0 : u6.cell? ⟨W2.heap.size, 0, none⟩ = some (.int .i64 0) := (zca q.out 0).trans rfl); (have k1 : u6.cell? ⟨W2.heap.size, 1, none⟩ = some (.int .i64 0) := (zca q.out 1).trans rfl); (have k2 : u6.cell? ⟨W2.heap.size, 2, none⟩ = some (.int .i64 0) := (zca q.out 2).trans rfl); (have f0 := zta q.out 0); (have f1 := zta q.out 1); (have f2 := zta q.out 2))
  | (go_at_call 208; (with_reducible refine (HP.out _ hO3).mono ?_); rintro e u4 ⟨rfl, hb4⟩; (have r4 := (hb4.block _ (zla hd3)).trans hd3); obtain ⟨u5, hu5⟩ : ∃ u5, u4.alloc (.cells #[.int .i64 o, .int .i64 t, .int .i64 k] 124) = u5 := ⟨_, rfl⟩; (have hb5 : Below u4.heap.size u4 u5 := by rw [← hu5]; exact al1t _ _); (have s5 : u5.heap[u4.heap.size]? = some (.cells #[.int .i64 o, .int .i64 t, .int .i64 k] 124 (0, 0)) := by rw [← hu5]; exact zna rfl); (have r5 := (hb5.block _ (zla r4)).trans r4); (have t0 : u5.cell? ⟨v.heap.size, 0, none⟩ = some (.int .i64 y.1) := (zca r5 0).trans rfl); (have t1 : u5.cell? ⟨v.heap.size, 1, none⟩ = some (.string y.2.1) := (zca r5 1).trans rfl); (have t2 : u5.cell? ⟨v.heap.size, 2, none⟩ = some (.int .i64 y.2.2.1) := (zca r5 2).trans rfl); (have t3 : u5.cell? ⟨v.heap.size, 3, none⟩ = some (.int .i64 y.2.2.2) := (zca r5 3).trans rfl))
  | (refine wpList_store_row rfl 48 (.tmp 6) (.tmp 14) rfl v.heap.size (tkC y) rfl rfl 48 _ hd2 infoTk rfl (by simp [tkC, Value.oneCell']) ?_; rw [hv3]; (have p1 : v3.cell? ⟨v.heap.size, 1, none⟩ = some (.string y.2.1) := (zca hd3 1).trans rfl); (have hO3 : Ob nb w v3 := (Ob.of hb03).trans ((hO.trans (Ob.of hb3)).trans (hOv.trans (Ob.of hc3)))); (have g1 := (hc3.block _ (by omega)).trans ((hOv.block _ (by omega) (by omega)).trans ((hb3.block _ (by omega)).trans ((hO.block _ (by omega) (by omega)).trans hq1)))); (have g2 := (hc3.block _ (by omega)).trans ((hOv.block _ (by omega) (by omega)).trans ((hb3.block _ (by omega)).trans ((hO.block _ (by omega) (by omega)).trans hq2)))); (have g3 := (hc3.block _ (by omega)).trans ((hOv.block _ (by omega) (by omega)).trans hr3)); (have z0 : v3.cell? ⟨w.heap.size, 0, none⟩ = some sl := (zca g1 0).trans rfl); (have z1 : v3.cell? ⟨w.heap.size, 1, none⟩ = some mp := (zca g1 1).trans rfl); (have z2 : v3.cell? ⟨W1.heap.size, 1, none⟩ = some (.string z.2.1) := (zca g2 1).trans rfl); (have z3 : v3.cell? ⟨u.heap.size, 1, none⟩ = some (.string x.2.1) := (zca g3 1).trans rfl))
  | (refine wpList_store_row rfl 48 (.tmp 5) (.tmp 11) rfl u.heap.size (tkC x) rfl rfl 48 _ hr2 infoTk rfl (by simp [tkC, Value.oneCell']) ?_; rw [hu3]; (have rr := (hb3.block _ (by omega)).trans ((hO.block _ (by omega) (by omega)).trans hq1)); (have z2 : u3.cell? ⟨w.heap.size, 2, none⟩ = some (rdF nb wb) := (zca rr 2).trans rfl); rw [hrd.out] at z2; (have hT3 := hT.carry hb3))
  | (go_at_call 93; (have hzz := hT3); (with_reducible refine (HL.out _ hT3).mono ?_); rintro e v ⟨rfl, hTv, hOv⟩; (have hOvs := hOv.size); obtain ⟨v2, v3, hv2, hv3, hd2, hd3, hc3, hcs3⟩ := box_word v y)
  | (go_at_call 93; (with_reducible refine HK.mono ?_); rintro e u ⟨rfl, hT, hO⟩; (have hOs := hO.size); obtain ⟨u2, u3, hu2, hu3, hr2, hr3, hb3, hs3⟩ := box_word u x))
 have hs46 := hb46.size
 have hO6 : Ob nb w u6 := hO3.trans (Ob.of hb46)
 refine retN rfl rfl rfl (q.out.set o t k) ⟨rfl, ?_⟩
 have hO7 : Ob nb w (W3 u6 W2.heap.size o t k) := ⟨hO6.os, hO6.tape, hO6.output, Nat.le_trans hO6.size (by simp [W3]), fun r g1 g2 => (other3 (by omega) _ _ _).trans (hO6.block r g1 g2)⟩
 exact ⟨h0.out.move hTv hO7 ((other3 (by omega) _ _ _).trans ((hb46.block nb (by omega)).trans (hc3.block nb (by omega)))), hO7⟩
end Go.Proofs.YtmahamdmapbilaaGreatDoor
namespace Go.Proofs.YtmahamdmapbilaaGreatDoor
open Go.RowKit Go.Shelf
def NtsAt (W : World) (b off : Nat) (l : List (Int × Int × Int)) : Prop := ∀ k x, l[k]? = some x → W.cell? ⟨b, off + k * 3, none⟩ = some (.int .i64 x.1) ∧ W.cell? ⟨b, off + k * 3 + 1, none⟩ = some (.int .i64 x.2.1) ∧ W.cell? ⟨b, off + k * 3 + 2, none⟩ = some (.int .i64 x.2.2)
def RdN (W : World) (ad : Option Addr) (l : List (Int × Int × Int)) : Prop := l ≠ [] → ∃ b off, ad = some ⟨b, off, none⟩ ∧ b < W.heap.size ∧ NtsAt W b off l
theorem RdN.carry {W W' : World} {ad : Option Addr} {l : List (Int × Int × Int)} (h : RdN W ad l) (hb : Below W.heap.size W W') : RdN W' ad l := by
 intro hl
 obtain ⟨b, off, h1, h2, h3⟩ := h hl
 refine ⟨b, off, h1, Nat.lt_of_lt_of_le h2 hb.size, fun k x hk => ?_⟩
 obtain ⟨c0, c1, c2⟩ := h3 k x hk
 exact ⟨(hb.cell (p := ⟨b, _, none⟩) h2).trans c0, (hb.cell (p := ⟨b, _, none⟩) h2).trans c1, (hb.cell (p := ⟨b, _, none⟩) h2).trans c2⟩
def ris (n : Int) : Int → List (Int × Int × Int) → Bool
 | _, [] => true
 | a, x :: r => vl n x.1 x.2.1 x.2.2 && (decide (a < x.1) && ris n x.1 r)
theorem ris_step (n a : Int) (x : Int × Int × Int) (l : List (Int × Int × Int)) (k : Nat) (h : l[k]? = some x) : ris n a (l.drop k) = (vl n x.1 x.2.1 x.2.2 && (decide (a < x.1) && ris n x.1 (l.drop (k + 1)))) := by
 obtain ⟨hk, rfl⟩ := List.getElem?_eq_some_iff.1 h
 rw [List.drop_eq_getElem_cons hk]
 rfl
def vnatR (v : Value) : Nat := match v with | .int _ n => n.toNat | _ => 0
theorem rising_any (n : Int) (ad : Option Addr) (cap : Nat) (l : List (Int × Int × Int)) (w : World) (h : RdN w ad l) (hl : l.length ≤ 6000000000000) : Calls Tryz.prog 280 #[.int .i64 n, .slice ad l.length cap] w fun e w' => e = .returned (.bool (ris n (-1) l)) ∧ Below w.heap.size w w' := by
 obtain ⟨R, hR⟩ : ∃ R, ris n (-1) l = R := ⟨_, rfl⟩
 rw [hR]
 have HR : Hid (ris n (-1) (l.drop 0) = R) := hR
 clear hR
 go_enter Tryz.func280, Tryz.ntmps280
 go_wp2
 go_loopw [5, 10] (fun c i wz => ∃ (k : Nat) (a : Int), c = .int .i64 a ∧ i = .int .i64 k ∧ k ≤ l.length ∧ Hid (ris n a (l.drop k) = R) ∧ Below w.heap.size w wz) (fun _ i _ => l.length - vnatR i)
 case atStart => exact ⟨0, -1, rfl, rfl, Nat.zero_le _, HR, Below.refl _ _⟩
 case round =>
  obtain ⟨k, a, rfl, rfl, hk, HK, hbw⟩ := hrel
  have hsw := hbw.size
  by_cases hkl : k < l.length
  · obtain ⟨b, off, e1, hbl, hat⟩ := h.carry hbw (fun e => by subst e; simp at hkl)
    subst e1
    obtain ⟨⟨o, t, q⟩, hx⟩ : ∃ x, l[k]? = some x := ⟨_, List.getElem?_eq_getElem hkl⟩
    obtain ⟨c0, c1, c2⟩ := hat k _ hx
    dsimp only at c0 c1 c2
    have HS := ris_step n a _ l k hx
    rw [HK.out] at HS
    dsimp only at HS
    have hki : (k : Int) < (l.length : Int) := by omega
    have hvl := valid_any n o t q
    unfold nt at hvl
    cases hv : vl n o t q with
    | false =>
     rw [hv] at hvl HS
     have HF : Hid (R = false) := HS
     clear HS hv HK HR
     go_wp2_with (go_at_call 210; (with_reducible refine (hvl _).mono ?_); rintro e u1 ⟨rfl, hb1⟩; have hn1 : NB u1 wr.heap.size o t q := NB.carry (NB.new wr o t q) hb1; have n0 := hn1.c0; have n1 := hn1.c1; have n2 := hn1.c2)
     go_ret
     rw [HF.out]
     exact ⟨rfl, bel2 (hbw.alloc hsw _) hb1⟩
    | true =>
     rw [hv] at hvl HS
     by_cases hlt : a < o
     · rw [decide_eq_true hlt] at HS
       have HN : Hid (ris n o (l.drop (k + 1)) = R) := by show _ = R; rw [HS]; rfl
       have hle : ¬ o ≤ a := by omega
       clear HS hv HK HR
       go_wp2_with (go_at_call 210; (with_reducible refine (hvl _).mono ?_); rintro e u1 ⟨rfl, hb1⟩; have hn1 : NB u1 wr.heap.size o t q := NB.carry (NB.new wr o t q) hb1; have n0 := hn1.c0; have n1 := hn1.c1; have n2 := hn1.c2)
       go_roundw
       case rel => exact ⟨k + 1, o, rfl, by simp, by omega, HN, bel2 (hbw.alloc hsw _) hb1⟩
       case measure => simp [vnatR]; omega
     · rw [decide_eq_false hlt] at HS
       have HF : Hid (R = false) := HS
       have hle : o ≤ a := by omega
       clear HS hv HK HR
       go_wp2_with (go_at_call 210; (with_reducible refine (hvl _).mono ?_); rintro e u1 ⟨rfl, hb1⟩; have hn1 : NB u1 wr.heap.size o t q := NB.carry (NB.new wr o t q) hb1; have n0 := hn1.c0; have n1 := hn1.c1; have n2 := hn1.c2)
       go_ret
       rw [HF.out]
       exact ⟨rfl, bel2 (hbw.alloc hsw _) hb1⟩
  · have hkk : k = l.length := by omega
    subst hkk
    have HF : Hid (R = true) := by
     have := HK.out
     rw [List.drop_length] at this
     exact this.symm
    clear HK HR
    go_wp2
    go_ret
    rw [HF.out]
    exact ⟨rfl, hbw⟩
def fl (l : List (Int × Int × Int)) : List Value := l.flatMap fun x => [.int .i64 x.1, .int .i64 x.2.1, .int .i64 x.2.2]
theorem fl_nil : fl [] = [] := rfl
theorem fl_cons (x : Int × Int × Int) (l : List (Int × Int × Int)) : fl (x :: l) = .int .i64 x.1 :: .int .i64 x.2.1 :: .int .i64 x.2.2 :: fl l := rfl
theorem fl_append (a b : List (Int × Int × Int)) : fl (a ++ b) = fl a ++ fl b := by simp [fl]
theorem fl_len : ∀ l : List (Int × Int × Int), (fl l).length = l.length * 3
 | [] => rfl
 | x :: l => by rw [fl_cons]; simp only [List.length_cons, fl_len l]; omega
theorem fl_get : ∀ (l : List (Int × Int × Int)) (k : Nat) (x : Int × Int × Int), l[k]? = some x → (fl l)[k * 3]? = some (.int .i64 x.1) ∧ (fl l)[k * 3 + 1]? = some (.int .i64 x.2.1) ∧ (fl l)[k * 3 + 2]? = some (.int .i64 x.2.2)
 | [], k, x, h => by simp at h
 | y :: l, 0, x, h => by
  simp at h
  subst h
  exact ⟨rfl, rfl, rfl⟩
 | y :: l, k + 1, x, h => by
  have ih := fl_get l k x (by simpa using h)
  rw [fl_cons, show (k + 1) * 3 = k * 3 + 3 by omega]
  exact ih
theorem fl_inv : ∀ (l : List (Int × Int × Int)) (j : Nat) (u : Value), (fl l)[j]? = some u → ∃ k x, l[k]? = some x ∧ ((j = k * 3 ∧ u = .int .i64 x.1) ∨ (j = k * 3 + 1 ∧ u = .int .i64 x.2.1) ∨ (j = k * 3 + 2 ∧ u = .int .i64 x.2.2))
 | [], j, u, h => by simp [fl_nil] at h
 | y :: l, 0, u, h => ⟨0, y, rfl, .inl ⟨rfl, (Option.some.inj h).symm⟩⟩
 | y :: l, 1, u, h => ⟨0, y, rfl, .inr (.inl ⟨rfl, (Option.some.inj h).symm⟩)⟩
 | y :: l, 2, u, h => ⟨0, y, rfl, .inr (.inr ⟨rfl, (Option.some.inj h).symm⟩)⟩
 | y :: l, j + 3, u, h => by
  obtain ⟨k, x, h1, h2⟩ := fl_inv l j u h
  refine ⟨k + 1, x, by simpa using h1, ?_⟩
  rcases h2 with ⟨e, f⟩ | ⟨e, f⟩ | ⟨e, f⟩
  · exact .inl ⟨by omega, f⟩
  · exact .inr (.inl ⟨by omega, f⟩)
  · exact .inr (.inr ⟨by omega, f⟩)
theorem fl_one (l : List (Int × Int × Int)) : ∀ u ∈ fl l, u.oneCell' = true := by
 intro u hu
 obtain ⟨j, hj⟩ := List.mem_iff_getElem?.1 hu
 obtain ⟨k, x, _, h⟩ := fl_inv l j u hj
 rcases h with ⟨_, rfl⟩ | ⟨_, rfl⟩ | ⟨_, rfl⟩ <;> rfl
theorem add_pl (b off j : Nat) : (⟨b, off, none⟩ : Addr).add j = ⟨b, off + j, none⟩ := by unfold Addr.add; split <;> simp_all
theorem nts_src {W : World} {b off : Nat} {l : List (Int × Int × Int)} (h : NtsAt W b off l) : ∀ j u, (fl l)[j]? = some u → W.cell? ((⟨b, off, none⟩ : Addr).add j) = some u := by
 intro j u hj
 rw [add_pl]
 obtain ⟨k, x, hx, e⟩ := fl_inv l j u hj
 obtain ⟨c0, c1, c2⟩ := h k x hx
 rcases e with ⟨rfl, rfl⟩ | ⟨rfl, rfl⟩ | ⟨rfl, rfl⟩
 · exact c0
 · exact c1
 · exact c2
theorem nts_own {W : World} {base g n cap : Nat} {l : List (Int × Int × Int)} (h : W.ownsRow base 124 3 (.slice (some ⟨g, 0, none⟩) n cap) n (fl l)) (hn : n = l.length) : NtsAt W g 0 l := by
 intro k x hk
 have hlt : k < l.length := (List.getElem?_eq_some_iff.1 hk).1
 obtain ⟨c0, c1, c2⟩ := fl_get l k x hk
 rw [Nat.zero_add]
 exact ⟨(h.cellAt _ (by omega)).trans c0, (h.cellAt _ (by omega)).trans c1, (h.cellAt _ (by omega)).trans c2⟩
theorem infoN : (Tryz.prog.info? 124).map (fun i => (i.zero, i.size, i.bytes)) = some (some (.agg #[.int .i64 0, .int .i64 0, .int .i64 0]), 3, 24) := by kernel_rfl
theorem info_partsN : ∃ i, Tryz.prog.info? 124 = some i ∧ i.zero = some (.agg #[.int .i64 0, .int .i64 0, .int .i64 0]) ∧ i.size = 3 ∧ i.bytes = 24 := by
 have h := infoN
 cases hi : Tryz.prog.info? 124 with
 | none => rw [hi] at h; cases h
 | some i =>
  rw [hi] at h
  simp only [Option.map_some, Option.some.injEq, Prod.mk.injEq] at h
  exact ⟨i, rfl, h.1, h.2.1, h.2.2⟩
theorem own_form {w : World} {base : Nat} {e : TypeId} {size : Nat} {v : Value} {n : Nat} {xs : List Value} (h : w.ownsRow base e size v n xs) : (v = .slice none 0 0 ∧ n = 0) ∨ ∃ g cap, v = .slice (some ⟨g, 0, none⟩) n cap ∧ base ≤ g ∧ g < w.heap.size ∧ n ≤ cap := by
 rcases h.2 with ⟨rfl, rfl⟩ | ⟨g, cap, cur, rfl, h4, h5, h6, _⟩
 · exact .inl ⟨rfl, rfl⟩
 · exact .inr ⟨g, cap, rfl, h4, zla h5, h6⟩
theorem own_block {w : World} {base : Nat} {e : TypeId} {size : Nat} {v : Value} {n : Nat} {xs : List Value} (h : w.ownsRow base e size v n xs) : ∀ g, v.ownBlock = some g → base ≤ g := by
 intro g hg
 rcases h.2 with ⟨rfl, _⟩ | ⟨g', cap, cur, rfl, h4, h5, _⟩
 · simp [Value.ownBlock] at hg
 · simp [Value.ownBlock] at hg
   omega
theorem rowN (W : World) (cs : Array Value) (t : TypeId) : ∀ j u, cs.toList[j]? = some u → (W.alloc (.cells cs t)).cell? ((⟨W.heap.size, 0, none⟩ : Addr).add j) = some u := by
 intro j u h
 have hg : (W.alloc (.cells cs t)).heap[W.heap.size]? = some (.cells cs t) := zna rfl
 rw [add_pl, Nat.zero_add, zca hg j, ← h]
 simp
end Go.Proofs.YtmahamdmapbilaaGreatDoor
namespace Go.Proofs.YtmahamdmapbilaaGreatDoor
open Go.RowKit Go.Shelf Go.Lib
def topW (n : Int) : Nat := (min (max n 0) 100).toNat
def wthB (N : Nat) (n : Int) : Bool := decide (N = N % 2 ^ topW n)
theorem topW_le (n : Int) : topW n ≤ 100 := by unfold topW; omega
theorem topW_lt (n : Int) (i : Nat) : i < topW n ↔ (i : Int) < n ∧ i < 100 := by unfold topW; omega
theorem bi_max {P : Program} (cs : Array Bool) (ts : Array TypeId) (t : TypeId) (x y : Int) (w : World) : (builtin .max ts t cs #[.int .i64 x, .int .i64 y]).run P w = .ok (.value (.int .i64 (max x y))) w := by
 show ((do pure (.value (← Builtin.max_ ts t #[.int .i64 x, .int .i64 y]))) : Sem Next).run P w = _
 rw [Sem.run_bind, run_max_int2]
 simp only [Result.andThen_ok, Sem.run_pure]
 by_cases h : y > x
 · rw [if_pos h, show max x y = y by omega]
 · rw [if_neg h, show max x y = x by omega]
theorem bi_min {P : Program} (cs : Array Bool) (ts : Array TypeId) (t : TypeId) (x y : Int) (w : World) : (builtin .min ts t cs #[.int .i64 x, .int .i64 y]).run P w = .ok (.value (.int .i64 (min x y))) w := by
 show ((do pure (.value (← Builtin.min_ ts t #[.int .i64 x, .int .i64 y]))) : Sem Next).run P w = _
 rw [Sem.run_bind, run_min_int2]
 simp only [Result.andThen_ok, Sem.run_pure]
 by_cases h : y < x
 · rw [if_pos h, show min x y = y by omega]
 · rw [if_neg h, show min x y = x by omega]
theorem within_any (N : Nat) (hN : N < S128) (n : Int) (w : World) : Calls Tryz.prog 159 #[sv N, .int .i64 n] w fun e w' => e = .returned (.bool (wthB N n)) ∧ Below w.heap.size w w' := by
 have hmx := mixO
 have hbl := below_any N (topW n) (by have := topW_le n; omega)
 have hq : (topW n : Int) = min (max n 0) 100 := by unfold topW; omega
 have hlt : N % 2 ^ topW n < S128 := Nat.lt_of_le_of_lt (Nat.mod_le _ _) hN
 go_enter Tryz.func159, Tryz.ntmps159
 simp only [sv]
 go_wp2
 rename_i Q0 K0 hK
 refine wp_region_any hmx ?_
 refine zwp (fun i__ => ([(sv N), (sv N), (.int .i64 n), (.int .i64 (max n 0)), (.int .i64 (topW n : Nat)), (sv (N % 2 ^ topW n)), (.bool (wthB N n)), (.bool (wthB N n))] : List Value).getD i__ undef) (fun W => Zh4 W w.heap.size (wd N) ∧ Below w.heap.size w W) (by kernel_rfl) ⟨get_newQ (by simp), (alloc_below w _).drew⟩ ?_ ?_
 · refine (sqc ?_ (sqc ?_ (sqc ?_ (sqc ?_ (sqc ?_ (sqc ?_ (sqc ?_ (sqc ?_ trivial))))))))
   · exact zld rfl trivial _ _ _ rfl rfl (fun w hw => whole4 w _ N hw.1)
   · exact zld rfl trivial _ _ _ rfl rfl (fun w hw => whole4 w _ N hw.1)
   · exact zmv rfl trivial _ rfl (by kernel_rfl)
   · exact step_bi rfl trivial _ _ _ [(.int .i64 n), (Go.Value.int Go.IntKind.i64 0)] rfl (by kernel_rfl) (fun cs w hw => bi_max cs _ _ n 0 w)
   · exact step_bi rfl trivial _ _ _ [(.int .i64 (max n 0)), (Go.Value.int Go.IntKind.i64 100)] rfl (by kernel_rfl) (fun cs w hw => by rw [hq]; exact bi_min cs _ _ _ 100 w)
   · exact zsc rfl trivial 190 _ _ [(sv N), (.int .i64 (topW n : Nat))] rfl (by kernel_rfl) (enters_of Tryz.func190 (by kernel_rfl) rfl) (fun w hw => (hbl w).mono (by rintro e w' ⟨rfl, hb⟩; exact ⟨rfl, hw.1.carry hb, bcarry hw.2 (Nat.le_refl _) hb⟩))
   · exact zbo rfl trivial _ _ _ _ _ _ _ rfl rfl rfl (fun w hw => eql4 _ _ _ _ hN hlt w)
   · exact zas rfl trivial _ rfl (by kernel_rfl) (fun _ h => h)
 intro W hW
 first | refine hK _ _ ?_ | refine (‹∀ (a : Act) (w : World), Code.wp Tryz.prog _ _ a w → _›) _ _ ?_ | skip
 simp only [finL, List.getD_cons_zero, List.getD_cons_succ, Nat.zero_add, Nat.reduceAdd, List.setIfInBounds_toArray, List.set_cons_zero, List.set_cons_succ]
 go_wp2
 go_ret
 exact ⟨rfl, hW.2⟩
end Go.Proofs.YtmahamdmapbilaaGreatDoor
