import Derived.Test.YtmahamdmapbilaaGreatDoorJwJ20
import Derived.Shelf.Strings.OnBuilder
import Derived.Test.YtmahamdmapbilaaGreatDoorProg
import Derived.Test.YtmahamdmapbilaaGreatDoorJwJ13
import Derived.Test.YtmahamdmapbilaaGreatDoorJwJ12
import Derived.Test.YtmahamdmapbilaaGreatDoorJwJ17
set_option maxHeartbeats 40000000
set_option maxRecDepth 100000
set_option linter.unusedVariables false
namespace Go.Proofs.YtmahamdmapbilaaGreatDoor
open Go.RowKit Go.Shelf Go.Lib
theorem notice_no {M : Nat} {sl mp : Value} {L : List Int} {nb wb : Nat} {l : List Tk4} {i : Nat} {w : World} (hE : En M L sl mp nb w) (hSh : Shw l) (h : Tk nb wb l (i + 1) w) (hi : i < l.length) (hl : l.length ≤ 1000000) (z : Tk4) (hz : hereT l i = z) (er c : Int) (hr : nteT L l i = .error (er, c)) : Calls Tryz.prog 184 #[.agg #[sl, mp, rdF nb wb], tk4 z] w (Dy nb w er c) := by
 unfold Dy
 obtain ⟨W1, hW1⟩ : ∃ W1, w.alloc (.cells #[sl, mp, rdF nb wb] 86) = W1 := ⟨_, rfl⟩
 have hb1 : Below w.heap.size w W1 := by rw [← hW1]; exact al1t _ _
 have hr1 : W1.heap[w.heap.size]? = some (.cells #[sl, mp, rdF nb wb] 86 (0, 0)) := by rw [← hW1]; exact zna rfl
 obtain ⟨W2, hW2⟩ : ∃ W2, W1.alloc (.cells #[.int .i64 z.1, .string z.2.1, .int .i64 z.2.2.1, .int .i64 z.2.2.2] 48) = W2 := ⟨_, rfl⟩
 have hb2 : Below W1.heap.size W1 W2 := by rw [← hW2]; exact al1t _ _
 have hr2' : W2.heap[W1.heap.size]? = some (.cells #[.int .i64 z.1, .string z.2.1, .int .i64 z.2.2.1, .int .i64 z.2.2.2] 48 (0, 0)) := by rw [← hW2]; exact zna rfl
 obtain ⟨W3', hW3⟩ : ∃ W3', W2.alloc (.cells #[.int .i64 0, .int .i64 0, .int .i64 0] 124) = W3' := ⟨_, rfl⟩
 have hb3' : Below W2.heap.size W2 W3' := by rw [← hW3]; exact al1t _ _
 have hq1 := (hb3'.block _ (Nat.lt_of_lt_of_le (zla hr1) hb2.size)).trans ((hb2.block _ (zla hr1)).trans hr1)
 have hq2 := (hb3'.block _ (zla hr2')).trans hr2'
 have hb03 := bel3 (bel3 hb1 hb2) hb3'
 have hnb := zla h.nx
 have hs1 := hb1.size
 have hs2 := hb2.size
 have hs3' := hb3'.size
 have hl1 := zla hr1
 have hl2 := zla hr2'
 have h0 : Hid (Tk nb wb l (i + 1) w) := h
 have c2 : W3'.cell? ⟨w.heap.size, 2, none⟩ = some (rdF nb wb) := (zca hq1 2).trans rfl
 have hrd : Hid (rdF nb wb = .func (.func 93) #[] #[.pointer (some ⟨nb, 0, none⟩), .pointer (some ⟨wb, 0, none⟩)]) := rfl
 unfold nteT at hr
 by_cases h1 : mrkB (hereT l (i + 1)) = true
 case neg =>
   rw [if_neg h1] at hr
   cases hr
   have HK := tk_no (w := W3') 207 (enters_of Tryz.func207 (by kernel_rfl) rfl) (h.carry hb03) (by omega) hl _ (isNoticeMark_any _ _ _ _) (by unfold mrkB at h1; simpa using h1)
   unfold Dy at HK
   generalize (hereT l (i + 1)).2.2.2 = C at *
   unfold rdF at c2 hW1 ⊢
   unfold tk4 tkV
   clear h h1 hE hz
   go_enter Tryz.func184, Tryz.ntmps184
   go_wp2_with (go_at_call 93; (with_reducible refine HK.mono ?_); rintro e u ⟨rfl, hO⟩)
   exact ⟨rfl, rfl, (Ob.of hb03).trans hO⟩
 rw [if_pos h1] at hr
 obtain ⟨x, hxe⟩ : ∃ x, hereT l (i + 1) = x := ⟨_, rfl⟩
 have hx1 := hSh (i + 1)
 rw [hxe] at h1 hx1
 have hx := here_in hxe (by have := mrkB_k h1; omega)
 have hil1 : i + 1 < l.length := (List.getElem?_eq_some_iff.1 hx).1
 have HK := tk_of (w := W3') 207 (enters_of Tryz.func207 (by kernel_rfl) rfl) (h.carry hb03) x hx hl _ (isNoticeMark_any _ _ _ _) (by unfold mrkB at h1; exact h1)
 by_cases h2 : (hereT l (i + 2)).1 = 3
 case neg =>
   rw [if_neg h2] at hr
   cases hr
   have HL : Hid (∀ V, Tk nb wb l (i + 1 + 1) V → Calls Tryz.prog 93 #[.func (.func 180) #[] #[], .pointer (some ⟨nb, 0, none⟩), .pointer (some ⟨wb, 0, none⟩)] V fun e w' => e = .panicked (rfT 80 (hereT l (i + 2)).2.2.2) ∧ Ob nb V w') := fun V hV => tk_no 180 (enters_of Tryz.func180 (by kernel_rfl) rfl) hV (by omega) hl _ (isNumber_any _ _ _ _) (by simpa using h2)
   generalize (hereT l (i + 2)).2.2.2 = C at *
   unfold rdF at c2 hW1 ⊢
   unfold tk4 tkV
   clear h hx hxe hE h1 h2 hz hi hil1
   unfold tkC at HK
   go_enter Tryz.func184, Tryz.ntmps184
   go_wp2_with (first
    | (refine wpList_store_row rfl 48 (.tmp 5) (.tmp 11) rfl u.heap.size (tkC x) rfl rfl 48 _ hr2 infoTk rfl (by simp [tkC, Value.oneCell']) ?_; rw [hu3]; (have rr := (hb3.block _ (by omega)).trans ((hO.block _ (by omega) (by omega)).trans hq1)); (have z2 : u3.cell? ⟨w.heap.size, 2, none⟩ = some (rdF nb wb) := (zca rr 2).trans rfl); rw [hrd.out] at z2; (have hT3 := hT.carry hb3))
    | (go_at_call 93; (have hzz := hT3); (with_reducible refine (HL.out _ hT3).mono ?_); rintro e v ⟨rfl, hOv⟩)
    | (go_at_call 93; (with_reducible refine HK.mono ?_); rintro e u ⟨rfl, hT, hO⟩; (have hOs := hO.size); obtain ⟨u2, u3, hu2, hu3, hr2, hr3, hb3, hs3⟩ := box_word u x))
   exact ⟨rfl, rfl, (Ob.of hb03).trans ((hO.trans (Ob.of hb3)).trans hOv)⟩
 rw [if_pos h2] at hr
 obtain ⟨y, hye⟩ : ∃ y, hereT l (i + 2) = y := ⟨_, rfl⟩
 have hy1 := hSh (i + 2)
 have hz1 := hSh i
 rw [hye] at h2 hy1
 rw [hz] at hz1
 have hy : l[i + 1 + 1]? = some y := here_in hye (by omega)
 rw [hz, hxe, hye] at hr
 have HL : Hid (∀ V, Tk nb wb l (i + 1 + 1) V → Calls Tryz.prog 93 #[.func (.func 180) #[] #[], .pointer (some ⟨nb, 0, none⟩), .pointer (some ⟨wb, 0, none⟩)] V fun e w' => e = .returned (.agg (tkC y)) ∧ Tk nb wb l (i + 1 + 1 + 1) w' ∧ Ob nb V w') := fun V hV => tk_of 180 (enters_of Tryz.func180 (by kernel_rfl) rfl) hV y hy hl _ (isNumber_any _ _ _ _) (by rw [h2]; rfl)
 have hsz : (z.2.1 ++ x.2.1 ++ y.2.1).size ≤ maxLen := by rw [ByteArray.size_append, ByteArray.size_append]; unfold maxLen; omega
 have hz2 : (z.2.1 ++ x.2.1).size + y.2.1.size ≤ 9223372036854775807 := by rw [ByteArray.size_append]; omega
 have hz3 : z.2.1.size + x.2.1.size ≤ 9223372036854775807 := by omega
 unfold ntS at hr
 obtain ⟨⟨o, t, k, E⟩, hrp⟩ : ∃ q, rdP L (z.2.1 ++ x.2.1 ++ y.2.1) = q := ⟨_, rfl⟩
 rw [hrp] at hr
 dsimp only at hr
 split at hr
 · cases hr
 rename_i hE0
 cases hr
 have HP : Hid (∀ V, Ob nb w V → Calls Tryz.prog 208 #[.agg #[sl, mp], .string (z.2.1 ++ x.2.1 ++ y.2.1)] V fun e w' => e = .returned (.tuple #[.agg #[.int .i64 o, .int .i64 t, .int .i64 k], .int .i64 E]) ∧ Below V.heap.size V w') := fun V hV => by
   have := nread_any V (hE.ros V hV) (Nat.le_trans hE.le hV.size) _ hsz (hE.ut V hV)
   rw [hrp] at this
   exact this
 have hE1 : (E == 0) = false := by simpa using hE0
 have hE2 : (E != 0) = true := by simpa using hE0
 have HF : ∀ c, Calls Tryz.prog 94 #[.bool true, .int .i64 75, .agg #[.int .i64 y.1, .string y.2.1, .int .i64 y.2.2.1, .int .i64 y.2.2.2]] c fun en w' => en = .panicked (rfT 75 y.2.2.2) ∧ Below c.heap.size c w' := trefuse_yes 75 y.1 y.2.2.1 y.2.2.2 y.2.1
 unfold rdF at c2 hW1 ⊢
 unfold tk4 tkV
 clear h hx hxe hy hye hrp hE h1 h2 hz hi hil1 hsz hz1 hx1 hy1 hb1 hb2 hb3' hE0
 unfold tkC at HK HL
 go_enter Tryz.func184, Tryz.ntmps184
 go_wp2_with (first
   | (go_at_call 94; (with_reducible refine (HF _).mono ?_); rintro e u6 ⟨rfl, hb6⟩)
   | (go_at_call 208; (with_reducible refine (HP.out _ hO3).mono ?_); rintro e u4 ⟨rfl, hb4⟩; (have r4 := (hb4.block _ (zla hd3)).trans hd3); obtain ⟨u5, hu5⟩ : ∃ u5, u4.alloc (.cells #[.int .i64 o, .int .i64 t, .int .i64 k] 124) = u5 := ⟨_, rfl⟩; (have hb5 : Below u4.heap.size u4 u5 := by rw [← hu5]; exact al1t _ _); (have r5 := (hb5.block _ (zla r4)).trans r4); (have t0 : u5.cell? ⟨v.heap.size, 0, none⟩ = some (.int .i64 y.1) := (zca r5 0).trans rfl); (have t1 : u5.cell? ⟨v.heap.size, 1, none⟩ = some (.string y.2.1) := (zca r5 1).trans rfl); (have t2 : u5.cell? ⟨v.heap.size, 2, none⟩ = some (.int .i64 y.2.2.1) := (zca r5 2).trans rfl); (have t3 : u5.cell? ⟨v.heap.size, 3, none⟩ = some (.int .i64 y.2.2.2) := (zca r5 3).trans rfl))
   | (refine wpList_store_row rfl 48 (.tmp 6) (.tmp 14) rfl v.heap.size (tkC y) rfl rfl 48 _ hd2 infoTk rfl (by simp [tkC, Value.oneCell']) ?_; rw [hv3]; (have p1 : v3.cell? ⟨v.heap.size, 1, none⟩ = some (.string y.2.1) := (zca hd3 1).trans rfl); (have hO3 : Ob nb w v3 := (Ob.of hb03).trans ((hO.trans (Ob.of hb3)).trans (hOv.trans (Ob.of hc3)))); (have g1 := (hc3.block _ (by omega)).trans ((hOv.block _ (by omega) (by omega)).trans ((hb3.block _ (by omega)).trans ((hO.block _ (by omega) (by omega)).trans hq1)))); (have g2 := (hc3.block _ (by omega)).trans ((hOv.block _ (by omega) (by omega)).trans ((hb3.block _ (by omega)).trans ((hO.block _ (by omega) (by omega)).trans hq2)))); (have g3 := (hc3.block _ (by omega)).trans ((hOv.block _ (by omega) (by omega)).trans hr3)); (have z0 : v3.cell? ⟨w.heap.size, 0, none⟩ = some sl := (zca g1 0).trans rfl); (have z1 : v3.cell? ⟨w.heap.size, 1, none⟩ = some mp := (zca g1 1).trans rfl); (have z2 : v3.cell? ⟨W1.heap.size, 1, none⟩ = some (.string z.2.1) := (zca g2 1).trans rfl); (have z3 : v3.cell? ⟨u.heap.size, 1, none⟩ = some (.string x.2.1) := (zca g3 1).trans rfl))
   | (refine wpList_store_row rfl 48 (.tmp 5) (.tmp 11) rfl u.heap.size (tkC x) rfl rfl 48 _ hr2 infoTk rfl (by simp [tkC, Value.oneCell']) ?_; rw [hu3]; (have rr := (hb3.block _ (by omega)).trans ((hO.block _ (by omega) (by omega)).trans hq1)); (have z2 : u3.cell? ⟨w.heap.size, 2, none⟩ = some (rdF nb wb) := (zca rr 2).trans rfl); rw [hrd.out] at z2; (have hT3 := hT.carry hb3))
   | (go_at_call 93; (have hzz := hT3); (with_reducible refine (HL.out _ hT3).mono ?_); rintro e v ⟨rfl, hTv, hOv⟩; (have hOvs := hOv.size); obtain ⟨v2, v3, hv2, hv3, hd2, hd3, hc3, hcs3⟩ := box_word v y)
   | (go_at_call 93; (with_reducible refine HK.mono ?_); rintro e u ⟨rfl, hT, hO⟩; (have hOs := hO.size); obtain ⟨u2, u3, hu2, hu3, hr2, hr3, hb3, hs3⟩ := box_word u x))
 exact ⟨rfl, rfl, hO3.trans (Ob.of (bel3 (bel3 hb4 hb5) hb6))⟩
theorem ntT_ok {L : List Int} {l : List Tk4} {i : Nat} {n : N3t} (h : nteT L l i = .ok n) : i + 2 < l.length ∧ mrkB (hereT l (i + 1)) = true ∧ (hereT l (i + 2)).1 = 3 ∧ rdP L (ntS (hereT l i) (hereT l (i + 1)) (hereT l (i + 2))) = (n.1, n.2.1, n.2.2, 0) := by
 unfold nteT at h
 by_cases h1 : mrkB (hereT l (i + 1)) = true
 case neg => rw [if_neg h1] at h; cases h
 rw [if_pos h1] at h
 by_cases h2 : (hereT l (i + 2)).1 = 3
 case neg => rw [if_neg h2] at h; cases h
 rw [if_pos h2] at h
 split at h
 case isFalse => cases h
 rename_i h3
 cases h
 exact ⟨here_lt (by omega), h1, h2, by rw [Prod.ext_iff, Prod.ext_iff, Prod.ext_iff]; exact ⟨rfl, rfl, rfl, h3⟩⟩
def NcO (nb wb : Nat) (l : List Tk4) (i : Nat) (w : World) (r : Except ErT N3t) (e : Ending) (w' : World) : Prop := match r with
 | .error q => Dy nb w q.1 q.2 e w'
 | .ok n => e = .returned (nt n.1 n.2.1 n.2.2) ∧ Tk nb wb l (i + 3) w' ∧ Ob nb w w'
theorem notice_all {M : Nat} {sl mp : Value} {L : List Int} {nb wb : Nat} {l : List Tk4} {i : Nat} {w : World} (hE : En M L sl mp nb w) (hSh : Shw l) (h : Tk nb wb l (i + 1) w) (hi : i < l.length) (hl : l.length ≤ 1000000) (z : Tk4) (hz : hereT l i = z) : Calls Tryz.prog 184 #[.agg #[sl, mp, rdF nb wb], tk4 z] w (NcO nb wb l i w (nteT L l i)) := by
 unfold NcO
 cases hr : nteT L l i with
 | error q => exact notice_no hE hSh h hi hl z hz q.1 q.2 hr
 | ok n =>
  obtain ⟨h1, h2, h3, h4⟩ := ntT_ok hr
  subst hz
  exact notice_ok hE h _ _ _ (here_in (x := hereT l (i + 1)) rfl (by have := mrkB_k h2; omega)) (here_in (i := i + 1 + 1) (x := hereT l (i + 2)) rfl (by omega)) hl (by unfold mrkB at h2; exact h2) h3 (hSh _) (hSh _) (hSh _) _ _ _ h4
theorem leq_yes {x y : Operand} {a b : Int} (h : a ≤ b) (w : World) : binRun Tryz.prog .leq 3 x y (.int .i64 a) (.int .i64 b) w = .ok (.bool true) w := by rw [bin_leq, decide_eq_true h]
def preT (ns : List N3t) : Except ErT (List N3t × Nat) → Except ErT (List N3t × Nat)
 | .error q => .error q
 | .ok (ms, j) => .ok (ns ++ ms, j)
theorem pre_nil (r : Except ErT (List N3t × Nat)) : preT [] r = r := by
 cases r with
 | error q => rfl
 | ok x => rfl
theorem nw_err {L : List Int} {l : List Tk4} {f i : Nat} {A : Int} {q : ErT} (h : stT L l i A = .error q) : nwR L l (f + 1) i A = .error q := by rw [nwR, h]
theorem nw_end {L : List Int} {l : List Tk4} {f i : Nat} {A : Int} (h : stT L l i A = .ok none) : nwR L l (f + 1) i A = .ok ([], i + 1) := by rw [nwR, h]
theorem nw_on {L : List Int} {l : List Tk4} {f i : Nat} {A : Int} {n : N3t} (h : stT L l i A = .ok (some n)) (ns : List N3t) : preT ns (nwR L l (f + 1) i A) = preT (ns ++ [n]) (nwR L l f (i + 3) n.1) := by
 rw [nwR, h]
 dsimp only
 cases nwR L l f (i + 3) n.1 with
 | error q => rfl
 | ok x => simp [preT]
theorem st_end {L : List Int} {l : List Tk4} {i : Nat} {A : Int} (h : endB (hereT l i) = true) : stT L l i A = .ok none := by rw [stT, if_pos h]
theorem st_no {L : List Int} {l : List Tk4} {i : Nat} {A : Int} (h : endB (hereT l i) = false) (h1 : oneS (hereT l i) = false) : stT L l i A = .error (80, (hereT l i).2.2.2) := by rw [stT, if_neg (by simp [h]), if_neg (by simp [h1])]
theorem st_sign {L : List Int} {l : List Tk4} {i : Nat} {A : Int} (h : endB (hereT l i) = false) (h1 : oneS (hereT l i) = true) (h2 : ¬ ((rn (hereT l i).2.1 0 : Nat) : Int) ∈ L) : stT L l i A = .error (41, (hereT l i).2.2.2) := by rw [stT, if_neg (by simp [h]), if_pos h1, sgI, if_neg h2]
theorem st_low {L : List Int} {l : List Tk4} {i : Nat} {A : Int} (h : endB (hereT l i) = false) (h1 : oneS (hereT l i) = true) (h2 : ((rn (hereT l i).2.1 0 : Nat) : Int) ∈ L) (h3 : ((L.idxOf ((rn (hereT l i).2.1 0 : Nat) : Int) : Nat) : Int) ≤ A) : stT L l i A = .error (75, (hereT l i).2.2.2) := by
 rw [stT, if_neg (by simp [h]), if_pos h1, sgI, if_pos h2]
 dsimp only
 rw [if_pos h3]
theorem st_nt {L : List Int} {l : List Tk4} {i : Nat} {A : Int} (h : endB (hereT l i) = false) (h1 : oneS (hereT l i) = true) (h2 : ((rn (hereT l i).2.1 0 : Nat) : Int) ∈ L) (h3 : ¬ ((L.idxOf ((rn (hereT l i).2.1 0 : Nat) : Int) : Nat) : Int) ≤ A) : stT L l i A = match nteT L l i with | .error q => .error q | .ok n => .ok (some n) := by
 rw [stT, if_neg (by simp [h]), if_pos h1, sgI, if_pos h2]
 dsimp only
 rw [if_neg h3]
 cases nteT L l i <;> rfl
def NsO (nb wb : Nat) (l : List Tk4) (w : World) (r : Except ErT (List N3t × Nat)) (e : Ending) (w' : World) : Prop := match r with
 | .error q => Dy nb w q.1 q.2 e w'
 | .ok x => ∃ v, e = .returned v ∧ w'.ownsRow w.heap.size 124 3 v x.1.length (fl x.1) ∧ Tk nb wb l x.2 w' ∧ Ob nb w w'
theorem nso_err {nb wb : Nat} {l : List Tk4} {w w' : World} {r : Except ErT (List N3t × Nat)} {er c : Int} (h : r = .error (er, c)) (ho : Ob nb w w') : NsO nb wb l w r (.panicked (rfT er c)) w' := by
 subst h
 exact ⟨rfl, ho⟩
theorem newsT_any {M : Nat} {sl mp : Value} {L : List Int} {nb wb : Nat} {l : List Tk4} {i : Nat} {w : World} (hE : En M L sl mp nb w) (hSh : Shw l) (h : Tk nb wb l i w) (hi : i ≤ l.length) (hl : l.length ≤ 1000000) : Calls Tryz.prog 153 #[.agg #[sl, mp, rdF nb wb]] w (NsO nb wb l w (nwsR L l i)) := by
 have hmx := mixO
 obtain ⟨W1, hW1⟩ : ∃ W1, w.alloc (.cells #[sl, mp, rdF nb wb] 86) = W1 := ⟨_, rfl⟩
 have hb1 : Below w.heap.size w W1 := by rw [← hW1]; exact al1t _ _
 have hr1 : W1.heap[w.heap.size]? = some (.cells #[sl, mp, rdF nb wb] 86 (0, 0)) := by rw [← hW1]; exact zna rfl
 have hnb := zla h.nx
 have hs1 : W1.heap.size = w.heap.size + 1 := by rw [← hW1]; simp
 have hE1 : Hid (En M L sl mp nb W1) := hE.on (Ob.of hb1)
 have c2 : W1.cell? ⟨w.heap.size, 2, none⟩ = some (.func (.func 93) #[] #[.pointer (some ⟨nb, 0, none⟩), .pointer (some ⟨wb, 0, none⟩)]) := (zca hr1 2).trans rfl
 have HR1 : Hid (RdBx W1 w.heap.size sl mp nb wb) := hr1
 have HRD : Hid (rdF nb wb = .func (.func 93) #[] #[.pointer (some ⟨nb, 0, none⟩), .pointer (some ⟨wb, 0, none⟩)]) := rfl
 obtain ⟨R, hR⟩ : ∃ R, nwsR L l i = R := ⟨_, rfl⟩
 rw [hR]
 by_cases hbg : begB (hereT l i) = true
 case neg =>
  have HRR : Hid (R = .error (80, (hereT l i).2.2.2)) := by
    show R = _
    rw [← hR, nwsR, if_neg hbg]
  have HK := tk_no (w := W1) 181 (enters_of Tryz.func181 (by kernel_rfl) rfl) (h.carry hb1) hi hl _ (isNewsBegin_any _ _ _ _) (by unfold begB at hbg; simpa using hbg)
  unfold Dy at HK
  generalize (hereT l i).2.2.2 = C at *
  unfold rdF at hW1 ⊢
  clear h hE hbg hR hi
  go_enter Tryz.func153, Tryz.ntmps153
  go_wp2_with (go_at_call 93; (with_reducible refine HK.mono ?_); rintro e u ⟨rfl, hO⟩)
  exact ⟨rfl, nso_err HRR.out ((Ob.of hb1).trans hO)⟩
 have hR2 : nwR L l (l.length + 1) (i + 1) (-1) = R := by rw [← hR, nwsR, if_pos hbg]
 obtain ⟨x0, hx0e⟩ : ∃ x, hereT l i = x := ⟨_, rfl⟩
 rw [hx0e] at hbg
 have hx0 := here_in hx0e (by have := (begB_k hbg).1; omega)
 have hil : i < l.length := (List.getElem?_eq_some_iff.1 hx0).1
 have HK := tk_of (w := W1) 181 (enters_of Tryz.func181 (by kernel_rfl) rfl) (h.carry hb1) x0 hx0 hl _ (isNewsBegin_any _ _ _ _) (by unfold begB at hbg; exact hbg)
 have h0 : Hid (Tk nb wb l i W1) := h.carry hb1
 have HSH : Hid (Shw l) := hSh
 have HR2 : Hid (preT [] (nwR L l (l.length + 1 - 0) (i + 1 + 3 * 0) (-1)) = R) := by show _ = _; rw [pre_nil]; exact hR2
 clear h hE hx0 hx0e hbg hR hR2 hSh
 unfold rdF at hW1 ⊢
 go_enter Tryz.func153, Tryz.ntmps153
 go_wp2_with (go_at_call 93; (with_reducible refine HK.mono ?_); rintro e u0 ⟨rfl, hT0, hO0⟩)
 clear HK c2
 go_loopw [3, 4] (fun v a wz => ∃ (k : Nat) (A : Int) (vv : Value) (ns : List N3t), vv = v ∧ a = .int .i64 A ∧ ns.length = k ∧ wz.ownsRow W1.heap.size 124 3 v k (fl ns) ∧ i + 1 + 3 * k ≤ l.length ∧ Tk nb wb l (i + 1 + 3 * k) wz ∧ Ob nb W1 wz ∧ Hid (preT ns (nwR L l (l.length + 1 - k) (i + 1 + 3 * k) A) = R)) (fun v _ _ => l.length - slN v)
 case atStart => exact ⟨0, -1, _, [], rfl, rfl, rfl, World.ownsRow_nil _ _ _ _, by omega, hT0, hO0, HR2⟩
 case round =>
  obtain ⟨k, A, v, ns, hvv, rfl, hk, hrow, hkl, hT, hO, HN⟩ := hrel
  subst hvv
  clear hT0 hO0 HR2
  have HKN : Hid (ns.length = k) := hk
  clear hk
  have hrdw := HR1.out.ob hO (show w.heap.size ≠ nb by omega)
  have hwl := zla hrdw
  have hsO := hO.size
  have c2 : wr.cell? ⟨w.heap.size, 2, none⟩ = some (.func (.func 93) #[] #[.pointer (some ⟨nb, 0, none⟩), .pointer (some ⟨wb, 0, none⟩)]) := (zca hrdw 2).trans rfl
  obtain ⟨f, hf⟩ : ∃ f, l.length + 1 - k = f + 1 := ⟨l.length - k, by omega⟩
  have HFU : Hid (l.length + 1 - (k + 1) = f) := by show _ = _; omega
  rw [hf] at HN
  clear hf
  obtain ⟨x, hxe⟩ : ∃ x, hereT l (i + 1 + 3 * k) = x := ⟨_, rfl⟩
  have hxs := HSH.out (i + 1 + 3 * k)
  rw [hxe] at hxs
  have hO1 : Ob nb w wr := (Ob.of hb1).trans hO
  cases heb : endB x with
  | true =>
    have hx := here_in hxe (by have := (endB_k heb).1; omega)
    obtain ⟨hx5, hx93⟩ := endB_k heb
    have HRR : Hid (R = .ok (ns, i + 1 + 3 * k + 1)) := by
      show R = _
      rw [← HN.out, nw_end (st_end (by rw [hxe]; exact heb))]
      simp [preT]
    have HK := tk_of (w := wr) 182 (enters_of Tryz.func182 (by kernel_rfl) rfl) hT x hx hl _ (isSignOr_any _ _ _ _ (by unfold maxLen; omega)) (by rw [hx5, hx93]; simp)
    have HN' := isNewsEnd_any x.1 x.2.2.1 x.2.2.2 x.2.1
    unfold endB at heb
    rw [heb] at HN'
    unfold tkV at HN'
    unfold tkC at HK
    clear hx hx5 hx93 hxe heb HN
    have HROW : Hid (wr.ownsRow W1.heap.size 124 3 v k (fl ns)) := hrow
    clear hrow hkl
    go_wp2_with (first
      | (go_at_call 183; (with_reducible refine (HN' _).mono ?_); rintro e u4 ⟨rfl, hb4⟩)
      | (refine wpList_store_row rfl 48 (.tmp 5) (.tmp 12) rfl u.heap.size (tkC x) rfl rfl 48 _ hr2 infoTk rfl (by simp [tkC, Value.oneCell']) ?_; rw [hu3]; (have p0 : u3.cell? ⟨u.heap.size, 0, none⟩ = some (.int .i64 x.1) := (zca hr3 0).trans rfl); (have p1 : u3.cell? ⟨u.heap.size, 1, none⟩ = some (.string x.2.1) := (zca hr3 1).trans rfl); (have p2 : u3.cell? ⟨u.heap.size, 2, none⟩ = some (.int .i64 x.2.2.1) := (zca hr3 2).trans rfl); (have p3 : u3.cell? ⟨u.heap.size, 3, none⟩ = some (.int .i64 x.2.2.2) := (zca hr3 3).trans rfl))
      | (go_at_call 93; (with_reducible refine HK.mono ?_); rintro e u ⟨rfl, hTu, hOu⟩; obtain ⟨u2, u3, hu2, hu3, hr2, hr3, hb3, hs3⟩ := box_word u x))
    go_ret
    have hbb := bel3 hb3 hb4
    rw [HRR.out]
    refine ⟨_, rfl, ?_, hTu.carry hbb, (Ob.of hb1).trans (hO.trans (hOu.trans (Ob.of hbb)))⟩
    rw [HKN.out]
    exact ownsRow_base (zrb (ownsRow_ob HROW.out hOu (fun g hg => by have := own_block HROW.out g hg; omega)) hbb) (by omega)
  | false =>
  cases hos : oneS x with
  | false =>
    have HRR : Hid (R = .error (80, x.2.2.2)) := by
      show R = _
      rw [← HN.out, nw_err (st_no (by rw [hxe]; exact heb) (by rw [hxe]; exact hos)), hxe]
      rfl
    have HK := tk_no (w := wr) 182 (enters_of Tryz.func182 (by kernel_rfl) rfl) hT hkl hl _ (isSignOr_any _ _ _ _ (by rw [hxe]; unfold maxLen; omega)) (by rw [hxe]; unfold oneS at hos; unfold endB at heb; rw [hos, heb]; rfl)
    rw [hxe] at HK
    unfold Dy at HK
    clear hxe heb hos HN hrow hkl
    go_wp2_with (go_at_call 93; (with_reducible refine HK.mono ?_); rintro e u ⟨rfl, hOu⟩)
    exact ⟨rfl, nso_err HRR.out ((Ob.of hb1).trans (hO.trans hOu))⟩
  | true =>
  obtain ⟨hx2, hx1s⟩ := oneS_k hos
  have hx := here_in hxe (by omega)
  have hil2 : i + 1 + 3 * k < l.length := (List.getElem?_eq_some_iff.1 hx).1
  have hp0 := pos_of_one hx1s
  have hxm : x.2.1.size ≤ maxLen := by unfold maxLen; omega
  have HK := tk_of (w := wr) 182 (enters_of Tryz.func182 (by kernel_rfl) rfl) hT x hx hl _ (isSignOr_any _ _ _ _ hxm) (by rw [hx2, hx1s]; rfl)
  have HNE := isNewsEnd_any x.1 x.2.2.1 x.2.2.2 x.2.1
  have e2 : (x.1 == 5 && x.2.1.toList == [93]) = false := by rw [hx2]; rfl
  rw [e2] at HNE
  unfold tkV at HNE
  unfold tkC at HK
  have HROW : Hid (wr.ownsRow W1.heap.size 124 3 v k (fl ns)) := hrow
  have HT : Hid (Tk nb wb l (i + 1 + 3 * k) wr) := hT
  have HF : ∀ c, Calls Tryz.prog 94 #[.bool false, .int .i64 75, tk4 x] c fun en w' => en = .returned (.tuple #[]) ∧ Below c.heap.size c w' := trefuse_no 75 x.1 x.2.2.1 x.2.2.2 x.2.1
  have HF2 : ∀ c, Calls Tryz.prog 94 #[.bool true, .int .i64 75, tk4 x] c fun en w' => en = .panicked (rfT 75 x.2.2.2) ∧ Below c.heap.size c w' := trefuse_yes 75 x.1 x.2.2.1 x.2.2.2 x.2.1
  have HXE : Hid (hereT l (i + 1 + 3 * k) = x) := hxe
  have HKL : Hid (i + 1 + 3 * k < l.length) := hil2
  by_cases hin : ((rn x.2.1 0 : Nat) : Int) ∈ L
  case neg =>
    have HRR : Hid (R = .error (41, x.2.2.2)) := by
      show R = _
      rw [← HN.out, nw_err (st_sign (by rw [hxe]; exact heb) (by rw [hxe]; exact hos) (by rw [hxe]; exact hin)), hxe]
      rfl
    have HX : Hid (∀ V, Ob nb W1 V → Calls Tryz.prog 178 #[.agg #[sl, mp, rdF nb wb], tk4 x] V fun e w' => e = .panicked (rfT 41 x.2.2.2) ∧ Below V.heap.size V w') := fun V hV => tid_no (hE1.out.ros V hV) (Nat.le_trans hE1.out.le hV.size) nb wb x.1 x.2.2.1 x.2.2.2 x.2.1 hxm hp0 hin
    clear hx hx2 hx1s hxe heb hos hin e2 hrow hT HN HF HF2 hkl hil2 hp0
    go_wp2_with (first
      | (go_at_call 183; (with_reducible refine (HNE _).mono ?_); rintro e u4 ⟨rfl, hb4⟩)
      | (refine wpList_store_row rfl 48 (.tmp 5) (.tmp 12) rfl u.heap.size (tkC x) rfl rfl 48 _ hr2 infoTk rfl (by simp [tkC, Value.oneCell']) ?_; rw [hu3]; (have p0 : u3.cell? ⟨u.heap.size, 0, none⟩ = some (.int .i64 x.1) := (zca hr3 0).trans rfl); (have p1 : u3.cell? ⟨u.heap.size, 1, none⟩ = some (.string x.2.1) := (zca hr3 1).trans rfl); (have p2 : u3.cell? ⟨u.heap.size, 2, none⟩ = some (.int .i64 x.2.2.1) := (zca hr3 2).trans rfl); (have p3 : u3.cell? ⟨u.heap.size, 3, none⟩ = some (.int .i64 x.2.2.2) := (zca hr3 3).trans rfl))
      | (go_at_call 93; (with_reducible refine HK.mono ?_); rintro e u ⟨rfl, hTu, hOu⟩; obtain ⟨u2, u3, hu2, hu3, hr2, hr3, hb3, hs3⟩ := box_word u x))
    clear HK HNE p0 p1 p2 p3
    have hsu := hOu.size
    have hb34 := bel3 hb3 hb4
    have hr4 := (hb4.block _ (zla hr3)).trans hr3
    have hrd4 : RdBx u4 w.heap.size sl mp nb wb := (hb34.block _ (by omega)).trans ((hOu.block _ hwl (by omega)).trans hrdw)
    have hO4 : Ob nb W1 u4 := hO.trans (hOu.trans (Ob.of hb34))
    have hJ : Hid (JW4 w.heap.size u.heap.size nb wb sl mp x u4 u4) := ⟨Below.refl _ _, hrd4, hr4⟩
    refine wp_region_any hmx ?_
    refine wpAny_diesG (G := (Unit)) 2 [4, 6] (fun g i__ => ([(.agg #[sl, mp, rdF nb wb]), (tk4 x), undef, (.int .i64 A), undef, (tk4 x), undef] : List Value).getD i__ undef) (fun _ d V => JW4 w.heap.size u.heap.size nb wb sl mp x u4 V) (by decide) (by kernel_rfl) (by kernel_rfl) (()) (hJ.out.carry (Below.refl _ _).drew) ?step13 ?fin13
    case step13 =>
      intro i o ho
      have hi : i < 7 := getElem?_lt ho
      match i, hi, ho with
      | 0, _, ho =>
        cases ho
        refine .inr ?_
        refine zgo (fun g d hdep => ?_)
        exact zld rfl trivial _ _ _ rfl rfl (fun v hw => load_rd hw.rd)
      | 1, _, ho =>
        cases ho
        refine .inr ?_
        refine zgo (fun g d hdep => ?_)
        exact zld rfl trivial _ _ _ rfl rfl (fun v hw => box_tk hw.bx)
      | 2, _, ho => exact .inl (by simp)
      | 3, _, ho =>
        cases ho
        refine .inr ?_
        refine zgo (fun g d hdep => ?_)
        exact zmv rfl trivial _ rfl (by kernel_rfl)
      | 4, _, ho => exact .inl (by simp)
      | 5, _, ho =>
        cases ho
        refine .inr ?_
        refine zgo (fun g d hdep => ?_)
        exact zld rfl trivial _ _ _ rfl rfl (fun v hw => box_tk hw.bx)
      | 6, _, ho => exact .inl (by simp)
    intro o ho
    cases ho
    exact dieG_call rfl (fun _ => trivial) 178 _ _ (fun _ => [.agg #[sl, mp, rdF nb wb], tk4 x]) rfl (fun g => by kernel_rfl) (enters_of Tryz.func178 (by kernel_rfl) rfl) (rfT 41 x.2.2.2) (J2 := fun V => Ob nb W1 V) (fun g d V hJ hun hdep hcl => (HX.out V (hO4.trans (Ob.of hJ.below))).mono (by rintro e w' ⟨rfl, hb'⟩; exact ⟨rfl, (hO4.trans (Ob.of hJ.below)).trans (Ob.of hb')⟩)) (fun g a w hd hS hb => ⟨hd, nso_err HRR.out ((Ob.of hb1).trans hb)⟩)
  case pos =>
  obtain ⟨o, ho⟩ : ∃ o : Int, ((L.idxOf ((rn x.2.1 0 : Nat) : Int) : Nat) : Int) = o := ⟨_, rfl⟩
  have HX : Hid (∀ V, Ob nb W1 V → Calls Tryz.prog 178 #[.agg #[sl, mp, rdF nb wb], tk4 x] V fun e w' => e = .returned (.int .i64 o) ∧ Below V.heap.size V w') := fun V hV => by
    rw [← ho]
    exact tid_ok (hE1.out.ros V hV) (Nat.le_trans hE1.out.le hV.size) nb wb x.1 x.2.2.1 x.2.2.2 x.2.1 hxm hp0 hin
  by_cases hoA : o ≤ A
  case pos =>
    have HRR : Hid (R = .error (75, x.2.2.2)) := by
      show R = _
      rw [← HN.out, nw_err (st_low (by rw [hxe]; exact heb) (by rw [hxe]; exact hos) (by rw [hxe]; exact hin) (by rw [hxe, ho]; exact hoA)), hxe]
      rfl
    clear hx hx2 hx1s hxe heb hos hin e2 hrow hT HN HF hkl hil2 hp0 ho
    go_wp2_with (first
      | (go_at_call 183; (with_reducible refine (HNE _).mono ?_); rintro e u4 ⟨rfl, hb4⟩)
      | (refine wpList_store_row rfl 48 (.tmp 5) (.tmp 12) rfl u.heap.size (tkC x) rfl rfl 48 _ hr2 infoTk rfl (by simp [tkC, Value.oneCell']) ?_; rw [hu3]; (have p0 : u3.cell? ⟨u.heap.size, 0, none⟩ = some (.int .i64 x.1) := (zca hr3 0).trans rfl); (have p1 : u3.cell? ⟨u.heap.size, 1, none⟩ = some (.string x.2.1) := (zca hr3 1).trans rfl); (have p2 : u3.cell? ⟨u.heap.size, 2, none⟩ = some (.int .i64 x.2.2.1) := (zca hr3 2).trans rfl); (have p3 : u3.cell? ⟨u.heap.size, 3, none⟩ = some (.int .i64 x.2.2.2) := (zca hr3 3).trans rfl))
      | (go_at_call 93; (with_reducible refine HK.mono ?_); rintro e u ⟨rfl, hTu, hOu⟩; obtain ⟨u2, u3, hu2, hu3, hr2, hr3, hb3, hs3⟩ := box_word u x))
    clear HK HNE p0 p1 p2 p3
    have hsu := hOu.size
    have hb34 := bel3 hb3 hb4
    have hr4 := (hb4.block _ (zla hr3)).trans hr3
    have hrd4 : RdBx u4 w.heap.size sl mp nb wb := (hb34.block _ (by omega)).trans ((hOu.block _ hwl (by omega)).trans hrdw)
    have hO4 : Ob nb W1 u4 := hO.trans (hOu.trans (Ob.of hb34))
    have hJ : Hid (JW4 w.heap.size u.heap.size nb wb sl mp x u4 u4) := ⟨Below.refl _ _, hrd4, hr4⟩
    refine wp_region_any hmx ?_
    refine wpAny_diesG (G := (Unit)) 6 [] (fun g i__ => ([(.agg #[sl, mp, rdF nb wb]), (tk4 x), (.int .i64 o), (.int .i64 A), (.bool true), (tk4 x), undef] : List Value).getD i__ undef) (fun _ d V => JW4 w.heap.size u.heap.size nb wb sl mp x u4 V) (by decide) (by kernel_rfl) (by kernel_rfl) (()) (hJ.out.carry (Below.refl _ _).drew) ?step14 ?fin14
    case step14 =>
      intro i o ho
      have hi : i < 7 := getElem?_lt ho
      match i, hi, ho with
      | 0, _, ho =>
        cases ho
        refine .inr ?_
        refine zgo (fun g d hdep => ?_)
        exact zld rfl trivial _ _ _ rfl rfl (fun v hw => load_rd hw.rd)
      | 1, _, ho =>
        cases ho
        refine .inr ?_
        refine zgo (fun g d hdep => ?_)
        exact zld rfl trivial _ _ _ rfl rfl (fun v hw => box_tk hw.bx)
      | 2, _, ho =>
        cases ho
        refine .inr ?_
        refine zgo (fun g d hdep => ?_)
        exact zsc rfl trivial 178 _ _ [(.agg #[sl, mp, rdF nb wb]), (tk4 x)] rfl (by kernel_rfl) (enters_of Tryz.func178 (by kernel_rfl) rfl) (fun V hw => (HX.out V (hO4.trans (Ob.of hw.below))).mono (by rintro e w' ⟨rfl, hb⟩; exact ⟨rfl, hw.carry hb⟩))
      | 3, _, ho =>
        cases ho
        refine .inr ?_
        refine zgo (fun g d hdep => ?_)
        exact zmv rfl trivial _ rfl (by kernel_rfl)
      | 4, _, ho =>
        cases ho
        refine .inr ?_
        refine zgo (fun g d hdep => ?_)
        exact zbo rfl trivial _ _ _ _ _ _ _ rfl rfl rfl (fun w hw => leq_yes hoA w)
      | 5, _, ho =>
        cases ho
        refine .inr ?_
        refine zgo (fun g d hdep => ?_)
        exact zld rfl trivial _ _ _ rfl rfl (fun v hw => box_tk hw.bx)
      | 6, _, ho => exact .inl (by simp)
    intro o ho
    cases ho
    exact dieG_call rfl (fun _ => trivial) 94 _ _ (fun _ => [.bool true, .int .i64 75, tk4 x]) rfl (fun g => by kernel_rfl) (enters_of Tryz.func94 (by kernel_rfl) rfl) (rfT 75 x.2.2.2) (J2 := fun V => Ob nb W1 V) (fun g d V hJ hun hdep hcl => (HF2 V).mono (by rintro e w' ⟨rfl, hb'⟩; exact ⟨rfl, (hO4.trans (Ob.of hJ.below)).trans (Ob.of hb')⟩)) (fun g a w hd hS hb => ⟨hd, nso_err HRR.out ((Ob.of hb1).trans hb)⟩)
  case neg =>
  have hAo : A < o := by omega
  have hst := st_nt (L := L) (l := l) (i := i + 1 + 3 * k) (A := A) (by rw [hxe]; exact heb) (by rw [hxe]; exact hos) (by rw [hxe]; exact hin) (by rw [hxe, ho]; exact hoA)
  have HST : Hid (stT L l (i + 1 + 3 * k) A = match nteT L l (i + 1 + 3 * k) with | .error q => .error q | .ok n => .ok (some n)) := hst
  have HZ : Hid (∀ V, Ob nb W1 V → Tk nb wb l (i + 1 + 3 * k + 1) V → Calls Tryz.prog 184 #[.agg #[sl, mp, rdF nb wb], tk4 x] V (NcO nb wb l (i + 1 + 3 * k) V (nteT L l (i + 1 + 3 * k)))) := fun V hV hT' => notice_all (hE1.out.on hV) HSH.out hT' hil2 hl x hxe
  unfold NcO at HZ
  clear hx hx2 hx1s hxe heb hos hin e2 hrow hT HF2 hkl hil2 hp0 ho hoA hst
  go_wp2_with (first
    | (go_at_call 183; (with_reducible refine (HNE _).mono ?_); rintro e u4 ⟨rfl, hb4⟩)
    | (refine wpList_store_row rfl 48 (.tmp 5) (.tmp 12) rfl u.heap.size (tkC x) rfl rfl 48 _ hr2 infoTk rfl (by simp [tkC, Value.oneCell']) ?_; rw [hu3]; (have p0 : u3.cell? ⟨u.heap.size, 0, none⟩ = some (.int .i64 x.1) := (zca hr3 0).trans rfl); (have p1 : u3.cell? ⟨u.heap.size, 1, none⟩ = some (.string x.2.1) := (zca hr3 1).trans rfl); (have p2 : u3.cell? ⟨u.heap.size, 2, none⟩ = some (.int .i64 x.2.2.1) := (zca hr3 2).trans rfl); (have p3 : u3.cell? ⟨u.heap.size, 3, none⟩ = some (.int .i64 x.2.2.2) := (zca hr3 3).trans rfl))
    | (go_at_call 93; (with_reducible refine HK.mono ?_); rintro e u ⟨rfl, hTu, hOu⟩; obtain ⟨u2, u3, hu2, hu3, hr2, hr3, hb3, hs3⟩ := box_word u x))
  clear HK HNE p0 p1 p2 p3
  have hsu := hOu.size
  have hb34 := bel3 hb3 hb4
  have hr4 := (hb4.block _ (zla hr3)).trans hr3
  have hrd4 : RdBx u4 w.heap.size sl mp nb wb := (hb34.block _ (by omega)).trans ((hOu.block _ hwl (by omega)).trans hrdw)
  have hO4 : Ob nb W1 u4 := hO.trans (hOu.trans (Ob.of hb34))
  have hJ : Hid (JW4 w.heap.size u.heap.size nb wb sl mp x u4 u4) := ⟨Below.refl _ _, hrd4, hr4⟩
  rename_i Q0 K0 hK
  refine wp_region_any hmx ?_
  refine zwp (fun i__ => ([(.agg #[sl, mp, rdF nb wb]), (tk4 x), (.int .i64 o), (.int .i64 A), (.bool false), (tk4 x), (.tuple #[])] : List Value).getD i__ undef) (fun V => JW4 w.heap.size u.heap.size nb wb sl mp x u4 V) (by kernel_rfl) (hJ.out.carry (Below.refl _ _).drew) ?_ ?_
  · refine (sqc ?_ (sqc ?_ (sqc ?_ (sqc ?_ (sqc ?_ (sqc ?_ (sqc ?_ trivial)))))))
    · exact zld rfl trivial _ _ _ rfl rfl (fun v hw => load_rd hw.rd)
    · exact zld rfl trivial _ _ _ rfl rfl (fun v hw => box_tk hw.bx)
    · exact zsc rfl trivial 178 _ _ [(.agg #[sl, mp, rdF nb wb]), (tk4 x)] rfl (by kernel_rfl) (enters_of Tryz.func178 (by kernel_rfl) rfl) (fun V hw => (HX.out V (hO4.trans (Ob.of hw.below))).mono (by rintro e w' ⟨rfl, hb⟩; exact ⟨rfl, hw.carry hb⟩))
    · exact zmv rfl trivial _ rfl (by kernel_rfl)
    · exact zbo rfl trivial _ _ _ _ _ _ _ rfl rfl rfl (fun w hw => leq_no hAo w)
    · exact zld rfl trivial _ _ _ rfl rfl (fun v hw => box_tk hw.bx)
    · exact zsc rfl trivial 94 _ _ [(.bool false), (Go.Value.int Go.IntKind.i64 75), (tk4 x)] rfl (by kernel_rfl) (enters_of Tryz.func94 (by kernel_rfl) rfl) (fun V hw => (HF V).mono (by rintro e w' ⟨rfl, hb⟩; exact ⟨rfl, hw.carry hb⟩))
  intro W hW
  first | refine hK _ _ ?_ | refine (‹∀ (a : Act) (w : World), Code.wp Tryz.prog _ _ a w → _›) _ _ ?_ | skip
  simp only [finL, List.getD_cons_zero, List.getD_cons_succ, Nat.zero_add, Nat.reduceAdd, List.setIfInBounds_toArray, List.set_cons_zero, List.set_cons_succ]
  clear hK HF hJ
  obtain ⟨hbW, hrdW, hbxW⟩ := hW
  have hOW : Ob nb W1 W := hO4.trans (Ob.of hbW)
  have hTW : Tk nb wb l (i + 1 + 3 * k + 1) W := (hTu.carry hb34).carry hbW
  have hNO := HZ.out W hOW hTW
  have r0 : W.cell? ⟨w.heap.size, 0, none⟩ = some sl := (zca hrdW 0).trans rfl
  have r1 : W.cell? ⟨w.heap.size, 1, none⟩ = some mp := (zca hrdW 1).trans rfl
  have r2 : W.cell? ⟨w.heap.size, 2, none⟩ = some (.func (.func 93) #[] #[.pointer (some ⟨nb, 0, none⟩), .pointer (some ⟨wb, 0, none⟩)]) := (zca hrdW 2).trans rfl
  have p0 : W.cell? ⟨u.heap.size, 0, none⟩ = some (.int .i64 x.1) := (zca hbxW 0).trans rfl
  have p1 : W.cell? ⟨u.heap.size, 1, none⟩ = some (.string x.2.1) := (zca hbxW 1).trans rfl
  have p2 : W.cell? ⟨u.heap.size, 2, none⟩ = some (.int .i64 x.2.2.1) := (zca hbxW 2).trans rfl
  have p3 : W.cell? ⟨u.heap.size, 3, none⟩ = some (.int .i64 x.2.2.2) := (zca hbxW 3).trans rfl
  have hbuW := bel3 hb34 hbW
  have hsW := hbuW.size
  have hrowW := zrb (ownsRow_ob HROW.out hOu (fun g hg => by have := own_block HROW.out g hg; omega)) hbuW
  obtain ⟨ic, hic, hz0, hz1, hz2⟩ := info_partsN
  have HROWW : Hid (W.ownsRow W1.heap.size 124 3 v k (fl ns)) := hrowW
  have hkb : k ≤ 1000000 := by have := HKL.out; omega
  unfold rdF tk4 tkV at hNO
  clear hrowW hO4 hrd4 hr4 hr3 hr2 hu2 hu3 hb3 hb4 hTu HX HZ hbW hrdW hbxW
  cases hnt : nteT L l (i + 1 + 3 * k) with
  | error q =>
    rw [hnt] at hNO HST
    dsimp only at hNO
    unfold Dy at hNO
    have HRR : Hid (R = .error q) := by
      show R = _
      rw [← HN.out, nw_err HST.out]
      rfl
    clear hnt
    go_wp2_with (go_at_call 184; (with_reducible refine hNO.mono ?_); rintro e X ⟨rfl, hOX⟩)
    exact ⟨rfl, nso_err HRR.out ((Ob.of hb1).trans (hOW.trans hOX))⟩
  | ok n =>
    obtain ⟨o', t, q⟩ := n
    rw [hnt] at hNO HST
    have hn2 := (ntT_ok hnt).1
    have HPR : Hid (preT (ns ++ [(o', t, q)]) (nwR L l (l.length + 1 - (k + 1)) (i + 1 + 3 * (k + 1)) o') = R) := by
      show _ = R
      rw [HFU.out, ← HN.out, nw_on HST.out]
      rfl
    have htk : Hid (fl (ns ++ [(o', t, q)]) = fl ns ++ [.int .i64 o', .int .i64 t, .int .i64 q]) := by
      show fl _ = _
      rw [fl_append]
      rfl
    have HIL : Hid (i + 1 + 3 * (k + 1) ≤ l.length) := by show _ ≤ _; omega
    dsimp only at hNO
    unfold nt at hNO
    clear hnt hn2
    go_wp2_with (first
      | (at_builtin; refine wpList_append_own_at _ rfl _ _ 37 rfl W1.heap.size 124 ic _ 3 24 Tryz.underlying37 hic hz0 hz1 hz2 rfl (by decide) _ k (fl ns) rfl (World.ownsRow.alloc hrowX _) ⟨X1.heap.size, 0, none⟩ 1 1 [_, _, _] rfl rfl (rowN _ #[_, _, _] _) (by simp [Value.oneCell']) (by unfold maxLen; omega) (by omega) (by simp; omega) ?_; intro v' w2 hown' hgrow _ hob; have hn2 : NB w2 X.heap.size o' t q := (hgrow.block _ (by simp; omega) (fun e => by have := hol _ e.symm; omega)).trans (zoa hn1); have m3 := hn2.c0)
      | (go_at_call 184; (with_reducible refine hNO.mono ?_); rintro e X ⟨rfl, hTX, hOX⟩; obtain ⟨X1, hX1⟩ : ∃ X1, X.alloc (.cells #[.int .i64 o', .int .i64 t, .int .i64 q] 124) = X1 := ⟨_, rfl⟩; (have hbX : Below X.heap.size X X1 := by rw [← hX1]; exact al1t _ _); (have hn1 : NB X1 X.heap.size o' t q := by rw [← hX1]; exact zna rfl); (have n0 := hn1.c0); (have n1 := hn1.c1); (have n2 := hn1.c2); (have hrX := ownsRow_ob HROWW.out hOX (fun g hg => by have := own_block HROWW.out g hg; omega)); (have hol := own_lt hrX); (have hrowX := zrb hrX hbX); (have hsX := hOX.size); (have hsX1 := hbX.size); (have hlX := hn1.lt)))
    have hbXw : Below W1.heap.size X w2 := ((hbX.mono (by omega)).alloc (by omega) _).grown hgrow (by simp; omega) (fun g e => own_block HROWW.out g e)
    have hOXw : Ob nb W1 w2 := (hOW.trans hOX).low hbXw (Nat.le_refl _)
    have hTw2 := h0.out.move hTX hOXw (hbXw.block nb (by omega))
    go_roundw
    case rel =>
      refine ⟨k + 1, o', _, ns ++ [(o', t, q)], rfl, rfl, by rw [List.length_append, HKN.out]; rfl, ?_, HIL.out, ?_, hOXw, HPR⟩
      · rw [htk.out]; exact hown'
      · rw [show i + 1 + 3 * (k + 1) = i + 1 + 3 * k + 3 by omega]; exact hTw2
    case measure =>
      have e1 := own_slN hown'
      have e2 := own_slN HROW.out
      have e3 := HKL.out
      rw [e1, e2]
      omega
end Go.Proofs.YtmahamdmapbilaaGreatDoor
namespace Go.Proofs.YtmahamdmapbilaaGreatDoor
open Go.Shelf Go.RowKit
def ren156 : Go.Shelf.Ren := ⟨fun | 156 => 157 | 165 => 188 | 166 => 168 | 169 => 162 | 240 => 194 | 241 => 212 | 276 => 218 | 277 => 232 | n => n, fun | 31 => 58 | 9 => 9 | 3 => 3 | 4 => 4 | 0 => 0 | 20 => 20 | 72 => 227 | 76 => 233 | 70 => 225 | 37 => 116 | 75 => 232 | 127 => 244 | 164 => 285 | 5 => 5 | 80 => 235 | n => n, fun | n => n⟩
theorem lays156 : Lays.n156 Tryz.prog ren156 := {
 mixed := by kernel_rfl
 f156 := Tryz.func157.trans (congrArg some (by kernel_rfl))
 f165 := Tryz.func188.trans (congrArg some (by kernel_rfl))
 f166 := Tryz.func168.trans (congrArg some (by kernel_rfl))
 f169 := Tryz.func162.trans (congrArg some (by kernel_rfl))
 f240 := Tryz.func194.trans (congrArg some (by kernel_rfl))
 f241 := Tryz.func212.trans (congrArg some (by kernel_rfl))
 f276 := Tryz.func218.trans (congrArg some (by kernel_rfl))
 f277 := Tryz.func232.trans (congrArg some (by kernel_rfl))
 t0 := Tryz.underlying0
 a0 := Tryz.isAgg0
 z0 := Tryz.sizeOf0
 v0 := Tryz.zeroValue0
 t3 := Tryz.underlying3
 a3 := Tryz.isAgg3
 z3 := Tryz.sizeOf3
 v3 := Tryz.zeroValue3
 t4 := Tryz.underlying4
 a4 := Tryz.isAgg4
 z4 := Tryz.sizeOf4
 v4 := Tryz.zeroValue4
 t9 := Tryz.underlying9
 a9 := Tryz.isAgg9
 z9 := Tryz.sizeOf9
 v9 := Tryz.zeroValue9
 t20 := Tryz.underlying20
 a20 := Tryz.isAgg20
 z20 := Tryz.sizeOf20
 v20 := Tryz.zeroValue20
 t31 := Tryz.underlying58
 a31 := Tryz.isAgg58
 z31 := Tryz.sizeOf58
 v31 := Tryz.zeroValue58
 t37 := Tryz.underlying116
 a37 := Tryz.isAgg116
 z37 := Tryz.sizeOf116
 v37 := Tryz.zeroValue116
 t70 := Tryz.underlying225
 a70 := Tryz.isAgg225
 z70 := Tryz.sizeOf225
 v70 := Tryz.zeroValue225
 t72 := Tryz.underlying227
 a72 := Tryz.isAgg227
 z72 := Tryz.sizeOf227
 v72 := Tryz.zeroValue227
 t75 := Tryz.underlying232
 a75 := Tryz.isAgg232
 z75 := Tryz.sizeOf232
 v75 := Tryz.zeroValue232
 t76 := Tryz.underlying233
 a76 := Tryz.isAgg233
 z76 := Tryz.sizeOf233
 v76 := Tryz.zeroValue233
 t127 := Tryz.underlying244
 a127 := Tryz.isAgg244
 z127 := Tryz.sizeOf244
 v127 := Tryz.zeroValue244
 t164 := Tryz.underlying285
 a164 := Tryz.isAgg285
 z164 := Tryz.sizeOf285
 v164 := Tryz.zeroValue285 }
end Go.Proofs.YtmahamdmapbilaaGreatDoor
namespace Go.Proofs.YtmahamdmapbilaaGreatDoor
def bitsOf (l : List Int) : List Int → Nat
 | [] => 0
 | c :: t => 2 ^ l.idxOf c ||| bitsOf l t
theorem idx_ne {l : List Int} {c d : Int} (hc : c ∈ l) (h : d ≠ c) : l.idxOf d ≠ l.idxOf c := by
 intro e
 have h1 := List.idxOf_lt_length_iff.2 hc
 have h2 : l.idxOf d < l.length := by omega
 have g1 := List.getElem_idxOf h1
 have g2 := List.getElem_idxOf h2
 apply h
 rw [← g1, ← g2]
 simp only [e]
theorem psGo_mk (l : List Int) : ∀ (t : List Int) (N k : Nat), (∀ c ∈ t, c ∈ l) → t.Nodup → (∀ c ∈ t, N.testBit (l.idxOf c) = false) → psGo l N k t = (N ||| bitsOf l t, 0, 0)
 | [], N, k, _, _, _ => by simp [psGo, bitsOf]
 | c :: t, N, k, h1, h2, h3 => by
  have hc := h1 c List.mem_cons_self
  rw [psGo, if_pos hc, if_neg (by rw [h3 c List.mem_cons_self]; decide), psGo_mk l t _ _ (fun d hd => h1 d (List.mem_cons_of_mem _ hd)) (List.nodup_cons.1 h2).2 (fun d hd => ?_), bitsOf, Nat.or_assoc]
  rw [Nat.testBit_or, h3 d (List.mem_cons_of_mem _ hd), Bool.false_or, Nat.testBit_two_pow]
  have hne : d ≠ c := fun e => (List.nodup_cons.1 h2).1 (e ▸ hd)
  have := idx_ne hc hne
  rw [decide_eq_false (by omega)]
def sgs (l : List Int) (ids : List Nat) : List Int := ids.map (fun i => l.getD i 0)
def prR (l : List Int) (N : Nat) : ByteArray × Int := if wthB N l.length then (if N = 0 then (dash, 0) else (txt (sgs l (idsTo N 128)), 0)) else (⟨#[]⟩, 30)
theorem wth_lt {N n : Nat} (h : wthB N n = true) : N < 2 ^ topW n := by
 unfold wthB at h
 have := of_decide_eq_true h
 rw [this]
 exact Nat.mod_lt _ (Nat.two_pow_pos _)
theorem wth_lt100 {N n : Nat} (h : wthB N n = true) : N < S100 := by
 have e : S100 = 2 ^ 100 := by decide
 rw [e]
 exact Nat.lt_of_lt_of_le (wth_lt h) (Nat.pow_le_pow_right (by decide) (topW_le _))
theorem wth_id {N n i : Nat} (h : wthB N n = true) (hi : N.testBit i = true) : i < n ∧ i < 100 := by
 have h1 := wth_lt h
 have h2 : i < topW n := by
  refine Decidable.byContradiction (fun hc => ?_)
  rw [Nat.testBit_lt_two_pow (Nat.lt_of_lt_of_le h1 (Nat.pow_le_pow_right (by decide) (by omega)))] at hi
  cases hi
 rw [topW_lt] at h2
 omega
theorem txt_again (l : List Int) : (⟨(txt l).data.toList.toArray⟩ : ByteArray) = txt l := by
 apply ByteArray.ext
 simp
end Go.Proofs.YtmahamdmapbilaaGreatDoor
