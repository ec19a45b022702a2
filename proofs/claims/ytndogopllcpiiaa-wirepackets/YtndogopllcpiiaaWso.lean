/- The document's read of a query: what it answers. -/
import Derived.Test.YtndogopllcpiiaaWsn
namespace Go.Proofs.Ytndogopllcpiiaa
open Go.RowKit Go.Shelf

set_option maxHeartbeats 8000000 in
set_option maxRecDepth 100000 in
theorem rr1 (ad : Option Addr) (cap : Nat) (bs : List Nat) (n : Nat) (w : World) (h : RdB w ad bs) (hb : Byt bs) (hl : bs.length ≤ 1024) (hc : bs.length ≤ cap) (hn : 1 ≤ n ∧ n ≤ 100) (y : Nat) (hy : y < n) (e0 : bs[0]? = some 101) (e1 : bs[1]? = some 115) (e2 : bs[2]? = some 1) (e3 : bs[3]? = some n) (e4 : bs[4]? = some y) : Calls Try.prog 48 #[.slice ad bs.length cap, .int .i64 (n : Int)] w (RrO n bs w) := by
  have hmx : Try.prog.follows .mixedOrders = true := by kernel_rfl
  have hS0 := SX.new w
  have hrW := h.carry hS0.be
  obtain ⟨W0, hW0⟩ : ∃ W0, (w.alloc (.cells #[.int .i64 0, .int .i64 0, .int .i64 0, .int .u32 0, .int .u32 0, .int .u32 0, .int .u32 0, .slice none 0 0] 41)).alloc (.cells #[.int .i64 0, .int .i64 0, .int .i64 0, .int .u32 0, .int .u32 0, .int .u32 0, .int .u32 0, .slice none 0 0] 41) = W0 := ⟨_, rfl⟩
  rw [hW0] at hS0 hrW
  have hbW := hS0.be
  have hSA := hS0.a
  obtain ⟨a0, a1, a2, a3, a4, a5, a6, a7⟩ := hS0.a.cells
  obtain ⟨za0, za1, za2, za3, za4, za5, za6, za7⟩ := hS0.a.thaw
  obtain ⟨d0, d1, d2, d3, d4, d5, d6, d7⟩ := hS0.x.cells
  obtain ⟨z0, z1, z2, z3, z4, z5, z6, z7⟩ := hS0.x.thaw
  have h5 := (List.getElem?_eq_some_iff.1 e4).1
  have c2i : ¬ (bs.length : Int) < 2 := by omega
  have c3i : ¬ (bs.length : Int) < 3 := by omega
  have c4i : ¬ (bs.length : Int) < 4 := by omega
  have c5i : ¬ (bs.length : Int) < 5 := by omega
  obtain ⟨g', off', hadd, hgl, hat⟩ := hrW (fun e => by subst e; simp at e0)
  subst hadd
  have b0 := hat 0 _ e0
  have b1 := hat 1 _ e1
  have b2 := hat 2 _ e2
  have b3 := hat 3 _ e3
  have b4 := hat 4 _ e4
  rw [Nat.add_zero] at b0
  have i0 : (0 : Int) < (bs.length : Int) := by omega
  have i1 : (1 : Int) < (bs.length : Int) := by omega
  have i2 : (2 : Int) < (bs.length : Int) := by omega
  have i3 : (3 : Int) < (bs.length : Int) := by omega
  have i4 : (4 : Int) < (bs.length : Int) := by omega
  have f4i : ¬ (n : Int) ≤ (y : Int) := by omega
  have HF0 : Hid (rdF n bs = rd2 n bs 1 y) := rdF_head (by decide) hy e0 e1 e2 e3 e4
  by_cases c10 : bs.length < 10
  · have HE : Hid (rdE n bs = .error 76) := by show rdE n bs = _; rw [rdE, HF0.out, rd2, if_neg (by decide), if_pos c10]
    have c10i : (bs.length : Int) < 10 := by omega
    go_enter Try.func48, Try.ntmps48
    go_wp2
    exact read_end (b := w.heap.size) (N := 0) rfl rfl rfl (by repeat' first | (with_reducible exact hSA) | (with_reducible refine RB.other ?_ (by simp))) (rro_err HE.out (by repeat' first | (with_reducible exact hbW) | (with_reducible refine Below.setCell (p := ⟨_, _, _⟩) ?_ (by simp) _)))
  have c10i : ¬ (bs.length : Int) < 10 := by omega
  have hsl : ∀ W, (Instr.sliceAt 22 (.slice (some ⟨g', off', none⟩) bs.length cap) (some (.int .i64 5)) (some (.int .i64 10)) none).run Try.prog W = .ok (.slice (some ⟨g', off' + 5, none⟩) 5 (cap - 5)) W := fun W => slice_at g' off' bs.length cap 5 10 (by decide) (by omega) W
  have hv5 : Calls Try.prog 65 #[.slice (some ⟨g', off' + 5, none⟩) 5 (cap - 5)] ((W0.setCell ⟨w.heap.size + 1, 0, none⟩ (.int .i64 1)).setCell ⟨w.heap.size + 1, 1, none⟩ (.int .i64 (y : Int))) fun e w' => e = .returned (.int .i64 (nm bs 5 5 : Nat)) ∧ w' = ((W0.setCell ⟨w.heap.size + 1, 0, none⟩ (.int .i64 1)).setCell ⟨w.heap.size + 1, 1, none⟩ (.int .i64 (y : Int))) := by
    obtain ⟨b', o', e', hbV, hat2⟩ := h.carry ((hS0.set0 1).set1 (y : Int)).be (fun e => by subst e; simp at e0)
    cases e'
    have := value_any (some ⟨g', off' + 5, none⟩) (cap - 5) ((bs.drop 5).take 5) ((W0.setCell ⟨w.heap.size + 1, 0, none⟩ (.int .i64 1)).setCell ⟨w.heap.size + 1, 1, none⟩ (.int .i64 (y : Int))) (fun _ => ⟨g', off' + 5, rfl, hbV, hat2.sub 5 5⟩) ((hb.drop _).take _) (by rw [sub_len (by omega)]; decide)
    rw [sub_len (by omega)] at this
    exact this
  have HRD : Hid (∀ P, nm bs 5 5 = P → rdF n bs = if ¬ (1 ≤ P ∧ P ≤ 1099511627775) then .error 73 else rd3 n bs 1 y P 10) := by
    rintro P rfl
    rw [HF0.out, rd2, if_neg (by decide), if_neg c10]
  have hrd40 : nm bs 5 5 < 2 ^ 40 := by
    have := valB_lt ((bs.drop 5).take 5) ((hb.drop _).take _)
    rw [sub_len (by omega)] at this
    exact this
  generalize nm bs 5 5 = rd at *
  by_cases r1 : rd < 1
  · have HE : Hid (rdE n bs = .error 73) := by show rdE n bs = _; rw [rdE, HRD.out rd rfl, if_pos (by omega)]
    have r1i : (rd : Int) < 1 := by omega
    go_enter Try.func48, Try.ntmps48
    go_wp2_with (go_at_call 65; (with_reducible refine hv5.mono ?_); rintro e u ⟨rfl, hu⟩; rw [hu]; clear hu u)
    exact read_end (b := w.heap.size) (N := 0) rfl rfl rfl (by repeat' first | (with_reducible exact hSA) | (with_reducible refine RB.other ?_ (by simp))) (rro_err HE.out (by repeat' first | (with_reducible exact hbW) | (with_reducible refine Below.setCell (p := ⟨_, _, _⟩) ?_ (by simp) _)))
  have r1i : ¬ (rd : Int) < 1 := by omega
  have r2i : ¬ (1099511627775 : Int) < (rd : Int) := by omega
  have HF1 : Hid (rdF n bs = rd3 n bs 1 y rd 10) := (HRD.out rd rfl).trans (if_neg (by omega))
  have HW : Hid (rdE n bs = endW bs 1 y rd 0 (rdW n bs 10)) := rdE_rd4 (HF1.out.trans (by rw [rd3, if_neg (by decide)]))
  have hSL := ((hS0.set0 1).set1 (y : Int)).set2 (rd : Int)
  by_cases c6 : bs.length < 10 + 1
  · have HE : Hid (rdE n bs = .error 76) := HW.out.trans (by rw [rdW, if_pos c6]; rfl)
    have c6i : (bs.length : Int) < 11 := by omega
    go_enter Try.func48, Try.ntmps48
    go_wp2_with (go_at_call 65; (with_reducible refine hv5.mono ?_); rintro e u ⟨rfl, hu⟩; rw [hu]; clear hu u)
    exact read_end (b := w.heap.size) (N := 0) rfl rfl rfl (by repeat' first | (with_reducible exact hSA) | (with_reducible refine RB.other ?_ (by simp))) (rro_err HE.out (by repeat' first | (with_reducible exact hbW) | (with_reducible refine Below.setCell (p := ⟨_, _, _⟩) ?_ (by simp) _)))
  have c6i : ¬ (bs.length : Int) < 11 := by omega
  obtain ⟨cnt, e5⟩ := get_lt (show 10 < bs.length by omega)
  have b5 := hat 10 _ e5
  have i5 : (10 : Int) < (bs.length : Int) := by omega
  have q5 := byt_get8 hb e5
  by_cases c7 : n < cnt
  · have HE : Hid (rdE n bs = .error 75) := HW.out.trans (by rw [rdW, if_neg c6, nm1 e5, if_pos c7]; rfl)
    have c7i : (n : Int) < (cnt : Int) := by omega
    go_enter Try.func48, Try.ntmps48
    go_wp2_with (go_at_call 65; (with_reducible refine hv5.mono ?_); rintro e u ⟨rfl, hu⟩; rw [hu]; clear hu u)
    exact read_end (b := w.heap.size) (N := 0) rfl rfl rfl (by repeat' first | (with_reducible exact hSA) | (with_reducible refine RB.other ?_ (by simp))) (rro_err HE.out (by repeat' first | (with_reducible exact hbW) | (with_reducible refine Below.setCell (p := ⟨_, _, _⟩) ?_ (by simp) _)))
  have c7i : ¬ (n : Int) < (cnt : Int) := by omega
  obtain ⟨R, HR⟩ : ∃ R, Hid (rdK n bs cnt (-1) (10 + 1) = R) := ⟨_, rfl⟩
  have HW : Hid (rdE n bs = endW bs 1 y rd 0 R) := HW.out.trans (by rw [rdW, if_neg c6, nm1 e5, if_neg c7, HR.out])
  go_enter Try.func48, Try.ntmps48
  go_wp2_with (go_at_call 65; (with_reducible refine hv5.mono ?_); rintro e u ⟨rfl, hu⟩; rw [hu]; clear hu u)
  go_loopw [7, 11] (fun at' k' wz => ∃ (L : List (Int × Int × Int)) (A : Int) (j : Nat) (a : Option Addr) (cp : Nat), at' = .int .i64 (j : Int) ∧ k' = .int .i64 (L.length : Int) ∧ L.length ≤ cnt ∧ j ≤ 2000 ∧ Hid (j = 10 + 1 + 5 * L.length) ∧ Hid (-1 ≤ A ∧ (L = [] → A = -1) ∧ ∀ x, L.getLast? = some x → A = x.1) ∧ Hid (glu L (rdK n bs (cnt - L.length) A j) = R) ∧ Hid (wz.ownsRow (w.heap.size + 2) 82 3 (.slice a L.length cp) L.length (fl L)) ∧ Hid (SX w 1 (y : Int) (rd : Int) 0 (.slice a L.length cp) wz)) (fun _ k' _ => cnt - vnatW k')
  case atStart => exact ⟨[], -1, 10 + 1, none, 0, by simp, rfl, Nat.zero_le _, by omega, rfl, ⟨by decide, fun _ => rfl, fun x hx => by simp at hx⟩, (by show glu [] _ = R; rw [glu_nil]; exact HR.out), World.ownsRow_nil _ _ _ _, hSL⟩
  case round =>
    obtain ⟨L, A, j, a, cp, rfl, rfl, hk, hj2, HJ, HA, HK, HO, HS0⟩ := hrel
    have HS := HS0.out
    have HO := HO.out
    clear HS0 HR hSL a0 a1 a2 a3 a4 a5 a6 a7 za0 za1 za2 za3 za4 za5 za6 za7 d0 d1 d2 d3 d4 d5 d6 d7 z0 z1 z2 z3 z4 z5 z6 z7 hSA hbW
    obtain ⟨a0, a1, a2, a3, a4, a5, a6, a7⟩ := HS.a.cells
    obtain ⟨za0, za1, za2, za3, za4, za5, za6, za7⟩ := HS.a.thaw
    obtain ⟨d0, d1, d2, d3, d4, d5, d6, d7⟩ := HS.x.cells
    obtain ⟨z0, z1, z2, z3, z4, z5, z6, z7⟩ := HS.x.thaw
    have hSA := HS.a
    have hbW := HS.be
    have hrW := h.carry hbW
    by_cases hkl : L.length < cnt
    · have hki : (L.length : Int) < (cnt : Int) := by omega
      obtain ⟨m, hm⟩ : ∃ m, cnt - L.length = m + 1 := ⟨cnt - L.length - 1, by omega⟩
      have HK2 := HK.out
      rw [hm] at HK2
      clear HK
      by_cases hs : bs.length < j + 5
      · rw [rdK_short hs] at HK2
        have HE : Hid (rdE n bs = .error 76) := HW.out.trans (by rw [← HK2]; rfl)
        have hsi : (bs.length : Int) < (j : Int) + 5 := by omega
        clear HK2
        go_wp2
        exact read_end (b := w.heap.size) (N := 0) rfl rfl rfl hSA (rro_err HE.out (by repeat' first | (with_reducible exact hbW) | (with_reducible refine Below.setCell (p := ⟨_, _, _⟩) ?_ (by simp) _)))
      have hsi : ¬ (bs.length : Int) < (j : Int) + 5 := by omega
      obtain ⟨O, hO⟩ := get_lt (show j < bs.length by omega)
      obtain ⟨Q, hQ⟩ := get_lt (show j + 1 < bs.length by omega)
      have hO8 := byt_get8 hb hO
      have hQ8 := byt_get8 hb hQ
      have HX : Hid (∀ B, (vl n (O : Nat) (nm bs (j + 2) 3 : Nat) (Q : Nat) && decide (A < ((O : Nat) : Int))) = B → R = if B = false then .error 75 else glu (L ++ [((O : Int), ((nm bs (j + 2) 3 : Nat) : Int), (Q : Int))]) (rdK n bs m (O : Nat) (j + 5))) := by
        rw [← getD_of hO, ← getD_of hQ]
        intro B hB
        cases B with
        | false => rw [rdK_bad hs hB] at HK2; rw [if_pos rfl]; exact HK2.symm
        | true => rw [rdK_next hs (by rw [hB]; decide), glu_glu] at HK2; rw [if_neg (by decide)]; exact HK2.symm
      have hnu : ∀ (a : Addr) (c : Nat) (W : World), RdB W (some a) ((bs.drop (j + 2)).take 3) → Calls Try.prog 65 #[.slice (some a) 3 c] W fun e w' => e = .returned (.int .i64 (nm bs (j + 2) 3 : Nat)) ∧ w' = W := fun a c W hr2 => by
        have := value_any (some a) c ((bs.drop (j + 2)).take 3) W hr2 ((hb.drop _).take _) (by rw [sub_len (by omega)]; decide)
        rw [sub_len (by omega)] at this
        exact this
      have hT24 : nm bs (j + 2) 3 < 2 ^ 24 := by
        have := valB_lt ((bs.drop (j + 2)).take 3) ((hb.drop _).take _)
        rw [sub_len (by omega)] at this
        exact this
      obtain ⟨b', o', e', hbV, hat⟩ := hrW (fun e => by subst e; simp at hO)
      cases e'
      have x0 := hat j O hO
      have x1 := hat (j + 1) Q hQ
      have hat3 := hat.sub (j + 2) 3
      have HM : Hid (cnt - L.length = m + 1) := hm
      clear HK2 hm
      generalize nm bs (j + 2) 3 = T at *
      have hva := rValid_any (n : Int) (O : Int) (T : Int) (Q : Int)
      go_wp2
      refine wp_region_any hmx ?_
      refine wpAny_tabG (G := (Nat)) (fun g i__ => ([(.slice (some ⟨g', off', none⟩) bs.length cap), (.int .i64 (j : Int)), (.pointer (some ⟨g', off' + j, none⟩)), (.int .u8 (O : Int)), (.int .i64 (O : Int)), (.slice (some ⟨g', off', none⟩) bs.length cap), (.int .i64 (j : Int)), (.int .i64 ((j + 1 : Nat) : Int)), (.pointer (some ⟨g', off' + (j + 1), none⟩)), (.int .u8 (Q : Int)), (.int .i64 (Q : Int)), (.slice (some ⟨g', off', none⟩) bs.length cap), (.int .i64 (j : Int)), (.int .i64 ((j + 2 : Nat) : Int)), (.int .i64 (j : Int)), (.int .i64 ((j + 5 : Nat) : Int)), (.slice (some ⟨g', off' + (j + 2), none⟩) 3 (cap - (j + 2))), (.int .i64 (T : Int)), (nt O T Q), (.pointer (some ⟨g, 0, none⟩)), undef] : List Value).getD i__ undef) (fun g d W => JN wr O T Q g (d 19) (d 20) W) (by kernel_rfl) (0) ⟨(Below.refl _ _).drew, fun e => by cases e⟩ ?step2 ?fin2
      case step2 =>
        intro i o ho
        have hi : i < 21 := getElem?_lt ho
        match i, hi, ho with
        | 0, _, ho =>
          cases ho
          refine stepG_of (fun g d hdep => ?_)
          exact step_move rfl trivial _ rfl (by kernel_rfl)
        | 1, _, ho =>
          cases ho
          refine stepG_of (fun g d hdep => ?_)
          exact step_move rfl trivial _ rfl (by kernel_rfl)
        | 2, _, ho =>
          cases ho
          refine stepG_of (fun g d hdep => ?_)
          exact step_indexAddr rfl trivial _ _ _ _ _ rfl rfl rfl (fun w hw => idx_b g' off' bs.length cap j (by omega) w)
        | 3, _, ho =>
          cases ho
          refine stepG_of (fun g d hdep => ?_)
          exact step_load rfl trivial _ _ _ rfl rfl (fun w hw => load_b ((hw.below.cell (p := ⟨g', off' + j, none⟩) hbV).trans x0))
        | 4, _, ho =>
          cases ho
          refine stepG_of (fun g d hdep => ?_)
          exact step_convert rfl trivial _ _ _ _ rfl rfl (fun w hw => conv_int .i64 _ (by rw [Try.underlying5]; rfl) Try.underlying3 (by rw [IntKind.wrap_i64]; omega) w)
        | 5, _, ho =>
          cases ho
          refine stepG_of (fun g d hdep => ?_)
          exact step_move rfl trivial _ rfl (by kernel_rfl)
        | 6, _, ho =>
          cases ho
          refine stepG_of (fun g d hdep => ?_)
          exact step_move rfl trivial _ rfl (by kernel_rfl)
        | 7, _, ho =>
          cases ho
          refine stepG_of (fun g d hdep => ?_)
          exact step_binOp rfl trivial _ _ _ _ _ _ _ rfl rfl rfl (fun w hw => bin_add64 _ _ _ (by rw [IntKind.wrap_i64]; omega))
        | 8, _, ho =>
          cases ho
          refine stepG_of (fun g d hdep => ?_)
          exact step_indexAddr rfl trivial _ _ _ _ _ rfl rfl rfl (fun w hw => idx_b g' off' bs.length cap (j + 1) (by omega) w)
        | 9, _, ho =>
          cases ho
          refine stepG_of (fun g d hdep => ?_)
          exact step_load rfl trivial _ _ _ rfl rfl (fun w hw => load_b ((hw.below.cell (p := ⟨g', off' + (j + 1), none⟩) hbV).trans x1))
        | 10, _, ho =>
          cases ho
          refine stepG_of (fun g d hdep => ?_)
          exact step_convert rfl trivial _ _ _ _ rfl rfl (fun w hw => conv_int .i64 _ (by rw [Try.underlying5]; rfl) Try.underlying3 (by rw [IntKind.wrap_i64]; omega) w)
        | 11, _, ho =>
          cases ho
          refine stepG_of (fun g d hdep => ?_)
          exact step_move rfl trivial _ rfl (by kernel_rfl)
        | 12, _, ho =>
          cases ho
          refine stepG_of (fun g d hdep => ?_)
          exact step_move rfl trivial _ rfl (by kernel_rfl)
        | 13, _, ho =>
          cases ho
          refine stepG_of (fun g d hdep => ?_)
          exact step_binOp rfl trivial _ _ _ _ _ _ _ rfl rfl rfl (fun w hw => bin_add64 _ _ _ (by rw [IntKind.wrap_i64]; omega))
        | 14, _, ho =>
          cases ho
          refine stepG_of (fun g d hdep => ?_)
          exact step_move rfl trivial _ rfl (by kernel_rfl)
        | 15, _, ho =>
          cases ho
          refine stepG_of (fun g d hdep => ?_)
          exact step_binOp rfl trivial _ _ _ _ _ _ _ rfl rfl rfl (fun w hw => bin_add64 _ _ _ (by rw [IntKind.wrap_i64]; omega))
        | 16, _, ho =>
          cases ho
          refine stepG_of (fun g d hdep => ?_)
          exact step_slice rfl trivial _ _ _ _ _ (some (.int .i64 ((j + 2 : Nat) : Int))) (some (.int .i64 ((j + 5 : Nat) : Int))) rfl rfl rfl rfl (fun w hw => (slice_at g' off' bs.length cap (j + 2) (j + 5) (by omega) (by omega) w).trans (by rw [show j + 5 - (j + 2) = 3 by omega]; rfl))
        | 17, _, ho =>
          cases ho
          refine stepG_of (fun g d hdep => ?_)
          exact step_call rfl trivial 65 _ _ [(.slice (some ⟨g', off' + (j + 2), none⟩) 3 (cap - (j + 2)))] rfl (by kernel_rfl) (enters_of Try.func65 (by kernel_rfl) rfl) (fun w hw => (hnu _ _ w (fun _ => ⟨g', off' + (j + 2), rfl, Nat.lt_of_lt_of_le hbV hw.below.size, hat3.carry (hw.below.block g' hbV)⟩)).mono (by rintro e w' ⟨rfl, rfl⟩; exact ⟨rfl, hw⟩))
        | 18, _, ho =>
          cases ho
          exact stepG_of (fun g d hdep => step_build3 rfl trivial _ _ _ _ _ _ _ (.int .i64 (O : Int)) (.int .i64 (Q : Int)) (.int .i64 (T : Int)) rfl (by kernel_rfl) (by kernel_rfl) (by kernel_rfl) (fun w hw => build_nt O T Q w))
        | 19, _, ho =>
          cases ho
          exact stepG_newN rfl rfl rfl (fun g d W' hJ hun hcl => ⟨W'.heap.size, (fun j hj => match j, hj with | 19, hj => (by rw [hj] at hun; cases hun)  | 0, _ => rfl | 1, _ => rfl | 2, _ => rfl | 3, _ => rfl | 4, _ => rfl | 5, _ => rfl | 6, _ => rfl | 7, _ => rfl | 8, _ => rfl | 9, _ => rfl | 10, _ => rfl | 11, _ => rfl | 12, _ => rfl | 13, _ => rfl | 14, _ => rfl | 15, _ => rfl | 16, _ => rfl | 17, _ => rfl | 18, _ => rfl | 20, _ => rfl | _ + 21, _ => rfl), rfl, hJ.new (by cases h : d 20 with | false => rfl | true => exact absurd (hcl 20 _ rfl h 19 (by kernel_rfl)) (by rw [hun]; simp))⟩)
        | 20, _, ho =>
          cases ho
          refine stepG_of (fun g d hdep => ?_)
          exact step_store rfl trivial rfl _ _ _ _ _ rfl rfl rfl (fun w' hw => by have h19 := hdep 19 (by kernel_rfl); rw [h19] at hw; exact ⟨_, hw.store.1, by show JN wr O T Q g (d 19) true _; rw [h19]; exact hw.store.2⟩)
      intro g d W hall hW
      first | refine hK _ _ ?_ | refine (‹∀ (a : Act) (w : World), Code.wp Try.prog _ _ a w → _›) _ _ ?_ | skip
      simp only [finL, List.getD_cons_zero, List.getD_cons_succ, Nat.zero_add, Nat.reduceAdd, List.setIfInBounds_toArray, List.set_cons_zero, List.set_cons_succ]
      rw [hall 19 (by decide), hall 20 (by decide)] at hW
      have hnW : NB W g O T Q := by simpa using (hW.box rfl).2
      have hgV := (hW.box rfl).1
      have hSW := HS.below hW.below
      have hOW := row_below HO hW.below
      have hol := own_lt HO
      obtain ⟨V, hVW⟩ : ∃ V, V = W := ⟨_, rfl⟩
      subst hVW
      clear hW hall HS HO hrW hat x0 x1 hat3 hnu a0 a1 a2 a3 a4 a5 a6 a7 za0 za1 za2 za3 za4 za5 za6 za7 d0 d1 d2 d3 d4 d5 d6 d7 z0 z1 z2 z3 z4 z5 z6 z7 hSA hbW hbV hO hQ
      have hgo : ∀ B, (vl n (O : Nat) (T : Nat) (Q : Nat) && decide (A < ((O : Nat) : Int))) = B → B = false → rdE n bs = .error 75 := fun B h1 h2 => HW.out.trans (by rw [HX.out B h1, if_pos h2]; rfl)
      cases hB : vl (n : Int) (O : Int) (T : Int) (Q : Int) with
      | false =>
        rw [hB] at hva
        have HE : Hid (rdE n bs = .error 75) := hgo false (by rw [hB]; rfl) rfl
        clear HX hB hgo
        go_wp2
        refine wp_region_any hmx ?_
        refine wpAny_pure (fun i__ => ([(.int .i64 (n : Int)), (nt O T Q), (.bool false), (.bool true), (.bool true), undef, undef, undef, undef, undef, undef, undef, undef, undef, undef, undef, undef, undef, undef, (.bool true)] : List Value).getD i__ undef) (fun W' => Below V.heap.size V W') (by kernel_rfl) (Below.refl _ _).drew ?_ ?_
        · refine (stepsFrom_cons ?_ (stepsFrom_cons ?_ (stepsFrom_cons ?_ (stepsFrom_cons ?_ (stepsFrom_cons ?_ (stepsFrom_cons ?_ (stepsFrom_cons ?_ (stepsFrom_cons ?_ (stepsFrom_cons ?_ (stepsFrom_cons ?_ (stepsFrom_cons ?_ (stepsFrom_cons ?_ (stepsFrom_cons ?_ (stepsFrom_cons ?_ (stepsFrom_cons ?_ (stepsFrom_cons ?_ (stepsFrom_cons ?_ (stepsFrom_cons ?_ (stepsFrom_cons ?_ (stepsFrom_cons ?_ trivial))))))))))))))))))))
          · exact step_move rfl trivial _ rfl (by kernel_rfl)
          · exact step_load rfl trivial _ _ _ rfl rfl (fun w hw => load_ntb (hnW.carry hw))
          · exact step_call rfl trivial 53 _ _ [(.int .i64 (n : Int)), (nt O T Q)] rfl (by kernel_rfl) (enters_of Try.func53 (by kernel_rfl) rfl) (fun w hw => (hva w).mono (by rintro e w' ⟨rfl, hb'⟩; exact ⟨rfl, bel2 hw hb'⟩))
          · exact step_unOp rfl trivial _ _ _ _ rfl rfl (fun w hw => un_notB false w)
          · exact step_move rfl trivial _ rfl (by kernel_rfl)
          · exact step_skip rfl 4 false 192 (.bool true) rfl rfl (by kernel_rfl) (by intro h; cases h) rfl
          · exact step_skip rfl 4 false 192 (.bool true) rfl rfl (by kernel_rfl) (by intro h; cases h) rfl
          · exact step_skip rfl 4 false 192 (.bool true) rfl rfl (by kernel_rfl) (by intro h; cases h) rfl
          · exact step_skip rfl 7 true 195 undef rfl rfl (by kernel_rfl) (by intro h; cases h) rfl
          · exact step_skip rfl 7 true 195 undef rfl rfl (by kernel_rfl) (by intro h; cases h) rfl
          · exact step_skip rfl 7 true 195 undef rfl rfl (by kernel_rfl) (by intro h; cases h) rfl
          · exact step_skip rfl 7 true 195 undef rfl rfl (by kernel_rfl) (by intro h; cases h) rfl
          · exact step_skip rfl 7 true 195 undef rfl rfl (by kernel_rfl) (by intro h; cases h) rfl
          · exact step_skip rfl 7 true 195 undef rfl rfl (by kernel_rfl) (by intro h; cases h) rfl
          · exact step_skip rfl 7 true 195 undef rfl rfl (by kernel_rfl) (by intro h; cases h) rfl
          · exact step_skip rfl 7 true 195 undef rfl rfl (by kernel_rfl) (by intro h; cases h) rfl
          · exact step_skip rfl 7 true 195 undef rfl rfl (by kernel_rfl) (by intro h; cases h) rfl
          · exact step_skip rfl 7 true 195 undef rfl rfl (by kernel_rfl) (by intro h; cases h) rfl
          · exact step_skip rfl 4 false 192 (.bool true) rfl rfl (by kernel_rfl) (by intro h; cases h) rfl
          · exact step_pick rfl trivial _ _ _ true rfl (by kernel_rfl) (by kernel_rfl)
        intro W hW
        first | refine hK _ _ ?_ | refine (‹∀ (a : Act) (w : World), Code.wp Try.prog _ _ a w → _›) _ _ ?_
        simp only [finL, List.getD_cons_zero, List.getD_cons_succ, Nat.zero_add, Nat.reduceAdd, List.setIfInBounds_toArray, List.set_cons_zero, List.set_cons_succ]
        have HS := hSW.below hW
        obtain ⟨a0, a1, a2, a3, a4, a5, a6, a7⟩ := HS.a.cells
        obtain ⟨za0, za1, za2, za3, za4, za5, za6, za7⟩ := HS.a.thaw
        obtain ⟨d0, d1, d2, d3, d4, d5, d6, d7⟩ := HS.x.cells
        obtain ⟨z0, z1, z2, z3, z4, z5, z6, z7⟩ := HS.x.thaw
        have hSA := HS.a
        have hbW := HS.be
        go_wp2
        exact read_end (b := w.heap.size) (N := 0) rfl rfl rfl hSA (rro_err HE.out (by repeat' first | (with_reducible exact hbW) | (with_reducible refine Below.setCell (p := ⟨_, _, _⟩) ?_ (by simp) _)))
      | true =>
        rw [hB] at hva
        have hcon : A < (O : Int) → Hid (R = glu (L ++ [((O : Int), ((T : Nat) : Int), (Q : Int))]) (rdK n bs m (O : Nat) (j + 5))) := fun hA => by have := HX.out true (by rw [hB, decide_eq_true hA]; rfl); rwa [if_neg (by decide)] at this
        by_cases hL0 : L.length = 0
        · have HF := hcon (by have := HA.out.2.1 (List.length_eq_zero_iff.1 hL0); omega)
          have HL0 : Hid (L.length = 0) := hL0
          clear HX hB hgo hcon hL0
          go_wp2
          refine wp_region_any hmx ?_
          refine wpAny_pure (fun i__ => ([(.int .i64 (n : Int)), (nt O T Q), (.bool true), (.bool false), (.bool false), (.int .i64 (L.length : Int)), (.bool false), (.bool false), undef, undef, undef, undef, undef, undef, undef, undef, undef, undef, (.bool false), (.bool false)] : List Value).getD i__ undef) (fun W' => Below V.heap.size V W') (by kernel_rfl) (Below.refl _ _).drew ?_ ?_
          · refine (stepsFrom_cons ?_ (stepsFrom_cons ?_ (stepsFrom_cons ?_ (stepsFrom_cons ?_ (stepsFrom_cons ?_ (stepsFrom_cons ?_ (stepsFrom_cons ?_ (stepsFrom_cons ?_ (stepsFrom_cons ?_ (stepsFrom_cons ?_ (stepsFrom_cons ?_ (stepsFrom_cons ?_ (stepsFrom_cons ?_ (stepsFrom_cons ?_ (stepsFrom_cons ?_ (stepsFrom_cons ?_ (stepsFrom_cons ?_ (stepsFrom_cons ?_ (stepsFrom_cons ?_ (stepsFrom_cons ?_ trivial))))))))))))))))))))
            · exact step_move rfl trivial _ rfl (by kernel_rfl)
            · exact step_load rfl trivial _ _ _ rfl rfl (fun w hw => load_ntb (hnW.carry hw))
            · exact step_call rfl trivial 53 _ _ [(.int .i64 (n : Int)), (nt O T Q)] rfl (by kernel_rfl) (enters_of Try.func53 (by kernel_rfl) rfl) (fun w hw => (hva w).mono (by rintro e w' ⟨rfl, hb'⟩; exact ⟨rfl, bel2 hw hb'⟩))
            · exact step_unOp rfl trivial _ _ _ _ rfl rfl (fun w hw => un_notB true w)
            · exact step_move rfl trivial _ rfl (by kernel_rfl)
            · exact step_move rfl (by exact ⟨_, rfl, by kernel_rfl⟩) _ rfl (by kernel_rfl)
            · exact step_binOp rfl (by exact ⟨_, rfl, by kernel_rfl⟩) _ _ _ _ _ _ _ rfl rfl rfl (fun w hw => (bin_gtr .i64 _ _).trans (by rw [decide_eq_false (by have := HL0.out; omega)]; rfl))
            · exact step_move rfl (by exact ⟨_, rfl, by kernel_rfl⟩) _ rfl (by kernel_rfl)
            · exact step_skip rfl 7 true 195 (.bool false) rfl rfl (by kernel_rfl) (by intro h; cases h) rfl
            · exact step_skip rfl 7 true 195 (.bool false) rfl rfl (by kernel_rfl) (by intro h; cases h) rfl
            · exact step_skip rfl 7 true 195 (.bool false) rfl rfl (by kernel_rfl) (by intro h; cases h) rfl
            · exact step_skip rfl 7 true 195 (.bool false) rfl rfl (by kernel_rfl) (by intro h; cases h) rfl
            · exact step_skip rfl 7 true 195 (.bool false) rfl rfl (by kernel_rfl) (by intro h; cases h) rfl
            · exact step_skip rfl 7 true 195 (.bool false) rfl rfl (by kernel_rfl) (by intro h; cases h) rfl
            · exact step_skip rfl 7 true 195 (.bool false) rfl rfl (by kernel_rfl) (by intro h; cases h) rfl
            · exact step_skip rfl 7 true 195 (.bool false) rfl rfl (by kernel_rfl) (by intro h; cases h) rfl
            · exact step_skip rfl 7 true 195 (.bool false) rfl rfl (by kernel_rfl) (by intro h; cases h) rfl
            · exact step_skip rfl 7 true 195 (.bool false) rfl rfl (by kernel_rfl) (by intro h; cases h) rfl
            · exact step_pick rfl (by exact ⟨_, rfl, by kernel_rfl⟩) _ _ _ false rfl (by kernel_rfl) (by kernel_rfl)
            · exact step_pick rfl trivial _ _ _ false rfl (by kernel_rfl) (by kernel_rfl)
          intro W hW
          first | refine hK _ _ ?_ | refine (‹∀ (a : Act) (w : World), Code.wp Try.prog _ _ a w → _›) _ _ ?_
          simp only [finL, List.getD_cons_zero, List.getD_cons_succ, Nat.zero_add, Nat.reduceAdd, List.setIfInBounds_toArray, List.set_cons_zero, List.set_cons_succ]
          have HS := hSW.below hW
          have HO := row_below hOW hW
          have hn2 := hnW.carry hW
          have n0 := hn2.c0
          have n1 := hn2.c1
          have n2 := hn2.c2
          obtain ⟨a0, a1, a2, a3, a4, a5, a6, a7⟩ := HS.a.cells
          obtain ⟨za0, za1, za2, za3, za4, za5, za6, za7⟩ := HS.a.thaw
          obtain ⟨d0, d1, d2, d3, d4, d5, d6, d7⟩ := HS.x.cells
          obtain ⟨z0, z1, z2, z3, z4, z5, z6, z7⟩ := HS.x.thaw
          have hSA := HS.a
          have hbW := HS.be
          have hsz2 := HS.sz
          obtain ⟨ic, hic, hz0, hz1, hz2⟩ := info_partsN
          clear hSW hOW hnW hva
          go_wp2_with (at_builtin; refine wpList_append_own_at _ rfl _ _ 39 rfl (w.heap.size + 2) 82 ic _ 3 24 Try.underlying39 hic hz0 hz1 hz2 rfl (by decide) _ L.length (fl L) rfl (World.ownsRow.alloc HO _) ⟨W.heap.size, 0, none⟩ 1 1 [.int .i64 (O : Int), .int .i64 (T : Int), .int .i64 (Q : Int)] rfl rfl (rowN _ #[_, _, _] _) (by simp [Value.oneCell']) (by unfold maxLen; omega) (by omega) (by simp; omega) ?_; intro v' u2 hown' hgrow _ _; have hbu : Below (w.heap.size + 2) W u2 := ((Below.refl _ W).alloc hsz2 _).grown hgrow (by simp; omega) (fun q e => own_block HO q e); have hSu := HS.lower hbu; obtain ⟨p0, p1, p2, p3, p4, p5, p6, p7⟩ := hSu.x.cells; obtain ⟨t0, t1, t2, t3, t4, t5, t6, t7⟩ := hSu.x.thaw; obtain ⟨a3x, c3x, hv3⟩ : ∃ a3 c3, v' = .slice a3 (L.length + 1) c3 := own_sl hown'; subst hv3)
          go_roundw
          case rel =>
            have hlen : (L ++ [((O : Int), ((T : Nat) : Int), (Q : Int))]).length = L.length + 1 := by simp
            refine ⟨L ++ [((O : Int), ((T : Nat) : Int), (Q : Int))], (O : Int), j + 5, a3x, c3x, by simp, by simp, by rw [hlen]; omega, by have := HJ.out; omega, ?_, ?_, ?_, ?_, ?_⟩
            · show j + 5 = _
              have := HJ.out
              rw [hlen]
              omega
            · refine ⟨by omega, fun e => by simp at e, fun x hx => ?_⟩
              simp at hx
              rw [← hx]
            · show glu _ _ = R
              rw [HF.out, hlen, show cnt - (L.length + 1) = m by have := HM.out; omega]
            · show World.ownsRow _ _ _ _ _ _ _
              rw [hlen, fl_append]
              exact ownsRow_setCell_below hown' (by simp) _
            · show SX _ _ _ _ _ _ _
              rw [hlen]
              exact hSu.set7 _
          case measure => simp [vnatW]; omega
        · obtain ⟨c, hc1⟩ : ∃ c, L.length = c + 1 := ⟨L.length - 1, by omega⟩
          obtain ⟨⟨xo, xt, xq⟩, hx1, hx2⟩ := last_get hc1
          have hAx : A = xo := HA.out.2.2 _ hx2
          have HC1 : Hid (L.length = c + 1) := hc1
          rcases own_form hOW with ⟨_, e2⟩ | ⟨ga, cq, e1, hga, _, _⟩
          · omega
          cases e1
          have hntV := nts_own hOW rfl
          clear hc1 hL0
          have hgaV := hol ga rfl
          have hgaW : ga < V.heap.size := own_lt hOW ga rfl
          by_cases hle : (O : Int) ≤ xo
          · have HE : Hid (rdE n bs = .error 75) := hgo false (by rw [hB, decide_eq_false (by omega)]; rfl) rfl
            clear HX hB hgo hcon
            go_wp2
            refine wp_region_any hmx ?_
            refine wpAny_pure (fun i__ => ([(.int .i64 (n : Int)), (nt O T Q), (.bool true), (.bool false), (.bool false), (.int .i64 (L.length : Int)), (.bool true), (.bool true), (.pointer (some ⟨g, 0, none⟩)), (.int .i64 (O : Int)), (.pointer (some ⟨w.heap.size + 1, 7, none⟩)), (.slice (some ⟨ga, 0, none⟩) L.length cp), (.int .i64 (L.length : Int)), (.int .i64 (c : Int)), (.pointer (some ⟨ga, 0 + c * 3, none⟩)), (.pointer (some ⟨ga, 0 + c * 3, none⟩)), (.int .i64 xo), (.bool true), (.bool true), (.bool true)] : List Value).getD i__ undef) (fun W' => Below V.heap.size V W') (by kernel_rfl) (Below.refl _ _).drew ?_ ?_
            · refine (stepsFrom_cons ?_ (stepsFrom_cons ?_ (stepsFrom_cons ?_ (stepsFrom_cons ?_ (stepsFrom_cons ?_ (stepsFrom_cons ?_ (stepsFrom_cons ?_ (stepsFrom_cons ?_ (stepsFrom_cons ?_ (stepsFrom_cons ?_ (stepsFrom_cons ?_ (stepsFrom_cons ?_ (stepsFrom_cons ?_ (stepsFrom_cons ?_ (stepsFrom_cons ?_ (stepsFrom_cons ?_ (stepsFrom_cons ?_ (stepsFrom_cons ?_ (stepsFrom_cons ?_ (stepsFrom_cons ?_ trivial))))))))))))))))))))
              · exact step_move rfl trivial _ rfl (by kernel_rfl)
              · exact step_load rfl trivial _ _ _ rfl rfl (fun w hw => load_ntb (hnW.carry hw))
              · exact step_call rfl trivial 53 _ _ [(.int .i64 (n : Int)), (nt O T Q)] rfl (by kernel_rfl) (enters_of Try.func53 (by kernel_rfl) rfl) (fun w hw => (hva w).mono (by rintro e w' ⟨rfl, hb'⟩; exact ⟨rfl, bel2 hw hb'⟩))
              · exact step_unOp rfl trivial _ _ _ _ rfl rfl (fun w hw => un_notB true w)
              · exact step_move rfl trivial _ rfl (by kernel_rfl)
              · exact step_move rfl (by exact ⟨_, rfl, by kernel_rfl⟩) _ rfl (by kernel_rfl)
              · exact step_binOp rfl (by exact ⟨_, rfl, by kernel_rfl⟩) _ _ _ _ _ _ _ rfl rfl rfl (fun w hw => (bin_gtr .i64 _ _).trans (by rw [decide_eq_true (by have := HC1.out; omega)]; rfl))
              · exact step_move rfl (by exact ⟨_, rfl, by kernel_rfl⟩) _ rfl (by kernel_rfl)
              · exact step_fieldAddr rfl (by exact ⟨_, rfl, by kernel_rfl⟩) _ _ _ _ rfl rfl (fun w hw => fieldN0 g w)
              · exact step_load rfl (by exact ⟨_, rfl, by kernel_rfl⟩) _ _ _ rfl rfl (fun w hw => load_i (hnW.carry hw).c0)
              · exact step_fieldAddr rfl (by exact ⟨_, rfl, by kernel_rfl⟩) _ _ _ _ rfl rfl (fun w hw => field_rb _ w)
              · exact step_load rfl (by exact ⟨_, rfl, by kernel_rfl⟩) _ _ _ rfl rfl (fun w hw => load_rb (hSW.below hw).x)
              · exact step_move rfl (by exact ⟨_, rfl, by kernel_rfl⟩) _ rfl (by kernel_rfl)
              · exact step_binOp rfl (by exact ⟨_, rfl, by kernel_rfl⟩) _ _ _ _ _ _ _ rfl rfl rfl (fun w hw => bin_sub64 _ _ _ (by have := HC1.out; rw [IntKind.wrap_i64]; omega))
              · exact step_indexAddr rfl (by exact ⟨_, rfl, by kernel_rfl⟩) _ _ _ _ _ rfl rfl rfl (fun w hw => idx_n ga 0 L.length cp c (by have := HC1.out; omega) w)
              · exact step_fieldAddr rfl (by exact ⟨_, rfl, by kernel_rfl⟩) _ _ _ _ rfl rfl (fun w hw => field_at w _ _)
              · exact step_load rfl (by exact ⟨_, rfl, by kernel_rfl⟩) _ _ _ rfl rfl (fun w hw => load_of (hntV.carry hgaW hw) hx1)
              · exact step_binOp rfl (by exact ⟨_, rfl, by kernel_rfl⟩) _ _ _ _ _ _ _ rfl rfl rfl (fun w hw => (bin_leq .i64 _ _).trans (by rw [decide_eq_true (by omega)]; rfl))
              · exact step_pick rfl (by exact ⟨_, rfl, by kernel_rfl⟩) _ _ _ true rfl (by kernel_rfl) (by kernel_rfl)
              · exact step_pick rfl trivial _ _ _ false rfl (by kernel_rfl) (by kernel_rfl)
            intro W hW
            first | refine hK _ _ ?_ | refine (‹∀ (a : Act) (w : World), Code.wp Try.prog _ _ a w → _›) _ _ ?_
            simp only [finL, List.getD_cons_zero, List.getD_cons_succ, Nat.zero_add, Nat.reduceAdd, List.setIfInBounds_toArray, List.set_cons_zero, List.set_cons_succ]
            have HS := hSW.below hW
            obtain ⟨a0, a1, a2, a3, a4, a5, a6, a7⟩ := HS.a.cells
            obtain ⟨za0, za1, za2, za3, za4, za5, za6, za7⟩ := HS.a.thaw
            obtain ⟨d0, d1, d2, d3, d4, d5, d6, d7⟩ := HS.x.cells
            obtain ⟨z0, z1, z2, z3, z4, z5, z6, z7⟩ := HS.x.thaw
            have hSA := HS.a
            have hbW := HS.be
            go_wp2
            exact read_end (b := w.heap.size) (N := 0) rfl rfl rfl hSA (rro_err HE.out (by repeat' first | (with_reducible exact hbW) | (with_reducible refine Below.setCell (p := ⟨_, _, _⟩) ?_ (by simp) _)))
          · have HF := hcon (by omega)
            clear HX hB hgo hcon
            go_wp2
            refine wp_region_any hmx ?_
            refine wpAny_pure (fun i__ => ([(.int .i64 (n : Int)), (nt O T Q), (.bool true), (.bool false), (.bool false), (.int .i64 (L.length : Int)), (.bool true), (.bool true), (.pointer (some ⟨g, 0, none⟩)), (.int .i64 (O : Int)), (.pointer (some ⟨w.heap.size + 1, 7, none⟩)), (.slice (some ⟨ga, 0, none⟩) L.length cp), (.int .i64 (L.length : Int)), (.int .i64 (c : Int)), (.pointer (some ⟨ga, 0 + c * 3, none⟩)), (.pointer (some ⟨ga, 0 + c * 3, none⟩)), (.int .i64 xo), (.bool false), (.bool false), (.bool false)] : List Value).getD i__ undef) (fun W' => Below V.heap.size V W') (by kernel_rfl) (Below.refl _ _).drew ?_ ?_
            · refine (stepsFrom_cons ?_ (stepsFrom_cons ?_ (stepsFrom_cons ?_ (stepsFrom_cons ?_ (stepsFrom_cons ?_ (stepsFrom_cons ?_ (stepsFrom_cons ?_ (stepsFrom_cons ?_ (stepsFrom_cons ?_ (stepsFrom_cons ?_ (stepsFrom_cons ?_ (stepsFrom_cons ?_ (stepsFrom_cons ?_ (stepsFrom_cons ?_ (stepsFrom_cons ?_ (stepsFrom_cons ?_ (stepsFrom_cons ?_ (stepsFrom_cons ?_ (stepsFrom_cons ?_ (stepsFrom_cons ?_ trivial))))))))))))))))))))
              · exact step_move rfl trivial _ rfl (by kernel_rfl)
              · exact step_load rfl trivial _ _ _ rfl rfl (fun w hw => load_ntb (hnW.carry hw))
              · exact step_call rfl trivial 53 _ _ [(.int .i64 (n : Int)), (nt O T Q)] rfl (by kernel_rfl) (enters_of Try.func53 (by kernel_rfl) rfl) (fun w hw => (hva w).mono (by rintro e w' ⟨rfl, hb'⟩; exact ⟨rfl, bel2 hw hb'⟩))
              · exact step_unOp rfl trivial _ _ _ _ rfl rfl (fun w hw => un_notB true w)
              · exact step_move rfl trivial _ rfl (by kernel_rfl)
              · exact step_move rfl (by exact ⟨_, rfl, by kernel_rfl⟩) _ rfl (by kernel_rfl)
              · exact step_binOp rfl (by exact ⟨_, rfl, by kernel_rfl⟩) _ _ _ _ _ _ _ rfl rfl rfl (fun w hw => (bin_gtr .i64 _ _).trans (by rw [decide_eq_true (by have := HC1.out; omega)]; rfl))
              · exact step_move rfl (by exact ⟨_, rfl, by kernel_rfl⟩) _ rfl (by kernel_rfl)
              · exact step_fieldAddr rfl (by exact ⟨_, rfl, by kernel_rfl⟩) _ _ _ _ rfl rfl (fun w hw => fieldN0 g w)
              · exact step_load rfl (by exact ⟨_, rfl, by kernel_rfl⟩) _ _ _ rfl rfl (fun w hw => load_i (hnW.carry hw).c0)
              · exact step_fieldAddr rfl (by exact ⟨_, rfl, by kernel_rfl⟩) _ _ _ _ rfl rfl (fun w hw => field_rb _ w)
              · exact step_load rfl (by exact ⟨_, rfl, by kernel_rfl⟩) _ _ _ rfl rfl (fun w hw => load_rb (hSW.below hw).x)
              · exact step_move rfl (by exact ⟨_, rfl, by kernel_rfl⟩) _ rfl (by kernel_rfl)
              · exact step_binOp rfl (by exact ⟨_, rfl, by kernel_rfl⟩) _ _ _ _ _ _ _ rfl rfl rfl (fun w hw => bin_sub64 _ _ _ (by have := HC1.out; rw [IntKind.wrap_i64]; omega))
              · exact step_indexAddr rfl (by exact ⟨_, rfl, by kernel_rfl⟩) _ _ _ _ _ rfl rfl rfl (fun w hw => idx_n ga 0 L.length cp c (by have := HC1.out; omega) w)
              · exact step_fieldAddr rfl (by exact ⟨_, rfl, by kernel_rfl⟩) _ _ _ _ rfl rfl (fun w hw => field_at w _ _)
              · exact step_load rfl (by exact ⟨_, rfl, by kernel_rfl⟩) _ _ _ rfl rfl (fun w hw => load_of (hntV.carry hgaW hw) hx1)
              · exact step_binOp rfl (by exact ⟨_, rfl, by kernel_rfl⟩) _ _ _ _ _ _ _ rfl rfl rfl (fun w hw => (bin_leq .i64 _ _).trans (by rw [decide_eq_false (by omega)]; rfl))
              · exact step_pick rfl (by exact ⟨_, rfl, by kernel_rfl⟩) _ _ _ true rfl (by kernel_rfl) (by kernel_rfl)
              · exact step_pick rfl trivial _ _ _ false rfl (by kernel_rfl) (by kernel_rfl)
            intro W hW
            first | refine hK _ _ ?_ | refine (‹∀ (a : Act) (w : World), Code.wp Try.prog _ _ a w → _›) _ _ ?_
            simp only [finL, List.getD_cons_zero, List.getD_cons_succ, Nat.zero_add, Nat.reduceAdd, List.setIfInBounds_toArray, List.set_cons_zero, List.set_cons_succ]
            have HS := hSW.below hW
            have HO := row_below hOW hW
            have hn2 := hnW.carry hW
            have n0 := hn2.c0
            have n1 := hn2.c1
            have n2 := hn2.c2
            obtain ⟨a0, a1, a2, a3, a4, a5, a6, a7⟩ := HS.a.cells
            obtain ⟨za0, za1, za2, za3, za4, za5, za6, za7⟩ := HS.a.thaw
            obtain ⟨d0, d1, d2, d3, d4, d5, d6, d7⟩ := HS.x.cells
            obtain ⟨z0, z1, z2, z3, z4, z5, z6, z7⟩ := HS.x.thaw
            have hSA := HS.a
            have hbW := HS.be
            have hsz2 := HS.sz
            obtain ⟨ic, hic, hz0, hz1, hz2⟩ := info_partsN
            clear hSW hOW hnW hva
            go_wp2_with (at_builtin; refine wpList_append_own_at _ rfl _ _ 39 rfl (w.heap.size + 2) 82 ic _ 3 24 Try.underlying39 hic hz0 hz1 hz2 rfl (by decide) _ L.length (fl L) rfl (World.ownsRow.alloc HO _) ⟨W.heap.size, 0, none⟩ 1 1 [.int .i64 (O : Int), .int .i64 (T : Int), .int .i64 (Q : Int)] rfl rfl (rowN _ #[_, _, _] _) (by simp [Value.oneCell']) (by unfold maxLen; omega) (by omega) (by simp; omega) ?_; intro v' u2 hown' hgrow _ _; have hbu : Below (w.heap.size + 2) W u2 := ((Below.refl _ W).alloc hsz2 _).grown hgrow (by simp; omega) (fun q e => own_block HO q e); have hSu := HS.lower hbu; obtain ⟨p0, p1, p2, p3, p4, p5, p6, p7⟩ := hSu.x.cells; obtain ⟨t0, t1, t2, t3, t4, t5, t6, t7⟩ := hSu.x.thaw; obtain ⟨a3x, c3x, hv3⟩ : ∃ a3 c3, v' = .slice a3 (L.length + 1) c3 := own_sl hown'; subst hv3)
            go_roundw
            case rel =>
              have hlen : (L ++ [((O : Int), ((T : Nat) : Int), (Q : Int))]).length = L.length + 1 := by simp
              refine ⟨L ++ [((O : Int), ((T : Nat) : Int), (Q : Int))], (O : Int), j + 5, a3x, c3x, by simp, by simp, by rw [hlen]; omega, by have := HJ.out; omega, ?_, ?_, ?_, ?_, ?_⟩
              · show j + 5 = _
                have := HJ.out
                rw [hlen]
                omega
              · refine ⟨by omega, fun e => by simp at e, fun x hx => ?_⟩
                simp at hx
                rw [← hx]
              · show glu _ _ = R
                rw [HF.out, hlen, show cnt - (L.length + 1) = m by have := HM.out; omega]
              · show World.ownsRow _ _ _ _ _ _ _
                rw [hlen, fl_append]
                exact ownsRow_setCell_below hown' (by simp) _
              · show SX _ _ _ _ _ _ _
                rw [hlen]
                exact hSu.set7 _
            case measure => simp [vnatW]; omega
    · have hkk : L.length = cnt := by omega
      have hki : ¬ (L.length : Int) < (cnt : Int) := by omega
      have HE0 : Hid (rdE n bs = endW bs 1 y rd 0 (.ok (L, j))) := by
        have := HK.out
        rw [hkk, Nat.sub_self, rdK, glu, List.append_nil] at this
        exact HW.out.trans (by rw [← this])
      clear HK HW hkk
      by_cases t1 : bs.length < j + 4
      · have HE : Hid (rdE n bs = .error 76) := HE0.out.trans (if_pos t1)
        have t1i : (bs.length : Int) < (j : Int) + 4 := by omega
        go_wp2
        exact read_end (b := w.heap.size) (N := 0) rfl rfl rfl hSA (rro_err HE.out (by repeat' first | (with_reducible exact hbW) | (with_reducible refine Below.setCell (p := ⟨_, _, _⟩) ?_ (by simp) _)))
      have t1i : ¬ (bs.length : Int) < (j : Int) + 4 := by omega
      obtain ⟨b', o', e', hbV, hat⟩ := hrW (fun e => by subst e; simp at e0)
      cases e'
      have hnu : ∀ (a : Addr) (c : Nat) (W : World), RdB W (some a) ((bs.drop j).take 4) → Calls Try.prog 65 #[.slice (some a) 4 c] W fun e w' => e = .returned (.int .i64 (nm bs j 4 : Nat)) ∧ w' = W := fun a c W hr2 => by
        have := value_any (some a) c ((bs.drop j).take 4) W hr2 ((hb.drop _).take _) (by rw [sub_len (by omega)]; decide)
        rw [sub_len (by omega)] at this
        exact this
      have hsu : ∀ (a : Addr) (c : Nat) (W : World), RdB W (some a) (bs.take j) → Calls Try.prog 42 #[.slice (some a) j c] W fun e w' => e = .returned (.int .i64 (sumV (bs.take j) : Nat)) ∧ w' = W := fun a c W hr2 => by
        have hlj : (bs.take j).length = j := by rw [List.length_take]; omega
        have := rSum_any (some a) c (bs.take j) W hr2 (hb.take _) (by rw [hlj]; omega)
        rw [hlj] at this
        exact this
      have hat4 := hat.sub j 4
      have hatj := hat.sub 0 j
      simp only [List.drop_zero, Nat.add_zero] at hatj
      have HEc : Hid (∀ P Q, nm bs j 4 = P → sumV (bs.take j) = Q → rdE n bs = if P ≠ Q then .error 77 else if j + 4 < bs.length then .error 2 else .ok (1, y, rd, 0, L)) := by
        rintro P Q rfl rfl
        exact HE0.out.trans (if_neg t1)
      generalize nm bs j 4 = P at *
      generalize sumV (bs.take j) = SV at *
      obtain ⟨V, hVW⟩ : ∃ V, V = wr := ⟨_, rfl⟩
      subst hVW
      by_cases t2 : P = SV
      case neg =>
        have HE : Hid (rdE n bs = .error 77) := (HEc.out P SV rfl rfl).trans (if_pos t2)
        clear HE0 HEc
        go_wp2
        refine wp_region_any hmx ?_
        refine wpAny_pure (fun i__ => ([(.slice (some ⟨g', off', none⟩) bs.length cap), (.int .i64 (j : Int)), (.int .i64 (j : Int)), (.int .i64 ((j + 4 : Nat) : Int)), (.slice (some ⟨g', off' + j, none⟩) 4 (cap - j)), (.int .i64 (P : Int)), (.slice (some ⟨g', off', none⟩) bs.length cap), (.int .i64 (j : Int)), (.slice (some ⟨g', off', none⟩) j cap), (.int .i64 (SV : Int)), (.bool true)] : List Value).getD i__ undef) (fun W' => Below V.heap.size V W') (by kernel_rfl) (Below.refl _ _).drew ?_ ?_
        · refine (stepsFrom_cons ?_ (stepsFrom_cons ?_ (stepsFrom_cons ?_ (stepsFrom_cons ?_ (stepsFrom_cons ?_ (stepsFrom_cons ?_ (stepsFrom_cons ?_ (stepsFrom_cons ?_ (stepsFrom_cons ?_ (stepsFrom_cons ?_ (stepsFrom_cons ?_ trivial)))))))))))
          · exact step_move rfl trivial _ rfl (by kernel_rfl)
          · exact step_move rfl trivial _ rfl (by kernel_rfl)
          · exact step_move rfl trivial _ rfl (by kernel_rfl)
          · exact step_binOp rfl trivial _ _ _ _ _ _ _ rfl rfl rfl (fun w hw => bin_add64 _ _ _ (by rw [IntKind.wrap_i64]; omega))
          · exact step_slice rfl trivial _ _ _ _ _ (some (.int .i64 (j : Int))) (some (.int .i64 ((j + 4 : Nat) : Int))) rfl rfl rfl rfl (fun w hw => (slice_at g' off' bs.length cap j (j + 4) (by omega) (by omega) w).trans (by rw [show j + 4 - j = 4 by omega]; rfl))
          · exact step_call rfl trivial 65 _ _ [(.slice (some ⟨g', off' + j, none⟩) 4 (cap - j))] rfl (by kernel_rfl) (enters_of Try.func65 (by kernel_rfl) rfl) (fun w hw => (hnu _ _ w (fun _ => ⟨g', off' + j, rfl, Nat.lt_of_lt_of_le hbV hw.size, hat4.carry (hw.block g' hbV)⟩)).mono (by rintro e w' ⟨rfl, rfl⟩; exact ⟨rfl, hw⟩))
          · exact step_move rfl trivial _ rfl (by kernel_rfl)
          · exact step_move rfl trivial _ rfl (by kernel_rfl)
          · exact step_slice rfl trivial _ _ _ _ _ none (some (.int .i64 (j : Int))) rfl rfl rfl rfl (fun w hw => slice_to g' off' bs.length cap j (by omega) w)
          · exact step_call rfl trivial 42 _ _ [(.slice (some ⟨g', off', none⟩) j cap)] rfl (by kernel_rfl) (enters_of Try.func42 (by kernel_rfl) rfl) (fun w hw => (hsu _ _ w (fun _ => ⟨g', off', rfl, Nat.lt_of_lt_of_le hbV hw.size, hatj.carry (hw.block g' hbV)⟩)).mono (by rintro e w' ⟨rfl, rfl⟩; exact ⟨rfl, hw⟩))
          · exact step_binOp rfl trivial _ _ _ _ _ _ _ rfl rfl rfl (fun w hw => (bin_neq .i64 _ _).trans (by simp; omega))
        intro W hW
        first | refine hK _ _ ?_ | refine (‹∀ (a : Act) (w : World), Code.wp Try.prog _ _ a w → _›) _ _ ?_
        simp only [finL, List.getD_cons_zero, List.getD_cons_succ, Nat.zero_add, Nat.reduceAdd, List.setIfInBounds_toArray, List.set_cons_zero, List.set_cons_succ]
        have HS := HS.below hW
        clear a0 a1 a2 a3 a4 a5 a6 a7 za0 za1 za2 za3 za4 za5 za6 za7 d0 d1 d2 d3 d4 d5 d6 d7 z0 z1 z2 z3 z4 z5 z6 z7 hSA hbW
        obtain ⟨a0, a1, a2, a3, a4, a5, a6, a7⟩ := HS.a.cells
        obtain ⟨za0, za1, za2, za3, za4, za5, za6, za7⟩ := HS.a.thaw
        obtain ⟨d0, d1, d2, d3, d4, d5, d6, d7⟩ := HS.x.cells
        obtain ⟨z0, z1, z2, z3, z4, z5, z6, z7⟩ := HS.x.thaw
        have hSA := HS.a
        have hbW := HS.be
        go_wp2
        exact read_end (b := w.heap.size) (N := 0) rfl rfl rfl hSA (rro_err HE.out (by repeat' first | (with_reducible exact hbW) | (with_reducible refine Below.setCell (p := ⟨_, _, _⟩) ?_ (by simp) _)))
      have HEd : Hid (rdE n bs = if j + 4 < bs.length then .error 2 else .ok (1, y, rd, 0, L)) := (HEc.out P SV rfl rfl).trans (if_neg (by simpa using t2))
      clear HE0 HEc
      by_cases t3 : j + 4 < bs.length
      · have HE : Hid (rdE n bs = .error 2) := HEd.out.trans (if_pos t3)
        have t3i : (j : Int) + 4 < (bs.length : Int) := by omega
        clear HEd
        go_wp2
        refine wp_region_any hmx ?_
        refine wpAny_pure (fun i__ => ([(.slice (some ⟨g', off', none⟩) bs.length cap), (.int .i64 (j : Int)), (.int .i64 (j : Int)), (.int .i64 ((j + 4 : Nat) : Int)), (.slice (some ⟨g', off' + j, none⟩) 4 (cap - j)), (.int .i64 (P : Int)), (.slice (some ⟨g', off', none⟩) bs.length cap), (.int .i64 (j : Int)), (.slice (some ⟨g', off', none⟩) j cap), (.int .i64 (SV : Int)), (.bool false)] : List Value).getD i__ undef) (fun W' => Below V.heap.size V W') (by kernel_rfl) (Below.refl _ _).drew ?_ ?_
        · refine (stepsFrom_cons ?_ (stepsFrom_cons ?_ (stepsFrom_cons ?_ (stepsFrom_cons ?_ (stepsFrom_cons ?_ (stepsFrom_cons ?_ (stepsFrom_cons ?_ (stepsFrom_cons ?_ (stepsFrom_cons ?_ (stepsFrom_cons ?_ (stepsFrom_cons ?_ trivial)))))))))))
          · exact step_move rfl trivial _ rfl (by kernel_rfl)
          · exact step_move rfl trivial _ rfl (by kernel_rfl)
          · exact step_move rfl trivial _ rfl (by kernel_rfl)
          · exact step_binOp rfl trivial _ _ _ _ _ _ _ rfl rfl rfl (fun w hw => bin_add64 _ _ _ (by rw [IntKind.wrap_i64]; omega))
          · exact step_slice rfl trivial _ _ _ _ _ (some (.int .i64 (j : Int))) (some (.int .i64 ((j + 4 : Nat) : Int))) rfl rfl rfl rfl (fun w hw => (slice_at g' off' bs.length cap j (j + 4) (by omega) (by omega) w).trans (by rw [show j + 4 - j = 4 by omega]; rfl))
          · exact step_call rfl trivial 65 _ _ [(.slice (some ⟨g', off' + j, none⟩) 4 (cap - j))] rfl (by kernel_rfl) (enters_of Try.func65 (by kernel_rfl) rfl) (fun w hw => (hnu _ _ w (fun _ => ⟨g', off' + j, rfl, Nat.lt_of_lt_of_le hbV hw.size, hat4.carry (hw.block g' hbV)⟩)).mono (by rintro e w' ⟨rfl, rfl⟩; exact ⟨rfl, hw⟩))
          · exact step_move rfl trivial _ rfl (by kernel_rfl)
          · exact step_move rfl trivial _ rfl (by kernel_rfl)
          · exact step_slice rfl trivial _ _ _ _ _ none (some (.int .i64 (j : Int))) rfl rfl rfl rfl (fun w hw => slice_to g' off' bs.length cap j (by omega) w)
          · exact step_call rfl trivial 42 _ _ [(.slice (some ⟨g', off', none⟩) j cap)] rfl (by kernel_rfl) (enters_of Try.func42 (by kernel_rfl) rfl) (fun w hw => (hsu _ _ w (fun _ => ⟨g', off', rfl, Nat.lt_of_lt_of_le hbV hw.size, hatj.carry (hw.block g' hbV)⟩)).mono (by rintro e w' ⟨rfl, rfl⟩; exact ⟨rfl, hw⟩))
          · exact step_binOp rfl trivial _ _ _ _ _ _ _ rfl rfl rfl (fun w hw => (bin_neq .i64 _ _).trans (by simp [t2]))
        intro W hW
        first | refine hK _ _ ?_ | refine (‹∀ (a : Act) (w : World), Code.wp Try.prog _ _ a w → _›) _ _ ?_
        simp only [finL, List.getD_cons_zero, List.getD_cons_succ, Nat.zero_add, Nat.reduceAdd, List.setIfInBounds_toArray, List.set_cons_zero, List.set_cons_succ]
        have HS := HS.below hW
        clear a0 a1 a2 a3 a4 a5 a6 a7 za0 za1 za2 za3 za4 za5 za6 za7 d0 d1 d2 d3 d4 d5 d6 d7 z0 z1 z2 z3 z4 z5 z6 z7 hSA hbW
        obtain ⟨a0, a1, a2, a3, a4, a5, a6, a7⟩ := HS.a.cells
        obtain ⟨za0, za1, za2, za3, za4, za5, za6, za7⟩ := HS.a.thaw
        obtain ⟨d0, d1, d2, d3, d4, d5, d6, d7⟩ := HS.x.cells
        obtain ⟨z0, z1, z2, z3, z4, z5, z6, z7⟩ := HS.x.thaw
        have hSA := HS.a
        have hbW := HS.be
        go_wp2
        exact read_end (b := w.heap.size) (N := 0) rfl rfl rfl hSA (rro_err HE.out (by repeat' first | (with_reducible exact hbW) | (with_reducible refine Below.setCell (p := ⟨_, _, _⟩) ?_ (by simp) _)))
      have HE : Hid (rdE n bs = .ok (1, y, rd, 0, L)) := HEd.out.trans (if_neg t3)
      have t3i : ¬ (j : Int) + 4 < (bs.length : Int) := by omega
      clear HEd
      go_wp2
      refine wp_region_any hmx ?_
      refine wpAny_pure (fun i__ => ([(.slice (some ⟨g', off', none⟩) bs.length cap), (.int .i64 (j : Int)), (.int .i64 (j : Int)), (.int .i64 ((j + 4 : Nat) : Int)), (.slice (some ⟨g', off' + j, none⟩) 4 (cap - j)), (.int .i64 (P : Int)), (.slice (some ⟨g', off', none⟩) bs.length cap), (.int .i64 (j : Int)), (.slice (some ⟨g', off', none⟩) j cap), (.int .i64 (SV : Int)), (.bool false)] : List Value).getD i__ undef) (fun W' => Below V.heap.size V W') (by kernel_rfl) (Below.refl _ _).drew ?_ ?_
      · refine (stepsFrom_cons ?_ (stepsFrom_cons ?_ (stepsFrom_cons ?_ (stepsFrom_cons ?_ (stepsFrom_cons ?_ (stepsFrom_cons ?_ (stepsFrom_cons ?_ (stepsFrom_cons ?_ (stepsFrom_cons ?_ (stepsFrom_cons ?_ (stepsFrom_cons ?_ trivial)))))))))))
        · exact step_move rfl trivial _ rfl (by kernel_rfl)
        · exact step_move rfl trivial _ rfl (by kernel_rfl)
        · exact step_move rfl trivial _ rfl (by kernel_rfl)
        · exact step_binOp rfl trivial _ _ _ _ _ _ _ rfl rfl rfl (fun w hw => bin_add64 _ _ _ (by rw [IntKind.wrap_i64]; omega))
        · exact step_slice rfl trivial _ _ _ _ _ (some (.int .i64 (j : Int))) (some (.int .i64 ((j + 4 : Nat) : Int))) rfl rfl rfl rfl (fun w hw => (slice_at g' off' bs.length cap j (j + 4) (by omega) (by omega) w).trans (by rw [show j + 4 - j = 4 by omega]; rfl))
        · exact step_call rfl trivial 65 _ _ [(.slice (some ⟨g', off' + j, none⟩) 4 (cap - j))] rfl (by kernel_rfl) (enters_of Try.func65 (by kernel_rfl) rfl) (fun w hw => (hnu _ _ w (fun _ => ⟨g', off' + j, rfl, Nat.lt_of_lt_of_le hbV hw.size, hat4.carry (hw.block g' hbV)⟩)).mono (by rintro e w' ⟨rfl, rfl⟩; exact ⟨rfl, hw⟩))
        · exact step_move rfl trivial _ rfl (by kernel_rfl)
        · exact step_move rfl trivial _ rfl (by kernel_rfl)
        · exact step_slice rfl trivial _ _ _ _ _ none (some (.int .i64 (j : Int))) rfl rfl rfl rfl (fun w hw => slice_to g' off' bs.length cap j (by omega) w)
        · exact step_call rfl trivial 42 _ _ [(.slice (some ⟨g', off', none⟩) j cap)] rfl (by kernel_rfl) (enters_of Try.func42 (by kernel_rfl) rfl) (fun w hw => (hsu _ _ w (fun _ => ⟨g', off', rfl, Nat.lt_of_lt_of_le hbV hw.size, hatj.carry (hw.block g' hbV)⟩)).mono (by rintro e w' ⟨rfl, rfl⟩; exact ⟨rfl, hw⟩))
        · exact step_binOp rfl trivial _ _ _ _ _ _ _ rfl rfl rfl (fun w hw => (bin_neq .i64 _ _).trans (by simp [t2]))
      intro W hW
      first | refine hK _ _ ?_ | refine (‹∀ (a : Act) (w : World), Code.wp Try.prog _ _ a w → _›) _ _ ?_
      simp only [finL, List.getD_cons_zero, List.getD_cons_succ, Nat.zero_add, Nat.reduceAdd, List.setIfInBounds_toArray, List.set_cons_zero, List.set_cons_succ]
      have HS := HS.below hW
      have HO := row_below HO hW
      clear a0 a1 a2 a3 a4 a5 a6 a7 za0 za1 za2 za3 za4 za5 za6 za7 d0 d1 d2 d3 d4 d5 d6 d7 z0 z1 z2 z3 z4 z5 z6 z7 hSA hbW
      obtain ⟨a0, a1, a2, a3, a4, a5, a6, a7⟩ := HS.a.cells
      obtain ⟨za0, za1, za2, za3, za4, za5, za6, za7⟩ := HS.a.thaw
      obtain ⟨d0, d1, d2, d3, d4, d5, d6, d7⟩ := HS.x.cells
      obtain ⟨z0, z1, z2, z3, z4, z5, z6, z7⟩ := HS.x.thaw
      have hSA := HS.a
      have hbW := HS.be
      go_wp2
      exact read_end (b := w.heap.size) (N := 0) rfl rfl rfl hSA (rro_ok HE.out (ownsRow_base (ownsRow_setCell_below (ownsRow_setCell_below (ownsRow_setCell_below (ownsRow_setCell_below (ownsRow_setCell_below (ownsRow_setCell_below (ownsRow_setCell_below (ownsRow_setCell_below HO (by simp) _) (by simp) _) (by simp) _) (by simp) _) (by simp) _) (by simp) _) (by simp) _) (by simp) _) (by omega)) (by repeat' first | (with_reducible exact hbW) | (with_reducible refine Below.setCell (p := ⟨_, _, _⟩) ?_ (by simp) _)))
end Go.Proofs.Ytndogopllcpiiaa
namespace Go.Proofs.Ytndogopllcpiiaa
open Go.RowKit Go.Shelf

set_option maxHeartbeats 8000000 in
set_option maxRecDepth 100000 in
theorem rr2 (ad : Option Addr) (cap : Nat) (bs : List Nat) (n : Nat) (w : World) (h : RdB w ad bs) (hb : Byt bs) (hl : bs.length ≤ 1024) (hc : bs.length ≤ cap) (hn : 1 ≤ n ∧ n ≤ 100) (y : Nat) (hy : y < n) (e0 : bs[0]? = some 101) (e1 : bs[1]? = some 115) (e2 : bs[2]? = some 2) (e3 : bs[3]? = some n) (e4 : bs[4]? = some y) : Calls Try.prog 48 #[.slice ad bs.length cap, .int .i64 (n : Int)] w (RrO n bs w) := by
  have hmx : Try.prog.follows .mixedOrders = true := by kernel_rfl
  have hS0 := SX.new w
  have hrW := h.carry hS0.be
  obtain ⟨W0, hW0⟩ : ∃ W0, (w.alloc (.cells #[.int .i64 0, .int .i64 0, .int .i64 0, .int .u32 0, .int .u32 0, .int .u32 0, .int .u32 0, .slice none 0 0] 41)).alloc (.cells #[.int .i64 0, .int .i64 0, .int .i64 0, .int .u32 0, .int .u32 0, .int .u32 0, .int .u32 0, .slice none 0 0] 41) = W0 := ⟨_, rfl⟩
  rw [hW0] at hS0 hrW
  have hbW := hS0.be
  have hSA := hS0.a
  obtain ⟨a0, a1, a2, a3, a4, a5, a6, a7⟩ := hS0.a.cells
  obtain ⟨za0, za1, za2, za3, za4, za5, za6, za7⟩ := hS0.a.thaw
  obtain ⟨d0, d1, d2, d3, d4, d5, d6, d7⟩ := hS0.x.cells
  obtain ⟨z0, z1, z2, z3, z4, z5, z6, z7⟩ := hS0.x.thaw
  have h5 := (List.getElem?_eq_some_iff.1 e4).1
  have c2i : ¬ (bs.length : Int) < 2 := by omega
  have c3i : ¬ (bs.length : Int) < 3 := by omega
  have c4i : ¬ (bs.length : Int) < 4 := by omega
  have c5i : ¬ (bs.length : Int) < 5 := by omega
  obtain ⟨g', off', hadd, hgl, hat⟩ := hrW (fun e => by subst e; simp at e0)
  subst hadd
  have b0 := hat 0 _ e0
  have b1 := hat 1 _ e1
  have b2 := hat 2 _ e2
  have b3 := hat 3 _ e3
  have b4 := hat 4 _ e4
  rw [Nat.add_zero] at b0
  have i0 : (0 : Int) < (bs.length : Int) := by omega
  have i1 : (1 : Int) < (bs.length : Int) := by omega
  have i2 : (2 : Int) < (bs.length : Int) := by omega
  have i3 : (3 : Int) < (bs.length : Int) := by omega
  have i4 : (4 : Int) < (bs.length : Int) := by omega
  have f4i : ¬ (n : Int) ≤ (y : Int) := by omega
  have HF0 : Hid (rdF n bs = rd2 n bs 2 y) := rdF_head (by decide) hy e0 e1 e2 e3 e4
  by_cases c10 : bs.length < 10
  · have HE : Hid (rdE n bs = .error 76) := by show rdE n bs = _; rw [rdE, HF0.out, rd2, if_neg (by decide), if_pos c10]
    have c10i : (bs.length : Int) < 10 := by omega
    go_enter Try.func48, Try.ntmps48
    go_wp2
    exact read_end (b := w.heap.size) (N := 0) rfl rfl rfl (by repeat' first | (with_reducible exact hSA) | (with_reducible refine RB.other ?_ (by simp))) (rro_err HE.out (by repeat' first | (with_reducible exact hbW) | (with_reducible refine Below.setCell (p := ⟨_, _, _⟩) ?_ (by simp) _)))
  have c10i : ¬ (bs.length : Int) < 10 := by omega
  have hsl : ∀ W, (Instr.sliceAt 22 (.slice (some ⟨g', off', none⟩) bs.length cap) (some (.int .i64 5)) (some (.int .i64 10)) none).run Try.prog W = .ok (.slice (some ⟨g', off' + 5, none⟩) 5 (cap - 5)) W := fun W => slice_at g' off' bs.length cap 5 10 (by decide) (by omega) W
  have hv5 : Calls Try.prog 65 #[.slice (some ⟨g', off' + 5, none⟩) 5 (cap - 5)] ((W0.setCell ⟨w.heap.size + 1, 0, none⟩ (.int .i64 2)).setCell ⟨w.heap.size + 1, 1, none⟩ (.int .i64 (y : Int))) fun e w' => e = .returned (.int .i64 (nm bs 5 5 : Nat)) ∧ w' = ((W0.setCell ⟨w.heap.size + 1, 0, none⟩ (.int .i64 2)).setCell ⟨w.heap.size + 1, 1, none⟩ (.int .i64 (y : Int))) := by
    obtain ⟨b', o', e', hbV, hat2⟩ := h.carry ((hS0.set0 2).set1 (y : Int)).be (fun e => by subst e; simp at e0)
    cases e'
    have := value_any (some ⟨g', off' + 5, none⟩) (cap - 5) ((bs.drop 5).take 5) ((W0.setCell ⟨w.heap.size + 1, 0, none⟩ (.int .i64 2)).setCell ⟨w.heap.size + 1, 1, none⟩ (.int .i64 (y : Int))) (fun _ => ⟨g', off' + 5, rfl, hbV, hat2.sub 5 5⟩) ((hb.drop _).take _) (by rw [sub_len (by omega)]; decide)
    rw [sub_len (by omega)] at this
    exact this
  have HRD : Hid (∀ P, nm bs 5 5 = P → rdF n bs = if ¬ (1 ≤ P ∧ P ≤ 1099511627775) then .error 73 else rd3 n bs 2 y P 10) := by
    rintro P rfl
    rw [HF0.out, rd2, if_neg (by decide), if_neg c10]
  have hrd40 : nm bs 5 5 < 2 ^ 40 := by
    have := valB_lt ((bs.drop 5).take 5) ((hb.drop _).take _)
    rw [sub_len (by omega)] at this
    exact this
  generalize nm bs 5 5 = rd at *
  by_cases r1 : rd < 1
  · have HE : Hid (rdE n bs = .error 73) := by show rdE n bs = _; rw [rdE, HRD.out rd rfl, if_pos (by omega)]
    have r1i : (rd : Int) < 1 := by omega
    go_enter Try.func48, Try.ntmps48
    go_wp2_with (go_at_call 65; (with_reducible refine hv5.mono ?_); rintro e u ⟨rfl, hu⟩; rw [hu]; clear hu u)
    exact read_end (b := w.heap.size) (N := 0) rfl rfl rfl (by repeat' first | (with_reducible exact hSA) | (with_reducible refine RB.other ?_ (by simp))) (rro_err HE.out (by repeat' first | (with_reducible exact hbW) | (with_reducible refine Below.setCell (p := ⟨_, _, _⟩) ?_ (by simp) _)))
  have r1i : ¬ (rd : Int) < 1 := by omega
  have r2i : ¬ (1099511627775 : Int) < (rd : Int) := by omega
  have HF1 : Hid (rdF n bs = rd3 n bs 2 y rd 10) := (HRD.out rd rfl).trans (if_neg (by omega))
  obtain ⟨m, hm⟩ : ∃ m, hsz n = m := ⟨_, rfl⟩
  have hmi : ((n : Int) + 7) / 8 = (m : Int) := by unfold hsz at hm; omega
  have hm13 : m ≤ 13 := hm ▸ hsz_le (by omega)
  have hm8 : n ≤ 8 * m := by unfold hsz at hm; omega
  have HF2 : Hid (rdF n bs = if bs.length < 10 + m then .error 76 else if wthB (vlS ((bs.drop 10).take m)) n = false then .error 74 else rd4 n bs 2 y rd (vlS ((bs.drop 10).take m)) (10 + m)) := HF1.out.trans (by rw [rd3, if_pos rfl, hm])
  by_cases c11 : bs.length < 10 + m
  · have HE : Hid (rdE n bs = .error 76) := by show rdE n bs = _; rw [rdE, HF2.out, if_pos c11]
    have c11i : (bs.length : Int) < 10 + (m : Int) := by omega
    go_enter Try.func48, Try.ntmps48
    go_wp2_with (go_at_call 65; (with_reducible refine hv5.mono ?_); rintro e u ⟨rfl, hu⟩; rw [hu]; clear hu u)
    exact read_end (b := w.heap.size) (N := 0) rfl rfl rfl (by repeat' first | (with_reducible exact hSA) | (with_reducible refine RB.other ?_ (by simp))) (rro_err HE.out (by repeat' first | (with_reducible exact hbW) | (with_reducible refine Below.setCell (p := ⟨_, _, _⟩) ?_ (by simp) _)))
  have c11i : ¬ (bs.length : Int) < 10 + (m : Int) := by omega
  have HF3 : Hid (∀ T, vlS ((bs.drop 10).take m) = T → rdF n bs = if wthB T n = false then .error 74 else rd4 n bs 2 y rd T (10 + m)) := by
    rintro T rfl
    exact HF2.out.trans (if_neg c11)
  have HBT : Hid (∀ T, vlS ((bs.drop 10).take m) = T → ∀ i x, i < 8 * m → bs[10 + i / 8]? = some x → x.testBit (i % 8) = T.testBit i) := by
    rintro T rfl i x hi hx
    rw [vlS_bit _ ((hb.drop _).take _), getD_of (by rw [List.getElem?_take, if_pos (by omega), List.getElem?_drop]; exact hx)]
  have HTL : Hid (vlS ((bs.drop 10).take m) < 2 ^ (8 * m)) := by
    have := vlS_lt ((bs.drop 10).take m) ((hb.drop _).take _)
    rw [sub_len (by omega)] at this
    exact this
  obtain ⟨T, hT⟩ : ∃ T, vlS ((bs.drop 10).take m) = T := ⟨_, rfl⟩
  have HF3 : Hid (rdF n bs = if wthB T n = false then .error 74 else rd4 n bs 2 y rd T (10 + m)) := HF3.out T hT
  have HBT : Hid (∀ i x, i < 8 * m → bs[10 + i / 8]? = some x → x.testBit (i % 8) = T.testBit i) := HBT.out T hT
  have HTL : Hid (T < 2 ^ (8 * m)) := by rw [hT] at HTL; exact HTL
  have hSL := ((hS0.set0 2).set1 (y : Int)).set2 (rd : Int)
  clear hT hm
  go_enter Try.func48, Try.ntmps48
  go_wp2_with (go_at_call 65; (with_reducible refine hv5.mono ?_); rintro e u ⟨rfl, hu⟩; rw [hu]; clear hu u)
  simp only [hmi]
  clear hmi
  go_loopw [9] (fun i' wz => ∃ (i M : Nat), i' = .int .i64 (i : Int) ∧ i ≤ 8 * m ∧ Hid (M = T % 2 ^ i) ∧ Hid (M < 2 ^ n) ∧ Hid (SX w 2 (y : Int) (rd : Int) M (.slice none 0 0) wz)) (fun i' _ => 8 * m - vnatW i')
  case atStart => exact ⟨0, 0, rfl, Nat.zero_le _, (by show 0 = _; rw [Nat.pow_zero, Nat.mod_one]), Nat.two_pow_pos _, hSL⟩
  case round =>
    obtain ⟨i, M, rfl, hi, HM, HMn, HS0⟩ := hrel
    have HS := HS0.out
    clear HS0 hSL a0 a1 a2 a3 a4 a5 a6 a7 za0 za1 za2 za3 za4 za5 za6 za7 d0 d1 d2 d3 d4 d5 d6 d7 z0 z1 z2 z3 z4 z5 z6 z7 hSA hbW
    obtain ⟨a0, a1, a2, a3, a4, a5, a6, a7⟩ := HS.a.cells
    obtain ⟨za0, za1, za2, za3, za4, za5, za6, za7⟩ := HS.a.thaw
    obtain ⟨d0, d1, d2, d3, d4, d5, d6, d7⟩ := HS.x.cells
    obtain ⟨z0, z1, z2, z3, z4, z5, z6, z7⟩ := HS.x.thaw
    have hSA := HS.a
    have hbW := HS.be
    have hrW2 := h.carry hbW
    have h8m : (8 : Int) * (m : Int) = ((8 * m : Nat) : Int) := by omega
    obtain ⟨e8, he8⟩ : ∃ e8, 8 * m = e8 := ⟨_, rfl⟩
    rw [he8] at h8m
    by_cases hil : i < e8
    · have hili : (i : Int) < (e8 : Int) := by omega
      obtain ⟨q, hq⟩ : ∃ q, i / 8 = q := ⟨_, rfl⟩
      obtain ⟨r, hr⟩ : ∃ r, i % 8 = r := ⟨_, rfl⟩
      have hqi : (i : Int) / 8 = (q : Int) := by omega
      have hri : (i : Int) % 8 = (r : Int) := by omega
      have hr8 : r < 8 := by omega
      obtain ⟨p, hp⟩ : ∃ p, 10 + q = p := ⟨_, rfl⟩
      have hpi : (10 : Int) + (q : Int) = (p : Int) := by omega
      obtain ⟨x, hx⟩ := get_lt (show p < bs.length by omega)
      have hx8 := byt_get8 hb hx
      have hbit := HBT.out i x (by omega) (by rw [hq, hp]; exact hx)
      rw [hr] at hbit
      obtain ⟨b', o', e', hbV, hat2⟩ := hrW2 (fun e => by subst e; simp at hx)
      cases e'
      have cx := hat2 p x hx
      have hpl : (p : Int) < (bs.length : Int) := by omega
      obtain ⟨sh, hsh⟩ : ∃ sh, x / 2 ^ r = sh := ⟨_, rfl⟩
      have hshi : (x : Int) / 2 ^ r = (sh : Int) := by rw [← hsh]; simp
      have hsh8 : sh < 256 := by rw [← hsh]; exact Nat.lt_of_le_of_lt (Nat.div_le_self _ _) hx8
      have hand := u8_and_nat sh 1 hsh8 (by decide)
      have ha1 := and1 x r
      rw [hsh, hbit] at ha1
      rw [ha1] at hand
      have hpb := tpre_bits (N := T) (i := i)
      rw [← HM.out] at hpb
      clear hrW2 hx hp hq hr hsh hbit ha1 hat2
      cases hTi : T.testBit i with
      | false =>
        rw [hTi] at hand hpb
        simp at hand hpb
        have HM2 : Hid (M = T % 2 ^ (i + 1)) := hpb
        clear hpb hTi HM
        go_wp2
        go_roundw
        case rel => exact ⟨i + 1, M, by simp, by omega, HM2, HMn, HS⟩
        case measure => simp [vnatW]; omega
      | true =>
        rw [hTi] at hand hpb
        simp at hand hpb
        by_cases hin : n ≤ i
        · have HE : Hid (rdE n bs = .error 74) := by show rdE n bs = _; rw [rdE, HF3.out, if_pos (wth_no hn.2 hin hTi)]
          have hini : (n : Int) ≤ (i : Int) := by omega
          clear hpb hTi HM
          go_wp2
          exact read_end (b := w.heap.size) (N := M) rfl rfl rfl hSA (rro_err HE.out (by repeat' first | (with_reducible exact hbW) | (with_reducible refine Below.setCell (p := ⟨_, _, _⟩) ?_ (by simp) _)))
        have hini : ¬ (n : Int) ≤ (i : Int) := by omega
        have hMi : M < 2 ^ i := by rw [HM.out]; exact Nat.mod_lt _ (Nat.two_pow_pos _)
        have hM100 : M < S100 := Nat.lt_of_lt_of_le HMn.out (Nat.pow_le_pow_right (n := 2) (by decide) hn.2)
        have hput := rput_any M i hM100 (by omega)
        rw [or_pow hMi] at hput
        rw [hpb] at hput
        have HM2 : Hid (T % 2 ^ (i + 1) = T % 2 ^ (i + 1)) := rfl
        have HMn2 : Hid (T % 2 ^ (i + 1) < 2 ^ n) := by
          show T % 2 ^ (i + 1) < 2 ^ n
          exact Nat.lt_of_lt_of_le (Nat.mod_lt _ (Nat.two_pow_pos _)) (Nat.pow_le_pow_right (by decide) (by omega))
        obtain ⟨M2, hM2⟩ : ∃ M2, T % 2 ^ (i + 1) = M2 := ⟨_, rfl⟩
        rw [hM2] at hput HMn2
        have HM3 : Hid (M2 = T % 2 ^ (i + 1)) := hM2.symm
        clear hpb hTi HM HM2 hM2 hMi hM100
        go_wp2_with (go_at_call 66; (with_reducible refine (hput _).mono ?_); rintro e u1 ⟨rfl, hb1⟩; have HS1 := HS.below hb1; obtain ⟨p0, p1, p2, p3, p4, p5, p6, p7⟩ := HS1.x.cells; obtain ⟨t0, t1, t2, t3, t4, t5, t6, t7⟩ := HS1.x.thaw)
        go_roundw
        case rel => exact ⟨i + 1, M2, by simp, by omega, HM3, HMn2, HS1.heard M2⟩
        case measure => simp [vnatW]; omega
    · have hie : i = e8 := by omega
      have hili : ¬ (i : Int) < (e8 : Int) := by omega
      have hMT : M = T := by rw [HM.out, hie, ← he8]; exact Nat.mod_eq_of_lt HTL.out
      subst hMT
      obtain ⟨i0, hi0⟩ : ∃ i0, 10 + m = i0 := ⟨_, rfl⟩
      have hi0i : (10 : Int) + (m : Int) = (i0 : Int) := by omega
      have HW : Hid (rdE n bs = endW bs 2 y rd M (rdW n bs i0)) := rdE_rd4 (HF3.out.trans (by rw [wth_yes hn.2 HMn.out, if_neg (by decide), hi0]))
      have hSL := HS
      clear HF3 HBT HTL HM HMn hie he8 hrW2
      by_cases c6 : bs.length < i0 + 1
      · have HE : Hid (rdE n bs = .error 76) := HW.out.trans (by rw [rdW, if_pos c6]; rfl)
        have c6i : (bs.length : Int) < (i0 : Int) + 1 := by omega
        go_wp2
        exact read_end (b := w.heap.size) (N := M) rfl rfl rfl hSA (rro_err HE.out (by repeat' first | (with_reducible exact hbW) | (with_reducible refine Below.setCell (p := ⟨_, _, _⟩) ?_ (by simp) _)))
      have c6i : ¬ (bs.length : Int) < (i0 : Int) + 1 := by omega
      obtain ⟨cnt, e5⟩ := get_lt (show i0 < bs.length by omega)
      obtain ⟨b', o', e', hbV, hat2⟩ := h.carry hbW (fun e => by subst e; simp at e0)
      cases e'
      have b5 := hat2 i0 _ e5
      have i5 : (i0 : Int) < (bs.length : Int) := by omega
      have q5 := byt_get8 hb e5
      by_cases c7 : n < cnt
      · have HE : Hid (rdE n bs = .error 75) := HW.out.trans (by rw [rdW, if_neg c6, nm1 e5, if_pos c7]; rfl)
        have c7i : (n : Int) < (cnt : Int) := by omega
        clear hat2
        go_wp2
        exact read_end (b := w.heap.size) (N := M) rfl rfl rfl hSA (rro_err HE.out (by repeat' first | (with_reducible exact hbW) | (with_reducible refine Below.setCell (p := ⟨_, _, _⟩) ?_ (by simp) _)))
      have c7i : ¬ (n : Int) < (cnt : Int) := by omega
      obtain ⟨R, HR⟩ : ∃ R, Hid (rdK n bs cnt (-1) (i0 + 1) = R) := ⟨_, rfl⟩
      have HW : Hid (rdE n bs = endW bs 2 y rd M R) := HW.out.trans (by rw [rdW, if_neg c6, nm1 e5, if_neg c7, HR.out])
      have hi2 : i0 ≤ 200 := by omega
      clear hat2
      go_wp2
      try simp only [hi0i]
      clear hili h8m hi0i
      go_loopw [7, 11] (fun at' k' wz => ∃ (L : List (Int × Int × Int)) (A : Int) (j : Nat) (a : Option Addr) (cp : Nat), at' = .int .i64 (j : Int) ∧ k' = .int .i64 (L.length : Int) ∧ L.length ≤ cnt ∧ j ≤ 2000 ∧ Hid (j = i0 + 1 + 5 * L.length) ∧ Hid (-1 ≤ A ∧ (L = [] → A = -1) ∧ ∀ x, L.getLast? = some x → A = x.1) ∧ Hid (glu L (rdK n bs (cnt - L.length) A j) = R) ∧ Hid (wz.ownsRow (w.heap.size + 2) 82 3 (.slice a L.length cp) L.length (fl L)) ∧ Hid (SX w 2 (y : Int) (rd : Int) M (.slice a L.length cp) wz)) (fun _ k' _ => cnt - vnatW k')
      case atStart => exact ⟨[], -1, i0 + 1, none, 0, by simp, rfl, Nat.zero_le _, by omega, rfl, ⟨by decide, fun _ => rfl, fun x hx => by simp at hx⟩, (by show glu [] _ = R; rw [glu_nil]; exact HR.out), World.ownsRow_nil _ _ _ _, hSL⟩
      case round =>
        obtain ⟨L, A, j, a, cp, rfl, rfl, hk, hj2, HJ, HA, HK, HO, HS0⟩ := hrel
        have HS := HS0.out
        have HO := HO.out
        clear HS0 HR hSL a0 a1 a2 a3 a4 a5 a6 a7 za0 za1 za2 za3 za4 za5 za6 za7 d0 d1 d2 d3 d4 d5 d6 d7 z0 z1 z2 z3 z4 z5 z6 z7 hSA hbW
        obtain ⟨a0, a1, a2, a3, a4, a5, a6, a7⟩ := HS.a.cells
        obtain ⟨za0, za1, za2, za3, za4, za5, za6, za7⟩ := HS.a.thaw
        obtain ⟨d0, d1, d2, d3, d4, d5, d6, d7⟩ := HS.x.cells
        obtain ⟨z0, z1, z2, z3, z4, z5, z6, z7⟩ := HS.x.thaw
        have hSA := HS.a
        have hbW := HS.be
        have hrW := h.carry hbW
        by_cases hkl : L.length < cnt
        · have hki : (L.length : Int) < (cnt : Int) := by omega
          obtain ⟨m, hm⟩ : ∃ m, cnt - L.length = m + 1 := ⟨cnt - L.length - 1, by omega⟩
          have HK2 := HK.out
          rw [hm] at HK2
          clear HK
          by_cases hs : bs.length < j + 5
          · rw [rdK_short hs] at HK2
            have HE : Hid (rdE n bs = .error 76) := HW.out.trans (by rw [← HK2]; rfl)
            have hsi : (bs.length : Int) < (j : Int) + 5 := by omega
            clear HK2
            go_wp2
            exact read_end (b := w.heap.size) (N := M) rfl rfl rfl hSA (rro_err HE.out (by repeat' first | (with_reducible exact hbW) | (with_reducible refine Below.setCell (p := ⟨_, _, _⟩) ?_ (by simp) _)))
          have hsi : ¬ (bs.length : Int) < (j : Int) + 5 := by omega
          obtain ⟨O, hO⟩ := get_lt (show j < bs.length by omega)
          obtain ⟨Q, hQ⟩ := get_lt (show j + 1 < bs.length by omega)
          have hO8 := byt_get8 hb hO
          have hQ8 := byt_get8 hb hQ
          have HX : Hid (∀ B, (vl n (O : Nat) (nm bs (j + 2) 3 : Nat) (Q : Nat) && decide (A < ((O : Nat) : Int))) = B → R = if B = false then .error 75 else glu (L ++ [((O : Int), ((nm bs (j + 2) 3 : Nat) : Int), (Q : Int))]) (rdK n bs m (O : Nat) (j + 5))) := by
            rw [← getD_of hO, ← getD_of hQ]
            intro B hB
            cases B with
            | false => rw [rdK_bad hs hB] at HK2; rw [if_pos rfl]; exact HK2.symm
            | true => rw [rdK_next hs (by rw [hB]; decide), glu_glu] at HK2; rw [if_neg (by decide)]; exact HK2.symm
          have hnu : ∀ (a : Addr) (c : Nat) (W : World), RdB W (some a) ((bs.drop (j + 2)).take 3) → Calls Try.prog 65 #[.slice (some a) 3 c] W fun e w' => e = .returned (.int .i64 (nm bs (j + 2) 3 : Nat)) ∧ w' = W := fun a c W hr2 => by
            have := value_any (some a) c ((bs.drop (j + 2)).take 3) W hr2 ((hb.drop _).take _) (by rw [sub_len (by omega)]; decide)
            rw [sub_len (by omega)] at this
            exact this
          have hT24 : nm bs (j + 2) 3 < 2 ^ 24 := by
            have := valB_lt ((bs.drop (j + 2)).take 3) ((hb.drop _).take _)
            rw [sub_len (by omega)] at this
            exact this
          obtain ⟨b', o', e', hbV, hat⟩ := hrW (fun e => by subst e; simp at hO)
          cases e'
          have x0 := hat j O hO
          have x1 := hat (j + 1) Q hQ
          have hat3 := hat.sub (j + 2) 3
          have HM : Hid (cnt - L.length = m + 1) := hm
          clear HK2 hm
          generalize nm bs (j + 2) 3 = T at *
          have hva := rValid_any (n : Int) (O : Int) (T : Int) (Q : Int)
          go_wp2
          refine wp_region_any hmx ?_
          refine wpAny_tabG (G := (Nat)) (fun g i__ => ([(.slice (some ⟨g', off', none⟩) bs.length cap), (.int .i64 (j : Int)), (.pointer (some ⟨g', off' + j, none⟩)), (.int .u8 (O : Int)), (.int .i64 (O : Int)), (.slice (some ⟨g', off', none⟩) bs.length cap), (.int .i64 (j : Int)), (.int .i64 ((j + 1 : Nat) : Int)), (.pointer (some ⟨g', off' + (j + 1), none⟩)), (.int .u8 (Q : Int)), (.int .i64 (Q : Int)), (.slice (some ⟨g', off', none⟩) bs.length cap), (.int .i64 (j : Int)), (.int .i64 ((j + 2 : Nat) : Int)), (.int .i64 (j : Int)), (.int .i64 ((j + 5 : Nat) : Int)), (.slice (some ⟨g', off' + (j + 2), none⟩) 3 (cap - (j + 2))), (.int .i64 (T : Int)), (nt O T Q), (.pointer (some ⟨g, 0, none⟩)), undef] : List Value).getD i__ undef) (fun g d W => JN wr O T Q g (d 19) (d 20) W) (by kernel_rfl) (0) ⟨(Below.refl _ _).drew, fun e => by cases e⟩ ?step3 ?fin3
          case step3 =>
            intro i o ho
            have hi : i < 21 := getElem?_lt ho
            match i, hi, ho with
            | 0, _, ho =>
              cases ho
              refine stepG_of (fun g d hdep => ?_)
              exact step_move rfl trivial _ rfl (by kernel_rfl)
            | 1, _, ho =>
              cases ho
              refine stepG_of (fun g d hdep => ?_)
              exact step_move rfl trivial _ rfl (by kernel_rfl)
            | 2, _, ho =>
              cases ho
              refine stepG_of (fun g d hdep => ?_)
              exact step_indexAddr rfl trivial _ _ _ _ _ rfl rfl rfl (fun w hw => idx_b g' off' bs.length cap j (by omega) w)
            | 3, _, ho =>
              cases ho
              refine stepG_of (fun g d hdep => ?_)
              exact step_load rfl trivial _ _ _ rfl rfl (fun w hw => load_b ((hw.below.cell (p := ⟨g', off' + j, none⟩) hbV).trans x0))
            | 4, _, ho =>
              cases ho
              refine stepG_of (fun g d hdep => ?_)
              exact step_convert rfl trivial _ _ _ _ rfl rfl (fun w hw => conv_int .i64 _ (by rw [Try.underlying5]; rfl) Try.underlying3 (by rw [IntKind.wrap_i64]; omega) w)
            | 5, _, ho =>
              cases ho
              refine stepG_of (fun g d hdep => ?_)
              exact step_move rfl trivial _ rfl (by kernel_rfl)
            | 6, _, ho =>
              cases ho
              refine stepG_of (fun g d hdep => ?_)
              exact step_move rfl trivial _ rfl (by kernel_rfl)
            | 7, _, ho =>
              cases ho
              refine stepG_of (fun g d hdep => ?_)
              exact step_binOp rfl trivial _ _ _ _ _ _ _ rfl rfl rfl (fun w hw => bin_add64 _ _ _ (by rw [IntKind.wrap_i64]; omega))
            | 8, _, ho =>
              cases ho
              refine stepG_of (fun g d hdep => ?_)
              exact step_indexAddr rfl trivial _ _ _ _ _ rfl rfl rfl (fun w hw => idx_b g' off' bs.length cap (j + 1) (by omega) w)
            | 9, _, ho =>
              cases ho
              refine stepG_of (fun g d hdep => ?_)
              exact step_load rfl trivial _ _ _ rfl rfl (fun w hw => load_b ((hw.below.cell (p := ⟨g', off' + (j + 1), none⟩) hbV).trans x1))
            | 10, _, ho =>
              cases ho
              refine stepG_of (fun g d hdep => ?_)
              exact step_convert rfl trivial _ _ _ _ rfl rfl (fun w hw => conv_int .i64 _ (by rw [Try.underlying5]; rfl) Try.underlying3 (by rw [IntKind.wrap_i64]; omega) w)
            | 11, _, ho =>
              cases ho
              refine stepG_of (fun g d hdep => ?_)
              exact step_move rfl trivial _ rfl (by kernel_rfl)
            | 12, _, ho =>
              cases ho
              refine stepG_of (fun g d hdep => ?_)
              exact step_move rfl trivial _ rfl (by kernel_rfl)
            | 13, _, ho =>
              cases ho
              refine stepG_of (fun g d hdep => ?_)
              exact step_binOp rfl trivial _ _ _ _ _ _ _ rfl rfl rfl (fun w hw => bin_add64 _ _ _ (by rw [IntKind.wrap_i64]; omega))
            | 14, _, ho =>
              cases ho
              refine stepG_of (fun g d hdep => ?_)
              exact step_move rfl trivial _ rfl (by kernel_rfl)
            | 15, _, ho =>
              cases ho
              refine stepG_of (fun g d hdep => ?_)
              exact step_binOp rfl trivial _ _ _ _ _ _ _ rfl rfl rfl (fun w hw => bin_add64 _ _ _ (by rw [IntKind.wrap_i64]; omega))
            | 16, _, ho =>
              cases ho
              refine stepG_of (fun g d hdep => ?_)
              exact step_slice rfl trivial _ _ _ _ _ (some (.int .i64 ((j + 2 : Nat) : Int))) (some (.int .i64 ((j + 5 : Nat) : Int))) rfl rfl rfl rfl (fun w hw => (slice_at g' off' bs.length cap (j + 2) (j + 5) (by omega) (by omega) w).trans (by rw [show j + 5 - (j + 2) = 3 by omega]; rfl))
            | 17, _, ho =>
              cases ho
              refine stepG_of (fun g d hdep => ?_)
              exact step_call rfl trivial 65 _ _ [(.slice (some ⟨g', off' + (j + 2), none⟩) 3 (cap - (j + 2)))] rfl (by kernel_rfl) (enters_of Try.func65 (by kernel_rfl) rfl) (fun w hw => (hnu _ _ w (fun _ => ⟨g', off' + (j + 2), rfl, Nat.lt_of_lt_of_le hbV hw.below.size, hat3.carry (hw.below.block g' hbV)⟩)).mono (by rintro e w' ⟨rfl, rfl⟩; exact ⟨rfl, hw⟩))
            | 18, _, ho =>
              cases ho
              exact stepG_of (fun g d hdep => step_build3 rfl trivial _ _ _ _ _ _ _ (.int .i64 (O : Int)) (.int .i64 (Q : Int)) (.int .i64 (T : Int)) rfl (by kernel_rfl) (by kernel_rfl) (by kernel_rfl) (fun w hw => build_nt O T Q w))
            | 19, _, ho =>
              cases ho
              exact stepG_newN rfl rfl rfl (fun g d W' hJ hun hcl => ⟨W'.heap.size, (fun j hj => match j, hj with | 19, hj => (by rw [hj] at hun; cases hun)  | 0, _ => rfl | 1, _ => rfl | 2, _ => rfl | 3, _ => rfl | 4, _ => rfl | 5, _ => rfl | 6, _ => rfl | 7, _ => rfl | 8, _ => rfl | 9, _ => rfl | 10, _ => rfl | 11, _ => rfl | 12, _ => rfl | 13, _ => rfl | 14, _ => rfl | 15, _ => rfl | 16, _ => rfl | 17, _ => rfl | 18, _ => rfl | 20, _ => rfl | _ + 21, _ => rfl), rfl, hJ.new (by cases h : d 20 with | false => rfl | true => exact absurd (hcl 20 _ rfl h 19 (by kernel_rfl)) (by rw [hun]; simp))⟩)
            | 20, _, ho =>
              cases ho
              refine stepG_of (fun g d hdep => ?_)
              exact step_store rfl trivial rfl _ _ _ _ _ rfl rfl rfl (fun w' hw => by have h19 := hdep 19 (by kernel_rfl); rw [h19] at hw; exact ⟨_, hw.store.1, by show JN wr O T Q g (d 19) true _; rw [h19]; exact hw.store.2⟩)
          intro g d W hall hW
          first | refine hK _ _ ?_ | refine (‹∀ (a : Act) (w : World), Code.wp Try.prog _ _ a w → _›) _ _ ?_ | skip
          simp only [finL, List.getD_cons_zero, List.getD_cons_succ, Nat.zero_add, Nat.reduceAdd, List.setIfInBounds_toArray, List.set_cons_zero, List.set_cons_succ]
          rw [hall 19 (by decide), hall 20 (by decide)] at hW
          have hnW : NB W g O T Q := by simpa using (hW.box rfl).2
          have hgV := (hW.box rfl).1
          have hSW := HS.below hW.below
          have hOW := row_below HO hW.below
          have hol := own_lt HO
          obtain ⟨V, hVW⟩ : ∃ V, V = W := ⟨_, rfl⟩
          subst hVW
          clear hW hall HS HO hrW hat x0 x1 hat3 hnu a0 a1 a2 a3 a4 a5 a6 a7 za0 za1 za2 za3 za4 za5 za6 za7 d0 d1 d2 d3 d4 d5 d6 d7 z0 z1 z2 z3 z4 z5 z6 z7 hSA hbW hbV hO hQ
          have hgo : ∀ B, (vl n (O : Nat) (T : Nat) (Q : Nat) && decide (A < ((O : Nat) : Int))) = B → B = false → rdE n bs = .error 75 := fun B h1 h2 => HW.out.trans (by rw [HX.out B h1, if_pos h2]; rfl)
          cases hB : vl (n : Int) (O : Int) (T : Int) (Q : Int) with
          | false =>
            rw [hB] at hva
            have HE : Hid (rdE n bs = .error 75) := hgo false (by rw [hB]; rfl) rfl
            clear HX hB hgo
            go_wp2
            refine wp_region_any hmx ?_
            refine wpAny_pure (fun i__ => ([(.int .i64 (n : Int)), (nt O T Q), (.bool false), (.bool true), (.bool true), undef, undef, undef, undef, undef, undef, undef, undef, undef, undef, undef, undef, undef, undef, (.bool true)] : List Value).getD i__ undef) (fun W' => Below V.heap.size V W') (by kernel_rfl) (Below.refl _ _).drew ?_ ?_
            · refine (stepsFrom_cons ?_ (stepsFrom_cons ?_ (stepsFrom_cons ?_ (stepsFrom_cons ?_ (stepsFrom_cons ?_ (stepsFrom_cons ?_ (stepsFrom_cons ?_ (stepsFrom_cons ?_ (stepsFrom_cons ?_ (stepsFrom_cons ?_ (stepsFrom_cons ?_ (stepsFrom_cons ?_ (stepsFrom_cons ?_ (stepsFrom_cons ?_ (stepsFrom_cons ?_ (stepsFrom_cons ?_ (stepsFrom_cons ?_ (stepsFrom_cons ?_ (stepsFrom_cons ?_ (stepsFrom_cons ?_ trivial))))))))))))))))))))
              · exact step_move rfl trivial _ rfl (by kernel_rfl)
              · exact step_load rfl trivial _ _ _ rfl rfl (fun w hw => load_ntb (hnW.carry hw))
              · exact step_call rfl trivial 53 _ _ [(.int .i64 (n : Int)), (nt O T Q)] rfl (by kernel_rfl) (enters_of Try.func53 (by kernel_rfl) rfl) (fun w hw => (hva w).mono (by rintro e w' ⟨rfl, hb'⟩; exact ⟨rfl, bel2 hw hb'⟩))
              · exact step_unOp rfl trivial _ _ _ _ rfl rfl (fun w hw => un_notB false w)
              · exact step_move rfl trivial _ rfl (by kernel_rfl)
              · exact step_skip rfl 4 false 192 (.bool true) rfl rfl (by kernel_rfl) (by intro h; cases h) rfl
              · exact step_skip rfl 4 false 192 (.bool true) rfl rfl (by kernel_rfl) (by intro h; cases h) rfl
              · exact step_skip rfl 4 false 192 (.bool true) rfl rfl (by kernel_rfl) (by intro h; cases h) rfl
              · exact step_skip rfl 7 true 195 undef rfl rfl (by kernel_rfl) (by intro h; cases h) rfl
              · exact step_skip rfl 7 true 195 undef rfl rfl (by kernel_rfl) (by intro h; cases h) rfl
              · exact step_skip rfl 7 true 195 undef rfl rfl (by kernel_rfl) (by intro h; cases h) rfl
              · exact step_skip rfl 7 true 195 undef rfl rfl (by kernel_rfl) (by intro h; cases h) rfl
              · exact step_skip rfl 7 true 195 undef rfl rfl (by kernel_rfl) (by intro h; cases h) rfl
              · exact step_skip rfl 7 true 195 undef rfl rfl (by kernel_rfl) (by intro h; cases h) rfl
              · exact step_skip rfl 7 true 195 undef rfl rfl (by kernel_rfl) (by intro h; cases h) rfl
              · exact step_skip rfl 7 true 195 undef rfl rfl (by kernel_rfl) (by intro h; cases h) rfl
              · exact step_skip rfl 7 true 195 undef rfl rfl (by kernel_rfl) (by intro h; cases h) rfl
              · exact step_skip rfl 7 true 195 undef rfl rfl (by kernel_rfl) (by intro h; cases h) rfl
              · exact step_skip rfl 4 false 192 (.bool true) rfl rfl (by kernel_rfl) (by intro h; cases h) rfl
              · exact step_pick rfl trivial _ _ _ true rfl (by kernel_rfl) (by kernel_rfl)
            intro W hW
            first | refine hK _ _ ?_ | refine (‹∀ (a : Act) (w : World), Code.wp Try.prog _ _ a w → _›) _ _ ?_
            simp only [finL, List.getD_cons_zero, List.getD_cons_succ, Nat.zero_add, Nat.reduceAdd, List.setIfInBounds_toArray, List.set_cons_zero, List.set_cons_succ]
            have HS := hSW.below hW
            obtain ⟨a0, a1, a2, a3, a4, a5, a6, a7⟩ := HS.a.cells
            obtain ⟨za0, za1, za2, za3, za4, za5, za6, za7⟩ := HS.a.thaw
            obtain ⟨d0, d1, d2, d3, d4, d5, d6, d7⟩ := HS.x.cells
            obtain ⟨z0, z1, z2, z3, z4, z5, z6, z7⟩ := HS.x.thaw
            have hSA := HS.a
            have hbW := HS.be
            go_wp2
            exact read_end (b := w.heap.size) (N := M) rfl rfl rfl hSA (rro_err HE.out (by repeat' first | (with_reducible exact hbW) | (with_reducible refine Below.setCell (p := ⟨_, _, _⟩) ?_ (by simp) _)))
          | true =>
            rw [hB] at hva
            have hcon : A < (O : Int) → Hid (R = glu (L ++ [((O : Int), ((T : Nat) : Int), (Q : Int))]) (rdK n bs m (O : Nat) (j + 5))) := fun hA => by have := HX.out true (by rw [hB, decide_eq_true hA]; rfl); rwa [if_neg (by decide)] at this
            by_cases hL0 : L.length = 0
            · have HF := hcon (by have := HA.out.2.1 (List.length_eq_zero_iff.1 hL0); omega)
              have HL0 : Hid (L.length = 0) := hL0
              clear HX hB hgo hcon hL0
              go_wp2
              refine wp_region_any hmx ?_
              refine wpAny_pure (fun i__ => ([(.int .i64 (n : Int)), (nt O T Q), (.bool true), (.bool false), (.bool false), (.int .i64 (L.length : Int)), (.bool false), (.bool false), undef, undef, undef, undef, undef, undef, undef, undef, undef, undef, (.bool false), (.bool false)] : List Value).getD i__ undef) (fun W' => Below V.heap.size V W') (by kernel_rfl) (Below.refl _ _).drew ?_ ?_
              · refine (stepsFrom_cons ?_ (stepsFrom_cons ?_ (stepsFrom_cons ?_ (stepsFrom_cons ?_ (stepsFrom_cons ?_ (stepsFrom_cons ?_ (stepsFrom_cons ?_ (stepsFrom_cons ?_ (stepsFrom_cons ?_ (stepsFrom_cons ?_ (stepsFrom_cons ?_ (stepsFrom_cons ?_ (stepsFrom_cons ?_ (stepsFrom_cons ?_ (stepsFrom_cons ?_ (stepsFrom_cons ?_ (stepsFrom_cons ?_ (stepsFrom_cons ?_ (stepsFrom_cons ?_ (stepsFrom_cons ?_ trivial))))))))))))))))))))
                · exact step_move rfl trivial _ rfl (by kernel_rfl)
                · exact step_load rfl trivial _ _ _ rfl rfl (fun w hw => load_ntb (hnW.carry hw))
                · exact step_call rfl trivial 53 _ _ [(.int .i64 (n : Int)), (nt O T Q)] rfl (by kernel_rfl) (enters_of Try.func53 (by kernel_rfl) rfl) (fun w hw => (hva w).mono (by rintro e w' ⟨rfl, hb'⟩; exact ⟨rfl, bel2 hw hb'⟩))
                · exact step_unOp rfl trivial _ _ _ _ rfl rfl (fun w hw => un_notB true w)
                · exact step_move rfl trivial _ rfl (by kernel_rfl)
                · exact step_move rfl (by exact ⟨_, rfl, by kernel_rfl⟩) _ rfl (by kernel_rfl)
                · exact step_binOp rfl (by exact ⟨_, rfl, by kernel_rfl⟩) _ _ _ _ _ _ _ rfl rfl rfl (fun w hw => (bin_gtr .i64 _ _).trans (by rw [decide_eq_false (by have := HL0.out; omega)]; rfl))
                · exact step_move rfl (by exact ⟨_, rfl, by kernel_rfl⟩) _ rfl (by kernel_rfl)
                · exact step_skip rfl 7 true 195 (.bool false) rfl rfl (by kernel_rfl) (by intro h; cases h) rfl
                · exact step_skip rfl 7 true 195 (.bool false) rfl rfl (by kernel_rfl) (by intro h; cases h) rfl
                · exact step_skip rfl 7 true 195 (.bool false) rfl rfl (by kernel_rfl) (by intro h; cases h) rfl
                · exact step_skip rfl 7 true 195 (.bool false) rfl rfl (by kernel_rfl) (by intro h; cases h) rfl
                · exact step_skip rfl 7 true 195 (.bool false) rfl rfl (by kernel_rfl) (by intro h; cases h) rfl
                · exact step_skip rfl 7 true 195 (.bool false) rfl rfl (by kernel_rfl) (by intro h; cases h) rfl
                · exact step_skip rfl 7 true 195 (.bool false) rfl rfl (by kernel_rfl) (by intro h; cases h) rfl
                · exact step_skip rfl 7 true 195 (.bool false) rfl rfl (by kernel_rfl) (by intro h; cases h) rfl
                · exact step_skip rfl 7 true 195 (.bool false) rfl rfl (by kernel_rfl) (by intro h; cases h) rfl
                · exact step_skip rfl 7 true 195 (.bool false) rfl rfl (by kernel_rfl) (by intro h; cases h) rfl
                · exact step_pick rfl (by exact ⟨_, rfl, by kernel_rfl⟩) _ _ _ false rfl (by kernel_rfl) (by kernel_rfl)
                · exact step_pick rfl trivial _ _ _ false rfl (by kernel_rfl) (by kernel_rfl)
              intro W hW
              first | refine hK _ _ ?_ | refine (‹∀ (a : Act) (w : World), Code.wp Try.prog _ _ a w → _›) _ _ ?_
              simp only [finL, List.getD_cons_zero, List.getD_cons_succ, Nat.zero_add, Nat.reduceAdd, List.setIfInBounds_toArray, List.set_cons_zero, List.set_cons_succ]
              have HS := hSW.below hW
              have HO := row_below hOW hW
              have hn2 := hnW.carry hW
              have n0 := hn2.c0
              have n1 := hn2.c1
              have n2 := hn2.c2
              obtain ⟨a0, a1, a2, a3, a4, a5, a6, a7⟩ := HS.a.cells
              obtain ⟨za0, za1, za2, za3, za4, za5, za6, za7⟩ := HS.a.thaw
              obtain ⟨d0, d1, d2, d3, d4, d5, d6, d7⟩ := HS.x.cells
              obtain ⟨z0, z1, z2, z3, z4, z5, z6, z7⟩ := HS.x.thaw
              have hSA := HS.a
              have hbW := HS.be
              have hsz2 := HS.sz
              obtain ⟨ic, hic, hz0, hz1, hz2⟩ := info_partsN
              clear hSW hOW hnW hva
              go_wp2_with (at_builtin; refine wpList_append_own_at _ rfl _ _ 39 rfl (w.heap.size + 2) 82 ic _ 3 24 Try.underlying39 hic hz0 hz1 hz2 rfl (by decide) _ L.length (fl L) rfl (World.ownsRow.alloc HO _) ⟨W.heap.size, 0, none⟩ 1 1 [.int .i64 (O : Int), .int .i64 (T : Int), .int .i64 (Q : Int)] rfl rfl (rowN _ #[_, _, _] _) (by simp [Value.oneCell']) (by unfold maxLen; omega) (by omega) (by simp; omega) ?_; intro v' u2 hown' hgrow _ _; have hbu : Below (w.heap.size + 2) W u2 := ((Below.refl _ W).alloc hsz2 _).grown hgrow (by simp; omega) (fun q e => own_block HO q e); have hSu := HS.lower hbu; obtain ⟨p0, p1, p2, p3, p4, p5, p6, p7⟩ := hSu.x.cells; obtain ⟨t0, t1, t2, t3, t4, t5, t6, t7⟩ := hSu.x.thaw; obtain ⟨a3x, c3x, hv3⟩ : ∃ a3 c3, v' = .slice a3 (L.length + 1) c3 := own_sl hown'; subst hv3)
              go_roundw
              case rel =>
                have hlen : (L ++ [((O : Int), ((T : Nat) : Int), (Q : Int))]).length = L.length + 1 := by simp
                refine ⟨L ++ [((O : Int), ((T : Nat) : Int), (Q : Int))], (O : Int), j + 5, a3x, c3x, by simp, by simp, by rw [hlen]; omega, by have := HJ.out; omega, ?_, ?_, ?_, ?_, ?_⟩
                · show j + 5 = _
                  have := HJ.out
                  rw [hlen]
                  omega
                · refine ⟨by omega, fun e => by simp at e, fun x hx => ?_⟩
                  simp at hx
                  rw [← hx]
                · show glu _ _ = R
                  rw [HF.out, hlen, show cnt - (L.length + 1) = m by have := HM.out; omega]
                · show World.ownsRow _ _ _ _ _ _ _
                  rw [hlen, fl_append]
                  exact ownsRow_setCell_below hown' (by simp) _
                · show SX _ _ _ _ _ _ _
                  rw [hlen]
                  exact hSu.set7 _
              case measure => simp [vnatW]; omega
            · obtain ⟨c, hc1⟩ : ∃ c, L.length = c + 1 := ⟨L.length - 1, by omega⟩
              obtain ⟨⟨xo, xt, xq⟩, hx1, hx2⟩ := last_get hc1
              have hAx : A = xo := HA.out.2.2 _ hx2
              have HC1 : Hid (L.length = c + 1) := hc1
              rcases own_form hOW with ⟨_, e2⟩ | ⟨ga, cq, e1, hga, _, _⟩
              · omega
              cases e1
              have hntV := nts_own hOW rfl
              clear hc1 hL0
              have hgaV := hol ga rfl
              have hgaW : ga < V.heap.size := own_lt hOW ga rfl
              by_cases hle : (O : Int) ≤ xo
              · have HE : Hid (rdE n bs = .error 75) := hgo false (by rw [hB, decide_eq_false (by omega)]; rfl) rfl
                clear HX hB hgo hcon
                go_wp2
                refine wp_region_any hmx ?_
                refine wpAny_pure (fun i__ => ([(.int .i64 (n : Int)), (nt O T Q), (.bool true), (.bool false), (.bool false), (.int .i64 (L.length : Int)), (.bool true), (.bool true), (.pointer (some ⟨g, 0, none⟩)), (.int .i64 (O : Int)), (.pointer (some ⟨w.heap.size + 1, 7, none⟩)), (.slice (some ⟨ga, 0, none⟩) L.length cp), (.int .i64 (L.length : Int)), (.int .i64 (c : Int)), (.pointer (some ⟨ga, 0 + c * 3, none⟩)), (.pointer (some ⟨ga, 0 + c * 3, none⟩)), (.int .i64 xo), (.bool true), (.bool true), (.bool true)] : List Value).getD i__ undef) (fun W' => Below V.heap.size V W') (by kernel_rfl) (Below.refl _ _).drew ?_ ?_
                · refine (stepsFrom_cons ?_ (stepsFrom_cons ?_ (stepsFrom_cons ?_ (stepsFrom_cons ?_ (stepsFrom_cons ?_ (stepsFrom_cons ?_ (stepsFrom_cons ?_ (stepsFrom_cons ?_ (stepsFrom_cons ?_ (stepsFrom_cons ?_ (stepsFrom_cons ?_ (stepsFrom_cons ?_ (stepsFrom_cons ?_ (stepsFrom_cons ?_ (stepsFrom_cons ?_ (stepsFrom_cons ?_ (stepsFrom_cons ?_ (stepsFrom_cons ?_ (stepsFrom_cons ?_ (stepsFrom_cons ?_ trivial))))))))))))))))))))
                  · exact step_move rfl trivial _ rfl (by kernel_rfl)
                  · exact step_load rfl trivial _ _ _ rfl rfl (fun w hw => load_ntb (hnW.carry hw))
                  · exact step_call rfl trivial 53 _ _ [(.int .i64 (n : Int)), (nt O T Q)] rfl (by kernel_rfl) (enters_of Try.func53 (by kernel_rfl) rfl) (fun w hw => (hva w).mono (by rintro e w' ⟨rfl, hb'⟩; exact ⟨rfl, bel2 hw hb'⟩))
                  · exact step_unOp rfl trivial _ _ _ _ rfl rfl (fun w hw => un_notB true w)
                  · exact step_move rfl trivial _ rfl (by kernel_rfl)
                  · exact step_move rfl (by exact ⟨_, rfl, by kernel_rfl⟩) _ rfl (by kernel_rfl)
                  · exact step_binOp rfl (by exact ⟨_, rfl, by kernel_rfl⟩) _ _ _ _ _ _ _ rfl rfl rfl (fun w hw => (bin_gtr .i64 _ _).trans (by rw [decide_eq_true (by have := HC1.out; omega)]; rfl))
                  · exact step_move rfl (by exact ⟨_, rfl, by kernel_rfl⟩) _ rfl (by kernel_rfl)
                  · exact step_fieldAddr rfl (by exact ⟨_, rfl, by kernel_rfl⟩) _ _ _ _ rfl rfl (fun w hw => fieldN0 g w)
                  · exact step_load rfl (by exact ⟨_, rfl, by kernel_rfl⟩) _ _ _ rfl rfl (fun w hw => load_i (hnW.carry hw).c0)
                  · exact step_fieldAddr rfl (by exact ⟨_, rfl, by kernel_rfl⟩) _ _ _ _ rfl rfl (fun w hw => field_rb _ w)
                  · exact step_load rfl (by exact ⟨_, rfl, by kernel_rfl⟩) _ _ _ rfl rfl (fun w hw => load_rb (hSW.below hw).x)
                  · exact step_move rfl (by exact ⟨_, rfl, by kernel_rfl⟩) _ rfl (by kernel_rfl)
                  · exact step_binOp rfl (by exact ⟨_, rfl, by kernel_rfl⟩) _ _ _ _ _ _ _ rfl rfl rfl (fun w hw => bin_sub64 _ _ _ (by have := HC1.out; rw [IntKind.wrap_i64]; omega))
                  · exact step_indexAddr rfl (by exact ⟨_, rfl, by kernel_rfl⟩) _ _ _ _ _ rfl rfl rfl (fun w hw => idx_n ga 0 L.length cp c (by have := HC1.out; omega) w)
                  · exact step_fieldAddr rfl (by exact ⟨_, rfl, by kernel_rfl⟩) _ _ _ _ rfl rfl (fun w hw => field_at w _ _)
                  · exact step_load rfl (by exact ⟨_, rfl, by kernel_rfl⟩) _ _ _ rfl rfl (fun w hw => load_of (hntV.carry hgaW hw) hx1)
                  · exact step_binOp rfl (by exact ⟨_, rfl, by kernel_rfl⟩) _ _ _ _ _ _ _ rfl rfl rfl (fun w hw => (bin_leq .i64 _ _).trans (by rw [decide_eq_true (by omega)]; rfl))
                  · exact step_pick rfl (by exact ⟨_, rfl, by kernel_rfl⟩) _ _ _ true rfl (by kernel_rfl) (by kernel_rfl)
                  · exact step_pick rfl trivial _ _ _ false rfl (by kernel_rfl) (by kernel_rfl)
                intro W hW
                first | refine hK _ _ ?_ | refine (‹∀ (a : Act) (w : World), Code.wp Try.prog _ _ a w → _›) _ _ ?_
                simp only [finL, List.getD_cons_zero, List.getD_cons_succ, Nat.zero_add, Nat.reduceAdd, List.setIfInBounds_toArray, List.set_cons_zero, List.set_cons_succ]
                have HS := hSW.below hW
                obtain ⟨a0, a1, a2, a3, a4, a5, a6, a7⟩ := HS.a.cells
                obtain ⟨za0, za1, za2, za3, za4, za5, za6, za7⟩ := HS.a.thaw
                obtain ⟨d0, d1, d2, d3, d4, d5, d6, d7⟩ := HS.x.cells
                obtain ⟨z0, z1, z2, z3, z4, z5, z6, z7⟩ := HS.x.thaw
                have hSA := HS.a
                have hbW := HS.be
                go_wp2
                exact read_end (b := w.heap.size) (N := M) rfl rfl rfl hSA (rro_err HE.out (by repeat' first | (with_reducible exact hbW) | (with_reducible refine Below.setCell (p := ⟨_, _, _⟩) ?_ (by simp) _)))
              · have HF := hcon (by omega)
                clear HX hB hgo hcon
                go_wp2
                refine wp_region_any hmx ?_
                refine wpAny_pure (fun i__ => ([(.int .i64 (n : Int)), (nt O T Q), (.bool true), (.bool false), (.bool false), (.int .i64 (L.length : Int)), (.bool true), (.bool true), (.pointer (some ⟨g, 0, none⟩)), (.int .i64 (O : Int)), (.pointer (some ⟨w.heap.size + 1, 7, none⟩)), (.slice (some ⟨ga, 0, none⟩) L.length cp), (.int .i64 (L.length : Int)), (.int .i64 (c : Int)), (.pointer (some ⟨ga, 0 + c * 3, none⟩)), (.pointer (some ⟨ga, 0 + c * 3, none⟩)), (.int .i64 xo), (.bool false), (.bool false), (.bool false)] : List Value).getD i__ undef) (fun W' => Below V.heap.size V W') (by kernel_rfl) (Below.refl _ _).drew ?_ ?_
                · refine (stepsFrom_cons ?_ (stepsFrom_cons ?_ (stepsFrom_cons ?_ (stepsFrom_cons ?_ (stepsFrom_cons ?_ (stepsFrom_cons ?_ (stepsFrom_cons ?_ (stepsFrom_cons ?_ (stepsFrom_cons ?_ (stepsFrom_cons ?_ (stepsFrom_cons ?_ (stepsFrom_cons ?_ (stepsFrom_cons ?_ (stepsFrom_cons ?_ (stepsFrom_cons ?_ (stepsFrom_cons ?_ (stepsFrom_cons ?_ (stepsFrom_cons ?_ (stepsFrom_cons ?_ (stepsFrom_cons ?_ trivial))))))))))))))))))))
                  · exact step_move rfl trivial _ rfl (by kernel_rfl)
                  · exact step_load rfl trivial _ _ _ rfl rfl (fun w hw => load_ntb (hnW.carry hw))
                  · exact step_call rfl trivial 53 _ _ [(.int .i64 (n : Int)), (nt O T Q)] rfl (by kernel_rfl) (enters_of Try.func53 (by kernel_rfl) rfl) (fun w hw => (hva w).mono (by rintro e w' ⟨rfl, hb'⟩; exact ⟨rfl, bel2 hw hb'⟩))
                  · exact step_unOp rfl trivial _ _ _ _ rfl rfl (fun w hw => un_notB true w)
                  · exact step_move rfl trivial _ rfl (by kernel_rfl)
                  · exact step_move rfl (by exact ⟨_, rfl, by kernel_rfl⟩) _ rfl (by kernel_rfl)
                  · exact step_binOp rfl (by exact ⟨_, rfl, by kernel_rfl⟩) _ _ _ _ _ _ _ rfl rfl rfl (fun w hw => (bin_gtr .i64 _ _).trans (by rw [decide_eq_true (by have := HC1.out; omega)]; rfl))
                  · exact step_move rfl (by exact ⟨_, rfl, by kernel_rfl⟩) _ rfl (by kernel_rfl)
                  · exact step_fieldAddr rfl (by exact ⟨_, rfl, by kernel_rfl⟩) _ _ _ _ rfl rfl (fun w hw => fieldN0 g w)
                  · exact step_load rfl (by exact ⟨_, rfl, by kernel_rfl⟩) _ _ _ rfl rfl (fun w hw => load_i (hnW.carry hw).c0)
                  · exact step_fieldAddr rfl (by exact ⟨_, rfl, by kernel_rfl⟩) _ _ _ _ rfl rfl (fun w hw => field_rb _ w)
                  · exact step_load rfl (by exact ⟨_, rfl, by kernel_rfl⟩) _ _ _ rfl rfl (fun w hw => load_rb (hSW.below hw).x)
                  · exact step_move rfl (by exact ⟨_, rfl, by kernel_rfl⟩) _ rfl (by kernel_rfl)
                  · exact step_binOp rfl (by exact ⟨_, rfl, by kernel_rfl⟩) _ _ _ _ _ _ _ rfl rfl rfl (fun w hw => bin_sub64 _ _ _ (by have := HC1.out; rw [IntKind.wrap_i64]; omega))
                  · exact step_indexAddr rfl (by exact ⟨_, rfl, by kernel_rfl⟩) _ _ _ _ _ rfl rfl rfl (fun w hw => idx_n ga 0 L.length cp c (by have := HC1.out; omega) w)
                  · exact step_fieldAddr rfl (by exact ⟨_, rfl, by kernel_rfl⟩) _ _ _ _ rfl rfl (fun w hw => field_at w _ _)
                  · exact step_load rfl (by exact ⟨_, rfl, by kernel_rfl⟩) _ _ _ rfl rfl (fun w hw => load_of (hntV.carry hgaW hw) hx1)
                  · exact step_binOp rfl (by exact ⟨_, rfl, by kernel_rfl⟩) _ _ _ _ _ _ _ rfl rfl rfl (fun w hw => (bin_leq .i64 _ _).trans (by rw [decide_eq_false (by omega)]; rfl))
                  · exact step_pick rfl (by exact ⟨_, rfl, by kernel_rfl⟩) _ _ _ true rfl (by kernel_rfl) (by kernel_rfl)
                  · exact step_pick rfl trivial _ _ _ false rfl (by kernel_rfl) (by kernel_rfl)
                intro W hW
                first | refine hK _ _ ?_ | refine (‹∀ (a : Act) (w : World), Code.wp Try.prog _ _ a w → _›) _ _ ?_
                simp only [finL, List.getD_cons_zero, List.getD_cons_succ, Nat.zero_add, Nat.reduceAdd, List.setIfInBounds_toArray, List.set_cons_zero, List.set_cons_succ]
                have HS := hSW.below hW
                have HO := row_below hOW hW
                have hn2 := hnW.carry hW
                have n0 := hn2.c0
                have n1 := hn2.c1
                have n2 := hn2.c2
                obtain ⟨a0, a1, a2, a3, a4, a5, a6, a7⟩ := HS.a.cells
                obtain ⟨za0, za1, za2, za3, za4, za5, za6, za7⟩ := HS.a.thaw
                obtain ⟨d0, d1, d2, d3, d4, d5, d6, d7⟩ := HS.x.cells
                obtain ⟨z0, z1, z2, z3, z4, z5, z6, z7⟩ := HS.x.thaw
                have hSA := HS.a
                have hbW := HS.be
                have hsz2 := HS.sz
                obtain ⟨ic, hic, hz0, hz1, hz2⟩ := info_partsN
                clear hSW hOW hnW hva
                go_wp2_with (at_builtin; refine wpList_append_own_at _ rfl _ _ 39 rfl (w.heap.size + 2) 82 ic _ 3 24 Try.underlying39 hic hz0 hz1 hz2 rfl (by decide) _ L.length (fl L) rfl (World.ownsRow.alloc HO _) ⟨W.heap.size, 0, none⟩ 1 1 [.int .i64 (O : Int), .int .i64 (T : Int), .int .i64 (Q : Int)] rfl rfl (rowN _ #[_, _, _] _) (by simp [Value.oneCell']) (by unfold maxLen; omega) (by omega) (by simp; omega) ?_; intro v' u2 hown' hgrow _ _; have hbu : Below (w.heap.size + 2) W u2 := ((Below.refl _ W).alloc hsz2 _).grown hgrow (by simp; omega) (fun q e => own_block HO q e); have hSu := HS.lower hbu; obtain ⟨p0, p1, p2, p3, p4, p5, p6, p7⟩ := hSu.x.cells; obtain ⟨t0, t1, t2, t3, t4, t5, t6, t7⟩ := hSu.x.thaw; obtain ⟨a3x, c3x, hv3⟩ : ∃ a3 c3, v' = .slice a3 (L.length + 1) c3 := own_sl hown'; subst hv3)
                go_roundw
                case rel =>
                  have hlen : (L ++ [((O : Int), ((T : Nat) : Int), (Q : Int))]).length = L.length + 1 := by simp
                  refine ⟨L ++ [((O : Int), ((T : Nat) : Int), (Q : Int))], (O : Int), j + 5, a3x, c3x, by simp, by simp, by rw [hlen]; omega, by have := HJ.out; omega, ?_, ?_, ?_, ?_, ?_⟩
                  · show j + 5 = _
                    have := HJ.out
                    rw [hlen]
                    omega
                  · refine ⟨by omega, fun e => by simp at e, fun x hx => ?_⟩
                    simp at hx
                    rw [← hx]
                  · show glu _ _ = R
                    rw [HF.out, hlen, show cnt - (L.length + 1) = m by have := HM.out; omega]
                  · show World.ownsRow _ _ _ _ _ _ _
                    rw [hlen, fl_append]
                    exact ownsRow_setCell_below hown' (by simp) _
                  · show SX _ _ _ _ _ _ _
                    rw [hlen]
                    exact hSu.set7 _
                case measure => simp [vnatW]; omega
        · have hkk : L.length = cnt := by omega
          have hki : ¬ (L.length : Int) < (cnt : Int) := by omega
          have HE0 : Hid (rdE n bs = endW bs 2 y rd M (.ok (L, j))) := by
            have := HK.out
            rw [hkk, Nat.sub_self, rdK, glu, List.append_nil] at this
            exact HW.out.trans (by rw [← this])
          clear HK HW hkk
          by_cases t1 : bs.length < j + 4
          · have HE : Hid (rdE n bs = .error 76) := HE0.out.trans (if_pos t1)
            have t1i : (bs.length : Int) < (j : Int) + 4 := by omega
            go_wp2
            exact read_end (b := w.heap.size) (N := M) rfl rfl rfl hSA (rro_err HE.out (by repeat' first | (with_reducible exact hbW) | (with_reducible refine Below.setCell (p := ⟨_, _, _⟩) ?_ (by simp) _)))
          have t1i : ¬ (bs.length : Int) < (j : Int) + 4 := by omega
          obtain ⟨b', o', e', hbV, hat⟩ := hrW (fun e => by subst e; simp at e0)
          cases e'
          have hnu : ∀ (a : Addr) (c : Nat) (W : World), RdB W (some a) ((bs.drop j).take 4) → Calls Try.prog 65 #[.slice (some a) 4 c] W fun e w' => e = .returned (.int .i64 (nm bs j 4 : Nat)) ∧ w' = W := fun a c W hr2 => by
            have := value_any (some a) c ((bs.drop j).take 4) W hr2 ((hb.drop _).take _) (by rw [sub_len (by omega)]; decide)
            rw [sub_len (by omega)] at this
            exact this
          have hsu : ∀ (a : Addr) (c : Nat) (W : World), RdB W (some a) (bs.take j) → Calls Try.prog 42 #[.slice (some a) j c] W fun e w' => e = .returned (.int .i64 (sumV (bs.take j) : Nat)) ∧ w' = W := fun a c W hr2 => by
            have hlj : (bs.take j).length = j := by rw [List.length_take]; omega
            have := rSum_any (some a) c (bs.take j) W hr2 (hb.take _) (by rw [hlj]; omega)
            rw [hlj] at this
            exact this
          have hat4 := hat.sub j 4
          have hatj := hat.sub 0 j
          simp only [List.drop_zero, Nat.add_zero] at hatj
          have HEc : Hid (∀ P Q, nm bs j 4 = P → sumV (bs.take j) = Q → rdE n bs = if P ≠ Q then .error 77 else if j + 4 < bs.length then .error 2 else .ok (2, y, rd, M, L)) := by
            rintro P Q rfl rfl
            exact HE0.out.trans (if_neg t1)
          generalize nm bs j 4 = P at *
          generalize sumV (bs.take j) = SV at *
          obtain ⟨V, hVW⟩ : ∃ V, V = wr := ⟨_, rfl⟩
          subst hVW
          by_cases t2 : P = SV
          case neg =>
            have HE : Hid (rdE n bs = .error 77) := (HEc.out P SV rfl rfl).trans (if_pos t2)
            clear HE0 HEc
            go_wp2
            refine wp_region_any hmx ?_
            refine wpAny_pure (fun i__ => ([(.slice (some ⟨g', off', none⟩) bs.length cap), (.int .i64 (j : Int)), (.int .i64 (j : Int)), (.int .i64 ((j + 4 : Nat) : Int)), (.slice (some ⟨g', off' + j, none⟩) 4 (cap - j)), (.int .i64 (P : Int)), (.slice (some ⟨g', off', none⟩) bs.length cap), (.int .i64 (j : Int)), (.slice (some ⟨g', off', none⟩) j cap), (.int .i64 (SV : Int)), (.bool true)] : List Value).getD i__ undef) (fun W' => Below V.heap.size V W') (by kernel_rfl) (Below.refl _ _).drew ?_ ?_
            · refine (stepsFrom_cons ?_ (stepsFrom_cons ?_ (stepsFrom_cons ?_ (stepsFrom_cons ?_ (stepsFrom_cons ?_ (stepsFrom_cons ?_ (stepsFrom_cons ?_ (stepsFrom_cons ?_ (stepsFrom_cons ?_ (stepsFrom_cons ?_ (stepsFrom_cons ?_ trivial)))))))))))
              · exact step_move rfl trivial _ rfl (by kernel_rfl)
              · exact step_move rfl trivial _ rfl (by kernel_rfl)
              · exact step_move rfl trivial _ rfl (by kernel_rfl)
              · exact step_binOp rfl trivial _ _ _ _ _ _ _ rfl rfl rfl (fun w hw => bin_add64 _ _ _ (by rw [IntKind.wrap_i64]; omega))
              · exact step_slice rfl trivial _ _ _ _ _ (some (.int .i64 (j : Int))) (some (.int .i64 ((j + 4 : Nat) : Int))) rfl rfl rfl rfl (fun w hw => (slice_at g' off' bs.length cap j (j + 4) (by omega) (by omega) w).trans (by rw [show j + 4 - j = 4 by omega]; rfl))
              · exact step_call rfl trivial 65 _ _ [(.slice (some ⟨g', off' + j, none⟩) 4 (cap - j))] rfl (by kernel_rfl) (enters_of Try.func65 (by kernel_rfl) rfl) (fun w hw => (hnu _ _ w (fun _ => ⟨g', off' + j, rfl, Nat.lt_of_lt_of_le hbV hw.size, hat4.carry (hw.block g' hbV)⟩)).mono (by rintro e w' ⟨rfl, rfl⟩; exact ⟨rfl, hw⟩))
              · exact step_move rfl trivial _ rfl (by kernel_rfl)
              · exact step_move rfl trivial _ rfl (by kernel_rfl)
              · exact step_slice rfl trivial _ _ _ _ _ none (some (.int .i64 (j : Int))) rfl rfl rfl rfl (fun w hw => slice_to g' off' bs.length cap j (by omega) w)
              · exact step_call rfl trivial 42 _ _ [(.slice (some ⟨g', off', none⟩) j cap)] rfl (by kernel_rfl) (enters_of Try.func42 (by kernel_rfl) rfl) (fun w hw => (hsu _ _ w (fun _ => ⟨g', off', rfl, Nat.lt_of_lt_of_le hbV hw.size, hatj.carry (hw.block g' hbV)⟩)).mono (by rintro e w' ⟨rfl, rfl⟩; exact ⟨rfl, hw⟩))
              · exact step_binOp rfl trivial _ _ _ _ _ _ _ rfl rfl rfl (fun w hw => (bin_neq .i64 _ _).trans (by simp; omega))
            intro W hW
            first | refine hK _ _ ?_ | refine (‹∀ (a : Act) (w : World), Code.wp Try.prog _ _ a w → _›) _ _ ?_
            simp only [finL, List.getD_cons_zero, List.getD_cons_succ, Nat.zero_add, Nat.reduceAdd, List.setIfInBounds_toArray, List.set_cons_zero, List.set_cons_succ]
            have HS := HS.below hW
            clear a0 a1 a2 a3 a4 a5 a6 a7 za0 za1 za2 za3 za4 za5 za6 za7 d0 d1 d2 d3 d4 d5 d6 d7 z0 z1 z2 z3 z4 z5 z6 z7 hSA hbW
            obtain ⟨a0, a1, a2, a3, a4, a5, a6, a7⟩ := HS.a.cells
            obtain ⟨za0, za1, za2, za3, za4, za5, za6, za7⟩ := HS.a.thaw
            obtain ⟨d0, d1, d2, d3, d4, d5, d6, d7⟩ := HS.x.cells
            obtain ⟨z0, z1, z2, z3, z4, z5, z6, z7⟩ := HS.x.thaw
            have hSA := HS.a
            have hbW := HS.be
            go_wp2
            exact read_end (b := w.heap.size) (N := M) rfl rfl rfl hSA (rro_err HE.out (by repeat' first | (with_reducible exact hbW) | (with_reducible refine Below.setCell (p := ⟨_, _, _⟩) ?_ (by simp) _)))
          have HEd : Hid (rdE n bs = if j + 4 < bs.length then .error 2 else .ok (2, y, rd, M, L)) := (HEc.out P SV rfl rfl).trans (if_neg (by simpa using t2))
          clear HE0 HEc
          by_cases t3 : j + 4 < bs.length
          · have HE : Hid (rdE n bs = .error 2) := HEd.out.trans (if_pos t3)
            have t3i : (j : Int) + 4 < (bs.length : Int) := by omega
            clear HEd
            go_wp2
            refine wp_region_any hmx ?_
            refine wpAny_pure (fun i__ => ([(.slice (some ⟨g', off', none⟩) bs.length cap), (.int .i64 (j : Int)), (.int .i64 (j : Int)), (.int .i64 ((j + 4 : Nat) : Int)), (.slice (some ⟨g', off' + j, none⟩) 4 (cap - j)), (.int .i64 (P : Int)), (.slice (some ⟨g', off', none⟩) bs.length cap), (.int .i64 (j : Int)), (.slice (some ⟨g', off', none⟩) j cap), (.int .i64 (SV : Int)), (.bool false)] : List Value).getD i__ undef) (fun W' => Below V.heap.size V W') (by kernel_rfl) (Below.refl _ _).drew ?_ ?_
            · refine (stepsFrom_cons ?_ (stepsFrom_cons ?_ (stepsFrom_cons ?_ (stepsFrom_cons ?_ (stepsFrom_cons ?_ (stepsFrom_cons ?_ (stepsFrom_cons ?_ (stepsFrom_cons ?_ (stepsFrom_cons ?_ (stepsFrom_cons ?_ (stepsFrom_cons ?_ trivial)))))))))))
              · exact step_move rfl trivial _ rfl (by kernel_rfl)
              · exact step_move rfl trivial _ rfl (by kernel_rfl)
              · exact step_move rfl trivial _ rfl (by kernel_rfl)
              · exact step_binOp rfl trivial _ _ _ _ _ _ _ rfl rfl rfl (fun w hw => bin_add64 _ _ _ (by rw [IntKind.wrap_i64]; omega))
              · exact step_slice rfl trivial _ _ _ _ _ (some (.int .i64 (j : Int))) (some (.int .i64 ((j + 4 : Nat) : Int))) rfl rfl rfl rfl (fun w hw => (slice_at g' off' bs.length cap j (j + 4) (by omega) (by omega) w).trans (by rw [show j + 4 - j = 4 by omega]; rfl))
              · exact step_call rfl trivial 65 _ _ [(.slice (some ⟨g', off' + j, none⟩) 4 (cap - j))] rfl (by kernel_rfl) (enters_of Try.func65 (by kernel_rfl) rfl) (fun w hw => (hnu _ _ w (fun _ => ⟨g', off' + j, rfl, Nat.lt_of_lt_of_le hbV hw.size, hat4.carry (hw.block g' hbV)⟩)).mono (by rintro e w' ⟨rfl, rfl⟩; exact ⟨rfl, hw⟩))
              · exact step_move rfl trivial _ rfl (by kernel_rfl)
              · exact step_move rfl trivial _ rfl (by kernel_rfl)
              · exact step_slice rfl trivial _ _ _ _ _ none (some (.int .i64 (j : Int))) rfl rfl rfl rfl (fun w hw => slice_to g' off' bs.length cap j (by omega) w)
              · exact step_call rfl trivial 42 _ _ [(.slice (some ⟨g', off', none⟩) j cap)] rfl (by kernel_rfl) (enters_of Try.func42 (by kernel_rfl) rfl) (fun w hw => (hsu _ _ w (fun _ => ⟨g', off', rfl, Nat.lt_of_lt_of_le hbV hw.size, hatj.carry (hw.block g' hbV)⟩)).mono (by rintro e w' ⟨rfl, rfl⟩; exact ⟨rfl, hw⟩))
              · exact step_binOp rfl trivial _ _ _ _ _ _ _ rfl rfl rfl (fun w hw => (bin_neq .i64 _ _).trans (by simp [t2]))
            intro W hW
            first | refine hK _ _ ?_ | refine (‹∀ (a : Act) (w : World), Code.wp Try.prog _ _ a w → _›) _ _ ?_
            simp only [finL, List.getD_cons_zero, List.getD_cons_succ, Nat.zero_add, Nat.reduceAdd, List.setIfInBounds_toArray, List.set_cons_zero, List.set_cons_succ]
            have HS := HS.below hW
            clear a0 a1 a2 a3 a4 a5 a6 a7 za0 za1 za2 za3 za4 za5 za6 za7 d0 d1 d2 d3 d4 d5 d6 d7 z0 z1 z2 z3 z4 z5 z6 z7 hSA hbW
            obtain ⟨a0, a1, a2, a3, a4, a5, a6, a7⟩ := HS.a.cells
            obtain ⟨za0, za1, za2, za3, za4, za5, za6, za7⟩ := HS.a.thaw
            obtain ⟨d0, d1, d2, d3, d4, d5, d6, d7⟩ := HS.x.cells
            obtain ⟨z0, z1, z2, z3, z4, z5, z6, z7⟩ := HS.x.thaw
            have hSA := HS.a
            have hbW := HS.be
            go_wp2
            exact read_end (b := w.heap.size) (N := M) rfl rfl rfl hSA (rro_err HE.out (by repeat' first | (with_reducible exact hbW) | (with_reducible refine Below.setCell (p := ⟨_, _, _⟩) ?_ (by simp) _)))
          have HE : Hid (rdE n bs = .ok (2, y, rd, M, L)) := HEd.out.trans (if_neg t3)
          have t3i : ¬ (j : Int) + 4 < (bs.length : Int) := by omega
          clear HEd
          go_wp2
          refine wp_region_any hmx ?_
          refine wpAny_pure (fun i__ => ([(.slice (some ⟨g', off', none⟩) bs.length cap), (.int .i64 (j : Int)), (.int .i64 (j : Int)), (.int .i64 ((j + 4 : Nat) : Int)), (.slice (some ⟨g', off' + j, none⟩) 4 (cap - j)), (.int .i64 (P : Int)), (.slice (some ⟨g', off', none⟩) bs.length cap), (.int .i64 (j : Int)), (.slice (some ⟨g', off', none⟩) j cap), (.int .i64 (SV : Int)), (.bool false)] : List Value).getD i__ undef) (fun W' => Below V.heap.size V W') (by kernel_rfl) (Below.refl _ _).drew ?_ ?_
          · refine (stepsFrom_cons ?_ (stepsFrom_cons ?_ (stepsFrom_cons ?_ (stepsFrom_cons ?_ (stepsFrom_cons ?_ (stepsFrom_cons ?_ (stepsFrom_cons ?_ (stepsFrom_cons ?_ (stepsFrom_cons ?_ (stepsFrom_cons ?_ (stepsFrom_cons ?_ trivial)))))))))))
            · exact step_move rfl trivial _ rfl (by kernel_rfl)
            · exact step_move rfl trivial _ rfl (by kernel_rfl)
            · exact step_move rfl trivial _ rfl (by kernel_rfl)
            · exact step_binOp rfl trivial _ _ _ _ _ _ _ rfl rfl rfl (fun w hw => bin_add64 _ _ _ (by rw [IntKind.wrap_i64]; omega))
            · exact step_slice rfl trivial _ _ _ _ _ (some (.int .i64 (j : Int))) (some (.int .i64 ((j + 4 : Nat) : Int))) rfl rfl rfl rfl (fun w hw => (slice_at g' off' bs.length cap j (j + 4) (by omega) (by omega) w).trans (by rw [show j + 4 - j = 4 by omega]; rfl))
            · exact step_call rfl trivial 65 _ _ [(.slice (some ⟨g', off' + j, none⟩) 4 (cap - j))] rfl (by kernel_rfl) (enters_of Try.func65 (by kernel_rfl) rfl) (fun w hw => (hnu _ _ w (fun _ => ⟨g', off' + j, rfl, Nat.lt_of_lt_of_le hbV hw.size, hat4.carry (hw.block g' hbV)⟩)).mono (by rintro e w' ⟨rfl, rfl⟩; exact ⟨rfl, hw⟩))
            · exact step_move rfl trivial _ rfl (by kernel_rfl)
            · exact step_move rfl trivial _ rfl (by kernel_rfl)
            · exact step_slice rfl trivial _ _ _ _ _ none (some (.int .i64 (j : Int))) rfl rfl rfl rfl (fun w hw => slice_to g' off' bs.length cap j (by omega) w)
            · exact step_call rfl trivial 42 _ _ [(.slice (some ⟨g', off', none⟩) j cap)] rfl (by kernel_rfl) (enters_of Try.func42 (by kernel_rfl) rfl) (fun w hw => (hsu _ _ w (fun _ => ⟨g', off', rfl, Nat.lt_of_lt_of_le hbV hw.size, hatj.carry (hw.block g' hbV)⟩)).mono (by rintro e w' ⟨rfl, rfl⟩; exact ⟨rfl, hw⟩))
            · exact step_binOp rfl trivial _ _ _ _ _ _ _ rfl rfl rfl (fun w hw => (bin_neq .i64 _ _).trans (by simp [t2]))
          intro W hW
          first | refine hK _ _ ?_ | refine (‹∀ (a : Act) (w : World), Code.wp Try.prog _ _ a w → _›) _ _ ?_
          simp only [finL, List.getD_cons_zero, List.getD_cons_succ, Nat.zero_add, Nat.reduceAdd, List.setIfInBounds_toArray, List.set_cons_zero, List.set_cons_succ]
          have HS := HS.below hW
          have HO := row_below HO hW
          clear a0 a1 a2 a3 a4 a5 a6 a7 za0 za1 za2 za3 za4 za5 za6 za7 d0 d1 d2 d3 d4 d5 d6 d7 z0 z1 z2 z3 z4 z5 z6 z7 hSA hbW
          obtain ⟨a0, a1, a2, a3, a4, a5, a6, a7⟩ := HS.a.cells
          obtain ⟨za0, za1, za2, za3, za4, za5, za6, za7⟩ := HS.a.thaw
          obtain ⟨d0, d1, d2, d3, d4, d5, d6, d7⟩ := HS.x.cells
          obtain ⟨z0, z1, z2, z3, z4, z5, z6, z7⟩ := HS.x.thaw
          have hSA := HS.a
          have hbW := HS.be
          go_wp2
          exact read_end (b := w.heap.size) (N := M) rfl rfl rfl hSA (rro_ok HE.out (ownsRow_base (ownsRow_setCell_below (ownsRow_setCell_below (ownsRow_setCell_below (ownsRow_setCell_below (ownsRow_setCell_below (ownsRow_setCell_below (ownsRow_setCell_below (ownsRow_setCell_below HO (by simp) _) (by simp) _) (by simp) _) (by simp) _) (by simp) _) (by simp) _) (by simp) _) (by simp) _) (by omega)) (by repeat' first | (with_reducible exact hbW) | (with_reducible refine Below.setCell (p := ⟨_, _, _⟩) ?_ (by simp) _)))
end Go.Proofs.Ytndogopllcpiiaa
namespace Go.Proofs.Ytndogopllcpiiaa
open Go.RowKit Go.Shelf

theorem rread_any (ad : Option Addr) (cap : Nat) (bs : List Nat) (n : Nat) (w : World) (h : RdB w ad bs) (hb : Byt bs) (hl : bs.length ≤ 1024) (hc : bs.length ≤ cap) (hn : 1 ≤ n ∧ n ≤ 100) : Calls Try.prog 48 #[.slice ad bs.length cap, .int .i64 (n : Int)] w (RrO n bs w) := by
  refine rr_head ad cap bs n w h hb hl hc hn (fun kd y hk hy e0 e1 e2 e3 e4 => ?_)
  rcases (show kd = 1 ∨ kd = 2 ∨ kd = 3 by omega) with rfl | rfl | rfl
  · exact rr1 ad cap bs n w h hb hl hc hn y hy e0 e1 e2 e3 e4
  · exact rr2 ad cap bs n w h hb hl hc hn y hy e0 e1 e2 e3 e4
  · exact rr3 ad cap bs n w h hb hl hc hn y hy e0 e1 e2 e3 e4
/-- What the document's Decode answers. -/
def RdO (n : Int) (bs : List Nat) (w : World) (e : Ending) (w' : World) : Prop :=
  match dec n bs with
  | .error er => e = .returned (.tuple #[rnv 0 0 0 0 (.slice none 0 0), .int .i64 er]) ∧ Below w.heap.size w w'
  | .ok (kd, fr, rd, N, l) => ∃ a c, e = .returned (.tuple #[rnv (kd : Int) (fr : Int) (rd : Int) N (.slice a l.length c), .int .i64 0]) ∧ w'.ownsRow w.heap.size 82 3 (.slice a l.length c) l.length (fl l) ∧ Below w.heap.size w w'
theorem rdo_err {n : Int} {bs : List Nat} {w w' : World} {er : Int} (h : dec n bs = .error er) (hb : Below w.heap.size w w') : RdO n bs w (.returned (.tuple #[rnv 0 0 0 0 (.slice none 0 0), .int .i64 er])) w' := by
  unfold RdO
  rw [h]
  exact ⟨rfl, hb⟩
theorem decode_end {R : Ending → World → Prop} {a : Act} {W : World} {b : Nat} {k f r er : Int} {N : Nat} {v : Value} (h4 : a.tmps[4]?.getD undef = .pointer (some ⟨b, 0, none⟩)) (h5 : a.tmps[5]?.getD undef = .int .i64 er) (hd : a.defers = []) (hA : RB W b k f r N v) (hR : R (.returned (.tuple #[rnv k f r N v, .int .i64 er])) W) : bodyPost Try.prog Try.f24 R .ret a W := by
  obtain ⟨c0, c1, c2, c3, c4, c5, c6, c7⟩ := hA.cells
  refine bodyPost_ret (v := .tuple #[rnv k f r N v, .int .i64 er]) ?_ hd hR
  simp [results, Try.results24, go_sem, h4, h5, c0, c1, c2, c3, c4, c5, c6, c7, rnv]
theorem RB.z8 {W : World} {b : Nat} {k f r : Int} {N : Nat} {v : Value} (h : RB W b k f r N v) : RB ((((((((W.setCell ⟨b, 0, none⟩ (.int .i64 0)).setCell ⟨b, 1, none⟩ (.int .i64 0)).setCell ⟨b, 2, none⟩ (.int .i64 0)).setCell ⟨b, 3, none⟩ (.int .u32 0)).setCell ⟨b, 4, none⟩ (.int .u32 0)).setCell ⟨b, 5, none⟩ (.int .u32 0)).setCell ⟨b, 6, none⟩ (.int .u32 0)).setCell ⟨b, 7, none⟩ (.slice none 0 0)) b 0 0 0 0 (.slice none 0 0) :=
  (set_get 7 _ (set_get 6 _ (set_get 5 _ (set_get 4 _ (set_get 3 _ (set_get 2 _ (set_get 1 _ (set_get 0 _ h)))))))).trans (by simp [wd_z])
theorem RB.g8 {W : World} {b : Nat} {k f r : Int} {N : Nat} {v : Value} (h : RB W b k f r N v) (k' f' r' : Int) (N' : Nat) (v' : Value) : RB ((((((((W.setCell ⟨b, 0, none⟩ (.int .i64 k')).setCell ⟨b, 1, none⟩ (.int .i64 f')).setCell ⟨b, 2, none⟩ (.int .i64 r')).setCell ⟨b, 3, none⟩ (.int .u32 (wd N' 0 : Nat))).setCell ⟨b, 4, none⟩ (.int .u32 (wd N' 1 : Nat))).setCell ⟨b, 5, none⟩ (.int .u32 (wd N' 2 : Nat))).setCell ⟨b, 6, none⟩ (.int .u32 (wd N' 3 : Nat))).setCell ⟨b, 7, none⟩ v') b k' f' r' N' v' :=
  (set_get 7 _ (set_get 6 _ (set_get 5 _ (set_get 4 _ (set_get 3 _ (set_get 2 _ (set_get 1 _ (set_get 0 _ h)))))))).trans (by simp)
set_option maxHeartbeats 4000000 in
set_option maxRecDepth 100000 in
theorem rdecode_any (ad : Option Addr) (cap : Nat) (bs : List Nat) (n : Int) (w : World) (h : RdB w ad bs) (hb : Byt bs) (hc : bs.length ≤ cap) : Calls Try.prog 24 #[.slice ad bs.length cap, .int .i64 n] w (RdO n bs w) := by
  have hb0 := al1' w (.cells #[.int .i64 0, .int .i64 0, .int .i64 0, .int .u32 0, .int .u32 0, .int .u32 0, .int .u32 0, .slice none 0 0] 41)
  have hB : RB (w.alloc (.cells #[.int .i64 0, .int .i64 0, .int .i64 0, .int .u32 0, .int .u32 0, .int .u32 0, .int .u32 0, .slice none 0 0] 41)) w.heap.size 0 0 0 0 (.slice none 0 0) := (new_at rfl).trans (by simp [wd_z])
  have hrW := h.carry hb0
  obtain ⟨W0, hW0⟩ : ∃ W0, w.alloc (.cells #[.int .i64 0, .int .i64 0, .int .i64 0, .int .u32 0, .int .u32 0, .int .u32 0, .int .u32 0, .slice none 0 0] 41) = W0 := ⟨_, rfl⟩
  rw [hW0] at hb0 hB hrW
  obtain ⟨a0, a1, a2, a3, a4, a5, a6, a7⟩ := hB.cells
  obtain ⟨za0, za1, za2, za3, za4, za5, za6, za7⟩ := hB.thaw
  by_cases g1 : n < 1
  · have HE : Hid (dec n bs = .error 1) := if_pos (by omega)
    go_enter Try.func24, Try.ntmps24
    go_wp2
    exact decode_end rfl rfl rfl hB.z8 (rdo_err HE.out (by repeat' first | (with_reducible exact hb0) | (with_reducible refine Below.setCell (p := ⟨_, _, _⟩) ?_ (by simp) _)))
  by_cases g2 : 100 < n
  · have HE : Hid (dec n bs = .error 1) := if_pos (by omega)
    go_enter Try.func24, Try.ntmps24
    go_wp2
    exact decode_end rfl rfl rfl hB.z8 (rdo_err HE.out (by repeat' first | (with_reducible exact hb0) | (with_reducible refine Below.setCell (p := ⟨_, _, _⟩) ?_ (by simp) _)))
  by_cases g3 : 1024 < bs.length
  · have HE : Hid (dec n bs = .error 2) := (if_neg (by omega)).trans (if_pos g3)
    have g3i : (1024 : Int) < (bs.length : Int) := by omega
    go_enter Try.func24, Try.ntmps24
    go_wp2
    exact decode_end rfl rfl rfl hB.z8 (rdo_err HE.out (by repeat' first | (with_reducible exact hb0) | (with_reducible refine Below.setCell (p := ⟨_, _, _⟩) ?_ (by simp) _)))
  have g3i : ¬ (1024 : Int) < (bs.length : Int) := by omega
  obtain ⟨n, rfl⟩ := Int.eq_ofNat_of_zero_le (show 0 ≤ n by omega)
  have HD : Hid (dec (n : Int) bs = rdE n bs) := (if_neg (by omega)).trans ((if_neg g3).trans (by rw [Int.toNat_natCast]))
  have hrd := rread_any ad cap bs n W0 hrW hb (by omega) hc (by omega)
  unfold RrO at hrd
  cases hE : rdE n bs with
  | error er =>
    rw [hE] at hrd
    have HE : Hid (dec (n : Int) bs = .error er) := HD.out.trans hE
    have her : (er != 0) = true := by simpa using dec_err HE.out
    have hrd2 : Calls Try.prog 48 #[.slice ad bs.length cap, .int .i64 (n : Int)] W0 fun e w' => ∃ k f r N a m c, e = .returned (.tuple #[.agg #[.int .i64 k, .int .i64 f, .int .i64 r, .int .u32 (wd N 0 : Nat), .int .u32 (wd N 1 : Nat), .int .u32 (wd N 2 : Nat), .int .u32 (wd N 3 : Nat), .slice a m c], .int .i64 er]) ∧ Below W0.heap.size W0 w' := hrd.mono (by
      rintro e w' ⟨⟨k, f, r, N, a, m, c, rfl⟩, hb'⟩
      exact ⟨k, f, r, N, a, m, c, rfl, hb'⟩)
    clear hrd hE HD
    go_enter Try.func24, Try.ntmps24
    go_wp2_with (go_at_call 48; (with_reducible refine hrd2.mono ?_); rintro e u1 ⟨k, f, r, N, a, m, c, rfl, hb1⟩; have hb2 := bel2 hb1 (al1' u1 (.cells #[.int .i64 k, .int .i64 f, .int .i64 r, .int .u32 (wd N 0 : Nat), .int .u32 (wd N 1 : Nat), .int .u32 (wd N 2 : Nat), .int .u32 (wd N 3 : Nat), .slice a m c] 41)); have hB2 := hB.below hb2; have hbU := bel2 hb0 hb2; obtain ⟨c0, c1, c2, c3, c4, c5, c6, c7⟩ := hB2.cells; obtain ⟨zc0, zc1, zc2, zc3, zc4, zc5, zc6, zc7⟩ := hB2.thaw)
    exact decode_end rfl rfl rfl hB2.z8 (rdo_err HE.out (by repeat' first | (with_reducible exact hbU) | (with_reducible refine Below.setCell (p := ⟨_, _, _⟩) ?_ (by simp) _)))
  | ok q =>
    obtain ⟨kd, fr, rd, N, l⟩ := q
    rw [hE] at hrd
    have HE : Hid (dec (n : Int) bs = .ok (kd, fr, rd, N, l)) := HD.out.trans hE
    have hrd2 : Calls Try.prog 48 #[.slice ad bs.length cap, .int .i64 (n : Int)] W0 fun e w' => ∃ a c, e = .returned (.tuple #[.agg #[.int .i64 (kd : Int), .int .i64 (fr : Int), .int .i64 (rd : Int), .int .u32 (wd N 0 : Nat), .int .u32 (wd N 1 : Nat), .int .u32 (wd N 2 : Nat), .int .u32 (wd N 3 : Nat), .slice a l.length c], .int .i64 0]) ∧ w'.ownsRow W0.heap.size 82 3 (.slice a l.length c) l.length (fl l) ∧ Below W0.heap.size W0 w' := hrd
    have hW0l := lt_at hB
    clear hrd hE HD
    go_enter Try.func24, Try.ntmps24
    go_wp2_with (go_at_call 48; (with_reducible refine hrd2.mono ?_); rintro e u1 ⟨a, c, rfl, ho, hb1⟩; have hbz := al1' u1 (.cells #[.int .i64 (kd : Int), .int .i64 (fr : Int), .int .i64 (rd : Int), .int .u32 (wd N 0 : Nat), .int .u32 (wd N 1 : Nat), .int .u32 (wd N 2 : Nat), .int .u32 (wd N 3 : Nat), .slice a l.length c] 41); have hb2 := bel2 hb1 hbz; have ho2 := row_below ho hbz; have hB2 := hB.below hb2; have hbU := bel2 hb0 hb2; obtain ⟨c0, c1, c2, c3, c4, c5, c6, c7⟩ := hB2.cells; obtain ⟨zc0, zc1, zc2, zc3, zc4, zc5, zc6, zc7⟩ := hB2.thaw)
    refine decode_end rfl rfl rfl (hB2.g8 (kd : Int) (fr : Int) (rd : Int) N (.slice a l.length c)) ?_
    unfold RdO
    rw [HE.out]
    exact ⟨a, c, rfl, ownsRow_base (ownsRow_setCell_below (ownsRow_setCell_below (ownsRow_setCell_below (ownsRow_setCell_below (ownsRow_setCell_below (ownsRow_setCell_below (ownsRow_setCell_below (ownsRow_setCell_below ho2 (by simpa using hW0l) _) (by simpa using hW0l) _) (by simpa using hW0l) _) (by simpa using hW0l) _) (by simpa using hW0l) _) (by simpa using hW0l) _) (by simpa using hW0l) _) (by simpa using hW0l) _) (Nat.le_of_lt hW0l), (by repeat' first | (with_reducible exact hbU) | (with_reducible refine Below.setCell (p := ⟨_, _, _⟩) ?_ (by simp) _))⟩
end Go.Proofs.Ytndogopllcpiiaa
