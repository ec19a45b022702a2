/- TellOnce: at every text of signs and every text: what is read is told as one text, which is read as the same note, with other blanks and remarks between its words too; no condition but the tie of the card. -/
import Derived.Test.YtmahamdmapbilaaGreatDoorRows
import Derived.WalkKit
import Derived.ProofKit
import Derived.OpenShut
import Derived.ChangeMaps5
import Derived.Stop.Joined
import Derived.Lay
import Derived.SevenTiedAt
import Derived.SizedLaws
import Derived.LaidMore
import Derived.Test.YtmahamdmapbilaaGreatDoorTie
import Derived.Test.YtmahamdmapbilaaGreatDoorCards
import Derived.Test.YtmahamdmapbilaaGreatDoorJwJ37
import Derived.Test.YtmahamdmapbilaaGreatDoorJwJ38
import Derived.Test.YtmahamdmapbilaaGreatDoorJwJ26
namespace Go.Proofs.YtmahamdmapbilaaGreatDoor
open Go.ChangeShapes Go.WideShapes Go.ChangeAt Go.RowKit Go.ChangeMaps
set_option linter.unusedVariables false


theorem own : ownKnob Tryz.prog.godebug = none := by kernel_rfl
open Go.Shelf Go.Lib
theorem note_eg (x : Operand) (kd : Nat) (fr rd : Int) (N : Nat) (v : Value) (w : World) : (eqGuard BinOp.neq 30 x (.const .nilIface) (noteV kd fr rd N v) .nilIface).run Tryz.prog w = .ok () w := by
  unfold noteV
  split
  · go_simp
  · split
    · go_simp
    · go_simp
theorem note_nn (kd : Nat) (fr rd : Int) (N : Nat) (v : Value) (w : World) : (binOp .neq 30 (noteV kd fr rd N v) .nilIface).run Tryz.prog w = .ok (.bool true) w := by
  unfold noteV
  split
  · go_simp
  · split
    · go_simp
    · go_simp
theorem rdtr_ok {w w' : World} {kd : Nat} {fr : Int} {rd N : Nat} {ns : List N3t} {e : Ending} (h : RdTR w (.ok (kd, fr, rd, N, ns)) e w') : ∃ a c, e = .returned (.tuple #[noteV kd fr (rd : Int) N (.slice a ns.length c), .int .i64 0, .int .i64 0]) ∧ RdN w' a ns ∧ Below w.heap.size w w' := by
  obtain ⟨v, rfl, h1, h2⟩ := h
  obtain ⟨a, c, rfl⟩ := row_sliceT h1
  exact ⟨a, c, rfl, rdn_ownT h1, h2⟩
theorem fld_tx0 (b o : Nat) (W : World) : (Instr.fieldAt 48 (.pointer (some ⟨b, o, none⟩)) 0).run Tryz.prog W = .ok (.pointer (some ⟨b, o, none⟩)) W := by go_simp
theorem fld_tx1 (b o : Nat) (W : World) : (Instr.fieldAt 48 (.pointer (some ⟨b, o, none⟩)) 1).run Tryz.prog W = .ok (.pointer (some ⟨b, o + 1, none⟩)) W := by go_simp
theorem lo_zero (D : List Tk4) : headB ++ lsW (D.take 0) = ⟨#[10, 32, 9]⟩ := by
  rw [List.take_zero]
  kernel_rfl
set_option maxHeartbeats 16000000 in
set_option maxRecDepth 100000 in
theorem walk (s0 : ByteArray) (w0 : s0.size ≤ maxLen) (s1 : ByteArray) (w1 : s1.size ≤ maxLen) (w : World) (hL : laidMetH Tryz.prog Rows.tellOnceRow.laid w) :
    Calls Tryz.prog 3 #[.string s0, .string s1] w fun e w' => e = .returned (.bool true) ∧ Below w.heap.size w w' := by
  have hTB := tabs_of (W := w) (L := Rows.tellOnceRow.laid) (by rw [← MakeChecks.laidMetH_plain _ _ _ (by kernel_rfl)]; exact hL) (by simp [Rows.tellOnceRow]) (by simp [Rows.tellOnceRow]) (by simp [Rows.tellOnceRow]) rfl
  obtain ⟨hP, hU, hT⟩ := hTB
  have HP : Hid (Pow w) := hP
  have HU : Hid (Ut w) := hU
  have HT : Hid (Tab w) := hT
  have hAL : Hid (∀ V, Below w.heap.size w V → Calls Tryz.prog 8 #[] V fun e w' => e = .returned (.bool true) ∧ Below V.heap.size V w') := fun V hV => alive_any8 V (HP.out.carry hV) (HU.out.carry hV)
  clear hP hU hT
  have hrd := read_any s0 w0
  have hSg := readR_signs s0
  unfold RdV at hrd
  generalize readR s0 = R at hrd hSg
  obtain ⟨L, x0, y0⟩ := R
  dsimp only at hrd hSg
  cases hq : readT L (scR s1) with
  | error q =>
    obtain ⟨q1, q2⟩ := q
    have hq0 : ¬ q1 = 0 := readT_ne (scans_any s1) hq
    have hq1 : (q1 == 0) = false := by simpa using hq0
    have HPE : Hid (∀ V p sl mp, Below w.heap.size w V → Ros p V (.agg #[sl, mp]) L → p ≤ V.heap.size → Calls Tryz.prog 7 #[.agg #[sl, mp], .string s1] V (fun e w' => e = .returned (.tuple #[.nilIface, .int .i64 q1, .int .i64 q2]) ∧ Below V.heap.size V w')) := fun V p sl mp hV hR hp => by
      have := read_any8 hR hp (HU.out.carry hV) (scans_any s1)
      rw [hq] at this
      exact this
    clear hq hSg
    go_enter Tryz.func3, Tryz.ntmps3
    go_wp2_with (first
      | (go_at_call 8; (with_reducible refine (hAL.out _ hw3).mono ?_); rintro e u4 ⟨rfl, hu4⟩)
      | (go_at_call 7; (with_reducible refine (HPE.out V2 u2.heap.size _ _ hw2 hRo hb2.size).mono ?_); rintro e u3 ⟨rfl, hu3⟩; (have hw3 := bel3 hw2 hu3))
      | (go_at_call 6; (with_reducible refine (hrd _).mono ?_); rintro e u2 ⟨⟨v, rfl, hv⟩, hu2⟩; obtain ⟨ad, n, cap, mb, rfl⟩ : ∃ ad n cap mb, v = .agg #[.slice ad n cap, .map mb] := (by obtain ⟨ad, cap, mb, e⟩ := hv.form; exact ⟨_, _, _, _, e⟩); obtain ⟨V2, hV2⟩ : ∃ V2, u2.alloc (.cells #[.slice ad n cap, .map mb] 25) = V2 := ⟨_, rfl⟩; (have hb2 : Below u2.heap.size u2 V2 := by rw [← hV2]; exact al1t _ _); (have g2 : V2.heap[u2.heap.size]? = some (.cells #[.slice ad n cap, .map mb] 25 (0, 0)) := by rw [← hV2]; exact zna rfl); (have hRo := hv.below hb2); (have hw2 := bel3 hu2 hb2); (have b0 : V2.cell? ⟨u2.heap.size, 0, none⟩ = some (.slice ad n cap) := (zca g2 0).trans rfl); (have b1 : V2.cell? ⟨u2.heap.size, 1, none⟩ = some (.map mb) := (zca g2 1).trans rfl)))
    go_ret
    exact ⟨rfl, bel3 hw3 hu4⟩
  | ok nq =>
    obtain ⟨kd, fr, rd, N, ns⟩ := nq
    obtain ⟨hk1, hk2, hk3, hk4, hN, hl⟩ := readT_ok hSg (scans_any s1) hq
    dsimp only at hk1 hk2 hk3 hk4 hN hl
    have HP1 : Hid (∀ V p sl mp, Below w.heap.size w V → Ros p V (.agg #[sl, mp]) L → p ≤ V.heap.size → Calls Tryz.prog 7 #[.agg #[sl, mp], .string s1] V (fun e w' => ∃ a c, e = .returned (.tuple #[noteV kd fr (rd : Int) N (.slice a ns.length c), .int .i64 0, .int .i64 0]) ∧ RdN w' a ns ∧ Below V.heap.size V w')) := fun V p sl mp hV hR hp => (read_any8 hR hp (HU.out.carry hV) (scans_any s1)).mono (fun e w' h => by rw [hq] at h; exact rdtr_ok h)
    by_cases h8 : 8000 < s1.size
    · have h8i : (8000 : Int) < (s1.size : Int) := by omega
      clear hq hSg
      go_enter Tryz.func3, Tryz.ntmps3
      go_wp2_with (first
        | (go_at_call 8; (with_reducible refine (hAL.out _ hw3).mono ?_); rintro e u4 ⟨rfl, hu4⟩)
        | (go_at_call 7; (with_reducible refine (HP1.out V2 u2.heap.size _ _ hw2 hRo hb2.size).mono ?_); rintro e u3 ⟨a3, c3, rfl, hrn3, hu3⟩; (have hw3 := bel3 hw2 hu3); (have hnn := note_nn kd fr (rd : Int) N (.slice a3 ns.length c3)); (have hng := fun x => note_eg x kd fr (rd : Int) N (.slice a3 ns.length c3)))
        | (go_at_call 6; (with_reducible refine (hrd _).mono ?_); rintro e u2 ⟨⟨v, rfl, hv⟩, hu2⟩; obtain ⟨ad, n, cap, mb, rfl⟩ : ∃ ad n cap mb, v = .agg #[.slice ad n cap, .map mb] := (by obtain ⟨ad, cap, mb, e⟩ := hv.form; exact ⟨_, _, _, _, e⟩); obtain ⟨V2, hV2⟩ : ∃ V2, u2.alloc (.cells #[.slice ad n cap, .map mb] 25) = V2 := ⟨_, rfl⟩; (have hb2 : Below u2.heap.size u2 V2 := by rw [← hV2]; exact al1t _ _); (have g2 : V2.heap[u2.heap.size]? = some (.cells #[.slice ad n cap, .map mb] 25 (0, 0)) := by rw [← hV2]; exact zna rfl); (have hRo := hv.below hb2); (have hw2 := bel3 hu2 hb2); (have b0 : V2.cell? ⟨u2.heap.size, 0, none⟩ = some (.slice ad n cap) := (zca g2 0).trans rfl); (have b1 : V2.cell? ⟨u2.heap.size, 1, none⟩ = some (.map mb) := (zca g2 1).trans rfl)))
      go_ret
      exact ⟨rfl, bel3 hw3 hu4⟩
    have h8i : ¬ (8000 : Int) < (s1.size : Int) := by omega
    obtain ⟨P, hO⟩ := once_of hSg hq
    have o_flt := hO.flt
    have o_len := hO.len
    have o_txt := hO.txt
    have o_scan := hO.scan
    have o_again := hO.again
    have o_loose := hO.loose
    have o_size := hO.size
    have o_wlen := hO.wlen
    clear hO hq
    obtain ⟨TT, hTT⟩ : ∃ T, txt (pcR P) = T := ⟨_, rfl⟩
    obtain ⟨D, hD⟩ : ∃ D, wds P = D := ⟨_, rfl⟩
    rw [hTT] at o_txt o_scan o_again
    rw [hD] at o_scan o_loose o_size o_wlen
    dsimp only at o_flt o_len o_txt
    clear hTT hD
    have hk3i : kd = 3 → (rd : Int) = 0 := fun e => by rw [hk3 e]; rfl
    have HSC : Hid (∀ V, Calls Tryz.prog 11 #[.string TT] V (ScT (.inl D) V)) := fun V => by
      have := (scans_any TT).p V
      rw [o_scan] at this
      exact this
    have HP2 : Hid (∀ V p sl mp, Below w.heap.size w V → Ros p V (.agg #[sl, mp]) L → p ≤ V.heap.size → Calls Tryz.prog 7 #[.agg #[sl, mp], .string ((headB ++ lsW D) ++ tailB)] V (fun e w' => ∃ a c, e = .returned (.tuple #[noteV kd fr (rd : Int) N (.slice a ns.length c), .int .i64 0, .int .i64 0]) ∧ RdN w' a ns ∧ Below V.heap.size V w')) := fun V p sl mp hV hR hp => (read_any8 hR hp (HU.out.carry hV) (scans_any _)).mono (fun e w' h => by rw [o_loose] at h; exact rdtr_ok h)
    have HP3 : Hid (∀ V p sl mp, Below w.heap.size w V → Ros p V (.agg #[sl, mp]) L → p ≤ V.heap.size → Calls Tryz.prog 7 #[.agg #[sl, mp], .string TT] V (fun e w' => ∃ a c, e = .returned (.tuple #[noteV kd fr (rd : Int) N (.slice a ns.length c), .int .i64 0, .int .i64 0]) ∧ RdN w' a ns ∧ Below V.heap.size V w')) := fun V p sl mp hV hR hp => (read_any8 hR hp (HU.out.carry hV) (scans_any TT)).mono (fun e w' h => by rw [o_again] at h; exact rdtr_ok h)
    have hrd1 : (rd : Int) ≤ 9223372036854775807 := by
      obtain ⟨_, _, e, _⟩ := flt_0 o_flt
      rcases e with e | e
      · rw [hk3i e]; decide
      · omega
    have HTD : Hid (∀ V p sl mp ad cap, Below w.heap.size w V → Ros p V (.agg #[sl, mp]) L → p ≤ V.heap.size → RdN V ad ns → Calls Tryz.prog 10 #[.agg #[sl, mp], rnv kd fr rd N (.slice ad ns.length cap)] V fun e w' => e = .returned (.tuple #[.string TT, .int .i64 0]) ∧ Below V.heap.size V w') := fun V p sl mp ad cap hV hR hp h => (told_any hR hp (HP.out.carry hV) (HT.out.carry hV) kd ⟨hk1, hk2⟩ fr (rd : Int) (by omega) hrd1 N hN hk3i hk4 ad cap ns h o_len).mono (fun _ _ q => q.form o_txt o_flt)
    have HSM : Hid (∀ ad ad1 cap cap1 V, RdN V ad ns → RdN V ad1 ns → Calls Tryz.prog 12 #[rnv kd fr rd N (.slice ad ns.length cap), rnv kd fr rd N (.slice ad1 ns.length cap1)] V fun e w' => e = .returned (.bool true) ∧ Below V.heap.size V w') := fun ad ad1 cap cap1 V h h' => samen_any kd fr rd N hN ad ad1 cap cap1 ns V h h' (by omega)
    have HAS : Hid (∀ ad cap V, Calls Tryz.prog 9 #[noteV kd fr rd N (.slice ad ns.length cap)] V fun e w' => e = .returned (.tuple #[rnv kd fr rd N (.slice ad ns.length cap), .bool true]) ∧ Below V.heap.size V w') := fun ad cap V => as_any kd ⟨hk1, hk2⟩ fr (rd : Int) N hk3i hk4 ad ns.length cap V
    unfold rnv at HSM HAS HTD
    clear o_flt o_txt o_scan o_again o_loose hSg hk3 hk3i hk4 hrd1
    go_enter Tryz.func3, Tryz.ntmps3
    go_wp2_with (first
      | (go_at_call 11; (with_reducible refine (HSC.out u5).mono ?_); rintro e u6 ⟨ad6, cap6, rfl, hk6, hlt6, hu6⟩; (have hw6 := bel3 hw5 hu6); (have g26 := (hu6.block _ (zla g25)).trans g25); (have gx6 := (hu6.block _ (zla gx5)).trans gx5); (have hRo6 := hRo5.below (hu6.mono hle5)); (have hle6 := Nat.le_trans hle5 hu6.size); (have hrn6 := hrn5.carry hu6))
      | (go_at_call 10; (with_reducible refine (HTD.out V4 u2.heap.size _ _ a3 c3 hw4 hRo4 hle4 hrn4).mono ?_); rintro e u5 ⟨rfl, hu5⟩; (have hw5 := bel3 hw4 hu5); (have g25 := (hu5.block _ (zla g24)).trans g24); (have gx5 := (hu5.block _ (zla gx4)).trans gx4); (have hRo5 := hRo4.below (hu5.mono hle4)); (have hle5 := Nat.le_trans hle4 hu5.size); (have hrn5 := hrn4.carry hu5))
      | (go_at_call 9; (with_reducible refine (HAS.out a3 c3 u3).mono ?_); rintro e u4 ⟨rfl, hu4⟩; obtain ⟨V4, hV4⟩ : ∃ V4, u4.alloc (.cells #[.int .i64 (kd : Int), .int .i64 fr, .int .i64 (rd : Int), .int .u32 (wd N 0 : Nat), .int .u32 (wd N 1 : Nat), .int .u32 (wd N 2 : Nat), .int .u32 (wd N 3 : Nat), .slice a3 ns.length c3] 39) = V4 := ⟨_, rfl⟩; (have hb4 : Below u4.heap.size u4 V4 := by rw [← hV4]; exact al1t _ _); (have gx4 : V4.heap[u4.heap.size]? = some (.cells #[.int .i64 (kd : Int), .int .i64 fr, .int .i64 (rd : Int), .int .u32 (wd N 0 : Nat), .int .u32 (wd N 1 : Nat), .int .u32 (wd N 2 : Nat), .int .u32 (wd N 3 : Nat), .slice a3 ns.length c3] 39 (0, 0)) := by rw [← hV4]; exact zna rfl); (have hw4 := bel3 (bel3 hw3 hu4) hb4); (have g23 := (hu3.block _ (zla g2)).trans g2); (have g23u := (hu4.block _ (zla g23)).trans g23); (have g24 := (hb4.block _ (zla g23u)).trans g23u); (have b04 : V4.cell? ⟨u2.heap.size, 0, none⟩ = some (.slice ad n cap) := (zca g24 0).trans rfl); (have b14 : V4.cell? ⟨u2.heap.size, 1, none⟩ = some (.map mb) := (zca g24 1).trans rfl); (have gx4_0 : V4.cell? ⟨u4.heap.size, 0, none⟩ = some (.int .i64 (kd : Int)) := (zca gx4 0).trans rfl); (have gx4_1 : V4.cell? ⟨u4.heap.size, 1, none⟩ = some (.int .i64 fr) := (zca gx4 1).trans rfl); (have gx4_2 : V4.cell? ⟨u4.heap.size, 2, none⟩ = some (.int .i64 (rd : Int)) := (zca gx4 2).trans rfl); (have gx4_3 : V4.cell? ⟨u4.heap.size, 3, none⟩ = some (.int .u32 (wd N 0 : Nat)) := (zca gx4 3).trans rfl); (have gx4_4 : V4.cell? ⟨u4.heap.size, 4, none⟩ = some (.int .u32 (wd N 1 : Nat)) := (zca gx4 4).trans rfl); (have gx4_5 : V4.cell? ⟨u4.heap.size, 5, none⟩ = some (.int .u32 (wd N 2 : Nat)) := (zca gx4 5).trans rfl); (have gx4_6 : V4.cell? ⟨u4.heap.size, 6, none⟩ = some (.int .u32 (wd N 3 : Nat)) := (zca gx4 6).trans rfl); (have gx4_7 : V4.cell? ⟨u4.heap.size, 7, none⟩ = some (.slice a3 ns.length c3) := (zca gx4 7).trans rfl); (have hRo3 := hRo.below (hu3.mono hb2.size)); (have hle3 := Nat.le_trans hb2.size hu3.size); (have hRo4 := (hRo3.below (hu4.mono hle3)).below (hb4.mono (Nat.le_trans hle3 hu4.size))); (have hle4 := Nat.le_trans (Nat.le_trans hle3 hu4.size) hb4.size); (have hrn4 := (hrn3.carry hu4).carry hb4))
      | (go_at_call 7; (with_reducible refine (HP1.out V2 u2.heap.size _ _ hw2 hRo hb2.size).mono ?_); rintro e u3 ⟨a3, c3, rfl, hrn3, hu3⟩; (have hw3 := bel3 hw2 hu3); (have hnn := note_nn kd fr (rd : Int) N (.slice a3 ns.length c3)); (have hng := fun x => note_eg x kd fr (rd : Int) N (.slice a3 ns.length c3)))
      | (go_at_call 6; (with_reducible refine (hrd _).mono ?_); rintro e u2 ⟨⟨v, rfl, hv⟩, hu2⟩; obtain ⟨ad, n, cap, mb, rfl⟩ : ∃ ad n cap mb, v = .agg #[.slice ad n cap, .map mb] := (by obtain ⟨ad, cap, mb, e⟩ := hv.form; exact ⟨_, _, _, _, e⟩); obtain ⟨V2, hV2⟩ : ∃ V2, u2.alloc (.cells #[.slice ad n cap, .map mb] 25) = V2 := ⟨_, rfl⟩; (have hb2 : Below u2.heap.size u2 V2 := by rw [← hV2]; exact al1t _ _); (have g2 : V2.heap[u2.heap.size]? = some (.cells #[.slice ad n cap, .map mb] 25 (0, 0)) := by rw [← hV2]; exact zna rfl); (have hRo := hv.below hb2); (have hw2 := bel3 hu2 hb2); (have b0 : V2.cell? ⟨u2.heap.size, 0, none⟩ = some (.slice ad n cap) := (zca g2 0).trans rfl); (have b1 : V2.cell? ⟨u2.heap.size, 1, none⟩ = some (.map mb) := (zca g2 1).trans rfl)))
    go_loopw [19, 20] (fun lo i wz => ∃ k : Nat, i = .int .i64 (k : Int) ∧ lo = .string (headB ++ lsW (D.take k)) ∧ k ≤ D.length ∧ Below u6.heap.size u6 wz) (fun _ i _ => D.length - vnatR i)
    case atStart => exact ⟨0, rfl, by rw [lo_zero], Nat.zero_le _, Below.refl _ _⟩
    case round =>
      obtain ⟨k, rfl, rfl, hkm, hBz⟩ := hrel
      by_cases hlt : k < D.length
      · have hi : (k : Int) < (D.length : Int) := by omega
        obtain ⟨x, hx⟩ : ∃ x, D[k]? = some x := ⟨_, List.getElem?_eq_getElem hlt⟩
        obtain ⟨g6, o6, rfl, hg6, hc6⟩ := hk6 (List.ne_nil_of_length_pos (by omega))
        have q0 := (hBz.cell (p := ⟨g6, o6 + k * 4, none⟩) hg6).trans (hc6 k x hx 0 (.int .i64 x.1) rfl)
        have q1 := (hBz.cell (p := ⟨g6, o6 + k * 4 + 1, none⟩) hg6).trans (hc6 k x hx 1 (.string x.2.1) rfl)
        have hix := idx_tk g6 o6 D.length cap6 k hlt
        have hf0 := fld_tx0 g6 (o6 + k * 4)
        have hf1 := fld_tx1 g6 (o6 + k * 4)
        obtain ⟨k1, hkk1⟩ : ∃ k1, k1 = k + 1 := ⟨_, rfl⟩
        have hw1 : (k : Int) + 1 = (k1 : Int) := by omega
        have hwk : (k1 : Int) ≤ 1000000 := by omega
        have HK1 : Hid (k1 = k + 1) := hkk1
        clear hkk1
        have hle := lsW_le D (k + 1)
        have hle0 := lsW_le D k
        have hhz : headB.size = 3 := rfl
        have hsz : (headB ++ lsW D).size = 3 + (lsW D).size := by rw [ByteArray.size_append, hhz]
        clear hc6 hk6
        by_cases h1 : x.1 = 1
        · have hn := lsW_one hx h1
          obtain ⟨x1, x2, x3, x4⟩ := x
          dsimp only at h1 q0 q1
          subst h1
          have HN : Hid (lsW (D.take (k + 1)) = lsW (D.take k)) := hn
          clear hx hn hle hle0 hhz hsz
          go_wp2
          go_roundw
          case rel => exact ⟨k1, rfl, by rw [HK1.out, HN.out], by have := HK1.out; omega, hBz⟩
          case measure => have := HK1.out; simp [vnatR]; omega
        · have hn := lsW_more hx h1
          have hss : (headB ++ lsW (D.take (k + 1))).size = (headB ++ lsW (D.take k)).size + (x.2.1.size + 3) := by rw [hn, ByteArray.size_append, show (x.2.1 ++ sepB).size = x.2.1.size + sepB.size from ByteArray.size_append]; rfl
          have hsk : (headB ++ lsW (D.take (k + 1))).size = 3 + (lsW (D.take (k + 1))).size := by rw [ByteArray.size_append, hhz]
          obtain ⟨x1, x2, x3, x4⟩ := x
          dsimp only at h1 q0 q1 hn hss
          have hb1 : (x1 == 1) = false := by simpa using h1
          obtain ⟨A, hA⟩ : ∃ A, headB ++ lsW (D.take k) = A := ⟨_, rfl⟩
          rw [hA] at hn hss ⊢
          have hadd1 := fun p q V => bin_adds (x := p) (y := q) (w := V) x2 ⟨#[32, 9, 13]⟩ (by show x2.size + 3 ≤ _; omega)
          have hadd2 := fun p q V => bin_adds (x := p) (y := q) (w := V) A (x2 ++ ⟨#[32, 9, 13]⟩) (by rw [ByteArray.size_append]; show A.size + (x2.size + 3) ≤ _; omega)
          have hc1 : ¬ 9223372036854775807 < x2.size + 3 := by omega
          have hc2 : ¬ 9223372036854775807 < A.size + (x2.size + 3) := by omega
          have HN : Hid (headB ++ lsW (D.take (k + 1)) = A ++ (x2 ++ sepB)) := hn
          clear hx hn hle hle0 hhz hsz hss hsk hA
          go_wp2
          go_roundw
          case rel => exact ⟨k1, rfl, by rw [HK1.out, HN.out]; rfl, by have := HK1.out; omega, hBz⟩
          case measure => have := HK1.out; simp [vnatR]; omega
      · have hkk : D.take k = D := List.take_of_length_le (by omega)
        have hi : ¬ (k : Int) < (D.length : Int) := by omega
        rw [hkk]
        have hwz := bel3 hw6 hBz
        have g2z := (hBz.block _ (zla g26)).trans g26
        have gxz := (hBz.block _ (zla gx6)).trans gx6
        have b0z := (zca g2z 0).trans (show (#[Value.slice ad n cap, Value.map mb] : Array Value)[0]? = some (Value.slice ad n cap) from rfl)
        have b1z := (zca g2z 1).trans (show (#[Value.slice ad n cap, Value.map mb] : Array Value)[1]? = some (Value.map mb) from rfl)
        have hRoz := hRo6.below (hBz.mono hle6)
        have hlez := Nat.le_trans hle6 hBz.size
        have hrnz := hrn6.carry hBz
        have htz : tailB.size = 7 := rfl
        have hadd3 := fun p q V => bin_adds (x := p) (y := q) (w := V) (headB ++ lsW D) ⟨#[35, 32, 226, 152, 131, 10, 10]⟩ (by show (headB ++ lsW D).size + 7 ≤ _; omega)
        have hc3 : ¬ 9223372036854775807 < (headB ++ lsW D).size + 7 := by omega
        unfold tailB at HP2
        obtain ⟨A, hA⟩ : ∃ A, headB ++ lsW D = A := ⟨_, rfl⟩
        rw [hA] at HP2 hadd3 hc3 ⊢
        clear hA hk6
        go_wp2_with (first
          | (go_at_call 12; (with_reducible refine (HSM.out a8 a3 c8 c3 u12 hrb12 hrx12).mono ?_); rintro e u13 ⟨rfl, hu13⟩)
          | (go_at_call 12; (with_reducible refine (HSM.out a7 a3 c7 c3 u11 hra11 hrx11).mono ?_); rintro e u12 ⟨rfl, hu12⟩; (have hw12 := bel3 hw11 hu12); (have gx12 := (hu12.block _ (zla gx11)).trans gx11); (have gb12 := (hu12.block _ (zla gb11)).trans gb11); (have gx12_0 : u12.cell? ⟨u4.heap.size, 0, none⟩ = some (.int .i64 (kd : Int)) := (zca gx12 0).trans rfl); (have gx12_1 : u12.cell? ⟨u4.heap.size, 1, none⟩ = some (.int .i64 fr) := (zca gx12 1).trans rfl); (have gx12_2 : u12.cell? ⟨u4.heap.size, 2, none⟩ = some (.int .i64 (rd : Int)) := (zca gx12 2).trans rfl); (have gx12_3 : u12.cell? ⟨u4.heap.size, 3, none⟩ = some (.int .u32 (wd N 0 : Nat)) := (zca gx12 3).trans rfl); (have gx12_4 : u12.cell? ⟨u4.heap.size, 4, none⟩ = some (.int .u32 (wd N 1 : Nat)) := (zca gx12 4).trans rfl); (have gx12_5 : u12.cell? ⟨u4.heap.size, 5, none⟩ = some (.int .u32 (wd N 2 : Nat)) := (zca gx12 5).trans rfl); (have gx12_6 : u12.cell? ⟨u4.heap.size, 6, none⟩ = some (.int .u32 (wd N 3 : Nat)) := (zca gx12 6).trans rfl); (have gx12_7 : u12.cell? ⟨u4.heap.size, 7, none⟩ = some (.slice a3 ns.length c3) := (zca gx12 7).trans rfl); (have gb12_0 : u12.cell? ⟨u10.heap.size, 0, none⟩ = some (.int .i64 (kd : Int)) := (zca gb12 0).trans rfl); (have gb12_1 : u12.cell? ⟨u10.heap.size, 1, none⟩ = some (.int .i64 fr) := (zca gb12 1).trans rfl); (have gb12_2 : u12.cell? ⟨u10.heap.size, 2, none⟩ = some (.int .i64 (rd : Int)) := (zca gb12 2).trans rfl); (have gb12_3 : u12.cell? ⟨u10.heap.size, 3, none⟩ = some (.int .u32 (wd N 0 : Nat)) := (zca gb12 3).trans rfl); (have gb12_4 : u12.cell? ⟨u10.heap.size, 4, none⟩ = some (.int .u32 (wd N 1 : Nat)) := (zca gb12 4).trans rfl); (have gb12_5 : u12.cell? ⟨u10.heap.size, 5, none⟩ = some (.int .u32 (wd N 2 : Nat)) := (zca gb12 5).trans rfl); (have gb12_6 : u12.cell? ⟨u10.heap.size, 6, none⟩ = some (.int .u32 (wd N 3 : Nat)) := (zca gb12 6).trans rfl); (have gb12_7 : u12.cell? ⟨u10.heap.size, 7, none⟩ = some (.slice a8 ns.length c8) := (zca gb12 7).trans rfl); (have hrx12 := hrx11.carry hu12); (have hrb12 := hrb11.carry hu12))
          | (go_at_call 8; (with_reducible refine (hAL.out _ hw10).mono ?_); rintro e u11 ⟨rfl, hu11⟩; (have hw11 := bel3 hw10 hu11); (have gx11 := (hu11.block _ (zla gx10)).trans gx10); (have ga11 := (hu11.block _ (zla ga10)).trans ga10); (have gb11 := (hu11.block _ (zla gb10)).trans gb10); (have gx11_0 : u11.cell? ⟨u4.heap.size, 0, none⟩ = some (.int .i64 (kd : Int)) := (zca gx11 0).trans rfl); (have gx11_1 : u11.cell? ⟨u4.heap.size, 1, none⟩ = some (.int .i64 fr) := (zca gx11 1).trans rfl); (have gx11_2 : u11.cell? ⟨u4.heap.size, 2, none⟩ = some (.int .i64 (rd : Int)) := (zca gx11 2).trans rfl); (have gx11_3 : u11.cell? ⟨u4.heap.size, 3, none⟩ = some (.int .u32 (wd N 0 : Nat)) := (zca gx11 3).trans rfl); (have gx11_4 : u11.cell? ⟨u4.heap.size, 4, none⟩ = some (.int .u32 (wd N 1 : Nat)) := (zca gx11 4).trans rfl); (have gx11_5 : u11.cell? ⟨u4.heap.size, 5, none⟩ = some (.int .u32 (wd N 2 : Nat)) := (zca gx11 5).trans rfl); (have gx11_6 : u11.cell? ⟨u4.heap.size, 6, none⟩ = some (.int .u32 (wd N 3 : Nat)) := (zca gx11 6).trans rfl); (have gx11_7 : u11.cell? ⟨u4.heap.size, 7, none⟩ = some (.slice a3 ns.length c3) := (zca gx11 7).trans rfl); (have ga11_0 : u11.cell? ⟨u9.heap.size, 0, none⟩ = some (.int .i64 (kd : Int)) := (zca ga11 0).trans rfl); (have ga11_1 : u11.cell? ⟨u9.heap.size, 1, none⟩ = some (.int .i64 fr) := (zca ga11 1).trans rfl); (have ga11_2 : u11.cell? ⟨u9.heap.size, 2, none⟩ = some (.int .i64 (rd : Int)) := (zca ga11 2).trans rfl); (have ga11_3 : u11.cell? ⟨u9.heap.size, 3, none⟩ = some (.int .u32 (wd N 0 : Nat)) := (zca ga11 3).trans rfl); (have ga11_4 : u11.cell? ⟨u9.heap.size, 4, none⟩ = some (.int .u32 (wd N 1 : Nat)) := (zca ga11 4).trans rfl); (have ga11_5 : u11.cell? ⟨u9.heap.size, 5, none⟩ = some (.int .u32 (wd N 2 : Nat)) := (zca ga11 5).trans rfl); (have ga11_6 : u11.cell? ⟨u9.heap.size, 6, none⟩ = some (.int .u32 (wd N 3 : Nat)) := (zca ga11 6).trans rfl); (have ga11_7 : u11.cell? ⟨u9.heap.size, 7, none⟩ = some (.slice a7 ns.length c7) := (zca ga11 7).trans rfl); (have gb11_0 : u11.cell? ⟨u10.heap.size, 0, none⟩ = some (.int .i64 (kd : Int)) := (zca gb11 0).trans rfl); (have gb11_1 : u11.cell? ⟨u10.heap.size, 1, none⟩ = some (.int .i64 fr) := (zca gb11 1).trans rfl); (have gb11_2 : u11.cell? ⟨u10.heap.size, 2, none⟩ = some (.int .i64 (rd : Int)) := (zca gb11 2).trans rfl); (have gb11_3 : u11.cell? ⟨u10.heap.size, 3, none⟩ = some (.int .u32 (wd N 0 : Nat)) := (zca gb11 3).trans rfl); (have gb11_4 : u11.cell? ⟨u10.heap.size, 4, none⟩ = some (.int .u32 (wd N 1 : Nat)) := (zca gb11 4).trans rfl); (have gb11_5 : u11.cell? ⟨u10.heap.size, 5, none⟩ = some (.int .u32 (wd N 2 : Nat)) := (zca gb11 5).trans rfl); (have gb11_6 : u11.cell? ⟨u10.heap.size, 6, none⟩ = some (.int .u32 (wd N 3 : Nat)) := (zca gb11 6).trans rfl); (have gb11_7 : u11.cell? ⟨u10.heap.size, 7, none⟩ = some (.slice a8 ns.length c8) := (zca gb11 7).trans rfl); (have hrx11 := hrx10.carry hu11); (have hra11 := hra10.carry hu11); (have hrb11 := hrb10.carry hu11))
          | (go_at_call 9; (with_reducible refine (HAS.out a8 c8 V9).mono ?_); rintro e u10 ⟨rfl, hu10⟩; obtain ⟨V10, hV10⟩ : ∃ V, u10.alloc (.cells #[.int .i64 (kd : Int), .int .i64 fr, .int .i64 (rd : Int), .int .u32 (wd N 0 : Nat), .int .u32 (wd N 1 : Nat), .int .u32 (wd N 2 : Nat), .int .u32 (wd N 3 : Nat), .slice a8 ns.length c8] 39) = V := ⟨_, rfl⟩; (have hb10 : Below u10.heap.size u10 V10 := by rw [← hV10]; exact al1t _ _); (have gb10 : V10.heap[u10.heap.size]? = some (.cells #[.int .i64 (kd : Int), .int .i64 fr, .int .i64 (rd : Int), .int .u32 (wd N 0 : Nat), .int .u32 (wd N 1 : Nat), .int .u32 (wd N 2 : Nat), .int .u32 (wd N 3 : Nat), .slice a8 ns.length c8] 39 (0, 0)) := by rw [← hV10]; exact zna rfl); (have hw10 := bel3 (bel3 hw9 hu10) hb10); (have gx10u := (hu10.block _ (zla gx9)).trans gx9); (have ga10u := (hu10.block _ (zla ga9)).trans ga9); (have gx10 := (hb10.block _ (zla gx10u)).trans gx10u); (have ga10 := (hb10.block _ (zla ga10u)).trans ga10u); (have hrx10 := (hrx9.carry hu10).carry hb10); (have hra10 := (hra9.carry hu10).carry hb10); (have hrb10 := (hrb9.carry hu10).carry hb10))
          | (go_at_call 9; (with_reducible refine (HAS.out a7 c7 u8).mono ?_); rintro e u9 ⟨rfl, hu9⟩; obtain ⟨V9, hV9⟩ : ∃ V, u9.alloc (.cells #[.int .i64 (kd : Int), .int .i64 fr, .int .i64 (rd : Int), .int .u32 (wd N 0 : Nat), .int .u32 (wd N 1 : Nat), .int .u32 (wd N 2 : Nat), .int .u32 (wd N 3 : Nat), .slice a7 ns.length c7] 39) = V := ⟨_, rfl⟩; (have hb9 : Below u9.heap.size u9 V9 := by rw [← hV9]; exact al1t _ _); (have ga9 : V9.heap[u9.heap.size]? = some (.cells #[.int .i64 (kd : Int), .int .i64 fr, .int .i64 (rd : Int), .int .u32 (wd N 0 : Nat), .int .u32 (wd N 1 : Nat), .int .u32 (wd N 2 : Nat), .int .u32 (wd N 3 : Nat), .slice a7 ns.length c7] 39 (0, 0)) := by rw [← hV9]; exact zna rfl); (have hw9 := bel3 (bel3 hw8 hu9) hb9); (have gx9u := (hu9.block _ (zla gx8)).trans gx8); (have gx9 := (hb9.block _ (zla gx9u)).trans gx9u); (have hrx9 := (hrx8.carry hu9).carry hb9); (have hra9 := (hra8.carry hu9).carry hb9); (have hrb9 := (hrn8.carry hu9).carry hb9))
          | (go_at_call 7; (with_reducible refine (HP3.out u7 u2.heap.size _ _ hw7 hRo7 hle7).mono ?_); rintro e u8 ⟨a8, c8, rfl, hrn8, hu8⟩; (have hw8 := bel3 hw7 hu8); (have g28 := (hu8.block _ (zla g27)).trans g27); (have gx8 := (hu8.block _ (zla gx7)).trans gx7); (have hrx8 := hrx7.carry hu8); (have hra8 := hrn7.carry hu8))
          | (go_at_call 7; (with_reducible refine (HP2.out _ u2.heap.size _ _ hwz hRoz hlez).mono ?_); rintro e u7 ⟨a7, c7, rfl, hrn7, hu7⟩; (have hw7 := bel3 hwz hu7); (have g27 := (hu7.block _ (zla g2z)).trans g2z); (have gx7 := (hu7.block _ (zla gxz)).trans gxz); (have b07 : u7.cell? ⟨u2.heap.size, 0, none⟩ = some (.slice ad n cap) := (zca g27 0).trans rfl); (have b17 : u7.cell? ⟨u2.heap.size, 1, none⟩ = some (.map mb) := (zca g27 1).trans rfl); (have hRo7 := hRoz.below (hu7.mono hlez)); (have hle7 := Nat.le_trans hlez hu7.size); (have hrx7 := hrnz.carry hu7)))
        go_ret
        exact ⟨rfl, bel3 hw12 hu13⟩

set_option maxRecDepth 100000 in
theorem lifted (os : Os) (started : os.Started) (H : Type) (enc : TypeId × Value → H) :
    ReturnsInHanded {} Tryz.checked os 3 .any (fun w args => (Rows.tellOnceSpec.pre enc Tryz.prog Tryz.f3 [] false w args ∧ laidMetH Tryz.prog Rows.tellOnceRow.laid w) ∧ sizedMet enc Tryz.prog Tryz.f3 (OpenSpec.ofChange Rows.tellOnceSpec) false w args)
      (Rows.tellOnceSpec.post enc Tryz.prog Tryz.f3 false true false false) := by
  refine returnsInHanded_of_change_and (C := Tryz.checked) (X := fun w _ => laidMetH Tryz.prog Rows.tellOnceRow.laid w) (fun _ _ _ hh h => h.of_heap hh) own started (by kernel_rfl) Tryz.func3
    (ChangeSpec.witness_shaped (enc := enc) (C := Tryz.checked) (os := os) (X := fun w _ => laidMetH Tryz.prog Rows.tellOnceRow.laid w) false (World.laidAll Tryz.prog os Rows.tellOnceRow.laid) #[.string ByteArray.empty, .string ByteArray.empty] 8 (World.laidAll_os _ _ _)
      (World.shaped_of_ZipB (by kernel_rfl) (by kernel_rfl)) (by kernel_rfl) (by kernel_rfl) (by kernel_rfl)
      (by rw [MakeChecks.laidMetH_plain _ _ _ (by kernel_rfl)]; exact laidMet_laidAll _ (by kernel_rfl) (by kernel_rfl))) ?_
  intro W base args ds gs before hval0 hW _ hsz hL _
  have hval : ∀ (j : Nat) t v, Tryz.f3.params[j]? = some t → args[j]? = some v → Value.okWide Tryz.prog W .any base t v := hval0
  have hW' := hW
  obtain ⟨p, q, hA0, hV, rfl, hfz, hnd⟩ := hW
  have hA : DataW.TrodAll enc Tryz.prog W 0 (fun _ => true) true Tryz.f3.params.toList args.toList ds p := hA0
  rw [Tryz.params3] at hA hval
  obtain ⟨v0, vs0, d0, ds0, p0, q0, hargs, rfl, rfl, h0, r0⟩ := trodAll_cons hA
  obtain ⟨v1, vs1, d1, ds1, p1, q1, rfl, rfl, rfl, h1, r1⟩ := trodAll_cons r0
  obtain ⟨rfl, rfl, rfl⟩ := trodAll_nil r1
  obtain rfl : args = #[v0, v1] := by cases args; simp_all
  obtain ⟨rfl, rfl⟩ := trodVars_none hV
  obtain ⟨s0, rfl, rfl, rfl, w0⟩ := open_string Tryz.underlying9 (hval 0 9 v0 rfl rfl) h0
  obtain ⟨s1, rfl, rfl, rfl, w1⟩ := open_string Tryz.underlying9 (hval 1 9 v1 rfl rfl) h1
  clear hA0 hval0
  simp only [List.append_nil] at hW'
  refine (walk s0 w0 s1 w1 W hL).mono fun e W' ⟨he, hg⟩ => ?_
  subst he
  exact ⟨_, rfl, _, _, _, [], _, [], hW', (trodAll_cons_mk (shut_bool Tryz.underlying4 _) trodAll_mk0), (trodAll_cons_mk (shut_string Tryz.underlying9 w0) (trodAll_cons_mk (shut_string Tryz.underlying9 w1) trodAll_mk0)), rfl, hg.frame _, fun h => by cases h⟩

theorem over : Rows.tellOnceRow.holds Tryz.pinned (OpenSpec.ofChange Rows.tellOnceSpec) :=
  OpenClaim.holds_of_wide 3 Tryz.f3 rfl rfl rfl rfl rfl rfl rfl ⟨rfl, rfl, rfl, rfl, rfl⟩ rfl rfl rfl rfl rfl (by kernel_rfl) Tryz.func3 (by kernel_rfl)
    (of_decide_eq_true (by kernel_rfl)) (by unfold Func.isWrapper; first | (rw [if_pos (by decide +kernel)]; kernel_rfl) | (rw [if_neg (by decide +kernel)]; exact ⟨rfl, rfl⟩))
    (fun os started H enc _ => lifted os started H enc)

theorem row_proved : Rows.TellOnceSaid :=
  over
theorem proved : Rows.TellOnceCardSaid :=
  Claim7.holds_tied_plain_at .later [] [.data, .data, .data, .data, .pinned] true (true, "2dde5e618d5576d52211e791b676e7f6a37e0a0809c2c81d43f5c5d12d406039") true
    row_proved (fun _ h => by cases h) (by kernel_rfl) (fun _ h => by cases h) tellOnce_row_tie rfl ⟨rfl, rfl⟩ (by kernel_rfl) rfl
    (fun f fn hf hfn => by
      obtain rfl : f = 3 := Option.some.inj ((show Tryz.prog.funcNamed "earshot/earshotlaw8.TellOnce" = some 3 by kernel_rfl).symm.trans hf) |>.symm
      obtain rfl : fn = Tryz.f3 := (Option.some.inj (Tryz.func3.symm.trans hfn)).symm
      exact ⟨by kernel_rfl, fun j t ht => by
        rw [Tryz.params3] at ht
        rcases j with _ | j
        · have e : t = 9 := by simpa using ht.symm
          subst e
          exact (show Tryz.prog.wantsStandIn 9 = false by kernel_rfl)
        rcases j with _ | j
        · have e : t = 9 := by simpa using ht.symm
          subst e
          exact (show Tryz.prog.wantsStandIn 9 = false by kernel_rfl)
        simp at ht⟩)
    (by kernel_rfl)
#print axioms proved
end Go.Proofs.YtmahamdmapbilaaGreatDoor
