/- WireAll: at every list of notes and every number of nodes: bytes, notes and packets are the document's, and the lists that are told share no memory. No condition. -/
import Derived.Test.YtnomeinppdnhfaaGreatRows
import Derived.WalkKit
import Derived.ProofKit
import Derived.OpenShut
import Derived.Test.YtnomeinppdnhfaaGreatJnJ9
namespace Go.Proofs.YtnomeinppdnhfaaGreat
open Go.ChangeShapes Go.WideShapes Go.ChangeAt Go.RowKit
set_option linter.unusedVariables false

theorem laidOut : laidOutB Tryz.prog = true := by kernel_rfl
theorem own : ownKnob Tryz.prog.godebug = none := by kernel_rfl
open Go.Shelf Go.Lib
set_option maxHeartbeats 64000000 in
set_option maxRecDepth 100000 in
theorem walk (w : World) (ad0 : Option Addr) (cap0 : Nat) (l0 : List Nx) (w0 : RdX w ad0 l0) (hc0 : ad0 = none → cap0 = 0) (a1 : Int) (w1 : (Lit.int .i64 a1).wf = true) :
    Calls Tryz.prog 3 #[.slice ad0 l0.length cap0, .int .i64 a1] w fun e w' => e = .returned (.bool true) ∧ Below w.heap.size w w' := by
  have hal := alive_any
  by_cases h30 : 30 < l0.length
  · have h30i : (30 : Int) < (l0.length : Int) := by omega
    go_enter Tryz.func3, Tryz.ntmps3
    go_wp2_with (first | (go_at_call 4; have m := st1; (with_reducible refine (hal _).mono ?_); rintro e y2 ⟨rfl, hb2⟩) | (go_at_call 4; (with_reducible refine (hal _).mono ?_); rintro e y1 ⟨rfl, hb1⟩; have st1 := True.intro))
    go_ret
    exact ⟨rfl, bel2 hb1 hb2⟩
  have h30i : ¬ (30 : Int) < (l0.length : Int) := by omega
  by_cases hl0 : l0 = []
  · subst hl0
    go_enter Tryz.func3, Tryz.ntmps3
    go_wp2_with (go_at_call 4; (with_reducible refine (hal _).mono ?_); rintro e y1 ⟨rfl, hb1⟩; obtain ⟨WB, hWB⟩ : ∃ WB, y1.alloc (.cells #[.slice none 0 0, .slice none 0 0, .slice none 0 0, .slice none 0 0, .slice none 0 0, .slice none 0 0, .slice none 0 0, .slice none 0 0, .slice none 0 0, .slice none 0 0, .slice none 0 0, .slice none 0 0, .slice none 0 0, .slice none 0 0, .slice none 0 0, .slice none 0 0, .slice none 0 0, .slice none 0 0, .slice none 0 0, .slice none 0 0, .slice none 0 0, .slice none 0 0, .slice none 0 0, .slice none 0 0] 38) = WB := ⟨_, rfl⟩; have hk10 : BkL w.heap.size y1.heap.size WB.heap.size WB.heap.size WB := (by rw [← hWB]; exact BkL.new y1 _ _ _); have hal10 : Below y1.heap.size y1 WB := (by rw [← hWB]; exact al1' _ _); have hW10 : Below w.heap.size w WB := bel2 hb1 hal10; have hbb : w.heap.size ≤ y1.heap.size := hb1.size; obtain ⟨bb, hbbe⟩ : ∃ bb, y1.heap.size = bb := ⟨_, rfl⟩; rw [hbbe] at hk10 hbb; clear hal10 hb1)
    go_loopw [6] (fun kk wz => kk = .int .i64 0 ∧ Below w.heap.size w wz ∧ BkL w.heap.size bb wz.heap.size wz.heap.size wz) (fun _ _ => 0)
    case atStart => exact ⟨rfl, hW10, hk10⟩
    case round =>
      obtain ⟨rfl, hbw, hbk⟩ := hrel
      have hap := apart2 hbk hbw.size
      go_wp2_with (go_at_call 16; (with_reducible refine hap.mono ?_); rintro e y2 ⟨rfl, hb2⟩)
      go_ret
      exact ⟨rfl, hbw.trans hb2⟩
  obtain ⟨xb, off, rfl, hxlt, hat⟩ := w0.at_ hl0
  have HOK : Hid (∀ x ∈ l0, NxO w x) := w0.ok
  have HAT : Hid (∀ (i : Nat) (x : Nx), l0[i]? = some x → ∀ (j : Nat) (v : Value), (nxA x)[j]? = some v → w.cell? ⟨xb, off + i * 8 + j, none⟩ = some v) := hat
  clear w0 hat hc0 hl0
  go_enter Tryz.func3, Tryz.ntmps3
  go_wp2_with (go_at_call 4; (with_reducible refine (hal _).mono ?_); rintro e y1 ⟨rfl, hb1⟩; obtain ⟨WB, hWB⟩ : ∃ WB, y1.alloc (.cells #[.slice none 0 0, .slice none 0 0, .slice none 0 0, .slice none 0 0, .slice none 0 0, .slice none 0 0, .slice none 0 0, .slice none 0 0, .slice none 0 0, .slice none 0 0, .slice none 0 0, .slice none 0 0, .slice none 0 0, .slice none 0 0, .slice none 0 0, .slice none 0 0, .slice none 0 0, .slice none 0 0, .slice none 0 0, .slice none 0 0, .slice none 0 0, .slice none 0 0, .slice none 0 0, .slice none 0 0] 38) = WB := ⟨_, rfl⟩; have hk10 : BkL w.heap.size y1.heap.size WB.heap.size WB.heap.size WB := (by rw [← hWB]; exact BkL.new y1 _ _ _); have hal10 : Below y1.heap.size y1 WB := (by rw [← hWB]; exact al1' _ _); have hW10 : Below w.heap.size w WB := bel2 hb1 hal10; have hbb : w.heap.size ≤ y1.heap.size := hb1.size; obtain ⟨bb, hbbe⟩ : ∃ bb, y1.heap.size = bb := ⟨_, rfl⟩; rw [hbbe] at hk10 hbb; clear hal10 hb1)
  go_loopw [6] (fun kk wz => ∃ j : Nat, kk = .int .i64 (j : Int) ∧ j ≤ 2 * l0.length ∧ Below w.heap.size w wz ∧ BkL w.heap.size bb wz.heap.size wz.heap.size wz) (fun kk _ => 2 * l0.length - vnatW kk)
  case atStart => exact ⟨0, rfl, Nat.zero_le _, hW10, hk10⟩
  case round =>
    obtain ⟨j, rfl, hj, hbw, hbk⟩ := hrel
    by_cases hjn : j < 2 * l0.length
    case neg =>
      have hji : ¬ (j : Int) < 2 * (l0.length : Int) := by omega
      have hap := apart2 hbk hbw.size
      go_wp2_with (go_at_call 16; (with_reducible refine hap.mono ?_); rintro e y2 ⟨rfl, hb2⟩)
      go_ret
      exact ⟨rfl, hbw.trans hb2⟩
    have hji : (j : Int) < 2 * (l0.length : Int) := by omega
    have hK0 : 0 < l0.length := by omega
    have hne : ¬ (l0.length : Int) = 0 := by omega
    obtain ⟨i, hi, hrem⟩ : ∃ i : Nat, i < l0.length ∧ (j : Int).tmod (l0.length : Int) = (i : Int) := ⟨j % l0.length, Nat.mod_lt _ hK0, by rw [Int.tmod_eq_emod_of_nonneg (by omega)]; simp⟩
    obtain ⟨x, hx⟩ : ∃ x, l0[i]? = some x := ⟨_, List.getElem?_eq_getElem hi⟩
    have hxo := HOK.out x (List.mem_of_getElem? hx)
    obtain ⟨k0, f0, g0, N0, xa, xc, ln⟩ := x
    have HXR : Hid (RdN w xa ln) := hxo.2.1
    have hcs : ∀ (q : Nat) (v : Value), (nxA ⟨k0, f0, g0, N0, xa, xc, ln⟩)[q]? = some v → wr.cell? ⟨xb, off + i * 8 + q, none⟩ = some v := fun q v hv => (hbw.cell (p := ⟨xb, off + i * 8 + q, none⟩) hxlt).trans (HAT.out i _ hx q v hv)
    have c0 : wr.cell? ⟨xb, off + i * 8, none⟩ = some (.int .i64 k0) := hcs 0 _ rfl
    have c1 : wr.cell? ⟨xb, off + i * 8 + 1, none⟩ = some (.int .i64 f0) := hcs 1 _ rfl
    have c2' : wr.cell? ⟨xb, off + i * 8 + 2, none⟩ = some (.int .i64 g0) := hcs 2 _ rfl
    have c3 : wr.cell? ⟨xb, off + i * 8 + 3, none⟩ = some (.int .u32 (wd N0 0 : Nat)) := hcs 3 _ rfl
    have c4' : wr.cell? ⟨xb, off + i * 8 + 4, none⟩ = some (.int .u32 (wd N0 1 : Nat)) := hcs 4 _ rfl
    have c5 : wr.cell? ⟨xb, off + i * 8 + 5, none⟩ = some (.int .u32 (wd N0 2 : Nat)) := hcs 5 _ rfl
    have c6 : wr.cell? ⟨xb, off + i * 8 + 6, none⟩ = some (.int .u32 (wd N0 3 : Nat)) := hcs 6 _ rfl
    have c7' : wr.cell? ⟨xb, off + i * 8 + 7, none⟩ = some (.slice xa ln.length xc) := hcs 7 _ rfl
    have hii : (i : Int) < (l0.length : Int) := by omega
    have hi0 : (0 : Int) ≤ (i : Int) := by omega
    have hki : ∀ W, Calls Tryz.prog 5 #[rnv k0 f0 g0 N0 (.slice xa ln.length xc)] W fun e w' => e = .returned (rnv (kdN k0) f0 (krN k0 g0) (kNN k0 N0) (.slice xa ln.length xc)) ∧ Below W.heap.size W w' := fun W => kind_any k0 f0 g0 N0 xa ln.length xc W
    obtain ⟨hk, hk3, hk2, hN⟩ := kd_facts k0 g0 N0 hxo.1
    obtain ⟨kd, hkd⟩ : ∃ x, kdN k0 = x := ⟨_, rfl⟩
    obtain ⟨r, hr⟩ : ∃ x, krN k0 g0 = x := ⟨_, rfl⟩
    obtain ⟨N, hNN⟩ : ∃ x, kNN k0 N0 = x := ⟨_, rfl⟩
    rw [hkd, hr, hNN] at hki
    rw [hkd] at hk hk3 hk2
    rw [hr] at hk3
    rw [hNN] at hk2 hN
    clear hkd hr hNN hcs hx hxo hi
    unfold rnv at hki
    have HW : Hid (Below w.heap.size w wr) := hbw
    have HK : Hid (BkL w.heap.size bb wr.heap.size wr.heap.size wr) := hbk
    have HN : Hid (wr.heap.size ≤ wr.heap.size) := Nat.le_refl _
    have HY : Hid (wr.heap.size ≤ wr.heap.size) := Nat.le_refl _
    clear hbk
    by_cases h120 : 120 < ln.length
    · have h120i : (120 : Int) < (ln.length : Int) := by omega
      go_wp2_with (go_at_call 5; (with_reducible refine (hki _).mono ?_); rintro e y1 ⟨rfl, hb⟩; replace HW := hidI (bel2 HW.out hb); clear hb; obtain ⟨V1, hV1⟩ : ∃ V, y1.alloc (.cells #[.int .i64 (kd : Int), .int .i64 f0, .int .i64 r, .int .u32 (wd N 0 : Nat), .int .u32 (wd N 1 : Nat), .int .u32 (wd N 2 : Nat), .int .u32 (wd N 3 : Nat), .slice xa ln.length xc] 44) = V := ⟨_, rfl⟩; have hz : Below y1.heap.size y1 V1 := (by rw [← hV1]; exact al1' _ _); replace HW := hidI (bel2 HW.out hz); clear hz; have HX7 : Hid (RB V1 y1.heap.size (kd : Int) f0 r N (.slice xa ln.length xc)) := (by rw [← hV1]; exact new_at rfl); (try clear d0 d1 d2 d3 d4 d5 d6 d7); obtain ⟨d0, d1, d2, d3, d4, d5, d6, d7⟩ := HX7.out.cells)
      go_ret
      exact ⟨rfl, HW.out⟩
    have h120i : ¬ (120 : Int) < (ln.length : Int) := by omega
    have hln : ln.length ≤ 1000000 := by omega
    obtain ⟨T, FB, FN, X, hX, hm1, hm2, hn1e, hn2e, hby0, hno0, hpn0⟩ := note_abs kd hk f0 r N hN hk3 hk2 ln (by omega)
    by_cases hf : flt kd a1 f0 r N ln = 0
    case neg =>
      obtain ⟨er, hde0⟩ := dec_nil a1
      have her := dec_err hde0
      have hlay : ∀ W, Calls Tryz.prog 6 #[.agg #[.int .i64 (kd : Int), .int .i64 f0, .int .i64 r, .int .u32 (wd N 0 : Nat), .int .u32 (wd N 1 : Nat), .int .u32 (wd N 2 : Nat), .int .u32 (wd N 3 : Nat), .slice xa ln.length xc]] W fun e w' => e = .returned (.iface T (X (.slice xa ln.length xc))) ∧ Below W.heap.size W w' := fun W => by
        have := lay_any kd f0 r N xa ln.length xc W
        rw [hX] at this
        exact this
      obtain ⟨FV, hFV⟩ : ∃ FV, flt kd a1 f0 r N ln = FV := ⟨_, rfl⟩
      have hby : ∀ (W : World) (a : Option Addr) (c : Nat), RdN W a ln → Calls Tryz.prog FB #[X (.slice a ln.length c), .int .i64 a1] W fun e W' => ∃ b2 c2, e = .returned (.tuple #[.slice b2 0 c2, .int .i64 FV]) ∧ W'.ownsRow W.heap.size 5 1 (.slice b2 0 c2) 0 (cB []) ∧ Below W.heap.size W W' := fun W a c h => (hby0 a1 a c W h).mono (fun e W' q => by rw [← hFV]; exact bo_none q hf)
      have hrb : ∀ (W : World), RdN W xa ln → Calls Tryz.prog 7 #[.agg #[.int .i64 (kd : Int), .int .i64 f0, .int .i64 r, .int .u32 (wd N 0 : Nat), .int .u32 (wd N 1 : Nat), .int .u32 (wd N 2 : Nat), .int .u32 (wd N 3 : Nat), .slice xa ln.length xc], .int .i64 a1] W fun e W' => ∃ b2 c2, e = .returned (.tuple #[.slice b2 0 c2, .int .i64 FV]) ∧ Below W.heap.size W W' := fun W h => (rbytes_any kd hk a1 f0 r N hN hk3 hk2 xa xc ln W h (by omega)).mono (fun e W' q => by rw [← hFV]; exact bo_no q hf)
      have hsb : ∀ (W : World) (b2 b3 : Option Addr) (c2 c3 : Nat), Calls Tryz.prog 8 #[.slice b2 0 c2, .slice b3 0 c3] W fun e w' => e = .returned (.bool true) ∧ Below W.heap.size W w' := fun W b2 b3 c2 c3 => sameB_yes b2 b3 c2 c3 [] W (fun q => absurd rfl q) (fun q => absurd rfl q) (by simp)
      have hde : ∀ (W : World) (b4 : Option Addr) (c4 : Nat), Calls Tryz.prog 10 #[.slice b4 0 c4, .int .i64 a1] W fun e W' => e = .returned (.tuple #[.nilIface, .int .i64 er]) ∧ Below W.heap.size W W' := fun W b4 c4 => by
        have := decode_any b4 c4 [] a1 W (fun q => absurd rfl q) byt_nil (Nat.zero_le _)
        unfold DcO at this
        rw [hde0] at this
        exact this
      have hop : ∀ (W : World) (b4 : Option Addr) (c4 : Nat), Calls Tryz.prog 12 #[.slice b4 0 c4, .int .i64 a1] W fun e W' => e = .returned (.tuple #[.agg #[.nilIface], .int .i64 er]) ∧ Below W.heap.size W W' := fun W b4 c4 => open_err b4 c4 [] a1 W (fun q => absurd rfl q) byt_nil (Nat.zero_le _) er hde0
      have hpn := pnote_nil
      have hna := as_nil
      unfold rnv at hna
      have hfi : (FV == 0) = false := by rw [← hFV]; simpa using hf
      clear hf hFV hby0 hno0 hpn0 hm2 hX hk hk3 hk2 hN her hde0
      as_aux_lemma =>
        go_wp2_with (first
          | (go_at_call 15; have m := st16; (with_reducible refine (keepN0 HK.out HW.out.size hbb).mono ?_); rintro e y18 ⟨rfl, hk, hab⟩; replace HK := hidI hk; replace HW := hidI (HW.out.trans hab.low); replace HN := hidI (Nat.le_trans HN.out hab.low.size); replace HMb := hidI (Nat.le_trans HMb.out hab.low.size); replace HX18 := hidI (HX18.out.ab hab (by decide)); clear hab; clear hk; (try clear p0 p1 p2 p3 p4 p5 p6 p7); clear st16; have st17 := True.intro)
          | (have m := st15s; refine wpList_store_row rfl 44 (.tmp 18) (.tmp 128) rfl y11.heap.size #[.int .i64 0, .int .i64 0, .int .i64 0, .int .u32 (wd 0 0 : Nat), .int .u32 (wd 0 1 : Nat), .int .u32 (wd 0 2 : Nat), .int .u32 (wd 0 3 : Nat), .slice none 0 0] rfl rfl 44 _ HX18.out infoNx rfl (by simp [Value.oneCell']) ?_; obtain ⟨gX, gW, gO, gs⟩ := nt_store HX18.out HW.out H18.out #[.int .i64 0, .int .i64 0, .int .i64 0, .int .u32 (wd 0 0 : Nat), .int .u32 (wd 0 1 : Nat), .int .u32 (wd 0 2 : Nat), .int .u32 (wd 0 3 : Nat), .slice none 0 0]; obtain ⟨V17, hV17⟩ : ∃ V, y17.setRow y11.heap.size #[.int .i64 0, .int .i64 0, .int .i64 0, .int .u32 (wd 0 0 : Nat), .int .u32 (wd 0 1 : Nat), .int .u32 (wd 0 2 : Nat), .int .u32 (wd 0 3 : Nat), .slice none 0 0] = V := ⟨_, rfl⟩; rw [hV17] at gX gW gO gs; rw [hV17]; have gK := HK.out.nt HX18.out gO; replace HX18 : Hid (RB V17 y11.heap.size 0 0 0 0 (.slice none 0 0)) := gX; replace HW := hidI gW; replace HK := hidI gK; replace HMb := hidI (Nat.le_trans HMb.out gs); replace HN := hidI (Nat.le_trans HN.out gs); clear gX gW gK gs gO hV17 HP; have p7 := HX18.out.cells.2.2.2.2.2.2.2; clear st15s; have st16 := True.intro)
          | (go_at_call 11; have m := st15; (with_reducible refine (hna _).mono ?_); rintro e y17 ⟨rfl, hb⟩; replace HW := hidI (bel2 HW.out hb); replace HN := hidI (Nat.le_trans HN.out hb.size); replace HMb := hidI (Nat.le_trans HMb.out hb.size); replace HP := hidI (hp_keep HP.out hb); replace HX18 := hidI (HX18.out.below hb); replace HK := hidI (HK.out.carry hb); clear hb; clear st15; have st15s := True.intro)
          | (go_at_call 13; have m := st14; (with_reducible refine (hpn _).mono ?_); rintro e y16 ⟨rfl, hb⟩; replace HW := hidI (bel2 HW.out hb); replace HN := hidI (Nat.le_trans HN.out hb.size); replace HMb := hidI (Nat.le_trans HMb.out hb.size); replace HP := hidI (hp_keep HP.out hb); replace HX18 := hidI (HX18.out.below hb); replace HK := hidI (HK.out.carry hb); clear hb; clear cp st14; have st15 := True.intro)
          | (go_at_call 15; have m := st13; (with_reducible refine (keepN0 HK.out HW.out.size hbb).mono ?_); rintro e y15 ⟨rfl, hk, hab⟩; replace HK := hidI hk; replace HW := hidI (HW.out.trans hab.low); replace HN := hidI (Nat.le_trans HN.out hab.low.size); replace HMb := hidI (Nat.le_trans HMb.out hab.low.size); replace HP := hidI (hab.box HP.out (by decide) (by decide)); replace HX18 := hidI (HX18.out.ab hab (by decide)); clear hab; clear hk; (try clear p0 p1 p2 p3 p4 p5 p6 p7); have cp := cell_at HP.out 0; simp at cp; clear st13; have st14 := True.intro)
          | (go_at_call 15; have m := st12; (with_reducible refine (keepN0 HK.out HW.out.size hbb).mono ?_); rintro e y14 ⟨rfl, hk, hab⟩; replace HK := hidI hk; replace HW := hidI (HW.out.trans hab.low); replace HN := hidI (Nat.le_trans HN.out hab.low.size); replace HMb := hidI (Nat.le_trans HMb.out hab.low.size); replace HP := hidI (hab.box HP.out (by decide) (by decide)); replace HX18 := hidI (HX18.out.ab hab (by decide)); clear hab; clear hk; (try clear p0 p1 p2 p3 p4 p5 p6 p7); clear HX14; (try clear p0 p1 p2 p3 p4 p5 p6 p7); obtain ⟨p0, p1, p2, p3, p4, p5, p6, p7⟩ := HX18.out.cells; clear st12; have st13 := True.intro)
          | (go_at_call 11; have m := st9; (with_reducible refine (hna _).mono ?_); rintro e y11 ⟨rfl, hb⟩; replace HW := hidI (bel2 HW.out hb); replace HN := hidI (Nat.le_trans HN.out hb.size); replace HMb := hidI (Nat.le_trans HMb.out hb.size); replace HK := hidI (HK.out.carry hb); replace HX14 := hidI (HX14.out.below hb); replace HP := hidI (hp_keep HP.out hb); clear hb; have H18 := hidI HW.out.size; have hz : Below y11.heap.size y11 (y11.alloc (.cells #[.int .i64 0, .int .i64 0, .int .i64 0, .int .u32 (wd 0 0 : Nat), .int .u32 (wd 0 1 : Nat), .int .u32 (wd 0 2 : Nat), .int .u32 (wd 0 3 : Nat), .slice none 0 0] 44)) := al1' _ _; replace HW := hidI (bel2 HW.out hz); replace HN := hidI (Nat.le_trans HN.out hz.size); replace HMb := hidI (Nat.le_trans HMb.out hz.size); replace HK := hidI (HK.out.carry hz); replace HX14 := hidI (HX14.out.below hz); replace HP := hidI (hp_keep HP.out hz); clear hz; have HX18 : Hid (RB (y11.alloc (.cells #[.int .i64 0, .int .i64 0, .int .i64 0, .int .u32 (wd 0 0 : Nat), .int .u32 (wd 0 1 : Nat), .int .u32 (wd 0 2 : Nat), .int .u32 (wd 0 3 : Nat), .slice none 0 0] 44)) y11.heap.size 0 0 0 0 (.slice none 0 0)) := (new_at rfl); (try clear p0 p1 p2 p3 p4 p5 p6 p7); obtain ⟨p0, p1, p2, p3, p4, p5, p6, p7⟩ := HX14.out.cells; clear st9; have st12 := True.intro)
          | (go_at_call 13; have m := st8; (with_reducible refine (hpn _).mono ?_); rintro e y10 ⟨rfl, hb⟩; replace HW := hidI (bel2 HW.out hb); replace HN := hidI (Nat.le_trans HN.out hb.size); replace HMb := hidI (Nat.le_trans HMb.out hb.size); replace HK := hidI (HK.out.carry hb); replace HX14 := hidI (HX14.out.below hb); replace HP := hidI (hp_keep HP.out hb); clear hb; clear cp st8; have st9 := True.intro)
          | (go_at_call 12; (with_reducible refine (hop _ _ _).mono ?_); rintro e y9 ⟨rfl, hb⟩; replace HW := hidI (bel2 HW.out hb); replace HN := hidI (Nat.le_trans HN.out hb.size); replace HMb := hidI (Nat.le_trans HMb.out hb.size); replace HK := hidI (HK.out.carry hb); replace HX14 := hidI (HX14.out.below hb); clear hb; have hz : Below y9.heap.size y9 (y9.alloc (.cells #[.nilIface] 61)) := al1' _ _; replace HW := hidI (bel2 HW.out hz); replace HN := hidI (Nat.le_trans HN.out hz.size); replace HMb := hidI (Nat.le_trans HMb.out hz.size); replace HK := hidI (HK.out.carry hz); replace HX14 := hidI (HX14.out.below hz); clear hz; have HP : Hid ((y9.alloc (.cells #[.nilIface] 61)).heap[y9.heap.size]? = some (.cells #[.nilIface] 61 (0, 0))) := (new_at rfl); have cp := cell_at HP.out 0; simp at cp; have st8 := True.intro)
          | (go_at_call 11; have m := st6; (with_reducible refine (hna _).mono ?_); rintro e y8 ⟨rfl, hb⟩; replace HW := hidI (bel2 HW.out hb); replace HN := hidI (Nat.le_trans HN.out hb.size); replace HMb := hidI (Nat.le_trans HMb.out hb.size); replace HK := hidI (HK.out.carry hb); clear hb; have hz : Below y8.heap.size y8 (y8.alloc (.cells #[.int .i64 0, .int .i64 0, .int .i64 0, .int .u32 (wd 0 0 : Nat), .int .u32 (wd 0 1 : Nat), .int .u32 (wd 0 2 : Nat), .int .u32 (wd 0 3 : Nat), .slice none 0 0] 44)) := al1' _ _; replace HW := hidI (bel2 HW.out hz); replace HN := hidI (Nat.le_trans HN.out hz.size); replace HMb := hidI (Nat.le_trans HMb.out hz.size); replace HK := hidI (HK.out.carry hz); clear hz; have HX14 : Hid (RB (y8.alloc (.cells #[.int .i64 0, .int .i64 0, .int .i64 0, .int .u32 (wd 0 0 : Nat), .int .u32 (wd 0 1 : Nat), .int .u32 (wd 0 2 : Nat), .int .u32 (wd 0 3 : Nat), .slice none 0 0] 44)) y8.heap.size 0 0 0 0 (.slice none 0 0)) := (new_at rfl); clear st6)
          | (go_at_call 10; (with_reducible refine (hde _ _ _).mono ?_); rintro e y7 ⟨rfl, hb⟩; replace HW := hidI (bel2 HW.out hb); replace HN := hidI (Nat.le_trans HN.out hb.size); replace HMb := hidI (Nat.le_trans HMb.out hb.size); replace HK := hidI (HK.out.carry hb); clear hb; have st6 := True.intro)
          | (go_at_call 9; (with_reducible refine (keepB0 HK.out HW.out.size hbb HBb.out HBi.out HTb.out).mono ?_); rintro e y6 ⟨rfl, hk, hab⟩; replace HK := hidI hk; replace HW := hidI (HW.out.trans hab.low); replace HN := hidI (Nat.le_trans HN.out hab.low.size); replace HMb := hidI (Nat.le_trans HMb.out hab.low.size); clear hab; clear hk HBb HBi HY HTb)
          | (go_at_call 8; (with_reducible refine (hsb _ _ _ _ _).mono ?_); rintro e y5 ⟨rfl, hb⟩; replace HW := hidI (bel2 HW.out hb); replace HK := hidI (HK.out.carry hb); replace HN := hidI (Nat.le_trans HN.out hb.size); replace HY := hidI (Nat.le_trans HY.out hb.size); replace HBb := hidI (Kel.row_below HBb.out hb); replace HMb := hidI (Nat.le_trans HMb.out hb.size); clear hb)
          | (go_at_call 7; (with_reducible refine (hrb _ HRN.out).mono ?_); rintro e y4 ⟨b4, c4, rfl, hb⟩; replace HW := hidI (bel2 HW.out hb); replace HK := hidI (HK.out.carry hb); replace HN := hidI (Nat.le_trans HN.out hb.size); replace HY := hidI (Nat.le_trans HY.out hb.size); replace HX7 := hidI (HX7.out.below hb); replace HBb := hidI (Kel.row_below HBb.out hb); replace HMb := hidI (Nat.le_trans HMb.out hb.size); clear hb; clear HRN; (try clear d0 d1 d2 d3 d4 d5 d6 d7); clear HX7)
          | ((with_reducible refine (hby _ _ _ HRN.out).mono ?_); rintro e y3 ⟨b2, c2, rfl, ho3, hb⟩; have HBi := hidI (new_in ho3 HY.out); have HTb := hidI (Nat.le_trans HY.out hb.size); have HZs := HW.out.size; replace HW := hidI (bel2 HW.out hb); replace HK := hidI (HK.out.carry hb); replace HN := hidI (Nat.le_trans HN.out hb.size); replace HY := hidI (Nat.le_trans HY.out hb.size); replace HX7 := hidI (HX7.out.below hb); clear hb; have HBb := hidI (Kel.row_base ho3 HZs); have HMb := hidI (Nat.le_refl y3.heap.size); clear ho3 HRN HZs; (try clear d0 d1 d2 d3 d4 d5 d6 d7); obtain ⟨d0, d1, d2, d3, d4, d5, d6, d7⟩ := HX7.out.cells; have HRN := hidI (HXR.out.carry HW.out))
          | (go_at_call 6; (with_reducible refine (hlay _).mono ?_); rintro e y2 ⟨rfl, hb⟩; replace HW := hidI (bel2 HW.out hb); replace HK := hidI (HK.out.carry hb); replace HN := hidI (Nat.le_trans HN.out hb.size); replace HY := hidI (Nat.le_trans HY.out hb.size); replace HX7 := hidI (HX7.out.below hb); clear hb; have HRN := hidI (HXR.out.carry HW.out))
          | (go_at_call 5; (with_reducible refine (hki _).mono ?_); rintro e y1 ⟨rfl, hb⟩; replace HW := hidI (bel2 HW.out hb); replace HK := hidI (HK.out.carry hb); replace HN := hidI (Nat.le_trans HN.out hb.size); replace HY := hidI (Nat.le_trans HY.out hb.size); clear hb; obtain ⟨V1, hV1⟩ : ∃ V, y1.alloc (.cells #[.int .i64 (kd : Int), .int .i64 f0, .int .i64 r, .int .u32 (wd N 0 : Nat), .int .u32 (wd N 1 : Nat), .int .u32 (wd N 2 : Nat), .int .u32 (wd N 3 : Nat), .slice xa ln.length xc] 44) = V := ⟨_, rfl⟩; have hz : Below y1.heap.size y1 V1 := (by rw [← hV1]; exact al1' _ _); replace HW := hidI (bel2 HW.out hz); replace HK := hidI (HK.out.carry hz); replace HN := hidI (Nat.le_trans HN.out hz.size); replace HY := hidI (Nat.le_trans HY.out hz.size); clear hz; have HX7 : Hid (RB V1 y1.heap.size (kd : Int) f0 r N (.slice xa ln.length xc)) := (by rw [← hV1]; exact new_at rfl); (try clear d0 d1 d2 d3 d4 d5 d6 d7); obtain ⟨d0, d1, d2, d3, d4, d5, d6, d7⟩ := HX7.out.cells))
        refine ⟨⟨j + 1, by simp, by omega, HW.out, HK.out.up HMb.out HN.out⟩, ?_⟩
        simp [vnatW]
        omega
    obtain ⟨hn, hfr, hrd, _, hri⟩ := flt_0 hf
    obtain ⟨fr, rfl⟩ := Int.eq_ofNat_of_zero_le hfr.1
    obtain ⟨rd, rfl⟩ : ∃ rd : Nat, r = (rd : Int) := by
      rcases hrd with e | e
      · exact ⟨0, by rw [hk3 e]; rfl⟩
      · exact ⟨r.toNat, by omega⟩
    have hn1 : ((a1.toNat : Nat) : Int) = a1 := by omega
    have hf' : flt kd ((a1.toNat : Nat) : Int) fr rd N ln = 0 := by rw [hn1]; exact hf
    have hdo := dec_of (n := a1.toNat) (fr := fr) (rd := rd) (N := N) (l := ln) hk hf' (fun e => by have := hk3 e; omega) hk2
    rw [hn1] at hdo
    obtain ⟨B, hB⟩ : ∃ B, byt7 kd a1.toNat fr rd N ln = B := ⟨_, rfl⟩
    rw [hB] at hdo
    have hBB : Byt B := hB ▸ byt7_byt _ _ _ _ _ _
    have hBs : B.length ≤ 1024 := by rw [← hB]; exact byt7_short hf'
    have hBl : B.length ≤ 1000000 := by omega
    have hlay : ∀ W, Calls Tryz.prog 6 #[.agg #[.int .i64 (kd : Int), .int .i64 (fr : Int), .int .i64 (rd : Int), .int .u32 (wd N 0 : Nat), .int .u32 (wd N 1 : Nat), .int .u32 (wd N 2 : Nat), .int .u32 (wd N 3 : Nat), .slice xa ln.length xc]] W fun e w' => e = .returned (.iface T (X (.slice xa ln.length xc))) ∧ Below W.heap.size W w' := fun W => by
      have := lay_any kd fr rd N xa ln.length xc W
      rw [hX] at this
      exact this
    have hby : ∀ (W : World) (a : Option Addr) (c : Nat), RdN W a ln → Calls Tryz.prog FB #[X (.slice a ln.length c), .int .i64 a1] W fun e W' => ∃ b2 c2, e = .returned (.tuple #[.slice b2 B.length c2, .int .i64 0]) ∧ W'.ownsRow W.heap.size 5 1 (.slice b2 B.length c2) B.length (cB B) ∧ B.length ≤ c2 ∧ Below W.heap.size W W' := fun W a c h => (hby0 a1 a c W h).mono (fun e W' q => by
      obtain ⟨b2, c2, q1, q5, _, q4, q3⟩ := bo_ok q hf
      rw [hB] at q1 q4 q5
      exact ⟨b2, c2, q1, q5, q4, q3⟩)
    have hrb : ∀ (W : World), RdN W xa ln → Calls Tryz.prog 7 #[.agg #[.int .i64 (kd : Int), .int .i64 (fr : Int), .int .i64 (rd : Int), .int .u32 (wd N 0 : Nat), .int .u32 (wd N 1 : Nat), .int .u32 (wd N 2 : Nat), .int .u32 (wd N 3 : Nat), .slice xa ln.length xc], .int .i64 a1] W fun e W' => ∃ b2 c2, e = .returned (.tuple #[.slice b2 B.length c2, .int .i64 0]) ∧ W'.ownsRow W.heap.size 5 1 (.slice b2 B.length c2) B.length (cB B) ∧ B.length ≤ c2 ∧ Below W.heap.size W W' := fun W h => (rbytes_any kd hk a1 fr rd N hN hk3 hk2 xa xc ln W h (by omega)).mono (fun e W' q => by
      obtain ⟨b2, c2, q1, q5, _, q4, q3⟩ := bo_ok q hf
      rw [hB] at q1 q4 q5
      exact ⟨b2, c2, q1, q5, q4, q3⟩)
    have hsb : ∀ (W : World) (b2 b3 : Option Addr) (c2 c3 : Nat), RdB W b2 B → RdB W b3 B → Calls Tryz.prog 8 #[.slice b2 B.length c2, .slice b3 B.length c3] W fun e w' => e = .returned (.bool true) ∧ Below W.heap.size W w' := fun W b2 b3 c2 c3 h1 h2 => sameB_yes b2 b3 c2 c3 B W h1 h2 (by omega)
    have hde : ∀ (W : World) (b4 : Option Addr) (c4 : Nat), RdB W b4 B → B.length ≤ c4 → Calls Tryz.prog 10 #[.slice b4 B.length c4, .int .i64 a1] W fun e W' => ∃ a c, e = .returned (.tuple #[.iface T (X (.slice a ln.length c)), .int .i64 0]) ∧ W'.ownsRow W.heap.size 80 3 (.slice a ln.length c) ln.length (fl ln) ∧ Below W.heap.size W W' := fun W b4 c4 h1 h2 => by
      have := decode_any b4 c4 B a1 W h1 hBB h2
      unfold DcO at this
      rw [hdo] at this
      refine this.mono ?_
      rintro e W' ⟨a, c, q1, q2, q3⟩
      rw [hX] at q1
      exact ⟨a, c, q1, q2, q3⟩
    have hop : ∀ (W : World) (b4 : Option Addr) (c4 : Nat), RdB W b4 B → B.length ≤ c4 → Calls Tryz.prog 12 #[.slice b4 B.length c4, .int .i64 a1] W fun e W' => ∃ a c, e = .returned (.tuple #[.agg #[.iface T (X (.slice a ln.length c))], .int .i64 0]) ∧ W'.ownsRow W.heap.size 80 3 (.slice a ln.length c) ln.length (fl ln) ∧ Below W.heap.size W W' := fun W b4 c4 h1 h2 => (open_ok b4 c4 B a1 W h1 hBB h2 kd fr rd N ln hdo).mono (by
      rintro e W' ⟨a, c, q1, q2, q3⟩
      rw [hX] at q1
      exact ⟨a, c, q1, q2, q3⟩)
    have hpn : ∀ (W : World) (a : Option Addr) (c : Nat), RdN W a ln → Calls Tryz.prog 13 #[.agg #[.iface T (X (.slice a ln.length c))]] W fun e W' => ∃ a2 c2, e = .returned (.iface T (X (.slice a2 ln.length c2))) ∧ W'.ownsRow W.heap.size 80 3 (.slice a2 ln.length c2) ln.length (fl ln) ∧ Below W.heap.size W W' := fun W a c h => hpn0 a c W h
    have hno : ∀ (W : World) (a : Option Addr) (c : Nat), RdN W a ln → Calls Tryz.prog FN #[X (.slice a ln.length c)] W fun e W' => ∃ a2 c2, e = .returned (.slice a2 ln.length c2) ∧ W'.ownsRow W.heap.size 80 3 (.slice a2 ln.length c2) ln.length (fl ln) ∧ Below W.heap.size W W' := fun W a c h => hno0 a c W h
    have has : ∀ (W : World) (a : Option Addr) (c : Nat), Calls Tryz.prog 11 #[.iface T (X (.slice a ln.length c))] W fun e w' => e = .returned (.tuple #[.agg #[.int .i64 (kd : Int), .int .i64 (fr : Int), .int .i64 (rd : Int), .int .u32 (wd N 0 : Nat), .int .u32 (wd N 1 : Nat), .int .u32 (wd N 2 : Nat), .int .u32 (wd N 3 : Nat), .slice a ln.length c], .bool true]) ∧ Below W.heap.size W w' := fun W a c => by
      have := as_any kd hk fr rd N hk3 hk2 a ln.length c W
      rw [hX] at this
      exact this
    have hsn : ∀ (W : World) (a : Option Addr) (c : Nat), RdN W a ln → RdN W xa ln → Calls Tryz.prog 14 #[.agg #[.int .i64 (kd : Int), .int .i64 (fr : Int), .int .i64 (rd : Int), .int .u32 (wd N 0 : Nat), .int .u32 (wd N 1 : Nat), .int .u32 (wd N 2 : Nat), .int .u32 (wd N 3 : Nat), .slice a ln.length c], .agg #[.int .i64 (kd : Int), .int .i64 (fr : Int), .int .i64 (rd : Int), .int .u32 (wd N 0 : Nat), .int .u32 (wd N 1 : Nat), .int .u32 (wd N 2 : Nat), .int .u32 (wd N 3 : Nat), .slice xa ln.length xc]] W fun e w' => e = .returned (.bool true) ∧ Below W.heap.size W w' := fun W a c h1 h2 => samen_any (kd : Int) fr rd N hN a xa c xc ln W h1 h2 (by omega)
    clear hf hf' hdo hB hBB hby0 hno0 hpn0 hX hk hk3 hk2 hN hn hfr hrd hri hn1
    as_aux_lemma =>
      go_wp2_with (first
        | (go_at_call 15; have m := st18; (with_reducible refine (keepN HK.out HW.out.size hbb HE.out hln HEi.out HTe.out).mono ?_); rintro e y20 ⟨rfl, hk, hab⟩; replace HK := hidI hk; replace HW := hidI (HW.out.trans hab.low); replace HMb := hidI (Nat.le_trans HMb.out hab.low.size); replace HZ := hidI (hab.own HZ.out (by decide) (by decide)); replace HX18 := hidI (HX18.out.ab hab (by decide)); replace HD := hidI (hab.own HD.out (by decide) (by decide)); replace HMd := hidI (Nat.le_trans HMd.out hab.low.size); replace HE := hidI (hab.own HE.out (by decide) (by decide)); replace HMe := hidI (Nat.le_trans HMe.out hab.low.size); clear hab; clear hk; (try clear p0 p1 p2 p3 p4 p5 p6 p7); clear st18; have st19 := True.intro)
        | (have m := st17; (with_reducible refine (hno _ _ _ (RdN.own HZ.out)).mono ?_); rintro e y19 ⟨a19, c19, rfl, ho19, hb⟩; have HEi := hidI (new_in ho19 HMd.out); have HTe := hidI (Nat.le_trans HMd.out hb.size); have HZs := HW.out.size; replace HW := hidI (bel2 HW.out hb); replace HMb := hidI (Nat.le_trans HMb.out hb.size); replace HZ := hidI (Kel.row_below HZ.out hb); replace HX18 := hidI (HX18.out.below hb); replace HD := hidI (Kel.row_below HD.out hb); replace HMd := hidI (Nat.le_trans HMd.out hb.size); replace HK := hidI (HK.out.carry hb); clear hb; have HE := hidI (Kel.row_base ho19 HZs); have HMe := hidI (Nat.le_refl y19.heap.size); clear ho19 HZs st17; have st18 := True.intro)
        | (go_at_call 15; have m := st16; (with_reducible refine (keepN HK.out HW.out.size hbb HD.out hln HDi.out HTd.out).mono ?_); rintro e y18 ⟨rfl, hk, hab⟩; replace HK := hidI hk; replace HW := hidI (HW.out.trans hab.low); replace HMb := hidI (Nat.le_trans HMb.out hab.low.size); replace HZ := hidI (hab.own HZ.out (by decide) (by decide)); replace HX18 := hidI (HX18.out.ab hab (by decide)); replace HD := hidI (hab.own HD.out (by decide) (by decide)); replace HMd := hidI (Nat.le_trans HMd.out hab.low.size); clear hab; clear hk; (try clear p0 p1 p2 p3 p4 p5 p6 p7); clear st16; have st17 := True.intro)
        | (have m := st15s; refine wpList_store_row rfl 44 (.tmp 18) (.tmp 128) rfl y11.heap.size #[.int .i64 (kd : Int), .int .i64 (fr : Int), .int .i64 (rd : Int), .int .u32 (wd N 0 : Nat), .int .u32 (wd N 1 : Nat), .int .u32 (wd N 2 : Nat), .int .u32 (wd N 3 : Nat), .slice a16 ln.length c16] rfl rfl 44 _ HX18.out infoNx rfl (by simp [Value.oneCell']) ?_; obtain ⟨gX, gW, gO, gs⟩ := nt_store HX18.out HW.out H18.out #[.int .i64 (kd : Int), .int .i64 (fr : Int), .int .i64 (rd : Int), .int .u32 (wd N 0 : Nat), .int .u32 (wd N 1 : Nat), .int .u32 (wd N 2 : Nat), .int .u32 (wd N 3 : Nat), .slice a16 ln.length c16]; obtain ⟨V17, hV17⟩ : ∃ V, y17.setRow y11.heap.size #[.int .i64 (kd : Int), .int .i64 (fr : Int), .int .i64 (rd : Int), .int .u32 (wd N 0 : Nat), .int .u32 (wd N 1 : Nat), .int .u32 (wd N 2 : Nat), .int .u32 (wd N 3 : Nat), .slice a16 ln.length c16] = V := ⟨_, rfl⟩; rw [hV17] at gX gW gO gs; rw [hV17]; have gK := HK.out.nt HX18.out gO; have gZ := nt_row HZ.out HX18.out gO (by decide); have gD := nt_row HD.out HX18.out gO (by decide); replace HX18 : Hid (RB V17 y11.heap.size (kd : Int) (fr : Int) (rd : Int) N (.slice a16 ln.length c16)) := gX; replace HW := hidI gW; replace HK := hidI gK; replace HZ := hidI gZ; replace HD := hidI gD; replace HMb := hidI (Nat.le_trans HMb.out gs); replace HMd := hidI (Nat.le_trans HMd.out gs); clear gX gW gK gZ gD gs gO hV17 HP HPr HA HMz HMa HN; have p7 := HX18.out.cells.2.2.2.2.2.2.2; clear st15s; have st16 := True.intro)
        | (go_at_call 11; have m := st15; (with_reducible refine (has _ _ _).mono ?_); rintro e y17 ⟨rfl, hb⟩; replace HW := hidI (bel2 HW.out hb); replace HN := hidI (Nat.le_trans HN.out hb.size); replace HMb := hidI (Nat.le_trans HMb.out hb.size); replace HZ := hidI (Kel.row_below HZ.out hb); replace HMz := hidI (Nat.le_trans HMz.out hb.size); replace HPr := hidI (Kel.row_below HPr.out hb); replace HP := hidI (hp_keep HP.out hb); replace HA := hidI (Kel.row_below HA.out hb); replace HMa := hidI (Nat.le_trans HMa.out hb.size); replace HX18 := hidI (HX18.out.below hb); replace HK := hidI (HK.out.carry hb); replace HD := hidI (Kel.row_below HD.out hb); replace HMd := hidI (Nat.le_trans HMd.out hb.size); clear hb; clear st15; have st15s := True.intro)
        | (go_at_call 13; have m := st14; (with_reducible refine (hpn _ _ _ (RdN.own HPr.out)).mono ?_); rintro e y16 ⟨a16, c16, rfl, ho16, hb⟩; have HDi := hidI (new_in ho16 HMa.out); have HTd := hidI (Nat.le_trans HMa.out hb.size); have HZs := HW.out.size; replace HW := hidI (bel2 HW.out hb); replace HN := hidI (Nat.le_trans HN.out hb.size); replace HMb := hidI (Nat.le_trans HMb.out hb.size); replace HZ := hidI (Kel.row_below HZ.out hb); replace HMz := hidI (Nat.le_trans HMz.out hb.size); replace HPr := hidI (Kel.row_below HPr.out hb); replace HP := hidI (hp_keep HP.out hb); replace HA := hidI (Kel.row_below HA.out hb); replace HMa := hidI (Nat.le_trans HMa.out hb.size); replace HX18 := hidI (HX18.out.below hb); replace HK := hidI (HK.out.carry hb); clear hb; have HD := hidI (Kel.row_base ho16 HZs); have HMd := hidI (Nat.le_refl y16.heap.size); clear ho16 HZs cp st14; have st15 := True.intro)
        | (go_at_call 15; have m := st13; (with_reducible refine (keepN HK.out HW.out.size hbb HA.out hln HAi.out HTa.out).mono ?_); rintro e y15 ⟨rfl, hk, hab⟩; replace HK := hidI hk; replace HW := hidI (HW.out.trans hab.low); replace HN := hidI (Nat.le_trans HN.out hab.low.size); replace HMb := hidI (Nat.le_trans HMb.out hab.low.size); replace HZ := hidI (hab.own HZ.out (by decide) (by decide)); replace HMz := hidI (Nat.le_trans HMz.out hab.low.size); replace HPr := hidI (hab.own HPr.out (by decide) (by decide)); replace HP := hidI (hab.box HP.out (by decide) (by decide)); replace HA := hidI (hab.own HA.out (by decide) (by decide)); replace HMa := hidI (Nat.le_trans HMa.out hab.low.size); replace HX18 := hidI (HX18.out.ab hab (by decide)); clear hab; clear hk; (try clear p0 p1 p2 p3 p4 p5 p6 p7); have cp := cell_at HP.out 0; simp at cp; clear st13; have st14 := True.intro)
        | (go_at_call 15; have m := st12; (with_reducible refine (keepN HK.out HW.out.size hbb HZ.out hln HZi.out HTz.out).mono ?_); rintro e y14 ⟨rfl, hk, hab⟩; replace HK := hidI hk; replace HW := hidI (HW.out.trans hab.low); replace HN := hidI (Nat.le_trans HN.out hab.low.size); replace HMb := hidI (Nat.le_trans HMb.out hab.low.size); replace HZ := hidI (hab.own HZ.out (by decide) (by decide)); replace HMz := hidI (Nat.le_trans HMz.out hab.low.size); replace HPr := hidI (hab.own HPr.out (by decide) (by decide)); replace HP := hidI (hab.box HP.out (by decide) (by decide)); replace HA := hidI (hab.own HA.out (by decide) (by decide)); replace HMa := hidI (Nat.le_trans HMa.out hab.low.size); replace HX18 := hidI (HX18.out.ab hab (by decide)); clear hab; clear hk; (try clear p0 p1 p2 p3 p4 p5 p6 p7); clear HX14; (try clear p0 p1 p2 p3 p4 p5 p6 p7); obtain ⟨p0, p1, p2, p3, p4, p5, p6, p7⟩ := HX18.out.cells; clear st12; have st13 := True.intro)
        | (go_at_call 14; have m := st11; (with_reducible refine (hsn _ _ _ (RdN.own HA.out) (HXR.out.carry HW.out)).mono ?_); rintro e y13 ⟨rfl, hb⟩; replace HW := hidI (bel2 HW.out hb); replace HK := hidI (HK.out.carry hb); replace HN := hidI (Nat.le_trans HN.out hb.size); replace HX7 := hidI (HX7.out.below hb); replace HMb := hidI (Nat.le_trans HMb.out hb.size); replace HZ := hidI (Kel.row_below HZ.out hb); replace HMz := hidI (Nat.le_trans HMz.out hb.size); replace HX14 := hidI (HX14.out.below hb); replace HPr := hidI (Kel.row_below HPr.out hb); replace HP := hidI (hp_keep HP.out hb); replace HA := hidI (Kel.row_below HA.out hb); replace HMa := hidI (Nat.le_trans HMa.out hb.size); replace HX18 := hidI (HX18.out.below hb); clear hb; (try clear p0 p1 p2 p3 p4 p5 p6 p7); (try clear d0 d1 d2 d3 d4 d5 d6 d7); clear HX7; (try clear p0 p1 p2 p3 p4 p5 p6 p7); obtain ⟨p0, p1, p2, p3, p4, p5, p6, p7⟩ := HX14.out.cells; clear st11; have st12 := True.intro)
        | (go_at_call 14; have m := st10; (with_reducible refine (hsn _ _ _ (RdN.own HZ.out) (HXR.out.carry HW.out)).mono ?_); rintro e y12 ⟨rfl, hb⟩; replace HW := hidI (bel2 HW.out hb); replace HK := hidI (HK.out.carry hb); replace HN := hidI (Nat.le_trans HN.out hb.size); replace HX7 := hidI (HX7.out.below hb); replace HMb := hidI (Nat.le_trans HMb.out hb.size); replace HZ := hidI (Kel.row_below HZ.out hb); replace HMz := hidI (Nat.le_trans HMz.out hb.size); replace HX14 := hidI (HX14.out.below hb); replace HPr := hidI (Kel.row_below HPr.out hb); replace HP := hidI (hp_keep HP.out hb); replace HA := hidI (Kel.row_below HA.out hb); replace HMa := hidI (Nat.le_trans HMa.out hb.size); replace HX18 := hidI (HX18.out.below hb); clear hb; (try clear p0 p1 p2 p3 p4 p5 p6 p7); (try clear d0 d1 d2 d3 d4 d5 d6 d7); (try clear p0 p1 p2 p3 p4 p5 p6 p7); obtain ⟨p0, p1, p2, p3, p4, p5, p6, p7⟩ := HX18.out.cells; (try clear d0 d1 d2 d3 d4 d5 d6 d7); obtain ⟨d0, d1, d2, d3, d4, d5, d6, d7⟩ := HX7.out.cells; clear st10; have st11 := True.intro)
        | (go_at_call 11; have m := st9; (with_reducible refine (has _ _ _).mono ?_); rintro e y11 ⟨rfl, hb⟩; replace HW := hidI (bel2 HW.out hb); replace HK := hidI (HK.out.carry hb); replace HN := hidI (Nat.le_trans HN.out hb.size); replace HX7 := hidI (HX7.out.below hb); replace HMb := hidI (Nat.le_trans HMb.out hb.size); replace HZ := hidI (Kel.row_below HZ.out hb); replace HMz := hidI (Nat.le_trans HMz.out hb.size); replace HX14 := hidI (HX14.out.below hb); replace HPr := hidI (Kel.row_below HPr.out hb); replace HP := hidI (hp_keep HP.out hb); replace HA := hidI (Kel.row_below HA.out hb); replace HMa := hidI (Nat.le_trans HMa.out hb.size); clear hb; have H18 := hidI HW.out.size; obtain ⟨V11, hV11⟩ : ∃ V, y11.alloc (.cells #[.int .i64 (kd : Int), .int .i64 (fr : Int), .int .i64 (rd : Int), .int .u32 (wd N 0 : Nat), .int .u32 (wd N 1 : Nat), .int .u32 (wd N 2 : Nat), .int .u32 (wd N 3 : Nat), .slice a10 ln.length c10] 44) = V := ⟨_, rfl⟩; have hz : Below y11.heap.size y11 V11 := (by rw [← hV11]; exact al1' _ _); replace HW := hidI (bel2 HW.out hz); replace HK := hidI (HK.out.carry hz); replace HN := hidI (Nat.le_trans HN.out hz.size); replace HX7 := hidI (HX7.out.below hz); replace HMb := hidI (Nat.le_trans HMb.out hz.size); replace HZ := hidI (Kel.row_below HZ.out hz); replace HMz := hidI (Nat.le_trans HMz.out hz.size); replace HX14 := hidI (HX14.out.below hz); replace HPr := hidI (Kel.row_below HPr.out hz); replace HP := hidI (hp_keep HP.out hz); replace HA := hidI (Kel.row_below HA.out hz); replace HMa := hidI (Nat.le_trans HMa.out hz.size); clear hz; have HX18 : Hid (RB V11 y11.heap.size (kd : Int) (fr : Int) (rd : Int) N (.slice a10 ln.length c10)) := (by rw [← hV11]; exact new_at rfl); (try clear p0 p1 p2 p3 p4 p5 p6 p7); obtain ⟨p0, p1, p2, p3, p4, p5, p6, p7⟩ := HX14.out.cells; (try clear d0 d1 d2 d3 d4 d5 d6 d7); obtain ⟨d0, d1, d2, d3, d4, d5, d6, d7⟩ := HX7.out.cells; clear st9; have st10 := True.intro)
        | (go_at_call 13; have m := st8; (with_reducible refine (hpn _ _ _ (RdN.own HPr.out)).mono ?_); rintro e y10 ⟨a10, c10, rfl, ho10, hb⟩; have HAi := hidI (new_in ho10 HMz.out); have HTa := hidI (Nat.le_trans HMz.out hb.size); have HZs := HW.out.size; replace HW := hidI (bel2 HW.out hb); replace HK := hidI (HK.out.carry hb); replace HN := hidI (Nat.le_trans HN.out hb.size); replace HX7 := hidI (HX7.out.below hb); replace HMb := hidI (Nat.le_trans HMb.out hb.size); replace HZ := hidI (Kel.row_below HZ.out hb); replace HMz := hidI (Nat.le_trans HMz.out hb.size); replace HX14 := hidI (HX14.out.below hb); replace HPr := hidI (Kel.row_below HPr.out hb); replace HP := hidI (hp_keep HP.out hb); clear hb; have HA := hidI (Kel.row_base ho10 HZs); have HMa := hidI (Nat.le_refl y10.heap.size); clear ho10 HZs cp st8; have st9 := True.intro)
        | (go_at_call 12; (with_reducible refine (hop _ _ _ (rdB_own HCc.out) hl4).mono ?_); rintro e y9 ⟨a9, c9, rfl, ho9, hb⟩; replace HW := hidI (bel2 HW.out hb); replace HK := hidI (HK.out.carry hb); replace HN := hidI (Nat.le_trans HN.out hb.size); replace HX7 := hidI (HX7.out.below hb); replace HMb := hidI (Nat.le_trans HMb.out hb.size); replace HCc := hidI (Kel.row_below HCc.out hb); replace HZ := hidI (Kel.row_below HZ.out hb); replace HMz := hidI (Nat.le_trans HMz.out hb.size); replace HX14 := hidI (HX14.out.below hb); clear hb; have HPr := hidI ho9; clear ho9; obtain ⟨V9, hV9⟩ : ∃ V, y9.alloc (.cells #[.iface T (X (.slice a9 ln.length c9))] 61) = V := ⟨_, rfl⟩; have hz : Below y9.heap.size y9 V9 := (by rw [← hV9]; exact al1' _ _); replace HW := hidI (bel2 HW.out hz); replace HK := hidI (HK.out.carry hz); replace HN := hidI (Nat.le_trans HN.out hz.size); replace HX7 := hidI (HX7.out.below hz); replace HMb := hidI (Nat.le_trans HMb.out hz.size); replace HCc := hidI (Kel.row_below HCc.out hz); replace HZ := hidI (Kel.row_below HZ.out hz); replace HMz := hidI (Nat.le_trans HMz.out hz.size); replace HX14 := hidI (HX14.out.below hz); replace HPr := hidI (Kel.row_below HPr.out hz); clear hz; have HP : Hid (V9.heap[y9.heap.size]? = some (.cells #[.iface T (X (.slice a9 ln.length c9))] 61 (0, 0))) := (by rw [← hV9]; exact new_at rfl); have cp := cell_at HP.out 0; simp at cp; have st8 := True.intro; clear HCc)
        | (go_at_call 11; have m := st6; (with_reducible refine (has _ _ _).mono ?_); rintro e y8 ⟨rfl, hb⟩; replace HW := hidI (bel2 HW.out hb); replace HK := hidI (HK.out.carry hb); replace HN := hidI (Nat.le_trans HN.out hb.size); replace HX7 := hidI (HX7.out.below hb); replace HMb := hidI (Nat.le_trans HMb.out hb.size); replace HCc := hidI (Kel.row_below HCc.out hb); replace HZ := hidI (Kel.row_below HZ.out hb); replace HMz := hidI (Nat.le_trans HMz.out hb.size); clear hb; obtain ⟨V8, hV8⟩ : ∃ V, y8.alloc (.cells #[.int .i64 (kd : Int), .int .i64 (fr : Int), .int .i64 (rd : Int), .int .u32 (wd N 0 : Nat), .int .u32 (wd N 1 : Nat), .int .u32 (wd N 2 : Nat), .int .u32 (wd N 3 : Nat), .slice a7 ln.length c7] 44) = V := ⟨_, rfl⟩; have hz : Below y8.heap.size y8 V8 := (by rw [← hV8]; exact al1' _ _); replace HW := hidI (bel2 HW.out hz); replace HK := hidI (HK.out.carry hz); replace HN := hidI (Nat.le_trans HN.out hz.size); replace HX7 := hidI (HX7.out.below hz); replace HMb := hidI (Nat.le_trans HMb.out hz.size); replace HCc := hidI (Kel.row_below HCc.out hz); replace HZ := hidI (Kel.row_below HZ.out hz); replace HMz := hidI (Nat.le_trans HMz.out hz.size); clear hz; have HX14 : Hid (RB V8 y8.heap.size (kd : Int) (fr : Int) (rd : Int) N (.slice a7 ln.length c7)) := (by rw [← hV8]; exact new_at rfl); clear st6)
        | (go_at_call 10; (with_reducible refine (hde _ _ _ (rdB_own HCc.out) hl4).mono ?_); rintro e y7 ⟨a7, c7, rfl, ho7, hb⟩; have HZi := hidI (new_in ho7 HN.out); have HTz := hidI (Nat.le_trans HN.out hb.size); have HZs := HW.out.size; replace HW := hidI (bel2 HW.out hb); replace HK := hidI (HK.out.carry hb); replace HN := hidI (Nat.le_trans HN.out hb.size); replace HX7 := hidI (HX7.out.below hb); replace HMb := hidI (Nat.le_trans HMb.out hb.size); replace HCc := hidI (Kel.row_below HCc.out hb); clear hb; have HZ := hidI (Kel.row_base ho7 HZs); have HMz := hidI (Nat.le_refl y7.heap.size); clear ho7 HZs; have st6 := True.intro)
        | (go_at_call 9; (with_reducible refine (keepB HK.out HW.out.size hbb HBb.out hBl HBi.out HTb.out).mono ?_); rintro e y6 ⟨rfl, hk, hab⟩; replace HK := hidI hk; replace HW := hidI (HW.out.trans hab.low); replace HN := hidI (Nat.le_trans HN.out hab.low.size); replace HX7 := hidI (HX7.out.ab hab (by decide)); replace HMb := hidI (Nat.le_trans HMb.out hab.low.size); replace HCc := hidI (hab.own HCc.out (by decide) (by decide)); clear hab; clear hk HBb HBi HY HTb)
        | (go_at_call 8; (with_reducible refine (hsb _ _ _ _ _ (rdB_own HBb.out) (rdB_own HCc.out)).mono ?_); rintro e y5 ⟨rfl, hb⟩; replace HW := hidI (bel2 HW.out hb); replace HK := hidI (HK.out.carry hb); replace HN := hidI (Nat.le_trans HN.out hb.size); replace HY := hidI (Nat.le_trans HY.out hb.size); replace HX7 := hidI (HX7.out.below hb); replace HBb := hidI (Kel.row_below HBb.out hb); replace HMb := hidI (Nat.le_trans HMb.out hb.size); replace HCc := hidI (Kel.row_below HCc.out hb); clear hb)
        | (go_at_call 7; (with_reducible refine (hrb _ HRN.out).mono ?_); rintro e y4 ⟨b4, c4, rfl, ho4, hl4, hb⟩; replace HW := hidI (bel2 HW.out hb); replace HK := hidI (HK.out.carry hb); replace HN := hidI (Nat.le_trans HN.out hb.size); replace HY := hidI (Nat.le_trans HY.out hb.size); replace HX7 := hidI (HX7.out.below hb); replace HBb := hidI (Kel.row_below HBb.out hb); replace HMb := hidI (Nat.le_trans HMb.out hb.size); clear hb; have HCc := hidI ho4; clear ho4 HRN; (try clear d0 d1 d2 d3 d4 d5 d6 d7))
        | ((with_reducible refine (hby _ _ _ HRN.out).mono ?_); rintro e y3 ⟨b2, c2, rfl, ho3, hl3, hb⟩; have HBi := hidI (new_in ho3 HY.out); have HTb := hidI (Nat.le_trans HY.out hb.size); have HZs := HW.out.size; replace HW := hidI (bel2 HW.out hb); replace HK := hidI (HK.out.carry hb); replace HN := hidI (Nat.le_trans HN.out hb.size); replace HY := hidI (Nat.le_trans HY.out hb.size); replace HX7 := hidI (HX7.out.below hb); clear hb; have HBb := hidI (Kel.row_base ho3 HZs); clear HZs; have HMb := hidI (Nat.le_refl y3.heap.size); clear ho3 HRN; (try clear d0 d1 d2 d3 d4 d5 d6 d7); obtain ⟨d0, d1, d2, d3, d4, d5, d6, d7⟩ := HX7.out.cells; have HRN := hidI (HXR.out.carry HW.out))
        | (go_at_call 6; (with_reducible refine (hlay _).mono ?_); rintro e y2 ⟨rfl, hb⟩; replace HW := hidI (bel2 HW.out hb); replace HK := hidI (HK.out.carry hb); replace HN := hidI (Nat.le_trans HN.out hb.size); replace HY := hidI (Nat.le_trans HY.out hb.size); replace HX7 := hidI (HX7.out.below hb); clear hb; have HRN := hidI (HXR.out.carry HW.out))
        | (go_at_call 5; (with_reducible refine (hki _).mono ?_); rintro e y1 ⟨rfl, hb⟩; replace HW := hidI (bel2 HW.out hb); replace HK := hidI (HK.out.carry hb); replace HN := hidI (Nat.le_trans HN.out hb.size); replace HY := hidI (Nat.le_trans HY.out hb.size); clear hb; obtain ⟨V1, hV1⟩ : ∃ V, y1.alloc (.cells #[.int .i64 (kd : Int), .int .i64 (fr : Int), .int .i64 (rd : Int), .int .u32 (wd N 0 : Nat), .int .u32 (wd N 1 : Nat), .int .u32 (wd N 2 : Nat), .int .u32 (wd N 3 : Nat), .slice xa ln.length xc] 44) = V := ⟨_, rfl⟩; have hz : Below y1.heap.size y1 V1 := (by rw [← hV1]; exact al1' _ _); replace HW := hidI (bel2 HW.out hz); replace HK := hidI (HK.out.carry hz); replace HN := hidI (Nat.le_trans HN.out hz.size); replace HY := hidI (Nat.le_trans HY.out hz.size); clear hz; have HX7 : Hid (RB V1 y1.heap.size (kd : Int) (fr : Int) (rd : Int) N (.slice xa ln.length xc)) := (by rw [← hV1]; exact new_at rfl); (try clear d0 d1 d2 d3 d4 d5 d6 d7); obtain ⟨d0, d1, d2, d3, d4, d5, d6, d7⟩ := HX7.out.cells))
      refine ⟨⟨j + 1, by simp, by omega, HW.out, HK.out.up HMb.out HMe.out⟩, ?_⟩
      simp [vnatW]
      omega

set_option maxRecDepth 100000 in
theorem lifted (os : Os) (started : os.Started) (H : Type) (enc : TypeId × Value → H) :
    ReturnsInHanded {} Tryz.checked os 3 .any (Rows.wireAllSpec.pre6 enc Tryz.prog Tryz.f3 Rows.wireAllRow.domain false) (Rows.wireAllSpec.post enc Tryz.prog Tryz.f3 false true false false) := by
  refine returnsInHanded_of_change (C := Tryz.checked) own started (by kernel_rfl) Tryz.func3
    (ChangeSpec.witness6 (enc := enc) (C := Tryz.checked) false ⟨#[], #[.slice none 0 0, .int .i64 0], []⟩ 8 (by kernel_rfl) (by kernel_rfl) (by kernel_rfl) (by kernel_rfl)) ?_
  intro W base args ds gs before hval0 hW hcnd _
  have hval : ∀ (j : Nat) t v, Tryz.f3.params[j]? = some t → args[j]? = some v → Value.okWide Tryz.prog W .any base t v := hval0
  have hW' := hW
  obtain ⟨p, q, hA0, hV, rfl, hfz, hnd⟩ := hW
  have hA : DataW.TrodAll enc Tryz.prog W 0 (fun _ => true) true Tryz.f3.params.toList args.toList ds p := hA0
  rw [Tryz.params3] at hA hval
  obtain ⟨v0, vs0, d0, ds0, p0, q0, hargs, rfl, rfl, h0, r0⟩ := trodAll_cons hA
  obtain ⟨v1, vs1, d1, ds1, p1, q1, rfl, rfl, rfl, h1, r1⟩ := trodAll_cons r0
  obtain ⟨rfl, rfl, rfl⟩ := trodAll_nil r1
  obtain rfl : args = #[v0, v1] := by cases args; simp_all
  obtain ⟨rfl, rfl⟩ := trodVars_none hV
  have k0 := h0
  have lt0 : ∀ x ∈ p0, x.block < W.heap.size := by obtain ⟨m, hm⟩ := k0; exact DataW.trod_lt m _ _ _ hm
  obtain ⟨ad0, cap0, l0, rfl, w0, hc0, hq0, hd0⟩ := open_notes (hval 0 22 v0 rfl rfl) h0
  obtain ⟨a1, rfl, rfl, rfl, w1⟩ := open_int Tryz.underlying3 (hval 1 3 v1 rfl rfl) h1
  clear hA0 hval0
  refine (walk W ad0 cap0 l0 w0 hc0 a1 w1).mono fun e W' ⟨he, hg⟩ => ?_
  subst he
  exact ⟨_, rfl, _, _, _, [], _, [], hW', (trodAll_cons_mk (shut_bool Tryz.underlying4 _) trodAll_mk0), (trodAll_cons_mk (Below.trod laidOut (by kernel_rfl) (of_decide_eq_true (by kernel_rfl)) k0 hg lt0) (trodAll_cons_mk (shut_int Tryz.underlying3 w1) trodAll_mk0)), rfl, hg.frame _, fun h => by cases h⟩

theorem over : Rows.wireAllRow.holds Tryz.pinned (OpenSpec.ofChange Rows.wireAllSpec) :=
  OpenClaim.holds_of_wide 3 Tryz.f3 rfl rfl rfl rfl rfl rfl rfl ⟨rfl, rfl, rfl, rfl, rfl⟩ rfl rfl rfl rfl rfl (by kernel_rfl) Tryz.func3 (by kernel_rfl)
    (of_decide_eq_true (by kernel_rfl)) (by unfold Func.isWrapper; first | (rw [if_pos (by decide +kernel)]; kernel_rfl) | (rw [if_neg (by decide +kernel)]; exact ⟨rfl, rfl⟩))
    (fun os started H enc _ => lifted os started H enc)

theorem proved : Rows.WireAllSaid :=
  over
#print axioms proved
end Go.Proofs.YtnomeinppdnhfaaGreat
