/- audit.Doubts: the walk. -/
import Derived.Test.YtgnhainfcfcodaaGreatAvb
namespace Go.Proofs.YtgnhainfcfcodaaGreat
open Go.RowKit Go.Shelf Go.Lib
attribute [local go_sem] Oper.semAt_some

theorem doubts_no (n : Int) (hn : ¬ (1 ≤ n ∧ n ≤ 100)) (l : Value) (w : World) : Calls Tryz.prog 8 #[.int .i64 n, l] w fun e w' => e = .returned (.tuple #[.slice none 0 0, .int .i64 1]) ∧ w' = w := by
  have hsz := isSize_any n
  rw [decide_eq_false hn] at hsz
  go_enter Tryz.func8, Tryz.ntmps8
  go_wp2_with (go_at_call 17; (with_reducible refine (hsz _).mono ?_); rintro e u ⟨rfl, hu⟩; rw [hu]; clear hu u)
  go_ret2
  exact ⟨rfl, rfl⟩
theorem gN_rank (o : Nat) (b : Int) (hb : -1 ≤ b ∧ b ≤ 1048576) : rk (gN o b).2.1 (gN o b).2.2 = if b < 0 then -1 else 2 * b + 1 := by
  unfold gN
  by_cases h : b < 0
  · rw [if_pos h, if_pos h, rk_n (by decide) (by decide)]
  · rw [if_neg h, if_neg h]
    show rk b 2 = _
    exact rk_s (by omega)
theorem rank_gt (o : Nat) (b t : Int) (hb : -1 ≤ b ∧ b ≤ 1048576) (ht : 0 ≤ t ∧ t ≤ 1048576) : decide (rk (gN o b).2.1 (gN o b).2.2 < rk t 2) = decide (b < t) := by
  rw [gN_rank o b hb, rk_s (by omega)]
  by_cases h : b < 0
  · rw [if_pos h, decide_eq_true (by omega), decide_eq_true (by omega)]
  · rw [if_neg h]
    by_cases q : b < t
    · rw [decide_eq_true (by omega), decide_eq_true (by omega)]
    · rw [decide_eq_false (by omega), decide_eq_false (by omega)]
theorem bin_gtd (a b : Int) {x y : Operand} (w : World) : binRun Tryz.prog .gtr 3 x y (.int .i64 a) (.int .i64 b) w = .ok (.bool (decide (b < a))) w := by
  unfold binRun
  by_cases h : b < a
  · rw [decide_eq_true h]; go_simp
  · rw [decide_eq_false h]; go_simp
/-- What is there in a round. -/
structure JDb (w : World) (N : Nat) (L : List (Int × Int × Int)) (q : Nat) (o t : Int) (W : World) : Prop where
  nb : NB W q o t 2
  ow : W.ownsRow w.heap.size 63 3 (.slice (some ⟨w.heap.size, 0, none⟩) N N) N (Kel.fc Kel.cNotices L)
  bl : Below w.heap.size w W
theorem JDb.carry {w : World} {N : Nat} {L : List (Int × Int × Int)} {q : Nat} {o t : Int} {W V : World} (h : JDb w N L q o t W) (hb : Below W.heap.size W V) : JDb w N L q o t V := ⟨h.nb.carry hb, Kel.row_below h.ow hb, h.bl.trans (hb.mono h.bl.size)⟩
set_option maxHeartbeats 8000000 in
set_option maxRecDepth 100000 in
theorem doubts_ok (N : Nat) (hN1 : 1 ≤ N) (hN : N ≤ 100) (ad : Option Addr) (cap : Nat) (l : List Ev) (w : World) (h : RdE w ad l) (hl : l.length ≤ 2000) : Calls Tryz.prog 8 #[.int .i64 (N : Int), .slice ad l.length cap] w fun e w' => ∃ v, e = .returned (.tuple #[v, .int .i64 0]) ∧ w'.ownsRow w.heap.size 63 3 v (dbO N l N).length (Kel.fc Kel.cNotices (dbO N l N)) ∧ Below w.heap.size w w' := by
  have hmx : Tryz.prog.follows .mixedOrders = true := by kernel_rfl
  obtain ⟨ic, zc, hic, hz0, hz1, hz2, hz3⟩ := Kel.kiNotices.iT
  have hsz := isSize_any (N : Int)
  rw [decide_eq_true (show 1 ≤ (N : Int) ∧ (N : Int) ≤ 100 by omega)] at hsz
  have hib := isBelow_any
  have hmk := mk_ntcs N hN
  have hix := idx_e
  have HR : Hid (RdE w ad l) := h
  clear h
  go_enter Tryz.func8, Tryz.ntmps8
  go_wp2_with (go_at_call 17; (with_reducible refine (hsz _).mono ?_); rintro e u ⟨rfl, hu⟩; rw [hu]; clear hu u)
  have hb0 := al1' w (.cells (Kel.fc Kel.cNotices (List.replicate N (0, 0, 0))).toArray 63)
  have ho0 : (w.alloc (.cells (Kel.fc Kel.cNotices (List.replicate N (0, 0, 0))).toArray 63)).ownsRow w.heap.size 63 3 (.slice (some ⟨w.heap.size, 0, none⟩) N N) N (Kel.fc Kel.cNotices (gT N l 0)) := by rw [gT_zero]; exact ntcs_own N hN w
  clear hmk
  go_loopw [20, 8, 9] (fun i _ _ wz => ∃ k : Nat, i = .int .i64 (k : Int) ∧ k ≤ l.length ∧ wz.ownsRow w.heap.size 63 3 (.slice (some ⟨w.heap.size, 0, none⟩) N N) N (Kel.fc Kel.cNotices (gT N l k)) ∧ Below w.heap.size w wz) (fun i _ _ _ => l.length - Kel.vnat i)
  case atStart => exact ⟨0, rfl, Nat.zero_le _, ho0, hb0⟩
  case round =>
    clear ho0 hb0
    obtain ⟨k, rfl, hk, how, hbw⟩ := hrel
    by_cases hkl : k < l.length
    · have hki : (k : Int) < (l.length : Int) := by omega
      have hne : l ≠ [] := fun e => by subst e; simp at hkl
      obtain ⟨bA, off, e1, hbl, hat⟩ := HR.out.at' hne
      subst e1
      obtain ⟨x, hx⟩ : ∃ x, l[k]? = some x := ⟨_, List.getElem?_eq_getElem hkl⟩
      have hld : (Instr.loadAt 59 (.pointer (some ⟨bA, off + k * 15, none⟩))).run Tryz.prog wr = .ok (.agg (ecA x)) wr := load_ev (fun j v hv => (hbw.cell (p := ⟨bA, _, none⟩) hbl).trans (hat k x hx j v hv))
      obtain ⟨U, hU⟩ : ∃ U, wr.alloc (.cells #[.int .i64 0, .int .i64 0, .int .i64 0, .int .i64 0, .int .i64 0, .int .i64 0, .int .i64 0, .int .u32 0, .int .u32 0, .int .u32 0, .int .u32 0, .int .u32 0, .int .u32 0, .int .u32 0, .int .u32 0] 59) = U := ⟨_, rfl⟩
      obtain ⟨q1, q2, q3⟩ := box_ev wr x U hU
      obtain ⟨U2, hU2⟩ : ∃ U2, U.setRow wr.heap.size (ecA x) = U2 := ⟨_, rfl⟩
      rw [hU2] at q1 q2
      have c5 : U2.cell? ⟨wr.heap.size, 5, none⟩ = some (.int .i64 x.of) := (cell_at q1 5).trans rfl
      have c4 : U2.cell? ⟨wr.heap.size, 4, none⟩ = some (.int .i64 x.ta) := (cell_at q1 4).trans rfl
      obtain ⟨V, hV⟩ : ∃ V, U2.alloc (.cells #[.int .i64 0, .int .i64 0, .int .i64 0] 63) = V := ⟨_, rfl⟩
      obtain ⟨r1, r2, r3⟩ := box_nt U2 x.of x.ta 2 V hV
      obtain ⟨V2, hV2⟩ : ∃ V2, V.setRow U2.heap.size #[.int .i64 x.of, .int .i64 x.ta, .int .i64 2] = V2 := ⟨_, rfl⟩
      rw [hV2] at r1 r2
      have q1V : V2.heap[wr.heap.size]? = some (.cells (ecA x) 59 (0, 0)) := (r2.block _ (lt_at q1)).trans q1
      have v0 : V2.cell? ⟨wr.heap.size, 0, none⟩ = some (.int .i64 x.k) := (cell_at q1V 0).trans rfl
      have v1 : V2.cell? ⟨wr.heap.size, 1, none⟩ = some (.int .i64 x.nd) := (cell_at q1V 1).trans rfl
      have b0 := r1.c0
      have b1 := r1.c1
      have b2 := r1.c2
      have hbV : Below wr.heap.size wr V2 := q2.trans (r2.mono q2.size)
      have hJ : JDb w N (gT N l k) U2.heap.size x.of x.ta V2 := ⟨r1, Kel.row_below how hbV, hbw.trans (hbV.mono hbw.size)⟩
      have HU2 : Hid (U.setRow wr.heap.size (ecA x) = U2) := hU2
      have HQ3 : Hid (U.heap[wr.heap.size]? = _) := q3
      have HV2 : Hid (V.setRow U2.heap.size #[.int .i64 x.of, .int .i64 x.ta, .int .i64 2] = V2) := hV2
      have HR3 : Hid (V.heap[U2.heap.size]? = _) := r3
      have HLD : Hid ((Instr.loadAt 59 (.pointer (some ⟨bA, off + k * 15, none⟩))).run Tryz.prog wr = .ok (.agg (ecA x)) wr) := hld
      have HX : Hid (l[k]? = some x) := hx
      clear hU2 q3 hld hx hat q1 q2 hV2 r3 r2 q1V r1 how
      obtain ⟨p, hp⟩ : ∃ p, U2.heap.size = p := ⟨_, rfl⟩
      rw [hp] at hJ HV2 HR3 b0 b1 b2
      have hvl := vld_any N hN1 hN x.of x.ta
      by_cases hk1 : x.k = 4
      case neg =>
        have hno : ¬ dC N x := fun q => hk1 q.1
        have hkd : (x.k != 4) = true := by simpa using hk1
        go_wp2_with (first | (refine wpList_load_run rfl 59 (.tmp 22) rfl _ _ rfl HLD.out ?_) | (refine wpList_store_row rfl 59 (.tmp 8) (.tmp 23) rfl wr.heap.size (ecA x) rfl rfl 59 _ HQ3.out info_ev15 rfl (evc_all x) ?_; rw [HU2.out]) | (refine wpList_store_row rfl 63 (.tmp 9) (.tmp 28) rfl p #[.int .i64 x.of, .int .i64 x.ta, .int .i64 2] rfl rfl 63 _ HR3.out info_nt3 rfl (ntc_all _ _ _) ?_; rw [HV2.out]))
        go_roundw
        case rel => exact ⟨k + 1, by simp, by omega, by rw [gT_no HX.out hno]; exact hJ.ow, hJ.bl⟩
        case measure => simp [Kel.vnat]; omega
      have hkd : (x.k != 4) = false := by simp [hk1]
      by_cases hk2 : 0 ≤ x.nd ∧ x.nd < (N : Int)
      case neg =>
        have hno : ¬ dC N x := fun q => hk2 q.2.1
        have hi2 := hib x.nd (N : Int)
        rw [decide_eq_false hk2] at hi2
        go_wp2_with (first | (refine wpList_load_run rfl 59 (.tmp 22) rfl _ _ rfl HLD.out ?_) | (refine wpList_store_row rfl 59 (.tmp 8) (.tmp 23) rfl wr.heap.size (ecA x) rfl rfl 59 _ HQ3.out info_ev15 rfl (evc_all x) ?_; rw [HU2.out]) | (refine wpList_store_row rfl 63 (.tmp 9) (.tmp 28) rfl p #[.int .i64 x.of, .int .i64 x.ta, .int .i64 2] rfl rfl 63 _ HR3.out info_nt3 rfl (ntc_all _ _ _) ?_; rw [HV2.out]) | (go_at_call 18; (with_reducible refine (hi2 _).mono ?_); rintro e u ⟨rfl, hu⟩; obtain rfl := hu.symm))
        go_roundw
        case rel => exact ⟨k + 1, by simp, by omega, by rw [gT_no HX.out hno]; exact hJ.ow, hJ.bl⟩
        case measure => simp [Kel.vnat]; omega
      have hi2 := hib x.nd (N : Int)
      rw [decide_eq_true hk2] at hi2
      by_cases hk3 : (0 ≤ x.of ∧ x.of < (N : Int)) ∧ 0 ≤ x.ta ∧ x.ta ≤ 1048576
      case neg =>
        have hno : ¬ dC N x := fun q => hk3 q.2.2
        rw [decide_eq_false hk3] at hvl
        go_wp2_with (first | (refine wpList_load_run rfl 59 (.tmp 22) rfl _ _ rfl HLD.out ?_) | (refine wpList_store_row rfl 59 (.tmp 8) (.tmp 23) rfl wr.heap.size (ecA x) rfl rfl 59 _ HQ3.out info_ev15 rfl (evc_all x) ?_; rw [HU2.out]) | (refine wpList_store_row rfl 63 (.tmp 9) (.tmp 28) rfl p #[.int .i64 x.of, .int .i64 x.ta, .int .i64 2] rfl rfl 63 _ HR3.out info_nt3 rfl (ntc_all _ _ _) ?_; rw [HV2.out]) | (go_at_call 18; (with_reducible refine (hi2 _).mono ?_); rintro e u ⟨rfl, hu⟩; obtain rfl := hu.symm) | (go_at_call 19; (with_reducible refine (hvl _).mono ?_); rintro e u ⟨rfl, hbu⟩; have hJ2 := hJ.carry hbu))
        go_roundw
        case rel => exact ⟨k + 1, by simp, by omega, by rw [gT_no HX.out hno]; exact hJ2.ow, hJ2.bl⟩
        case measure => simp [Kel.vnat]; omega
      have hyes : dC N x := ⟨hk1, hk2, hk3⟩
      rw [decide_eq_true hk3] at hvl
      obtain ⟨d, hd⟩ : ∃ d : Nat, x.of = (d : Int) := ⟨x.of.toNat, by omega⟩
      have hdN : d < N := by omega
      have hbT := bT_ok N d l k hk
      have hget := gT_get (n := N) l k hdN
      have hgt := rank_gt d (bT N d (l.take k)) x.ta hbT hk3.2
      obtain ⟨y, hy⟩ : ∃ y, gN d (bT N d (l.take k)) = y := ⟨_, rfl⟩
      rw [hy] at hget hgt
      have HGT : Hid (decide (rk y.2.1 y.2.2 < rk x.ta 2) = decide (bT N d (l.take k) < x.ta)) := hgt
      have HGET : Hid ((gT N l k)[d]? = some y) := hget
      have HD : Hid (x.of = (d : Int)) := hd
      have HY : Hid (dC N x) := hyes
      have hdi : (d : Int) < (N : Int) := by omega
      rw [hd] at hvl hJ HV2 b0 c5
      obtain ⟨ta, hta⟩ : ∃ ta, x.ta = ta := ⟨_, rfl⟩
      rw [hta] at hvl hJ HV2 b1 c4 HGT
      have HTA : Hid (x.ta = ta) := hta
      clear hget hgt hyes hk3 hd hk2 hy hbT hta
      have hr1 := rank_any (d : Int) ta 2
      have hr2 := rank_any y.1 y.2.1 y.2.2
      go_wp2_with (first | (refine wpList_load_run rfl 59 (.tmp 22) rfl _ _ rfl HLD.out ?_) | (refine wpList_store_row rfl 59 (.tmp 8) (.tmp 23) rfl wr.heap.size (ecA x) rfl rfl 59 _ HQ3.out info_ev15 rfl (evc_all x) ?_; rw [HU2.out]) | (refine wpList_store_row rfl 63 (.tmp 9) (.tmp 28) rfl p #[.int .i64 (d : Int), .int .i64 ta, .int .i64 2] rfl rfl 63 _ HR3.out info_nt3 rfl (ntc_all _ _ _) ?_; rw [HV2.out]) | (go_at_call 18; (with_reducible refine (hi2 _).mono ?_); rintro e u ⟨rfl, hu⟩; obtain rfl := hu.symm) | (go_at_call 19; (with_reducible refine (hvl _).mono ?_); rintro e u ⟨rfl, hbu⟩; have hJ2 := hJ.carry hbu))
      refine wp_region_any hmx ?_
      refine wpAny_pure (fun i__ => ([(nt (d : Int) ta 2), (.int .i64 (rk ta 2)), (.slice (some ⟨w.heap.size, 0, none⟩) N N), (.pointer (some ⟨p, 0, none⟩)), (.int .i64 (d : Int)), (.pointer (some ⟨w.heap.size, 0 + d * 3, none⟩)), (nt y.1 y.2.1 y.2.2), (.int .i64 (rk y.2.1 y.2.2)), (.bool (decide (bT N d (l.take k) < x.ta)))] : List Value).getD i__ undef) (fun W => JDb w N (gT N l k) p (d : Int) ta W) (by kernel_rfl) (hJ2.carry (Below.refl _ _).drew) ?_ ?_
      · refine (stepsFrom_cons ?_ (stepsFrom_cons ?_ (stepsFrom_cons ?_ (stepsFrom_cons ?_ (stepsFrom_cons ?_ (stepsFrom_cons ?_ (stepsFrom_cons ?_ (stepsFrom_cons ?_ (stepsFrom_cons ?_ trivial)))))))))
        · exact step_load rfl trivial _ _ _ rfl rfl (fun w hw => load_nt hw.nb)
        · exact step_call rfl trivial 20 _ _ [(nt (d : Int) ta 2)] rfl (by kernel_rfl) (enters_of Tryz.func20 (by kernel_rfl) rfl) (fun v hw => (hr1 v).mono (by rintro e w' ⟨rfl, hb⟩; exact ⟨rfl, hw.carry hb⟩))
        · exact step_move rfl trivial _ rfl (by kernel_rfl)
        · exact step_fieldAddr rfl trivial _ _ _ _ rfl rfl (fun w hw => field_n0 w _)
        · exact step_load rfl trivial _ _ _ rfl rfl (fun w hw => load_n0 hw.nb)
        · exact step_indexAddr rfl trivial _ _ _ _ _ rfl rfl rfl (fun v hw => Kel.ixNotices w.heap.size 0 N N d hdN v)
        · exact step_load rfl trivial _ _ _ rfl rfl (fun v hw => Kel.ldNotices (Kel.FA.own hw.ow) HGET.out)
        · exact step_call rfl trivial 20 _ _ [(nt y.1 y.2.1 y.2.2)] rfl (by kernel_rfl) (enters_of Tryz.func20 (by kernel_rfl) rfl) (fun v hw => (hr2 v).mono (by rintro e w' ⟨rfl, hb⟩; exact ⟨rfl, hw.carry hb⟩))
        · exact step_binOp rfl trivial _ _ _ _ _ _ _ rfl rfl rfl (fun w hw => (bin_gtd _ _ w).trans (by rw [HGT.out, HTA.out]; rfl))
      intro W hW
      first | refine hK _ _ ?_ | refine (‹∀ (a : Act) (w : World), Code.wp Tryz.prog _ _ a w → _›) _ _ ?_ | skip
      simp only [finL, List.getD_cons_zero, List.getD_cons_succ, Nat.zero_add, Nat.reduceAdd, List.setIfInBounds_toArray, List.set_cons_zero, List.set_cons_succ]
      clear hJ hJ2 b0 b1 b2 v0 v1
      by_cases hgt : bT N d (l.take k) < x.ta
      · rw [decide_eq_true hgt]
        have c0 := hW.nb.c0
        have e1 := hW.nb.c1
        have e2 := hW.nb.c2
        obtain ⟨V3, s1, s2, s3⟩ := Kel.putNotices hW.ow (gT_len N l k).symm hdN ((d : Int), ta, 2)
        have HS1 : Hid ((Instr.storeAt 63 (.pointer (some ⟨w.heap.size, d * 3, none⟩)) (.agg #[.int .i64 (d : Int), .int .i64 ta, .int .i64 2])).run Tryz.prog W = .ok () V3) := by rw [Nat.zero_add] at s1; exact s1
        have hixN := Kel.ixNotices
        clear s1
        go_wp2_with (refine wpList_store_run rfl 63 (.tmp 58) (.tmp 57) rfl _ _ rfl rfl HS1.out ?_)
        go_roundw
        case rel => exact ⟨k + 1, by simp, by omega, by rw [gT_put HX.out HY.out HD.out hgt, HTA.out]; exact s2, hW.bl.grown s3 hW.bl.size (fun q e => by obtain rfl := Option.some.inj e; exact Nat.le_refl _)⟩
        case measure => simp [Kel.vnat]; omega
      · rw [decide_eq_false hgt]
        go_wp2
        go_roundw
        case rel => exact ⟨k + 1, by simp, by omega, by rw [gT_less HX.out HD.out hgt]; exact hW.ow, hW.bl⟩
        case measure => simp [Kel.vnat]; omega
    · have hki : ¬ (k : Int) < (l.length : Int) := by omega
      obtain rfl : k = l.length := by omega
      have hixN := Kel.ixNotices
      go_wp2
      go_loopw [62, 10, 12] (fun i o _ wz => ∃ m : Nat, i = .int .i64 (m : Int) ∧ m ≤ N ∧ wz.ownsRow w.heap.size 63 3 (.slice (some ⟨w.heap.size, 0, none⟩) N N) N (Kel.fc Kel.cNotices (gT N l l.length)) ∧ wz.ownsRow (w.heap.size + 1) 63 3 o (dbO N l m).length (Kel.fc Kel.cNotices (dbO N l m)) ∧ Below w.heap.size w wz ∧ w.heap.size + 1 ≤ wz.heap.size) (fun i _ _ _ => N - Kel.vnat i)
      case atStart => exact ⟨0, rfl, Nat.zero_le _, how, by simpa [dbO, Kel.fc] using World.ownsRow_nil wr (w.heap.size + 1) 63 3, hbw, (Kel.row_lt how _ rfl).2⟩
      case round =>
        clear how hbw
        obtain ⟨m, rfl, hm, how, hod, hbw, hsz⟩ := hrel
        obtain ⟨ao, co, eo, _⟩ := Kel.rowForm hod
        subst eo
        have hln := dbO_len N l m
        by_cases hmN : m < N
        · have hmi : (m : Int) < (N : Int) := by omega
          have hget := gT_get (n := N) l l.length hmN
          rw [List.take_length] at hget
          obtain ⟨y, hy⟩ : ∃ y, gN m (bT N m l) = y := ⟨_, rfl⟩
          rw [hy] at hget
          have hld : (Instr.loadAt 63 (.pointer (some ⟨w.heap.size, 0 + m * 3, none⟩))).run Tryz.prog wr = .ok (.agg #[.int .i64 y.1, .int .i64 y.2.1, .int .i64 y.2.2]) wr := Kel.ldNotices (Kel.FA.own how) hget
          have HLD : Hid ((Instr.loadAt 63 (.pointer (some ⟨w.heap.size, m * 3, none⟩))).run Tryz.prog wr = .ok (.agg #[.int .i64 y.1, .int .i64 y.2.1, .int .i64 y.2.2]) wr) := by rw [Nat.zero_add] at hld; exact hld
          obtain ⟨V, hV⟩ : ∃ V, wr.alloc (.cells #[.int .i64 0, .int .i64 0, .int .i64 0] 63) = V := ⟨_, rfl⟩
          obtain ⟨r1, r2, r3⟩ := box_nt wr y.1 y.2.1 y.2.2 V hV
          obtain ⟨V2, hV2⟩ : ∃ V2, V.setRow wr.heap.size #[.int .i64 y.1, .int .i64 y.2.1, .int .i64 y.2.2] = V2 := ⟨_, rfl⟩
          rw [hV2] at r1 r2
          have HV2 : Hid (V.setRow wr.heap.size #[.int .i64 y.1, .int .i64 y.2.1, .int .i64 y.2.2] = V2) := hV2
          have HR3 : Hid (V.heap[wr.heap.size]? = _) := r3
          have b0 := r1.c0
          have b1 := r1.c1
          have b2 := r1.c2
          have how2 := Kel.row_below how r2
          have hod2 := Kel.row_below hod r2
          have hbw2 : Below w.heap.size w V2 := hbw.trans (r2.mono hbw.size)
          have hsz2 : w.heap.size + 1 ≤ V2.heap.size := Nat.le_trans hsz r2.size
          have HY : Hid (gN m (bT N m l) = y) := hy
          clear hget hld hV2 r3 r1 r2 how hod hbw hy
          by_cases hneg : bT N m l < 0
          · have hy0 : y = (0, 0, 0) := by rw [← HY.out, gN, if_pos hneg]
            have hk2 : (y.2.2 == 2) = false := by rw [hy0]; rfl
            clear hy0
            go_wp2_with (first | (refine wpList_load_run rfl 63 (.tmp 64) rfl _ _ rfl HLD.out ?_) | (refine wpList_store_row rfl 63 (.tmp 12) (.tmp 65) rfl wr.heap.size #[.int .i64 y.1, .int .i64 y.2.1, .int .i64 y.2.2] rfl rfl 63 _ HR3.out info_nt3 rfl (ntc_all _ _ _) ?_; rw [HV2.out]))
            go_roundw
            case rel => exact ⟨m + 1, by simp, by omega, how2, by rw [dbO_no hneg]; exact hod2, hbw2, hsz2⟩
            case measure => simp [Kel.vnat]; omega
          · have hy0 : y = ((m : Int), bT N m l, 2) := by rw [← HY.out, gN, if_neg hneg]
            have hk2 : (y.2.2 == 2) = true := by rw [hy0]; rfl
            have HY0 : Hid (y = ((m : Int), bT N m l, 2)) := hy0
            obtain ⟨M, hM⟩ : ∃ M, (dbO N l m).length = M := ⟨_, rfl⟩
            rw [hM] at hod2 hln ⊢
            have HM : Hid ((dbO N l m).length = M) := hM
            clear hy0 hM
            go_wp2_with (first | (refine wpList_load_run rfl 63 (.tmp 64) rfl _ _ rfl HLD.out ?_) | (refine wpList_store_row rfl 63 (.tmp 12) (.tmp 65) rfl wr.heap.size #[.int .i64 y.1, .int .i64 y.2.1, .int .i64 y.2.2] rfl rfl 63 _ HR3.out info_nt3 rfl (ntc_all _ _ _) ?_; rw [HV2.out]) | (at_builtin; refine wpList_append_own _ rfl _ _ 29 rfl (w.heap.size + 1) 63 ic _ 3 24 Tryz.underlying29 hic hz0 hz1 hz2 hz3 (by decide) _ M (Kel.fc Kel.cNotices (dbO N l m)) rfl (hod2.alloc _) ⟨V2.heap.size, 0, none⟩ 1 1 [_, _, _] rfl rfl (Kel.newNotices _ #[_, _, _] _) (by simp [Value.oneCell']) (by unfold maxLen; omega) (by omega) (by simp; omega) ?_; intro v' w2 hown' hgrow _))
            go_roundw
            case rel =>
              have hbl : w.heap.size ≤ V2.heap.size := by omega
              refine ⟨m + 1, by simp, by omega, Kel.row_off (how2.alloc _) hgrow (fun b e e2 => ?_), ?_, (hbw2.alloc hbl _).grown hgrow (by simp; omega) (fun q e => by have := (Kel.row_lt hod2 q e).1; omega), by have := hgrow.size; simp at this; omega⟩
              · simp only [Value.ownBlock, Option.some.injEq] at e2
                have := (Kel.row_lt hod2 b e).1
                omega
              · rw [dbO_yes hneg, List.length_append, HM.out, Kel.fc_append]
                have e3 : Kel.fc Kel.cNotices [((m : Int), bT N m l, (2 : Int))] = [.int .i64 y.1, .int .i64 y.2.1, .int .i64 y.2.2] := by rw [HY0.out]; rfl
                rw [e3]
                exact hown'
            case measure => simp [Kel.vnat]; omega
        · have hmi : ¬ (m : Int) < (N : Int) := by omega
          obtain rfl : m = N := by omega
          go_wp2
          go_ret2
          exact ⟨_, rfl, Kel.row_base hod (by omega), hbw⟩
end Go.Proofs.YtgnhainfcfcodaaGreat
