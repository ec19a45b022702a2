/- The document's Open over a disk with any record, where a node comes of it, or the last round is told. -/
import Derived.Test.YtklnfbanfgdgcaaGreatDoorJnJ40
import Derived.Test.YtklnfbanfgdgcaaGreatDoorJnJ26
import Derived.Test.YtklnfbanfgdgcaaGreatDoorJnJ36
set_option maxHeartbeats 40000000
set_option maxRecDepth 100000
set_option linter.unusedVariables false
namespace Go.Proofs.YtklnfbanfgdgcaaGreatDoor
open Go.RowKit Go.Shelf Go.Lib
attribute [local go_sem] Oper.semAt_some
set_option linter.unusedVariables false

theorem step_bld7 {P : Program} {md : Region.Mode} {ops : Array Oper} {Q : Exit → Act → World → Prop} {X0 : Array Value} {val : Nat → Value} {J : World → Prop} {i : Nat} {o : Oper} (hi : ops[i]? = some o) (hg : GOk md ops X0 val i o) (t : TypeId) (k0 k1 k2 k3 k4 k5 k6 : Nat) (x0 x1 x2 x3 x4 x5 x6 : Operand) (v0 v1 v2 v3 v4 v5 v6 : Value) (ho : o.op = .build t #[(k0, x0), (k1, x1), (k2, x2), (k3, x3), (k4, x4), (k5, x5), (k6, x6)]) (h0 : rdo md ops X0 val i o x0 = some v0) (h1 : rdo md ops X0 val i o x1 = some v1) (h2 : rdo md ops X0 val i o x2 = some v2) (h3 : rdo md ops X0 val i o x3 = some v3) (h4 : rdo md ops X0 val i o x4 = some v4) (h5 : rdo md ops X0 val i o x5 = some v5) (h6 : rdo md ops X0 val i o x6 = some v6) (hr : ∀ w, J w → (Instr.build t #[(k0, v0), (k1, v1), (k2, v2), (k3, v3), (k4, v4), (k5, v5), (k6, v6)]).run P w = .ok (val i) w) : StepAt P md ops Q X0 val J J i o :=
  step_of hi hg fun a w hJ hS => by
    unfold Oper.wp execOp
    simp only [ho, hS.eval h0, hS.eval h1, hS.eval h2, hS.eval h3, hS.eval h4, hS.eval h5, hS.eval h6, List.map_toArray, List.map_cons, List.map_nil, Sem.run_bind, hr w hJ, Result.andThen_ok, Sem.run_pure, Oper.upon_value]
    exact ⟨trivial, hJ⟩
theorem nwE_full {n f s : Nat} (hn1 : 1 ≤ n) (hn2 : n ≤ 100) (hfn : f < n) (hsn : s < n) {ro : Int} (h1 : 1 ≤ ro) (h2 : ro ≤ 1099511627775) : nwE (n : Int) (f : Int) (s : Int) ro (fullN n) = 0 := by
  unfold nwE
  rw [if_neg (by omega), if_neg (by unfold isN; simp; omega), if_neg (by omega), if_neg (by rw [wthB_of hn2 (by unfold fullN; have := Nat.pos_of_ne_zero (show 2 ^ n ≠ 0 by simp); omega)]; simp)]
theorem rdn_off {W V : World} {g : Nat} {ad : Option Addr} {l : List (Int × Int × Int)} (h : RdN W ad l) (hn : ∀ a, ad = some a → a.block ≠ g) (ht : TpZ g W V) : RdN V ad l := fun hne => by
  obtain ⟨b, off, h1, h2, h3⟩ := h hne
  have e : V.heap[b]? = W.heap[b]? := ht.block _ h2 (hn _ h1)
  refine ⟨b, off, h1, Nat.lt_of_lt_of_le h2 ht.size, fun k x hk => ?_⟩
  obtain ⟨c0, c1, c2⟩ := h3 k x hk
  exact ⟨(World.cell?_of_block (a := ⟨b, _, none⟩) e).trans c0, (World.cell?_of_block (a := ⟨b, _, none⟩) e).trans c1, (World.cell?_of_block (a := ⟨b, _, none⟩) e).trans c2⟩
theorem row_offZ {W V : World} {g base n size base' : Nat} {e : TypeId} {z : Value} {xs : List Value} (h : W.ownsRow base e size z n xs) (hg : g < base) (hb : base' ≤ base) (ht : TpZ g W V) : V.ownsRow base' e size z n xs :=
  row_base (row_moved h (fun k hk => ht.block k (row_lt2 h k hk).2 (fun e => by have := (row_lt2 h k hk).1; omega))) hb
/-- What the document's Open answers. -/
structure RNok (w : World) (base lb r c n f s : Nat) (b1 : Bo) (d1 : Dst) (ad : Option Addr) (cap g1 g2 g3 c3 : Nat) (w' : World) : Prop where
  ro : RO w lb base r c d1 w'
  bk : RdN w' ad (bk0 n s b1.ta)
  hi : w'.ownsRow w.heap.size 3 1 (.slice (some ⟨g1, 0, none⟩) 1 1) 1 (inV [(s : Int)])
  pa : w'.ownsRow w.heap.size 121 15 (.slice (some ⟨g3, 0, none⟩) 1 c3) 1 (ecs [(evBg b1.ta b1.ro).at (s : Int) b1.r.li])
  cn : n ≤ cap
section
variable {w : World} {lb base r c n f s : Nat} {d : Dst}
set_option maxHeartbeats 40000000 in
set_option maxRecDepth 100000 in
theorem rnopen_ok (hO : Opd d) (hR : RfD w lb 0 base r c d) (hn1 : 1 ≤ n) (hn2 : n ≤ 100) (hfn : f < n) (hsn : s < n) (he : (dOp d).e = 0) : Calls Tryz.prog 10 #[.int .i64 (n : Int), .int .i64 (f : Int), .int .i64 (s : Int), .pointer (some ⟨lb, 0, none⟩)] w fun e w' => ((dOp d).b.ro = 1099511627775 → e = .returned (.tuple #[.agg nZ, .int .i64 120]) ∧ RO w lb base r c (dOp d).d w') ∧ ((dOp d).b.ro ≠ 1099511627775 → ∃ ad cap g1 g2 g3 c3, e = .returned (.tuple #[.agg (rnV (n : Int) (f : Int) (s : Int) (.pointer (some ⟨lb, 0, none⟩)) ⟨(dOp d).b.r, (dOp d).b.ro + 1, (dOp d).b.ta⟩ (.slice ad n cap) (fullN n) (n : Int) (f : Int) ((dOp d).b.ro + 1) (.slice (some ⟨g1, 0, none⟩) 1 1) (.slice (some ⟨g2, 0, none⟩) 1 1) (.slice (some ⟨g3, 0, none⟩) 1 c3)), .int .i64 0]) ∧ RNok w base lb r c n f s ⟨(dOp d).b.r, (dOp d).b.ro + 1, (dOp d).b.ta⟩ (dOp d).d ad cap g1 g2 g3 c3 w') := by
  have hmx : Tryz.prog.follows .mixedOrders = true := by kernel_rfl
  obtain ⟨i1, i2, i3, i4, i5, i6⟩ := okn_nat hn1 hn2 hfn hsn
  obtain ⟨hl, hrl⟩ := hR.lt
  obtain ⟨w1, hw1⟩ : ∃ w1, w.alloc (.cells nZ 58) = w1 := ⟨_, rfl⟩
  have hb1 : Below w.heap.size w w1 := by rw [← hw1]; exact al1' _ _
  have g1 : w1.heap[w.heap.size]? = some (.cells nZ 58 (0, 0)) := by rw [← hw1]; exact new_at rfl
  have hop : Calls Tryz.prog 31 #[.pointer (some ⟨lb, 0, none⟩)] w1 fun e w' => e = .returned (.tuple #[.agg (rbA (dOp d).b), .int .i64 0]) ∧ RfD w' lb 0 base r c (dOp d).d ∧ Tf lb 0 r w1 w' := (rOpen_any (hR.carry hb1) hO.fz hO.w0 hO.wm).mono (by rintro e w' ⟨h1, _, h3, h4⟩; exact ⟨h1 he, h3, h4⟩)
  obtain ⟨hk1, hk2, hk3, hk4, hk5⟩ := hO.okb he
  have hoff := hO.off
  have hne : ¬ (dOp d).b.ro = 1099511627775 → ¬ (dOp d).b.ro = (dOp d).b.r.ro := hO.nr he
  obtain ⟨d1, hd1⟩ : ∃ E, (dOp d).d = E := ⟨_, rfl⟩
  obtain ⟨b, hb⟩ : ∃ E, (dOp d).b = E := ⟨_, rfl⟩
  rw [hd1] at hop hoff ⊢
  rw [hb] at hop hk1 hk2 hk3 hk4 hk5 hne ⊢
  clear hd1 hb hO he
  have hfu := fun V => rAll_any (n : Int) (by omega) (by omega) V
  rw [Int.toNat_natCast] at hfu
  have hF128 : fullN n < S128 := by
    unfold fullN S128
    have : 2 ^ n ≤ 2 ^ 128 := Nat.pow_le_pow_right (by decide) (by omega)
    have := Nat.pos_of_ne_zero (show 2 ^ n ≠ 0 by simp)
    omega
  have hnw : ∀ ro : Int, 1 ≤ ro → ro ≤ 1099511627775 → nwE (n : Int) (f : Int) (s : Int) ro (fullN n) = 0 := fun ro h1 h2 => nwE_full hn1 hn2 hfn hsn h1 h2
  have hrt := fun (ro : Int) (h1 : 1 ≤ ro) (h2 : ro ≤ 1099511627775) V => rNew_ok (n : Int) (f : Int) (s : Int) ro (fullN n) hF128 (hnw ro h1 h2) V
  have hrb := fun V => (rNew_any (n : Int) (s : Int) b.ta V)
  obtain ⟨FN, hFN⟩ : ∃ FN, fullN n = FN := ⟨_, rfl⟩
  rw [hFN] at hfu hrt ⊢
  clear hFN hnw hF128
  unfold nZ at hw1 g1
  go_enter Tryz.func10, Tryz.ntmps10
  go_wp2_with (first
    | (go_at_call 31; (with_reducible refine hop.mono ?_); rintro e u ⟨rfl, hRu, hTu⟩; obtain ⟨u2, hu2⟩ : ∃ V, u.alloc (.cells #[.int .i64 0, .int .i64 0, .int .i64 0, .int .i64 0, .int .i64 0, .int .i64 0] 45) = V := ⟨_, rfl⟩; have hg2 : u2.heap[u.heap.size]? = some (.cells #[.int .i64 0, .int .i64 0, .int .i64 0, .int .i64 0, .int .i64 0, .int .i64 0] 45 (0, 0)) := (by rw [← hu2]; exact new_at rfl); have hb2 : Below u.heap.size u u2 := (by rw [← hu2]; exact al1' _ _); have gu := (hTu.block _ (lt_at g1) (by omega) (by omega)).trans g1)
    | (refine wpList_store_row rfl 45 (.tmp 10) (.tmp 41) rfl u.heap.size (rbA b) rfl rfl 45 _ hg2 infoRB2 rfl (rbA_one b) ?_; obtain ⟨u3, hu3⟩ : ∃ V, u2.setRow u.heap.size (rbA b) = V := ⟨_, rfl⟩; have hg3 : u3.heap[u.heap.size]? = some (.cells (rbA b) 45 (0, 0)) := (by rw [← hu3]; exact setRow_heap _ _ _ _ _ _ hg2); have hb3 : Below u.heap.size u u3 := (by rw [← hu3]; exact below_row hb2 (Nat.le_refl _) _); have g3 := (hb3.block _ (lt_at gu)).trans gu; rw [hu3]))
  rename_i hK
  have hu3s := hb3.size
  have hg3l := lt_at hg3
  refine wp_region_any hmx ?_
  refine wpAny_tabG (G := Nat) (fun g i__ => ([(.int .i64 (n : Int)), (.int .i64 (f : Int)), (.int .i64 (s : Int)), (.pointer (some ⟨lb, 0, none⟩)), (.agg (rbA b)), (.int .i64 (n : Int)), (sv FN), (.agg (rnV (n : Int) (f : Int) (s : Int) (.pointer (some ⟨lb, 0, none⟩)) b (.slice none 0 0) FN 0 0 0 (.slice none 0 0) (.slice none 0 0) (.slice none 0 0))), (.pointer (some ⟨g, 0, none⟩)), undef] : List Value).getD i__ undef) (fun g d V => J8 u3 (n : Int) (f : Int) (s : Int) lb b FN g (d 8) (d 9) V) (by kernel_rfl) (0) (show J8 u3 (n : Int) (f : Int) (s : Int) lb b FN 0 false false _ from ⟨(Below.refl _ _).drew, fun q => (by cases q)⟩) ?step37 ?fin37
  case step37 =>
    intro i o ho
    have hi : i < 10 := getElem?_lt ho
    match i, hi, ho with
    | 0, _, ho =>
      cases ho
      refine stepG_of (fun g d hdep => ?_)
      exact step_move rfl trivial _ rfl (by kernel_rfl)
    | 1, _, ho =>
      cases ho
      refine stepG_of (fun g d hdep => ?_)
      exact step_move rfl trivial _ rfl (by kernel_rfl)
    | 2, _, ho =>
      cases ho
      refine stepG_of (fun g d hdep => ?_)
      exact step_move rfl trivial _ rfl (by kernel_rfl)
    | 3, _, ho =>
      cases ho
      refine stepG_of (fun g d hdep => ?_)
      exact step_move rfl trivial _ rfl (by kernel_rfl)
    | 4, _, ho =>
      cases ho
      refine stepG_of (fun g d hdep => ?_)
      exact step_load rfl trivial _ _ _ rfl rfl (fun v hw => load_rbA ((hw.be.block _ hg3l).trans hg3))
    | 5, _, ho =>
      cases ho
      refine stepG_of (fun g d hdep => ?_)
      exact step_move rfl trivial _ rfl (by kernel_rfl)
    | 6, _, ho =>
      cases ho
      refine stepG_of (fun g d hdep => ?_)
      exact step_call rfl trivial 32 _ _ [(.int .i64 (n : Int))] rfl (by kernel_rfl) (enters_of Tryz.func32 (by kernel_rfl) rfl) (fun v hw => (hfu v).mono (by rintro e w' ⟨rfl, h2⟩; exact ⟨rfl, hw.carry h2⟩))
    | 7, _, ho =>
      cases ho
      refine stepG_of (fun g d hdep => ?_)
      exact step_bld7 rfl trivial _ _ _ _ _ _ _ _ _ _ _ _ _ _ _ (.int .i64 (n : Int)) (.int .i64 (f : Int)) (.int .i64 (s : Int)) (.bool true) (.pointer (some ⟨lb, 0, none⟩)) (.agg (rbA b)) (sv FN) rfl rfl rfl rfl rfl rfl rfl rfl (fun v hw => bld_RN _ _ _ _ _ _ v)
    | 8, _, ho =>
      cases ho
      exact stepG_newT rfl rfl _ _ rfl run_allocRN (fun g d V hJ hun hcl => by have h9 : d 9 = false := (by cases h : d 9 with | false => rfl | true => exact absurd (hcl 9 _ rfl h 8 (by kernel_rfl)) (by rw [hun]; simp)); have hJ' := hJ; rw [hun, h9] at hJ'; refine ⟨V.heap.size, (fun j hj => match j, hj with | 8, hj => (by rw [hj] at hun; cases hun)  | 0, _ => rfl | 1, _ => rfl | 2, _ => rfl | 3, _ => rfl | 4, _ => rfl | 5, _ => rfl | 6, _ => rfl | 7, _ => rfl | 9, _ => rfl | _ + 10, _ => rfl), rfl, ?_⟩; show J8 u3 (n : Int) (f : Int) (s : Int) lb b FN _ true (d 9) _; rw [h9]; exact hJ'.new)
    | 9, _, ho =>
      cases ho
      exact stepG_store rfl rfl rfl _ _ _ (fun g => .pointer (some ⟨g, 0, none⟩)) (fun g => .agg (rnV (n : Int) (f : Int) (s : Int) (.pointer (some ⟨lb, 0, none⟩)) b (.slice none 0 0) FN 0 0 0 (.slice none 0 0) (.slice none 0 0) (.slice none 0 0))) rfl (fun g => by kernel_rfl) (fun g => by kernel_rfl) (fun g d V hJ hun hdep => by have h8 : d 8 = true := hdep 8 (by kernel_rfl); have hJ' := hJ; rw [h8, hun] at hJ'; obtain ⟨V', hr, hA⟩ := hJ'.store; refine ⟨V', hr, ?_⟩; show J8 u3 (n : Int) (f : Int) (s : Int) lb b FN _ (d 8) true V'; rw [h8]; exact hA)
  intro g d W hall hW
  first | refine hK _ _ ?_ | refine (‹∀ (a : Act) (w : World), Code.wp Tryz.prog _ _ a w → _›) _ _ ?_ | skip
  simp only [finL, List.getD_cons_zero, List.getD_cons_succ, Nat.zero_add, Nat.reduceAdd, List.setIfInBounds_toArray, List.set_cons_zero, List.set_cons_succ]
  rw [hall 8 (by decide), hall 9 (by decide)] at hW
  clear hK
  obtain ⟨hgx, hx0⟩ := hW.bx rfl
  rw [if_pos rfl] at hx0
  have hX : RN W g (n : Int) (f : Int) (s : Int) (.pointer (some ⟨lb, 0, none⟩)) b (.slice none 0 0) FN 0 0 0 (.slice none 0 0) (.slice none 0 0) (.slice none 0 0) := hx0
  clear hx0
  have hbW : Below u.heap.size u W := bel2 hb3 hW.be
  have hRW := hRu.carry hbW
  have hgW := (hbW.block _ (lt_at gu)).trans gu
  have hBW := (hW.be.block _ hg3l).trans hg3
  have hox : W.cell? ⟨lb, 1, none⟩ = some (.bool false) := hRW.f.trans (by rw [hoff])
  by_cases hm : b.ro = 1099511627775
  · have hnx := rNextE hX hox hm
    go_wp2_with (first
      | (go_at_call 33; (with_reducible refine hnx.mono ?_); rintro e u4 ⟨rfl, hu4⟩; obtain rfl := hu4.symm)
      | (refine wpList_store_row rfl 58 (.tmp 8) (.tmp 63) rfl w.heap.size nZ rfl rfl 58 _ hgW infoRN rfl (by simp [nZ, Value.oneCell']) ?_; obtain ⟨v, hv⟩ : ∃ v, W.setRow w.heap.size nZ = v := ⟨_, rfl⟩; have hgv : v.heap[w.heap.size]? = some (.cells nZ 58 (0, 0)) := (by rw [← hv]; exact setRow_heap _ _ _ _ _ _ hgW); have hRO : RO w lb base r c d1 v := (by rw [← hv]; exact (RO.of hb1 hRu hTu hbW).row hl hrl _); rw [hv]))
    (try simp only [Exit.inBlock, Exit.then])
    exact retC2Z rfl rfl rfl rfl hgv undRN infoRN ⟨fun _ => ⟨rfl, hRO⟩, fun q => absurd hm q⟩
  have hnx := rNextF hX hox hm (hne hm) hk4
  have hI := i64_id (b.ro + 1) (by omega) (by omega)
  have hrt1 := hrt (b.ro + 1) (by omega) (by omega)
  clear hrt hne
  have hgu : u.heap.size < g := by omega
  have hneq : g ≠ u.heap.size := by omega
  obtain ⟨R, hR'⟩ : ∃ R, b.ro + 1 = R := ⟨_, rfl⟩
  rw [hR'] at hnx hrt1
  have HR : Hid (b.ro + 1 = R) := hR'
  clear hR' hI
  have kX := fun V (hV : TpZ g W V) => (World.cell?_of_block (a := ⟨u.heap.size, 5, none⟩) (hV.block _ (lt_at hBW) (Ne.symm hneq))).trans ((cell_at hBW 5).trans rfl : W.cell? ⟨u.heap.size, 5, none⟩ = some (.int .i64 b.ta))
  go_wp2_with (first
    | (go_at_call 33; (with_reducible refine hnx.mono ?_); rintro e u4 ⟨rfl, hX4, ht4⟩; have k4 := kX u4 ht4)
    | (go_at_call 34; (with_reducible refine (hrb _).mono ?_); intro e u5 hv5; obtain ⟨ad, cap, rfl, hrd5, hcap5, hlk5⟩ := hv5.ok (by omega) (by omega) (by omega); rw [Int.toNat_natCast, Int.toNat_natCast] at hrd5; rw [Int.toNat_natCast] at hcap5; have e5 : (n : Int).toNat = n := Int.toNat_natCast n; rw [e5]; have X5 := hX4.carry hv5.1; have t5 := ht4.moreB hv5.1; obtain ⟨u6, hs6, X6, t6⟩ := X5.putBk (.slice ad n cap) rfl)
    | (have m := hs6; refine wpList_store_runD rfl 48 (.tmp 73) (.tmp 71) rfl _ _ rfl rfl hs6 ?_; have T6 := t5.trans t6; have c12 : u6.cell? ⟨g, 12, none⟩ = some (.int .u32 (wd FN 0 : Nat)) := X6.c 12 rfl; have c13 : u6.cell? ⟨g, 13, none⟩ = some (.int .u32 (wd FN 1 : Nat)) := X6.c 13 rfl; have c14 : u6.cell? ⟨g, 14, none⟩ = some (.int .u32 (wd FN 2 : Nat)) := X6.c 14 rfl; have c15 : u6.cell? ⟨g, 15, none⟩ = some (.int .u32 (wd FN 3 : Nat)) := X6.c 15 rfl; have hrt6 := hrt1 u6; simp only [sv] at hrt6)
    | (go_at_call 35; (with_reducible refine hrt6.mono ?_); rintro e u7 ⟨a1, a2, rfl, o1, o2, hb7⟩; have X7 := X6.carry hb7; have T7 := T6.moreB hb7; obtain ⟨u8, hs8, X8, t8⟩ := X7.putT (n : Int) (f : Int) R (.slice (some ⟨a1, 0, none⟩) 1 1) (.slice (some ⟨a2, 0, none⟩) 1 1) rfl rfl)
    | (have m := hs8; refine wpList_store_runD rfl 55 (.tmp 84) (.tmp 82) rfl _ _ rfl rfl hs8 ?_; have T8 := T7.trans t8; have k8 := kX u8 T8; have htl := tell_one X8 (evBg b.ta R); rw [evBg_V] at htl)
    | (go_at_call 36; (with_reducible refine htl.mono ?_); rintro e u9 ⟨rfl, a3, c3, X9, o9, t9⟩; have T9 := T8.trans t9; have s9 : W.heap.size ≤ u9.heap.size := T9.size; have g9 := (T9.block _ (lt_at hgW) (show w.heap.size ≠ g by have := lt_at g1; have := hTu.size; omega)).trans hgW)
    | (have m := g9; refine wpList_load_row rfl 58 (.tmp 12) rfl g rfl 58 _ (0, 0) _ X9 undRN rfl infoRN ?_)
    | (have m := g9; refine wpList_store_row rfl 58 (.tmp 8) (.tmp 90) rfl w.heap.size (rnV (n : Int) (f : Int) (s : Int) (.pointer (some ⟨lb, 0, none⟩)) ⟨b.r, R, b.ta⟩ (.slice ad n cap) FN (n : Int) (f : Int) R (.slice (some ⟨a1, 0, none⟩) 1 1) (.slice (some ⟨a2, 0, none⟩) 1 1) (.slice (some ⟨a3, 0, none⟩) 1 c3)) rfl rfl 58 _ g9 infoRN rfl (rnV_one _ _ _ _ _ _ _ _ _ _ _ _ _ _ _ _ _ _ _ _ _) ?_; obtain ⟨v, hv⟩ : ∃ v, u9.setRow w.heap.size (rnV (n : Int) (f : Int) (s : Int) (.pointer (some ⟨lb, 0, none⟩)) ⟨b.r, R, b.ta⟩ (.slice ad n cap) FN (n : Int) (f : Int) R (.slice (some ⟨a1, 0, none⟩) 1 1) (.slice (some ⟨a2, 0, none⟩) 1 1) (.slice (some ⟨a3, 0, none⟩) 1 c3)) = v := ⟨_, rfl⟩; have hgv : v.heap[w.heap.size]? = some (.cells (rnV (n : Int) (f : Int) (s : Int) (.pointer (some ⟨lb, 0, none⟩)) ⟨b.r, R, b.ta⟩ (.slice ad n cap) FN (n : Int) (f : Int) R (.slice (some ⟨a1, 0, none⟩) 1 1) (.slice (some ⟨a2, 0, none⟩) 1 1) (.slice (some ⟨a3, 0, none⟩) 1 c3)) 58 (0, 0)) := (by rw [← hv]; exact setRow_heap _ _ _ _ _ _ g9); rw [hv]))
  (try simp only [Exit.inBlock, Exit.then])
  have hHR := HR.out
  have l4 := hX4.lt
  have z1 := hTu.size
  have z2 := hb1.size
  have z3 := hbW.size
  have z4 := ht4.size
  have z5 := hv5.1.size
  have z6 := t6.size
  have z7 := hb7.size
  have z8 := t8.size
  have z9 := t9.size
  have zl := lt_at g1
  have hgl : w.heap.size < g := by omega
  have T59 : TpZ g u5 u9 := ((t6.trans (TpZ.of g hb7)).trans t8).trans t9
  have Tv : TpZ w.heap.size u9 v := by rw [← hv]; exact TpZ.row _ _ _
  have hlk : ∀ a, ad = some a → u4.heap.size ≤ a.block := fun a ha => (hlk5 a ha).1
  have hRO : RO w lb base r c d1 v := by rw [← hv]; exact (RO.of hb1 hRu hTu (TpZ.young hbW T9 (by omega))).row hl hrl _
  refine retC2Z rfl rfl rfl rfl hgv undRN infoRN ⟨fun q => absurd q hm, fun _ => ⟨ad, cap, a1, a2, a3, c3, ?_, ?_⟩⟩
  · rw [hHR]
    rfl
  · rw [hHR]
    refine ⟨hRO, rdn_off (rdn_off hrd5 (fun a ha => by have := hlk a ha; omega) T59) (fun a ha => by have := hlk a ha; omega) Tv, ?_, row_offZ o9 (by omega) (by omega) Tv, hcap5⟩
    exact row_offZ (row_offZ o1 (by omega) (Nat.le_refl _) (t8.trans t9)) (by omega) (by omega) Tv
end
end Go.Proofs.YtklnfbanfgdgcaaGreatDoor
namespace Go.Proofs.YtklnfbanfgdgcaaGreatDoor
open Go.RowKit Go.Shelf Go.Lib

theorem set4_other {W : World} {b k M : Nat} (h : k ≠ b) : (set4 W b M).heap[k]? = W.heap[k]? := by
  unfold set4
  rw [Below.heap_setCell _ _ _ _ h, Below.heap_setCell _ _ _ _ h, Below.heap_setCell _ _ _ _ h, Below.heap_setCell _ _ _ _ h]

theorem rank_new {L : List N3} (hb : Bok L) {i : Nat} {o t k : Int} (hx : L[i]? = some (o, t, k)) : decide (rk t k > 0) = pNew (o, t, k) := by
  obtain ⟨h1, h2⟩ := hb i _ hx
  have h2' : rk t k ≠ -1 := h2
  obtain ⟨h3, h4, h5⟩ := rk_ok.1 h2'
  unfold pNew
  by_cases e : (o, t, k) = (o, 0, 1)
  · have e1 := congrArg (fun x : N3 => x.2.1) e
    have e2 := congrArg (fun x : N3 => x.2.2) e
    dsimp only at e1 e2
    subst e1 e2
    rw [show rk 0 1 = 0 by unfold rk; simp]
    simp
  · have hne : ¬ ((o, t, k).1 = o ∧ t = 0 ∧ k = 1) := fun h => e (by rw [h.2.1, h.2.2])
    have : rk t k > 0 := by
      unfold rk
      rw [if_neg (by omega)]
      rcases h5 with rfl | rfl
      · rw [if_pos rfl]; simp at hne; omega
      · rw [if_neg (by decide), if_pos rfl]; omega
    rw [decide_eq_true this, decide_eq_false e]
    rfl
set_option maxHeartbeats 4000000 in
set_option maxRecDepth 100000 in
theorem rNews_any {w : World} (ad : Option Addr) (n cap : Nat) (L : List N3) (h : RdN w ad L) (hn : L.length = n) (h0 : 0 < n) (h1 : n ≤ 100) (hbo : Bok L) : Calls Tryz.prog 189 #[.agg #[.slice ad n cap]] w fun e w' => ∃ v, e = .returned v ∧ Made w w' v (L.filter pNew) ∧ Below w.heap.size w w' := by
  obtain ⟨ic, hic, hz0, hz1, hz2⟩ := info_partsN
  obtain ⟨b, off, rfl, hbl, hat⟩ := h (fun e => by rw [e] at hn; simp at hn; omega)
  have HAT : Hid (NtsAt w b off L) := hat
  have HBO : Hid (Bok L) := hbo
  have HN : Hid (L.length = n) := hn
  have hr1 : RB (w.alloc (.cells #[.slice (some ⟨b, off, none⟩) n cap] 48)) w.heap.size (.slice (some ⟨b, off, none⟩) n cap) := new_at rfl
  clear hat hbo hn h
  go_enter Tryz.func189, Tryz.ntmps189
  go_wp2
  go_loopw [3, 4] (fun c i wz => ∃ (k : Nat), i = .int .i64 k ∧ k ≤ n ∧ wz.ownsRow (w.heap.size + 1) 185 3 c ((L.take k).filter pNew).length (fl ((L.take k).filter pNew)) ∧ RB wz w.heap.size (.slice (some ⟨b, off, none⟩) n cap) ∧ Below w.heap.size w wz) (fun _ i _ => n - vnatR i)
  case atStart => exact ⟨0, rfl, Nat.zero_le _, World.ownsRow_nil _ _ _ _, hr1, al1 _ _⟩
  case round =>
    obtain ⟨k, rfl, hk, hrow, hrb, hbw⟩ := hrel
    have hlw := lt_at hrb
    have r0 := hrb.cell
    by_cases hkl : k < n
    · have hki : (k : Int) < (n : Int) := by omega
      obtain ⟨⟨o, t, q⟩, hx⟩ : ∃ x, L[k]? = some x := ⟨_, List.getElem?_eq_getElem (by rw [HN.out]; exact hkl)⟩
      obtain ⟨c0, c1, c2⟩ := (HAT.out.carry hbl hbw) k _ hx
      dsimp only at c0 c1 c2
      have hra := rRank_any o t q wr
      have hpn := rank_new HBO.out hx
      have HFS : Hid ((L.take (k + 1)).filter pNew = if pNew (o, t, q) = true then (L.take k).filter pNew ++ [(o, t, q)] else (L.take k).filter pNew) := by
        show _ = _
        rw [List.take_add_one, hx]
        exact filter_snoc pNew (L.take k) (o, t, q)
      have hfl : ((L.take k).filter pNew).length ≤ n := Nat.le_trans (List.length_filter_le _ _) (by simp; omega)
      have HX : Hid (L[k]? = some (o, t, q)) := hx
      unfold nt at hra
      clear hx
      cases hp : pNew (o, t, q) with
      | false =>
        rw [hp] at hpn
        have hgt : ¬ 0 < rk t q := of_decide_eq_false hpn
        have HF2 := HFS.out
        rw [hp, if_neg (by decide)] at HF2
        have HF3 : Hid ((L.take (k + 1)).filter pNew = (L.take k).filter pNew) := HF2
        clear HF2 hpn
        generalize rk t q = rr at hra hgt
        go_wp2_with (go_at_call 234; (with_reducible refine hra.mono ?_); rintro e u1 ⟨rfl, hb1⟩)
        go_roundw
        case rel =>
          refine ⟨k + 1, by simp, by omega, ?_, hrb.carry hb1, bel2 hbw hb1⟩
          rw [HF3.out]
          exact row_below hrow hb1
        case measure => simp [vnatR]; omega
      | true =>
        rw [hp] at hpn
        have hgt : 0 < rk t q := of_decide_eq_true hpn
        have HF2 := HFS.out
        rw [hp, if_pos rfl] at HF2
        have HF3 : Hid ((L.take (k + 1)).filter pNew = (L.take k).filter pNew ++ [(o, t, q)]) := HF2
        clear HF2 hpn
        generalize rk t q = rr at hra hgt
        go_wp2_with (first | (go_at_call 234; (with_reducible refine hra.mono ?_); rintro e u1 ⟨rfl, hb1⟩; have hbu := bel2 hbw hb1; obtain ⟨d0, d1, d2⟩ := (HAT.out.carry hbl hbu) k _ HX.out; dsimp only at d0 d1 d2; have hrow1 := row_below hrow hb1; have hrb1 := hrb.carry hb1; have r1 := hrb1.cell; have hsz1 := hb1.size) | (at_builtin; refine wpList_append_own _ rfl _ _ 46 rfl (w.heap.size + 1) 185 ic _ 3 24 Tryz.underlying46 hic hz0 hz1 hz2 rfl (by decide) _ _ _ rfl (hrow1.alloc _) ⟨u1.heap.size, 0, none⟩ 1 1 [_, _, _] rfl rfl (rowN _ #[_, _, _] _) (by simp [Value.oneCell']) (by unfold maxLen; omega) (by omega) (by simp; omega) ?_; intro v' w2 hown' hgrow _))
        go_roundw
        case rel =>
          refine ⟨k + 1, by simp, by omega, ?_, ?_, (hbu.alloc hbu.size _).grown hgrow (Nat.le_trans hbu.size (by simp)) (fun q e => by have := own_block hrow1 q e; omega)⟩
          · rw [HF3.out, fl_append, List.length_append]; exact hown'
          · exact (hgrow.block _ (by simp; omega) (fun e => by have := own_block hrow1 _ e.symm; omega)).trans (old_at hrb1)
        case measure => simp [vnatR]; omega
    · have hkk : k = n := by omega
      subst hkk
      have HM : Hid (Made w wr u3 (L.filter pNew)) := by
        rw [List.take_of_length_le (by rw [HN.out]; exact Nat.le_refl _)] at hrow
        exact ownsRow_base hrow (by omega)
      clear hrow
      go_wp2
      go_ret
      exact ⟨_, rfl, HM.out, hbw⟩
theorem sus_take {L : List N3} (hb : Bok L) {k : Nat} {o t q : Int} (hx : L[k]? = some (o, t, q)) : sus (L.take (k + 1)) = if q = 2 then sus (L.take k) ||| 2 ^ k else sus (L.take k) := by
  have h1 := (hb k _ hx).1
  dsimp only at h1
  unfold sus
  rw [List.take_add_one, hx]
  simp only [Option.toList_some, List.foldl_append, List.foldl_cons, List.foldl_nil]
  unfold sst
  dsimp only
  rw [show o.toNat = k by omega]
theorem sus_take_lt {L : List N3} (hb : Bok L) (hl : L.length ≤ 100) (k : Nat) : sus (L.take k) < 2 ^ 100 := fold_sst_lt _ 0 (fun x hx => bok_lt hb hl x (List.mem_of_mem_take hx)) (by decide)
set_option maxHeartbeats 4000000 in
set_option maxRecDepth 100000 in
theorem rSus_any {w : World} (ad : Option Addr) (n cap : Nat) (L : List N3) (h : RdN w ad L) (hn : L.length = n) (h0 : 0 < n) (h1 : n ≤ 100) (hbo : Bok L) : Calls Tryz.prog 146 #[.agg #[.slice ad n cap]] w fun e w' => e = .returned (sv (sus L)) ∧ Below w.heap.size w w' := by
  obtain ⟨b, off, rfl, hbl, hat⟩ := h (fun e => by rw [e] at hn; simp at hn; omega)
  have HAT : Hid (NtsAt w b off L) := hat
  have HBO : Hid (Bok L) := hbo
  have HN : Hid (L.length = n) := hn
  have hr1 : RB (((w.alloc (.cells #[.slice (some ⟨b, off, none⟩) n cap] 48)).alloc (.cells #[.int .u32 0, .int .u32 0, .int .u32 0, .int .u32 0] 51)).alloc (.cells #[.int .u32 0, .int .u32 0, .int .u32 0, .int .u32 0] 51)) w.heap.size (.slice (some ⟨b, off, none⟩) n cap) := old_at (old_at (new_at rfl))
  have hs1 : Holds4 (((w.alloc (.cells #[.slice (some ⟨b, off, none⟩) n cap] 48)).alloc (.cells #[.int .u32 0, .int .u32 0, .int .u32 0, .int .u32 0] 51)).alloc (.cells #[.int .u32 0, .int .u32 0, .int .u32 0, .int .u32 0] 51)) (w.heap.size + 1) (fun _ => 0) := old_at (new_at (by simp))
  have hs2 : Holds4 (((w.alloc (.cells #[.slice (some ⟨b, off, none⟩) n cap] 48)).alloc (.cells #[.int .u32 0, .int .u32 0, .int .u32 0, .int .u32 0] 51)).alloc (.cells #[.int .u32 0, .int .u32 0, .int .u32 0, .int .u32 0] 51)) (w.heap.size + 2) (wd 0) := Holds4.congr (c := fun _ => 0) (new_at (by simp)) (fun j _ => (wd_zero j).symm)
  clear hat hbo hn h
  go_enter Tryz.func146, Tryz.ntmps146
  go_wp2
  go_loopw [4] (fun i wz => ∃ (k : Nat), i = .int .i64 k ∧ k ≤ n ∧ Holds4 wz (w.heap.size + 2) (wd (sus (L.take k))) ∧ Holds4 wz (w.heap.size + 1) (fun _ => 0) ∧ RB wz w.heap.size (.slice (some ⟨b, off, none⟩) n cap) ∧ Below w.heap.size w wz) (fun i _ => n - vnatR i)
  case atStart => exact ⟨0, rfl, Nat.zero_le _, hs2, hs1, hr1, al3 _ _ _ _⟩
  case round =>
    obtain ⟨k, rfl, hk, hs, hr, hrb, hbw⟩ := hrel
    have hlw := lt_at hrb
    have r0 := hrb.cell
    have HR : Hid (Holds4 wr (w.heap.size + 1) (fun _ => 0)) := hr
    have HS : Hid (Holds4 wr (w.heap.size + 2) (wd (sus (L.take k)))) := hs
    clear hr hs hr1 hs1 hs2
    by_cases hkl : k < n
    · have hki : (k : Int) < (n : Int) := by omega
      obtain ⟨⟨o, t, q⟩, hx⟩ : ∃ x, L[k]? = some x := ⟨_, List.getElem?_eq_getElem (by rw [HN.out]; exact hkl)⟩
      obtain ⟨c0, c1, c2⟩ := (HAT.out.carry hbl hbw) k _ hx
      dsimp only at c0 c1 c2
      have HST : Hid (sus (L.take (k + 1)) = if q = 2 then sus (L.take k) ||| 2 ^ k else sus (L.take k)) := sus_take HBO.out hx
      have hpu := rPut_any (sus (L.take k)) (sus_take_lt HBO.out (by rw [HN.out]; exact h1) k) k (by omega)
      clear hx
      by_cases hq : q = 2
      · subst hq
        have HS2 := HST.out
        rw [if_pos rfl] at HS2
        have HS3 : Hid (sus (L.take (k + 1)) = sus (L.take k) ||| 2 ^ k) := HS2
        obtain ⟨x0, x1, x2, x3, _, _, _, _⟩ := HS.out.facts
        generalize sus (L.take k) ||| 2 ^ k = M at hpu HS3
        clear HS2 HST
        unfold sv at hpu
        go_wp2_with (go_at_call 190; (with_reducible refine (hpu _).mono ?_); rintro e u1 ⟨rfl, hb1⟩; have HS1 : Hid (Holds4 u1 (w.heap.size + 2) (wd (sus (L.take k)))) := HS.out.carry hb1; obtain ⟨y0, y1, y2, y3, z0, z1, z2, z3⟩ := HS1.out.facts)
        go_roundw
        case rel =>
          have hbu := bel2 hbw hb1
          refine ⟨k + 1, by simp, by omega, ?_, (set4_other (M := M) (by omega)).trans (HR.out.carry hb1), (set4_other (M := M) (by omega)).trans (hrb.carry hb1), below4 hbu (by omega) M⟩
          rw [HS3.out]
          exact fin4 HS1.out M
        case measure => simp [vnatR]; omega
      · have HS2 := HST.out
        rw [if_neg hq] at HS2
        have HS3 : Hid (sus (L.take (k + 1)) = sus (L.take k)) := HS2
        have hq2 : (q == 2) = false := by simpa using hq
        clear HS2 HST hpu
        go_wp2
        go_roundw
        case rel =>
          refine ⟨k + 1, by simp, by omega, ?_, HR.out, hrb, hbw⟩
          rw [HS3.out]
          exact HS.out
        case measure => simp [vnatR]; omega
    · have hkk : k = n := by omega
      subst hkk
      rw [List.take_of_length_le (by rw [HN.out]; exact Nat.le_refl _)] at HS
      obtain ⟨x0, x1, x2, x3, _, _, _, _⟩ := HS.out.facts
      obtain ⟨y0, y1, y2, y3, z0, z1, z2, z3⟩ := HR.out.facts
      go_wp2
      exact ret4 rfl rfl rfl (fin4 HR.out _) ⟨rfl, below4 hbw (by omega) _⟩
end Go.Proofs.YtklnfbanfgdgcaaGreatDoor
namespace Go.Proofs.YtklnfbanfgdgcaaGreatDoor
open Go.RowKit Go.Shelf Go.Lib
set_option linter.unusedVariables false

section
variable {d : Dst} {j : Nat} {b : Bo}
end
end Go.Proofs.YtklnfbanfgdgcaaGreatDoor
