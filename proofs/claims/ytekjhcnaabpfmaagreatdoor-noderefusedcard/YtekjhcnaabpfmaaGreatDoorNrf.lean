/- The walk of NodeRefused. -/
import Derived.WalkKit
import Derived.ProofKit
import Derived.OpenShut
import Derived.Test.YtekjhcnaabpfmaaGreatDoorJnJ41
namespace Go.Proofs.YtekjhcnaabpfmaaGreatDoor
set_option maxHeartbeats 40000000
set_option maxRecDepth 100000
set_option linter.unusedVariables false
open Go.ChangeShapes Go.WideShapes Go.ChangeAt Go.RowKit Go.Shelf Go.Lib
theorem refused_in (w : World) (a0 : Int) (w0 : (Lit.int .i64 a0).wf = true) (a1 : Int) (w1 : (Lit.int .i64 a1).wf = true) (a2 : Int) (w2 : (Lit.int .i64 a2).wf = true) (ad3 : Option Addr) (cap3 : Nat) (l3 : List OpN) (w3 : RdW w ad3 l3) (hc3 : l3.length ≤ cap3) (hm3 : cap3 ≤ maxLen) (ad4 : Option Addr) (cap4 : Nat) (l4 : List Nat) (w4 : RdBW w ad4 l4) (hb4 : BytW l4) (hc4 : l4.length ≤ cap4) (hm4 : cap4 ≤ maxLen) (hL : laidMetH Tryz.prog lay3 w) :
   Calls Tryz.prog 3 #[.int .i64 a0, .int .i64 a1, .int .i64 a2, .slice ad3 l3.length cap3, .slice ad4 l4.length cap4] w fun e w' => e = .returned (.bool true) ∧ Below w.heap.size w w' := by
 have hmx := mixO
 have hEn := env_of hL
 clear hL
 have hbs := size_of hEn
 have hdn := dnew_any w
 have hlm : l3.length ≤ maxLen := Nat.le_trans hc3 hm3
 have HEn : Hid (Env w) := hEn
 have HW : Hid (RdW w ad3 l3) := w3
 clear hEn w3 hc3 hm3
 have HD4 : Hid (RdBW w ad4 l4 ∧ BytW l4 ∧ l4.length ≤ cap4) := ⟨w4, hb4, hc4⟩
 clear w4 hb4 hc4 hm4
 by_cases hv : (1 ≤ a0 ∧ a0 ≤ 100 ∧ 0 ≤ a1 ∧ a1 < a0) ∧ 0 ≤ a2 ∧ a2 < a0
 case neg =>
   obtain ⟨E, hE, hop⟩ := nopen_bad hv (some ⟨w.heap.size, 0, none⟩)
   clear hv
   go_enter Tryz.func3, Tryz.ntmps3
   go_wp2_with (first
    | (have m := st2; go_at_call 9; (with_reducible refine (nalive_any _).mono ?_); rintro r u4 ⟨rfl, hu4⟩)
    | (have m := st1; go_at_call 6; (with_reducible refine (hop u1).mono ?_); rintro r u2 ⟨rfl, hu2⟩; obtain rfl := hu2.symm; have st2 := True.intro)
    | (go_at_call 7; (with_reducible refine hdn.mono ?_); rintro r u1 ⟨rfl, hD1, hl1, hu1⟩; have st1 := True.intro))
   go_ret
   exact ⟨rfl, bel2 hu1 hu4⟩
 obtain ⟨⟨v1, v2, v3, v4⟩, v5, v6⟩ := hv
 obtain ⟨n, rfl⟩ : ∃ n : Nat, a0 = (n : Int) := ⟨a0.toNat, by omega⟩
 obtain ⟨f, rfl⟩ : ∃ f : Nat, a1 = (f : Int) := ⟨a1.toNat, by omega⟩
 obtain ⟨s, rfl⟩ : ∃ s : Nat, a2 = (s : Int) := ⟨a2.toNat, by omega⟩
 have hop : ∀ V, Dk V w.heap.size d0 → Calls Tryz.prog 6 #[.int .i64 (n : Int), .int .i64 (f : Int), .int .i64 (s : Int), .pointer (some ⟨w.heap.size, 0, none⟩)] V fun r w' => ∃ x A, r = .returned (.tuple #[.pointer (some ⟨x, 0, none⟩), .int .i64 0]) ∧ Nd w' w.heap.size x A (s0 n f s) ∧ A.p = w.heap.size ∧ V.heap.size ≤ x ∧ TpZ w.heap.size V w' := fun V hV => nopen0 hV (Nat.le_refl _) (by omega) (by omega) (by omega) (by omega)
 have hv0 : Nv 0 (s0 n f s) := Nv.open (by omega) (by omega) (by omega) (by omega)
 have hli : ∀ V, Below w.heap.size w V → Calls Tryz.prog 8 #[.slice ad3 l3.length cap3] V fun e w' => e = .returned (.bool (lgt l3)) ∧ w' = V := fun V hV => light_W V ad3 cap3 l3 (HW.out.carry hV) hlm
 have i64n : IntKind.i64.wrap ((n : Int) - (f : Int)) = (n : Int) - (f : Int) := i64_id _ (by omega) (by omega)
 by_cases hlg : lgt l3 = true
 case neg =>
   have hlf : lgt l3 = false := by simpa using hlg
   rw [hlf] at hli
   clear hlg hlf v1 v2 v3 v4 v5 v6
   go_enter Tryz.func3, Tryz.ntmps3
   go_wp2_with (first
    | (have m := st3; go_at_call 9; (with_reducible refine (nalive_any _).mono ?_); rintro r u4 ⟨rfl, hu4⟩)
    | (have m := st2; go_at_call 8; (with_reducible refine st2.mono ?_); rintro r u3 ⟨rfl, hu3⟩; obtain rfl := hu3.symm; have st3 := True.intro)
    | (have m := st1; go_at_call 6; (with_reducible refine st1.mono ?_); rintro r u2 ⟨x, A, rfl, hN2, hA2, hx2, ht2⟩; have Y2 : Below w.heap.size w u2 := TpZ.young hu1 ht2 (Nat.le_refl _); have st2 := hli u2 Y2)
    | (go_at_call 7; (with_reducible refine hdn.mono ?_); rintro r u1 ⟨rfl, hD1, hl1, hu1⟩; have st1 := hop u1 hD1))
   go_ret
   exact ⟨rfl, bel2 Y2 hu4⟩
 rw [hlg] at hli
 have HLG : Hid (lgt l3 = true) := hlg
 have HV0 : Hid (Nv 0 (s0 n f s)) := hv0
 clear hlg hv0
 by_cases hdl : (l4.length : Int) > 2000
 · as_aux_lemma =>
    clear v1 v2 v3 v4 v5 v6
    go_enter Tryz.func3, Tryz.ntmps3
    go_wp2_with (first
      | (have m := st3; go_at_call 9; (with_reducible refine (nalive_any _).mono ?_); rintro r u4 ⟨rfl, hu4⟩)
      | (have m := st2; go_at_call 8; (with_reducible refine st2.mono ?_); rintro r u3 ⟨rfl, hu3⟩; obtain rfl := hu3.symm; have st3 := True.intro)
      | (have m := st1; go_at_call 6; (with_reducible refine st1.mono ?_); rintro r u2 ⟨x, A, rfl, hN2, hA2, hx2, ht2⟩; have Y2 : Below w.heap.size w u2 := TpZ.young hu1 ht2 (Nat.le_refl _); have st2 := hli u2 Y2)
      | (go_at_call 7; (with_reducible refine hdn.mono ?_); rintro r u1 ⟨rfl, hD1, hl1, hu1⟩; have st1 := hop u1 hD1))
    go_ret
    exact ⟨rfl, bel2 Y2 hu4⟩
 go_enter Tryz.func3, Tryz.ntmps3
 go_wp2_with (first
    | (have m := st2; go_at_call 8; (with_reducible refine st2.mono ?_); rintro r u3 ⟨rfl, hu3⟩; obtain rfl := hu3.symm)
    | (have m := st1; go_at_call 6; (with_reducible refine st1.mono ?_); rintro r u2 ⟨x, A, rfl, hN2, hA2, hx2, ht2⟩; have Y2 : Below w.heap.size w u2 := TpZ.young hu1 ht2 (Nat.le_refl _); have st2 := hli u2 Y2)
    | (go_at_call 7; (with_reducible refine hdn.mono ?_); rintro r u1 ⟨rfl, hD1, hl1, hu1⟩; have st1 := hop u1 hD1))
 have HN2 : Hid (Nd u2 w.heap.size x A (s0 n f s)) := hN2
 have HY2 : Hid (Below w.heap.size w u2) := Y2
 have HE2 : Hid ((s0 n f s).n = n ∧ (s0 n f s).f = f ∧ (s0 n f s).s = s) := ⟨rfl, rfl, rfl⟩
 clear hdn hop hli st1 st2 hN2 hA2 hx2 ht2 hD1 hl1 hu1 Y2
 generalize s0 n f s = S0 at HV0 HN2 HE2
 go_loopw [13] (fun i wz => ∃ (j : Nat) (S : Ns) (A : NA), i = .int .i64 j ∧ j ≤ l3.length ∧ Hid (Nv j S) ∧ Hid (S.n = n ∧ S.f = f ∧ S.s = s) ∧ Hid (Nd wz w.heap.size x A S) ∧ Hid (Below w.heap.size w wz)) (fun i _ => l3.length - vnat i)
 case atStart => exact ⟨0, S0, A, rfl, Nat.zero_le _, HV0, HE2, HN2, HY2⟩
 case round =>
   clear HV0 HE2 HN2 HY2
   obtain ⟨j, S, A, rfl, hjl, HV, HE, HN, HY⟩ := hrel
   by_cases hjn : j < l3.length
   case pos =>
    as_aux_lemma =>
      have hji : (j : Int) < (l3.length : Int) := by omega
      obtain ⟨o, hx⟩ : ∃ o, l3[j]? = some o := ⟨_, List.getElem?_eq_getElem hjn⟩
      obtain ⟨hn3, hn8⟩ := lgt_at HLG.out hx
      have HX : Hid (l3[j]? = some o) := hx
      have HN3 : Hid (o.nl.length ≤ 300) := hn3
      clear hx hn3
      obtain ⟨b, off, ea, hbl, c0, c1, c2, c3, c4, c5, c6, c7, c8, c9, c10, c11, hok⟩ := HW.out.at HX.out
      have HBL : Hid (b < w.heap.size) := hbl
      subst ea
      clear hok hbl c0 c1 c2 c3 c4 c5 c6 c7 c8 c9 c10 c11
      have hcell : ∀ V, Below w.heap.size w V → V.cell? ⟨b, off + j * 12, none⟩ = some (.int .i64 o.k) ∧ V.cell? ⟨b, off + j * 12 + 1, none⟩ = some (.int .i64 o.a) ∧ V.cell? ⟨b, off + j * 12 + 2, none⟩ = some (.int .i64 o.b) ∧ V.cell? ⟨b, off + j * 12 + 3, none⟩ = some (.int .i64 o.nk) ∧ V.cell? ⟨b, off + j * 12 + 4, none⟩ = some (.int .i64 o.nf) ∧ V.cell? ⟨b, off + j * 12 + 5, none⟩ = some (.int .i64 o.nr) ∧ V.cell? ⟨b, off + j * 12 + 6, none⟩ = some (.int .u32 (wd o.nN 0 : Nat)) ∧ V.cell? ⟨b, off + j * 12 + 7, none⟩ = some (.int .u32 (wd o.nN 1 : Nat)) ∧ V.cell? ⟨b, off + j * 12 + 8, none⟩ = some (.int .u32 (wd o.nN 2 : Nat)) ∧ V.cell? ⟨b, off + j * 12 + 9, none⟩ = some (.int .u32 (wd o.nN 3 : Nat)) ∧ V.cell? ⟨b, off + j * 12 + 10, none⟩ = some (.slice o.na o.nl.length o.nc) ∧ V.cell? ⟨b, off + j * 12 + 11, none⟩ = some (.slice o.da o.dl.length o.dc) := fun V hV => (by
        have k : ∀ i, V.cell? ⟨b, i, none⟩ = w.cell? ⟨b, i, none⟩ := fun i => hV.cell (p := ⟨b, i, none⟩) HBL.out
        obtain ⟨b', off', ea, hbl, c0, c1, c2, c3, c4, c5, c6, c7, c8, c9, c10, c11, hok⟩ := HW.out.at HX.out
        obtain ⟨rfl, rfl⟩ : b = b' ∧ off = off' := by simpa using ea
        simp only [k]
        exact ⟨c0, c1, c2, c3, c4, c5, c6, c7, c8, c9, c10, c11⟩)
      have hdo : ∀ V, Below wr.heap.size wr V → Calls Tryz.prog 10 #[.pointer (some ⟨x, 0, none⟩), .int .i64 (n : Int), .agg #[.int .i64 o.k, .int .i64 o.a, .int .i64 o.b, .int .i64 o.nk, .int .i64 o.nf, .int .i64 o.nr, .int .u32 (wd o.nN 0 : Nat), .int .u32 (wd o.nN 1 : Nat), .int .u32 (wd o.nN 2 : Nat), .int .u32 (wd o.nN 3 : Nat), .slice o.na o.nl.length o.nc, .slice o.da o.dl.length o.dc]] V fun r V' => ∃ E S' A', r = .returned (.int .i64 E) ∧ Hid (Nv (j + 1) S') ∧ Hid (S'.n = n ∧ S'.f = f ∧ S'.s = s) ∧ Hid (Nd V' w.heap.size x A' S') ∧ Mv x A A' V V' := fun V hV => by
        obtain ⟨e1, e2, e3⟩ := HE.out
        have hY := bel2 HY.out hV
        have := do_any (HN.out.carry hV) HV.out (by omega) (HEn.out.carry hY) hbs ((HW.out.op HX.out).carry hY) HN3.out
        rw [e1] at this
        refine this.mono ?_
        rintro r V' ⟨E, S', A', rfl, hdr, hN', hM'⟩
        obtain ⟨g1, g2, g3, g4, g5⟩ := hdr.rnd HV.out (by omega)
        exact ⟨E, S', A', rfl, g1, ⟨g2.trans e1, g3.trans e2, g4.trans e3⟩, hN', hM'⟩
      have st1 := hdo wr (Below.refl _ _)
      obtain ⟨q0, q1, q2, q3, q4, q5, q6, q7, q8, q9, q10, q11⟩ := hcell wr HY.out
      go_wp2_with (go_at_call 10; (with_reducible refine st1.mono ?_); rintro r u3 ⟨E, S', A', rfl, HV', HE', HN', hM3⟩; have Z3 : Below w.heap.size w u3 := HY.out.trans (hM3.below HN.out))
      go_roundw
      case rel => exact ⟨j + 1, S', A', by simp, by omega, HV', HE', HN', Z3⟩
      case measure => simp [vnat]; omega
   have hji : ¬ (j : Int) < (l3.length : Int) := by omega
   have hj80 : j ≤ 80 := by have h9 := HLG.out; unfold lgt at h9; rw [Bool.and_eq_true, decide_eq_true_eq] at h9; omega
   obtain ⟨li, hli⟩ : ∃ t, S.b.r.li = t := ⟨_, rfl⟩
   obtain ⟨ro, hro⟩ : ∃ t, S.t.ro = t := ⟨_, rfl⟩
   obtain ⟨ta, hta⟩ : ∃ t, S.b.ta = t := ⟨_, rfl⟩
   obtain ⟨su, hsu⟩ : ∃ t, sus S.l = t := ⟨_, rfl⟩
   obtain ⟨he, hhe⟩ : ∃ t, S.H = t := ⟨_, rfl⟩
   obtain ⟨re, hre⟩ : ∃ t, S.t.reps = t := ⟨_, rfl⟩
   have HQ : Hid (S.b.r.li = li ∧ S.t.ro = ro ∧ S.b.ta = ta ∧ sus S.l = su ∧ S.H = he ∧ S.t.reps = re) := ⟨hli, hro, hta, hsu, hhe, hre⟩
   have hb8 : Hid (su < S128 ∧ he < S128 ∧ re < S128) := ⟨by rw [← hsu]; exact Nat.lt_trans (sus_lt HV.out.bok (by have h1 := HV.out.len; have h2 := HV.out.n2; omega)) (by decide), by rw [← hhe]; exact pow_S128 HV.out.n2 HV.out.H, by rw [← hre]; exact pow_S128 HV.out.n2 HV.out.rp⟩
   have hS1 := sight_ex HN.out HV.out hli hro hta hsu hhe hre HE.out.1
   unfold sgA at hS1
   obtain ⟨L, hL⟩ : ∃ L, S.ev = L := ⟨_, rfl⟩
   have hev : L.length ≤ 1000000 := by rw [← hL]; have := HV.out.ev; omega
   have HLn : Hid (S.ev = L) := hL
   have hP1 : ∀ V, Below wr.heap.size wr V → _ := fun V hV => past_any (HN.out.carry hV) (by have := HV.out.ev; omega)
   simp only [hL] at hP1
   clear hli hro hta hsu hhe hre hL
   go_wp2_with (first
    | (have m := st2; refine wpList_store_row rfl 42 (.tmp 14) (.tmp 55) rfl u2.heap.size #[.bool true, .int .i64 li, .int .i64 ro, .int .i64 ta, .int .u32 (wd su 0 : Nat), .int .u32 (wd su 1 : Nat), .int .u32 (wd su 2 : Nat), .int .u32 (wd su 3 : Nat), .int .u32 (wd he 0 : Nat), .int .u32 (wd he 1 : Nat), .int .u32 (wd he 2 : Nat), .int .u32 (wd he 3 : Nat), .int .u32 (wd re 0 : Nat), .int .u32 (wd re 1 : Nat), .int .u32 (wd re 2 : Nat), .int .u32 (wd re 3 : Nat), .slice (some ⟨g, 0, none⟩) n c] rfl rfl 42 _ gy2 infoSi rfl (by simp [Value.oneCell']) ?_; obtain ⟨x2, hx2⟩ : ∃ V, y2.setRow u2.heap.size #[.bool true, .int .i64 li, .int .i64 ro, .int .i64 ta, .int .u32 (wd su 0 : Nat), .int .u32 (wd su 1 : Nat), .int .u32 (wd su 2 : Nat), .int .u32 (wd su 3 : Nat), .int .u32 (wd he 0 : Nat), .int .u32 (wd he 1 : Nat), .int .u32 (wd he 2 : Nat), .int .u32 (wd he 3 : Nat), .int .u32 (wd re 0 : Nat), .int .u32 (wd re 1 : Nat), .int .u32 (wd re 2 : Nat), .int .u32 (wd re 3 : Nat), .slice (some ⟨g, 0, none⟩) n c] = V := ⟨_, rfl⟩; have X2 : Below u2.heap.size u2 x2 := (by rw [← hx2]; exact below_setRow By2 (Nat.le_refl _)); have G2 : x2.heap[u2.heap.size]? = some (.cells (sgA li ro ta su he re (.slice (some ⟨g, 0, none⟩) n c)) 42 (0, 0)) := (by rw [← hx2]; exact setRow_heap _ _ _ _ _ _ gy2); rw [hx2])
    | (have m := st1; go_at_call 12; (with_reducible refine (hP1 _ hu1).mono ?_); rintro r u2 ⟨pa, pc, rfl, hPr, hu2⟩; obtain ⟨y2, hy2⟩ : ∃ V, u2.alloc (.cells #[.bool false, .int .i64 0, .int .i64 0, .int .i64 0, .int .u32 0, .int .u32 0, .int .u32 0, .int .u32 0, .int .u32 0, .int .u32 0, .int .u32 0, .int .u32 0, .int .u32 0, .int .u32 0, .int .u32 0, .int .u32 0, .slice none 0 0] 42) = V := ⟨_, rfl⟩; have By2 : Below u2.heap.size u2 y2 := (by rw [← hy2]; exact al1' _ _); have gy2 : y2.heap[u2.heap.size]? = some (.cells #[.bool false, .int .i64 0, .int .i64 0, .int .i64 0, .int .u32 0, .int .u32 0, .int .u32 0, .int .u32 0, .int .u32 0, .int .u32 0, .int .u32 0, .int .u32 0, .int .u32 0, .int .u32 0, .int .u32 0, .int .u32 0, .slice none 0 0] 42 (0, 0)) := (by rw [← hy2]; exact zna rfl); have st2 := True.intro)
    | (go_at_call 11; (with_reducible refine hS1.mono ?_); rintro r u1 ⟨g, c, rfl, hRd, hg1, hg2, hu1⟩; have st1 := True.intro))
   have HN2 : Hid (Nd x2 w.heap.size x A S) := HN.out.carry (bel2 (bel2 hu1 hu2) X2)
   have HZ2 : Hid (Below w.heap.size w x2) := bel2 HY.out (bel2 (bel2 hu1 hu2) X2)
   have HR2 : Hid (RdN x2 (some ⟨g, 0, none⟩) S.l) := hRd.carry (bel2 hu2 X2)
   have HP2 : Hid (x2.ownsRow u1.heap.size 90 15 (.slice pa L.length pc) L.length (ecs L)) := zrb hPr X2
   have HG2 : Hid (x2.heap[u2.heap.size]? = some (.cells (sgA li ro ta su he re (.slice (some ⟨g, 0, none⟩) n c)) 42 (0, 0))) := G2
   have HO2 : Hid ((∀ k, nown x A k → k < u1.heap.size) ∧ (¬ nown x A g) ∧ (¬ nown x A u2.heap.size)) := by
    refine ⟨fun k e => ?_, fun e => ?_, fun e => ?_⟩
    · have := HN.out.lt e; have := hu1.size; omega
    · have := HN.out.lt e; omega
    · have := HN.out.lt e; have := hu1.size; have := hu2.size; omega
   clear st1 st2 hS1 hP1 hRd hg1 hg2 hu1 hPr hu2 hy2 By2 gy2 X2 G2 HN HY m
   obtain ⟨b1, hb1⟩ : ∃ b, u1.heap.size = b := ⟨_, rfl⟩
   obtain ⟨B, hB⟩ : ∃ b, u2.heap.size = b := ⟨_, rfl⟩
   simp only [hb1, hB] at HP2 HG2 HO2 ⊢
   clear hb1 hB hx2
   have hfin : ∀ (V U : World) (A' : NA), Below x2.heap.size x2 V → Mv x A A' V U → Hid (RdN U (some ⟨g, 0, none⟩) S.l) ∧ Hid (U.ownsRow b1 90 15 (.slice pa L.length pc) L.length (ecs L)) ∧ Hid (U.heap[B]? = some (.cells (sgA li ro ta su he re (.slice (some ⟨g, 0, none⟩) n c)) 42 (0, 0))) ∧ Hid (Below w.heap.size w U) := fun V U A' hV hM => by
    obtain ⟨o1, o2, o3⟩ := HO2.out
    have hNV := HN2.out.carry hV
    have hgV := (hV.block _ (zla HG2.out)).trans HG2.out
    exact ⟨(HR2.out.carry hV).mvN o2 hM, hM.row hNV (zrb HP2.out hV) o1, (hM.block _ (zla hgV) o3).trans hgV, (bel2 HZ2.out hV).trans (hM.below hNV)⟩
   obtain ⟨hr4, hby4, hcp4⟩ := HD4.out
   have hdc : ∀ V, Below w.heap.size w V → Calls Tryz.prog 13 #[.slice ad4 l4.length cap4, .int .i64 (n : Int)] V (DcO (n : Int) l4 V) := fun V hV => decode_any ad4 cap4 l4 (n : Int) V (hr4.carry hV) hby4 hcp4
   have hdc2 := hdc x2 HZ2.out
   unfold DcO at hdc2
   clear hdc
   have hhn : ∀ (E : Int), dHear S l4 = (S, [], E) → ∀ V, Below x2.heap.size x2 V → Calls Tryz.prog 14 #[.pointer (some ⟨x, 0, none⟩), .slice ad4 l4.length cap4] V fun r w' => ∃ a c A', r = .returned (.tuple #[.slice a 0 c, .int .i64 E]) ∧ Hid (Nd w' w.heap.size x A' S) ∧ Mv x A A' V w' := fun E he V hV => hear_no (HN2.out.carry hV) HV.out (by omega) (HEn.out.carry (bel2 HZ2.out hV)) hbs (hr4.carry (bel2 HZ2.out hV)) hby4 hcp4 he
   have hhy : (dHear S l4).2.2 = 0 → ∀ V, Below x2.heap.size x2 V → Calls Tryz.prog 14 #[.pointer (some ⟨x, 0, none⟩), .slice ad4 l4.length cap4] V fun r w' => ∃ v A', r = .returned (.tuple #[v, .int .i64 0]) ∧ Mv x A A' V w' := fun he V hV => hear_yes (HN2.out.carry hV) HV.out (by omega) (HEn.out.carry (bel2 HZ2.out hV)) hbs (hr4.carry (bel2 HZ2.out hV)) hby4 hcp4 he
   have hsi : ∀ (V : World) (A' : NA), Nd V w.heap.size x A' S → Calls Tryz.prog 11 #[.pointer (some ⟨x, 0, none⟩)] V fun r w' => ∃ g c, r = .returned (.agg (sgA li ro ta su he re (.slice (some ⟨g, 0, none⟩) n c))) ∧ RdN w' (some ⟨g, 0, none⟩) S.l ∧ V.heap.size ≤ g ∧ g < w'.heap.size ∧ Below V.heap.size V w' := fun V A' hV => (by obtain ⟨y1, y2, y3, y4, y5, y6⟩ := HQ.out; exact sight_ex hV HV.out y1 y2 y3 y4 y5 y6 HE.out.1)
   have hpa : ∀ (V : World) (A' : NA), Nd V w.heap.size x A' S → Calls Tryz.prog 12 #[.pointer (some ⟨x, 0, none⟩)] V fun e w' => ∃ a c, e = .returned (.slice a L.length c) ∧ w'.ownsRow V.heap.size 90 15 (.slice a L.length c) L.length (ecs L) ∧ Below V.heap.size V w' := fun V A' hV => (by have := past_any hV (by rw [HLn.out]; exact hev); rw [HLn.out] at this; exact this)
   have HSl : Hid (S.l.length = n ∧ S.l.length ≤ 1000) := ⟨HV.out.len.trans HE.out.1, by have h1 := HV.out.len; have h2 := HV.out.n2; omega⟩
   obtain ⟨m4, hm4⟩ : ∃ m, l4.length = m := ⟨_, rfl⟩
   cases hd : dec (n : Int) l4 with
   | error er =>
    rw [hd] at hdc2
    simp only at hdc2
    have e0 : (er == 0) = false := by simpa using dec_err hd
    have hh := hhn er (dHear_err (by rw [HE.out.1]; exact hd))
    have n1 := nil_yes
    rw [hm4] at hh hdc2 ⊢
    clear hhn hhy hd hr4 hby4 hcp4 HD4 hm4
    as_aux_lemma =>
      go_wp2_with (first
        | (have m := st1; go_at_call 14; (with_reducible refine (hh u3 hu3).mono ?_); rintro r u4 ⟨a5, c5, A', rfl, HN4, hM4⟩; obtain ⟨HR4, HP4, HG4, HZ4⟩ := hfin u3 u4 A' hu3 hM4)
        | (go_at_call 13; (with_reducible refine hdc2.mono ?_); rintro r u3 ⟨rfl, hu3⟩; have st1 := True.intro))
      obtain ⟨q, hq⟩ : ∃ q, g = q := ⟨_, rfl⟩
      rw [hq] at HR4 HG4
      rename_i hK
      refine wp_region_any hmx ?_
      refine zwt (G := (Nat × Nat × Option Addr × Nat)) (fun g i__ => ([(.bool true), (.bool true), (.int .i64 er), (.int .i64 er), (.bool true), (.bool true), (.bool true), (.slice a5 0 c5), (.int .i64 0), (.bool true), (.bool true), (.bool true), (.agg (sgA li ro ta su he re (.slice (some ⟨q, 0, none⟩) n c))), (.pointer (some ⟨x, 0, none⟩)), (.agg (sgA li ro ta su he re (.slice (some ⟨g.1, 0, none⟩) n g.2.1))), (.bool true), (.bool true), (.bool true), (.slice pa L.length pc), (.pointer (some ⟨x, 0, none⟩)), (.slice g.2.2.1 L.length g.2.2.2), (.bool true), (.bool true), (.bool true)] : List Value).getD i__ undef) (fun g d V => Jrf u4 S.l L g (d 14) (d 20) V) (by kernel_rfl) ((0, 0, none, 0)) (show Jrf u4 S.l L (0, 0, none, 0) false false _ from ⟨(Below.refl _ _).drew, fun e => (by cases e), fun e => (by cases e)⟩) ?step1 ?fin1
      case step1 =>
        intro i o ho
        have hi : i < 24 := getElem?_lt ho
        match i, hi, ho with
        | 0, _, ho => cases ho; exact zgo fun g d hdep => zsc rfl trivial 9 _ _ [] rfl (by kernel_rfl) (enters_of Tryz.func9 (by kernel_rfl) rfl) (fun v hw => (nalive_any v).mono (by rintro e w' ⟨rfl, hb⟩; exact ⟨rfl, hw.carry hb⟩))
        | 1, _, ho => cases ho; exact zgo fun g d hdep => zmv rfl trivial _ rfl (by kernel_rfl)
        | 2, _, ho => cases ho; exact zgo fun g d hdep => zmv rfl ⟨_, rfl, by kernel_rfl⟩ _ rfl (by kernel_rfl)
        | 3, _, ho => cases ho; exact zgo fun g d hdep => zmv rfl ⟨_, rfl, by kernel_rfl⟩ _ rfl (by kernel_rfl)
        | 4, _, ho => cases ho; exact zgo fun g d hdep => zbo rfl ⟨_, rfl, by kernel_rfl⟩ _ _ _ _ _ _ _ rfl rfl rfl (fun v hw => bin_selfR _ _)
        | 5, _, ho => cases ho; exact zgo fun g d hdep => step_pick rfl trivial _ _ _ true rfl (by kernel_rfl) (by kernel_rfl)
        | 6, _, ho => cases ho; exact zgo fun g d hdep => zmv rfl trivial _ rfl (by kernel_rfl)
        | 7, _, ho => cases ho; exact zgo fun g d hdep => zmv rfl ⟨_, rfl, by kernel_rfl⟩ _ rfl (by kernel_rfl)
        | 8, _, ho => cases ho; exact zgo fun g d hdep => step_bi rfl ⟨_, rfl, by kernel_rfl⟩ _ _ _ [(.slice a5 0 c5)] rfl (by kernel_rfl) (fun cs v hw => rfl)
        | 9, _, ho => cases ho; exact zgo fun g d hdep => zbo rfl ⟨_, rfl, by kernel_rfl⟩ _ _ _ _ _ _ _ rfl rfl rfl (fun v hw => bin_selfR _ _)
        | 10, _, ho => cases ho; exact zgo fun g d hdep => step_pick rfl trivial _ _ _ true rfl (by kernel_rfl) (by kernel_rfl)
        | 11, _, ho => cases ho; exact zgo fun g d hdep => zmv rfl trivial _ rfl (by kernel_rfl)
        | 12, _, ho => cases ho; exact zgo fun g d hdep => zld rfl ⟨_, rfl, by kernel_rfl⟩ _ _ _ rfl rfl (fun v hw => load_sg ⟨_, _, _, rfl⟩ ((hw.be.block _ (zla HG4.out)).trans HG4.out))
        | 13, _, ho => cases ho; exact zgo fun g d hdep => zmv rfl ⟨_, rfl, by kernel_rfl⟩ _ rfl (by kernel_rfl)
        | 14, _, ho => cases ho; exact stepG_call rfl (fun _ => ⟨_, rfl, by kernel_rfl⟩) 11 _ _ (fun _ => [.pointer (some ⟨x, 0, none⟩)]) rfl (fun g => by kernel_rfl) (enters_of Tryz.func11 (by kernel_rfl) rfl) (fun g d V hJ hun hdep hcl => (hsi V A' (HN4.out.carry hJ.be)).mono (by rintro e V' ⟨g1, c1, rfl, hr, _, _, hb⟩; refine ⟨(g1, c1, g.2.2), rfl, (fun j hj => match j, hj with | 14, hj => (by rw [hj] at hun; cases hun)  | 0, _ => rfl | 1, _ => rfl | 2, _ => rfl | 3, _ => rfl | 4, _ => rfl | 5, _ => rfl | 6, _ => rfl | 7, _ => rfl | 8, _ => rfl | 9, _ => rfl | 10, _ => rfl | 11, _ => rfl | 12, _ => rfl | 13, _ => rfl | 15, _ => rfl | 16, _ => rfl | 17, _ => rfl | 18, _ => rfl | 19, _ => rfl | 20, _ => rfl | 21, _ => rfl | 22, _ => rfl | 23, _ => rfl | _ + 24, _ => rfl), ?_⟩; exact ⟨bel2 hJ.be hb, fun _ => hr, fun e => zrb (hJ.pa e) hb⟩))
        | 15, _, ho => cases ho; exact zgo fun g d hdep => zsc rfl ⟨_, rfl, by kernel_rfl⟩ 15 _ _ [(.agg (sgA li ro ta su he re (.slice (some ⟨q, 0, none⟩) n c))), (.agg (sgA li ro ta su he re (.slice (some ⟨g.1, 0, none⟩) n g.2.1)))] rfl (by kernel_rfl) (enters_of Tryz.func15 (by kernel_rfl) rfl) (fun v hw => (sameS_any hb8.out.1 hb8.out.2.1 hb8.out.2.2 _ _ _ _ S.l HSl.out.1 HSl.out.2 v (HR4.out.carry hw.be) (hw.rd (hdep 14 (by kernel_rfl)))).mono (by rintro e w' ⟨rfl, hb⟩; exact ⟨rfl, hw.carry hb⟩))
        | 16, _, ho => cases ho; exact zgo fun g d hdep => step_pick rfl trivial _ _ _ true rfl (by kernel_rfl) (by kernel_rfl)
        | 17, _, ho => cases ho; exact zgo fun g d hdep => zmv rfl trivial _ rfl (by kernel_rfl)
        | 18, _, ho => cases ho; exact zgo fun g d hdep => zmv rfl ⟨_, rfl, by kernel_rfl⟩ _ rfl (by kernel_rfl)
        | 19, _, ho => cases ho; exact zgo fun g d hdep => zmv rfl ⟨_, rfl, by kernel_rfl⟩ _ rfl (by kernel_rfl)
        | 20, _, ho => cases ho; exact stepG_call rfl (fun _ => ⟨_, rfl, by kernel_rfl⟩) 12 _ _ (fun _ => [.pointer (some ⟨x, 0, none⟩)]) rfl (fun g => by kernel_rfl) (enters_of Tryz.func12 (by kernel_rfl) rfl) (fun g d V hJ hun hdep hcl => (hpa V A' (HN4.out.carry hJ.be)).mono (by rintro e V' ⟨a1, c1, rfl, hr, hb⟩; refine ⟨(g.1, g.2.1, a1, c1), rfl, (fun j hj => match j, hj with | 20, hj => (by rw [hj] at hun; cases hun)  | 0, _ => rfl | 1, _ => rfl | 2, _ => rfl | 3, _ => rfl | 4, _ => rfl | 5, _ => rfl | 6, _ => rfl | 7, _ => rfl | 8, _ => rfl | 9, _ => rfl | 10, _ => rfl | 11, _ => rfl | 12, _ => rfl | 13, _ => rfl | 14, _ => rfl | 15, _ => rfl | 16, _ => rfl | 17, _ => rfl | 18, _ => rfl | 19, _ => rfl | 21, _ => rfl | 22, _ => rfl | 23, _ => rfl | _ + 24, _ => rfl), ?_⟩; exact ⟨bel2 hJ.be hb, fun e => (hJ.rd e).carry hb, fun _ => row_base hr hJ.be.size⟩))
        | 21, _, ho => cases ho; exact zgo fun g d hdep => zsc rfl ⟨_, rfl, by kernel_rfl⟩ 16 _ _ [(.slice pa L.length pc), (.slice g.2.2.1 L.length g.2.2.2)] rfl (by kernel_rfl) (enters_of Tryz.func16 (by kernel_rfl) rfl) (fun v hw => (sameE_any _ _ _ _ _ _ L v (zrb HP4.out hw.be) (hw.pa (hdep 20 (by kernel_rfl))) hev).mono (by rintro e w' ⟨rfl, hb⟩; exact ⟨rfl, hw.carry hb⟩))
        | 22, _, ho => cases ho; exact zgo fun g d hdep => step_pick rfl trivial _ _ _ true rfl (by kernel_rfl) (by kernel_rfl)
        | 23, _, ho => cases ho; exact zgo fun g d hdep => zas rfl trivial _ rfl (by kernel_rfl) (fun _ h => h)
      intro g d W hall hW
      first | refine hK _ _ ?_ | refine (‹∀ (a : Act) (w : World), Code.wp Tryz.prog _ _ a w → _›) _ _ ?_ | skip
      simp only [finL, List.getD_cons_zero, List.getD_cons_succ, Nat.zero_add, Nat.reduceAdd, List.setIfInBounds_toArray, List.set_cons_zero, List.set_cons_succ]
      go_wp2
      go_ret
      exact ⟨rfl, bel2 HZ4.out hW.be⟩
   | ok fz =>
    obtain ⟨kd, fr, rd, N, l⟩ := fz
    rw [hd] at hdc2
    simp only at hdc2
    obtain ⟨kd', fr', rd', N', l', ekd, hkd, _⟩ := dec_inv hby4 hd
    obtain ⟨rfl, rfl, rfl, rfl, rfl⟩ : kd = kd' ∧ fr = fr' ∧ rd = rd' ∧ N = N' ∧ l = l' := by simpa using ekd
    have hnv : kd = 1 ∨ kd = 2 ∨ kd = 3 := by omega
    clear ekd hkd
    have n2 := nil_no
    have i1 := invQ_Sender
    have i2 := invP_Sender
    have i3 := invU_Sender
    by_cases hfs : (fr : Int) = (s : Int)
    · have hh := hhn 72 (dHear_self (by rw [HE.out.1]; exact hd) (by rw [HE.out.2.2]; exact hfs))
      have hf1 : ((fr : Int) != (s : Int)) = false := by simpa using hfs
      rw [hm4] at hh hdc2 ⊢
      clear hhn hhy hd hr4 hby4 hcp4 HD4 hm4 hfs
      rcases hnv with rfl | rfl | rfl
      · as_aux_lemma =>
         unfold noteV at hdc2
         simp only [if_true, if_false, Nat.reduceEqDiff] at hdc2
         go_wp2_with (first
         | (have m := st2; go_at_call 214; (with_reducible refine (senderQ_any _ _ _ _ _ _).mono ?_); rintro r u5 ⟨rfl, hu5⟩; have HR4 := HR5.out.carry hu5; have HP4 := zrb HP5.out hu5; have HG4 := (hu5.block _ (zla HG5.out)).trans HG5.out; have HZ4 := bel2 HZ5.out hu5; have HN4 := HN5.out.carry hu5)
         | (have m := st1; go_at_call 14; (with_reducible refine (hh u3 hu3).mono ?_); rintro r u4 ⟨a5, c5, A', rfl, HN5, hM4⟩; obtain ⟨HR5, HP5, HG5, HZ5⟩ := hfin u3 u4 A' hu3 hM4; have st2 := True.intro)
         | (go_at_call 13; (with_reducible refine hdc2.mono ?_); rintro r u3 ⟨a3, c3, rfl, _, hu3⟩; have st1 := True.intro))
         obtain ⟨q, hq⟩ : ∃ q, g = q := ⟨_, rfl⟩
         rw [hq] at HR4 HG4
         have HR4 : Hid (RdN u5 (some ⟨q, 0, none⟩) S.l) := HR4
         have HP4 : Hid (u5.ownsRow b1 90 15 (.slice pa L.length pc) L.length (ecs L)) := HP4
         have HG4 : Hid (u5.heap[B]? = some (.cells (sgA li ro ta su he re (.slice (some ⟨q, 0, none⟩) n c)) 42 (0, 0))) := HG4
         have HZ4 : Hid (Below w.heap.size w u5) := HZ4
         have HN4 : Hid (Nd u5 w.heap.size x A' S) := HN4
         rename_i hK
         refine wp_region_any hmx ?_
         refine zwt (G := (Nat × Nat × Option Addr × Nat)) (fun g i__ => ([(.bool true), (.bool true), (.int .i64 72), (.int .i64 72), (.bool true), (.bool true), (.bool true), (.slice a5 0 c5), (.int .i64 0), (.bool true), (.bool true), (.bool true), (.agg (sgA li ro ta su he re (.slice (some ⟨q, 0, none⟩) n c))), (.pointer (some ⟨x, 0, none⟩)), (.agg (sgA li ro ta su he re (.slice (some ⟨g.1, 0, none⟩) n g.2.1))), (.bool true), (.bool true), (.bool true), (.slice pa L.length pc), (.pointer (some ⟨x, 0, none⟩)), (.slice g.2.2.1 L.length g.2.2.2), (.bool true), (.bool true), (.bool true)] : List Value).getD i__ undef) (fun g d V => Jrf u5 S.l L g (d 14) (d 20) V) (by kernel_rfl) ((0, 0, none, 0)) (show Jrf u5 S.l L (0, 0, none, 0) false false _ from ⟨(Below.refl _ _).drew, fun e => (by cases e), fun e => (by cases e)⟩) ?step2 ?fin2
         case step2 =>
          intro i o ho
          have hi : i < 24 := getElem?_lt ho
          match i, hi, ho with
          | 0, _, ho => cases ho; exact zgo fun g d hdep => zsc rfl trivial 9 _ _ [] rfl (by kernel_rfl) (enters_of Tryz.func9 (by kernel_rfl) rfl) (fun v hw => (nalive_any v).mono (by rintro e w' ⟨rfl, hb⟩; exact ⟨rfl, hw.carry hb⟩))
          | 1, _, ho => cases ho; exact zgo fun g d hdep => zmv rfl trivial _ rfl (by kernel_rfl)
          | 2, _, ho => cases ho; exact zgo fun g d hdep => zmv rfl ⟨_, rfl, by kernel_rfl⟩ _ rfl (by kernel_rfl)
          | 3, _, ho => cases ho; exact zgo fun g d hdep => zmv rfl ⟨_, rfl, by kernel_rfl⟩ _ rfl (by kernel_rfl)
          | 4, _, ho => cases ho; exact zgo fun g d hdep => zbo rfl ⟨_, rfl, by kernel_rfl⟩ _ _ _ _ _ _ _ rfl rfl rfl (fun v hw => bin_selfR _ _)
          | 5, _, ho => cases ho; exact zgo fun g d hdep => step_pick rfl trivial _ _ _ true rfl (by kernel_rfl) (by kernel_rfl)
          | 6, _, ho => cases ho; exact zgo fun g d hdep => zmv rfl trivial _ rfl (by kernel_rfl)
          | 7, _, ho => cases ho; exact zgo fun g d hdep => zmv rfl ⟨_, rfl, by kernel_rfl⟩ _ rfl (by kernel_rfl)
          | 8, _, ho => cases ho; exact zgo fun g d hdep => step_bi rfl ⟨_, rfl, by kernel_rfl⟩ _ _ _ [(.slice a5 0 c5)] rfl (by kernel_rfl) (fun cs v hw => rfl)
          | 9, _, ho => cases ho; exact zgo fun g d hdep => zbo rfl ⟨_, rfl, by kernel_rfl⟩ _ _ _ _ _ _ _ rfl rfl rfl (fun v hw => bin_selfR _ _)
          | 10, _, ho => cases ho; exact zgo fun g d hdep => step_pick rfl trivial _ _ _ true rfl (by kernel_rfl) (by kernel_rfl)
          | 11, _, ho => cases ho; exact zgo fun g d hdep => zmv rfl trivial _ rfl (by kernel_rfl)
          | 12, _, ho => cases ho; exact zgo fun g d hdep => zld rfl ⟨_, rfl, by kernel_rfl⟩ _ _ _ rfl rfl (fun v hw => load_sg ⟨_, _, _, rfl⟩ ((hw.be.block _ (zla HG4.out)).trans HG4.out))
          | 13, _, ho => cases ho; exact zgo fun g d hdep => zmv rfl ⟨_, rfl, by kernel_rfl⟩ _ rfl (by kernel_rfl)
          | 14, _, ho => cases ho; exact stepG_call rfl (fun _ => ⟨_, rfl, by kernel_rfl⟩) 11 _ _ (fun _ => [.pointer (some ⟨x, 0, none⟩)]) rfl (fun g => by kernel_rfl) (enters_of Tryz.func11 (by kernel_rfl) rfl) (fun g d V hJ hun hdep hcl => (hsi V A' (HN4.out.carry hJ.be)).mono (by rintro e V' ⟨g1, c1, rfl, hr, _, _, hb⟩; refine ⟨(g1, c1, g.2.2), rfl, (fun j hj => match j, hj with | 14, hj => (by rw [hj] at hun; cases hun)  | 0, _ => rfl | 1, _ => rfl | 2, _ => rfl | 3, _ => rfl | 4, _ => rfl | 5, _ => rfl | 6, _ => rfl | 7, _ => rfl | 8, _ => rfl | 9, _ => rfl | 10, _ => rfl | 11, _ => rfl | 12, _ => rfl | 13, _ => rfl | 15, _ => rfl | 16, _ => rfl | 17, _ => rfl | 18, _ => rfl | 19, _ => rfl | 20, _ => rfl | 21, _ => rfl | 22, _ => rfl | 23, _ => rfl | _ + 24, _ => rfl), ?_⟩; exact ⟨bel2 hJ.be hb, fun _ => hr, fun e => zrb (hJ.pa e) hb⟩))
          | 15, _, ho => cases ho; exact zgo fun g d hdep => zsc rfl ⟨_, rfl, by kernel_rfl⟩ 15 _ _ [(.agg (sgA li ro ta su he re (.slice (some ⟨q, 0, none⟩) n c))), (.agg (sgA li ro ta su he re (.slice (some ⟨g.1, 0, none⟩) n g.2.1)))] rfl (by kernel_rfl) (enters_of Tryz.func15 (by kernel_rfl) rfl) (fun v hw => (sameS_any hb8.out.1 hb8.out.2.1 hb8.out.2.2 _ _ _ _ S.l HSl.out.1 HSl.out.2 v (HR4.out.carry hw.be) (hw.rd (hdep 14 (by kernel_rfl)))).mono (by rintro e w' ⟨rfl, hb⟩; exact ⟨rfl, hw.carry hb⟩))
          | 16, _, ho => cases ho; exact zgo fun g d hdep => step_pick rfl trivial _ _ _ true rfl (by kernel_rfl) (by kernel_rfl)
          | 17, _, ho => cases ho; exact zgo fun g d hdep => zmv rfl trivial _ rfl (by kernel_rfl)
          | 18, _, ho => cases ho; exact zgo fun g d hdep => zmv rfl ⟨_, rfl, by kernel_rfl⟩ _ rfl (by kernel_rfl)
          | 19, _, ho => cases ho; exact zgo fun g d hdep => zmv rfl ⟨_, rfl, by kernel_rfl⟩ _ rfl (by kernel_rfl)
          | 20, _, ho => cases ho; exact stepG_call rfl (fun _ => ⟨_, rfl, by kernel_rfl⟩) 12 _ _ (fun _ => [.pointer (some ⟨x, 0, none⟩)]) rfl (fun g => by kernel_rfl) (enters_of Tryz.func12 (by kernel_rfl) rfl) (fun g d V hJ hun hdep hcl => (hpa V A' (HN4.out.carry hJ.be)).mono (by rintro e V' ⟨a1, c1, rfl, hr, hb⟩; refine ⟨(g.1, g.2.1, a1, c1), rfl, (fun j hj => match j, hj with | 20, hj => (by rw [hj] at hun; cases hun)  | 0, _ => rfl | 1, _ => rfl | 2, _ => rfl | 3, _ => rfl | 4, _ => rfl | 5, _ => rfl | 6, _ => rfl | 7, _ => rfl | 8, _ => rfl | 9, _ => rfl | 10, _ => rfl | 11, _ => rfl | 12, _ => rfl | 13, _ => rfl | 14, _ => rfl | 15, _ => rfl | 16, _ => rfl | 17, _ => rfl | 18, _ => rfl | 19, _ => rfl | 21, _ => rfl | 22, _ => rfl | 23, _ => rfl | _ + 24, _ => rfl), ?_⟩; exact ⟨bel2 hJ.be hb, fun e => (hJ.rd e).carry hb, fun _ => row_base hr hJ.be.size⟩))
          | 21, _, ho => cases ho; exact zgo fun g d hdep => zsc rfl ⟨_, rfl, by kernel_rfl⟩ 16 _ _ [(.slice pa L.length pc), (.slice g.2.2.1 L.length g.2.2.2)] rfl (by kernel_rfl) (enters_of Tryz.func16 (by kernel_rfl) rfl) (fun v hw => (sameE_any _ _ _ _ _ _ L v (zrb HP4.out hw.be) (hw.pa (hdep 20 (by kernel_rfl))) hev).mono (by rintro e w' ⟨rfl, hb⟩; exact ⟨rfl, hw.carry hb⟩))
          | 22, _, ho => cases ho; exact zgo fun g d hdep => step_pick rfl trivial _ _ _ true rfl (by kernel_rfl) (by kernel_rfl)
          | 23, _, ho => cases ho; exact zgo fun g d hdep => zas rfl trivial _ rfl (by kernel_rfl) (fun _ h => h)
         intro g d W hall hW
         first | refine hK _ _ ?_ | refine (‹∀ (a : Act) (w : World), Code.wp Tryz.prog _ _ a w → _›) _ _ ?_ | skip
         simp only [finL, List.getD_cons_zero, List.getD_cons_succ, Nat.zero_add, Nat.reduceAdd, List.setIfInBounds_toArray, List.set_cons_zero, List.set_cons_succ]
         go_wp2
         go_ret
         exact ⟨rfl, bel2 HZ4.out hW.be⟩
      · as_aux_lemma =>
         unfold noteV at hdc2
         simp only [if_true, if_false, Nat.reduceEqDiff] at hdc2
         go_wp2_with (first
         | (have m := st2; go_at_call 203; (with_reducible refine (senderP_any _ _ _ _ _ _ _ _ _ _).mono ?_); rintro r u5 ⟨rfl, hu5⟩; have HR4 := HR5.out.carry hu5; have HP4 := zrb HP5.out hu5; have HG4 := (hu5.block _ (zla HG5.out)).trans HG5.out; have HZ4 := bel2 HZ5.out hu5; have HN4 := HN5.out.carry hu5)
         | (have m := st1; go_at_call 14; (with_reducible refine (hh u3 hu3).mono ?_); rintro r u4 ⟨a5, c5, A', rfl, HN5, hM4⟩; obtain ⟨HR5, HP5, HG5, HZ5⟩ := hfin u3 u4 A' hu3 hM4; have st2 := True.intro)
         | (go_at_call 13; (with_reducible refine hdc2.mono ?_); rintro r u3 ⟨a3, c3, rfl, _, hu3⟩; have st1 := True.intro))
         obtain ⟨q, hq⟩ : ∃ q, g = q := ⟨_, rfl⟩
         rw [hq] at HR4 HG4
         have HR4 : Hid (RdN u5 (some ⟨q, 0, none⟩) S.l) := HR4
         have HP4 : Hid (u5.ownsRow b1 90 15 (.slice pa L.length pc) L.length (ecs L)) := HP4
         have HG4 : Hid (u5.heap[B]? = some (.cells (sgA li ro ta su he re (.slice (some ⟨q, 0, none⟩) n c)) 42 (0, 0))) := HG4
         have HZ4 : Hid (Below w.heap.size w u5) := HZ4
         have HN4 : Hid (Nd u5 w.heap.size x A' S) := HN4
         rename_i hK
         refine wp_region_any hmx ?_
         refine zwt (G := (Nat × Nat × Option Addr × Nat)) (fun g i__ => ([(.bool true), (.bool true), (.int .i64 72), (.int .i64 72), (.bool true), (.bool true), (.bool true), (.slice a5 0 c5), (.int .i64 0), (.bool true), (.bool true), (.bool true), (.agg (sgA li ro ta su he re (.slice (some ⟨q, 0, none⟩) n c))), (.pointer (some ⟨x, 0, none⟩)), (.agg (sgA li ro ta su he re (.slice (some ⟨g.1, 0, none⟩) n g.2.1))), (.bool true), (.bool true), (.bool true), (.slice pa L.length pc), (.pointer (some ⟨x, 0, none⟩)), (.slice g.2.2.1 L.length g.2.2.2), (.bool true), (.bool true), (.bool true)] : List Value).getD i__ undef) (fun g d V => Jrf u5 S.l L g (d 14) (d 20) V) (by kernel_rfl) ((0, 0, none, 0)) (show Jrf u5 S.l L (0, 0, none, 0) false false _ from ⟨(Below.refl _ _).drew, fun e => (by cases e), fun e => (by cases e)⟩) ?step3 ?fin3
         case step3 =>
          intro i o ho
          have hi : i < 24 := getElem?_lt ho
          match i, hi, ho with
          | 0, _, ho => cases ho; exact zgo fun g d hdep => zsc rfl trivial 9 _ _ [] rfl (by kernel_rfl) (enters_of Tryz.func9 (by kernel_rfl) rfl) (fun v hw => (nalive_any v).mono (by rintro e w' ⟨rfl, hb⟩; exact ⟨rfl, hw.carry hb⟩))
          | 1, _, ho => cases ho; exact zgo fun g d hdep => zmv rfl trivial _ rfl (by kernel_rfl)
          | 2, _, ho => cases ho; exact zgo fun g d hdep => zmv rfl ⟨_, rfl, by kernel_rfl⟩ _ rfl (by kernel_rfl)
          | 3, _, ho => cases ho; exact zgo fun g d hdep => zmv rfl ⟨_, rfl, by kernel_rfl⟩ _ rfl (by kernel_rfl)
          | 4, _, ho => cases ho; exact zgo fun g d hdep => zbo rfl ⟨_, rfl, by kernel_rfl⟩ _ _ _ _ _ _ _ rfl rfl rfl (fun v hw => bin_selfR _ _)
          | 5, _, ho => cases ho; exact zgo fun g d hdep => step_pick rfl trivial _ _ _ true rfl (by kernel_rfl) (by kernel_rfl)
          | 6, _, ho => cases ho; exact zgo fun g d hdep => zmv rfl trivial _ rfl (by kernel_rfl)
          | 7, _, ho => cases ho; exact zgo fun g d hdep => zmv rfl ⟨_, rfl, by kernel_rfl⟩ _ rfl (by kernel_rfl)
          | 8, _, ho => cases ho; exact zgo fun g d hdep => step_bi rfl ⟨_, rfl, by kernel_rfl⟩ _ _ _ [(.slice a5 0 c5)] rfl (by kernel_rfl) (fun cs v hw => rfl)
          | 9, _, ho => cases ho; exact zgo fun g d hdep => zbo rfl ⟨_, rfl, by kernel_rfl⟩ _ _ _ _ _ _ _ rfl rfl rfl (fun v hw => bin_selfR _ _)
          | 10, _, ho => cases ho; exact zgo fun g d hdep => step_pick rfl trivial _ _ _ true rfl (by kernel_rfl) (by kernel_rfl)
          | 11, _, ho => cases ho; exact zgo fun g d hdep => zmv rfl trivial _ rfl (by kernel_rfl)
          | 12, _, ho => cases ho; exact zgo fun g d hdep => zld rfl ⟨_, rfl, by kernel_rfl⟩ _ _ _ rfl rfl (fun v hw => load_sg ⟨_, _, _, rfl⟩ ((hw.be.block _ (zla HG4.out)).trans HG4.out))
          | 13, _, ho => cases ho; exact zgo fun g d hdep => zmv rfl ⟨_, rfl, by kernel_rfl⟩ _ rfl (by kernel_rfl)
          | 14, _, ho => cases ho; exact stepG_call rfl (fun _ => ⟨_, rfl, by kernel_rfl⟩) 11 _ _ (fun _ => [.pointer (some ⟨x, 0, none⟩)]) rfl (fun g => by kernel_rfl) (enters_of Tryz.func11 (by kernel_rfl) rfl) (fun g d V hJ hun hdep hcl => (hsi V A' (HN4.out.carry hJ.be)).mono (by rintro e V' ⟨g1, c1, rfl, hr, _, _, hb⟩; refine ⟨(g1, c1, g.2.2), rfl, (fun j hj => match j, hj with | 14, hj => (by rw [hj] at hun; cases hun)  | 0, _ => rfl | 1, _ => rfl | 2, _ => rfl | 3, _ => rfl | 4, _ => rfl | 5, _ => rfl | 6, _ => rfl | 7, _ => rfl | 8, _ => rfl | 9, _ => rfl | 10, _ => rfl | 11, _ => rfl | 12, _ => rfl | 13, _ => rfl | 15, _ => rfl | 16, _ => rfl | 17, _ => rfl | 18, _ => rfl | 19, _ => rfl | 20, _ => rfl | 21, _ => rfl | 22, _ => rfl | 23, _ => rfl | _ + 24, _ => rfl), ?_⟩; exact ⟨bel2 hJ.be hb, fun _ => hr, fun e => zrb (hJ.pa e) hb⟩))
          | 15, _, ho => cases ho; exact zgo fun g d hdep => zsc rfl ⟨_, rfl, by kernel_rfl⟩ 15 _ _ [(.agg (sgA li ro ta su he re (.slice (some ⟨q, 0, none⟩) n c))), (.agg (sgA li ro ta su he re (.slice (some ⟨g.1, 0, none⟩) n g.2.1)))] rfl (by kernel_rfl) (enters_of Tryz.func15 (by kernel_rfl) rfl) (fun v hw => (sameS_any hb8.out.1 hb8.out.2.1 hb8.out.2.2 _ _ _ _ S.l HSl.out.1 HSl.out.2 v (HR4.out.carry hw.be) (hw.rd (hdep 14 (by kernel_rfl)))).mono (by rintro e w' ⟨rfl, hb⟩; exact ⟨rfl, hw.carry hb⟩))
          | 16, _, ho => cases ho; exact zgo fun g d hdep => step_pick rfl trivial _ _ _ true rfl (by kernel_rfl) (by kernel_rfl)
          | 17, _, ho => cases ho; exact zgo fun g d hdep => zmv rfl trivial _ rfl (by kernel_rfl)
          | 18, _, ho => cases ho; exact zgo fun g d hdep => zmv rfl ⟨_, rfl, by kernel_rfl⟩ _ rfl (by kernel_rfl)
          | 19, _, ho => cases ho; exact zgo fun g d hdep => zmv rfl ⟨_, rfl, by kernel_rfl⟩ _ rfl (by kernel_rfl)
          | 20, _, ho => cases ho; exact stepG_call rfl (fun _ => ⟨_, rfl, by kernel_rfl⟩) 12 _ _ (fun _ => [.pointer (some ⟨x, 0, none⟩)]) rfl (fun g => by kernel_rfl) (enters_of Tryz.func12 (by kernel_rfl) rfl) (fun g d V hJ hun hdep hcl => (hpa V A' (HN4.out.carry hJ.be)).mono (by rintro e V' ⟨a1, c1, rfl, hr, hb⟩; refine ⟨(g.1, g.2.1, a1, c1), rfl, (fun j hj => match j, hj with | 20, hj => (by rw [hj] at hun; cases hun)  | 0, _ => rfl | 1, _ => rfl | 2, _ => rfl | 3, _ => rfl | 4, _ => rfl | 5, _ => rfl | 6, _ => rfl | 7, _ => rfl | 8, _ => rfl | 9, _ => rfl | 10, _ => rfl | 11, _ => rfl | 12, _ => rfl | 13, _ => rfl | 14, _ => rfl | 15, _ => rfl | 16, _ => rfl | 17, _ => rfl | 18, _ => rfl | 19, _ => rfl | 21, _ => rfl | 22, _ => rfl | 23, _ => rfl | _ + 24, _ => rfl), ?_⟩; exact ⟨bel2 hJ.be hb, fun e => (hJ.rd e).carry hb, fun _ => row_base hr hJ.be.size⟩))
          | 21, _, ho => cases ho; exact zgo fun g d hdep => zsc rfl ⟨_, rfl, by kernel_rfl⟩ 16 _ _ [(.slice pa L.length pc), (.slice g.2.2.1 L.length g.2.2.2)] rfl (by kernel_rfl) (enters_of Tryz.func16 (by kernel_rfl) rfl) (fun v hw => (sameE_any _ _ _ _ _ _ L v (zrb HP4.out hw.be) (hw.pa (hdep 20 (by kernel_rfl))) hev).mono (by rintro e w' ⟨rfl, hb⟩; exact ⟨rfl, hw.carry hb⟩))
          | 22, _, ho => cases ho; exact zgo fun g d hdep => step_pick rfl trivial _ _ _ true rfl (by kernel_rfl) (by kernel_rfl)
          | 23, _, ho => cases ho; exact zgo fun g d hdep => zas rfl trivial _ rfl (by kernel_rfl) (fun _ h => h)
         intro g d W hall hW
         first | refine hK _ _ ?_ | refine (‹∀ (a : Act) (w : World), Code.wp Tryz.prog _ _ a w → _›) _ _ ?_ | skip
         simp only [finL, List.getD_cons_zero, List.getD_cons_succ, Nat.zero_add, Nat.reduceAdd, List.setIfInBounds_toArray, List.set_cons_zero, List.set_cons_succ]
         go_wp2
         go_ret
         exact ⟨rfl, bel2 HZ4.out hW.be⟩
      · as_aux_lemma =>
         unfold noteV at hdc2
         simp only [if_false, Nat.reduceEqDiff] at hdc2
         go_wp2_with (first
         | (have m := st2; go_at_call 219; (with_reducible refine (senderU_any _ _ _ _ _).mono ?_); rintro r u5 ⟨rfl, hu5⟩; have HR4 := HR5.out.carry hu5; have HP4 := zrb HP5.out hu5; have HG4 := (hu5.block _ (zla HG5.out)).trans HG5.out; have HZ4 := bel2 HZ5.out hu5; have HN4 := HN5.out.carry hu5)
         | (have m := st1; go_at_call 14; (with_reducible refine (hh u3 hu3).mono ?_); rintro r u4 ⟨a5, c5, A', rfl, HN5, hM4⟩; obtain ⟨HR5, HP5, HG5, HZ5⟩ := hfin u3 u4 A' hu3 hM4; have st2 := True.intro)
         | (go_at_call 13; (with_reducible refine hdc2.mono ?_); rintro r u3 ⟨a3, c3, rfl, _, hu3⟩; have st1 := True.intro))
         obtain ⟨q, hq⟩ : ∃ q, g = q := ⟨_, rfl⟩
         rw [hq] at HR4 HG4
         have HR4 : Hid (RdN u5 (some ⟨q, 0, none⟩) S.l) := HR4
         have HP4 : Hid (u5.ownsRow b1 90 15 (.slice pa L.length pc) L.length (ecs L)) := HP4
         have HG4 : Hid (u5.heap[B]? = some (.cells (sgA li ro ta su he re (.slice (some ⟨q, 0, none⟩) n c)) 42 (0, 0))) := HG4
         have HZ4 : Hid (Below w.heap.size w u5) := HZ4
         have HN4 : Hid (Nd u5 w.heap.size x A' S) := HN4
         rename_i hK
         refine wp_region_any hmx ?_
         refine zwt (G := (Nat × Nat × Option Addr × Nat)) (fun g i__ => ([(.bool true), (.bool true), (.int .i64 72), (.int .i64 72), (.bool true), (.bool true), (.bool true), (.slice a5 0 c5), (.int .i64 0), (.bool true), (.bool true), (.bool true), (.agg (sgA li ro ta su he re (.slice (some ⟨q, 0, none⟩) n c))), (.pointer (some ⟨x, 0, none⟩)), (.agg (sgA li ro ta su he re (.slice (some ⟨g.1, 0, none⟩) n g.2.1))), (.bool true), (.bool true), (.bool true), (.slice pa L.length pc), (.pointer (some ⟨x, 0, none⟩)), (.slice g.2.2.1 L.length g.2.2.2), (.bool true), (.bool true), (.bool true)] : List Value).getD i__ undef) (fun g d V => Jrf u5 S.l L g (d 14) (d 20) V) (by kernel_rfl) ((0, 0, none, 0)) (show Jrf u5 S.l L (0, 0, none, 0) false false _ from ⟨(Below.refl _ _).drew, fun e => (by cases e), fun e => (by cases e)⟩) ?step4 ?fin4
         case step4 =>
          intro i o ho
          have hi : i < 24 := getElem?_lt ho
          match i, hi, ho with
          | 0, _, ho => cases ho; exact zgo fun g d hdep => zsc rfl trivial 9 _ _ [] rfl (by kernel_rfl) (enters_of Tryz.func9 (by kernel_rfl) rfl) (fun v hw => (nalive_any v).mono (by rintro e w' ⟨rfl, hb⟩; exact ⟨rfl, hw.carry hb⟩))
          | 1, _, ho => cases ho; exact zgo fun g d hdep => zmv rfl trivial _ rfl (by kernel_rfl)
          | 2, _, ho => cases ho; exact zgo fun g d hdep => zmv rfl ⟨_, rfl, by kernel_rfl⟩ _ rfl (by kernel_rfl)
          | 3, _, ho => cases ho; exact zgo fun g d hdep => zmv rfl ⟨_, rfl, by kernel_rfl⟩ _ rfl (by kernel_rfl)
          | 4, _, ho => cases ho; exact zgo fun g d hdep => zbo rfl ⟨_, rfl, by kernel_rfl⟩ _ _ _ _ _ _ _ rfl rfl rfl (fun v hw => bin_selfR _ _)
          | 5, _, ho => cases ho; exact zgo fun g d hdep => step_pick rfl trivial _ _ _ true rfl (by kernel_rfl) (by kernel_rfl)
          | 6, _, ho => cases ho; exact zgo fun g d hdep => zmv rfl trivial _ rfl (by kernel_rfl)
          | 7, _, ho => cases ho; exact zgo fun g d hdep => zmv rfl ⟨_, rfl, by kernel_rfl⟩ _ rfl (by kernel_rfl)
          | 8, _, ho => cases ho; exact zgo fun g d hdep => step_bi rfl ⟨_, rfl, by kernel_rfl⟩ _ _ _ [(.slice a5 0 c5)] rfl (by kernel_rfl) (fun cs v hw => rfl)
          | 9, _, ho => cases ho; exact zgo fun g d hdep => zbo rfl ⟨_, rfl, by kernel_rfl⟩ _ _ _ _ _ _ _ rfl rfl rfl (fun v hw => bin_selfR _ _)
          | 10, _, ho => cases ho; exact zgo fun g d hdep => step_pick rfl trivial _ _ _ true rfl (by kernel_rfl) (by kernel_rfl)
          | 11, _, ho => cases ho; exact zgo fun g d hdep => zmv rfl trivial _ rfl (by kernel_rfl)
          | 12, _, ho => cases ho; exact zgo fun g d hdep => zld rfl ⟨_, rfl, by kernel_rfl⟩ _ _ _ rfl rfl (fun v hw => load_sg ⟨_, _, _, rfl⟩ ((hw.be.block _ (zla HG4.out)).trans HG4.out))
          | 13, _, ho => cases ho; exact zgo fun g d hdep => zmv rfl ⟨_, rfl, by kernel_rfl⟩ _ rfl (by kernel_rfl)
          | 14, _, ho => cases ho; exact stepG_call rfl (fun _ => ⟨_, rfl, by kernel_rfl⟩) 11 _ _ (fun _ => [.pointer (some ⟨x, 0, none⟩)]) rfl (fun g => by kernel_rfl) (enters_of Tryz.func11 (by kernel_rfl) rfl) (fun g d V hJ hun hdep hcl => (hsi V A' (HN4.out.carry hJ.be)).mono (by rintro e V' ⟨g1, c1, rfl, hr, _, _, hb⟩; refine ⟨(g1, c1, g.2.2), rfl, (fun j hj => match j, hj with | 14, hj => (by rw [hj] at hun; cases hun)  | 0, _ => rfl | 1, _ => rfl | 2, _ => rfl | 3, _ => rfl | 4, _ => rfl | 5, _ => rfl | 6, _ => rfl | 7, _ => rfl | 8, _ => rfl | 9, _ => rfl | 10, _ => rfl | 11, _ => rfl | 12, _ => rfl | 13, _ => rfl | 15, _ => rfl | 16, _ => rfl | 17, _ => rfl | 18, _ => rfl | 19, _ => rfl | 20, _ => rfl | 21, _ => rfl | 22, _ => rfl | 23, _ => rfl | _ + 24, _ => rfl), ?_⟩; exact ⟨bel2 hJ.be hb, fun _ => hr, fun e => zrb (hJ.pa e) hb⟩))
          | 15, _, ho => cases ho; exact zgo fun g d hdep => zsc rfl ⟨_, rfl, by kernel_rfl⟩ 15 _ _ [(.agg (sgA li ro ta su he re (.slice (some ⟨q, 0, none⟩) n c))), (.agg (sgA li ro ta su he re (.slice (some ⟨g.1, 0, none⟩) n g.2.1)))] rfl (by kernel_rfl) (enters_of Tryz.func15 (by kernel_rfl) rfl) (fun v hw => (sameS_any hb8.out.1 hb8.out.2.1 hb8.out.2.2 _ _ _ _ S.l HSl.out.1 HSl.out.2 v (HR4.out.carry hw.be) (hw.rd (hdep 14 (by kernel_rfl)))).mono (by rintro e w' ⟨rfl, hb⟩; exact ⟨rfl, hw.carry hb⟩))
          | 16, _, ho => cases ho; exact zgo fun g d hdep => step_pick rfl trivial _ _ _ true rfl (by kernel_rfl) (by kernel_rfl)
          | 17, _, ho => cases ho; exact zgo fun g d hdep => zmv rfl trivial _ rfl (by kernel_rfl)
          | 18, _, ho => cases ho; exact zgo fun g d hdep => zmv rfl ⟨_, rfl, by kernel_rfl⟩ _ rfl (by kernel_rfl)
          | 19, _, ho => cases ho; exact zgo fun g d hdep => zmv rfl ⟨_, rfl, by kernel_rfl⟩ _ rfl (by kernel_rfl)
          | 20, _, ho => cases ho; exact stepG_call rfl (fun _ => ⟨_, rfl, by kernel_rfl⟩) 12 _ _ (fun _ => [.pointer (some ⟨x, 0, none⟩)]) rfl (fun g => by kernel_rfl) (enters_of Tryz.func12 (by kernel_rfl) rfl) (fun g d V hJ hun hdep hcl => (hpa V A' (HN4.out.carry hJ.be)).mono (by rintro e V' ⟨a1, c1, rfl, hr, hb⟩; refine ⟨(g.1, g.2.1, a1, c1), rfl, (fun j hj => match j, hj with | 20, hj => (by rw [hj] at hun; cases hun)  | 0, _ => rfl | 1, _ => rfl | 2, _ => rfl | 3, _ => rfl | 4, _ => rfl | 5, _ => rfl | 6, _ => rfl | 7, _ => rfl | 8, _ => rfl | 9, _ => rfl | 10, _ => rfl | 11, _ => rfl | 12, _ => rfl | 13, _ => rfl | 14, _ => rfl | 15, _ => rfl | 16, _ => rfl | 17, _ => rfl | 18, _ => rfl | 19, _ => rfl | 21, _ => rfl | 22, _ => rfl | 23, _ => rfl | _ + 24, _ => rfl), ?_⟩; exact ⟨bel2 hJ.be hb, fun e => (hJ.rd e).carry hb, fun _ => row_base hr hJ.be.size⟩))
          | 21, _, ho => cases ho; exact zgo fun g d hdep => zsc rfl ⟨_, rfl, by kernel_rfl⟩ 16 _ _ [(.slice pa L.length pc), (.slice g.2.2.1 L.length g.2.2.2)] rfl (by kernel_rfl) (enters_of Tryz.func16 (by kernel_rfl) rfl) (fun v hw => (sameE_any _ _ _ _ _ _ L v (zrb HP4.out hw.be) (hw.pa (hdep 20 (by kernel_rfl))) hev).mono (by rintro e w' ⟨rfl, hb⟩; exact ⟨rfl, hw.carry hb⟩))
          | 22, _, ho => cases ho; exact zgo fun g d hdep => step_pick rfl trivial _ _ _ true rfl (by kernel_rfl) (by kernel_rfl)
          | 23, _, ho => cases ho; exact zgo fun g d hdep => zas rfl trivial _ rfl (by kernel_rfl) (fun _ h => h)
         intro g d W hall hW
         first | refine hK _ _ ?_ | refine (‹∀ (a : Act) (w : World), Code.wp Tryz.prog _ _ a w → _›) _ _ ?_ | skip
         simp only [finL, List.getD_cons_zero, List.getD_cons_succ, Nat.zero_add, Nat.reduceAdd, List.setIfInBounds_toArray, List.set_cons_zero, List.set_cons_succ]
         go_wp2
         go_ret
         exact ⟨rfl, bel2 HZ4.out hW.be⟩
    · have hh := hhy (dHear_zero (by rw [HE.out.1]; exact hd) (by rw [HE.out.2.2]; exact hfs))
      have hf1 : ((fr : Int) != (s : Int)) = true := by simpa using hfs
      rw [hm4] at hh hdc2 ⊢
      clear hhn hhy hd hr4 hby4 hcp4 HD4 hm4 hfs hsi hpa
      rcases hnv with rfl | rfl | rfl
      · as_aux_lemma =>
         unfold noteV at hdc2
         simp only [if_true, if_false, Nat.reduceEqDiff] at hdc2
         go_wp2_with (first
         | (have m := st3; go_at_call 9; (with_reducible refine (nalive_any _).mono ?_); rintro r u6 ⟨rfl, hu6⟩)
         | (have m := st2; go_at_call 214; (with_reducible refine (senderQ_any _ _ _ _ _ _).mono ?_); rintro r u5 ⟨rfl, hu5⟩; have st3 := True.intro)
         | (have m := st1; go_at_call 14; (with_reducible refine (hh u3 hu3).mono ?_); rintro r u4 ⟨v5, A', rfl, hM4⟩; obtain ⟨HR5, HP5, HG5, HZ5⟩ := hfin u3 u4 A' hu3 hM4; have st2 := True.intro)
         | (go_at_call 13; (with_reducible refine hdc2.mono ?_); rintro r u3 ⟨a3, c3, rfl, _, hu3⟩; have st1 := True.intro))
         go_ret
         exact ⟨rfl, bel2 (bel2 HZ5.out hu5) hu6⟩
      · as_aux_lemma =>
         unfold noteV at hdc2
         simp only [if_true, if_false, Nat.reduceEqDiff] at hdc2
         go_wp2_with (first
         | (have m := st3; go_at_call 9; (with_reducible refine (nalive_any _).mono ?_); rintro r u6 ⟨rfl, hu6⟩)
         | (have m := st2; go_at_call 203; (with_reducible refine (senderP_any _ _ _ _ _ _ _ _ _ _).mono ?_); rintro r u5 ⟨rfl, hu5⟩; have st3 := True.intro)
         | (have m := st1; go_at_call 14; (with_reducible refine (hh u3 hu3).mono ?_); rintro r u4 ⟨v5, A', rfl, hM4⟩; obtain ⟨HR5, HP5, HG5, HZ5⟩ := hfin u3 u4 A' hu3 hM4; have st2 := True.intro)
         | (go_at_call 13; (with_reducible refine hdc2.mono ?_); rintro r u3 ⟨a3, c3, rfl, _, hu3⟩; have st1 := True.intro))
         go_ret
         exact ⟨rfl, bel2 (bel2 HZ5.out hu5) hu6⟩
      · as_aux_lemma =>
         unfold noteV at hdc2
         simp only [if_false, Nat.reduceEqDiff] at hdc2
         go_wp2_with (first
         | (have m := st3; go_at_call 9; (with_reducible refine (nalive_any _).mono ?_); rintro r u6 ⟨rfl, hu6⟩)
         | (have m := st2; go_at_call 219; (with_reducible refine (senderU_any _ _ _ _ _).mono ?_); rintro r u5 ⟨rfl, hu5⟩; have st3 := True.intro)
         | (have m := st1; go_at_call 14; (with_reducible refine (hh u3 hu3).mono ?_); rintro r u4 ⟨v5, A', rfl, hM4⟩; obtain ⟨HR5, HP5, HG5, HZ5⟩ := hfin u3 u4 A' hu3 hM4; have st2 := True.intro)
         | (go_at_call 13; (with_reducible refine hdc2.mono ?_); rintro r u3 ⟨a3, c3, rfl, _, hu3⟩; have st1 := True.intro))
         go_ret
         exact ⟨rfl, bel2 (bel2 HZ5.out hu5) hu6⟩
end Go.Proofs.YtekjhcnaabpfmaaGreatDoor
