/- The walk of NodeAsks. -/
import Derived.WalkKit
import Derived.ProofKit
import Derived.OpenShut
import Derived.Test.YtekjhcnaabpfmaaGreatDoorJnJ42
namespace Go.Proofs.YtekjhcnaabpfmaaGreatDoor
set_option maxHeartbeats 40000000
set_option maxRecDepth 100000
set_option linter.unusedVariables false
open Go.ChangeShapes Go.WideShapes Go.ChangeAt Go.RowKit Go.Shelf Go.Lib
theorem asks_in (w : World) (a0 : Int) (w0 : (Lit.int .i64 a0).wf = true) (a1 : Int) (w1 : (Lit.int .i64 a1).wf = true) (a2 : Int) (w2 : (Lit.int .i64 a2).wf = true) (ad3 : Option Addr) (cap3 : Nat) (l3 : List OpN) (w3 : RdW w ad3 l3) (hc3 : l3.length ≤ cap3) (hm3 : cap3 ≤ maxLen) (hL : laidMetH Tryz.prog lay3 w) :
  Calls Tryz.prog 5 #[.int .i64 a0, .int .i64 a1, .int .i64 a2, .slice ad3 l3.length cap3] w fun e w' => e = .returned (.bool true) ∧ Below w.heap.size w w' := by
 have hmx := mixO
 have hEn := env_of hL
 clear hL
 have hbs := size_of hEn
 have hdn := dnew_any w
 have hlm : l3.length ≤ maxLen := Nat.le_trans hc3 hm3
 have HEn : Hid (Env w) := hEn
 have HW : Hid (RdW w ad3 l3) := w3
 clear hEn w3 hc3 hm3
 by_cases hv : (1 ≤ a0 ∧ a0 ≤ 100 ∧ 0 ≤ a1 ∧ a1 < a0) ∧ 0 ≤ a2 ∧ a2 < a0
 case neg =>
  obtain ⟨E, hE, hop⟩ := nopen_bad hv (some ⟨w.heap.size, 0, none⟩)
  clear hv
  go_enter Tryz.func5, Tryz.ntmps5
  go_wp2_with (first
   | (have m := st2; go_at_call 9; (with_reducible refine (nalive_any _).mono ?_); rintro r u4 ⟨rfl, hu4⟩)
   | (have m := st1; go_at_call 6; (with_reducible refine (hop u1).mono ?_); rintro r u2 ⟨rfl, hu2⟩; obtain rfl := hu2.symm; have st2 := True.intro)
   | (go_at_call 7; (with_reducible refine hdn.mono ?_); rintro r u1 ⟨rfl, hD1, hl1, hu1⟩; have st1 := True.intro))
  go_ret
  exact ⟨rfl, bel2 hu1 hu4⟩
 obtain ⟨⟨v1, v2, v3, v4⟩, v5, v6⟩ := hv
 obtain ⟨n, rfl⟩ : ∃ n : Nat, a0 = (n : Int) := ⟨a0.toNat, by omega⟩
 obtain ⟨f, rfl⟩ : ∃ f : Nat, a1 = (f : Int) := ⟨a1.toNat, by omega⟩
 obtain ⟨s, rfl⟩ : ∃ s : Nat, a2 = (s : Int) := ⟨a2.toNat, by omega⟩
 have hop : ∀ V, Dk V w.heap.size d0 → Calls Tryz.prog 6 #[.int .i64 (n : Int), .int .i64 (f : Int), .int .i64 (s : Int), .pointer (some ⟨w.heap.size, 0, none⟩)] V fun r w' => ∃ x A, r = .returned (.tuple #[.pointer (some ⟨x, 0, none⟩), .int .i64 0]) ∧ Nd w' w.heap.size x A (s0 n f s) ∧ A.p = w.heap.size ∧ V.heap.size ≤ x ∧ TpZ w.heap.size V w' := fun V hV => nopen0 hV (Nat.le_refl _) (by omega) (by omega) (by omega) (by omega)
 have hv0 : Nv 0 (s0 n f s) := Nv.open (by omega) (by omega) (by omega) (by omega)
 have hli : ∀ V, Below w.heap.size w V → Calls Tryz.prog 8 #[.slice ad3 l3.length cap3] V fun e w' => e = .returned (.bool (lgt l3)) ∧ w' = V := fun V hV => light_W V ad3 cap3 l3 (HW.out.carry hV) hlm
 have i64n : IntKind.i64.wrap ((n : Int) - (f : Int)) = (n : Int) - (f : Int) := i64_id _ (by omega) (by omega)
 by_cases hlg : lgt l3 = true
 case neg =>
  have hlf : lgt l3 = false := by simpa using hlg
  rw [hlf] at hli
  clear hlg hlf v1 v2 v3 v4 v5 v6
  go_enter Tryz.func5, Tryz.ntmps5
  go_wp2_with (first
   | (have m := st3; go_at_call 9; (with_reducible refine (nalive_any _).mono ?_); rintro r u4 ⟨rfl, hu4⟩)
   | (have m := st2; go_at_call 8; (with_reducible refine st2.mono ?_); rintro r u3 ⟨rfl, hu3⟩; obtain rfl := hu3.symm; have st3 := True.intro)
   | (have m := st1; go_at_call 6; (with_reducible refine st1.mono ?_); rintro r u2 ⟨x, A, rfl, hN2, hA2, hx2, ht2⟩; have Y2 : Below w.heap.size w u2 := TpZ.young hu1 ht2 (Nat.le_refl _); have st2 := hli u2 Y2)
   | (go_at_call 7; (with_reducible refine hdn.mono ?_); rintro r u1 ⟨rfl, hD1, hl1, hu1⟩; have st1 := hop u1 hD1))
  go_ret
  exact ⟨rfl, bel2 Y2 hu4⟩
 rw [hlg] at hli
 have HLG : Hid (lgt l3 = true) := hlg
 have HV0 : Hid (Nv 0 (s0 n f s)) := hv0
 clear hlg hv0
 go_enter Tryz.func5, Tryz.ntmps5
 go_wp2_with (first
   | (have m := st2; go_at_call 8; (with_reducible refine st2.mono ?_); rintro r u3 ⟨rfl, hu3⟩; obtain rfl := hu3.symm)
   | (have m := st1; go_at_call 6; (with_reducible refine st1.mono ?_); rintro r u2 ⟨x, A, rfl, hN2, hA2, hx2, ht2⟩; have Y2 : Below w.heap.size w u2 := TpZ.young hu1 ht2 (Nat.le_refl _); have st2 := hli u2 Y2)
   | (go_at_call 7; (with_reducible refine hdn.mono ?_); rintro r u1 ⟨rfl, hD1, hl1, hu1⟩; have st1 := hop u1 hD1))
 have HN2 : Hid (Nd u2 w.heap.size x A (s0 n f s)) := hN2
 have HY2 : Hid (Below w.heap.size w u2) := Y2
 have HE2 : Hid ((s0 n f s).n = n ∧ (s0 n f s).f = f ∧ (s0 n f s).s = s) := ⟨rfl, rfl, rfl⟩
 clear hdn hop hli st1 st2 hN2 hA2 hx2 ht2 hD1 hl1 hu1 Y2
 generalize s0 n f s = S0 at HV0 HN2 HE2
 go_loopw [11] (fun i wz => ∃ (j : Nat) (S : Ns) (A : NA), i = .int .i64 j ∧ j ≤ l3.length ∧ Hid (Nv j S) ∧ Hid (S.n = n ∧ S.f = f ∧ S.s = s) ∧ Hid (Nd wz w.heap.size x A S) ∧ Hid (Below w.heap.size w wz)) (fun i _ => l3.length - vnat i)
 case atStart => exact ⟨0, S0, A, rfl, Nat.zero_le _, HV0, HE2, HN2, HY2⟩
 case round =>
  clear HV0 HE2 HN2 HY2
  obtain ⟨j, S, A, rfl, hjl, HV, HE, HN, HY⟩ := hrel
  by_cases hjn : j < l3.length
  case pos =>
   as_aux_lemma =>
    have hji : (j : Int) < (l3.length : Int) := by omega
    obtain ⟨o, hx⟩ : ∃ o, l3[j]? = some o := ⟨_, List.getElem?_eq_getElem hjn⟩
    obtain ⟨hn3, hn8⟩ := lgt_at HLG.out hx
    have HX : Hid (l3[j]? = some o) := hx
    have HN3 : Hid (o.nl.length ≤ 300) := hn3
    clear hx hn3
    obtain ⟨b, off, ea, hbl, c0, c1, c2, c3, c4, c5, c6, c7, c8, c9, c10, c11, hok⟩ := HW.out.at HX.out
    have HBL : Hid (b < w.heap.size) := hbl
    subst ea
    clear hok hbl c0 c1 c2 c3 c4 c5 c6 c7 c8 c9 c10 c11
    have hcell : ∀ V, Below w.heap.size w V → V.cell? ⟨b, off + j * 12, none⟩ = some (.int .i64 o.k) ∧ V.cell? ⟨b, off + j * 12 + 1, none⟩ = some (.int .i64 o.a) ∧ V.cell? ⟨b, off + j * 12 + 2, none⟩ = some (.int .i64 o.b) ∧ V.cell? ⟨b, off + j * 12 + 3, none⟩ = some (.int .i64 o.nk) ∧ V.cell? ⟨b, off + j * 12 + 4, none⟩ = some (.int .i64 o.nf) ∧ V.cell? ⟨b, off + j * 12 + 5, none⟩ = some (.int .i64 o.nr) ∧ V.cell? ⟨b, off + j * 12 + 6, none⟩ = some (.int .u32 (wd o.nN 0 : Nat)) ∧ V.cell? ⟨b, off + j * 12 + 7, none⟩ = some (.int .u32 (wd o.nN 1 : Nat)) ∧ V.cell? ⟨b, off + j * 12 + 8, none⟩ = some (.int .u32 (wd o.nN 2 : Nat)) ∧ V.cell? ⟨b, off + j * 12 + 9, none⟩ = some (.int .u32 (wd o.nN 3 : Nat)) ∧ V.cell? ⟨b, off + j * 12 + 10, none⟩ = some (.slice o.na o.nl.length o.nc) ∧ V.cell? ⟨b, off + j * 12 + 11, none⟩ = some (.slice o.da o.dl.length o.dc) := fun V hV => (by
     have k : ∀ i, V.cell? ⟨b, i, none⟩ = w.cell? ⟨b, i, none⟩ := fun i => hV.cell (p := ⟨b, i, none⟩) HBL.out
     obtain ⟨b', off', ea, hbl, c0, c1, c2, c3, c4, c5, c6, c7, c8, c9, c10, c11, hok⟩ := HW.out.at HX.out
     obtain ⟨rfl, rfl⟩ : b = b' ∧ off = off' := by simpa using ea
     simp only [k]
     exact ⟨c0, c1, c2, c3, c4, c5, c6, c7, c8, c9, c10, c11⟩)
    have hdo : ∀ V, Below wr.heap.size wr V → Calls Tryz.prog 10 #[.pointer (some ⟨x, 0, none⟩), .int .i64 (n : Int), .agg #[.int .i64 o.k, .int .i64 o.a, .int .i64 o.b, .int .i64 o.nk, .int .i64 o.nf, .int .i64 o.nr, .int .u32 (wd o.nN 0 : Nat), .int .u32 (wd o.nN 1 : Nat), .int .u32 (wd o.nN 2 : Nat), .int .u32 (wd o.nN 3 : Nat), .slice o.na o.nl.length o.nc, .slice o.da o.dl.length o.dc]] V fun r V' => ∃ E S' A', r = .returned (.int .i64 E) ∧ Hid (Nv (j + 1) S') ∧ Hid (S'.n = n ∧ S'.f = f ∧ S'.s = s) ∧ Hid (Nd V' w.heap.size x A' S') ∧ Mv x A A' V V' := fun V hV => by
     obtain ⟨e1, e2, e3⟩ := HE.out
     have hY := bel2 HY.out hV
     have := do_any (HN.out.carry hV) HV.out (by omega) (HEn.out.carry hY) hbs ((HW.out.op HX.out).carry hY) HN3.out
     rw [e1] at this
     refine this.mono ?_
     rintro r V' ⟨E, S', A', rfl, hdr, hN', hM'⟩
     obtain ⟨g1, g2, g3, g4, g5⟩ := hdr.rnd HV.out (by omega)
     exact ⟨E, S', A', rfl, g1, ⟨g2.trans e1, g3.trans e2, g4.trans e3⟩, hN', hM'⟩
    have st1 := hdo wr (Below.refl _ _)
    obtain ⟨q0, q1, q2, q3, q4, q5, q6, q7, q8, q9, q10, q11⟩ := hcell wr HY.out
    go_wp2_with (go_at_call 10; (with_reducible refine st1.mono ?_); rintro r u3 ⟨E, S', A', rfl, HV', HE', HN', hM3⟩; have Z3 : Below w.heap.size w u3 := HY.out.trans (hM3.below HN.out))
    go_roundw
    case rel => exact ⟨j + 1, S', A', by simp, by omega, HV', HE', HN', Z3⟩
    case measure => simp [vnat]; omega
  have hji : ¬ (j : Int) < (l3.length : Int) := by omega
  have hj80 : j ≤ 80 := by have h9 := HLG.out; unfold lgt at h9; rw [Bool.and_eq_true, decide_eq_true_eq] at h9; omega
  have hP := poll_out HN.out HV.out (by omega) (HEn.out.carry HY.out) hbs
  obtain ⟨M, hM⟩ : ∃ M, n - 1 = M := ⟨_, rfl⟩
  have iw : IntKind.i64.wrap ((n : Int) - 1) = (M : Int) := by rw [i64_id _ (by omega) (by omega)]; omega
  rw [HE.out.1, HE.out.2.2, hM] at hP
  have hE := dPoll_E S
  generalize (dPoll S).2.2 = E at hP hE
  rcases hE with rfl | rfl
  all_goals
   as_aux_lemma =>
    go_wp2_with (first
     | (have m := st2; refine wpList_store_row rfl 42 (.tmp 14) (.tmp 58) rfl u2.heap.size #[.bool true, .int .i64 li, .int .i64 ro, .int .i64 ta, .int .u32 (wd su 0 : Nat), .int .u32 (wd su 1 : Nat), .int .u32 (wd su 2 : Nat), .int .u32 (wd su 3 : Nat), .int .u32 (wd he 0 : Nat), .int .u32 (wd he 1 : Nat), .int .u32 (wd he 2 : Nat), .int .u32 (wd he 3 : Nat), .int .u32 (wd re 0 : Nat), .int .u32 (wd re 1 : Nat), .int .u32 (wd re 2 : Nat), .int .u32 (wd re 3 : Nat), .slice (some ⟨g, 0, none⟩) n c] rfl rfl 42 _ gy2 infoSi rfl (by simp [Value.oneCell']) ?_; obtain ⟨x2, hx2⟩ : ∃ V, y2.setRow u2.heap.size #[.bool true, .int .i64 li, .int .i64 ro, .int .i64 ta, .int .u32 (wd su 0 : Nat), .int .u32 (wd su 1 : Nat), .int .u32 (wd su 2 : Nat), .int .u32 (wd su 3 : Nat), .int .u32 (wd he 0 : Nat), .int .u32 (wd he 1 : Nat), .int .u32 (wd he 2 : Nat), .int .u32 (wd he 3 : Nat), .int .u32 (wd re 0 : Nat), .int .u32 (wd re 1 : Nat), .int .u32 (wd re 2 : Nat), .int .u32 (wd re 3 : Nat), .slice (some ⟨g, 0, none⟩) n c] = V := ⟨_, rfl⟩; have X2 : Below u2.heap.size u2 x2 := (by rw [← hx2]; exact below_setRow By2 (Nat.le_refl _)); have G2 : x2.heap[u2.heap.size]? = some (.cells (sgA li ro ta su he re (.slice (some ⟨g, 0, none⟩) n c)) 42 (0, 0)) := (by rw [← hx2]; exact setRow_heap _ _ _ _ _ _ gy2); rw [hx2])
     | (have m := st1; go_at_call 11; (with_reducible refine hS1.mono ?_); rintro r u2 ⟨g, c, rfl, hRd, hg1, hg2, hu2⟩; obtain ⟨y2, hy2⟩ : ∃ V, u2.alloc (.cells #[.bool false, .int .i64 0, .int .i64 0, .int .i64 0, .int .u32 0, .int .u32 0, .int .u32 0, .int .u32 0, .int .u32 0, .int .u32 0, .int .u32 0, .int .u32 0, .int .u32 0, .int .u32 0, .int .u32 0, .int .u32 0, .slice none 0 0] 42) = V := ⟨_, rfl⟩; have By2 : Below u2.heap.size u2 y2 := (by rw [← hy2]; exact al1' _ _); have gy2 : y2.heap[u2.heap.size]? = some (.cells #[.bool false, .int .i64 0, .int .i64 0, .int .i64 0, .int .u32 0, .int .u32 0, .int .u32 0, .int .u32 0, .int .u32 0, .int .u32 0, .int .u32 0, .int .u32 0, .int .u32 0, .int .u32 0, .int .u32 0, .int .u32 0, .slice none 0 0] 42 (0, 0)) := (by rw [← hy2]; exact zna rfl); have st2 := True.intro)
     | (go_at_call 20; (with_reducible refine hP.mono ?_); rintro r u1 ⟨a5, c5, lO, A', S2, rfl, HO, HV2, HE2, HN3, hM3⟩; obtain ⟨li, hli⟩ : ∃ t, S2.b.r.li = t := ⟨_, rfl⟩; obtain ⟨ro, hro⟩ : ∃ t, S2.t.ro = t := ⟨_, rfl⟩; obtain ⟨ta, hta⟩ : ∃ t, S2.b.ta = t := ⟨_, rfl⟩; obtain ⟨su, hsu⟩ : ∃ t, sus S2.l = t := ⟨_, rfl⟩; obtain ⟨he, hhe⟩ : ∃ t, S2.H = t := ⟨_, rfl⟩; obtain ⟨re, hre⟩ : ∃ t, S2.t.reps = t := ⟨_, rfl⟩; have hS1 := sight_ex HN3.out HV2.out hli hro hta hsu hhe hre HE2.out.1; unfold sgA at hS1; have st1 := True.intro))
    have HY2 : Hid (Below w.heap.size w x2) := (HY.out.trans (hM3.below HN.out)).trans ((bel2 hu2 X2).mono (Nat.le_trans HY.out.size hM3.size))
    have HG2 : Hid (x2.heap[u2.heap.size]? = some (.cells (sgA li ro ta su he re (.slice (some ⟨g, 0, none⟩) n c)) 42 (0, 0))) := G2
    have HR2 : Hid (RdN x2 (some ⟨g, 0, none⟩) S2.l) := hRd.carry X2
    obtain ⟨D, hD⟩ : ∃ D, dAskB S2 = D := ⟨_, rfl⟩
    have hDb : BytW D := by rw [← hD]; exact dAskB_byt S2
    have HO2 : Hid (Outs x2 wr.heap.size (.slice a5 M c5) lO ∧ Outs.say lO = askTo n s D) := ⟨HO.out.1.carry (bel2 hu2 X2), by rw [← hD]; exact HO.out.2⟩
    have HD : Hid (dec (n : Int) D = .ok (1, s, ro.toNat, 0, S2.l.filter pNew) ∧ 0 ≤ ro) := by
     have h1 := dec_ask HV2.out (by omega)
     rw [HE2.out.1, HE2.out.2, hro, hD] at h1
     exact ⟨h1, by have h2 := HV2.out.tr; have h3 := HV2.out.ro; omega⟩
    have HLn : Hid (S2.l.length = n ∧ Bok S2.l) := ⟨HV2.out.len.trans HE2.out.1, HV2.out.bok⟩
    obtain ⟨K, hK0⟩ : ∃ K, (S2.l.filter pNew).length = K := ⟨_, rfl⟩
    have HKn : Hid ((S2.l.filter pNew).length = K) := hK0
    have hdc : ∀ (V : World) (aD : Option Addr) (cD : Nat), RdBW V aD D → D.length ≤ cD → Calls Tryz.prog 13 #[.slice aD D.length cD, .int .i64 (n : Int)] V fun r w' => ∃ a c, r = .returned (.tuple #[.iface 71 (.agg #[.int .i64 (s : Int), .int .i64 ro, .slice a K c]), .int .i64 0]) ∧ Hid (RdN w' a (S2.l.filter pNew)) ∧ Below V.heap.size V w' := fun V aD cD h1 h2 => (decode_any aD cD D (n : Int) V h1 hDb h2).mono (by
     intro e w' hh
     unfold DcO at hh
     rw [HD.out.1] at hh
     obtain ⟨a, c, rfl, hr, hb⟩ := hh
     refine ⟨a, c, ?_, RdN.ofRow hr, hb⟩
     unfold noteV
     rw [if_pos rfl, HKn.out, show ((ro.toNat : Nat) : Int) = ro by have := HD.out.2; omega])
    have tq := taQ
    clear st1 st2 hS1 hRd hg1 hg2 hu2 hy2 By2 gy2 X2 G2 HN HV HE HY hP HO HV2 HE2 HN3 hM3 hli hro hta hsu hhe hre hD hDb HD hK0 m hx2
    obtain ⟨bO, hbO⟩ : ∃ b, wr.heap.size = b := ⟨_, rfl⟩
    obtain ⟨B, hB⟩ : ∃ b, u2.heap.size = b := ⟨_, rfl⟩
    rw [hbO] at HO2
    simp only [hB] at HG2 ⊢
    clear hB hbO
    by_cases hM0 : M = 0
    case pos =>
     as_aux_lemma =>
      have hki : ¬ (0 : Int) < (M : Int) := by omega
      go_loopw [15, 16] (fun t i wz => i = .int .i64 0 ∧ Hid (Below x2.heap.size x2 wz)) (fun _ _ _ => 0)
      case atStart => exact ⟨rfl, Below.refl _ _⟩
      case round =>
        obtain ⟨rfl, HI⟩ := hrel
        go_wp2_with (go_at_call 9; (with_reducible refine (nalive_any _).mono ?_); rintro r u4 ⟨rfl, hu4⟩)
        go_ret
        exact ⟨rfl, bel2 (bel2 HY2.out HI.out) hu4⟩
    obtain ⟨gO, rfl⟩ : ∃ gO, a5 = some ⟨gO, 0, none⟩ := by
     obtain ⟨gO, cO, aD, cD, ev, _⟩ := Outs.get HO2.out ((askTo_all s D n).2 0 (by rw [askTo_len (by omega)]; omega))
     simp only [Value.slice.injEq] at ev
     exact ⟨gO, ev.1⟩
    go_loopw [15, 16] (fun t i wz => ∃ (k : Nat), i = .int .i64 k ∧ t = .int .i64 ((if k ≤ s then k else k + 1 : Nat) : Int) ∧ k ≤ M ∧ Hid (Below x2.heap.size x2 wz)) (fun _ i _ => M - vnat i)
    case atStart => exact ⟨0, rfl, by simp, Nat.zero_le _, Below.refl _ _⟩
    case round =>
     obtain ⟨k, rfl, rfl, hkM, HI⟩ := hrel
     obtain ⟨t0, ht0⟩ : ∃ t0 : Nat, (if k ≤ s then k else k + 1) = t0 := ⟨_, rfl⟩
     simp only [ht0]
     by_cases hk : k < M
     case neg =>
      as_aux_lemma =>
        clear ht0
        have hki : ¬ (k : Int) < (M : Int) := by omega
        go_wp2_with (go_at_call 9; (with_reducible refine (nalive_any _).mono ?_); rintro r u4 ⟨rfl, hu4⟩)
        go_ret
        exact ⟨rfl, bel2 (bel2 HY2.out HI.out) hu4⟩
     have hki : (k : Int) < (M : Int) := by omega
     obtain ⟨T, hT⟩ : ∃ T : Nat, (if k < s then k else k + 1) = T := ⟨_, rfl⟩
     have hget : (askTo n s D)[k]? = some ((T : Int), D) := by
      rw [← hT]
      exact (askTo_all s D n).2 k (by rw [askTo_len (by omega)]; omega)
     obtain ⟨gP, cO, aD, cD, ev, c0, c1, hrB, hcD, hgl⟩ := Outs.get ⟨HO2.out.1.carry HI.out, HO2.out.2⟩ hget
     obtain rfl : gO = gP := by simpa using (show (some (⟨gO, 0, none⟩ : Addr)) = some ⟨gP, 0, none⟩ by simp only [Value.slice.injEq] at ev; exact ev.1)
     clear ev
     have hgb0 := (HI.out.block _ (zla HG2.out)).trans HG2.out
     have hcase : (((t0 : Int) == (s : Int)) = true ∧ T = t0 + 1) ∨ (((t0 : Int) == (s : Int)) = false ∧ T = t0) := by
      rw [← hT, ← ht0]
      by_cases h : k = s
      · left
        refine ⟨by rw [if_pos (by omega)]; exact beq_iff_eq.2 (by omega), by rw [if_neg (by omega), if_pos (by omega)]⟩
      · right
        by_cases h2 : k < s
        · rw [if_pos h2, if_pos (by omega)]
          exact ⟨beq_eq_false_iff_ne.2 (by omega), rfl⟩
        · rw [if_neg h2, if_neg (by omega)]
          exact ⟨beq_eq_false_iff_ne.2 (by omega), rfl⟩
     have hTb : T ≤ k + 1 := by rw [← hT]; split <;> omega
     have ht0b : t0 ≤ k + 1 := by rw [← ht0]; split <;> omega
     obtain ⟨t1, ht1⟩ : ∃ t1 : Nat, (if k + 1 ≤ s then k + 1 else k + 1 + 1) = t1 := ⟨_, rfl⟩
     have iw3 : IntKind.i64.wrap ((T : Int) + 1) = (t1 : Int) := by
      rw [i64_id _ (by omega) (by omega), ← hT, ← ht1]
      by_cases h : k < s
      · rw [if_pos h, if_pos (by omega)]; omega
      · rw [if_neg h, if_neg (by omega)]; omega
     have iw2 : IntKind.i64.wrap ((t0 : Int) + 1) = ((t0 + 1 : Nat) : Int) := by rw [i64_id _ (by omega) (by omega)]; omega
     have hlD : D.length = D.length := rfl
     have HT1 : Hid ((if k + 1 ≤ s then k + 1 else k + 1 + 1) = t1) := ht1
     clear hT hget ht0 ht1
     rcases hcase with ⟨e1, rfl⟩ | ⟨e1, rfl⟩
     all_goals
      as_aux_lemma =>
        go_wp2_with (go_at_call 13; (with_reducible refine (hdc wr aD cD hrB hcD).mono ?_); rintro r u5 ⟨a6, c6, rfl, HN6, hu5⟩; obtain ⟨xq, hxq⟩ : ∃ V, u5.alloc (.cells #[.int .i64 (s : Int), .int .i64 ro, .slice a6 K c6] 71) = V := ⟨_, rfl⟩; have Bq : Below u5.heap.size u5 xq := (by rw [← hxq]; exact al1' _ _); have gq : xq.heap[u5.heap.size]? = some (.cells #[.int .i64 (s : Int), .int .i64 ro, .slice a6 K c6] 71 (0, 0)) := (by rw [← hxq]; exact zna rfl); have Yq : Below wr.heap.size wr xq := bel2 hu5 Bq; have c0 := (Yq.cell (p := ⟨gO, k * 2, none⟩) hgl).trans c0; have k0 : xq.cell? ⟨u5.heap.size, 0, none⟩ = some (.int .i64 (s : Int)) := (zca gq 0).trans rfl; have k1 : xq.cell? ⟨u5.heap.size, 1, none⟩ = some (.int .i64 ro) := (zca gq 1).trans rfl; have hgq := (Yq.block _ (zla hgb0)).trans hgb0; obtain ⟨r2, r16⟩ := sg_c hgq)
        have HIq : Hid (Below x2.heap.size x2 xq) := bel2 HI.out Yq
        have HGq : Hid (xq.heap[B]? = some (.cells (sgA li ro ta su he re (.slice (some ⟨g, 0, none⟩) n c)) 42 (0, 0))) := hgq
        have HRq : Hid (RdN xq (some ⟨g, 0, none⟩) S2.l) := HR2.out.carry HIq.out
        have HNq : Hid (RdN xq a6 (S2.l.filter pNew)) := HN6.out.carry Bq
        have Hgq : Hid (xq.heap[u5.heap.size]? = some (.cells #[.int .i64 (s : Int), .int .i64 ro, .slice a6 K c6] 71 (0, 0))) := gq
        clear hdc hrB hcD c0 c1 hgl hgb0 hu5 Bq gq Yq k0 k1 hgq r2 r16 HN6 hxq HI
        obtain ⟨BQ, hBQ⟩ : ∃ b, u5.heap.size = b := ⟨_, rfl⟩
        simp only [hBQ] at Hgq ⊢
        clear hBQ
        go_loopw [21, 22] (fun a b wz => ∃ (jj : Nat), b = .int .i64 jj ∧ a = .int .i64 ((nwc S2.l jj : Nat) : Int) ∧ jj ≤ n ∧ Hid (Below xq.heap.size xq wz)) (fun _ b _ => n - vnat b)
        case atStart => exact ⟨0, rfl, by rw [nwc_zero]; rfl, Nat.zero_le _, Below.refl _ _⟩
        case round =>
          obtain ⟨jj, rfl, rfl, hjn, HJ⟩ := hrel
          have hgb := (HJ.out.block _ (zla HGq.out)).trans HGq.out
          obtain ⟨r2, r16⟩ := sg_c hgb
          have gq := (HJ.out.block _ (zla Hgq.out)).trans Hgq.out
          have q2 : wr.cell? ⟨BQ, 2, none⟩ = some (.slice a6 K c6) := (zca gq 2).trans rfl
          have lq := zla gq
          by_cases hjj : jj < n
          case neg =>
           as_aux_lemma =>
             have hji2 : ¬ (jj : Int) < (n : Int) := by omega
             have e9 : nwc S2.l jj = K := (nwc_all (by have := HLn.out.1; omega)).trans HKn.out
             rw [e9]
             go_wp2
             go_roundw
             case rel => exact ⟨k + 1, by simp, by first | (rw [HT1.out]; done) | (rw [HT1.out]; exact congrArg (Value.int .i64) (by have h9 := iw3; rw [i64_id _ (by omega) (by omega)] at h9; omega)), by omega, bel2 HIq.out HJ.out⟩
             case measure => simp [vnat]; omega
          have hji2 : (jj : Int) < (n : Int) := by omega
          obtain ⟨⟨o, t, q⟩, hx⟩ : ∃ y, S2.l[jj]? = some y := ⟨_, List.getElem?_eq_getElem (by have := HLn.out.1; omega)⟩
          obtain rfl : o = (jj : Int) := (HLn.out.2 _ _ hx).1
          obtain ⟨lb, nb⟩ := (HRq.out.carry HJ.out).nts (by intro e; rw [e] at hx; simp at hx)
          by_cases hf : t = 0 ∧ q = 1
          case pos =>
           as_aux_lemma =>
             have e8 : nwc S2.l (jj + 1) = nwc S2.l jj := by rw [nwc_succ hx, pNew_no hf]; rfl
             go_wp2
             rename_i hK
             refine wp_region_any hmx ?_
             refine zwp (fun i__ => ([(.pointer (some ⟨B, 16, none⟩)), (.slice (some ⟨g, 0, none⟩) n c), (.int .i64 (jj : Int)), (.pointer (some ⟨g, 0 + jj * 3, none⟩)), (nt (jj : Int) t q), (.int .i64 (jj : Int)), (nt (jj : Int) 0 1), (.bool true)] : List Value).getD i__ undef) (fun V => Below wr.heap.size wr V) (by kernel_rfl) (Below.refl _ _).drew ?_ ?_
             · refine (sqc ?_ (sqc ?_ (sqc ?_ (sqc ?_ (sqc ?_ (sqc ?_ (sqc ?_ (sqc ?_ trivial))))))))
               · exact zfa rfl trivial _ _ _ _ rfl rfl (fun v hw => (field_sg v _).1)
               · exact zld rfl trivial _ _ _ rfl rfl (fun v hw => load_nl0 (sg_c ((hw.block _ (zla hgb)).trans hgb)).2)
               · exact zmv rfl trivial _ rfl (by kernel_rfl)
               · exact zia rfl trivial _ _ _ _ _ rfl rfl rfl (fun v hw => idx_n g 0 n c jj hjj v)
               · exact zld rfl trivial _ _ _ rfl rfl (fun v hw => load_at (nb.carry lb hw) hx)
               · exact zmv rfl trivial _ rfl (by kernel_rfl)
               · exact zsc rfl trivial 18 _ _ [(.int .i64 (jj : Int))] rfl (by kernel_rfl) (enters_of Tryz.func18 (by kernel_rfl) rfl) (fun v hw => (fresh_any (jj : Int) v).mono (by rintro e w' ⟨rfl, hb⟩; exact ⟨rfl, bel2 hw hb⟩))
               · exact zbo rfl trivial _ _ _ _ _ _ _ rfl rfl rfl (fun v hw => eqn_t hf)
             intro W hW
             first | refine hK _ _ ?_ | refine (‹∀ (a : Act) (w : World), Code.wp Tryz.prog _ _ a w → _›) _ _ ?_
             simp only [finL, List.getD_cons_zero, List.getD_cons_succ, Nat.zero_add, Nat.reduceAdd, List.setIfInBounds_toArray, List.set_cons_zero, List.set_cons_succ]
             go_wp2
             go_roundw
             case rel => exact ⟨jj + 1, by simp, by rw [e8], by omega, bel2 HJ.out hW⟩
             case measure => simp [vnat]; omega
          as_aux_lemma =>
           have e8 : nwc S2.l (jj + 1) = nwc S2.l jj + 1 := by rw [nwc_succ hx, pNew_yes hf]; rfl
           have hnw := nwc_get hx (pNew_yes hf)
           have hnk : nwc S2.l jj < K := by rw [← HKn.out]; exact (List.getElem?_eq_some_iff.1 hnw).1
           have hnl := nwc_le S2.l jj
           obtain ⟨b6, o6, e6, l60, n60⟩ := (HNq.out.carry HJ.out) (by intro e; rw [e] at hnw; simp at hnw)
           subst e6
           have iw8 : IntKind.i64.wrap (((nwc S2.l jj : Nat) : Int) + 1) = ((nwc S2.l (jj + 1) : Nat) : Int) := by rw [e8, i64_id _ (by omega) (by omega)]; omega
           go_wp2
           rename_i hK
           refine wp_region_any hmx ?_
           refine zwp (fun i__ => ([(.pointer (some ⟨B, 16, none⟩)), (.slice (some ⟨g, 0, none⟩) n c), (.int .i64 (jj : Int)), (.pointer (some ⟨g, 0 + jj * 3, none⟩)), (nt (jj : Int) t q), (.int .i64 (jj : Int)), (nt (jj : Int) 0 1), (.bool false)] : List Value).getD i__ undef) (fun V => Below wr.heap.size wr V) (by kernel_rfl) (Below.refl _ _).drew ?_ ?_
           · refine (sqc ?_ (sqc ?_ (sqc ?_ (sqc ?_ (sqc ?_ (sqc ?_ (sqc ?_ (sqc ?_ trivial))))))))
             · exact zfa rfl trivial _ _ _ _ rfl rfl (fun v hw => (field_sg v _).1)
             · exact zld rfl trivial _ _ _ rfl rfl (fun v hw => load_nl0 (sg_c ((hw.block _ (zla hgb)).trans hgb)).2)
             · exact zmv rfl trivial _ rfl (by kernel_rfl)
             · exact zia rfl trivial _ _ _ _ _ rfl rfl rfl (fun v hw => idx_n g 0 n c jj hjj v)
             · exact zld rfl trivial _ _ _ rfl rfl (fun v hw => load_at (nb.carry lb hw) hx)
             · exact zmv rfl trivial _ rfl (by kernel_rfl)
             · exact zsc rfl trivial 18 _ _ [(.int .i64 (jj : Int))] rfl (by kernel_rfl) (enters_of Tryz.func18 (by kernel_rfl) rfl) (fun v hw => (fresh_any (jj : Int) v).mono (by rintro e w' ⟨rfl, hb⟩; exact ⟨rfl, bel2 hw hb⟩))
             · exact zbo rfl trivial _ _ _ _ _ _ _ rfl rfl rfl (fun v hw => eqn_f hf)
           intro W hW
           first | refine hK _ _ ?_ | refine (‹∀ (a : Act) (w : World), Code.wp Tryz.prog _ _ a w → _›) _ _ ?_
           simp only [finL, List.getD_cons_zero, List.getD_cons_succ, Nat.zero_add, Nat.reduceAdd, List.setIfInBounds_toArray, List.set_cons_zero, List.set_cons_succ]
           have hgW := (hW.block _ (zla hgb)).trans hgb
           have nbW := nb.carry lb hW
           have lbW : g < W.heap.size := Nat.lt_of_lt_of_le lb hW.size
           have n6 := n60.carry l60 hW
           have l6 : b6 < W.heap.size := Nat.lt_of_lt_of_le l60 hW.size
           have q2 : W.cell? ⟨BQ, 2, none⟩ = some (.slice (some ⟨b6, o6, none⟩) K c6) := (hW.cell (p := ⟨BQ, 2, none⟩) lq).trans q2
           have lq := Nat.lt_of_lt_of_le lq hW.size
           have hWW := hW
           clear hW hK
           go_wp2
           rename_i hK2
           refine wp_region_any hmx ?_
           refine zwp (fun i__ => ([(.int .i64 ((nwc S2.l jj : Nat) : Int)), (.pointer (some ⟨BQ, 2, none⟩)), (.slice (some ⟨b6, o6, none⟩) K c6), (.int .i64 (K : Int)), (.bool false), (.bool false), (.pointer (some ⟨BQ, 2, none⟩)), (.slice (some ⟨b6, o6, none⟩) K c6), (.int .i64 ((nwc S2.l jj : Nat) : Int)), (.pointer (some ⟨b6, o6 + nwc S2.l jj * 3, none⟩)), (nt (jj : Int) t q), (.pointer (some ⟨B, 16, none⟩)), (.slice (some ⟨g, 0, none⟩) n c), (.int .i64 (jj : Int)), (.pointer (some ⟨g, 0 + jj * 3, none⟩)), (nt (jj : Int) t q), (.bool false), (.bool false)] : List Value).getD i__ undef) (fun V => Below W.heap.size W V) (by kernel_rfl) (Below.refl _ _).drew ?_ ?_
           · refine (sqc ?_ (sqc ?_ (sqc ?_ (sqc ?_ (sqc ?_ (sqc ?_ (sqc ?_ (sqc ?_ (sqc ?_ (sqc ?_ (sqc ?_ (sqc ?_ (sqc ?_ (sqc ?_ (sqc ?_ (sqc ?_ (sqc ?_ (sqc ?_ trivial))))))))))))))))))
             · exact zmv rfl trivial _ rfl (by kernel_rfl)
             · exact zfa rfl trivial _ _ _ _ rfl rfl (fun v hw => fld_q v _)
             · exact zld rfl trivial _ _ _ rfl rfl (fun v hw => load_nl0 ((hw.cell (p := ⟨BQ, 2, none⟩) lq).trans q2))
             · exact step_bi rfl trivial _ _ _ [(.slice (some ⟨b6, o6, none⟩) K c6)] rfl (by kernel_rfl) (fun cs v hw => rfl)
             · exact zbo rfl trivial _ _ _ _ _ _ _ rfl rfl rfl (fun v hw => bin_geqF (by omega))
             · exact zmv rfl trivial _ rfl (by kernel_rfl)
             · exact zfa rfl ⟨_, rfl, by kernel_rfl⟩ _ _ _ _ rfl rfl (fun v hw => fld_q v _)
             · exact zld rfl ⟨_, rfl, by kernel_rfl⟩ _ _ _ rfl rfl (fun v hw => load_nl0 ((hw.cell (p := ⟨BQ, 2, none⟩) lq).trans q2))
             · exact zmv rfl ⟨_, rfl, by kernel_rfl⟩ _ rfl (by kernel_rfl)
             · exact zia rfl ⟨_, rfl, by kernel_rfl⟩ _ _ _ _ _ rfl rfl rfl (fun v hw => idx_n b6 o6 K c6 (nwc S2.l jj) hnk v)
             · exact zld rfl ⟨_, rfl, by kernel_rfl⟩ _ _ _ rfl rfl (fun v hw => load_at (n6.carry l6 hw) hnw)
             · exact zfa rfl ⟨_, rfl, by kernel_rfl⟩ _ _ _ _ rfl rfl (fun v hw => (field_sg v _).1)
             · exact zld rfl ⟨_, rfl, by kernel_rfl⟩ _ _ _ rfl rfl (fun v hw => load_nl0 (sg_c ((hw.block _ (zla hgW)).trans hgW)).2)
             · exact zmv rfl ⟨_, rfl, by kernel_rfl⟩ _ rfl (by kernel_rfl)
             · exact zia rfl ⟨_, rfl, by kernel_rfl⟩ _ _ _ _ _ rfl rfl rfl (fun v hw => idx_n g 0 n c jj hjj v)
             · exact zld rfl ⟨_, rfl, by kernel_rfl⟩ _ _ _ rfl rfl (fun v hw => load_at (nbW.carry lbW hw) hx)
             · exact zbo rfl ⟨_, rfl, by kernel_rfl⟩ _ _ _ _ _ _ _ rfl rfl rfl (fun v hw => neqn_f _ _ _)
             · exact step_pick rfl trivial _ _ _ false rfl (by kernel_rfl) (by kernel_rfl)
           intro W hW
           first | refine hK _ _ ?_ | refine (‹∀ (a : Act) (w : World), Code.wp Tryz.prog _ _ a w → _›) _ _ ?_
           simp only [finL, List.getD_cons_zero, List.getD_cons_succ, Nat.zero_add, Nat.reduceAdd, List.setIfInBounds_toArray, List.set_cons_zero, List.set_cons_succ]
           go_wp2
           go_roundw
           case rel => exact ⟨jj + 1, by simp, by rw [e8]; simp, by omega, bel2 HJ.out (bel2 hWW hW)⟩
           case measure => simp [vnat]; omega
end Go.Proofs.YtekjhcnaabpfmaaGreatDoor
