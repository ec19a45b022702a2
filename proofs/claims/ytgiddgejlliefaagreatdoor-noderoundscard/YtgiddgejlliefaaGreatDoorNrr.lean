/- The walk of NodeRounds. -/
import Derived.WalkKit
import Derived.ProofKit
import Derived.OpenShut
import Derived.Test.YtgiddgejlliefaaGreatDoorJnJ40
namespace Go.Proofs.YtgiddgejlliefaaGreatDoor
set_option maxHeartbeats 40000000
set_option maxRecDepth 100000
set_option linter.unusedVariables false
open Go.ChangeShapes Go.WideShapes Go.ChangeAt Go.RowKit
open Go.Shelf Go.Lib
theorem rounds_in (w : World) (a0 : Int) (w0 : (Lit.int .i64 a0).wf = true) (a1 : Int) (w1 : (Lit.int .i64 a1).wf = true) (a2 : Int) (w2 : (Lit.int .i64 a2).wf = true) (ad3 : Option Addr) (cap3 : Nat) (l3 : List OpN) (w3 : RdW w ad3 l3) (hc3 : l3.length ≤ cap3) (hm3 : cap3 ≤ maxLen) (hL : laidMetH Tryz.prog lay3 w) :
  Calls Tryz.prog 3 #[.int .i64 a0, .int .i64 a1, .int .i64 a2, .slice ad3 l3.length cap3] w fun e w' => e = .returned (.bool true) ∧ Below w.heap.size w w' := by
 have hmx := mixO
 have hEn := env_of hL
 clear hL
 have hbs := size_of hEn
 have hdn := dnew_any w
 have hlm : l3.length ≤ maxLen := Nat.le_trans hc3 hm3
 have HEn : Hid (Env w) := hEn
 have HW : Hid (RdW w ad3 l3) := w3
 clear hEn w3 hc3 hm3
 by_cases hv : (1 ≤ a0 ∧ a0 ≤ 100 ∧ 0 ≤ a1 ∧ a1 < a0) ∧ 0 ≤ a2 ∧ a2 < a0
 case neg =>
  as_aux_lemma =>
    obtain ⟨E, hE, hop⟩ := nopen_bad hv (some ⟨w.heap.size, 0, none⟩)
    clear hv
    go_enter Tryz.func3, Tryz.ntmps3
    go_wp2_with (first
     | (have m := st2; go_at_call 12; (with_reducible refine (nalive_any _).mono ?_); rintro r u4 ⟨rfl, hu4⟩)
     | (have m := st1; go_at_call 9; (with_reducible refine (hop u1).mono ?_); rintro r u2 ⟨rfl, hu2⟩; obtain rfl := hu2.symm; have st2 := True.intro)
     | (go_at_call 10; (with_reducible refine hdn.mono ?_); rintro r u1 ⟨rfl, hD1, hl1, hu1⟩; have st1 := True.intro))
    go_ret
    exact ⟨rfl, bel2 hu1 hu4⟩
 obtain ⟨⟨v1, v2, v3, v4⟩, v5, v6⟩ := hv
 obtain ⟨n, rfl⟩ : ∃ n : Nat, a0 = (n : Int) := ⟨a0.toNat, by omega⟩
 obtain ⟨f, rfl⟩ : ∃ f : Nat, a1 = (f : Int) := ⟨a1.toNat, by omega⟩
 obtain ⟨s, rfl⟩ : ∃ s : Nat, a2 = (s : Int) := ⟨a2.toNat, by omega⟩
 have hop : ∀ V, Dk V w.heap.size d0 → Calls Tryz.prog 9 #[.int .i64 (n : Int), .int .i64 (f : Int), .int .i64 (s : Int), .pointer (some ⟨w.heap.size, 0, none⟩)] V fun r w' => ∃ x A, r = .returned (.tuple #[.pointer (some ⟨x, 0, none⟩), .int .i64 0]) ∧ Nd w' w.heap.size x A (s0 n f s) ∧ A.p = w.heap.size ∧ V.heap.size ≤ x ∧ TpZ w.heap.size V w' := fun V hV => nopen0 hV (Nat.le_refl _) (by omega) (by omega) (by omega) (by omega)
 have hv0 : Nv 0 (s0 n f s) := Nv.open (by omega) (by omega) (by omega) (by omega)
 have hli : ∀ V, Below w.heap.size w V → Calls Tryz.prog 11 #[.slice ad3 l3.length cap3] V fun e w' => e = .returned (.bool (lgt l3)) ∧ w' = V := fun V hV => light_W V ad3 cap3 l3 (HW.out.carry hV) hlm
 have i64n : IntKind.i64.wrap ((n : Int) - (f : Int)) = (n : Int) - (f : Int) := i64_id _ (by omega) (by omega)
 by_cases hlg : lgt l3 = true
 case neg =>
  as_aux_lemma =>
    have hlf : lgt l3 = false := by simpa using hlg
    rw [hlf] at hli
    clear hlg hlf v1 v2 v3 v4 v5 v6
    go_enter Tryz.func3, Tryz.ntmps3
    go_wp2_with (first
     | (have m := st3; go_at_call 12; (with_reducible refine (nalive_any _).mono ?_); rintro r u4 ⟨rfl, hu4⟩)
     | (have m := st2; go_at_call 11; (with_reducible refine st2.mono ?_); rintro r u3 ⟨rfl, hu3⟩; obtain rfl := hu3.symm; have st3 := True.intro)
     | (have m := st1; go_at_call 9; (with_reducible refine st1.mono ?_); rintro r u2 ⟨x, A, rfl, hN2, hA2, hx2, ht2⟩; have Y2 : Below w.heap.size w u2 := TpZ.young hu1 ht2 (Nat.le_refl _); have st2 := hli u2 Y2)
     | (go_at_call 10; (with_reducible refine hdn.mono ?_); rintro r u1 ⟨rfl, hD1, hl1, hu1⟩; have st1 := hop u1 hD1))
    go_ret
    exact ⟨rfl, bel2 Y2 hu4⟩
 rw [hlg] at hli
 have HLG : Hid (lgt l3 = true) := hlg
 have HV0 : Hid (Nv 0 (s0 n f s)) := hv0
 clear hlg hv0
 go_enter Tryz.func3, Tryz.ntmps3
 go_wp2_with (first
    | (have m := st2; go_at_call 11; (with_reducible refine st2.mono ?_); rintro r u3 ⟨rfl, hu3⟩; obtain rfl := hu3.symm)
    | (have m := st1; go_at_call 9; (with_reducible refine st1.mono ?_); rintro r u2 ⟨x, A, rfl, hN2, hA2, hx2, ht2⟩; have Y2 : Below w.heap.size w u2 := TpZ.young hu1 ht2 (Nat.le_refl _); have st2 := hli u2 Y2)
    | (go_at_call 10; (with_reducible refine hdn.mono ?_); rintro r u1 ⟨rfl, hD1, hl1, hu1⟩; have st1 := hop u1 hD1))
 have HN2 : Hid (Nd u2 w.heap.size x A (s0 n f s)) := hN2
 have HY2 : Hid (Below w.heap.size w u2) := Y2
 have HE2 : Hid ((s0 n f s).n = n ∧ (s0 n f s).f = f ∧ (s0 n f s).s = s) := ⟨rfl, rfl, rfl⟩
 clear hdn hop hli st1 st2 hN2 hA2 hx2 ht2 hD1 hl1 hu1 Y2
 generalize s0 n f s = S0 at HV0 HN2 HE2
 go_loopw [11] (fun i wz => ∃ (j : Nat) (S : Ns) (A : NA), i = .int .i64 j ∧ j ≤ l3.length ∧ Hid (Nv j S) ∧ Hid (S.n = n ∧ S.f = f ∧ S.s = s) ∧ Hid (Nd wz w.heap.size x A S) ∧ Hid (Below w.heap.size w wz)) (fun i _ => l3.length - vnat i)
 case atStart => exact ⟨0, S0, A, rfl, Nat.zero_le _, HV0, HE2, HN2, HY2⟩
 case round =>
  clear HV0 HE2 HN2 HY2
  obtain ⟨j, S, A, rfl, hjl, HV, HE, HN, HY⟩ := hrel
  by_cases hjn : j < l3.length
  case neg =>
    as_aux_lemma =>
     have hji : ¬ (j : Int) < (l3.length : Int) := by omega
     go_wp2_with (go_at_call 12; (with_reducible refine (nalive_any _).mono ?_); rintro r u4 ⟨rfl, hu4⟩)
     go_ret
     exact ⟨rfl, bel2 HY.out hu4⟩
  have hji : (j : Int) < (l3.length : Int) := by omega
  obtain ⟨o, hx⟩ : ∃ o, l3[j]? = some o := ⟨_, List.getElem?_eq_getElem hjn⟩
  obtain ⟨hn3, hn8⟩ := lgt_at HLG.out hx
  have HX : Hid (l3[j]? = some o) := hx
  have HN3 : Hid (o.nl.length ≤ 300) := hn3
  clear hx hn3
  obtain ⟨b, off, ea, hbl, c0, c1, c2, c3, c4, c5, c6, c7, c8, c9, c10, c11, hok⟩ := HW.out.at HX.out
  have HBL : Hid (b < w.heap.size) := hbl
  subst ea
  clear hok hbl c0 c1 c2 c3 c4 c5 c6 c7 c8 c9 c10 c11
  have hcell : ∀ V, Below w.heap.size w V → V.cell? ⟨b, off + j * 12, none⟩ = some (.int .i64 o.k) ∧ V.cell? ⟨b, off + j * 12 + 1, none⟩ = some (.int .i64 o.a) ∧ V.cell? ⟨b, off + j * 12 + 2, none⟩ = some (.int .i64 o.b) ∧ V.cell? ⟨b, off + j * 12 + 3, none⟩ = some (.int .i64 o.nk) ∧ V.cell? ⟨b, off + j * 12 + 4, none⟩ = some (.int .i64 o.nf) ∧ V.cell? ⟨b, off + j * 12 + 5, none⟩ = some (.int .i64 o.nr) ∧ V.cell? ⟨b, off + j * 12 + 6, none⟩ = some (.int .u32 (wd o.nN 0 : Nat)) ∧ V.cell? ⟨b, off + j * 12 + 7, none⟩ = some (.int .u32 (wd o.nN 1 : Nat)) ∧ V.cell? ⟨b, off + j * 12 + 8, none⟩ = some (.int .u32 (wd o.nN 2 : Nat)) ∧ V.cell? ⟨b, off + j * 12 + 9, none⟩ = some (.int .u32 (wd o.nN 3 : Nat)) ∧ V.cell? ⟨b, off + j * 12 + 10, none⟩ = some (.slice o.na o.nl.length o.nc) ∧ V.cell? ⟨b, off + j * 12 + 11, none⟩ = some (.slice o.da o.dl.length o.dc) := fun V hV => (by
    have k : ∀ i, V.cell? ⟨b, i, none⟩ = w.cell? ⟨b, i, none⟩ := fun i => hV.cell (p := ⟨b, i, none⟩) HBL.out
    obtain ⟨b', off', ea, hbl, c0, c1, c2, c3, c4, c5, c6, c7, c8, c9, c10, c11, hok⟩ := HW.out.at HX.out
    obtain ⟨rfl, rfl⟩ : b = b' ∧ off = off' := by simpa using ea
    simp only [k]
    exact ⟨c0, c1, c2, c3, c4, c5, c6, c7, c8, c9, c10, c11⟩)
  obtain ⟨ro, hro⟩ : ∃ ro, S.t.ro = ro := ⟨_, rfl⟩
  obtain ⟨he, hhe⟩ : ∃ he, S.H = he := ⟨_, rfl⟩
  obtain ⟨re, hre⟩ : ∃ re, S.t.reps = re := ⟨_, rfl⟩
  have hS1 := sight_as HN.out HV.out hro hhe hre
  have HQ : Hid (S.t.ro = ro ∧ S.H = he ∧ S.t.reps = re) := ⟨hro, hhe, hre⟩
  have hhe8 : he < S128 := by rw [← hhe]; exact pow_S128 HV.out.n2 HV.out.H
  have hre8 : re < S128 := by rw [← hre]; exact pow_S128 HV.out.n2 HV.out.rp
  have hrob : 0 ≤ ro ∧ ro ≤ 1000 := by have h1 := HV.out.tr; have h2 := HV.out.ro; omega
  clear hro hhe hre
  have hs1 := fun V => eqA hhe8 V
  have hs2 := fun V => eqA hre8 V
  unfold sgA at hS1
  have hdo : ∀ V, Below wr.heap.size wr V → Calls Tryz.prog 14 #[.pointer (some ⟨x, 0, none⟩), .int .i64 (n : Int), .agg #[.int .i64 o.k, .int .i64 o.a, .int .i64 o.b, .int .i64 o.nk, .int .i64 o.nf, .int .i64 o.nr, .int .u32 (wd o.nN 0 : Nat), .int .u32 (wd o.nN 1 : Nat), .int .u32 (wd o.nN 2 : Nat), .int .u32 (wd o.nN 3 : Nat), .slice o.na o.nl.length o.nc, .slice o.da o.dl.length o.dc]] V fun r V' => ∃ E S' A', r = .returned (.int .i64 E) ∧ Hid (Rnd S S' o E) ∧ Hid (Nv (j + 1) S') ∧ Hid (S'.n = n ∧ S'.f = f ∧ S'.s = s) ∧ Hid (Nd V' w.heap.size x A' S') ∧ Mv x A A' V V' := fun V hV => by
    obtain ⟨e1, e2, e3⟩ := HE.out
    have hY := bel2 HY.out hV
    have := do_any (HN.out.carry hV) HV.out (by omega) (HEn.out.carry hY) hbs ((HW.out.op HX.out).carry hY) HN3.out
    rw [e1] at this
    refine this.mono ?_
    rintro r V' ⟨E, S', A', rfl, hdr, hN', hM'⟩
    obtain ⟨g1, g2, g3, g4, g5⟩ := hdr.rnd HV.out (by omega)
    exact ⟨E, S', A', rfl, g5, g1, ⟨g2.trans e1, g3.trans e2, g4.trans e3⟩, hN', hM'⟩
  obtain ⟨kk, hkk⟩ : ∃ kk, o.k = kk := ⟨_, rfl⟩
  have HKK : Hid (o.k = kk) := hkk
  rw [hkk] at hdo
  simp only [hkk] at hcell
  clear hkk
  obtain ⟨PW, hP⟩ : ∃ P, 2 ^ s = P := ⟨_, rfl⟩
  have HP : Hid (2 ^ s = PW) := hP
  have hP8 : PW < S128 := by rw [← hP]; exact S100_S128 (pow_S100 (by omega))
  have hs3 := fun V => eqA hP8 V
  have i64r : IntKind.i64.wrap (ro + 1) = ro + 1 := i64_id _ (by omega) (by omega)
  have hcw1 := count_any re
  simp only [sv] at hcw1
  clear hP
  by_cases hk : kk ≠ 1
  · as_aux_lemma =>
    have hk1 : (kk != 1) = true := by simpa using hk
    go_wp2_with (first
    | (have m := st6; go_at_call 17; (with_reducible refine st6.mono ?_); rintro r u7 ⟨rfl, hu7⟩)
    | (have m := st5; go_at_call 16; (with_reducible refine st5.mono ?_); rintro r u6 ⟨rfl, hu6⟩; have G8 := G6.carry hu6; have G9 := G7.carry hu6; have Z6 : Below w.heap.size w u6 := (bel2 HY.out Y1).trans (((HM3.out.below (HN.out.carry Y1)).trans (bel2 (bel2 Y4 hu5) hu6 |>.mono (Nat.le_trans (bel2 HY.out Y1).size HM3.out.size)))); obtain ⟨d0, d2, ⟨d8, d9, d10, d11⟩, d12, d13, d14, d15⟩ := G8.c; obtain ⟨f0, f2, ⟨f8, f9, f10, f11⟩, f12, f13, f14, f15⟩ := G9.c; obtain ⟨c0, c1, c2, c3, c4, c5, c6, c7, c8, c9, c10, c11⟩ := hcell u6 Z6; have hsub := subset_any re re2; rw [p3] at hsub; simp only [sv] at hsub; have st6 := hsub u6)
    | (have m := st4; go_at_call 15; (with_reducible refine st4.mono ?_); rintro r u5 ⟨rfl, hu5⟩; have G6 := G4.carry hu5; have G7 := G5.carry hu5; obtain ⟨d0, d2, ⟨d8, d9, d10, d11⟩, d12, d13, d14, d15⟩ := G6.c; have st5 := hc u5)
    | (have m := st3; go_at_call 13; (with_reducible refine st3.mono ?_); rintro r u4 ⟨l4, t4, s4, y4, k4, z4, rfl, hu4⟩; obtain ⟨x4, hxx4⟩ : ∃ V, u4.alloc (.cells #[.bool true, .int .i64 l4, .int .i64 ro, .int .i64 t4, .int .u32 (wd s4 0 : Nat), .int .u32 (wd s4 1 : Nat), .int .u32 (wd s4 2 : Nat), .int .u32 (wd s4 3 : Nat), .int .u32 (wd he 0 : Nat), .int .u32 (wd he 1 : Nat), .int .u32 (wd he 2 : Nat), .int .u32 (wd he 3 : Nat), .int .u32 (wd re2 0 : Nat), .int .u32 (wd re2 1 : Nat), .int .u32 (wd re2 2 : Nat), .int .u32 (wd re2 3 : Nat), .slice y4 k4 z4] 36) = V := ⟨_, rfl⟩; have Bx4 : Below u4.heap.size u4 x4 := (by rw [← hxx4]; exact al1' _ _); have G4 : SgB x4 u4.heap.size ro he re2 := (by rw [← hxx4]; exact SgB.new _ _ _ _ _ _ _ _); have Y4 : Below u3.heap.size u3 x4 := bel2 hu4 Bx4; have G5 := G3.carry Y4; obtain ⟨d0, d2, ⟨d8, d9, d10, d11⟩, d12, d13, d14, d15⟩ := G4.c; have st4 := hh x4)
    | (have m := st2; go_at_call 14; (with_reducible refine st2.mono ?_); rintro r u3 hp3; obtain ⟨E, S', A', rfl, HR, HV', HE', HN', hM3⟩ := hp3; have hrn := HR.out; obtain ⟨q1, q2, q3⟩ := HQ.out; obtain ⟨p1, p2, p3⟩ := hrn.oth (by rw [HKK.out]; exact hk); obtain ⟨re2, hr2⟩ : ∃ re2, S'.t.reps = re2 := ⟨_, rfl⟩; have hS3 := sight_as HN'.out HV'.out (p1.trans q1) (p2.trans q2) hr2; rw [q3, hr2] at p3; have hh := has_any (S'.t.reps) (s : Int); rw [show hasB S'.t.reps (s : Int) = true from (by rw [← HE.out.2.2]; exact hrn.has), hr2] at hh; have hc := count_any (S'.t.reps); rw [hr2] at hc; have cn := hrn.cn; rw [HE.out.1, HE.out.2.1, hr2] at cn; have G3 := G1.mv HN.out hu1.size hM3; unfold sgA at hS3; simp only [sv] at hh hc; have HM3 : Hid (Mv x A A' x1 u3) := hM3; clear hrn q1 q2 hr2 p1 p2 hM3; have st3 := hS3)
    | (go_at_call 13; (with_reducible refine hS1.mono ?_); rintro r u1 ⟨l1, t1, s1, y1, k1, z1, rfl, hu1⟩; obtain ⟨x1, hxx1⟩ : ∃ V, u1.alloc (.cells #[.bool true, .int .i64 l1, .int .i64 ro, .int .i64 t1, .int .u32 (wd s1 0 : Nat), .int .u32 (wd s1 1 : Nat), .int .u32 (wd s1 2 : Nat), .int .u32 (wd s1 3 : Nat), .int .u32 (wd he 0 : Nat), .int .u32 (wd he 1 : Nat), .int .u32 (wd he 2 : Nat), .int .u32 (wd he 3 : Nat), .int .u32 (wd re 0 : Nat), .int .u32 (wd re 1 : Nat), .int .u32 (wd re 2 : Nat), .int .u32 (wd re 3 : Nat), .slice y1 k1 z1] 36) = V := ⟨_, rfl⟩; have Bx1 : Below u1.heap.size u1 x1 := (by rw [← hxx1]; exact al1' _ _); have G1 : SgB x1 u1.heap.size ro he re := (by rw [← hxx1]; exact SgB.new _ _ _ _ _ _ _ _); have Y1 : Below wr.heap.size wr x1 := bel2 hu1 Bx1; obtain ⟨c0, c1, c2, c3, c4, c5, c6, c7, c8, c9, c10, c11⟩ := hcell x1 (bel2 HY.out Y1); have st2 := hdo x1 Y1))
    go_roundw
    case rel => exact ⟨j + 1, S', A', by simp, by omega, HV', HE', HN'.out.carry (bel2 (bel2 (bel2 Y4 hu5) hu6) hu7), bel2 Z6 hu7⟩
    case measure => simp [vnat]; omega
  have hk : kk = 1 := by simpa using hk
  have hk1 : (kk != 1) = false := by rw [hk]; rfl
  have HK1 : Hid (kk = 1) := hk
  clear hk
  by_cases hcw : ((cnt (cln re) : Nat) : Int) < (n : Int) - (f : Int)
  · as_aux_lemma =>
    go_wp2_with (first
    | (have m := st7; go_at_call 16; (with_reducible refine st7.mono ?_); rintro r u8 ⟨rfl, hu8⟩; have GC := GA.carry hu8; have GD := GB.carry hu8; obtain ⟨d0, d2, ⟨d8, d9, d10, d11⟩, d12, d13, d14, d15⟩ := GC.c; obtain ⟨f0, f2, ⟨f8, f9, f10, f11⟩, f12, f13, f14, f15⟩ := GD.c; have h7c := (hu8.block _ (zla h7)).trans h7; have g0 : u8.cell? ⟨u7.heap.size, 0, none⟩ = some (.int .u32 (wd PW 0 : Nat)) := (zca h7c 0).trans rfl; have g1 : u8.cell? ⟨u7.heap.size, 1, none⟩ = some (.int .u32 (wd PW 1 : Nat)) := (zca h7c 1).trans rfl; have g2 : u8.cell? ⟨u7.heap.size, 2, none⟩ = some (.int .u32 (wd PW 2 : Nat)) := (zca h7c 2).trans rfl; have g3 : u8.cell? ⟨u7.heap.size, 3, none⟩ = some (.int .u32 (wd PW 3 : Nat)) := (zca h7c 3).trans rfl)
    | (have m := st6; go_at_call 18; (with_reducible refine st6.mono ?_); rintro r u7 ⟨rfl, hu7⟩; obtain ⟨x7, hx7⟩ : ∃ V, u7.alloc (.cells #[.int .u32 (wd PW 0 : Nat), .int .u32 (wd PW 1 : Nat), .int .u32 (wd PW 2 : Nat), .int .u32 (wd PW 3 : Nat)] 33) = V := ⟨_, rfl⟩; have Bx7 : Below u7.heap.size u7 x7 := (by rw [← hx7]; exact al1' _ _); have h7 : x7.heap[u7.heap.size]? = some (.cells #[.int .u32 (wd PW 0 : Nat), .int .u32 (wd PW 1 : Nat), .int .u32 (wd PW 2 : Nat), .int .u32 (wd PW 3 : Nat)] 33 (0, 0)) := (by rw [← hx7]; exact zna rfl); have Y7 : Below u6.heap.size u6 x7 := bel2 (bel2 Bx6 hu7) Bx7; have GA := G8.carry Y7; have GB := G9.carry Y7; obtain ⟨d0, d2, ⟨d8, d9, d10, d11⟩, d12, d13, d14, d15⟩ := GA.c; obtain ⟨f0, f2, ⟨f8, f9, f10, f11⟩, f12, f13, f14, f15⟩ := GB.c; have st7 := hcw1 x7)
    | (have m := st5; go_at_call 16; (with_reducible refine st5.mono ?_); rintro r u6 ⟨rfl, hu6⟩; have G8 := G6.carry hu6; have G9 := G7.carry hu6; have Z6 : Below w.heap.size w u6 := (bel2 HY.out Y1).trans (((HM3.out.below (HN.out.carry Y1)).trans (bel2 (bel2 Y4 hu5) hu6 |>.mono (Nat.le_trans (bel2 HY.out Y1).size HM3.out.size)))); obtain ⟨d0, d2, ⟨d8, d9, d10, d11⟩, d12, d13, d14, d15⟩ := G8.c; obtain ⟨f0, f2, ⟨f8, f9, f10, f11⟩, f12, f13, f14, f15⟩ := G9.c; obtain ⟨c0, c1, c2, c3, c4, c5, c6, c7, c8, c9, c10, c11⟩ := hcell u6 Z6; obtain ⟨x6, hx6⟩ : ∃ V, u6.alloc (.cells #[.int .i64 (s : Int)] 3) = V := ⟨_, rfl⟩; have Bx6 : Below u6.heap.size u6 x6 := (by rw [← hx6]; exact al1' _ _); have h6 : x6.heap[u6.heap.size]? = some (.cells #[.int .i64 (s : Int)] 3 (0, 0)) := (by rw [← hx6]; exact zna rfl); have st6 := of1_any (c := 1) s (by omega) ((zca h6 0).trans rfl) (zla h6); rw [HP.out] at st6; simp only [sv] at st6)
    | (have m := st4; go_at_call 15; (with_reducible refine st4.mono ?_); rintro r u5 ⟨rfl, hu5⟩; have G6 := G4.carry hu5; have G7 := G5.carry hu5; obtain ⟨d0, d2, ⟨d8, d9, d10, d11⟩, d12, d13, d14, d15⟩ := G6.c; have st5 := hc u5)
    | (have m := st3; go_at_call 13; (with_reducible refine st3.mono ?_); rintro r u4 ⟨l4, t4, s4, y4, k4, z4, rfl, hu4⟩; obtain ⟨x4, hxx4⟩ : ∃ V, u4.alloc (.cells #[.bool true, .int .i64 l4, .int .i64 ro, .int .i64 t4, .int .u32 (wd s4 0 : Nat), .int .u32 (wd s4 1 : Nat), .int .u32 (wd s4 2 : Nat), .int .u32 (wd s4 3 : Nat), .int .u32 (wd he 0 : Nat), .int .u32 (wd he 1 : Nat), .int .u32 (wd he 2 : Nat), .int .u32 (wd he 3 : Nat), .int .u32 (wd re 0 : Nat), .int .u32 (wd re 1 : Nat), .int .u32 (wd re 2 : Nat), .int .u32 (wd re 3 : Nat), .slice y4 k4 z4] 36) = V := ⟨_, rfl⟩; have Bx4 : Below u4.heap.size u4 x4 := (by rw [← hxx4]; exact al1' _ _); have G4 : SgB x4 u4.heap.size ro he re := (by rw [← hxx4]; exact SgB.new _ _ _ _ _ _ _ _); have Y4 : Below u3.heap.size u3 x4 := bel2 hu4 Bx4; have G5 := G3.carry Y4; obtain ⟨d0, d2, ⟨d8, d9, d10, d11⟩, d12, d13, d14, d15⟩ := G4.c; have st4 := hh x4)
    | (have m := st2; go_at_call 14; (with_reducible refine st2.mono ?_); rintro r u3 hp3; obtain ⟨E, S', A', rfl, HR, HV', HE', HN', hM3⟩ := hp3; have hrn := HR.out; obtain ⟨q1, q2, q3⟩ := HQ.out; obtain ⟨p0, p1, p2, p3⟩ := hrn.wt (by rw [HKK.out]; exact HK1.out) (by rw [q3, HE.out.1, HE.out.2.1]; omega); subst p0; have hr2 := p3.trans q3; have hS3 := sight_as HN'.out HV'.out (p1.trans q1) (p2.trans q2) hr2; have hh := has_any (S'.t.reps) (s : Int); rw [show hasB S'.t.reps (s : Int) = true from (by rw [← HE.out.2.2]; exact hrn.has), hr2] at hh; have hc := count_any (S'.t.reps); rw [hr2] at hc; have cn := hrn.cn; rw [HE.out.1, HE.out.2.1, hr2] at cn; have G3 := G1.mv HN.out hu1.size hM3; unfold sgA at hS3; simp only [sv] at hh hc; have HM3 : Hid (Mv x A A' x1 u3) := hM3; clear hrn q1 q2 hr2 p1 p2 hM3 p3; have st3 := hS3)
    | (go_at_call 13; (with_reducible refine hS1.mono ?_); rintro r u1 ⟨l1, t1, s1, y1, k1, z1, rfl, hu1⟩; obtain ⟨x1, hxx1⟩ : ∃ V, u1.alloc (.cells #[.bool true, .int .i64 l1, .int .i64 ro, .int .i64 t1, .int .u32 (wd s1 0 : Nat), .int .u32 (wd s1 1 : Nat), .int .u32 (wd s1 2 : Nat), .int .u32 (wd s1 3 : Nat), .int .u32 (wd he 0 : Nat), .int .u32 (wd he 1 : Nat), .int .u32 (wd he 2 : Nat), .int .u32 (wd he 3 : Nat), .int .u32 (wd re 0 : Nat), .int .u32 (wd re 1 : Nat), .int .u32 (wd re 2 : Nat), .int .u32 (wd re 3 : Nat), .slice y1 k1 z1] 36) = V := ⟨_, rfl⟩; have Bx1 : Below u1.heap.size u1 x1 := (by rw [← hxx1]; exact al1' _ _); have G1 : SgB x1 u1.heap.size ro he re := (by rw [← hxx1]; exact SgB.new _ _ _ _ _ _ _ _); have Y1 : Below wr.heap.size wr x1 := bel2 hu1 Bx1; obtain ⟨c0, c1, c2, c3, c4, c5, c6, c7, c8, c9, c10, c11⟩ := hcell x1 (bel2 HY.out Y1); have st2 := hdo x1 Y1))
    go_roundw
    case rel => exact ⟨j + 1, S', A', by simp, by omega, HV', HE', HN'.out.carry (bel2 (bel2 (bel2 (bel2 Y4 hu5) hu6) Y7) hu8), bel2 (bel2 Z6 Y7) hu8⟩
    case measure => simp [vnat]; omega
  · as_aux_lemma =>
    go_wp2_with (first
    | (have m := st7; go_at_call 16; (with_reducible refine st7.mono ?_); rintro r u8 ⟨rfl, hu8⟩; have GC := GA.carry hu8; have GD := GB.carry hu8; obtain ⟨d0, d2, ⟨d8, d9, d10, d11⟩, d12, d13, d14, d15⟩ := GC.c; obtain ⟨f0, f2, ⟨f8, f9, f10, f11⟩, f12, f13, f14, f15⟩ := GD.c; have h7c := (hu8.block _ (zla h7)).trans h7; have g0 : u8.cell? ⟨u7.heap.size, 0, none⟩ = some (.int .u32 (wd PW 0 : Nat)) := (zca h7c 0).trans rfl; have g1 : u8.cell? ⟨u7.heap.size, 1, none⟩ = some (.int .u32 (wd PW 1 : Nat)) := (zca h7c 1).trans rfl; have g2 : u8.cell? ⟨u7.heap.size, 2, none⟩ = some (.int .u32 (wd PW 2 : Nat)) := (zca h7c 2).trans rfl; have g3 : u8.cell? ⟨u7.heap.size, 3, none⟩ = some (.int .u32 (wd PW 3 : Nat)) := (zca h7c 3).trans rfl)
    | (have m := st6; go_at_call 18; (with_reducible refine st6.mono ?_); rintro r u7 ⟨rfl, hu7⟩; obtain ⟨x7, hx7⟩ : ∃ V, u7.alloc (.cells #[.int .u32 (wd PW 0 : Nat), .int .u32 (wd PW 1 : Nat), .int .u32 (wd PW 2 : Nat), .int .u32 (wd PW 3 : Nat)] 33) = V := ⟨_, rfl⟩; have Bx7 : Below u7.heap.size u7 x7 := (by rw [← hx7]; exact al1' _ _); have h7 : x7.heap[u7.heap.size]? = some (.cells #[.int .u32 (wd PW 0 : Nat), .int .u32 (wd PW 1 : Nat), .int .u32 (wd PW 2 : Nat), .int .u32 (wd PW 3 : Nat)] 33 (0, 0)) := (by rw [← hx7]; exact zna rfl); have Y7 : Below u6.heap.size u6 x7 := bel2 (bel2 Bx6 hu7) Bx7; have GA := G8.carry Y7; have GB := G9.carry Y7; obtain ⟨d0, d2, ⟨d8, d9, d10, d11⟩, d12, d13, d14, d15⟩ := GA.c; obtain ⟨f0, f2, ⟨f8, f9, f10, f11⟩, f12, f13, f14, f15⟩ := GB.c; have st7 := hcw1 x7)
    | (have m := st5; go_at_call 16; (with_reducible refine st5.mono ?_); rintro r u6 ⟨rfl, hu6⟩; have G8 := G6.carry hu6; have G9 := G7.carry hu6; have Z6 : Below w.heap.size w u6 := (bel2 HY.out Y1).trans (((HM3.out.below (HN.out.carry Y1)).trans (bel2 (bel2 Y4 hu5) hu6 |>.mono (Nat.le_trans (bel2 HY.out Y1).size HM3.out.size)))); obtain ⟨d0, d2, ⟨d8, d9, d10, d11⟩, d12, d13, d14, d15⟩ := G8.c; obtain ⟨f0, f2, ⟨f8, f9, f10, f11⟩, f12, f13, f14, f15⟩ := G9.c; obtain ⟨c0, c1, c2, c3, c4, c5, c6, c7, c8, c9, c10, c11⟩ := hcell u6 Z6; obtain ⟨x6, hx6⟩ : ∃ V, u6.alloc (.cells #[.int .i64 (s : Int)] 3) = V := ⟨_, rfl⟩; have Bx6 : Below u6.heap.size u6 x6 := (by rw [← hx6]; exact al1' _ _); have h6 : x6.heap[u6.heap.size]? = some (.cells #[.int .i64 (s : Int)] 3 (0, 0)) := (by rw [← hx6]; exact zna rfl); have st6 := of1_any (c := 1) s (by omega) ((zca h6 0).trans rfl) (zla h6); rw [HP.out] at st6; simp only [sv] at st6)
    | (have m := st4; go_at_call 15; (with_reducible refine st4.mono ?_); rintro r u5 ⟨rfl, hu5⟩; have G6 := G4.carry hu5; have G7 := G5.carry hu5; obtain ⟨d0, d2, ⟨d8, d9, d10, d11⟩, d12, d13, d14, d15⟩ := G6.c; have st5 := hc u5)
    | (have m := st3; go_at_call 13; (with_reducible refine st3.mono ?_); rintro r u4 ⟨l4, t4, s4, y4, k4, z4, rfl, hu4⟩; obtain ⟨x4, hxx4⟩ : ∃ V, u4.alloc (.cells #[.bool true, .int .i64 l4, .int .i64 (ro + 1), .int .i64 t4, .int .u32 (wd s4 0 : Nat), .int .u32 (wd s4 1 : Nat), .int .u32 (wd s4 2 : Nat), .int .u32 (wd s4 3 : Nat), .int .u32 (wd re 0 : Nat), .int .u32 (wd re 1 : Nat), .int .u32 (wd re 2 : Nat), .int .u32 (wd re 3 : Nat), .int .u32 (wd PW 0 : Nat), .int .u32 (wd PW 1 : Nat), .int .u32 (wd PW 2 : Nat), .int .u32 (wd PW 3 : Nat), .slice y4 k4 z4] 36) = V := ⟨_, rfl⟩; have Bx4 : Below u4.heap.size u4 x4 := (by rw [← hxx4]; exact al1' _ _); have G4 : SgB x4 u4.heap.size (ro + 1) re PW := (by rw [← hxx4]; exact SgB.new _ _ _ _ _ _ _ _); have Y4 : Below u3.heap.size u3 x4 := bel2 hu4 Bx4; have G5 := G3.carry Y4; obtain ⟨d0, d2, ⟨d8, d9, d10, d11⟩, d12, d13, d14, d15⟩ := G4.c; have st4 := hh x4)
    | (have m := st2; go_at_call 14; (with_reducible refine st2.mono ?_); rintro r u3 hp3; obtain ⟨E, S', A', rfl, HR, HV', HE', HN', hM3⟩ := hp3; have hrn := HR.out; obtain ⟨q1, q2, q3⟩ := HQ.out; obtain ⟨p0, p1, p2, p3⟩ := hrn.go (by rw [HKK.out]; exact HK1.out) (by rw [q3, HE.out.1, HE.out.2.1]; omega); subst p0; have hr2 : S'.t.reps = PW := (by rw [p3, HE.out.2.2]; exact HP.out); rw [q1] at p1; rw [q3] at p2; have hS3 := sight_as HN'.out HV'.out p1 p2 hr2; have hh := has_any (S'.t.reps) (s : Int); rw [show hasB S'.t.reps (s : Int) = true from (by rw [← HE.out.2.2]; exact hrn.has), hr2] at hh; have hc := count_any (S'.t.reps); rw [hr2] at hc; have cn := hrn.cn; rw [HE.out.1, HE.out.2.1, hr2] at cn; have G3 := G1.mv HN.out hu1.size hM3; unfold sgA at hS3; simp only [sv] at hh hc; have HM3 : Hid (Mv x A A' x1 u3) := hM3; clear hrn q1 q2 hr2 p1 p2 hM3 p3; have st3 := hS3)
    | (go_at_call 13; (with_reducible refine hS1.mono ?_); rintro r u1 ⟨l1, t1, s1, y1, k1, z1, rfl, hu1⟩; obtain ⟨x1, hxx1⟩ : ∃ V, u1.alloc (.cells #[.bool true, .int .i64 l1, .int .i64 ro, .int .i64 t1, .int .u32 (wd s1 0 : Nat), .int .u32 (wd s1 1 : Nat), .int .u32 (wd s1 2 : Nat), .int .u32 (wd s1 3 : Nat), .int .u32 (wd he 0 : Nat), .int .u32 (wd he 1 : Nat), .int .u32 (wd he 2 : Nat), .int .u32 (wd he 3 : Nat), .int .u32 (wd re 0 : Nat), .int .u32 (wd re 1 : Nat), .int .u32 (wd re 2 : Nat), .int .u32 (wd re 3 : Nat), .slice y1 k1 z1] 36) = V := ⟨_, rfl⟩; have Bx1 : Below u1.heap.size u1 x1 := (by rw [← hxx1]; exact al1' _ _); have G1 : SgB x1 u1.heap.size ro he re := (by rw [← hxx1]; exact SgB.new _ _ _ _ _ _ _ _); have Y1 : Below wr.heap.size wr x1 := bel2 hu1 Bx1; obtain ⟨c0, c1, c2, c3, c4, c5, c6, c7, c8, c9, c10, c11⟩ := hcell x1 (bel2 HY.out Y1); have st2 := hdo x1 Y1))
    go_roundw
    case rel => exact ⟨j + 1, S', A', by simp, by omega, HV', HE', HN'.out.carry (bel2 (bel2 (bel2 (bel2 Y4 hu5) hu6) Y7) hu8), bel2 (bel2 Z6 Y7) hu8⟩
    case measure => simp [vnat]; omega
end Go.Proofs.YtgiddgejlliefaaGreatDoor
