/- The walk of NodeBooks. -/
import Derived.WalkKit
import Derived.ProofKit
import Derived.OpenShut
import Derived.Test.YtgngopdkfcmndaaGreatDoorJnJ40
namespace Go.Proofs.YtgngopdkfcmndaaGreatDoor
set_option maxHeartbeats 40000000
set_option maxRecDepth 100000
set_option linter.unusedVariables false
open Go.ChangeShapes Go.WideShapes Go.ChangeAt Go.RowKit Go.Shelf Go.Lib
theorem books_in (w : World) (a0 : Int) (w0 : (Lit.int .i64 a0).wf = true) (a1 : Int) (w1 : (Lit.int .i64 a1).wf = true) (a2 : Int) (w2 : (Lit.int .i64 a2).wf = true) (ad3 : Option Addr) (cap3 : Nat) (l3 : List OpN) (w3 : RdW w ad3 l3) (hc3 : l3.length ≤ cap3) (hm3 : cap3 ≤ maxLen) (hL : laidMetH Tryz.prog lay3 w) :
  Calls Tryz.prog 3 #[.int .i64 a0, .int .i64 a1, .int .i64 a2, .slice ad3 l3.length cap3] w fun e w' => e = .returned (.bool true) ∧ Below w.heap.size w w' := by
 have hmx := mixO
 have hEn := env_of hL
 clear hL
 have hbs := size_of hEn
 have hdn := dnew_any w
 have hlm : l3.length ≤ maxLen := Nat.le_trans hc3 hm3
 have HEn : Hid (Env w) := hEn
 have HW : Hid (RdW w ad3 l3) := w3
 clear hEn w3 hc3 hm3
 by_cases hv : (1 ≤ a0 ∧ a0 ≤ 100 ∧ 0 ≤ a1 ∧ a1 < a0) ∧ 0 ≤ a2 ∧ a2 < a0
 case neg =>
  obtain ⟨E, hE, hop⟩ := nopen_bad hv (some ⟨w.heap.size, 0, none⟩)
  clear hv
  go_enter Tryz.func3, Tryz.ntmps3
  go_wp2_with (first
    | (have m := st2; go_at_call 8; (with_reducible refine (nalive_any _).mono ?_); rintro r u4 ⟨rfl, hu4⟩)
    | (have m := st1; go_at_call 5; (with_reducible refine (hop u1).mono ?_); rintro r u2 ⟨rfl, hu2⟩; obtain rfl := hu2.symm; have st2 := True.intro)
    | (go_at_call 6; (with_reducible refine hdn.mono ?_); rintro r u1 ⟨rfl, hD1, hl1, hu1⟩; have st1 := True.intro))
  go_ret
  exact ⟨rfl, bel2 hu1 hu4⟩
 obtain ⟨⟨v1, v2, v3, v4⟩, v5, v6⟩ := hv
 obtain ⟨n, rfl⟩ : ∃ n : Nat, a0 = (n : Int) := ⟨a0.toNat, by omega⟩
 obtain ⟨f, rfl⟩ : ∃ f : Nat, a1 = (f : Int) := ⟨a1.toNat, by omega⟩
 obtain ⟨s, rfl⟩ : ∃ s : Nat, a2 = (s : Int) := ⟨a2.toNat, by omega⟩
 have hop : ∀ V, Dk V w.heap.size d0 → Calls Tryz.prog 5 #[.int .i64 (n : Int), .int .i64 (f : Int), .int .i64 (s : Int), .pointer (some ⟨w.heap.size, 0, none⟩)] V fun r w' => ∃ x A, r = .returned (.tuple #[.pointer (some ⟨x, 0, none⟩), .int .i64 0]) ∧ Nd w' w.heap.size x A (s0 n f s) ∧ A.p = w.heap.size ∧ V.heap.size ≤ x ∧ TpZ w.heap.size V w' := fun V hV => nopen0 hV (Nat.le_refl _) (by omega) (by omega) (by omega) (by omega)
 have hv0 : Nv 0 (s0 n f s) := Nv.open (by omega) (by omega) (by omega) (by omega)
 have hli : ∀ V, Below w.heap.size w V → Calls Tryz.prog 7 #[.slice ad3 l3.length cap3] V fun e w' => e = .returned (.bool (lgt l3)) ∧ w' = V := fun V hV => light_W V ad3 cap3 l3 (HW.out.carry hV) hlm
 have i64n : IntKind.i64.wrap ((n : Int) - (f : Int)) = (n : Int) - (f : Int) := i64_id _ (by omega) (by omega)
 by_cases hlg : lgt l3 = true
 case neg =>
  have hlf : lgt l3 = false := by simpa using hlg
  rw [hlf] at hli
  clear hlg hlf v1 v2 v3 v4 v5 v6
  go_enter Tryz.func3, Tryz.ntmps3
  go_wp2_with (first
    | (have m := st3; go_at_call 8; (with_reducible refine (nalive_any _).mono ?_); rintro r u4 ⟨rfl, hu4⟩)
    | (have m := st2; go_at_call 7; (with_reducible refine st2.mono ?_); rintro r u3 ⟨rfl, hu3⟩; obtain rfl := hu3.symm; have st3 := True.intro)
    | (have m := st1; go_at_call 5; (with_reducible refine st1.mono ?_); rintro r u2 ⟨x, A, rfl, hN2, hA2, hx2, ht2⟩; have Y2 : Below w.heap.size w u2 := TpZ.young hu1 ht2 (Nat.le_refl _); have st2 := hli u2 Y2)
    | (go_at_call 6; (with_reducible refine hdn.mono ?_); rintro r u1 ⟨rfl, hD1, hl1, hu1⟩; have st1 := hop u1 hD1))
  go_ret
  exact ⟨rfl, bel2 Y2 hu4⟩
 rw [hlg] at hli
 have HLG : Hid (lgt l3 = true) := hlg
 have HV0 : Hid (Nv 0 (s0 n f s)) := hv0
 have HO0 : Hid (Ow (s0 n f s)) := Ow.open n f s (by omega)
 obtain ⟨ta0, hta0⟩ : ∃ t, (s0 n f s).b.ta = t := ⟨_, rfl⟩
 obtain ⟨su0, hsu0⟩ : ∃ t, sus (s0 n f s).l = t := ⟨_, rfl⟩
 have hS0 : ∀ V x A, Nd V w.heap.size x A (s0 n f s) → _ := fun V x A h => sight_bk (n := n) h hv0 hta0 hsu0 rfl
 unfold sgA at hS0
 have HQ0 : Hid ((s0 n f s).b.ta = ta0 ∧ sus (s0 n f s).l = su0) := ⟨hta0, hsu0⟩
 clear hta0 hsu0
 clear hlg hv0
 go_enter Tryz.func3, Tryz.ntmps3
 go_wp2_with (first
    | (have m := st3; go_at_call 9; (with_reducible refine st3.mono ?_); rintro r u4 ⟨l4, r4, e4, p4, g0, c0, rfl, hR4, hg1, hg2, hu4⟩; obtain ⟨y4, hxy4⟩ : ∃ V, u4.alloc (.cells #[.bool false, .int .i64 0, .int .i64 0, .int .i64 0, .int .u32 0, .int .u32 0, .int .u32 0, .int .u32 0, .int .u32 0, .int .u32 0, .int .u32 0, .int .u32 0, .int .u32 0, .int .u32 0, .int .u32 0, .int .u32 0, .slice none 0 0] 36) = V := ⟨_, rfl⟩; have By4 : Below u4.heap.size u4 y4 := (by rw [← hxy4]; exact al1' _ _); have gy4 : y4.heap[u4.heap.size]? = some (.cells #[.bool false, .int .i64 0, .int .i64 0, .int .i64 0, .int .u32 0, .int .u32 0, .int .u32 0, .int .u32 0, .int .u32 0, .int .u32 0, .int .u32 0, .int .u32 0, .int .u32 0, .int .u32 0, .int .u32 0, .int .u32 0, .slice none 0 0] 36 (0, 0)) := (by rw [← hxy4]; exact zna rfl))
    | (have m := gy4; refine wpList_store_row rfl 36 (.tmp 11) (.tmp 33) rfl u4.heap.size #[.bool true, .int .i64 l4, .int .i64 r4, .int .i64 ta0, .int .u32 (wd su0 0 : Nat), .int .u32 (wd su0 1 : Nat), .int .u32 (wd su0 2 : Nat), .int .u32 (wd su0 3 : Nat), .int .u32 (wd e4 0 : Nat), .int .u32 (wd e4 1 : Nat), .int .u32 (wd e4 2 : Nat), .int .u32 (wd e4 3 : Nat), .int .u32 (wd p4 0 : Nat), .int .u32 (wd p4 1 : Nat), .int .u32 (wd p4 2 : Nat), .int .u32 (wd p4 3 : Nat), .slice (some ⟨g0, 0, none⟩) n c0] rfl rfl 36 _ gy4 infoSi rfl (by simp [Value.oneCell']) ?_; obtain ⟨x4, hxx4⟩ : ∃ V, y4.setRow u4.heap.size #[.bool true, .int .i64 l4, .int .i64 r4, .int .i64 ta0, .int .u32 (wd su0 0 : Nat), .int .u32 (wd su0 1 : Nat), .int .u32 (wd su0 2 : Nat), .int .u32 (wd su0 3 : Nat), .int .u32 (wd e4 0 : Nat), .int .u32 (wd e4 1 : Nat), .int .u32 (wd e4 2 : Nat), .int .u32 (wd e4 3 : Nat), .int .u32 (wd p4 0 : Nat), .int .u32 (wd p4 1 : Nat), .int .u32 (wd p4 2 : Nat), .int .u32 (wd p4 3 : Nat), .slice (some ⟨g0, 0, none⟩) n c0] = V := ⟨_, rfl⟩; have Bx4 : Below u4.heap.size u4 x4 := (by rw [← hxx4]; exact below_setRow By4 (Nat.le_refl _)); have G4 : BW x4 u4.heap.size ta0 su0 g0 n c0 := (by rw [← hxx4]; exact ⟨_, _, _, _, setRow_heap _ _ _ _ _ _ gy4⟩); rw [hxx4]; clear hxx4 gy4 By4)
    | (have m := st2; go_at_call 7; (with_reducible refine st2.mono ?_); rintro r u3 ⟨rfl, hu3⟩; obtain rfl := hu3.symm; have st3 := hS0 _ _ _ hN2)
    | (have m := st1; go_at_call 5; (with_reducible refine st1.mono ?_); rintro r u2 ⟨x, A, rfl, hN2, hA2, hx2, ht2⟩; have Y2 : Below w.heap.size w u2 := TpZ.young hu1 ht2 (Nat.le_refl _); have st2 := hli u2 Y2)
    | (go_at_call 6; (with_reducible refine hdn.mono ?_); rintro r u1 ⟨rfl, hD1, hl1, hu1⟩; have st1 := hop u1 hD1))
 have Y4 : Below u2.heap.size u2 x4 := bel2 hu4 Bx4
 have HN2 : Hid (Nd x4 w.heap.size x A (s0 n f s)) := hN2.carry Y4
 have HY2 : Hid (Below w.heap.size w x4) := bel2 Y2 Y4
 have HE2 : Hid ((s0 n f s).n = n ∧ (s0 n f s).f = f ∧ (s0 n f s).s = s) := ⟨rfl, rfl, rfl⟩
 have hBw : w.heap.size ≤ u4.heap.size := Nat.le_trans Y2.size hu4.size
 have HG4 : Hid (BW x4 u4.heap.size (s0 n f s).b.ta (sus (s0 n f s).l) g0 n c0 ∧ RdN x4 (some ⟨g0, 0, none⟩) (s0 n f s).l ∧ (¬ nown x A u4.heap.size) ∧ (¬ nown x A g0) ∧ g0 < x4.heap.size) := by
  refine ⟨?_, hR4.carry Bx4, fun e => ?_, fun e => ?_, Nat.lt_of_lt_of_le hg2 Bx4.size⟩
  · rw [HQ0.out.1, HQ0.out.2]; exact G4
  · have := hN2.lt e; have := hu4.size; omega
  · have := hN2.lt e; omega
 clear hdn hop hli st1 st2 st3 hN2 hA2 hx2 ht2 hD1 hl1 hu1 Y2 Y4 hS0 G4 hR4 hg1 hg2 hu4 Bx4 HQ0
 generalize s0 n f s = S0 at HV0 HN2 HE2 HG4 HO0
 obtain ⟨B, hB⟩ : ∃ B, u4.heap.size = B := ⟨_, rfl⟩
 rw [hB] at HG4 hBw
 simp only [hB]
 clear hB
 go_loopw [12] (fun i wz => ∃ (j : Nat) (S : Ns) (A : NA) (g c : Nat), i = .int .i64 j ∧ j ≤ l3.length ∧ Hid (Nv j S) ∧ Hid (Ow S) ∧ Hid (S.n = n ∧ S.f = f ∧ S.s = s) ∧ Hid (Nd wz w.heap.size x A S) ∧ Hid (Below w.heap.size w wz) ∧ Hid (BW wz B S.b.ta (sus S.l) g n c ∧ RdN wz (some ⟨g, 0, none⟩) S.l ∧ (¬ nown x A B) ∧ (¬ nown x A g) ∧ g < wz.heap.size)) (fun i _ => l3.length - vnat i)
 case atStart => exact ⟨0, S0, A, g0, c0, rfl, Nat.zero_le _, HV0, HO0, HE2, HN2, HY2, HG4⟩
 case round =>
  clear HV0 HO0 HE2 HN2 HY2 HG4
  obtain ⟨j, S, A, g, c, rfl, hjl, HV, HO, HE, HN, HY, HG⟩ := hrel
  by_cases hjn : j < l3.length
  case neg =>
    as_aux_lemma =>
      have hji : ¬ (j : Int) < (l3.length : Int) := by omega
      go_wp2_with (go_at_call 8; (with_reducible refine (nalive_any _).mono ?_); rintro r u4 ⟨rfl, hu4⟩)
      go_ret
      exact ⟨rfl, bel2 HY.out hu4⟩
  have hji : (j : Int) < (l3.length : Int) := by omega
  obtain ⟨o, hx⟩ : ∃ o, l3[j]? = some o := ⟨_, List.getElem?_eq_getElem hjn⟩
  obtain ⟨hn3, hn8⟩ := lgt_at HLG.out hx
  have HX : Hid (l3[j]? = some o) := hx
  have HN3 : Hid (o.nl.length ≤ 300) := hn3
  clear hx hn3
  obtain ⟨b, off, ea, hbl, c0, c1, c2, c3, c4, c5, c6, c7, c8, c9, c10, c11, hok⟩ := HW.out.at HX.out
  have HBL : Hid (b < w.heap.size) := hbl
  subst ea
  clear hok hbl c0 c1 c2 c3 c4 c5 c6 c7 c8 c9 c10 c11
  have hcell : ∀ V, Below w.heap.size w V → V.cell? ⟨b, off + j * 12, none⟩ = some (.int .i64 o.k) ∧ V.cell? ⟨b, off + j * 12 + 1, none⟩ = some (.int .i64 o.a) ∧ V.cell? ⟨b, off + j * 12 + 2, none⟩ = some (.int .i64 o.b) ∧ V.cell? ⟨b, off + j * 12 + 3, none⟩ = some (.int .i64 o.nk) ∧ V.cell? ⟨b, off + j * 12 + 4, none⟩ = some (.int .i64 o.nf) ∧ V.cell? ⟨b, off + j * 12 + 5, none⟩ = some (.int .i64 o.nr) ∧ V.cell? ⟨b, off + j * 12 + 6, none⟩ = some (.int .u32 (wd o.nN 0 : Nat)) ∧ V.cell? ⟨b, off + j * 12 + 7, none⟩ = some (.int .u32 (wd o.nN 1 : Nat)) ∧ V.cell? ⟨b, off + j * 12 + 8, none⟩ = some (.int .u32 (wd o.nN 2 : Nat)) ∧ V.cell? ⟨b, off + j * 12 + 9, none⟩ = some (.int .u32 (wd o.nN 3 : Nat)) ∧ V.cell? ⟨b, off + j * 12 + 10, none⟩ = some (.slice o.na o.nl.length o.nc) ∧ V.cell? ⟨b, off + j * 12 + 11, none⟩ = some (.slice o.da o.dl.length o.dc) := fun V hV => (by
    have k : ∀ i, V.cell? ⟨b, i, none⟩ = w.cell? ⟨b, i, none⟩ := fun i => hV.cell (p := ⟨b, i, none⟩) HBL.out
    obtain ⟨b', off', ea, hbl, c0, c1, c2, c3, c4, c5, c6, c7, c8, c9, c10, c11, hok⟩ := HW.out.at HX.out
    obtain ⟨rfl, rfl⟩ : b = b' ∧ off = off' := by simpa using ea
    simp only [k]
    exact ⟨c0, c1, c2, c3, c4, c5, c6, c7, c8, c9, c10, c11⟩)
  obtain ⟨ta, hta⟩ : ∃ t, S.b.ta = t := ⟨_, rfl⟩
  obtain ⟨su, hsu⟩ : ∃ t, sus S.l = t := ⟨_, rfl⟩
  have hG1 : BW wr B ta su g n c := by rw [← hta, ← hsu]; exact HG.out.1
  have HTA : Hid (S.b.ta = ta ∧ sus S.l = su) := ⟨hta, hsu⟩
  clear hta hsu
  have hdo : ∀ V, Below wr.heap.size wr V → Calls Tryz.prog 10 #[.pointer (some ⟨x, 0, none⟩), .int .i64 (n : Int), .agg #[.int .i64 o.k, .int .i64 o.a, .int .i64 o.b, .int .i64 o.nk, .int .i64 o.nf, .int .i64 o.nr, .int .u32 (wd o.nN 0 : Nat), .int .u32 (wd o.nN 1 : Nat), .int .u32 (wd o.nN 2 : Nat), .int .u32 (wd o.nN 3 : Nat), .slice o.na o.nl.length o.nc, .slice o.da o.dl.length o.dc]] V fun r V' => ∃ E S' A', r = .returned (.int .i64 E) ∧ Hid (Ow S' ∧ S.b.ta ≤ S'.b.ta ∧ ∀ i, rkl S.l i ≤ rkl S'.l i) ∧ Hid (Nv (j + 1) S') ∧ Hid (S'.n = n ∧ S'.f = f ∧ S'.s = s) ∧ Hid (Nd V' w.heap.size x A' S') ∧ Mv x A A' V V' := fun V hV => by
    obtain ⟨e1, e2, e3⟩ := HE.out
    have hY := bel2 HY.out hV
    have := do_any (HN.out.carry hV) HV.out (by omega) (HEn.out.carry hY) hbs ((HW.out.op HX.out).carry hY) HN3.out
    rw [e1] at this
    refine this.mono ?_
    rintro r V' ⟨E, S', A', rfl, hdr, hN', hM'⟩
    obtain ⟨g1, g2, g3, g4, g5⟩ := hdr.rnd HV.out (by omega)
    exact ⟨E, S', A', rfl, hdr.books HV.out (by omega) HO.out, g1, ⟨g2.trans e1, g3.trans e2, g4.trans e3⟩, hN', hM'⟩
  have st1 := hdo wr (Below.refl _ _)
  obtain ⟨q0, q1, q2, q3, q4, q5, q6, q7, q8, q9, q10, q11⟩ := hcell wr HY.out
  go_wp2_with (first
    | (have m := st2; go_at_call 9; (with_reducible refine st2.mono ?_); rintro r u4 ⟨l4, r4, e4, p4, g', c', rfl, hR4, hg1, hg2, hu4⟩; obtain ⟨y4, hxy4⟩ : ∃ V, u4.alloc (.cells #[.bool false, .int .i64 0, .int .i64 0, .int .i64 0, .int .u32 0, .int .u32 0, .int .u32 0, .int .u32 0, .int .u32 0, .int .u32 0, .int .u32 0, .int .u32 0, .int .u32 0, .int .u32 0, .int .u32 0, .int .u32 0, .slice none 0 0] 36) = V := ⟨_, rfl⟩; have By4 : Below u4.heap.size u4 y4 := (by rw [← hxy4]; exact al1' _ _); have gy4 : y4.heap[u4.heap.size]? = some (.cells #[.bool false, .int .i64 0, .int .i64 0, .int .i64 0, .int .u32 0, .int .u32 0, .int .u32 0, .int .u32 0, .int .u32 0, .int .u32 0, .int .u32 0, .int .u32 0, .int .u32 0, .int .u32 0, .int .u32 0, .int .u32 0, .slice none 0 0] 36 (0, 0)) := (by rw [← hxy4]; exact zna rfl))
    | (have m := gy4; refine wpList_store_row rfl 36 (.tmp 13) (.tmp 48) rfl u4.heap.size #[.bool true, .int .i64 l4, .int .i64 r4, .int .i64 ta', .int .u32 (wd su' 0 : Nat), .int .u32 (wd su' 1 : Nat), .int .u32 (wd su' 2 : Nat), .int .u32 (wd su' 3 : Nat), .int .u32 (wd e4 0 : Nat), .int .u32 (wd e4 1 : Nat), .int .u32 (wd e4 2 : Nat), .int .u32 (wd e4 3 : Nat), .int .u32 (wd p4 0 : Nat), .int .u32 (wd p4 1 : Nat), .int .u32 (wd p4 2 : Nat), .int .u32 (wd p4 3 : Nat), .slice (some ⟨g', 0, none⟩) n c'] rfl rfl 36 _ gy4 infoSi rfl (by simp [Value.oneCell']) ?_; obtain ⟨x4, hxx4⟩ : ∃ V, y4.setRow u4.heap.size #[.bool true, .int .i64 l4, .int .i64 r4, .int .i64 ta', .int .u32 (wd su' 0 : Nat), .int .u32 (wd su' 1 : Nat), .int .u32 (wd su' 2 : Nat), .int .u32 (wd su' 3 : Nat), .int .u32 (wd e4 0 : Nat), .int .u32 (wd e4 1 : Nat), .int .u32 (wd e4 2 : Nat), .int .u32 (wd e4 3 : Nat), .int .u32 (wd p4 0 : Nat), .int .u32 (wd p4 1 : Nat), .int .u32 (wd p4 2 : Nat), .int .u32 (wd p4 3 : Nat), .slice (some ⟨g', 0, none⟩) n c'] = V := ⟨_, rfl⟩; have Bx4 : Below u4.heap.size u4 x4 := (by rw [← hxx4]; exact below_setRow By4 (Nat.le_refl _)); have G4 : BW x4 u4.heap.size ta' su' g' n c' := (by rw [← hxx4]; exact ⟨_, _, _, _, setRow_heap _ _ _ _ _ _ gy4⟩); rw [hxx4]; clear hxx4 gy4 By4; have Y4 : Below u3.heap.size u3 x4 := bel2 hu4 Bx4; have G5 := G3.carry Y4; obtain ⟨d3, ⟨d4, d5, d6, d7⟩, d16⟩ := G4.c; obtain ⟨f3, ⟨f4, f5, f6, f7⟩, f16⟩ := G5.c)
    | (have m := st1; go_at_call 10; (with_reducible refine st1.mono ?_); rintro r u3 ⟨E, S', A', rfl, HB, HV', HE', HN', hM3⟩; obtain ⟨ta', hta'⟩ : ∃ t, S'.b.ta = t := ⟨_, rfl⟩; obtain ⟨su', hsu'⟩ : ∃ t, sus S'.l = t := ⟨_, rfl⟩; have hle : ¬ (ta' < ta) := (by have h1 := HB.out.2.1; have h2 := HTA.out.1; omega); have G3 := hG1.mv HG.out.2.2.1 hM3; have st2 := sight_bk HN'.out HV'.out hta' hsu' HE'.out.1; unfold sgA at st2; have HTB : Hid (S'.b.ta = ta' ∧ sus S'.l = su') := ⟨hta', hsu'⟩; have HM3 : Hid (Mv x A A' wr u3) := hM3; clear hM3 hta' hsu'))
  have Z4 : Below w.heap.size w x4 := HY.out.trans ((HM3.out.below HN.out).trans (Y4.mono (Nat.le_trans HY.out.size HM3.out.size)))
  have HZ4 : Hid (Below w.heap.size w x4) := Z4
  have HN4 : Hid (Nd x4 w.heap.size x A' S') := HN'.out.carry Y4
  have hBu : B < u3.heap.size := Nat.lt_of_lt_of_le hG1.lt HM3.out.size
  have HRA : Hid (RdN x4 (some ⟨g, 0, none⟩) S.l) := (HG.out.2.1.mvN HG.out.2.2.2.1 HM3.out).carry Y4
  have HRB : Hid (RdN x4 (some ⟨g', 0, none⟩) S'.l) := hR4.carry Bx4
  have HNO : Hid ((¬ nown x A' B) ∧ (¬ nown x A' g') ∧ g' ≠ B ∧ u4.heap.size ≠ B ∧ g' < x4.heap.size) := by
    refine ⟨HM3.out.not HG.out.2.2.1 hG1.lt, fun e => ?_, ?_, ?_, Nat.lt_of_lt_of_le hg2 Bx4.size⟩
    · have := HN'.out.lt e; omega
    · omega
    · have := hu4.size; omega
  have HL : Hid (S.l.length = n ∧ S'.l.length = n ∧ Bok S'.l ∧ sus S'.l = su' ∧ (∀ i, rkl S.l i ≤ rkl S'.l i)) := ⟨HV.out.len.trans HE.out.1, HV'.out.len.trans HE'.out.1, HV'.out.bok, HTB.out.2, HB.out.2.2⟩
  have HOw : Hid (Ow S') := HB.out.1
  have HOw' : Hid (Ow S') := HB.out.1
  have HTC : Hid (S'.b.ta = ta') := HTB.out.1
  have HGA : Hid (BW x4 B ta su g n c) := G5
  have HGB : Hid (BW x4 u4.heap.size ta' su' g' n c') := G4
  clear hcell hdo st1 st2 m hG1 G3 G4 G5 HTA HM3 HN' HN HV HE HO HY HG HB HTB hR4 hg1 hg2 hu4 Y4 Z4 Bx4 hle hBu d3 d4 d5 d6 d7 d16 f3 f4 f5 f6 f7 f16 q0 q1 q2 q3 q4 q5 q6 q7 q8 q9 q10 q11
  obtain ⟨B', hB'⟩ : ∃ b, u4.heap.size = b := ⟨_, rfl⟩
  simp only [hB'] at HGB HNO ⊢
  clear hB'
  go_loopw [14] (fun i wz => ∃ (k : Nat), i = .int .i64 k ∧ k ≤ n ∧ Hid (Below x4.heap.size x4 wz)) (fun i _ => n - vnat i)
  case atStart => exact ⟨0, rfl, Nat.zero_le _, Below.refl _ _⟩
  case round =>
    obtain ⟨k, rfl, hkn, HI⟩ := hrel
    by_cases hk : k < n
    case pos =>
      as_aux_lemma =>
        obtain ⟨z1, z2, z3, z4, z5⟩ := HL.out
        have hki : (k : Int) < (n : Int) := by omega
        obtain ⟨⟨o, t, q⟩, hx⟩ : ∃ y, S.l[k]? = some y := ⟨_, List.getElem?_eq_getElem (by omega)⟩
        obtain ⟨⟨o', t', q'⟩, hy⟩ : ∃ y, S'.l[k]? = some y := ⟨_, List.getElem?_eq_getElem (by omega)⟩
        obtain rfl : o' = (k : Int) := (z3 _ _ hy).1
        have hbt := bt_no hx hy (z5 k)
        have hha := has_su z3 (by omega) hy
        rw [z4] at hha
        have hga := HGA.out.carry HI.out
        have hgb := HGB.out.carry HI.out
        obtain ⟨la, na⟩ := (HRA.out.carry HI.out).nts (by intro e; rw [e] at hx; simp at hx)
        obtain ⟨lb, nb⟩ := (HRB.out.carry HI.out).nts (by intro e; rw [e] at hy; simp at hy)
        go_wp2
        rename_i hK
        refine wp_region_any hmx ?_
        refine zwp (fun i__ => ([(.pointer (some ⟨B, 16, none⟩)), (.slice (some ⟨g, 0, none⟩) n c), (.int .i64 (k : Int)), (.pointer (some ⟨g, 0 + k * 3, none⟩)), (nt o t q), (.pointer (some ⟨B', 16, none⟩)), (.slice (some ⟨g', 0, none⟩) n c'), (.int .i64 (k : Int)), (.pointer (some ⟨g', 0 + k * 3, none⟩)), (nt (k : Int) t' q'), (.bool false), (.bool false), (.pointer (some ⟨B', 16, none⟩)), (.slice (some ⟨g', 0, none⟩) n c'), (.int .i64 (k : Int)), (.pointer (some ⟨g', 0 + k * 3, none⟩)), (.pointer (some ⟨g', 0 + k * 3, none⟩)), (.int .i64 (k : Int)), (.int .i64 (k : Int)), (.bool false), (.bool false), (.bool false), (.pointer (some ⟨B', 4, none⟩)), (sv su'), (.int .i64 (k : Int)), (.bool (decide (q' = 2))), (.pointer (some ⟨B', 16, none⟩)), (.slice (some ⟨g', 0, none⟩) n c'), (.int .i64 (k : Int)), (.pointer (some ⟨g', 0 + k * 3, none⟩)), (.pointer (some ⟨g', 0 + k * 3 + 2, none⟩)), (.int .i64 q'), (.bool (decide (q' = 2))), (.bool false), (.bool false)] : List Value).getD i__ undef) (fun V => Below wr.heap.size wr V) (by kernel_rfl) (Below.refl _ _).drew ?_ ?_
        · refine (sqc ?_ (sqc ?_ (sqc ?_ (sqc ?_ (sqc ?_ (sqc ?_ (sqc ?_ (sqc ?_ (sqc ?_ (sqc ?_ (sqc ?_ (sqc ?_ (sqc ?_ (sqc ?_ (sqc ?_ (sqc ?_ (sqc ?_ (sqc ?_ (sqc ?_ (sqc ?_ (sqc ?_ (sqc ?_ (sqc ?_ (sqc ?_ (sqc ?_ (sqc ?_ (sqc ?_ (sqc ?_ (sqc ?_ (sqc ?_ (sqc ?_ (sqc ?_ (sqc ?_ (sqc ?_ (sqc ?_ trivial)))))))))))))))))))))))))))))))))))
          · exact zfa rfl trivial _ _ _ _ rfl rfl (fun v hw => (field_sg v _).1)
          · exact zld rfl trivial _ _ _ rfl rfl (fun v hw => load_nl0 (hga.carry hw).c.2.2)
          · exact zmv rfl trivial _ rfl (by kernel_rfl)
          · exact zia rfl trivial _ _ _ _ _ rfl rfl rfl (fun v hw => idx_n g 0 n c k hk v)
          · exact zld rfl trivial _ _ _ rfl rfl (fun v hw => load_at (na.carry la hw) hx)
          · exact zfa rfl trivial _ _ _ _ rfl rfl (fun v hw => (field_sg v _).1)
          · exact zld rfl trivial _ _ _ rfl rfl (fun v hw => load_nl0 (hgb.carry hw).c.2.2)
          · exact zmv rfl trivial _ rfl (by kernel_rfl)
          · exact zia rfl trivial _ _ _ _ _ rfl rfl rfl (fun v hw => idx_n g' 0 n c' k hk v)
          · exact zld rfl trivial _ _ _ rfl rfl (fun v hw => load_at (nb.carry lb hw) hy)
          · exact zsc rfl trivial 11 _ _ [(nt o t q), (nt (k : Int) t' q')] rfl (by kernel_rfl) (enters_of Tryz.func11 (by kernel_rfl) rfl) (fun v hw => (beats_any o t q (k : Int) t' q' v).mono (by rintro e w' ⟨rfl, hb⟩; rw [hbt]; exact ⟨rfl, bel2 hw hb⟩))
          · exact zmv rfl trivial _ rfl (by kernel_rfl)
          · exact zfa rfl (by exact ⟨_, rfl, by kernel_rfl⟩) _ _ _ _ rfl rfl (fun v hw => (field_sg v _).1)
          · exact zld rfl (by exact ⟨_, rfl, by kernel_rfl⟩) _ _ _ rfl rfl (fun v hw => load_nl0 (hgb.carry hw).c.2.2)
          · exact zmv rfl (by exact ⟨_, rfl, by kernel_rfl⟩) _ rfl (by kernel_rfl)
          · exact zia rfl (by exact ⟨_, rfl, by kernel_rfl⟩) _ _ _ _ _ rfl rfl rfl (fun v hw => idx_n g' 0 n c' k hk v)
          · exact zfa rfl (by exact ⟨_, rfl, by kernel_rfl⟩) _ _ _ _ rfl rfl (fun v hw => (fld_nn v _ _).1)
          · exact zld rfl (by exact ⟨_, rfl, by kernel_rfl⟩) _ _ _ rfl rfl (fun v hw => load_of (nb.carry lb hw) hy)
          · exact zmv rfl (by exact ⟨_, rfl, by kernel_rfl⟩) _ rfl (by kernel_rfl)
          · exact zbo rfl (by exact ⟨_, rfl, by kernel_rfl⟩) _ _ _ _ _ _ _ rfl rfl rfl (fun v hw => neqK_f _ _)
          · exact step_pick rfl trivial _ _ _ false rfl (by kernel_rfl) (by kernel_rfl)
          · exact zmv rfl trivial _ rfl (by kernel_rfl)
          · exact zfa rfl (by exact ⟨_, rfl, by kernel_rfl⟩) _ _ _ _ rfl rfl (fun v hw => (field_sg v _).2)
          · exact zld rfl (by exact ⟨_, rfl, by kernel_rfl⟩) _ _ _ rfl rfl (fun v hw => load_su (hgb.carry hw).c.2.1)
          · exact zmv rfl (by exact ⟨_, rfl, by kernel_rfl⟩) _ rfl (by kernel_rfl)
          · exact zsc rfl (by exact ⟨_, rfl, by kernel_rfl⟩) 12 _ _ [(sv su'), (.int .i64 (k : Int))] rfl (by kernel_rfl) (enters_of Tryz.func12 (by kernel_rfl) rfl) (fun v hw => (has_any su' (k : Int) v).mono (by rintro e w' ⟨rfl, hb⟩; rw [hha]; exact ⟨rfl, bel2 hw hb⟩))
          · exact zfa rfl (by exact ⟨_, rfl, by kernel_rfl⟩) _ _ _ _ rfl rfl (fun v hw => (field_sg v _).1)
          · exact zld rfl (by exact ⟨_, rfl, by kernel_rfl⟩) _ _ _ rfl rfl (fun v hw => load_nl0 (hgb.carry hw).c.2.2)
          · exact zmv rfl (by exact ⟨_, rfl, by kernel_rfl⟩) _ rfl (by kernel_rfl)
          · exact zia rfl (by exact ⟨_, rfl, by kernel_rfl⟩) _ _ _ _ _ rfl rfl rfl (fun v hw => idx_n g' 0 n c' k hk v)
          · exact zfa rfl (by exact ⟨_, rfl, by kernel_rfl⟩) _ _ _ _ rfl rfl (fun v hw => (fld_nn v _ _).2)
          · exact zld rfl (by exact ⟨_, rfl, by kernel_rfl⟩) _ _ _ rfl rfl (fun v hw => load_nkd (nb.carry lb hw) hy)
          · exact zbo rfl (by exact ⟨_, rfl, by kernel_rfl⟩) _ _ _ _ _ _ _ rfl rfl rfl (fun v hw => bin_eqd _ _ _)
          · exact zbo rfl (by exact ⟨_, rfl, by kernel_rfl⟩) _ _ _ _ _ _ _ rfl rfl rfl (fun v hw => bneq_self _)
          · exact step_pick rfl trivial _ _ _ false rfl (by kernel_rfl) (by kernel_rfl)
        intro W hW
        first | refine hK _ _ ?_ | refine (‹∀ (a : Act) (w : World), Code.wp Tryz.prog _ _ a w → _›) _ _ ?_
        simp only [finL, List.getD_cons_zero, List.getD_cons_succ, Nat.zero_add, Nat.reduceAdd, List.setIfInBounds_toArray, List.set_cons_zero, List.set_cons_succ]
        go_wp2
        go_roundw
        case rel => exact ⟨k + 1, by simp, by omega, bel2 HI.out hW⟩
        case measure => simp [vnat]; omega
    have hki : ¬ (k : Int) < (n : Int) := by omega
    obtain ⟨z1, z2, z3, z4, z5⟩ := HL.out
    obtain ⟨t, q, hs, hc⟩ := HOw.out
    rw [HE'.out.2.2] at hs
    rw [HTC.out] at hc
    have hga := HGA.out.carry HI.out
    have hgb := HGB.out.carry HI.out
    obtain ⟨lb, nb⟩ := (HRB.out.carry HI.out).nts (by intro e; rw [e] at hs; simp at hs)
    obtain ⟨c0, c1, c2⟩ := nb s _ hs
    simp only [Nat.zero_add] at c0 c1 c2
    obtain ⟨d3, d4, d16⟩ := hgb.c
    obtain ⟨x6, hx6⟩ : ∃ V, wr.alloc (.cells #[.int .i64 (s : Int), .int .i64 t, .int .i64 q] 46) = V := ⟨_, rfl⟩
    have B6 : Below wr.heap.size wr x6 := by rw [← hx6]; exact al1' _ _
    have e6 : x6.heap[wr.heap.size]? = some (.cells #[.int .i64 (s : Int), .int .i64 t, .int .i64 q] 46 (0, 0)) := by rw [← hx6]; exact zna rfl
    have e61 : x6.cell? ⟨wr.heap.size, 1, none⟩ = some (.int .i64 t) := (zca e6 1).trans rfl
    have e62 : x6.cell? ⟨wr.heap.size, 2, none⟩ = some (.int .i64 q) := (zca e6 2).trans rfl
    obtain ⟨b3, _, _⟩ := (hgb.carry B6).c
    obtain ⟨li, ro, he, re, h13⟩ := hgb.carry B6
    obtain ⟨li0, ro0, he0, re0, h11⟩ := hga.carry B6
    have hfin : ∀ v8, x6.setRow B (sgA li ro ta' su' he re (.slice (some ⟨g', 0, none⟩) n c')) = v8 → Hid (Nd v8 w.heap.size x A' S') ∧ Hid (Below w.heap.size w v8) ∧ Hid (BW v8 B S'.b.ta (sus S'.l) g' n c' ∧ RdN v8 (some ⟨g', 0, none⟩) S'.l ∧ (¬ nown x A' B) ∧ (¬ nown x A' g') ∧ g' < v8.heap.size) := by
      rintro v8 rfl
      obtain ⟨n1, n2, n3, n4, n5⟩ := HNO.out
      refine ⟨(HN4.out.carry (bel2 HI.out B6)).sg h11 (fun k hk hn => setRow_other hn), below_setRow (bel2 HZ4.out (bel2 HI.out B6)) hBw, ?_, RdN.sg (HRB.out.carry (bel2 HI.out B6)) n3 _, n1, n2, ?_⟩
      · rw [HTC.out, z4]; exact ⟨_, _, _, _, setRow_heap _ _ _ _ _ _ h11⟩
      · rw [size_setRow]; exact Nat.lt_of_lt_of_le n5 (bel2 HI.out B6).size
    have hjn : j + 1 ≤ l3.length := by omega
    clear HN4 HZ4 HNO HRA HRB HGA HGB HI HOw z1 z2 z3 z4 z5 hs lb nb hga hgb e6
    have hsn : (s : Int) < (n : Int) := v6
    rcases hc with ⟨rfl, h2⟩ | ⟨rfl, rfl⟩
    · obtain rfl := h2.symm
      as_aux_lemma =>
        go_wp2_with (first
          | (refine wpList_load_row rfl 36 (.tmp 13) rfl B' rfl 36 _ (0, 0) _ h13 undSi rfl infoSi ?_)
          | (refine wpList_store_row rfl 36 (.tmp 11) (.tmp 133) rfl B (sgA li ro ta' su' he re (.slice (some ⟨g', 0, none⟩) n c')) rfl rfl 36 _ h11 infoSi rfl (by simp [sgA, Value.oneCell']) ?_; obtain ⟨v8, hv8⟩ : ∃ V, x6.setRow B (sgA li ro ta' su' he re (.slice (some ⟨g', 0, none⟩) n c')) = V := ⟨_, rfl⟩; obtain ⟨F1, F2, F3⟩ := hfin v8 hv8; rw [hv8]; clear hv8 hfin))
        go_roundw
        case rel => exact ⟨j + 1, S', A', g', c', by simp, hjn, HV', HOw', HE', F1, F2, F3⟩
        case measure => simp [vnat]; omega
    · as_aux_lemma =>
        go_wp2_with (first
          | (refine wpList_load_row rfl 36 (.tmp 13) rfl B' rfl 36 _ (0, 0) _ h13 undSi rfl infoSi ?_)
          | (refine wpList_store_row rfl 36 (.tmp 11) (.tmp 133) rfl B (sgA li ro ta' su' he re (.slice (some ⟨g', 0, none⟩) n c')) rfl rfl 36 _ h11 infoSi rfl (by simp [sgA, Value.oneCell']) ?_; obtain ⟨v8, hv8⟩ : ∃ V, x6.setRow B (sgA li ro ta' su' he re (.slice (some ⟨g', 0, none⟩) n c')) = V := ⟨_, rfl⟩; obtain ⟨F1, F2, F3⟩ := hfin v8 hv8; rw [hv8]; clear hv8 hfin))
        go_roundw
        case rel => exact ⟨j + 1, S', A', g', c', by simp, hjn, HV', HOw', HE', F1, F2, F3⟩
        case measure => simp [vnat]; omega
end Go.Proofs.YtgngopdkfcmndaaGreatDoor
