/- The walk of NodeReplies. -/
import Derived.WalkKit
import Derived.ProofKit
import Derived.OpenShut
import Derived.Test.YtekjhcnaabpfmaaGreatDoorJnJ42
namespace Go.Proofs.YtekjhcnaabpfmaaGreatDoor
set_option maxHeartbeats 40000000
set_option maxRecDepth 100000
set_option linter.unusedVariables false
open Go.ChangeShapes Go.WideShapes Go.ChangeAt Go.RowKit Go.Shelf Go.Lib
theorem replies_in (w : World) (a0 : Int) (w0 : (Lit.int .i64 a0).wf = true) (a1 : Int) (w1 : (Lit.int .i64 a1).wf = true) (a2 : Int) (w2 : (Lit.int .i64 a2).wf = true) (ad3 : Option Addr) (cap3 : Nat) (l3 : List OpN) (w3 : RdW w ad3 l3) (hc3 : l3.length ≤ cap3) (hm3 : cap3 ≤ maxLen) (k4 f4 g4 : Int) (N4 : Nat) (ad4 : Option Addr) (cap4 : Nat) (l4 : List (Int × Int × Int)) (hN4 : N4 < S128) (wk4 : (Lit.int .i64 k4).wf = true) (wf4 : (Lit.int .i64 f4).wf = true) (wr4 : (Lit.int .i64 g4).wf = true) (w4 : RdN w ad4 l4) (hc4 : ad4 = none → cap4 = 0) (hq4 : l4.length ≤ cap4) (hL : laidMetH Tryz.prog lay3 w) :
   Calls Tryz.prog 4 #[.int .i64 a0, .int .i64 a1, .int .i64 a2, .slice ad3 l3.length cap3, rnv k4 f4 g4 N4 (.slice ad4 l4.length cap4)] w fun e w' => e = .returned (.bool true) ∧ Below w.heap.size w w' := by
 have hmx := mixO
 obtain ⟨wb, hwb⟩ : ∃ V, w.alloc (.cells #[.int .i64 k4, .int .i64 f4, .int .i64 g4, .int .u32 (wd N4 0 : Nat), .int .u32 (wd N4 1 : Nat), .int .u32 (wd N4 2 : Nat), .int .u32 (wd N4 3 : Nat), .slice ad4 l4.length cap4] 38) = V := ⟨_, rfl⟩
 have Bb : Below w.heap.size w wb := by rw [← hwb]; exact al1' _ _
 have gb : wb.heap[w.heap.size]? = some (.cells #[.int .i64 k4, .int .i64 f4, .int .i64 g4, .int .u32 (wd N4 0 : Nat), .int .u32 (wd N4 1 : Nat), .int .u32 (wd N4 2 : Nat), .int .u32 (wd N4 3 : Nat), .slice ad4 l4.length cap4] 38 (0, 0)) := by rw [← hwb]; exact zna rfl
 have HBb : Hid (Below w.heap.size w wb) := Bb
 have HEw : Hid (Env w) := env_of hL
 have HL4w : Hid (RdN w ad4 l4) := w4
 have hEn := (env_of hL).carry Bb
 clear hL
 unfold rnv
 have hbs := size_of hEn
 have hdn := dnew_any wb
 have hlm : l3.length ≤ maxLen := Nat.le_trans hc3 hm3
 have HEn : Hid (Env wb) := hEn
 have HW : Hid (RdW wb ad3 l3) := w3.carry Bb
 have HL4 : Hid (RdN wb ad4 l4) := w4.carry Bb
 clear w4 hc4
 clear hEn w3 hc3 hm3
 by_cases hv : (1 ≤ a0 ∧ a0 ≤ 100 ∧ 0 ≤ a1 ∧ a1 < a0) ∧ 0 ≤ a2 ∧ a2 < a0
 case neg =>
   obtain ⟨E, hE, hop⟩ := nopen_bad hv (some ⟨wb.heap.size, 0, none⟩)
   clear hv
   go_enter Tryz.func4, Tryz.ntmps4
   go_wp2_with (first
    | (have m := st2; go_at_call 9; (with_reducible refine (nalive_any _).mono ?_); rintro r u4 ⟨rfl, hu4⟩)
    | (have m := st1; go_at_call 6; (with_reducible refine (hop u1).mono ?_); rintro r u2 ⟨rfl, hu2⟩; obtain rfl := hu2.symm; have st2 := True.intro)
    | (go_at_call 7; (with_reducible refine hdn.mono ?_); rintro r u1 ⟨rfl, hD1, hl1, hu1⟩; have st1 := True.intro))
   go_ret
   exact ⟨rfl, bel2 HBb.out (bel2 hu1 hu4)⟩
 obtain ⟨⟨v1, v2, v3, v4⟩, v5, v6⟩ := hv
 obtain ⟨n, rfl⟩ : ∃ n : Nat, a0 = (n : Int) := ⟨a0.toNat, by omega⟩
 obtain ⟨f, rfl⟩ : ∃ f : Nat, a1 = (f : Int) := ⟨a1.toNat, by omega⟩
 obtain ⟨s, rfl⟩ : ∃ s : Nat, a2 = (s : Int) := ⟨a2.toNat, by omega⟩
 have hop : ∀ V, Dk V wb.heap.size d0 → Calls Tryz.prog 6 #[.int .i64 (n : Int), .int .i64 (f : Int), .int .i64 (s : Int), .pointer (some ⟨wb.heap.size, 0, none⟩)] V fun r w' => ∃ x A, r = .returned (.tuple #[.pointer (some ⟨x, 0, none⟩), .int .i64 0]) ∧ Nd w' wb.heap.size x A (s0 n f s) ∧ A.p = wb.heap.size ∧ V.heap.size ≤ x ∧ TpZ wb.heap.size V w' := fun V hV => nopen0 hV (Nat.le_refl _) (by omega) (by omega) (by omega) (by omega)
 have hv0 : Nv 0 (s0 n f s) := Nv.open (by omega) (by omega) (by omega) (by omega)
 have hli : ∀ V, Below wb.heap.size wb V → Calls Tryz.prog 8 #[.slice ad3 l3.length cap3] V fun e w' => e = .returned (.bool (lgt l3)) ∧ w' = V := fun V hV => light_W V ad3 cap3 l3 (HW.out.carry hV) hlm
 have i64n : IntKind.i64.wrap ((n : Int) - (f : Int)) = (n : Int) - (f : Int) := i64_id _ (by omega) (by omega)
 by_cases hlg : lgt l3 = true
 case neg =>
   have hlf : lgt l3 = false := by simpa using hlg
   rw [hlf] at hli
   clear hlg hlf v1 v2 v3 v4 v5 v6
   go_enter Tryz.func4, Tryz.ntmps4
   go_wp2_with (first
    | (have m := st3; go_at_call 9; (with_reducible refine (nalive_any _).mono ?_); rintro r u4 ⟨rfl, hu4⟩)
    | (have m := st2; go_at_call 8; (with_reducible refine st2.mono ?_); rintro r u3 ⟨rfl, hu3⟩; obtain rfl := hu3.symm; have st3 := True.intro)
    | (have m := st1; go_at_call 6; (with_reducible refine st1.mono ?_); rintro r u2 ⟨x, A, rfl, hN2, hA2, hx2, ht2⟩; have Y2 : Below wb.heap.size wb u2 := TpZ.young hu1 ht2 (Nat.le_refl _); have st2 := hli u2 Y2; have q7 : u2.cell? ⟨w.heap.size, 7, none⟩ = some (.slice ad4 l4.length cap4) := (Y2.cell (p := ⟨w.heap.size, 7, none⟩) (zla gb)).trans ((zca gb 7).trans rfl))
    | (go_at_call 7; (with_reducible refine hdn.mono ?_); rintro r u1 ⟨rfl, hD1, hl1, hu1⟩; have st1 := hop u1 hD1))
   go_ret
   exact ⟨rfl, bel2 HBb.out (bel2 Y2 hu4)⟩
 rw [hlg] at hli
 have HLG : Hid (lgt l3 = true) := hlg
 have HV0 : Hid (Nv 0 (s0 n f s)) := hv0
 clear hlg hv0
 by_cases hdl : (l4.length : Int) > 300
 · as_aux_lemma =>
    clear v1 v2 v3 v4 v5 v6
    go_enter Tryz.func4, Tryz.ntmps4
    go_wp2_with (first
     | (have m := st3; go_at_call 9; (with_reducible refine (nalive_any _).mono ?_); rintro r u4 ⟨rfl, hu4⟩)
     | (have m := st2; go_at_call 8; (with_reducible refine st2.mono ?_); rintro r u3 ⟨rfl, hu3⟩; obtain rfl := hu3.symm; have st3 := True.intro)
     | (have m := st1; go_at_call 6; (with_reducible refine st1.mono ?_); rintro r u2 ⟨x, A, rfl, hN2, hA2, hx2, ht2⟩; have Y2 : Below wb.heap.size wb u2 := TpZ.young hu1 ht2 (Nat.le_refl _); have st2 := hli u2 Y2; have q7 : u2.cell? ⟨w.heap.size, 7, none⟩ = some (.slice ad4 l4.length cap4) := (Y2.cell (p := ⟨w.heap.size, 7, none⟩) (zla gb)).trans ((zca gb 7).trans rfl))
     | (go_at_call 7; (with_reducible refine hdn.mono ?_); rintro r u1 ⟨rfl, hD1, hl1, hu1⟩; have st1 := hop u1 hD1))
    go_ret
    exact ⟨rfl, bel2 HBb.out (bel2 Y2 hu4)⟩
 go_enter Tryz.func4, Tryz.ntmps4
 go_wp2_with (first
    | (have m := st2; go_at_call 8; (with_reducible refine st2.mono ?_); rintro r u3 ⟨rfl, hu3⟩; obtain rfl := hu3.symm)
    | (have m := st1; go_at_call 6; (with_reducible refine st1.mono ?_); rintro r u2 ⟨x, A, rfl, hN2, hA2, hx2, ht2⟩; have Y2 : Below wb.heap.size wb u2 := TpZ.young hu1 ht2 (Nat.le_refl _); have st2 := hli u2 Y2; have q7 : u2.cell? ⟨w.heap.size, 7, none⟩ = some (.slice ad4 l4.length cap4) := (Y2.cell (p := ⟨w.heap.size, 7, none⟩) (zla gb)).trans ((zca gb 7).trans rfl))
    | (go_at_call 7; (with_reducible refine hdn.mono ?_); rintro r u1 ⟨rfl, hD1, hl1, hu1⟩; have st1 := hop u1 hD1))
 have HN2 : Hid (Nd u2 wb.heap.size x A (s0 n f s)) := hN2
 have HY2 : Hid (Below wb.heap.size wb u2) := Y2
 have HE2 : Hid ((s0 n f s).n = n ∧ (s0 n f s).f = f ∧ (s0 n f s).s = s) := ⟨rfl, rfl, rfl⟩
 clear hdn hop hli st1 st2 hN2 hA2 hx2 ht2 hD1 hl1 hu1 Y2
 generalize s0 n f s = S0 at HV0 HN2 HE2
 go_loopw [13] (fun i wz => ∃ (j : Nat) (S : Ns) (A : NA), i = .int .i64 j ∧ j ≤ l3.length ∧ Hid (Nv j S) ∧ Hid (S.n = n ∧ S.f = f ∧ S.s = s) ∧ Hid (Nd wz wb.heap.size x A S) ∧ Hid (Below wb.heap.size wb wz)) (fun i _ => l3.length - vnat i)
 case atStart => exact ⟨0, S0, A, rfl, Nat.zero_le _, HV0, HE2, HN2, HY2⟩
 case round =>
   clear HV0 HE2 HN2 HY2
   obtain ⟨j, S, A, rfl, hjl, HV, HE, HN, HY⟩ := hrel
   by_cases hjn : j < l3.length
   case pos =>
    as_aux_lemma =>
     have hji : (j : Int) < (l3.length : Int) := by omega
     obtain ⟨o, hx⟩ : ∃ o, l3[j]? = some o := ⟨_, List.getElem?_eq_getElem hjn⟩
     obtain ⟨hn3, hn8⟩ := lgt_at HLG.out hx
     have HX : Hid (l3[j]? = some o) := hx
     have HN3 : Hid (o.nl.length ≤ 300) := hn3
     clear hx hn3
     obtain ⟨b, off, ea, hbl, c0, c1, c2, c3, c4, c5, c6, c7, c8, c9, c10, c11, hok⟩ := HW.out.at HX.out
     have HBL : Hid (b < wb.heap.size) := hbl
     subst ea
     clear hok hbl c0 c1 c2 c3 c4 c5 c6 c7 c8 c9 c10 c11
     have hcell : ∀ V, Below wb.heap.size wb V → V.cell? ⟨b, off + j * 12, none⟩ = some (.int .i64 o.k) ∧ V.cell? ⟨b, off + j * 12 + 1, none⟩ = some (.int .i64 o.a) ∧ V.cell? ⟨b, off + j * 12 + 2, none⟩ = some (.int .i64 o.b) ∧ V.cell? ⟨b, off + j * 12 + 3, none⟩ = some (.int .i64 o.nk) ∧ V.cell? ⟨b, off + j * 12 + 4, none⟩ = some (.int .i64 o.nf) ∧ V.cell? ⟨b, off + j * 12 + 5, none⟩ = some (.int .i64 o.nr) ∧ V.cell? ⟨b, off + j * 12 + 6, none⟩ = some (.int .u32 (wd o.nN 0 : Nat)) ∧ V.cell? ⟨b, off + j * 12 + 7, none⟩ = some (.int .u32 (wd o.nN 1 : Nat)) ∧ V.cell? ⟨b, off + j * 12 + 8, none⟩ = some (.int .u32 (wd o.nN 2 : Nat)) ∧ V.cell? ⟨b, off + j * 12 + 9, none⟩ = some (.int .u32 (wd o.nN 3 : Nat)) ∧ V.cell? ⟨b, off + j * 12 + 10, none⟩ = some (.slice o.na o.nl.length o.nc) ∧ V.cell? ⟨b, off + j * 12 + 11, none⟩ = some (.slice o.da o.dl.length o.dc) := fun V hV => (by
       have k : ∀ i, V.cell? ⟨b, i, none⟩ = wb.cell? ⟨b, i, none⟩ := fun i => hV.cell (p := ⟨b, i, none⟩) HBL.out
       obtain ⟨b', off', ea, hbl, c0, c1, c2, c3, c4, c5, c6, c7, c8, c9, c10, c11, hok⟩ := HW.out.at HX.out
       obtain ⟨rfl, rfl⟩ : b = b' ∧ off = off' := by simpa using ea
       simp only [k]
       exact ⟨c0, c1, c2, c3, c4, c5, c6, c7, c8, c9, c10, c11⟩)
     have hdo : ∀ V, Below wr.heap.size wr V → Calls Tryz.prog 10 #[.pointer (some ⟨x, 0, none⟩), .int .i64 (n : Int), .agg #[.int .i64 o.k, .int .i64 o.a, .int .i64 o.b, .int .i64 o.nk, .int .i64 o.nf, .int .i64 o.nr, .int .u32 (wd o.nN 0 : Nat), .int .u32 (wd o.nN 1 : Nat), .int .u32 (wd o.nN 2 : Nat), .int .u32 (wd o.nN 3 : Nat), .slice o.na o.nl.length o.nc, .slice o.da o.dl.length o.dc]] V fun r V' => ∃ E S' A', r = .returned (.int .i64 E) ∧ Hid (Nv (j + 1) S') ∧ Hid (S'.n = n ∧ S'.f = f ∧ S'.s = s) ∧ Hid (Nd V' wb.heap.size x A' S') ∧ Mv x A A' V V' := fun V hV => by
       obtain ⟨e1, e2, e3⟩ := HE.out
       have hY := bel2 HY.out hV
       have := do_any (HN.out.carry hV) HV.out (by omega) (HEn.out.carry hY) hbs ((HW.out.op HX.out).carry hY) HN3.out
       rw [e1] at this
       refine this.mono ?_
       rintro r V' ⟨E, S', A', rfl, hdr, hN', hM'⟩
       obtain ⟨g1, g2, g3, g4, g5⟩ := hdr.rnd HV.out (by omega)
       exact ⟨E, S', A', rfl, g1, ⟨g2.trans e1, g3.trans e2, g4.trans e3⟩, hN', hM'⟩
     have st1 := hdo wr (Below.refl _ _)
     obtain ⟨q0, q1, q2, q3, q4, q5, q6, q7, q8, q9, q10, q11⟩ := hcell wr HY.out
     go_wp2_with (go_at_call 10; (with_reducible refine st1.mono ?_); rintro r u3 ⟨E, S', A', rfl, HV', HE', HN', hM3⟩; have Z3 : Below wb.heap.size wb u3 := HY.out.trans (hM3.below HN.out))
     go_roundw
     case rel => exact ⟨j + 1, S', A', by simp, by omega, HV', HE', HN', Z3⟩
     case measure => simp [vnat]; omega
   have hji : ¬ (j : Int) < (l3.length : Int) := by omega
   have hj80 : j ≤ 80 := by have h9 := HLG.out; unfold lgt at h9; rw [Bool.and_eq_true, decide_eq_true_eq] at h9; omega
   have gq := (HY.out.block _ (zla gb)).trans gb
   have q0 : wr.cell? ⟨w.heap.size, 0, none⟩ = some (.int .i64 k4) := (zca gq 0).trans rfl
   have z0 := zta gq 0
   by_cases k2 : k4 = 2
   case pos =>
    subst k2
    go_wp2_with (refine wpList_load_row rfl 38 (.tmp 9) rfl w.heap.size rfl 38 _ (0, 0) _ gq undNt rfl infoNt ?_)
    have HZV : Hid (Below w.heap.size w wr) := bel2 HBb.out HY.out
    have HNV : Hid (Nd wr wb.heap.size x A S) := HN.out
    have HGV : Hid (wr.heap[w.heap.size]? = some (.cells #[.int .i64 2, .int .i64 f4, .int .i64 g4, .int .u32 (wd N4 0 : Nat), .int .u32 (wd N4 1 : Nat), .int .u32 (wd N4 2 : Nat), .int .u32 (wd N4 3 : Nat), .slice ad4 l4.length cap4] 38 (0, 0))) := gq
    have hBl := zla gb
    have hBx : ¬ nown x A w.heap.size := fun e => by have := HN.out.tyown e; omega
    have hLV := HL4w.out.carry HZV.out
    have hbt : Calls Tryz.prog 17 #[.agg #[.int .i64 2, .int .i64 f4, .int .i64 g4, .int .u32 (wd N4 0 : Nat), .int .u32 (wd N4 1 : Nat), .int .u32 (wd N4 2 : Nat), .int .u32 (wd N4 3 : Nat), .slice ad4 l4.length cap4], .int .i64 (n : Int)] wr (BO 2 (n : Int) f4 g4 N4 l4 wr) := rbytes_any 2 (by decide) (n : Int) f4 g4 N4 hN4 (fun e => by cases e) (fun e => absurd rfl e) ad4 cap4 l4 wr hLV (by omega)
    by_cases hf : flt 2 (n : Int) f4 g4 N4 l4 = 0
    case neg =>
     as_aux_lemma =>
       have e0 : (flt 2 (n : Int) f4 g4 N4 l4 != 0) = true := by simpa using hf
       unfold BO at hbt
       generalize flt 2 (n : Int) f4 g4 N4 l4 = E at hbt e0
       go_wp2_with (first
         | (go_at_call 9; (with_reducible refine (nalive_any _).mono ?_); rintro r u4 ⟨rfl, hu4⟩)
         | (go_at_call 17; (with_reducible refine hbt.mono ?_); rintro r u1 ⟨b1, rfl, _, hu1⟩))
       go_ret
       exact ⟨rfl, bel2 (bel2 HZV.out hu1) hu4⟩
    obtain ⟨_, ⟨fr0, fr1⟩, hrd, _, hris⟩ := flt_0 hf
    obtain ⟨fr, rfl⟩ : ∃ fr : Nat, f4 = (fr : Int) := ⟨f4.toNat, by omega⟩
    obtain ⟨rd, rfl⟩ : ∃ rd : Nat, g4 = (rd : Int) := ⟨g4.toNat, by omega⟩
    have hbt2 := hbt.mono (fun _ _ h => BO.ok (kd := 2) (n := n) (fr := fr) (rd := rd) (N := N4) h hf)
    clear hbt hrd hris
    obtain ⟨D, hD⟩ : ∃ D, byt7 2 n fr rd N4 l4 = D := ⟨_, rfl⟩
    by_cases hfs : (fr : Int) = (s : Int)
    case pos =>
     as_aux_lemma =>
       have e1 : ((fr : Int) == (s : Int)) = true := beq_iff_eq.2 hfs
       rw [hD] at hbt2
       clear hfs
       go_wp2_with (first
         | (go_at_call 9; (with_reducible refine (nalive_any _).mono ?_); rintro r u4 ⟨rfl, hu4⟩)
         | (go_at_call 17; (with_reducible refine hbt2.mono ?_); rintro r u1 ⟨a1, c1, rfl, _, hu1⟩; have p1 : u1.cell? ⟨w.heap.size, 1, none⟩ = some (.int .i64 (fr : Int)) := (hu1.cell (p := ⟨w.heap.size, 1, none⟩) (zla HGV.out)).trans ((zca HGV.out 1).trans rfl)))
       go_ret
       exact ⟨rfl, bel2 (bel2 HZV.out hu1) hu4⟩
    have e1 : ((fr : Int) == (s : Int)) = false := beq_eq_false_iff_ne.2 hfs
    have hhq : ∀ (V' : World) (ad : Option Addr) (cap : Nat), Below wr.heap.size wr V' → RdBW V' ad D ∧ D.length ≤ cap → Calls Tryz.prog 14 #[.pointer (some ⟨x, 0, none⟩), .slice ad D.length cap] V' fun r w' => ∃ a c A' S2, r = .returned (.tuple #[.slice a 0 c, .int .i64 0]) ∧ Hid (Nv (j + 1) S2) ∧ Hid (S2.n = n ∧ S2.s = s) ∧ Hid (Nd w' wb.heap.size x A' S2) ∧ Mv x A A' V' w' := fun V' ad cap hV' hr => by
     have h1 := hear_els (HNV.out.carry hV') HV.out (by omega) (HEw.out.carry (bel2 HZV.out hV')) hbs (ad := ad) (cap := cap) (kd := 2) (fr := fr) (rd := rd) (N := N4) (l := l4) (.inl rfl) (fun e => by cases e) (fun e => absurd rfl e) (by rw [HE.out.1]; exact hf) (by rw [HE.out.2.2]; exact hfs) (by rw [HE.out.1, hD]; exact hr.1) (by rw [HE.out.1, hD]; exact hr.2)
     rw [HE.out.1, HE.out.2.2, hD] at h1
     exact h1
    rw [hD] at hbt2
    obtain ⟨mD, hmD⟩ : ∃ m, D.length = m := ⟨_, rfl⟩
    simp only [hmD] at hbt2 hhq
    clear hfs hf hD hmD
    as_aux_lemma =>
     go_wp2_with (first
       | (have m := p0; go_at_call 9; (with_reducible refine (nalive_any _).mono ?_); rintro r u4 ⟨rfl, hu4⟩)
       | (have m := gy3; refine wpList_store_row rfl 42 (.tmp 18) (.tmp 100) rfl u3.heap.size #[.bool true, .int .i64 li, .int .i64 ro, .int .i64 ta, .int .u32 (wd su 0 : Nat), .int .u32 (wd su 1 : Nat), .int .u32 (wd su 2 : Nat), .int .u32 (wd su 3 : Nat), .int .u32 (wd he 0 : Nat), .int .u32 (wd he 1 : Nat), .int .u32 (wd he 2 : Nat), .int .u32 (wd he 3 : Nat), .int .u32 (wd re 0 : Nat), .int .u32 (wd re 1 : Nat), .int .u32 (wd re 2 : Nat), .int .u32 (wd re 3 : Nat), .slice (some ⟨g, 0, none⟩) n c] rfl rfl 42 _ gy3 infoSi rfl (by simp [Value.oneCell']) ?_; obtain ⟨x3, hx3⟩ : ∃ V, y3.setRow u3.heap.size #[.bool true, .int .i64 li, .int .i64 ro, .int .i64 ta, .int .u32 (wd su 0 : Nat), .int .u32 (wd su 1 : Nat), .int .u32 (wd su 2 : Nat), .int .u32 (wd su 3 : Nat), .int .u32 (wd he 0 : Nat), .int .u32 (wd he 1 : Nat), .int .u32 (wd he 2 : Nat), .int .u32 (wd he 3 : Nat), .int .u32 (wd re 0 : Nat), .int .u32 (wd re 1 : Nat), .int .u32 (wd re 2 : Nat), .int .u32 (wd re 3 : Nat), .slice (some ⟨g, 0, none⟩) n c] = V := ⟨_, rfl⟩; have X3 : Below u3.heap.size u3 x3 := (by rw [← hx3]; exact below_setRow By3 (Nat.le_refl _)); rw [hx3]; have GB3 := ((bel2 hu3 X3).block _ (zla GB2)).trans GB2; have p0 : x3.cell? ⟨w.heap.size, 0, none⟩ = some (.int .i64 2) := (zca GB3 0).trans rfl)
       | (have m := st2; go_at_call 11; (with_reducible refine hS1.mono ?_); rintro r u3 ⟨g, c, rfl, hRd, hg1, hg2, hu3⟩; obtain ⟨y3, hy3⟩ : ∃ V, u3.alloc (.cells #[.bool false, .int .i64 0, .int .i64 0, .int .i64 0, .int .u32 0, .int .u32 0, .int .u32 0, .int .u32 0, .int .u32 0, .int .u32 0, .int .u32 0, .int .u32 0, .int .u32 0, .int .u32 0, .int .u32 0, .int .u32 0, .slice none 0 0] 42) = V := ⟨_, rfl⟩; have By3 : Below u3.heap.size u3 y3 := (by rw [← hy3]; exact al1' _ _); have gy3 : y3.heap[u3.heap.size]? = some (.cells #[.bool false, .int .i64 0, .int .i64 0, .int .i64 0, .int .u32 0, .int .u32 0, .int .u32 0, .int .u32 0, .int .u32 0, .int .u32 0, .int .u32 0, .int .u32 0, .int .u32 0, .int .u32 0, .int .u32 0, .int .u32 0, .slice none 0 0] 42 (0, 0)) := (by rw [← hy3]; exact zna rfl))
       | (have m := st1; go_at_call 14; (with_reducible refine (hhq u1 a1 c1 hu1 HB1.out).mono ?_); rintro r u2 ⟨a5, c5, A', S2, rfl, HV2, HE2, HN2, hM2⟩; obtain ⟨li, hli⟩ : ∃ t, S2.b.r.li = t := ⟨_, rfl⟩; obtain ⟨ro, hro⟩ : ∃ t, S2.t.ro = t := ⟨_, rfl⟩; obtain ⟨ta, hta⟩ : ∃ t, S2.b.ta = t := ⟨_, rfl⟩; obtain ⟨su, hsu⟩ : ∃ t, sus S2.l = t := ⟨_, rfl⟩; obtain ⟨he, hhe⟩ : ∃ t, S2.H = t := ⟨_, rfl⟩; obtain ⟨re, hre⟩ : ∃ t, S2.t.reps = t := ⟨_, rfl⟩; have hS1 := sight_ex HN2.out HV2.out hli hro hta hsu hhe hre HE2.out.1; unfold sgA at hS1; have GB2 := (hM2.block _ (zla GB1) hBx).trans GB1; have st2 := True.intro)
       | (go_at_call 17; (with_reducible refine hbt2.mono ?_); rintro r u1 ⟨a1, c1, rfl, HB1, hu1⟩; have GB1 := (hu1.block _ (zla HGV.out)).trans HGV.out; have p1 : u1.cell? ⟨w.heap.size, 1, none⟩ = some (.int .i64 (fr : Int)) := (zca GB1 1).trans rfl; have st1 := True.intro))
     go_ret
     exact ⟨rfl, bel2 (((bel2 HZV.out hu1).trans ((hM2.below (HNV.out.carry hu1)).mono (Nat.le_of_lt hBl))).trans ((bel2 hu3 X3).mono (Nat.le_trans (bel2 HZV.out hu1).size hM2.size))) hu4⟩
   by_cases k3 : k4 = 3
   case pos =>
    subst k3
    have z2 := zta gq 2
    have q2 : wr.cell? ⟨w.heap.size, 2, none⟩ = some (.int .i64 g4) := (zca gq 2).trans rfl
    obtain ⟨V1, hV1⟩ : ∃ V, wr.setCell ⟨w.heap.size, 2, none⟩ (.int .i64 0) = V := ⟨_, rfl⟩
    have G1 : V1.heap[w.heap.size]? = some (.cells #[.int .i64 3, .int .i64 f4, .int .i64 0, .int .u32 (wd N4 0 : Nat), .int .u32 (wd N4 1 : Nat), .int .u32 (wd N4 2 : Nat), .int .u32 (wd N4 3 : Nat), .slice ad4 l4.length cap4] 38 (0, 0)) := by rw [← hV1]; exact heap_setCell_same _ _ _ _ _ _ gq
    have T1 : TpZ w.heap.size wr V1 := by rw [← hV1]; exact TpZ.set _ _ _ _
    have p0 : V1.cell? ⟨w.heap.size, 0, none⟩ = some (.int .i64 3) := (zca G1 0).trans rfl
    go_wp2_with (first | (have m := GV; (refine wpList_load_row rfl 38 (.tmp 9) rfl w.heap.size rfl 38 _ (0, 0) _ GV undNt rfl infoNt ?_)) | (refine wpList_store_inZ rfl 35 (.tmp 77) (.tmp 76) rfl w.heap.size 3 38 [.int .i64 3, .int .i64 f4, .int .i64 0, .int .u32 (wd N4 0 : Nat), .int .u32 (wd N4 1 : Nat), .int .u32 (wd N4 2 : Nat), .int .u32 (wd N4 3 : Nat), .slice ad4 l4.length cap4] [.int .u32 0, .int .u32 0, .int .u32 0, .int .u32 0] rfl rfl G1 (by kernel_rfl) (by simp) (by simp [Value.oneCell']) ?_; obtain ⟨V, hV⟩ : ∃ V, V1.setRow w.heap.size (splice [.int .i64 3, .int .i64 f4, .int .i64 0, .int .u32 (wd N4 0 : Nat), .int .u32 (wd N4 1 : Nat), .int .u32 (wd N4 2 : Nat), .int .u32 (wd N4 3 : Nat), .slice ad4 l4.length cap4] 3 [.int .u32 0, .int .u32 0, .int .u32 0, .int .u32 0]).toArray = V := ⟨_, rfl⟩; have GV : V.heap[w.heap.size]? = some (.cells #[.int .i64 3, .int .i64 f4, .int .i64 0, .int .u32 0, .int .u32 0, .int .u32 0, .int .u32 0, .slice ad4 l4.length cap4] 38 (0, 0)) := (by rw [← hV]; exact setRow_heap _ _ _ _ _ _ G1); have TV0 : TpZ w.heap.size V1 V := (by rw [← hV]; exact TpZ.row _ _ _); rw [hV]; clear hV))
    have TV := T1.trans TV0
    have HZV : Hid (Below w.heap.size w V) := TpZ.young (bel2 HBb.out HY.out) TV (Nat.le_refl _)
    have hBl0 := zla gb
    have HNV : Hid (Nd V wb.heap.size x A S) := HN.out.off TV (fun e => by have := HN.out.tyown e; omega) (by have := HN.out.kb; omega)
    have HGV : Hid (V.heap[w.heap.size]? = some (.cells #[.int .i64 3, .int .i64 f4, .int .i64 0, .int .u32 0, .int .u32 0, .int .u32 0, .int .u32 0, .slice ad4 l4.length cap4] 38 (0, 0))) := GV
    clear G1 T1 p0 hV1 q2 z2 GV TV0 TV
    have hBl := zla gb
    have hBx : ¬ nown x A w.heap.size := fun e => by have := HN.out.tyown e; omega
    have hLV := HL4w.out.carry HZV.out
    have hbt : Calls Tryz.prog 17 #[.agg #[.int .i64 3, .int .i64 f4, .int .i64 0, .int .u32 0, .int .u32 0, .int .u32 0, .int .u32 0, .slice ad4 l4.length cap4], .int .i64 (n : Int)] V (BO 3 (n : Int) f4 0 0 l4 V) := rbytes_any 3 (by decide) (n : Int) f4 0 0 (by decide) (fun _ => rfl) (fun _ => rfl) ad4 cap4 l4 V hLV (by omega)
    by_cases hf : flt 3 (n : Int) f4 0 0 l4 = 0
    case neg =>
     as_aux_lemma =>
       have e0 : (flt 3 (n : Int) f4 0 0 l4 != 0) = true := by simpa using hf
       unfold BO at hbt
       generalize flt 3 (n : Int) f4 0 0 l4 = E at hbt e0
       go_wp2_with (first
         | (go_at_call 9; (with_reducible refine (nalive_any _).mono ?_); rintro r u4 ⟨rfl, hu4⟩)
         | (go_at_call 17; (with_reducible refine hbt.mono ?_); rintro r u1 ⟨b1, rfl, _, hu1⟩))
       go_ret
       exact ⟨rfl, bel2 (bel2 HZV.out hu1) hu4⟩
    obtain ⟨_, ⟨fr0, fr1⟩, hrd, _, hris⟩ := flt_0 hf
    obtain ⟨fr, rfl⟩ : ∃ fr : Nat, f4 = (fr : Int) := ⟨f4.toNat, by omega⟩
    have hbt2 := hbt.mono (fun _ _ h => BO.ok (kd := 3) (n := n) (fr := fr) (rd := 0) (N := 0) h hf)
    clear hbt hrd hris
    obtain ⟨D, hD⟩ : ∃ D, byt7 3 n fr 0 0 l4 = D := ⟨_, rfl⟩
    by_cases hfs : (fr : Int) = (s : Int)
    case pos =>
     as_aux_lemma =>
       have e1 : ((fr : Int) == (s : Int)) = true := beq_iff_eq.2 hfs
       rw [hD] at hbt2
       clear hfs
       go_wp2_with (first
         | (go_at_call 9; (with_reducible refine (nalive_any _).mono ?_); rintro r u4 ⟨rfl, hu4⟩)
         | (go_at_call 17; (with_reducible refine hbt2.mono ?_); rintro r u1 ⟨a1, c1, rfl, _, hu1⟩; have p1 : u1.cell? ⟨w.heap.size, 1, none⟩ = some (.int .i64 (fr : Int)) := (hu1.cell (p := ⟨w.heap.size, 1, none⟩) (zla HGV.out)).trans ((zca HGV.out 1).trans rfl)))
       go_ret
       exact ⟨rfl, bel2 (bel2 HZV.out hu1) hu4⟩
    have e1 : ((fr : Int) == (s : Int)) = false := beq_eq_false_iff_ne.2 hfs
    have hhq : ∀ (V' : World) (ad : Option Addr) (cap : Nat), Below V.heap.size V V' → RdBW V' ad D ∧ D.length ≤ cap → Calls Tryz.prog 14 #[.pointer (some ⟨x, 0, none⟩), .slice ad D.length cap] V' fun r w' => ∃ a c A' S2, r = .returned (.tuple #[.slice a 0 c, .int .i64 0]) ∧ Hid (Nv (j + 1) S2) ∧ Hid (S2.n = n ∧ S2.s = s) ∧ Hid (Nd w' wb.heap.size x A' S2) ∧ Mv x A A' V' w' := fun V' ad cap hV' hr => by
     have h1 := hear_els (HNV.out.carry hV') HV.out (by omega) (HEw.out.carry (bel2 HZV.out hV')) hbs (ad := ad) (cap := cap) (kd := 3) (fr := fr) (rd := 0) (N := 0) (l := l4) (.inr rfl) (fun _ => rfl) (fun _ => rfl) (by rw [HE.out.1]; exact hf) (by rw [HE.out.2.2]; exact hfs) (by rw [HE.out.1, hD]; exact hr.1) (by rw [HE.out.1, hD]; exact hr.2)
     rw [HE.out.1, HE.out.2.2, hD] at h1
     exact h1
    rw [hD] at hbt2
    obtain ⟨mD, hmD⟩ : ∃ m, D.length = m := ⟨_, rfl⟩
    simp only [hmD] at hbt2 hhq
    clear hfs hf hD hmD
    as_aux_lemma =>
     go_wp2_with (first
       | (have m := p0; go_at_call 9; (with_reducible refine (nalive_any _).mono ?_); rintro r u4 ⟨rfl, hu4⟩)
       | (have m := gy3; refine wpList_store_row rfl 42 (.tmp 18) (.tmp 100) rfl u3.heap.size #[.bool true, .int .i64 li, .int .i64 ro, .int .i64 ta, .int .u32 (wd su 0 : Nat), .int .u32 (wd su 1 : Nat), .int .u32 (wd su 2 : Nat), .int .u32 (wd su 3 : Nat), .int .u32 (wd he 0 : Nat), .int .u32 (wd he 1 : Nat), .int .u32 (wd he 2 : Nat), .int .u32 (wd he 3 : Nat), .int .u32 (wd re 0 : Nat), .int .u32 (wd re 1 : Nat), .int .u32 (wd re 2 : Nat), .int .u32 (wd re 3 : Nat), .slice (some ⟨g, 0, none⟩) n c] rfl rfl 42 _ gy3 infoSi rfl (by simp [Value.oneCell']) ?_; obtain ⟨x3, hx3⟩ : ∃ V, y3.setRow u3.heap.size #[.bool true, .int .i64 li, .int .i64 ro, .int .i64 ta, .int .u32 (wd su 0 : Nat), .int .u32 (wd su 1 : Nat), .int .u32 (wd su 2 : Nat), .int .u32 (wd su 3 : Nat), .int .u32 (wd he 0 : Nat), .int .u32 (wd he 1 : Nat), .int .u32 (wd he 2 : Nat), .int .u32 (wd he 3 : Nat), .int .u32 (wd re 0 : Nat), .int .u32 (wd re 1 : Nat), .int .u32 (wd re 2 : Nat), .int .u32 (wd re 3 : Nat), .slice (some ⟨g, 0, none⟩) n c] = V := ⟨_, rfl⟩; have X3 : Below u3.heap.size u3 x3 := (by rw [← hx3]; exact below_setRow By3 (Nat.le_refl _)); rw [hx3]; have GB3 := ((bel2 hu3 X3).block _ (zla GB2)).trans GB2; have p0 : x3.cell? ⟨w.heap.size, 0, none⟩ = some (.int .i64 3) := (zca GB3 0).trans rfl)
       | (have m := st2; go_at_call 11; (with_reducible refine hS1.mono ?_); rintro r u3 ⟨g, c, rfl, hRd, hg1, hg2, hu3⟩; obtain ⟨y3, hy3⟩ : ∃ V, u3.alloc (.cells #[.bool false, .int .i64 0, .int .i64 0, .int .i64 0, .int .u32 0, .int .u32 0, .int .u32 0, .int .u32 0, .int .u32 0, .int .u32 0, .int .u32 0, .int .u32 0, .int .u32 0, .int .u32 0, .int .u32 0, .int .u32 0, .slice none 0 0] 42) = V := ⟨_, rfl⟩; have By3 : Below u3.heap.size u3 y3 := (by rw [← hy3]; exact al1' _ _); have gy3 : y3.heap[u3.heap.size]? = some (.cells #[.bool false, .int .i64 0, .int .i64 0, .int .i64 0, .int .u32 0, .int .u32 0, .int .u32 0, .int .u32 0, .int .u32 0, .int .u32 0, .int .u32 0, .int .u32 0, .int .u32 0, .int .u32 0, .int .u32 0, .int .u32 0, .slice none 0 0] 42 (0, 0)) := (by rw [← hy3]; exact zna rfl))
       | (have m := st1; go_at_call 14; (with_reducible refine (hhq u1 a1 c1 hu1 HB1.out).mono ?_); rintro r u2 ⟨a5, c5, A', S2, rfl, HV2, HE2, HN2, hM2⟩; obtain ⟨li, hli⟩ : ∃ t, S2.b.r.li = t := ⟨_, rfl⟩; obtain ⟨ro, hro⟩ : ∃ t, S2.t.ro = t := ⟨_, rfl⟩; obtain ⟨ta, hta⟩ : ∃ t, S2.b.ta = t := ⟨_, rfl⟩; obtain ⟨su, hsu⟩ : ∃ t, sus S2.l = t := ⟨_, rfl⟩; obtain ⟨he, hhe⟩ : ∃ t, S2.H = t := ⟨_, rfl⟩; obtain ⟨re, hre⟩ : ∃ t, S2.t.reps = t := ⟨_, rfl⟩; have hS1 := sight_ex HN2.out HV2.out hli hro hta hsu hhe hre HE2.out.1; unfold sgA at hS1; have GB2 := (hM2.block _ (zla GB1) hBx).trans GB1; have st2 := True.intro)
       | (go_at_call 17; (with_reducible refine hbt2.mono ?_); rintro r u1 ⟨a1, c1, rfl, HB1, hu1⟩; have GB1 := (hu1.block _ (zla HGV.out)).trans HGV.out; have p1 : u1.cell? ⟨w.heap.size, 1, none⟩ = some (.int .i64 (fr : Int)) := (zca GB1 1).trans rfl; have st1 := True.intro))
     go_ret
     exact ⟨rfl, bel2 (((bel2 HZV.out hu1).trans ((hM2.below (HNV.out.carry hu1)).mono (Nat.le_of_lt hBl))).trans ((bel2 hu3 X3).mono (Nat.le_trans (bel2 HZV.out hu1).size hM2.size))) hu4⟩
   have hkk : k4 = 1 ∨ k4 < 1 ∨ (¬ k4 < 1 ∧ k4 > 3) := by omega
   rcases hkk with rfl | hk | ⟨hk, hk2⟩
   case' inl =>
    go_wp2_with (first | (have m := GV; refine wpList_load_row rfl 38 (.tmp 9) rfl w.heap.size rfl 38 _ (0, 0) _ GV undNt rfl infoNt ?_) | (refine wpList_store_inZ rfl 35 (.tmp 77) (.tmp 76) rfl w.heap.size 3 38 [.int .i64 1, .int .i64 f4, .int .i64 g4, .int .u32 (wd N4 0 : Nat), .int .u32 (wd N4 1 : Nat), .int .u32 (wd N4 2 : Nat), .int .u32 (wd N4 3 : Nat), .slice ad4 l4.length cap4] [.int .u32 0, .int .u32 0, .int .u32 0, .int .u32 0] rfl rfl gq (by kernel_rfl) (by simp) (by simp [Value.oneCell']) ?_; obtain ⟨V, hV⟩ : ∃ V, wr.setRow w.heap.size (splice [.int .i64 1, .int .i64 f4, .int .i64 g4, .int .u32 (wd N4 0 : Nat), .int .u32 (wd N4 1 : Nat), .int .u32 (wd N4 2 : Nat), .int .u32 (wd N4 3 : Nat), .slice ad4 l4.length cap4] 3 [.int .u32 0, .int .u32 0, .int .u32 0, .int .u32 0]).toArray = V := ⟨_, rfl⟩; have GV : V.heap[w.heap.size]? = some (.cells #[.int .i64 1, .int .i64 f4, .int .i64 g4, .int .u32 0, .int .u32 0, .int .u32 0, .int .u32 0, .slice ad4 l4.length cap4] 38 (0, 0)) := (by rw [← hV]; exact setRow_heap _ _ _ _ _ _ gq); have TV0 : TpZ w.heap.size wr V := (by rw [← hV]; exact TpZ.row _ _ _); rw [hV]; clear hV))
    have TV := TV0
   case' inr.inl =>
    obtain ⟨V1, hV1⟩ : ∃ V, wr.setCell ⟨w.heap.size, 0, none⟩ (.int .i64 1) = V := ⟨_, rfl⟩
    have G1 : V1.heap[w.heap.size]? = some (.cells #[.int .i64 1, .int .i64 f4, .int .i64 g4, .int .u32 (wd N4 0 : Nat), .int .u32 (wd N4 1 : Nat), .int .u32 (wd N4 2 : Nat), .int .u32 (wd N4 3 : Nat), .slice ad4 l4.length cap4] 38 (0, 0)) := by rw [← hV1]; exact heap_setCell_same _ _ _ _ _ _ gq
    have T1 : TpZ w.heap.size wr V1 := by rw [← hV1]; exact TpZ.set _ _ _ _
    have p0 : V1.cell? ⟨w.heap.size, 0, none⟩ = some (.int .i64 1) := (zca G1 0).trans rfl
    go_wp2_with (first | (have m := GV; refine wpList_load_row rfl 38 (.tmp 9) rfl w.heap.size rfl 38 _ (0, 0) _ GV undNt rfl infoNt ?_) | (refine wpList_store_inZ rfl 35 (.tmp 77) (.tmp 76) rfl w.heap.size 3 38 [.int .i64 1, .int .i64 f4, .int .i64 g4, .int .u32 (wd N4 0 : Nat), .int .u32 (wd N4 1 : Nat), .int .u32 (wd N4 2 : Nat), .int .u32 (wd N4 3 : Nat), .slice ad4 l4.length cap4] [.int .u32 0, .int .u32 0, .int .u32 0, .int .u32 0] rfl rfl G1 (by kernel_rfl) (by simp) (by simp [Value.oneCell']) ?_; obtain ⟨V, hV⟩ : ∃ V, V1.setRow w.heap.size (splice [.int .i64 1, .int .i64 f4, .int .i64 g4, .int .u32 (wd N4 0 : Nat), .int .u32 (wd N4 1 : Nat), .int .u32 (wd N4 2 : Nat), .int .u32 (wd N4 3 : Nat), .slice ad4 l4.length cap4] 3 [.int .u32 0, .int .u32 0, .int .u32 0, .int .u32 0]).toArray = V := ⟨_, rfl⟩; have GV : V.heap[w.heap.size]? = some (.cells #[.int .i64 1, .int .i64 f4, .int .i64 g4, .int .u32 0, .int .u32 0, .int .u32 0, .int .u32 0, .slice ad4 l4.length cap4] 38 (0, 0)) := (by rw [← hV]; exact setRow_heap _ _ _ _ _ _ G1); have TV0 : TpZ w.heap.size V1 V := (by rw [← hV]; exact TpZ.row _ _ _); rw [hV]; clear hV))
    have TV := T1.trans TV0
    clear G1 T1 p0 hV1 hk
   case' inr.inr =>
    obtain ⟨V1, hV1⟩ : ∃ V, wr.setCell ⟨w.heap.size, 0, none⟩ (.int .i64 1) = V := ⟨_, rfl⟩
    have G1 : V1.heap[w.heap.size]? = some (.cells #[.int .i64 1, .int .i64 f4, .int .i64 g4, .int .u32 (wd N4 0 : Nat), .int .u32 (wd N4 1 : Nat), .int .u32 (wd N4 2 : Nat), .int .u32 (wd N4 3 : Nat), .slice ad4 l4.length cap4] 38 (0, 0)) := by rw [← hV1]; exact heap_setCell_same _ _ _ _ _ _ gq
    have T1 : TpZ w.heap.size wr V1 := by rw [← hV1]; exact TpZ.set _ _ _ _
    have p0 : V1.cell? ⟨w.heap.size, 0, none⟩ = some (.int .i64 1) := (zca G1 0).trans rfl
    go_wp2_with (first | (have m := GV; refine wpList_load_row rfl 38 (.tmp 9) rfl w.heap.size rfl 38 _ (0, 0) _ GV undNt rfl infoNt ?_) | (refine wpList_store_inZ rfl 35 (.tmp 77) (.tmp 76) rfl w.heap.size 3 38 [.int .i64 1, .int .i64 f4, .int .i64 g4, .int .u32 (wd N4 0 : Nat), .int .u32 (wd N4 1 : Nat), .int .u32 (wd N4 2 : Nat), .int .u32 (wd N4 3 : Nat), .slice ad4 l4.length cap4] [.int .u32 0, .int .u32 0, .int .u32 0, .int .u32 0] rfl rfl G1 (by kernel_rfl) (by simp) (by simp [Value.oneCell']) ?_; obtain ⟨V, hV⟩ : ∃ V, V1.setRow w.heap.size (splice [.int .i64 1, .int .i64 f4, .int .i64 g4, .int .u32 (wd N4 0 : Nat), .int .u32 (wd N4 1 : Nat), .int .u32 (wd N4 2 : Nat), .int .u32 (wd N4 3 : Nat), .slice ad4 l4.length cap4] 3 [.int .u32 0, .int .u32 0, .int .u32 0, .int .u32 0]).toArray = V := ⟨_, rfl⟩; have GV : V.heap[w.heap.size]? = some (.cells #[.int .i64 1, .int .i64 f4, .int .i64 g4, .int .u32 0, .int .u32 0, .int .u32 0, .int .u32 0, .slice ad4 l4.length cap4] 38 (0, 0)) := (by rw [← hV]; exact setRow_heap _ _ _ _ _ _ G1); have TV0 : TpZ w.heap.size V1 V := (by rw [← hV]; exact TpZ.row _ _ _); rw [hV]; clear hV))
    have TV := T1.trans TV0
    clear G1 T1 p0 hV1 hk hk2
   all_goals
    clear q0 z0
    have HZV : Hid (Below w.heap.size w V) := TpZ.young (bel2 HBb.out HY.out) TV (Nat.le_refl _)
    have hBl := zla gb
    have hBx : ¬ nown x A w.heap.size := fun e => by have := HN.out.tyown e; omega
    have HNV : Hid (Nd V wb.heap.size x A S) := HN.out.off TV hBx (by have := HN.out.kb; omega)
    have hLV := HL4w.out.carry HZV.out
    have hbt : Calls Tryz.prog 17 #[.agg #[.int .i64 1, .int .i64 f4, .int .i64 g4, .int .u32 0, .int .u32 0, .int .u32 0, .int .u32 0, .slice ad4 l4.length cap4], .int .i64 (n : Int)] V (BO 1 (n : Int) f4 g4 0 l4 V) := rbytes_any 1 (by decide) (n : Int) f4 g4 0 (by decide) (fun e => by cases e) (fun _ => rfl) ad4 cap4 l4 V hLV (by omega)
    have HGV : Hid (V.heap[w.heap.size]? = some (.cells #[.int .i64 1, .int .i64 f4, .int .i64 g4, .int .u32 0, .int .u32 0, .int .u32 0, .int .u32 0, .slice ad4 l4.length cap4] 38 (0, 0))) := GV
    clear gq GV TV hLV TV0 HN
    by_cases hf : flt 1 (n : Int) f4 g4 0 l4 = 0
    case neg =>
     as_aux_lemma =>
       have e0 : (flt 1 (n : Int) f4 g4 0 l4 != 0) = true := by simpa using hf
       unfold BO at hbt
       generalize flt 1 (n : Int) f4 g4 0 l4 = E at hbt e0
       go_wp2_with (first
         | (go_at_call 9; (with_reducible refine (nalive_any _).mono ?_); rintro r u4 ⟨rfl, hu4⟩)
         | (go_at_call 17; (with_reducible refine hbt.mono ?_); rintro r u1 ⟨b1, rfl, _, hu1⟩))
       go_ret
       exact ⟨rfl, bel2 (bel2 HZV.out hu1) hu4⟩
    obtain ⟨_, ⟨fr0, fr1⟩, hrd, _, hris⟩ := flt_0 hf
    obtain ⟨fr, rfl⟩ : ∃ fr : Nat, f4 = (fr : Int) := ⟨f4.toNat, by omega⟩
    obtain ⟨rd, rfl⟩ : ∃ rd : Nat, g4 = (rd : Int) := ⟨g4.toNat, by omega⟩
    have hrd2 : 1 ≤ (rd : Int) ∧ (rd : Int) ≤ 1099511627775 := hrd.resolve_left (by decide)
    have hbt2 := hbt.mono (fun _ _ h => BO.ok h hf)
    clear hbt hrd hris
    obtain ⟨D, hD⟩ : ∃ D, byt7 1 n fr rd 0 l4 = D := ⟨_, rfl⟩
    by_cases hfs : (fr : Int) = (s : Int)
    case pos =>
     as_aux_lemma =>
       have e1 : ((fr : Int) == (s : Int)) = true := beq_iff_eq.2 hfs
       rw [hD] at hbt2
       clear hfs
       go_wp2_with (first
         | (go_at_call 9; (with_reducible refine (nalive_any _).mono ?_); rintro r u4 ⟨rfl, hu4⟩)
         | (go_at_call 17; (with_reducible refine hbt2.mono ?_); rintro r u1 ⟨a1, c1, rfl, _, hu1⟩; have p1 : u1.cell? ⟨w.heap.size, 1, none⟩ = some (.int .i64 (fr : Int)) := (hu1.cell (p := ⟨w.heap.size, 1, none⟩) (zla HGV.out)).trans ((zca HGV.out 1).trans rfl)))
       go_ret
       exact ⟨rfl, bel2 (bel2 HZV.out hu1) hu4⟩
    have e1 : ((fr : Int) == (s : Int)) = false := beq_eq_false_iff_ne.2 hfs
    have hhq : ∀ (V' : World) (ad : Option Addr) (cap : Nat), Below V.heap.size V V' → RdBW V' ad D ∧ D.length ≤ cap → Calls Tryz.prog 14 #[.pointer (some ⟨x, 0, none⟩), .slice ad D.length cap] V' fun r w' => ∃ a c lO A' S2, r = .returned (.tuple #[.slice a 1 c, .int .i64 0]) ∧ Hid (Outs w' V'.heap.size (.slice a 1 c) lO ∧ Outs.say lO = [((fr : Int), dRepB S2 (rd : Int))]) ∧ Hid (Nv (j + 1) S2) ∧ Hid (S2.n = n ∧ S2.s = s) ∧ Hid (Nd w' wb.heap.size x A' S2) ∧ Mv x A A' V' w' := fun V' ad cap hV' hr => by
     have h1 := hear_que (HNV.out.carry hV') HV.out (by omega) (HEw.out.carry (bel2 HZV.out hV')) hbs (ad := ad) (cap := cap) (fr := fr) (rd := rd) (l := l4) (by rw [HE.out.1]; exact hf) (by rw [HE.out.2.2]; exact hfs) (by rw [HE.out.1, hD]; exact hr.1) (by rw [HE.out.1, hD]; exact hr.2)
     rw [HE.out.1, HE.out.2.2, hD] at h1
     exact h1
    rw [hD] at hbt2
    obtain ⟨mD, hmD⟩ : ∃ m, D.length = m := ⟨_, rfl⟩
    have HDm : Hid (D.length = mD) := hmD
    simp only [hmD] at hbt2 hhq
    clear hfs hf hD hmD
    as_aux_lemma =>
     go_wp2_with (first
       | (have m := gy3; refine wpList_store_row rfl 42 (.tmp 18) (.tmp 100) rfl u3.heap.size #[.bool true, .int .i64 li, .int .i64 ro, .int .i64 ta, .int .u32 (wd su 0 : Nat), .int .u32 (wd su 1 : Nat), .int .u32 (wd su 2 : Nat), .int .u32 (wd su 3 : Nat), .int .u32 (wd he 0 : Nat), .int .u32 (wd he 1 : Nat), .int .u32 (wd he 2 : Nat), .int .u32 (wd he 3 : Nat), .int .u32 (wd re 0 : Nat), .int .u32 (wd re 1 : Nat), .int .u32 (wd re 2 : Nat), .int .u32 (wd re 3 : Nat), .slice (some ⟨g, 0, none⟩) n c] rfl rfl 42 _ gy3 infoSi rfl (by simp [Value.oneCell']) ?_; obtain ⟨x3, hx3⟩ : ∃ V, y3.setRow u3.heap.size #[.bool true, .int .i64 li, .int .i64 ro, .int .i64 ta, .int .u32 (wd su 0 : Nat), .int .u32 (wd su 1 : Nat), .int .u32 (wd su 2 : Nat), .int .u32 (wd su 3 : Nat), .int .u32 (wd he 0 : Nat), .int .u32 (wd he 1 : Nat), .int .u32 (wd he 2 : Nat), .int .u32 (wd he 3 : Nat), .int .u32 (wd re 0 : Nat), .int .u32 (wd re 1 : Nat), .int .u32 (wd re 2 : Nat), .int .u32 (wd re 3 : Nat), .slice (some ⟨g, 0, none⟩) n c] = V := ⟨_, rfl⟩; have X3 : Below u3.heap.size u3 x3 := (by rw [← hx3]; exact below_setRow By3 (Nat.le_refl _)); have G3 : x3.heap[u3.heap.size]? = some (.cells (sgA li ro ta su he re (.slice (some ⟨g, 0, none⟩) n c)) 42 (0, 0)) := (by rw [← hx3]; exact setRow_heap _ _ _ _ _ _ gy3); rw [hx3]; have GB3 := ((bel2 hu3 X3).block _ (zla GB2)).trans GB2; have p0 : x3.cell? ⟨w.heap.size, 0, none⟩ = some (.int .i64 1) := (zca GB3 0).trans rfl)
       | (have m := st2; go_at_call 11; (with_reducible refine hS1.mono ?_); rintro r u3 ⟨g, c, rfl, hRd, hg1, hg2, hu3⟩; obtain ⟨y3, hy3⟩ : ∃ V, u3.alloc (.cells #[.bool false, .int .i64 0, .int .i64 0, .int .i64 0, .int .u32 0, .int .u32 0, .int .u32 0, .int .u32 0, .int .u32 0, .int .u32 0, .int .u32 0, .int .u32 0, .int .u32 0, .int .u32 0, .int .u32 0, .int .u32 0, .slice none 0 0] 42) = V := ⟨_, rfl⟩; have By3 : Below u3.heap.size u3 y3 := (by rw [← hy3]; exact al1' _ _); have gy3 : y3.heap[u3.heap.size]? = some (.cells #[.bool false, .int .i64 0, .int .i64 0, .int .i64 0, .int .u32 0, .int .u32 0, .int .u32 0, .int .u32 0, .int .u32 0, .int .u32 0, .int .u32 0, .int .u32 0, .int .u32 0, .int .u32 0, .int .u32 0, .int .u32 0, .slice none 0 0] 42 (0, 0)) := (by rw [← hy3]; exact zna rfl))
       | (have m := st1; go_at_call 14; (with_reducible refine (hhq u1 a1 c1 hu1 HB1.out).mono ?_); rintro r u2 ⟨a5, c5, lO, A', S2, rfl, HO, HV2, HE2, HN2, hM2⟩; obtain ⟨li, hli⟩ : ∃ t, S2.b.r.li = t := ⟨_, rfl⟩; obtain ⟨ro, hro⟩ : ∃ t, S2.t.ro = t := ⟨_, rfl⟩; obtain ⟨ta, hta⟩ : ∃ t, S2.b.ta = t := ⟨_, rfl⟩; obtain ⟨su, hsu⟩ : ∃ t, sus S2.l = t := ⟨_, rfl⟩; obtain ⟨he, hhe⟩ : ∃ t, S2.H = t := ⟨_, rfl⟩; obtain ⟨re, hre⟩ : ∃ t, S2.t.reps = t := ⟨_, rfl⟩; have hS1 := sight_ex HN2.out HV2.out hli hro hta hsu hhe hre HE2.out.1; unfold sgA at hS1; have GB2 := (hM2.block _ (zla GB1) hBx).trans GB1; have st2 := True.intro)
       | (go_at_call 17; (with_reducible refine hbt2.mono ?_); rintro r u1 ⟨a1, c1, rfl, HB1, hu1⟩; have GB1 := (hu1.block _ (zla HGV.out)).trans HGV.out; have p1 : u1.cell? ⟨w.heap.size, 1, none⟩ = some (.int .i64 (fr : Int)) := (zca GB1 1).trans rfl; have st1 := True.intro))
     have HG3 : Hid (x3.heap[u3.heap.size]? = some (.cells (sgA li ro ta su he re (.slice (some ⟨g, 0, none⟩) n c)) 42 (0, 0))) := G3
     have HGB : Hid (x3.heap[w.heap.size]? = some (.cells #[.int .i64 1, .int .i64 (fr : Int), .int .i64 (rd : Int), .int .u32 0, .int .u32 0, .int .u32 0, .int .u32 0, .slice ad4 l4.length cap4] 38 (0, 0))) := GB3
     have HR3 : Hid (RdN x3 (some ⟨g, 0, none⟩) S2.l) := hRd.carry X3
     have HZ3 : Hid (Below w.heap.size w x3) := ((bel2 HZV.out hu1).trans ((hM2.below (HNV.out.carry hu1)).mono (Nat.le_of_lt hBl))).trans ((bel2 hu3 X3).mono (Nat.le_trans (bel2 HZV.out hu1).size hM2.size))
     have hL1 : (askTo 0 0 []).length = 0 := rfl
     obtain ⟨gO, cO, aD, cD, ev, o0, o1, hrB, hcD, hgl⟩ := Outs.get HO.out (k := 0) (t := (fr : Int)) (D := dRepB S2 (rd : Int)) rfl
     simp only [Value.slice.injEq] at ev
     obtain ⟨rfl, _, rfl⟩ := ev
     have o0 : x3.cell? ⟨gO, 0, none⟩ = some (.int .i64 (fr : Int)) := ((bel2 hu3 X3).cell (p := ⟨gO, 0, none⟩) hgl).trans o0
     have o1 : x3.cell? ⟨gO, 1, none⟩ = some (.slice aD (dRepB S2 (rd : Int)).length cD) := ((bel2 hu3 X3).cell (p := ⟨gO, 1, none⟩) hgl).trans o1
     have hgl : gO < x3.heap.size := Nat.lt_of_lt_of_le hgl (bel2 hu3 X3).size
     have hrB := hrB.carry (bel2 hu3 X3)
     have hde := dec_rep HV2.out hrd2
     rw [HE2.out.1, HE2.out.2] at hde
     have HLn : Hid (S2.l.length = n ∧ Bok S2.l ∧ he < S128) := ⟨HV2.out.len.trans HE2.out.1, HV2.out.bok, by rw [← hhe]; exact pow_S128 HV2.out.n2 HV2.out.H⟩
     rw [hhe] at hde
     obtain ⟨D2, hD2⟩ : ∃ D, dRepB S2 (rd : Int) = D := ⟨_, rfl⟩
     have hb2 : BytW D2 := by
       rw [← hD2]
       unfold dRepB fb7
       split
       · exact byt7_byt _ _ _ _ _ _
       · intro x hx; cases hx
     rw [hD2] at o1 hrB hcD hde
     obtain ⟨K, hK0⟩ : ∃ K, (S2.l.filter pNew).length = K := ⟨_, rfl⟩
     have HKn : Hid ((S2.l.filter pNew).length = K) := hK0
     have hdc : ∀ (V : World), Below x3.heap.size x3 V → Calls Tryz.prog 13 #[.slice aD D2.length cD, .int .i64 (n : Int)] V fun r w' => ∃ a c, r = .returned (.tuple #[.iface 62 (.agg #[.int .i64 (s : Int), .int .i64 (rd : Int), .int .u32 (wd he 0 : Nat), .int .u32 (wd he 1 : Nat), .int .u32 (wd he 2 : Nat), .int .u32 (wd he 3 : Nat), .slice a K c]), .int .i64 0]) ∧ Hid (RdN w' a (S2.l.filter pNew)) ∧ Below V.heap.size V w' := fun V h1 => (decode_any aD cD D2 (n : Int) V (hrB.carry h1) hb2 hcD).mono (by
       intro e w' hh
       unfold DcO at hh
       rw [hde] at hh
       obtain ⟨a, c, rfl, hr, hb⟩ := hh
       refine ⟨a, c, ?_, RdN.ofRow hr, hb⟩
       unfold noteV
       rw [if_neg (by decide), if_pos rfl, HKn.out])
     clear st1 st2 m hS1 hRd hg1 hg2 hu3 hy3 By3 gy3 X3 G3 GB3 GB2 GB1 hx3 HO HV2 HE2 HN2 hM2 hli hro hta hsu hhe hre hD2 hb2 hde hrB hcD hK0 p0 p1 hu1 HB1 hhq hbt2 hL1
     obtain ⟨BS, hBS⟩ : ∃ b, u3.heap.size = b := ⟨_, rfl⟩
     simp only [hBS] at HG3 ⊢
     clear hBS
     have lB := zla HGB.out
     rename_i hK
     refine wp_region_any hmx ?_
     refine zwp (fun i__ => ([(.slice (some ⟨gO, 0, none⟩) 1 c5), (.int .i64 1), (.bool false), (.bool false), (.slice (some ⟨gO, 0, none⟩) 1 c5), (.pointer (some ⟨gO, 0, none⟩)), (.pointer (some ⟨gO, 0, none⟩)), (.int .i64 (fr : Int)), (.pointer (some ⟨w.heap.size, 1, none⟩)), (.int .i64 (fr : Int)), (.bool false), (.bool false)] : List Value).getD i__ undef) (fun V => Below x3.heap.size x3 V) (by kernel_rfl) (Below.refl _ _).drew ?_ ?_
     · refine (sqc ?_ (sqc ?_ (sqc ?_ (sqc ?_ (sqc ?_ (sqc ?_ (sqc ?_ (sqc ?_ (sqc ?_ (sqc ?_ (sqc ?_ (sqc ?_ trivial))))))))))))
       · exact zmv rfl trivial _ rfl (by kernel_rfl)
       · exact step_bi rfl trivial _ _ _ [(.slice (some ⟨gO, 0, none⟩) 1 c5)] rfl (by kernel_rfl) (fun cs v hw => rfl)
       · exact zbo rfl trivial _ _ _ _ _ _ _ rfl rfl rfl (fun v hw => neqK_f _ _)
       · exact zmv rfl trivial _ rfl (by kernel_rfl)
       · exact zmv rfl ⟨_, rfl, by kernel_rfl⟩ _ rfl (by kernel_rfl)
       · exact zia rfl ⟨_, rfl, by kernel_rfl⟩ _ _ _ _ _ rfl rfl rfl (fun v hw => idx_o0 gO c5 v)
       · exact zfa rfl ⟨_, rfl, by kernel_rfl⟩ _ _ _ _ rfl rfl (fun v hw => fld_o0 gO v)
       · exact zld rfl ⟨_, rfl, by kernel_rfl⟩ _ _ _ rfl rfl (fun v hw => load_in ((hw.cell (p := ⟨gO, 0, none⟩) hgl).trans o0))
       · exact zfa rfl ⟨_, rfl, by kernel_rfl⟩ _ _ _ _ rfl rfl (fun v hw => fld_nt1 _ v)
       · exact zld rfl ⟨_, rfl, by kernel_rfl⟩ _ _ _ rfl rfl (fun v hw => load_in ((hw.cell (p := ⟨w.heap.size, 1, none⟩) lB).trans ((zca HGB.out 1).trans rfl)))
       · exact zbo rfl ⟨_, rfl, by kernel_rfl⟩ _ _ _ _ _ _ _ rfl rfl rfl (fun v hw => neqK_f _ _)
       · exact step_pick rfl trivial _ _ _ false rfl (by kernel_rfl) (by kernel_rfl)
     intro W hW
     first | refine hK _ _ ?_ | refine (‹∀ (a : Act) (w : World), Code.wp Tryz.prog _ _ a w → _›) _ _ ?_
     simp only [finL, List.getD_cons_zero, List.getD_cons_succ, Nat.zero_add, Nat.reduceAdd, List.setIfInBounds_toArray, List.set_cons_zero, List.set_cons_succ]
     have o1 : W.cell? ⟨gO, 1, none⟩ = some (.slice aD D2.length cD) := (hW.cell (p := ⟨gO, 1, none⟩) hgl).trans o1
     have tp := taP
     clear hK
     have e5 := fun V => eqA HLn.out.2.2 V
     go_wp2_with (first
       | (have m := gy5; refine wpList_store_row rfl 62 (.tmp 21) (.tmp 142) rfl u5.heap.size #[.int .i64 (s : Int), .int .i64 (rd : Int), .int .u32 (wd he 0 : Nat), .int .u32 (wd he 1 : Nat), .int .u32 (wd he 2 : Nat), .int .u32 (wd he 3 : Nat), .slice a6 K c6] rfl rfl 62 _ gy5 infoRp rfl (by simp [Value.oneCell']) ?_; obtain ⟨x5, hx5⟩ : ∃ V, y5.setRow u5.heap.size #[.int .i64 (s : Int), .int .i64 (rd : Int), .int .u32 (wd he 0 : Nat), .int .u32 (wd he 1 : Nat), .int .u32 (wd he 2 : Nat), .int .u32 (wd he 3 : Nat), .slice a6 K c6] = V := ⟨_, rfl⟩; have X5 : Below u5.heap.size u5 x5 := (by rw [← hx5]; exact below_setRow By5 (Nat.le_refl _)); have G5 : x5.heap[u5.heap.size]? = some (.cells #[.int .i64 (s : Int), .int .i64 (rd : Int), .int .u32 (wd he 0 : Nat), .int .u32 (wd he 1 : Nat), .int .u32 (wd he 2 : Nat), .int .u32 (wd he 3 : Nat), .slice a6 K c6] 62 (0, 0)) := (by rw [← hx5]; exact setRow_heap _ _ _ _ _ _ gy5); rw [hx5]; have Y5 : Below x3.heap.size x3 x5 := bel2 hW (bel2 hu5 X5); have g0 : x5.cell? ⟨u5.heap.size, 0, none⟩ = some (.int .i64 (s : Int)) := (zca G5 0).trans rfl; have g1 : x5.cell? ⟨u5.heap.size, 1, none⟩ = some (.int .i64 (rd : Int)) := (zca G5 1).trans rfl; have g2 : x5.cell? ⟨u5.heap.size, 2, none⟩ = some (.int .u32 (wd he 0 : Nat)) := (zca G5 2).trans rfl; have g3 : x5.cell? ⟨u5.heap.size, 3, none⟩ = some (.int .u32 (wd he 1 : Nat)) := (zca G5 3).trans rfl; have g4 : x5.cell? ⟨u5.heap.size, 4, none⟩ = some (.int .u32 (wd he 2 : Nat)) := (zca G5 4).trans rfl; have g5 : x5.cell? ⟨u5.heap.size, 5, none⟩ = some (.int .u32 (wd he 3 : Nat)) := (zca G5 5).trans rfl; have n2 : x5.cell? ⟨w.heap.size, 2, none⟩ = some (.int .i64 (rd : Int)) := (Y5.cell (p := ⟨w.heap.size, 2, none⟩) lB).trans ((zca HGB.out 2).trans rfl); have gS := (Y5.block _ (zla HG3.out)).trans HG3.out; have s8 : x5.cell? ⟨BS, 8, none⟩ = some (.int .u32 (wd he 0 : Nat)) := (zca gS 8).trans rfl; have s9 : x5.cell? ⟨BS, 9, none⟩ = some (.int .u32 (wd he 1 : Nat)) := (zca gS 9).trans rfl; have s10 : x5.cell? ⟨BS, 10, none⟩ = some (.int .u32 (wd he 2 : Nat)) := (zca gS 10).trans rfl; have s11 : x5.cell? ⟨BS, 11, none⟩ = some (.int .u32 (wd he 3 : Nat)) := (zca gS 11).trans rfl)
       | (go_at_call 13; (with_reducible refine (hdc W hW).mono ?_); rintro r u5 ⟨a6, c6, rfl, HN6, hu5⟩; obtain ⟨y5, hy5⟩ : ∃ V, u5.alloc (.cells #[.int .i64 0, .int .i64 0, .int .u32 0, .int .u32 0, .int .u32 0, .int .u32 0, .slice none 0 0] 62) = V := ⟨_, rfl⟩; have By5 : Below u5.heap.size u5 y5 := (by rw [← hy5]; exact al1' _ _); have gy5 : y5.heap[u5.heap.size]? = some (.cells #[.int .i64 0, .int .i64 0, .int .u32 0, .int .u32 0, .int .u32 0, .int .u32 0, .slice none 0 0] 62 (0, 0)) := (by rw [← hy5]; exact zna rfl)))
     have HG5 : Hid (x5.heap[u5.heap.size]? = some (.cells #[.int .i64 (s : Int), .int .i64 (rd : Int), .int .u32 (wd he 0 : Nat), .int .u32 (wd he 1 : Nat), .int .u32 (wd he 2 : Nat), .int .u32 (wd he 3 : Nat), .slice a6 K c6] 62 (0, 0))) := G5
     have HS5 : Hid (x5.heap[BS]? = some (.cells (sgA li ro ta su he re (.slice (some ⟨g, 0, none⟩) n c)) 42 (0, 0))) := gS
     have HR5 : Hid (RdN x5 (some ⟨g, 0, none⟩) S2.l) := HR3.out.carry Y5
     have HN5 : Hid (RdN x5 a6 (S2.l.filter pNew)) := HN6.out.carry X5
     have HZ5 : Hid (Below w.heap.size w x5) := bel2 HZ3.out Y5
     clear hdc o0 o1 hgl hW hu5 By5 gy5 X5 G5 Y5 gS g0 g1 g2 g3 g4 g5 n2 s8 s9 s10 s11 e5 HN6 hx5 hy5 tp lB
     obtain ⟨BR, hBR⟩ : ∃ b, u5.heap.size = b := ⟨_, rfl⟩
     simp only [hBR] at HG5 ⊢
     clear hBR
     go_loopw [23, 24] (fun v i wz => ∃ (jj : Nat), i = .int .i64 jj ∧ jj ≤ n ∧ Hid (wz.ownsRow x5.heap.size 65 3 v (nws S2.l jj).length (fl (nws S2.l jj))) ∧ Hid (Below x5.heap.size x5 wz)) (fun _ i _ => n - vnat i)
     case atStart => exact ⟨0, rfl, Nat.zero_le _, World.ownsRow_nil _ _ _ _, Below.refl _ _⟩
     case round =>
       obtain ⟨jj, rfl, hjn, HRW, HJ⟩ := hrel
       have hgb := (HJ.out.block _ (zla HS5.out)).trans HS5.out
       obtain ⟨r2, r16⟩ := sg_c hgb
       by_cases hjj : jj < n
       case neg =>
         as_aux_lemma =>
           have hji2 : ¬ (jj : Int) < (n : Int) := by omega
           have e9 : nws S2.l jj = S2.l.filter pNew := nws_all (by have := HLn.out.1; omega)
           have hrw := HRW.out
           rw [e9] at hrw
           obtain ⟨a7, c7, rfl⟩ : ∃ a c, u23 = .slice a K c := by
             rcases own_form hrw with ⟨e1, e2⟩ | ⟨g7, c7, e1, _⟩
             · exact ⟨none, 0, by rw [e1, ← HKn.out, e2]⟩
             · exact ⟨_, c7, by rw [e1, HKn.out]⟩
           have hsm : ∀ V, Below wr.heap.size wr V → Calls Tryz.prog 19 #[.slice a6 K c6, .slice a7 K c7] V fun e w' => e = .returned (.bool true) ∧ Below V.heap.size V w' := fun V hV => by
             have h1 := hrw
             rw [show (.slice a7 K c7 : Value) = .slice a7 (S2.l.filter pNew).length c7 by rw [HKn.out]] at h1
             have h2 := same_any a6 a7 c6 c7 (S2.l.filter pNew) V (HN5.out.carry (bel2 HJ.out hV)) ((RdN.ofRow h1).carry hV) (by have := HKn.out; have := nws_len S2.l jj; rw [e9] at this; omega)
             rw [HKn.out] at h2
             exact h2
           go_wp2_with (first
             | (go_at_call 19; (with_reducible refine (hsm u7 hu7).mono ?_); rintro r u8 ⟨rfl, hu8⟩)
             | (go_at_call 9; (with_reducible refine (nalive_any _).mono ?_); rintro r u7 ⟨rfl, hu7⟩; have q6 : u7.cell? ⟨BR, 6, none⟩ = some (.slice a6 K c6) := (zca ((bel2 HJ.out hu7).block _ (zla HG5.out) |>.trans HG5.out) 6).trans rfl))
           go_ret
           exact ⟨rfl, bel2 (bel2 HZ5.out HJ.out) (bel2 hu7 hu8)⟩
       have hji2 : (jj : Int) < (n : Int) := by omega
       obtain ⟨⟨o, t, q⟩, hx⟩ : ∃ y, S2.l[jj]? = some y := ⟨_, List.getElem?_eq_getElem (by have := HLn.out.1; omega)⟩
       obtain rfl : o = (jj : Int) := (HLn.out.2.1 _ _ hx).1
       obtain ⟨lb, nb⟩ := (HR5.out.carry HJ.out).nts (by intro e; rw [e] at hx; simp at hx)
       by_cases hf : t = 0 ∧ q = 1
       case pos =>
         as_aux_lemma =>
           have e8 := nws_no hx (pNew_no hf)
           go_wp2
           rename_i hK
           refine wp_region_any hmx ?_
           refine zwp (fun i__ => ([(.pointer (some ⟨BS, 16, none⟩)), (.slice (some ⟨g, 0, none⟩) n c), (.int .i64 (jj : Int)), (.pointer (some ⟨g, 0 + jj * 3, none⟩)), (nt (jj : Int) t q), (.int .i64 (jj : Int)), (nt (jj : Int) 0 1), (.bool false)] : List Value).getD i__ undef) (fun V => Below wr.heap.size wr V) (by kernel_rfl) (Below.refl _ _).drew ?_ ?_
           · refine (sqc ?_ (sqc ?_ (sqc ?_ (sqc ?_ (sqc ?_ (sqc ?_ (sqc ?_ (sqc ?_ trivial))))))))
             · exact zfa rfl trivial _ _ _ _ rfl rfl (fun v hw => (field_sg v _).1)
             · exact zld rfl trivial _ _ _ rfl rfl (fun v hw => load_nl0 (sg_c ((hw.block _ (zla hgb)).trans hgb)).2)
             · exact zmv rfl trivial _ rfl (by kernel_rfl)
             · exact zia rfl trivial _ _ _ _ _ rfl rfl rfl (fun v hw => idx_n g 0 n c jj hjj v)
             · exact zld rfl trivial _ _ _ rfl rfl (fun v hw => load_at (nb.carry lb hw) hx)
             · exact zmv rfl trivial _ rfl (by kernel_rfl)
             · exact zsc rfl trivial 18 _ _ [(.int .i64 (jj : Int))] rfl (by kernel_rfl) (enters_of Tryz.func18 (by kernel_rfl) rfl) (fun v hw => (fresh_any (jj : Int) v).mono (by rintro e w' ⟨rfl, hb⟩; exact ⟨rfl, bel2 hw hb⟩))
             · exact zbo rfl trivial _ _ _ _ _ _ _ rfl rfl rfl (fun v hw => neqn_s hf)
           intro W hW
           first | refine hK _ _ ?_ | refine (‹∀ (a : Act) (w : World), Code.wp Tryz.prog _ _ a w → _›) _ _ ?_
           simp only [finL, List.getD_cons_zero, List.getD_cons_succ, Nat.zero_add, Nat.reduceAdd, List.setIfInBounds_toArray, List.set_cons_zero, List.set_cons_succ]
           go_wp2
           go_roundw
           case rel => exact ⟨jj + 1, by simp, by omega, by rw [e8]; exact zrb HRW.out hW, bel2 HJ.out hW⟩
           case measure => simp [vnat]; omega
       as_aux_lemma =>
         have e8 := nws_yes hx (pNew_yes hf)
         have hnl := nws_len S2.l jj
         obtain ⟨ic, hic, hz0, hz1, hz2⟩ := info_partsN
         go_wp2
         rename_i hK
         refine wp_region_any hmx ?_
         refine zwp (fun i__ => ([(.pointer (some ⟨BS, 16, none⟩)), (.slice (some ⟨g, 0, none⟩) n c), (.int .i64 (jj : Int)), (.pointer (some ⟨g, 0 + jj * 3, none⟩)), (nt (jj : Int) t q), (.int .i64 (jj : Int)), (nt (jj : Int) 0 1), (.bool true)] : List Value).getD i__ undef) (fun V => Below wr.heap.size wr V) (by kernel_rfl) (Below.refl _ _).drew ?_ ?_
         · refine (sqc ?_ (sqc ?_ (sqc ?_ (sqc ?_ (sqc ?_ (sqc ?_ (sqc ?_ (sqc ?_ trivial))))))))
           · exact zfa rfl trivial _ _ _ _ rfl rfl (fun v hw => (field_sg v _).1)
           · exact zld rfl trivial _ _ _ rfl rfl (fun v hw => load_nl0 (sg_c ((hw.block _ (zla hgb)).trans hgb)).2)
           · exact zmv rfl trivial _ rfl (by kernel_rfl)
           · exact zia rfl trivial _ _ _ _ _ rfl rfl rfl (fun v hw => idx_n g 0 n c jj hjj v)
           · exact zld rfl trivial _ _ _ rfl rfl (fun v hw => load_at (nb.carry lb hw) hx)
           · exact zmv rfl trivial _ rfl (by kernel_rfl)
           · exact zsc rfl trivial 18 _ _ [(.int .i64 (jj : Int))] rfl (by kernel_rfl) (enters_of Tryz.func18 (by kernel_rfl) rfl) (fun v hw => (fresh_any (jj : Int) v).mono (by rintro e w' ⟨rfl, hb⟩; exact ⟨rfl, bel2 hw hb⟩))
           · exact zbo rfl trivial _ _ _ _ _ _ _ rfl rfl rfl (fun v hw => neqn_t hf)
         intro W hW
         first | refine hK _ _ ?_ | refine (‹∀ (a : Act) (w : World), Code.wp Tryz.prog _ _ a w → _›) _ _ ?_
         simp only [finL, List.getD_cons_zero, List.getD_cons_succ, Nat.zero_add, Nat.reduceAdd, List.setIfInBounds_toArray, List.set_cons_zero, List.set_cons_succ]
         have hrowW := zrb HRW.out hW
         have hbw := bel2 HJ.out hW
         have hgW := (hW.block _ (zla hgb)).trans hgb
         obtain ⟨_, w16⟩ := sg_c hgW
         obtain ⟨c0, c1, c2⟩ := (nb.carry lb hW) jj _ hx
         simp only [Nat.zero_add] at c0 c1 c2
         clear hK r2 r16 hgb
         go_wp2_with (at_builtin; refine wpList_append_own_at _ rfl _ _ 36 rfl x5.heap.size 65 ic _ 3 24 Tryz.underlying36 hic hz0 hz1 hz2 rfl (by decide) _ (nws S2.l jj).length (fl (nws S2.l jj)) rfl (hrowW.alloc _) ⟨W.heap.size, 0, none⟩ 1 1 [_, _, _] rfl rfl (rowN _ #[_, _, _] _) (by simp [Value.oneCell']) (by unfold maxLen; omega) (by omega) (Nat.le_trans hbw.size (by simp)) ?_; intro v' w2 hown' hgrow _ hob)
         go_roundw
         case rel =>
           refine ⟨jj + 1, by simp, by omega, ?_, (hbw.alloc hbw.size _).grown hgrow (by have := hbw.size; simp; omega) (fun q hq' => own_block hrowW q hq')⟩
           rw [e8, fl_append, List.length_append]
           exact hown'
         case measure => simp [vnat]; omega
end Go.Proofs.YtekjhcnaabpfmaaGreatDoor
