/- BagDoubled: at every script and place: a double is alike, behind all others, with a new Id, and both may be turned alone; no condition. -/
import Derived.Test.YtenahcdmdhlieaaRows
import Derived.WalkKit
import Derived.ProofKit
import Derived.OpenShut
import Derived.Test.YtenahcdmdhlieaaBgp
import Derived.Test.YtenahcdmdhlieaaOpo
namespace Go.Proofs.Ytenahcdmdhlieaa
open Go.ChangeShapes Go.WideShapes Go.ChangeAt Go.RowKit
set_option linter.unusedVariables false

theorem laidOut : laidOutB Try.prog = true := by kernel_rfl
theorem own : ownKnob Try.prog.godebug = none := by kernel_rfl
open Go.Shelf Go.Lib
theorem sp_keeps {l : List Gr} {n : Nat} {at_ b : Int} {k : Nat} {x : Gr} (h : l[k]? = some x) (hn : k ≠ n) : (sSp l (n : Int) at_ b).2[k]? = some x := by
  unfold sSp
  split
  · split
    · dsimp only
      rw [Int.toNat_natCast, List.getElem?_set_ne (Ne.symm hn)]
      exact h
    · exact h
  · exact h
set_option maxHeartbeats 8000000 in
set_option maxRecDepth 100000 in
theorem walk (w : World) (ad0 : Option Addr) (cap0 : Nat) (l0 : List Op6) (w0 : RdO w w.heap.size ad0 l0) (hc0 : l0.length ≤ cap0) (hm0 : cap0 ≤ maxLen) (a1 : Int) (w1 : (Lit.int .i64 a1).wf = true) :
    Calls Try.prog 6 #[.slice ad0 l0.length cap0, .int .i64 a1] w fun e w' => e = .returned (.bool true) ∧ Below w.heap.size w w' := by
  have hne := new_ok 200 w (by decide) (by decide)
  have hal := alive_any
  by_cases hlg : lgt l0 = true
  case neg =>
    have hlg2 : lgt l0 = false := by simpa using hlg
    go_enter Try.func6, Try.ntmps6
    go_wp2_with (first | (go_at_call 9; (with_reducible refine hne.mono ?_); rintro e u1 ⟨rfl, hB1, hb1⟩; have hli := light_any ad0 cap0 l0 u1 (w0.carry hb1); rw [hlg2] at hli) | (go_at_call 7; (with_reducible refine hli.mono ?_); rintro e u2 ⟨rfl, rfl⟩) | (go_at_call 8; (with_reducible refine (hal _).mono ?_); rintro e u3 ⟨rfl, hb3⟩))
    go_ret
    exact ⟨rfl, bel2 hb1 hb3⟩
  have hn150 : l0.length ≤ 150 := (of_decide_eq_true hlg).1
  have hri := rst_ri (room := 200) (by decide) l0
  have hrl := rst_le 200 l0
  obtain ⟨q, hq⟩ : ∃ q, rst 200 0 [] l0 = q := ⟨_, rfl⟩
  rw [hq] at hri hrl
  obtain ⟨m, t, la, l⟩ := q
  have hla := hri.la
  have hct := hri.ct
  dsimp only at hla hct hrl
  have hla0 : 0 ≤ la := by omega
  have hla1 : la < 4611686018427387904 := by omega
  by_cases hi : 0 ≤ a1 ∧ a1 < (l.length : Int)
  case neg =>
    have hs1 := sAt_no hi
    have hs2 := sDb_no (room := 200) (last := la) hi
    have HLA : Hid (la = (m : Int)) := hla
    have HCT : Hid (l.length + t = m) := hct
    clear hla hct
    go_enter Try.func6, Try.ntmps6
    go_wp2_with (first | (go_at_call 9; (with_reducible refine hne.mono ?_); rintro e u1 ⟨rfl, hB1, hb1⟩; have hO1 := w0.carry hb1; have hli := light_any ad0 cap0 l0 u1 hO1; rw [hlg] at hli; have hru := run_any hB1 (by decide) (by decide) ad0 cap0 l0 hO1 hn150; rw [hq] at hru; dsimp only at hru) | (go_at_call 7; (with_reducible refine hli.mono ?_); rintro e u2 ⟨rfl, rfl⟩) | (go_at_call 10; (with_reducible refine hru.mono ?_); rintro e u2 ⟨rfl, ad2, cap2, ps2, hB2, hT2⟩; have hat := at_any hB2 a1; rw [hs1] at hat; unfold gV g0 at hat; dsimp only [List.length_nil] at hat) | (go_at_call 16; (with_reducible refine hat.mono ?_); rintro e u3 ⟨a3, c3, rfl, ho3, hb3⟩; obtain ⟨v3, hv3⟩ : ∃ v3, u3.alloc (.cells #[.int .i64 0, .int .i64 0, .int .i64 0, .slice a3 0 c3] 37) = v3 := ⟨_, rfl⟩; have hbv3 : Below u3.heap.size u3 v3 := (by rw [← hv3]; exact al1' _ _); have hB3 := (hB2.carry hb3).carry hbv3; have hdb := double_any hB3 a1 hla0 hla1; rw [hs2] at hdb; dsimp only at hdb) | (go_at_call 19; (with_reducible refine hdb.mono ?_); rintro e u4 ⟨rfl, ad4, cap4, ps4, hB4, hT4⟩) | (go_at_call 8; (with_reducible refine (hal _).mono ?_); rintro e u5 ⟨rfl, hb5⟩))
    go_ret
    refine ⟨rfl, ?_⟩
    have k1 : Below w.heap.size w u2 := hb1.trans (hB1.below hT2)
    exact bel2 ((bel2 (bel2 k1 hb3) hbv3).trans (hB3.below hT4)) hb5
  obtain ⟨k, rfl⟩ := Int.eq_ofNat_of_zero_le hi.1
  have hkl : k < l.length := by omega
  obtain ⟨⟨xi, xf, xt, xd⟩, hx⟩ : ∃ x, l[k]? = some x := ⟨_, List.getElem?_eq_getElem hkl⟩
  have hxm := List.mem_of_getElem? hx
  have hid := (hri.id _ hxm).2
  have hdt := hri.dt _ hxm
  dsimp only at hid hdt
  have hgt : la + 1 > xi := by omega
  have hs1 := sAt_ok hx
  have hs2 : sDb 200 la l (k : Int) = (la + 1, 0, la + 1, l ++ [(la + 1, xf, xt, xd)]) := by
    rw [sDb_ok hx]
    exact if_neg (by omega)
  have hyn : (l ++ [(la + 1, xf, xt, xd)])[l.length]? = some (la + 1, xf, xt, xd) := by simp
  have hs3 := sAt_ok hyn
  have hlen : ((l ++ [(la + 1, xf, xt, xd)]).length : Int) = (l.length : Int) + 1 := by simp
  obtain ⟨L2, hL2⟩ : ∃ L2, (sSp (l ++ [(la + 1, xf, xt, xd)]) (l.length : Int) 0 255).2 = L2 := ⟨_, rfl⟩
  have hx2 : L2[k]? = some (xi, xf, xt, xd) := by
    rw [← hL2]
    exact sp_keeps (by rw [List.getElem?_append_left hkl]; exact hx) (by omega)
  have hs4 := sAt_ok hx2
  obtain ⟨E2, hE2⟩ : ∃ E2, (sSp (l ++ [(la + 1, xf, xt, xd)]) (l.length : Int) 0 255).1 = E2 := ⟨_, rfl⟩
  have hn151 : (l.length : Int) ≤ 150 := by omega
  have HLE : Hid (((l ++ [(la + 1, xf, xt, xd)]).length : Int) = (l.length : Int) + 1) := hlen
  have HL2 : Hid ((sSp (l ++ [(la + 1, xf, xt, xd)]) (l.length : Int) 0 255).2 = L2) := hL2
  have HE2 : Hid ((sSp (l ++ [(la + 1, xf, xt, xd)]) (l.length : Int) 0 255).1 = E2) := hE2
  clear hla hct hx hi hxm hyn hlen hL2 hE2 hx2 hrl
  go_enter Try.func6, Try.ntmps6
  go_wp2_with (first | (go_at_call 9; (with_reducible refine hne.mono ?_); rintro e u1 ⟨rfl, hB1, hb1⟩; have hO1 := w0.carry hb1; have hli := light_any ad0 cap0 l0 u1 hO1; rw [hlg] at hli; have hru := run_any hB1 (by decide) (by decide) ad0 cap0 l0 hO1 hn150; rw [hq] at hru; dsimp only at hru) | (go_at_call 7; (with_reducible refine hli.mono ?_); rintro e u2 ⟨rfl, rfl⟩) | (go_at_call 10; (with_reducible refine hru.mono ?_); rintro e u2 ⟨rfl, ad2, cap2, ps2, hB2, hT2⟩; have hat := at_any hB2 (k : Int); rw [hs1] at hat; unfold gV at hat; dsimp only at hat) | (go_at_call 16; (with_reducible refine hat.mono ?_); rintro e u3 ⟨a3, c3, rfl, ho3, hb3⟩; obtain ⟨v3, hv3⟩ : ∃ v3, u3.alloc (.cells #[.int .i64 xi, .int .i64 xf, .int .i64 xt, .slice a3 xd.length c3] 37) = v3 := ⟨_, rfl⟩; have hbv3 : Below u3.heap.size u3 v3 := (by rw [← hv3]; exact al1' _ _); have hG3 : GB v3 u3.heap.size xi xf xt (.slice a3 xd.length c3) := (by rw [← hv3]; exact new_at rfl); have hd3 := (RdY.own ho3).carry hbv3; have hB3 := (hB2.carry hb3).carry hbv3; have hdb := double_any hB3 (k : Int) hla0 hla1; rw [hs2] at hdb; dsimp only at hdb; clear hat) | (go_at_call 19; (with_reducible refine hdb.mono ?_); rintro e u4 ⟨rfl, ad4, cap4, ps4, hB4, hT4⟩; have hV4 := hB3.sv hT4; have hG4 := hV4.gb hG3; have hd4 := hV4.rd hd3; have hln := blen_any hB4; rw [HLE.out] at hln; have hat2 := at_any hB4 (l.length : Int); rw [hs3] at hat2; unfold gV at hat2; dsimp only at hat2) | (go_at_call 12; (with_reducible refine hln.mono ?_); rintro e u5 ⟨rfl, rfl⟩) | (go_at_call 16; (with_reducible refine hat2.mono ?_); rintro e u6 ⟨a6, c6, rfl, ho6, hb6⟩; obtain ⟨v6, hv6⟩ : ∃ v6, u6.alloc (.cells #[.int .i64 (la + 1), .int .i64 xf, .int .i64 xt, .slice a6 xd.length c6] 37) = v6 := ⟨_, rfl⟩; have hbv6 : Below u6.heap.size u6 v6 := (by rw [← hv6]; exact al1' _ _); have hG6 : GB v6 u6.heap.size (la + 1) xf xt (.slice a6 xd.length c6) := (by rw [← hv6]; exact new_at rfl); have hd6 := (RdY.own ho6).carry hbv6; have hG6' := (hG4.carry hb6).carry hbv6; have hd6' := (hd4.carry hb6).carry hbv6; have hB6 := (hB4.carry hb6).carry hbv6; have hsp := spoil_any hB6 (l.length : Int) 0 255; rw [HL2.out, HE2.out] at hsp; clear hat2) | (go_at_call 18; (with_reducible refine hsp.mono ?_); rintro e u7 ⟨rfl, ad7, cap7, ps7, hB7, hT7⟩; have hV7 := hB6.sv hT7; have hG7 := hV7.gb hG6; have hd7 := hV7.rd hd6; have hG7' := hV7.gb hG6'; have hd7' := hV7.rd hd6'; have hat3 := at_any hB7 (k : Int); rw [hs4] at hat3; unfold gV at hat3; dsimp only at hat3) | (go_at_call 16; (with_reducible refine hat3.mono ?_); rintro e u8 ⟨a8, c8, rfl, ho8, hb8⟩; obtain ⟨v8, hv8⟩ : ∃ v8, u8.alloc (.cells #[.int .i64 xi, .int .i64 xf, .int .i64 xt, .slice a8 xd.length c8] 37) = v8 := ⟨_, rfl⟩; have hbv8 : Below u8.heap.size u8 v8 := (by rw [← hv8]; exact al1' _ _); have hG8 : GB v8 u8.heap.size xi xf xt (.slice a8 xd.length c8) := (by rw [← hv8]; exact new_at rfl); have hd8 := (RdY.own ho8).carry hbv8; have hbb8 := bel2 hb8 hbv8) | (go_at_call 8; (with_reducible refine (hal _).mono ?_); rintro e u9 ⟨rfl, hb9⟩; have hG9 := hG8.carry hb9; have hd9 := hd8.carry hb9; have hbb9 := bel2 hbb8 hb9; have hGa := hG7.carry hbb9; have hda := hd7.carry hbb9; have hGb := hG7'.carry hbb9; have hdb9 := hd7'.carry hbb9; have p0 := hGa.c0; have p1 := hGa.c1; have p2 := hGa.c2; have p3 := hGa.c3; have r0 := hGb.c0; have r1 := hGb.c1; have r2 := hGb.c2; have r3 := hGb.c3; have s0 := hG9.c0; have s1 := hG9.c1; have s2 := hG9.c2; have s3 := hG9.c3; have hsb := sameB_yes a6 a3 c6 c3 xd u9 hda.rd hdb9.rd (by omega)) | (go_at_call 20; (with_reducible refine hsb.mono ?_); rintro e u10 ⟨rfl, hb10⟩; have x0 := (hb10.cell (p := ⟨u3.heap.size, 0, none⟩) (lt_at hGb)).trans r0; have x1 := (hb10.cell (p := ⟨u3.heap.size, 1, none⟩) (lt_at hGb)).trans r1; have x2 := (hb10.cell (p := ⟨u3.heap.size, 2, none⟩) (lt_at hGb)).trans r2; have x3 := (hb10.cell (p := ⟨u3.heap.size, 3, none⟩) (lt_at hGb)).trans r3; have y0 := (hb10.cell (p := ⟨u8.heap.size, 0, none⟩) (lt_at hG9)).trans s0; have y1 := (hb10.cell (p := ⟨u8.heap.size, 1, none⟩) (lt_at hG9)).trans s1; have y2 := (hb10.cell (p := ⟨u8.heap.size, 2, none⟩) (lt_at hG9)).trans s2; have y3 := (hb10.cell (p := ⟨u8.heap.size, 3, none⟩) (lt_at hG9)).trans s3; have hsg := sameG_yes (xi, xf, xt, xd) a8 a3 c8 c3 u10 (hd9.carry hb10).rd (hdb9.carry hb10).rd (by show xd.length ≤ _; omega); unfold gV at hsg; dsimp only at hsg) | (go_at_call 17; (with_reducible refine hsg.mono ?_); rintro e u11 ⟨rfl, hb11⟩))
  go_ret
  refine ⟨rfl, ?_⟩
  have k1 : Below w.heap.size w u2 := hb1.trans (hB1.below hT2)
  have k2 := (bel2 (bel2 k1 hb3) hbv3).trans (hB3.below hT4)
  have k3 := (bel2 (bel2 k2 hb6) hbv6).trans (hB6.below hT7)
  exact bel2 (bel2 (bel2 (bel2 (bel2 k3 hb8) hbv8) hb9) hb10) hb11

set_option maxRecDepth 100000 in
theorem lifted (os : Os) (started : os.Started) (H : Type) (enc : TypeId × Value → H) :
    ReturnsInHanded {} Try.checked os 6 .any (Rows.bagDoubledSpec.pre6 enc Try.prog Try.f6 Rows.bagDoubledRow.domain false) (Rows.bagDoubledSpec.post enc Try.prog Try.f6 false true false false) := by
  refine returnsInHanded_of_change (C := Try.checked) own started (by kernel_rfl) Try.func6
    (ChangeSpec.witness6 (enc := enc) (C := Try.checked) false ⟨#[], #[.slice none 0 0, .int .i64 0], []⟩ 8 (by kernel_rfl) (by kernel_rfl) (by kernel_rfl) (by kernel_rfl)) ?_
  intro W base args ds gs before hval0 hW hcnd _
  have hval : ∀ (j : Nat) t v, Try.f6.params[j]? = some t → args[j]? = some v → Value.okWide Try.prog W .any base t v := hval0
  have hW' := hW
  obtain ⟨p, q, hA0, hV, rfl, hfz, hnd⟩ := hW
  have hA : DataW.TrodAll enc Try.prog W 0 (fun _ => true) true Try.f6.params.toList args.toList ds p := hA0
  rw [Try.params6] at hA hval
  obtain ⟨v0, vs0, d0, ds0, p0, q0, hargs, rfl, rfl, h0, r0⟩ := trodAll_cons hA
  obtain ⟨v1, vs1, d1, ds1, p1, q1, rfl, rfl, rfl, h1, r1⟩ := trodAll_cons r0
  obtain ⟨rfl, rfl, rfl⟩ := trodAll_nil r1
  obtain rfl : args = #[v0, v1] := by cases args; simp_all
  obtain ⟨rfl, rfl⟩ := trodVars_none hV
  have k0 := h0
  have lt0 : ∀ x ∈ p0, x.block < W.heap.size := by obtain ⟨m, hm⟩ := k0; exact DataW.trod_lt m _ _ _ hm
  obtain ⟨ad0, cap0, l0, rfl, w0, hc0, hm0⟩ := open_ops (hval 0 22 v0 rfl rfl) h0
  obtain ⟨a1, rfl, rfl, rfl, w1⟩ := open_int Try.underlying3 (hval 1 3 v1 rfl rfl) h1
  clear hA0 hval0
  refine (walk W ad0 cap0 l0 w0 hc0 hm0 a1 w1).mono fun e W' ⟨he, hg⟩ => ?_
  subst he
  exact ⟨_, rfl, _, _, _, [], _, [], hW', (trodAll_cons_mk (shut_bool Try.underlying4 _) trodAll_mk0), (trodAll_cons_mk (Below.trod laidOut (by kernel_rfl) (of_decide_eq_true (by kernel_rfl)) k0 hg lt0) (trodAll_cons_mk (shut_int Try.underlying3 w1) trodAll_mk0)), rfl, hg.frame _, fun h => by cases h⟩

theorem over : Rows.bagDoubledRow.holds Try.pinned (OpenSpec.ofChange Rows.bagDoubledSpec) :=
  OpenClaim.holds_of_wide 6 Try.f6 rfl rfl rfl rfl rfl rfl rfl ⟨rfl, rfl, rfl, rfl, rfl⟩ rfl rfl rfl rfl rfl (by kernel_rfl) Try.func6 (by kernel_rfl)
    (of_decide_eq_true (by kernel_rfl)) (by unfold Func.isWrapper; first | (rw [if_pos (by decide +kernel)]; kernel_rfl) | (rw [if_neg (by decide +kernel)]; exact ⟨rfl, rfl⟩))
    (fun os started H enc _ => lifted os started H enc)

theorem proved : Rows.BagDoubledSaid :=
  over
#print axioms proved
end Go.Proofs.Ytenahcdmdhlieaa
