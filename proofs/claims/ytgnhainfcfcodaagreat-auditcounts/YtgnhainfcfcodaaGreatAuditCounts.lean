/- AuditCounts is true at every n and every history: the program's Lives and Doubts answer as the document's, what is handed in stays, and the lists share no memory. No condition. -/
import Derived.Test.YtgnhainfcfcodaaGreatRows
import Derived.WalkKit
import Derived.ProofKit
import Derived.OpenShut
import Derived.Test.YtgnhainfcfcodaaGreatAve
import Derived.Test.YtgnhainfcfcodaaGreatAuu
import Derived.Test.YtgnhainfcfcodaaGreatAus
namespace Go.Proofs.YtgnhainfcfcodaaGreat
open Go.ChangeShapes Go.WideShapes Go.ChangeAt Go.RowKit
set_option linter.unusedVariables false

theorem laidOut : laidOutB Tryz.prog = true := by kernel_rfl
theorem own : ownKnob Tryz.prog.godebug = none := by kernel_rfl
attribute [local go_sem] Oper.semAt_some
theorem walk (w : World) (a0 : Int) (w0 : (Lit.int .i64 a0).wf = true) (ad1 : Option Addr) (cap1 : Nat) (l1 : List Ev) (w1 : RdE w ad1 l1) (hc1 : ad1 = none → cap1 = 0) :
    Calls Tryz.prog 3 #[.int .i64 a0, .slice ad1 l1.length cap1] w fun e w' => e = .returned (.bool true) ∧ Below w.heap.size w w' := by
  have hal := alive_any
  by_cases h5 : 2000 < l1.length
  · have h5i : (2000 : Int) < (l1.length : Int) := by omega
    clear w1
    go_enter Tryz.func3, Tryz.ntmps3
    go_wp2_with (go_at_call 4; (with_reducible refine (hal _).mono ?_); rintro e u1 ⟨rfl, hb1⟩)
    go_ret
    exact ⟨rfl, hb1⟩
  have h5i : ¬ (2000 : Int) < (l1.length : Int) := by omega
  have h5n : l1.length ≤ 2000 := by omega
  have hle := lent_any ad1 cap1 l1 w w1 hc1 (by omega)
  unfold LeO at hle
  have HR : Hid (RdE w ad1 l1) := w1
  clear w1
  obtain ⟨er, LI, hLI, hlv, hrl⟩ := lives_both a0 l1 h5n
  obtain ⟨ed, LN, hLN, hdb, hrd⟩ := doubts_both a0 l1 h5n
  go_enter Tryz.func3, Tryz.ntmps3
  go_wp2_with (first
    | (go_at_call 15; (with_reducible refine hap.mono ?_); rintro e u16 ⟨rfl, hb16⟩)
    | (go_at_call 4; have m := st13; (with_reducible refine (hal _).mono ?_); rintro e u15 ⟨rfl, hb15⟩; have HW15 : Hid (Below w.heap.size w u15) := HW14.out.trans (hb15.mono HW14.out.size); have hap := apart2 (HK14.out.carry hb15) HW15.out.size)
    | (go_at_call 14; have m := st13; (with_reducible refine (keepN HK13.out HW13.out.size hbb HY13.out hLN HCY.out).mono ?_); rintro e u14 ⟨rfl, hk14, hab14⟩; have HK14 : Hid (Bk2 w.heap.size bb _ _ u14) := hk14; have HW14 : Hid (Below w.heap.size w u14) := HW13.out.trans hab14.1; clear hk14 hab14)
    | (go_at_call 14; have m := st12; (with_reducible refine (keepN HK12.out HW12.out.size hbb HC12.out hLN (fun _ _ q => q.elim)).mono ?_); rintro e u13 ⟨rfl, hk13, hab13⟩; have HK13 : Hid (Bk2 w.heap.size bb _ _ u13) := hk13; have HW13 : Hid (Below w.heap.size w u13) := HW12.out.trans hab13.1; have HY13 := hidI (hab13.2 (by decide) (by decide) HY12.out); have st13 := True.intro; clear hk13 hab13)
    | (go_at_call 13; have m := st11; (with_reducible refine (keepI HK11.out HW11.out.size hbb HX11.out hLI HAX.out).mono ?_); rintro e u12 ⟨rfl, hk12, hab12⟩; have HK12 : Hid (Bk2 w.heap.size bb _ _ u12) := hk12; have HW12 : Hid (Below w.heap.size w u12) := HW11.out.trans hab12.1; have HC12 := hidI (hab12.2 (by decide) (by decide) HC11.out); have HY12 := hidI (hab12.2 (by decide) (by decide) HY11.out); have st12 := True.intro; clear hk12 hab12)
    | (go_at_call 13; have m := st10; (with_reducible refine (keepI HK10.out HW10.out.size hbb HA10.out hLI (fun _ _ q => q.elim)).mono ?_); rintro e u11 ⟨rfl, hk11, hab11⟩; have HK11 : Hid (Bk2 w.heap.size bb _ _ u11) := hk11; have HW11 : Hid (Below w.heap.size w u11) := HW10.out.trans hab11.1; have HX11 := hidI (hab11.2 (by decide) (by decide) HX10.out); have HC11 := hidI (hab11.2 (by decide) (by decide) HC10.out); have HY11 := hidI (hab11.2 (by decide) (by decide) HY10.out); have st11 := True.intro; clear hk11 hab11)
    | (go_at_call 8; have m := st9; (with_reducible refine (hdb _ _ _ (HR.out.carry HW9.out)).mono ?_); rintro e u10 ⟨a10, c10, rfl, ho10, hb10⟩; obtain ⟨WB, hWB⟩ : ∃ WB, u10.alloc (.cells #[.slice none 0 0, .slice none 0 0, .slice none 0 0, .slice none 0 0, .slice none 0 0, .slice none 0 0, .slice none 0 0, .slice none 0 0, .slice none 0 0, .slice none 0 0, .slice none 0 0, .slice none 0 0, .slice none 0 0, .slice none 0 0, .slice none 0 0, .slice none 0 0, .slice none 0 0, .slice none 0 0, .slice none 0 0, .slice none 0 0, .slice none 0 0, .slice none 0 0, .slice none 0 0, .slice none 0 0] 49) = WB := ⟨_, rfl⟩; have hk10 : Bk2 w.heap.size u10.heap.size (fun _ => False) (fun _ => False) WB := (by rw [← hWB]; exact Bk2.new u10 _); have hal10 : Below u10.heap.size u10 WB := (by rw [← hWB]; exact al1' _ _); have hW10 : Below w.heap.size w u10 := HW9.out.trans (hb10.mono HW9.out.size); have HW10 : Hid (Below w.heap.size w WB) := hW10.trans (hal10.mono hW10.size); have hbb0 : w.heap.size ≤ u10.heap.size := hW10.size; have HA10 := hidI (Kel.row_below (Kel.row_below HA9.out hb10) hal10); have HX10 := hidI (Kel.row_below (Kel.row_below HX9.out hb10) hal10); have HC10 := hidI (Kel.row_below (Kel.row_below HC9.out hb10) hal10); have HY10 := hidI (Kel.row_below (Kel.row_base ho10 HW9.out.size) hal10); have HCY : Hid (∀ (z' : Value) (g' : Nat), (z' = .slice a4 LN.length c4 ∨ False) → (Value.slice a10 LN.length c10).ownBlock = some g' → z'.ownBlock ≠ some g') := (fun z' g' q e1 e2 => by have q := q.resolve_right (fun f => f); subst q; have h1 := (Kel.row_lt ho10 g' e1).1; have h2 := (Kel.row_lt HC9.out g' e2).2; omega); obtain ⟨bb, hbbe⟩ : ∃ bb, u10.heap.size = bb := ⟨_, rfl⟩; rw [hbbe] at hk10 hbb0; have hbb := hbb0; have HK10 : Hid (Bk2 w.heap.size bb _ _ WB) := hk10; have st10 := True.intro; clear hk10 hal10 hW10 hb10 ho10 hbb0)
    | (go_at_call 6; have m := st8; (with_reducible refine (hlv _ _ _ (HR.out.carry HW8.out)).mono ?_); rintro e u9 ⟨a9, c9, rfl, ho9, hb9⟩; have HW9 : Hid (Below w.heap.size w u9) := HW8.out.trans (hb9.mono HW8.out.size); have HA9 := hidI (Kel.row_below HA8.out hb9); have HC9 := hidI (Kel.row_below HC8.out hb9); have HX9 := hidI (Kel.row_base ho9 HW8.out.size); have HAX : Hid (∀ (z' : Value) (g' : Nat), (z' = .slice a2 LI.length c2 ∨ False) → (Value.slice a9 LI.length c9).ownBlock = some g' → z'.ownBlock ≠ some g') := (fun z' g' q e1 e2 => by have q := q.resolve_right (fun f => f); subst q; have h1 := (Kel.row_lt ho9 g' e1).1; have h2 := (Kel.row_lt HA8.out g' e2).2; omega); have st9 := True.intro; clear ho9 hb9)
    | (go_at_call 12; (with_reducible refine hst.mono ?_); rintro e u8 ⟨rfl, hb8⟩; have HW8 : Hid (Below w.heap.size w u8) := HW7.out.trans (hb8.mono HW7.out.size); have HA8 := hidI (Kel.row_below HA7.out hb8); have HC8 := hidI (Kel.row_below HC7.out hb8); have st8 := True.intro; clear hb8 hst)
    | (go_at_call 11; (with_reducible refine hsn.mono ?_); rintro e u7 ⟨rfl, hb7⟩; have HW7 : Hid (Below w.heap.size w u7) := HW6.out.trans (hb7.mono HW6.out.size); have HA7 := hidI (Kel.row_below HA6.out hb7); have HC7 := hidI (Kel.row_below HC6.out hb7); have hu7 : Below u1.heap.size u1 u7 := HU6.out.trans (hb7.mono HU6.out.size); have hst := stays_any g ad1 cp cap1 l1 u7 (Nat.lt_of_lt_of_le hg1 hu7.size) (fun k x hk i v hv => (hu7.cell (p := ⟨g, _, none⟩) hg1).trans (HD.out k x hk i v hv)) hcp (HR.out.carry HW7.out) (by omega); clear hb7 hu7)
    | (go_at_call 10; (with_reducible refine hsi.mono ?_); rintro e u6 ⟨rfl, hb6⟩; have HW6 : Hid (Below w.heap.size w u6) := HW5.out.trans (hb6.mono HW5.out.size); have HU6 : Hid (Below u1.heap.size u1 u6) := HU5.out.trans (hb6.mono HU5.out.size); have HA6 := hidI (Kel.row_below HA5.out hb6); have HC6 := hidI (Kel.row_below HC5.out hb6); have hsn := Kel.sameNotices_any a4 a5 LN.length c4 c5 LN rfl u6 (rd_own HC6.out) (rd_own (Kel.row_below HD5.out hb6)) (by omega); clear hb6)
    | (go_at_call 9; (with_reducible refine (hrd _ _ _ (HR.out.carry HW4.out)).mono ?_); rintro e u5 ⟨a5, c5, rfl, ho5, hb5⟩; have HW5 : Hid (Below w.heap.size w u5) := HW4.out.trans (hb5.mono HW4.out.size); have HU5 : Hid (Below u1.heap.size u1 u5) := HU4.out.trans (hb5.mono HU4.out.size); have HA5 := hidI (Kel.row_below HA4.out hb5); have HC5 := hidI (Kel.row_below HC4.out hb5); have HD5 := hidI ho5; have hsi := Kel.sameInts_any a2 a3 LI.length c2 c3 LI rfl u5 (rd_own HA5.out) (rd_own (Kel.row_below HB4.out hb5)) (by omega); clear ho5 hb5)
    | (go_at_call 8; have m := st3; (with_reducible refine (hdb _ _ _ ⟨fun _ => ⟨g, 0, rfl, Nat.lt_of_lt_of_le hg1 HU3.out.size, fun k x hk i v hv => (HU3.out.cell (p := ⟨g, _, none⟩) hg1).trans (HD.out k x (by rw [List.getElem?_append_left (List.getElem?_eq_some_iff.1 hk).1]; exact hk) i v hv)⟩, HR.out.ok⟩).mono ?_); rintro e u4 ⟨a4, c4, rfl, ho4, hb4⟩; have HW4 : Hid (Below w.heap.size w u4) := HW3.out.trans (hb4.mono HW3.out.size); have HU4 : Hid (Below u1.heap.size u1 u4) := HU3.out.trans (hb4.mono HU3.out.size); have HA4 := hidI (Kel.row_below HA3.out hb4); have HB4 := hidI (Kel.row_below HB3.out hb4); have HC4 := hidI (Kel.row_base ho4 HW3.out.size); clear ho4 hb4)
    | (go_at_call 7; (with_reducible refine (hrl _ _ _ (HR.out.carry HW2.out)).mono ?_); rintro e u3 ⟨a3, c3, rfl, ho3, hb3⟩; have HW3 : Hid (Below w.heap.size w u3) := HW2.out.trans (hb3.mono HW2.out.size); have HU3 : Hid (Below u1.heap.size u1 u3) := HU2.out.trans (hb3.mono HU2.out.size); have HA3 := hidI (Kel.row_below HA2.out hb3); have HB3 := hidI ho3; have st3 := True.intro; clear ho3 hb3)
    | (go_at_call 6; have m := st1; (with_reducible refine (hlv _ _ _ ⟨fun _ => ⟨g, 0, rfl, hg1, fun k x hk => HD.out k x (by rw [List.getElem?_append_left (List.getElem?_eq_some_iff.1 hk).1]; exact hk)⟩, HR.out.ok⟩).mono ?_); rintro e u2 ⟨a2, c2, rfl, ho2, hb2⟩; have HW2 : Hid (Below w.heap.size w u2) := HW1.out.trans (hb2.mono HW1.out.size); have HU2 : Hid (Below u1.heap.size u1 u2) := hb2; have HA2 := hidI (Kel.row_base ho2 HW1.out.size); clear ho2 hb2)
    | (go_at_call 5; (with_reducible refine hle.mono ?_); rintro e u1 ⟨g, cp, rfl, hcp, hg1, hg0, hrdd, hb1⟩; have HD : Hid (∀ (k : Nat) (x : Ev), (l1 ++ mkE)[k]? = some x → ∀ (i : Nat) (v : Value), (ecA x)[i]? = some v → u1.cell? ⟨g, 0 + k * 15 + i, none⟩ = some v) := hrdd; have HW1 : Hid (Below w.heap.size w u1) := hb1; have st1 := True.intro; clear hrdd hb1))
  go_ret
  exact ⟨rfl, HW15.out.trans hb16⟩

set_option maxRecDepth 100000 in
theorem lifted (os : Os) (started : os.Started) (H : Type) (enc : TypeId × Value → H) :
    ReturnsInHanded {} Tryz.checked os 3 .any (Rows.auditCountsSpec.pre6 enc Tryz.prog Tryz.f3 Rows.auditCountsRow.domain false) (Rows.auditCountsSpec.post enc Tryz.prog Tryz.f3 false true false false) := by
  refine returnsInHanded_of_change (C := Tryz.checked) own started (by kernel_rfl) Tryz.func3
    (ChangeSpec.witness6 (enc := enc) (C := Tryz.checked) false ⟨#[], #[.int .i64 0, .slice none 0 0], []⟩ 8 (by kernel_rfl) (by kernel_rfl) (by kernel_rfl) (by kernel_rfl)) ?_
  intro W base args ds gs before hval0 hW hcnd _
  have hval : ∀ (j : Nat) t v, Tryz.f3.params[j]? = some t → args[j]? = some v → Value.okWide Tryz.prog W .any base t v := hval0
  have hW' := hW
  obtain ⟨p, q, hA0, hV, rfl, hfz, hnd⟩ := hW
  have hA : DataW.TrodAll enc Tryz.prog W 0 (fun _ => true) true Tryz.f3.params.toList args.toList ds p := hA0
  rw [Tryz.params3] at hA hval
  obtain ⟨v0, vs0, d0, ds0, p0, q0, hargs, rfl, rfl, h0, r0⟩ := trodAll_cons hA
  obtain ⟨v1, vs1, d1, ds1, p1, q1, rfl, rfl, rfl, h1, r1⟩ := trodAll_cons r0
  obtain ⟨rfl, rfl, rfl⟩ := trodAll_nil r1
  obtain rfl : args = #[v0, v1] := by cases args; simp_all
  obtain ⟨rfl, rfl⟩ := trodVars_none hV
  obtain ⟨a0, rfl, rfl, rfl, w0⟩ := open_int Tryz.underlying3 (hval 0 3 v0 rfl rfl) h0
  have k1 := h1
  have lt1 : ∀ x ∈ p1, x.block < W.heap.size := by obtain ⟨m, hm⟩ := k1; exact DataW.trod_lt m _ _ _ hm
  obtain ⟨ad1, cap1, l1, rfl, w1, hc1, hq1, hd1⟩ := open_events (hval 1 22 v1 rfl rfl) h1
  clear hA0 hval0
  refine (walk W a0 w0 ad1 cap1 l1 w1 hc1).mono fun e W' ⟨he, hg⟩ => ?_
  subst he
  exact ⟨_, rfl, _, _, _, [], _, [], hW', (trodAll_cons_mk (shut_bool Tryz.underlying4 _) trodAll_mk0), (trodAll_cons_mk (shut_int Tryz.underlying3 w0) (trodAll_cons_mk (Below.trod laidOut (by kernel_rfl) (of_decide_eq_true (by kernel_rfl)) k1 hg lt1) trodAll_mk0)), rfl, hg.frame _, fun h => by cases h⟩

theorem over : Rows.auditCountsRow.holds Tryz.pinned (OpenSpec.ofChange Rows.auditCountsSpec) :=
  OpenClaim.holds_of_wide 3 Tryz.f3 rfl rfl rfl rfl rfl rfl rfl ⟨rfl, rfl, rfl, rfl, rfl⟩ rfl rfl rfl rfl rfl (by kernel_rfl) Tryz.func3 (by kernel_rfl)
    (of_decide_eq_true (by kernel_rfl)) (by unfold Func.isWrapper; first | (rw [if_pos (by decide +kernel)]; kernel_rfl) | (rw [if_neg (by decide +kernel)]; exact ⟨rfl, rfl⟩))
    (fun os started H enc _ => lifted os started H enc)

theorem proved : Rows.AuditCountsSaid :=
  over
#print axioms proved
end Go.Proofs.YtgnhainfcfcodaaGreat
