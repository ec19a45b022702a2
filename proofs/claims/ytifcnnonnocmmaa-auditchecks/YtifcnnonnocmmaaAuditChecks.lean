/- AuditChecks is true at every n, f and every history: the program's Check answers as the document's, and what is handed in stays. No condition. -/
import Derived.Test.YtifcnnonnocmmaaRows
import Derived.WalkKit
import Derived.ProofKit
import Derived.OpenShut
import Derived.Test.YtifcnnonnocmmaaJnJ22
namespace Go.Proofs.Ytifcnnonnocmmaa
open Go.ChangeShapes Go.WideShapes Go.ChangeAt Go.RowKit
set_option linter.unusedVariables false

theorem laidOut : laidOutB Try.prog = true := by kernel_rfl
theorem own : ownKnob Try.prog.godebug = none := by kernel_rfl
attribute [local go_sem] Oper.semAt_some
theorem walk (w : World) (a0 : Int) (w0 : (Lit.int .i64 a0).wf = true) (a1 : Int) (w1 : (Lit.int .i64 a1).wf = true) (ad2 : Option Addr) (cap2 : Nat) (l2 : List Ev) (w2 : RdE w ad2 l2) (hc2 : ad2 = none → cap2 = 0) :
    Calls Try.prog 3 #[.int .i64 a0, .int .i64 a1, .slice ad2 l2.length cap2] w fun e w' => e = .returned (.bool true) ∧ Below w.heap.size w w' := by
  have hal := alive_any
  by_cases h5 : 5000 < l2.length
  · have h5i : (5000 : Int) < (l2.length : Int) := by omega
    clear w2
    go_enter Try.func3, Try.ntmps3
    go_wp2_with (go_at_call 4; (with_reducible refine (hal _).mono ?_); rintro e u1 ⟨rfl, hb1⟩)
    go_ret
    exact ⟨rfl, hb1⟩
  have h5i : ¬ (5000 : Int) < (l2.length : Int) := by omega
  have h5n : l2.length ≤ 5000 := by omega
  have hle := lent_any ad2 cap2 l2 w w2 hc2 h5n
  unfold LeO at hle
  have HR : Hid (RdE w ad2 l2) := w2
  clear w2
  obtain ⟨r, hr⟩ : ∃ r : Int × Int, ckO a0 a1 l2 = r := ⟨_, rfl⟩
  have hck := fun (ad : Option Addr) (cap : Nat) (V : World) (hV : RdE V ad l2) => check_any a0 a1 ad cap l2 V hV (by omega)
  have hrk := fun (ad : Option Addr) (cap : Nat) (V : World) (hV : RdE V ad l2) => rcheck_any a0 a1 ad cap l2 V hV (by omega)
  rw [hr] at hck hrk
  clear hr
  go_enter Try.func3, Try.ntmps3
  go_wp2_with (first | (go_at_call 5; (with_reducible refine hle.mono ?_); rintro e u1 ⟨g, cp, rfl, hcp, hg1, hg0, hrd, hb1⟩; have HD : Hid (∀ (k : Nat) (x : Ev), (l2 ++ mkE)[k]? = some x → ∀ (i : Nat) (v : Value), (ecA x)[i]? = some v → u1.cell? ⟨g, 0 + k * 15 + i, none⟩ = some v) := hrd; clear hrd) | (go_at_call 6; (with_reducible refine (hck _ _ _ ⟨fun _ => ⟨g, 0, rfl, hg1, fun k x hk => HD.out k x (by rw [List.getElem?_append_left (List.getElem?_eq_some_iff.1 hk).1]; exact hk)⟩, HR.out.ok⟩).mono ?_); rintro e u2 ⟨rfl, hb2⟩; have hw2 : Below w.heap.size w u2 := hb1.trans (hb2.mono hb1.size)) | (go_at_call 7; (with_reducible refine (hrk _ _ _ (HR.out.carry hw2)).mono ?_); rintro e u3 ⟨rfl, hb3⟩; have hw3 : Below w.heap.size w u3 := hw2.trans (hb3.mono hw2.size)) | (go_at_call 4; (with_reducible refine (hal _).mono ?_); rintro e u4 ⟨rfl, hb4⟩; have hw4 : Below w.heap.size w u4 := hw3.trans (hb4.mono hw3.size); have hu4 : Below u1.heap.size u1 u4 := (hb2.trans (hb3.mono hb2.size)).trans (hb4.mono (Nat.le_trans hb2.size hb3.size)); have hst := stays_any g ad2 cp cap2 l2 u4 (Nat.lt_of_lt_of_le hg1 hu4.size) (fun k x hk i v hv => (hu4.cell (p := ⟨g, _, none⟩) hg1).trans (HD.out k x hk i v hv)) hcp (HR.out.carry hw4) h5n) | (go_at_call 8; (with_reducible refine hst.mono ?_); rintro e u5 ⟨rfl, hb5⟩))
  go_ret
  exact ⟨rfl, hw4.trans (hb5.mono hw4.size)⟩

set_option maxRecDepth 100000 in
theorem lifted (os : Os) (started : os.Started) (H : Type) (enc : TypeId × Value → H) :
    ReturnsInHanded {} Try.checked os 3 .any (Rows.auditChecksSpec.pre6 enc Try.prog Try.f3 Rows.auditChecksRow.domain false) (Rows.auditChecksSpec.post enc Try.prog Try.f3 false true false false) := by
  refine returnsInHanded_of_change (C := Try.checked) own started (by kernel_rfl) Try.func3
    (ChangeSpec.witness6 (enc := enc) (C := Try.checked) false ⟨#[], #[.int .i64 0, .int .i64 0, .slice none 0 0], []⟩ 8 (by kernel_rfl) (by kernel_rfl) (by kernel_rfl) (by kernel_rfl)) ?_
  intro W base args ds gs before hval0 hW hcnd _
  have hval : ∀ (j : Nat) t v, Try.f3.params[j]? = some t → args[j]? = some v → Value.okWide Try.prog W .any base t v := hval0
  have hW' := hW
  obtain ⟨p, q, hA0, hV, rfl, hfz, hnd⟩ := hW
  have hA : DataW.TrodAll enc Try.prog W 0 (fun _ => true) true Try.f3.params.toList args.toList ds p := hA0
  rw [Try.params3] at hA hval
  obtain ⟨v0, vs0, d0, ds0, p0, q0, hargs, rfl, rfl, h0, r0⟩ := trodAll_cons hA
  obtain ⟨v1, vs1, d1, ds1, p1, q1, rfl, rfl, rfl, h1, r1⟩ := trodAll_cons r0
  obtain ⟨v2, vs2, d2, ds2, p2, q2, rfl, rfl, rfl, h2, r2⟩ := trodAll_cons r1
  obtain ⟨rfl, rfl, rfl⟩ := trodAll_nil r2
  obtain rfl : args = #[v0, v1, v2] := by cases args; simp_all
  obtain ⟨rfl, rfl⟩ := trodVars_none hV
  obtain ⟨a0, rfl, rfl, rfl, w0⟩ := open_int Try.underlying3 (hval 0 3 v0 rfl rfl) h0
  obtain ⟨a1, rfl, rfl, rfl, w1⟩ := open_int Try.underlying3 (hval 1 3 v1 rfl rfl) h1
  have k2 := h2
  have lt2 : ∀ x ∈ p2, x.block < W.heap.size := by obtain ⟨m, hm⟩ := k2; exact DataW.trod_lt m _ _ _ hm
  obtain ⟨ad2, cap2, l2, rfl, w2, hc2, hq2, hd2⟩ := open_events (hval 2 22 v2 rfl rfl) h2
  clear hA0 hval0
  refine (walk W a0 w0 a1 w1 ad2 cap2 l2 w2 hc2).mono fun e W' ⟨he, hg⟩ => ?_
  subst he
  exact ⟨_, rfl, _, _, _, [], _, [], hW', (trodAll_cons_mk (shut_bool Try.underlying4 _) trodAll_mk0), (trodAll_cons_mk (shut_int Try.underlying3 w0) (trodAll_cons_mk (shut_int Try.underlying3 w1) (trodAll_cons_mk (Below.trod laidOut (by kernel_rfl) (of_decide_eq_true (by kernel_rfl)) k2 hg lt2) trodAll_mk0))), rfl, hg.frame _, fun h => by cases h⟩

theorem over : Rows.auditChecksRow.holds Try.pinned (OpenSpec.ofChange Rows.auditChecksSpec) :=
  OpenClaim.holds_of_wide 3 Try.f3 rfl rfl rfl rfl rfl rfl rfl ⟨rfl, rfl, rfl, rfl, rfl⟩ rfl rfl rfl rfl rfl (by kernel_rfl) Try.func3 (by kernel_rfl)
    (of_decide_eq_true (by kernel_rfl)) (by unfold Func.isWrapper; first | (rw [if_pos (by decide +kernel)]; kernel_rfl) | (rw [if_neg (by decide +kernel)]; exact ⟨rfl, rfl⟩))
    (fun os started H enc _ => lifted os started H enc)

theorem proved : Rows.AuditChecksSaid :=
  over
#print axioms proved
end Go.Proofs.Ytifcnnonnocmmaa
