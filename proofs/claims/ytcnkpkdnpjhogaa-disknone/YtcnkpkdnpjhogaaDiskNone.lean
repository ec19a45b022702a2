/- DiskNone: at every sector, number and bytes: what a nil disk answers is what chapter 10 says; no condition. -/
import Derived.Test.YtcnkpkdnpjhogaaRows
import Derived.WalkKit
import Derived.ProofKit
import Derived.OpenShut
import Derived.Test.YtcnkpkdnpjhogaaDkg
import Derived.Test.YtcnkpkdnpjhogaaDkn
import Derived.Test.YtcnkpkdnpjhogaaOpd
namespace Go.Proofs.Ytcnkpkdnpjhogaa
open Go.ChangeShapes Go.WideShapes Go.ChangeAt Go.RowKit
set_option linter.unusedVariables false

theorem laidOut : laidOutB Try.prog = true := by kernel_rfl
theorem own : ownKnob Try.prog.godebug = none := by kernel_rfl
open Go.Shelf
set_option maxHeartbeats 4000000 in
set_option maxRecDepth 100000 in
theorem walk (w : World) (a0 : Int) (w0 : (Lit.int .i64 a0).wf = true) (a1 : Int) (w1 : (Lit.int .i64 a1).wf = true) (ad2 : Option Addr) (cap2 : Nat) (l2 : List Nat) (w2 : RdB w ad2 l2) (hb2 : Byt l2) (hc2 : l2.length ≤ cap2) (hm2 : cap2 ≤ maxLen) :
    Calls Try.prog 6 #[.int .i64 a0, .int .i64 a1, .slice ad2 l2.length cap2] w fun e w' => e = .returned (.bool true) ∧ Below w.heap.size w w' := by
  have hal := alive_any
  go_enter Try.func6, Try.ntmps6
  go_wp2_with (first | (go_at_call 9; (with_reducible refine (nfuse_any _ _).mono ?_); rintro e u1 ⟨rfl, rfl⟩) | (go_at_call 18; (with_reducible refine (ncut_any _).mono ?_); rintro e u1 ⟨rfl, rfl⟩) | (go_at_call 15; (with_reducible refine (nrestore_any _).mono ?_); rintro e u1 ⟨rfl, rfl⟩) | (go_at_call 10; (with_reducible refine (nwrite_any _ _ _).mono ?_); rintro e u1 ⟨rfl, rfl⟩) | (go_at_call 21; (with_reducible refine (nread_any _ _).mono ?_); rintro e u1 ⟨rfl, rfl⟩) | (go_at_call 7; (with_reducible refine (hal _).mono ?_); rintro e u2 ⟨rfl, hb2⟩) | (go_at_call 14; (with_reducible refine (nleft_any _).mono ?_); rintro e u3 ⟨rfl, hu3⟩; subst hu3) | (go_at_call 13; (with_reducible refine (non_any _).mono ?_); rintro e u3 ⟨rfl, hu3⟩; subst hu3) | (go_at_call 12; (with_reducible refine (nwrites_any _).mono ?_); rintro e u3 ⟨rfl, hu3⟩; subst hu3) | (go_at_call 16; (with_reducible refine (nimage_any _).mono ?_); rintro e u3 ⟨rfl, hu3⟩; subst hu3) | (go_at_call 19; (with_reducible refine (ntwin_any _).mono ?_); rintro e u3 ⟨rfl, hu3⟩; subst hu3))
  go_ret
  exact ⟨rfl, hb2⟩

set_option maxRecDepth 100000 in
theorem lifted (os : Os) (started : os.Started) (H : Type) (enc : TypeId × Value → H) :
    ReturnsInHanded {} Try.checked os 6 .any (Rows.diskNoneSpec.pre6 enc Try.prog Try.f6 Rows.diskNoneRow.domain false) (Rows.diskNoneSpec.post enc Try.prog Try.f6 false true false false) := by
  refine returnsInHanded_of_change (C := Try.checked) own started (by kernel_rfl) Try.func6
    (ChangeSpec.witness6 (enc := enc) (C := Try.checked) false ⟨#[], #[.int .i64 0, .int .i64 0, .slice none 0 0], []⟩ 8 (by kernel_rfl) (by kernel_rfl) (by kernel_rfl) (by kernel_rfl)) ?_
  intro W base args ds gs before hval0 hW hcnd _
  have hval : ∀ (j : Nat) t v, Try.f6.params[j]? = some t → args[j]? = some v → Value.okWide Try.prog W .any base t v := hval0
  have hW' := hW
  obtain ⟨p, q, hA0, hV, rfl, hfz, hnd⟩ := hW
  have hA : DataW.TrodAll enc Try.prog W 0 (fun _ => true) true Try.f6.params.toList args.toList ds p := hA0
  rw [Try.params6] at hA hval
  obtain ⟨v0, vs0, d0, ds0, p0, q0, hargs, rfl, rfl, h0, r0⟩ := trodAll_cons hA
  obtain ⟨v1, vs1, d1, ds1, p1, q1, rfl, rfl, rfl, h1, r1⟩ := trodAll_cons r0
  obtain ⟨v2, vs2, d2, ds2, p2, q2, rfl, rfl, rfl, h2, r2⟩ := trodAll_cons r1
  obtain ⟨rfl, rfl, rfl⟩ := trodAll_nil r2
  obtain rfl : args = #[v0, v1, v2] := by cases args; simp_all
  obtain ⟨rfl, rfl⟩ := trodVars_none hV
  obtain ⟨a0, rfl, rfl, rfl, w0⟩ := open_int Try.underlying3 (hval 0 3 v0 rfl rfl) h0
  obtain ⟨a1, rfl, rfl, rfl, w1⟩ := open_int Try.underlying3 (hval 1 3 v1 rfl rfl) h1
  have k2 := h2
  have lt2 : ∀ x ∈ p2, x.block < W.heap.size := by obtain ⟨m, hm⟩ := k2; exact DataW.trod_lt m _ _ _ hm
  obtain ⟨ad2, cap2, l2, rfl, w2, hb2, hc2, hm2⟩ := open_bytes (hval 2 28 v2 rfl rfl) h2
  clear hA0 hval0
  refine (walk W a0 w0 a1 w1 ad2 cap2 l2 w2 hb2 hc2 hm2).mono fun e W' ⟨he, hg⟩ => ?_
  subst he
  exact ⟨_, rfl, _, _, _, [], _, [], hW', (trodAll_cons_mk (shut_bool Try.underlying4 _) trodAll_mk0), (trodAll_cons_mk (shut_int Try.underlying3 w0) (trodAll_cons_mk (shut_int Try.underlying3 w1) (trodAll_cons_mk (Below.trod laidOut (by kernel_rfl) (of_decide_eq_true (by kernel_rfl)) k2 hg lt2) trodAll_mk0))), rfl, hg.frame _, fun h => by cases h⟩

theorem over : Rows.diskNoneRow.holds Try.pinned (OpenSpec.ofChange Rows.diskNoneSpec) :=
  OpenClaim.holds_of_wide 6 Try.f6 rfl rfl rfl rfl rfl rfl rfl ⟨rfl, rfl, rfl, rfl, rfl⟩ rfl rfl rfl rfl rfl (by kernel_rfl) Try.func6 (by kernel_rfl)
    (of_decide_eq_true (by kernel_rfl)) (by unfold Func.isWrapper; first | (rw [if_pos (by decide +kernel)]; kernel_rfl) | (rw [if_neg (by decide +kernel)]; exact ⟨rfl, rfl⟩))
    (fun os started H enc _ => lifted os started H enc)

theorem proved : Rows.DiskNoneSaid :=
  over
#print axioms proved
end Go.Proofs.Ytcnkpkdnpjhogaa
