/- InferUnions (promise P1401): of every list of sets infer.Union answers what the document's Union answers. For every input; nothing is asked of it. -/
import Derived.Test.YtgehmidalfajgaaRows
import Derived.WalkKit
import Derived.ProofKit
import Derived.OpenShut
import Derived.Test.YtgehmidalfajgaaInc
import Derived.Test.YtgehmidalfajgaaOss
namespace Go.Proofs.Ytgehmidalfajgaa
open Go.ChangeShapes Go.WideShapes Go.ChangeAt Go.RowKit
set_option linter.unusedVariables false

theorem laidOut : laidOutB Try.prog = true := by kernel_rfl
theorem own : ownKnob Try.prog.godebug = none := by kernel_rfl
set_option maxHeartbeats 4000000 in
set_option maxRecDepth 100000 in
theorem walk (w : World) (ad0 : Option Addr) (cap0 : Nat) (l0 : List Nat) (w0 : RdS w ad0 l0) (hs0 : ∀ N ∈ l0, N < S128) (hc0 : l0.length ≤ cap0) (hm0 : cap0 ≤ maxLen) :
    Calls Try.prog 4 #[.slice ad0 l0.length cap0] w fun e w' => e = .returned (.bool true) ∧ Below w.heap.size w w' := by
  by_cases hl : l0.length ≤ 1000
  · have hli : ¬ ((l0.length : Int) > 1000) := by omega
    have hq := eqn4 (unis 0 l0) (unis 0 l0) (S100_S128 (unis_lt (by decide) _)) (S100_S128 (unis_lt (by decide) _))
    have hiu := fun V hb => iunion_any ad0 cap0 l0 V (w0.carry (W' := V) hb) (by omega)
    have hru := fun V hb => rUnions_any ad0 cap0 l0 V (w0.carry (W' := V) hb) (by omega)
    generalize unis 0 l0 = M at *
    simp only [sv] at hq hiu hru
    go_enter Try.func4, Try.ntmps4
    go_wp2_with (first
      | (go_at_call 7; refine (alive_any _).mono ?_; rintro e u ⟨rfl, hb⟩)
      | (go_at_call 17; refine (hiu _ hb).mono ?_; rintro e u2 ⟨rfl, hb2⟩; have hb3 := bel2 hb hb2)
      | (go_at_call 18; refine (hru _ hb3).mono ?_; rintro e u3 ⟨rfl, hb4⟩; have hb5 := bel2 hb3 hb4))
    go_ret
    exact ⟨rfl, hb5⟩
  · have hli : ((l0.length : Int) > 1000) := by omega
    go_enter Try.func4, Try.ntmps4
    go_wp2_with (go_at_call 7; refine (alive_any _).mono ?_; rintro e u ⟨rfl, hb⟩)
    go_ret
    exact ⟨rfl, hb⟩

set_option maxRecDepth 100000 in
theorem lifted (os : Os) (started : os.Started) (H : Type) (enc : TypeId × Value → H) :
    ReturnsInHanded {} Try.checked os 4 .any (Rows.inferUnionsSpec.pre6 enc Try.prog Try.f4 Rows.inferUnionsRow.domain false) (Rows.inferUnionsSpec.post enc Try.prog Try.f4 false true false false) := by
  refine returnsInHanded_of_change (C := Try.checked) own started (by kernel_rfl) Try.func4
    (ChangeSpec.witness6 (enc := enc) (C := Try.checked) false ⟨#[], #[.slice none 0 0], []⟩ 8 (by kernel_rfl) (by kernel_rfl) (by kernel_rfl) (by kernel_rfl)) ?_
  intro W base args ds gs before hval0 hW hcnd _
  have hval : ∀ (j : Nat) t v, Try.f4.params[j]? = some t → args[j]? = some v → Value.okWide Try.prog W .any base t v := hval0
  have hW' := hW
  obtain ⟨p, q, hA0, hV, rfl, hfz, hnd⟩ := hW
  have hA : DataW.TrodAll enc Try.prog W 0 (fun _ => true) true Try.f4.params.toList args.toList ds p := hA0
  rw [Try.params4] at hA hval
  obtain ⟨v0, vs0, d0, ds0, p0, q0, hargs, rfl, rfl, h0, r0⟩ := trodAll_cons hA
  obtain ⟨rfl, rfl, rfl⟩ := trodAll_nil r0
  obtain rfl : args = #[v0] := by cases args; simp_all
  obtain ⟨rfl, rfl⟩ := trodVars_none hV
  have k0 := h0
  have lt0 : ∀ x ∈ p0, x.block < W.heap.size := by obtain ⟨m, hm⟩ := k0; exact DataW.trod_lt m _ _ _ hm
  obtain ⟨ad0, cap0, l0, rfl, w0, hs0, hc0, hm0⟩ := open_sets (hval 0 43 v0 rfl rfl) h0
  clear hA0 hval0
  refine (walk W ad0 cap0 l0 w0 hs0 hc0 hm0).mono fun e W' ⟨he, hg⟩ => ?_
  subst he
  exact ⟨_, rfl, _, _, _, [], _, [], hW', (trodAll_cons_mk (shut_bool Try.underlying4 _) trodAll_mk0), (trodAll_cons_mk (Below.trod laidOut (by kernel_rfl) (of_decide_eq_true (by kernel_rfl)) k0 hg lt0) trodAll_mk0), rfl, hg.frame _, fun h => by cases h⟩

theorem over : Rows.inferUnionsRow.holds Try.pinned (OpenSpec.ofChange Rows.inferUnionsSpec) :=
  OpenClaim.holds_of_wide 4 Try.f4 rfl rfl rfl rfl rfl rfl rfl ⟨rfl, rfl, rfl, rfl, rfl⟩ rfl rfl rfl rfl rfl (by kernel_rfl) Try.func4 (by kernel_rfl)
    (of_decide_eq_true (by kernel_rfl)) (by unfold Func.isWrapper; first | (rw [if_pos (by decide +kernel)]; kernel_rfl) | (rw [if_neg (by decide +kernel)]; exact ⟨rfl, rfl⟩))
    (fun os started H enc _ => lifted os started H enc)

theorem proved : Rows.InferUnionsSaid :=
  over
#print axioms proved
end Go.Proofs.Ytgehmidalfajgaa
