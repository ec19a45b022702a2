/- BootRounds: at every list of lives: rounds that are handed out rise, over all lives on one disk, whatever the power does; no condition. -/
import Derived.Test.YtjleggnkacmbbaaRows
import Derived.WalkKit
import Derived.ProofKit
import Derived.OpenShut
import Derived.Test.YtjleggnkacmbbaaBtj
namespace Go.Proofs.Ytjleggnkacmbbaa
open Go.ChangeShapes Go.WideShapes Go.ChangeAt Go.RowKit
set_option linter.unusedVariables false

theorem laidOut : laidOutB Try.prog = true := by kernel_rfl
theorem own : ownKnob Try.prog.godebug = none := by kernel_rfl
open Go.Shelf
set_option maxHeartbeats 4000000 in
set_option maxRecDepth 100000 in
theorem walk (w : World) (ad0 : Option Addr) (cap0 : Nat) (l0 : List Lf) (w0 : RdL w w.heap.size ad0 l0) (hc0 : l0.length ≤ cap0) (hm0 : cap0 ≤ maxLen) :
    Calls Try.prog 3 #[.slice ad0 l0.length cap0] w fun e w' => e = .returned (.bool true) ∧ Below w.heap.size w w' := by
  have hal := alive_any
  by_cases h30 : 30 < l0.length
  · have h30i : (30 : Int) < (l0.length : Int) := by omega
    go_enter Try.func3, Try.ntmps3
    go_wp2_with (go_at_call 9; (with_reducible refine (hal _).mono ?_); rintro e uv ⟨rfl, hbv⟩)
    go_ret
    exact ⟨rfl, hbv⟩
  have h30i : ¬ (30 : Int) < (l0.length : Int) := by omega
  have hli := fun V (hV : Below w.heap.size w V) => lives_any V ad0 cap0 l0 (fun n o h => by obtain ⟨b, off, e1, e2, e3, e4⟩ := w0 n o h; exact ⟨b, off, e1, Nat.lt_of_lt_of_le e2 hV.size, e3.carry hV e2, e4⟩) (by omega) 1
  go_enter Try.func3, Try.ntmps3
  go_wp2_with (first | (go_at_call 9; (with_reducible refine (hal _).mono ?_); rintro e uv ⟨rfl, hbv⟩; have hl2 := hli _ hbv) | (go_at_call 10; (with_reducible refine hl2.mono ?_); rintro e uz ⟨rfl, hbz⟩))
  go_ret
  exact ⟨rfl, hbv.trans (hbz.mono hbv.size)⟩

set_option maxRecDepth 100000 in
theorem lifted (os : Os) (started : os.Started) (H : Type) (enc : TypeId × Value → H) :
    ReturnsInHanded {} Try.checked os 3 .any (Rows.bootRoundsSpec.pre6 enc Try.prog Try.f3 Rows.bootRoundsRow.domain false) (Rows.bootRoundsSpec.post enc Try.prog Try.f3 false true false false) := by
  refine returnsInHanded_of_change (C := Try.checked) own started (by kernel_rfl) Try.func3
    (ChangeSpec.witness6 (enc := enc) (C := Try.checked) false ⟨#[], #[.slice none 0 0], []⟩ 8 (by kernel_rfl) (by kernel_rfl) (by kernel_rfl) (by kernel_rfl)) ?_
  intro W base args ds gs before hval0 hW hcnd _
  have hval : ∀ (j : Nat) t v, Try.f3.params[j]? = some t → args[j]? = some v → Value.okWide Try.prog W .any base t v := hval0
  have hW' := hW
  obtain ⟨p, q, hA0, hV, rfl, hfz, hnd⟩ := hW
  have hA : DataW.TrodAll enc Try.prog W 0 (fun _ => true) true Try.f3.params.toList args.toList ds p := hA0
  rw [Try.params3] at hA hval
  obtain ⟨v0, vs0, d0, ds0, p0, q0, hargs, rfl, rfl, h0, r0⟩ := trodAll_cons hA
  obtain ⟨rfl, rfl, rfl⟩ := trodAll_nil r0
  obtain rfl : args = #[v0] := by cases args; simp_all
  obtain ⟨rfl, rfl⟩ := trodVars_none hV
  have k0 := h0
  have lt0 : ∀ x ∈ p0, x.block < W.heap.size := by obtain ⟨m, hm⟩ := k0; exact DataW.trod_lt m _ _ _ hm
  obtain ⟨ad0, cap0, l0, rfl, w0, hc0, hm0⟩ := open_lives (hval 0 22 v0 rfl rfl) h0
  clear hA0 hval0
  refine (walk W ad0 cap0 l0 w0 hc0 hm0).mono fun e W' ⟨he, hg⟩ => ?_
  subst he
  exact ⟨_, rfl, _, _, _, [], _, [], hW', (trodAll_cons_mk (shut_bool Try.underlying4 _) trodAll_mk0), (trodAll_cons_mk (Below.trod laidOut (by kernel_rfl) (of_decide_eq_true (by kernel_rfl)) k0 hg lt0) trodAll_mk0), rfl, hg.frame _, fun h => by cases h⟩

theorem over : Rows.bootRoundsRow.holds Try.pinned (OpenSpec.ofChange Rows.bootRoundsSpec) :=
  OpenClaim.holds_of_wide 3 Try.f3 rfl rfl rfl rfl rfl rfl rfl ⟨rfl, rfl, rfl, rfl, rfl⟩ rfl rfl rfl rfl rfl (by kernel_rfl) Try.func3 (by kernel_rfl)
    (of_decide_eq_true (by kernel_rfl)) (by unfold Func.isWrapper; first | (rw [if_pos (by decide +kernel)]; kernel_rfl) | (rw [if_neg (by decide +kernel)]; exact ⟨rfl, rfl⟩))
    (fun os started H enc _ => lifted os started H enc)

theorem proved : Rows.BootRoundsSaid :=
  over
#print axioms proved
end Go.Proofs.Ytjleggnkacmbbaa
