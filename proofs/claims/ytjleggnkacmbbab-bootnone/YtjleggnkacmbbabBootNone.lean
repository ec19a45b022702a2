/- BootNone: at every number: of a zero and of a nil Boot, and of no disk: Next and Raise answer ErrOff and ErrArg, Open of no disk ErrOff, all else is zero; no condition. -/
import Derived.Test.YtjleggnkacmbbabRows
import Derived.WalkKit
import Derived.ProofKit
import Derived.OpenShut
import Derived.Test.YtjleggnkacmbbabBtk
namespace Go.Proofs.Ytjleggnkacmbbab
open Go.ChangeShapes Go.WideShapes Go.ChangeAt Go.RowKit
set_option linter.unusedVariables false


theorem own : ownKnob Try.prog.godebug = none := by kernel_rfl
open Go.Shelf
set_option maxHeartbeats 16000000 in
set_option maxRecDepth 100000 in
theorem walk (a0 : Int) (w0 : (Lit.int .i64 a0).wf = true) (w : World) :
    Calls Try.prog 3 #[.int .i64 a0] w fun e w' => e = .returned (.bool true) ∧ Below w.heap.size w w' := by
  obtain ⟨w0, hw0⟩ : ∃ w0, w.alloc (.cells #[.int .i64 0, .int .i64 0, .int .i64 0, .pointer none, .int .i64 0, .int .i64 0] 29) = w0 := ⟨_, rfl⟩
  have hcur : Below w.heap.size w w0 := by rw [← hw0]; exact al1' _ _
  have hB : Bt w0 w.heap.size none bo0 := by rw [← hw0]; exact new_at rfl
  have hz1 : ∀ V, Bt V w.heap.size none bo0 → Calls Try.prog 4 #[.pointer (some ⟨w.heap.size, 0, none⟩)] V fun e w' => e = .returned (.tuple #[.int .i64 0, .int .i64 100]) ∧ Below V.heap.size V w' := fun V hV => next_of _ 100 (by decide) fun V' hb => ready_z (hV.carry hb)
  have hz2 : ∀ V, Bt V w.heap.size none bo0 → Calls Try.prog 5 #[.pointer (some ⟨w.heap.size, 0, none⟩), .int .i64 a0] V fun e w' => e = .returned (.int .i64 100) ∧ Below V.heap.size V w' := fun V hV => raise_of _ a0 100 (by decide) fun V' hb => ready_z (hV.carry hb)
  have hn1 : ∀ V, Calls Try.prog 4 #[.pointer none] V fun e w' => e = .returned (.tuple #[.int .i64 0, .int .i64 1]) ∧ Below V.heap.size V w' := fun V => next_of _ 1 (by decide) fun V' _ => ready_n V'
  have hn2 : ∀ V, Calls Try.prog 5 #[.pointer none, .int .i64 a0] V fun e w' => e = .returned (.int .i64 1) ∧ Below V.heap.size V w' := fun V => raise_of _ a0 1 (by decide) fun V' _ => ready_n V'
  have hz3 : ∀ V, Bt V w.heap.size none bo0 → Calls Try.prog 8 #[.pointer (some ⟨w.heap.size, 0, none⟩)] V fun e w' => e = .returned (.int .i64 0) ∧ Below V.heap.size V w' := fun V hV => life_any hV
  have hz4 : ∀ V, Bt V w.heap.size none bo0 → Calls Try.prog 9 #[.pointer (some ⟨w.heap.size, 0, none⟩)] V fun e w' => e = .returned (.int .i64 0) ∧ w' = V := fun V hV => bround_any hV
  have hz5 : ∀ V, Bt V w.heap.size none bo0 → Calls Try.prog 10 #[.pointer (some ⟨w.heap.size, 0, none⟩)] V fun e w' => e = .returned (.int .i64 0) ∧ w' = V := fun V hV => btag_any hV
  have hz6 : ∀ V, Bt V w.heap.size none bo0 → Calls Try.prog 11 #[.pointer (some ⟨w.heap.size, 0, none⟩)] V fun e w' => e = .returned (.agg #[.int .i64 0, .int .i64 0, .int .i64 0]) ∧ Below V.heap.size V w' := fun V hV => durable_any hV
  have hal := alive_any
  have hop := open_n
  have hn3 := life_n
  have hn4 := round_n
  have hn5 := tag_n
  have hn6 := durable_n
  go_enter Try.func3, Try.ntmps3
  go_wp2_with (first | (go_at_call 4; (with_reducible refine (hz1 _ hB).mono ?_); rintro e u1 ⟨rfl, hu⟩; replace hB := hB.carry hu; replace hcur := bel2 hcur hu; clear hu) | (go_at_call 4; (with_reducible refine (hn1 _).mono ?_); rintro e u2 ⟨rfl, hu⟩; replace hB := hB.carry hu; replace hcur := bel2 hcur hu; clear hu) | (go_at_call 5; (with_reducible refine (hz2 _ hB).mono ?_); rintro e u3 ⟨rfl, hu⟩; replace hB := hB.carry hu; replace hcur := bel2 hcur hu; clear hu) | (go_at_call 5; (with_reducible refine (hn2 _).mono ?_); rintro e u4 ⟨rfl, hu⟩; replace hB := hB.carry hu; replace hcur := bel2 hcur hu; clear hu) | (go_at_call 6; (with_reducible refine (hop _).mono ?_); rintro e u5 ⟨rfl, hu⟩; replace hB := hB.carry hu; replace hcur := bel2 hcur hu; clear hu) | (go_at_call 7; (with_reducible refine (hal _).mono ?_); rintro e u6 ⟨rfl, hu⟩; replace hB := hB.carry hu; replace hcur := bel2 hcur hu; clear hu) | (go_at_call 8; (with_reducible refine (hz3 _ hB).mono ?_); rintro e u7 ⟨rfl, hu⟩; replace hB := hB.carry hu; replace hcur := bel2 hcur hu; clear hu) | (go_at_call 8; (with_reducible refine (hn3 _).mono ?_); rintro e u8 ⟨rfl, hu⟩; replace hB := hB.carry hu; replace hcur := bel2 hcur hu; clear hu) | (go_at_call 9; (with_reducible refine (hz4 _ hB).mono ?_); rintro e u9 ⟨rfl, hu⟩; obtain rfl := hu.symm) | (go_at_call 9; (with_reducible refine (hn4 _).mono ?_); rintro e u10 ⟨rfl, hu⟩; obtain rfl := hu.symm) | (go_at_call 10; (with_reducible refine (hz5 _ hB).mono ?_); rintro e u11 ⟨rfl, hu⟩; obtain rfl := hu.symm) | (go_at_call 10; (with_reducible refine (hn5 _).mono ?_); rintro e u12 ⟨rfl, hu⟩; obtain rfl := hu.symm) | (go_at_call 11; (with_reducible refine (hz6 _ hB).mono ?_); rintro e u13 ⟨rfl, hu⟩; replace hB := hB.carry hu; replace hcur := bel2 hcur hu; clear hu) | (go_at_call 11; (with_reducible refine (hn6 _).mono ?_); rintro e u14 ⟨rfl, hu⟩; replace hB := hB.carry hu; replace hcur := bel2 hcur hu; clear hu))
  go_ret
  exact ⟨rfl, hcur⟩

set_option maxRecDepth 100000 in
theorem lifted (os : Os) (started : os.Started) (H : Type) (enc : TypeId × Value → H) :
    ReturnsInHanded {} Try.checked os 3 .any (Rows.bootNoneSpec.pre6 enc Try.prog Try.f3 Rows.bootNoneRow.domain false) (Rows.bootNoneSpec.post enc Try.prog Try.f3 false true false false) := by
  refine returnsInHanded_of_change (C := Try.checked) own started (by kernel_rfl) Try.func3
    (ChangeSpec.witness6 (enc := enc) (C := Try.checked) false ⟨#[], #[.int .i64 0], []⟩ 8 (by kernel_rfl) (by kernel_rfl) (by kernel_rfl) (by kernel_rfl)) ?_
  intro W base args ds gs before hval0 hW hcnd _
  have hval : ∀ (j : Nat) t v, Try.f3.params[j]? = some t → args[j]? = some v → Value.okWide Try.prog W .any base t v := hval0
  have hW' := hW
  obtain ⟨p, q, hA0, hV, rfl, hfz, hnd⟩ := hW
  have hA : DataW.TrodAll enc Try.prog W 0 (fun _ => true) true Try.f3.params.toList args.toList ds p := hA0
  rw [Try.params3] at hA hval
  obtain ⟨v0, vs0, d0, ds0, p0, q0, hargs, rfl, rfl, h0, r0⟩ := trodAll_cons hA
  obtain ⟨rfl, rfl, rfl⟩ := trodAll_nil r0
  obtain rfl : args = #[v0] := by cases args; simp_all
  obtain ⟨rfl, rfl⟩ := trodVars_none hV
  obtain ⟨a0, rfl, rfl, rfl, w0⟩ := open_int Try.underlying3 (hval 0 3 v0 rfl rfl) h0
  clear hA0 hval0
  simp only [List.append_nil] at hW'
  refine (walk a0 w0 W).mono fun e W' ⟨he, hg⟩ => ?_
  subst he
  exact ⟨_, rfl, _, _, _, [], _, [], hW', (trodAll_cons_mk (shut_bool Try.underlying4 _) trodAll_mk0), (trodAll_cons_mk (shut_int Try.underlying3 w0) trodAll_mk0), rfl, hg.frame _, fun h => by cases h⟩

theorem over : Rows.bootNoneRow.holds Try.pinned (OpenSpec.ofChange Rows.bootNoneSpec) :=
  OpenClaim.holds_of_wide 3 Try.f3 rfl rfl rfl rfl rfl rfl rfl ⟨rfl, rfl, rfl, rfl, rfl⟩ rfl rfl rfl rfl rfl (by kernel_rfl) Try.func3 (by kernel_rfl)
    (of_decide_eq_true (by kernel_rfl)) (by unfold Func.isWrapper; first | (rw [if_pos (by decide +kernel)]; kernel_rfl) | (rw [if_neg (by decide +kernel)]; exact ⟨rfl, rfl⟩))
    (fun os started H enc _ => lifted os started H enc)

theorem proved : Rows.BootNoneSaid :=
  over
#print axioms proved
end Go.Proofs.Ytjleggnkacmbbab
