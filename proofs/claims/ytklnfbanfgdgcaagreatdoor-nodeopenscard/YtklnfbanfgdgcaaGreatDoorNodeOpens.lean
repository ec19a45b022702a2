/- NodeOpens (promise P1701): Open, over a disk with any record, answers as the document says, the disk too; and what is seen of the node then. For every input; nothing is asked of it. -/
import Derived.Test.YtklnfbanfgdgcaaGreatDoorRows
import Derived.WalkKit
import Derived.ProofKit
import Derived.OpenShut
import Derived.Stop.Joined
import Derived.Lay
import Derived.SevenTiedAt
import Derived.SizedLaws
import Derived.LaidMore
import Derived.Test.YtklnfbanfgdgcaaGreatDoorTie
import Derived.Test.YtklnfbanfgdgcaaGreatDoorCards
import Derived.Test.YtklnfbanfgdgcaaGreatDoorJnJ48
import Derived.Test.YtklnfbanfgdgcaaGreatDoorJnJ45
import Derived.Test.YtklnfbanfgdgcaaGreatDoorJnJ49
namespace Go.Proofs.YtklnfbanfgdgcaaGreatDoor
open Go.ChangeShapes Go.WideShapes Go.ChangeAt Go.RowKit
set_option linter.unusedVariables false

theorem laidOut : laidOutB Tryz.prog = true := by kernel_rfl
theorem own : ownKnob Tryz.prog.godebug = none := by kernel_rfl
open Go.Shelf Go.Lib
theorem walk (w : World) (a0 b0 c0 q0 : Int) (r0 : Rec) (wa0 : (Lit.int .i64 a0).wf = true) (wb0 : (Lit.int .i64 b0).wf = true) (wc0 : (Lit.int .i64 c0).wf = true) (wq0 : (Lit.int .i64 q0).wf = true) (wo0 : (Lit.int .i64 r0.li).wf = true) (wt0 : (Lit.int .i64 r0.ro).wf = true) (wk0 : (Lit.int .i64 r0.ta).wf = true) (ad0 : Option Addr) (len0 cap0 : Nat) (hL : laidMetH Tryz.prog Rows.nodeOpensRow.laid w) :
    Calls Tryz.prog 3 #[.agg #[.int .i64 a0, .int .i64 b0, .int .i64 c0, .int .i64 q0, .int .i64 r0.li, .int .i64 r0.ro, .int .i64 r0.ta, .slice ad0 len0 cap0]] w fun e w' => e = .returned (.bool true) ∧ Below w.heap.size w w' := by
  exact opens_in w a0 b0 c0 q0 r0 ad0 len0 cap0

set_option maxRecDepth 100000 in
theorem lifted (os : Os) (started : os.Started) (H : Type) (enc : TypeId × Value → H) :
    ReturnsInHanded {} Tryz.checked os 3 .any (fun w args => (Rows.nodeOpensSpec.pre enc Tryz.prog Tryz.f3 [] false w args ∧ laidMetH Tryz.prog Rows.nodeOpensRow.laid w) ∧ sizedMet enc Tryz.prog Tryz.f3 (OpenSpec.ofChange Rows.nodeOpensSpec) false w args)
      (Rows.nodeOpensSpec.post enc Tryz.prog Tryz.f3 false true false false) := by
  refine returnsInHanded_of_change_and (C := Tryz.checked) (X := fun w _ => laidMetH Tryz.prog Rows.nodeOpensRow.laid w) (fun _ _ _ hh h => h.of_heap hh) own started (by kernel_rfl) Tryz.func3
    (ChangeSpec.witness_shaped (enc := enc) (C := Tryz.checked) (os := os) (X := fun w _ => laidMetH Tryz.prog Rows.nodeOpensRow.laid w) false (world3 os) #[.agg #[.int .i64 0, .int .i64 0, .int .i64 0, .int .i64 0, .int .i64 0, .int .i64 0, .int .i64 0, .slice none 0 0]] 8 (world3_os _)
      (World.shaped_of_ZipB (by as_aux_lemma => kernel_rfl) (by as_aux_lemma => kernel_rfl)) (by as_aux_lemma => kernel_rfl) (by as_aux_lemma => kernel_rfl) (by as_aux_lemma => kernel_rfl)
      (world3_met os _)) ?_
  intro W base args ds gs before hval0 hW _ hsz hL _
  have hval : ∀ (j : Nat) t v, Tryz.f3.params[j]? = some t → args[j]? = some v → Value.okWide Tryz.prog W .any base t v := hval0
  have hW' := hW
  obtain ⟨p, q, hA0, hV, rfl, hfz, hnd⟩ := hW
  have hA : DataW.TrodAll enc Tryz.prog W 0 (fun _ => true) true Tryz.f3.params.toList args.toList ds p := hA0
  rw [Tryz.params3] at hA hval
  obtain ⟨v0, vs0, d0, ds0, p0, q0, hargs, rfl, rfl, h0, r0⟩ := trodAll_cons hA
  obtain ⟨rfl, rfl, rfl⟩ := trodAll_nil r0
  obtain rfl : args = #[v0] := by cases args; simp_all
  obtain ⟨rfl, rfl⟩ := trodVars_none hV
  have k0 := h0
  have lt0 : ∀ x ∈ p0, x.block < W.heap.size := by obtain ⟨m, hm⟩ := k0; exact DataW.trod_lt m _ _ _ hm
  obtain ⟨a0, b0, c0, q0, o0, t0, u0, ad0, len0, cap0, rfl, wa0, wb0, wc0, wq0, wo0, wt0, wk0⟩ := open_ask (hval 0 26 v0 rfl rfl) h0
  clear hA0 hval0
  refine (walk W a0 b0 c0 q0 ⟨o0, t0, u0⟩ wa0 wb0 wc0 wq0 wo0 wt0 wk0 ad0 len0 cap0 hL).mono fun e W' ⟨he, hg⟩ => ?_
  subst he
  exact ⟨_, rfl, _, _, _, [], _, [], hW', (trodAll_cons_mk (shut_bool Tryz.underlying4 _) trodAll_mk0), (trodAll_cons_mk (Below.trod laidOut (by kernel_rfl) (of_decide_eq_true (by kernel_rfl)) k0 hg lt0) trodAll_mk0), rfl, hg.frame _, fun h => by cases h⟩

theorem over : Rows.nodeOpensRow.holds Tryz.pinned (OpenSpec.ofChange Rows.nodeOpensSpec) :=
  OpenClaim.holds_of_wide 3 Tryz.f3 rfl rfl rfl rfl rfl rfl rfl ⟨rfl, rfl, rfl, rfl, rfl⟩ rfl rfl rfl rfl rfl (by kernel_rfl) Tryz.func3 closed
    (of_decide_eq_true (by kernel_rfl)) (by unfold Func.isWrapper; first | (rw [if_pos (by decide +kernel)]; kernel_rfl) | (rw [if_neg (by decide +kernel)]; exact ⟨rfl, rfl⟩))
    (fun os started H enc _ => lifted os started H enc)

theorem row_proved : Rows.NodeOpensSaid :=
  over
theorem proved : Rows.NodeOpensCardSaid :=
  Claim7.holds_tied_plain_at .later [] [.data, .handle, .sentinel] true (true, "776cde76980ef99acdcee8b7a31ecee7aa9f010c483812c2b935e5e4d3017353") true
    row_proved (fun _ h => by cases h) (by kernel_rfl) (fun _ h => by cases h) nodeOpens_row_tie rfl ⟨rfl, rfl⟩ (by kernel_rfl) rfl
    (fun f fn hf hfn => by
      obtain rfl : f = 3 := Option.some.inj ((show Tryz.prog.funcNamed "earshot/earshotlaw17.NodeOpens" = some 3 by kernel_rfl).symm.trans hf) |>.symm
      obtain rfl : fn = Tryz.f3 := (Option.some.inj (Tryz.func3.symm.trans hfn)).symm
      exact ⟨by kernel_rfl, fun j t ht => by
        rw [Tryz.params3] at ht
        rcases j with _ | j
        · have e : t = 26 := by simpa using ht.symm
          subst e
          exact (show Tryz.prog.wantsStandIn 26 = false by kernel_rfl)
        simp at ht⟩)
    (by kernel_rfl)
#print axioms proved
end Go.Proofs.YtklnfbanfgdgcaaGreatDoor
