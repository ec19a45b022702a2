/- BootAll: at every record, every seq and every script: the same play, and behind every step all is looked at; no condition. -/
import Derived.Test.YtjleggnkacmbbaaRows
import Derived.WalkKit
import Derived.ProofKit
import Derived.OpenShut
import Derived.Test.YtjleggnkacmbbaaPym
import Derived.Test.YtjleggnkacmbbaaOpr
namespace Go.Proofs.Ytjleggnkacmbbaa
open Go.ChangeShapes Go.WideShapes Go.ChangeAt Go.RowKit
set_option linter.unusedVariables false

theorem laidOut : laidOutB Try.prog = true := by kernel_rfl
theorem own : ownKnob Try.prog.godebug = none := by kernel_rfl
open Go.Shelf
set_option maxHeartbeats 4000000 in
set_option maxRecDepth 100000 in
theorem play_long (w : World) (first : Rec) (seq : Int) (ad : Option Addr) (cap n : Nat) (hl : 100 < n) : Calls Try.prog 17 #[rV first, .int .i64 seq, .slice ad n cap, .bool true] w fun e w' => e = .returned (.bool true) ∧ Below w.heap.size w w' := by
  have hal := alive_any
  have hli : (100 : Int) < (n : Int) := by omega
  unfold rV
  obtain ⟨wA, hwA⟩ : ∃ wA, w.alloc (.cells #[.int .i64 first.li, .int .i64 first.ro, .int .i64 first.ta] 36) = wA := ⟨_, rfl⟩
  have hbA : Below w.heap.size w wA := by rw [← hwA]; exact al1' _ _
  go_enter Try.func17, Try.ntmps17
  go_wp2_with (go_at_call 9; (with_reducible refine (hal _).mono ?_); rintro e uv ⟨rfl, hbv⟩)
  go_ret
  exact ⟨rfl, bel2 hbA hbv⟩
theorem play_any (w : World) (first : Rec) (seq : Int) (ad : Option Addr) (cap : Nat) (l : List Ob) (w1 : RdH w w.heap.size ad l) : Calls Try.prog 17 #[rV first, .int .i64 seq, .slice ad l.length cap, .bool true] w fun e w' => e = .returned (.bool true) ∧ Below w.heap.size w w' := by
  by_cases hl : 100 < l.length
  · exact play_long w first seq ad cap _ hl
  by_cases hf : Fit first seq
  · exact play_tF w first seq ad cap l w1 (by omega) hf
  · exact play_tN w first seq ad cap l w1 (by omega) hf
set_option maxHeartbeats 4000000 in
set_option maxRecDepth 100000 in
theorem walk (w : World) (r0 : Rec) (wo0 : (Lit.int .i64 r0.li).wf = true) (wt0 : (Lit.int .i64 r0.ro).wf = true) (wk0 : (Lit.int .i64 r0.ta).wf = true) (a1 : Int) (w1 : (Lit.int .i64 a1).wf = true) (ad2 : Option Addr) (cap2 : Nat) (l2 : List Ob) (w2 : RdH w w.heap.size ad2 l2) (hc2 : l2.length ≤ cap2) (hm2 : cap2 ≤ maxLen) :
    Calls Try.prog 8 #[rV r0, .int .i64 a1, .slice ad2 l2.length cap2] w fun e w' => e = .returned (.bool true) ∧ Below w.heap.size w w' := by
  obtain ⟨wA, hwA⟩ : ∃ wA, w.alloc (.cells #[.int .i64 r0.li, .int .i64 r0.ro, .int .i64 r0.ta] 36) = wA := ⟨_, rfl⟩
  have hbA : Below w.heap.size w wA := by rw [← hwA]; exact al1' _ _
  have hrec : wA.heap[w.heap.size]? = some (.cells #[.int .i64 r0.li, .int .i64 r0.ro, .int .i64 r0.ta] 36 (0, 0)) := by rw [← hwA]; exact new_at rfl
  have hpl := play_any wA r0 a1 ad2 cap2 l2 (fun n o h => by obtain ⟨b, off, e1, e2, e3, e4⟩ := w2 n o h; exact ⟨b, off, e1, Nat.lt_of_lt_of_le e2 hbA.size, e3.carry hbA e2, e4⟩)
  unfold rV at hpl ⊢
  go_enter Try.func8, Try.ntmps8
  go_wp2_with (first | (refine wpList_load_row rfl 36 (.tmp 3) rfl w.heap.size rfl 36 _ (0, 0) _ hrec undR rfl infoR ?_) | (go_at_call 17; (with_reducible refine hpl.mono ?_); rintro e uv ⟨rfl, hbv⟩))
  go_ret
  exact ⟨rfl, bel2 hbA hbv⟩

set_option maxRecDepth 100000 in
theorem lifted (os : Os) (started : os.Started) (H : Type) (enc : TypeId × Value → H) :
    ReturnsInHanded {} Try.checked os 8 .any (Rows.bootAllSpec.pre6 enc Try.prog Try.f8 Rows.bootAllRow.domain false) (Rows.bootAllSpec.post enc Try.prog Try.f8 false true false false) := by
  refine returnsInHanded_of_change (C := Try.checked) own started (by kernel_rfl) Try.func8
    (ChangeSpec.witness6 (enc := enc) (C := Try.checked) false ⟨#[], #[.agg #[.int .i64 0, .int .i64 0, .int .i64 0], .int .i64 0, .slice none 0 0], []⟩ 8 (by kernel_rfl) (by kernel_rfl) (by kernel_rfl) (by kernel_rfl)) ?_
  intro W base args ds gs before hval0 hW hcnd _
  have hval : ∀ (j : Nat) t v, Try.f8.params[j]? = some t → args[j]? = some v → Value.okWide Try.prog W .any base t v := hval0
  have hW' := hW
  obtain ⟨p, q, hA0, hV, rfl, hfz, hnd⟩ := hW
  have hA : DataW.TrodAll enc Try.prog W 0 (fun _ => true) true Try.f8.params.toList args.toList ds p := hA0
  rw [Try.params8] at hA hval
  obtain ⟨v0, vs0, d0, ds0, p0, q0, hargs, rfl, rfl, h0, r0⟩ := trodAll_cons hA
  obtain ⟨v1, vs1, d1, ds1, p1, q1, rfl, rfl, rfl, h1, r1⟩ := trodAll_cons r0
  obtain ⟨v2, vs2, d2, ds2, p2, q2, rfl, rfl, rfl, h2, r2⟩ := trodAll_cons r1
  obtain ⟨rfl, rfl, rfl⟩ := trodAll_nil r2
  obtain rfl : args = #[v0, v1, v2] := by cases args; simp_all
  obtain ⟨rfl, rfl⟩ := trodVars_none hV
  obtain ⟨o0, t0, k0, rfl, rfl, rfl, wo0, wt0, wk0⟩ := open_rec (hval 0 36 v0 rfl rfl) h0
  obtain ⟨a1, rfl, rfl, rfl, w1⟩ := open_int Try.underlying3 (hval 1 3 v1 rfl rfl) h1
  have k2 := h2
  have lt2 : ∀ x ∈ p2, x.block < W.heap.size := by obtain ⟨m, hm⟩ := k2; exact DataW.trod_lt m _ _ _ hm
  obtain ⟨ad2, cap2, l2, rfl, w2, hc2, hm2⟩ := open_obs (hval 2 39 v2 rfl rfl) h2
  clear hA0 hval0
  refine (walk W ⟨o0, t0, k0⟩ wo0 wt0 wk0 a1 w1 ad2 cap2 l2 w2 hc2 hm2).mono fun e W' ⟨he, hg⟩ => ?_
  subst he
  exact ⟨_, rfl, _, _, _, [], _, [], hW', (trodAll_cons_mk (shut_bool Try.underlying4 _) trodAll_mk0), (trodAll_cons_mk (shut_rec wo0 wt0 wk0) (trodAll_cons_mk (shut_int Try.underlying3 w1) (trodAll_cons_mk (Below.trod laidOut (by kernel_rfl) (of_decide_eq_true (by kernel_rfl)) k2 hg lt2) trodAll_mk0))), rfl, hg.frame _, fun h => by cases h⟩

theorem over : Rows.bootAllRow.holds Try.pinned (OpenSpec.ofChange Rows.bootAllSpec) :=
  OpenClaim.holds_of_wide 8 Try.f8 rfl rfl rfl rfl rfl rfl rfl ⟨rfl, rfl, rfl, rfl, rfl⟩ rfl rfl rfl rfl rfl (by kernel_rfl) Try.func8 (by kernel_rfl)
    (of_decide_eq_true (by kernel_rfl)) (by unfold Func.isWrapper; first | (rw [if_pos (by decide +kernel)]; kernel_rfl) | (rw [if_neg (by decide +kernel)]; exact ⟨rfl, rfl⟩))
    (fun os started H enc _ => lifted os started H enc)

theorem proved : Rows.BootAllSaid :=
  over
#print axioms proved
end Go.Proofs.Ytjleggnkacmbbaa
