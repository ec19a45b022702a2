/- BagAll: at every two rooms and every script: every call, in every order, of two bags, is what chapter 9 says, behind every step; and the lists that are told share no memory; no condition. -/
import Derived.Test.YtjfbnikbmadgkaaGreatRows
import Derived.WalkKit
import Derived.ProofKit
import Derived.OpenShut
import Derived.Test.YtjfbnikbmadgkaaGreatJnJ2
import Derived.Test.YtjfbnikbmadgkaaGreatJnJ3
namespace Go.Proofs.YtjfbnikbmadgkaaGreat
open Go.ChangeShapes Go.WideShapes Go.ChangeAt Go.RowKit
set_option linter.unusedVariables false

theorem laidOut : laidOutB Tryz.prog = true := by kernel_rfl
theorem own : ownKnob Tryz.prog.godebug = none := by kernel_rfl
open Go.Shelf
set_option maxHeartbeats 4000000 in
set_option maxRecDepth 100000 in
theorem play_C (w : World) (r0 r1 : Int) (ad1 : Option Addr) (cap1 k : Nat) (h : k > 150) (each : Bool) : Calls Tryz.prog 4 #[.agg #[.int .i64 r0, .int .i64 r1], .slice ad1 k cap1, .bool each] w fun e w' => e = .returned (.bool true) ∧ Below w.heap.size w w' := by
  obtain ⟨u0, hu0⟩ : ∃ u0, w.alloc (.cells #[.int .i64 r0, .int .i64 r1] 22) = u0 := ⟨_, rfl⟩
  have hb0 : Below w.heap.size w u0 := by rw [← hu0]; exact al1' _ _
  have hal := alive_any u0
  have hi : (k : Int) > 150 := by omega
  clear h
  go_enter Tryz.func4, Tryz.ntmps4
  go_wp2_with (go_at_call 5; (with_reducible refine hal.mono ?_); rintro e u1 ⟨rfl, hb1⟩)
  go_ret
  exact ⟨rfl, bel2 hb0 hb1⟩
set_option maxHeartbeats 4000000 in
set_option maxRecDepth 100000 in
theorem walk (w : World) (a0 b0 : Int) (wa0 : (Lit.int .i64 a0).wf = true) (wb0 : (Lit.int .i64 b0).wf = true) (ad1 : Option Addr) (cap1 : Nat) (l1 : List Op6) (w1 : RdO w w.heap.size ad1 l1) (hc1 : l1.length ≤ cap1) (hm1 : cap1 ≤ maxLen) :
    Calls Tryz.prog 3 #[.agg #[.int .i64 a0, .int .i64 b0], .slice ad1 l1.length cap1] w fun e w' => e = .returned (.bool true) ∧ Below w.heap.size w w' := by
  obtain ⟨u0, hu0⟩ : ∃ u0, w.alloc (.cells #[.int .i64 a0, .int .i64 b0] 22) = u0 := ⟨_, rfl⟩
  have hb0 : Below w.heap.size w u0 := by rw [← hu0]; exact al1' _ _
  have hr0 : RmB u0 w.heap.size a0 b0 := by rw [← hu0]; exact new_at rfl
  have q0 : u0.cell? ⟨w.heap.size, 0, none⟩ = some (.int .i64 a0) := cell_at hr0 0
  have q1 : u0.cell? ⟨w.heap.size, 1, none⟩ = some (.int .i64 b0) := cell_at hr0 1
  have hw0 : RdO u0 u0.heap.size ad1 l1 := fun n o hn => by
    obtain ⟨b, off, a, c, h1, h2, c0, c1, c2, c3, c4, c5, h3, h4⟩ := w1.carry hb0 n o hn
    refine ⟨b, off, a, c, h1, Nat.lt_of_lt_of_le h2 hb0.size, c0, c1, c2, c3, c4, c5, fun hd => ?_, h4⟩
    obtain ⟨b', off', e1, e2, e3⟩ := h3 hd
    exact ⟨b', off', e1, Nat.lt_of_lt_of_le e2 hb0.size, e3⟩
  have hpl : Calls Tryz.prog 4 #[.agg #[.int .i64 a0, .int .i64 b0], .slice ad1 l1.length cap1, .bool true] u0 fun e w' => e = .returned (.bool true) ∧ Below u0.heap.size u0 w' := by
    by_cases h1 : l1.length > 150
    · exact play_C u0 a0 b0 ad1 cap1 l1.length h1 true
    · exact play_A a0 b0 u0 ad1 cap1 l1 hw0 h1
  go_enter Tryz.func3, Tryz.ntmps3
  go_wp2_with (go_at_call 4; (with_reducible refine hpl.mono ?_); rintro e u1 ⟨rfl, hb1⟩)
  go_ret
  exact ⟨rfl, bel2 hb0 hb1⟩

set_option maxRecDepth 100000 in
theorem lifted (os : Os) (started : os.Started) (H : Type) (enc : TypeId × Value → H) :
    ReturnsInHanded {} Tryz.checked os 3 .any (Rows.bagAllSpec.pre6 enc Tryz.prog Tryz.f3 Rows.bagAllRow.domain false) (Rows.bagAllSpec.post enc Tryz.prog Tryz.f3 false true false false) := by
  refine returnsInHanded_of_change (C := Tryz.checked) own started (by kernel_rfl) Tryz.func3
    (ChangeSpec.witness6 (enc := enc) (C := Tryz.checked) false ⟨#[], #[.agg #[.int .i64 0, .int .i64 0], .slice none 0 0], []⟩ 8 (by kernel_rfl) (by kernel_rfl) (by kernel_rfl) (by kernel_rfl)) ?_
  intro W base args ds gs before hval0 hW hcnd _
  have hval : ∀ (j : Nat) t v, Tryz.f3.params[j]? = some t → args[j]? = some v → Value.okWide Tryz.prog W .any base t v := hval0
  have hW' := hW
  obtain ⟨p, q, hA0, hV, rfl, hfz, hnd⟩ := hW
  have hA : DataW.TrodAll enc Tryz.prog W 0 (fun _ => true) true Tryz.f3.params.toList args.toList ds p := hA0
  rw [Tryz.params3] at hA hval
  obtain ⟨v0, vs0, d0, ds0, p0, q0, hargs, rfl, rfl, h0, r0⟩ := trodAll_cons hA
  obtain ⟨v1, vs1, d1, ds1, p1, q1, rfl, rfl, rfl, h1, r1⟩ := trodAll_cons r0
  obtain ⟨rfl, rfl, rfl⟩ := trodAll_nil r1
  obtain rfl : args = #[v0, v1] := by cases args; simp_all
  obtain ⟨rfl, rfl⟩ := trodVars_none hV
  obtain ⟨a0, b0, rfl, rfl, rfl, wa0, wb0⟩ := open_i2 (hval 0 22 v0 rfl rfl) h0
  have k1 := h1
  have lt1 : ∀ x ∈ p1, x.block < W.heap.size := by obtain ⟨m, hm⟩ := k1; exact DataW.trod_lt m _ _ _ hm
  obtain ⟨ad1, cap1, l1, rfl, w1, hc1, hm1⟩ := open_ops (hval 1 23 v1 rfl rfl) h1
  clear hA0 hval0
  refine (walk W a0 b0 wa0 wb0 ad1 cap1 l1 w1 hc1 hm1).mono fun e W' ⟨he, hg⟩ => ?_
  subst he
  exact ⟨_, rfl, _, _, _, [], _, [], hW', (trodAll_cons_mk (shut_bool Tryz.underlying4 _) trodAll_mk0), (trodAll_cons_mk (shut_i2 wa0 wb0) (trodAll_cons_mk (Below.trod laidOut (by kernel_rfl) (of_decide_eq_true (by kernel_rfl)) k1 hg lt1) trodAll_mk0)), rfl, hg.frame _, fun h => by cases h⟩

theorem over : Rows.bagAllRow.holds Tryz.pinned (OpenSpec.ofChange Rows.bagAllSpec) :=
  OpenClaim.holds_of_wide 3 Tryz.f3 rfl rfl rfl rfl rfl rfl rfl ⟨rfl, rfl, rfl, rfl, rfl⟩ rfl rfl rfl rfl rfl (by kernel_rfl) Tryz.func3 (by kernel_rfl)
    (of_decide_eq_true (by kernel_rfl)) (by unfold Func.isWrapper; first | (rw [if_pos (by decide +kernel)]; kernel_rfl) | (rw [if_neg (by decide +kernel)]; exact ⟨rfl, rfl⟩))
    (fun os started H enc _ => lifted os started H enc)

theorem proved : Rows.BagAllSaid :=
  over
#print axioms proved
end Go.Proofs.YtjfbnikbmadgkaaGreat
