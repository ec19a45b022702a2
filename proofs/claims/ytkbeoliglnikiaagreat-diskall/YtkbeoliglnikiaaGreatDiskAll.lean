/- DiskAll: at every image and script: each call, and what both are behind it, is what chapter 10 says; the lists that are handed out lie apart. -/
import Derived.Test.YtkbeoliglnikiaaGreatRows
import Derived.WalkKit
import Derived.ProofKit
import Derived.OpenShut
import Derived.Test.YtkbeoliglnikiaaGreatDsm
import Derived.Test.YtkbeoliglnikiaaGreatOpq
namespace Go.Proofs.YtkbeoliglnikiaaGreat
open Go.ChangeShapes Go.WideShapes Go.ChangeAt Go.RowKit
set_option linter.unusedVariables false

theorem laidOut : laidOutB Tryz.prog = true := by kernel_rfl
theorem own : ownKnob Tryz.prog.godebug = none := by kernel_rfl
open Go.Shelf
set_option maxHeartbeats 4000000 in
set_option maxRecDepth 100000 in
theorem play_C (w : World) (ad0 : Option Addr) (cap0 n : Nat) (ad1 : Option Addr) (cap1 k : Nat) (h : k > 150 ∨ (¬ k > 150 ∧ n > 1000)) : Calls Tryz.prog 4 #[.slice ad0 n cap0, .slice ad1 k cap1, .bool true] w fun e w' => e = .returned (.bool true) ∧ Below w.heap.size w w' := by
  have hal := alive_any w
  rcases h with h | ⟨h1, h⟩
  · have hi : (k : Int) > 150 := by omega
    clear h
    go_enter Tryz.func4, Tryz.ntmps4
    go_wp2_with (go_at_call 5; (with_reducible refine hal.mono ?_); rintro e u1 ⟨rfl, hb1⟩)
    go_ret
    exact ⟨rfl, hb1⟩
  · have hi : ¬ (k : Int) > 150 := by omega
    have hj : (n : Int) > 1000 := by omega
    clear h h1
    go_enter Tryz.func4, Tryz.ntmps4
    go_wp2_with (go_at_call 5; (with_reducible refine hal.mono ?_); rintro e u1 ⟨rfl, hb1⟩)
    go_ret
    exact ⟨rfl, hb1⟩
set_option maxHeartbeats 4000000 in
set_option maxRecDepth 100000 in
theorem walk (w : World) (ad0 : Option Addr) (cap0 : Nat) (l0 : List Nat) (w0 : RdB w ad0 l0) (hb0 : Byt l0) (hc0 : l0.length ≤ cap0) (hm0 : cap0 ≤ maxLen) (ad1 : Option Addr) (cap1 : Nat) (l1 : List Op4) (w1 : RdO w w.heap.size ad1 l1) (hc1 : l1.length ≤ cap1) (hm1 : cap1 ≤ maxLen) :
    Calls Tryz.prog 3 #[.slice ad0 l0.length cap0, .slice ad1 l1.length cap1] w fun e w' => e = .returned (.bool true) ∧ Below w.heap.size w w' := by
  have hpl : Calls Tryz.prog 4 #[.slice ad0 l0.length cap0, .slice ad1 l1.length cap1, .bool true] w fun e w' => e = .returned (.bool true) ∧ Below w.heap.size w w' := by
    by_cases h1 : l1.length > 150
    · exact play_C w ad0 cap0 l0.length ad1 cap1 l1.length (.inl h1)
    · by_cases h2 : l0.length > 1000
      · exact play_C w ad0 cap0 l0.length ad1 cap1 l1.length (.inr ⟨h1, h2⟩)
      · by_cases h3 : l0.length = 256
        · exact play_A w ad0 cap0 l0 w0 hb0 hc0 ad1 cap1 l1 w1 (by omega) h3
        · exact play_B w ad0 cap0 l0.length ad1 cap1 l1 w1 (by omega) h3 (by omega)
  go_enter Tryz.func3, Tryz.ntmps3
  go_wp2_with (go_at_call 4; (with_reducible refine hpl.mono ?_); rintro e u1 ⟨rfl, hb1⟩)
  go_ret
  exact ⟨rfl, hb1⟩

set_option maxRecDepth 100000 in
theorem lifted (os : Os) (started : os.Started) (H : Type) (enc : TypeId × Value → H) :
    ReturnsInHanded {} Tryz.checked os 3 .any (Rows.diskAllSpec.pre6 enc Tryz.prog Tryz.f3 Rows.diskAllRow.domain false) (Rows.diskAllSpec.post enc Tryz.prog Tryz.f3 false true false false) := by
  refine returnsInHanded_of_change (C := Tryz.checked) own started (by kernel_rfl) Tryz.func3
    (ChangeSpec.witness6 (enc := enc) (C := Tryz.checked) false ⟨#[], #[.slice none 0 0, .slice none 0 0], []⟩ 8 (by kernel_rfl) (by kernel_rfl) (by kernel_rfl) (by kernel_rfl)) ?_
  intro W base args ds gs before hval0 hW hcnd _
  have hval : ∀ (j : Nat) t v, Tryz.f3.params[j]? = some t → args[j]? = some v → Value.okWide Tryz.prog W .any base t v := hval0
  have hW' := hW
  obtain ⟨p, q, hA0, hV, rfl, hfz, hnd⟩ := hW
  have hA : DataW.TrodAll enc Tryz.prog W 0 (fun _ => true) true Tryz.f3.params.toList args.toList ds p := hA0
  rw [Tryz.params3] at hA hval
  obtain ⟨v0, vs0, d0, ds0, p0, q0, hargs, rfl, rfl, h0, r0⟩ := trodAll_cons hA
  obtain ⟨v1, vs1, d1, ds1, p1, q1, rfl, rfl, rfl, h1, r1⟩ := trodAll_cons r0
  obtain ⟨rfl, rfl, rfl⟩ := trodAll_nil r1
  obtain rfl : args = #[v0, v1] := by cases args; simp_all
  obtain ⟨rfl, rfl⟩ := trodVars_none hV
  have k0 := h0
  have lt0 : ∀ x ∈ p0, x.block < W.heap.size := by obtain ⟨m, hm⟩ := k0; exact DataW.trod_lt m _ _ _ hm
  obtain ⟨ad0, cap0, l0, rfl, w0, hb0, hc0, hm0⟩ := open_bytes (hval 0 22 v0 rfl rfl) h0
  have k1 := h1
  have lt1 : ∀ x ∈ p1, x.block < W.heap.size := by obtain ⟨m, hm⟩ := k1; exact DataW.trod_lt m _ _ _ hm
  obtain ⟨ad1, cap1, l1, rfl, w1, hc1, hm1⟩ := open_ops (hval 1 23 v1 rfl rfl) h1
  clear hA0 hval0
  refine (walk W ad0 cap0 l0 w0 hb0 hc0 hm0 ad1 cap1 l1 w1 hc1 hm1).mono fun e W' ⟨he, hg⟩ => ?_
  subst he
  exact ⟨_, rfl, _, _, _, [], _, [], hW', (trodAll_cons_mk (shut_bool Tryz.underlying4 _) trodAll_mk0), (trodAll_cons_mk (Below.trod laidOut (by kernel_rfl) (of_decide_eq_true (by kernel_rfl)) k0 hg lt0) (trodAll_cons_mk (Below.trod laidOut (by kernel_rfl) (of_decide_eq_true (by kernel_rfl)) k1 hg lt1) trodAll_mk0)), rfl, hg.frame _, fun h => by cases h⟩

theorem over : Rows.diskAllRow.holds Tryz.pinned (OpenSpec.ofChange Rows.diskAllSpec) :=
  OpenClaim.holds_of_wide 3 Tryz.f3 rfl rfl rfl rfl rfl rfl rfl ⟨rfl, rfl, rfl, rfl, rfl⟩ rfl rfl rfl rfl rfl (by kernel_rfl) Tryz.func3 (by kernel_rfl)
    (of_decide_eq_true (by kernel_rfl)) (by unfold Func.isWrapper; first | (rw [if_pos (by decide +kernel)]; kernel_rfl) | (rw [if_neg (by decide +kernel)]; exact ⟨rfl, rfl⟩))
    (fun os started H enc _ => lifted os started H enc)

theorem proved : Rows.DiskAllSaid :=
  over
#print axioms proved
end Go.Proofs.YtkbeoliglnikiaaGreat
