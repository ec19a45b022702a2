/- WireAsserts: at all bytes and every number: a note that is decoded is just one of the three, by an assertion with two values, its Kind says which, and its sender is a node; no condition. -/
import Derived.Test.YtligjdmbjkppkaaRows
import Derived.WalkKit
import Derived.ProofKit
import Derived.OpenShut
import Derived.Test.YtligjdmbjkppkaaWrq
import Derived.Test.YtligjdmbjkppkaaOpb
namespace Go.Proofs.Ytligjdmbjkppkaa
open Go.ChangeShapes Go.WideShapes Go.ChangeAt Go.RowKit
set_option linter.unusedVariables false

theorem laidOut : laidOutB Try.prog = true := by kernel_rfl
theorem own : ownKnob Try.prog.godebug = none := by kernel_rfl
open Go.Shelf Go.Lib
theorem al3x (w : World) (a b c : Obj) : Below w.heap.size w (((w.alloc a).alloc b).alloc c) := (((Below.refl w.heap.size w).alloc (Nat.le_refl _) a).alloc (by simp) b).alloc (by simp; omega) c
set_option maxHeartbeats 4000000 in
set_option maxRecDepth 100000 in
theorem walk (w : World) (ad0 : Option Addr) (cap0 : Nat) (l0 : List Nat) (w0 : RdB w ad0 l0) (hb0 : Byt l0) (hc0 : l0.length ≤ cap0) (hm0 : cap0 ≤ maxLen) (a1 : Int) (w1 : (Lit.int .i64 a1).wf = true) :
    Calls Try.prog 7 #[.slice ad0 l0.length cap0, .int .i64 a1] w fun e w' => e = .returned (.bool true) ∧ Below w.heap.size w w' := by
  have hal := alive_any
  by_cases h5 : 5000 < l0.length
  · have h5i : (5000 : Int) < (l0.length : Int) := by omega
    go_enter Try.func7, Try.ntmps7
    go_wp2_with (go_at_call 10; (with_reducible refine (hal _).mono ?_); rintro e w1 ⟨rfl, hb1⟩)
    go_ret
    exact ⟨rfl, hb1⟩
  have h5i : ¬ (5000 : Int) < (l0.length : Int) := by omega
  have hde := decode_any ad0 cap0 l0 a1 w w0 hb0 hc0
  unfold DcO at hde
  cases hd : dec a1 l0 with
  | error er =>
    rw [hd] at hde
    have her : (er != 0) = true := by simpa using dec_err hd
    clear hd
    go_enter Try.func7, Try.ntmps7
    go_wp2_with (first | (go_at_call 12; refine hde.mono ?_; rintro e w1 ⟨rfl, hb1⟩) | (go_at_call 10; (with_reducible refine (hal _).mono ?_); rintro e w2 ⟨rfl, hb2⟩))
    go_ret
    exact ⟨rfl, bel2 hb1 hb2⟩
  | ok f =>
    obtain ⟨kd, fr, rd, N, l, rfl, hk, hf, hr3, hN2, hN, hbs⟩ := dec_inv hb0 hd
    rw [hd] at hde
    obtain ⟨hn, hfr, _⟩ := flt_0 hf
    have hfr2 := hfr.2
    have nn := nil_no
    clear hbs hd hf hr3 hN2 hN hb0 w0
    rcases (show kd = 1 ∨ kd = 2 ∨ kd = 3 by omega) with rfl | rfl | rfl
    · have hde2 : Calls Try.prog 12 #[.slice ad0 l0.length cap0, .int .i64 a1] w fun e w' => ∃ a c, e = .returned (.tuple #[.iface 52 (.agg #[.int .i64 (fr : Int), .int .i64 (rd : Int), .slice a l.length c]), .int .i64 0]) ∧ w'.ownsRow w.heap.size 90 3 (.slice a l.length c) l.length (fl l) ∧ Below w.heap.size w w' := hde
      have s1 := asQ_Q
      have s2 := asQ_P
      have s3 := asQ_U
      unfold pZ at s2
      unfold uZ at s3
      have i1 := invQ_Kind
      have i2 := invQ_Sender
      clear hde
      go_enter Try.func7, Try.ntmps7
      go_wp2_with (first | (go_at_call 12; refine hde2.mono ?_; rintro e w1 ⟨a, c, rfl, ho1, hb1⟩) | (go_at_call 10; (with_reducible refine (hal _).mono ?_); rintro e w2 ⟨rfl, hb2⟩) | (go_at_call 29; refine (kindQ_any _ _ _ _ _ _).mono ?_; rintro e w3 ⟨rfl, hbz⟩; have hb2 := bel2 hb2 hbz; clear hbz) | (go_at_call 77; refine (senderQ_any _ _ _ _ _ _).mono ?_; rintro e w3 ⟨rfl, hbz⟩; have hb2 := bel2 hb2 hbz; clear hbz))
      go_ret
      exact ⟨rfl, bel2 (bel2 hb1 (al3x w1 _ _ _)) hb2⟩
    · have hde2 : Calls Try.prog 12 #[.slice ad0 l0.length cap0, .int .i64 a1] w fun e w' => ∃ a c, e = .returned (.tuple #[.iface 55 (.agg #[.int .i64 (fr : Int), .int .i64 (rd : Int), .int .u32 (wd N 0 : Nat), .int .u32 (wd N 1 : Nat), .int .u32 (wd N 2 : Nat), .int .u32 (wd N 3 : Nat), .slice a l.length c]), .int .i64 0]) ∧ w'.ownsRow w.heap.size 90 3 (.slice a l.length c) l.length (fl l) ∧ Below w.heap.size w w' := hde
      have s1 := asP_Q
      have s2 := asP_P
      have s3 := asP_U
      unfold qZ at s1
      unfold uZ at s3
      have i1 := invP_Kind
      have i2 := invP_Sender
      clear hde
      go_enter Try.func7, Try.ntmps7
      go_wp2_with (first | (go_at_call 12; refine hde2.mono ?_; rintro e w1 ⟨a, c, rfl, ho1, hb1⟩) | (go_at_call 10; (with_reducible refine (hal _).mono ?_); rintro e w2 ⟨rfl, hb2⟩) | (go_at_call 31; refine (kindP_any _ _ _ _ _ _ _ _ _ _).mono ?_; rintro e w3 ⟨rfl, hbz⟩; have hb2 := bel2 hb2 hbz; clear hbz) | (go_at_call 80; refine (senderP_any _ _ _ _ _ _ _ _ _ _).mono ?_; rintro e w3 ⟨rfl, hbz⟩; have hb2 := bel2 hb2 hbz; clear hbz))
      go_ret
      exact ⟨rfl, bel2 (bel2 hb1 (al3x w1 _ _ _)) hb2⟩
    · have hde2 : Calls Try.prog 12 #[.slice ad0 l0.length cap0, .int .i64 a1] w fun e w' => ∃ a c, e = .returned (.tuple #[.iface 58 (.agg #[.int .i64 (fr : Int), .slice a l.length c]), .int .i64 0]) ∧ w'.ownsRow w.heap.size 90 3 (.slice a l.length c) l.length (fl l) ∧ Below w.heap.size w w' := hde
      have s1 := asU_Q
      have s2 := asU_P
      have s3 := asU_U
      unfold qZ at s1
      unfold pZ at s2
      have i1 := invU_Kind
      have i2 := invU_Sender
      clear hde
      go_enter Try.func7, Try.ntmps7
      go_wp2_with (first | (go_at_call 12; refine hde2.mono ?_; rintro e w1 ⟨a, c, rfl, ho1, hb1⟩) | (go_at_call 10; (with_reducible refine (hal _).mono ?_); rintro e w2 ⟨rfl, hb2⟩) | (go_at_call 33; refine (kindU_any _ _ _ _ _).mono ?_; rintro e w3 ⟨rfl, hbz⟩; have hb2 := bel2 hb2 hbz; clear hbz) | (go_at_call 83; refine (senderU_any _ _ _ _ _).mono ?_; rintro e w3 ⟨rfl, hbz⟩; have hb2 := bel2 hb2 hbz; clear hbz))
      go_ret
      exact ⟨rfl, bel2 (bel2 hb1 (al3x w1 _ _ _)) hb2⟩

set_option maxRecDepth 100000 in
theorem lifted (os : Os) (started : os.Started) (H : Type) (enc : TypeId × Value → H) :
    ReturnsInHanded {} Try.checked os 7 .any (Rows.wireAssertsSpec.pre6 enc Try.prog Try.f7 Rows.wireAssertsRow.domain false) (Rows.wireAssertsSpec.post enc Try.prog Try.f7 false true false false) := by
  refine returnsInHanded_of_change (C := Try.checked) own started (by kernel_rfl) Try.func7
    (ChangeSpec.witness6 (enc := enc) (C := Try.checked) false ⟨#[], #[.slice none 0 0, .int .i64 0], []⟩ 8 (by kernel_rfl) (by kernel_rfl) (by kernel_rfl) (by kernel_rfl)) ?_
  intro W base args ds gs before hval0 hW hcnd _
  have hval : ∀ (j : Nat) t v, Try.f7.params[j]? = some t → args[j]? = some v → Value.okWide Try.prog W .any base t v := hval0
  have hW' := hW
  obtain ⟨p, q, hA0, hV, rfl, hfz, hnd⟩ := hW
  have hA : DataW.TrodAll enc Try.prog W 0 (fun _ => true) true Try.f7.params.toList args.toList ds p := hA0
  rw [Try.params7] at hA hval
  obtain ⟨v0, vs0, d0, ds0, p0, q0, hargs, rfl, rfl, h0, r0⟩ := trodAll_cons hA
  obtain ⟨v1, vs1, d1, ds1, p1, q1, rfl, rfl, rfl, h1, r1⟩ := trodAll_cons r0
  obtain ⟨rfl, rfl, rfl⟩ := trodAll_nil r1
  obtain rfl : args = #[v0, v1] := by cases args; simp_all
  obtain ⟨rfl, rfl⟩ := trodVars_none hV
  have k0 := h0
  have lt0 : ∀ x ∈ p0, x.block < W.heap.size := by obtain ⟨m, hm⟩ := k0; exact DataW.trod_lt m _ _ _ hm
  obtain ⟨ad0, cap0, l0, rfl, w0, hb0, hc0, hm0⟩ := open_bytes (hval 0 30 v0 rfl rfl) h0
  obtain ⟨a1, rfl, rfl, rfl, w1⟩ := open_int Try.underlying3 (hval 1 3 v1 rfl rfl) h1
  clear hA0 hval0
  refine (walk W ad0 cap0 l0 w0 hb0 hc0 hm0 a1 w1).mono fun e W' ⟨he, hg⟩ => ?_
  subst he
  exact ⟨_, rfl, _, _, _, [], _, [], hW', (trodAll_cons_mk (shut_bool Try.underlying4 _) trodAll_mk0), (trodAll_cons_mk (Below.trod laidOut (by kernel_rfl) (of_decide_eq_true (by kernel_rfl)) k0 hg lt0) (trodAll_cons_mk (shut_int Try.underlying3 w1) trodAll_mk0)), rfl, hg.frame _, fun h => by cases h⟩

theorem over : Rows.wireAssertsRow.holds Try.pinned (OpenSpec.ofChange Rows.wireAssertsSpec) :=
  OpenClaim.holds_of_wide 7 Try.f7 rfl rfl rfl rfl rfl rfl rfl ⟨rfl, rfl, rfl, rfl, rfl⟩ rfl rfl rfl rfl rfl (by kernel_rfl) Try.func7 (by kernel_rfl)
    (of_decide_eq_true (by kernel_rfl)) (by unfold Func.isWrapper; first | (rw [if_pos (by decide +kernel)]; kernel_rfl) | (rw [if_neg (by decide +kernel)]; exact ⟨rfl, rfl⟩))
    (fun os started H enc _ => lifted os started H enc)

theorem proved : Rows.WireAssertsSaid :=
  over
#print axioms proved
end Go.Proofs.Ytligjdmbjkppkaa
