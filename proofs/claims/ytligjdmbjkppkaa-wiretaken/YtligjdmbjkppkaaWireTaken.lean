/- WireTaken: at all bytes and every two numbers: bytes that are decoded are those of the note that they say, and of no other number of nodes; no condition. -/
import Derived.Test.YtligjdmbjkppkaaRows
import Derived.WalkKit
import Derived.ProofKit
import Derived.OpenShut
import Derived.Test.YtligjdmbjkppkaaWrv
import Derived.Test.YtligjdmbjkppkaaOpb
namespace Go.Proofs.Ytligjdmbjkppkaa
open Go.ChangeShapes Go.WideShapes Go.ChangeAt Go.RowKit
set_option linter.unusedVariables false

theorem laidOut : laidOutB Try.prog = true := by kernel_rfl
theorem own : ownKnob Try.prog.godebug = none := by kernel_rfl
open Go.Shelf Go.Lib
set_option maxHeartbeats 16000000 in
set_option maxRecDepth 100000 in
theorem walk (w : World) (ad0 : Option Addr) (cap0 : Nat) (l0 : List Nat) (w0 : RdB w ad0 l0) (hb0 : Byt l0) (hc0 : l0.length ≤ cap0) (hm0 : cap0 ≤ maxLen) (a1 : Int) (w1 : (Lit.int .i64 a1).wf = true) (a2 : Int) (w2 : (Lit.int .i64 a2).wf = true) :
    Calls Try.prog 4 #[.slice ad0 l0.length cap0, .int .i64 a1, .int .i64 a2] w fun e w' => e = .returned (.bool true) ∧ Below w.heap.size w w' := by
  have hal := alive_any
  by_cases h5 : 5000 < l0.length
  · have h5i : (5000 : Int) < (l0.length : Int) := by omega
    go_enter Try.func4, Try.ntmps4
    go_wp2_with (go_at_call 10; (with_reducible refine (hal _).mono ?_); rintro e w1 ⟨rfl, hb1⟩)
    go_ret
    exact ⟨rfl, hb1⟩
  have h5i : ¬ (5000 : Int) < (l0.length : Int) := by omega
  have hde := decode_any ad0 cap0 l0 a1 w w0 hb0 hc0
  have hdm := fun W hW => decode_any ad0 cap0 l0 a2 W hW hb0 hc0
  unfold DcO at hde hdm
  cases hd : dec a1 l0 with
  | error er =>
    rw [hd] at hde
    have her : (er != 0) = true := by simpa using dec_err hd
    clear hd hdm
    go_enter Try.func4, Try.ntmps4
    go_wp2_with (first | (go_at_call 12; (with_reducible refine hde.mono ?_); rintro e w1 ⟨rfl, hb1⟩) | (go_at_call 10; (with_reducible refine (hal _).mono ?_); rintro e w2 ⟨rfl, hb2⟩))
    go_ret
    exact ⟨rfl, bel2 hb1 hb2⟩
  | ok f =>
    obtain ⟨kd, fr, rd, N, l, rfl, hk, hf, hr3, hN2, hN, hbs⟩ := dec_inv hb0 hd
    rw [hd] at hde
    obtain ⟨hn, hfr, _, _, hri⟩ := flt_0 hf
    have hll := ris_len a1 l (-1) (by omega) (by omega) hri
    have hot : a2 ≠ a1 → dec a2 l0 = .error 1 ∨ dec a2 l0 = .error 102 := fun hm => by
      rw [hbs]
      obtain ⟨m, rfl⟩ := Int.eq_ofNat_of_zero_le (show 0 ≤ a1 by omega)
      rw [Int.toNat_natCast]
      exact dec_other hk hf hm
    have hsa : ∀ (W : World) (b2 : Option Addr) (c2 : Nat), RdB W ad0 l0 → RdB W b2 l0 → Calls Try.prog 15 #[.slice ad0 l0.length cap0, .slice b2 l0.length c2] W fun e w' => e = .returned (.bool true) ∧ Below W.heap.size W w' := fun W b2 c2 h1 h2 => sameB_yes ad0 b2 cap0 c2 l0 W h1 h2 (by omega)
    have nn := nil_no
    have ny := nil_yes
    have HRI : Hid (ris a1 (-1) l = true) := hri
    have HOT : Hid (a2 ≠ a1 → dec a2 l0 = .error 1 ∨ dec a2 l0 = .error 102) := hot
    have HDM : Hid (∀ (W : World), RdB W ad0 l0 → Calls Try.prog 12 #[.slice ad0 l0.length cap0, .int .i64 a2] W fun e w' => match dec a2 l0 with | .error er => e = .returned (.tuple #[.nilIface, .int .i64 er]) ∧ Below W.heap.size W w' | .ok (kd, fr, rd, N, l) => ∃ a c, e = .returned (.tuple #[noteV kd (fr : Int) (rd : Int) N (.slice a l.length c), .int .i64 0]) ∧ w'.ownsRow W.heap.size 90 3 (.slice a l.length c) l.length (fl l) ∧ Below W.heap.size W w') := hdm
    clear hri hot hdm hd hb0
    rcases (show kd = 1 ∨ kd = 2 ∨ kd = 3 by omega) with rfl | rfl | rfl
    · obtain rfl : N = 0 := hN2 (by decide)
      have hde2 : Calls Try.prog 12 #[.slice ad0 l0.length cap0, .int .i64 a1] w fun e w' => ∃ a c, e = .returned (.tuple #[.iface 52 (.agg #[.int .i64 (fr : Int), .int .i64 (rd : Int), .slice a l.length c]), .int .i64 0]) ∧ w'.ownsRow w.heap.size 90 3 (.slice a l.length c) l.length (fl l) ∧ Below w.heap.size w w' := hde
      have hby : ∀ (W : World) (a : Option Addr) (c : Nat), RdN W a l → Calls Try.prog 19 #[.agg #[.int .i64 (fr : Int), .int .i64 (rd : Int), .slice a l.length c], .int .i64 a1] W fun e W' => ∃ b2 c2, e = .returned (.tuple #[.slice b2 l0.length c2, .int .i64 0]) ∧ RdB W' b2 l0 ∧ Below W.heap.size W W' := fun W a c hr => (qbytes_any a1 fr rd a c l W hr (by omega)).mono (by
        intro e W' q
        obtain ⟨b2, c2, q1, _, q2, _, q3⟩ := bo_ok q hf
        rw [← hbs] at q1 q2
        exact ⟨b2, c2, q1, q2, q3⟩)
      have i1 := invQ_Bytes
      clear hde hbs hf hr3 hN2 HRI hN
      by_cases hm : a2 = a1
      · subst hm
        clear HOT HDM
        go_enter Try.func4, Try.ntmps4
        go_wp2_with (first | (go_at_call 12; (with_reducible refine hde2.mono ?_); rintro e w1 ⟨a, c, rfl, ho1, hb1⟩; have hr1 := RdN.own ho1) | (go_at_call 10; (with_reducible refine (hal _).mono ?_); rintro e w5 ⟨rfl, hb5⟩) | (go_at_call 19; (with_reducible refine (hby _ _ _ hr1).mono ?_); rintro e w2 ⟨b2, c2, rfl, hr2, hb2⟩; have hb12 := bel2 hb1 hb2; have h02 := w0.carry hb12) | (go_at_call 15; (with_reducible refine (hsa _ _ _ h02 hr2).mono ?_); rintro e w3 ⟨rfl, hb3⟩; have hb13 := bel2 hb12 hb3; have h03 := w0.carry hb13))
        go_ret
        exact ⟨rfl, bel2 hb13 hb5⟩
      have hmi : (a2 == a1) = false := by simpa using hm
      rcases HOT.out hm with he | he
      · have hd3 : ∀ (W : World), RdB W ad0 l0 → Calls Try.prog 12 #[.slice ad0 l0.length cap0, .int .i64 a2] W fun e w' => e = .returned (.tuple #[.nilIface, .int .i64 1]) ∧ Below W.heap.size W w' := fun W hW => by
          have := HDM.out W hW
          rw [he] at this
          exact this
        clear HOT HDM he hm
        go_enter Try.func4, Try.ntmps4
        go_wp2_with (first | (go_at_call 12; (with_reducible refine hde2.mono ?_); rintro e w1 ⟨a, c, rfl, ho1, hb1⟩; have hr1 := RdN.own ho1) | (go_at_call 10; (with_reducible refine (hal _).mono ?_); rintro e w5 ⟨rfl, hb5⟩) | (go_at_call 19; (with_reducible refine (hby _ _ _ hr1).mono ?_); rintro e w2 ⟨b2, c2, rfl, hr2, hb2⟩; have hb12 := bel2 hb1 hb2; have h02 := w0.carry hb12) | (go_at_call 15; (with_reducible refine (hsa _ _ _ h02 hr2).mono ?_); rintro e w3 ⟨rfl, hb3⟩; have hb13 := bel2 hb12 hb3; have h03 := w0.carry hb13) | (go_at_call 12; (with_reducible refine (hd3 _ h03).mono ?_); rintro e w4 ⟨rfl, hb4⟩))
        go_ret
        exact ⟨rfl, bel2 (bel2 hb13 hb4) hb5⟩
      · have hd3 : ∀ (W : World), RdB W ad0 l0 → Calls Try.prog 12 #[.slice ad0 l0.length cap0, .int .i64 a2] W fun e w' => e = .returned (.tuple #[.nilIface, .int .i64 102]) ∧ Below W.heap.size W w' := fun W hW => by
          have := HDM.out W hW
          rw [he] at this
          exact this
        clear HOT HDM he hm
        go_enter Try.func4, Try.ntmps4
        go_wp2_with (first | (go_at_call 12; (with_reducible refine hde2.mono ?_); rintro e w1 ⟨a, c, rfl, ho1, hb1⟩; have hr1 := RdN.own ho1) | (go_at_call 10; (with_reducible refine (hal _).mono ?_); rintro e w5 ⟨rfl, hb5⟩) | (go_at_call 19; (with_reducible refine (hby _ _ _ hr1).mono ?_); rintro e w2 ⟨b2, c2, rfl, hr2, hb2⟩; have hb12 := bel2 hb1 hb2; have h02 := w0.carry hb12) | (go_at_call 15; (with_reducible refine (hsa _ _ _ h02 hr2).mono ?_); rintro e w3 ⟨rfl, hb3⟩; have hb13 := bel2 hb12 hb3; have h03 := w0.carry hb13) | (go_at_call 12; (with_reducible refine (hd3 _ h03).mono ?_); rintro e w4 ⟨rfl, hb4⟩))
        go_ret
        exact ⟨rfl, bel2 (bel2 hb13 hb4) hb5⟩
    · have hde2 : Calls Try.prog 12 #[.slice ad0 l0.length cap0, .int .i64 a1] w fun e w' => ∃ a c, e = .returned (.tuple #[.iface 55 (.agg #[.int .i64 (fr : Int), .int .i64 (rd : Int), .int .u32 (wd N 0 : Nat), .int .u32 (wd N 1 : Nat), .int .u32 (wd N 2 : Nat), .int .u32 (wd N 3 : Nat), .slice a l.length c]), .int .i64 0]) ∧ w'.ownsRow w.heap.size 90 3 (.slice a l.length c) l.length (fl l) ∧ Below w.heap.size w w' := hde
      have hby : ∀ (W : World) (a : Option Addr) (c : Nat), RdN W a l → Calls Try.prog 79 #[.agg #[.int .i64 (fr : Int), .int .i64 (rd : Int), .int .u32 (wd N 0 : Nat), .int .u32 (wd N 1 : Nat), .int .u32 (wd N 2 : Nat), .int .u32 (wd N 3 : Nat), .slice a l.length c], .int .i64 a1] W fun e W' => ∃ b2 c2, e = .returned (.tuple #[.slice b2 l0.length c2, .int .i64 0]) ∧ RdB W' b2 l0 ∧ Below W.heap.size W W' := fun W a c hr => (pbytes_any a1 fr rd N hN a c l W hr (by omega)).mono (by
        intro e W' q
        obtain ⟨b2, c2, q1, _, q2, _, q3⟩ := bo_ok q hf
        rw [← hbs] at q1 q2
        exact ⟨b2, c2, q1, q2, q3⟩)
      have i1 := invP_Bytes
      clear hde hbs hf hr3 hN2 HRI hN
      by_cases hm : a2 = a1
      · subst hm
        clear HOT HDM
        go_enter Try.func4, Try.ntmps4
        go_wp2_with (first | (go_at_call 12; (with_reducible refine hde2.mono ?_); rintro e w1 ⟨a, c, rfl, ho1, hb1⟩; have hr1 := RdN.own ho1) | (go_at_call 10; (with_reducible refine (hal _).mono ?_); rintro e w5 ⟨rfl, hb5⟩) | (go_at_call 79; (with_reducible refine (hby _ _ _ hr1).mono ?_); rintro e w2 ⟨b2, c2, rfl, hr2, hb2⟩; have hb12 := bel2 hb1 hb2; have h02 := w0.carry hb12) | (go_at_call 15; (with_reducible refine (hsa _ _ _ h02 hr2).mono ?_); rintro e w3 ⟨rfl, hb3⟩; have hb13 := bel2 hb12 hb3; have h03 := w0.carry hb13))
        go_ret
        exact ⟨rfl, bel2 hb13 hb5⟩
      have hmi : (a2 == a1) = false := by simpa using hm
      rcases HOT.out hm with he | he
      · have hd3 : ∀ (W : World), RdB W ad0 l0 → Calls Try.prog 12 #[.slice ad0 l0.length cap0, .int .i64 a2] W fun e w' => e = .returned (.tuple #[.nilIface, .int .i64 1]) ∧ Below W.heap.size W w' := fun W hW => by
          have := HDM.out W hW
          rw [he] at this
          exact this
        clear HOT HDM he hm
        go_enter Try.func4, Try.ntmps4
        go_wp2_with (first | (go_at_call 12; (with_reducible refine hde2.mono ?_); rintro e w1 ⟨a, c, rfl, ho1, hb1⟩; have hr1 := RdN.own ho1) | (go_at_call 10; (with_reducible refine (hal _).mono ?_); rintro e w5 ⟨rfl, hb5⟩) | (go_at_call 79; (with_reducible refine (hby _ _ _ hr1).mono ?_); rintro e w2 ⟨b2, c2, rfl, hr2, hb2⟩; have hb12 := bel2 hb1 hb2; have h02 := w0.carry hb12) | (go_at_call 15; (with_reducible refine (hsa _ _ _ h02 hr2).mono ?_); rintro e w3 ⟨rfl, hb3⟩; have hb13 := bel2 hb12 hb3; have h03 := w0.carry hb13) | (go_at_call 12; (with_reducible refine (hd3 _ h03).mono ?_); rintro e w4 ⟨rfl, hb4⟩))
        go_ret
        exact ⟨rfl, bel2 (bel2 hb13 hb4) hb5⟩
      · have hd3 : ∀ (W : World), RdB W ad0 l0 → Calls Try.prog 12 #[.slice ad0 l0.length cap0, .int .i64 a2] W fun e w' => e = .returned (.tuple #[.nilIface, .int .i64 102]) ∧ Below W.heap.size W w' := fun W hW => by
          have := HDM.out W hW
          rw [he] at this
          exact this
        clear HOT HDM he hm
        go_enter Try.func4, Try.ntmps4
        go_wp2_with (first | (go_at_call 12; (with_reducible refine hde2.mono ?_); rintro e w1 ⟨a, c, rfl, ho1, hb1⟩; have hr1 := RdN.own ho1) | (go_at_call 10; (with_reducible refine (hal _).mono ?_); rintro e w5 ⟨rfl, hb5⟩) | (go_at_call 79; (with_reducible refine (hby _ _ _ hr1).mono ?_); rintro e w2 ⟨b2, c2, rfl, hr2, hb2⟩; have hb12 := bel2 hb1 hb2; have h02 := w0.carry hb12) | (go_at_call 15; (with_reducible refine (hsa _ _ _ h02 hr2).mono ?_); rintro e w3 ⟨rfl, hb3⟩; have hb13 := bel2 hb12 hb3; have h03 := w0.carry hb13) | (go_at_call 12; (with_reducible refine (hd3 _ h03).mono ?_); rintro e w4 ⟨rfl, hb4⟩))
        go_ret
        exact ⟨rfl, bel2 (bel2 hb13 hb4) hb5⟩
    · obtain rfl : rd = 0 := hr3 rfl
      obtain rfl : N = 0 := hN2 (by decide)
      have hde2 : Calls Try.prog 12 #[.slice ad0 l0.length cap0, .int .i64 a1] w fun e w' => ∃ a c, e = .returned (.tuple #[.iface 58 (.agg #[.int .i64 (fr : Int), .slice a l.length c]), .int .i64 0]) ∧ w'.ownsRow w.heap.size 90 3 (.slice a l.length c) l.length (fl l) ∧ Below w.heap.size w w' := hde
      have hby : ∀ (W : World) (a : Option Addr) (c : Nat), RdN W a l → Calls Try.prog 82 #[.agg #[.int .i64 (fr : Int), .slice a l.length c], .int .i64 a1] W fun e W' => ∃ b2 c2, e = .returned (.tuple #[.slice b2 l0.length c2, .int .i64 0]) ∧ RdB W' b2 l0 ∧ Below W.heap.size W W' := fun W a c hr => (ubytes_any a1 fr a c l W hr (by omega)).mono (by
        intro e W' q
        obtain ⟨b2, c2, q1, _, q2, _, q3⟩ := bo_ok q hf
        rw [← hbs] at q1 q2
        exact ⟨b2, c2, q1, q2, q3⟩)
      have i1 := invU_Bytes
      clear hde hbs hf hr3 hN2 HRI hN
      by_cases hm : a2 = a1
      · subst hm
        clear HOT HDM
        go_enter Try.func4, Try.ntmps4
        go_wp2_with (first | (go_at_call 12; (with_reducible refine hde2.mono ?_); rintro e w1 ⟨a, c, rfl, ho1, hb1⟩; have hr1 := RdN.own ho1) | (go_at_call 10; (with_reducible refine (hal _).mono ?_); rintro e w5 ⟨rfl, hb5⟩) | (go_at_call 82; (with_reducible refine (hby _ _ _ hr1).mono ?_); rintro e w2 ⟨b2, c2, rfl, hr2, hb2⟩; have hb12 := bel2 hb1 hb2; have h02 := w0.carry hb12) | (go_at_call 15; (with_reducible refine (hsa _ _ _ h02 hr2).mono ?_); rintro e w3 ⟨rfl, hb3⟩; have hb13 := bel2 hb12 hb3; have h03 := w0.carry hb13))
        go_ret
        exact ⟨rfl, bel2 hb13 hb5⟩
      have hmi : (a2 == a1) = false := by simpa using hm
      rcases HOT.out hm with he | he
      · have hd3 : ∀ (W : World), RdB W ad0 l0 → Calls Try.prog 12 #[.slice ad0 l0.length cap0, .int .i64 a2] W fun e w' => e = .returned (.tuple #[.nilIface, .int .i64 1]) ∧ Below W.heap.size W w' := fun W hW => by
          have := HDM.out W hW
          rw [he] at this
          exact this
        clear HOT HDM he hm
        go_enter Try.func4, Try.ntmps4
        go_wp2_with (first | (go_at_call 12; (with_reducible refine hde2.mono ?_); rintro e w1 ⟨a, c, rfl, ho1, hb1⟩; have hr1 := RdN.own ho1) | (go_at_call 10; (with_reducible refine (hal _).mono ?_); rintro e w5 ⟨rfl, hb5⟩) | (go_at_call 82; (with_reducible refine (hby _ _ _ hr1).mono ?_); rintro e w2 ⟨b2, c2, rfl, hr2, hb2⟩; have hb12 := bel2 hb1 hb2; have h02 := w0.carry hb12) | (go_at_call 15; (with_reducible refine (hsa _ _ _ h02 hr2).mono ?_); rintro e w3 ⟨rfl, hb3⟩; have hb13 := bel2 hb12 hb3; have h03 := w0.carry hb13) | (go_at_call 12; (with_reducible refine (hd3 _ h03).mono ?_); rintro e w4 ⟨rfl, hb4⟩))
        go_ret
        exact ⟨rfl, bel2 (bel2 hb13 hb4) hb5⟩
      · have hd3 : ∀ (W : World), RdB W ad0 l0 → Calls Try.prog 12 #[.slice ad0 l0.length cap0, .int .i64 a2] W fun e w' => e = .returned (.tuple #[.nilIface, .int .i64 102]) ∧ Below W.heap.size W w' := fun W hW => by
          have := HDM.out W hW
          rw [he] at this
          exact this
        clear HOT HDM he hm
        go_enter Try.func4, Try.ntmps4
        go_wp2_with (first | (go_at_call 12; (with_reducible refine hde2.mono ?_); rintro e w1 ⟨a, c, rfl, ho1, hb1⟩; have hr1 := RdN.own ho1) | (go_at_call 10; (with_reducible refine (hal _).mono ?_); rintro e w5 ⟨rfl, hb5⟩) | (go_at_call 82; (with_reducible refine (hby _ _ _ hr1).mono ?_); rintro e w2 ⟨b2, c2, rfl, hr2, hb2⟩; have hb12 := bel2 hb1 hb2; have h02 := w0.carry hb12) | (go_at_call 15; (with_reducible refine (hsa _ _ _ h02 hr2).mono ?_); rintro e w3 ⟨rfl, hb3⟩; have hb13 := bel2 hb12 hb3; have h03 := w0.carry hb13) | (go_at_call 12; (with_reducible refine (hd3 _ h03).mono ?_); rintro e w4 ⟨rfl, hb4⟩))
        go_ret
        exact ⟨rfl, bel2 (bel2 hb13 hb4) hb5⟩

set_option maxRecDepth 100000 in
theorem lifted (os : Os) (started : os.Started) (H : Type) (enc : TypeId × Value → H) :
    ReturnsInHanded {} Try.checked os 4 .any (Rows.wireTakenSpec.pre6 enc Try.prog Try.f4 Rows.wireTakenRow.domain false) (Rows.wireTakenSpec.post enc Try.prog Try.f4 false true false false) := by
  refine returnsInHanded_of_change (C := Try.checked) own started (by kernel_rfl) Try.func4
    (ChangeSpec.witness6 (enc := enc) (C := Try.checked) false ⟨#[], #[.slice none 0 0, .int .i64 0, .int .i64 0], []⟩ 8 (by kernel_rfl) (by kernel_rfl) (by kernel_rfl) (by kernel_rfl)) ?_
  intro W base args ds gs before hval0 hW hcnd _
  have hval : ∀ (j : Nat) t v, Try.f4.params[j]? = some t → args[j]? = some v → Value.okWide Try.prog W .any base t v := hval0
  have hW' := hW
  obtain ⟨p, q, hA0, hV, rfl, hfz, hnd⟩ := hW
  have hA : DataW.TrodAll enc Try.prog W 0 (fun _ => true) true Try.f4.params.toList args.toList ds p := hA0
  rw [Try.params4] at hA hval
  obtain ⟨v0, vs0, d0, ds0, p0, q0, hargs, rfl, rfl, h0, r0⟩ := trodAll_cons hA
  obtain ⟨v1, vs1, d1, ds1, p1, q1, rfl, rfl, rfl, h1, r1⟩ := trodAll_cons r0
  obtain ⟨v2, vs2, d2, ds2, p2, q2, rfl, rfl, rfl, h2, r2⟩ := trodAll_cons r1
  obtain ⟨rfl, rfl, rfl⟩ := trodAll_nil r2
  obtain rfl : args = #[v0, v1, v2] := by cases args; simp_all
  obtain ⟨rfl, rfl⟩ := trodVars_none hV
  have k0 := h0
  have lt0 : ∀ x ∈ p0, x.block < W.heap.size := by obtain ⟨m, hm⟩ := k0; exact DataW.trod_lt m _ _ _ hm
  obtain ⟨ad0, cap0, l0, rfl, w0, hb0, hc0, hm0⟩ := open_bytes (hval 0 30 v0 rfl rfl) h0
  obtain ⟨a1, rfl, rfl, rfl, w1⟩ := open_int Try.underlying3 (hval 1 3 v1 rfl rfl) h1
  obtain ⟨a2, rfl, rfl, rfl, w2⟩ := open_int Try.underlying3 (hval 2 3 v2 rfl rfl) h2
  clear hA0 hval0
  refine (walk W ad0 cap0 l0 w0 hb0 hc0 hm0 a1 w1 a2 w2).mono fun e W' ⟨he, hg⟩ => ?_
  subst he
  exact ⟨_, rfl, _, _, _, [], _, [], hW', (trodAll_cons_mk (shut_bool Try.underlying4 _) trodAll_mk0), (trodAll_cons_mk (Below.trod laidOut (by kernel_rfl) (of_decide_eq_true (by kernel_rfl)) k0 hg lt0) (trodAll_cons_mk (shut_int Try.underlying3 w1) (trodAll_cons_mk (shut_int Try.underlying3 w2) trodAll_mk0))), rfl, hg.frame _, fun h => by cases h⟩

theorem over : Rows.wireTakenRow.holds Try.pinned (OpenSpec.ofChange Rows.wireTakenSpec) :=
  OpenClaim.holds_of_wide 4 Try.f4 rfl rfl rfl rfl rfl rfl rfl ⟨rfl, rfl, rfl, rfl, rfl⟩ rfl rfl rfl rfl rfl (by kernel_rfl) Try.func4 (by kernel_rfl)
    (of_decide_eq_true (by kernel_rfl)) (by unfold Func.isWrapper; first | (rw [if_pos (by decide +kernel)]; kernel_rfl) | (rw [if_neg (by decide +kernel)]; exact ⟨rfl, rfl⟩))
    (fun os started H enc _ => lifted os started H enc)

theorem proved : Rows.WireTakenSaid :=
  over
#print axioms proved
end Go.Proofs.Ytligjdmbjkppkaa
