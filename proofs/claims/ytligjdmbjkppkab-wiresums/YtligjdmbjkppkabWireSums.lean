/- WireSums: at all bytes: Sum is the document's, and the bytes stay; no condition. -/
import Derived.Test.YtligjdmbjkppkabRows
import Derived.WalkKit
import Derived.ProofKit
import Derived.OpenShut
import Derived.SizedLaws
import Derived.Test.YtligjdmbjkppkabWrf
import Derived.Test.YtligjdmbjkppkabWsa
import Derived.Test.YtligjdmbjkppkabOpc
namespace Go.Proofs.Ytligjdmbjkppkab
open Go.ChangeShapes Go.WideShapes Go.ChangeAt Go.RowKit
set_option linter.unusedVariables false

theorem laidOut : laidOutB Try.prog = true := by kernel_rfl
theorem own : ownKnob Try.prog.godebug = none := by kernel_rfl
open Go.Shelf Go.Lib
set_option maxHeartbeats 4000000 in
set_option maxRecDepth 100000 in
theorem walk (w : World) (ad0 : Option Addr) (cap0 : Nat) (l0 : List Nat) (w0 : RdB w ad0 l0) (hb0 : Byt l0) (hc0 : l0.length ≤ cap0) (hm0 : cap0 ≤ maxLen) (reach0 : l0.length ≤ 140737488351232) :
    Calls Try.prog 4 #[.slice ad0 l0.length cap0] w fun e w' => e = .returned (.bool true) ∧ Below w.heap.size w w' := by
  have hal := alive_any
  have hle := lentB_any ad0 cap0 l0 w w0 (by omega)
  have hsu : ∀ (W : World) (g c : Nat), g < W.heap.size → BAt W g 0 (mk9 l0) → Calls Try.prog 18 #[.slice (some ⟨g, 0, none⟩) l0.length c] W fun e w' => e = .returned (.int .i64 (sumV l0 : Nat)) ∧ w' = W := fun W g c h1 h2 => sum_any (some ⟨g, 0, none⟩) c l0 W (fun _ => ⟨g, 0, rfl, h1, fun k x hx => h2 k x (mk9_old hx)⟩) hb0 (by omega)
  have hrs : ∀ (W : World), RdB W ad0 l0 → Calls Try.prog 19 #[.slice ad0 l0.length cap0] W fun e w' => e = .returned (.int .i64 (sumV l0 : Nat)) ∧ w' = W := fun W h => rSum_any ad0 cap0 l0 W h hb0 (by omega)
  have hst : ∀ (W : World) (g c : Nat), g < W.heap.size → BAt W g 0 (mk9 l0) → l0.length + 9 ≤ c → RdB W ad0 l0 → Calls Try.prog 20 #[.slice (some ⟨g, 0, none⟩) l0.length c, .slice ad0 l0.length cap0] W fun e w' => e = .returned (.bool true) ∧ Below W.heap.size W w' := fun W g c h1 h2 h3 h4 => staysB_any g ad0 c cap0 l0 W h1 h2 h3 h4 (by omega)
  generalize sumV l0 = SV at *
  go_enter Try.func4, Try.ntmps4
  go_wp2_with (first | (go_at_call 17; (with_reducible refine hle.mono ?_); rintro e u1 ⟨rfl, hg1, hat1, hb1⟩) | (go_at_call 9; (with_reducible refine (hal _).mono ?_); rintro e u2 ⟨rfl, hb2⟩; have hg2 := Nat.lt_of_lt_of_le hg1 hb2.size; have hat2 := hat1.carry (hb2.block _ hg1); have hb12 := bel2 hb1 hb2; have hr2 := w0.carry hb12) | (go_at_call 18; (with_reducible refine (hsu _ _ _ hg2 hat2).mono ?_); rintro e u ⟨rfl, hu⟩; rw [hu]; clear hu u) | (go_at_call 19; (with_reducible refine (hrs _ hr2).mono ?_); rintro e u ⟨rfl, hu⟩; rw [hu]; clear hu u) | (go_at_call 20; (with_reducible refine (hst _ _ _ hg2 hat2 (Nat.le_refl _) hr2).mono ?_); rintro e u3 ⟨rfl, hb3⟩))
  go_ret
  exact ⟨rfl, bel2 hb12 hb3⟩

set_option maxRecDepth 100000 in
theorem lifted (os : Os) (started : os.Started) (H : Type) (enc : TypeId × Value → H) :
    ReturnsInHanded {} Try.checked os 4 .any (Rows.wireSumsSpec.pre6 enc Try.prog Try.f4 Rows.wireSumsRow.domain false) (Rows.wireSumsSpec.post enc Try.prog Try.f4 false true false false) := by
  refine returnsInHanded_of_change_sized (C := Try.checked) own started (by kernel_rfl) Try.func4
    (ChangeSpec.witness6 (enc := enc) (C := Try.checked) false ⟨#[], #[.slice none 0 0], []⟩ 8 (by kernel_rfl) (by kernel_rfl) (by kernel_rfl) (by kernel_rfl)) ?_
  intro W base args ds gs before hval0 hW hcnd hsz _
  have hval : ∀ (j : Nat) t v, Try.f4.params[j]? = some t → args[j]? = some v → Value.okWide Try.prog W .any base t v := hval0
  have hW' := hW
  obtain ⟨p, q, hA0, hV, rfl, hfz, hnd⟩ := hW
  have hA : DataW.TrodAll enc Try.prog W 0 (fun _ => true) true Try.f4.params.toList args.toList ds p := hA0
  rw [Try.params4] at hA hval
  obtain ⟨v0, vs0, d0, ds0, p0, q0, hargs, rfl, rfl, h0, r0⟩ := trodAll_cons hA
  obtain ⟨rfl, rfl, rfl⟩ := trodAll_nil r0
  obtain rfl : args = #[v0] := by cases args; simp_all
  obtain ⟨rfl, rfl⟩ := trodVars_none hV
  have k0 := h0
  have lt0 : ∀ x ∈ p0, x.block < W.heap.size := by obtain ⟨m, hm⟩ := k0; exact DataW.trod_lt m _ _ _ hm
  obtain ⟨ad0, cap0, l0, rfl, w0, hb0, hc0, hm0⟩ := open_bytes (hval 0 30 v0 rfl rfl) h0
  have reach0 : l0.length ≤ 140737488351232 := by
    rcases bytes_d h0 with e | ⟨E, S, e, hE⟩
    · rw [e]; simp
    · have this : (E.length + S.length) * Try.prog.bytesOf 5 ≤ reachBytes := sized_slice hsz (j := 0) (t := 30) (e := 5) rfl (congrArg some e) Try.underlying30
      rw [show Try.prog.bytesOf 5 = 1 by kernel_rfl, hE] at this
      unfold reachBytes at this
      omega
  clear hA0 hval0
  refine (walk W ad0 cap0 l0 w0 hb0 hc0 hm0 reach0).mono fun e W' ⟨he, hg⟩ => ?_
  subst he
  exact ⟨_, rfl, _, _, _, [], _, [], hW', (trodAll_cons_mk (shut_bool Try.underlying4 _) trodAll_mk0), (trodAll_cons_mk (Below.trod laidOut (by kernel_rfl) (of_decide_eq_true (by kernel_rfl)) k0 hg lt0) trodAll_mk0), rfl, hg.frame _, fun h => by cases h⟩

theorem over : Rows.wireSumsRow.holds Try.pinned (OpenSpec.ofChange Rows.wireSumsSpec) :=
  OpenClaim.holds_of_wide 4 Try.f4 rfl rfl rfl rfl rfl rfl rfl ⟨rfl, rfl, rfl, rfl, rfl⟩ rfl rfl rfl rfl rfl (by kernel_rfl) Try.func4 (by kernel_rfl)
    (of_decide_eq_true (by kernel_rfl)) (by unfold Func.isWrapper; first | (rw [if_pos (by decide +kernel)]; kernel_rfl) | (rw [if_neg (by decide +kernel)]; exact ⟨rfl, rfl⟩))
    (fun os started H enc _ => lifted os started H enc)

theorem proved : Rows.WireSumsSaid :=
  over
#print axioms proved
end Go.Proofs.Ytligjdmbjkppkab
