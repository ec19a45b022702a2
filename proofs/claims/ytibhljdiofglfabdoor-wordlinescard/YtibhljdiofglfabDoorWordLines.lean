import Derived.Test.YtibhljdiofglfabDoorRows
import Derived.WalkKit
import Derived.ProofKit
import Derived.OpenShut
import Derived.Stop.Joined
import Derived.Lay
import Derived.SevenTiedAt
import Derived.SizedLaws
import Derived.LaidMore
import Derived.Test.YtibhljdiofglfabDoorTie
import Derived.Test.YtibhljdiofglfabDoorCards
import Derived.Test.YtibhljdiofglfabDoorVlc
import Derived.Test.YtibhljdiofglfabDoorScp
import Derived.Test.YtibhljdiofglfabDoorOpl
namespace Go.Proofs.YtibhljdiofglfabDoor
open Go.ChangeShapes Go.WideShapes Go.ChangeAt Go.RowKit
set_option linter.unusedVariables false

theorem laidOut : laidOutB Tryd.prog = true := by kernel_rfl
theorem own : ownKnob Tryd.prog.godebug = none := by kernel_rfl
theorem out_len (l : List Fq) : (outL l).length ≤ l.length + 1 := by
  have h := (lns_size l l.length (Nat.le_refl _)).2.1
  rw [List.take_length] at h
  unfold outL
  split
  · omega
  · simp; omega
set_option maxRecDepth 100000 in
theorem sameRow_yes {base base' : Nat} (ad ad' : Option Addr) (cap cap' : Nat) (x y : List Value) (L : List (List Fq)) (w : World) (h : w.ownsRow base 27 1 (.slice ad L.length cap) L.length x) (h' : w.ownsRow base' 27 1 (.slice ad' L.length cap') L.length y) (hx : RwQ w x L) (hy : RwQ w y L) (hl : L.length ≤ 4611686018427387904) : Calls Tryd.prog 8 #[.slice ad L.length cap, .slice ad' L.length cap'] w fun e w' => e = .returned (.bool true) ∧ Below w.heap.size w w' := by
  go_enter Tryd.func8, Tryd.ntmps8
  go_wp2_with (go_at_call 14; refine (sameR_yes ad ad' cap cap' x y L _ h h' hx hy hl).mono ?_; rintro e u ⟨rfl, hb⟩)
  go_ret
  exact ⟨rfl, hb⟩
set_option maxHeartbeats 4000000 in
set_option maxRecDepth 100000 in
theorem walk (w : World) (ad0 : Option Addr) (cap0 : Nat) (l0 : List Fq) (w0 : RdQ w ad0 l0) (rl0 : l0.length * 40 ≤ 140737488351232) (rs0 : ∀ (k : Nat) (x : Fq), l0[k]? = some x → x.2.1.size ≤ 140737488351232) (hL : laidMetH Tryd.prog Rows.wordLinesRow.laid w) :
    Calls Tryd.prog 4 #[.slice ad0 l0.length cap0] w fun e w' => e = .returned (.bool true) ∧ Below w.heap.size w w' := by
  have hout := out_len l0
  have hlen : (outL l0).length ≤ 4611686018427387904 := by omega
  go_enter Tryd.func4, Tryd.ntmps4
  go_wp2_with (first | (go_at_call 7; refine (alive_any _).mono ?_; rintro e u1 ⟨rfl, hb1⟩) | (go_at_call 9; refine (lines_any ad0 cap0 l0 u1 (w0.carry hb1) rl0 rs0).mono ?_; rintro e u2 ⟨a1, c1, x1, rfl, ho1, hx1, hb2⟩) | (go_at_call 10; refine (rLines_any ad0 cap0 l0 u2 ((w0.carry hb1).carry hb2) rl0).mono ?_; rintro e u3 ⟨a2, c2, x2, rfl, ho2, hx2, hb3⟩) | (go_at_call 8; refine (sameRow_yes a1 a2 c1 c2 x1 x2 (outL l0) u3 (row_below ho1 hb3) ho2 (hx1.carry hb3) hx2 hlen).mono ?_; rintro e u4 ⟨rfl, hb4⟩))
  go_ret
  exact ⟨rfl, bel2 (bel2 (bel2 hb1 hb2) hb3) hb4⟩

set_option maxRecDepth 100000 in
theorem lifted (os : Os) (started : os.Started) (H : Type) (enc : TypeId × Value → H) :
    ReturnsInHanded {} Tryd.checked os 4 .any (fun w args => (Rows.wordLinesSpec.pre enc Tryd.prog Tryd.f4 [] false w args ∧ laidMetH Tryd.prog Rows.wordLinesRow.laid w) ∧ sizedMet enc Tryd.prog Tryd.f4 (OpenSpec.ofChange Rows.wordLinesSpec) false w args)
      (Rows.wordLinesSpec.post enc Tryd.prog Tryd.f4 false true false false) := by
  refine returnsInHanded_of_change_and (C := Tryd.checked) (X := fun w _ => laidMetH Tryd.prog Rows.wordLinesRow.laid w) (fun _ _ _ hh h => h.of_heap hh) own started (by kernel_rfl) Tryd.func4
    (ChangeSpec.witness_shaped (enc := enc) (C := Tryd.checked) (os := os) (X := fun w _ => laidMetH Tryd.prog Rows.wordLinesRow.laid w) false (World.laidAll Tryd.prog os Rows.wordLinesRow.laid) #[.slice none 0 0] 8 (World.laidAll_os _ _ _)
      (World.shaped_of_ZipB (by kernel_rfl) (by kernel_rfl)) (by kernel_rfl) (by kernel_rfl) (by kernel_rfl)
      (by rw [MakeChecks.laidMetH_plain _ _ _ (by kernel_rfl)]; exact laidMet_laidAll _ (by kernel_rfl) (by kernel_rfl))) ?_
  intro W base args ds gs before hval0 hW _ hsz hL _
  have hval : ∀ (j : Nat) t v, Tryd.f4.params[j]? = some t → args[j]? = some v → Value.okWide Tryd.prog W .any base t v := hval0
  have hW' := hW
  obtain ⟨p, q, hA0, hV, rfl, hfz, hnd⟩ := hW
  have hA : DataW.TrodAll enc Tryd.prog W 0 (fun _ => true) true Tryd.f4.params.toList args.toList ds p := hA0
  rw [Tryd.params4] at hA hval
  obtain ⟨v0, vs0, d0, ds0, p0, q0, hargs, rfl, rfl, h0, r0⟩ := trodAll_cons hA
  obtain ⟨rfl, rfl, rfl⟩ := trodAll_nil r0
  obtain rfl : args = #[v0] := by cases args; simp_all
  obtain ⟨rfl, rfl⟩ := trodVars_none hV
  have k0 := h0
  have lt0 : ∀ x ∈ p0, x.block < W.heap.size := by obtain ⟨m, hm⟩ := k0; exact DataW.trod_lt m _ _ _ hm
  obtain ⟨ad0, cap0, l0, rfl, w0, hd0⟩ := open_toksL (hval 0 27 v0 rfl rfl) h0
  obtain ⟨rl0, rs0⟩ := toks_sized hsz (j := 0) rfl rfl hd0
  clear hA0 hval0
  refine (walk W ad0 cap0 l0 w0 rl0 rs0 hL).mono fun e W' ⟨he, hg⟩ => ?_
  subst he
  exact ⟨_, rfl, _, _, _, [], _, [], hW', (trodAll_cons_mk (shut_bool Tryd.underlying4 _) trodAll_mk0), (trodAll_cons_mk (Below.trod laidOut (by kernel_rfl) (of_decide_eq_true (by kernel_rfl)) k0 hg lt0) trodAll_mk0), rfl, hg.frame _, fun h => by cases h⟩

theorem over : Rows.wordLinesRow.holds Tryd.pinned (OpenSpec.ofChange Rows.wordLinesSpec) :=
  OpenClaim.holds_of_wide 4 Tryd.f4 rfl rfl rfl rfl rfl rfl rfl ⟨rfl, rfl, rfl, rfl, rfl⟩ rfl rfl rfl rfl rfl (by kernel_rfl) Tryd.func4 (by kernel_rfl)
    (of_decide_eq_true (by kernel_rfl)) (by unfold Func.isWrapper; first | (rw [if_pos (by decide +kernel)]; kernel_rfl) | (rw [if_neg (by decide +kernel)]; exact ⟨rfl, rfl⟩))
    (fun os started H enc _ => lifted os started H enc)

theorem row_proved : Rows.WordLinesSaid :=
  over
theorem proved : Rows.WordLinesCardSaid :=
  Claim7.holds_tied_plain_at .later [] [.data, .pinned] true (true, "97afb8683274e9edf9119dce1d3a1d8d48eb0b9e319a816d7381f71bb1d7f7b6") false
    row_proved (fun _ h => by cases h) (by kernel_rfl) (fun _ h => by cases h) wordLines_row_tie rfl ⟨rfl, rfl⟩ (by kernel_rfl) rfl
    (fun f fn hf hfn => by
      obtain rfl : f = 4 := Option.some.inj ((show Tryd.prog.funcNamed "earshot/earshotlaw2.WordLines" = some 4 by kernel_rfl).symm.trans hf) |>.symm
      obtain rfl : fn = Tryd.f4 := (Option.some.inj (Tryd.func4.symm.trans hfn)).symm
      exact ⟨by kernel_rfl, fun j t ht => by
        rw [Tryd.params4] at ht
        rcases j with _ | j
        · have e : t = 27 := by simpa using ht.symm
          subst e
          exact (show Tryd.prog.wantsStandIn 27 = false by kernel_rfl)
        simp at ht⟩)
    (by kernel_rfl)
#print axioms proved
end Go.Proofs.YtibhljdiofglfabDoor
