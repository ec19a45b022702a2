import Derived.Test.YtibhljdiofglfaaDoorRows
import Derived.WalkKit
import Derived.ProofKit
import Derived.OpenShut
import Derived.ChangeMaps5
import Derived.Stop.Joined
import Derived.Lay
import Derived.SevenTiedAt
import Derived.SizedLaws
import Derived.LaidMore
import Derived.Test.YtibhljdiofglfaaDoorTie
import Derived.Test.YtibhljdiofglfaaDoorCards
import Derived.Test.YtibhljdiofglfaaDoorRsp
namespace Go.Proofs.YtibhljdiofglfaaDoor
open Go.ChangeShapes Go.WideShapes Go.ChangeAt Go.RowKit Go.ChangeMaps
set_option linter.unusedVariables false


theorem own : ownKnob Tryd.prog.godebug = none := by kernel_rfl
theorem own_rd {W : World} {base c n : Nat} {ad : Option Addr} {l : List Fou} (h : W.ownsRow base 32 4 (.slice ad n c) n (cells4 l)) (hn : n = l.length) : RdQ W ad l := by
  subst hn
  have e : cells4 l = cq l := cq_cells4 l
  rw [e] at h
  exact RdQ.own h
set_option maxHeartbeats 4000000 in
set_option maxRecDepth 100000 in
theorem walk (s0 : ByteArray) (w0 : s0.size ≤ maxLen) (w : World) (hL : laidMetH Tryd.prog Rows.wordScansRow.laid w) :
    Calls Tryd.prog 8 #[.string s0] w fun e w' => e = .returned (.bool true) ∧ Below w.heap.size w w' := by
  by_cases hs : s0.size ≤ 65536
  · have hP : ∀ W : World, Calls Tryd.prog 9 #[.string s0] W fun e w' => ScV s0 W.heap.size e w' ∧ Below W.heap.size W w' := fun W => callsIn_wide.1 (scan_in s0 hs W)
    have hD := fun W => rScan_any s0 hs W
    have hE := scan_eq s0
    have hkk := kk_pre (s := s0) (List.prefix_refl (linesOf s0))
    unfold TxE at hE
    cases hb : badL (linesOf s0) with
    | none =>
      rw [hb] at hE
      dsimp only at hE
      rw [hE, List.nil_append] at hD
      have hlen := fours_len 0 (linesOf s0)
      have hcs := fours_cells 0 (linesOf s0)
      have hP2 : ∀ W : World, Calls Tryd.prog 9 #[.string s0] W fun e w' => (∃ ad cap, e = .returned (.tuple #[.slice ad (fours 0 (linesOf s0)).length cap, .int .i64 0, .int .i64 0, .int .i64 0]) ∧ RdQ w' ad (fours 0 (linesOf s0))) ∧ Below W.heap.size W w' := fun W => (hP W).mono (by
        rintro e w' ⟨h1, h2⟩
        unfold ScV at h1
        rw [hb] at h1
        obtain ⟨v, rfl, hr⟩ := h1
        obtain ⟨ad, cap, rfl⟩ := row_slice hr
        rw [hcs] at hr
        exact ⟨⟨ad, cap, by rw [hlen], own_rd hr hlen.symm⟩, h2⟩)
      have hD2 : ∀ W : World, Calls Tryd.prog 14 #[.string s0] W fun e w' => (∃ ad cap, e = .returned (.tuple #[.slice ad (fours 0 (linesOf s0)).length cap, .int .i64 0, .int .i64 0, .int .i64 0]) ∧ RdQ w' ad (fours 0 (linesOf s0))) ∧ Below W.heap.size W w' := fun W => (hD W).mono (by
        rintro e w' ⟨h2, ad, cap, h1, hr⟩
        exact ⟨⟨ad, cap, h1, own_rd hr rfl⟩, h2⟩)
      have hsz : (fours 0 (linesOf s0)).length ≤ 4611686018427387904 := by omega
      clear hP hD hE hb hlen hcs hkk
      generalize fours 0 (linesOf s0) = L at *
      go_enter Tryd.func8, Tryd.ntmps8
      go_wp2_with (first | (go_at_call 9; (with_reducible refine (hP2 _).mono ?_); rintro e u1 ⟨⟨a1, c1, rfl, r1⟩, hb1⟩) | (go_at_call 14; (with_reducible refine (hD2 _).mono ?_); rintro e u2 ⟨⟨a2, c2, rfl, r2⟩, hb2⟩) | (go_at_call 10; refine (alive_any _).mono ?_; rintro e u3 ⟨rfl, hb3⟩) | (go_at_call 15; refine (sameQ_yes a1 a2 c1 c2 L u3 ((r1.carry hb2).carry hb3) (r2.carry hb3) hsz).mono ?_; rintro e u4 ⟨rfl, hb4⟩))
      go_ret
      exact ⟨rfl, bel2 (bel2 (bel2 hb1 hb2) hb3) hb4⟩
    | some r =>
      obtain ⟨i, er, c⟩ := r
      rw [hb] at hE
      dsimp only at hE
      rw [hE, Nat.zero_add] at hD
      have hP2 : ∀ W : World, Calls Tryd.prog 9 #[.string s0] W fun e w' => e = .returned (.tuple #[.slice none 0 0, .int .i64 (er : Int), .int .i64 ((i + 1 : Nat) : Int), .int .i64 (c : Int)]) ∧ Below W.heap.size W w' := fun W => (hP W).mono (by
        rintro e w' ⟨h1, h2⟩
        unfold ScV at h1
        rw [hb] at h1
        exact ⟨h1, h2⟩)
      have hD2 : ∀ W : World, Calls Tryd.prog 14 #[.string s0] W fun e w' => e = .returned (.tuple #[.slice none 0 0, .int .i64 (er : Int), .int .i64 ((i + 1 : Nat) : Int), .int .i64 (c : Int)]) ∧ Below W.heap.size W w' := fun W => (hD W).mono (by
        rintro e w' ⟨h2, h1⟩
        exact ⟨h1, h2⟩)
      clear hP hD hE hb hkk
      generalize ((i + 1 : Nat) : Int) = A at *
      go_enter Tryd.func8, Tryd.ntmps8
      go_wp2_with (first | (go_at_call 9; (with_reducible refine (hP2 _).mono ?_); rintro e u1 ⟨rfl, hb1⟩) | (go_at_call 14; (with_reducible refine (hD2 _).mono ?_); rintro e u2 ⟨rfl, hb2⟩) | (go_at_call 10; refine (alive_any _).mono ?_; rintro e u3 ⟨rfl, hb3⟩) | (go_at_call 15; refine (sameQ_yes none none 0 0 [] u3 (fun h => absurd rfl h) (fun h => absurd rfl h) (by simp)).mono ?_; rintro e u4 ⟨rfl, hb4⟩))
      go_ret
      exact ⟨rfl, bel2 (bel2 (bel2 hb1 hb2) hb3) hb4⟩
  · have hP2 := fun W => scan_long s0 (by omega) W
    have hD2 := fun W => rScan_long s0 (by omega) W
    go_enter Tryd.func8, Tryd.ntmps8
    go_wp2_with (first | (go_at_call 9; refine (hP2 _).mono ?_; rintro e u1 ⟨rfl, hb1⟩) | (go_at_call 14; (with_reducible refine (hD2 _).mono ?_); rintro e u2 ⟨rfl, hb2⟩) | (go_at_call 10; refine (alive_any _).mono ?_; rintro e u3 ⟨rfl, hb3⟩) | (go_at_call 15; refine (sameQ_yes none none 0 0 [] u3 (fun h => absurd rfl h) (fun h => absurd rfl h) (by simp)).mono ?_; rintro e u4 ⟨rfl, hb4⟩))
    go_ret
    exact ⟨rfl, bel2 (bel2 (bel2 hb1 hb2) hb3) hb4⟩

set_option maxRecDepth 100000 in
theorem lifted (os : Os) (started : os.Started) (H : Type) (enc : TypeId × Value → H) :
    ReturnsInHanded {} Tryd.checked os 8 .any (fun w args => (Rows.wordScansSpec.pre enc Tryd.prog Tryd.f8 [] false w args ∧ laidMetH Tryd.prog Rows.wordScansRow.laid w) ∧ sizedMet enc Tryd.prog Tryd.f8 (OpenSpec.ofChange Rows.wordScansSpec) false w args)
      (Rows.wordScansSpec.post enc Tryd.prog Tryd.f8 false true false false) := by
  refine returnsInHanded_of_change_and (C := Tryd.checked) (X := fun w _ => laidMetH Tryd.prog Rows.wordScansRow.laid w) (fun _ _ _ hh h => h.of_heap hh) own started (by kernel_rfl) Tryd.func8
    (ChangeSpec.witness_shaped (enc := enc) (C := Tryd.checked) (os := os) (X := fun w _ => laidMetH Tryd.prog Rows.wordScansRow.laid w) false (World.laidAll Tryd.prog os Rows.wordScansRow.laid) #[.string ByteArray.empty] 8 (World.laidAll_os _ _ _)
      (World.shaped_of_ZipB (by kernel_rfl) (by kernel_rfl)) (by kernel_rfl) (by kernel_rfl) (by kernel_rfl)
      (by rw [MakeChecks.laidMetH_plain _ _ _ (by kernel_rfl)]; exact laidMet_laidAll _ (by kernel_rfl) (by kernel_rfl))) ?_
  intro W base args ds gs before hval0 hW _ hsz hL _
  have hval : ∀ (j : Nat) t v, Tryd.f8.params[j]? = some t → args[j]? = some v → Value.okWide Tryd.prog W .any base t v := hval0
  have hW' := hW
  obtain ⟨p, q, hA0, hV, rfl, hfz, hnd⟩ := hW
  have hA : DataW.TrodAll enc Tryd.prog W 0 (fun _ => true) true Tryd.f8.params.toList args.toList ds p := hA0
  rw [Tryd.params8] at hA hval
  obtain ⟨v0, vs0, d0, ds0, p0, q0, hargs, rfl, rfl, h0, r0⟩ := trodAll_cons hA
  obtain ⟨rfl, rfl, rfl⟩ := trodAll_nil r0
  obtain rfl : args = #[v0] := by cases args; simp_all
  obtain ⟨rfl, rfl⟩ := trodVars_none hV
  obtain ⟨s0, rfl, rfl, rfl, w0⟩ := open_string Tryd.underlying9 (hval 0 9 v0 rfl rfl) h0
  clear hA0 hval0
  simp only [List.append_nil] at hW'
  refine (walk s0 w0 W hL).mono fun e W' ⟨he, hg⟩ => ?_
  subst he
  exact ⟨_, rfl, _, _, _, [], _, [], hW', (trodAll_cons_mk (shut_bool Tryd.underlying4 _) trodAll_mk0), (trodAll_cons_mk (shut_string Tryd.underlying9 w0) trodAll_mk0), rfl, hg.frame _, fun h => by cases h⟩

theorem over : Rows.wordScansRow.holds Tryd.pinned (OpenSpec.ofChange Rows.wordScansSpec) :=
  OpenClaim.holds_of_wide 8 Tryd.f8 rfl rfl rfl rfl rfl rfl rfl ⟨rfl, rfl, rfl, rfl, rfl⟩ rfl rfl rfl rfl rfl (by kernel_rfl) Tryd.func8 (by kernel_rfl)
    (of_decide_eq_true (by kernel_rfl)) (by unfold Func.isWrapper; first | (rw [if_pos (by decide +kernel)]; kernel_rfl) | (rw [if_neg (by decide +kernel)]; exact ⟨rfl, rfl⟩))
    (fun os started H enc _ => lifted os started H enc)

theorem row_proved : Rows.WordScansSaid :=
  over
theorem proved : Rows.WordScansCardSaid :=
  Claim7.holds_tied_plain_at .later [] [.data, .pinned] true (true, "997cb61f626bbeca65f6e5b32c5c8ee889106521db348261eb31df427ee72416") false
    row_proved (fun _ h => by cases h) (by kernel_rfl) (fun _ h => by cases h) wordScans_row_tie rfl ⟨rfl, rfl⟩ (by kernel_rfl) rfl
    (fun f fn hf hfn => by
      obtain rfl : f = 8 := Option.some.inj ((show Tryd.prog.funcNamed "earshot/earshotlaw2.WordScans" = some 8 by kernel_rfl).symm.trans hf) |>.symm
      obtain rfl : fn = Tryd.f8 := (Option.some.inj (Tryd.func8.symm.trans hfn)).symm
      exact ⟨by kernel_rfl, fun j t ht => by
        rw [Tryd.params8] at ht
        rcases j with _ | j
        · have e : t = 9 := by simpa using ht.symm
          subst e
          exact (show Tryd.prog.wantsStandIn 9 = false by kernel_rfl)
        simp at ht⟩)
    (by kernel_rfl)
#print axioms proved
end Go.Proofs.YtibhljdiofglfaaDoor
