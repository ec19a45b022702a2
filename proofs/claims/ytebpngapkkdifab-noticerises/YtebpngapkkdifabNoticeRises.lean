/- NoticeRises: at every number and list of notices: Rising answers as the document says, and the list stays; no condition. -/
import Derived.Test.YtebpngapkkdifabRows
import Derived.WalkKit
import Derived.ProofKit
import Derived.OpenShut
import Derived.SizedLaws
import Derived.Test.YtebpngapkkdifabRnl
import Derived.Test.YtebpngapkkdifabOpm
namespace Go.Proofs.Ytebpngapkkdifab
open Go.ChangeShapes Go.WideShapes Go.ChangeAt Go.RowKit
set_option linter.unusedVariables false

theorem laidOut : laidOutB Try.prog = true := by kernel_rfl
theorem own : ownKnob Try.prog.godebug = none := by kernel_rfl
open Go.Shelf
set_option maxHeartbeats 4000000 in
set_option maxRecDepth 100000 in
theorem walk (w : World) (a0 : Int) (w0 : (Lit.int .i64 a0).wf = true) (ad1 : Option Addr) (cap1 : Nat) (l1 : List (Int × Int × Int)) (w1 : RdN w ad1 l1) (hc1 : ad1 = none → cap1 = 0) (reach1 : l1.length * 24 ≤ 140737488351232) :
    Calls Try.prog 3 #[.int .i64 a0, .slice ad1 l1.length cap1] w fun e w' => e = .returned (.bool true) ∧ Below w.heap.size w w' := by
  have hl : l1.length ≤ 6000000000000 := by omega
  have hle := lent_any ad1 cap1 l1 w w1 hc1 reach1
  have hal := alive_any
  have hR := ris a0 (-1) l1
  have HI : Hid (∀ (W : World) (ad : Option Addr) (cap : Nat), RdN W ad l1 → Calls Try.prog 6 #[.int .i64 a0, .slice ad l1.length cap] W fun e w' => e = .returned (.bool (ris a0 (-1) l1)) ∧ Below W.heap.size W w') := fun W ad cap h => rising_any a0 ad cap l1 W h hl
  have HJ : Hid (∀ (W : World) (ad : Option Addr) (cap : Nat), RdN W ad l1 → Calls Try.prog 7 #[.int .i64 a0, .slice ad l1.length cap] W fun e w' => e = .returned (.bool (ris a0 (-1) l1)) ∧ Below W.heap.size W w') := fun W ad cap h => rRising_any a0 ad cap l1 W h hl
  have HS : Hid (∀ (W : World) (g c : Nat), g < W.heap.size → NtsAt W g 0 (l1 ++ mks) → l1.length + 3 ≤ c → RdN W ad1 l1 → Calls Try.prog 8 #[.slice (some ⟨g, 0, none⟩) l1.length c, .slice ad1 l1.length cap1] W fun e w' => e = .returned (.bool true) ∧ Below W.heap.size W w') := fun W g c h1 h2 h3 h4 => stays_any g ad1 c cap1 l1 W h1 h2 h3 h4 hl
  have Hw : Hid (RdN w ad1 l1) := w1
  clear w1 hR
  generalize ris a0 (-1) l1 = R at *
  have hRR : (R == R) = true := by simp
  go_enter Try.func3, Try.ntmps3
  go_wp2_with (first | (go_at_call 4; (with_reducible refine hle.mono ?_); rintro e u1 ⟨g, c, rfl, hc, hg, hat, hb1⟩; have HA : Hid (NtsAt u1 g 0 (l1 ++ mks)) := hat; clear hat) | (go_at_call 5; (with_reducible refine (hal _).mono ?_); rintro e u2 ⟨rfl, hb2⟩; have HA2 : Hid (NtsAt u2 g 0 (l1 ++ mks)) := NtsAt.carry HA.out hg hb2; have hg2 : g < u2.heap.size := Nat.lt_of_lt_of_le hg hb2.size; have hc3 := HI.out u2 (some ⟨g, 0, none⟩) c (fun _ => ⟨g, 0, rfl, hg2, fun k x hk => HA2.out k x (by rw [List.getElem?_append_left (List.getElem?_eq_some_iff.1 hk).1]; exact hk)⟩)) | (go_at_call 6; (with_reducible refine hc3.mono ?_); rintro e u3 ⟨rfl, hb3⟩; have hB3 : Below w.heap.size w u3 := bel2 (bel2 hb1 hb2) hb3; have hc4 := HJ.out u3 ad1 cap1 ((Hw.out.carry (bel2 (bel2 hb1 hb2) hb3)))) | (go_at_call 7; (with_reducible refine hc4.mono ?_); rintro e u4 ⟨rfl, hb4⟩; have hc5 := HS.out u4 g c (Nat.lt_of_lt_of_le (Nat.lt_of_lt_of_le hg2 hb3.size) hb4.size) ((NtsAt.carry (NtsAt.carry HA2.out hg2 hb3) (Nat.lt_of_lt_of_le hg2 hb3.size) hb4)) hc (Hw.out.carry (bel2 hB3 hb4))) | (go_at_call 8; (with_reducible refine hc5.mono ?_); rintro e u5 ⟨rfl, hb5⟩))
  go_ret
  exact ⟨rfl, bel2 (bel2 hB3 hb4) hb5⟩

set_option maxRecDepth 100000 in
theorem lifted (os : Os) (started : os.Started) (H : Type) (enc : TypeId × Value → H) :
    ReturnsInHanded {} Try.checked os 3 .any (Rows.noticeRisesSpec.pre6 enc Try.prog Try.f3 Rows.noticeRisesRow.domain false) (Rows.noticeRisesSpec.post enc Try.prog Try.f3 false true false false) := by
  refine returnsInHanded_of_change_sized (C := Try.checked) own started (by kernel_rfl) Try.func3
    (ChangeSpec.witness6 (enc := enc) (C := Try.checked) false ⟨#[], #[.int .i64 0, .slice none 0 0], []⟩ 8 (by kernel_rfl) (by kernel_rfl) (by kernel_rfl) (by kernel_rfl)) ?_
  intro W base args ds gs before hval0 hW hcnd hsz _
  have hval : ∀ (j : Nat) t v, Try.f3.params[j]? = some t → args[j]? = some v → Value.okWide Try.prog W .any base t v := hval0
  have hW' := hW
  obtain ⟨p, q, hA0, hV, rfl, hfz, hnd⟩ := hW
  have hA : DataW.TrodAll enc Try.prog W 0 (fun _ => true) true Try.f3.params.toList args.toList ds p := hA0
  rw [Try.params3] at hA hval
  obtain ⟨v0, vs0, d0, ds0, p0, q0, hargs, rfl, rfl, h0, r0⟩ := trodAll_cons hA
  obtain ⟨v1, vs1, d1, ds1, p1, q1, rfl, rfl, rfl, h1, r1⟩ := trodAll_cons r0
  obtain ⟨rfl, rfl, rfl⟩ := trodAll_nil r1
  obtain rfl : args = #[v0, v1] := by cases args; simp_all
  obtain ⟨rfl, rfl⟩ := trodVars_none hV
  obtain ⟨a0, rfl, rfl, rfl, w0⟩ := open_int Try.underlying3 (hval 0 3 v0 rfl rfl) h0
  have k1 := h1
  have lt1 : ∀ x ∈ p1, x.block < W.heap.size := by obtain ⟨m, hm⟩ := k1; exact DataW.trod_lt m _ _ _ hm
  obtain ⟨ad1, cap1, l1, rfl, w1, hc1, hd1⟩ := open_nts (hval 1 22 v1 rfl rfl) h1
  have reach1 : l1.length * 24 ≤ 140737488351232 := by
    rcases hd1 with e | ⟨E, S, e, hE⟩
    · rw [e]; simp
    · have this : (E.length + S.length) * Try.prog.bytesOf 28 ≤ reachBytes := sized_slice hsz (j := 1) (t := 22) (e := 28) rfl (congrArg some e) Try.underlying22
      rw [show Try.prog.bytesOf 28 = 24 by kernel_rfl, hE] at this
      unfold reachBytes at this
      omega
  clear hA0 hval0
  refine (walk W a0 w0 ad1 cap1 l1 w1 hc1 reach1).mono fun e W' ⟨he, hg⟩ => ?_
  subst he
  exact ⟨_, rfl, _, _, _, [], _, [], hW', (trodAll_cons_mk (shut_bool Try.underlying4 _) trodAll_mk0), (trodAll_cons_mk (shut_int Try.underlying3 w0) (trodAll_cons_mk (Below.trod laidOut (by kernel_rfl) (of_decide_eq_true (by kernel_rfl)) k1 hg lt1) trodAll_mk0)), rfl, hg.frame _, fun h => by cases h⟩

theorem over : Rows.noticeRisesRow.holds Try.pinned (OpenSpec.ofChange Rows.noticeRisesSpec) :=
  OpenClaim.holds_of_wide 3 Try.f3 rfl rfl rfl rfl rfl rfl rfl ⟨rfl, rfl, rfl, rfl, rfl⟩ rfl rfl rfl rfl rfl (by kernel_rfl) Try.func3 (by kernel_rfl)
    (of_decide_eq_true (by kernel_rfl)) (by unfold Func.isWrapper; first | (rw [if_pos (by decide +kernel)]; kernel_rfl) | (rw [if_neg (by decide +kernel)]; exact ⟨rfl, rfl⟩))
    (fun os started H enc _ => lifted os started H enc)

theorem proved : Rows.NoticeRisesSaid :=
  over
#print axioms proved
end Go.Proofs.Ytebpngapkkdifab
