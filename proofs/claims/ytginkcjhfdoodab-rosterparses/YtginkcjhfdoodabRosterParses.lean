/- RosterParses: at every two texts: Parse answers as the document says. -/
import Derived.Test.YtginkcjhfdoodabRows
import Derived.WalkKit
import Derived.ProofKit
import Derived.OpenShut
import Derived.ChangeMaps5
import Derived.Test.YtginkcjhfdoodabRpr
namespace Go.Proofs.Ytginkcjhfdoodab
open Go.ChangeShapes Go.WideShapes Go.ChangeAt Go.RowKit Go.ChangeMaps
set_option linter.unusedVariables false


theorem own : ownKnob Try.prog.godebug = none := by kernel_rfl
open Go.Shelf Go.Lib
set_option maxHeartbeats 4000000 in
set_option maxRecDepth 100000 in
theorem walk (s0 : ByteArray) (w0 : s0.size ≤ maxLen) (s1 : ByteArray) (w1 : s1.size ≤ maxLen) (w : World) :
    Calls Try.prog 3 #[.string s0, .string s1] w fun e w' => e = .returned (.bool true) ∧ Below w.heap.size w w' := by
  have hrd := read_any s0 w0
  have hrr := rRead_any s0 w0
  have hal := alive_any
  unfold RdV at hrd
  unfold RdR at hrr
  have hsg := readR_signs s0
  generalize readR s0 = R at *
  obtain ⟨l, x, y⟩ := R
  dsimp only at hrd hrr hsg
  have hlt := parseR_lt hsg s1
  have HP : Hid (∀ (M : Nat) (v : Value) (W : World), Ros M W v l → M ≤ W.heap.size → Calls Try.prog 6 #[v, .string s1] W fun e w' => e = .returned (psV (parseR l s1)) ∧ Below W.heap.size W w') := fun M v W h hM => parse_any W h hM s1 w1
  have HQ : Hid (∀ (M : Nat) (v : Value) (W : World), RosR M W v l → M ≤ W.heap.size → Calls Try.prog 7 #[v, .string s1] W fun e w' => e = .returned (psV (parseR l s1)) ∧ Below W.heap.size W w') := fun M v W h hM => rParse_any W h hM s1 w1
  generalize parseR l s1 = P at *
  obtain ⟨N, a, b⟩ := P
  dsimp only at hlt
  have hq := eqn4 N N (s100_128 hlt) (s100_128 hlt)
  rw [decide_eq_true rfl] at hq
  unfold psV at HP HQ
  simp only [sv] at HP HQ hq
  go_enter Try.func3, Try.ntmps3
  go_wp2_with (first | (go_at_call 4; refine (hrd _).mono ?_; rintro e u1 ⟨⟨v, rfl, hv⟩, hb1⟩; obtain ⟨ad, cap, mb, rfl⟩ := hv.form; have hz1 := hb1.size; have hv1 := hv.alloc (Nat.le_refl _) (.cells #[.slice ad l.length cap, .map mb] 25)) | (go_at_call 5; refine (hrr _).mono ?_; rintro e u2 ⟨⟨v, rfl, hr⟩, hb2⟩; obtain ⟨ar, cr, rfl⟩ := hr.form; have hz2 : u1.heap.size + 1 ≤ u2.heap.size := (by simpa using hb2.size); have hv2 := (hv1.call (by simp) hb2).alloc (by omega) (.cells #[.slice ar l.length cr] 31); have g2 : (u2.alloc (.cells #[.slice ar l.length cr] 31)).heap[u1.heap.size]? = some (.cells #[.slice ad l.length cap, .map mb] 25 (0, 0)) := old_at ((hb2.block _ (by simp)).trans (new_at rfl)); have c0 := cell_at g2 0; have c1 := cell_at g2 1; have hr2 := hr.alloc (Nat.le_refl _) (.cells #[.slice ar l.length cr] 31)) | (go_at_call 6; refine (HP.out _ _ _ hv2 (by simp; omega)).mono ?_; rintro e u3 ⟨rfl, hb3⟩; have hz3 : u2.heap.size + 1 ≤ u3.heap.size := (by simpa using hb3.size); have hr3 := (hr2.call (by simp) hb3).alloc (by omega) (.cells (cells4 (wd N)) 36); have k3 : u3.heap[u2.heap.size]? = some (.cells #[.slice ar l.length cr] 31 (0, 0)) := (hb3.block _ (by simp)).trans (new_at rfl); have d2 := cell_at k3 0; have hlt3 := lt_at k3; have m3 : Hid (Holds4 (u3.alloc (.cells (cells4 (wd N)) 36)) u3.heap.size (wd N)) := get_new rfl) | (go_at_call 7; refine (HQ.out _ _ _ hr3 (by simp; omega)).mono ?_; rintro e u4 ⟨rfl, hb4⟩; have hz4 : u3.heap.size + 1 ≤ u4.heap.size := (by simpa using hb4.size); have m4 : Hid (Holds4 (u4.alloc (.cells (cells4 (wd N)) 36)) u3.heap.size (wd N)) := get_old ((m3.out).carry hb4); have n4 : Hid (Holds4 (u4.alloc (.cells (cells4 (wd N)) 36)) u4.heap.size (wd N)) := get_new rfl) | (go_at_call 8; refine (hal _).mono ?_; rintro e u5 ⟨rfl, hb5⟩; have hz5 : u4.heap.size + 1 ≤ u5.heap.size := (by simpa using hb5.size); have m5 := (m4.out).carry hb5; have n5 := (n4.out).carry hb5; obtain ⟨x0, x1, x2, x3, _⟩ := m5.facts; obtain ⟨y0, y1, y2, y3, _⟩ := n5.facts; have hm5 := m5.lt; have hn5 := n5.lt; clear m5 n5))
  go_ret
  exact ⟨rfl, ((((((hb1.alloc hz1 _).trans (hb2.mono (by simp; omega))).alloc (by omega) _).trans (hb3.mono (by simp; omega))).alloc (by omega) _).trans (hb4.mono (by simp; omega))).alloc (by omega) _ |>.trans (hb5.mono (by simp; omega))⟩

set_option maxRecDepth 100000 in
theorem lifted (os : Os) (started : os.Started) (H : Type) (enc : TypeId × Value → H) :
    ReturnsInHanded {} Try.checked os 3 .any (Rows.rosterParsesSpec.pre6 enc Try.prog Try.f3 Rows.rosterParsesRow.domain false) (Rows.rosterParsesSpec.post enc Try.prog Try.f3 false true false false) := by
  refine returnsInHanded_of_change (C := Try.checked) own started (by kernel_rfl) Try.func3
    (ChangeSpec.witness6 (enc := enc) (C := Try.checked) false ⟨#[], #[.string ByteArray.empty, .string ByteArray.empty], []⟩ 8 (by kernel_rfl) (by kernel_rfl) (by kernel_rfl) (by kernel_rfl)) ?_
  intro W base args ds gs before hval0 hW hcnd _
  have hval : ∀ (j : Nat) t v, Try.f3.params[j]? = some t → args[j]? = some v → Value.okWide Try.prog W .any base t v := hval0
  have hW' := hW
  obtain ⟨p, q, hA0, hV, rfl, hfz, hnd⟩ := hW
  have hA : DataW.TrodAll enc Try.prog W 0 (fun _ => true) true Try.f3.params.toList args.toList ds p := hA0
  rw [Try.params3] at hA hval
  obtain ⟨v0, vs0, d0, ds0, p0, q0, hargs, rfl, rfl, h0, r0⟩ := trodAll_cons hA
  obtain ⟨v1, vs1, d1, ds1, p1, q1, rfl, rfl, rfl, h1, r1⟩ := trodAll_cons r0
  obtain ⟨rfl, rfl, rfl⟩ := trodAll_nil r1
  obtain rfl : args = #[v0, v1] := by cases args; simp_all
  obtain ⟨rfl, rfl⟩ := trodVars_none hV
  obtain ⟨s0, rfl, rfl, rfl, w0⟩ := open_string Try.underlying9 (hval 0 9 v0 rfl rfl) h0
  obtain ⟨s1, rfl, rfl, rfl, w1⟩ := open_string Try.underlying9 (hval 1 9 v1 rfl rfl) h1
  clear hA0 hval0
  simp only [List.append_nil] at hW'
  refine (walk s0 w0 s1 w1 W).mono fun e W' ⟨he, hg⟩ => ?_
  subst he
  exact ⟨_, rfl, _, _, _, [], _, [], hW', (trodAll_cons_mk (shut_bool Try.underlying4 _) trodAll_mk0), (trodAll_cons_mk (shut_string Try.underlying9 w0) (trodAll_cons_mk (shut_string Try.underlying9 w1) trodAll_mk0)), rfl, hg.frame _, fun h => by cases h⟩

theorem over : Rows.rosterParsesRow.holds Try.pinned (OpenSpec.ofChange Rows.rosterParsesSpec) :=
  OpenClaim.holds_of_wide 3 Try.f3 rfl rfl rfl rfl rfl rfl rfl ⟨rfl, rfl, rfl, rfl, rfl⟩ rfl rfl rfl rfl rfl (by kernel_rfl) Try.func3 (by kernel_rfl)
    (of_decide_eq_true (by kernel_rfl)) (by unfold Func.isWrapper; first | (rw [if_pos (by decide +kernel)]; kernel_rfl) | (rw [if_neg (by decide +kernel)]; exact ⟨rfl, rfl⟩))
    (fun os started H enc _ => lifted os started H enc)

theorem proved : Rows.RosterParsesSaid :=
  over
#print axioms proved
end Go.Proofs.Ytginkcjhfdoodab
