/- RosterReads: at every text: Read, Size and Text answer as the document says. -/
import Derived.Test.YtginkcjhfdoodaaRows
import Derived.WalkKit
import Derived.ProofKit
import Derived.OpenShut
import Derived.ChangeMaps5
import Derived.Test.YtginkcjhfdoodaaRsc
import Derived.Test.YtginkcjhfdoodaaRfb
import Derived.Test.YtginkcjhfdoodaaRgf
namespace Go.Proofs.Ytginkcjhfdoodaa
open Go.ChangeShapes Go.WideShapes Go.ChangeAt Go.RowKit Go.ChangeMaps
set_option linter.unusedVariables false


theorem own : ownKnob Try.prog.godebug = none := by kernel_rfl
open Go.Shelf Go.Lib
/-- What lies there as both rosters are asked. -/
structure JB (w : World) (B C : Nat) (ad ar : Option Addr) (cap cr : Nat) (mb : Option Nat) (l : List Int) (W : World) : Prop where
  a : W.heap[B]? = some (.cells #[.slice ad l.length cap, .map mb] 25 (0, 0))
  b : W.heap[C]? = some (.cells #[.slice ar l.length cr] 45 (0, 0))
  r : Ros B W (.agg #[.slice ad l.length cap, .map mb]) l
  s : RosR C W (.agg #[.slice ar l.length cr]) l
  below : Below w.heap.size w W
  le : w.heap.size ≤ B ∧ B < C
theorem JB.carry {w : World} {B C : Nat} {ad ar : Option Addr} {cap cr : Nat} {mb : Option Nat} {l : List Int} {W W' : World} (h : JB w B C ad ar cap cr mb l W) (hb : Below W.heap.size W W') : JB w B C ad ar cap cr mb l W' := by
  have h1 := lt_at h.a
  have h2 := lt_at h.b
  have h3 := h.le
  exact ⟨(hb.block _ h1).trans h.a, (hb.block _ h2).trans h.b, h.r.call (by omega) hb, h.s.call (by omega) hb, h.below.trans (hb.mono (by omega)), h.le⟩
theorem load_ros {W : World} {B : Nat} {u v : Value} (h : W.heap[B]? = some (.cells #[u, v] 25 (0, 0))) : (Instr.loadAt 25 (.pointer (some ⟨B, 0, none⟩))).run Try.prog W = .ok (.agg #[u, v]) W := by
  have c0 := cell_at h 0
  have c1 := cell_at h 1
  go_simp
theorem load_rosR {W : World} {B : Nat} {u : Value} (h : W.heap[B]? = some (.cells #[u] 45 (0, 0))) : (Instr.loadAt 45 (.pointer (some ⟨B, 0, none⟩))).run Try.prog W = .ok (.agg #[u]) W := by
  have c0 := cell_at h 0
  go_simp
theorem load_nums {W : World} {B : Nat} {ad : Option Addr} {n cap : Nat} (h : W.heap[B]? = some (.cells #[.slice ad n cap] 45 (0, 0))) : (Instr.loadAt 43 (.pointer (some ⟨B, 0, none⟩))).run Try.prog W = .ok (.slice ad n cap) W := by
  have c0 := cell_at h 0
  go_simp
theorem field_rosR (W : World) (B : Nat) : (Instr.fieldAt 45 (.pointer (some ⟨B, 0, none⟩)) 0).run Try.prog W = .ok (.pointer (some ⟨B, 0, none⟩)) W := by
  go_simp
set_option maxHeartbeats 4000000 in
set_option maxRecDepth 100000 in
theorem walk (s0 : ByteArray) (w0 : s0.size ≤ maxLen) (w : World) :
    Calls Try.prog 5 #[.string s0] w fun e w' => e = .returned (.bool true) ∧ Below w.heap.size w w' := by
  have hmx : Try.prog.follows .mixedOrders = true := by kernel_rfl
  have hrd := read_any s0 w0
  have hrr := rRead_any s0 w0
  have hal := alive_any
  unfold RdV at hrd
  unfold RdR at hrr
  have hsg := readR_signs s0
  generalize readR s0 = R at *
  obtain ⟨l, x, y⟩ := R
  dsimp only at hrd hrr hsg
  go_enter Try.func5, Try.ntmps5
  go_wp2_with (first | (go_at_call 7; refine (hrd _).mono ?_; rintro e u1 ⟨⟨v, rfl, hv⟩, hb1⟩; obtain ⟨ad, cap, mb, rfl⟩ := hv.form; have hz1 := hb1.size; have hv1 := hv.alloc (Nat.le_refl _) (.cells #[.slice ad l.length cap, .map mb] 25)) | (go_at_call 14; refine (hrr _).mono ?_; rintro e u2 ⟨⟨v, rfl, hr⟩, hb2⟩; obtain ⟨ar, cr, rfl⟩ := hr.form; have hz2 : u1.heap.size + 1 ≤ u2.heap.size := (by simpa using hb2.size); have hj : JB w u1.heap.size u2.heap.size ad ar cap cr mb l (u2.alloc (.cells #[.slice ar l.length cr] 45)) := ⟨old_at ((hb2.block _ (by simp)).trans (new_at rfl)), new_at rfl, (hv1.call (by simp) hb2).alloc (by omega) _, hr.alloc (Nat.le_refl _) _, ((hb1.alloc hz1 _).trans (hb2.mono (by simp; omega))).alloc (by omega) _, hz1, by omega⟩))
  rename_i Q0 K0 hK
  refine wp_region_any hmx ?_
  refine wpAny_pure (fun i__ => ([(.bool true), (.bool true), (.int .i64 x), (.int .i64 x), (.bool true), (.bool true), (.bool true), (.int .i64 y), (.int .i64 y), (.bool true), (.bool true), (.bool true), (.agg #[.slice ad l.length cap, .map mb]), (.int .i64 l.length), (.pointer (some ⟨u2.heap.size, 0, none⟩)), (.slice ar l.length cr), (.int .i64 l.length), (.bool true), (.bool true), (.bool true), (.agg #[.slice ad l.length cap, .map mb]), (.string (txt l)), (.agg #[.slice ar l.length cr]), (.string (txt l)), (.bool true), (.bool true), (.bool true)] : List Value).getD i__ undef) (fun W => JB w u1.heap.size u2.heap.size ad ar cap cr mb l W) (by kernel_rfl) (hj.carry (Below.refl _ _).drew) ?_ ?_
  · refine (stepsFrom_cons ?_ (stepsFrom_cons ?_ (stepsFrom_cons ?_ (stepsFrom_cons ?_ (stepsFrom_cons ?_ (stepsFrom_cons ?_ (stepsFrom_cons ?_ (stepsFrom_cons ?_ (stepsFrom_cons ?_ (stepsFrom_cons ?_ (stepsFrom_cons ?_ (stepsFrom_cons ?_ (stepsFrom_cons ?_ (stepsFrom_cons ?_ (stepsFrom_cons ?_ (stepsFrom_cons ?_ (stepsFrom_cons ?_ (stepsFrom_cons ?_ (stepsFrom_cons ?_ (stepsFrom_cons ?_ (stepsFrom_cons ?_ (stepsFrom_cons ?_ (stepsFrom_cons ?_ (stepsFrom_cons ?_ (stepsFrom_cons ?_ (stepsFrom_cons ?_ (stepsFrom_cons ?_ trivial)))))))))))))))))))))))))))
    · exact step_call rfl trivial 9 _ _ [] rfl (by kernel_rfl) (enters_of Try.func9 (by kernel_rfl) rfl) (fun w hw => (hal w).mono (by rintro e w' ⟨rfl, hb⟩; exact ⟨rfl, hw.carry hb⟩))
    · exact step_move rfl trivial _ rfl (by kernel_rfl)
    · exact step_move rfl (by exact ⟨_, rfl, by kernel_rfl⟩) _ rfl (by kernel_rfl)
    · exact step_move rfl (by exact ⟨_, rfl, by kernel_rfl⟩) _ rfl (by kernel_rfl)
    · exact step_binOp rfl (by exact ⟨_, rfl, by kernel_rfl⟩) _ _ _ _ _ _ _ rfl rfl rfl (fun w hw => (bin_eql0 .i64 _ _).trans (by simp))
    · exact step_pick rfl trivial _ _ _ true rfl (by kernel_rfl) (by kernel_rfl)
    · exact step_move rfl trivial _ rfl (by kernel_rfl)
    · exact step_move rfl (by exact ⟨_, rfl, by kernel_rfl⟩) _ rfl (by kernel_rfl)
    · exact step_move rfl (by exact ⟨_, rfl, by kernel_rfl⟩) _ rfl (by kernel_rfl)
    · exact step_binOp rfl (by exact ⟨_, rfl, by kernel_rfl⟩) _ _ _ _ _ _ _ rfl rfl rfl (fun w hw => (bin_eql0 .i64 _ _).trans (by simp))
    · exact step_pick rfl trivial _ _ _ true rfl (by kernel_rfl) (by kernel_rfl)
    · exact step_move rfl trivial _ rfl (by kernel_rfl)
    · exact step_load rfl (by exact ⟨_, rfl, by kernel_rfl⟩) _ _ _ rfl rfl (fun w hw => load_ros hw.a)
    · exact step_call rfl (by exact ⟨_, rfl, by kernel_rfl⟩) 10 _ _ [(.agg #[.slice ad l.length cap, .map mb])] rfl (by kernel_rfl) (enters_of Try.func10 (by kernel_rfl) rfl) (fun w hw => (size_any w hw.r).mono (by rintro e w' ⟨rfl, hb⟩; exact ⟨rfl, hw.carry hb⟩))
    · exact step_fieldAddr rfl (by exact ⟨_, rfl, by kernel_rfl⟩) _ _ _ _ rfl rfl (fun w hw => field_rosR w _)
    · exact step_load rfl (by exact ⟨_, rfl, by kernel_rfl⟩) _ _ _ rfl rfl (fun w hw => load_nums hw.b)
    · exact step_bi rfl (by exact ⟨_, rfl, by kernel_rfl⟩) _ _ _ [(.slice ar l.length cr)] rfl (by kernel_rfl) (fun w hw => by go_simp)
    · exact step_binOp rfl (by exact ⟨_, rfl, by kernel_rfl⟩) _ _ _ _ _ _ _ rfl rfl rfl (fun w hw => (bin_eql0 .i64 _ _).trans (by simp))
    · exact step_pick rfl trivial _ _ _ true rfl (by kernel_rfl) (by kernel_rfl)
    · exact step_move rfl trivial _ rfl (by kernel_rfl)
    · exact step_load rfl (by exact ⟨_, rfl, by kernel_rfl⟩) _ _ _ rfl rfl (fun w hw => load_ros hw.a)
    · exact step_call rfl (by exact ⟨_, rfl, by kernel_rfl⟩) 11 _ _ [(.agg #[.slice ad l.length cap, .map mb])] rfl (by kernel_rfl) (enters_of Try.func11 (by kernel_rfl) rfl) (fun w hw => (text_any w hw.r (Nat.le_of_lt (lt_at hw.a))).mono (by rintro e w' ⟨rfl, hb⟩; exact ⟨rfl, hw.carry hb⟩))
    · exact step_load rfl (by exact ⟨_, rfl, by kernel_rfl⟩) _ _ _ rfl rfl (fun w hw => load_rosR hw.b)
    · exact step_call rfl (by exact ⟨_, rfl, by kernel_rfl⟩) 15 _ _ [(.agg #[.slice ar l.length cr])] rfl (by kernel_rfl) (enters_of Try.func15 (by kernel_rfl) rfl) (fun w hw => (rText_any w hw.s (Nat.le_of_lt (lt_at hw.b))).mono (by rintro e w' ⟨rfl, hb⟩; exact ⟨rfl, hw.carry hb⟩))
    · exact step_binOp rfl (by exact ⟨_, rfl, by kernel_rfl⟩) _ _ _ _ _ _ _ rfl rfl rfl (fun w hw => bin_eqls _)
    · exact step_pick rfl trivial _ _ _ true rfl (by kernel_rfl) (by kernel_rfl)
    · exact step_assign rfl trivial _ rfl (by kernel_rfl) (fun _ h => h)
  intro W hW
  first | refine hK _ _ ?_ | refine (‹∀ (a : Act) (w : World), Code.wp Try.prog _ _ a w → _›) _ _ ?_
  simp only [finL, List.getD_cons_zero, List.getD_cons_succ, Nat.zero_add, Nat.reduceAdd, List.setIfInBounds_toArray, List.set_cons_zero, List.set_cons_succ]
  go_wp2
  go_ret
  exact ⟨rfl, hW.below⟩

set_option maxRecDepth 100000 in
theorem lifted (os : Os) (started : os.Started) (H : Type) (enc : TypeId × Value → H) :
    ReturnsInHanded {} Try.checked os 5 .any (Rows.rosterReadsSpec.pre6 enc Try.prog Try.f5 Rows.rosterReadsRow.domain false) (Rows.rosterReadsSpec.post enc Try.prog Try.f5 false true false false) := by
  refine returnsInHanded_of_change (C := Try.checked) own started (by kernel_rfl) Try.func5
    (ChangeSpec.witness6 (enc := enc) (C := Try.checked) false ⟨#[], #[.string ByteArray.empty], []⟩ 8 (by kernel_rfl) (by kernel_rfl) (by kernel_rfl) (by kernel_rfl)) ?_
  intro W base args ds gs before hval0 hW hcnd _
  have hval : ∀ (j : Nat) t v, Try.f5.params[j]? = some t → args[j]? = some v → Value.okWide Try.prog W .any base t v := hval0
  have hW' := hW
  obtain ⟨p, q, hA0, hV, rfl, hfz, hnd⟩ := hW
  have hA : DataW.TrodAll enc Try.prog W 0 (fun _ => true) true Try.f5.params.toList args.toList ds p := hA0
  rw [Try.params5] at hA hval
  obtain ⟨v0, vs0, d0, ds0, p0, q0, hargs, rfl, rfl, h0, r0⟩ := trodAll_cons hA
  obtain ⟨rfl, rfl, rfl⟩ := trodAll_nil r0
  obtain rfl : args = #[v0] := by cases args; simp_all
  obtain ⟨rfl, rfl⟩ := trodVars_none hV
  obtain ⟨s0, rfl, rfl, rfl, w0⟩ := open_string Try.underlying9 (hval 0 9 v0 rfl rfl) h0
  clear hA0 hval0
  simp only [List.append_nil] at hW'
  refine (walk s0 w0 W).mono fun e W' ⟨he, hg⟩ => ?_
  subst he
  exact ⟨_, rfl, _, _, _, [], _, [], hW', (trodAll_cons_mk (shut_bool Try.underlying4 _) trodAll_mk0), (trodAll_cons_mk (shut_string Try.underlying9 w0) trodAll_mk0), rfl, hg.frame _, fun h => by cases h⟩

theorem over : Rows.rosterReadsRow.holds Try.pinned (OpenSpec.ofChange Rows.rosterReadsSpec) :=
  OpenClaim.holds_of_wide 5 Try.f5 rfl rfl rfl rfl rfl rfl rfl ⟨rfl, rfl, rfl, rfl, rfl⟩ rfl rfl rfl rfl rfl (by kernel_rfl) Try.func5 (by kernel_rfl)
    (of_decide_eq_true (by kernel_rfl)) (by unfold Func.isWrapper; first | (rw [if_pos (by decide +kernel)]; kernel_rfl) | (rw [if_neg (by decide +kernel)]; exact ⟨rfl, rfl⟩))
    (fun os started H enc _ => lifted os started H enc)

theorem proved : Rows.RosterReadsSaid :=
  over
#print axioms proved
end Go.Proofs.Ytginkcjhfdoodaa
