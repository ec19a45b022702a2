/- BookNews: at every size, self, tag and number: what the book tells behind New is what chapter 6 says, and the lists that are handed out lie apart; no condition. -/
import Derived.Test.YtojegojeolkgpaaGreatRows
import Derived.WalkKit
import Derived.ProofKit
import Derived.OpenShut
import Derived.Test.YtojegojeolkgpaaGreatBpy
namespace Go.Proofs.YtojegojeolkgpaaGreat
open Go.ChangeShapes Go.WideShapes Go.ChangeAt Go.RowKit
set_option linter.unusedVariables false


theorem own : ownKnob Tryz.prog.godebug = none := by kernel_rfl
open Go.Shelf
/-- The script of four that is built. -/
def newsC (id : Int) : Array Value := #[.int .i64 3, .int .i64 0, .int .i64 id, .slice none 0 0, .int .i64 5, .int .i64 0, .int .i64 0, .slice none 0 0, .int .i64 6, .int .i64 0, .int .i64 0, .slice none 0 0, .int .i64 8, .int .i64 0, .int .i64 0, .slice none 0 0]
def newsL (id : Int) : List Op4 := [(3, 0, id, []), (5, 0, 0, []), (6, 0, 0, []), (8, 0, 0, [])]
theorem news_rd {W : World} {b : Nat} {id : Int} (h : W.heap[b]? = some (.cells (newsC id) 25 (0, 0))) : RdO W W.heap.size (some ⟨b, 0, none⟩) (newsL id) := by
  intro n o ho
  match n, ho with
  | 0, ho => cases ho; exact ⟨b, 0, none, 0, rfl, lt_at h, (cell_at h 0).trans rfl, (cell_at h 1).trans rfl, (cell_at h 2).trans rfl, (cell_at h 3).trans rfl, (fun q => absurd rfl q), fun _ => rfl⟩
  | 1, ho => cases ho; exact ⟨b, 0, none, 0, rfl, lt_at h, (cell_at h 4).trans rfl, (cell_at h 5).trans rfl, (cell_at h 6).trans rfl, (cell_at h 7).trans rfl, (fun q => absurd rfl q), fun _ => rfl⟩
  | 2, ho => cases ho; exact ⟨b, 0, none, 0, rfl, lt_at h, (cell_at h 8).trans rfl, (cell_at h 9).trans rfl, (cell_at h 10).trans rfl, (cell_at h 11).trans rfl, (fun q => absurd rfl q), fun _ => rfl⟩
  | 3, ho => cases ho; exact ⟨b, 0, none, 0, rfl, lt_at h, (cell_at h 12).trans rfl, (cell_at h 13).trans rfl, (cell_at h 14).trans rfl, (cell_at h 15).trans rfl, (fun q => absurd rfl q), fun _ => rfl⟩
  | n + 4, ho => simp [newsL] at ho
set_option maxHeartbeats 4000000 in
set_option maxRecDepth 100000 in
theorem walk (a0 : Int) (w0 : (Lit.int .i64 a0).wf = true) (a1 : Int) (w1 : (Lit.int .i64 a1).wf = true) (a2 : Int) (w2 : (Lit.int .i64 a2).wf = true) (a3 : Int) (w3 : (Lit.int .i64 a3).wf = true) (w : World) :
    Calls Tryz.prog 3 #[.int .i64 a0, .int .i64 a1, .int .i64 a2, .int .i64 a3] w fun e w' => e = .returned (.bool true) ∧ Below w.heap.size w w' := by
  have hpl : Calls Tryz.prog 6 #[.int .i64 a0, .int .i64 a1, .int .i64 a2, .slice (some ⟨w.heap.size, 0, none⟩) 4 4, .bool true] (w.alloc (.cells (newsC a3) 25)) fun e w' => e = .returned (.bool true) ∧ Below (w.alloc (.cells (newsC a3) 25)).heap.size (w.alloc (.cells (newsC a3) 25)) w' := by
    by_cases h2 : ¬ (a0 < 1 ∨ 100 < a0) ∧ ¬ (a1 < 0 ∨ a0 ≤ a1) ∧ ¬ (a2 < 0 ∨ 1048576 < a2)
    · exact play_A a0 a1 a2 h2 _ (some ⟨w.heap.size, 0, none⟩) 4 (newsL a3) (news_rd (new_at rfl)) (by simp [newsL])
    · exact play_bad a0 a1 a2 h2 _ (some ⟨w.heap.size, 0, none⟩) 4 4 (by decide) true
  unfold newsC at hpl
  go_enter Tryz.func3, Tryz.ntmps3
  go_wp2_with (go_at_call 6; (with_reducible refine hpl.mono ?_); rintro e u1 ⟨rfl, hb1⟩)
  go_ret
  exact ⟨rfl, bel2 (al1 w _) hb1⟩

set_option maxRecDepth 100000 in
theorem lifted (os : Os) (started : os.Started) (H : Type) (enc : TypeId × Value → H) :
    ReturnsInHanded {} Tryz.checked os 3 .any (Rows.bookNewsSpec.pre6 enc Tryz.prog Tryz.f3 Rows.bookNewsRow.domain false) (Rows.bookNewsSpec.post enc Tryz.prog Tryz.f3 false true false false) := by
  refine returnsInHanded_of_change (C := Tryz.checked) own started (by kernel_rfl) Tryz.func3
    (ChangeSpec.witness6 (enc := enc) (C := Tryz.checked) false ⟨#[], #[.int .i64 0, .int .i64 0, .int .i64 0, .int .i64 0], []⟩ 8 (by kernel_rfl) (by kernel_rfl) (by kernel_rfl) (by kernel_rfl)) ?_
  intro W base args ds gs before hval0 hW hcnd _
  have hval : ∀ (j : Nat) t v, Tryz.f3.params[j]? = some t → args[j]? = some v → Value.okWide Tryz.prog W .any base t v := hval0
  have hW' := hW
  obtain ⟨p, q, hA0, hV, rfl, hfz, hnd⟩ := hW
  have hA : DataW.TrodAll enc Tryz.prog W 0 (fun _ => true) true Tryz.f3.params.toList args.toList ds p := hA0
  rw [Tryz.params3] at hA hval
  obtain ⟨v0, vs0, d0, ds0, p0, q0, hargs, rfl, rfl, h0, r0⟩ := trodAll_cons hA
  obtain ⟨v1, vs1, d1, ds1, p1, q1, rfl, rfl, rfl, h1, r1⟩ := trodAll_cons r0
  obtain ⟨v2, vs2, d2, ds2, p2, q2, rfl, rfl, rfl, h2, r2⟩ := trodAll_cons r1
  obtain ⟨v3, vs3, d3, ds3, p3, q3, rfl, rfl, rfl, h3, r3⟩ := trodAll_cons r2
  obtain ⟨rfl, rfl, rfl⟩ := trodAll_nil r3
  obtain rfl : args = #[v0, v1, v2, v3] := by cases args; simp_all
  obtain ⟨rfl, rfl⟩ := trodVars_none hV
  obtain ⟨a0, rfl, rfl, rfl, w0⟩ := open_int Tryz.underlying3 (hval 0 3 v0 rfl rfl) h0
  obtain ⟨a1, rfl, rfl, rfl, w1⟩ := open_int Tryz.underlying3 (hval 1 3 v1 rfl rfl) h1
  obtain ⟨a2, rfl, rfl, rfl, w2⟩ := open_int Tryz.underlying3 (hval 2 3 v2 rfl rfl) h2
  obtain ⟨a3, rfl, rfl, rfl, w3⟩ := open_int Tryz.underlying3 (hval 3 3 v3 rfl rfl) h3
  clear hA0 hval0
  simp only [List.append_nil] at hW'
  refine (walk a0 w0 a1 w1 a2 w2 a3 w3 W).mono fun e W' ⟨he, hg⟩ => ?_
  subst he
  exact ⟨_, rfl, _, _, _, [], _, [], hW', (trodAll_cons_mk (shut_bool Tryz.underlying4 _) trodAll_mk0), (trodAll_cons_mk (shut_int Tryz.underlying3 w0) (trodAll_cons_mk (shut_int Tryz.underlying3 w1) (trodAll_cons_mk (shut_int Tryz.underlying3 w2) (trodAll_cons_mk (shut_int Tryz.underlying3 w3) trodAll_mk0)))), rfl, hg.frame _, fun h => by cases h⟩

theorem over : Rows.bookNewsRow.holds Tryz.pinned (OpenSpec.ofChange Rows.bookNewsSpec) :=
  OpenClaim.holds_of_wide 3 Tryz.f3 rfl rfl rfl rfl rfl rfl rfl ⟨rfl, rfl, rfl, rfl, rfl⟩ rfl rfl rfl rfl rfl (by kernel_rfl) Tryz.func3 (by kernel_rfl)
    (of_decide_eq_true (by kernel_rfl)) (by unfold Func.isWrapper; first | (rw [if_pos (by decide +kernel)]; kernel_rfl) | (rw [if_neg (by decide +kernel)]; exact ⟨rfl, rfl⟩))
    (fun os started H enc _ => lifted os started H enc)

theorem proved : Rows.BookNewsSaid :=
  over
#print axioms proved
end Go.Proofs.YtojegojeolkgpaaGreat
