/- GlyphCuts, upto: for every text s and all ints i, from, to of bulk at most 1048576 together, glyph.Nth and glyph.Cut answer what the document answers; the bound on the bulk is the one condition. -/
import Derived.Test.YtgihafldphpncabRows
import Derived.WalkKit
import Derived.JoinedCond
import Derived.ProofKit
import Derived.OpenShut
import Derived.ShutString
import Derived.Test.YtgihafldphpncabRefC
namespace Go.Proofs.Ytgihafldphpncab
open Go.ChangeShapes Go.WideShapes Go.ChangeAt Go.RowKit
open Go.ChangeMaps (open_string shut_string)
set_option linter.unusedVariables false

theorem own : ownKnob Try.prog.godebug = none := by kernel_rfl

theorem nthV_form (s : ByteArray) (i : Int) : ∃ (r x z : Int) (l : Bool) (e : Int), nthV s i = .tuple #[.agg #[.int .i32 r, .int .i64 x, .int .i64 z, .bool l], .int .i64 e] := by
  unfold nthV
  cases nthO s i with
  | some p => exact ⟨_, _, _, _, _, rfl⟩
  | none => exact ⟨_, _, _, _, _, rfl⟩
theorem cutV_form (s : ByteArray) (i k : Int) : ∃ (t : ByteArray) (e : Int), cutV s i k = .tuple #[.string t, .int .i64 e] := by
  unfold cutV
  split
  · exact ⟨_, _, rfl⟩
  · exact ⟨_, _, rfl⟩
set_option maxHeartbeats 1000000 in
theorem walk (a0 : ByteArray) (a1 : Int) (a2 : Int) (a3 : Int) (w0 : a0.size ≤ maxLen) (w1 : (Lit.int .i64 a1).wf = true) (w2 : (Lit.int .i64 a2).wf = true) (w3 : (Lit.int .i64 a3).wf = true) (w : World) (small_a0 : a0.size ≤ 1048576) :
    Calls Try.prog 4 #[.string a0, .int .i64 a1, .int .i64 a2, .int .i64 a3] w fun e w' => e = .returned (.bool true) ∧ Below w.heap.size w w' := by
  have hz : a0.size ≤ 140737488355328 := by omega
  go_enter Try.func4, Try.ntmps4
  go_wp2_with fail
  refine (alive_any _).mono ?_
  rintro e wa ⟨rfl, hb0⟩
  obtain ⟨r, x, z, l, er, hN⟩ := nthV_form a0 a1
  obtain ⟨t, et, hC⟩ := cutV_form a0 a2 a3
  have HN : Hid (nthV a0 a1 = .tuple #[.agg #[.int .i32 r, .int .i64 x, .int .i64 z, .bool l], .int .i64 er]) := hN
  have HC : Hid (cutV a0 a2 a3 = .tuple #[.string t, .int .i64 et]) := hC
  clear hN hC
  go_wp2_with fail
  refine (nth_any a0 w0 a1 _).mono ?_
  rintro e wb ⟨rfl, hb1⟩
  rw [HN.out]
  go_wp2_with fail
  refine (refNth_any a0 small_a0 a1 _).mono ?_
  rintro e wc ⟨rfl, hb2⟩
  rw [HN.out]
  go_wp2_with fail
  refine (cut_any a0 hz a2 a3 _).mono ?_
  rintro e wd ⟨rfl, hb3⟩
  rw [HC.out]
  go_wp2_with fail
  refine (refCut_any a0 small_a0 a2 a3 _).mono ?_
  rintro e we ⟨rfl, hb4⟩
  rw [HC.out]
  have q1 : we.heap[wb.heap.size]? = some (.cells #[.int .i32 r, .int .i64 x, .int .i64 z, .bool l] 32) := (hb4.block _ (by have := hb2.size; have := hb3.size; simp at *; omega)).trans ((hb3.block _ (by have := hb2.size; simp at *; omega)).trans (get_old ((hb2.block _ (by simp)).trans (get_new rfl))))
  have q2 : we.heap[wc.heap.size]? = some (.cells #[.int .i32 r, .int .i64 x, .int .i64 z, .bool l] 32) := (hb4.block _ (by have := hb3.size; simp at *; omega)).trans ((hb3.block _ (by simp)).trans (get_new rfl))
  have a0' : we.cell? ⟨wb.heap.size, 0, none⟩ = some (.int .i32 r) := cell_of q1 0
  have a1' : we.cell? ⟨wb.heap.size, 1, none⟩ = some (.int .i64 x) := cell_of q1 1
  have a2' : we.cell? ⟨wb.heap.size, 2, none⟩ = some (.int .i64 z) := cell_of q1 2
  have a3' : we.cell? ⟨wb.heap.size, 3, none⟩ = some (.bool l) := cell_of q1 3
  have b0' : we.cell? ⟨wc.heap.size, 0, none⟩ = some (.int .i32 r) := cell_of q2 0
  have b1' : we.cell? ⟨wc.heap.size, 1, none⟩ = some (.int .i64 x) := cell_of q2 1
  have b2' : we.cell? ⟨wc.heap.size, 2, none⟩ = some (.int .i64 z) := cell_of q2 2
  have b3' : we.cell? ⟨wc.heap.size, 3, none⟩ = some (.bool l) := cell_of q2 3
  go_wp2
  go_ret
  have s0 := hb0.size
  have s1 := hb1.size
  have s2 : wb.heap.size + 1 ≤ wc.heap.size := by have := hb2.size; simpa using this
  have s3 : wc.heap.size + 1 ≤ wd.heap.size := by have := hb3.size; simpa using this
  exact ⟨rfl, hb0.trans ((hb1.mono s0).trans (((Below.refl _ wb).alloc (by omega) _).trans ((hb2.mono (by simp; omega)).trans (((Below.refl _ wc).alloc (by omega) _).trans ((hb3.mono (by simp; omega)).trans (hb4.mono (by omega)))))))⟩

theorem contract (H : Type) (enc : TypeId × Value → H) (W : World) (base : Nat) (args : Array Value) (ds gs : List (DataW H)) (before : List MemPlace)
    (hval : ∀ (j : Nat) t v, Try.f4.params[j]? = some t → args[j]? = some v → Value.okWide Try.prog W .any base t v)
    (hW : DataW.Whole enc Try.prog Try.f4.params.toList Rows.glyphCutsSpec.vars false W args.toList ds gs before) (hk : Rows.uptoSmall H (ds ++ gs) = true) :
    Calls Try.prog 4 args W fun e W' => ∃ v, e = .returned v ∧ Rows.glyphCutsSpec.post enc Try.prog Try.f4 false true false false W args v W' := by
  have hW' := hW
  obtain ⟨p, q, hA0, hV, rfl, hfz, hnd⟩ := hW
  have hA : DataW.TrodAll enc Try.prog W 0 (fun _ => true) true Try.f4.params.toList args.toList ds p := hA0
  rw [Try.params4] at hA hval
  obtain ⟨v0, vs0, d0, ds0, p0, q0, hargs, rfl, rfl, h0, r0⟩ := trodAll_cons hA
  obtain ⟨v1, vs1, d1, ds1, p1, q1, rfl, rfl, rfl, h1, r1⟩ := trodAll_cons r0
  obtain ⟨v2, vs2, d2, ds2, p2, q2, rfl, rfl, rfl, h2, r2⟩ := trodAll_cons r1
  obtain ⟨v3, vs3, d3, ds3, p3, q3, rfl, rfl, rfl, h3, r3⟩ := trodAll_cons r2
  obtain ⟨rfl, rfl, rfl⟩ := trodAll_nil r3
  obtain rfl : args = #[v0, v1, v2, v3] := by cases args; simp_all
  obtain ⟨rfl, rfl⟩ := trodVars_none hV
  obtain ⟨a0, rfl, rfl, rfl, w0⟩ := open_string Try.underlying9 (hval 0 9 v0 rfl rfl) h0
  obtain ⟨a1, rfl, rfl, rfl, w1⟩ := open_int Try.underlying3 (hval 1 3 v1 rfl rfl) h1
  obtain ⟨a2, rfl, rfl, rfl, w2⟩ := open_int Try.underlying3 (hval 2 3 v2 rfl rfl) h2
  obtain ⟨a3, rfl, rfl, rfl, w3⟩ := open_int Try.underlying3 (hval 3 3 v3 rfl rfl) h3
  clear hA0
  simp only [List.append_nil] at hW' hk
  have small_a0 : a0.size ≤ 1048576 := by
    have h := of_decide_eq_true hk
    simp only [Rows.uptoBulkAll, Rows.uptoBulk] at h
    have e : a0.data.toList.length = a0.size := by rw [Array.length_toList]; rfl
    omega
  refine (walk a0 a1 a2 a3 w0 w1 w2 w3 W small_a0).mono fun e W' ⟨he, hg⟩ => ?_
  subst he
  exact ⟨_, rfl, _, _, _, [], _, [], hW', (trodAll_cons_mk (shut_bool Try.underlying4 _) trodAll_mk0), (trodAll_cons_mk (shut_string Try.underlying9 w0) (trodAll_cons_mk (shut_int Try.underlying3 w1) (trodAll_cons_mk (shut_int Try.underlying3 w2) (trodAll_cons_mk (shut_int Try.underlying3 w3) trodAll_mk0)))), rfl, hg.frame _, fun h => by cases h⟩

set_option maxRecDepth 100000 in
theorem lifted (os : Os) (started : os.Started) (H : Type) (enc : TypeId × Value → H) (F : Stop.Interp) :
    ReturnsInHanded {} Try.checked os 4 .any ((Rows.OpenSpec.upto Rows.glyphCutsSpec).pre6 enc Try.prog Try.f4 Rows.glyphCutsUptoRow.domain false) (((Rows.OpenSpec.upto Rows.glyphCutsSpec).at F).post enc Try.prog Try.f4 false true false false) := by
  refine returnsInHanded_of_cond (C := Try.checked) (s := Rows.OpenSpec.upto Rows.glyphCutsSpec) (k := Rows.uptoSmall) rfl own started (by kernel_rfl) Try.func4
    (OpenSpec.witness (enc := enc) (C := Try.checked) (s := Rows.OpenSpec.upto Rows.glyphCutsSpec) (k := Rows.uptoSmall) rfl false ⟨#[], #[.string ByteArray.empty, .int .i64 0, .int .i64 0, .int .i64 0], []⟩ 8 (by kernel_rfl) (by kernel_rfl) (by kernel_rfl)
      (x := ([.lit (.string []), .lit (.int .i64 0), .lit (.int .i64 0), .lit (.int .i64 0)], [], [])) (by kernel_rfl) rfl (by kernel_rfl)) ?_
  intro W base args ds gs before hval hW _ hk _
  exact contract H enc W base args ds gs before hval hW hk

theorem proved : Rows.GlyphCutsUptoSaid :=
  OpenClaim.holds_of_cond 4 Try.f4 rfl rfl rfl rfl rfl rfl rfl ⟨rfl, rfl, rfl, rfl, rfl⟩ rfl rfl rfl rfl rfl (by kernel_rfl) Try.func4 (by kernel_rfl)
    (of_decide_eq_true (by kernel_rfl)) (by unfold Func.isWrapper; first | (rw [if_pos (by decide +kernel)]; kernel_rfl) | (rw [if_neg (by decide +kernel)]; exact ⟨rfl, rfl⟩))
    (fun os started H enc _ F => lifted os started H enc F)
#print axioms proved
end Go.Proofs.Ytgihafldphpncab
