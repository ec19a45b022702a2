/- GlyphTwice: for every text s, if s is plain then glyph.Back of glyph.Back of s is s, with as many characters and bytes on the way, and the turned text's first character is the text's last one; no condition. -/
import Derived.Test.YtgihafldphpncaaRows
import Derived.WalkKit
import Derived.SizedLaws
import Derived.ProofKit
import Derived.OpenShut
import Derived.ShutString
import Derived.Test.YtgihafldphpncaaTwc
namespace Go.Proofs.Ytgihafldphpncaa
open Go.ChangeShapes Go.WideShapes Go.ChangeAt Go.RowKit
open Go.ChangeMaps (open_string shut_string)
set_option linter.unusedVariables false

theorem own : ownKnob Try.prog.godebug = none := by kernel_rfl

set_option maxHeartbeats 1000000 in
theorem walk (a0 : ByteArray) (w0 : a0.size ≤ maxLen) (w : World) (reach0 : a0.size ≤ 140737488351232) :
    Calls Try.prog 4 #[.string a0] w fun e w' => e = .returned (.bool true) ∧ Below w.heap.size w w' := by
  have hz : a0.size ≤ 140737488355328 := by omega
  have hlen := starts_length a0
  cases hp : plainB a0 with
  | false =>
    have hpl := plain_any a0 w0
    rw [hp] at hpl
    go_enter Try.func4, Try.ntmps4
    go_wp2_with fail
    refine (hpl _).mono ?_
    rintro e w1 ⟨rfl, hb1⟩
    go_wp2_with fail
    refine (alive_any _).mono ?_
    rintro e w2 ⟨rfl, hb2⟩
    go_wp2
    go_ret
    exact ⟨rfl, hb1.trans (hb2.mono hb1.size)⟩
  | true =>
    have hpl := plain_any a0 w0
    rw [hp] at hpl
    have hts := back_size a0 hp
    have hk1 := back_any a0 hz
    have hk2 := back_any (backB a0) (by omega)
    rw [back_twice a0 hp] at hk2
    have hc1 := count_any a0 w0
    have hc2 := count_any (backB a0) (by unfold maxLen; omega)
    rw [back_count a0 hp] at hc2
    obtain ⟨r, x, z, l, er, x', l', hN, hM⟩ := nth_pair a0 hp
    have hn1 := nth_any a0 w0 (((starts a0).length : Int) - 1)
    have hn2 := nth_any (backB a0) (by unfold maxLen; omega) 0
    rw [hN] at hn1
    rw [hM] at hn2
    clear hN hM
    generalize backB a0 = t at *
    have hwr : IntKind.i64.wrap (((starts a0).length : Int) - 1) = ((starts a0).length : Int) - 1 := by rw [IntKind.wrap_i64]; omega
    go_enter Try.func4, Try.ntmps4
    go_wp2_with fail
    refine (hpl _).mono ?_
    rintro e w1 ⟨rfl, hb1⟩
    go_wp2_with fail
    refine (hk1 _).mono ?_
    rintro e w2 ⟨rfl, hb2⟩
    go_wp2_with fail
    refine (hk2 _).mono ?_
    rintro e w3 ⟨rfl, hb3⟩
    go_wp2_with fail
    refine (hc2 _).mono ?_
    rintro e w4 ⟨rfl, hb4⟩
    go_wp2_with fail
    refine (hc1 _).mono ?_
    rintro e w5 ⟨rfl, hb5⟩
    go_wp2_with fail
    refine (hc1 _).mono ?_
    rintro e w6 ⟨rfl, hb6⟩
    go_wp2_with fail
    refine (hn1 _).mono ?_
    rintro e w7 ⟨rfl, hb7⟩
    go_wp2_with fail
    refine (hn2 _).mono ?_
    rintro e w8 ⟨rfl, hb8⟩
    go_wp2_with fail
    refine (alive_any _).mono ?_
    rintro e w9 ⟨rfl, hb9⟩
    have s8 := hb8.size
    have s9 := hb9.size
    rw [World.size_alloc] at s8 s9
    have q1 : w9.heap[w7.heap.size]? = some (.cells #[.int .i32 r, .int .i64 x, .int .i64 z, .bool l] 28) := (hb9.block _ (by rw [World.size_alloc]; omega)).trans (get_old ((hb8.block _ (by rw [World.size_alloc]; omega)).trans (get_new rfl)))
    have q2 : w9.heap[w8.heap.size]? = some (.cells #[.int .i32 r, .int .i64 x', .int .i64 z, .bool l'] 28) := (hb9.block _ (by rw [World.size_alloc]; omega)).trans (get_new rfl)
    have a0' : w9.cell? ⟨w7.heap.size, 0, none⟩ = some (.int .i32 r) := cell_of q1 0
    have a2' : w9.cell? ⟨w7.heap.size, 2, none⟩ = some (.int .i64 z) := cell_of q1 2
    have b0' : w9.cell? ⟨w8.heap.size, 0, none⟩ = some (.int .i32 r) := cell_of q2 0
    have b2' : w9.cell? ⟨w8.heap.size, 2, none⟩ = some (.int .i64 z) := cell_of q2 2
    have s1 := hb1.size
    have s2 := hb2.size
    have s3 := hb3.size
    have s4 := hb4.size
    have s5 := hb5.size
    have s6 := hb6.size
    have s7 := hb7.size
    have hbb : Below w.heap.size w w9 := hb1.trans ((hb2.mono (by omega)).trans ((hb3.mono (by omega)).trans ((hb4.mono (by omega)).trans ((hb5.mono (by omega)).trans ((hb6.mono (by omega)).trans ((hb7.mono (by omega)).trans ((((Below.refl _ w7).alloc (by omega) _).trans (hb8.mono (by rw [World.size_alloc]; omega))).trans (((Below.refl _ w8).alloc (by omega) _).trans (hb9.mono (by rw [World.size_alloc]; omega))))))))))
    clear q1 q2 hb1 hb2 hb3 hb4 hb5 hb6 hb7 hb8 hb9 hpl hk1 hk2 hc1 hc2 hn1 hn2
    go_wp2
    go_ret
    exact ⟨rfl, hbb⟩

set_option maxRecDepth 100000 in
theorem lifted (os : Os) (started : os.Started) (H : Type) (enc : TypeId × Value → H) :
    ReturnsInHanded {} Try.checked os 4 .any (Rows.glyphTwiceSpec.pre6 enc Try.prog Try.f4 Rows.glyphTwiceRow.domain false) (Rows.glyphTwiceSpec.post enc Try.prog Try.f4 false true false false) := by
  refine returnsInHanded_of_change_sized (C := Try.checked) own started (by kernel_rfl) Try.func4
    (ChangeSpec.witness6 (enc := enc) (C := Try.checked) false ⟨#[], #[.string ByteArray.empty], []⟩ 8 (by kernel_rfl) (by kernel_rfl) (by kernel_rfl) (by kernel_rfl)) ?_
  intro W base args ds gs before hval0 hW hcnd hsz _
  have hval : ∀ (j : Nat) t v, Try.f4.params[j]? = some t → args[j]? = some v → Value.okWide Try.prog W .any base t v := hval0
  have hW' := hW
  obtain ⟨p, q, hA0, hV, rfl, hfz, hnd⟩ := hW
  have hA : DataW.TrodAll enc Try.prog W 0 (fun _ => true) true Try.f4.params.toList args.toList ds p := hA0
  rw [Try.params4] at hA hval
  obtain ⟨v0, vs0, d0, ds0, p0, q0, hargs, rfl, rfl, h0, r0⟩ := trodAll_cons hA
  obtain ⟨rfl, rfl, rfl⟩ := trodAll_nil r0
  obtain rfl : args = #[v0] := by cases args; simp_all
  obtain ⟨rfl, rfl⟩ := trodVars_none hV
  obtain ⟨a0, rfl, rfl, rfl, w0⟩ := open_string Try.underlying9 (hval 0 9 v0 rfl rfl) h0
  clear hA0 hval0
  simp only [List.append_nil] at hW'
  have reach0 : a0.size ≤ 140737488351232 := by
    have := sized_string hsz (j := 0) (t := 9) rfl rfl
    simpa [reachBytes] using this
  refine (walk a0 w0 W reach0).mono fun e W' ⟨he, hg⟩ => ?_
  subst he
  exact ⟨_, rfl, _, _, _, [], _, [], hW', (trodAll_cons_mk (shut_bool Try.underlying4 _) trodAll_mk0), (trodAll_cons_mk (shut_string Try.underlying9 w0) trodAll_mk0), rfl, hg.frame _, fun h => by cases h⟩

theorem over : Rows.glyphTwiceRow.holds Try.pinned (OpenSpec.ofChange Rows.glyphTwiceSpec) :=
  OpenClaim.holds_of_wide 4 Try.f4 rfl rfl rfl rfl rfl rfl rfl ⟨rfl, rfl, rfl, rfl, rfl⟩ rfl rfl rfl rfl rfl (by kernel_rfl) Try.func4 (by kernel_rfl)
    (of_decide_eq_true (by kernel_rfl)) (by unfold Func.isWrapper; first | (rw [if_pos (by decide +kernel)]; kernel_rfl) | (rw [if_neg (by decide +kernel)]; exact ⟨rfl, rfl⟩))
    (fun os started H enc _ => lifted os started H enc)

theorem proved : Rows.GlyphTwiceSaid :=
  over
#print axioms proved
end Go.Proofs.Ytgihafldphpncaa
