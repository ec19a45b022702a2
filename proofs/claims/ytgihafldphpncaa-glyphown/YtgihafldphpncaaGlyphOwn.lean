/- GlyphOwn: for every text, the characters that glyph.Chars tells are those that a range over the text tells, and glyph.Count counts them; no condition. -/
import Derived.Test.YtgihafldphpncaaRows
import Derived.WalkKit
import Derived.ProofKit
import Derived.OpenShut
import Derived.ShutString
import Derived.Test.YtgihafldphpncaaChs
import Derived.Deep.QuietTactic
import Derived.BigQuiet
namespace Go.Proofs.Ytgihafldphpncaa
open Go.ChangeShapes Go.WideShapes Go.ChangeAt Go.RowKit
open Go.ChangeMaps (open_string shut_string)
set_option linter.unusedVariables false

theorem own : ownKnob Try.prog.godebug = none := by kernel_rfl

set_option maxHeartbeats 8000000 in
theorem walk (a0 : ByteArray) (w0 : a0.size ≤ maxLen) (w : World) :
    Calls Try.prog 3 #[.string a0] w fun e w' => e = .returned (.bool true) ∧ Below w.heap.size w w' := by
  have hlen := starts_length a0
  unfold maxLen at w0
  by_cases hbig : 65536 < a0.size
  · go_enter Try.func3, Try.ntmps3
    go_wp2_with fail
    refine (alive_any _).mono ?_
    rintro e w1 ⟨rfl, hb1⟩
    go_wp2
    go_ret
    exact ⟨rfl, hb1⟩
  · have hgt : decide (65536 < (a0.size : Int)) = false := by simp; omega
    go_enter Try.func3, Try.ntmps3
    go_wp2_with fail
    refine (chars_any a0 (by omega) _).mono ?_
    rintro e w1 ⟨v, rfl, hrow, hb1⟩
    obtain ⟨ad, cap, rfl, hform⟩ := ownsRow_form hrow
    clear hrow
    go_wp2
    go_loopw [5] (fun c wr => ∃ (pos fuel : Nat) (pre : List Nat), starts a0 = pre ++ startsFrom a0 fuel pos ∧ a0.size ≤ pos + fuel ∧ c = .int .i64 pre.length ∧ wr.heap[w1.heap.size]? = some (.stringIter a0 pos) ∧ Below w1.heap.size w1 wr) (fun _ wr => a0.size - wr.iterPos w1.heap.size)
    case atStart =>
      exact ⟨0, a0.size, [], rfl, by omega, rfl, World.iter_heap w1 a0 0, (Below.refl _ w1).alloc (Nat.le_refl _) _⟩
    case round =>
      obtain ⟨pos, fuel, pre, hst, hfu, rfl, hit, hb⟩ := hrel
      by_cases hp : pos < a0.size
      · have hnx : ∀ ty, (Instr.next (.pointer (some ⟨w1.heap.size, 0, none⟩)) true ty).run Try.prog wr = .ok (.tuple #[.bool true, .int .i64 pos, .int .i32 (rn a0 pos)]) (wr.iterAt w1.heap.size a0 (pos + wd a0 pos)) := fun ty => Lib.run_next_any_at wr w1.heap.size a0 pos ty hit hp
        have hit2 := Lib.iterAt_heap wr w1.heap.size a0 pos (pos + wd a0 pos) hit
        have hb2 := Lib.below_iterAt hb (k := w1.heap.size) (Nat.le_refl _) a0 (pos + wd a0 pos)
        obtain ⟨f, rfl⟩ : ∃ f, fuel = f + 1 := ⟨fuel - 1, by omega⟩
        rw [startsFrom_step a0 f pos hp] at hst
        have hll : pre.length < (starts a0).length := by rw [hst]; simp
        have hget : (starts a0)[pre.length]? = some pos := by rw [hst]; simp
        obtain ⟨g, rfl, hg1, hg2, hg3, hcells⟩ := hform (by omega)
        have hcell : ∀ j u, (chC a0 pos)[j]? = some u → j < 4 → (wr.iterAt w1.heap.size a0 (pos + wd a0 pos)).cell? ⟨g, pre.length * 4 + j, none⟩ = some u := fun j u hj hlt => (hb2.cell (p := ⟨g, pre.length * 4 + j, none⟩) hg2).trans (hcells _ _ ((flat_get a0 _ _ j pos hget hlt).trans hj))
        have c0 : (wr.iterAt w1.heap.size a0 (pos + wd a0 pos)).cell? ⟨g, pre.length * 4, none⟩ = some (.int .i32 (rn a0 pos)) := hcell 0 _ rfl (by omega)
        have c1 : (wr.iterAt w1.heap.size a0 (pos + wd a0 pos)).cell? ⟨g, pre.length * 4 + 1, none⟩ = some (.int .i64 pos) := hcell 1 _ rfl (by omega)
        have c2 : (wr.iterAt w1.heap.size a0 (pos + wd a0 pos)).cell? ⟨g, pre.length * 4 + 2, none⟩ = some (.int .i64 (wd a0 pos)) := hcell 2 _ rfl (by omega)
        have c3 : (wr.iterAt w1.heap.size a0 (pos + wd a0 pos)).cell? ⟨g, pre.length * 4 + 3, none⟩ = some (.bool (looseB a0 pos)) := hcell 3 _ rfl (by omega)
        have HS : Hid (starts a0 = pre ++ pos :: startsFrom a0 f (pos + wd a0 pos)) := hst
        have hlt0 : (pre.length : Int) < ((starts a0).length : Int) := by omega
        clear hst hget hcell hcells hform
        have hd0 : decide ((starts a0).length ≤ pre.length) = false := by simp; omega
        have hl1 : (pre.length : Int) < 65536 := by omega
        by_cases hr : rn a0 pos = 65533
        · have hq : ((rn a0 pos : Int) == 65533) = true := beq_iff_eq.2 (by omega)
          have hw : ((wd a0 pos : Int) == 1) = looseB a0 pos := by
            simp only [looseB, hr, true_and]
            by_cases h1 : wd a0 pos = 1
            · simp [h1]
            · rw [beq_eq_false_iff_ne.2 (by omega)]; simp [h1]
          go_wp2_with fail
          go_quiet (fail)
          go_wp2
          go_roundw
          case rel =>
            have := wd_pos a0 pos
            exact ⟨pos + wd a0 pos, f, pre ++ [pos], by rw [HS.out]; simp, by omega, by simp, by simpa using hit2, hb2.trans ⟨rfl, rfl, rfl, Nat.le_refl _, fun _ _ => rfl⟩⟩
          case measure =>
            have := wd_pos a0 pos
            have hit3 : ((wr.iterAt w1.heap.size a0 (pos + wd a0 pos)).drewN nq).heap[w1.heap.size]? = some (.stringIter a0 (pos + wd a0 pos)) := by simpa using hit2
            simp only [World.iterPos, hit3, hit]
            omega
        · have hq : ((rn a0 pos : Int) == 65533) = false := beq_eq_false_iff_ne.2 (by omega)
          have hw : looseB a0 pos = false := by simp [looseB, hr]
          go_wp2_with fail
          go_quiet (fail)
          go_wp2
          go_roundw
          case rel =>
            have := wd_pos a0 pos
            exact ⟨pos + wd a0 pos, f, pre ++ [pos], by rw [HS.out]; simp, by omega, by simp, by simpa using hit2, hb2.trans ⟨rfl, rfl, rfl, Nat.le_refl _, fun _ _ => rfl⟩⟩
          case measure =>
            have := wd_pos a0 pos
            have hit3 : ((wr.iterAt w1.heap.size a0 (pos + wd a0 pos)).drewN nq).heap[w1.heap.size]? = some (.stringIter a0 (pos + wd a0 pos)) := by simpa using hit2
            simp only [World.iterPos, hit3, hit]
            omega
      · have hnx : ∀ ty, (Instr.next (.pointer (some ⟨w1.heap.size, 0, none⟩)) true ty).run Try.prog wr = .ok (.tuple #[.bool false]) wr := fun ty => Lib.run_next_end_at wr w1.heap.size a0 pos ty hit hp
        rw [startsFrom_end a0 fuel pos hp, List.append_nil] at hst
        subst hst
        clear hform
        go_wp2_with fail
        refine (alive_any _).mono ?_
        rintro e w2 ⟨rfl, hb2⟩
        go_wp2_with fail
        refine (count_any a0 (by unfold maxLen; omega) _).mono ?_
        rintro e w3 ⟨rfl, hb3⟩
        go_wp2
        go_ret
        exact ⟨by simp, hb1.trans ((hb.mono hb1.size).trans ((hb2.mono (Nat.le_trans hb1.size hb.size)).trans (hb3.mono (Nat.le_trans hb1.size (Nat.le_trans hb.size hb2.size)))))⟩

set_option maxRecDepth 100000 in
theorem lifted (os : Os) (started : os.Started) (H : Type) (enc : TypeId × Value → H) :
    ReturnsInHanded {} Try.checked os 3 .any (Rows.glyphOwnSpec.pre6 enc Try.prog Try.f3 Rows.glyphOwnRow.domain false) (Rows.glyphOwnSpec.post enc Try.prog Try.f3 false true false false) := by
  refine returnsInHanded_of_change (C := Try.checked) own started (by kernel_rfl) Try.func3
    (ChangeSpec.witness6 (enc := enc) (C := Try.checked) false ⟨#[], #[.string ByteArray.empty], []⟩ 8 (by kernel_rfl) (by kernel_rfl) (by kernel_rfl) (by kernel_rfl)) ?_
  intro W base args ds gs before hval0 hW hcnd _
  have hval : ∀ (j : Nat) t v, Try.f3.params[j]? = some t → args[j]? = some v → Value.okWide Try.prog W .any base t v := hval0
  have hW' := hW
  obtain ⟨p, q, hA0, hV, rfl, hfz, hnd⟩ := hW
  have hA : DataW.TrodAll enc Try.prog W 0 (fun _ => true) true Try.f3.params.toList args.toList ds p := hA0
  rw [Try.params3] at hA hval
  obtain ⟨v0, vs0, d0, ds0, p0, q0, hargs, rfl, rfl, h0, r0⟩ := trodAll_cons hA
  obtain ⟨rfl, rfl, rfl⟩ := trodAll_nil r0
  obtain rfl : args = #[v0] := by cases args; simp_all
  obtain ⟨rfl, rfl⟩ := trodVars_none hV
  obtain ⟨a0, rfl, rfl, rfl, w0⟩ := open_string Try.underlying9 (hval 0 9 v0 rfl rfl) h0
  clear hA0 hval0
  simp only [List.append_nil] at hW'
  refine (walk a0 w0 W).mono fun e W' ⟨he, hg⟩ => ?_
  subst he
  exact ⟨_, rfl, _, _, _, [], _, [], hW', (trodAll_cons_mk (shut_bool Try.underlying4 _) trodAll_mk0), (trodAll_cons_mk (shut_string Try.underlying9 w0) trodAll_mk0), rfl, hg.frame _, fun h => by cases h⟩

theorem over : Rows.glyphOwnRow.holds Try.pinned (OpenSpec.ofChange Rows.glyphOwnSpec) :=
  OpenClaim.holds_of_wide 3 Try.f3 rfl rfl rfl rfl rfl rfl rfl ⟨rfl, rfl, rfl, rfl, rfl⟩ rfl rfl rfl rfl rfl (by kernel_rfl) Try.func3 (by kernel_rfl)
    (of_decide_eq_true (by kernel_rfl)) (by unfold Func.isWrapper; first | (rw [if_pos (by decide +kernel)]; kernel_rfl) | (rw [if_neg (by decide +kernel)]; exact ⟨rfl, rfl⟩))
    (fun os started H enc _ => lifted os started H enc)

theorem proved : Rows.GlyphOwnSaid :=
  over
#print axioms proved
end Go.Proofs.Ytgihafldphpncaa
