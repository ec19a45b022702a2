/- WordPlaces: at every text: a line put ahead of it moves each place one line down, an error's too; its column stays; no condition but the tie of the card. -/
import Derived.Test.YtibhljdiofglfaaDoorRows
import Derived.WalkKit
import Derived.ProofKit
import Derived.OpenShut
import Derived.ChangeMaps5
import Derived.Stop.Joined
import Derived.Lay
import Derived.SevenTiedAt
import Derived.SizedLaws
import Derived.LaidMore
import Derived.Test.YtibhljdiofglfaaDoorTie
import Derived.Test.YtibhljdiofglfaaDoorCards
import Derived.Test.YtibhljdiofglfaaDoorScp
import Derived.Test.YtibhljdiofglfaaDoorRgf
namespace Go.Proofs.YtibhljdiofglfaaDoor
open Go.ChangeShapes Go.WideShapes Go.ChangeAt Go.RowKit Go.ChangeMaps
set_option linter.unusedVariables false


theorem own : ownKnob Tryd.prog.godebug = none := by kernel_rfl
open Go.Shelf Go.Lib
theorem badL_facts : ∀ (L : List ByteArray) (i er co : Nat), badL L = some (i, er, co) → er ≠ 0 ∧ i < L.length
  | [], _, _, _, h => by cases h
  | x :: t, i, er, co, h => by
    rw [badL] at h
    by_cases hx : (cutR x).2.1 ≠ 0
    · rw [if_pos hx] at h
      cases h
      exact ⟨hx, by simp⟩
    · rw [if_neg hx] at h
      cases ht : badL t with
      | none => rw [ht] at h; cases h
      | some r =>
        rw [ht] at h
        obtain ⟨i', er', co'⟩ := r
        cases h
        have := badL_facts t i' er co ht
        exact ⟨this.1, by simp; exact this.2⟩
theorem ix_tok (W : World) (g n cap k : Nat) (hk : k < n) : (Instr.indexAt 22 (.slice (some ⟨g, 0, none⟩) n cap) (.int .i64 (k : Int))).run Tryd.prog W = .ok (.pointer (some ⟨g, k * 4, none⟩)) W := by
  have h0 : (0 : Int) ≤ (k : Int) := by omega
  have h1 : (k : Int) < (n : Int) := by omega
  go_simp
theorem fd_tok1 (W : World) (g k : Nat) : (Instr.fieldAt 32 (.pointer (some ⟨g, k, none⟩)) 1).run Tryd.prog W = .ok (.pointer (some ⟨g, k + 1, none⟩)) W := by
  go_simp
theorem fd_tok2 (W : World) (g k : Nat) : (Instr.fieldAt 32 (.pointer (some ⟨g, k, none⟩)) 2).run Tryd.prog W = .ok (.pointer (some ⟨g, k + 2, none⟩)) W := by
  go_simp
theorem fd_tok3 (W : World) (g k : Nat) : (Instr.fieldAt 32 (.pointer (some ⟨g, k, none⟩)) 3).run Tryd.prog W = .ok (.pointer (some ⟨g, k + 3, none⟩)) W := by
  go_simp
theorem ldi_at {W : World} {g k : Nat} {x : Int} (h : W.cell? ⟨g, k, none⟩ = some (.int .i64 x)) : (Instr.loadAt 3 (.pointer (some ⟨g, k, none⟩))).run Tryd.prog W = .ok (.int .i64 x) W := by
  go_simp
theorem lds_at {W : World} {g k : Nat} {x : ByteArray} (h : W.cell? ⟨g, k, none⟩ = some (.string x)) : (Instr.loadAt 9 (.pointer (some ⟨g, k, none⟩))).run Tryd.prog W = .ok (.string x) W := by
  go_simp
theorem bin_neqI {x y : Operand} {w : World} (a : Int) : binRun Tryd.prog .neq 3 x y (.int .i64 a) (.int .i64 a) w = .ok (.bool false) w := by simp [binRun, go_sem]
theorem bin_neqS {x y : Operand} {w : World} (a : ByteArray) : binRun Tryd.prog .neq 9 x y (.string a) (.string a) w = .ok (.bool false) w := by simp [binRun, go_sem]
theorem bin_addI {x y : Operand} {w : World} (a : Int) (h : IntKind.i64.wrap (a + 1) = a + 1) : binRun Tryd.prog .add 3 x y (.int .i64 a) (.int .i64 1) w = .ok (.int .i64 (a + 1)) w := by simp [binRun, go_sem, h]
theorem cat_head (s : ByteArray) : (⟨#[35, 32, 226, 152, 131, 10]⟩ : ByteArray) ++ s = headT ++ s := rfl
set_option maxHeartbeats 1000000 in
set_option maxRecDepth 100000 in
theorem walk (s0 : ByteArray) (w0 : s0.size ≤ maxLen) (w : World) (hL : laidMetH Tryd.prog Rows.wordPlacesRow.laid w) :
    Calls Tryd.prog 5 #[.string s0] w fun e w' => e = .returned (.bool true) ∧ Below w.heap.size w w' := by
  have hal := alive_any
  by_cases hlen : s0.size ≤ 60000
  · have hg : ¬ 60000 < (s0.size : Int) := by omega
    have hz := head_size s0
    have hc := cat_head s0
    have h1 := fun W => callsIn_wide.1 (scan_in s0 (by omega) W)
    have h2 := fun W => callsIn_wide.1 (scan_in (headT ++ s0) (by omega) W)
    unfold ScV at h1 h2
    simp only [head_lines, head_bad, head_kk, head_xx] at h2
    have hmany := lines_many s0
    generalize headT ++ s0 = s1 at *
    cases hbad : badL (linesOf s0) with
    | some r =>
      obtain ⟨i, er, co⟩ := r
      obtain ⟨hne, hi⟩ := badL_facts _ _ _ _ hbad
      rw [hbad] at h1 h2
      simp only [Option.map_some] at h1 h2
      have hne' : ¬ (er : Int) = 0 := by omega
      have hwr : IntKind.i64.wrap (((i + 1 : Nat) : Int) + 1) = ((i + 1 + 1 : Nat) : Int) := by rw [IntKind.wrap_i64]; omega
      generalize ((i + 1 + 1 : Nat) : Int) = a2 at *
      generalize ((i + 1 : Nat) : Int) = a1 at *
      go_enter Tryd.func5, Tryd.ntmps5
      go_wp2_with (first | (go_at_call 9; with_reducible refine (h1 _).mono ?_; rintro e Z1 ⟨rfl, hb1⟩) | (go_at_call 9; with_reducible refine (h2 _).mono ?_; rintro e Z2 ⟨rfl, hb2⟩) | (go_at_call 10; refine (hal _).mono ?_; rintro e Z3 ⟨rfl, hb3⟩))
      go_ret
      exact ⟨rfl, (hb1.trans (hb2.mono hb1.size)).trans (hb3.mono (Nat.le_trans hb1.size hb2.size))⟩
    | none =>
      rw [hbad] at h1 h2
      simp only [Option.map_none] at h1 h2
      have hkb : kkL (linesOf s0) ≤ 2 * (s0.size + 1) := kk_pre (List.prefix_refl _)
      have hl := fours_len 0 (linesOf s0)
      have hln := fours_ln 0 (linesOf s0)
      simp only [fours_cells, fours_up 0] at h1 h2
      generalize fours 0 (linesOf s0) = L at *
      rw [← hl] at h1 h2 hkb
      clear hbad hl
      go_enter Tryd.func5, Tryd.ntmps5
      go_wp2_with (first | (go_at_call 9; with_reducible refine (h1 _).mono ?_; rintro e Z1 ⟨⟨v1, rfl, hr1⟩, hb1⟩; obtain ⟨ad1, cap1, rfl, _⟩ := ownsRow_form hr1) | (go_at_call 9; with_reducible refine (h2 _).mono ?_; rintro e Z2 ⟨⟨v2, rfl, hr2⟩, hb2⟩; obtain ⟨ad2, cap2, rfl, _⟩ := ownsRow_form hr2) | (go_at_call 10; refine (hal _).mono ?_; rintro e Z3 ⟨rfl, hb3⟩))
      have hr1' := row_below hr1 hb2
      clear hr1 h1 h2
      go_loopw [11] (fun c wz => ∃ i : Nat, c = .int .i64 (i : Int) ∧ i ≤ L.length ∧ Below Z2.heap.size Z2 wz) (fun c _ => L.length - (match c with | .int _ n => n.toNat | _ => 0))
      case atStart => exact ⟨0, rfl, by omega, Below.refl _ _⟩
      case round =>
        obtain ⟨i, rfl, hiL, hbz⟩ := hrel
        have hmx : Tryd.prog.follows .mixedOrders = true := by kernel_rfl
        have hz1 := row_below hr1' hbz
        have hz2 := row_below hr2 hbz
        obtain ⟨_, _, e1, hf1⟩ := ownsRow_form hz1
        cases e1
        obtain ⟨_, _, e2, hf2⟩ := ownsRow_form hz2
        cases e2
        by_cases hi : i < L.length
        · have hi1 : (i : Int) < (L.length : Int) := by omega
          have hi0 : 0 ≤ (i : Int) := by omega
          obtain ⟨g1, rfl, _, _, _, hc1⟩ := hf1 (by omega)
          obtain ⟨g2, rfl, _, _, _, hc2⟩ := hf2 (by omega)
          have hq1 : L[i]? = some L[i] := List.getElem?_eq_getElem hi
          have hq2 : (L.map up1)[i]? = some (up1 L[i]) := by rw [List.getElem?_map, hq1]; rfl
          obtain ⟨ln0, ln1⟩ := hln _ (List.getElem_mem hi)
          generalize L[i] = q at *
          obtain ⟨k, t, l, c⟩ := q
          obtain ⟨x0, x1, x2, x3⟩ := cells4_get _ _ _ hq1
          obtain ⟨y0, y1, y2, y3⟩ := cells4_get _ _ _ hq2
          dsimp only [up1] at x1 x2 x3 y1 y2 y3 ln0 ln1
          have X1 := hc1 _ _ x1
          have X2 := hc1 _ _ x2
          have X3 := hc1 _ _ x3
          have Y1 := hc2 _ _ y1
          have Y2 := hc2 _ _ y2
          have Y3 := hc2 _ _ y3
          have hwr : IntKind.i64.wrap (l + 1) = l + 1 := by rw [IntKind.wrap_i64]; omega
          have hwi : IntKind.i64.wrap ((i : Int) + 1) = ((i + 1 : Nat) : Int) := by rw [IntKind.wrap_i64]; omega
          clear x0 x1 x2 x3 y0 y1 y2 y3 hc1 hc2 hf1 hf2
          go_wp2
          refine wp_region_any hmx ?_
          refine wpAny_pure (fun i__ => ([(.slice (some ⟨g1, 0, none⟩) L.length cap1), (.int .i64 (i : Nat)), (.pointer (some ⟨g1, i * 4, none⟩)), (.pointer (some ⟨g1, i * 4 + 2, none⟩)), (.int .i64 l), (.int .i64 (l + 1)), (.slice (some ⟨g2, 0, none⟩) L.length cap2), (.int .i64 (i : Nat)), (.pointer (some ⟨g2, i * 4, none⟩)), (.pointer (some ⟨g2, i * 4 + 2, none⟩)), (.int .i64 (l + 1)), (.bool false), (.bool false), (.slice (some ⟨g1, 0, none⟩) L.length cap1), (.int .i64 (i : Nat)), (.pointer (some ⟨g1, i * 4, none⟩)), (.pointer (some ⟨g1, i * 4 + 3, none⟩)), (.int .i64 c), (.slice (some ⟨g2, 0, none⟩) L.length cap2), (.int .i64 (i : Nat)), (.pointer (some ⟨g2, i * 4, none⟩)), (.pointer (some ⟨g2, i * 4 + 3, none⟩)), (.int .i64 c), (.bool false), (.bool false), (.bool false), (.slice (some ⟨g1, 0, none⟩) L.length cap1), (.int .i64 (i : Nat)), (.pointer (some ⟨g1, i * 4, none⟩)), (.pointer (some ⟨g1, i * 4 + 1, none⟩)), (.string t), (.slice (some ⟨g2, 0, none⟩) L.length cap2), (.int .i64 (i : Nat)), (.pointer (some ⟨g2, i * 4, none⟩)), (.pointer (some ⟨g2, i * 4 + 1, none⟩)), (.string t), (.bool false), (.bool false)] : List Value).getD i__ undef) (fun W => Below Z2.heap.size Z2 W ∧ W.cell? ⟨g1, i * 4 + 1, none⟩ = some (.string t) ∧ W.cell? ⟨g1, i * 4 + 2, none⟩ = some (.int .i64 l) ∧ W.cell? ⟨g1, i * 4 + 3, none⟩ = some (.int .i64 c) ∧ W.cell? ⟨g2, i * 4 + 1, none⟩ = some (.string t) ∧ W.cell? ⟨g2, i * 4 + 2, none⟩ = some (.int .i64 (l + 1)) ∧ W.cell? ⟨g2, i * 4 + 3, none⟩ = some (.int .i64 c)) (by kernel_rfl) ⟨hbz.drew, X1, X2, X3, Y1, Y2, Y3⟩ ?_ ?_
          · refine (stepsFrom_cons ?_ (stepsFrom_cons ?_ (stepsFrom_cons ?_ (stepsFrom_cons ?_ (stepsFrom_cons ?_ (stepsFrom_cons ?_ (stepsFrom_cons ?_ (stepsFrom_cons ?_ (stepsFrom_cons ?_ (stepsFrom_cons ?_ (stepsFrom_cons ?_ (stepsFrom_cons ?_ (stepsFrom_cons ?_ (stepsFrom_cons ?_ (stepsFrom_cons ?_ (stepsFrom_cons ?_ (stepsFrom_cons ?_ (stepsFrom_cons ?_ (stepsFrom_cons ?_ (stepsFrom_cons ?_ (stepsFrom_cons ?_ (stepsFrom_cons ?_ (stepsFrom_cons ?_ (stepsFrom_cons ?_ (stepsFrom_cons ?_ (stepsFrom_cons ?_ (stepsFrom_cons ?_ (stepsFrom_cons ?_ (stepsFrom_cons ?_ (stepsFrom_cons ?_ (stepsFrom_cons ?_ (stepsFrom_cons ?_ (stepsFrom_cons ?_ (stepsFrom_cons ?_ (stepsFrom_cons ?_ (stepsFrom_cons ?_ (stepsFrom_cons ?_ (stepsFrom_cons ?_ trivial))))))))))))))))))))))))))))))))))))))
            · exact step_move rfl trivial _ rfl (by kernel_rfl)
            · exact step_move rfl trivial _ rfl (by kernel_rfl)
            · exact step_indexAddr rfl trivial _ _ _ _ _ rfl rfl rfl (fun w hw => ix_tok _ _ _ _ _ hi)
            · exact step_fieldAddr rfl trivial _ _ _ _ rfl rfl (fun w hw => fd_tok2 _ _ _)
            · exact step_load rfl trivial _ _ _ rfl rfl (fun w hw => ldi_at hw.2.2.1)
            · exact step_binOp rfl trivial _ _ _ _ _ _ _ rfl rfl rfl (fun w hw => bin_addI _ hwr)
            · exact step_move rfl trivial _ rfl (by kernel_rfl)
            · exact step_move rfl trivial _ rfl (by kernel_rfl)
            · exact step_indexAddr rfl trivial _ _ _ _ _ rfl rfl rfl (fun w hw => ix_tok _ _ _ _ _ hi)
            · exact step_fieldAddr rfl trivial _ _ _ _ rfl rfl (fun w hw => fd_tok2 _ _ _)
            · exact step_load rfl trivial _ _ _ rfl rfl (fun w hw => ldi_at hw.2.2.2.2.2.1)
            · exact step_binOp rfl trivial _ _ _ _ _ _ _ rfl rfl rfl (fun w hw => bin_neqI _)
            · exact step_move rfl trivial _ rfl (by kernel_rfl)
            · exact step_move rfl (by exact ⟨_, rfl, by kernel_rfl⟩) _ rfl (by kernel_rfl)
            · exact step_move rfl (by exact ⟨_, rfl, by kernel_rfl⟩) _ rfl (by kernel_rfl)
            · exact step_indexAddr rfl (by exact ⟨_, rfl, by kernel_rfl⟩) _ _ _ _ _ rfl rfl rfl (fun w hw => ix_tok _ _ _ _ _ hi)
            · exact step_fieldAddr rfl (by exact ⟨_, rfl, by kernel_rfl⟩) _ _ _ _ rfl rfl (fun w hw => fd_tok3 _ _ _)
            · exact step_load rfl (by exact ⟨_, rfl, by kernel_rfl⟩) _ _ _ rfl rfl (fun w hw => ldi_at hw.2.2.2.1)
            · exact step_move rfl (by exact ⟨_, rfl, by kernel_rfl⟩) _ rfl (by kernel_rfl)
            · exact step_move rfl (by exact ⟨_, rfl, by kernel_rfl⟩) _ rfl (by kernel_rfl)
            · exact step_indexAddr rfl (by exact ⟨_, rfl, by kernel_rfl⟩) _ _ _ _ _ rfl rfl rfl (fun w hw => ix_tok _ _ _ _ _ hi)
            · exact step_fieldAddr rfl (by exact ⟨_, rfl, by kernel_rfl⟩) _ _ _ _ rfl rfl (fun w hw => fd_tok3 _ _ _)
            · exact step_load rfl (by exact ⟨_, rfl, by kernel_rfl⟩) _ _ _ rfl rfl (fun w hw => ldi_at hw.2.2.2.2.2.2)
            · exact step_binOp rfl (by exact ⟨_, rfl, by kernel_rfl⟩) _ _ _ _ _ _ _ rfl rfl rfl (fun w hw => bin_neqI _)
            · exact step_pick rfl trivial _ _ _ false rfl (by kernel_rfl) (by kernel_rfl)
            · exact step_move rfl trivial _ rfl (by kernel_rfl)
            · exact step_move rfl (by exact ⟨_, rfl, by kernel_rfl⟩) _ rfl (by kernel_rfl)
            · exact step_move rfl (by exact ⟨_, rfl, by kernel_rfl⟩) _ rfl (by kernel_rfl)
            · exact step_indexAddr rfl (by exact ⟨_, rfl, by kernel_rfl⟩) _ _ _ _ _ rfl rfl rfl (fun w hw => ix_tok _ _ _ _ _ hi)
            · exact step_fieldAddr rfl (by exact ⟨_, rfl, by kernel_rfl⟩) _ _ _ _ rfl rfl (fun w hw => fd_tok1 _ _ _)
            · exact step_load rfl (by exact ⟨_, rfl, by kernel_rfl⟩) _ _ _ rfl rfl (fun w hw => lds_at hw.2.1)
            · exact step_move rfl (by exact ⟨_, rfl, by kernel_rfl⟩) _ rfl (by kernel_rfl)
            · exact step_move rfl (by exact ⟨_, rfl, by kernel_rfl⟩) _ rfl (by kernel_rfl)
            · exact step_indexAddr rfl (by exact ⟨_, rfl, by kernel_rfl⟩) _ _ _ _ _ rfl rfl rfl (fun w hw => ix_tok _ _ _ _ _ hi)
            · exact step_fieldAddr rfl (by exact ⟨_, rfl, by kernel_rfl⟩) _ _ _ _ rfl rfl (fun w hw => fd_tok1 _ _ _)
            · exact step_load rfl (by exact ⟨_, rfl, by kernel_rfl⟩) _ _ _ rfl rfl (fun w hw => lds_at hw.2.2.2.2.1)
            · exact step_binOp rfl (by exact ⟨_, rfl, by kernel_rfl⟩) _ _ _ _ _ _ _ rfl rfl rfl (fun w hw => bin_neqS _)
            · exact step_pick rfl trivial _ _ _ false rfl (by kernel_rfl) (by kernel_rfl)
          intro W hW
          first | refine hK _ _ ?_ | refine (‹∀ (a : Act) (w : World), Code.wp Tryd.prog _ _ a w → _›) _ _ ?_ | skip
          simp only [finL, List.getD_cons_zero, List.getD_cons_succ, Nat.zero_add, Nat.reduceAdd, List.setIfInBounds_toArray, List.set_cons_zero, List.set_cons_succ]
          go_wp2
          refine ⟨⟨i + 1, by push_cast; rfl, by omega, hW.1⟩, ?_⟩
          show L.length - ((i : Int) + 1).toNat < L.length - ((i : Int)).toNat
          omega
        · have hi1 : ¬ (i : Int) < (L.length : Int) := by omega
          go_wp2_with (go_at_call 10; refine (hal _).mono ?_; rintro e Z3 ⟨rfl, hb3⟩)
          go_ret
          exact ⟨rfl, ((hb1.trans (hb2.mono hb1.size)).trans (hbz.mono (Nat.le_trans hb1.size hb2.size))).trans (hb3.mono (Nat.le_trans (Nat.le_trans hb1.size hb2.size) hbz.size))⟩
  · have hg : 60000 < (s0.size : Int) := by omega
    go_enter Tryd.func5, Tryd.ntmps5
    go_wp2_with (go_at_call 10; refine (hal _).mono ?_; rintro e Z3 ⟨rfl, hb3⟩)
    go_ret
    exact ⟨rfl, hb3⟩

set_option maxRecDepth 100000 in
theorem lifted (os : Os) (started : os.Started) (H : Type) (enc : TypeId × Value → H) :
    ReturnsInHanded {} Tryd.checked os 5 .any (fun w args => (Rows.wordPlacesSpec.pre enc Tryd.prog Tryd.f5 [] false w args ∧ laidMetH Tryd.prog Rows.wordPlacesRow.laid w) ∧ sizedMet enc Tryd.prog Tryd.f5 (OpenSpec.ofChange Rows.wordPlacesSpec) false w args)
      (Rows.wordPlacesSpec.post enc Tryd.prog Tryd.f5 false true false false) := by
  refine returnsInHanded_of_change_and (C := Tryd.checked) (X := fun w _ => laidMetH Tryd.prog Rows.wordPlacesRow.laid w) (fun _ _ _ hh h => h.of_heap hh) own started (by kernel_rfl) Tryd.func5
    (ChangeSpec.witness_shaped (enc := enc) (C := Tryd.checked) (os := os) (X := fun w _ => laidMetH Tryd.prog Rows.wordPlacesRow.laid w) false (World.laidAll Tryd.prog os Rows.wordPlacesRow.laid) #[.string ByteArray.empty] 8 (World.laidAll_os _ _ _)
      (World.shaped_of_ZipB (by kernel_rfl) (by kernel_rfl)) (by kernel_rfl) (by kernel_rfl) (by kernel_rfl)
      (by rw [MakeChecks.laidMetH_plain _ _ _ (by kernel_rfl)]; exact laidMet_laidAll _ (by kernel_rfl) (by kernel_rfl))) ?_
  intro W base args ds gs before hval0 hW _ hsz hL _
  have hval : ∀ (j : Nat) t v, Tryd.f5.params[j]? = some t → args[j]? = some v → Value.okWide Tryd.prog W .any base t v := hval0
  have hW' := hW
  obtain ⟨p, q, hA0, hV, rfl, hfz, hnd⟩ := hW
  have hA : DataW.TrodAll enc Tryd.prog W 0 (fun _ => true) true Tryd.f5.params.toList args.toList ds p := hA0
  rw [Tryd.params5] at hA hval
  obtain ⟨v0, vs0, d0, ds0, p0, q0, hargs, rfl, rfl, h0, r0⟩ := trodAll_cons hA
  obtain ⟨rfl, rfl, rfl⟩ := trodAll_nil r0
  obtain rfl : args = #[v0] := by cases args; simp_all
  obtain ⟨rfl, rfl⟩ := trodVars_none hV
  obtain ⟨s0, rfl, rfl, rfl, w0⟩ := open_string Tryd.underlying9 (hval 0 9 v0 rfl rfl) h0
  clear hA0 hval0
  simp only [List.append_nil] at hW'
  refine (walk s0 w0 W hL).mono fun e W' ⟨he, hg⟩ => ?_
  subst he
  exact ⟨_, rfl, _, _, _, [], _, [], hW', (trodAll_cons_mk (shut_bool Tryd.underlying4 _) trodAll_mk0), (trodAll_cons_mk (shut_string Tryd.underlying9 w0) trodAll_mk0), rfl, hg.frame _, fun h => by cases h⟩

theorem over : Rows.wordPlacesRow.holds Tryd.pinned (OpenSpec.ofChange Rows.wordPlacesSpec) :=
  OpenClaim.holds_of_wide 5 Tryd.f5 rfl rfl rfl rfl rfl rfl rfl ⟨rfl, rfl, rfl, rfl, rfl⟩ rfl rfl rfl rfl rfl (by kernel_rfl) Tryd.func5 (by kernel_rfl)
    (of_decide_eq_true (by kernel_rfl)) (by unfold Func.isWrapper; first | (rw [if_pos (by decide +kernel)]; kernel_rfl) | (rw [if_neg (by decide +kernel)]; exact ⟨rfl, rfl⟩))
    (fun os started H enc _ => lifted os started H enc)

theorem row_proved : Rows.WordPlacesSaid :=
  over
theorem proved : Rows.WordPlacesCardSaid :=
  Claim7.holds_tied_plain_at .later [] [.data, .pinned] true (true, "997cb61f626bbeca65f6e5b32c5c8ee889106521db348261eb31df427ee72416") false
    row_proved (fun _ h => by cases h) (by kernel_rfl) (fun _ h => by cases h) wordPlaces_row_tie rfl ⟨rfl, rfl⟩ (by kernel_rfl) rfl
    (fun f fn hf hfn => by
      obtain rfl : f = 5 := Option.some.inj ((show Tryd.prog.funcNamed "earshot/earshotlaw2.WordPlaces" = some 5 by kernel_rfl).symm.trans hf) |>.symm
      obtain rfl : fn = Tryd.f5 := (Option.some.inj (Tryd.func5.symm.trans hfn)).symm
      exact ⟨by kernel_rfl, fun j t ht => by
        rw [Tryd.params5] at ht
        rcases j with _ | j
        · have e : t = 9 := by simpa using ht.symm
          subst e
          exact (show Tryd.prog.wantsStandIn 9 = false by kernel_rfl)
        simp at ht⟩)
    (by kernel_rfl)
#print axioms proved
end Go.Proofs.YtibhljdiofglfaaDoor
