/- WordFound: at every text: each word stands where its place says, and the words' places rise; no condition but the tie of the card. -/
import Derived.Test.YtibhljdiofglfaaDoorRows
import Derived.WalkKit
import Derived.ProofKit
import Derived.OpenShut
import Derived.ChangeMaps5
import Derived.Stop.Joined
import Derived.Lay
import Derived.SevenTiedAt
import Derived.SizedLaws
import Derived.LaidMore
import Derived.Test.YtibhljdiofglfaaDoorTie
import Derived.Test.YtibhljdiofglfaaDoorCards
import Derived.Test.YtibhljdiofglfaaDoorFnd
import Derived.Test.YtibhljdiofglfaaDoorScl
import Derived.Test.YtibhljdiofglfaaDoorRgf
namespace Go.Proofs.YtibhljdiofglfaaDoor
open Go.ChangeShapes Go.WideShapes Go.ChangeAt Go.RowKit Go.ChangeMaps
set_option linter.unusedVariables false


theorem own : ownKnob Tryd.prog.godebug = none := by kernel_rfl
open Go.Shelf Go.Lib
theorem wpAny_gen {P : Program} {md : Region.Mode} {ops : Array Oper} {Q : Exit → Act → World → Prop} {X0 : Array Value} {df : List Deferred} {n : Nat} {b : Array Bool} {w : World} (C : (Nat → Value) → Prop) (J : World → Prop)
    (k : (∀ (val : Nat → Value) (W : World), C val → J W → Q .normal { tmps := finL val ops.toList 0 X0, defers := df } W) → wpAny P md ops Q n b { tmps := X0, defers := df } w)
    (h : ∀ (val : Nat → Value) (W : World), C val → J W → Q .normal { tmps := finL val ops.toList 0 X0, defers := df } W) : wpAny P md ops Q n b { tmps := X0, defers := df } w := k h
theorem ix_tok (W : World) (g n cap k : Nat) (hk : k < n) : (Instr.indexAt 22 (.slice (some ⟨g, 0, none⟩) n cap) (.int .i64 (k : Int))).run Tryd.prog W = .ok (.pointer (some ⟨g, k * 4, none⟩)) W := by
  have h0 : (0 : Int) ≤ (k : Int) := by omega
  have h1 : (k : Int) < (n : Int) := by omega
  go_simp
theorem fd_tok1 (W : World) (g k : Nat) : (Instr.fieldAt 32 (.pointer (some ⟨g, k, none⟩)) 1).run Tryd.prog W = .ok (.pointer (some ⟨g, k + 1, none⟩)) W := by
  go_simp
theorem fd_tok2 (W : World) (g k : Nat) : (Instr.fieldAt 32 (.pointer (some ⟨g, k, none⟩)) 2).run Tryd.prog W = .ok (.pointer (some ⟨g, k + 2, none⟩)) W := by
  go_simp
theorem fd_tok3 (W : World) (g k : Nat) : (Instr.fieldAt 32 (.pointer (some ⟨g, k, none⟩)) 3).run Tryd.prog W = .ok (.pointer (some ⟨g, k + 3, none⟩)) W := by
  go_simp
theorem ldi_at {W : World} {g k : Nat} {x : Int} (h : W.cell? ⟨g, k, none⟩ = some (.int .i64 x)) : (Instr.loadAt 3 (.pointer (some ⟨g, k, none⟩))).run Tryd.prog W = .ok (.int .i64 x) W := by
  go_simp
theorem lds_at {W : World} {g k : Nat} {x : ByteArray} (h : W.cell? ⟨g, k, none⟩ = some (.string x)) : (Instr.loadAt 9 (.pointer (some ⟨g, k, none⟩))).run Tryd.prog W = .ok (.string x) W := by
  go_simp
theorem bin_neqI {x y : Operand} {w : World} (a : Int) : binRun Tryd.prog .neq 3 x y (.int .i64 a) (.int .i64 a) w = .ok (.bool false) w := by simp [binRun, go_sem]
theorem bin_neqS {x y : Operand} {w : World} (a : ByteArray) : binRun Tryd.prog .neq 9 x y (.string a) (.string a) w = .ok (.bool false) w := by simp [binRun, go_sem]
theorem bin_addI {x y : Operand} {w : World} (a : Int) (h : IntKind.i64.wrap (a + 1) = a + 1) : binRun Tryd.prog .add 3 x y (.int .i64 a) (.int .i64 1) w = .ok (.int .i64 (a + 1)) w := by simp [binRun, go_sem, h]
theorem fd_tok0 (W : World) (g k : Nat) : (Instr.fieldAt 32 (.pointer (some ⟨g, k, none⟩)) 0).run Tryd.prog W = .ok (.pointer (some ⟨g, k, none⟩)) W := by
  go_simp
theorem bin_gt0 {x y : Operand} {w : World} (a : Int) (b : Bool) (h : decide (0 < a) = b) : binRun Tryd.prog .gtr 3 x y (.int .i64 a) (.int .i64 0) w = .ok (.bool b) w := by simp [binRun, go_sem, h]
theorem bin_subI {x y : Operand} {w : World} (a c : Int) (h : IntKind.i64.wrap (a - 1) = c) : binRun Tryd.prog .sub 3 x y (.int .i64 a) (.int .i64 1) w = .ok (.int .i64 c) w := by simp [binRun, go_sem, h]
theorem bin_ltI {x y : Operand} {w : World} (a c : Int) (h : ¬ a < c) : binRun Tryd.prog .lss 3 x y (.int .i64 a) (.int .i64 c) w = .ok (.bool false) w := by simp [binRun, go_sem, h]
theorem bin_leI {x y : Operand} {w : World} (a c : Int) (h : ¬ a ≤ c) : binRun Tryd.prog .leq 3 x y (.int .i64 a) (.int .i64 c) w = .ok (.bool false) w := by simp [binRun, go_sem, h]
theorem bin_eqI {x y : Operand} {w : World} (a c : Int) (b : Bool) (h : (a == c) = b) : binRun Tryd.prog .eql 3 x y (.int .i64 a) (.int .i64 c) w = .ok (.bool b) w := by simp [binRun, go_sem, ← h]
theorem bin_gtI {x y : Operand} {w : World} (a c : Int) (h : ¬ c < a) : binRun Tryd.prog .gtr 3 x y (.int .i64 a) (.int .i64 c) w = .ok (.bool false) w := by simp [binRun, go_sem, h]
theorem bin_addJ {x y : Operand} {w : World} (a b c : Int) (h : IntKind.i64.wrap (a + b) = c) : binRun Tryd.prog .add 3 x y (.int .i64 a) (.int .i64 b) w = .ok (.int .i64 c) w := by simp [binRun, go_sem, h]
theorem step_slice {P : Program} {md : Region.Mode} {ops : Array Oper} {Q : Exit → Act → World → Prop} {X0 : Array Value} {val : Nat → Value} {J : World → Prop} {i : Nat} {o : Oper} (hi : ops[i]? = some o) (hg : GOk md ops X0 val i o) (t : TypeId) (x : Operand) (lo hi' : Option Operand) (p : Value) (lv hv : Option Value) (ho : o.op = .slice t x lo hi' none) (hx : rdo md ops X0 val i o x = some p)
    (hlo : lo.map (rdo md ops X0 val i o) = lv.map some) (hhi : hi'.map (rdo md ops X0 val i o) = hv.map some) (hr : ∀ w, J w → (Instr.sliceAt t p lv hv none).run P w = .ok (val i) w) : StepAt P md ops Q X0 val J J i o :=
  step_of hi hg fun a w hJ hS => by
    have e1 : lo.map a.eval = lv := by
      cases lo with
      | none => cases lv with
        | none => rfl
        | some v => cases hlo
      | some y => cases lv with
        | none => cases hlo
        | some v => simp only [Option.map_some, Option.some.injEq] at hlo ⊢; exact hS.eval hlo
    have e2 : hi'.map a.eval = hv := by
      cases hi' with
      | none => cases hv with
        | none => rfl
        | some v => cases hhi
      | some y => cases hv with
        | none => cases hhi
        | some v => simp only [Option.map_some, Option.some.injEq] at hhi ⊢; exact hS.eval hhi
    unfold Oper.wp execOp
    simp only [ho, hS.eval hx, e1, e2, Option.map_none, Sem.run_bind, hr w hJ, Result.andThen_ok, Sem.run_pure, Oper.upon_value]
    exact ⟨trivial, hJ⟩
theorem badL_err : ∀ (L : List ByteArray) (i er co : Nat), badL L = some (i, er, co) → er ≠ 0
  | [], _, _, _, h => by cases h
  | x :: t, i, er, co, h => by
    rw [badL] at h
    by_cases hx : (cutR x).2.1 ≠ 0
    · rw [if_pos hx] at h
      cases h
      exact hx
    · rw [if_neg hx] at h
      cases ht : badL t with
      | none => rw [ht] at h; cases h
      | some r =>
        rw [ht] at h
        obtain ⟨i', er', co'⟩ := r
        cases h
        exact badL_err t i' er co ht
def vnat (v : Value) : Nat := match v with | .int _ n => n.toNat | _ => 0
theorem len_str (cs : Array Bool) (ty : TypeId) (W : World) (t : ByteArray) : (builtin .len #[9] ty cs #[.string t]).run Tryd.prog W = .ok (.value (.int .i64 (t.size : Nat))) W := by
  simp [go_sem]
theorem slice_str {W : World} {s t : ByteArray} {a : Nat} (h : a + t.size ≤ s.size) (e : s.extract a (a + t.size) = t) : (Instr.sliceAt 9 (.string s) (some (.int .i64 (a : Nat))) (some (.int .i64 ((a + t.size : Nat) : Int))) none).run Tryd.prog W = .ok (.string t) W := by
  have h0 : (0 : Int) ≤ (a : Int) := by omega
  have h1 : (a : Int) ≤ ((a + t.size : Nat) : Int) := by omega
  have h2 : ((a + t.size : Nat) : Int) ≤ (s.size : Int) := by omega
  have h3 : (0 : Int) ≤ ((a + t.size : Nat) : Int) := by omega
  have h4 : a + t.size - a = t.size := by omega
  generalize a + t.size = b at *
  go_simp
set_option maxHeartbeats 2000000 in
set_option maxRecDepth 100000 in
theorem walk (s0 : ByteArray) (w0 : s0.size ≤ maxLen) (w : World) (hL : laidMetH Tryd.prog Rows.wordFoundRow.laid w) :
    Calls Tryd.prog 6 #[.string s0] w fun e w' => e = .returned (.bool true) ∧ Below w.heap.size w w' := by
  have hal := alive_any
  by_cases hlong : s0.size ≤ 65536
  case neg =>
    have h1 := scan_long s0 (by omega)
    go_enter Tryd.func6, Tryd.ntmps6
    go_wp2_with (first | (go_at_call 9; with_reducible refine (h1 _).mono ?_; rintro e Z1 ⟨rfl, hb1⟩) | (go_at_call 10; refine (hal _).mono ?_; rintro e Z3 ⟨rfl, hb3⟩))
    go_ret
    exact ⟨rfl, hb1.trans (hb3.mono hb1.size)⟩
  have h1 := fun W => callsIn_wide.1 (scan_in s0 hlong W)
  unfold ScV at h1
  cases hbad : badL (linesOf s0) with
  | some r =>
    obtain ⟨i, er, co⟩ := r
    have hne := badL_err _ _ _ _ hbad
    rw [hbad] at h1
    have hne' : ¬ (er : Int) = 0 := by omega
    simp only at h1
    generalize ((i + 1 : Nat) : Int) = a1 at *
    go_enter Tryd.func6, Tryd.ntmps6
    go_wp2_with (first | (go_at_call 9; with_reducible refine (h1 _).mono ?_; rintro e Z1 ⟨rfl, hb1⟩) | (go_at_call 10; refine (hal _).mono ?_; rintro e Z3 ⟨rfl, hb3⟩))
    go_ret
    exact ⟨rfl, hb1.trans (hb3.mono hb1.size)⟩
  | none =>
    rw [hbad] at h1
    by_cases hlen : s0.size ≤ 3000
    case neg =>
      have hg : 3000 < (s0.size : Int) := by omega
      simp only at h1
      go_enter Tryd.func6, Tryd.ntmps6
      go_wp2_with (first | (go_at_call 9; with_reducible refine (h1 _).mono ?_; rintro e Z1 ⟨⟨v1, rfl, _⟩, hb1⟩) | (go_at_call 10; refine (hal _).mono ?_; rintro e Z3 ⟨rfl, hb3⟩))
      go_ret
      exact ⟨rfl, hb1.trans (hb3.mono hb1.size)⟩
    have hg : ¬ 3000 < (s0.size : Int) := by omega
    simp only at h1
    have hkb : kkL (linesOf s0) ≤ 2 * (s0.size + 1) := kk_pre (List.prefix_refl _)
    have hl := fours_len 0 (linesOf s0)
    have hln := text_stand s0
    have hup := fours_rise 0 (linesOf s0)
    simp only [fours_cells] at h1
    generalize fours 0 (linesOf s0) = L at *
    rw [← hl] at h1 hkb
    clear hbad hl
    go_enter Tryd.func6, Tryd.ntmps6
    go_wp2_with (go_at_call 9; with_reducible refine (h1 _).mono ?_; rintro e Z1 ⟨⟨v1, rfl, hr1⟩, hb1⟩; obtain ⟨ad1, cap1, rfl, _⟩ := ownsRow_form hr1)
    clear h1
    go_loopw [7] (fun c wz => ∃ i : Nat, c = .int .i64 (i : Int) ∧ i ≤ L.length ∧ Below Z1.heap.size Z1 wz) (fun c _ => L.length - (match c with | .int _ n => n.toNat | _ => 0))
    case atStart => exact ⟨0, rfl, by omega, Below.refl _ _⟩
    case round =>
      obtain ⟨i, rfl, hiL, hbz⟩ := hrel
      have hmx : Tryd.prog.follows .mixedOrders = true := by kernel_rfl
      have hz1 := row_below hr1 hbz
      obtain ⟨_, _, e1, hf1⟩ := ownsRow_form hz1
      cases e1
      by_cases hi : i < L.length
      · have hi1 : (i : Int) < (L.length : Int) := by omega
        have hi0 : 0 ≤ (i : Int) := by omega
        obtain ⟨g1, rfl, _, _, _, hc1⟩ := hf1 (by omega)
        have hq1 : L[i]? = some L[i] := List.getElem?_eq_getElem hi
        have HQ : Hid (FStand s0 L[i]) := hln _ (List.getElem_mem hi)
        have HP : Hid (∀ j, (hj : j + 1 = i) → PlLt (L[j]'(by omega)) L[i]) := fun j hj => List.pairwise_iff_getElem.1 hup j i (by omega) hi (by omega)
        generalize hqe : L[i] = q at *
        obtain ⟨k, t, l, c⟩ := q
        obtain ⟨x0, x1, x2, x3⟩ := cells4_get _ _ _ hq1
        dsimp only at x0 x1 x2 x3
        have X0 := hc1 _ _ x0
        have X1 := hc1 _ _ x1
        have X2 := hc1 _ _ x2
        have X3 := hc1 _ _ x3
        have hwi : IntKind.i64.wrap ((i : Int) + 1) = ((i + 1 : Nat) : Int) := by rw [IntKind.wrap_i64]; omega
        clear x0 x1 x2 x3
        go_wp2
        refine wp_region_any hmx ?_
        refine wpAny_gen (C := fun val => val 43 = .bool false) (J := (fun W => Below Z1.heap.size Z1 W ∧ W.cell? ⟨g1, i * 4, none⟩ = some (.int .i64 k) ∧ W.cell? ⟨g1, i * 4 + 1, none⟩ = some (.string t) ∧ W.cell? ⟨g1, i * 4 + 2, none⟩ = some (.int .i64 l) ∧ W.cell? ⟨g1, i * 4 + 3, none⟩ = some (.int .i64 c))) ?ways ?tail
        case ways =>
          intro hT
          by_cases hip : i = 0
          · have hi9 : ¬ 0 < (i : Int) := by omega
            refine wpAny_pure (fun i__ => ([(.int .i64 (i : Nat)), (.bool false), (.bool false), undef, undef, undef, undef, undef, undef, undef, undef, undef, undef, undef, undef, undef, undef, undef, undef, undef, undef, undef, undef, undef, undef, undef, undef, undef, undef, undef, undef, undef, undef, undef, undef, undef, undef, undef, undef, undef, undef, undef, undef, (.bool false)] : List Value).getD i__ undef) (fun W => Below Z1.heap.size Z1 W ∧ W.cell? ⟨g1, i * 4, none⟩ = some (.int .i64 k) ∧ W.cell? ⟨g1, i * 4 + 1, none⟩ = some (.string t) ∧ W.cell? ⟨g1, i * 4 + 2, none⟩ = some (.int .i64 l) ∧ W.cell? ⟨g1, i * 4 + 3, none⟩ = some (.int .i64 c)) (by kernel_rfl) ⟨hbz.drew, X0, X1, X2, X3⟩ ?_ (fun W hW => hT _ W rfl hW)
            · refine (stepsFrom_cons ?_ (stepsFrom_cons ?_ (stepsFrom_cons ?_ (stepsFrom_cons ?_ (stepsFrom_cons ?_ (stepsFrom_cons ?_ (stepsFrom_cons ?_ (stepsFrom_cons ?_ (stepsFrom_cons ?_ (stepsFrom_cons ?_ (stepsFrom_cons ?_ (stepsFrom_cons ?_ (stepsFrom_cons ?_ (stepsFrom_cons ?_ (stepsFrom_cons ?_ (stepsFrom_cons ?_ (stepsFrom_cons ?_ (stepsFrom_cons ?_ (stepsFrom_cons ?_ (stepsFrom_cons ?_ (stepsFrom_cons ?_ (stepsFrom_cons ?_ (stepsFrom_cons ?_ (stepsFrom_cons ?_ (stepsFrom_cons ?_ (stepsFrom_cons ?_ (stepsFrom_cons ?_ (stepsFrom_cons ?_ (stepsFrom_cons ?_ (stepsFrom_cons ?_ (stepsFrom_cons ?_ (stepsFrom_cons ?_ (stepsFrom_cons ?_ (stepsFrom_cons ?_ (stepsFrom_cons ?_ (stepsFrom_cons ?_ (stepsFrom_cons ?_ (stepsFrom_cons ?_ (stepsFrom_cons ?_ (stepsFrom_cons ?_ (stepsFrom_cons ?_ (stepsFrom_cons ?_ (stepsFrom_cons ?_ (stepsFrom_cons ?_ trivial))))))))))))))))))))))))))))))))))))))))))))
              · exact step_move rfl trivial _ rfl (by kernel_rfl)
              · exact step_binOp rfl trivial _ _ _ _ _ _ _ rfl rfl rfl (fun w hw => bin_gt0 _ _ (by simp; omega))
              · exact step_move rfl trivial _ rfl (by kernel_rfl)
              · exact step_skip rfl 2 true 36 (.bool false) rfl rfl (by kernel_rfl) (by intro h; cases h) rfl
              · exact step_skip rfl 2 true 36 (.bool false) rfl rfl (by kernel_rfl) (by intro h; cases h) rfl
              · exact step_skip rfl 2 true 36 (.bool false) rfl rfl (by kernel_rfl) (by intro h; cases h) rfl
              · exact step_skip rfl 2 true 36 (.bool false) rfl rfl (by kernel_rfl) (by intro h; cases h) rfl
              · exact step_skip rfl 2 true 36 (.bool false) rfl rfl (by kernel_rfl) (by intro h; cases h) rfl
              · exact step_skip rfl 2 true 36 (.bool false) rfl rfl (by kernel_rfl) (by intro h; cases h) rfl
              · exact step_skip rfl 2 true 36 (.bool false) rfl rfl (by kernel_rfl) (by intro h; cases h) rfl
              · exact step_skip rfl 2 true 36 (.bool false) rfl rfl (by kernel_rfl) (by intro h; cases h) rfl
              · exact step_skip rfl 2 true 36 (.bool false) rfl rfl (by kernel_rfl) (by intro h; cases h) rfl
              · exact step_skip rfl 2 true 36 (.bool false) rfl rfl (by kernel_rfl) (by intro h; cases h) rfl
              · exact step_skip rfl 2 true 36 (.bool false) rfl rfl (by kernel_rfl) (by intro h; cases h) rfl
              · exact step_skip rfl 2 true 36 (.bool false) rfl rfl (by kernel_rfl) (by intro h; cases h) rfl
              · exact step_skip rfl 2 true 36 (.bool false) rfl rfl (by kernel_rfl) (by intro h; cases h) rfl
              · exact step_skip rfl 15 false 49 undef rfl rfl (by kernel_rfl) (by intro h; cases h) rfl
              · exact step_skip rfl 15 false 49 undef rfl rfl (by kernel_rfl) (by intro h; cases h) rfl
              · exact step_skip rfl 15 false 49 undef rfl rfl (by kernel_rfl) (by intro h; cases h) rfl
              · exact step_skip rfl 15 false 49 undef rfl rfl (by kernel_rfl) (by intro h; cases h) rfl
              · exact step_skip rfl 15 false 49 undef rfl rfl (by kernel_rfl) (by intro h; cases h) rfl
              · exact step_skip rfl 15 false 49 undef rfl rfl (by kernel_rfl) (by intro h; cases h) rfl
              · exact step_skip rfl 15 false 49 undef rfl rfl (by kernel_rfl) (by intro h; cases h) rfl
              · exact step_skip rfl 15 false 49 undef rfl rfl (by kernel_rfl) (by intro h; cases h) rfl
              · exact step_skip rfl 15 false 49 undef rfl rfl (by kernel_rfl) (by intro h; cases h) rfl
              · exact step_skip rfl 15 false 49 undef rfl rfl (by kernel_rfl) (by intro h; cases h) rfl
              · exact step_skip rfl 15 false 49 undef rfl rfl (by kernel_rfl) (by intro h; cases h) rfl
              · exact step_skip rfl 15 false 49 undef rfl rfl (by kernel_rfl) (by intro h; cases h) rfl
              · exact step_skip rfl 15 false 49 undef rfl rfl (by kernel_rfl) (by intro h; cases h) rfl
              · exact step_skip rfl 28 true 62 undef rfl rfl (by kernel_rfl) (by intro h; cases h) rfl
              · exact step_skip rfl 28 true 62 undef rfl rfl (by kernel_rfl) (by intro h; cases h) rfl
              · exact step_skip rfl 28 true 62 undef rfl rfl (by kernel_rfl) (by intro h; cases h) rfl
              · exact step_skip rfl 28 true 62 undef rfl rfl (by kernel_rfl) (by intro h; cases h) rfl
              · exact step_skip rfl 28 true 62 undef rfl rfl (by kernel_rfl) (by intro h; cases h) rfl
              · exact step_skip rfl 28 true 62 undef rfl rfl (by kernel_rfl) (by intro h; cases h) rfl
              · exact step_skip rfl 28 true 62 undef rfl rfl (by kernel_rfl) (by intro h; cases h) rfl
              · exact step_skip rfl 28 true 62 undef rfl rfl (by kernel_rfl) (by intro h; cases h) rfl
              · exact step_skip rfl 28 true 62 undef rfl rfl (by kernel_rfl) (by intro h; cases h) rfl
              · exact step_skip rfl 28 true 62 undef rfl rfl (by kernel_rfl) (by intro h; cases h) rfl
              · exact step_skip rfl 28 true 62 undef rfl rfl (by kernel_rfl) (by intro h; cases h) rfl
              · exact step_skip rfl 28 true 62 undef rfl rfl (by kernel_rfl) (by intro h; cases h) rfl
              · exact step_skip rfl 15 false 49 undef rfl rfl (by kernel_rfl) (by intro h; cases h) rfl
              · exact step_skip rfl 2 true 36 (.bool false) rfl rfl (by kernel_rfl) (by intro h; cases h) rfl
              · exact step_pick rfl trivial _ _ _ false rfl (by kernel_rfl) (by kernel_rfl)
          · obtain ⟨j, hji⟩ : ∃ j, i = j + 1 := ⟨i - 1, by omega⟩
            have hj : j < L.length := by omega
            have hpl := HP.out j hji.symm
            have hqj : L[j]? = some L[j] := List.getElem?_eq_getElem hj
            generalize L[j] = qj at *
            obtain ⟨kj, tj, lj, cj⟩ := qj
            obtain ⟨_, _, y2, y3⟩ := cells4_get _ _ _ hqj
            dsimp only at y2 y3
            have Y2 := hc1 _ _ y2
            have Y3 := hc1 _ _ y3
            have hwj : IntKind.i64.wrap ((i : Int) - 1) = (j : Int) := by rw [IntKind.wrap_i64]; omega
            have hpl' : lj < l ∨ (lj = l ∧ cj < c) := hpl
            by_cases hsame : lj = l
            · have hsc : cj < c := by omega
              refine wpAny_pure (fun i__ => ([(.int .i64 (i : Nat)), (.bool true), (.bool true), (.slice (some ⟨g1, 0, none⟩) L.length cap1), (.int .i64 (i : Nat)), (.pointer (some ⟨g1, i * 4, none⟩)), (.pointer (some ⟨g1, i * 4 + 2, none⟩)), (.int .i64 l), (.slice (some ⟨g1, 0, none⟩) L.length cap1), (.int .i64 (i : Nat)), (.int .i64 (j : Nat)), (.pointer (some ⟨g1, j * 4, none⟩)), (.pointer (some ⟨g1, j * 4 + 2, none⟩)), (.int .i64 lj), (.bool false), (.bool false), (.slice (some ⟨g1, 0, none⟩) L.length cap1), (.int .i64 (i : Nat)), (.pointer (some ⟨g1, i * 4, none⟩)), (.pointer (some ⟨g1, i * 4 + 2, none⟩)), (.int .i64 l), (.slice (some ⟨g1, 0, none⟩) L.length cap1), (.int .i64 (i : Nat)), (.int .i64 (j : Nat)), (.pointer (some ⟨g1, j * 4, none⟩)), (.pointer (some ⟨g1, j * 4 + 2, none⟩)), (.int .i64 lj), (.bool true), (.bool true), (.slice (some ⟨g1, 0, none⟩) L.length cap1), (.int .i64 (i : Nat)), (.pointer (some ⟨g1, i * 4, none⟩)), (.pointer (some ⟨g1, i * 4 + 3, none⟩)), (.int .i64 c), (.slice (some ⟨g1, 0, none⟩) L.length cap1), (.int .i64 (i : Nat)), (.int .i64 (j : Nat)), (.pointer (some ⟨g1, j * 4, none⟩)), (.pointer (some ⟨g1, j * 4 + 3, none⟩)), (.int .i64 cj), (.bool false), (.bool false), (.bool false), (.bool false)] : List Value).getD i__ undef) (fun W => Below Z1.heap.size Z1 W ∧ W.cell? ⟨g1, i * 4, none⟩ = some (.int .i64 k) ∧ W.cell? ⟨g1, i * 4 + 1, none⟩ = some (.string t) ∧ W.cell? ⟨g1, i * 4 + 2, none⟩ = some (.int .i64 l) ∧ W.cell? ⟨g1, i * 4 + 3, none⟩ = some (.int .i64 c) ∧ W.cell? ⟨g1, j * 4 + 2, none⟩ = some (.int .i64 lj) ∧ W.cell? ⟨g1, j * 4 + 3, none⟩ = some (.int .i64 cj)) (by kernel_rfl) ⟨hbz.drew, X0, X1, X2, X3, Y2, Y3⟩ ?_ (fun W hW => hT _ W rfl ⟨hW.1, hW.2.1, hW.2.2.1, hW.2.2.2.1, hW.2.2.2.2.1⟩)
              · refine (stepsFrom_cons ?_ (stepsFrom_cons ?_ (stepsFrom_cons ?_ (stepsFrom_cons ?_ (stepsFrom_cons ?_ (stepsFrom_cons ?_ (stepsFrom_cons ?_ (stepsFrom_cons ?_ (stepsFrom_cons ?_ (stepsFrom_cons ?_ (stepsFrom_cons ?_ (stepsFrom_cons ?_ (stepsFrom_cons ?_ (stepsFrom_cons ?_ (stepsFrom_cons ?_ (stepsFrom_cons ?_ (stepsFrom_cons ?_ (stepsFrom_cons ?_ (stepsFrom_cons ?_ (stepsFrom_cons ?_ (stepsFrom_cons ?_ (stepsFrom_cons ?_ (stepsFrom_cons ?_ (stepsFrom_cons ?_ (stepsFrom_cons ?_ (stepsFrom_cons ?_ (stepsFrom_cons ?_ (stepsFrom_cons ?_ (stepsFrom_cons ?_ (stepsFrom_cons ?_ (stepsFrom_cons ?_ (stepsFrom_cons ?_ (stepsFrom_cons ?_ (stepsFrom_cons ?_ (stepsFrom_cons ?_ (stepsFrom_cons ?_ (stepsFrom_cons ?_ (stepsFrom_cons ?_ (stepsFrom_cons ?_ (stepsFrom_cons ?_ (stepsFrom_cons ?_ (stepsFrom_cons ?_ (stepsFrom_cons ?_ (stepsFrom_cons ?_ trivial))))))))))))))))))))))))))))))))))))))))))))
                · exact step_move rfl trivial _ rfl (by kernel_rfl)
                · exact step_binOp rfl trivial _ _ _ _ _ _ _ rfl rfl rfl (fun w hw => bin_gt0 _ _ (by simp; omega))
                · exact step_move rfl trivial _ rfl (by kernel_rfl)
                · exact step_move rfl (by exact ⟨_, rfl, by kernel_rfl⟩) _ rfl (by kernel_rfl)
                · exact step_move rfl (by exact ⟨_, rfl, by kernel_rfl⟩) _ rfl (by kernel_rfl)
                · exact step_indexAddr rfl (by exact ⟨_, rfl, by kernel_rfl⟩) _ _ _ _ _ rfl rfl rfl (fun w hw => ix_tok _ _ _ _ _ hi)
                · exact step_fieldAddr rfl (by exact ⟨_, rfl, by kernel_rfl⟩) _ _ _ _ rfl rfl (fun w hw => fd_tok2 _ _ _)
                · exact step_load rfl (by exact ⟨_, rfl, by kernel_rfl⟩) _ _ _ rfl rfl (fun w hw => ldi_at hw.2.2.2.1)
                · exact step_move rfl (by exact ⟨_, rfl, by kernel_rfl⟩) _ rfl (by kernel_rfl)
                · exact step_move rfl (by exact ⟨_, rfl, by kernel_rfl⟩) _ rfl (by kernel_rfl)
                · exact step_binOp rfl (by exact ⟨_, rfl, by kernel_rfl⟩) _ _ _ _ _ _ _ rfl rfl rfl (fun w hw => bin_subI _ _ hwj)
                · exact step_indexAddr rfl (by exact ⟨_, rfl, by kernel_rfl⟩) _ _ _ _ _ rfl rfl rfl (fun w hw => ix_tok _ _ _ _ _ hj)
                · exact step_fieldAddr rfl (by exact ⟨_, rfl, by kernel_rfl⟩) _ _ _ _ rfl rfl (fun w hw => fd_tok2 _ _ _)
                · exact step_load rfl (by exact ⟨_, rfl, by kernel_rfl⟩) _ _ _ rfl rfl (fun w hw => ldi_at hw.2.2.2.2.2.1)
                · exact step_binOp rfl (by exact ⟨_, rfl, by kernel_rfl⟩) _ _ _ _ _ _ _ rfl rfl rfl (fun w hw => bin_ltI _ _ (by omega))
                · exact step_move rfl (by exact ⟨_, rfl, by kernel_rfl⟩) _ rfl (by kernel_rfl)
                · exact step_move rfl (by exact ⟨_, rfl, by kernel_rfl⟩) _ rfl (by kernel_rfl)
                · exact step_move rfl (by exact ⟨_, rfl, by kernel_rfl⟩) _ rfl (by kernel_rfl)
                · exact step_indexAddr rfl (by exact ⟨_, rfl, by kernel_rfl⟩) _ _ _ _ _ rfl rfl rfl (fun w hw => ix_tok _ _ _ _ _ hi)
                · exact step_fieldAddr rfl (by exact ⟨_, rfl, by kernel_rfl⟩) _ _ _ _ rfl rfl (fun w hw => fd_tok2 _ _ _)
                · exact step_load rfl (by exact ⟨_, rfl, by kernel_rfl⟩) _ _ _ rfl rfl (fun w hw => ldi_at hw.2.2.2.1)
                · exact step_move rfl (by exact ⟨_, rfl, by kernel_rfl⟩) _ rfl (by kernel_rfl)
                · exact step_move rfl (by exact ⟨_, rfl, by kernel_rfl⟩) _ rfl (by kernel_rfl)
                · exact step_binOp rfl (by exact ⟨_, rfl, by kernel_rfl⟩) _ _ _ _ _ _ _ rfl rfl rfl (fun w hw => bin_subI _ _ hwj)
                · exact step_indexAddr rfl (by exact ⟨_, rfl, by kernel_rfl⟩) _ _ _ _ _ rfl rfl rfl (fun w hw => ix_tok _ _ _ _ _ hj)
                · exact step_fieldAddr rfl (by exact ⟨_, rfl, by kernel_rfl⟩) _ _ _ _ rfl rfl (fun w hw => fd_tok2 _ _ _)
                · exact step_load rfl (by exact ⟨_, rfl, by kernel_rfl⟩) _ _ _ rfl rfl (fun w hw => ldi_at hw.2.2.2.2.2.1)
                · exact step_binOp rfl (by exact ⟨_, rfl, by kernel_rfl⟩) _ _ _ _ _ _ _ rfl rfl rfl (fun w hw => bin_eqI _ _ _ (by simp; omega))
                · exact step_move rfl (by exact ⟨_, rfl, by kernel_rfl⟩) _ rfl (by kernel_rfl)
                · exact step_move rfl (by exact ⟨_, rfl, by kernel_rfl⟩) _ rfl (by kernel_rfl)
                · exact step_move rfl (by exact ⟨_, rfl, by kernel_rfl⟩) _ rfl (by kernel_rfl)
                · exact step_indexAddr rfl (by exact ⟨_, rfl, by kernel_rfl⟩) _ _ _ _ _ rfl rfl rfl (fun w hw => ix_tok _ _ _ _ _ hi)
                · exact step_fieldAddr rfl (by exact ⟨_, rfl, by kernel_rfl⟩) _ _ _ _ rfl rfl (fun w hw => fd_tok3 _ _ _)
                · exact step_load rfl (by exact ⟨_, rfl, by kernel_rfl⟩) _ _ _ rfl rfl (fun w hw => ldi_at hw.2.2.2.2.1)
                · exact step_move rfl (by exact ⟨_, rfl, by kernel_rfl⟩) _ rfl (by kernel_rfl)
                · exact step_move rfl (by exact ⟨_, rfl, by kernel_rfl⟩) _ rfl (by kernel_rfl)
                · exact step_binOp rfl (by exact ⟨_, rfl, by kernel_rfl⟩) _ _ _ _ _ _ _ rfl rfl rfl (fun w hw => bin_subI _ _ hwj)
                · exact step_indexAddr rfl (by exact ⟨_, rfl, by kernel_rfl⟩) _ _ _ _ _ rfl rfl rfl (fun w hw => ix_tok _ _ _ _ _ hj)
                · exact step_fieldAddr rfl (by exact ⟨_, rfl, by kernel_rfl⟩) _ _ _ _ rfl rfl (fun w hw => fd_tok3 _ _ _)
                · exact step_load rfl (by exact ⟨_, rfl, by kernel_rfl⟩) _ _ _ rfl rfl (fun w hw => ldi_at hw.2.2.2.2.2.2)
                · exact step_binOp rfl (by exact ⟨_, rfl, by kernel_rfl⟩) _ _ _ _ _ _ _ rfl rfl rfl (fun w hw => bin_leI _ _ (by omega))
                · exact step_pick rfl (by exact ⟨_, rfl, by kernel_rfl⟩) _ _ _ true rfl (by kernel_rfl) (by kernel_rfl)
                · exact step_pick rfl (by exact ⟨_, rfl, by kernel_rfl⟩) _ _ _ false rfl (by kernel_rfl) (by kernel_rfl)
                · exact step_pick rfl trivial _ _ _ true rfl (by kernel_rfl) (by kernel_rfl)
            · have hsl : lj < l := by omega
              refine wpAny_pure (fun i__ => ([(.int .i64 (i : Nat)), (.bool true), (.bool true), (.slice (some ⟨g1, 0, none⟩) L.length cap1), (.int .i64 (i : Nat)), (.pointer (some ⟨g1, i * 4, none⟩)), (.pointer (some ⟨g1, i * 4 + 2, none⟩)), (.int .i64 l), (.slice (some ⟨g1, 0, none⟩) L.length cap1), (.int .i64 (i : Nat)), (.int .i64 (j : Nat)), (.pointer (some ⟨g1, j * 4, none⟩)), (.pointer (some ⟨g1, j * 4 + 2, none⟩)), (.int .i64 lj), (.bool false), (.bool false), (.slice (some ⟨g1, 0, none⟩) L.length cap1), (.int .i64 (i : Nat)), (.pointer (some ⟨g1, i * 4, none⟩)), (.pointer (some ⟨g1, i * 4 + 2, none⟩)), (.int .i64 l), (.slice (some ⟨g1, 0, none⟩) L.length cap1), (.int .i64 (i : Nat)), (.int .i64 (j : Nat)), (.pointer (some ⟨g1, j * 4, none⟩)), (.pointer (some ⟨g1, j * 4 + 2, none⟩)), (.int .i64 lj), (.bool false), (.bool false), undef, undef, undef, undef, undef, undef, undef, undef, undef, undef, undef, undef, (.bool false), (.bool false), (.bool false)] : List Value).getD i__ undef) (fun W => Below Z1.heap.size Z1 W ∧ W.cell? ⟨g1, i * 4, none⟩ = some (.int .i64 k) ∧ W.cell? ⟨g1, i * 4 + 1, none⟩ = some (.string t) ∧ W.cell? ⟨g1, i * 4 + 2, none⟩ = some (.int .i64 l) ∧ W.cell? ⟨g1, i * 4 + 3, none⟩ = some (.int .i64 c) ∧ W.cell? ⟨g1, j * 4 + 2, none⟩ = some (.int .i64 lj) ∧ W.cell? ⟨g1, j * 4 + 3, none⟩ = some (.int .i64 cj)) (by kernel_rfl) ⟨hbz.drew, X0, X1, X2, X3, Y2, Y3⟩ ?_ (fun W hW => hT _ W rfl ⟨hW.1, hW.2.1, hW.2.2.1, hW.2.2.2.1, hW.2.2.2.2.1⟩)
              · refine (stepsFrom_cons ?_ (stepsFrom_cons ?_ (stepsFrom_cons ?_ (stepsFrom_cons ?_ (stepsFrom_cons ?_ (stepsFrom_cons ?_ (stepsFrom_cons ?_ (stepsFrom_cons ?_ (stepsFrom_cons ?_ (stepsFrom_cons ?_ (stepsFrom_cons ?_ (stepsFrom_cons ?_ (stepsFrom_cons ?_ (stepsFrom_cons ?_ (stepsFrom_cons ?_ (stepsFrom_cons ?_ (stepsFrom_cons ?_ (stepsFrom_cons ?_ (stepsFrom_cons ?_ (stepsFrom_cons ?_ (stepsFrom_cons ?_ (stepsFrom_cons ?_ (stepsFrom_cons ?_ (stepsFrom_cons ?_ (stepsFrom_cons ?_ (stepsFrom_cons ?_ (stepsFrom_cons ?_ (stepsFrom_cons ?_ (stepsFrom_cons ?_ (stepsFrom_cons ?_ (stepsFrom_cons ?_ (stepsFrom_cons ?_ (stepsFrom_cons ?_ (stepsFrom_cons ?_ (stepsFrom_cons ?_ (stepsFrom_cons ?_ (stepsFrom_cons ?_ (stepsFrom_cons ?_ (stepsFrom_cons ?_ (stepsFrom_cons ?_ (stepsFrom_cons ?_ (stepsFrom_cons ?_ (stepsFrom_cons ?_ (stepsFrom_cons ?_ trivial))))))))))))))))))))))))))))))))))))))))))))
                · exact step_move rfl trivial _ rfl (by kernel_rfl)
                · exact step_binOp rfl trivial _ _ _ _ _ _ _ rfl rfl rfl (fun w hw => bin_gt0 _ _ (by simp; omega))
                · exact step_move rfl trivial _ rfl (by kernel_rfl)
                · exact step_move rfl (by exact ⟨_, rfl, by kernel_rfl⟩) _ rfl (by kernel_rfl)
                · exact step_move rfl (by exact ⟨_, rfl, by kernel_rfl⟩) _ rfl (by kernel_rfl)
                · exact step_indexAddr rfl (by exact ⟨_, rfl, by kernel_rfl⟩) _ _ _ _ _ rfl rfl rfl (fun w hw => ix_tok _ _ _ _ _ hi)
                · exact step_fieldAddr rfl (by exact ⟨_, rfl, by kernel_rfl⟩) _ _ _ _ rfl rfl (fun w hw => fd_tok2 _ _ _)
                · exact step_load rfl (by exact ⟨_, rfl, by kernel_rfl⟩) _ _ _ rfl rfl (fun w hw => ldi_at hw.2.2.2.1)
                · exact step_move rfl (by exact ⟨_, rfl, by kernel_rfl⟩) _ rfl (by kernel_rfl)
                · exact step_move rfl (by exact ⟨_, rfl, by kernel_rfl⟩) _ rfl (by kernel_rfl)
                · exact step_binOp rfl (by exact ⟨_, rfl, by kernel_rfl⟩) _ _ _ _ _ _ _ rfl rfl rfl (fun w hw => bin_subI _ _ hwj)
                · exact step_indexAddr rfl (by exact ⟨_, rfl, by kernel_rfl⟩) _ _ _ _ _ rfl rfl rfl (fun w hw => ix_tok _ _ _ _ _ hj)
                · exact step_fieldAddr rfl (by exact ⟨_, rfl, by kernel_rfl⟩) _ _ _ _ rfl rfl (fun w hw => fd_tok2 _ _ _)
                · exact step_load rfl (by exact ⟨_, rfl, by kernel_rfl⟩) _ _ _ rfl rfl (fun w hw => ldi_at hw.2.2.2.2.2.1)
                · exact step_binOp rfl (by exact ⟨_, rfl, by kernel_rfl⟩) _ _ _ _ _ _ _ rfl rfl rfl (fun w hw => bin_ltI _ _ (by omega))
                · exact step_move rfl (by exact ⟨_, rfl, by kernel_rfl⟩) _ rfl (by kernel_rfl)
                · exact step_move rfl (by exact ⟨_, rfl, by kernel_rfl⟩) _ rfl (by kernel_rfl)
                · exact step_move rfl (by exact ⟨_, rfl, by kernel_rfl⟩) _ rfl (by kernel_rfl)
                · exact step_indexAddr rfl (by exact ⟨_, rfl, by kernel_rfl⟩) _ _ _ _ _ rfl rfl rfl (fun w hw => ix_tok _ _ _ _ _ hi)
                · exact step_fieldAddr rfl (by exact ⟨_, rfl, by kernel_rfl⟩) _ _ _ _ rfl rfl (fun w hw => fd_tok2 _ _ _)
                · exact step_load rfl (by exact ⟨_, rfl, by kernel_rfl⟩) _ _ _ rfl rfl (fun w hw => ldi_at hw.2.2.2.1)
                · exact step_move rfl (by exact ⟨_, rfl, by kernel_rfl⟩) _ rfl (by kernel_rfl)
                · exact step_move rfl (by exact ⟨_, rfl, by kernel_rfl⟩) _ rfl (by kernel_rfl)
                · exact step_binOp rfl (by exact ⟨_, rfl, by kernel_rfl⟩) _ _ _ _ _ _ _ rfl rfl rfl (fun w hw => bin_subI _ _ hwj)
                · exact step_indexAddr rfl (by exact ⟨_, rfl, by kernel_rfl⟩) _ _ _ _ _ rfl rfl rfl (fun w hw => ix_tok _ _ _ _ _ hj)
                · exact step_fieldAddr rfl (by exact ⟨_, rfl, by kernel_rfl⟩) _ _ _ _ rfl rfl (fun w hw => fd_tok2 _ _ _)
                · exact step_load rfl (by exact ⟨_, rfl, by kernel_rfl⟩) _ _ _ rfl rfl (fun w hw => ldi_at hw.2.2.2.2.2.1)
                · exact step_binOp rfl (by exact ⟨_, rfl, by kernel_rfl⟩) _ _ _ _ _ _ _ rfl rfl rfl (fun w hw => bin_eqI _ _ _ (by simp; omega))
                · exact step_move rfl (by exact ⟨_, rfl, by kernel_rfl⟩) _ rfl (by kernel_rfl)
                · exact step_skip rfl 28 true 62 (.bool false) rfl rfl (by kernel_rfl) (by intro h; cases h) rfl
                · exact step_skip rfl 28 true 62 (.bool false) rfl rfl (by kernel_rfl) (by intro h; cases h) rfl
                · exact step_skip rfl 28 true 62 (.bool false) rfl rfl (by kernel_rfl) (by intro h; cases h) rfl
                · exact step_skip rfl 28 true 62 (.bool false) rfl rfl (by kernel_rfl) (by intro h; cases h) rfl
                · exact step_skip rfl 28 true 62 (.bool false) rfl rfl (by kernel_rfl) (by intro h; cases h) rfl
                · exact step_skip rfl 28 true 62 (.bool false) rfl rfl (by kernel_rfl) (by intro h; cases h) rfl
                · exact step_skip rfl 28 true 62 (.bool false) rfl rfl (by kernel_rfl) (by intro h; cases h) rfl
                · exact step_skip rfl 28 true 62 (.bool false) rfl rfl (by kernel_rfl) (by intro h; cases h) rfl
                · exact step_skip rfl 28 true 62 (.bool false) rfl rfl (by kernel_rfl) (by intro h; cases h) rfl
                · exact step_skip rfl 28 true 62 (.bool false) rfl rfl (by kernel_rfl) (by intro h; cases h) rfl
                · exact step_skip rfl 28 true 62 (.bool false) rfl rfl (by kernel_rfl) (by intro h; cases h) rfl
                · exact step_skip rfl 28 true 62 (.bool false) rfl rfl (by kernel_rfl) (by intro h; cases h) rfl
                · exact step_pick rfl (by exact ⟨_, rfl, by kernel_rfl⟩) _ _ _ false rfl (by kernel_rfl) (by kernel_rfl)
                · exact step_pick rfl (by exact ⟨_, rfl, by kernel_rfl⟩) _ _ _ false rfl (by kernel_rfl) (by kernel_rfl)
                · exact step_pick rfl trivial _ _ _ true rfl (by kernel_rfl) (by kernel_rfl)
        case tail =>
          intro val W hv hW
          first | refine hK _ _ ?_ | refine (‹∀ (a : Act) (w : World), Code.wp Tryd.prog _ _ a w → _›) _ _ ?_
          simp only [finL, Nat.zero_add, Nat.reduceAdd, List.setIfInBounds_toArray, List.set_cons_zero, List.set_cons_succ]
          simp only [hv]
          obtain ⟨hbW, c0, c1, c2, c3⟩ := hW
          clear HP
          by_cases hk : k = 1
          · subst hk
            go_wp2
            refine ⟨⟨i + 1, by push_cast; rfl, by omega, hbW⟩, ?_⟩
            show L.length - ((i : Int) + 1).toNat < L.length - ((i : Int)).toNat
            omega
          · obtain ⟨P, lL, cC, e1, e2, hre, hPs, hle, hex⟩ := HQ.out hk
            dsimp only at e1 e2 hle hex
            subst e1
            subst e2
            have X0 := c0
            have hkb : (k == 1) = false := beq_eq_false_iff_ne.2 hk
            go_wp2
            clear c0 c1 c2 c3 X0
            go_loopw [8, 9, 10] (fun a b d wz => ∃ (a' l' c' : Nat), a = .int .i64 (a' : Int) ∧ b = .int .i64 (l' : Int) ∧ d = .int .i64 (c' : Int) ∧ Reach s0 a' l' c' P lL cC ∧ a' ≤ s0.size ∧ l' ≤ a' + 1 ∧ c' ≤ a' + 1 ∧ Below Z1.heap.size Z1 wz) (fun a _ _ _ => s0.size - vnat a)
            case atStart => exact ⟨0, 1, 1, rfl, rfl, rfl, hre, by omega, by omega, by omega, hbW⟩
            case round =>
              clear hbz hbW hz1 hc1
              obtain ⟨a, l, c, rfl, rfl, rfl, hre2, ha, hl, hc, hbz2⟩ := hrel
              have hz1 := row_below hr1 hbz2
              obtain ⟨_, _, e1, hf1⟩ := ownsRow_form hz1
              cases e1
              obtain ⟨g9, e9, _, _, _, hc1⟩ := hf1 (by omega)
              cases e9
              obtain ⟨x0, x1, x2, x3⟩ := cells4_get _ _ _ hq1
              dsimp only at x0 x1 x2 x3
              have d1 := hc1 _ _ x1
              have d2 := hc1 _ _ x2
              have d3 := hc1 _ _ x3
              clear x0 x1 x2 x3 hc1 hf1
              by_cases hst : l = lL ∧ c = cC
              · obtain ⟨rfl, rfl⟩ := hst
                have hP := hre2.here_of rfl rfl
                subst hP
                have ha1 : (a : Int) < (s0.size : Int) := by omega
                have hwa : IntKind.i64.wrap ((a : Int) + (t.size : Int)) = ((a + t.size : Nat) : Int) := by rw [IntKind.wrap_i64]; omega
                go_wp2
                refine wp_region_any hmx ?_
                refine wpAny_pure (fun i__ => ([(.int .i64 (a : Nat)), (.slice (some ⟨g1, 0, none⟩) L.length cap1), (.int .i64 (i : Nat)), (.pointer (some ⟨g1, i * 4, none⟩)), (.pointer (some ⟨g1, i * 4 + 1, none⟩)), (.string t), (.int .i64 (t.size : Nat)), (.int .i64 ((a + t.size : Nat) : Int)), (.string s0), (.int .i64 (s0.size : Nat)), (.bool false), (.bool false), (.string s0), (.int .i64 (a : Nat)), (.int .i64 (a : Nat)), (.slice (some ⟨g1, 0, none⟩) L.length cap1), (.int .i64 (i : Nat)), (.pointer (some ⟨g1, i * 4, none⟩)), (.pointer (some ⟨g1, i * 4 + 1, none⟩)), (.string t), (.int .i64 (t.size : Nat)), (.int .i64 ((a + t.size : Nat) : Int)), (.string t), (.slice (some ⟨g1, 0, none⟩) L.length cap1), (.int .i64 (i : Nat)), (.pointer (some ⟨g1, i * 4, none⟩)), (.pointer (some ⟨g1, i * 4 + 1, none⟩)), (.string t), (.bool false), (.bool false)] : List Value).getD i__ undef) (fun W => Below Z1.heap.size Z1 W ∧ W.cell? ⟨g1, i * 4 + 1, none⟩ = some (.string t)) (by kernel_rfl) ⟨hbz2.drew, d1⟩ ?_ ?_
                · refine (stepsFrom_cons ?_ (stepsFrom_cons ?_ (stepsFrom_cons ?_ (stepsFrom_cons ?_ (stepsFrom_cons ?_ (stepsFrom_cons ?_ (stepsFrom_cons ?_ (stepsFrom_cons ?_ (stepsFrom_cons ?_ (stepsFrom_cons ?_ (stepsFrom_cons ?_ (stepsFrom_cons ?_ (stepsFrom_cons ?_ (stepsFrom_cons ?_ (stepsFrom_cons ?_ (stepsFrom_cons ?_ (stepsFrom_cons ?_ (stepsFrom_cons ?_ (stepsFrom_cons ?_ (stepsFrom_cons ?_ (stepsFrom_cons ?_ (stepsFrom_cons ?_ (stepsFrom_cons ?_ (stepsFrom_cons ?_ (stepsFrom_cons ?_ (stepsFrom_cons ?_ (stepsFrom_cons ?_ (stepsFrom_cons ?_ (stepsFrom_cons ?_ (stepsFrom_cons ?_ trivial))))))))))))))))))))))))))))))
                  · exact step_move rfl trivial _ rfl (by kernel_rfl)
                  · exact step_move rfl trivial _ rfl (by kernel_rfl)
                  · exact step_move rfl trivial _ rfl (by kernel_rfl)
                  · exact step_indexAddr rfl trivial _ _ _ _ _ rfl rfl rfl (fun w hw => ix_tok _ _ _ _ _ hi)
                  · exact step_fieldAddr rfl trivial _ _ _ _ rfl rfl (fun w hw => fd_tok1 _ _ _)
                  · exact step_load rfl trivial _ _ _ rfl rfl (fun w hw => lds_at hw.2)
                  · exact step_bi rfl trivial _ _ _ [(.string t)] rfl (by kernel_rfl) (fun cs w hw => len_str _ _ _ _)
                  · exact step_binOp rfl trivial _ _ _ _ _ _ _ rfl rfl rfl (fun w hw => bin_addJ _ _ _ hwa)
                  · exact step_move rfl trivial _ rfl (by kernel_rfl)
                  · exact step_bi rfl trivial _ _ _ [(.string s0)] rfl (by kernel_rfl) (fun cs w hw => len_str _ _ _ _)
                  · exact step_binOp rfl trivial _ _ _ _ _ _ _ rfl rfl rfl (fun w hw => bin_gtI _ _ (by omega))
                  · exact step_move rfl trivial _ rfl (by kernel_rfl)
                  · exact step_move rfl (by exact ⟨_, rfl, by kernel_rfl⟩) _ rfl (by kernel_rfl)
                  · exact step_move rfl (by exact ⟨_, rfl, by kernel_rfl⟩) _ rfl (by kernel_rfl)
                  · exact step_move rfl (by exact ⟨_, rfl, by kernel_rfl⟩) _ rfl (by kernel_rfl)
                  · exact step_move rfl (by exact ⟨_, rfl, by kernel_rfl⟩) _ rfl (by kernel_rfl)
                  · exact step_move rfl (by exact ⟨_, rfl, by kernel_rfl⟩) _ rfl (by kernel_rfl)
                  · exact step_indexAddr rfl (by exact ⟨_, rfl, by kernel_rfl⟩) _ _ _ _ _ rfl rfl rfl (fun w hw => ix_tok _ _ _ _ _ hi)
                  · exact step_fieldAddr rfl (by exact ⟨_, rfl, by kernel_rfl⟩) _ _ _ _ rfl rfl (fun w hw => fd_tok1 _ _ _)
                  · exact step_load rfl (by exact ⟨_, rfl, by kernel_rfl⟩) _ _ _ rfl rfl (fun w hw => lds_at hw.2)
                  · exact step_bi rfl (by exact ⟨_, rfl, by kernel_rfl⟩) _ _ _ [(.string t)] rfl (by kernel_rfl) (fun cs w hw => len_str _ _ _ _)
                  · exact step_binOp rfl (by exact ⟨_, rfl, by kernel_rfl⟩) _ _ _ _ _ _ _ rfl rfl rfl (fun w hw => bin_addJ _ _ _ hwa)
                  · exact step_slice rfl (by exact ⟨_, rfl, by kernel_rfl⟩) _ _ _ _ _ (some (.int .i64 (a : Nat))) (some (.int .i64 ((a + t.size : Nat) : Int))) rfl rfl rfl rfl (fun w hw => slice_str hle hex)
                  · exact step_move rfl (by exact ⟨_, rfl, by kernel_rfl⟩) _ rfl (by kernel_rfl)
                  · exact step_move rfl (by exact ⟨_, rfl, by kernel_rfl⟩) _ rfl (by kernel_rfl)
                  · exact step_indexAddr rfl (by exact ⟨_, rfl, by kernel_rfl⟩) _ _ _ _ _ rfl rfl rfl (fun w hw => ix_tok _ _ _ _ _ hi)
                  · exact step_fieldAddr rfl (by exact ⟨_, rfl, by kernel_rfl⟩) _ _ _ _ rfl rfl (fun w hw => fd_tok1 _ _ _)
                  · exact step_load rfl (by exact ⟨_, rfl, by kernel_rfl⟩) _ _ _ rfl rfl (fun w hw => lds_at hw.2)
                  · exact step_binOp rfl (by exact ⟨_, rfl, by kernel_rfl⟩) _ _ _ _ _ _ _ rfl rfl rfl (fun w hw => bin_neqS _)
                  · exact step_pick rfl trivial _ _ _ false rfl (by kernel_rfl) (by kernel_rfl)
                intro W hW
                first | refine hK _ _ ?_ | refine (‹∀ (a : Act) (w : World), Code.wp Tryd.prog _ _ a w → _›) _ _ ?_ | skip
                simp only [finL, List.getD_cons_zero, List.getD_cons_succ, Nat.zero_add, Nat.reduceAdd, List.setIfInBounds_toArray, List.set_cons_zero, List.set_cons_succ]
                go_wp2
                refine ⟨⟨i + 1, by push_cast; rfl, by omega, hW.1⟩, ?_⟩
                show L.length - ((i : Int) + 1).toNat < L.length - ((i : Int)).toNat
                omega
              · obtain ⟨hlt, hre3⟩ := hre2.more hst
                have ha1 : (a : Int) < (s0.size : Int) := by omega
                have hcond : ¬ (l : Int) = (lL : Int) ∨ ((l : Int) = (lL : Int) ∧ ¬ (c : Int) = (cC : Int)) := by omega
                have hez : (s0.extract a s0.size).size = s0.size - a := by simp
                have hw0 : wd (s0.extract a s0.size) 0 = wd s0 a := by
                  have := wd_line s0 a (s0.size - a) 0 (by omega) (by omega) (.inl (by omega))
                  rwa [show a + (s0.size - a) = s0.size by omega] at this
                have hwp := wd_pos s0 a
                have hwl := wd_le s0 a hlt
                have ha0 : (0 : Int) ≤ (a : Int) := by omega
                have ha2 : (a : Int) ≤ (s0.size : Int) := by omega
                have hws : IntKind.i64.wrap ((s0.size : Int) - (a : Int)) = ((s0.size - a : Nat) : Int) := by rw [IntKind.wrap_i64]; omega
                have hwa : IntKind.i64.wrap ((a : Int) + (wd s0 a : Int)) = ((a + wd s0 a : Nat) : Int) := by rw [IntKind.wrap_i64]; omega
                have hwl2 : IntKind.i64.wrap ((l : Int) + 1) = ((l + 1 : Nat) : Int) := by rw [IntKind.wrap_i64]; omega
                have hwc2 : IntKind.i64.wrap ((c : Int) + 1) = ((c + 1 : Nat) : Int) := by rw [IntKind.wrap_i64]; omega
                generalize hEx : s0.extract a s0.size = E at *
                clear hst
                rcases hcond with hcd | ⟨hcd, hcd2⟩
                · obtain ⟨N, hN⟩ : ∃ N, N = wr.heap.size := ⟨_, rfl⟩
                  have hN1 : Z1.heap.size ≤ N := by rw [hN]; exact hbz2.size
                  go_wp2
                  rw [← hN]
                  have HN : Hid (N = wr.heap.size) := hN
                  clear hN
                  go_loopw [11] (fun n wz => ∃ pos : Nat, ((pos = 0 ∧ n = .int .i64 1) ∨ (pos = wd s0 a ∧ n = .int .i64 ((s0.size - a : Nat) : Int))) ∧ wz.heap[N]? = some (.stringIter E pos) ∧ Below Z1.heap.size Z1 wz) (fun _ wz => s0.size - wz.iterPos N)
                  case atStart =>
                    refine ⟨0, .inl ⟨rfl, rfl⟩, ?_, ?_⟩
                    · rw [HN.out]; exact World.iter_heap _ E 0
                    · exact hbz2.trans (((Below.refl _ _).alloc (Nat.le_refl _) _).mono hbz2.size)
                  case round =>
                    obtain ⟨pos, hpos, hit, hbz3⟩ := hrel
                    rcases hpos with ⟨rfl, rfl⟩ | ⟨rfl, rfl⟩
                    · have hnx : ∀ ty, (Instr.next (.pointer (some ⟨N, 0, none⟩)) true ty).run Tryd.prog wr = .ok (.tuple #[.bool true, .int .i64 ((0 : Nat) : Int), .int .i32 (rn E 0)]) (wr.iterAt N E (wd s0 a)) := fun ty => by have h9 : (Instr.next (.pointer (some ⟨N, 0, none⟩)) true ty).run Tryd.prog wr = .ok (.tuple #[.bool true, .int .i64 ((0 : Nat) : Int), .int .i32 (rn E 0)]) (wr.iterAt N E (0 + wd E 0)) := Lib.run_next_any_at wr N E 0 ty hit (by omega); rwa [Nat.zero_add, hw0] at h9
                      have hit2 := Lib.iterAt_heap wr N E 0 (wd s0 a) hit
                      have hb2 := Lib.below_iterAt hbz3 (k := N) hN1 E (wd s0 a)
                      go_wp2
                      refine ⟨⟨wd s0 a, .inr ⟨rfl, rfl⟩, hit2, hb2⟩, ?_⟩
                      simp only [World.iterPos, hit2, hit]
                      omega
                    · by_cases hq : wd s0 a < s0.size - a
                      · have hnx : ∀ ty, (Instr.next (.pointer (some ⟨N, 0, none⟩)) true ty).run Tryd.prog wr = .ok (.tuple #[.bool true, .int .i64 ((wd s0 a : Nat) : Int), .int .i32 (rn E (wd s0 a))]) (wr.iterAt N E (wd s0 a + wd E (wd s0 a))) := fun ty => Lib.run_next_any_at wr N E (wd s0 a) ty hit (by omega)
                        have hb2 := Lib.below_iterAt hbz3 (k := N) hN1 E (wd s0 a + wd E (wd s0 a))
                        have hwp2 : (0 : Int) < (wd s0 a : Int) := by omega
                        have hb9 := byt_get hlt
                        by_cases hnl : byt s0 a = 10
                        · rw [if_pos hnl, if_pos hnl] at hre3
                          have hnl' : (s0[a]'hlt).toNat = 10 := by omega
                          go_wp2
                          go_roundw
                          case rel =>
                            exact ⟨a + wd s0 a, l + 1, 1, by first | rfl | (push_cast; rfl), by first | rfl | (push_cast; rfl), by first | rfl | (push_cast; rfl), hre3, hwl, by omega, by omega, hb2⟩
                          case measure =>
                            show s0.size - ((a + wd s0 a : Nat) : Int).toNat < s0.size - ((a : Int)).toNat
                            omega
                        · rw [if_neg hnl, if_neg hnl] at hre3
                          have hnl' : (((s0[a]'hlt).toNat : Int) == 10) = false := beq_eq_false_iff_ne.2 (by omega)
                          go_wp2
                          go_roundw
                          case rel =>
                            exact ⟨a + wd s0 a, l, c + 1, by first | rfl | (push_cast; rfl), by first | rfl | (push_cast; rfl), by first | rfl | (push_cast; rfl), hre3, hwl, by omega, by omega, hb2⟩
                          case measure =>
                            show s0.size - ((a + wd s0 a : Nat) : Int).toNat < s0.size - ((a : Int)).toNat
                            omega
                      · have hnx : ∀ ty, (Instr.next (.pointer (some ⟨N, 0, none⟩)) true ty).run Tryd.prog wr = .ok (.tuple #[.bool false]) wr := fun ty => Lib.run_next_end_at wr N E (wd s0 a) ty hit (by omega)
                        have hqe : s0.size - a = wd s0 a := by omega
                        have hb9 := byt_get hlt
                        by_cases hnl : byt s0 a = 10
                        · rw [if_pos hnl, if_pos hnl] at hre3
                          have hnl' : (s0[a]'hlt).toNat = 10 := by omega
                          go_wp2
                          go_roundw
                          case rel =>
                            exact ⟨a + wd s0 a, l + 1, 1, by first | rfl | (push_cast; rfl), by first | rfl | (push_cast; rfl), by first | rfl | (push_cast; rfl), hre3, hwl, by omega, by omega, hbz3⟩
                          case measure =>
                            show s0.size - ((a + wd s0 a : Nat) : Int).toNat < s0.size - ((a : Int)).toNat
                            omega
                        · rw [if_neg hnl, if_neg hnl] at hre3
                          have hnl' : (((s0[a]'hlt).toNat : Int) == 10) = false := beq_eq_false_iff_ne.2 (by omega)
                          go_wp2
                          go_roundw
                          case rel =>
                            exact ⟨a + wd s0 a, l, c + 1, by first | rfl | (push_cast; rfl), by first | rfl | (push_cast; rfl), by first | rfl | (push_cast; rfl), hre3, hwl, by omega, by omega, hbz3⟩
                          case measure =>
                            show s0.size - ((a + wd s0 a : Nat) : Int).toNat < s0.size - ((a : Int)).toNat
                            omega
                · have hcd9 : l = lL := by omega
                  subst hcd9
                  clear hcd
                  obtain ⟨N, hN⟩ : ∃ N, N = wr.heap.size := ⟨_, rfl⟩
                  have hN1 : Z1.heap.size ≤ N := by rw [hN]; exact hbz2.size
                  go_wp2
                  rw [← hN]
                  have HN : Hid (N = wr.heap.size) := hN
                  clear hN
                  go_loopw [11] (fun n wz => ∃ pos : Nat, ((pos = 0 ∧ n = .int .i64 1) ∨ (pos = wd s0 a ∧ n = .int .i64 ((s0.size - a : Nat) : Int))) ∧ wz.heap[N]? = some (.stringIter E pos) ∧ Below Z1.heap.size Z1 wz) (fun _ wz => s0.size - wz.iterPos N)
                  case atStart =>
                    refine ⟨0, .inl ⟨rfl, rfl⟩, ?_, ?_⟩
                    · rw [HN.out]; exact World.iter_heap _ E 0
                    · exact hbz2.trans (((Below.refl _ _).alloc (Nat.le_refl _) _).mono hbz2.size)
                  case round =>
                    obtain ⟨pos, hpos, hit, hbz3⟩ := hrel
                    rcases hpos with ⟨rfl, rfl⟩ | ⟨rfl, rfl⟩
                    · have hnx : ∀ ty, (Instr.next (.pointer (some ⟨N, 0, none⟩)) true ty).run Tryd.prog wr = .ok (.tuple #[.bool true, .int .i64 ((0 : Nat) : Int), .int .i32 (rn E 0)]) (wr.iterAt N E (wd s0 a)) := fun ty => by have h9 : (Instr.next (.pointer (some ⟨N, 0, none⟩)) true ty).run Tryd.prog wr = .ok (.tuple #[.bool true, .int .i64 ((0 : Nat) : Int), .int .i32 (rn E 0)]) (wr.iterAt N E (0 + wd E 0)) := Lib.run_next_any_at wr N E 0 ty hit (by omega); rwa [Nat.zero_add, hw0] at h9
                      have hit2 := Lib.iterAt_heap wr N E 0 (wd s0 a) hit
                      have hb2 := Lib.below_iterAt hbz3 (k := N) hN1 E (wd s0 a)
                      go_wp2
                      refine ⟨⟨wd s0 a, .inr ⟨rfl, rfl⟩, hit2, hb2⟩, ?_⟩
                      simp only [World.iterPos, hit2, hit]
                      omega
                    · by_cases hq : wd s0 a < s0.size - a
                      · have hnx : ∀ ty, (Instr.next (.pointer (some ⟨N, 0, none⟩)) true ty).run Tryd.prog wr = .ok (.tuple #[.bool true, .int .i64 ((wd s0 a : Nat) : Int), .int .i32 (rn E (wd s0 a))]) (wr.iterAt N E (wd s0 a + wd E (wd s0 a))) := fun ty => Lib.run_next_any_at wr N E (wd s0 a) ty hit (by omega)
                        have hb2 := Lib.below_iterAt hbz3 (k := N) hN1 E (wd s0 a + wd E (wd s0 a))
                        have hwp2 : (0 : Int) < (wd s0 a : Int) := by omega
                        have hb9 := byt_get hlt
                        by_cases hnl : byt s0 a = 10
                        · rw [if_pos hnl, if_pos hnl] at hre3
                          have hnl' : (s0[a]'hlt).toNat = 10 := by omega
                          go_wp2
                          refine ⟨⟨a + wd s0 a, l + 1, 1, rfl, by push_cast; rfl, rfl, hre3, hwl, by omega, by omega, hb2⟩, ?_⟩
                          show s0.size - ((a + wd s0 a : Nat) : Int).toNat < s0.size - ((a : Int)).toNat
                          omega
                        · rw [if_neg hnl, if_neg hnl] at hre3
                          have hnl' : (((s0[a]'hlt).toNat : Int) == 10) = false := beq_eq_false_iff_ne.2 (by omega)
                          go_wp2
                          refine ⟨⟨a + wd s0 a, l, c + 1, rfl, rfl, by push_cast; rfl, hre3, hwl, by omega, by omega, hb2⟩, ?_⟩
                          show s0.size - ((a + wd s0 a : Nat) : Int).toNat < s0.size - ((a : Int)).toNat
                          omega
                      · have hnx : ∀ ty, (Instr.next (.pointer (some ⟨N, 0, none⟩)) true ty).run Tryd.prog wr = .ok (.tuple #[.bool false]) wr := fun ty => Lib.run_next_end_at wr N E (wd s0 a) ty hit (by omega)
                        have hqe : s0.size - a = wd s0 a := by omega
                        have hb9 := byt_get hlt
                        by_cases hnl : byt s0 a = 10
                        · rw [if_pos hnl, if_pos hnl] at hre3
                          have hnl' : (s0[a]'hlt).toNat = 10 := by omega
                          go_wp2
                          refine ⟨⟨a + wd s0 a, l + 1, 1, rfl, by push_cast; rfl, rfl, hre3, hwl, by omega, by omega, hbz3⟩, ?_⟩
                          show s0.size - ((a + wd s0 a : Nat) : Int).toNat < s0.size - ((a : Int)).toNat
                          omega
                        · rw [if_neg hnl, if_neg hnl] at hre3
                          have hnl' : (((s0[a]'hlt).toNat : Int) == 10) = false := beq_eq_false_iff_ne.2 (by omega)
                          go_wp2
                          refine ⟨⟨a + wd s0 a, l, c + 1, rfl, rfl, by push_cast; rfl, hre3, hwl, by omega, by omega, hbz3⟩, ?_⟩
                          show s0.size - ((a + wd s0 a : Nat) : Int).toNat < s0.size - ((a : Int)).toNat
                          omega
      · have hi1 : ¬ (i : Int) < (L.length : Int) := by omega
        go_wp2_with (go_at_call 10; refine (hal _).mono ?_; rintro e Z3 ⟨rfl, hb3⟩)
        go_ret
        exact ⟨rfl, (hb1.trans (hbz.mono hb1.size)).trans (hb3.mono (Nat.le_trans hb1.size hbz.size))⟩

set_option maxRecDepth 100000 in
theorem lifted (os : Os) (started : os.Started) (H : Type) (enc : TypeId × Value → H) :
    ReturnsInHanded {} Tryd.checked os 6 .any (fun w args => (Rows.wordFoundSpec.pre enc Tryd.prog Tryd.f6 [] false w args ∧ laidMetH Tryd.prog Rows.wordFoundRow.laid w) ∧ sizedMet enc Tryd.prog Tryd.f6 (OpenSpec.ofChange Rows.wordFoundSpec) false w args)
      (Rows.wordFoundSpec.post enc Tryd.prog Tryd.f6 false true false false) := by
  refine returnsInHanded_of_change_and (C := Tryd.checked) (X := fun w _ => laidMetH Tryd.prog Rows.wordFoundRow.laid w) (fun _ _ _ hh h => h.of_heap hh) own started (by kernel_rfl) Tryd.func6
    (ChangeSpec.witness_shaped (enc := enc) (C := Tryd.checked) (os := os) (X := fun w _ => laidMetH Tryd.prog Rows.wordFoundRow.laid w) false (World.laidAll Tryd.prog os Rows.wordFoundRow.laid) #[.string ByteArray.empty] 8 (World.laidAll_os _ _ _)
      (World.shaped_of_ZipB (by kernel_rfl) (by kernel_rfl)) (by kernel_rfl) (by kernel_rfl) (by kernel_rfl)
      (by rw [MakeChecks.laidMetH_plain _ _ _ (by kernel_rfl)]; exact laidMet_laidAll _ (by kernel_rfl) (by kernel_rfl))) ?_
  intro W base args ds gs before hval0 hW _ hsz hL _
  have hval : ∀ (j : Nat) t v, Tryd.f6.params[j]? = some t → args[j]? = some v → Value.okWide Tryd.prog W .any base t v := hval0
  have hW' := hW
  obtain ⟨p, q, hA0, hV, rfl, hfz, hnd⟩ := hW
  have hA : DataW.TrodAll enc Tryd.prog W 0 (fun _ => true) true Tryd.f6.params.toList args.toList ds p := hA0
  rw [Tryd.params6] at hA hval
  obtain ⟨v0, vs0, d0, ds0, p0, q0, hargs, rfl, rfl, h0, r0⟩ := trodAll_cons hA
  obtain ⟨rfl, rfl, rfl⟩ := trodAll_nil r0
  obtain rfl : args = #[v0] := by cases args; simp_all
  obtain ⟨rfl, rfl⟩ := trodVars_none hV
  obtain ⟨s0, rfl, rfl, rfl, w0⟩ := open_string Tryd.underlying9 (hval 0 9 v0 rfl rfl) h0
  clear hA0 hval0
  simp only [List.append_nil] at hW'
  refine (walk s0 w0 W hL).mono fun e W' ⟨he, hg⟩ => ?_
  subst he
  exact ⟨_, rfl, _, _, _, [], _, [], hW', (trodAll_cons_mk (shut_bool Tryd.underlying4 _) trodAll_mk0), (trodAll_cons_mk (shut_string Tryd.underlying9 w0) trodAll_mk0), rfl, hg.frame _, fun h => by cases h⟩

theorem over : Rows.wordFoundRow.holds Tryd.pinned (OpenSpec.ofChange Rows.wordFoundSpec) :=
  OpenClaim.holds_of_wide 6 Tryd.f6 rfl rfl rfl rfl rfl rfl rfl ⟨rfl, rfl, rfl, rfl, rfl⟩ rfl rfl rfl rfl rfl (by kernel_rfl) Tryd.func6 (by kernel_rfl)
    (of_decide_eq_true (by kernel_rfl)) (by unfold Func.isWrapper; first | (rw [if_pos (by decide +kernel)]; kernel_rfl) | (rw [if_neg (by decide +kernel)]; exact ⟨rfl, rfl⟩))
    (fun os started H enc _ => lifted os started H enc)

theorem row_proved : Rows.WordFoundSaid :=
  over
theorem proved : Rows.WordFoundCardSaid :=
  Claim7.holds_tied_plain_at .later [] [.data, .pinned] true (true, "997cb61f626bbeca65f6e5b32c5c8ee889106521db348261eb31df427ee72416") false
    row_proved (fun _ h => by cases h) (by kernel_rfl) (fun _ h => by cases h) wordFound_row_tie rfl ⟨rfl, rfl⟩ (by kernel_rfl) rfl
    (fun f fn hf hfn => by
      obtain rfl : f = 6 := Option.some.inj ((show Tryd.prog.funcNamed "earshot/earshotlaw2.WordFound" = some 6 by kernel_rfl).symm.trans hf) |>.symm
      obtain rfl : fn = Tryd.f6 := (Option.some.inj (Tryd.func6.symm.trans hfn)).symm
      exact ⟨by kernel_rfl, fun j t ht => by
        rw [Tryd.params6] at ht
        rcases j with _ | j
        · have e : t = 9 := by simpa using ht.symm
          subst e
          exact (show Tryd.prog.wantsStandIn 9 = false by kernel_rfl)
        simp at ht⟩)
    (by kernel_rfl)
#print axioms proved
end Go.Proofs.YtibhljdiofglfaaDoor
