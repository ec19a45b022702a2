/- The text of some signs, and the signs of a text: plain mathematics. -/
import Derived.Test.YtnkpohkodkjkfaaGreatDoorJpJ3
import Derived.Test.YtnkpohkodkjkfaaGreatDoorJpJ11
import Derived.Laws.Cover4
import Derived.Shelf.Unicode.DecodeAny
import Derived.Lib.LaidU8
import Derived.Test.YtnkpohkodkjkfaaGreatDoorProg
import Derived.LaidMore
import Derived.Lay
import Derived.MakeChecks
import Derived.Test.YtnkpohkodkjkfaaGreatDoorRows
import Derived.Test.YtnkpohkodkjkfaaGreatDoorJpJ9
set_option maxHeartbeats 40000000
set_option maxRecDepth 100000
set_option linter.unusedVariables false
namespace Go.Proofs.YtnkpohkodkjkfaaGreatDoor
open Go.RowKit

/-- The text of these runes. -/
def txt (l : List Int) : ByteArray := ⟨(wr l).toArray⟩
theorem txt_data (l : List Int) : (txt l).data.toList = wr l := by simp [txt]
theorem runesBytes_go (l : List Int) : ∀ b : ByteArray, (l.foldl (fun r n => r ++ Utf8.encode n) b).data.toList = b.data.toList ++ wr l := by
  induction l with
  | nil => intro b; simp [wr]
  | cons r l ih =>
    intro b
    rw [List.foldl_cons, ih]
    simp [wr]
theorem runesBytes_txt (l : List Int) : runesBytes l = txt l := by
  apply ByteArray.ext
  apply Array.toList_inj.1
  rw [txt_data, runesBytes, runesBytes_go]
  rfl
theorem txt_size (l : List Int) : (txt l).size ≤ 4 * l.length := by
  have h : (txt l).data.toList.length = (txt l).size := by simp
  rw [txt_data] at h
  have := wr_len l
  omega
theorem loose_no_letter {s : ByteArray} {p : Nat} (h : cls (rn s p : Int) = 4) : looseB s p = false := by
  unfold looseB
  rw [decide_eq_false_iff_not]
  rintro ⟨e, _⟩
  rw [e] at h
  exact absurd h (by decide)
theorem code_letter {c : Int} (h : cls c = 4) : (code c : Int) = c := by
  have := cls_letter h
  unfold code Utf8.valid
  rw [if_pos]
  · omega
  · simp only [Bool.or_eq_true, Bool.and_eq_true, decide_eq_true_eq]
    omega
end Go.Proofs.YtnkpohkodkjkfaaGreatDoor
namespace Go.Proofs.YtnkpohkodkjkfaaGreatDoor
open Go.Shelf Go.RowKit
def ren197 : Go.Shelf.Ren := ⟨fun | 197 => 84 | 260 => 111 | n => n, fun | 9 => 9 | 21 => 21 | 3 => 3 | 4 => 4 | 5 => 5 | 105 => 146 | 119 => 195 | 0 => 0 | 46 => 173 | 139 => 198 | 138 => 197 | n => n, fun | 3 => 1 | 4 => 2 | n => n⟩
set_option maxRecDepth 100000 in
theorem lays197 : Lays.n197 Tryz.prog ren197 := {
  mixed := by kernel_rfl
  f197 := Tryz.func84.trans (congrArg some (by kernel_rfl))
  f260 := Tryz.func111.trans (congrArg some (by kernel_rfl))
  t0 := Tryz.underlying0
  a0 := Tryz.isAgg0
  z0 := Tryz.sizeOf0
  v0 := Tryz.zeroValue0
  t3 := Tryz.underlying3
  a3 := Tryz.isAgg3
  z3 := Tryz.sizeOf3
  v3 := Tryz.zeroValue3
  t4 := Tryz.underlying4
  a4 := Tryz.isAgg4
  z4 := Tryz.sizeOf4
  v4 := Tryz.zeroValue4
  t5 := Tryz.underlying5
  a5 := Tryz.isAgg5
  z5 := Tryz.sizeOf5
  v5 := Tryz.zeroValue5
  t9 := Tryz.underlying9
  a9 := Tryz.isAgg9
  z9 := Tryz.sizeOf9
  v9 := Tryz.zeroValue9
  t21 := Tryz.underlying21
  a21 := Tryz.isAgg21
  z21 := Tryz.sizeOf21
  v21 := Tryz.zeroValue21
  t46 := Tryz.underlying173
  a46 := Tryz.isAgg173
  z46 := Tryz.sizeOf173
  v46 := Tryz.zeroValue173
  t105 := Tryz.underlying146
  a105 := Tryz.isAgg146
  z105 := Tryz.sizeOf146
  v105 := Tryz.zeroValue146
  t119 := Tryz.underlying195
  a119 := Tryz.isAgg195
  z119 := Tryz.sizeOf195
  t138 := Tryz.underlying197
  a138 := Tryz.isAgg197
  z138 := Tryz.sizeOf197
  v138 := Tryz.zeroValue197
  t139 := Tryz.underlying198
  a139 := Tryz.isAgg198
  z139 := Tryz.sizeOf198
  v139 := Tryz.zeroValue198
  g3 := by kernel_rfl
  g4 := by kernel_rfl }
open Go.Lib in
theorem dec_any (s : ByteArray) (w : World) (hT : Lib.Utf8Tabs (ren197.g 3) (ren197.g 4) w) : Calls Tryz.prog 84 #[.string s] w fun e w' => e = .returned (.tuple #[.int .i32 (Lib.decodeGo s).1, .int .i64 (Lib.decodeGo s).2]) ∧ Below w.heap.size w w' :=
  Any.utf8_DecodeRuneInString lays197 s w hT
theorem extra197 : U8Extra Tryz.prog ren197 := {
  n3 := by kernel_rfl
  n4 := by kernel_rfl
  y3 := by kernel_rfl
  y4 := by kernel_rfl
  c5 := by kernel_rfl
  c119 := by kernel_rfl
  c138 := by kernel_rfl }
set_option maxRecDepth 100000 in
theorem first_eq : Rows.laid_unicode_utf8_first = Lib.firstData := by kernel_rfl
set_option maxRecDepth 100000 in
theorem accept_eq : (Rows.laid_unicode_utf8_acceptRanges : DataW Unit) = Lib.acceptData := by kernel_rfl
theorem tabs_met {L : List (String × DataW Unit)} {W : World} (h : laidMet Tryz.prog L W) (h1 : ("unicode/utf8.acceptRanges", (Rows.laid_unicode_utf8_acceptRanges : DataW Unit)) ∈ L) (h2 : ("unicode/utf8.first", Rows.laid_unicode_utf8_first) ∈ L) : Lib.Utf8Tabs (ren197.g 3) (ren197.g 4) W := by
  have r1 := Lib.laidMet.reads h h1
  have r2 := Lib.laidMet.reads h h2
  rw [accept_eq] at r1
  rw [first_eq] at r2
  exact utf8Tabs_of_reads { lays197 with } extra197 r2 r1
end Go.Proofs.YtnkpohkodkjkfaaGreatDoor
namespace Go.Proofs.YtnkpohkodkjkfaaGreatDoor
open Go.RowKit
def StepG {G : Type} (P : Program) (md : Region.Mode) (ops : Array Oper) (Q : Exit → Act → World → Prop) (X0 : Array Value) (val : G → Nat → Value) (J : G → (Nat → Bool) → World → Prop) (i : Nat) (o : Oper) : Prop :=
  ∀ g d a w, J g d w → d i = false → (∀ j, bindsOn md o j = true → d j = true) → (∀ j oj, ops[j]? = some oj → d j = true → ∀ k, bindsOn md oj k = true → d k = true) → (∀ s v, rdv md ops X0 (val g) i o s = some v → a.tmps.getD s undef = v) →
      wpOp P ops Q i (fun a' w' => ∃ g', (∀ j, d j = true → val g' j = val g j) ∧ a' = a.put o.dst (val g' i) ∧ J g' (fun j => if j = i then true else d j) w') a w
theorem stepG_of {G : Type} {P : Program} {md : Region.Mode} {ops : Array Oper} {Q : Exit → Act → World → Prop} {X0 : Array Value} {val : G → Nat → Value} {J : G → (Nat → Bool) → World → Prop} {i : Nat} {o : Oper}
    (h : ∀ g d, (∀ j, bindsOn md o j = true → d j = true) → StepAt P md ops Q X0 (val g) (J g d) (J g (fun j => if j = i then true else d j)) i o) : StepG P md ops Q X0 val J i o := by
  intro g d a w hJ _ hdep _ hS
  exact wpOp_mono (fun a' w' hq => ⟨g, fun _ _ => rfl, hq.1, hq.2⟩) (h g d hdep a w hJ hS)
theorem wpAny_tabG {P : Program} {md : Region.Mode} {ops : Array Oper} {Q : Exit → Act → World → Prop} {G : Type} (val : G → Nat → Value) (J : G → (Nat → Bool) → World → Prop)
    {X0 : Array Value} {df : List Deferred} (hok : tabOk md ops X0.size = true) (g : G) {w : World} (hJ : J g (fun _ => false) w)
    (hstep : ∀ i o, ops[i]? = some o → StepG P md ops Q X0 val J i o)
    (hend : ∀ g d w, (∀ j, j < ops.size → d j = true) → J g d w → Q .normal { tmps := finL (val g) ops.toList 0 X0, defers := df } w) :
    wpAny P md ops Q ops.size (Array.replicate ops.size false) { tmps := X0, defers := df } w :=
  wpAny_tab val J hok hend (fun i o ho g d a w => hstep i o ho g d a w) g hJ
theorem step_slice {P : Program} {md : Region.Mode} {ops : Array Oper} {Q : Exit → Act → World → Prop} {X0 : Array Value} {val : Nat → Value} {J : World → Prop} {i : Nat} {o : Oper} (hi : ops[i]? = some o) (hg : GOk md ops X0 val i o) (t : TypeId) (x : Operand) (lo hi' : Option Operand) (p : Value) (lv hv : Option Value) (ho : o.op = .slice t x lo hi' none) (hx : rdo md ops X0 val i o x = some p)
    (hlo : lo.map (rdo md ops X0 val i o) = lv.map some) (hhi : hi'.map (rdo md ops X0 val i o) = hv.map some) (hr : ∀ w, J w → (Instr.sliceAt t p lv hv none).run P w = .ok (val i) w) : StepAt P md ops Q X0 val J J i o :=
  step_of hi hg fun a w hJ hS => by
    have e1 : lo.map a.eval = lv := by
      cases lo with
      | none => cases lv with
        | none => rfl
        | some v => cases hlo
      | some y => cases lv with
        | none => cases hlo
        | some v => simp only [Option.map_some, Option.some.injEq] at hlo ⊢; exact hS.eval hlo
    have e2 : hi'.map a.eval = hv := by
      cases hi' with
      | none => cases hv with
        | none => rfl
        | some v => cases hhi
      | some y => cases hv with
        | none => cases hhi
        | some v => simp only [Option.map_some, Option.some.injEq] at hhi ⊢; exact hS.eval hhi
    unfold Oper.wp execOp
    simp only [ho, hS.eval hx, e1, e2, Option.map_none, Sem.run_bind, hr w hJ, Result.andThen_ok, Sem.run_pure, Oper.upon_value]
    exact ⟨trivial, hJ⟩
end Go.Proofs.YtnkpohkodkjkfaaGreatDoor
