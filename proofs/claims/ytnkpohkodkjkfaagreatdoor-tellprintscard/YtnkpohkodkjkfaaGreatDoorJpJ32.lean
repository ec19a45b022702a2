/- tell's reader: what stands behind a note's first word: where nothing is refused. -/
import Derived.Test.YtnkpohkodkjkfaaGreatDoorJpJ31
import Derived.Test.YtnkpohkodkjkfaaGreatDoorJpJ27
import Derived.Test.YtnkpohkodkjkfaaGreatDoorJpJ12
import Derived.Test.YtnkpohkodkjkfaaGreatDoorJpJ25
import Derived.Test.YtnkpohkodkjkfaaGreatDoorJpJ30
set_option maxHeartbeats 40000000
set_option maxRecDepth 100000
set_option linter.unusedVariables false
namespace Go.Proofs.YtnkpohkodkjkfaaGreatDoor
open Go.RowKit Go.Shelf Go.Lib

/-- The word at the place i is the sign of the node fr. -/
def SgA (L : List Int) (l : List Tk4) (i : Nat) (fr : Int) : Prop := ∃ x : Tk4, l[i]? = some x ∧ x.1 = 2 ∧ ((starts x.2.1).length : Int) = 1 ∧ x.2.1.size ≤ 100000 ∧ ((rn x.2.1 0 : Nat) : Int) ∈ L ∧ ((L.idxOf ((rn x.2.1 0 : Nat) : Int) : Nat) : Int) = fr
/-- .. is the number of a round. -/
def RnA (l : List Tk4) (i : Nat) (rd : Nat) : Prop := ∃ x : Tk4, l[i]? = some x ∧ x.1 = 3 ∧ x.2.1.size ≤ 100000 ∧ numR x.2.1 = some rd ∧ 1 ≤ rd ∧ rd ≤ 1099511627775
theorem sender_at {M : Nat} {sl mp : Value} {L : List Int} {nb wb : Nat} {l : List Tk4} {i : Nat} {w : World} (hE : En M L sl mp nb w) (h : Tk nb wb l i w) (hl : l.length ≤ 1000000) {fr : Int} (hA : SgA L l i fr) : Calls Tryz.prog 79 #[.agg #[sl, mp, .func (.func 47) #[] #[.pointer (some ⟨nb, 0, none⟩), .pointer (some ⟨wb, 0, none⟩)]]] w fun e w' => e = .returned (.int .i64 fr) ∧ Tk nb wb l (i + 1) w' ∧ Ob nb w w' := by
  obtain ⟨x, h1, h2, h3, h4, h5, h6⟩ := hA
  rw [← h6]
  exact sender_ok (hE.ros w (Ob.refl _ _)) hE.nb hE.le h x h1 hl h2 h3 (by unfold maxLen; omega) h5
theorem round_at {sl mp : Value} {nb wb : Nat} {l : List Tk4} {i : Nat} {w : World} (h : Tk nb wb l i w) (hl : l.length ≤ 1000000) {rd : Nat} (hA : RnA l i rd) : Calls Tryz.prog 80 #[.agg #[sl, mp, .func (.func 47) #[] #[.pointer (some ⟨nb, 0, none⟩), .pointer (some ⟨wb, 0, none⟩)]]] w fun e w' => e = .returned (.int .i64 (rd : Int)) ∧ Tk nb wb l (i + 1) w' ∧ Ob nb w w' := by
  obtain ⟨x, h1, h2, h3, h4, h5, h6⟩ := hA
  exact round_ok h x h1 hl h2 (by unfold maxLen; omega) rd h4 h5 h6
/-- What is told of the reading of what stands behind a first word. -/
def NtO (nb wb : Nat) (l : List Tk4) (j : Nat) (ns : List N3t) (w : World) (f : Value → Value) (e : Ending) (w' : World) : Prop := ∃ v, e = .returned (f v) ∧ w'.ownsRow w.heap.size 99 3 v ns.length (fl ns) ∧ Tk nb wb l j w' ∧ Ob nb w w'
set_option maxHeartbeats 4000000 in
set_option maxRecDepth 100000 in
theorem query_ok {M : Nat} {sl mp : Value} {L : List Int} {nb wb : Nat} {l : List Tk4} {i : Nat} {w : World} (hE : En M L sl mp nb w) (h : Tk nb wb l i w) (hl : l.length ≤ 1000000) (fr : Int) (rd : Nat) (ns : List N3t) (hS : SgA L l i fr) (hR : RnA l (i + 1) rd) (hN : NwA L l (i + 1 + 1) ns) (hn : ns.length ≤ 1000) : Calls Tryz.prog 49 #[.agg #[sl, mp, rdF nb wb]] w (NtO nb wb l (i + 1 + 1 + 1 + 3 * ns.length + 1) ns w (fun v => .iface 70 (.agg #[.int .i64 fr, .int .i64 (rd : Int), v]))) := by
  obtain ⟨W1, hW1⟩ : ∃ W1, w.alloc (.cells #[sl, mp, rdF nb wb] 84) = W1 := ⟨_, rfl⟩
  have hb1 : Below w.heap.size w W1 := by rw [← hW1]; exact al1t _ _
  have hr1 : RdBx W1 w.heap.size sl mp nb wb := by unfold RdBx; rw [← hW1]; exact new_at rfl
  have hnb := lt_at h.nx
  have hne : w.heap.size ≠ nb := by omega
  have hE1 := hE.on (Ob.of hb1)
  have HS := sender_at hE1 (h.carry hb1) hl hS
  have HR : Hid (∀ V, Tk nb wb l (i + 1) V → Calls Tryz.prog 80 #[.agg #[sl, mp, .func (.func 47) #[] #[.pointer (some ⟨nb, 0, none⟩), .pointer (some ⟨wb, 0, none⟩)]]] V fun e w' => e = .returned (.int .i64 (rd : Int)) ∧ Tk nb wb l (i + 1 + 1) w' ∧ Ob nb V w') := fun V hV => round_at hV hl hR
  have HN : Hid (∀ V, Ob nb W1 V → Tk nb wb l (i + 1 + 1) V → Calls Tryz.prog 81 #[.agg #[sl, mp, .func (.func 47) #[] #[.pointer (some ⟨nb, 0, none⟩), .pointer (some ⟨wb, 0, none⟩)]]] V fun e w' => ∃ a c, e = .returned (.slice a ns.length c) ∧ w'.ownsRow V.heap.size 99 3 (.slice a ns.length c) ns.length (fl ns) ∧ Tk nb wb l (i + 1 + 1 + 1 + 3 * ns.length + 1) w' ∧ Ob nb V w') := fun V hO hV => (news_ok (hE1.on hO) hV ns hN hn hl).mono (by
    rintro e w' ⟨v, rfl, h1, h2, h3⟩
    obtain ⟨a, c, rfl, _⟩ := ownsRow_form h1
    exact ⟨a, c, rfl, h1, h2, h3⟩)
  have k0 : W1.cell? ⟨w.heap.size, 0, none⟩ = some sl := (cell_at hr1 0).trans rfl
  have k1 : W1.cell? ⟨w.heap.size, 1, none⟩ = some mp := (cell_at hr1 1).trans rfl
  have k2 : W1.cell? ⟨w.heap.size, 2, none⟩ = some (.func (.func 47) #[] #[.pointer (some ⟨nb, 0, none⟩), .pointer (some ⟨wb, 0, none⟩)]) := (cell_at hr1 2).trans rfl
  obtain ⟨m, hm⟩ : ∃ m, ns.length = m := ⟨_, rfl⟩
  rw [hm] at HN
  have hm' : Hid (ns.length = m) := hm
  clear hE h hE1 hS hR hN hm
  unfold rdF at hW1 ⊢
  go_enter Tryz.func49, Tryz.ntmps49
  go_wp2_with (first
    | (go_at_call 79; (with_reducible refine HS.mono ?_); rintro e u1 ⟨rfl, hT1, hO1⟩; (have g1 := hr1.ob hO1 hne); (have m0 : u1.cell? ⟨w.heap.size, 0, none⟩ = some sl := (cell_at g1 0).trans rfl); (have m1 : u1.cell? ⟨w.heap.size, 1, none⟩ = some mp := (cell_at g1 1).trans rfl); (have m2 : u1.cell? ⟨w.heap.size, 2, none⟩ = some (.func (.func 47) #[] #[.pointer (some ⟨nb, 0, none⟩), .pointer (some ⟨wb, 0, none⟩)]) := (cell_at g1 2).trans rfl))
    | (go_at_call 80; (with_reducible refine (HR.out _ hT1).mono ?_); rintro e u2 ⟨rfl, hT2, hO2⟩; (have g2 := g1.ob hO2 hne); (have q0 : u2.cell? ⟨w.heap.size, 0, none⟩ = some sl := (cell_at g2 0).trans rfl); (have q1 : u2.cell? ⟨w.heap.size, 1, none⟩ = some mp := (cell_at g2 1).trans rfl); (have q2 : u2.cell? ⟨w.heap.size, 2, none⟩ = some (.func (.func 47) #[] #[.pointer (some ⟨nb, 0, none⟩), .pointer (some ⟨wb, 0, none⟩)]) := (cell_at g2 2).trans rfl))
    | (go_at_call 81; (with_reducible refine (HN.out _ (hO1.trans hO2) hT2).mono ?_); rintro e u3 ⟨a, c, rfl, hrow, hT3, hO3⟩))
  go_ret
  refine ⟨_, rfl, ?_, by rw [hm'.out]; exact hT3, (Ob.of hb1).trans ((hO1.trans hO2).trans hO3)⟩
  rw [hm'.out]
  exact ownsRow_base hrow (Nat.le_trans hb1.size (hO1.trans hO2).size)
end Go.Proofs.YtnkpohkodkjkfaaGreatDoor
namespace Go.Proofs.YtnkpohkodkjkfaaGreatDoor

/-- The set of these signs. -/
def bitsOf (l : List Int) : List Int → Nat
  | [] => 0
  | c :: t => 2 ^ l.idxOf c ||| bitsOf l t

/-- The signs of these ids. -/
def sgs (l : List Int) (ids : List Nat) : List Int := ids.map (fun i => l.getD i 0)
/-- What Print answers. -/
def prR (l : List Int) (N : Nat) : ByteArray × Int := if wthB N l.length then (if N = 0 then (dash, 0) else (txt (sgs l (idsTo N 128)), 0)) else (⟨#[]⟩, 30)
theorem wth_lt {N n : Nat} (h : wthB N n = true) : N < 2 ^ topW n := by
  unfold wthB at h
  have := of_decide_eq_true h
  rw [this]
  exact Nat.mod_lt _ (Nat.two_pow_pos _)
theorem wth_lt100 {N n : Nat} (h : wthB N n = true) : N < S100 := by
  have e : S100 = 2 ^ 100 := by decide
  rw [e]
  exact Nat.lt_of_lt_of_le (wth_lt h) (Nat.pow_le_pow_right (by decide) (topW_le _))
theorem wth_id {N n i : Nat} (h : wthB N n = true) (hi : N.testBit i = true) : i < n ∧ i < 100 := by
  have h1 := wth_lt h
  have h2 : i < topW n := by
    refine Decidable.byContradiction (fun hc => ?_)
    rw [Nat.testBit_lt_two_pow (Nat.lt_of_lt_of_le h1 (Nat.pow_le_pow_right (by decide) (by omega)))] at hi
    cases hi
  rw [topW_lt] at h2
  omega
theorem txt_again (l : List Int) : (⟨(txt l).data.toList.toArray⟩ : ByteArray) = txt l := by
  apply ByteArray.ext
  simp
end Go.Proofs.YtnkpohkodkjkfaaGreatDoor
