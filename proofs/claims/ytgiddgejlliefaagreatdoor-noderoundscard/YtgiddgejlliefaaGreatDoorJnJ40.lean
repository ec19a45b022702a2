import Derived.Test.YtgiddgejlliefaaGreatDoorJnJ39
namespace Go.Proofs.YtgiddgejlliefaaGreatDoor
set_option maxHeartbeats 40000000
set_option maxRecDepth 100000
set_option linter.unusedVariables false
open Go.RowKit Go.Shelf Go.Lib
def sgA (li ro ta : Int) (su he re : Nat) (v : Value) : Array Value := #[.bool true, .int .i64 li, .int .i64 ro, .int .i64 ta, .int .u32 (wd su 0 : Nat), .int .u32 (wd su 1 : Nat), .int .u32 (wd su 2 : Nat), .int .u32 (wd su 3 : Nat), .int .u32 (wd he 0 : Nat), .int .u32 (wd he 1 : Nat), .int .u32 (wd he 2 : Nat), .int .u32 (wd he 3 : Nat), .int .u32 (wd re 0 : Nat), .int .u32 (wd re 1 : Nat), .int .u32 (wd re 2 : Nat), .int .u32 (wd re 3 : Nat), v]
def SgB (W : World) (b : Nat) (ro : Int) (he re : Nat) : Prop := ∃ li ta su v, W.heap[b]? = some (.cells (sgA li ro ta su he re v) 36 (0, 0))
section
variable {w W V : World} {base x b : Nat} {A : NA} {s : Ns} {m : Nat} {ro : Int} {he re : Nat}
theorem SgB.lt (h : SgB W b ro he re) : b < W.heap.size := by obtain ⟨_, _, _, _, h⟩ := h; exact zla h
theorem SgB.same (h : SgB W b ro he re) (e : V.heap[b]? = W.heap[b]?) : SgB V b ro he re := by obtain ⟨a1, a2, a3, a4, h⟩ := h; exact ⟨a1, a2, a3, a4, e.trans h⟩
theorem SgB.carry (h : SgB W b ro he re) (hb : Below W.heap.size W V) : SgB V b ro he re := h.same (hb.block _ h.lt)
theorem SgB.c (h : SgB W b ro he re) : W.cell? ⟨b, 0, none⟩ = some (.bool true) ∧ W.cell? ⟨b, 2, none⟩ = some (.int .i64 ro) ∧ (W.cell? ⟨b, 8, none⟩ = some (.int .u32 (wd he 0 : Nat)) ∧ W.cell? ⟨b, 9, none⟩ = some (.int .u32 (wd he 1 : Nat)) ∧ W.cell? ⟨b, 10, none⟩ = some (.int .u32 (wd he 2 : Nat)) ∧ W.cell? ⟨b, 11, none⟩ = some (.int .u32 (wd he 3 : Nat))) ∧ W.cell? ⟨b, 12, none⟩ = some (.int .u32 (wd re 0 : Nat)) ∧ W.cell? ⟨b, 13, none⟩ = some (.int .u32 (wd re 1 : Nat)) ∧ W.cell? ⟨b, 14, none⟩ = some (.int .u32 (wd re 2 : Nat)) ∧ W.cell? ⟨b, 15, none⟩ = some (.int .u32 (wd re 3 : Nat)) := by
 obtain ⟨_, _, _, _, h⟩ := h
 exact ⟨(zca h 0).trans rfl, (zca h 2).trans rfl, ⟨(zca h 8).trans rfl, (zca h 9).trans rfl, (zca h 10).trans rfl, (zca h 11).trans rfl⟩, (zca h 12).trans rfl, (zca h 13).trans rfl, (zca h 14).trans rfl, (zca h 15).trans rfl⟩
theorem SgB.new (W : World) (li ro ta : Int) (su he re : Nat) (v : Value) : SgB (W.alloc (.cells (sgA li ro ta su he re v) 36)) W.heap.size ro he re := ⟨li, ta, su, v, zna rfl⟩
theorem sight_as (h : Nd w base x A s) (hv : Nv m s) (hro : s.t.ro = ro) (hhe : s.H = he) (hre : s.t.reps = re) :
  Calls Tryz.prog 13 #[.pointer (some ⟨x, 0, none⟩)] w fun r w' => ∃ li ta su a k c, r = .returned (.agg (sgA li ro ta su he re (.slice a k c))) ∧ Below w.heap.size w w' := by
 have h1 := hv.len
 have h2 := hv.n1
 have h3 := hv.n2
 refine (sight_any h (by omega) (by omega) hv.bok).mono ?_
 rintro r w' ⟨a, c, rfl, _, hb⟩
 subst hro hhe hre
 exact ⟨_, _, _, a, _, c, rfl, hb⟩
theorem SgB.mv {A' : NA} (h : SgB W b ro he re) (hN : Nd w base x A s) (hb : w.heap.size ≤ b) (m : Mv x A A' W V) : SgB V b ro he re := h.same (m.block b h.lt (fun e => by have := hN.lt e; omega))
theorem eqA {A : Nat} (hA : A < S128) (w : World) : (Op.equalIn 10000 33 (.agg #[.int .u32 (wd A 0 : Nat), .int .u32 (wd A 1 : Nat), .int .u32 (wd A 2 : Nat), .int .u32 (wd A 3 : Nat)]) (.agg #[.int .u32 (wd A 0 : Nat), .int .u32 (wd A 1 : Nat), .int .u32 (wd A 2 : Nat), .int .u32 (wd A 3 : Nat)])).run Tryz.prog w = .ok true w := by
 have := eqn4 A A hA hA w
 rw [decide_eq_true rfl] at this
 exact this
theorem RdW.op {ad : Option Addr} {l : List OpN} (h : RdW W ad l) {k : Nat} {o : OpN} (hk : l[k]? = some o) : OpOk W o := by
 obtain ⟨_, _, _, _, _, h⟩ := h k o hk
 exact h
theorem lgt_at {l : List OpN} (h : lgt l = true) {k : Nat} {o : OpN} (hk : l[k]? = some o) : o.nl.length ≤ 300 ∧ l.length ≤ 80 := by
 unfold lgt at h
 simp only [Bool.and_eq_true, decide_eq_true_eq] at h
 have := List.all_eq_true.1 h.2 o (List.mem_of_getElem? hk)
 unfold lgt1 at this
 simp only [Bool.and_eq_true, decide_eq_true_eq] at this
 exact ⟨this.2, h.1⟩
end
end Go.Proofs.YtgiddgejlliefaaGreatDoor
