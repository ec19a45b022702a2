/- A script of the play, handed in. -/
import Derived.Test.YtjleggnkacmbbaaLtb
import Derived.Test.YtjleggnkacmbbaaRows
import Derived.ProofKit
import Derived.OpenShut
import Derived.ChangeOld
import Derived.ChangeSlices
import Derived.Below
import Derived.Deep.Slices
import Derived.Deep.Strs
namespace Go.Proofs.Ytjleggnkacmbbaa
open Go.ChangeShapes Go.WideShapes Go.ChangeAt Go.RowKit

structure Ob where
  k : Int
  a : Int
instance : Inhabited Ob := ⟨⟨0, 0⟩⟩
/-- These cells lie there. -/
def ObAt (W : World) (b off : Nat) (o : Ob) : Prop := W.cell? ⟨b, off, none⟩ = some (.int .i64 o.k) ∧ W.cell? ⟨b, off + 1, none⟩ = some (.int .i64 o.a)
/-- A list of them, below B. -/
def RdH (W : World) (B : Nat) (ad : Option Addr) (ops : List Ob) : Prop := ∀ (n : Nat) (o : Ob), ops[n]? = some o → ∃ b off, ad = some ⟨b, off, none⟩ ∧ b < B ∧ ObAt W b (off + n * 2) o ∧ (Lit.int .i64 o.k).wf = true ∧ (Lit.int .i64 o.a).wf = true
theorem ObAt.carry {W V : World} {base b off : Nat} {o : Ob} (h : ObAt W b off o) (hV : Below base W V) (hb : b < base) : ObAt V b off o := by
  have e := hV.block b hb
  obtain ⟨h0, h1⟩ := h
  exact ⟨(World.cell?_of_block (a := ⟨b, _, none⟩) e).trans h0, (World.cell?_of_block (a := ⟨b, _, none⟩) e).trans h1⟩
theorem cellsIOpg : Try.prog.cellsOf 3 = 1 := by kernel_rfl
theorem cellsOpg : Try.prog.cellsOf 80 = 2 := by kernel_rfl
theorem cell_ltOpg {W : World} {a : Addr} {v : Value} (h : W.cell? a = some v) : a.block < W.heap.size := by
  unfold World.cell? at h
  cases hb : W.heap[a.block]? with
  | none => simp [hb] at h
  | some o => exact (Array.getElem?_eq_some_iff.1 hb).1
set_option maxRecDepth 100000 in
theorem one_Opg {H : Type} {enc : TypeId × Value → H} {W : World} {n : Nat} {cs : List Value} {x : DataW H × List MemPlace} (hl : cs.length = 2) (h : DataW.trod enc Try.prog W 0 (fun _ => true) true n 80 cs = some x) : ∃ o : Ob, cs = [.int .i64 o.k, .int .i64 o.a] ∧ (Lit.int .i64 o.k).wf = true ∧ (Lit.int .i64 o.a).wf = true := by
  obtain ⟨xs, m, _, _, _, hlen, hfs⟩ := DataW.trod_struct Try.underlying80 h
  match xs, hlen, cs, hl with
  | [y0, y1], _, [c0, c1], _ =>
    have g0 := hfs 0 _ rfl
    have g1 := hfs 1 _ rfl
    simp [cellsIOpg] at g0 g1
    obtain ⟨x0, e0, _, w0⟩ := DataW.trod_int Try.underlying3 g0
    obtain ⟨x1, e1, _, w1⟩ := DataW.trod_int Try.underlying3 g1
    simp at e0 e1
    subst e0 e1
    exact ⟨⟨x0, x1⟩, rfl, w0, w1⟩
set_option maxRecDepth 100000 in
theorem open_obs {H : Type} {enc : TypeId × Value → H} {W : World} {base : Nat} {v : Value} {d : DataW H} {p : List MemPlace} (hval : Value.okWide Try.prog W .any base 39 v)
    (h : DataW.Trod enc Try.prog W 0 (fun _ => true) true 39 v d p) : ∃ (ad : Option Addr) (cap : Nat) (l : List Ob), v = .slice ad l.length cap ∧ RdH W W.heap.size ad l ∧ l.length ≤ cap ∧ cap ≤ maxLen := by
  obtain ⟨a0, len0, cap0, rfl⟩ := okWide_slice Try.underlying39 hval
  obtain ⟨fuel, hf⟩ := h
  rcases Deep.open_slice Try.underlying39 hf with ⟨hcs, _⟩ | ⟨a, len, cap, m, n, D, Pl, hcs, _, hlc, hcm, hmm, hx, hel⟩
  · simp [Value.cells] at hcs
    obtain ⟨rfl, rfl, rfl⟩ := hcs
    exact ⟨none, 0, [], rfl, fun n o h => by simp at h, Nat.le_refl _, by unfold maxLen; simp⟩
  · simp [Value.cells] at hcs
    obtain ⟨rfl, rfl, rfl⟩ := hcs
    have hm : m = cap0 := by simpa using hmm
    have each : ∀ i, i < len0 → ∃ o : Ob, W.cell? (a.add (i * 2)) = some (.int .i64 o.k) ∧ W.cell? (a.add (i * 2 + 1)) = some (.int .i64 o.a) ∧ (Lit.int .i64 o.k).wf = true ∧ (Lit.int .i64 o.a).wf = true := by
      intro i hi
      obtain ⟨cs, h1, h2⟩ := hel i (by omega)
      rw [cellsOpg] at h1
      obtain ⟨_, hlen, hcell⟩ := World.cells?_some h1
      obtain ⟨o, rfl, hwf⟩ := one_Opg hlen h2
      have e0 := hcell 0 (by omega)
      have e1 := hcell 1 (by omega)
      rw [Deep.add_add] at e0 e1
      exact ⟨o, by simpa using e0, by simpa using e1, hwf⟩
    obtain ⟨q, hq⟩ := Deep.choose_lt each
    refine ⟨some a, cap0, (List.range len0).map q, by simp, fun k y hy => ?_, by simpa using hlc, hcm⟩
    rw [List.getElem?_map] at hy
    obtain ⟨k', hk', rfl⟩ := Option.map_eq_some_iff.1 hy
    have hk := (List.getElem?_eq_some_iff.1 hk').1
    simp at hk
    have hkk : k' = k := by
      rw [List.getElem?_range hk] at hk'
      exact (Option.some.inj hk').symm
    subst hkk
    obtain ⟨c00, _⟩ := hq 0 (by omega)
    obtain ⟨c0, c1, hwf⟩ := hq k' hk
    obtain ⟨b', off', x'⟩ := a
    have hx' : x' = none := by simpa [Addr.add] using World.cell?_spot c00
    subst hx'
    have hadd : ∀ j, (⟨b', off', none⟩ : Addr).add j = ⟨b', off' + j, none⟩ := fun j => add_pl b' off' j
    have hlt := cell_ltOpg c0
    rw [hadd] at c0 c1 hlt
    exact ⟨b', off', rfl, hlt, ⟨c0, by simpa [Nat.add_assoc] using c1⟩, hwf⟩
end Go.Proofs.Ytjleggnkacmbbaa
