/- A script of the play, handed in. -/
import Derived.Test.YtnkdfpbgdimaoaaLtb
import Derived.Test.YtnkdfpbgdimaoaaRows
import Derived.ProofKit
import Derived.OpenShut
import Derived.ChangeOld
import Derived.ChangeSlices
import Derived.Below
import Derived.Deep.Slices
import Derived.Deep.Strs
namespace Go.Proofs.Ytnkdfpbgdimaoaa
open Go.ChangeShapes Go.WideShapes Go.ChangeAt Go.RowKit

/-- A step: its kind, a number, a seq, a record. -/
structure OpS where
  k : Int
  a : Int
  s : Int
  r : Rec
instance : Inhabited OpS := ⟨⟨0, 0, 0, ⟨0, 0, 0⟩⟩⟩
/-- These cells lie there. -/
def OpAt (W : World) (b off : Nat) (o : OpS) : Prop := W.cell? ⟨b, off, none⟩ = some (.int .i64 o.k) ∧ W.cell? ⟨b, off + 1, none⟩ = some (.int .i64 o.a) ∧ W.cell? ⟨b, off + 2, none⟩ = some (.int .i64 o.s) ∧ W.cell? ⟨b, off + 3, none⟩ = some (.int .i64 o.r.li) ∧ W.cell? ⟨b, off + 4, none⟩ = some (.int .i64 o.r.ro) ∧ W.cell? ⟨b, off + 5, none⟩ = some (.int .i64 o.r.ta)
/-- A script, below B. -/
def RdS (W : World) (B : Nat) (ad : Option Addr) (ops : List OpS) : Prop := ∀ (n : Nat) (o : OpS), ops[n]? = some o → ∃ b off, ad = some ⟨b, off, none⟩ ∧ b < B ∧ OpAt W b (off + n * 6) o ∧ (Lit.int .i64 o.a).wf = true
theorem OpAt.carry {W V : World} {base b off : Nat} {o : OpS} (h : OpAt W b off o) (hV : Below base W V) (hb : b < base) : OpAt V b off o := by
  have e := hV.block b hb
  obtain ⟨h0, h1, h2, h3, h4, h5⟩ := h
  exact ⟨(World.cell?_of_block (a := ⟨b, _, none⟩) e).trans h0, (World.cell?_of_block (a := ⟨b, _, none⟩) e).trans h1, (World.cell?_of_block (a := ⟨b, _, none⟩) e).trans h2, (World.cell?_of_block (a := ⟨b, _, none⟩) e).trans h3, (World.cell?_of_block (a := ⟨b, _, none⟩) e).trans h4, (World.cell?_of_block (a := ⟨b, _, none⟩) e).trans h5⟩
theorem cellsIM : Try.prog.cellsOf 3 = 1 := by kernel_rfl
theorem cellsOp : Try.prog.cellsOf 52 = 6 := by kernel_rfl
theorem cellsRc : Try.prog.cellsOf 23 = 3 := by kernel_rfl
theorem cell_ltO {W : World} {a : Addr} {v : Value} (h : W.cell? a = some v) : a.block < W.heap.size := by
  unfold World.cell? at h
  cases hb : W.heap[a.block]? with
  | none => simp [hb] at h
  | some o => exact (Array.getElem?_eq_some_iff.1 hb).1
set_option maxRecDepth 100000 in
theorem one_op {H : Type} {enc : TypeId × Value → H} {W : World} {n : Nat} {cs : List Value} {x : DataW H × List MemPlace} (hl : cs.length = 6) (h : DataW.trod enc Try.prog W 0 (fun _ => true) true n 52 cs = some x) : ∃ o : OpS, cs = [.int .i64 o.k, .int .i64 o.a, .int .i64 o.s, .int .i64 o.r.li, .int .i64 o.r.ro, .int .i64 o.r.ta] ∧ (Lit.int .i64 o.a).wf = true := by
  obtain ⟨xs, m, _, _, _, hlen, hfs⟩ := DataW.trod_struct Try.underlying52 h
  match xs, hlen, cs, hl with
  | [y0, y1, y2, y3], _, [c0, c1, c2, c3, c4, c5], _ =>
    have g0 := hfs 0 _ rfl
    have g1 := hfs 1 _ rfl
    have g2 := hfs 2 _ rfl
    have g3 := hfs 3 _ rfl
    simp [cellsIM, cellsRc] at g0 g1 g2 g3
    obtain ⟨x0, e0, _, _⟩ := DataW.trod_int Try.underlying3 g0
    obtain ⟨x1, e1, _, hwf⟩ := DataW.trod_int Try.underlying3 g1
    obtain ⟨x2, e2, _, _⟩ := DataW.trod_int Try.underlying3 g2
    simp at e0 e1 e2
    subst e0 e1 e2
    obtain ⟨z0, z1, z2, m2, _, _, hy0, hy1, hy2⟩ := Deep.trod_struct3 Try.underlying23 g3
    obtain ⟨x3, e3, _, _⟩ := DataW.trod_int Try.underlying3 hy0
    obtain ⟨x4, e4, _, _⟩ := DataW.trod_int Try.underlying3 hy1
    obtain ⟨x5, e5, _, _⟩ := DataW.trod_int Try.underlying3 hy2
    simp [cellsIM] at e3 e4 e5
    subst e3 e4 e5
    exact ⟨⟨x0, x1, x2, ⟨x3, x4, x5⟩⟩, rfl, hwf⟩
set_option maxRecDepth 100000 in
theorem open_ops {H : Type} {enc : TypeId × Value → H} {W : World} {base : Nat} {v : Value} {d : DataW H} {p : List MemPlace} (hval : Value.okWide Try.prog W .any base 43 v)
    (h : DataW.Trod enc Try.prog W 0 (fun _ => true) true 43 v d p) : ∃ (ad : Option Addr) (cap : Nat) (l : List OpS), v = .slice ad l.length cap ∧ RdS W W.heap.size ad l ∧ l.length ≤ cap ∧ cap ≤ maxLen := by
  obtain ⟨a0, len0, cap0, rfl⟩ := okWide_slice Try.underlying43 hval
  obtain ⟨fuel, hf⟩ := h
  rcases Deep.open_slice Try.underlying43 hf with ⟨hcs, _⟩ | ⟨a, len, cap, m, n, D, Pl, hcs, _, hlc, hcm, hmm, hx, hel⟩
  · simp [Value.cells] at hcs
    obtain ⟨rfl, rfl, rfl⟩ := hcs
    exact ⟨none, 0, [], rfl, fun n o h => by simp at h, Nat.le_refl _, by unfold maxLen; simp⟩
  · simp [Value.cells] at hcs
    obtain ⟨rfl, rfl, rfl⟩ := hcs
    have hm : m = cap0 := by simpa using hmm
    have each : ∀ i, i < len0 → ∃ o : OpS, W.cell? (a.add (i * 6)) = some (.int .i64 o.k) ∧ W.cell? (a.add (i * 6 + 1)) = some (.int .i64 o.a) ∧ W.cell? (a.add (i * 6 + 2)) = some (.int .i64 o.s) ∧ W.cell? (a.add (i * 6 + 3)) = some (.int .i64 o.r.li) ∧ W.cell? (a.add (i * 6 + 4)) = some (.int .i64 o.r.ro) ∧ W.cell? (a.add (i * 6 + 5)) = some (.int .i64 o.r.ta) ∧ (Lit.int .i64 o.a).wf = true := by
      intro i hi
      obtain ⟨cs, h1, h2⟩ := hel i (by omega)
      rw [cellsOp] at h1
      obtain ⟨_, hlen, hcell⟩ := World.cells?_some h1
      obtain ⟨o, rfl, hwf⟩ := one_op hlen h2
      have e0 := hcell 0 (by omega)
      have e1 := hcell 1 (by omega)
      have e2 := hcell 2 (by omega)
      have e3 := hcell 3 (by omega)
      have e4 := hcell 4 (by omega)
      have e5 := hcell 5 (by omega)
      rw [Deep.add_add] at e0 e1 e2 e3 e4 e5
      exact ⟨o, by simpa using e0, by simpa using e1, by simpa using e2, by simpa using e3, by simpa using e4, by simpa using e5, hwf⟩
    obtain ⟨q, hq⟩ := Deep.choose_lt each
    refine ⟨some a, cap0, (List.range len0).map q, by simp, fun k y hy => ?_, by simpa using hlc, hcm⟩
    rw [List.getElem?_map] at hy
    obtain ⟨k', hk', rfl⟩ := Option.map_eq_some_iff.1 hy
    have hk := (List.getElem?_eq_some_iff.1 hk').1
    simp at hk
    have hkk : k' = k := by
      rw [List.getElem?_range hk] at hk'
      exact (Option.some.inj hk').symm
    subst hkk
    obtain ⟨c00, _⟩ := hq 0 (by omega)
    obtain ⟨c0, c1, c2, c3, c4, c5, hwf⟩ := hq k' hk
    obtain ⟨b', off', x'⟩ := a
    have hx' : x' = none := by simpa [Addr.add] using World.cell?_spot c00
    subst hx'
    have hadd : ∀ j, (⟨b', off', none⟩ : Addr).add j = ⟨b', off' + j, none⟩ := fun j => add_pl b' off' j
    have hlt := cell_ltO c0
    rw [hadd] at c0 c1 c2 c3 c4 c5 hlt
    exact ⟨b', off', rfl, hlt, ⟨c0, by simpa [Nat.add_assoc] using c1, by simpa [Nat.add_assoc] using c2, by simpa [Nat.add_assoc] using c3, by simpa [Nat.add_assoc] using c4, by simpa [Nat.add_assoc] using c5⟩, hwf⟩
end Go.Proofs.Ytnkdfpbgdimaoaa
