/- A script of defences, handed in. -/
import Derived.Test.YtlpmehmoeladjaaGreatDoorJnJ0
import Derived.Test.YtlpmehmoeladjaaGreatDoorRows
import Derived.ProofKit
import Derived.OpenShut
import Derived.ChangeOld
import Derived.ChangeSlices
import Derived.Below
import Derived.Deep.Slices
import Derived.Deep.Strs
namespace Go.Proofs.YtlpmehmoeladjaaGreatDoor
open Go.ChangeShapes Go.WideShapes Go.ChangeAt Go.RowKit

/-- A step: notices, a fuse, whether the power is brought back. -/
abbrev Op3 := List (Int × Int × Int) × Int × Bool
/-- A script, below B. -/
def RdO (W : World) (B : Nat) (ad : Option Addr) (ops : List Op3) : Prop := ∀ (n : Nat) (o : Op3), ops[n]? = some o → ∃ b off a c, ad = some ⟨b, off, none⟩ ∧ b < B ∧ W.cell? ⟨b, off + n * 3, none⟩ = some (.slice a o.1.length c) ∧ W.cell? ⟨b, off + n * 3 + 1, none⟩ = some (.int .i64 o.2.1) ∧ W.cell? ⟨b, off + n * 3 + 2, none⟩ = some (.bool o.2.2) ∧ RdN W a o.1 ∧ (Lit.int .i64 o.2.1).wf = true
theorem cellsBl : Tryz.prog.cellsOf 4 = 1 := by kernel_rfl
theorem cellsOp : Tryz.prog.cellsOf 50 = 3 := by kernel_rfl
theorem cellsSn : Tryz.prog.cellsOf 44 = 1 := by kernel_rfl
theorem cellsIM : Tryz.prog.cellsOf 3 = 1 := by kernel_rfl
theorem cellsNM : Tryz.prog.cellsOf 60 = 3 := by kernel_rfl
theorem cell_ltM {W : World} {a : Addr} {v : Value} (h : W.cell? a = some v) : a.block < W.heap.size := by
  unfold World.cell? at h
  cases hb : W.heap[a.block]? with
  | none => simp [hb] at h
  | some o => exact (Array.getElem?_eq_some_iff.1 hb).1
set_option maxRecDepth 100000 in
/-- One notice, out of its cells. -/
theorem one_nt {H : Type} {enc : TypeId × Value → H} {W : World} {n : Nat} {cs : List Value} {x : DataW H × List MemPlace} (hl : cs.length = 3) (h : DataW.trod enc Tryz.prog W 0 (fun _ => true) true n 60 cs = some x) : ∃ o t k : Int, cs = [.int .i64 o, .int .i64 t, .int .i64 k] := by
  obtain ⟨y0, y1, y2, m, hx, _, hy0, hy1, hy2⟩ := Deep.trod_struct3 Tryz.underlying60 h
  match cs, hl with
  | [c0, c1, c2], _ =>
    obtain ⟨x0, e0, _, _⟩ := DataW.trod_int Tryz.underlying3 hy0
    obtain ⟨x1, e1, _, _⟩ := DataW.trod_int Tryz.underlying3 hy1
    obtain ⟨x2, e2, _, _⟩ := DataW.trod_int Tryz.underlying3 hy2
    simp [cellsIM] at e0 e1 e2
    subst e0 e1 e2
    exact ⟨x0, x1, x2, rfl⟩
set_option maxRecDepth 100000 in
/-- A slice of notices, out of its cell. -/
theorem cs_nts {H : Type} {enc : TypeId × Value → H} {W : World} {fuel : Nat} {cs : List Value} {x : DataW H × List MemPlace} (hf : DataW.trod enc Tryz.prog W 0 (fun _ => true) true fuel 44 cs = some x) : ∃ (ad : Option Addr) (cap : Nat) (l : List (Int × Int × Int)), cs = [.slice ad l.length cap] ∧ RdN W ad l ∧ (ad = none → cap = 0) := by
  obtain ⟨d, p⟩ := x
  rcases Deep.open_slice Tryz.underlying44 hf with ⟨hcs, _⟩ | ⟨a, len, cap, m, n, D, Pl, hcs, _, hlc, hcm, hmm, hx, hel⟩
  · exact ⟨none, 0, [], hcs, fun h => absurd rfl h, fun _ => rfl⟩
  · have hm : m = cap := by simpa using hmm
    have each : ∀ i, i < len → ∃ x : Int × Int × Int, W.cell? (a.add (i * 3)) = some (.int .i64 x.1) ∧ W.cell? (a.add (i * 3 + 1)) = some (.int .i64 x.2.1) ∧ W.cell? (a.add (i * 3 + 2)) = some (.int .i64 x.2.2) := by
      intro i hi
      obtain ⟨cs, h1, h2⟩ := hel i (by omega)
      rw [cellsNM] at h1
      obtain ⟨_, hlen, hcell⟩ := World.cells?_some h1
      obtain ⟨o, t, k, rfl⟩ := one_nt hlen h2
      have e0 := hcell 0 (by omega)
      have e1 := hcell 1 (by omega)
      have e2 := hcell 2 (by omega)
      rw [Deep.add_add] at e0 e1 e2
      exact ⟨(o, t, k), by simpa using e0, by simpa using e1, by simpa using e2⟩
    obtain ⟨q, hq⟩ := Deep.choose_lt each
    refine ⟨some a, cap, (List.range len).map q, by simpa using hcs, fun hne => ?_, (by intro e; cases e)⟩
    have hpos : 0 < len := by
      cases len with
      | zero => simp at hne
      | succ n => omega
    obtain ⟨b', off', x'⟩ := a
    have hx' : x' = none := by simpa [Addr.add] using World.cell?_spot (hq 0 hpos).1
    subst hx'
    have hadd : ∀ j, (⟨b', off', none⟩ : Addr).add j = ⟨b', off' + j, none⟩ := fun j => by unfold Addr.add; split <;> simp_all
    refine ⟨b', off', rfl, ?_, fun k y hy => ?_⟩
    · have := cell_ltM (hq 0 hpos).1
      rw [hadd] at this
      exact this
    · rw [List.getElem?_map] at hy
      obtain ⟨k', hk', rfl⟩ := Option.map_eq_some_iff.1 hy
      have hk := (List.getElem?_eq_some_iff.1 hk').1
      simp at hk
      have hkk : k' = k := by
        rw [List.getElem?_range hk] at hk'
        exact (Option.some.inj hk').symm
      subst hkk
      obtain ⟨c0, c1, c2⟩ := hq k' hk
      rw [hadd] at c0 c1 c2
      exact ⟨c0, by simpa [Nat.add_assoc] using c1, by simpa [Nat.add_assoc] using c2⟩
set_option maxRecDepth 100000 in
theorem one_op {H : Type} {enc : TypeId × Value → H} {W : World} {n : Nat} {cs : List Value} {x : DataW H × List MemPlace} (hl : cs.length = 3) (h : DataW.trod enc Tryz.prog W 0 (fun _ => true) true n 50 cs = some x) : ∃ (o : Op3) (a : Option Addr) (c : Nat), cs = [.slice a o.1.length c, .int .i64 o.2.1, .bool o.2.2] ∧ RdN W a o.1 ∧ (Lit.int .i64 o.2.1).wf = true := by
  obtain ⟨xs, m, _, _, _, hlen, hfs⟩ := DataW.trod_struct Tryz.underlying50 h
  match xs, hlen, cs, hl with
  | [y0, y1, y2], _, [c0, c1, c2], _ =>
    have g0 := hfs 0 _ rfl
    have g1 := hfs 1 _ rfl
    have g2 := hfs 2 _ rfl
    simp [cellsIM, cellsSn, cellsBl] at g0 g1 g2
    obtain ⟨x1, e1, _, w1⟩ := DataW.trod_int Tryz.underlying3 g1
    obtain ⟨x2, e2, _⟩ := DataW.trod_bool Tryz.underlying4 g2
    simp at e1 e2
    subst e1 e2
    obtain ⟨a, c, l, e3, hr, hb⟩ := cs_nts g0
    simp at e3
    subst e3
    exact ⟨(l, x1, x2), a, c, rfl, hr, w1⟩
set_option maxRecDepth 100000 in
theorem open_ops {H : Type} {enc : TypeId × Value → H} {W : World} {base : Nat} {v : Value} {d : DataW H} {p : List MemPlace} (hval : Value.okWide Tryz.prog W .any base 22 v)
    (h : DataW.Trod enc Tryz.prog W 0 (fun _ => true) true 22 v d p) : ∃ (ad : Option Addr) (cap : Nat) (l : List Op3), v = .slice ad l.length cap ∧ RdO W W.heap.size ad l ∧ l.length ≤ cap ∧ cap ≤ maxLen := by
  obtain ⟨a0, len0, cap0, rfl⟩ := okWide_slice Tryz.underlying22 hval
  obtain ⟨fuel, hf⟩ := h
  rcases Deep.open_slice Tryz.underlying22 hf with ⟨hcs, _⟩ | ⟨a, len, cap, m, n, D, Pl, hcs, _, hlc, hcm, hmm, hx, hel⟩
  · simp [Value.cells] at hcs
    obtain ⟨rfl, rfl, rfl⟩ := hcs
    exact ⟨none, 0, [], rfl, fun n o h => by simp at h, Nat.le_refl _, by unfold maxLen; simp⟩
  · simp [Value.cells] at hcs
    obtain ⟨rfl, rfl, rfl⟩ := hcs
    have hm : m = cap0 := by simpa using hmm
    have each : ∀ i, i < len0 → ∃ o : Op3, ∃ (a' : Option Addr) (c : Nat), W.cell? (a.add (i * 3)) = some (.slice a' o.1.length c) ∧ W.cell? (a.add (i * 3 + 1)) = some (.int .i64 o.2.1) ∧ W.cell? (a.add (i * 3 + 2)) = some (.bool o.2.2) ∧ RdN W a' o.1 ∧ (Lit.int .i64 o.2.1).wf = true := by
      intro i hi
      obtain ⟨cs, h1, h2⟩ := hel i (by omega)
      rw [cellsOp] at h1
      obtain ⟨_, hlen, hcell⟩ := World.cells?_some h1
      obtain ⟨o, a', c, rfl, hr, hb⟩ := one_op hlen h2
      have e0 := hcell 0 (by omega)
      have e1 := hcell 1 (by omega)
      have e2 := hcell 2 (by omega)
      rw [Deep.add_add] at e0 e1 e2
      exact ⟨o, a', c, by simpa using e0, by simpa using e1, by simpa using e2, hr, hb⟩
    obtain ⟨q, hq⟩ := Deep.choose_lt each
    refine ⟨some a, cap0, (List.range len0).map q, by simp, fun k y hy => ?_, by simpa using hlc, hcm⟩
    rw [List.getElem?_map] at hy
    obtain ⟨k', hk', rfl⟩ := Option.map_eq_some_iff.1 hy
    have hk := (List.getElem?_eq_some_iff.1 hk').1
    simp at hk
    have hkk : k' = k := by
      rw [List.getElem?_range hk] at hk'
      exact (Option.some.inj hk').symm
    subst hkk
    obtain ⟨_, _, c00, _⟩ := hq 0 (by omega)
    obtain ⟨a', c, c0, c1, c2, hr, hb⟩ := hq k' hk
    obtain ⟨b', off', x'⟩ := a
    have hx' : x' = none := by simpa [Addr.add] using World.cell?_spot c00
    subst hx'
    have hadd : ∀ j, (⟨b', off', none⟩ : Addr).add j = ⟨b', off' + j, none⟩ := fun j => (by unfold Addr.add; split <;> simp_all)
    have hlt := cell_ltM c0
    rw [hadd] at c0 c1 c2 hlt
    exact ⟨b', off', a', c, rfl, hlt, c0, by simpa [Nat.add_assoc] using c1, by simpa [Nat.add_assoc] using c2, hr, hb⟩
end Go.Proofs.YtlpmehmoeladjaaGreatDoor
