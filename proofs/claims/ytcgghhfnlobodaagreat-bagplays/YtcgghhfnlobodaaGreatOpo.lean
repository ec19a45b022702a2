/- A []byte, a script, handed in. -/
import Derived.Test.YtcgghhfnlobodaaGreatBgn
import Derived.Test.YtcgghhfnlobodaaGreatRows
import Derived.ProofKit
import Derived.OpenShut
import Derived.ChangeOld
import Derived.ChangeSlices
import Derived.Below
import Derived.Deep.Slices
import Derived.Deep.Strs
namespace Go.Proofs.YtcgghhfnlobodaaGreat
open Go.ChangeShapes Go.WideShapes Go.ChangeAt Go.RowKit

theorem cellsIM : Tryz.prog.cellsOf 3 = 1 := by kernel_rfl
theorem cellsOp : Tryz.prog.cellsOf 57 = 6 := by kernel_rfl
theorem cellsSb : Tryz.prog.cellsOf 55 = 1 := by kernel_rfl
theorem cell_ltM {W : World} {a : Addr} {v : Value} (h : W.cell? a = some v) : a.block < W.heap.size := by
  unfold World.cell? at h
  cases hb : W.heap[a.block]? with
  | none => simp [hb] at h
  | some o => exact (Array.getElem?_eq_some_iff.1 hb).1
theorem wf_u8 {z : Int} (h : (Lit.int .u8 z).wf = true) : 0 ≤ z ∧ z < 256 := by
  simp [Lit.wf] at h
  have h1 : IntKind.u8.min = 0 := rfl
  have h2 : IntKind.u8.max = 255 := rfl
  omega
set_option maxRecDepth 100000 in
/-- Bytes, out of their cell. -/
theorem cs_bytes {H : Type} {enc : TypeId × Value → H} {W : World} {fuel : Nat} {c : Value} {x : DataW H × List MemPlace} (hf : DataW.trod enc Tryz.prog W 0 (fun _ => true) true fuel 55 [c] = some x) : ∃ (ad : Option Addr) (cap : Nat) (l : List Nat), c = .slice ad l.length cap ∧ RdU W W.heap.size ad l ∧ Byt l ∧ (ad = none → cap = 0) := by
  rcases open_ints Tryz.underlying55 Tryz.underlying5 (by kernel_rfl) hf with ⟨hcs, _⟩ | ⟨x, l, c', zs, hcs, _, hl, hm, hz, _, hcell, hwz⟩
  · simp at hcs
    subst hcs
    exact ⟨none, 0, [], rfl, fun h => absurd rfl h, byt_nil, fun _ => rfl⟩
  · simp at hcs
    subst hcs
    have hz' : zs.length = c' := by simpa using hz
    have hlen : ((zs.take l).map Int.toNat).length = l := by simp; omega
    have hzw : ∀ z ∈ zs, 0 ≤ z ∧ z < 256 := fun z hzm => wf_u8 (hwz z hzm)
    refine ⟨some x, c', (zs.take l).map Int.toNat, by rw [hlen], fun hne => ?_, ?_, fun e => by cases e⟩
    · have hpos : 0 < l := by
        cases l with
        | zero => simp at hne
        | succ n => omega
      obtain ⟨b, off, s⟩ := x
      have c0 := hcell 0 (by omega)
      have hs : s = none := by
        have := World.cell?_spot c0
        simpa [Addr.add] using this
      subst hs
      have hadd : ∀ j, (⟨b, off, none⟩ : Addr).add j = ⟨b, off + j, none⟩ := fun j => add_pl b off j
      refine ⟨b, off, rfl, ?_, fun k y hy => ?_⟩
      · have := cell_ltM c0
        rw [hadd] at this
        exact this
      · rw [List.getElem?_map] at hy
        obtain ⟨z, hz1, rfl⟩ := Option.map_eq_some_iff.1 hy
        rw [List.getElem?_take] at hz1
        split at hz1
        · rename_i hk
          have hzm := hzw z (List.mem_of_getElem? hz1)
          have := hcell k (by omega)
          rw [hadd, List.getD_eq_getElem?_getD, hz1] at this
          rw [this, Int.toNat_of_nonneg hzm.1]
          rfl
        · cases hz1
    · intro y hy
      obtain ⟨z, hz1, rfl⟩ := List.mem_map.1 hy
      have := hzw z (List.mem_of_mem_take hz1)
      omega
set_option maxRecDepth 100000 in
theorem one_op {H : Type} {enc : TypeId × Value → H} {W : World} {n : Nat} {cs : List Value} {x : DataW H × List MemPlace} (hl : cs.length = 6) (h : DataW.trod enc Tryz.prog W 0 (fun _ => true) true n 57 cs = some x) : ∃ (o : Op6) (a : Option Addr) (c : Nat), cs = [.int .i64 o.1, .int .i64 o.2.1, .int .i64 o.2.2.1, .int .i64 o.2.2.2.1, .int .i64 o.2.2.2.2.1, .slice a o.2.2.2.2.2.length c] ∧ RdU W W.heap.size a o.2.2.2.2.2 ∧ Byt o.2.2.2.2.2 ∧ (a = none → c = 0) := by
  obtain ⟨xs, m, _, _, _, hlen, hfs⟩ := DataW.trod_struct Tryz.underlying57 h
  match xs, hlen, cs, hl with
  | [y0, y1, y2, y3, y4, y5], _, [c0, c1, c2, c3, c4, c5], _ =>
    have g0 := hfs 0 _ rfl
    have g1 := hfs 1 _ rfl
    have g2 := hfs 2 _ rfl
    have g3 := hfs 3 _ rfl
    have g4 := hfs 4 _ rfl
    have g5 := hfs 5 _ rfl
    simp [cellsIM, cellsSb] at g0 g1 g2 g3 g4 g5
    obtain ⟨x0, e0, _, _⟩ := DataW.trod_int Tryz.underlying3 g0
    obtain ⟨x1, e1, _, _⟩ := DataW.trod_int Tryz.underlying3 g1
    obtain ⟨x2, e2, _, _⟩ := DataW.trod_int Tryz.underlying3 g2
    obtain ⟨x3, e3, _, _⟩ := DataW.trod_int Tryz.underlying3 g3
    obtain ⟨x4, e4, _, _⟩ := DataW.trod_int Tryz.underlying3 g4
    simp at e0 e1 e2 e3 e4
    subst e0 e1 e2 e3 e4
    obtain ⟨a, c, l, rfl, hr, hb⟩ := cs_bytes g5
    exact ⟨(x0, x1, x2, x3, x4, l), a, c, rfl, hr, hb⟩
set_option maxRecDepth 100000 in
theorem open_ops {H : Type} {enc : TypeId × Value → H} {W : World} {base : Nat} {v : Value} {d : DataW H} {p : List MemPlace} (hval : Value.okWide Tryz.prog W .any base 23 v)
    (h : DataW.Trod enc Tryz.prog W 0 (fun _ => true) true 23 v d p) : ∃ (ad : Option Addr) (cap : Nat) (l : List Op6), v = .slice ad l.length cap ∧ RdO W W.heap.size ad l ∧ l.length ≤ cap ∧ cap ≤ maxLen := by
  obtain ⟨a0, len0, cap0, rfl⟩ := okWide_slice Tryz.underlying23 hval
  obtain ⟨fuel, hf⟩ := h
  rcases Deep.open_slice Tryz.underlying23 hf with ⟨hcs, _⟩ | ⟨a, len, cap, m, n, D, Pl, hcs, _, hlc, hcm, hmm, hx, hel⟩
  · simp [Value.cells] at hcs
    obtain ⟨rfl, rfl, rfl⟩ := hcs
    exact ⟨none, 0, [], rfl, fun n o h => by simp at h, Nat.le_refl _, by unfold maxLen; simp⟩
  · simp [Value.cells] at hcs
    obtain ⟨rfl, rfl, rfl⟩ := hcs
    have hm : m = cap0 := by simpa using hmm
    have each : ∀ i, i < len0 → ∃ o : Op6, ∃ (a' : Option Addr) (c : Nat), W.cell? (a.add (i * 6)) = some (.int .i64 o.1) ∧ W.cell? (a.add (i * 6 + 1)) = some (.int .i64 o.2.1) ∧ W.cell? (a.add (i * 6 + 2)) = some (.int .i64 o.2.2.1) ∧ W.cell? (a.add (i * 6 + 3)) = some (.int .i64 o.2.2.2.1) ∧ W.cell? (a.add (i * 6 + 4)) = some (.int .i64 o.2.2.2.2.1) ∧ W.cell? (a.add (i * 6 + 5)) = some (.slice a' o.2.2.2.2.2.length c) ∧ RdU W W.heap.size a' o.2.2.2.2.2 ∧ Byt o.2.2.2.2.2 ∧ (a' = none → c = 0) := by
      intro i hi
      obtain ⟨cs, h1, h2⟩ := hel i (by omega)
      rw [cellsOp] at h1
      obtain ⟨_, hlen, hcell⟩ := World.cells?_some h1
      obtain ⟨o, a', c, rfl, hr, hb⟩ := one_op hlen h2
      have e0 := hcell 0 (by omega)
      have e1 := hcell 1 (by omega)
      have e2 := hcell 2 (by omega)
      have e3 := hcell 3 (by omega)
      have e4 := hcell 4 (by omega)
      have e5 := hcell 5 (by omega)
      rw [Deep.add_add] at e0 e1 e2 e3 e4 e5
      exact ⟨o, a', c, by simpa using e0, by simpa using e1, by simpa using e2, by simpa using e3, by simpa using e4, by simpa using e5, hr, hb⟩
    obtain ⟨q, hq⟩ := Deep.choose_lt each
    refine ⟨some a, cap0, (List.range len0).map q, by simp, fun k y hy => ?_, by simpa using hlc, hcm⟩
    rw [List.getElem?_map] at hy
    obtain ⟨k', hk', rfl⟩ := Option.map_eq_some_iff.1 hy
    have hk := (List.getElem?_eq_some_iff.1 hk').1
    simp at hk
    have hkk : k' = k := by
      rw [List.getElem?_range hk] at hk'
      exact (Option.some.inj hk').symm
    subst hkk
    obtain ⟨_, _, c00, _⟩ := hq 0 (by omega)
    obtain ⟨a', c, c0, c1, c2, c3, c4, c5, hr, hb⟩ := hq k' hk
    obtain ⟨b', off', x'⟩ := a
    have hx' : x' = none := by simpa [Addr.add] using World.cell?_spot c00
    subst hx'
    have hadd : ∀ j, (⟨b', off', none⟩ : Addr).add j = ⟨b', off' + j, none⟩ := fun j => add_pl b' off' j
    have hlt := cell_ltM c0
    rw [hadd] at c0 c1 c2 c3 c4 c5 hlt
    exact ⟨b', off', a', c, rfl, hlt, c0, by simpa [Nat.add_assoc] using c1, by simpa [Nat.add_assoc] using c2, by simpa [Nat.add_assoc] using c3, by simpa [Nat.add_assoc] using c4, by simpa [Nat.add_assoc] using c5, hr, hb⟩
end Go.Proofs.YtcgghhfnlobodaaGreat
