/- A slice of notices that is handed in, read. -/
import Derived.Test.YtddblfffjhoiaabGreatRnt
import Derived.Test.YtddblfffjhoiaabGreatRows
import Derived.ProofKit
import Derived.OpenShut
import Derived.ChangeOld
import Derived.Below
import Derived.Deep.Slices
import Derived.Deep.Strs
namespace Go.Proofs.YtddblfffjhoiaabGreat
open Go.ChangeShapes Go.WideShapes Go.ChangeAt Go.RowKit

set_option maxRecDepth 100000 in
theorem cellsIM : Tryz.prog.cellsOf 3 = 1 := by kernel_rfl
set_option maxRecDepth 100000 in
theorem cellsNM : Tryz.prog.cellsOf 61 = 3 := by kernel_rfl
set_option maxRecDepth 100000 in
theorem cell_ltM {W : World} {a : Addr} {v : Value} (h : W.cell? a = some v) : a.block < W.heap.size := by
  unfold World.cell? at h
  cases hb : W.heap[a.block]? with
  | none => simp [hb] at h
  | some o => exact (Array.getElem?_eq_some_iff.1 hb).1
set_option maxRecDepth 100000 in
/-- One notice, out of its cells. -/
theorem one_nt {H : Type} {enc : TypeId × Value → H} {W : World} {n : Nat} {cs : List Value} {x : DataW H × List MemPlace} (hl : cs.length = 3) (h : DataW.trod enc Tryz.prog W 0 (fun _ => true) true n 61 cs = some x) : ∃ o t k : Int, cs = [.int .i64 o, .int .i64 t, .int .i64 k] := by
  obtain ⟨y0, y1, y2, m, hx, _, hy0, hy1, hy2⟩ := Deep.trod_struct3 Tryz.underlying61 h
  match cs, hl with
  | [c0, c1, c2], _ =>
    obtain ⟨x0, e0, _, _⟩ := DataW.trod_int Tryz.underlying3 hy0
    obtain ⟨x1, e1, _, _⟩ := DataW.trod_int Tryz.underlying3 hy1
    obtain ⟨x2, e2, _, _⟩ := DataW.trod_int Tryz.underlying3 hy2
    simp [cellsIM] at e0 e1 e2
    subst e0 e1 e2
    exact ⟨x0, x1, x2, rfl⟩
set_option maxRecDepth 100000 in
theorem open_nts {H : Type} {enc : TypeId × Value → H} {W : World} {base : Nat} {v : Value} {d : DataW H} {p : List MemPlace} (hval : Value.okWide Tryz.prog W .any base 26 v)
    (h : DataW.Trod enc Tryz.prog W 0 (fun _ => true) true 26 v d p) : ∃ (ad : Option Addr) (cap : Nat) (l : List (Int × Int × Int)), v = .slice ad l.length cap ∧ RdN W ad l ∧ (ad = none → cap = 0) ∧ l.length ≤ cap ∧ (l = [] ∨ ∃ E S, d = .slice E S ∧ E.length = l.length) := by
  obtain ⟨a0, len0, cap0, rfl⟩ := okWide_slice Tryz.underlying26 hval
  obtain ⟨fuel, hf⟩ := h
  rcases Deep.open_slice Tryz.underlying26 hf with ⟨hcs, _⟩ | ⟨a, len, cap, m, n, D, Pl, hcs, _, hlc, hcm, hmm, hx, hel⟩
  · simp [Value.cells] at hcs
    obtain ⟨rfl, rfl, rfl⟩ := hcs
    exact ⟨none, 0, [], rfl, fun h => absurd rfl h, fun _ => rfl, Nat.le_refl _, .inl rfl⟩
  · simp [Value.cells] at hcs
    obtain ⟨rfl, rfl, rfl⟩ := hcs
    have hm : m = cap0 := by simpa using hmm
    have each : ∀ i, i < len0 → ∃ x : Int × Int × Int, W.cell? (a.add (i * 3)) = some (.int .i64 x.1) ∧ W.cell? (a.add (i * 3 + 1)) = some (.int .i64 x.2.1) ∧ W.cell? (a.add (i * 3 + 2)) = some (.int .i64 x.2.2) := by
      intro i hi
      obtain ⟨cs, h1, h2⟩ := hel i (by omega)
      rw [cellsNM] at h1
      obtain ⟨_, hlen, hcell⟩ := World.cells?_some h1
      obtain ⟨o, t, k, rfl⟩ := one_nt hlen h2
      have e0 := hcell 0 (by omega)
      have e1 := hcell 1 (by omega)
      have e2 := hcell 2 (by omega)
      rw [Deep.add_add] at e0 e1 e2
      exact ⟨(o, t, k), by simpa using e0, by simpa using e1, by simpa using e2⟩
    obtain ⟨q, hq⟩ := Deep.choose_lt each
    refine ⟨some a, cap0, (List.range len0).map q, by simp, fun hne => ?_, (by intro e; cases e), (by simpa using hlc), .inr ⟨_, _, (Prod.mk.inj hx).1, by simp⟩⟩
    have hpos : 0 < len0 := by
      cases len0 with
      | zero => simp at hne
      | succ n => omega
    obtain ⟨b', off', x'⟩ := a
    have hx' : x' = none := by simpa [Addr.add] using World.cell?_spot (hq 0 hpos).1
    subst hx'
    have hadd : ∀ j, (⟨b', off', none⟩ : Addr).add j = ⟨b', off' + j, none⟩ := fun j => by unfold Addr.add; split <;> simp_all
    refine ⟨b', off', rfl, ?_, fun k y hy => ?_⟩
    · have := cell_ltM (hq 0 hpos).1
      rw [hadd] at this
      exact this
    · rw [List.getElem?_map] at hy
      obtain ⟨k', hk', rfl⟩ := Option.map_eq_some_iff.1 hy
      have hk := (List.getElem?_eq_some_iff.1 hk').1
      simp at hk
      have hkk : k' = k := by
        rw [List.getElem?_range hk] at hk'
        exact (Option.some.inj hk').symm
      subst hkk
      obtain ⟨c0, c1, c2⟩ := hq k' hk
      rw [hadd] at c0 c1 c2
      exact ⟨c0, by simpa [Nat.add_assoc] using c1, by simpa [Nat.add_assoc] using c2⟩
end Go.Proofs.YtddblfffjhoiaabGreat
namespace Go.Proofs.YtddblfffjhoiaabGreat
open Go.ChangeShapes Go.WideShapes Go.ChangeAt Go.RowKit

set_option maxRecDepth 100000 in
theorem cs_nts {H : Type} {enc : TypeId × Value → H} {W : World} {fuel : Nat} {cs : List Value} {x : DataW H × List MemPlace} (hf : DataW.trod enc Tryz.prog W 0 (fun _ => true) true fuel 26 cs = some x) : ∃ (ad : Option Addr) (cap : Nat) (l : List (Int × Int × Int)), cs = [.slice ad l.length cap] ∧ RdN W ad l ∧ (ad = none → cap = 0) ∧ l.length ≤ cap := by
  obtain ⟨d, p⟩ := x
  rcases Deep.open_slice Tryz.underlying26 hf with ⟨hcs, _⟩ | ⟨a, len, cap, m, n, D, Pl, hcs, _, hlc, hcm, hmm, hx, hel⟩
  · exact ⟨none, 0, [], hcs, fun h => absurd rfl h, fun _ => rfl, Nat.le_refl _⟩
  · have hm : m = cap := by simpa using hmm
    have each : ∀ i, i < len → ∃ x : Int × Int × Int, W.cell? (a.add (i * 3)) = some (.int .i64 x.1) ∧ W.cell? (a.add (i * 3 + 1)) = some (.int .i64 x.2.1) ∧ W.cell? (a.add (i * 3 + 2)) = some (.int .i64 x.2.2) := by
      intro i hi
      obtain ⟨cs, h1, h2⟩ := hel i (by omega)
      rw [cellsNM] at h1
      obtain ⟨_, hlen, hcell⟩ := World.cells?_some h1
      obtain ⟨o, t, k, rfl⟩ := one_nt hlen h2
      have e0 := hcell 0 (by omega)
      have e1 := hcell 1 (by omega)
      have e2 := hcell 2 (by omega)
      rw [Deep.add_add] at e0 e1 e2
      exact ⟨(o, t, k), by simpa using e0, by simpa using e1, by simpa using e2⟩
    obtain ⟨q, hq⟩ := Deep.choose_lt each
    refine ⟨some a, cap, (List.range len).map q, by simpa using hcs, fun hne => ?_, fun e => (by cases e), by simpa using hlc⟩
    have hpos : 0 < len := by
      cases len with
      | zero => simp at hne
      | succ n => omega
    obtain ⟨b', off', x'⟩ := a
    have hx' : x' = none := by simpa [Addr.add] using World.cell?_spot (hq 0 hpos).1
    subst hx'
    have hadd : ∀ j, (⟨b', off', none⟩ : Addr).add j = ⟨b', off' + j, none⟩ := fun j => by unfold Addr.add; split <;> simp_all
    refine ⟨b', off', rfl, ?_, fun k y hy => ?_⟩
    · have := cell_ltM (hq 0 hpos).1
      rw [hadd] at this
      exact this
    · rw [List.getElem?_map] at hy
      obtain ⟨k', hk', rfl⟩ := Option.map_eq_some_iff.1 hy
      have hk := (List.getElem?_eq_some_iff.1 hk').1
      simp at hk
      have hkk : k' = k := by
        rw [List.getElem?_range hk] at hk'
        exact (Option.some.inj hk').symm
      subst hkk
      obtain ⟨c0, c1, c2⟩ := hq k' hk
      rw [hadd] at c0 c1 c2
      exact ⟨c0, by simpa [Nat.add_assoc] using c1, by simpa [Nat.add_assoc] using c2⟩
/-- A slice of slices of notices. -/
def RdNN (W : World) (ad : Option Addr) (ls : List (List (Int × Int × Int))) : Prop := ls ≠ [] → ∃ b off, ad = some ⟨b, off, none⟩ ∧ b < W.heap.size ∧ ∀ (i : Nat) (l : List (Int × Int × Int)), ls[i]? = some l → ∃ adi capi, W.cell? ⟨b, off + i, none⟩ = some (.slice adi l.length capi) ∧ RdN W adi l ∧ (adi = none → capi = 0)
set_option maxRecDepth 100000 in
theorem RdNN.carry {W W' : World} {ad : Option Addr} {ls : List (List (Int × Int × Int))} (h : RdNN W ad ls) (hb : Below W.heap.size W W') : RdNN W' ad ls := by
  intro hl
  obtain ⟨b, off, h1, h2, h3⟩ := h hl
  refine ⟨b, off, h1, Nat.lt_of_lt_of_le h2 hb.size, fun i l hi => ?_⟩
  obtain ⟨adi, capi, c, hr, hc⟩ := h3 i l hi
  exact ⟨adi, capi, (hb.cell (p := ⟨b, _, none⟩) h2).trans c, hr.carry hb, hc⟩
set_option maxRecDepth 100000 in
theorem cellsSM : Tryz.prog.cellsOf 26 = 1 := by kernel_rfl
set_option maxRecDepth 100000 in
set_option maxRecDepth 100000 in
theorem open_ntss {H : Type} {enc : TypeId × Value → H} {W : World} {base : Nat} {v : Value} {d : DataW H} {p : List MemPlace} (hval : Value.okWide Tryz.prog W .any base 22 v)
    (h : DataW.Trod enc Tryz.prog W 0 (fun _ => true) true 22 v d p) : ∃ (ad : Option Addr) (cap : Nat) (ls : List (List (Int × Int × Int))), v = .slice ad ls.length cap ∧ RdNN W ad ls := by
  obtain ⟨a0, len0, cap0, rfl⟩ := okWide_slice Tryz.underlying22 hval
  obtain ⟨fuel, hf⟩ := h
  rcases Deep.open_slice Tryz.underlying22 hf with ⟨hcs, _⟩ | ⟨a, len, cap, m, n, D, Pl, hcs, _, hlc, hcm, hmm, hx, hel⟩
  · simp [Value.cells] at hcs
    obtain ⟨rfl, rfl, rfl⟩ := hcs
    exact ⟨none, 0, [], rfl, fun h => absurd rfl h⟩
  · simp [Value.cells] at hcs
    obtain ⟨rfl, rfl, rfl⟩ := hcs
    have hm : m = cap0 := by simpa using hmm
    have each : ∀ i, i < len0 → ∃ l : List (Int × Int × Int), ∃ adi capi, W.cell? (a.add i) = some (.slice adi l.length capi) ∧ RdN W adi l ∧ (adi = none → capi = 0) := by
      intro i hi
      obtain ⟨cs, h1, h2⟩ := hel i (by omega)
      rw [cellsSM] at h1
      obtain ⟨_, hlen, hcell⟩ := World.cells?_some h1
      obtain ⟨adi, capi, l, rfl, hr, hc, _⟩ := cs_nts h2
      have e0 := hcell 0 (by omega)
      rw [Deep.add_add] at e0
      exact ⟨l, adi, capi, by simpa using e0, hr, hc⟩
    obtain ⟨q, hq⟩ := Deep.choose_lt each
    refine ⟨some a, cap0, (List.range len0).map q, by simp, fun hne => ?_⟩
    have hpos : 0 < len0 := by
      cases len0 with
      | zero => simp at hne
      | succ n => omega
    obtain ⟨b', off', x'⟩ := a
    obtain ⟨ad0, cap0', c0, _⟩ := hq 0 hpos
    have hx' : x' = none := by simpa [Addr.add] using World.cell?_spot c0
    subst hx'
    have hadd : ∀ j, (⟨b', off', none⟩ : Addr).add j = ⟨b', off' + j, none⟩ := fun j => by unfold Addr.add; split <;> simp_all
    refine ⟨b', off', rfl, ?_, fun k y hy => ?_⟩
    · have := cell_ltM c0
      rw [hadd] at this
      exact this
    · rw [List.getElem?_map] at hy
      obtain ⟨k', hk', rfl⟩ := Option.map_eq_some_iff.1 hy
      have hk := (List.getElem?_eq_some_iff.1 hk').1
      simp at hk
      have hkk : k' = k := by
        rw [List.getElem?_range hk] at hk'
        exact (Option.some.inj hk').symm
      subst hkk
      obtain ⟨adi, capi, c, hr⟩ := hq k' hk
      rw [hadd] at c
      exact ⟨adi, capi, c, hr⟩
end Go.Proofs.YtddblfffjhoiaabGreat
