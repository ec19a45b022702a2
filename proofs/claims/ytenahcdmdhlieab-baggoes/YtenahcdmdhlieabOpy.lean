/- A list of bytes' lists, handed in. -/
import Derived.Test.YtenahcdmdhlieabBgm
import Derived.Test.YtenahcdmdhlieabRows
import Derived.ProofKit
import Derived.OpenShut
import Derived.ChangeOld
import Derived.ChangeSlices
import Derived.Below
import Derived.Deep.Slices
import Derived.Deep.Strs
namespace Go.Proofs.Ytenahcdmdhlieab
open Go.ChangeShapes Go.WideShapes Go.ChangeAt Go.RowKit

/-- A slice of bytes below B. -/
def RdU (W : World) (B : Nat) (a : Option Addr) (d : List Nat) : Prop := d ≠ [] → ∃ b off, a = some ⟨b, off, none⟩ ∧ b < B ∧ BAt W b off d
/-- Slices of bytes, below B. -/
def RdYY (W : World) (B : Nat) (ad : Option Addr) (ls : List (List Nat)) : Prop := ∀ (n : Nat) (d : List Nat), ls[n]? = some d → ∃ b off a c, ad = some ⟨b, off, none⟩ ∧ b < B ∧ W.cell? ⟨b, off + n, none⟩ = some (.slice a d.length c) ∧ RdU W B a d ∧ Byt d
theorem RdU.rd {W : World} {B : Nat} {a : Option Addr} {d : List Nat} (h : RdU W B a d) (hB : B ≤ W.heap.size) : RdB W a d := fun hn => by
  obtain ⟨b, off, h1, h2, h3⟩ := h hn
  exact ⟨b, off, h1, by omega, h3⟩
theorem RdYY.carry {W W' : World} {B : Nat} {ad : Option Addr} {ls : List (List Nat)} (h : RdYY W B ad ls) (hb : Below B W W') : RdYY W' B ad ls := fun n d hn => by
  obtain ⟨b, off, a, c, h1, h2, c0, h3, h4⟩ := h n d hn
  refine ⟨b, off, a, c, h1, h2, (hb.cell (p := ⟨b, _, none⟩) h2).trans c0, fun hd => ?_, h4⟩
  obtain ⟨b', off', e1, e2, e3⟩ := h3 hd
  exact ⟨b', off', e1, e2, e3.carry (hb.block _ e2)⟩
theorem idx_Y (g off n cap k : Nat) (h : k < n) (w : World) : (Instr.indexAt 22 (.slice (some ⟨g, off, none⟩) n cap) (.int .i64 (k : Int))).run Try.prog w = .ok (.pointer (some ⟨g, off + k, none⟩)) w := by
  have h1 : (k : Int) < (n : Int) := by omega
  go_simp
theorem cellsSb : Try.prog.cellsOf 28 = 1 := by kernel_rfl
theorem cell_ltM {W : World} {a : Addr} {v : Value} (h : W.cell? a = some v) : a.block < W.heap.size := by
  unfold World.cell? at h
  cases hb : W.heap[a.block]? with
  | none => simp [hb] at h
  | some o => exact (Array.getElem?_eq_some_iff.1 hb).1
theorem wf_u8 {z : Int} (h : (Lit.int .u8 z).wf = true) : 0 ≤ z ∧ z < 256 := by
  simp [Lit.wf] at h
  have h1 : IntKind.u8.min = 0 := rfl
  have h2 : IntKind.u8.max = 255 := rfl
  omega
set_option maxRecDepth 100000 in
/-- Bytes, out of their cell. -/
theorem cs_bytes {H : Type} {enc : TypeId × Value → H} {W : World} {fuel : Nat} {c : Value} {x : DataW H × List MemPlace} (hf : DataW.trod enc Try.prog W 0 (fun _ => true) true fuel 28 [c] = some x) : ∃ (ad : Option Addr) (cap : Nat) (l : List Nat), c = .slice ad l.length cap ∧ RdU W W.heap.size ad l ∧ Byt l := by
  rcases open_ints Try.underlying28 Try.underlying5 (by kernel_rfl) hf with ⟨hcs, _⟩ | ⟨x, l, c', zs, hcs, _, hl, hm, hz, _, hcell, hwz⟩
  · simp at hcs
    subst hcs
    exact ⟨none, 0, [], rfl, fun h => absurd rfl h, byt_nil⟩
  · simp at hcs
    subst hcs
    have hz' : zs.length = c' := by simpa using hz
    have hlen : ((zs.take l).map Int.toNat).length = l := by simp; omega
    have hzw : ∀ z ∈ zs, 0 ≤ z ∧ z < 256 := fun z hzm => wf_u8 (hwz z hzm)
    refine ⟨some x, c', (zs.take l).map Int.toNat, by rw [hlen], fun hne => ?_, ?_⟩
    · have hpos : 0 < l := by
        cases l with
        | zero => simp at hne
        | succ n => omega
      obtain ⟨b, off, s⟩ := x
      have c0 := hcell 0 (by omega)
      have hs : s = none := by
        have := World.cell?_spot c0
        simpa [Addr.add] using this
      subst hs
      have hadd : ∀ j, (⟨b, off, none⟩ : Addr).add j = ⟨b, off + j, none⟩ := fun j => add_pl b off j
      refine ⟨b, off, rfl, ?_, fun k y hy => ?_⟩
      · have := cell_ltM c0
        rw [hadd] at this
        exact this
      · rw [List.getElem?_map] at hy
        obtain ⟨z, hz1, rfl⟩ := Option.map_eq_some_iff.1 hy
        rw [List.getElem?_take] at hz1
        split at hz1
        · rename_i hk
          have hzm := hzw z (List.mem_of_getElem? hz1)
          have := hcell k (by omega)
          rw [hadd, List.getD_eq_getElem?_getD, hz1] at this
          rw [this, Int.toNat_of_nonneg hzm.1]
          rfl
        · cases hz1
    · intro y hy
      obtain ⟨z, hz1, rfl⟩ := List.mem_map.1 hy
      have := hzw z (List.mem_of_mem_take hz1)
      omega
set_option maxRecDepth 100000 in
theorem open_byss {H : Type} {enc : TypeId × Value → H} {W : World} {base : Nat} {v : Value} {d : DataW H} {p : List MemPlace} (hval : Value.okWide Try.prog W .any base 22 v)
    (h : DataW.Trod enc Try.prog W 0 (fun _ => true) true 22 v d p) : ∃ (ad : Option Addr) (cap : Nat) (l : List (List Nat)), v = .slice ad l.length cap ∧ RdYY W W.heap.size ad l ∧ l.length ≤ cap ∧ cap ≤ maxLen := by
  obtain ⟨a0, len0, cap0, rfl⟩ := okWide_slice Try.underlying22 hval
  obtain ⟨fuel, hf⟩ := h
  rcases Deep.open_slice Try.underlying22 hf with ⟨hcs, _⟩ | ⟨a, len, cap, m, n, D, Pl, hcs, _, hlc, hcm, hmm, hx, hel⟩
  · simp [Value.cells] at hcs
    obtain ⟨rfl, rfl, rfl⟩ := hcs
    exact ⟨none, 0, [], rfl, fun n o h => by simp at h, Nat.le_refl _, by unfold maxLen; simp⟩
  · simp [Value.cells] at hcs
    obtain ⟨rfl, rfl, rfl⟩ := hcs
    have hm : m = cap0 := by simpa using hmm
    have each : ∀ i, i < len0 → ∃ l : List Nat, ∃ (a' : Option Addr) (c : Nat), W.cell? (a.add i) = some (.slice a' l.length c) ∧ RdU W W.heap.size a' l ∧ Byt l := by
      intro i hi
      obtain ⟨cs, h1, h2⟩ := hel i (by omega)
      rw [cellsSb] at h1
      obtain ⟨_, hlen, hcell⟩ := World.cells?_some h1
      match cs, hlen with
      | [c0], _ =>
        obtain ⟨a', c, l, rfl, hr, hb⟩ := cs_bytes h2
        have e0 := hcell 0 (by omega)
        rw [Deep.add_add] at e0
        exact ⟨l, a', c, by simpa using e0, hr, hb⟩
    obtain ⟨q, hq⟩ := Deep.choose_lt each
    refine ⟨some a, cap0, (List.range len0).map q, by simp, fun k y hy => ?_, by simpa using hlc, hcm⟩
    rw [List.getElem?_map] at hy
    obtain ⟨k', hk', rfl⟩ := Option.map_eq_some_iff.1 hy
    have hk := (List.getElem?_eq_some_iff.1 hk').1
    simp at hk
    have hkk : k' = k := by
      rw [List.getElem?_range hk] at hk'
      exact (Option.some.inj hk').symm
    subst hkk
    obtain ⟨_, _, c00, _⟩ := hq 0 (by omega)
    obtain ⟨a', c, c0, hr, hb⟩ := hq k' hk
    obtain ⟨b', off', x'⟩ := a
    have hx' : x' = none := by simpa [Addr.add] using World.cell?_spot c00
    subst hx'
    have hadd : ∀ j, (⟨b', off', none⟩ : Addr).add j = ⟨b', off' + j, none⟩ := fun j => add_pl b' off' j
    have hlt := cell_ltM c0
    rw [hadd] at c0 hlt
    exact ⟨b', off', a', c, rfl, hlt, c0, hr, hb⟩
end Go.Proofs.Ytenahcdmdhlieab
