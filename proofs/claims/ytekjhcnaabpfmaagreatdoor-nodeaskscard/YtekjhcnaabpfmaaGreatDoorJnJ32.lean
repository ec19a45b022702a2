import Derived.Test.YtekjhcnaabpfmaaGreatDoorJnJ15
import Derived.Test.YtekjhcnaabpfmaaGreatDoorJnJ5
import Derived.Test.YtekjhcnaabpfmaaGreatDoorRows
import Derived.ProofKit
import Derived.OpenShut
import Derived.Laws.IdiomArrays
import Derived.ChangeOld
import Derived.Below
import Derived.Deep.Slices
import Derived.Deep.Strs
import Derived.Test.YtekjhcnaabpfmaaGreatDoorJnJ18
import Derived.ChangeSlices
set_option maxHeartbeats 40000000
set_option maxRecDepth 100000
set_option linter.unusedVariables false
namespace Go.Proofs.YtekjhcnaabpfmaaGreatDoor
open Go.RowKit Go.Shelf
end Go.Proofs.YtekjhcnaabpfmaaGreatDoor
namespace Go.Proofs.YtekjhcnaabpfmaaGreatDoor
open Go.ChangeShapes Go.WideShapes Go.ChangeAt Go.RowKit
theorem cellsW : Tryz.prog.cellsOf 33 = 1 := by kernel_rfl
theorem nat_of_u32 {x : Int} (h : (Lit.int .u32 x).wf = true) : ∃ n : Nat, x = (n : Int) ∧ n < 4294967296 := by
 have := bounds_u32 h
 exact ⟨x.toNat, by omega, by omega⟩
theorem cellsIM : Tryz.prog.cellsOf 3 = 1 := by kernel_rfl
theorem cellsNM : Tryz.prog.cellsOf 65 = 3 := by kernel_rfl
theorem cell_ltM {W : World} {a : Addr} {v : Value} (h : W.cell? a = some v) : a.block < W.heap.size := by
 unfold World.cell? at h
 cases hb : W.heap[a.block]? with
 | none => simp [hb] at h
 | some o => exact (Array.getElem?_eq_some_iff.1 hb).1
theorem one_nt {H : Type} {enc : TypeId × Value → H} {W : World} {n : Nat} {cs : List Value} {x : DataW H × List MemPlace} (hl : cs.length = 3) (h : DataW.trod enc Tryz.prog W 0 (fun _ => true) true n 65 cs = some x) : ∃ o t k : Int, cs = [.int .i64 o, .int .i64 t, .int .i64 k] := by
 obtain ⟨y0, y1, y2, m, hx, _, hy0, hy1, hy2⟩ := Deep.trod_struct3 Tryz.underlying65 h
 match cs, hl with
 | [c0, c1, c2], _ =>
  obtain ⟨x0, e0, _, _⟩ := DataW.trod_int Tryz.underlying3 hy0
  obtain ⟨x1, e1, _, _⟩ := DataW.trod_int Tryz.underlying3 hy1
  obtain ⟨x2, e2, _, _⟩ := DataW.trod_int Tryz.underlying3 hy2
  simp [cellsIM] at e0 e1 e2
  subst e0 e1 e2
  exact ⟨x0, x1, x2, rfl⟩
theorem wf_u8 {z : Int} (h : (Lit.int .u8 z).wf = true) : 0 ≤ z ∧ z < 256 := by
 simp [Lit.wf] at h
 have h1 : IntKind.u8.min = 0 := rfl
 have h2 : IntKind.u8.max = 255 := rfl
 omega
theorem nts_of_trod {H : Type} {enc : TypeId × Value → H} {W : World} {fuel : Nat} {c : Value} {x : DataW H × List MemPlace}
   (hf : DataW.trod enc Tryz.prog W 0 (fun _ => true) true fuel 36 [c] = some x) : ∃ (ad : Option Addr) (cap : Nat) (l : List (Int × Int × Int)), c = .slice ad l.length cap ∧ RdN W ad l ∧ (ad = none → cap = 0) ∧ l.length ≤ cap := by
 rcases Deep.open_slice Tryz.underlying36 hf with ⟨hcs, _⟩ | ⟨a, len0, cap0, m, n, D, Pl, hcs, _, hlc, hcm, hmm, hx, hel⟩
 · simp only [List.cons.injEq, and_true] at hcs
   subst hcs
   exact ⟨none, 0, [], rfl, fun h => absurd rfl h, fun _ => rfl, Nat.le_refl _⟩
 · simp only [List.cons.injEq, and_true] at hcs
   subst hcs
   have hm : m = cap0 := by simpa using hmm
   have each : ∀ i, i < len0 → ∃ x : Int × Int × Int, W.cell? (a.add (i * 3)) = some (.int .i64 x.1) ∧ W.cell? (a.add (i * 3 + 1)) = some (.int .i64 x.2.1) ∧ W.cell? (a.add (i * 3 + 2)) = some (.int .i64 x.2.2) := by
     intro i hi
     obtain ⟨cs, h1, h2⟩ := hel i (by omega)
     rw [cellsNM] at h1
     obtain ⟨_, hlen, hcell⟩ := World.cells?_some h1
     obtain ⟨o, t, k, rfl⟩ := one_nt hlen h2
     have e0 := hcell 0 (by omega)
     have e1 := hcell 1 (by omega)
     have e2 := hcell 2 (by omega)
     rw [Deep.add_add] at e0 e1 e2
     exact ⟨(o, t, k), by simpa using e0, by simpa using e1, by simpa using e2⟩
   obtain ⟨q, hq⟩ := Deep.choose_lt each
   refine ⟨some a, cap0, (List.range len0).map q, by simp, fun hne => ?_, (by intro e; cases e), (by simpa using hlc)⟩
   have hpos : 0 < len0 := by
     cases len0 with
     | zero => simp at hne
     | succ n => omega
   obtain ⟨b', off', x'⟩ := a
   have hx' : x' = none := by simpa [Addr.add] using World.cell?_spot (hq 0 hpos).1
   subst hx'
   have hadd : ∀ j, (⟨b', off', none⟩ : Addr).add j = ⟨b', off' + j, none⟩ := fun j => by unfold Addr.add; split <;> simp_all
   refine ⟨b', off', rfl, ?_, fun k y hy => ?_⟩
   · have := cell_ltM (hq 0 hpos).1
     rw [hadd] at this
     exact this
   · rw [List.getElem?_map] at hy
     obtain ⟨k', hk', rfl⟩ := Option.map_eq_some_iff.1 hy
     have hk := (List.getElem?_eq_some_iff.1 hk').1
     simp at hk
     have hkk : k' = k := by
      rw [List.getElem?_range hk] at hk'
      exact (Option.some.inj hk').symm
     subst hkk
     obtain ⟨c0, c1, c2⟩ := hq k' hk
     rw [hadd] at c0 c1 c2
     exact ⟨c0, by simpa [Nat.add_assoc] using c1, by simpa [Nat.add_assoc] using c2⟩
theorem cellsSW : Tryz.prog.cellsOf 35 = 4 := by kernel_rfl
theorem cellsSl : Tryz.prog.cellsOf 36 = 1 := by kernel_rfl
theorem cellsRN : Tryz.prog.cellsOf 38 = 8 := by kernel_rfl
def rnv (k f r : Int) (N : Nat) (v : Value) : Value := .agg #[.int .i64 k, .int .i64 f, .int .i64 r, .int .u32 (wd N 0 : Nat), .int .u32 (wd N 1 : Nat), .int .u32 (wd N 2 : Nat), .int .u32 (wd N 3 : Nat), v]
end Go.Proofs.YtekjhcnaabpfmaaGreatDoor
