/- Replies, handed in. -/
import Derived.Test.YtgehmidalfajgaaOpn
import Derived.Test.YtgehmidalfajgaaYwa
import Derived.Test.YtgehmidalfajgaaRows
import Derived.ProofKit
import Derived.OpenShut
import Derived.ChangeOld
import Derived.ChangeSlices
import Derived.Below
import Derived.Deep.Slices
import Derived.Deep.Strs
namespace Go.Proofs.Ytgehmidalfajgaa
open Go.ChangeShapes Go.WideShapes Go.ChangeAt Go.RowKit

structure Rp where
  f : Int
  r : Int
  N : Nat
instance : Inhabited Rp := ⟨⟨0, 0, 0⟩⟩
/-- These cells lie there. -/
def RpAt (W : World) (b off : Nat) (o : Rp) : Prop := W.cell? ⟨b, off, none⟩ = some (.int .i64 o.f) ∧ W.cell? ⟨b, off + 1, none⟩ = some (.int .i64 o.r) ∧ W.cell? ⟨b, off + 2, none⟩ = some (.int .u32 (wd o.N 0 : Nat)) ∧ W.cell? ⟨b, off + 3, none⟩ = some (.int .u32 (wd o.N 1 : Nat)) ∧ W.cell? ⟨b, off + 4, none⟩ = some (.int .u32 (wd o.N 2 : Nat)) ∧ W.cell? ⟨b, off + 5, none⟩ = some (.int .u32 (wd o.N 3 : Nat))
/-- A list of them, below B. -/
def RdP (W : World) (B : Nat) (ad : Option Addr) (ops : List Rp) : Prop := ∀ (n : Nat) (o : Rp), ops[n]? = some o → ∃ b off, ad = some ⟨b, off, none⟩ ∧ b < B ∧ RpAt W b (off + n * 6) o ∧ (Lit.int .i64 o.f).wf = true ∧ (Lit.int .i64 o.r).wf = true ∧ o.N < S128
theorem RpAt.carry {W V : World} {base b off : Nat} {o : Rp} (h : RpAt W b off o) (hV : Below base W V) (hb : b < base) : RpAt V b off o := by
  have e := hV.block b hb
  obtain ⟨h0, h1, h2, h3, h4, h5⟩ := h
  exact ⟨(World.cell?_of_block (a := ⟨b, _, none⟩) e).trans h0, (World.cell?_of_block (a := ⟨b, _, none⟩) e).trans h1, (World.cell?_of_block (a := ⟨b, _, none⟩) e).trans h2, (World.cell?_of_block (a := ⟨b, _, none⟩) e).trans h3, (World.cell?_of_block (a := ⟨b, _, none⟩) e).trans h4, (World.cell?_of_block (a := ⟨b, _, none⟩) e).trans h5⟩
theorem cellsIOpp : Try.prog.cellsOf 3 = 1 := by kernel_rfl
theorem cellsOpp : Try.prog.cellsOf 37 = 6 := by kernel_rfl
theorem cell_ltOpp {W : World} {a : Addr} {v : Value} (h : W.cell? a = some v) : a.block < W.heap.size := by
  unfold World.cell? at h
  cases hb : W.heap[a.block]? with
  | none => simp [hb] at h
  | some o => exact (Array.getElem?_eq_some_iff.1 hb).1
set_option maxRecDepth 100000 in
theorem one_Opp {H : Type} {enc : TypeId × Value → H} {W : World} {n : Nat} {cs : List Value} {x : DataW H × List MemPlace} (hl : cs.length = 6) (h : DataW.trod enc Try.prog W 0 (fun _ => true) true n 37 cs = some x) : ∃ o : Rp, cs = [.int .i64 o.f, .int .i64 o.r, .int .u32 (wd o.N 0 : Nat), .int .u32 (wd o.N 1 : Nat), .int .u32 (wd o.N 2 : Nat), .int .u32 (wd o.N 3 : Nat)] ∧ (Lit.int .i64 o.f).wf = true ∧ (Lit.int .i64 o.r).wf = true ∧ o.N < S128 := by
  obtain ⟨xs, m, _, _, _, hlen, hfs⟩ := DataW.trod_struct Try.underlying37 h
  match xs, hlen, cs, hl with
  | [y0, y1, y2], _, [c0, c1, c2, c3, c4, c5], _ =>
    have g0 := hfs 0 _ rfl
    have g1 := hfs 1 _ rfl
    have g2 := hfs 2 _ rfl
    simp [cellsIOpp, cellsS] at g0 g1 g2
    obtain ⟨x0, e0, _, w0⟩ := DataW.trod_int Try.underlying3 g0
    obtain ⟨x1, e1, _, w1⟩ := DataW.trod_int Try.underlying3 g1
    obtain ⟨z0, z1, z2, z3, m2, hx, hy0, hy1, hy2, hy3⟩ := trod_array4 Try.underlying24 cellsW g2
    obtain ⟨u0, f0, _, v0⟩ := DataW.trod_int Try.underlying22 hy0
    obtain ⟨u1, f1, _, v1⟩ := DataW.trod_int Try.underlying22 hy1
    obtain ⟨u2, f2, _, v2⟩ := DataW.trod_int Try.underlying22 hy2
    obtain ⟨u3, f3, _, v3⟩ := DataW.trod_int Try.underlying22 hy3
    simp at e0 e1 f0 f1 f2 f3
    subst e0 e1 f0 f1 f2 f3
    obtain ⟨n0, rfl, b0⟩ := nat_of_u32 v0
    obtain ⟨n1, rfl, b1⟩ := nat_of_u32 v1
    obtain ⟨n2, rfl, b2⟩ := nat_of_u32 v2
    obtain ⟨n3, rfl, b3⟩ := nat_of_u32 v3
    refine ⟨⟨x0, x1, joinW n0 n1 n2 n3⟩, ?_, w0, w1, join_lt _ _ _ _ b0 b1 b2 b3⟩
    rw [wd_join0 _ _ _ _ b0, wd_join1 _ _ _ _ b0 b1, wd_join2 _ _ _ _ b0 b1 b2, wd_join3 _ _ _ _ b0 b1 b2 b3]
set_option maxRecDepth 100000 in
theorem open_reps {H : Type} {enc : TypeId × Value → H} {W : World} {base : Nat} {v : Value} {d : DataW H} {p : List MemPlace} (hval : Value.okWide Try.prog W .any base 25 v)
    (h : DataW.Trod enc Try.prog W 0 (fun _ => true) true 25 v d p) : ∃ (ad : Option Addr) (cap : Nat) (l : List Rp), v = .slice ad l.length cap ∧ RdP W W.heap.size ad l ∧ l.length ≤ cap ∧ cap ≤ maxLen := by
  obtain ⟨a0, len0, cap0, rfl⟩ := okWide_slice Try.underlying25 hval
  obtain ⟨fuel, hf⟩ := h
  rcases Deep.open_slice Try.underlying25 hf with ⟨hcs, _⟩ | ⟨a, len, cap, m, n, D, Pl, hcs, _, hlc, hcm, hmm, hx, hel⟩
  · simp [Value.cells] at hcs
    obtain ⟨rfl, rfl, rfl⟩ := hcs
    exact ⟨none, 0, [], rfl, fun n o h => by simp at h, Nat.le_refl _, by unfold maxLen; simp⟩
  · simp [Value.cells] at hcs
    obtain ⟨rfl, rfl, rfl⟩ := hcs
    have hm : m = cap0 := by simpa using hmm
    have each : ∀ i, i < len0 → ∃ o : Rp, (W.cell? (a.add (i * 6)) = some (.int .i64 o.f) ∧ W.cell? (a.add (i * 6 + 1)) = some (.int .i64 o.r) ∧ W.cell? (a.add (i * 6 + 2)) = some (.int .u32 (wd o.N 0 : Nat)) ∧ W.cell? (a.add (i * 6 + 3)) = some (.int .u32 (wd o.N 1 : Nat)) ∧ W.cell? (a.add (i * 6 + 4)) = some (.int .u32 (wd o.N 2 : Nat)) ∧ W.cell? (a.add (i * 6 + 5)) = some (.int .u32 (wd o.N 3 : Nat))) ∧ (Lit.int .i64 o.f).wf = true ∧ (Lit.int .i64 o.r).wf = true ∧ o.N < S128 := by
      intro i hi
      obtain ⟨cs, h1, h2⟩ := hel i (by omega)
      rw [cellsOpp] at h1
      obtain ⟨_, hlen, hcell⟩ := World.cells?_some h1
      obtain ⟨o, rfl, hwf⟩ := one_Opp hlen h2
      have e0 := hcell 0 (by omega)
      have e1 := hcell 1 (by omega)
      have e2 := hcell 2 (by omega)
      have e3 := hcell 3 (by omega)
      have e4 := hcell 4 (by omega)
      have e5 := hcell 5 (by omega)
      rw [Deep.add_add] at e0 e1 e2 e3 e4 e5
      exact ⟨o, ⟨by simpa using e0, by simpa using e1, by simpa using e2, by simpa using e3, by simpa using e4, by simpa using e5⟩, hwf⟩
    obtain ⟨q, hq⟩ := Deep.choose_lt each
    refine ⟨some a, cap0, (List.range len0).map q, by simp, fun k y hy => ?_, by simpa using hlc, hcm⟩
    rw [List.getElem?_map] at hy
    obtain ⟨k', hk', rfl⟩ := Option.map_eq_some_iff.1 hy
    have hk := (List.getElem?_eq_some_iff.1 hk').1
    simp at hk
    have hkk : k' = k := by
      rw [List.getElem?_range hk] at hk'
      exact (Option.some.inj hk').symm
    subst hkk
    obtain ⟨⟨c00, _⟩, _⟩ := hq 0 (by omega)
    obtain ⟨⟨c0, c1, c2, c3, c4, c5⟩, hwf⟩ := hq k' hk
    obtain ⟨b', off', x'⟩ := a
    have hx' : x' = none := by simpa [Addr.add] using World.cell?_spot c00
    subst hx'
    have hadd : ∀ j, (⟨b', off', none⟩ : Addr).add j = ⟨b', off' + j, none⟩ := fun j => add_pl b' off' j
    have hlt := cell_ltOpp c0
    rw [hadd] at c0 c1 c2 c3 c4 c5 hlt
    exact ⟨b', off', rfl, hlt, ⟨c0, by simpa [Nat.add_assoc] using c1, by simpa [Nat.add_assoc] using c2, by simpa [Nat.add_assoc] using c3, by simpa [Nat.add_assoc] using c4, by simpa [Nat.add_assoc] using c5⟩, hwf⟩
end Go.Proofs.Ytgehmidalfajgaa
