/- Events, handed in. -/
import Derived.Test.YtgnhainfcfcodaaGreatAuj
import Derived.Test.YtgnhainfcfcodaaGreatOpn
import Derived.Test.YtgnhainfcfcodaaGreatRows
import Derived.ProofKit
import Derived.OpenShut
import Derived.ChangeOld
import Derived.ChangeSlices
import Derived.Below
import Derived.Deep.Slices
import Derived.Deep.Strs
namespace Go.Proofs.YtgnhainfcfcodaaGreat
open Go.ChangeShapes Go.WideShapes Go.ChangeAt Go.RowKit

instance : Inhabited Ev := ⟨e0⟩
theorem cellsEv : Tryz.prog.cellsOf 59 = 15 := by kernel_rfl
theorem cellsIv : Tryz.prog.cellsOf 3 = 1 := by kernel_rfl
theorem cellsSv : Tryz.prog.cellsOf 57 = 4 := by kernel_rfl
theorem cell_ltE {W : World} {a : Addr} {v : Value} (h : W.cell? a = some v) : a.block < W.heap.size := by
  unfold World.cell? at h
  cases hb : W.heap[a.block]? with
  | none => simp [hb] at h
  | some o => exact (Array.getElem?_eq_some_iff.1 hb).1
set_option maxRecDepth 100000 in
theorem set_of_trod {H : Type} {enc : TypeId × Value → H} {W : World} {n : Nat} {c0 c1 c2 c3 : Value} {x : DataW H × List MemPlace} (h : DataW.trod enc Tryz.prog W 0 (fun _ => true) true n 57 [c0, c1, c2, c3] = some x) : ∃ N : Nat, [c0, c1, c2, c3] = [.int .u32 (wd N 0 : Nat), .int .u32 (wd N 1 : Nat), .int .u32 (wd N 2 : Nat), .int .u32 (wd N 3 : Nat)] ∧ N < S128 := by
  obtain ⟨z0, z1, z2, z3, m2, hx, hy0, hy1, hy2, hy3⟩ := trod_array4 Tryz.underlying57 cellsW h
  obtain ⟨u0, f0, _, v0⟩ := DataW.trod_int Tryz.underlying55 hy0
  obtain ⟨u1, f1, _, v1⟩ := DataW.trod_int Tryz.underlying55 hy1
  obtain ⟨u2, f2, _, v2⟩ := DataW.trod_int Tryz.underlying55 hy2
  obtain ⟨u3, f3, _, v3⟩ := DataW.trod_int Tryz.underlying55 hy3
  simp at f0 f1 f2 f3
  subst f0 f1 f2 f3
  obtain ⟨n0, rfl, b0⟩ := nat_of_u32 v0
  obtain ⟨n1, rfl, b1⟩ := nat_of_u32 v1
  obtain ⟨n2, rfl, b2⟩ := nat_of_u32 v2
  obtain ⟨n3, rfl, b3⟩ := nat_of_u32 v3
  refine ⟨joinW n0 n1 n2 n3, ?_, join_lt _ _ _ _ b0 b1 b2 b3⟩
  rw [wd_join0 _ _ _ _ b0, wd_join1 _ _ _ _ b0 b1, wd_join2 _ _ _ _ b0 b1 b2, wd_join3 _ _ _ _ b0 b1 b2 b3]
set_option maxRecDepth 100000 in
theorem one_Ev {H : Type} {enc : TypeId × Value → H} {W : World} {n : Nat} {cs : List Value} {x : DataW H × List MemPlace} (hl : cs.length = 15) (h : DataW.trod enc Tryz.prog W 0 (fun _ => true) true n 59 cs = some x) : ∃ e : Ev, cs = (ecA e).toList ∧ e.he < S128 ∧ e.un < S128 ∧ (Lit.int .i64 e.k).wf = true := by
  obtain ⟨xs, m, _, _, _, hlen, hfs⟩ := DataW.trod_struct Tryz.underlying59 h
  match xs, hlen, cs, hl with
  | [y0, y1, y2, y3, y4, y5, y6, y7, y8], _, [c0, c1, c2, c3, c4, c5, c6, c7, c8, c9, c10, c11, c12, c13, c14], _ =>
    have g0 := hfs 0 _ rfl
    have g1 := hfs 1 _ rfl
    have g2 := hfs 2 _ rfl
    have g3 := hfs 3 _ rfl
    have g4 := hfs 4 _ rfl
    have g5 := hfs 5 _ rfl
    have g6 := hfs 6 _ rfl
    have g7 := hfs 7 _ rfl
    have g8 := hfs 8 _ rfl
    simp [cellsIv, cellsSv] at g0 g1 g2 g3 g4 g5 g6 g7 g8
    obtain ⟨x0, e0, _, w0⟩ := DataW.trod_int Tryz.underlying3 g0
    obtain ⟨x1, e1, _, _⟩ := DataW.trod_int Tryz.underlying3 g1
    obtain ⟨x2, e2, _, _⟩ := DataW.trod_int Tryz.underlying3 g2
    obtain ⟨x3, e3, _, _⟩ := DataW.trod_int Tryz.underlying3 g3
    obtain ⟨x4, e4, _, _⟩ := DataW.trod_int Tryz.underlying3 g4
    obtain ⟨x5, e5, _, _⟩ := DataW.trod_int Tryz.underlying3 g5
    obtain ⟨x6, e6, _, _⟩ := DataW.trod_int Tryz.underlying3 g6
    simp at e0 e1 e2 e3 e4 e5 e6
    subst e0 e1 e2 e3 e4 e5 e6
    obtain ⟨N, e7, hN⟩ := set_of_trod g7
    obtain ⟨M, e8, hM⟩ := set_of_trod g8
    simp only [List.cons.injEq, and_true] at e7 e8
    obtain ⟨rfl, rfl, rfl, rfl⟩ := e7
    obtain ⟨rfl, rfl, rfl, rfl⟩ := e8
    exact ⟨⟨x0, x1, x2, x3, x4, x5, x6, N, M⟩, rfl, hN, hM, w0⟩
set_option maxRecDepth 100000 in
theorem open_events {H : Type} {enc : TypeId × Value → H} {W : World} {base : Nat} {v : Value} {d : DataW H} {p : List MemPlace} (hval : Value.okWide Tryz.prog W .any base 22 v)
    (h : DataW.Trod enc Tryz.prog W 0 (fun _ => true) true 22 v d p) : ∃ (ad : Option Addr) (cap : Nat) (l : List Ev), v = .slice ad l.length cap ∧ RdE W ad l ∧ (ad = none → cap = 0) ∧ l.length ≤ cap ∧ cap ≤ maxLen := by
  obtain ⟨a0, len0, cap0, rfl⟩ := okWide_slice Tryz.underlying22 hval
  obtain ⟨fuel, hf⟩ := h
  rcases Deep.open_slice Tryz.underlying22 hf with ⟨hcs, _⟩ | ⟨a, len, cap, m, n, D, Pl, hcs, _, hlc, hcm, hmm, hx, hel⟩
  · simp [Value.cells] at hcs
    obtain ⟨rfl, rfl, rfl⟩ := hcs
    exact ⟨none, 0, [], rfl, ⟨fun h => absurd rfl h, fun N h => by simp at h⟩, fun _ => rfl, Nat.le_refl _, by unfold maxLen; simp⟩
  · simp [Value.cells] at hcs
    obtain ⟨rfl, rfl, rfl⟩ := hcs
    have hm : m = cap0 := by simpa using hmm
    have each : ∀ i, i < len0 → ∃ e : Ev, (∀ (j : Nat) (v : Value), (ecA e)[j]? = some v → W.cell? (a.add (i * 15 + j)) = some v) ∧ (e.he < S128 ∧ e.un < S128 ∧ (Lit.int .i64 e.k).wf = true) := by
      intro i hi
      obtain ⟨cs, h1, h2⟩ := hel i (by omega)
      rw [cellsEv] at h1
      obtain ⟨_, hlen, hcell⟩ := World.cells?_some h1
      obtain ⟨e, rfl, hok⟩ := one_Ev hlen h2
      refine ⟨e, fun j v hv => ?_, hok⟩
      have hj : j < 15 := by
        have := (Array.getElem?_eq_some_iff.1 hv).1
        simpa [ecA] using this
      have e0 := hcell j (by omega)
      rw [Deep.add_add] at e0
      rw [e0]
      rw [← Array.getElem?_toList] at hv
      obtain ⟨_, hv2⟩ := List.getElem?_eq_some_iff.1 hv
      simp [hv]
    obtain ⟨q, hq⟩ := Deep.choose_lt each
    have hget : ∀ k y, ((List.range len0).map q)[k]? = some y → k < len0 ∧ y = q k := fun k y hy => by
      rw [List.getElem?_map] at hy
      obtain ⟨k', hk', rfl⟩ := Option.map_eq_some_iff.1 hy
      have hk := (List.getElem?_eq_some_iff.1 hk').1
      simp at hk
      rw [List.getElem?_range hk] at hk'
      cases hk'
      exact ⟨hk, rfl⟩
    refine ⟨some a, cap0, (List.range len0).map q, by simp, ⟨fun hne => ?_, fun e he => ?_⟩, fun e => (by cases e), by simpa using hlc, hcm⟩
    · have h0 : 0 < len0 := by
        rcases Nat.eq_zero_or_pos len0 with e | e
        · subst e; simp at hne
        · exact e
      have c00 := (hq 0 h0).1 0 _ rfl
      obtain ⟨b', off', x'⟩ := a
      have hx' : x' = none := by simpa [Addr.add] using World.cell?_spot c00
      subst hx'
      have hadd : ∀ j, (⟨b', off', none⟩ : Addr).add j = ⟨b', off' + j, none⟩ := fun j => add_pl b' off' j
      have hlt := cell_ltE c00
      rw [hadd] at hlt
      refine ⟨b', off', rfl, hlt, fun k y hy i v hv => ?_⟩
      obtain ⟨hk, rfl⟩ := hget k y hy
      have := (hq k hk).1 i v hv
      rw [hadd] at this
      rw [Nat.add_assoc]
      exact this
    · obtain ⟨k, hk⟩ := List.getElem?_of_mem he
      obtain ⟨hk1, rfl⟩ := hget k e hk
      exact (hq k hk1).2
end Go.Proofs.YtgnhainfcfcodaaGreat
