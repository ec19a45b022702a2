/- A []byte, a note of the document's, handed in. -/
import Derived.Test.YtndogopllcpiiaaOpn
import Derived.Test.YtndogopllcpiiaaOpm
import Derived.Test.YtndogopllcpiiaaWrb
import Derived.ChangeSlices
namespace Go.Proofs.Ytndogopllcpiiaa
open Go.ChangeShapes Go.WideShapes Go.ChangeAt Go.RowKit

theorem wf_u8 {z : Int} (h : (Lit.int .u8 z).wf = true) : 0 ≤ z ∧ z < 256 := by
  simp [Lit.wf] at h
  have h1 : IntKind.u8.min = 0 := rfl
  have h2 : IntKind.u8.max = 255 := rfl
  omega
set_option maxRecDepth 100000 in
theorem open_bytes {H : Type} {enc : TypeId × Value → H} {W : World} {base : Nat} {v : Value} {d : DataW H} {p : List MemPlace} (hval : Value.okWide Try.prog W .any base 22 v)
    (h : DataW.Trod enc Try.prog W 0 (fun _ => true) true 22 v d p) : ∃ (ad : Option Addr) (cap : Nat) (l : List Nat), v = .slice ad l.length cap ∧ RdB W ad l ∧ Byt l ∧ l.length ≤ cap ∧ cap ≤ maxLen := by
  obtain ⟨a0, len0, cap0, rfl⟩ := okWide_slice Try.underlying22 hval
  obtain ⟨fuel, hf⟩ := h
  rcases open_ints Try.underlying22 Try.underlying5 (by kernel_rfl) hf with ⟨hcs, _⟩ | ⟨x, l, c, zs, hcs, _, hl, hm, hz, _, hcell, hwz⟩
  · simp [Value.cells] at hcs
    obtain ⟨rfl, rfl, rfl⟩ := hcs
    exact ⟨none, 0, [], rfl, fun h => absurd rfl h, byt_nil, Nat.le_refl _, by unfold maxLen; simp⟩
  · simp [Value.cells] at hcs
    obtain ⟨rfl, rfl, rfl⟩ := hcs
    have hz' : zs.length = cap0 := by simpa using hz
    have hlen : ((zs.take len0).map Int.toNat).length = len0 := by simp; omega
    have hzw : ∀ z ∈ zs, 0 ≤ z ∧ z < 256 := fun z hzm => wf_u8 (hwz z hzm)
    refine ⟨some x, cap0, (zs.take len0).map Int.toNat, by rw [hlen], fun hne => ?_, ?_, by rw [hlen]; exact hl, hm⟩
    · have hpos : 0 < len0 := by
        cases len0 with
        | zero => simp at hne
        | succ n => omega
      obtain ⟨b, off, s⟩ := x
      have c0 := hcell 0 (by omega)
      have hs : s = none := by
        have := World.cell?_spot c0
        simpa [Addr.add] using this
      subst hs
      have hadd : ∀ j, (⟨b, off, none⟩ : Addr).add j = ⟨b, off + j, none⟩ := fun j => add_pl b off j
      refine ⟨b, off, rfl, ?_, fun k y hy => ?_⟩
      · have := cell_ltM c0
        rw [hadd] at this
        exact this
      · rw [List.getElem?_map] at hy
        obtain ⟨z, hz1, rfl⟩ := Option.map_eq_some_iff.1 hy
        rw [List.getElem?_take] at hz1
        split at hz1
        · rename_i hk
          have hzm := hzw z (List.mem_of_getElem? hz1)
          have := hcell k (by omega)
          rw [hadd, List.getD_eq_getElem?_getD, hz1] at this
          rw [this, Int.toNat_of_nonneg hzm.1]
          rfl
        · cases hz1
    · intro y hy
      obtain ⟨z, hz1, rfl⟩ := List.mem_map.1 hy
      have := hzw z (List.mem_of_mem_take hz1)
      omega
set_option maxRecDepth 100000 in
theorem nts_of_trod {H : Type} {enc : TypeId × Value → H} {W : World} {fuel : Nat} {c : Value} {x : DataW H × List MemPlace}
    (hf : DataW.trod enc Try.prog W 0 (fun _ => true) true fuel 39 [c] = some x) : ∃ (ad : Option Addr) (cap : Nat) (l : List (Int × Int × Int)), c = .slice ad l.length cap ∧ RdN W ad l ∧ (ad = none → cap = 0) ∧ l.length ≤ cap := by
  rcases Deep.open_slice Try.underlying39 hf with ⟨hcs, _⟩ | ⟨a, len0, cap0, m, n, D, Pl, hcs, _, hlc, hcm, hmm, hx, hel⟩
  · simp only [List.cons.injEq, and_true] at hcs
    subst hcs
    exact ⟨none, 0, [], rfl, fun h => absurd rfl h, fun _ => rfl, Nat.le_refl _⟩
  · simp only [List.cons.injEq, and_true] at hcs
    subst hcs
    have hm : m = cap0 := by simpa using hmm
    have each : ∀ i, i < len0 → ∃ x : Int × Int × Int, W.cell? (a.add (i * 3)) = some (.int .i64 x.1) ∧ W.cell? (a.add (i * 3 + 1)) = some (.int .i64 x.2.1) ∧ W.cell? (a.add (i * 3 + 2)) = some (.int .i64 x.2.2) := by
      intro i hi
      obtain ⟨cs, h1, h2⟩ := hel i (by omega)
      rw [cellsNM] at h1
      obtain ⟨_, hlen, hcell⟩ := World.cells?_some h1
      obtain ⟨o, t, k, rfl⟩ := one_nt hlen h2
      have e0 := hcell 0 (by omega)
      have e1 := hcell 1 (by omega)
      have e2 := hcell 2 (by omega)
      rw [Deep.add_add] at e0 e1 e2
      exact ⟨(o, t, k), by simpa using e0, by simpa using e1, by simpa using e2⟩
    obtain ⟨q, hq⟩ := Deep.choose_lt each
    refine ⟨some a, cap0, (List.range len0).map q, by simp, fun hne => ?_, (by intro e; cases e), (by simpa using hlc)⟩
    have hpos : 0 < len0 := by
      cases len0 with
      | zero => simp at hne
      | succ n => omega
    obtain ⟨b', off', x'⟩ := a
    have hx' : x' = none := by simpa [Addr.add] using World.cell?_spot (hq 0 hpos).1
    subst hx'
    have hadd : ∀ j, (⟨b', off', none⟩ : Addr).add j = ⟨b', off' + j, none⟩ := fun j => by unfold Addr.add; split <;> simp_all
    refine ⟨b', off', rfl, ?_, fun k y hy => ?_⟩
    · have := cell_ltM (hq 0 hpos).1
      rw [hadd] at this
      exact this
    · rw [List.getElem?_map] at hy
      obtain ⟨k', hk', rfl⟩ := Option.map_eq_some_iff.1 hy
      have hk := (List.getElem?_eq_some_iff.1 hk').1
      simp at hk
      have hkk : k' = k := by
        rw [List.getElem?_range hk] at hk'
        exact (Option.some.inj hk').symm
      subst hkk
      obtain ⟨c0, c1, c2⟩ := hq k' hk
      rw [hadd] at c0 c1 c2
      exact ⟨c0, by simpa [Nat.add_assoc] using c1, by simpa [Nat.add_assoc] using c2⟩
theorem cellsSW : Try.prog.cellsOf 38 = 4 := by kernel_rfl
theorem cellsSl : Try.prog.cellsOf 39 = 1 := by kernel_rfl
theorem cellsRN : Try.prog.cellsOf 41 = 8 := by kernel_rfl
/-- A note of the document's. -/
def rnv (k f r : Int) (N : Nat) (v : Value) : Value := .agg #[.int .i64 k, .int .i64 f, .int .i64 r, .int .u32 (wd N 0 : Nat), .int .u32 (wd N 1 : Nat), .int .u32 (wd N 2 : Nat), .int .u32 (wd N 3 : Nat), v]
set_option maxRecDepth 100000 in
theorem open_note {H : Type} {enc : TypeId × Value → H} {W : World} {base : Nat} {v : Value} {d : DataW H} {p : List MemPlace} (hval : Value.okWide Try.prog W .any base 41 v)
    (h : DataW.Trod enc Try.prog W 0 (fun _ => true) true 41 v d p) : ∃ (k f r : Int) (N : Nat) (ad : Option Addr) (cap : Nat) (l : List (Int × Int × Int)), v = rnv k f r N (.slice ad l.length cap) ∧ N < S128 ∧ (Lit.int .i64 k).wf = true ∧ (Lit.int .i64 f).wf = true ∧ (Lit.int .i64 r).wf = true ∧ RdN W ad l ∧ (ad = none → cap = 0) ∧ l.length ≤ cap := by
  obtain ⟨cs, rfl, hsz, _⟩ : ∃ cs, v = .agg cs ∧ cs.size = Try.prog.cellsOf 41 ∧ Row.okWide Try.prog W .any base 41 cs := by
    simpa [Value.okWide, Try.underlying41] using hval
  rw [cellsRN] at hsz
  obtain ⟨l⟩ := cs
  obtain ⟨c0, c1, c2, c3, c4, c5, c6, c7, rfl⟩ : ∃ c0 c1 c2 c3 c4 c5 c6 c7, l = [c0, c1, c2, c3, c4, c5, c6, c7] := by
    match l, hsz with
    | [c0, c1, c2, c3, c4, c5, c6, c7], _ => exact ⟨_, _, _, _, _, _, _, _, rfl⟩
  obtain ⟨fuel, hf⟩ := h
  obtain ⟨xs, n, _, _, _, hlen, hfs⟩ := DataW.trod_struct Try.underlying41 hf
  match xs, hlen with
  | [y0, y1, y2, y3, y4], _ =>
    have g0 := hfs 0 _ rfl
    have g1 := hfs 1 _ rfl
    have g2 := hfs 2 _ rfl
    have g3 := hfs 3 _ rfl
    have g4 := hfs 4 _ rfl
    simp [Value.cells, cellsIM, cellsSW, cellsSl] at g0 g1 g2 g3 g4
    obtain ⟨x0, e0, rfl, w0⟩ := DataW.trod_int Try.underlying3 g0
    obtain ⟨x1, e1, rfl, w1⟩ := DataW.trod_int Try.underlying3 g1
    obtain ⟨x2, e2, rfl, w2⟩ := DataW.trod_int Try.underlying3 g2
    obtain ⟨z0, z1, z2, z3, m, hx, hy0, hy1, hy2, hy3⟩ := trod_array4 Try.underlying38 cellsW g3
    obtain ⟨u0, f0, rfl, v0⟩ := DataW.trod_int Try.underlying36 hy0
    obtain ⟨u1, f1, rfl, v1⟩ := DataW.trod_int Try.underlying36 hy1
    obtain ⟨u2, f2, rfl, v2⟩ := DataW.trod_int Try.underlying36 hy2
    obtain ⟨u3, f3, rfl, v3⟩ := DataW.trod_int Try.underlying36 hy3
    simp at e0 e1 e2 f0 f1 f2 f3
    subst e0 e1 e2 f0 f1 f2 f3
    obtain ⟨ad, cap, l, rfl, hr, hc, hlc⟩ := nts_of_trod g4
    obtain ⟨n0, rfl, b0⟩ := nat_of_u32 v0
    obtain ⟨n1, rfl, b1⟩ := nat_of_u32 v1
    obtain ⟨n2, rfl, b2⟩ := nat_of_u32 v2
    obtain ⟨n3, rfl, b3⟩ := nat_of_u32 v3
    refine ⟨x0, x1, x2, joinW n0 n1 n2 n3, ad, cap, l, ?_, join_lt _ _ _ _ b0 b1 b2 b3, w0, w1, w2, hr, hc, hlc⟩
    rw [rnv, wd_join0 _ _ _ _ b0, wd_join1 _ _ _ _ b0 b1, wd_join2 _ _ _ _ b0 b1 b2, wd_join3 _ _ _ _ b0 b1 b2 b3]
end Go.Proofs.Ytndogopllcpiiaa
