/- A slice of words that is handed in, read, with the sizes of its texts. -/
import Derived.Test.YtibhljdiofglfabDoorVla
import Derived.Test.YtibhljdiofglfabDoorRows
import Derived.ProofKit
import Derived.OpenShut
import Derived.ChangeOld
import Derived.Below
import Derived.Deep.Slices
import Derived.Lib.SmallJoins
import Derived.SizedLaws
namespace Go.Proofs.YtibhljdiofglfabDoor
open Go.ChangeShapes Go.WideShapes Go.ChangeAt Go.RowKit

theorem cellsIL : Tryd.prog.cellsOf 3 = 1 := by kernel_rfl
theorem cellsSL : Tryd.prog.cellsOf 9 = 1 := by kernel_rfl
theorem cellsTL : Tryd.prog.cellsOf 37 = 4 := by kernel_rfl
theorem cell_ltL {W : World} {a : Addr} {v : Value} (h : W.cell? a = some v) : a.block < W.heap.size := by
  unfold World.cell? at h
  cases hb : W.heap[a.block]? with
  | none => simp [hb] at h
  | some o => exact (Array.getElem?_eq_some_iff.1 hb).1
/-- One word, out of its cells. -/
theorem one_tokL {H : Type} {enc : TypeId × Value → H} {W : World} {n : Nat} {cs : List Value} {x : DataW H × List MemPlace} (hl : cs.length = 4) (h : DataW.trod enc Tryd.prog W 0 (fun _ => true) true n 37 cs = some x) : ∃ (k : Int) (t : ByteArray) (l c : Int), cs = [.int .i64 k, .string t, .int .i64 l, .int .i64 c] ∧ t.size ∈ x.1.weights Tryd.prog 37 := by
  obtain ⟨y0, y1, y2, y3, m, hx, _, hy0, hy1, hy2, hy3⟩ := Joins.trod_struct4 Tryd.underlying37 h
  match cs, hl with
  | [c0, c1, c2, c3], _ =>
    obtain ⟨x0, e0, _, _⟩ := DataW.trod_int Tryd.underlying3 hy0
    obtain ⟨x1, e1, e1', w1⟩ := DataW.trod_string Tryd.underlying9 hy1
    obtain ⟨x2, e2, _, _⟩ := DataW.trod_int Tryd.underlying3 hy2
    obtain ⟨x3, e3, _, _⟩ := DataW.trod_int Tryd.underlying3 hy3
    simp [cellsIL, cellsSL] at e0 e1 e2 e3
    subst e0 e1 e2 e3
    refine ⟨x0, x1, x2, x3, rfl, ?_⟩
    have hsz : x1.data.toList.length = x1.size := Array.length_toList
    rw [hx, e1']
    simp only [DataW.weights, Tryd.underlying37]
    refine DataW.weights_mem_each (j := 1) (t := 9) rfl rfl _ ?_
    simp only [DataW.weights, List.mem_singleton]
    exact hsz.symm
theorem all_mem {H : Type} {P : Program} {t : TypeId} {n : Nat} : ∀ {E : List (DataW H)} {i : Nat} {e : DataW H}, E[i]? = some e → n ∈ e.weights P t → n ∈ DataW.weightsAll P t E
  | d :: E, 0, e, h, hn => by
    simp only [List.getElem?_cons_zero, Option.some.injEq] at h
    subst h
    simp only [DataW.weightsAll, List.mem_append]
    exact .inl hn
  | d :: E, i + 1, e, h, hn => by
    simp only [List.getElem?_cons_succ] at h
    simp only [DataW.weightsAll, List.mem_append]
    exact .inr (all_mem h hn)
  | [], _, _, h, _ => by simp at h
/-- What is said of the words' data. -/
def TkD {H : Type} (d : DataW H) (l : List Fq) : Prop := l = [] ∨ ∃ E S, d = .slice E S ∧ E.length = l.length ∧ ∀ (i : Nat) (x : Fq), l[i]? = some x → ∃ e, E[i]? = some e ∧ x.2.1.size ∈ e.weights Tryd.prog 37
theorem bytesTL : Tryd.prog.bytesOf 37 = 40 := by kernel_rfl
theorem toks_sized {H : Type} {ts : List TypeId} {ds : List (DataW H)} (h : (DataW.weightsEach Tryd.prog ts ds).all (· ≤ reachBytes) = true) {j : Nat} {d : DataW H} {l : List Fq} (ht : ts[j]? = some 27) (hd : ds[j]? = some d) (hq : TkD d l) : l.length * 40 ≤ 140737488351232 ∧ ∀ (k : Nat) (x : Fq), l[k]? = some x → x.2.1.size ≤ 140737488351232 := by
  rcases hq with rfl | ⟨E, S, rfl, hE, he⟩
  · exact ⟨by simp, fun k x hx => by simp at hx⟩
  · constructor
    · have this := sized_slice h (t := 27) (e := 37) ht hd Tryd.underlying27
      rw [bytesTL, hE] at this
      unfold reachBytes at this
      omega
    · intro k x hx
      obtain ⟨e, h1, h2⟩ := he k x hx
      have := List.all_eq_true.1 h _ (DataW.weights_mem_each ht hd x.2.1.size (by
        simp only [DataW.weights, Tryd.underlying27, List.mem_cons, List.mem_append]
        exact .inr (.inl (all_mem h1 h2))))
      exact of_decide_eq_true this
set_option maxRecDepth 100000 in
theorem open_toksL {H : Type} {enc : TypeId × Value → H} {W : World} {base : Nat} {v : Value} {d : DataW H} {p : List MemPlace} (hval : Value.okWide Tryd.prog W .any base 27 v)
    (h : DataW.Trod enc Tryd.prog W 0 (fun _ => true) true 27 v d p) : ∃ (ad : Option Addr) (cap : Nat) (l : List Fq), v = .slice ad l.length cap ∧ RdQ W ad l ∧ TkD d l := by
  obtain ⟨a0, len0, cap0, rfl⟩ := okWide_slice Tryd.underlying27 hval
  obtain ⟨fuel, hf⟩ := h
  rcases Deep.open_slice Tryd.underlying27 hf with ⟨hcs, _⟩ | ⟨a, len, cap, m, n, D, Pl, hcs, _, hlc, hcm, hmm, hx, hel⟩
  · simp [Value.cells] at hcs
    obtain ⟨rfl, rfl, rfl⟩ := hcs
    exact ⟨none, 0, [], rfl, fun h => absurd rfl h, .inl rfl⟩
  · simp [Value.cells] at hcs
    obtain ⟨rfl, rfl, rfl⟩ := hcs
    have hm : m = cap0 := by simpa using hmm
    have each : ∀ i, i < len0 → ∃ x : Fq, W.cell? (a.add (i * 4)) = some (.int .i64 x.1) ∧ W.cell? (a.add (i * 4 + 1)) = some (.string x.2.1) ∧ W.cell? (a.add (i * 4 + 2)) = some (.int .i64 x.2.2.1) ∧ W.cell? (a.add (i * 4 + 3)) = some (.int .i64 x.2.2.2) ∧ x.2.1.size ∈ (D i).weights Tryd.prog 37 := by
      intro i hi
      obtain ⟨cs, h1, h2⟩ := hel i (by omega)
      rw [cellsTL] at h1
      obtain ⟨_, hlen, hcell⟩ := World.cells?_some h1
      obtain ⟨k, t, l, c, rfl, ht⟩ := one_tokL hlen h2
      have e0 := hcell 0 (by omega)
      have e1 := hcell 1 (by omega)
      have e2 := hcell 2 (by omega)
      have e3 := hcell 3 (by omega)
      rw [Deep.add_add] at e0 e1 e2 e3
      exact ⟨(k, t, l, c), by simpa using e0, by simpa using e1, by simpa using e2, by simpa using e3, ht⟩
    obtain ⟨q, hq⟩ := Deep.choose_lt each
    refine ⟨some a, cap0, (List.range len0).map q, by simp, fun hne => ?_, .inr ⟨_, _, (Prod.mk.inj hx).1, by simp, fun k y hy => ?_⟩⟩
    · have hpos : 0 < len0 := by
        cases len0 with
        | zero => simp at hne
        | succ n => omega
      obtain ⟨b', off', x'⟩ := a
      have hx' : x' = none := by simpa [Addr.add] using World.cell?_spot (hq 0 hpos).1
      subst hx'
      have hadd : ∀ j, (⟨b', off', none⟩ : Addr).add j = ⟨b', off' + j, none⟩ := fun j => by unfold Addr.add; split <;> simp_all
      refine ⟨b', off', rfl, ?_, fun k y hy => ?_⟩
      · have := cell_ltL (hq 0 hpos).1
        rw [hadd] at this
        exact this
      · rw [List.getElem?_map] at hy
        obtain ⟨k', hk', rfl⟩ := Option.map_eq_some_iff.1 hy
        have hk := (List.getElem?_eq_some_iff.1 hk').1
        simp at hk
        have hkk : k' = k := by
          rw [List.getElem?_range hk] at hk'
          exact (Option.some.inj hk').symm
        subst hkk
        obtain ⟨c0, c1, c2, c3, _⟩ := hq k' hk
        rw [hadd] at c0 c1 c2 c3
        exact ⟨c0, by simpa [Nat.add_assoc] using c1, by simpa [Nat.add_assoc] using c2, by simpa [Nat.add_assoc] using c3⟩
    · rw [List.getElem?_map] at hy
      obtain ⟨k', hk', rfl⟩ := Option.map_eq_some_iff.1 hy
      have hk := (List.getElem?_eq_some_iff.1 hk').1
      simp at hk
      have hkk : k' = k := by
        rw [List.getElem?_range hk] at hk'
        exact (Option.some.inj hk').symm
      subst hkk
      exact ⟨D k', by rw [List.getElem?_map, List.getElem?_range hk]; rfl, (hq k' hk).2.2.2.2⟩
end Go.Proofs.YtibhljdiofglfabDoor
