/- Notes of the document's, a list of them, handed in. -/
import Derived.Test.YtnomeinppdnhfaaGreatJnJ4
import Derived.Test.YtnomeinppdnhfaaGreatRows
import Derived.ProofKit
import Derived.OpenShut
import Derived.ChangeOld
import Derived.ChangeSlices
import Derived.Below
import Derived.Deep.Slices
namespace Go.Proofs.YtnomeinppdnhfaaGreat
open Go.ChangeShapes Go.WideShapes Go.ChangeAt Go.RowKit

/-- A note of the document's: what its cells hold, and its news. -/
structure Nx where
  k : Int
  f : Int
  r : Int
  N : Nat
  a : Option Addr
  c : Nat
  l : List (Int × Int × Int)
def nxA (x : Nx) : Array Value := #[.int .i64 x.k, .int .i64 x.f, .int .i64 x.r, .int .u32 (wd x.N 0 : Nat), .int .u32 (wd x.N 1 : Nat), .int .u32 (wd x.N 2 : Nat), .int .u32 (wd x.N 3 : Nat), .slice x.a x.l.length x.c]
/-- What holds of a note wherever it lies. -/
def NxO (W : World) (x : Nx) : Prop := x.N < S128 ∧ RdN W x.a x.l ∧ (x.a = none → x.c = 0) ∧ x.l.length ≤ x.c
structure RdX (W : World) (ad : Option Addr) (l : List Nx) : Prop where
  at_ : l ≠ [] → ∃ b off, ad = some ⟨b, off, none⟩ ∧ b < W.heap.size ∧ ∀ i x, l[i]? = some x → ∀ (j : Nat) (v : Value), (nxA x)[j]? = some v → W.cell? ⟨b, off + i * 8 + j, none⟩ = some v
  ok : ∀ x ∈ l, NxO W x
theorem NxO.carry {W V : World} {x : Nx} (h : NxO W x) (hb : Below W.heap.size W V) : NxO V x := ⟨h.1, h.2.1.carry hb, h.2.2⟩
theorem RdX.carry {W V : World} {ad : Option Addr} {l : List Nx} (h : RdX W ad l) (hb : Below W.heap.size W V) : RdX V ad l := by
  refine ⟨fun hne => ?_, fun x hx => (h.ok x hx).carry hb⟩
  obtain ⟨b, off, e, hlt, hc⟩ := h.at_ hne
  exact ⟨b, off, e, Nat.lt_of_lt_of_le hlt hb.size, fun i x hx j v hv => (hb.cell (p := ⟨b, _, none⟩) hlt).trans (hc i x hx j v hv)⟩
set_option maxRecDepth 100000 in
theorem one_Nx {H : Type} {enc : TypeId × Value → H} {W : World} {n : Nat} {cs : List Value} {x : DataW H × List MemPlace} (hl : cs.length = 8) (h : DataW.trod enc Tryz.prog W 0 (fun _ => true) true n 44 cs = some x) : ∃ e : Nx, cs = (nxA e).toList ∧ NxO W e := by
  obtain ⟨xs, m, _, _, _, hlen, hfs⟩ := DataW.trod_struct Tryz.underlying44 h
  match xs, hlen, cs, hl with
  | [y0, y1, y2, y3, y4], _, [c0, c1, c2, c3, c4, c5, c6, c7], _ =>
    have g0 := hfs 0 _ rfl
    have g1 := hfs 1 _ rfl
    have g2 := hfs 2 _ rfl
    have g3 := hfs 3 _ rfl
    have g4 := hfs 4 _ rfl
    simp [cellsIM, cellsSW, cellsSl] at g0 g1 g2 g3 g4
    obtain ⟨x0, e0, _, w0⟩ := DataW.trod_int Tryz.underlying3 g0
    obtain ⟨x1, e1, _, w1⟩ := DataW.trod_int Tryz.underlying3 g1
    obtain ⟨x2, e2, _, w2⟩ := DataW.trod_int Tryz.underlying3 g2
    obtain ⟨z0, z1, z2, z3, m2, hx, hy0, hy1, hy2, hy3⟩ := trod_array4 Tryz.underlying41 cellsW g3
    obtain ⟨u0, f0, _, v0⟩ := DataW.trod_int Tryz.underlying39 hy0
    obtain ⟨u1, f1, _, v1⟩ := DataW.trod_int Tryz.underlying39 hy1
    obtain ⟨u2, f2, _, v2⟩ := DataW.trod_int Tryz.underlying39 hy2
    obtain ⟨u3, f3, _, v3⟩ := DataW.trod_int Tryz.underlying39 hy3
    simp at e0 e1 e2 f0 f1 f2 f3
    subst e0 e1 e2 f0 f1 f2 f3
    obtain ⟨ad, cap, l, rfl, hr, hc, hlc⟩ := nts_of_trod g4
    obtain ⟨n0, rfl, b0⟩ := nat_of_u32 v0
    obtain ⟨n1, rfl, b1⟩ := nat_of_u32 v1
    obtain ⟨n2, rfl, b2⟩ := nat_of_u32 v2
    obtain ⟨n3, rfl, b3⟩ := nat_of_u32 v3
    refine ⟨⟨x0, x1, x2, joinW n0 n1 n2 n3, ad, cap, l⟩, ?_, join_lt _ _ _ _ b0 b1 b2 b3, hr, hc, hlc⟩
    unfold nxA
    rw [wd_join0 _ _ _ _ b0, wd_join1 _ _ _ _ b0 b1, wd_join2 _ _ _ _ b0 b1 b2, wd_join3 _ _ _ _ b0 b1 b2 b3]
set_option maxRecDepth 100000 in
theorem open_notes {H : Type} {enc : TypeId × Value → H} {W : World} {base : Nat} {v : Value} {d : DataW H} {p : List MemPlace} (hval : Value.okWide Tryz.prog W .any base 22 v)
    (h : DataW.Trod enc Tryz.prog W 0 (fun _ => true) true 22 v d p) : ∃ (ad : Option Addr) (cap : Nat) (l : List Nx), v = .slice ad l.length cap ∧ RdX W ad l ∧ (ad = none → cap = 0) ∧ l.length ≤ cap ∧ cap ≤ maxLen := by
  obtain ⟨a0, len0, cap0, rfl⟩ := okWide_slice Tryz.underlying22 hval
  obtain ⟨fuel, hf⟩ := h
  rcases Deep.open_slice Tryz.underlying22 hf with ⟨hcs, _⟩ | ⟨a, len, cap, m, n, D, Pl, hcs, _, hlc, hcm, hmm, hx, hel⟩
  · simp [Value.cells] at hcs
    obtain ⟨rfl, rfl, rfl⟩ := hcs
    exact ⟨none, 0, [], rfl, ⟨fun h => absurd rfl h, fun N h => by simp at h⟩, fun _ => rfl, Nat.le_refl _, by unfold maxLen; simp⟩
  · simp [Value.cells] at hcs
    obtain ⟨rfl, rfl, rfl⟩ := hcs
    have hm : m = cap0 := by simpa using hmm
    have each : ∀ i, i < len0 → ∃ e : Nx, (∀ (j : Nat) (v : Value), (nxA e)[j]? = some v → W.cell? (a.add (i * 8 + j)) = some v) ∧ NxO W e := by
      intro i hi
      obtain ⟨cs, h1, h2⟩ := hel i (by omega)
      rw [cellsRN] at h1
      obtain ⟨_, hlen, hcell⟩ := World.cells?_some h1
      obtain ⟨e, rfl, hok⟩ := one_Nx hlen h2
      refine ⟨e, fun j v hv => ?_, hok⟩
      have hj : j < 8 := by
        have := (Array.getElem?_eq_some_iff.1 hv).1
        simpa [nxA] using this
      have e0 := hcell j (by omega)
      rw [Deep.add_add] at e0
      rw [e0]
      rw [← Array.getElem?_toList] at hv
      obtain ⟨_, hv2⟩ := List.getElem?_eq_some_iff.1 hv
      simp [hv]
    have : Inhabited Nx := ⟨⟨0, 0, 0, 0, none, 0, []⟩⟩
    obtain ⟨q, hq⟩ := Deep.choose_lt each
    have hget : ∀ k y, ((List.range len0).map q)[k]? = some y → k < len0 ∧ y = q k := fun k y hy => by
      rw [List.getElem?_map] at hy
      obtain ⟨k', hk', rfl⟩ := Option.map_eq_some_iff.1 hy
      have hk := (List.getElem?_eq_some_iff.1 hk').1
      simp at hk
      rw [List.getElem?_range hk] at hk'
      cases hk'
      exact ⟨hk, rfl⟩
    refine ⟨some a, cap0, (List.range len0).map q, by simp, ⟨fun hne => ?_, fun e he => ?_⟩, fun e => (by cases e), by simpa using hlc, hcm⟩
    · have h0 : 0 < len0 := by
        rcases Nat.eq_zero_or_pos len0 with e | e
        · subst e; simp at hne
        · exact e
      have c00 := (hq 0 h0).1 0 _ rfl
      obtain ⟨b', off', x'⟩ := a
      have hx' : x' = none := by simpa [Addr.add] using World.cell?_spot c00
      subst hx'
      have hadd : ∀ j, (⟨b', off', none⟩ : Addr).add j = ⟨b', off' + j, none⟩ := fun j => add_pl b' off' j
      have hlt := cell_ltM c00
      rw [hadd] at hlt
      refine ⟨b', off', rfl, hlt, fun k y hy i v hv => ?_⟩
      obtain ⟨hk, rfl⟩ := hget k y hy
      have := (hq k hk).1 i v hv
      rw [hadd] at this
      rw [Nat.add_assoc]
      exact this
    · obtain ⟨k, hk⟩ := List.getElem?_of_mem he
      obtain ⟨hk1, rfl⟩ := hget k e hk
      exact (hq k hk1).2
end Go.Proofs.YtnomeinppdnhfaaGreat
namespace Go.Proofs.YtnomeinppdnhfaaGreat
open Go.RowKit Go.Shelf

theorem bs0N (W : World) : (Instr.buildSlice 42 0 #[]).run Tryz.prog W = .ok (.slice (some ⟨W.heap.size, 0, none⟩) 0 0) (W.alloc (.cells #[] 80)) := by go_simp
theorem nilN_no (a : Addr) (n c : Nat) (w : World) : (binOp .eql 42 (.slice (some a) n c) (.slice none 0 0)).run Tryz.prog w = .ok (.bool false) w := by kernel_rfl
theorem nilN_yes (n c : Nat) (w : World) : (binOp .eql 42 (.slice none n c) (.slice none 0 0)).run Tryz.prog w = .ok (.bool true) w := by kernel_rfl
set_option maxHeartbeats 1000000 in
set_option maxRecDepth 100000 in
theorem clone_any (ad : Option Addr) (cap : Nat) (l : List (Int × Int × Int)) (w : World) (h : RdN w ad l) (hl : l.length ≤ 5000000000000) : Calls Tryz.prog 141 #[.slice ad l.length cap] w fun e w' => ∃ a c, e = .returned (.slice a l.length c) ∧ w'.ownsRow w.heap.size 80 3 (.slice a l.length c) l.length (fl l) ∧ Below w.heap.size w w' := by
  obtain ⟨ic, hic, hz0, hz1, hz2⟩ := info_partsN
  have hb := bs0N
  have n1 := nilN_no
  have n2 := nilN_yes
  cases ad with
  | none =>
    have hl0 : l = [] := Classical.byContradiction fun q => by obtain ⟨_, _, e, _⟩ := h q; cases e
    subst hl0
    go_enter Tryz.func141, Tryz.ntmps141
    go_wp2
    go_ret
    exact ⟨none, 0, rfl, World.ownsRow_nil _ _ _ _, Below.refl _ _⟩
  | some a =>
    have hb0 := al1' w (.cells #[] 80)
    have hnews : ∀ j u, (fl l)[j]? = some u → (w.alloc (.cells #[] 80)).cell? (a.add j) = some u := by
      intro j u hj
      obtain ⟨b, off, e, _, hat⟩ := (h.carry hb0) (fun e => by subst e; simp [fl_nil] at hj)
      obtain rfl := Option.some.inj e
      exact nts_src hat j u hj
    have hown := World.ownsRow_lit (base := w.heap.size) (e := 80) (size := 3) w #[] 0 (Nat.le_refl _) (by unfold maxLen; omega) (by simp)
    go_enter Tryz.func141, Tryz.ntmps141
    go_wp2_with (at_builtin; refine wpList_append_own_at _ rfl _ _ 42 rfl w.heap.size 80 ic _ 3 24 Tryz.underlying42 hic hz0 hz1 hz2 rfl (by decide) _ 0 [] rfl hown a l.length cap (fl l) rfl (fl_len l) hnews (fl_one l) (by unfold maxLen; omega) (by omega) (by simp) ?_; intro v u ho0 hgu hnn _; have hbu : Below w.heap.size w u := hb0.grown hgu (by simp) (fun q e => own_block hown q e); have ho : u.ownsRow w.heap.size 80 3 v l.length (fl l) := (by simpa using ho0))
    go_ret
    rcases own_form ho with ⟨e1, e2⟩ | ⟨g, c, e1, _⟩
    · exact ⟨none, 0, by rw [e1, e2]; rfl, by rw [e1, e2] at ho; rw [e2]; exact ho, hbu⟩
    · exact ⟨_, c, by rw [e1]; rfl, e1 ▸ ho, hbu⟩
end Go.Proofs.YtnomeinppdnhfaaGreat
namespace Go.Proofs.YtnomeinppdnhfaaGreat
open Go.RowKit Go.Shelf

theorem retQ {f : Func} {q : Tmp} {R : Ending → World → Prop} {a : Act} {w : World} {b : Nat} {v0 v1 v2 : Value} (hres : f.results = #[.cell q 70]) (hp : a.tmps.getD q undef = .pointer (some ⟨b, 0, none⟩)) (hd : a.defers = []) (h : w.heap[b]? = some (.cells #[v0, v1, v2] 70 (0, 0))) (hR : R (.returned (.agg #[v0, v1, v2])) w) : bodyPost Tryz.prog f R .ret a w :=
  bodyPost_ret (results_cell_row hres a.tmps w b _ _ (0, 0) _ hp h Tryz.underlying70 rfl (by kernel_rfl)) hd hR
theorem noticesQ_any (f r : Int) (ad : Option Addr) (cap : Nat) (l : List (Int × Int × Int)) (w : World) (h : RdN w ad l) (hl : l.length ≤ 5000000000000) : Calls Tryz.prog 138 #[.agg #[.int .i64 f, .int .i64 r, .slice ad l.length cap]] w fun e w' => ∃ a c, e = .returned (.slice a l.length c) ∧ w'.ownsRow w.heap.size 80 3 (.slice a l.length c) l.length (fl l) ∧ Below w.heap.size w w' := by
  have hb0 := al1' w (.cells #[.int .i64 f, .int .i64 r, .slice ad l.length cap] 70)
  have hcl := clone_any ad cap l _ (h.carry hb0) hl
  go_enter Tryz.func138, Tryz.ntmps138
  go_wp2_with (go_at_call 141; (with_reducible refine hcl.mono ?_); rintro e u1 ⟨a, c, rfl, ho, hb1⟩)
  go_ret
  exact ⟨a, c, rfl, ownsRow_base ho hb0.size, bel2 hb0 hb1⟩
set_option maxHeartbeats 1000000 in
set_option maxRecDepth 100000 in
theorem apartQ_any (f r : Int) (ad : Option Addr) (cap : Nat) (l : List (Int × Int × Int)) (w : World) (h : RdN w ad l) (hl : l.length ≤ 5000000000000) : Calls Tryz.prog 142 #[.agg #[.int .i64 f, .int .i64 r, .slice ad l.length cap]] w fun e w' => ∃ a c, e = .returned (.agg #[.int .i64 f, .int .i64 r, .slice a l.length c]) ∧ w'.ownsRow w.heap.size 80 3 (.slice a l.length c) l.length (fl l) ∧ Below w.heap.size w w' := by
  have hb0 := al2x w (.cells #[.int .i64 f, .int .i64 r, .slice ad l.length cap] 70) (.cells #[.int .i64 0, .int .i64 0, .slice none 0 0] 70)
  have hnt := noticesQ_any f r ad cap l _ (h.carry hb0) hl
  have hB : ((w.alloc (.cells #[.int .i64 f, .int .i64 r, .slice ad l.length cap] 70)).alloc (.cells #[.int .i64 0, .int .i64 0, .slice none 0 0] 70)).heap[w.heap.size]? = some (.cells #[.int .i64 f, .int .i64 r, .slice ad l.length cap] 70 (0, 0)) := old_at (new_at rfl)
  have hR : ((w.alloc (.cells #[.int .i64 f, .int .i64 r, .slice ad l.length cap] 70)).alloc (.cells #[.int .i64 0, .int .i64 0, .slice none 0 0] 70)).heap[w.heap.size + 1]? = some (.cells #[.int .i64 0, .int .i64 0, .slice none 0 0] 70 (0, 0)) := new_at (by simp)
  go_enter Tryz.func142, Tryz.ntmps142
  go_wp2_with (go_at_call 138; (with_reducible refine hnt.mono ?_); rintro e u1 ⟨a, c, rfl, ho, hb1⟩; have hB1 := (hb1.block _ (lt_at hB)).trans hB; have hR1 := (hb1.block _ (lt_at hR)).trans hR; have b0 := cell_at hB1 0; have r0 := cell_at hR1 0; have y0 := thaw_at hB1 0; have z0 := thaw_at hR1 0; have b1 := cell_at hB1 1; have r1 := cell_at hR1 1; have y1 := thaw_at hB1 1; have z1 := thaw_at hR1 1; have b2 := cell_at hB1 2; have r2 := cell_at hR1 2; have y2 := thaw_at hB1 2; have z2 := thaw_at hR1 2; simp at b0 r0 b1 r1 b2 r2)
  have hw1 : Below w.heap.size w u1 := bel2 hb0 hb1
  have hR2 := (Below.heap_setCell u1 ⟨w.heap.size, 2, none⟩ (.slice a l.length c) (w.heap.size + 1) (by simp)).trans hR1
  have ho := ownsRow_base ho (show w.heap.size + 2 ≤ _ by simp)
  exact retQ rfl rfl rfl ((set_get 2 _ (set_get 1 _ (set_get 0 _ hR2))).trans (by simp)) ⟨a, c, rfl, ownsRow_base (ownsRow_setCell_below (ownsRow_setCell_below (ownsRow_setCell_below (ownsRow_setCell_below ho (a := ⟨w.heap.size, 2, none⟩) (by simp) _) (a := ⟨w.heap.size + 1, 0, none⟩) (by simp) _) (a := ⟨w.heap.size + 1, 1, none⟩) (by simp) _) (a := ⟨w.heap.size + 1, 2, none⟩) (by simp) _) (by omega), ((((hw1.setCell (p := ⟨w.heap.size, 2, none⟩) (by simp) _).setCell (p := ⟨w.heap.size + 1, 0, none⟩) (by simp) _).setCell (p := ⟨w.heap.size + 1, 1, none⟩) (by simp) _).setCell (p := ⟨w.heap.size + 1, 2, none⟩) (by simp) _)⟩
theorem invQ_twin (v : Value) (w : World) : (method 292 70 v "earshot/wire.twin").run Tryz.prog w = .ok (140, v) w := by kernel_rfl
theorem twinQ_any (f r : Int) (ad : Option Addr) (cap : Nat) (l : List (Int × Int × Int)) (w : World) (h : RdN w ad l) (hl : l.length ≤ 5000000000000) : Calls Tryz.prog 140 #[.agg #[.int .i64 f, .int .i64 r, .slice ad l.length cap]] w fun e w' => ∃ a c, e = .returned (.iface 70 (.agg #[.int .i64 f, .int .i64 r, .slice a l.length c])) ∧ w'.ownsRow w.heap.size 80 3 (.slice a l.length c) l.length (fl l) ∧ Below w.heap.size w w' := by
  have hb0 := al1' w (.cells #[.int .i64 f, .int .i64 r, .slice ad l.length cap] 70)
  have hap := apartQ_any f r ad cap l _ (h.carry hb0) hl
  go_enter Tryz.func140, Tryz.ntmps140
  go_wp2_with (go_at_call 142; (with_reducible refine hap.mono ?_); rintro e u1 ⟨a, c, rfl, ho, hb1⟩)
  go_ret
  exact ⟨a, c, rfl, ownsRow_base ho hb0.size, bel2 hb0 hb1⟩
theorem retP {f : Func} {q : Tmp} {R : Ending → World → Prop} {a : Act} {w : World} {b : Nat} {v0 v1 v2 v3 v4 v5 v6 : Value} (hres : f.results = #[.cell q 73]) (hp : a.tmps.getD q undef = .pointer (some ⟨b, 0, none⟩)) (hd : a.defers = []) (h : w.heap[b]? = some (.cells #[v0, v1, v2, v3, v4, v5, v6] 73 (0, 0))) (hR : R (.returned (.agg #[v0, v1, v2, v3, v4, v5, v6])) w) : bodyPost Tryz.prog f R .ret a w :=
  bodyPost_ret (results_cell_row hres a.tmps w b _ _ (0, 0) _ hp h Tryz.underlying73 rfl (by kernel_rfl)) hd hR
theorem noticesP_any (f r x0 x1 x2 x3 : Int) (ad : Option Addr) (cap : Nat) (l : List (Int × Int × Int)) (w : World) (h : RdN w ad l) (hl : l.length ≤ 5000000000000) : Calls Tryz.prog 145 #[.agg #[.int .i64 f, .int .i64 r, .int .u32 x0, .int .u32 x1, .int .u32 x2, .int .u32 x3, .slice ad l.length cap]] w fun e w' => ∃ a c, e = .returned (.slice a l.length c) ∧ w'.ownsRow w.heap.size 80 3 (.slice a l.length c) l.length (fl l) ∧ Below w.heap.size w w' := by
  have hb0 := al1' w (.cells #[.int .i64 f, .int .i64 r, .int .u32 x0, .int .u32 x1, .int .u32 x2, .int .u32 x3, .slice ad l.length cap] 73)
  have hcl := clone_any ad cap l _ (h.carry hb0) hl
  go_enter Tryz.func145, Tryz.ntmps145
  go_wp2_with (go_at_call 141; (with_reducible refine hcl.mono ?_); rintro e u1 ⟨a, c, rfl, ho, hb1⟩)
  go_ret
  exact ⟨a, c, rfl, ownsRow_base ho hb0.size, bel2 hb0 hb1⟩
set_option maxHeartbeats 1000000 in
set_option maxRecDepth 100000 in
theorem apartP_any (f r x0 x1 x2 x3 : Int) (ad : Option Addr) (cap : Nat) (l : List (Int × Int × Int)) (w : World) (h : RdN w ad l) (hl : l.length ≤ 5000000000000) : Calls Tryz.prog 148 #[.agg #[.int .i64 f, .int .i64 r, .int .u32 x0, .int .u32 x1, .int .u32 x2, .int .u32 x3, .slice ad l.length cap]] w fun e w' => ∃ a c, e = .returned (.agg #[.int .i64 f, .int .i64 r, .int .u32 x0, .int .u32 x1, .int .u32 x2, .int .u32 x3, .slice a l.length c]) ∧ w'.ownsRow w.heap.size 80 3 (.slice a l.length c) l.length (fl l) ∧ Below w.heap.size w w' := by
  have hb0 := al2x w (.cells #[.int .i64 f, .int .i64 r, .int .u32 x0, .int .u32 x1, .int .u32 x2, .int .u32 x3, .slice ad l.length cap] 73) (.cells #[.int .i64 0, .int .i64 0, .int .u32 0, .int .u32 0, .int .u32 0, .int .u32 0, .slice none 0 0] 73)
  have hnt := noticesP_any f r x0 x1 x2 x3 ad cap l _ (h.carry hb0) hl
  have hB : ((w.alloc (.cells #[.int .i64 f, .int .i64 r, .int .u32 x0, .int .u32 x1, .int .u32 x2, .int .u32 x3, .slice ad l.length cap] 73)).alloc (.cells #[.int .i64 0, .int .i64 0, .int .u32 0, .int .u32 0, .int .u32 0, .int .u32 0, .slice none 0 0] 73)).heap[w.heap.size]? = some (.cells #[.int .i64 f, .int .i64 r, .int .u32 x0, .int .u32 x1, .int .u32 x2, .int .u32 x3, .slice ad l.length cap] 73 (0, 0)) := old_at (new_at rfl)
  have hR : ((w.alloc (.cells #[.int .i64 f, .int .i64 r, .int .u32 x0, .int .u32 x1, .int .u32 x2, .int .u32 x3, .slice ad l.length cap] 73)).alloc (.cells #[.int .i64 0, .int .i64 0, .int .u32 0, .int .u32 0, .int .u32 0, .int .u32 0, .slice none 0 0] 73)).heap[w.heap.size + 1]? = some (.cells #[.int .i64 0, .int .i64 0, .int .u32 0, .int .u32 0, .int .u32 0, .int .u32 0, .slice none 0 0] 73 (0, 0)) := new_at (by simp)
  go_enter Tryz.func148, Tryz.ntmps148
  go_wp2_with (go_at_call 145; (with_reducible refine hnt.mono ?_); rintro e u1 ⟨a, c, rfl, ho, hb1⟩; have hB1 := (hb1.block _ (lt_at hB)).trans hB; have hR1 := (hb1.block _ (lt_at hR)).trans hR; have b0 := cell_at hB1 0; have r0 := cell_at hR1 0; have y0 := thaw_at hB1 0; have z0 := thaw_at hR1 0; have b1 := cell_at hB1 1; have r1 := cell_at hR1 1; have y1 := thaw_at hB1 1; have z1 := thaw_at hR1 1; have b2 := cell_at hB1 2; have r2 := cell_at hR1 2; have y2 := thaw_at hB1 2; have z2 := thaw_at hR1 2; have b3 := cell_at hB1 3; have r3 := cell_at hR1 3; have y3 := thaw_at hB1 3; have z3 := thaw_at hR1 3; have b4 := cell_at hB1 4; have r4 := cell_at hR1 4; have y4 := thaw_at hB1 4; have z4 := thaw_at hR1 4; have b5 := cell_at hB1 5; have r5 := cell_at hR1 5; have y5 := thaw_at hB1 5; have z5 := thaw_at hR1 5; have b6 := cell_at hB1 6; have r6 := cell_at hR1 6; have y6 := thaw_at hB1 6; have z6 := thaw_at hR1 6; simp at b0 r0 b1 r1 b2 r2 b3 r3 b4 r4 b5 r5 b6 r6)
  have hw1 : Below w.heap.size w u1 := bel2 hb0 hb1
  have hR2 := (Below.heap_setCell u1 ⟨w.heap.size, 6, none⟩ (.slice a l.length c) (w.heap.size + 1) (by simp)).trans hR1
  have ho := ownsRow_base ho (show w.heap.size + 2 ≤ _ by simp)
  exact retP rfl rfl rfl ((set_get 6 _ (set_get 5 _ (set_get 4 _ (set_get 3 _ (set_get 2 _ (set_get 1 _ (set_get 0 _ hR2))))))).trans (by simp)) ⟨a, c, rfl, ownsRow_base (ownsRow_setCell_below (ownsRow_setCell_below (ownsRow_setCell_below (ownsRow_setCell_below (ownsRow_setCell_below (ownsRow_setCell_below (ownsRow_setCell_below (ownsRow_setCell_below ho (a := ⟨w.heap.size, 6, none⟩) (by simp) _) (a := ⟨w.heap.size + 1, 0, none⟩) (by simp) _) (a := ⟨w.heap.size + 1, 1, none⟩) (by simp) _) (a := ⟨w.heap.size + 1, 2, none⟩) (by simp) _) (a := ⟨w.heap.size + 1, 3, none⟩) (by simp) _) (a := ⟨w.heap.size + 1, 4, none⟩) (by simp) _) (a := ⟨w.heap.size + 1, 5, none⟩) (by simp) _) (a := ⟨w.heap.size + 1, 6, none⟩) (by simp) _) (by omega), ((((((((hw1.setCell (p := ⟨w.heap.size, 6, none⟩) (by simp) _).setCell (p := ⟨w.heap.size + 1, 0, none⟩) (by simp) _).setCell (p := ⟨w.heap.size + 1, 1, none⟩) (by simp) _).setCell (p := ⟨w.heap.size + 1, 2, none⟩) (by simp) _).setCell (p := ⟨w.heap.size + 1, 3, none⟩) (by simp) _).setCell (p := ⟨w.heap.size + 1, 4, none⟩) (by simp) _).setCell (p := ⟨w.heap.size + 1, 5, none⟩) (by simp) _).setCell (p := ⟨w.heap.size + 1, 6, none⟩) (by simp) _)⟩
theorem invP_twin (v : Value) (w : World) : (method 292 73 v "earshot/wire.twin").run Tryz.prog w = .ok (147, v) w := by kernel_rfl
theorem twinP_any (f r x0 x1 x2 x3 : Int) (ad : Option Addr) (cap : Nat) (l : List (Int × Int × Int)) (w : World) (h : RdN w ad l) (hl : l.length ≤ 5000000000000) : Calls Tryz.prog 147 #[.agg #[.int .i64 f, .int .i64 r, .int .u32 x0, .int .u32 x1, .int .u32 x2, .int .u32 x3, .slice ad l.length cap]] w fun e w' => ∃ a c, e = .returned (.iface 73 (.agg #[.int .i64 f, .int .i64 r, .int .u32 x0, .int .u32 x1, .int .u32 x2, .int .u32 x3, .slice a l.length c])) ∧ w'.ownsRow w.heap.size 80 3 (.slice a l.length c) l.length (fl l) ∧ Below w.heap.size w w' := by
  have hb0 := al1' w (.cells #[.int .i64 f, .int .i64 r, .int .u32 x0, .int .u32 x1, .int .u32 x2, .int .u32 x3, .slice ad l.length cap] 73)
  have hap := apartP_any f r x0 x1 x2 x3 ad cap l _ (h.carry hb0) hl
  go_enter Tryz.func147, Tryz.ntmps147
  go_wp2_with (go_at_call 148; (with_reducible refine hap.mono ?_); rintro e u1 ⟨a, c, rfl, ho, hb1⟩)
  go_ret
  exact ⟨a, c, rfl, ownsRow_base ho hb0.size, bel2 hb0 hb1⟩
theorem retU {f : Func} {q : Tmp} {R : Ending → World → Prop} {a : Act} {w : World} {b : Nat} {v0 v1 : Value} (hres : f.results = #[.cell q 75]) (hp : a.tmps.getD q undef = .pointer (some ⟨b, 0, none⟩)) (hd : a.defers = []) (h : w.heap[b]? = some (.cells #[v0, v1] 75 (0, 0))) (hR : R (.returned (.agg #[v0, v1])) w) : bodyPost Tryz.prog f R .ret a w :=
  bodyPost_ret (results_cell_row hres a.tmps w b _ _ (0, 0) _ hp h Tryz.underlying75 rfl (by kernel_rfl)) hd hR
theorem noticesU_any (f : Int) (ad : Option Addr) (cap : Nat) (l : List (Int × Int × Int)) (w : World) (h : RdN w ad l) (hl : l.length ≤ 5000000000000) : Calls Tryz.prog 151 #[.agg #[.int .i64 f, .slice ad l.length cap]] w fun e w' => ∃ a c, e = .returned (.slice a l.length c) ∧ w'.ownsRow w.heap.size 80 3 (.slice a l.length c) l.length (fl l) ∧ Below w.heap.size w w' := by
  have hb0 := al1' w (.cells #[.int .i64 f, .slice ad l.length cap] 75)
  have hcl := clone_any ad cap l _ (h.carry hb0) hl
  go_enter Tryz.func151, Tryz.ntmps151
  go_wp2_with (go_at_call 141; (with_reducible refine hcl.mono ?_); rintro e u1 ⟨a, c, rfl, ho, hb1⟩)
  go_ret
  exact ⟨a, c, rfl, ownsRow_base ho hb0.size, bel2 hb0 hb1⟩
set_option maxHeartbeats 1000000 in
set_option maxRecDepth 100000 in
theorem apartU_any (f : Int) (ad : Option Addr) (cap : Nat) (l : List (Int × Int × Int)) (w : World) (h : RdN w ad l) (hl : l.length ≤ 5000000000000) : Calls Tryz.prog 154 #[.agg #[.int .i64 f, .slice ad l.length cap]] w fun e w' => ∃ a c, e = .returned (.agg #[.int .i64 f, .slice a l.length c]) ∧ w'.ownsRow w.heap.size 80 3 (.slice a l.length c) l.length (fl l) ∧ Below w.heap.size w w' := by
  have hb0 := al2x w (.cells #[.int .i64 f, .slice ad l.length cap] 75) (.cells #[.int .i64 0, .slice none 0 0] 75)
  have hnt := noticesU_any f ad cap l _ (h.carry hb0) hl
  have hB : ((w.alloc (.cells #[.int .i64 f, .slice ad l.length cap] 75)).alloc (.cells #[.int .i64 0, .slice none 0 0] 75)).heap[w.heap.size]? = some (.cells #[.int .i64 f, .slice ad l.length cap] 75 (0, 0)) := old_at (new_at rfl)
  have hR : ((w.alloc (.cells #[.int .i64 f, .slice ad l.length cap] 75)).alloc (.cells #[.int .i64 0, .slice none 0 0] 75)).heap[w.heap.size + 1]? = some (.cells #[.int .i64 0, .slice none 0 0] 75 (0, 0)) := new_at (by simp)
  go_enter Tryz.func154, Tryz.ntmps154
  go_wp2_with (go_at_call 151; (with_reducible refine hnt.mono ?_); rintro e u1 ⟨a, c, rfl, ho, hb1⟩; have hB1 := (hb1.block _ (lt_at hB)).trans hB; have hR1 := (hb1.block _ (lt_at hR)).trans hR; have b0 := cell_at hB1 0; have r0 := cell_at hR1 0; have y0 := thaw_at hB1 0; have z0 := thaw_at hR1 0; have b1 := cell_at hB1 1; have r1 := cell_at hR1 1; have y1 := thaw_at hB1 1; have z1 := thaw_at hR1 1; simp at b0 r0 b1 r1)
  have hw1 : Below w.heap.size w u1 := bel2 hb0 hb1
  have hR2 := (Below.heap_setCell u1 ⟨w.heap.size, 1, none⟩ (.slice a l.length c) (w.heap.size + 1) (by simp)).trans hR1
  have ho := ownsRow_base ho (show w.heap.size + 2 ≤ _ by simp)
  exact retU rfl rfl rfl ((set_get 1 _ (set_get 0 _ hR2)).trans (by simp)) ⟨a, c, rfl, ownsRow_base (ownsRow_setCell_below (ownsRow_setCell_below (ownsRow_setCell_below ho (a := ⟨w.heap.size, 1, none⟩) (by simp) _) (a := ⟨w.heap.size + 1, 0, none⟩) (by simp) _) (a := ⟨w.heap.size + 1, 1, none⟩) (by simp) _) (by omega), (((hw1.setCell (p := ⟨w.heap.size, 1, none⟩) (by simp) _).setCell (p := ⟨w.heap.size + 1, 0, none⟩) (by simp) _).setCell (p := ⟨w.heap.size + 1, 1, none⟩) (by simp) _)⟩
theorem invU_twin (v : Value) (w : World) : (method 292 75 v "earshot/wire.twin").run Tryz.prog w = .ok (153, v) w := by kernel_rfl
theorem twinU_any (f : Int) (ad : Option Addr) (cap : Nat) (l : List (Int × Int × Int)) (w : World) (h : RdN w ad l) (hl : l.length ≤ 5000000000000) : Calls Tryz.prog 153 #[.agg #[.int .i64 f, .slice ad l.length cap]] w fun e w' => ∃ a c, e = .returned (.iface 75 (.agg #[.int .i64 f, .slice a l.length c])) ∧ w'.ownsRow w.heap.size 80 3 (.slice a l.length c) l.length (fl l) ∧ Below w.heap.size w w' := by
  have hb0 := al1' w (.cells #[.int .i64 f, .slice ad l.length cap] 75)
  have hap := apartU_any f ad cap l _ (h.carry hb0) hl
  go_enter Tryz.func153, Tryz.ntmps153
  go_wp2_with (go_at_call 154; (with_reducible refine hap.mono ?_); rintro e u1 ⟨a, c, rfl, ho, hb1⟩)
  go_ret
  exact ⟨a, c, rfl, ownsRow_base ho hb0.size, bel2 hb0 hb1⟩
end Go.Proofs.YtnomeinppdnhfaaGreat
