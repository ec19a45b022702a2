/- A []byte, a note of the document's, handed in. -/
import Derived.Test.YtnkpohkodkjkfaaGreatDoorJpJ22
import Derived.Test.YtnkpohkodkjkfaaGreatDoorJpJ40
import Derived.Test.YtnkpohkodkjkfaaGreatDoorJpJ31
import Derived.ChangeSlices
import Derived.Test.YtnkpohkodkjkfaaGreatDoorJpJ39
set_option maxHeartbeats 40000000
set_option maxRecDepth 100000
set_option linter.unusedVariables false
namespace Go.Proofs.YtnkpohkodkjkfaaGreatDoor
open Go.ChangeShapes Go.WideShapes Go.ChangeAt Go.RowKit

set_option maxRecDepth 100000 in
theorem nts_of_trod {H : Type} {enc : TypeId × Value → H} {W : World} {fuel : Nat} {c : Value} {x : DataW H × List MemPlace}
    (hf : DataW.trod enc Tryz.prog W 0 (fun _ => true) true fuel 25 [c] = some x) : ∃ (ad : Option Addr) (cap : Nat) (l : List (Int × Int × Int)), c = .slice ad l.length cap ∧ RdN W ad l ∧ (ad = none → cap = 0) ∧ l.length ≤ cap := by
  rcases Deep.open_slice Tryz.underlying25 hf with ⟨hcs, _⟩ | ⟨a, len0, cap0, m, n, D, Pl, hcs, _, hlc, hcm, hmm, hx, hel⟩
  · simp only [List.cons.injEq, and_true] at hcs
    subst hcs
    exact ⟨none, 0, [], rfl, fun h => absurd rfl h, fun _ => rfl, Nat.le_refl _⟩
  · simp only [List.cons.injEq, and_true] at hcs
    subst hcs
    have hm : m = cap0 := by simpa using hmm
    have each : ∀ i, i < len0 → ∃ x : Int × Int × Int, W.cell? (a.add (i * 3)) = some (.int .i64 x.1) ∧ W.cell? (a.add (i * 3 + 1)) = some (.int .i64 x.2.1) ∧ W.cell? (a.add (i * 3 + 2)) = some (.int .i64 x.2.2) := by
      intro i hi
      obtain ⟨cs, h1, h2⟩ := hel i (by omega)
      rw [cellsNM] at h1
      obtain ⟨_, hlen, hcell⟩ := World.cells?_some h1
      obtain ⟨o, t, k, rfl⟩ := one_nt hlen h2
      have e0 := hcell 0 (by omega)
      have e1 := hcell 1 (by omega)
      have e2 := hcell 2 (by omega)
      rw [Deep.add_add] at e0 e1 e2
      exact ⟨(o, t, k), by simpa using e0, by simpa using e1, by simpa using e2⟩
    obtain ⟨q, hq⟩ := Deep.choose_lt each
    refine ⟨some a, cap0, (List.range len0).map q, by simp, fun hne => ?_, (by intro e; cases e), (by simpa using hlc)⟩
    have hpos : 0 < len0 := by
      cases len0 with
      | zero => simp at hne
      | succ n => omega
    obtain ⟨b', off', x'⟩ := a
    have hx' : x' = none := by simpa [Addr.add] using World.cell?_spot (hq 0 hpos).1
    subst hx'
    have hadd : ∀ j, (⟨b', off', none⟩ : Addr).add j = ⟨b', off' + j, none⟩ := fun j => by unfold Addr.add; split <;> simp_all
    refine ⟨b', off', rfl, ?_, fun k y hy => ?_⟩
    · have := cell_ltM (hq 0 hpos).1
      rw [hadd] at this
      exact this
    · rw [List.getElem?_map] at hy
      obtain ⟨k', hk', rfl⟩ := Option.map_eq_some_iff.1 hy
      have hk := (List.getElem?_eq_some_iff.1 hk').1
      simp at hk
      have hkk : k' = k := by
        rw [List.getElem?_range hk] at hk'
        exact (Option.some.inj hk').symm
      subst hkk
      obtain ⟨c0, c1, c2⟩ := hq k' hk
      rw [hadd] at c0 c1 c2
      exact ⟨c0, by simpa [Nat.add_assoc] using c1, by simpa [Nat.add_assoc] using c2⟩
theorem cellsSW : Tryz.prog.cellsOf 24 = 4 := by kernel_rfl
theorem cellsSl : Tryz.prog.cellsOf 25 = 1 := by kernel_rfl
theorem cellsRN : Tryz.prog.cellsOf 27 = 8 := by kernel_rfl
/-- A note of the document's. -/
def rnv (k f r : Int) (N : Nat) (v : Value) : Value := .agg #[.int .i64 k, .int .i64 f, .int .i64 r, .int .u32 (wd N 0 : Nat), .int .u32 (wd N 1 : Nat), .int .u32 (wd N 2 : Nat), .int .u32 (wd N 3 : Nat), v]
set_option maxRecDepth 100000 in
theorem open_note {H : Type} {enc : TypeId × Value → H} {W : World} {base : Nat} {v : Value} {d : DataW H} {p : List MemPlace} (hval : Value.okWide Tryz.prog W .any base 27 v)
    (h : DataW.Trod enc Tryz.prog W 0 (fun _ => true) true 27 v d p) : ∃ (k f r : Int) (N : Nat) (ad : Option Addr) (cap : Nat) (l : List (Int × Int × Int)), v = rnv k f r N (.slice ad l.length cap) ∧ N < S128 ∧ (Lit.int .i64 k).wf = true ∧ (Lit.int .i64 f).wf = true ∧ (Lit.int .i64 r).wf = true ∧ RdN W ad l ∧ (ad = none → cap = 0) ∧ l.length ≤ cap := by
  obtain ⟨cs, rfl, hsz, _⟩ : ∃ cs, v = .agg cs ∧ cs.size = Tryz.prog.cellsOf 27 ∧ Row.okWide Tryz.prog W .any base 27 cs := by
    simpa [Value.okWide, Tryz.underlying27] using hval
  rw [cellsRN] at hsz
  obtain ⟨l⟩ := cs
  obtain ⟨c0, c1, c2, c3, c4, c5, c6, c7, rfl⟩ : ∃ c0 c1 c2 c3 c4 c5 c6 c7, l = [c0, c1, c2, c3, c4, c5, c6, c7] := by
    match l, hsz with
    | [c0, c1, c2, c3, c4, c5, c6, c7], _ => exact ⟨_, _, _, _, _, _, _, _, rfl⟩
  obtain ⟨fuel, hf⟩ := h
  obtain ⟨xs, n, _, _, _, hlen, hfs⟩ := DataW.trod_struct Tryz.underlying27 hf
  match xs, hlen with
  | [y0, y1, y2, y3, y4], _ =>
    have g0 := hfs 0 _ rfl
    have g1 := hfs 1 _ rfl
    have g2 := hfs 2 _ rfl
    have g3 := hfs 3 _ rfl
    have g4 := hfs 4 _ rfl
    simp [Value.cells, cellsIM, cellsSW, cellsSl] at g0 g1 g2 g3 g4
    obtain ⟨x0, e0, rfl, w0⟩ := DataW.trod_int Tryz.underlying3 g0
    obtain ⟨x1, e1, rfl, w1⟩ := DataW.trod_int Tryz.underlying3 g1
    obtain ⟨x2, e2, rfl, w2⟩ := DataW.trod_int Tryz.underlying3 g2
    obtain ⟨z0, z1, z2, z3, m, hx, hy0, hy1, hy2, hy3⟩ := trod_array4 Tryz.underlying24 cellsW g3
    obtain ⟨u0, f0, rfl, v0⟩ := DataW.trod_int Tryz.underlying22 hy0
    obtain ⟨u1, f1, rfl, v1⟩ := DataW.trod_int Tryz.underlying22 hy1
    obtain ⟨u2, f2, rfl, v2⟩ := DataW.trod_int Tryz.underlying22 hy2
    obtain ⟨u3, f3, rfl, v3⟩ := DataW.trod_int Tryz.underlying22 hy3
    simp at e0 e1 e2 f0 f1 f2 f3
    subst e0 e1 e2 f0 f1 f2 f3
    obtain ⟨ad, cap, l, rfl, hr, hc, hlc⟩ := nts_of_trod g4
    obtain ⟨n0, rfl, b0⟩ := nat_of_u32 v0
    obtain ⟨n1, rfl, b1⟩ := nat_of_u32 v1
    obtain ⟨n2, rfl, b2⟩ := nat_of_u32 v2
    obtain ⟨n3, rfl, b3⟩ := nat_of_u32 v3
    refine ⟨x0, x1, x2, joinW n0 n1 n2 n3, ad, cap, l, ?_, join_lt _ _ _ _ b0 b1 b2 b3, w0, w1, w2, hr, hc, hlc⟩
    rw [rnv, wd_join0 _ _ _ _ b0, wd_join1 _ _ _ _ b0 b1, wd_join2 _ _ _ _ b0 b1 b2, wd_join3 _ _ _ _ b0 b1 b2 b3]
end Go.Proofs.YtnkpohkodkjkfaaGreatDoor
namespace Go.Proofs.YtnkpohkodkjkfaaGreatDoor
open Go.RowKit Go.Shelf Go.Lib

theorem asQ_Q (v : Value) (w : World) : (Instr.typeAssert (.iface 70 v) 40 70 true).run Tryz.prog w = .ok (.tuple #[v, .bool true]) w := by kernel_rfl
theorem al2x (w : World) (a b : Obj) : Below w.heap.size w ((w.alloc a).alloc b) := ((Below.refl w.heap.size w).alloc (Nat.le_refl _) a).alloc (by simp) b
theorem retRN {f : Func} {q : Tmp} {R : Ending → World → Prop} {a : Act} {w : World} {b : Nat} {k fr rd : Int} {N : Nat} {v : Value} (hres : f.results = #[.cell q 27]) (hp : a.tmps.getD q undef = .pointer (some ⟨b, 0, none⟩)) (hd : a.defers = []) (h : w.heap[b]? = some (.cells #[.int .i64 k, .int .i64 fr, .int .i64 rd, .int .u32 (wd N 0 : Nat), .int .u32 (wd N 1 : Nat), .int .u32 (wd N 2 : Nat), .int .u32 (wd N 3 : Nat), v] 27 (0, 0))) (hR : R (.returned (rnv k fr rd N v)) w) : bodyPost Tryz.prog f R .ret a w :=
  bodyPost_ret (results_cell_row hres a.tmps w b _ _ (0, 0) _ hp h Tryz.underlying27 rfl (by kernel_rfl)) hd hR
def kdN (k : Int) : Nat := if k = 1 then 1 else if k = 2 then 2 else 3
def krN (k r : Int) : Int := if k = 1 ∨ k = 2 then r else 0
def kNN (k : Int) (N : Nat) : Nat := if k = 2 then N else 0
set_option maxHeartbeats 1000000 in
set_option maxRecDepth 100000 in
theorem kind8_any (k f r : Int) (N : Nat) (a : Option Addr) (m c : Nat) (w : World) : Calls Tryz.prog 7 #[rnv k f r N (.slice a m c)] w fun e w' => e = .returned (rnv (kdN k) f (krN k r) (kNN k N) (.slice a m c)) ∧ Below w.heap.size w w' := by
  by_cases h1 : k = 1
  · subst h1
    rw [show kdN 1 = 1 from rfl, show krN 1 r = r from rfl, show kNN 1 N = 0 from rfl]
    unfold rnv
    go_enter Tryz.func7, Tryz.ntmps7
    go_wp2
    exact retRN (N := 0) rfl rfl rfl (new_at (by simp)) ⟨by simp [rnv], al2x w _ _⟩
  by_cases h2 : k = 2
  · subst h2
    rw [show kdN 2 = 2 from rfl, show krN 2 r = r from rfl, show kNN 2 N = N from rfl]
    unfold rnv
    go_enter Tryz.func7, Tryz.ntmps7
    go_wp2
    exact retRN (N := N) rfl rfl rfl (new_at (by simp)) ⟨by simp [rnv], al2x w _ _⟩
  rw [show kdN k = 3 by rw [kdN, if_neg h1, if_neg h2], show krN k r = 0 from if_neg (by omega), show kNN k N = 0 from if_neg h2]
  unfold rnv
  by_cases h3 : k < 1
  · go_enter Tryz.func7, Tryz.ntmps7
    go_wp2
    exact retRN (N := 0) rfl rfl rfl (new_at (by simp)) ⟨by simp [rnv], al2x w _ _⟩
  by_cases h4 : 3 < k
  · go_enter Tryz.func7, Tryz.ntmps7
    go_wp2
    exact retRN (N := 0) rfl rfl rfl (new_at (by simp)) ⟨by simp [rnv], al2x w _ _⟩
  obtain rfl : k = 3 := by omega
  go_enter Tryz.func7, Tryz.ntmps7
  go_wp2
  exact retRN (N := 0) rfl rfl rfl (new_at (by simp)) ⟨by simp [rnv], al2x w _ _⟩
theorem kd_f (k r : Int) (N : Nat) (hN : N < S128) : (1 ≤ kdN k ∧ kdN k ≤ 3) ∧ (kdN k = 3 → krN k r = 0) ∧ (kdN k ≠ 2 → kNN k N = 0) ∧ kNN k N < S128 := by
  unfold kdN krN kNN
  by_cases h1 : k = 1
  · subst h1; simp; exact s128_0
  by_cases h2 : k = 2
  · subst h2; simp; exact hN
  rw [if_neg h1, if_neg h2, if_neg (by omega), if_neg h2]
  exact ⟨by decide, fun _ => rfl, fun _ => rfl, s128_0⟩
set_option maxHeartbeats 4000000 in
set_option maxRecDepth 100000 in
theorem told_any {M : Nat} {sl mp : Value} {L : List Int} {w : World} (hR : Ros M w (.agg #[sl, mp]) L) (hM : M ≤ w.heap.size) (hP : Pow w) (hT : Tab w) (kd : Nat) (hk : 1 ≤ kd ∧ kd ≤ 3) (fr rd : Int) (h0 : -9223372036854775808 ≤ rd) (h1 : rd ≤ 9223372036854775807) (N : Nat) (hN : N < S128) (h3 : kd = 3 → rd = 0) (h2 : kd ≠ 2 → N = 0) (ad : Option Addr) (cap : Nat) (ns : List N3t) (h : RdN w ad ns) (hl : ns.length ≤ 1000) : Calls Tryz.prog 10 #[.agg #[sl, mp], rnv kd fr rd N (.slice ad ns.length cap)] w (TlO L kd fr rd N ns w) := by
  unfold rnv
  obtain ⟨TT, hTT⟩ : ∃ TT, tlT L kd fr rd N ns = TT := ⟨_, rfl⟩
  obtain ⟨E, hE⟩ : ∃ E, flt kd (L.length : Int) fr rd N ns = E := ⟨_, rfl⟩
  obtain ⟨W1, hW1⟩ : ∃ W1, w.alloc (.cells #[sl, mp] 33) = W1 := ⟨_, rfl⟩
  have hb1 : Below w.heap.size w W1 := by rw [← hW1]; exact al1t _ _
  have z1 : W1.heap.size = w.heap.size + 1 := by rw [← hW1]; simp
  have r1 : W1.heap[w.heap.size]? = some (.cells #[sl, mp] 33 (0, 0)) := by rw [← hW1]; exact new_at rfl
  obtain ⟨W2, hW2⟩ : ∃ W2, W1.alloc (.cells #[.int .i64 (kd : Int), .int .i64 fr, .int .i64 rd, .int .u32 (wd N 0 : Nat), .int .u32 (wd N 1 : Nat), .int .u32 (wd N 2 : Nat), .int .u32 (wd N 3 : Nat), .slice ad ns.length cap] 27) = W2 := ⟨_, rfl⟩
  have hb2 : Below W1.heap.size W1 W2 := by rw [← hW2]; exact al1t _ _
  have r2 : W2.heap[w.heap.size + 1]? = some (.cells #[.int .i64 (kd : Int), .int .i64 fr, .int .i64 rd, .int .u32 (wd N 0 : Nat), .int .u32 (wd N 1 : Nat), .int .u32 (wd N 2 : Nat), .int .u32 (wd N 3 : Nat), .slice ad ns.length cap] 27 (0, 0)) := by rw [← hW2]; exact new_at z1.symm
  have hb02 := bel3 hb1 hb2
  have r12 := (hb2.block _ (lt_at r1)).trans r1
  have c0 : W2.cell? ⟨w.heap.size, 0, none⟩ = some sl := (cell_at r12 0).trans rfl
  have c1 : W2.cell? ⟨w.heap.size, 1, none⟩ = some mp := (cell_at r12 1).trans rfl
  have d0 : W2.cell? ⟨w.heap.size + 1, 0, none⟩ = some (.int .i64 (kd : Int)) := (cell_at r2 0).trans rfl
  have d1 : W2.cell? ⟨w.heap.size + 1, 1, none⟩ = some (.int .i64 fr) := (cell_at r2 1).trans rfl
  have d2 : W2.cell? ⟨w.heap.size + 1, 2, none⟩ = some (.int .i64 rd) := (cell_at r2 2).trans rfl
  have d3 : W2.cell? ⟨w.heap.size + 1, 3, none⟩ = some (.int .u32 (wd N 0 : Nat)) := (cell_at r2 3).trans rfl
  have d4 : W2.cell? ⟨w.heap.size + 1, 4, none⟩ = some (.int .u32 (wd N 1 : Nat)) := (cell_at r2 4).trans rfl
  have d5 : W2.cell? ⟨w.heap.size + 1, 5, none⟩ = some (.int .u32 (wd N 2 : Nat)) := (cell_at r2 5).trans rfl
  have d6 : W2.cell? ⟨w.heap.size + 1, 6, none⟩ = some (.int .u32 (wd N 3 : Nat)) := (cell_at r2 6).trans rfl
  have d7 : W2.cell? ⟨w.heap.size + 1, 7, none⟩ = some (.slice ad ns.length cap) := (cell_at r2 7).trans rfl
  have q1 : W1.heap.size = w.heap.size + 1 := z1
  have HF : Hid (∀ V : World, Below w.heap.size w V → TlO L kd fr rd N ns w (.returned (.tuple #[.string TT, .int .i64 E])) V) := fun V hV => ⟨by rw [hTT, hE], hV⟩
  have hR2 := hR.below (hb02.mono hM)
  have hM2 := Nat.le_trans hM hb02.size
  have hP2 := hP.carry hb02
  have hT2 := hT.carry hb02
  have h22 := h.carry hb02
  clear hb1 hb2 r1 r2 r12 hR hP hT h
  rcases (show kd = 1 ∨ kd = 2 ∨ kd = 3 by omega) with rfl | rfl | rfl
  · obtain rfl : N = 0 := h2 (by decide)
    have e1 : ((1 : Nat) : Int) = 1 := rfl
    rw [e1] at hW2 d0
    have hc := (tquery_any hR2 hM2 hP2 fr rd h0 h1 ad cap ns h22 hl).mono (fun _ _ q => q.form hTT hE)
    clear hTT hE
    go_enter Tryz.func10, Tryz.ntmps10
    go_wp2_with (go_at_call 24; (with_reducible refine hc.mono ?_); rintro e u ⟨rfl, hu⟩)
    go_ret2
    exact HF.out _ (bel3 hb02 hu)
  · have e2 : ((2 : Nat) : Int) = 2 := rfl
    rw [e2] at hW2 d0
    have hc := (treply_any hR2 hM2 hP2 hT2 fr rd h0 h1 N hN ad cap ns h22 hl).mono (fun _ _ q => q.form hTT hE)
    clear hTT hE
    go_enter Tryz.func10, Tryz.ntmps10
    go_wp2_with (go_at_call 25; (with_reducible refine hc.mono ?_); rintro e u ⟨rfl, hu⟩)
    go_ret2
    exact HF.out _ (bel3 hb02 hu)
  · obtain rfl : N = 0 := h2 (by decide)
    obtain rfl : rd = 0 := h3 rfl
    have e3 : ((3 : Nat) : Int) = 3 := rfl
    rw [e3] at hW2 d0
    have hc := (trumor_any hR2 hM2 hP2 fr ad cap ns h22 hl).mono (fun _ _ q => q.form hTT hE)
    clear hTT hE
    go_enter Tryz.func10, Tryz.ntmps10
    go_wp2_with (go_at_call 21; (with_reducible refine hc.mono ?_); rintro e u ⟨rfl, hu⟩)
    go_ret2
    exact HF.out _ (bel3 hb02 hu)

def abg : ByteArray := ⟨#[206, 177, 206, 178, 206, 179]⟩
theorem abg_read : readR abg = ([945, 946, 947], 0, 0) := by kernel_rfl
theorem abg_tell : tlT [945, 946, 947] 3 1 0 0 [] = ⟨#[114, 117, 109, 111, 114, 32, 206, 178, 32, 91, 93]⟩ := by kernel_rfl
theorem abg_flt : flt 3 3 1 0 0 [] = 0 := by kernel_rfl
theorem abg_text : txt (pcR (noteP [945, 946, 947] 1 2 7 0 [])) = ⟨#[113, 117, 101, 114, 121, 32, 206, 179, 32, 55, 32, 91, 93]⟩ := by kernel_rfl
theorem abg_eq2 (w : World) : (binOp .eql 9 (.string ⟨#[114, 117, 109, 111, 114, 32, 206, 178, 32, 91, 93]⟩) (.string ⟨#[114, 117, 109, 111, 114, 32, 206, 178, 32, 91, 93]⟩)).run Tryz.prog w = .ok (.bool true) w := by kernel_rfl
set_option maxHeartbeats 4000000 in
set_option maxRecDepth 100000 in
theorem alive_any (w : World) (hP : Pow w) (hU : Ut w) : Calls Tryz.prog 8 #[] w fun e w' => e = .returned (.bool true) ∧ Below w.heap.size w w' := by
  have hrd := read_any abg (by decide) w
  unfold RdV at hrd
  rw [abg_read] at hrd
  dsimp only at hrd
  have HRU : Hid (∀ (M : Nat) (sl mp : Value) (V : World), Ros M V (.agg #[sl, mp]) [945, 946, 947] → M ≤ V.heap.size → Pow V → Calls Tryz.prog 21 #[.agg #[sl, mp], .agg #[.int .i64 1, .slice none 0 0]] V fun e w' => e = .returned (.tuple #[.string ⟨#[114, 117, 109, 111, 114, 32, 206, 178, 32, 91, 93]⟩, .int .i64 0]) ∧ Below V.heap.size V w') := fun M sl mp V hR hM hP => (trumor_any hR hM hP 1 none 0 [] (fun e => absurd rfl e) (by simp)).mono (fun _ _ q => q.form abg_tell abg_flt)
  have HRQ : Hid (∀ (M : Nat) (sl mp : Value) (V : World), Ros M V (.agg #[sl, mp]) [945, 946, 947] → M ≤ V.heap.size → Ut V → Calls Tryz.prog 11 #[.agg #[sl, mp], .string ⟨#[113, 117, 101, 114, 121, 32, 206, 179, 32, 55, 32, 91, 93]⟩] V fun e w' => ∃ a c, e = .returned (.tuple #[.iface 70 (.agg #[.int .i64 2, .int .i64 7, .slice a 0 c]), .int .i64 0, .int .i64 0]) ∧ Below V.heap.size V w') := fun M sl mp V hR hM hU => by
    have := read_query (fr := 2) (rd := 7) (N := 0) (ns := []) hR hM hU (by decide) (by decide) (by decide) (wth_zero _) ⟨fun x hx => (by cases hx), fun k x y hx => (by simp at hx), by simp⟩
    rw [show ((2 : Nat) : Int) = 2 from rfl, show ((7 : Nat) : Int) = 7 from rfl, abg_text] at this
    refine this.mono ?_
    rintro e w' ⟨v, rfl, h1, h2⟩
    obtain ⟨a, c, rfl, _⟩ := ownsRow_form h1
    exact ⟨a, c, rfl, h2⟩
  have s1 := asQ_Q
  have hq := abg_eq2
  unfold abg at hrd
  have HP : Hid (Pow w) := hP
  have HU : Hid (Ut w) := hU
  clear hP hU
  go_enter Tryz.func8, Tryz.ntmps8
  go_wp2_with (first
    | (go_at_call 11; (with_reducible refine (HRQ.out _ _ _ _ hv3 hm3 (HU.out.carry hw3)).mono ?_); rintro e u4 ⟨a, c, rfl, hu4⟩)
    | (go_at_call 21; (with_reducible refine (HRU.out _ _ _ _ hv2 hm2 (HP.out.carry hw2)).mono ?_); rintro e u3 ⟨rfl, hu3⟩; (have hv3 := hv2.below (hu3.mono hm2)); (have hm3 := Nat.le_trans hm2 hu3.size); (have hw3 := bel3 hw2 hu3); (have g3 := (hu3.block _ (lt_at g2)).trans g2); (have a0 : u3.cell? ⟨u1.heap.size, 0, none⟩ = some (.slice ad n cap) := (cell_at g3 0).trans rfl); (have a1 : u3.cell? ⟨u1.heap.size, 1, none⟩ = some (.map mb) := (cell_at g3 1).trans rfl))
    | (go_at_call 9; (with_reducible refine hrd.mono ?_); rintro e u1 ⟨⟨v, rfl, hv⟩, hu1⟩; obtain ⟨ad, n, cap, mb, rfl⟩ : ∃ ad n cap mb, v = .agg #[.slice ad n cap, .map mb] := (by obtain ⟨ad, cap, mb, e⟩ := hv.form; exact ⟨_, _, _, _, e⟩); obtain ⟨u2, hu2⟩ : ∃ u2, u1.alloc (.cells #[.slice ad n cap, .map mb] 33) = u2 := ⟨_, rfl⟩; (have hb2 : Below u1.heap.size u1 u2 := by rw [← hu2]; exact al1t _ _); (have g2 : u2.heap[u1.heap.size]? = some (.cells #[.slice ad n cap, .map mb] 33 (0, 0)) := by rw [← hu2]; exact new_at rfl); (have hv2 := hv.below hb2); (have hm2 := hb2.size); (have hw2 := bel3 hu1 hb2); (have b0 : u2.cell? ⟨u1.heap.size, 0, none⟩ = some (.slice ad n cap) := (cell_at g2 0).trans rfl); (have b1 : u2.cell? ⟨u1.heap.size, 1, none⟩ = some (.map mb) := (cell_at g2 1).trans rfl)))
  go_ret
  exact ⟨rfl, bel3 (bel3 hw3 hu4) (al1t _ _)⟩
end Go.Proofs.YtnkpohkodkjkfaaGreatDoor
