import Derived.Test.YtmahamdmapbilaaGreatDoorJwJ17
import Derived.Test.YtmahamdmapbilaaGreatDoorRows
import Derived.ProofKit
import Derived.OpenShut
import Derived.ChangeOld
import Derived.Below
import Derived.Deep.Slices
import Derived.Deep.Strs
import Derived.Test.YtmahamdmapbilaaGreatDoorJwJ9
import Derived.Test.YtmahamdmapbilaaGreatDoorJwJ18
import Derived.ChangeSlices
import Derived.Test.YtmahamdmapbilaaGreatDoorJwJ25
import Derived.Test.YtmahamdmapbilaaGreatDoorJwJ21
set_option maxHeartbeats 40000000
set_option maxRecDepth 100000
set_option linter.unusedVariables false
namespace Go.Proofs.YtmahamdmapbilaaGreatDoor
open Go.ChangeShapes Go.WideShapes Go.ChangeAt Go.RowKit
def rnv (k f r : Int) (N : Nat) (v : Value) : Value := .agg #[.int .i64 k, .int .i64 f, .int .i64 r, .int .u32 (wd N 0 : Nat), .int .u32 (wd N 1 : Nat), .int .u32 (wd N 2 : Nat), .int .u32 (wd N 3 : Nat), v]
end Go.Proofs.YtmahamdmapbilaaGreatDoor
namespace Go.Proofs.YtmahamdmapbilaaGreatDoor
open Go.RowKit Go.Shelf Go.Lib
def noteV (kd : Nat) (fr rd : Int) (N : Nat) (v : Value) : Value :=
 if kd = 1 then .iface 92 (.agg #[.int .i64 fr, .int .i64 rd, v])
 else if kd = 2 then .iface 95 (.agg #[.int .i64 fr, .int .i64 rd, .int .u32 (wd N 0 : Nat), .int .u32 (wd N 1 : Nat), .int .u32 (wd N 2 : Nat), .int .u32 (wd N 3 : Nat), v])
 else .iface 90 (.agg #[.int .i64 fr, v])
def qZ : Value := .agg #[.int .i64 0, .int .i64 0, .slice none 0 0]
def pZ : Value := .agg #[.int .i64 0, .int .i64 0, .int .u32 0, .int .u32 0, .int .u32 0, .int .u32 0, .slice none 0 0]
theorem asQ_Q (v : Value) (w : World) : (Instr.typeAssert (.iface 92 v) 30 92 true).run Tryz.prog w = .ok (.tuple #[v, .bool true]) w := by kernel_rfl
theorem asP_Q (v : Value) (w : World) : (Instr.typeAssert (.iface 95 v) 30 92 true).run Tryz.prog w = .ok (.tuple #[qZ, .bool false]) w := by kernel_rfl
theorem asP_P (v : Value) (w : World) : (Instr.typeAssert (.iface 95 v) 30 95 true).run Tryz.prog w = .ok (.tuple #[v, .bool true]) w := by kernel_rfl
theorem asU_Q (v : Value) (w : World) : (Instr.typeAssert (.iface 90 v) 30 92 true).run Tryz.prog w = .ok (.tuple #[qZ, .bool false]) w := by kernel_rfl
theorem asU_P (v : Value) (w : World) : (Instr.typeAssert (.iface 90 v) 30 95 true).run Tryz.prog w = .ok (.tuple #[pZ, .bool false]) w := by kernel_rfl
theorem asU_U (v : Value) (w : World) : (Instr.typeAssert (.iface 90 v) 30 90 true).run Tryz.prog w = .ok (.tuple #[v, .bool true]) w := by kernel_rfl
theorem al2x (w : World) (a b : Obj) : Below w.heap.size w ((w.alloc a).alloc b) := ((Below.refl w.heap.size w).alloc (Nat.le_refl _) a).alloc (by simp) b
theorem res2b {tmps : Array Value} {W : World} {a : Nat} {k fr rd : Int} {N : Nat} {v : Value} {y : Value} (h4 : tmps[2]?.getD undef = .pointer (some ⟨a, 0, none⟩)) (h5 : tmps[3]?.getD undef = y) (hx : W.heap[a]? = some (.cells #[.int .i64 k, .int .i64 fr, .int .i64 rd, .int .u32 (wd N 0 : Nat), .int .u32 (wd N 1 : Nat), .int .u32 (wd N 2 : Nat), .int .u32 (wd N 3 : Nat), v] 39 (0, 0))) : (results Tryz.f9 tmps).run Tryz.prog W = .ok (.tuple #[rnv k fr rd N v, y]) W := by
 have c0 := zca hx 0
 have c1 := zca hx 1
 have c2 := zca hx 2
 have c3 := zca hx 3
 have c4 := zca hx 4
 have c5 := zca hx 5
 have c6 := zca hx 6
 have c7 := zca hx 7
 simp at c0 c1 c2 c3 c4 c5 c6 c7
 simp [results, Tryz.results9, go_sem, h4, h5, c0, c1, c2, c3, c4, c5, c6, c7, rnv]
theorem as_any (kd : Nat) (hk : 1 ≤ kd ∧ kd ≤ 3) (f r : Int) (N : Nat) (h3 : kd = 3 → r = 0) (h2 : kd ≠ 2 → N = 0) (a : Option Addr) (m c : Nat) (w : World) : Calls Tryz.prog 9 #[noteV kd f r N (.slice a m c)] w fun e w' => e = .returned (.tuple #[rnv kd f r N (.slice a m c), .bool true]) ∧ Below w.heap.size w w' := by
 rcases (show kd = 1 ∨ kd = 2 ∨ kd = 3 by omega) with rfl | rfl | rfl
 · obtain rfl : N = 0 := h2 (by decide)
   rw [show noteV 1 f r 0 (.slice a m c) = .iface 92 (.agg #[.int .i64 f, .int .i64 r, .slice a m c]) from rfl]
   have s1 := asQ_Q
   go_enter Tryz.func9, Tryz.ntmps9
   go_wp2
   exact bodyPost_ret (res2b (N := 0) rfl rfl (zoa (zna rfl))) rfl ⟨rfl, al2x w _ _⟩
 · rw [show noteV 2 f r N (.slice a m c) = .iface 95 (.agg #[.int .i64 f, .int .i64 r, .int .u32 (wd N 0 : Nat), .int .u32 (wd N 1 : Nat), .int .u32 (wd N 2 : Nat), .int .u32 (wd N 3 : Nat), .slice a m c]) from rfl]
   have s1 := asP_Q
   have s2 := asP_P
   unfold qZ at s1
   go_enter Tryz.func9, Tryz.ntmps9
   go_wp2
   exact bodyPost_ret (res2b (N := N) rfl rfl (zoa (zna rfl))) rfl ⟨rfl, al2x w _ _⟩
 · obtain rfl : N = 0 := h2 (by decide)
   obtain rfl : r = 0 := h3 rfl
   rw [show noteV 3 f 0 0 (.slice a m c) = .iface 90 (.agg #[.int .i64 f, .slice a m c]) from rfl]
   have s1 := asU_Q
   have s2 := asU_P
   have s3 := asU_U
   unfold qZ at s1
   unfold pZ at s2
   go_enter Tryz.func9, Tryz.ntmps9
   go_wp2
   exact bodyPost_ret (res2b (N := 0) rfl rfl (zoa (zna rfl))) rfl ⟨rfl, al2x w _ _⟩
theorem samen_any (k f r : Int) (N : Nat) (hN : N < S128) (a a' : Option Addr) (c c' : Nat) (l : List (Int × Int × Int)) (w : World) (h : RdN w a l) (h' : RdN w a' l) (hl : l.length ≤ 6000000000000) : Calls Tryz.prog 12 #[rnv k f r N (.slice a l.length c), rnv k f r N (.slice a' l.length c')] w fun e w' => e = .returned (.bool true) ∧ Below w.heap.size w w' := by
 have hb0 := al2x w (.cells #[.int .i64 k, .int .i64 f, .int .i64 r, .int .u32 (wd N 0 : Nat), .int .u32 (wd N 1 : Nat), .int .u32 (wd N 2 : Nat), .int .u32 (wd N 3 : Nat), .slice a l.length c] 39) (.cells #[.int .i64 k, .int .i64 f, .int .i64 r, .int .u32 (wd N 0 : Nat), .int .u32 (wd N 1 : Nat), .int .u32 (wd N 2 : Nat), .int .u32 (wd N 3 : Nat), .slice a' l.length c'] 39)
 have hsm := same_any a a' c c' l _ (h.carry hb0) (h'.carry hb0) hl
 have heq : ∀ w, (Op.equalIn 10000 36 (.agg #[.int .u32 (wd N 0 : Nat), .int .u32 (wd N 1 : Nat), .int .u32 (wd N 2 : Nat), .int .u32 (wd N 3 : Nat)]) (.agg #[.int .u32 (wd N 0 : Nat), .int .u32 (wd N 1 : Nat), .int .u32 (wd N 2 : Nat), .int .u32 (wd N 3 : Nat)])).run Tryz.prog w = .ok true w := fun w => by
  have h := eqn4 N N hN hN w
  unfold sv at h
  simpa using h
 unfold rnv
 go_enter Tryz.func12, Tryz.ntmps12
 go_wp2_with (go_at_call 32; (with_reducible refine hsm.mono ?_); rintro e u1 ⟨rfl, hb1⟩)
 go_ret
 exact ⟨rfl, bel2 hb0 hb1⟩
theorem told_any {M : Nat} {sl mp : Value} {L : List Int} {w : World} (hR : Ros M w (.agg #[sl, mp]) L) (hM : M ≤ w.heap.size) (hP : Pow w) (hT : Tab w) (kd : Nat) (hk : 1 ≤ kd ∧ kd ≤ 3) (fr rd : Int) (h0 : -9223372036854775808 ≤ rd) (h1 : rd ≤ 9223372036854775807) (N : Nat) (hN : N < S128) (h3 : kd = 3 → rd = 0) (h2 : kd ≠ 2 → N = 0) (ad : Option Addr) (cap : Nat) (ns : List N3t) (h : RdN w ad ns) (hl : ns.length ≤ 1000) : Calls Tryz.prog 10 #[.agg #[sl, mp], rnv kd fr rd N (.slice ad ns.length cap)] w (TlO L kd fr rd N ns w) := by
 unfold rnv
 obtain ⟨TT, hTT⟩ : ∃ TT, tlT L kd fr rd N ns = TT := ⟨_, rfl⟩
 obtain ⟨E, hE⟩ : ∃ E, flt kd (L.length : Int) fr rd N ns = E := ⟨_, rfl⟩
 obtain ⟨W1, hW1⟩ : ∃ W1, w.alloc (.cells #[sl, mp] 25) = W1 := ⟨_, rfl⟩
 have hb1 : Below w.heap.size w W1 := by rw [← hW1]; exact al1t _ _
 have z1 : W1.heap.size = w.heap.size + 1 := by rw [← hW1]; simp
 have r1 : W1.heap[w.heap.size]? = some (.cells #[sl, mp] 25 (0, 0)) := by rw [← hW1]; exact zna rfl
 obtain ⟨W2, hW2⟩ : ∃ W2, W1.alloc (.cells #[.int .i64 (kd : Int), .int .i64 fr, .int .i64 rd, .int .u32 (wd N 0 : Nat), .int .u32 (wd N 1 : Nat), .int .u32 (wd N 2 : Nat), .int .u32 (wd N 3 : Nat), .slice ad ns.length cap] 39) = W2 := ⟨_, rfl⟩
 have hb2 : Below W1.heap.size W1 W2 := by rw [← hW2]; exact al1t _ _
 have r2 : W2.heap[w.heap.size + 1]? = some (.cells #[.int .i64 (kd : Int), .int .i64 fr, .int .i64 rd, .int .u32 (wd N 0 : Nat), .int .u32 (wd N 1 : Nat), .int .u32 (wd N 2 : Nat), .int .u32 (wd N 3 : Nat), .slice ad ns.length cap] 39 (0, 0)) := by rw [← hW2]; exact zna z1.symm
 have hb02 := bel3 hb1 hb2
 have r12 := (hb2.block _ (zla r1)).trans r1
 have c0 : W2.cell? ⟨w.heap.size, 0, none⟩ = some sl := (zca r12 0).trans rfl
 have c1 : W2.cell? ⟨w.heap.size, 1, none⟩ = some mp := (zca r12 1).trans rfl
 have d0 : W2.cell? ⟨w.heap.size + 1, 0, none⟩ = some (.int .i64 (kd : Int)) := (zca r2 0).trans rfl
 have d1 : W2.cell? ⟨w.heap.size + 1, 1, none⟩ = some (.int .i64 fr) := (zca r2 1).trans rfl
 have d2 : W2.cell? ⟨w.heap.size + 1, 2, none⟩ = some (.int .i64 rd) := (zca r2 2).trans rfl
 have d3 : W2.cell? ⟨w.heap.size + 1, 3, none⟩ = some (.int .u32 (wd N 0 : Nat)) := (zca r2 3).trans rfl
 have d4 : W2.cell? ⟨w.heap.size + 1, 4, none⟩ = some (.int .u32 (wd N 1 : Nat)) := (zca r2 4).trans rfl
 have d5 : W2.cell? ⟨w.heap.size + 1, 5, none⟩ = some (.int .u32 (wd N 2 : Nat)) := (zca r2 5).trans rfl
 have d6 : W2.cell? ⟨w.heap.size + 1, 6, none⟩ = some (.int .u32 (wd N 3 : Nat)) := (zca r2 6).trans rfl
 have d7 : W2.cell? ⟨w.heap.size + 1, 7, none⟩ = some (.slice ad ns.length cap) := (zca r2 7).trans rfl
 have q1 : W1.heap.size = w.heap.size + 1 := z1
 have HF : Hid (∀ V : World, Below w.heap.size w V → TlO L kd fr rd N ns w (.returned (.tuple #[.string TT, .int .i64 E])) V) := fun V hV => ⟨by rw [hTT, hE], hV⟩
 have hR2 := hR.below (hb02.mono hM)
 have hM2 := Nat.le_trans hM hb02.size
 have hP2 := hP.carry hb02
 have hT2 := hT.carry hb02
 have h22 := h.carry hb02
 clear hb1 hb2 r1 r2 r12 hR hP hT h
 rcases (show kd = 1 ∨ kd = 2 ∨ kd = 3 by omega) with rfl | rfl | rfl
 · obtain rfl : N = 0 := h2 (by decide)
   have e1 : ((1 : Nat) : Int) = 1 := rfl
   rw [e1] at hW2 d0
   have hc := (tquery_any hR2 hM2 hP2 fr rd h0 h1 ad cap ns h22 hl).mono (fun _ _ q => q.form hTT hE)
   clear hTT hE
   go_enter Tryz.func10, Tryz.ntmps10
   go_wp2_with (go_at_call 25; (with_reducible refine hc.mono ?_); rintro e u ⟨rfl, hu⟩)
   go_ret2
   exact HF.out _ (bel3 hb02 hu)
 · have e2 : ((2 : Nat) : Int) = 2 := rfl
   rw [e2] at hW2 d0
   have hc := (treply_any hR2 hM2 hP2 hT2 fr rd h0 h1 N hN ad cap ns h22 hl).mono (fun _ _ q => q.form hTT hE)
   clear hTT hE
   go_enter Tryz.func10, Tryz.ntmps10
   go_wp2_with (go_at_call 26; (with_reducible refine hc.mono ?_); rintro e u ⟨rfl, hu⟩)
   go_ret2
   exact HF.out _ (bel3 hb02 hu)
 · obtain rfl : N = 0 := h2 (by decide)
   obtain rfl : rd = 0 := h3 rfl
   have e3 : ((3 : Nat) : Int) = 3 := rfl
   rw [e3] at hW2 d0
   have hc := (trumor_any hR2 hM2 hP2 fr ad cap ns h22 hl).mono (fun _ _ q => q.form hTT hE)
   clear hTT hE
   go_enter Tryz.func10, Tryz.ntmps10
   go_wp2_with (go_at_call 24; (with_reducible refine hc.mono ?_); rintro e u ⟨rfl, hu⟩)
   go_ret2
   exact HF.out _ (bel3 hb02 hu)
def BdO (nb wb : Nat) (l : List Tk4) (w : World) (r : Except ErT (Nt5 × Nat)) (e : Ending) (w' : World) : Prop := match r with
 | .error q => Dy nb w q.1 q.2 e w'
 | .ok x => ∃ v, e = .returned (noteV x.1.1 x.1.2.1 (x.1.2.2.1 : Nat) x.1.2.2.2.1 v) ∧ w'.ownsRow w.heap.size 124 3 v x.1.2.2.2.2.length (fl x.1.2.2.2.2) ∧ Tk nb wb l x.2 w' ∧ Ob nb w w'
theorem bdo_err {nb wb : Nat} {l : List Tk4} {w w' : World} {r : Except ErT (Nt5 × Nat)} {er c : Int} (h : r = .error (er, c)) (ho : Ob nb w w') : BdO nb wb l w r (.panicked (rfT er c)) w' := by
 subst h
 exact ⟨rfl, ho⟩
theorem at_len {L : List Int} {l : List Tk4} {i : Nat} {fr : Int} (h : SgA L l i fr) : i + 1 ≤ l.length := by
 obtain ⟨x, h1, _⟩ := h
 exact (List.getElem?_eq_some_iff.1 h1).1
theorem rn_len {l : List Tk4} {i rd : Nat} (h : RnA l i rd) : i + 1 ≤ l.length := by
 obtain ⟨x, h1, _⟩ := h
 exact (List.getElem?_eq_some_iff.1 h1).1
theorem hd_len {L : List Int} {l : List Tk4} {i N : Nat} (h : HdA L l i N) : i + 1 ≤ l.length := by
 obtain ⟨x, h1, _⟩ := h
 exact (List.getElem?_eq_some_iff.1 h1).1
theorem queryB_any {M : Nat} {sl mp : Value} {L : List Int} {nb wb : Nat} {l : List Tk4} {w : World} (hE : En M L sl mp nb w) (hSh : Shw l) (h : Tk nb wb l 1 w) (hi : 1 ≤ l.length) (hl : l.length ≤ 1000000) : Calls Tryz.prog 95 #[.agg #[sl, mp, rdF nb wb]] w (BdO nb wb l w (qR L l)) := by
 have hmx := mixO
 obtain ⟨W1, hW1⟩ : ∃ W1, w.alloc (.cells #[sl, mp, rdF nb wb] 86) = W1 := ⟨_, rfl⟩
 have hb1 : Below w.heap.size w W1 := by rw [← hW1]; exact al1t _ _
 have hr1 : RdBx W1 w.heap.size sl mp nb wb := by unfold RdBx; rw [← hW1]; exact zna rfl
 have hnb := zla h.nx
 have hne : w.heap.size ≠ nb := by omega
 have hl1 := zla hr1
 have hE1 := hE.on (Ob.of hb1)
 have k0 : W1.cell? ⟨w.heap.size, 0, none⟩ = some sl := (zca hr1 0).trans rfl
 have k1 : W1.cell? ⟨w.heap.size, 1, none⟩ = some mp := (zca hr1 1).trans rfl
 have k2 : W1.cell? ⟨w.heap.size, 2, none⟩ = some (.func (.func 93) #[] #[.pointer (some ⟨nb, 0, none⟩), .pointer (some ⟨wb, 0, none⟩)]) := (zca hr1 2).trans rfl
 obtain ⟨R, hRR⟩ : ∃ R, qR L l = R := ⟨_, rfl⟩
 rw [hRR]
 unfold qR at hRR
 have HSA := sender_any hE1 hSh (h.carry hb1) hi hl
 unfold SdO at HSA
 unfold rdF at hW1 HSA ⊢
 cases hS : sgR L l 1 with
 | error q =>
  rw [hS] at hRR HSA
  have HRR : Hid (R = .error q) := hRR.symm
  have HS : Calls Tryz.prog 151 #[.agg #[sl, mp, .func (.func 93) #[] #[.pointer (some ⟨nb, 0, none⟩), .pointer (some ⟨wb, 0, none⟩)]]] W1 fun e w' => e = .panicked (rfT q.1 q.2) ∧ Ob nb W1 w' := HSA
  clear hS hRR HSA hE h hE1
  go_enter Tryz.func95, Tryz.ntmps95
  go_wp2_with (go_at_call 151; (with_reducible refine HS.mono ?_); rintro e u1 ⟨rfl, hO1⟩)
  exact ⟨rfl, bdo_err HRR.out ((Ob.of hb1).trans hO1)⟩
 | ok fr =>
 rw [hS] at hRR HSA
 have hS1 := at_len (sgT_ok hSh hS)
 have HS : Calls Tryz.prog 151 #[.agg #[sl, mp, .func (.func 93) #[] #[.pointer (some ⟨nb, 0, none⟩), .pointer (some ⟨wb, 0, none⟩)]]] W1 fun e w' => e = .returned (.int .i64 fr) ∧ Tk nb wb l 2 w' ∧ Ob nb W1 w' := HSA
 clear HSA hS
 dsimp only at hRR
 have HRA : ∀ V, Tk nb wb l 2 V → Calls Tryz.prog 152 #[.agg #[sl, mp, .func (.func 93) #[] #[.pointer (some ⟨nb, 0, none⟩), .pointer (some ⟨wb, 0, none⟩)]]] V (RnO nb wb l 2 V (rnR l 2)) := fun V hV => round_all hSh hV hS1 hl
 unfold RnO at HRA
 cases hR : rnR l 2 with
 | error q =>
  rw [hR] at hRR HRA
  have HRR : Hid (R = .error q) := hRR.symm
  have HR : Hid (∀ V, Tk nb wb l 2 V → Calls Tryz.prog 152 #[.agg #[sl, mp, .func (.func 93) #[] #[.pointer (some ⟨nb, 0, none⟩), .pointer (some ⟨wb, 0, none⟩)]]] V fun e w' => e = .panicked (rfT q.1 q.2) ∧ Ob nb V w') := HRA
  clear hR hRR HRA hE h hE1
  go_enter Tryz.func95, Tryz.ntmps95
  go_wp2_with (first | (go_at_call 151; (with_reducible refine HS.mono ?_); rintro e u1 ⟨rfl, hT1, hO1⟩; (have g1 := hr1.ob hO1 hne); (have m0 : u1.cell? ⟨w.heap.size, 0, none⟩ = some sl := (zca g1 0).trans rfl); (have m1 : u1.cell? ⟨w.heap.size, 1, none⟩ = some mp := (zca g1 1).trans rfl); (have m2 : u1.cell? ⟨w.heap.size, 2, none⟩ = some (.func (.func 93) #[] #[.pointer (some ⟨nb, 0, none⟩), .pointer (some ⟨wb, 0, none⟩)]) := (zca g1 2).trans rfl)) | (go_at_call 152; (with_reducible refine (HR.out _ hT1).mono ?_); rintro e u2 ⟨rfl, hO2⟩))
  exact ⟨rfl, bdo_err HRR.out ((Ob.of hb1).trans (hO1.trans hO2))⟩
 | ok rd =>
 rw [hR] at hRR HRA
 have hR1 := rn_len (rndT_ok hSh hR)
 have HR : Hid (∀ V, Tk nb wb l 2 V → Calls Tryz.prog 152 #[.agg #[sl, mp, .func (.func 93) #[] #[.pointer (some ⟨nb, 0, none⟩), .pointer (some ⟨wb, 0, none⟩)]]] V fun e w' => e = .returned (.int .i64 (rd : Int)) ∧ Tk nb wb l 3 w' ∧ Ob nb V w') := HRA
 clear HRA hR
 dsimp only at hRR
 have HNA : ∀ V, Ob nb W1 V → Tk nb wb l 3 V → Calls Tryz.prog 153 #[.agg #[sl, mp, .func (.func 93) #[] #[.pointer (some ⟨nb, 0, none⟩), .pointer (some ⟨wb, 0, none⟩)]]] V (NsO nb wb l V (nwsR L l 3)) := fun V hO hV => newsT_any (hE1.on hO) hSh hV hR1 hl
 unfold NsO at HNA
 cases hN : nwsR L l 3 with
 | error q =>
  rw [hN] at hRR HNA
  have HRR : Hid (R = .error q) := hRR.symm
  have HN : Hid (∀ V, Ob nb W1 V → Tk nb wb l 3 V → Calls Tryz.prog 153 #[.agg #[sl, mp, .func (.func 93) #[] #[.pointer (some ⟨nb, 0, none⟩), .pointer (some ⟨wb, 0, none⟩)]]] V fun e w' => e = .panicked (rfT q.1 q.2) ∧ Ob nb V w') := HNA
  clear hN hRR HNA hE h hE1
  go_enter Tryz.func95, Tryz.ntmps95
  go_wp2_with (first | (go_at_call 151; (with_reducible refine HS.mono ?_); rintro e u1 ⟨rfl, hT1, hO1⟩; (have g1 := hr1.ob hO1 hne); (have m0 : u1.cell? ⟨w.heap.size, 0, none⟩ = some sl := (zca g1 0).trans rfl); (have m1 : u1.cell? ⟨w.heap.size, 1, none⟩ = some mp := (zca g1 1).trans rfl); (have m2 : u1.cell? ⟨w.heap.size, 2, none⟩ = some (.func (.func 93) #[] #[.pointer (some ⟨nb, 0, none⟩), .pointer (some ⟨wb, 0, none⟩)]) := (zca g1 2).trans rfl)) | (go_at_call 152; (with_reducible refine (HR.out _ hT1).mono ?_); rintro e u2 ⟨rfl, hT2, hO2⟩; (have g2 := g1.ob hO2 hne); (have q0 : u2.cell? ⟨w.heap.size, 0, none⟩ = some sl := (zca g2 0).trans rfl); (have q1 : u2.cell? ⟨w.heap.size, 1, none⟩ = some mp := (zca g2 1).trans rfl); (have q2 : u2.cell? ⟨w.heap.size, 2, none⟩ = some (.func (.func 93) #[] #[.pointer (some ⟨nb, 0, none⟩), .pointer (some ⟨wb, 0, none⟩)]) := (zca g2 2).trans rfl)) | (go_at_call 153; (with_reducible refine (HN.out _ (hO1.trans hO2) hT2).mono ?_); rintro e u3 ⟨rfl, hO3⟩))
  exact ⟨rfl, bdo_err HRR.out ((Ob.of hb1).trans ((hO1.trans hO2).trans hO3))⟩
 | ok x =>
 obtain ⟨ns, j⟩ := x
 rw [hN] at hRR HNA
 dsimp only at hRR HNA
 have HRR : Hid (R = .ok ((1, fr, rd, 0, ns), j)) := hRR.symm
 have HN : Hid (∀ V, Ob nb W1 V → Tk nb wb l 3 V → Calls Tryz.prog 153 #[.agg #[sl, mp, .func (.func 93) #[] #[.pointer (some ⟨nb, 0, none⟩), .pointer (some ⟨wb, 0, none⟩)]]] V fun e w' => ∃ a c, e = .returned (.slice a ns.length c) ∧ w'.ownsRow V.heap.size 124 3 (.slice a ns.length c) ns.length (fl ns) ∧ Tk nb wb l j w' ∧ Ob nb V w') := fun V hO hV => (HNA V hO hV).mono (by
  rintro e w' ⟨v, rfl, h1, h2, h3⟩
  obtain ⟨a, c, rfl, _⟩ := ownsRow_form h1
  exact ⟨a, c, rfl, h1, h2, h3⟩)
 obtain ⟨m, hm⟩ : ∃ m, ns.length = m := ⟨_, rfl⟩
 rw [hm] at HN
 have hm' : Hid (ns.length = m) := hm
 clear hE h hE1 hRR HNA hN hm
 go_enter Tryz.func95, Tryz.ntmps95
 go_wp2_with (first | (go_at_call 151; (with_reducible refine HS.mono ?_); rintro e u1 ⟨rfl, hT1, hO1⟩; (have g1 := hr1.ob hO1 hne); (have m0 : u1.cell? ⟨w.heap.size, 0, none⟩ = some sl := (zca g1 0).trans rfl); (have m1 : u1.cell? ⟨w.heap.size, 1, none⟩ = some mp := (zca g1 1).trans rfl); (have m2 : u1.cell? ⟨w.heap.size, 2, none⟩ = some (.func (.func 93) #[] #[.pointer (some ⟨nb, 0, none⟩), .pointer (some ⟨wb, 0, none⟩)]) := (zca g1 2).trans rfl)) | (go_at_call 152; (with_reducible refine (HR.out _ hT1).mono ?_); rintro e u2 ⟨rfl, hT2, hO2⟩; (have g2 := g1.ob hO2 hne); (have q0 : u2.cell? ⟨w.heap.size, 0, none⟩ = some sl := (zca g2 0).trans rfl); (have q1 : u2.cell? ⟨w.heap.size, 1, none⟩ = some mp := (zca g2 1).trans rfl); (have q2 : u2.cell? ⟨w.heap.size, 2, none⟩ = some (.func (.func 93) #[] #[.pointer (some ⟨nb, 0, none⟩), .pointer (some ⟨wb, 0, none⟩)]) := (zca g2 2).trans rfl)) | (go_at_call 153; (with_reducible refine (HN.out _ (hO1.trans hO2) hT2).mono ?_); rintro e u3 ⟨a, c, rfl, hrow, hT3, hO3⟩))
 go_ret
 rw [HRR.out]
 refine ⟨_, rfl, ?_, hT3, (Ob.of hb1).trans ((hO1.trans hO2).trans hO3)⟩
 show World.ownsRow _ _ _ _ _ ns.length (fl ns)
 rw [hm'.out]
 exact ownsRow_base hrow (Nat.le_trans hb1.size ((hO1.trans hO2)).size)
theorem rumorB_any {M : Nat} {sl mp : Value} {L : List Int} {nb wb : Nat} {l : List Tk4} {w : World} (hE : En M L sl mp nb w) (hSh : Shw l) (h : Tk nb wb l 1 w) (hi : 1 ≤ l.length) (hl : l.length ≤ 1000000) : Calls Tryz.prog 97 #[.agg #[sl, mp, rdF nb wb]] w (BdO nb wb l w (uR L l)) := by
 obtain ⟨W1, hW1⟩ : ∃ W1, w.alloc (.cells #[sl, mp, rdF nb wb] 86) = W1 := ⟨_, rfl⟩
 have hb1 : Below w.heap.size w W1 := by rw [← hW1]; exact al1t _ _
 have hr1 : RdBx W1 w.heap.size sl mp nb wb := by unfold RdBx; rw [← hW1]; exact zna rfl
 have hnb := zla h.nx
 have hne : w.heap.size ≠ nb := by omega
 have hl1 := zla hr1
 have hE1 := hE.on (Ob.of hb1)
 have k0 : W1.cell? ⟨w.heap.size, 0, none⟩ = some sl := (zca hr1 0).trans rfl
 have k1 : W1.cell? ⟨w.heap.size, 1, none⟩ = some mp := (zca hr1 1).trans rfl
 have k2 : W1.cell? ⟨w.heap.size, 2, none⟩ = some (.func (.func 93) #[] #[.pointer (some ⟨nb, 0, none⟩), .pointer (some ⟨wb, 0, none⟩)]) := (zca hr1 2).trans rfl
 obtain ⟨R, hRR⟩ : ∃ R, uR L l = R := ⟨_, rfl⟩
 rw [hRR]
 unfold uR at hRR
 have HSA := sender_any hE1 hSh (h.carry hb1) hi hl
 unfold SdO at HSA
 unfold rdF at hW1 HSA ⊢
 cases hS : sgR L l 1 with
 | error q =>
  rw [hS] at hRR HSA
  have HRR : Hid (R = .error q) := hRR.symm
  have HS : Calls Tryz.prog 151 #[.agg #[sl, mp, .func (.func 93) #[] #[.pointer (some ⟨nb, 0, none⟩), .pointer (some ⟨wb, 0, none⟩)]]] W1 fun e w' => e = .panicked (rfT q.1 q.2) ∧ Ob nb W1 w' := HSA
  clear hS hRR HSA hE h hE1
  go_enter Tryz.func97, Tryz.ntmps97
  go_wp2_with (go_at_call 151; (with_reducible refine HS.mono ?_); rintro e u1 ⟨rfl, hO1⟩)
  exact ⟨rfl, bdo_err HRR.out ((Ob.of hb1).trans hO1)⟩
 | ok fr =>
 rw [hS] at hRR HSA
 have hS1 := at_len (sgT_ok hSh hS)
 have HS : Calls Tryz.prog 151 #[.agg #[sl, mp, .func (.func 93) #[] #[.pointer (some ⟨nb, 0, none⟩), .pointer (some ⟨wb, 0, none⟩)]]] W1 fun e w' => e = .returned (.int .i64 fr) ∧ Tk nb wb l 2 w' ∧ Ob nb W1 w' := HSA
 clear HSA hS
 dsimp only at hRR
 have HNA : ∀ V, Ob nb W1 V → Tk nb wb l 2 V → Calls Tryz.prog 153 #[.agg #[sl, mp, .func (.func 93) #[] #[.pointer (some ⟨nb, 0, none⟩), .pointer (some ⟨wb, 0, none⟩)]]] V (NsO nb wb l V (nwsR L l 2)) := fun V hO hV => newsT_any (hE1.on hO) hSh hV hS1 hl
 unfold NsO at HNA
 cases hN : nwsR L l 2 with
 | error q =>
  rw [hN] at hRR HNA
  have HRR : Hid (R = .error q) := hRR.symm
  have HN : Hid (∀ V, Ob nb W1 V → Tk nb wb l 2 V → Calls Tryz.prog 153 #[.agg #[sl, mp, .func (.func 93) #[] #[.pointer (some ⟨nb, 0, none⟩), .pointer (some ⟨wb, 0, none⟩)]]] V fun e w' => e = .panicked (rfT q.1 q.2) ∧ Ob nb V w') := HNA
  clear hN hRR HNA hE h hE1
  go_enter Tryz.func97, Tryz.ntmps97
  go_wp2_with (first | (go_at_call 151; (with_reducible refine HS.mono ?_); rintro e u1 ⟨rfl, hT1, hO1⟩; (have g1 := hr1.ob hO1 hne); (have m0 : u1.cell? ⟨w.heap.size, 0, none⟩ = some sl := (zca g1 0).trans rfl); (have m1 : u1.cell? ⟨w.heap.size, 1, none⟩ = some mp := (zca g1 1).trans rfl); (have m2 : u1.cell? ⟨w.heap.size, 2, none⟩ = some (.func (.func 93) #[] #[.pointer (some ⟨nb, 0, none⟩), .pointer (some ⟨wb, 0, none⟩)]) := (zca g1 2).trans rfl)) | (go_at_call 153; (with_reducible refine (HN.out _ (hO1) hT1).mono ?_); rintro e u3 ⟨rfl, hO3⟩))
  exact ⟨rfl, bdo_err HRR.out ((Ob.of hb1).trans (hO1.trans hO3))⟩
 | ok x =>
 obtain ⟨ns, j⟩ := x
 rw [hN] at hRR HNA
 dsimp only at hRR HNA
 have HRR : Hid (R = .ok ((3, fr, 0, 0, ns), j)) := hRR.symm
 have HN : Hid (∀ V, Ob nb W1 V → Tk nb wb l 2 V → Calls Tryz.prog 153 #[.agg #[sl, mp, .func (.func 93) #[] #[.pointer (some ⟨nb, 0, none⟩), .pointer (some ⟨wb, 0, none⟩)]]] V fun e w' => ∃ a c, e = .returned (.slice a ns.length c) ∧ w'.ownsRow V.heap.size 124 3 (.slice a ns.length c) ns.length (fl ns) ∧ Tk nb wb l j w' ∧ Ob nb V w') := fun V hO hV => (HNA V hO hV).mono (by
  rintro e w' ⟨v, rfl, h1, h2, h3⟩
  obtain ⟨a, c, rfl, _⟩ := ownsRow_form h1
  exact ⟨a, c, rfl, h1, h2, h3⟩)
 obtain ⟨m, hm⟩ : ∃ m, ns.length = m := ⟨_, rfl⟩
 rw [hm] at HN
 have hm' : Hid (ns.length = m) := hm
 clear hE h hE1 hRR HNA hN hm
 go_enter Tryz.func97, Tryz.ntmps97
 go_wp2_with (first | (go_at_call 151; (with_reducible refine HS.mono ?_); rintro e u1 ⟨rfl, hT1, hO1⟩; (have g1 := hr1.ob hO1 hne); (have m0 : u1.cell? ⟨w.heap.size, 0, none⟩ = some sl := (zca g1 0).trans rfl); (have m1 : u1.cell? ⟨w.heap.size, 1, none⟩ = some mp := (zca g1 1).trans rfl); (have m2 : u1.cell? ⟨w.heap.size, 2, none⟩ = some (.func (.func 93) #[] #[.pointer (some ⟨nb, 0, none⟩), .pointer (some ⟨wb, 0, none⟩)]) := (zca g1 2).trans rfl)) | (go_at_call 153; (with_reducible refine (HN.out _ (hO1) hT1).mono ?_); rintro e u3 ⟨a, c, rfl, hrow, hT3, hO3⟩))
 go_ret
 rw [HRR.out]
 refine ⟨_, rfl, ?_, hT3, (Ob.of hb1).trans (hO1.trans hO3)⟩
 show World.ownsRow _ _ _ _ _ ns.length (fl ns)
 rw [hm'.out]
 exact ownsRow_base hrow (Nat.le_trans hb1.size (hO1).size)
theorem replyB_any {M : Nat} {sl mp : Value} {L : List Int} {nb wb : Nat} {l : List Tk4} {w : World} (hE : En M L sl mp nb w) (hSh : Shw l) (h : Tk nb wb l 1 w) (hi : 1 ≤ l.length) (hl : l.length ≤ 1000000) : Calls Tryz.prog 96 #[.agg #[sl, mp, rdF nb wb]] w (BdO nb wb l w (pR L l)) := by
 have hmx := mixO
 obtain ⟨W1, hW1⟩ : ∃ W1, w.alloc (.cells #[sl, mp, rdF nb wb] 86) = W1 := ⟨_, rfl⟩
 have hb1 : Below w.heap.size w W1 := by rw [← hW1]; exact al1t _ _
 have hr1 : RdBx W1 w.heap.size sl mp nb wb := by unfold RdBx; rw [← hW1]; exact zna rfl
 have hnb := zla h.nx
 have hne : w.heap.size ≠ nb := by omega
 have hl1 := zla hr1
 have hE1 := hE.on (Ob.of hb1)
 have k0 : W1.cell? ⟨w.heap.size, 0, none⟩ = some sl := (zca hr1 0).trans rfl
 have k1 : W1.cell? ⟨w.heap.size, 1, none⟩ = some mp := (zca hr1 1).trans rfl
 have k2 : W1.cell? ⟨w.heap.size, 2, none⟩ = some (.func (.func 93) #[] #[.pointer (some ⟨nb, 0, none⟩), .pointer (some ⟨wb, 0, none⟩)]) := (zca hr1 2).trans rfl
 obtain ⟨R, hRR⟩ : ∃ R, pR L l = R := ⟨_, rfl⟩
 rw [hRR]
 unfold pR at hRR
 have HSA := sender_any hE1 hSh (h.carry hb1) hi hl
 unfold SdO at HSA
 unfold rdF at hW1 HSA ⊢
 cases hS : sgR L l 1 with
 | error q =>
  rw [hS] at hRR HSA
  have HRR : Hid (R = .error q) := hRR.symm
  have HS : Calls Tryz.prog 151 #[.agg #[sl, mp, .func (.func 93) #[] #[.pointer (some ⟨nb, 0, none⟩), .pointer (some ⟨wb, 0, none⟩)]]] W1 fun e w' => e = .panicked (rfT q.1 q.2) ∧ Ob nb W1 w' := HSA
  clear hS hRR HSA hE h hE1
  go_enter Tryz.func96, Tryz.ntmps96
  go_wp2_with (go_at_call 151; (with_reducible refine HS.mono ?_); rintro e u1 ⟨rfl, hO1⟩)
  exact ⟨rfl, bdo_err HRR.out ((Ob.of hb1).trans hO1)⟩
 | ok fr =>
 rw [hS] at hRR HSA
 have hS1 := at_len (sgT_ok hSh hS)
 have HS : Calls Tryz.prog 151 #[.agg #[sl, mp, .func (.func 93) #[] #[.pointer (some ⟨nb, 0, none⟩), .pointer (some ⟨wb, 0, none⟩)]]] W1 fun e w' => e = .returned (.int .i64 fr) ∧ Tk nb wb l 2 w' ∧ Ob nb W1 w' := HSA
 clear HSA hS
 dsimp only at hRR
 have HRA : ∀ V, Tk nb wb l 2 V → Calls Tryz.prog 152 #[.agg #[sl, mp, .func (.func 93) #[] #[.pointer (some ⟨nb, 0, none⟩), .pointer (some ⟨wb, 0, none⟩)]]] V (RnO nb wb l 2 V (rnR l 2)) := fun V hV => round_all hSh hV hS1 hl
 unfold RnO at HRA
 cases hR : rnR l 2 with
 | error q =>
  rw [hR] at hRR HRA
  have HRR : Hid (R = .error q) := hRR.symm
  have HR : Hid (∀ V, Tk nb wb l 2 V → Calls Tryz.prog 152 #[.agg #[sl, mp, .func (.func 93) #[] #[.pointer (some ⟨nb, 0, none⟩), .pointer (some ⟨wb, 0, none⟩)]]] V fun e w' => e = .panicked (rfT q.1 q.2) ∧ Ob nb V w') := HRA
  clear hR hRR HRA hE h hE1
  go_enter Tryz.func96, Tryz.ntmps96
  go_wp2_with (first | (go_at_call 151; (with_reducible refine HS.mono ?_); rintro e u1 ⟨rfl, hT1, hO1⟩; (have g1 := hr1.ob hO1 hne); (have m0 : u1.cell? ⟨w.heap.size, 0, none⟩ = some sl := (zca g1 0).trans rfl); (have m1 : u1.cell? ⟨w.heap.size, 1, none⟩ = some mp := (zca g1 1).trans rfl); (have m2 : u1.cell? ⟨w.heap.size, 2, none⟩ = some (.func (.func 93) #[] #[.pointer (some ⟨nb, 0, none⟩), .pointer (some ⟨wb, 0, none⟩)]) := (zca g1 2).trans rfl)) | (go_at_call 152; (with_reducible refine (HR.out _ hT1).mono ?_); rintro e u2 ⟨rfl, hO2⟩))
  exact ⟨rfl, bdo_err HRR.out ((Ob.of hb1).trans (hO1.trans hO2))⟩
 | ok rd =>
 rw [hR] at hRR HRA
 have hR1 := rn_len (rndT_ok hSh hR)
 have HR : Hid (∀ V, Tk nb wb l 2 V → Calls Tryz.prog 152 #[.agg #[sl, mp, .func (.func 93) #[] #[.pointer (some ⟨nb, 0, none⟩), .pointer (some ⟨wb, 0, none⟩)]]] V fun e w' => e = .returned (.int .i64 (rd : Int)) ∧ Tk nb wb l 3 w' ∧ Ob nb V w') := HRA
 clear HRA hR
 dsimp only at hRR
 have HHA : ∀ V, Ob nb W1 V → Tk nb wb l 3 V → Calls Tryz.prog 154 #[.agg #[sl, mp, .func (.func 93) #[] #[.pointer (some ⟨nb, 0, none⟩), .pointer (some ⟨wb, 0, none⟩)]]] V (HdO nb wb l 3 V (hdR L l 3)) := fun V hO hV => heard_all (hE1.on hO) hSh hV hR1 hl
 unfold HdO at HHA
 cases hH : hdR L l 3 with
 | error q =>
  rw [hH] at hRR HHA
  have HRR : Hid (R = .error q) := hRR.symm
  have HH : Hid (∀ V, Ob nb W1 V → Tk nb wb l 3 V → Calls Tryz.prog 154 #[.agg #[sl, mp, .func (.func 93) #[] #[.pointer (some ⟨nb, 0, none⟩), .pointer (some ⟨wb, 0, none⟩)]]] V fun e w' => e = .panicked (rfT q.1 q.2) ∧ Ob nb V w') := HHA
  clear hH hRR HHA hE h hE1
  go_enter Tryz.func96, Tryz.ntmps96
  go_wp2_with (first | (go_at_call 151; (with_reducible refine HS.mono ?_); rintro e u1 ⟨rfl, hT1, hO1⟩; (have g1 := hr1.ob hO1 hne); (have m0 : u1.cell? ⟨w.heap.size, 0, none⟩ = some sl := (zca g1 0).trans rfl); (have m1 : u1.cell? ⟨w.heap.size, 1, none⟩ = some mp := (zca g1 1).trans rfl); (have m2 : u1.cell? ⟨w.heap.size, 2, none⟩ = some (.func (.func 93) #[] #[.pointer (some ⟨nb, 0, none⟩), .pointer (some ⟨wb, 0, none⟩)]) := (zca g1 2).trans rfl)) | (go_at_call 152; (with_reducible refine (HR.out _ hT1).mono ?_); rintro e u2 ⟨rfl, hT2, hO2⟩; (have g2 := g1.ob hO2 hne); (have q0 : u2.cell? ⟨w.heap.size, 0, none⟩ = some sl := (zca g2 0).trans rfl); (have q1 : u2.cell? ⟨w.heap.size, 1, none⟩ = some mp := (zca g2 1).trans rfl); (have q2 : u2.cell? ⟨w.heap.size, 2, none⟩ = some (.func (.func 93) #[] #[.pointer (some ⟨nb, 0, none⟩), .pointer (some ⟨wb, 0, none⟩)]) := (zca g2 2).trans rfl)) | (go_at_call 154; (with_reducible refine (HH.out _ (hO1.trans hO2) hT2).mono ?_); rintro e u3 ⟨rfl, hO3⟩))
  exact ⟨rfl, bdo_err HRR.out ((Ob.of hb1).trans ((hO1.trans hO2).trans hO3))⟩
 | ok N =>
 rw [hH] at hRR HHA
 have hH1 := hd_len (hdT_ok hSh (parse_pl L) hH)
 have HH : Hid (∀ V, Ob nb W1 V → Tk nb wb l 3 V → Calls Tryz.prog 154 #[.agg #[sl, mp, .func (.func 93) #[] #[.pointer (some ⟨nb, 0, none⟩), .pointer (some ⟨wb, 0, none⟩)]]] V fun e w' => e = .returned (.agg #[.int .u32 (wd N 0 : Nat), .int .u32 (wd N 1 : Nat), .int .u32 (wd N 2 : Nat), .int .u32 (wd N 3 : Nat)]) ∧ Tk nb wb l 4 w' ∧ Ob nb V w') := HHA
 clear HHA hH
 dsimp only at hRR
 have HNA : ∀ V, Ob nb W1 V → Tk nb wb l 4 V → Calls Tryz.prog 153 #[.agg #[sl, mp, rdF nb wb]] V (NsO nb wb l V (nwsR L l 4)) := fun V hO hV => newsT_any (hE1.on hO) hSh hV hH1 hl
 unfold NsO at HNA
 cases hN : nwsR L l 4 with
 | error q =>
  rw [hN] at hRR HNA
  have HRR : Hid (R = .error q) := hRR.symm
  have HN : Hid (∀ V, Ob nb W1 V → Tk nb wb l 4 V → Calls Tryz.prog 153 #[.agg #[sl, mp, rdF nb wb]] V fun e w' => e = .panicked (rfT q.1 q.2) ∧ Ob nb V w') := HNA
  clear hN hRR HNA hE h hE1
  go_enter Tryz.func96, Tryz.ntmps96
  go_wp2_with (first | (go_at_call 151; (with_reducible refine HS.mono ?_); rintro e u1 ⟨rfl, hT1, hO1⟩; (have g1 := hr1.ob hO1 hne); (have m0 : u1.cell? ⟨w.heap.size, 0, none⟩ = some sl := (zca g1 0).trans rfl); (have m1 : u1.cell? ⟨w.heap.size, 1, none⟩ = some mp := (zca g1 1).trans rfl); (have m2 : u1.cell? ⟨w.heap.size, 2, none⟩ = some (.func (.func 93) #[] #[.pointer (some ⟨nb, 0, none⟩), .pointer (some ⟨wb, 0, none⟩)]) := (zca g1 2).trans rfl)) | (go_at_call 152; (with_reducible refine (HR.out _ hT1).mono ?_); rintro e u2 ⟨rfl, hT2, hO2⟩; (have g2 := g1.ob hO2 hne); (have q0 : u2.cell? ⟨w.heap.size, 0, none⟩ = some sl := (zca g2 0).trans rfl); (have q1 : u2.cell? ⟨w.heap.size, 1, none⟩ = some mp := (zca g2 1).trans rfl); (have q2 : u2.cell? ⟨w.heap.size, 2, none⟩ = some (.func (.func 93) #[] #[.pointer (some ⟨nb, 0, none⟩), .pointer (some ⟨wb, 0, none⟩)]) := (zca g2 2).trans rfl)) | (go_at_call 154; (with_reducible refine (HH.out _ (hO1.trans hO2) hT2).mono ?_); rintro e u3 ⟨rfl, hT3, hO3⟩; (have g3 := g2.ob hO3 hne); obtain ⟨u4, hu4⟩ : ∃ u4, u3.alloc (.cells #[.int .u32 (wd N 0 : Nat), .int .u32 (wd N 1 : Nat), .int .u32 (wd N 2 : Nat), .int .u32 (wd N 3 : Nat)] 36) = u4 := ⟨_, rfl⟩))
  have hb4 : Below u3.heap.size u3 u4 := by rw [← hu4]; exact al1t _ _
  have hst : Zh4 u4 u3.heap.size (wd N) := by unfold Zh4; rw [← hu4]; exact zna rfl
  have g4 : RdBx u4 w.heap.size sl mp nb wb := (hb4.block _ (zla g3)).trans g3
  have hO4 : Ob nb W1 u4 := ((hO1.trans hO2).trans hO3).trans (Ob.of hb4)
  have hs14 := hO4.size
  have hs3 := (((hO1.trans hO2).trans hO3)).size
  have hsne : u3.heap.size ≠ nb := by omega
  have hJ : Hid (JP nb wb w.heap.size u3.heap.size l 4 0 N sl mp u4 [] none 0 u4 false) := ⟨hT3.carry hb4, g4, hst, Ob.refl _ _, fun e => by cases e⟩
  clear HS HR HH k0 k1 k2 m0 m1 m2 q0 q1 q2 hT1 hT2 hT3 g1 g2 g3 g4 hr1 hst hu4
  refine wp_region_any hmx ?_
  refine wpAny_diesG (G := (Unit)) 4 [5, 6, 7] (fun g i__ => ([(.int .i64 fr), (.int .i64 (rd : Int)), (sv N), (.agg #[sl, mp, rdF nb wb]), undef, undef, undef, undef] : List Value).getD i__ undef) (fun g d V => JP nb wb w.heap.size u3.heap.size l 4 0 N sl mp u4 [] none 0 V false) (by decide) (by kernel_rfl) (by kernel_rfl) (()) (hJ.out.carry (Below.refl _ _).drew) ?step22 ?fin22
  case step22 =>
   intro i o ho
   have hi : i < 8 := getElem?_lt ho
   match i, hi, ho with
   | 0, _, ho =>
    cases ho
    refine .inr ?_
    refine zgo (fun g d hdep => ?_)
    exact zmv rfl trivial _ rfl (by kernel_rfl)
   | 1, _, ho =>
    cases ho
    refine .inr ?_
    refine zgo (fun g d hdep => ?_)
    exact zmv rfl trivial _ rfl (by kernel_rfl)
   | 2, _, ho =>
    cases ho
    refine .inr ?_
    refine zgo (fun g d hdep => ?_)
    exact zld rfl trivial _ _ _ rfl rfl (fun v hw => whole4 v _ N hw.st)
   | 3, _, ho =>
    cases ho
    refine .inr ?_
    refine zgo (fun g d hdep => ?_)
    exact zld rfl trivial _ _ _ rfl rfl (fun v hw => load_rd hw.rd)
   | 4, _, ho => exact .inl (by simp)
   | 5, _, ho => exact .inl (by simp)
   | 6, _, ho => exact .inl (by simp)
   | 7, _, ho => exact .inl (by simp)
  intro o ho
  cases ho
  exact dieG_call rfl (fun _ => trivial) 153 _ _ (fun _ => [.agg #[sl, mp, rdF nb wb]]) rfl (fun g => by kernel_rfl) (enters_of Tryz.func153 (by kernel_rfl) rfl) (rfT q.1 q.2) (J2 := fun V => Ob nb W1 V) (fun g d V hJ hun hdep hcl => (HN.out V (hO4.trans hJ.ob) hJ.tk).mono (by rintro e w' ⟨rfl, h3⟩; exact ⟨rfl, (hO4.trans hJ.ob).trans h3⟩)) (fun g a w hd hS hb => ⟨hd, bdo_err HRR.out ((Ob.of hb1).trans hb)⟩)
 | ok x =>
 obtain ⟨ns, j⟩ := x
 rw [hN] at hRR HNA
 dsimp only at hRR HNA
 have HRR : Hid (R = .ok ((2, fr, rd, N, ns), j)) := hRR.symm
 have HN : Hid (∀ V, Ob nb W1 V → Tk nb wb l 4 V → Calls Tryz.prog 153 #[.agg #[sl, mp, rdF nb wb]] V fun e w' => ∃ a c, e = .returned (.slice a ns.length c) ∧ w'.ownsRow V.heap.size 124 3 (.slice a ns.length c) ns.length (fl ns) ∧ Tk nb wb l j w' ∧ Ob nb V w') := fun V hO hV => (HNA V hO hV).mono (by
  rintro e w' ⟨v, rfl, h1, h2, h3⟩
  obtain ⟨a, c, rfl, _⟩ := ownsRow_form h1
  exact ⟨a, c, rfl, h1, h2, h3⟩)
 clear hE h hE1 hRR HNA hN
 go_enter Tryz.func96, Tryz.ntmps96
 go_wp2_with (first | (go_at_call 151; (with_reducible refine HS.mono ?_); rintro e u1 ⟨rfl, hT1, hO1⟩; (have g1 := hr1.ob hO1 hne); (have m0 : u1.cell? ⟨w.heap.size, 0, none⟩ = some sl := (zca g1 0).trans rfl); (have m1 : u1.cell? ⟨w.heap.size, 1, none⟩ = some mp := (zca g1 1).trans rfl); (have m2 : u1.cell? ⟨w.heap.size, 2, none⟩ = some (.func (.func 93) #[] #[.pointer (some ⟨nb, 0, none⟩), .pointer (some ⟨wb, 0, none⟩)]) := (zca g1 2).trans rfl)) | (go_at_call 152; (with_reducible refine (HR.out _ hT1).mono ?_); rintro e u2 ⟨rfl, hT2, hO2⟩; (have g2 := g1.ob hO2 hne); (have q0 : u2.cell? ⟨w.heap.size, 0, none⟩ = some sl := (zca g2 0).trans rfl); (have q1 : u2.cell? ⟨w.heap.size, 1, none⟩ = some mp := (zca g2 1).trans rfl); (have q2 : u2.cell? ⟨w.heap.size, 2, none⟩ = some (.func (.func 93) #[] #[.pointer (some ⟨nb, 0, none⟩), .pointer (some ⟨wb, 0, none⟩)]) := (zca g2 2).trans rfl)) | (go_at_call 154; (with_reducible refine (HH.out _ (hO1.trans hO2) hT2).mono ?_); rintro e u3 ⟨rfl, hT3, hO3⟩; (have g3 := g2.ob hO3 hne); obtain ⟨u4, hu4⟩ : ∃ u4, u3.alloc (.cells #[.int .u32 (wd N 0 : Nat), .int .u32 (wd N 1 : Nat), .int .u32 (wd N 2 : Nat), .int .u32 (wd N 3 : Nat)] 36) = u4 := ⟨_, rfl⟩))
 have hb4 : Below u3.heap.size u3 u4 := by rw [← hu4]; exact al1t _ _
 have hst : Zh4 u4 u3.heap.size (wd N) := by unfold Zh4; rw [← hu4]; exact zna rfl
 have g4 : RdBx u4 w.heap.size sl mp nb wb := (hb4.block _ (zla g3)).trans g3
 have hO4 : Ob nb W1 u4 := ((hO1.trans hO2).trans hO3).trans (Ob.of hb4)
 have hs14 := hO4.size
 have hs3 := (((hO1.trans hO2).trans hO3)).size
 have hsne : u3.heap.size ≠ nb := by omega
 have hJ : Hid (JP nb wb w.heap.size u3.heap.size l 4 j N sl mp u4 ns none 0 u4 false) := ⟨hT3.carry hb4, g4, hst, Ob.refl _ _, fun e => by cases e⟩
 clear HS HR HH k0 k1 k2 m0 m1 m2 q0 q1 q2 hT1 hT2 hT3 g1 g2 g3 g4 hr1 hst hu4
 refine wp_region_any hmx ?_
 refine zwt (G := (Option Addr × Nat)) (fun g i__ => ([(.int .i64 fr), (.int .i64 (rd : Int)), (sv N), (.agg #[sl, mp, rdF nb wb]), (.slice g.1 ns.length g.2), (.agg #[.int .i64 fr, .int .i64 (rd : Int), .int .u32 (wd N 0 : Nat), .int .u32 (wd N 1 : Nat), .int .u32 (wd N 2 : Nat), .int .u32 (wd N 3 : Nat), .slice g.1 ns.length g.2]), (.iface 95 (.agg #[.int .i64 fr, .int .i64 (rd : Int), .int .u32 (wd N 0 : Nat), .int .u32 (wd N 1 : Nat), .int .u32 (wd N 2 : Nat), .int .u32 (wd N 3 : Nat), .slice g.1 ns.length g.2])), (.iface 95 (.agg #[.int .i64 fr, .int .i64 (rd : Int), .int .u32 (wd N 0 : Nat), .int .u32 (wd N 1 : Nat), .int .u32 (wd N 2 : Nat), .int .u32 (wd N 3 : Nat), .slice g.1 ns.length g.2]))] : List Value).getD i__ undef) (fun g d V => JP nb wb w.heap.size u3.heap.size l 4 j N sl mp u4 ns g.1 g.2 V (d 4)) (by kernel_rfl) ((none, 0)) (hJ.out.carry (Below.refl _ _).drew) ?step23 ?fin23
 case step23 =>
  intro i o ho
  have hi : i < 8 := getElem?_lt ho
  match i, hi, ho with
  | 0, _, ho => cases ho; exact zgo fun g d hdep => zmv rfl trivial _ rfl (by kernel_rfl)
  | 1, _, ho => cases ho; exact zgo fun g d hdep => zmv rfl trivial _ rfl (by kernel_rfl)
  | 2, _, ho => cases ho; exact zgo fun g d hdep => zld rfl trivial _ _ _ rfl rfl (fun v hw => whole4 v _ N hw.st)
  | 3, _, ho => cases ho; exact zgo fun g d hdep => zld rfl trivial _ _ _ rfl rfl (fun v hw => load_rd hw.rd)
  | 4, _, ho => cases ho; exact stepG_call rfl (fun _ => trivial) 153 _ _ (fun _ => [.agg #[sl, mp, rdF nb wb]]) rfl (fun g => by kernel_rfl) (enters_of Tryz.func153 (by kernel_rfl) rfl) (fun g d V hJ hun hdep hcl => by rw [hun] at hJ; exact (HN.out V (hO4.trans hJ.ob) hJ.tk).mono (by rintro e w' ⟨a, c, rfl, h1, h2, h3⟩; exact ⟨(a, c), rfl, (fun j hj => match j, hj with | 4, hj => (by rw [hj] at hun; cases hun) | 5, hj => absurd ((hcl 5 _ rfl hj 4 (by kernel_rfl))) (by rw [hun]; simp) | 6, hj => absurd ((hcl 5 _ rfl (hcl 6 _ rfl hj 5 (by kernel_rfl)) 4 (by kernel_rfl))) (by rw [hun]; simp) | 7, hj => absurd ((hcl 5 _ rfl (hcl 6 _ rfl (hcl 7 _ rfl hj 6 (by kernel_rfl)) 5 (by kernel_rfl)) 4 (by kernel_rfl))) (by rw [hun]; simp) | 0, _ => rfl | 1, _ => rfl | 2, _ => rfl | 3, _ => rfl | _ + 8, _ => rfl), h2, hJ.rd.ob h3 hne, (h3.block _ (zla hJ.st) hsne).trans hJ.st, hJ.ob.trans h3, fun _ => ownsRow_base h1 hJ.ob.size⟩))
  | 5, _, ho => cases ho; exact zgo fun g d hdep => step_bld4 rfl trivial _ _ _ _ _ _ _ _ _ (.int .i64 fr) (.int .i64 (rd : Int)) (sv N) (.slice g.1 ns.length g.2) rfl rfl rfl rfl rfl (fun v hw => bld_P fr _ N _ _ _ v)
  | 6, _, ho => cases ho; exact zgo (fun g d hdep => step_mkI rfl trivial _ _ _ rfl (by kernel_rfl) (fun v hw => mkI_P _ v))
  | 7, _, ho => cases ho; exact zgo fun g d hdep => zas rfl trivial _ rfl (by kernel_rfl) (fun _ h => h)
 intro g d W hall hW
 first | refine hK _ _ ?_ | refine (‹∀ (a : Act) (w : World), Code.wp Tryz.prog _ _ a w → _›) _ _ ?_ | skip
 simp only [finL, List.getD_cons_zero, List.getD_cons_succ, Nat.zero_add, Nat.reduceAdd, List.setIfInBounds_toArray, List.set_cons_zero, List.set_cons_succ]
 have hjW : JP nb wb w.heap.size u3.heap.size l 4 j N sl mp u4 ns g.1 g.2 W true := by have := hW; rw [hall 4 (by decide)] at this; exact this
 clear hW hall HN hJ
 obtain ⟨⟨a, c⟩, hg⟩ : ∃ y, g = y := ⟨_, rfl⟩
 rw [hg] at hjW ⊢
 dsimp only at hjW ⊢
 obtain ⟨m, hm⟩ : ∃ m, ns.length = m := ⟨_, rfl⟩
 go_wp2
 go_ret
 rw [HRR.out]
 exact ⟨_, rfl, ownsRow_base (hjW.row rfl) (Nat.le_trans hb1.size hO4.size), hjW.tk, (Ob.of hb1).trans (hO4.trans hjW.ob)⟩
attribute [local go_sem] Oper.semAt_some
theorem nwR_len {L : List Int} {l : List Tk4} : ∀ (f i : Nat) (A : Int) (ns : List N3t) (j : Nat), nwR L l f i A = .ok (ns, j) → j ≤ l.length
 | 0, _, _, _, _, h => by rw [nwR] at h; cases h
 | f + 1, i, A, ns, j, h => by
  rw [nwR] at h
  cases hs : stT L l i A with
  | error q => rw [hs] at h; cases h
  | ok o =>
   rw [hs] at h
   cases o with
   | none =>
    have h1 : (i : Nat) + 1 = j := by cases h; rfl
    subst h1
    have he : endB (hereT l i) = true := by
     cases e : endB (hereT l i) with
     | true => rfl
     | false =>
      rw [stT, if_neg (by simp [e])] at hs
      split at hs
      · split at hs
        · cases hs
        · split at hs
          · cases hs
          · split at hs <;> cases hs
      · cases hs
    have := here_lt (l := l) (i := i) (by have := (endB_k he).1; omega)
    omega
   | some n =>
    dsimp only at h
    cases hn : nwR L l f (i + 3) n.1 with
    | error q => rw [hn] at h; cases h
    | ok x =>
     obtain ⟨ms, k⟩ := x
     rw [hn] at h
     have h1 : k = j := by cases h; rfl
     subst h1
     exact nwR_len f _ _ _ _ hn
theorem nws_len {L : List Int} {l : List Tk4} {i : Nat} {ns : List N3t} {j : Nat} (h : nwsR L l i = .ok (ns, j)) : j ≤ l.length := by
 unfold nwsR at h
 split at h
 · exact nwR_len _ _ _ _ _ h
 · cases h
theorem bod_len {L : List Int} {l : List Tk4} {n : Nt5} {j : Nat} (h : bodR L l = .ok (n, j)) : j ≤ l.length := by
 unfold bodR at h
 split at h
 · cases h
 split at h
 · unfold qR at h
   split at h
   · cases h
   split at h
   · cases h
   split at h
   · cases h
   rename_i hn
   cases h
   exact nws_len hn
 split at h
 · unfold pR at h
   split at h
   · cases h
   split at h
   · cases h
   split at h
   · cases h
   split at h
   · cases h
   rename_i hn
   cases h
   exact nws_len hn
 · unfold uR at h
   split at h
   · cases h
   split at h
   · cases h
   rename_i hn
   cases h
   exact nws_len hn
theorem eqnF (w : World) : (binOp .neq 87 .nilFunc .nilFunc).run Tryz.prog w = .ok (.bool false) w := by
 kernel_rfl
theorem isKind_no {R : Value} {M kb : Nat} {V : World} (hm : V.heap[M]? = some (.map (ET R) 3)) (hk : V.heap[kb]? = some (.cells #[.map (some M)] 152 (0, 0))) (x : Tk4) (hts : x.2.1.size ≤ maxLen) (hkn : knV R x.2.1 = .nilFunc) : Calls Tryz.prog 98 #[tk4 x, .pointer (some ⟨kb, 0, none⟩)] V fun e w' => e = .returned (.bool false) ∧ Below V.heap.size V w' := by
 unfold tk4 tkV
 obtain ⟨W1, hW1⟩ : ∃ W1, V.alloc (.cells #[.int .i64 x.1, .string x.2.1, .int .i64 x.2.2.1, .int .i64 x.2.2.2] 48) = W1 := ⟨_, rfl⟩
 have hb1 : Below V.heap.size V W1 := by rw [← hW1]; exact al1t _ _
 have hr1 : W1.heap[V.heap.size]? = some (.cells #[.int .i64 x.1, .string x.2.1, .int .i64 x.2.2.1, .int .i64 x.2.2.2] 48 (0, 0)) := by rw [← hW1]; exact zna rfl
 have hlk := lookT ((hb1.block _ (zla hm)).trans hm) hts
 rw [hkn] at hlk
 have c0 : W1.cell? ⟨kb, 0, none⟩ = some (.map (some M)) := (zca ((hb1.block _ (zla hk)).trans hk) 0).trans rfl
 have c1 : W1.cell? ⟨V.heap.size, 1, none⟩ = some (.string x.2.1) := (zca hr1 1).trans rfl
 have hn := eqnF
 clear hm hk hkn
 go_enter Tryz.func98, Tryz.ntmps98
 go_wp2
 go_ret
 exact ⟨rfl, hb1⟩
def NoO (nb wb : Nat) (l : List Tk4) (w : World) (r : Except ErT Nt5) (e : Ending) (w' : World) : Prop := match r with
 | .error q => Dy nb w q.1 q.2 e w'
 | .ok n => ∃ v, e = .returned (noteV n.1 n.2.1 (n.2.2.1 : Nat) n.2.2.2.1 v) ∧ w'.ownsRow w.heap.size 124 3 v n.2.2.2.2.length (fl n.2.2.2.2) ∧ Tk nb wb l l.length w' ∧ Ob nb w w'
theorem noo_err {nb wb : Nat} {l : List Tk4} {w w' : World} {r : Except ErT Nt5} {er c : Int} (h : r = .error (er, c)) (ho : Ob nb w w') : NoO nb wb l w r (.panicked (rfT er c)) w' := by
 subst h
 exact ⟨rfl, ho⟩
def Wk4 (l : List Tk4) : Prop := ∀ (i : Nat) (x : Tk4), l[i]? = some x → x.1 ≠ 0
theorem noteV_two (kd : Nat) (fr rd : Int) (N : Nat) : ∃ (T : TypeId) (X : Value → Value), ∀ v, noteV kd fr rd N v = .iface T (X v) := by
 unfold noteV
 by_cases h1 : kd = 1
 · exact ⟨_, fun v => _, fun v => by rw [if_pos h1]⟩
 by_cases h2 : kd = 2
 · exact ⟨_, fun v => _, fun v => by rw [if_neg h1, if_pos h2]⟩
 · exact ⟨_, fun v => _, fun v => by rw [if_neg h1, if_neg h2]⟩
theorem note_by {sl mp : Value} {L : List Int} {nb wb : Nat} {l : List Tk4} {w : World} (hWk : Wk4 l) (h : Tk nb wb l 0 w) (hl : l.length ≤ 1000000) (f : FuncId) (henf : ∀ args w, (callFunc f args).run Tryz.prog w = .ok (.enter f args) w) (x0 : Tk4) (hx0 : l[0]? = some x0) (hkn : knV (rdV sl mp nb wb) x0.2.1 = .func (.func f) #[rdV sl mp nb wb] #[]) (hts : x0.2.1.size ≤ maxLen) (HB : ∀ V, Ob nb w V → Tk nb wb l 1 V → Calls Tryz.prog f #[rdV sl mp nb wb] V (BdO nb wb l V (bodR L l))) : Calls Tryz.prog 23 #[.agg #[sl, mp, rdF nb wb]] w (NoO nb wb l w (rdWT L l)) := by
 obtain ⟨R, hR⟩ : ∃ R, rdWT L l = R := ⟨_, rfl⟩
 rw [hR]
 unfold rdWT at hR
 have hmf := hmfT
 have hmm := @run_makeMap Tryz.prog
 obtain ⟨W1, hW1⟩ : ∃ W1, w.alloc (.cells #[sl, mp, rdF nb wb] 86) = W1 := ⟨_, rfl⟩
 have hb1 : Below w.heap.size w W1 := by rw [← hW1]; exact al1t _ _
 have hr1 : RdBx W1 w.heap.size sl mp nb wb := by unfold RdBx; rw [← hW1]; exact zna rfl
 have hnb := zla h.nx
 have hne : w.heap.size ≠ nb := by omega
 have hl1 := zla hr1
 obtain ⟨V0, hV0⟩ : ∃ V0, W1.alloc (.map #[] 0) = V0 := ⟨_, rfl⟩
 have g0 : V0.heap[W1.heap.size]? = some (.map #[] 0) := by rw [← hV0]; exact zna rfl
 have b0 : Below W1.heap.size W1 V0 := by rw [← hV0]; exact al1t _ _
 obtain ⟨V1, r1, g1, q1⟩ := insT (k := ⟨#[113, 117, 101, 114, 121]⟩) (.func (.func 95) #[rdV sl mp nb wb] #[]) g0 (by decide) (by simp)
 have b1 := b0.trans (q1 W1.heap.size (Nat.le_refl _))
 obtain ⟨V2, r2, g2, q2⟩ := insT (k := ⟨#[114, 101, 112, 108, 121]⟩) (.func (.func 96) #[rdV sl mp nb wb] #[]) g1 (by decide) (by simp; decide)
 have b2 := b1.trans (q2 W1.heap.size (Nat.le_refl _))
 obtain ⟨V3, r3, g3, q3⟩ := insT (k := ⟨#[114, 117, 109, 111, 114]⟩) (.func (.func 97) #[rdV sl mp nb wb] #[]) g2 (by decide) (by simp; decide)
 have b3 := b2.trans (q3 W1.heap.size (Nat.le_refl _))
 have gET : V3.heap[W1.heap.size]? = some (.map (ET (rdV sl mp nb wb)) 3) := g3
 obtain ⟨V4, hV4⟩ : ∃ V4, V3.alloc (.cells #[.map (some W1.heap.size)] 152) = V4 := ⟨_, rfl⟩
 have b4 : Below V3.heap.size V3 V4 := by rw [← hV4]; exact al1t _ _
 have gk : V4.heap[V3.heap.size]? = some (.cells #[.map (some W1.heap.size)] 152 (0, 0)) := by rw [← hV4]; exact zna rfl
 have hb03 : Below W1.heap.size W1 V4 := b3.trans (b4.mono (by have := b3.size; omega))
 have gE4 : V4.heap[W1.heap.size]? = some (.map (ET (rdV sl mp nb wb)) 3) := (b4.block _ (zla gET)).trans gET
 have gR4 : RdBx V4 w.heap.size sl mp nb wb := (hb03.block _ hl1).trans hr1
 have hO4 : Ob nb w V4 := (Ob.of hb1).trans (Ob.of hb03)
 have hs1 := hb1.size
 have hs03 := b3.size
 have hlE := zla gE4
 have hlk := zla gk
 have H0 : Hid (Tk nb wb l 0 w) := h
 have HK := take_yes (w := V4) 98 #[.pointer (some ⟨V3.heap.size, 0, none⟩)] (enters_of Tryz.func98 (by kernel_rfl) rfl) ((h.carry hb1).carry hb03) x0 hx0 hl (fun V hV => isKind_yes ((hV.block _ hlE (by omega)).trans gE4) ((hV.block _ hlk (by omega)).trans gk) x0 hts f hkn)
 have k2 : V4.cell? ⟨w.heap.size, 2, none⟩ = some (.func (.func 93) #[] #[.pointer (some ⟨nb, 0, none⟩), .pointer (some ⟨wb, 0, none⟩)]) := (zca gR4 2).trans rfl
 have z0 : W1.cell? ⟨w.heap.size, 0, none⟩ = some sl := (zca hr1 0).trans rfl
 have z1 : W1.cell? ⟨w.heap.size, 1, none⟩ = some mp := (zca hr1 1).trans rfl
 have z2 : W1.cell? ⟨w.heap.size, 2, none⟩ = some (.func (.func 93) #[] #[.pointer (some ⟨nb, 0, none⟩), .pointer (some ⟨wb, 0, none⟩)]) := (zca hr1 2).trans rfl
 have a0 : ∀ V, Below W1.heap.size W1 V → V.cell? ⟨w.heap.size, 0, none⟩ = some sl ∧ V.cell? ⟨w.heap.size, 1, none⟩ = some mp ∧ V.cell? ⟨w.heap.size, 2, none⟩ = some (.func (.func 93) #[] #[.pointer (some ⟨nb, 0, none⟩), .pointer (some ⟨wb, 0, none⟩)]) := fun V hV => ⟨(hV.cell (p := ⟨w.heap.size, 0, none⟩) hl1).trans z0, (hV.cell (p := ⟨w.heap.size, 1, none⟩) hl1).trans z1, (hV.cell (p := ⟨w.heap.size, 2, none⟩) hl1).trans z2⟩
 obtain ⟨x00, x01, x02⟩ := a0 V0 b0
 obtain ⟨x10, x11, x12⟩ := a0 V1 b1
 obtain ⟨x20, x21, x22⟩ := a0 V2 b2
 have HLK : Hid (∀ V, Ob nb w V → V.heap[W1.heap.size]? = some (.map (ET (rdV sl mp nb wb)) 3) → (Instr.lookup 152 (.map (some W1.heap.size)) (.string x0.2.1) false).run Tryz.prog V = .ok (.func (.func f) #[rdV sl mp nb wb] #[]) V) := fun V _ hV => by rw [lookT hV hts, hkn]
 unfold rdV at r1 r2 r3
 unfold BdO at HB
 cases hB : bodR L l with
 | error q =>
  rw [hB] at HB hR
  have HRR : Hid (R = .error q) := hR.symm
  have HBB : Hid (∀ V, Ob nb w V → Tk nb wb l 1 V → Calls Tryz.prog f #[rdV sl mp nb wb] V fun e w' => e = .panicked (rfT q.1 q.2) ∧ Ob nb V w') := HB
  unfold rdF at hW1 ⊢
  clear h HB hx0 g0 g1 g2 g3 q1 q2 q3 b0 b1 b2 gET hkn a0 hr1 z0 z1 z2 hB hR
  go_enter Tryz.func23, Tryz.ntmps23
  go_wp2_with (first
    | ((with_reducible refine hB3.mono ?_); rintro e u4 ⟨rfl, hO4'⟩)
    | (refine wpList_store_row rfl 48 (.tmp 4) (.tmp 17) rfl u.heap.size (tkC x0) rfl rfl 48 _ hr2 infoTk rfl (by simp [tkC, Value.oneCell']) ?_; rw [hu3]; (have hO3 : Ob nb w u3 := hO4.trans (hO.trans (Ob.of hb3'))); (have hT3 := hT.carry hb3'); (have g3 : RdBx u3 w.heap.size sl mp nb wb := (hb3'.block _ (by omega)).trans ((hO.block _ (by omega) hne).trans gR4)); (have gE3 := (hb3'.block _ (by omega)).trans ((hO.block _ hlE (by omega)).trans gE4)); (have gk3 := (hb3'.block _ (by omega)).trans ((hO.block _ hlk (by omega)).trans gk)); (have y0 : u3.cell? ⟨V3.heap.size, 0, none⟩ = some (.map (some W1.heap.size)) := (zca gk3 0).trans rfl); (have y1 : u3.cell? ⟨u.heap.size, 1, none⟩ = some (.string x0.2.1) := (zca hr3 1).trans rfl); (have y2 := HLK.out u3 hO3 gE3); (have hB3 := HBB.out u3 hO3 hT3); unfold rdV at y2 hB3)
    | (go_at_call 93; (with_reducible refine HK.mono ?_); rintro e u ⟨rfl, hT, hO⟩; (have hOs := hO.size); obtain ⟨u2, u3, hu2, hu3, hr2, hr3, hb3', hs3⟩ := box_word u x0))
  exact ⟨rfl, noo_err HRR.out (hO3.trans hO4')⟩
 | ok y =>
 obtain ⟨n, j⟩ := y
 have hj := bod_len hB
 rw [hB] at HB hR
 dsimp only at HB hR
 obtain ⟨kd, fr, rd, N, ns⟩ := n
 dsimp only at HB
 obtain ⟨T, X, hTX⟩ := noteV_two kd fr (rd : Nat) N
 have HTX : Hid (∀ v, noteV kd fr (rd : Nat) N v = .iface T (X v)) := hTX
 have HBB : Hid (∀ V, Ob nb w V → Tk nb wb l 1 V → Calls Tryz.prog f #[rdV sl mp nb wb] V fun e w' => ∃ v, e = .returned (.iface T (X v)) ∧ w'.ownsRow V.heap.size 124 3 v ns.length (fl ns) ∧ Tk nb wb l j w' ∧ Ob nb V w') := fun V h1 h2 => (HB V h1 h2).mono (by
  rintro e w' ⟨v, rfl, q⟩
  exact ⟨v, by rw [hTX], q⟩)
 clear hTX
 unfold rdF at hW1 ⊢
 by_cases hke : (hereT l j).1 = 1
 case neg =>
  rw [if_neg hke] at hR
  have HRR : Hid (R = .error (80, (hereT l j).2.2.2)) := hR.symm
  have HE : Hid (∀ V, Tk nb wb l j V → Calls Tryz.prog 93 #[.func (.func 99) #[] #[], .pointer (some ⟨nb, 0, none⟩), .pointer (some ⟨wb, 0, none⟩)] V fun e w' => e = .panicked (rfT 80 (hereT l j).2.2.2) ∧ Ob nb V w') := fun V hV => tk_no 99 (enters_of Tryz.func99 (by kernel_rfl) rfl) hV hj hl _ (isEnd_any _ _ _ _) (by simpa using hke)
  generalize (hereT l j).2.2.2 = C at *
  clear h HB hx0 g0 g1 g2 g3 q1 q2 q3 b0 b1 b2 gET hkn a0 hr1 z0 z1 z2 hB hR hke hj
  go_enter Tryz.func23, Tryz.ntmps23
  go_wp2_with (first
    | (go_at_call 93; (have hzz := hT4); (with_reducible refine (HE.out _ hT4).mono ?_); rintro e u5 ⟨rfl, hO5⟩)
    | ((with_reducible refine hB3.mono ?_); rintro e u4 ⟨v, rfl, hrow, hT4, hO4'⟩; (have g4 := g3.ob hO4' hne); (have m4 : u4.cell? ⟨w.heap.size, 2, none⟩ = some (.func (.func 93) #[] #[.pointer (some ⟨nb, 0, none⟩), .pointer (some ⟨wb, 0, none⟩)]) := (zca g4 2).trans rfl))
    | (refine wpList_store_row rfl 48 (.tmp 4) (.tmp 17) rfl u.heap.size (tkC x0) rfl rfl 48 _ hr2 infoTk rfl (by simp [tkC, Value.oneCell']) ?_; rw [hu3]; (have hO3 : Ob nb w u3 := hO4.trans (hO.trans (Ob.of hb3'))); (have hT3 := hT.carry hb3'); (have g3 : RdBx u3 w.heap.size sl mp nb wb := (hb3'.block _ (by omega)).trans ((hO.block _ (by omega) hne).trans gR4)); (have gE3 := (hb3'.block _ (by omega)).trans ((hO.block _ hlE (by omega)).trans gE4)); (have gk3 := (hb3'.block _ (by omega)).trans ((hO.block _ hlk (by omega)).trans gk)); (have y0 : u3.cell? ⟨V3.heap.size, 0, none⟩ = some (.map (some W1.heap.size)) := (zca gk3 0).trans rfl); (have y1 : u3.cell? ⟨u.heap.size, 1, none⟩ = some (.string x0.2.1) := (zca hr3 1).trans rfl); (have y2 := HLK.out u3 hO3 gE3); (have hB3 := HBB.out u3 hO3 hT3); unfold rdV at y2 hB3)
    | (go_at_call 93; (with_reducible refine HK.mono ?_); rintro e u ⟨rfl, hT, hO⟩; (have hOs := hO.size); obtain ⟨u2, u3, hu2, hu3, hr2, hr3, hb3', hs3⟩ := box_word u x0))
  exact ⟨rfl, noo_err HRR.out (hO3.trans (hO4'.trans hO5))⟩
 rw [if_pos hke] at hR
 obtain ⟨xe, hxee⟩ : ∃ x, hereT l j = x := ⟨_, rfl⟩
 rw [hxee] at hke
 have hxe := here_in hxee (by omega)
 have hjl : j < l.length := (List.getElem?_eq_some_iff.1 hxe).1
 have HE : Hid (∀ V, Tk nb wb l j V → Calls Tryz.prog 93 #[.func (.func 99) #[] #[], .pointer (some ⟨nb, 0, none⟩), .pointer (some ⟨wb, 0, none⟩)] V fun e w' => e = .returned (.agg (tkC xe)) ∧ Tk nb wb l (j + 1) w' ∧ Ob nb V w') := fun V hV => tk_of 99 (enters_of Tryz.func99 (by kernel_rfl) rfl) hV xe hxe hl _ (isEnd_any _ _ _ _) (by rw [hke]; rfl)
 by_cases hkz : (hereT l (j + 1)).1 = 0
 case neg =>
  rw [if_neg hkz] at hR
  have HRR : Hid (R = .error (80, (hereT l (j + 1)).2.2.2)) := hR.symm
  have HZ : Hid (∀ V, Tk nb wb l (j + 1) V → Calls Tryz.prog 93 #[.func (.func 100) #[] #[], .pointer (some ⟨nb, 0, none⟩), .pointer (some ⟨wb, 0, none⟩)] V fun e w' => e = .panicked (rfT 80 (hereT l (j + 1)).2.2.2) ∧ Ob nb V w') := fun V hV => tk_no 100 (enters_of Tryz.func100 (by kernel_rfl) rfl) hV hjl hl _ (isNone_any _ _ _ _) (by simpa using hkz)
  generalize (hereT l (j + 1)).2.2.2 = C at *
  clear h HB hx0 g0 g1 g2 g3 q1 q2 q3 b0 b1 b2 gET hkn a0 hr1 z0 z1 z2 hB hR hke hkz hxe hxee hjl hj
  go_enter Tryz.func23, Tryz.ntmps23
  go_wp2_with (first
    | (go_at_call 93; (have hzz := hT5); (with_reducible refine (HZ.out _ hT5).mono ?_); rintro e u6 ⟨rfl, hO6⟩)
    | (go_at_call 93; (have hzz := hT4); (with_reducible refine (HE.out _ hT4).mono ?_); rintro e u5 ⟨rfl, hT5, hO5⟩; (have g5 := g4.ob hO5 hne); (have m5 : u5.cell? ⟨w.heap.size, 2, none⟩ = some (.func (.func 93) #[] #[.pointer (some ⟨nb, 0, none⟩), .pointer (some ⟨wb, 0, none⟩)]) := (zca g5 2).trans rfl))
    | ((with_reducible refine hB3.mono ?_); rintro e u4 ⟨v, rfl, hrow, hT4, hO4'⟩; (have g4 := g3.ob hO4' hne); (have m4 : u4.cell? ⟨w.heap.size, 2, none⟩ = some (.func (.func 93) #[] #[.pointer (some ⟨nb, 0, none⟩), .pointer (some ⟨wb, 0, none⟩)]) := (zca g4 2).trans rfl))
    | (refine wpList_store_row rfl 48 (.tmp 4) (.tmp 17) rfl u.heap.size (tkC x0) rfl rfl 48 _ hr2 infoTk rfl (by simp [tkC, Value.oneCell']) ?_; rw [hu3]; (have hO3 : Ob nb w u3 := hO4.trans (hO.trans (Ob.of hb3'))); (have hT3 := hT.carry hb3'); (have g3 : RdBx u3 w.heap.size sl mp nb wb := (hb3'.block _ (by omega)).trans ((hO.block _ (by omega) hne).trans gR4)); (have gE3 := (hb3'.block _ (by omega)).trans ((hO.block _ hlE (by omega)).trans gE4)); (have gk3 := (hb3'.block _ (by omega)).trans ((hO.block _ hlk (by omega)).trans gk)); (have y0 : u3.cell? ⟨V3.heap.size, 0, none⟩ = some (.map (some W1.heap.size)) := (zca gk3 0).trans rfl); (have y1 : u3.cell? ⟨u.heap.size, 1, none⟩ = some (.string x0.2.1) := (zca hr3 1).trans rfl); (have y2 := HLK.out u3 hO3 gE3); (have hB3 := HBB.out u3 hO3 hT3); unfold rdV at y2 hB3)
    | (go_at_call 93; (with_reducible refine HK.mono ?_); rintro e u ⟨rfl, hT, hO⟩; (have hOs := hO.size); obtain ⟨u2, u3, hu2, hu3, hr2, hr3, hb3', hs3⟩ := box_word u x0))
  exact ⟨rfl, noo_err HRR.out (hO3.trans (hO4'.trans (hO5.trans hO6)))⟩
 rw [if_pos hkz] at hR
 have HRR : Hid (R = .ok (kd, fr, rd, N, ns)) := hR.symm
 have hlen : l.length = j + 1 := by
  rcases Nat.lt_or_ge (j + 1) l.length with q | q
  · exfalso
    have h1 := List.getElem?_eq_getElem q
    have h2 := hWk (j + 1) _ h1
    unfold hereT at hkz
    rw [h1] at hkz
    exact h2 hkz
  · omega
 have HLN : Hid (l.length = j + 1) := hlen
 have HZ : Hid (∀ V, Tk nb wb l (j + 1) V → Calls Tryz.prog 93 #[.func (.func 100) #[] #[], .pointer (some ⟨nb, 0, none⟩), .pointer (some ⟨wb, 0, none⟩)] V fun e w' => e = .returned (tk4 (0, ⟨#[]⟩, 0, 1)) ∧ Tk nb wb l (j + 1) w' ∧ Ob nb V w') := fun V hV => by
  rw [← hlen] at hV ⊢
  exact take_last 100 #[] (enters_of Tryz.func100 (by kernel_rfl) rfl) hV _ rfl (fun U _ => isNone_any 0 0 1 ⟨#[]⟩ U)
 clear h HB hx0 g0 g1 g2 g3 q1 q2 q3 b0 b1 b2 gET hkn a0 hr1 z0 z1 z2 hB hR hke hkz hxe hxee hjl hj hlen
 go_enter Tryz.func23, Tryz.ntmps23
 go_wp2_with (first
  | (go_at_call 93; (have hzz := hT5); (with_reducible refine (HZ.out _ hT5).mono ?_); rintro e u6 ⟨rfl, hT6, hO6⟩)
  | (go_at_call 93; (have hzz := hT4); (with_reducible refine (HE.out _ hT4).mono ?_); rintro e u5 ⟨rfl, hT5, hO5⟩; (have g5 := g4.ob hO5 hne); (have m5 : u5.cell? ⟨w.heap.size, 2, none⟩ = some (.func (.func 93) #[] #[.pointer (some ⟨nb, 0, none⟩), .pointer (some ⟨wb, 0, none⟩)]) := (zca g5 2).trans rfl))
  | ((with_reducible refine hB3.mono ?_); rintro e u4 ⟨v, rfl, hrow, hT4, hO4'⟩; (have g4 := g3.ob hO4' hne); (have m4 : u4.cell? ⟨w.heap.size, 2, none⟩ = some (.func (.func 93) #[] #[.pointer (some ⟨nb, 0, none⟩), .pointer (some ⟨wb, 0, none⟩)]) := (zca g4 2).trans rfl))
  | (refine wpList_store_row rfl 48 (.tmp 4) (.tmp 17) rfl u.heap.size (tkC x0) rfl rfl 48 _ hr2 infoTk rfl (by simp [tkC, Value.oneCell']) ?_; rw [hu3]; (have hO3 : Ob nb w u3 := hO4.trans (hO.trans (Ob.of hb3'))); (have hT3 := hT.carry hb3'); (have g3 : RdBx u3 w.heap.size sl mp nb wb := (hb3'.block _ (by omega)).trans ((hO.block _ (by omega) hne).trans gR4)); (have gE3 := (hb3'.block _ (by omega)).trans ((hO.block _ hlE (by omega)).trans gE4)); (have gk3 := (hb3'.block _ (by omega)).trans ((hO.block _ hlk (by omega)).trans gk)); (have y0 : u3.cell? ⟨V3.heap.size, 0, none⟩ = some (.map (some W1.heap.size)) := (zca gk3 0).trans rfl); (have y1 : u3.cell? ⟨u.heap.size, 1, none⟩ = some (.string x0.2.1) := (zca hr3 1).trans rfl); (have y2 := HLK.out u3 hO3 gE3); (have hB3 := HBB.out u3 hO3 hT3); unfold rdV at y2 hB3)
  | (go_at_call 93; (with_reducible refine HK.mono ?_); rintro e u ⟨rfl, hT, hO⟩; (have hOs := hO.size); obtain ⟨u2, u3, hu2, hu3, hr2, hr3, hb3', hs3⟩ := box_word u x0))
 go_ret
 have hs3' := hO3.size
 rw [HRR.out]
 refine ⟨v, congrArg Ending.returned (HTX.out v).symm, ?_, by rw [HLN.out]; exact hT6, hO3.trans (hO4'.trans (hO5.trans hO6))⟩
 exact ownsRow_base (ownsRow_ob hrow (hO5.trans hO6) (fun g hg => by have := own_block hrow g hg; omega)) (by omega)
theorem note_none {sl mp : Value} {L : List Int} {nb wb : Nat} {l : List Tk4} {w : World} (hSh : Shw l) (h : Tk nb wb l 0 w) (hl : l.length ≤ 1000000) (hk0 : kdW (hereT l 0).2.1 = 0) : Calls Tryz.prog 23 #[.agg #[sl, mp, rdF nb wb]] w (NoO nb wb l w (rdWT L l)) := by
 have HRR : Hid (rdWT L l = .error (80, (hereT l 0).2.2.2)) := by
  show rdWT L l = _
  rw [rdWT, bodR, if_pos hk0]
 have hkn : knV (rdV sl mp nb wb) (hereT l 0).2.1 = .nilFunc := by
  unfold kdW at hk0
  unfold knV
  split at hk0
  · cases hk0
  rename_i h1
  rw [if_neg h1]
  split at hk0
  · cases hk0
  rename_i h2
  rw [if_neg h2]
  split at hk0
  · cases hk0
  rename_i h3
  rw [if_neg h3]
 have hts : (hereT l 0).2.1.size ≤ maxLen := by have := hSh 0; unfold maxLen; omega
 clear hk0
 have hmf := hmfT
 have hmm := @run_makeMap Tryz.prog
 obtain ⟨W1, hW1⟩ : ∃ W1, w.alloc (.cells #[sl, mp, rdF nb wb] 86) = W1 := ⟨_, rfl⟩
 have hb1 : Below w.heap.size w W1 := by rw [← hW1]; exact al1t _ _
 have hr1 : RdBx W1 w.heap.size sl mp nb wb := by unfold RdBx; rw [← hW1]; exact zna rfl
 have hnb := zla h.nx
 have hne : w.heap.size ≠ nb := by omega
 have hl1 := zla hr1
 obtain ⟨V0, hV0⟩ : ∃ V0, W1.alloc (.map #[] 0) = V0 := ⟨_, rfl⟩
 have g0 : V0.heap[W1.heap.size]? = some (.map #[] 0) := by rw [← hV0]; exact zna rfl
 have b0 : Below W1.heap.size W1 V0 := by rw [← hV0]; exact al1t _ _
 obtain ⟨V1, r1, g1, q1⟩ := insT (k := ⟨#[113, 117, 101, 114, 121]⟩) (.func (.func 95) #[rdV sl mp nb wb] #[]) g0 (by decide) (by simp)
 have b1 := b0.trans (q1 W1.heap.size (Nat.le_refl _))
 obtain ⟨V2, r2, g2, q2⟩ := insT (k := ⟨#[114, 101, 112, 108, 121]⟩) (.func (.func 96) #[rdV sl mp nb wb] #[]) g1 (by decide) (by simp; decide)
 have b2 := b1.trans (q2 W1.heap.size (Nat.le_refl _))
 obtain ⟨V3, r3, g3, q3⟩ := insT (k := ⟨#[114, 117, 109, 111, 114]⟩) (.func (.func 97) #[rdV sl mp nb wb] #[]) g2 (by decide) (by simp; decide)
 have b3 := b2.trans (q3 W1.heap.size (Nat.le_refl _))
 have gET : V3.heap[W1.heap.size]? = some (.map (ET (rdV sl mp nb wb)) 3) := g3
 obtain ⟨V4, hV4⟩ : ∃ V4, V3.alloc (.cells #[.map (some W1.heap.size)] 152) = V4 := ⟨_, rfl⟩
 have b4 : Below V3.heap.size V3 V4 := by rw [← hV4]; exact al1t _ _
 have gk : V4.heap[V3.heap.size]? = some (.cells #[.map (some W1.heap.size)] 152 (0, 0)) := by rw [← hV4]; exact zna rfl
 have hb03 : Below W1.heap.size W1 V4 := b3.trans (b4.mono (by have := b3.size; omega))
 have gE4 : V4.heap[W1.heap.size]? = some (.map (ET (rdV sl mp nb wb)) 3) := (b4.block _ (zla gET)).trans gET
 have gR4 : RdBx V4 w.heap.size sl mp nb wb := (hb03.block _ hl1).trans hr1
 have hO4 : Ob nb w V4 := (Ob.of hb1).trans (Ob.of hb03)
 have hs1 := hb1.size
 have hs03 := b3.size
 have hlE := zla gE4
 have hlk := zla gk
 have H0 : Hid (Tk nb wb l 0 w) := h
 have HK := takeT_no (w := V4) 98 #[.pointer (some ⟨V3.heap.size, 0, none⟩)] (enters_of Tryz.func98 (by kernel_rfl) rfl) ((h.carry hb1).carry hb03) (Nat.zero_le _) _ rfl hl (fun V hV => isKind_no ((hV.block _ hlE (by omega)).trans gE4) ((hV.block _ hlk (by omega)).trans gk) (hereT l 0) hts hkn)
 unfold Dy at HK
 have k2 : V4.cell? ⟨w.heap.size, 2, none⟩ = some (.func (.func 93) #[] #[.pointer (some ⟨nb, 0, none⟩), .pointer (some ⟨wb, 0, none⟩)]) := (zca gR4 2).trans rfl
 have z0 : W1.cell? ⟨w.heap.size, 0, none⟩ = some sl := (zca hr1 0).trans rfl
 have z1 : W1.cell? ⟨w.heap.size, 1, none⟩ = some mp := (zca hr1 1).trans rfl
 have z2 : W1.cell? ⟨w.heap.size, 2, none⟩ = some (.func (.func 93) #[] #[.pointer (some ⟨nb, 0, none⟩), .pointer (some ⟨wb, 0, none⟩)]) := (zca hr1 2).trans rfl
 have a0 : ∀ V, Below W1.heap.size W1 V → V.cell? ⟨w.heap.size, 0, none⟩ = some sl ∧ V.cell? ⟨w.heap.size, 1, none⟩ = some mp ∧ V.cell? ⟨w.heap.size, 2, none⟩ = some (.func (.func 93) #[] #[.pointer (some ⟨nb, 0, none⟩), .pointer (some ⟨wb, 0, none⟩)]) := fun V hV => ⟨(hV.cell (p := ⟨w.heap.size, 0, none⟩) hl1).trans z0, (hV.cell (p := ⟨w.heap.size, 1, none⟩) hl1).trans z1, (hV.cell (p := ⟨w.heap.size, 2, none⟩) hl1).trans z2⟩
 obtain ⟨x00, x01, x02⟩ := a0 V0 b0
 obtain ⟨x10, x11, x12⟩ := a0 V1 b1
 obtain ⟨x20, x21, x22⟩ := a0 V2 b2
 unfold rdV at r1 r2 r3
 unfold rdF at hW1 ⊢
 generalize (hereT l 0).2.2.2 = C at *
 clear h g0 g1 g2 g3 q1 q2 q3 b0 b1 b2 gET hkn a0 hr1 z0 z1 z2 hts
 go_enter Tryz.func23, Tryz.ntmps23
 go_wp2_with (go_at_call 93; (with_reducible refine HK.mono ?_); rintro e u ⟨rfl, hO⟩)
 exact ⟨rfl, noo_err HRR.out (hO4.trans hO)⟩
theorem note_all {M : Nat} {sl mp : Value} {L : List Int} {nb wb : Nat} {l : List Tk4} {w : World} (hE : En M L sl mp nb w) (hSh : Shw l) (hWk : Wk4 l) (h : Tk nb wb l 0 w) (hl : l.length ≤ 1000000) : Calls Tryz.prog 23 #[.agg #[sl, mp, rdF nb wb]] w (NoO nb wb l w (rdWT L l)) := by
 by_cases hk0 : kdW (hereT l 0).2.1 = 0
 · exact note_none hSh h hl hk0
 have h0 : 0 < l.length := by
   rcases Nat.eq_zero_or_pos l.length with e | e
   · exfalso
     apply hk0
     unfold hereT
     rw [List.getElem?_eq_none (by omega)]
     rfl
   · exact e
 have hx : l[0]? = some (hereT l 0) := by
   unfold hereT
   rw [List.getElem?_eq_getElem h0]
   rfl
 have hts : (hereT l 0).2.1.size ≤ maxLen := by have := hSh 0; unfold maxLen; omega
 by_cases h1 : kdW (hereT l 0).2.1 = 1
 · refine note_by hWk h hl 95 (enters_of Tryz.func95 (by kernel_rfl) rfl) _ hx ?_ hts (fun V hO hT => ?_)
   · unfold kdW at h1
     unfold knV
     split at h1
     · rename_i e; rw [if_pos e]
     split at h1
     · cases h1
     split at h1 <;> cases h1
   · have e : bodR L l = qR L l := by rw [bodR, if_neg hk0, if_pos h1]
     rw [e]
     exact queryB_any (hE.on hO) hSh hT h0 hl
 by_cases h2 : kdW (hereT l 0).2.1 = 2
 · refine note_by hWk h hl 96 (enters_of Tryz.func96 (by kernel_rfl) rfl) _ hx ?_ hts (fun V hO hT => ?_)
   · unfold kdW at h2
     unfold knV
     split at h2
     · cases h2
     rename_i e1
     split at h2
     · rename_i e; rw [if_neg e1, if_pos e]
     split at h2 <;> cases h2
   · have e : bodR L l = pR L l := by rw [bodR, if_neg hk0, if_neg h1, if_pos h2]
     rw [e]
     exact replyB_any (hE.on hO) hSh hT h0 hl
 · refine note_by hWk h hl 97 (enters_of Tryz.func97 (by kernel_rfl) rfl) _ hx ?_ hts (fun V hO hT => ?_)
   · unfold kdW at hk0 h1 h2
     unfold knV
     split at h1
     · exact absurd rfl h1
     rename_i e1
     rw [if_neg e1] at hk0 h2 ⊢
     split at h2
     · exact absurd rfl h2
     rename_i e2
     rw [if_neg e2] at hk0 ⊢
     split at hk0
     · rename_i e3; rw [if_pos e3]
     · exact absurd rfl hk0
   · have e : bodR L l = uR L l := by rw [bodR, if_neg hk0, if_neg h1, if_neg h2]
     rw [e]
     exact rumorB_any (hE.on hO) hSh hT h0 hl
end Go.Proofs.YtmahamdmapbilaaGreatDoor
