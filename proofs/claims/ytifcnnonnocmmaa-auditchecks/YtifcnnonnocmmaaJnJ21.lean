import Derived.Test.YtifcnnonnocmmaaJnJ20
import Derived.Defers
import Derived.Recover
import Derived.Laws.MakeOwn
import Derived.Test.YtifcnnonnocmmaaJnJ15
import Derived.Test.YtifcnnonnocmmaaJnJ16
import Derived.Test.YtifcnnonnocmmaaJnJ17
import Derived.Test.YtifcnnonnocmmaaJnJ18
import Derived.Test.YtifcnnonnocmmaaJnJ19
set_option maxHeartbeats 40000000
set_option maxRecDepth 100000
set_option linter.unusedVariables false
namespace Go.Proofs.Ytifcnnonnocmmaa
open Go.RowKit Go.Shelf Go.Lib
attribute [local go_sem] Oper.semAt_some
theorem assertR_yes (v : Value) (w : World) : (Instr.typeAssert (.iface 37 v) 20 37 true).run Try.prog w = .ok (.tuple #[v, .bool true]) w := by kernel_rfl
theorem assertR_nil (w : World) : (Instr.typeAssert .nilIface 20 37 true).run Try.prog w = .ok (.tuple #[.agg #[.int .i64 0], .bool false]) w := by kernel_rfl
theorem ccatch (a c : Nat) (y1 y2 pl : Int) (w : World) (ga : w.heap[a]? = some (.cells #[.int .i64 y1] 3 (0, 0))) (gc : w.heap[c]? = some (.cells #[.int .i64 y2] 25 (0, 0))) (hac : ¬ c = a) :
  CallsD Try.prog 10 #[.pointer (some ⟨a, 0, none⟩), .pointer (some ⟨c, 0, none⟩)] (.panicking (off pl)) w fun e u' w' =>
   e = .returned (.tuple #[]) ∧ u' = .panicking [{ v := .iface 37 (.agg #[.int .i64 pl]), recovered := true }] ∧ w' = ((w.alloc (.cells #[.int .i64 pl] 37)).setCell ⟨a, 0, none⟩ (.int .i64 pl)).setCell ⟨c, 0, none⟩ (.int .i64 220) := by
 have la := zla ga
 have lc := zla gc
 have ha : w.cell? ⟨a, 0, none⟩ = some (.int .i64 y1) := (zca ga 0).trans rfl
 have hb : w.cell? ⟨c, 0, none⟩ = some (.int .i64 y2) := (zca gc 0).trans rfl
 have ha' : (w.alloc (.cells #[.int .i64 pl] 37)).cell? ⟨a, 0, none⟩ = some (.int .i64 y1) := (zca (zoa ga) 0).trans rfl
 have hb' : (w.alloc (.cells #[.int .i64 pl] 37)).cell? ⟨c, 0, none⟩ = some (.int .i64 y2) := (zca (zoa gc) 0).trans rfl
 have hza := zta (zoa (o := .cells #[.int .i64 pl] 37) ga) 0
 have hzb := zta (zoa (o := .cells #[.int .i64 pl] 37) gc) 0
 have n1 : ¬ w.heap.size = a := by omega
 have n2 : ¬ w.heap.size = c := by omega
 refine callsD_of_wpS Try.func10 rfl fun c₀ cs hu => ?_
 unfold off at hu
 apply wpS_seq
 apply wpS_region
 simp [wpOpsS, go_sem, recoverD, hu, Try.ntmps10, Exit.thenS, assertR_yes]
 apply wpS_seq
 apply wpS_region
 simp [wpOpsS, go_sem, Exit.thenS]
 refine wpS_cond (t := true) (by simp [Act.eval, Array.replicate]) ?_
 simp only [if_true]
 apply wpS_region
 simp [wpOpsS, go_sem, ha', hb', hza, hzb, bodyPostS, results, Try.results10]
theorem cidle (a b : Nat) (w : World) :
  CallsD Try.prog 10 #[.pointer (some ⟨a, 0, none⟩), .pointer (some ⟨b, 0, none⟩)] .returning w fun e u' w' => e = .returned (.tuple #[]) ∧ u' = .returning ∧ w' = w.alloc (.cells #[.int .i64 0] 37) := by
 refine callsD_of_wpS Try.func10 rfl fun c₀ cs hu => ?_
 apply wpS_seq
 apply wpS_region
 simp [wpOpsS, go_sem, recoverD, hu, Try.ntmps10, Exit.thenS, assertR_nil]
 apply wpS_seq
 apply wpS_region
 simp [wpOpsS, go_sem, Exit.thenS]
 refine wpS_cond (t := false) (by simp [Act.eval, Array.replicate]) ?_
 simp only [Bool.false_eq_true, if_false]
 refine wpS_of_wp (wp_skip ?_)
 cases c₀
 simp_all [bodyPostS, results, Try.results10]
end Go.Proofs.Ytifcnnonnocmmaa
namespace Go.Proofs.Ytifcnnonnocmmaa
open Go.RowKit Go.Shelf Go.Lib
attribute [local go_sem] Oper.semAt_some
theorem made5 (N : Nat) : madeCells (Value.agg #[.bool false, .int .i64 0, .int .i64 0, .int .i64 0, .int .i64 0]).cells (N * 5) = ((List.replicate N n0).flatMap nc).toArray := by
 apply Array.ext
 · rw [size_madeCells]; simp [fm_len nc 5 (fun _ => rfl)]
 · intro j h1 h2
   have hz : (Value.agg #[Value.bool false, Value.int .i64 0, Value.int .i64 0, Value.int .i64 0, Value.int .i64 0]).cells = #[Value.bool false, Value.int .i64 0, Value.int .i64 0, Value.int .i64 0, Value.int .i64 0] := rfl
   have hj : j < N * 5 := by rw [size_madeCells] at h1; exact h1
   have hm : j % 5 < 5 := Nat.mod_lt _ (by decide)
   have hg := fm_get nc 5 (fun _ => rfl) (List.replicate N n0) (j / 5) (j % 5) n0 (by rw [List.getElem?_replicate, if_pos (by omega)]) hm
   rw [show j / 5 * 5 + j % 5 = j by omega] at hg
   have hh : ((List.replicate N n0).flatMap nc).toArray[j] = ((List.replicate N n0).flatMap nc)[j]'(by simpa using h2) := by simp
   rw [hh]
   have h3 : some (((List.replicate N n0).flatMap nc)[j]'(by simpa using h2)) = (nc n0)[j % 5]? := by rw [← hg]; exact (List.getElem?_eq_getElem _).symm
   simp only [madeCells, hz, Array.getElem_map, Array.getElem_range]
   apply Option.some.inj
   rw [h3]
   show some (#[Value.bool false, Value.int IntKind.i64 0, Value.int IntKind.i64 0, Value.int IntKind.i64 0, Value.int IntKind.i64 0][j % 5]!) = _
   match j % 5, hm with
   | 0, _ => rfl
   | 1, _ => rfl
   | 2, _ => rfl
   | 3, _ => rfl
   | 4, _ => rfl
theorem info_partsN : ∃ i, Try.prog.info? 65 = some i ∧ i.zero = some (.agg #[.bool false, .int .i64 0, .int .i64 0, .int .i64 0, .int .i64 0]) ∧ i.size = 5 ∧ i.bytes = 40 := by
 have h : (Try.prog.info? 65).map (fun i => (i.zero, i.size, i.bytes)) = some (some (.agg #[.bool false, .int .i64 0, .int .i64 0, .int .i64 0, .int .i64 0]), 5, 40) := by kernel_rfl
 cases hq : Try.prog.info? 65 with
 | none => rw [hq] at h; simp at h
 | some i =>
  rw [hq] at h
  simp at h
  exact ⟨i, rfl, h.1, h.2.1, h.2.2⟩
theorem mk_nodes (N : Nat) (hN : N ≤ 100) (W : World) : (Instr.makeSlice 39 (.int .i64 (N : Int)) (.int .i64 (N : Int))).run Try.prog W = .ok (.slice (some ⟨W.heap.size, 0, none⟩) N N) (W.alloc (.cells ((List.replicate N n0).flatMap nc).toArray 65)) := by
 obtain ⟨ic, hic, hz0, hz1, hz2⟩ := info_partsN
 have := run_make (P := Try.prog) W 39 65 ic _ Try.underlying39 hic hz0 .i64 .i64 (N : Int) (N : Int) (by omega) (Int.le_refl _) (by rw [hz2]; omega) (by omega)
 rw [Int.toNat_natCast, hz1, made5] at this
 exact this
def heZ : Array Value := #[.int .i64 0, .int .i64 0, .slice none 0 0, .int .i64 0, .int .i64 0, .int .i64 0, .int .i64 0, .int .i64 0, .int .i64 0, .int .i64 0, .int .u32 0, .int .u32 0, .int .u32 0, .int .u32 0, .int .u32 0, .int .u32 0, .int .u32 0, .int .u32 0, .int .i64 0]
theorem al_H (w : World) : (Instr.alloc 43 true (.tuple #[])).run Try.prog w = .ok (.pointer (some ⟨w.heap.size, 0, none⟩)) (w.alloc (.cells heZ 43)) := by go_simp; rfl
theorem infoH : (Try.prog.info? 43).map (·.size) = some 19 := by kernel_rfl
def s0 (N : Nat) : Hs := ⟨List.replicate N n0, e0, 0⟩
def h0C (need : Int) (b N : Nat) : Array Value := #[.int .i64 need, .int .i64 0, .slice (some ⟨b, 0, none⟩) N N, .int .i64 0, .int .i64 0, .int .i64 0, .int .i64 0, .int .i64 0, .int .i64 0, .int .i64 0, .int .u32 0, .int .u32 0, .int .u32 0, .int .u32 0, .int .u32 0, .int .u32 0, .int .u32 0, .int .u32 0, .int .i64 0]
theorem h0C_eq (need : Int) (b N : Nat) : h0C need b N = heC need 0 b (s0 N).nds.length (s0 N).c (s0 N).la := by simp [h0C, heC, s0, e0, wd_zero]
theorem bld_H (need : Int) (b N : Nat) (w : World) : (Instr.build 43 #[(0, .int .i64 need), (2, .slice (some ⟨b, 0, none⟩) N N)]).run Try.prog w = .ok (.agg (h0C need b N)) w := by
 unfold h0C
 go_simp
theorem wpList_bld2 {P : Program} {ops : Array Oper} {rest : List Oper} {o : Oper} {a : Act} {w : World} {Q : Exit → Act → World → Prop} (hgd : o.guard = none) (t : TypeId) (k0 k1 : Nat) (x0 x1 : Operand) (ho : o.op = .build t #[(k0, x0), (k1, x1)]) (v0 v1 : Value) (h0 : a.eval x0 = v0) (h1 : a.eval x1 = v1) (v : Value) (hr : (Instr.build t #[(k0, v0), (k1, v1)]).run P w = .ok v w)
  (h : wpList P ops Q rest (a.put o.dst v) w) : wpList P ops Q (o :: rest) a w :=
 wpList_plain hgd fun K hK => by
  unfold Oper.wp execOp
  simp only [ho, h0, h1, List.map_toArray, List.map_cons, List.map_nil, Sem.run_bind, hr, Result.andThen_ok, Sem.run_pure, Oper.upon_value]
  exact hK _ _ h
theorem wpList_newT {P : Program} {ops : Array Oper} {rest : List Oper} {o : Oper} {a : Act} {w w' : World} {Q : Exit → Act → World → Prop} (hgd : o.guard = none) (t : TypeId) (ho : o.op = .alloc t) (v : Value) (hr : (Instr.alloc t true (.tuple #[])).run P w = .ok v w')
  (h : wpList P ops Q rest (a.put o.dst v) w') : wpList P ops Q (o :: rest) a w :=
 wpList_plain hgd fun K hK => by
  unfold Oper.wp execOp
  simp only [ho, Sem.run_bind, hr, Result.andThen_ok, Sem.run_pure, Oper.upon_value]
  exact hK _ _ h
def ckO (n f : Int) (l : List Ev) : Int × Int := if 1 ≤ n ∧ n ≤ 100 ∧ 0 ≤ f ∧ f < n then (match badAt (n - f) (s0 n.toNat) l 0 with | none => (0, 0) | some j => ((j : Int), 220)) else (0, 1)
theorem resC {tmps : Array Value} {W : World} {a b : Nat} {x y : Int} (h4 : tmps[6]?.getD undef = .pointer (some ⟨a, 0, none⟩)) (h5 : tmps[7]?.getD undef = .pointer (some ⟨b, 0, none⟩)) (hx : W.heap[a]? = some (.cells #[.int .i64 x] 3 (0, 0))) (hy : W.heap[b]? = some (.cells #[.int .i64 y] 25 (0, 0))) : (results Try.f6 tmps).run Try.prog W = .ok (.tuple #[.int .i64 x, .int .i64 y]) W := by
 have c1 := zca hx 0
 have c2 := zca hy 0
 simp at c1 c2
 simp [results, Try.results6, go_sem, h4, h5, c1, c2]
theorem RdE.carry {W V : World} {ad : Option Addr} {l : List Ev} (h : RdE W ad l) (hb : Below W.heap.size W V) : RdE V ad l := by
 refine ⟨fun hne => ?_, h.ok⟩
 obtain ⟨bb, oo, h1, h2, h3⟩ := h.at' hne
 exact ⟨bb, oo, h1, Nat.lt_of_lt_of_le h2 hb.size, fun k x hx i v hv => (hb.cell (p := ⟨bb, _, none⟩) h2).trans (h3 k x hx i v hv)⟩
theorem check_any (n f : Int) (ad : Option Addr) (cap : Nat) (l : List Ev) (w : World) (hl : RdE w ad l) (hlen : l.length ≤ 1000000) : Calls Try.prog 6 #[.int .i64 n, .int .i64 f, .slice ad l.length cap] w fun e w' => e = .returned (.tuple #[.int .i64 (ckO n f l).1, .int .i64 (ckO n f l).2]) ∧ Below w.heap.size w w' := by
 have hmf := hmf
 have hsz := isSize_any n
 by_cases ha : 1 ≤ n ∧ n ≤ 100 ∧ 0 ≤ f ∧ f < n
 case neg =>
  have hck : ckO n f l = (0, 1) := if_neg ha
  rw [hck]
  clear hck
  by_cases h1 : 1 ≤ n ∧ n ≤ 100
  case neg =>
    rw [decide_eq_false h1] at hsz
    clear h1 ha hl
    go_enter_defers Try.func6, Try.ntmps6
    go_wp2_with (go_at_call 9; (with_reducible refine (hsz _).mono ?_); rintro e u ⟨rfl, hu⟩; rw [hu]; clear hu u)
    exact ⟨_, resC rfl rfl (zoa (zna rfl)) (zna (by simp)), rfl, ((Below.refl _ w).alloc (Nat.le_refl _) _).alloc (by simp) _⟩
  rw [decide_eq_true h1] at hsz
  by_cases h2 : f < 0
  case pos =>
    clear h1 ha hl
    go_enter_defers Try.func6, Try.ntmps6
    go_wp2_with (go_at_call 9; (with_reducible refine (hsz _).mono ?_); rintro e u ⟨rfl, hu⟩; rw [hu]; clear hu u)
    exact ⟨_, resC rfl rfl (zoa (zna rfl)) (zna (by simp)), rfl, ((Below.refl _ w).alloc (Nat.le_refl _) _).alloc (by simp) _⟩
  have h3 : n ≤ f := by omega
  clear h1 ha hl
  go_enter_defers Try.func6, Try.ntmps6
  go_wp2_with (go_at_call 9; (with_reducible refine (hsz _).mono ?_); rintro e u ⟨rfl, hu⟩; rw [hu]; clear hu u)
  exact ⟨_, resC rfl rfl (zoa (zna rfl)) (zna (by simp)), rfl, ((Below.refl _ w).alloc (Nat.le_refl _) _).alloc (by simp) _⟩
 obtain ⟨N, rfl⟩ := Int.eq_ofNat_of_zero_le (show 0 ≤ n by omega)
 have hN : N ≤ 100 := by omega
 have hsz1 : decide (1 ≤ (N : Int) ∧ (N : Int) ≤ 100) = true := decide_eq_true ⟨ha.1, ha.2.1⟩
 rw [hsz1] at hsz
 have hf1 : ¬ f < 0 := by omega
 have hf2 : ¬ (N : Int) ≤ f := by omega
 have hck : ckO (N : Int) f l = match badAt ((N : Int) - f) (s0 N) l 0 with | none => (0, 0) | some j => ((j : Int), 220) := by unfold ckO; rw [if_pos ha, Int.toNat_natCast]
 have HCK : Hid (ckO (N : Int) f l = match badAt ((N : Int) - f) (s0 N) l 0 with | none => (0, 0) | some j => ((j : Int), 220)) := hck
 clear hck
 have hmk := mk_nodes N hN
 generalize hM0 : ((List.replicate N n0).flatMap nc).toArray = M0 at hmk
 -- the blocks
 obtain ⟨U, hU⟩ : ∃ U, ((w.alloc (.cells #[.int .i64 0] 3)).alloc (.cells #[.int .i64 0] 25)).alloc (.cells M0 65) = U := ⟨_, rfl⟩
 have gA : U.heap[w.heap.size]? = some (.cells #[.int .i64 0] 3 (0, 0)) := by rw [← hU]; exact zoa (zoa (zna rfl))
 have gE : U.heap[w.heap.size + 1]? = some (.cells #[.int .i64 0] 25 (0, 0)) := by rw [← hU]; exact zoa (zna (by simp))
 have gN : U.heap[w.heap.size + 1 + 1]? = some (.cells M0 65 (0, 0)) := by rw [← hU]; exact zna (by simp)
 have bU : Below w.heap.size w U := by rw [← hU]; exact (((Below.refl _ w).alloc (Nat.le_refl _) _).alloc (by simp) _).alloc (by simp; omega) _
 have sU : U.heap.size = w.heap.size + 1 + 1 + 1 := by rw [← hU]; simp
 obtain ⟨U1, hU1⟩ : ∃ V, U.alloc (.cells heZ 43) = V := ⟨_, rfl⟩
 have hal : (Instr.alloc 43 true (.tuple #[])).run Try.prog U = .ok (.pointer (some ⟨w.heap.size + 1 + 1 + 1, 0, none⟩)) U1 := by rw [al_H, hU1, sU]
 have gH : U1.heap[w.heap.size + 1 + 1 + 1]? = some (.cells heZ 43 (0, 0)) := by rw [← hU1]; exact zna sU.symm
 have b1 : Below U.heap.size U U1 := by rw [← hU1]; exact al1' _ _
 obtain ⟨need, hneed⟩ : ∃ need, (N : Int) - f = need := ⟨_, rfl⟩
 have hmk2 : (Instr.makeSlice 39 (.int .i64 (N : Int)) (.int .i64 (N : Int))).run Try.prog ((w.alloc (.cells #[.int .i64 0] 3)).alloc (.cells #[.int .i64 0] 25)) = .ok (.slice (some ⟨w.heap.size + 1 + 1, 0, none⟩) N N) U := by rw [hmk, hU]; simp
 obtain ⟨U2, hU2⟩ : ∃ V, U1.setRow (w.heap.size + 1 + 1 + 1) (h0C need (w.heap.size + 1 + 1) N) = V := ⟨_, rfl⟩
 have hH : He U2 (w.heap.size + 1 + 1 + 1) (w.heap.size + 1 + 1) need 0 (s0 N) := by
  refine ⟨?_, ?_, by omega⟩
  · rw [← hU2, ← h0C_eq]
    exact setRow_heap _ _ _ _ _ _ gH
  · rw [← hU2, Go.setRow_other _ _ _ _ (by omega), b1.block _ (by omega), gN, ← hM0]
    rfl
 have b2 : Below w.heap.size w U2 := by
  rw [← hU2]
  have b3 := bU.trans (b1.mono bU.size)
  exact ⟨b3.os, b3.tape, b3.output, by simpa [World.setRow] using b3.size, fun k hk => (Go.setRow_other _ _ _ _ (by omega)).trans (b3.block k hk)⟩
 have gA2 : U2.heap[w.heap.size]? = some (.cells #[.int .i64 0] 3 (0, 0)) := by rw [← hU2, Go.setRow_other _ _ _ _ (by omega), b1.block _ (by omega)]; exact gA
 have gE2 : U2.heap[w.heap.size + 1]? = some (.cells #[.int .i64 0] 25 (0, 0)) := by rw [← hU2, Go.setRow_other _ _ _ _ (by omega), b1.block _ (by omega)]; exact gE
 have hhi := history_any hH (by simp [s0, e0]) ad cap l (hl.carry b2) (fun hne bb oo e => by
  obtain ⟨b', o', q1, q2, _⟩ := hl.at' hne
  rw [q1] at e
  cases e
  exact ⟨by omega, by omega⟩) hlen
 have HAL : Hid ((Instr.alloc 43 true (.tuple #[])).run Try.prog U = .ok (.pointer (some ⟨w.heap.size + 1 + 1 + 1, 0, none⟩)) U1) := hal
 have HGH : Hid (U1.heap[w.heap.size + 1 + 1 + 1]? = some (.cells heZ 43 (0, 0))) := gH
 have HU2 : Hid (U1.setRow (w.heap.size + 1 + 1 + 1) (h0C need (w.heap.size + 1 + 1) N) = U2) := hU2
 have HNd : Hid ((N : Int) - f = need) := hneed
 have HBl : Hid (Below w.heap.size w U2) := b2
 have HA2 : Hid (U2.heap[w.heap.size]? = some (.cells #[.int .i64 0] 3 (0, 0))) := gA2
 have HE2 : Hid (U2.heap[w.heap.size + 1]? = some (.cells #[.int .i64 0] 25 (0, 0))) := gE2
 have HH2 : Hid (He U2 (w.heap.size + 1 + 1 + 1) (w.heap.size + 1 + 1) need 0 (s0 N)) := hH
 clear gA gE gN bU sU b1 b2 gA2 gE2 hH hM0 hU1 hl ha hlen hmk hU hal gH hU2
 have hkp : ∀ u1, Tn (w.heap.size + 1 + 1 + 1) (some (w.heap.size + 1 + 1)) (some (w.heap.size + 1 + 1)) U2 u1 → u1.heap[w.heap.size]? = some (.cells #[.int .i64 0] 3 (0, 0)) ∧ u1.heap[w.heap.size + 1]? = some (.cells #[.int .i64 0] 25 (0, 0)) := fun u1 ht =>
  ⟨(ht.block _ (zla HA2.out) (by omega) (by simp; omega)).trans HA2.out, (ht.block _ (zla HE2.out) (by omega) (by simp)).trans HE2.out⟩
 have HBu : ∀ u1, Tn (w.heap.size + 1 + 1 + 1) (some (w.heap.size + 1 + 1)) (some (w.heap.size + 1 + 1)) U2 u1 → Below w.heap.size w u1 := fun u1 ht => HBl.out.trans (ht.below (by omega) (fun b e => by cases e; omega) HBl.out.size)
 cases hB : badAt need (s0 N) l 0 with
 | none =>
  rw [hB] at hhi
  rw [HNd.out, hB] at HCK
  clear hB
  go_enter_defers Try.func6, Try.ntmps6
  go_wp2_with (first | (go_at_call 9; (with_reducible refine (hsz _).mono ?_); rintro e u ⟨rfl, hu⟩; rw [hu]; clear hu u) | (refine wpList_bld2 rfl 43 0 2 (.tmp 24) (.tmp 26) rfl (.int .i64 need) (.slice (some ⟨w.heap.size + 1 + 1, 0, none⟩) N N) rfl rfl _ (bld_H need (w.heap.size + 1 + 1) N U) ?_) | (refine wpList_newT rfl 43 rfl _ HAL.out ?_) | (refine wpList_store_row rfl 43 (.tmp 8) (.tmp 27) rfl (w.heap.size + 1 + 1 + 1) (h0C need (w.heap.size + 1 + 1) N) rfl rfl 43 _ HGH.out infoH rfl (by simp [h0C, Value.oneCell']) ?_; rw [HU2.out]) | (go_at_call 11; refine hhi.mono ?_; rintro e u1 ⟨rfl, ht⟩; obtain ⟨g1, g2⟩ := hkp u1 ht; have k1 : u1.cell? ⟨w.heap.size, 0, none⟩ = some (.int .i64 0) := (zca g1 0).trans rfl; have k2 : u1.cell? ⟨w.heap.size + 1, 0, none⟩ = some (.int .i64 0) := (zca g2 0).trans rfl; have z1 := zta g1 0; have z2 := zta g2 0))
  refine leaves_cons (f := 10) (args := #[.pointer (some ⟨w.heap.size, 0, none⟩), .pointer (some ⟨w.heap.size + 1, 0, none⟩)]) (by simp) (by simp [go_sem]) ?_
  refine (cidle w.heap.size (w.heap.size + 1) _).mono ?_
  rintro e u' w'' ⟨rfl, rfl, rfl⟩
  have hA4 : ((u1.setCell ⟨w.heap.size, 0, none⟩ (.int .i64 0)).setCell ⟨w.heap.size + 1, 0, none⟩ (.int .i64 0)).heap[w.heap.size]? = some (.cells #[.int .i64 0] 3 (0, 0)) := by
    rw [Below.heap_setCell _ _ _ _ (by simp)]
    exact (set_get 0 _ g1).trans (by simp)
  have hB4 : ((u1.setCell ⟨w.heap.size, 0, none⟩ (.int .i64 0)).setCell ⟨w.heap.size + 1, 0, none⟩ (.int .i64 0)).heap[w.heap.size + 1]? = some (.cells #[.int .i64 0] 25 (0, 0)) :=
    (set_get 0 _ ((Below.heap_setCell u1 ⟨w.heap.size, 0, none⟩ (.int .i64 0) (w.heap.size + 1) (by simp)).trans g2)).trans (by simp)
  refine ⟨_, resC rfl rfl (zoa hA4) (zoa hB4), by rw [HCK.out], ?_⟩
  have hb5 := ((HBu u1 ht).setCell (p := ⟨w.heap.size, 0, none⟩) (Nat.le_refl _) (.int .i64 0)).setCell (p := ⟨w.heap.size + 1, 0, none⟩) (Nat.le_succ _) (.int .i64 0)
  exact hb5.alloc hb5.size _
 | some j =>
  rw [hB] at hhi
  rw [HNd.out, hB] at HCK
  clear hB
  go_enter_defers Try.func6, Try.ntmps6
  go_wp2_with (first | (go_at_call 9; (with_reducible refine (hsz _).mono ?_); rintro e u ⟨rfl, hu⟩; rw [hu]; clear hu u) | (refine wpList_bld2 rfl 43 0 2 (.tmp 24) (.tmp 26) rfl (.int .i64 need) (.slice (some ⟨w.heap.size + 1 + 1, 0, none⟩) N N) rfl rfl _ (bld_H need (w.heap.size + 1 + 1) N U) ?_) | (refine wpList_newT rfl 43 rfl _ HAL.out ?_) | (refine wpList_store_row rfl 43 (.tmp 8) (.tmp 27) rfl (w.heap.size + 1 + 1 + 1) (h0C need (w.heap.size + 1 + 1) N) rfl rfl 43 _ HGH.out infoH rfl (by simp [h0C, Value.oneCell']) ?_; rw [HU2.out]) | (go_at_call 11; refine hhi.mono ?_; rintro e u1 ⟨rfl, ht⟩; obtain ⟨g1, g2⟩ := hkp u1 ht))
  refine leaves_cons (f := 10) (args := #[.pointer (some ⟨w.heap.size, 0, none⟩), .pointer (some ⟨w.heap.size + 1, 0, none⟩)]) (by simp) (by simp [go_sem]) ?_
  refine (ccatch w.heap.size (w.heap.size + 1) 0 0 (j : Int) u1 g1 g2 (by omega)).mono ?_
  rintro e u' w'' ⟨rfl, rfl, rfl⟩
  have n1 := zoa (o := .cells #[.int .i64 (j : Int)] 37) g1
  have n2 := zoa (o := .cells #[.int .i64 (j : Int)] 37) g2
  have hA4 : (((u1.alloc (.cells #[.int .i64 (j : Int)] 37)).setCell ⟨w.heap.size, 0, none⟩ (.int .i64 (j : Int))).setCell ⟨w.heap.size + 1, 0, none⟩ (.int .i64 220)).heap[w.heap.size]? = some (.cells #[.int .i64 (j : Int)] 3 (0, 0)) := by
    rw [Below.heap_setCell _ _ _ _ (by simp)]
    exact (set_get 0 _ n1).trans (by simp)
  have hB4 : (((u1.alloc (.cells #[.int .i64 (j : Int)] 37)).setCell ⟨w.heap.size, 0, none⟩ (.int .i64 (j : Int))).setCell ⟨w.heap.size + 1, 0, none⟩ (.int .i64 220)).heap[w.heap.size + 1]? = some (.cells #[.int .i64 220] 25 (0, 0)) :=
    (set_get 0 _ ((Below.heap_setCell _ ⟨w.heap.size, 0, none⟩ (.int .i64 (j : Int)) (w.heap.size + 1) (by simp)).trans n2)).trans (by simp)
  refine ⟨_, resC rfl rfl hA4 hB4, by rw [HCK.out], ?_⟩
  have hb4 := HBu u1 ht
  exact ((hb4.alloc hb4.size _).setCell (p := ⟨w.heap.size, 0, none⟩) (Nat.le_refl _) _).setCell (p := ⟨w.heap.size + 1, 0, none⟩) (Nat.le_succ _) _
end Go.Proofs.Ytifcnnonnocmmaa
namespace Go.Proofs.Ytifcnnonnocmmaa
open Go.RowKit Go.Shelf Go.Lib
attribute [local go_sem] Oper.semAt_some
def Hv (need : Int) (s : Hs) (x : Ev) (N : Nat) (y : Nat) (f : Int) (w : World) (e : Ending) (V : World) : Prop :=
 (match evt need s x with | none => e = .returned (.bool false) | some s' => e = .returned (.bool true) ∧ ∃ D', De V y (N : Int) f D' ∧ Rl N s' D') ∧ Tn y (some y) (some y) w V
theorem holds_any {w : World} {y N : Nat} {need f : Int} {s : Hs} {D : Ds} (h : De w y (N : Int) f D) (hr : Rl N s D) (hN : 1 ≤ (N : Int) ∧ (N : Int) ≤ 100) (hf : 0 ≤ f ∧ f < (N : Int)) (hn : need = (N : Int) - f) (x : Ev) (hhe : x.he < S128) (hun : x.un < S128) : Calls Try.prog 12 #[.pointer (some ⟨y, 0, none⟩), evV x] w (Hv need s x N y f w) := by
 have key : (1 ≤ x.k ∧ x.k ≤ 6) → Calls Try.prog 12 #[.pointer (some ⟨y, 0, none⟩), evV x] w (Ho y (N : Int) f w (hold (N : Int) f D x)) → Calls Try.prog 12 #[.pointer (some ⟨y, 0, none⟩), evV x] w (Hv need s x N y f w) := fun hk hc => by
   refine hc.mono ?_
   intro e V ho
   have he := hold_evt (x := x) hr hn hk
   unfold Hv
   cases hev : evt need s x with
   | none =>
    rw [hev] at he
    rw [show hold (N : Int) f D x = none from he] at ho
    exact ⟨ho.1, ho.2⟩
   | some s' =>
    rw [hev] at he
    obtain ⟨D', h1, h2⟩ := he
    rw [h1] at ho
    exact ⟨⟨ho.1, D', ho.2.1, h2⟩, ho.2.2⟩
 obtain ⟨k, nd, li, ro, ta, of, du, he, un⟩ := x
 by_cases k1 : k = 1
 · subst k1; exact key (by simp) (hold_1 h hN hf nd li ro ta of du he un hhe hun)
 by_cases k2 : k = 2
 · subst k2; exact key (by simp) (hold_2 h hN hf nd li ro ta of du he un hhe hun)
 by_cases k3 : k = 3
 · subst k3; exact key (by simp) (hold_3 h hN hf nd li ro ta of du he un hhe hun)
 by_cases k4 : k = 4
 · subst k4; exact key (by simp) (hold_4 h hN hf nd li ro ta of du he un hhe hun)
 by_cases k5 : k = 5
 · subst k5; exact key (by simp) (hold_5 h hN hf nd li ro ta of du he un hhe hun)
 by_cases k6 : k = 6
 · subst k6; exact key (by simp) (hold_6 h hN hf nd li ro ta of du he un hhe hun)
 refine (hold_0 h k (by omega) nd li ro ta of du he un).mono ?_
 intro e V ho
 unfold Hv
 have hev : evt need s ⟨k, nd, li, ro, ta, of, du, he, un⟩ = none := by unfold evt; rw [if_neg (by simp; omega)]
 rw [hev]
 exact ⟨ho.1, ho.2⟩
def D0 : Ds := ⟨List.replicate 100 ⟨false, 0, 0, 0, 0, 0⟩, false, e0, 0⟩
theorem bld_D (n f : Int) (w : World) : (Instr.build 50 #[(0, .int .i64 n), (1, .int .i64 f)]).run Try.prog w = .ok (.agg (deC n f D0).toArray) w := by kernel_rfl
theorem box_D (cs : Array Value) (w : World) : (Instr.box 50 (.agg cs)).run Try.prog w = .ok (.pointer (some ⟨w.heap.size, 0, none⟩)) (w.alloc (.cells cs 50)) := by
 go_simp
theorem wpList_box {P : Program} {ops : Array Oper} {rest : List Oper} {o : Oper} {a : Act} {w w' : World} {Q : Exit → Act → World → Prop} (hgd : o.guard = none) (t : TypeId) (x : Operand) (ho : o.op = .box t x) (v0 v : Value) (h0 : a.eval x = v0) (hr : (Instr.box t v0).run P w = .ok v w')
  (h : wpList P ops Q rest (a.put o.dst v) w') : wpList P ops Q (o :: rest) a w :=
 wpList_plain hgd fun K hK => by
  unfold Oper.wp execOp
  simp only [ho, h0, Sem.run_bind, hr, Result.andThen_ok, Sem.run_pure, Oper.upon_value]
  exact hK _ _ h
theorem Rl.zero (N : Nat) (hN : N ≤ 100) : Rl N (s0 N) D0 := by
 refine ⟨by simp [s0], fun m u hu => ?_, by simp [D0, s0, e0], fun e => by simp [s0, e0] at e, fun m u hu => ?_, fun e => by simp [s0, e0] at e⟩
 · simp only [s0, List.getElem?_replicate] at hu
   split at hu
   · cases hu
     simp only [D0, List.getElem?_replicate]
     rw [if_pos (by omega)]
     rfl
   · cases hu
 · simp only [s0, List.getElem?_replicate] at hu
   split at hu
   · cases hu; exact ⟨Int.le_refl _, Int.le_refl _⟩
   · cases hu
theorem ev_cells {V : World} {bb o : Nat} {x : Ev} (h : ∀ (i : Nat) (v : Value), (ecA x)[i]? = some v → V.cell? ⟨bb, o + i, none⟩ = some v) : V.cell? ⟨bb, o, none⟩ = some (.int .i64 x.k) ∧ V.cell? ⟨bb, o + 1, none⟩ = some (.int .i64 x.nd) ∧ V.cell? ⟨bb, o + 2, none⟩ = some (.int .i64 x.li) ∧ V.cell? ⟨bb, o + 3, none⟩ = some (.int .i64 x.ro) ∧ V.cell? ⟨bb, o + 4, none⟩ = some (.int .i64 x.ta) ∧ V.cell? ⟨bb, o + 5, none⟩ = some (.int .i64 x.of) ∧ V.cell? ⟨bb, o + 6, none⟩ = some (.int .i64 x.du) ∧ V.cell? ⟨bb, o + 7, none⟩ = some (.int .u32 (wd x.he 0 : Nat)) ∧ V.cell? ⟨bb, o + 8, none⟩ = some (.int .u32 (wd x.he 1 : Nat)) ∧ V.cell? ⟨bb, o + 9, none⟩ = some (.int .u32 (wd x.he 2 : Nat)) ∧ V.cell? ⟨bb, o + 10, none⟩ = some (.int .u32 (wd x.he 3 : Nat)) ∧ V.cell? ⟨bb, o + 11, none⟩ = some (.int .u32 (wd x.un 0 : Nat)) ∧ V.cell? ⟨bb, o + 12, none⟩ = some (.int .u32 (wd x.un 1 : Nat)) ∧ V.cell? ⟨bb, o + 13, none⟩ = some (.int .u32 (wd x.un 2 : Nat)) ∧ V.cell? ⟨bb, o + 14, none⟩ = some (.int .u32 (wd x.un 3 : Nat)) :=
 ⟨h 0 _ rfl, h 1 _ rfl, h 2 _ rfl, h 3 _ rfl, h 4 _ rfl, h 5 _ rfl, h 6 _ rfl, h 7 _ rfl, h 8 _ rfl, h 9 _ rfl, h 10 _ rfl, h 11 _ rfl, h 12 _ rfl, h 13 _ rfl, h 14 _ rfl⟩
structure DR (w : World) (y bb oo N : Nat) (need f : Int) (l : List Ev) (B : Option Nat) (j : Nat) (s : Hs) (V : World) : Prop where
 de : ∃ D, De V y (N : Int) f D ∧ Rl N s D
 bl : Below w.heap.size w V
 le : j ≤ l.length
 rd : ∀ (k : Nat) (x : Ev), l[k]? = some x → ∀ (i : Nat) (v : Value), (ecA x)[i]? = some v → V.cell? ⟨bb, oo + k * 15 + i, none⟩ = some v
 bd : badAt need s (l.drop j) j = B
def ckR (B : Option Nat) : Int × Int := match B with | none => (0, 0) | some j => ((j : Int), 220)
def vnA (v : Value) : Nat := match v with | .int _ i => i.toNat | _ => 0
theorem rcheck_any (n f : Int) (ad : Option Addr) (cap : Nat) (l : List Ev) (w : World) (hl : RdE w ad l) (hlen : l.length ≤ 1000000) : Calls Try.prog 7 #[.int .i64 n, .int .i64 f, .slice ad l.length cap] w fun e w' => e = .returned (.tuple #[.int .i64 (ckO n f l).1, .int .i64 (ckO n f l).2]) ∧ Below w.heap.size w w' := by
 by_cases ha : 1 ≤ n ∧ n ≤ 100 ∧ 0 ≤ f ∧ f < n
 case neg =>
  have hck : ckO n f l = (0, 1) := if_neg ha
  rw [hck]
  clear hck hl
  by_cases h1 : n < 1
  · go_enter Try.func7, Try.ntmps7
    go_wp2
    go_ret2
    exact ⟨rfl, Below.refl _ _⟩
  by_cases h2 : 100 < n
  · go_enter Try.func7, Try.ntmps7
    go_wp2
    go_ret2
    exact ⟨rfl, Below.refl _ _⟩
  by_cases h3 : f < 0
  · go_enter Try.func7, Try.ntmps7
    go_wp2
    go_ret2
    exact ⟨rfl, Below.refl _ _⟩
  have h4 : n ≤ f := by omega
  go_enter Try.func7, Try.ntmps7
  go_wp2
  go_ret2
  exact ⟨rfl, Below.refl _ _⟩
 obtain ⟨N, rfl⟩ := Int.eq_ofNat_of_zero_le (show 0 ≤ n by omega)
 have hck : ckO (N : Int) f l = match badAt ((N : Int) - f) (s0 N) l 0 with | none => (0, 0) | some j => ((j : Int), 220) := by unfold ckO; rw [if_pos ha, Int.toNat_natCast]; try rfl
 obtain ⟨B, hB⟩ : ∃ B, badAt ((N : Int) - f) (s0 N) l 0 = B := ⟨_, rfl⟩
 rw [hB] at hck
 obtain ⟨r, hrr⟩ : ∃ r : Int × Int, ckO (N : Int) f l = r := ⟨_, rfl⟩
 rw [hrr] at hck
 rw [hrr]
 have HRR : Hid (r = ckR B) := hck
 clear hck hrr
 obtain ⟨bb, oo, had, hlt, hrd⟩ : ∃ bb oo, (l ≠ [] → ad = some ⟨bb, oo, none⟩) ∧ (l ≠ [] → bb < w.heap.size) ∧ ∀ (k : Nat) (x : Ev), l[k]? = some x → ∀ (i : Nat) (v : Value), (ecA x)[i]? = some v → w.cell? ⟨bb, oo + k * 15 + i, none⟩ = some v := by
  by_cases hne : l = []
  · subst hne
    exact ⟨0, 0, fun e => absurd rfl e, fun e => absurd rfl e, fun k x hx => by simp at hx⟩
  · obtain ⟨bb, oo, h1, h2, h3⟩ := hl.at' hne
    exact ⟨bb, oo, fun _ => h1, fun _ => h2, h3⟩
 have hok := hl.ok
 have hltc : ∀ (V : World), Below w.heap.size w V → ∀ (k : Nat) (x : Ev), l[k]? = some x → ∀ (i : Nat) (v : Value), (ecA x)[i]? = some v → V.cell? ⟨bb, oo + k * 15 + i, none⟩ = some v := fun V hb k x hx i v hv => (hb.cell (p := ⟨bb, _, none⟩) (hlt (fun e => by rw [e] at hx; simp at hx))).trans (hrd k x hx i v hv)
 obtain ⟨U, hU⟩ : ∃ V, w.alloc (.cells (deC (N : Int) f D0).toArray 50) = V := ⟨_, rfl⟩
 have bU : Below w.heap.size w U := by rw [← hU]; exact al1' _ _
 have hD0 : De U w.heap.size (N : Int) f D0 := ⟨by rw [← hU]; exact zna rfl, rfl⟩
 have HBX : Hid ((Instr.box 50 (.agg (deC (N : Int) f D0).toArray)).run Try.prog w = .ok (.pointer (some ⟨w.heap.size, 0, none⟩)) U) := by
  have := box_D (deC (N : Int) f D0).toArray w
  rw [hU] at this
  exact this
 have HR0 : Hid (DR w w.heap.size bb oo N ((N : Int) - f) f l B 0 (s0 N) U) := ⟨⟨D0, hD0, Rl.zero N (by omega)⟩, bU, Nat.zero_le _, hltc U bU, by rw [List.drop_zero]; exact hB⟩
 have h11 : ¬ (N : Int) < 1 := by omega
 have h12 : ¬ 100 < (N : Int) := by omega
 have h13 : ¬ f < 0 := by omega
 have h14 : ¬ (N : Int) ≤ f := by omega
 have HA : Hid ((1 ≤ (N : Int) ∧ (N : Int) ≤ 100) ∧ (0 ≤ f ∧ f < (N : Int))) := ⟨⟨ha.1, ha.2.1⟩, ha.2.2⟩
 clear hU bU hD0 hl ha hrd hB
 go_enter Try.func7, Try.ntmps7
 go_wp2_with (first | (refine wpList_bld2 rfl 50 0 1 (.tmp 25) (.tmp 26) rfl (.int .i64 (N : Int)) (.int .i64 f) rfl rfl _ (bld_D (N : Int) f w) ?_) | (refine wpList_box rfl 50 (.tmp 27) rfl _ _ rfl HBX.out ?_))
 go_loopw [9] (fun i wz => ∃ (j : Nat) (s : Hs), i = .int .i64 (j : Int) ∧ Hid (DR w w.heap.size bb oo N ((N : Int) - f) f l B j s wz)) (fun i _ => l.length - vnA i)
 case atStart => exact ⟨0, s0 N, rfl, HR0⟩
 case round =>
  clear HR0 HBX
  obtain ⟨j, s, rfl, HH⟩ := hrel
  obtain ⟨D, hD, hR⟩ := HH.out.de
  have hjle := HH.out.le
  by_cases hjl : j < l.length
  case neg =>
    have hji : ¬ (j : Int) < (l.length : Int) := by omega
    have hrb : wr.cell? ⟨w.heap.size, 602, none⟩ = some (.bool D.rb) := hD.crb
    have hbl := HH.out.bl
    have hb := HH.out.bd
    rw [List.drop_eq_nil_of_le (by omega)] at hb
    unfold badAt at hb
    have hjq : l.length = j := by omega
    cases hq : decide (s.c.k = 3) with
    | true =>
     rw [hR.rb, hq] at hrb
     rw [if_pos hq] at hb
     have HB2 : Hid (some j = B) := hb
     clear hb hD hR HH
     go_wp2
     go_ret2
     exact ⟨by rw [HRR.out, ← HB2.out]; rfl, hbl⟩
    | false =>
     rw [hR.rb, hq] at hrb
     rw [if_neg (by simp [hq])] at hb
     have HB2 : Hid (none = B) := hb
     clear hb hD hR HH
     go_wp2
     go_ret2
     exact ⟨by rw [HRR.out, ← HB2.out]; rfl, hbl⟩
  have hji : (j : Int) < (l.length : Int) := by omega
  obtain ⟨x, hx⟩ : ∃ x, l[j]? = some x := ⟨_, List.getElem?_eq_getElem hjl⟩
  obtain ⟨hxe, hxu, _⟩ := hok x (List.mem_of_getElem? hx)
  have hada := had (fun e => by rw [e] at hjl; simp at hjl)
  subst hada
  have hh := holds_any hD hR HA.out.1 HA.out.2 rfl x hxe hxu
  obtain ⟨i0, i1, i2, i3, i4, i5, i6, i7, i8, i9, i10, i11, i12, i13, i14⟩ := ev_cells (fun i v hv => HH.out.rd j x hx i v hv)
  have hbd := HH.out.bd
  rw [List.drop_eq_getElem_cons hjl, (List.getElem?_eq_some_iff.1 hx).2] at hbd
  unfold badAt at hbd
  unfold Hv evV ecA at hh
  have hbl := HH.out.bl
  have hsz : w.heap.size ≤ w.heap.size := Nat.le_refl _
  cases hev : evt ((N : Int) - f) s x with
  | none =>
    rw [hev] at hh hbd
    have HB2 : Hid (some j = B) := hbd
    clear hbd hD hR HH hev
    go_wp2_with (go_at_call 12; (with_reducible refine hh.mono ?_); rintro e u1 ⟨rfl, ht⟩)
    go_ret2
    exact ⟨by rw [HRR.out, ← HB2.out]; rfl, hbl.trans (ht.below (Nat.le_refl _) (fun b e => by cases e; exact Nat.le_refl _) hbl.size)⟩
  | some s' =>
    rw [hev] at hh hbd
    have HB2 : Hid (badAt ((N : Int) - f) s' (l.drop (j + 1)) (j + 1) = B) := hbd
    clear hbd hD hR HH hev
    go_wp2_with (go_at_call 12; (with_reducible refine hh.mono ?_); rintro e u1 ⟨⟨rfl, D', hD', hR'⟩, ht⟩)
    go_roundw
    case rel =>
     have hb2 := hbl.trans (ht.below (Nat.le_refl _) (fun b e => by cases e; exact Nat.le_refl _) hbl.size)
     exact ⟨j + 1, s', by simp, ⟨⟨D', hD', hR'⟩, hb2, by omega, hltc _ hb2, HB2.out⟩⟩
    case measure => simp [vnA]; omega
end Go.Proofs.Ytifcnnonnocmmaa
