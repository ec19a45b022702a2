/- audit.Check: what it answers, at every history. -/
import Derived.Test.YtgnhainfcfcodaaGreatAuk
import Derived.Laws.MakeOwn
namespace Go.Proofs.YtgnhainfcfcodaaGreat
open Go.RowKit Go.Shelf Go.Lib
attribute [local go_sem] Oper.semAt_some

theorem made5 (N : Nat) : madeCells (Value.agg #[.bool false, .int .i64 0, .int .i64 0, .int .i64 0, .int .i64 0]).cells (N * 5) = ((List.replicate N n0).flatMap nc).toArray := by
  apply Array.ext
  · rw [size_madeCells]; simp [fm_len nc 5 (fun _ => rfl)]
  · intro j h1 h2
    have hz : (Value.agg #[Value.bool false, Value.int .i64 0, Value.int .i64 0, Value.int .i64 0, Value.int .i64 0]).cells = #[Value.bool false, Value.int .i64 0, Value.int .i64 0, Value.int .i64 0, Value.int .i64 0] := rfl
    have hj : j < N * 5 := by rw [size_madeCells] at h1; exact h1
    have hm : j % 5 < 5 := Nat.mod_lt _ (by decide)
    have hg := fm_get nc 5 (fun _ => rfl) (List.replicate N n0) (j / 5) (j % 5) n0 (by rw [List.getElem?_replicate, if_pos (by omega)]) hm
    rw [show j / 5 * 5 + j % 5 = j by omega] at hg
    have hh : ((List.replicate N n0).flatMap nc).toArray[j] = ((List.replicate N n0).flatMap nc)[j]'(by simpa using h2) := by simp
    rw [hh]
    have h3 : some (((List.replicate N n0).flatMap nc)[j]'(by simpa using h2)) = (nc n0)[j % 5]? := by rw [← hg]; exact (List.getElem?_eq_getElem _).symm
    simp only [madeCells, hz, Array.getElem_map, Array.getElem_range]
    apply Option.some.inj
    rw [h3]
    show some (#[Value.bool false, Value.int IntKind.i64 0, Value.int IntKind.i64 0, Value.int IntKind.i64 0, Value.int IntKind.i64 0][j % 5]!) = _
    match j % 5, hm with
    | 0, _ => rfl
    | 1, _ => rfl
    | 2, _ => rfl
    | 3, _ => rfl
    | 4, _ => rfl
theorem info_partsN : ∃ i, Tryz.prog.info? 147 = some i ∧ i.zero = some (.agg #[.bool false, .int .i64 0, .int .i64 0, .int .i64 0, .int .i64 0]) ∧ i.size = 5 ∧ i.bytes = 40 := by
  have h : (Tryz.prog.info? 147).map (fun i => (i.zero, i.size, i.bytes)) = some (some (.agg #[.bool false, .int .i64 0, .int .i64 0, .int .i64 0, .int .i64 0]), 5, 40) := by kernel_rfl
  cases hq : Tryz.prog.info? 147 with
  | none => rw [hq] at h; simp at h
  | some i =>
    rw [hq] at h
    simp at h
    exact ⟨i, rfl, h.1, h.2.1, h.2.2⟩
theorem mk_nodes (N : Nat) (hN : N ≤ 100) (W : World) : (Instr.makeSlice 93 (.int .i64 (N : Int)) (.int .i64 (N : Int))).run Tryz.prog W = .ok (.slice (some ⟨W.heap.size, 0, none⟩) N N) (W.alloc (.cells ((List.replicate N n0).flatMap nc).toArray 147)) := by
  obtain ⟨ic, hic, hz0, hz1, hz2⟩ := info_partsN
  have := run_make (P := Tryz.prog) W 93 147 ic _ Tryz.underlying93 hic hz0 .i64 .i64 (N : Int) (N : Int) (by omega) (Int.le_refl _) (by rw [hz2]; omega) (by omega)
  rw [Int.toNat_natCast, hz1, made5] at this
  exact this
def heZ : Array Value := #[.int .i64 0, .int .i64 0, .slice none 0 0, .int .i64 0, .int .i64 0, .int .i64 0, .int .i64 0, .int .i64 0, .int .i64 0, .int .i64 0, .int .u32 0, .int .u32 0, .int .u32 0, .int .u32 0, .int .u32 0, .int .u32 0, .int .u32 0, .int .u32 0, .int .i64 0]
theorem al_H (w : World) : (Instr.alloc 97 true (.tuple #[])).run Tryz.prog w = .ok (.pointer (some ⟨w.heap.size, 0, none⟩)) (w.alloc (.cells heZ 97)) := by go_simp; rfl
theorem infoH : (Tryz.prog.info? 97).map (·.size) = some 19 := by kernel_rfl
def s0 (N : Nat) : Hs := ⟨List.replicate N n0, e0, 0⟩
def h0C (need : Int) (b N : Nat) : Array Value := #[.int .i64 need, .int .i64 0, .slice (some ⟨b, 0, none⟩) N N, .int .i64 0, .int .i64 0, .int .i64 0, .int .i64 0, .int .i64 0, .int .i64 0, .int .i64 0, .int .u32 0, .int .u32 0, .int .u32 0, .int .u32 0, .int .u32 0, .int .u32 0, .int .u32 0, .int .u32 0, .int .i64 0]
theorem h0C_eq (need : Int) (b N : Nat) : h0C need b N = heC need 0 b (s0 N).nds.length (s0 N).c (s0 N).la := by simp [h0C, heC, s0, e0, wd_zero]
theorem bld_H (need : Int) (b N : Nat) (w : World) : (Instr.build 97 #[(0, .int .i64 need), (2, .slice (some ⟨b, 0, none⟩) N N)]).run Tryz.prog w = .ok (.agg (h0C need b N)) w := by
  unfold h0C
  go_simp
theorem wpList_bld2 {P : Program} {ops : Array Oper} {rest : List Oper} {o : Oper} {a : Act} {w : World} {Q : Exit → Act → World → Prop} (hgd : o.guard = none) (t : TypeId) (k0 k1 : Nat) (x0 x1 : Operand) (ho : o.op = .build t #[(k0, x0), (k1, x1)]) (v0 v1 : Value) (h0 : a.eval x0 = v0) (h1 : a.eval x1 = v1) (v : Value) (hr : (Instr.build t #[(k0, v0), (k1, v1)]).run P w = .ok v w)
    (h : wpList P ops Q rest (a.put o.dst v) w) : wpList P ops Q (o :: rest) a w :=
  wpList_plain hgd fun K hK => by
    unfold Oper.wp execOp
    simp only [ho, h0, h1, List.map_toArray, List.map_cons, List.map_nil, Sem.run_bind, hr, Result.andThen_ok, Sem.run_pure, Oper.upon_value]
    exact hK _ _ h
theorem wpList_newT {P : Program} {ops : Array Oper} {rest : List Oper} {o : Oper} {a : Act} {w w' : World} {Q : Exit → Act → World → Prop} (hgd : o.guard = none) (t : TypeId) (ho : o.op = .alloc t) (v : Value) (hr : (Instr.alloc t true (.tuple #[])).run P w = .ok v w')
    (h : wpList P ops Q rest (a.put o.dst v) w') : wpList P ops Q (o :: rest) a w :=
  wpList_plain hgd fun K hK => by
    unfold Oper.wp execOp
    simp only [ho, Sem.run_bind, hr, Result.andThen_ok, Sem.run_pure, Oper.upon_value]
    exact hK _ _ h
/-- What Check answers. -/
def ckO (n f : Int) (l : List Ev) : Int × Int := if 1 ≤ n ∧ n ≤ 100 ∧ 0 ≤ f ∧ f < n then (match badAt (n - f) (s0 n.toNat) l 0 with | none => (0, 0) | some j => ((j : Int), 220)) else (0, 1)
theorem resC {tmps : Array Value} {W : World} {a b : Nat} {x y : Int} (h4 : tmps[6]?.getD undef = .pointer (some ⟨a, 0, none⟩)) (h5 : tmps[7]?.getD undef = .pointer (some ⟨b, 0, none⟩)) (hx : W.heap[a]? = some (.cells #[.int .i64 x] 3 (0, 0))) (hy : W.heap[b]? = some (.cells #[.int .i64 y] 26 (0, 0))) : (results Tryz.f16 tmps).run Tryz.prog W = .ok (.tuple #[.int .i64 x, .int .i64 y]) W := by
  have c1 := cell_at hx 0
  have c2 := cell_at hy 0
  simp at c1 c2
  simp [results, Tryz.results16, go_sem, h4, h5, c1, c2]
theorem RdE.carry {W V : World} {ad : Option Addr} {l : List Ev} (h : RdE W ad l) (hb : Below W.heap.size W V) : RdE V ad l := by
  refine ⟨fun hne => ?_, h.ok⟩
  obtain ⟨bb, oo, h1, h2, h3⟩ := h.at' hne
  exact ⟨bb, oo, h1, Nat.lt_of_lt_of_le h2 hb.size, fun k x hx i v hv => (hb.cell (p := ⟨bb, _, none⟩) h2).trans (h3 k x hx i v hv)⟩
set_option maxHeartbeats 4000000 in
set_option maxRecDepth 100000 in
theorem check_any (n f : Int) (ad : Option Addr) (cap : Nat) (l : List Ev) (w : World) (hl : RdE w ad l) (hlen : l.length ≤ 1000000) : Calls Tryz.prog 16 #[.int .i64 n, .int .i64 f, .slice ad l.length cap] w fun e w' => e = .returned (.tuple #[.int .i64 (ckO n f l).1, .int .i64 (ckO n f l).2]) ∧ Below w.heap.size w w' := by
  have hmf := hmf
  have hsz := isSize_any n
  by_cases ha : 1 ≤ n ∧ n ≤ 100 ∧ 0 ≤ f ∧ f < n
  case neg =>
    have hck : ckO n f l = (0, 1) := if_neg ha
    rw [hck]
    clear hck
    by_cases h1 : 1 ≤ n ∧ n ≤ 100
    case neg =>
      rw [decide_eq_false h1] at hsz
      clear h1 ha hl
      go_enter_defers Tryz.func16, Tryz.ntmps16
      go_wp2_with (go_at_call 17; (with_reducible refine (hsz _).mono ?_); rintro e u ⟨rfl, hu⟩; rw [hu]; clear hu u)
      exact ⟨_, resC rfl rfl (old_at (new_at rfl)) (new_at (by simp)), rfl, ((Below.refl _ w).alloc (Nat.le_refl _) _).alloc (by simp) _⟩
    rw [decide_eq_true h1] at hsz
    by_cases h2 : f < 0
    case pos =>
      clear h1 ha hl
      go_enter_defers Tryz.func16, Tryz.ntmps16
      go_wp2_with (go_at_call 17; (with_reducible refine (hsz _).mono ?_); rintro e u ⟨rfl, hu⟩; rw [hu]; clear hu u)
      exact ⟨_, resC rfl rfl (old_at (new_at rfl)) (new_at (by simp)), rfl, ((Below.refl _ w).alloc (Nat.le_refl _) _).alloc (by simp) _⟩
    have h3 : n ≤ f := by omega
    clear h1 ha hl
    go_enter_defers Tryz.func16, Tryz.ntmps16
    go_wp2_with (go_at_call 17; (with_reducible refine (hsz _).mono ?_); rintro e u ⟨rfl, hu⟩; rw [hu]; clear hu u)
    exact ⟨_, resC rfl rfl (old_at (new_at rfl)) (new_at (by simp)), rfl, ((Below.refl _ w).alloc (Nat.le_refl _) _).alloc (by simp) _⟩
  obtain ⟨N, rfl⟩ := Int.eq_ofNat_of_zero_le (show 0 ≤ n by omega)
  have hN : N ≤ 100 := by omega
  have hsz1 : decide (1 ≤ (N : Int) ∧ (N : Int) ≤ 100) = true := decide_eq_true ⟨ha.1, ha.2.1⟩
  rw [hsz1] at hsz
  have hf1 : ¬ f < 0 := by omega
  have hf2 : ¬ (N : Int) ≤ f := by omega
  have hck : ckO (N : Int) f l = match badAt ((N : Int) - f) (s0 N) l 0 with | none => (0, 0) | some j => ((j : Int), 220) := by unfold ckO; rw [if_pos ha, Int.toNat_natCast]
  have HCK : Hid (ckO (N : Int) f l = match badAt ((N : Int) - f) (s0 N) l 0 with | none => (0, 0) | some j => ((j : Int), 220)) := hck
  clear hck
  have hmk := mk_nodes N hN
  generalize hM0 : ((List.replicate N n0).flatMap nc).toArray = M0 at hmk
  -- the blocks
  obtain ⟨U, hU⟩ : ∃ U, ((w.alloc (.cells #[.int .i64 0] 3)).alloc (.cells #[.int .i64 0] 26)).alloc (.cells M0 147) = U := ⟨_, rfl⟩
  have gA : U.heap[w.heap.size]? = some (.cells #[.int .i64 0] 3 (0, 0)) := by rw [← hU]; exact old_at (old_at (new_at rfl))
  have gE : U.heap[w.heap.size + 1]? = some (.cells #[.int .i64 0] 26 (0, 0)) := by rw [← hU]; exact old_at (new_at (by simp))
  have gN : U.heap[w.heap.size + 1 + 1]? = some (.cells M0 147 (0, 0)) := by rw [← hU]; exact new_at (by simp)
  have bU : Below w.heap.size w U := by rw [← hU]; exact (((Below.refl _ w).alloc (Nat.le_refl _) _).alloc (by simp) _).alloc (by simp; omega) _
  have sU : U.heap.size = w.heap.size + 1 + 1 + 1 := by rw [← hU]; simp
  obtain ⟨U1, hU1⟩ : ∃ V, U.alloc (.cells heZ 97) = V := ⟨_, rfl⟩
  have hal : (Instr.alloc 97 true (.tuple #[])).run Tryz.prog U = .ok (.pointer (some ⟨w.heap.size + 1 + 1 + 1, 0, none⟩)) U1 := by rw [al_H, hU1, sU]
  have gH : U1.heap[w.heap.size + 1 + 1 + 1]? = some (.cells heZ 97 (0, 0)) := by rw [← hU1]; exact new_at sU.symm
  have b1 : Below U.heap.size U U1 := by rw [← hU1]; exact al1' _ _
  obtain ⟨need, hneed⟩ : ∃ need, (N : Int) - f = need := ⟨_, rfl⟩
  have hmk2 : (Instr.makeSlice 93 (.int .i64 (N : Int)) (.int .i64 (N : Int))).run Tryz.prog ((w.alloc (.cells #[.int .i64 0] 3)).alloc (.cells #[.int .i64 0] 26)) = .ok (.slice (some ⟨w.heap.size + 1 + 1, 0, none⟩) N N) U := by rw [hmk, hU]; simp
  obtain ⟨U2, hU2⟩ : ∃ V, U1.setRow (w.heap.size + 1 + 1 + 1) (h0C need (w.heap.size + 1 + 1) N) = V := ⟨_, rfl⟩
  have hH : He U2 (w.heap.size + 1 + 1 + 1) (w.heap.size + 1 + 1) need 0 (s0 N) := by
    refine ⟨?_, ?_, by omega⟩
    · rw [← hU2, ← h0C_eq]
      exact setRow_heap _ _ _ _ _ _ gH
    · rw [← hU2, Go.setRow_other _ _ _ _ (by omega), b1.block _ (by omega), gN, ← hM0]
      rfl
  have b2 : Below w.heap.size w U2 := by
    rw [← hU2]
    have b3 := bU.trans (b1.mono bU.size)
    exact ⟨b3.os, b3.tape, b3.output, by simpa [World.setRow] using b3.size, fun k hk => (Go.setRow_other _ _ _ _ (by omega)).trans (b3.block k hk)⟩
  have gA2 : U2.heap[w.heap.size]? = some (.cells #[.int .i64 0] 3 (0, 0)) := by rw [← hU2, Go.setRow_other _ _ _ _ (by omega), b1.block _ (by omega)]; exact gA
  have gE2 : U2.heap[w.heap.size + 1]? = some (.cells #[.int .i64 0] 26 (0, 0)) := by rw [← hU2, Go.setRow_other _ _ _ _ (by omega), b1.block _ (by omega)]; exact gE
  have hhi := history_any hH (by simp [s0, e0]) ad cap l (hl.carry b2) (fun hne bb oo e => by
    obtain ⟨b', o', q1, q2, _⟩ := hl.at' hne
    rw [q1] at e
    cases e
    exact ⟨by omega, by omega⟩) hlen
  have HAL : Hid ((Instr.alloc 97 true (.tuple #[])).run Tryz.prog U = .ok (.pointer (some ⟨w.heap.size + 1 + 1 + 1, 0, none⟩)) U1) := hal
  have HGH : Hid (U1.heap[w.heap.size + 1 + 1 + 1]? = some (.cells heZ 97 (0, 0))) := gH
  have HU2 : Hid (U1.setRow (w.heap.size + 1 + 1 + 1) (h0C need (w.heap.size + 1 + 1) N) = U2) := hU2
  have HNd : Hid ((N : Int) - f = need) := hneed
  have HBl : Hid (Below w.heap.size w U2) := b2
  have HA2 : Hid (U2.heap[w.heap.size]? = some (.cells #[.int .i64 0] 3 (0, 0))) := gA2
  have HE2 : Hid (U2.heap[w.heap.size + 1]? = some (.cells #[.int .i64 0] 26 (0, 0))) := gE2
  have HH2 : Hid (He U2 (w.heap.size + 1 + 1 + 1) (w.heap.size + 1 + 1) need 0 (s0 N)) := hH
  clear gA gE gN bU sU b1 b2 gA2 gE2 hH hM0 hU1 hl ha hlen hmk hU hal gH hU2
  have hkp : ∀ u1, Tn (w.heap.size + 1 + 1 + 1) (some (w.heap.size + 1 + 1)) (some (w.heap.size + 1 + 1)) U2 u1 → u1.heap[w.heap.size]? = some (.cells #[.int .i64 0] 3 (0, 0)) ∧ u1.heap[w.heap.size + 1]? = some (.cells #[.int .i64 0] 26 (0, 0)) := fun u1 ht =>
    ⟨(ht.block _ (lt_at HA2.out) (by omega) (by simp; omega)).trans HA2.out, (ht.block _ (lt_at HE2.out) (by omega) (by simp)).trans HE2.out⟩
  have HBu : ∀ u1, Tn (w.heap.size + 1 + 1 + 1) (some (w.heap.size + 1 + 1)) (some (w.heap.size + 1 + 1)) U2 u1 → Below w.heap.size w u1 := fun u1 ht => HBl.out.trans (ht.below (by omega) (fun b e => by cases e; omega) HBl.out.size)
  cases hB : badAt need (s0 N) l 0 with
  | none =>
    rw [hB] at hhi
    rw [HNd.out, hB] at HCK
    clear hB
    go_enter_defers Tryz.func16, Tryz.ntmps16
    go_wp2_with (first | (go_at_call 17; (with_reducible refine (hsz _).mono ?_); rintro e u ⟨rfl, hu⟩; rw [hu]; clear hu u) | (refine wpList_bld2 rfl 97 0 2 (.tmp 24) (.tmp 26) rfl (.int .i64 need) (.slice (some ⟨w.heap.size + 1 + 1, 0, none⟩) N N) rfl rfl _ (bld_H need (w.heap.size + 1 + 1) N U) ?_) | (refine wpList_newT rfl 97 rfl _ HAL.out ?_) | (refine wpList_store_row rfl 97 (.tmp 8) (.tmp 27) rfl (w.heap.size + 1 + 1 + 1) (h0C need (w.heap.size + 1 + 1) N) rfl rfl 97 _ HGH.out infoH rfl (by simp [h0C, Value.oneCell']) ?_; rw [HU2.out]) | (go_at_call 72; refine hhi.mono ?_; rintro e u1 ⟨rfl, ht⟩; obtain ⟨g1, g2⟩ := hkp u1 ht; have k1 : u1.cell? ⟨w.heap.size, 0, none⟩ = some (.int .i64 0) := (cell_at g1 0).trans rfl; have k2 : u1.cell? ⟨w.heap.size + 1, 0, none⟩ = some (.int .i64 0) := (cell_at g2 0).trans rfl; have z1 := thaw_at g1 0; have z2 := thaw_at g2 0))
    refine leaves_cons (f := 71) (args := #[.pointer (some ⟨w.heap.size, 0, none⟩), .pointer (some ⟨w.heap.size + 1, 0, none⟩)]) (by simp) (by simp [go_sem]) ?_
    refine (cidle w.heap.size (w.heap.size + 1) _).mono ?_
    rintro e u' w'' ⟨rfl, rfl, rfl⟩
    have hA4 : ((u1.setCell ⟨w.heap.size, 0, none⟩ (.int .i64 0)).setCell ⟨w.heap.size + 1, 0, none⟩ (.int .i64 0)).heap[w.heap.size]? = some (.cells #[.int .i64 0] 3 (0, 0)) := by
      rw [Below.heap_setCell _ _ _ _ (by simp)]
      exact (set_get 0 _ g1).trans (by simp)
    have hB4 : ((u1.setCell ⟨w.heap.size, 0, none⟩ (.int .i64 0)).setCell ⟨w.heap.size + 1, 0, none⟩ (.int .i64 0)).heap[w.heap.size + 1]? = some (.cells #[.int .i64 0] 26 (0, 0)) :=
      (set_get 0 _ ((Below.heap_setCell u1 ⟨w.heap.size, 0, none⟩ (.int .i64 0) (w.heap.size + 1) (by simp)).trans g2)).trans (by simp)
    refine ⟨_, resC rfl rfl (old_at hA4) (old_at hB4), by rw [HCK.out], ?_⟩
    have hb5 := ((HBu u1 ht).setCell (p := ⟨w.heap.size, 0, none⟩) (Nat.le_refl _) (.int .i64 0)).setCell (p := ⟨w.heap.size + 1, 0, none⟩) (Nat.le_succ _) (.int .i64 0)
    exact hb5.alloc hb5.size _
  | some j =>
    rw [hB] at hhi
    rw [HNd.out, hB] at HCK
    clear hB
    go_enter_defers Tryz.func16, Tryz.ntmps16
    go_wp2_with (first | (go_at_call 17; (with_reducible refine (hsz _).mono ?_); rintro e u ⟨rfl, hu⟩; rw [hu]; clear hu u) | (refine wpList_bld2 rfl 97 0 2 (.tmp 24) (.tmp 26) rfl (.int .i64 need) (.slice (some ⟨w.heap.size + 1 + 1, 0, none⟩) N N) rfl rfl _ (bld_H need (w.heap.size + 1 + 1) N U) ?_) | (refine wpList_newT rfl 97 rfl _ HAL.out ?_) | (refine wpList_store_row rfl 97 (.tmp 8) (.tmp 27) rfl (w.heap.size + 1 + 1 + 1) (h0C need (w.heap.size + 1 + 1) N) rfl rfl 97 _ HGH.out infoH rfl (by simp [h0C, Value.oneCell']) ?_; rw [HU2.out]) | (go_at_call 72; refine hhi.mono ?_; rintro e u1 ⟨rfl, ht⟩; obtain ⟨g1, g2⟩ := hkp u1 ht))
    refine leaves_cons (f := 71) (args := #[.pointer (some ⟨w.heap.size, 0, none⟩), .pointer (some ⟨w.heap.size + 1, 0, none⟩)]) (by simp) (by simp [go_sem]) ?_
    refine (ccatch w.heap.size (w.heap.size + 1) 0 0 (j : Int) u1 g1 g2 (by omega)).mono ?_
    rintro e u' w'' ⟨rfl, rfl, rfl⟩
    have n1 := old_at (o := .cells #[.int .i64 (j : Int)] 91) g1
    have n2 := old_at (o := .cells #[.int .i64 (j : Int)] 91) g2
    have hA4 : (((u1.alloc (.cells #[.int .i64 (j : Int)] 91)).setCell ⟨w.heap.size, 0, none⟩ (.int .i64 (j : Int))).setCell ⟨w.heap.size + 1, 0, none⟩ (.int .i64 220)).heap[w.heap.size]? = some (.cells #[.int .i64 (j : Int)] 3 (0, 0)) := by
      rw [Below.heap_setCell _ _ _ _ (by simp)]
      exact (set_get 0 _ n1).trans (by simp)
    have hB4 : (((u1.alloc (.cells #[.int .i64 (j : Int)] 91)).setCell ⟨w.heap.size, 0, none⟩ (.int .i64 (j : Int))).setCell ⟨w.heap.size + 1, 0, none⟩ (.int .i64 220)).heap[w.heap.size + 1]? = some (.cells #[.int .i64 220] 26 (0, 0)) :=
      (set_get 0 _ ((Below.heap_setCell _ ⟨w.heap.size, 0, none⟩ (.int .i64 (j : Int)) (w.heap.size + 1) (by simp)).trans n2)).trans (by simp)
    refine ⟨_, resC rfl rfl hA4 hB4, by rw [HCK.out], ?_⟩
    have hb4 := HBu u1 ht
    exact ((hb4.alloc hb4.size _).setCell (p := ⟨w.heap.size, 0, none⟩) (Nat.le_refl _) _).setCell (p := ⟨w.heap.size + 1, 0, none⟩) (Nat.le_succ _) _
end Go.Proofs.YtgnhainfcfcodaaGreat
