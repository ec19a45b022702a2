/- word.Lines: what it answers. -/
import Derived.Test.YtngjjcmoekeciaaGreatDoorVlb
import Derived.Test.YtngjjcmoekeciaaGreatDoorCln
namespace Go.Proofs.YtngjjcmoekeciaaGreatDoor
open Go.RowKit Go.Shelf

theorem run_store_in {P : Program} (w : World) (g o : Nat) (t ty : TypeId) (cur vs : List Value) (hg : w.heap[g]? = some (.cells cur.toArray t (0, 0))) (hi : (P.info? ty).map (·.size) = some vs.length) (hf : o + vs.length ≤ cur.length) (h1 : ∀ v ∈ vs, v.oneCell' = true) :
    (Instr.storeAt ty (.pointer (some ⟨g, o, none⟩)) (.agg vs.toArray)).run P w = .ok () (w.setRow g (splice cur o vs).toArray) := by
  have := run_storeCells_at P g o t vs 0 cur.toArray w hg (by simpa using hf) h1
  cases hq : P.info? ty with
  | none => simp [hq] at hi
  | some i =>
    have hs : vs.length = i.size := by simp [hq] at hi; omega
    simp only [Nat.add_zero] at this
    simp [Instr.storeAt, Instr.sureAddr, storeVar, sizeOf, typeInfo, hq, Value.cells, hs, this, splice]
theorem wpList_store_in {P : Program} {ops : Array Oper} {rest : List Oper} {o : Oper} {a : Act} {w : World} {Q : Exit → Act → World → Prop} (hgd : o.guard = none) (ty : TypeId) (x y : Operand) (ho : o.op = .store ty x y)
    (g off : Nat) (t : TypeId) (cur vs : List Value) (hx : a.eval x = .pointer (some ⟨g, off, none⟩)) (hy : a.eval y = .agg vs.toArray) (hg : w.heap[g]? = some (.cells cur.toArray t (0, 0))) (hi : (P.info? ty).map (·.size) = some vs.length) (hf : off + vs.length ≤ cur.length) (h1 : ∀ v ∈ vs, v.oneCell' = true)
    (h : wpList P ops Q rest (a.put o.dst undef) (w.setRow g (splice cur off vs).toArray)) : wpList P ops Q (o :: rest) a w :=
  wpList_plain hgd fun K hK => by
    unfold Oper.wp execOp
    simp only [ho, hx, hy, Sem.run_bind, run_store_in w g off t ty cur vs hg hi hf h1, Result.andThen_ok]
    exact hK _ _ h
theorem below_sr {n b : Nat} {w W : World} {cs : Array Value} (h : Below n w W) (hn : n ≤ b) : Below n w (W.setRow b cs) :=
  h.trans ⟨rfl, rfl, rfl, by simp [World.setRow], fun k hk => by simp [World.setRow, Array.getElem?_modify, show b ≠ k by omega]⟩
def zq : Fq := (0, ByteArray.empty, 0, 0)
/-- The copy while it is made. -/
def mq (l : List Fq) (k : Nat) : List Fq := l.take k ++ List.replicate (l.length - k) zq
theorem mq_len (l : List Fq) (k : Nat) (h : k ≤ l.length) : (mq l k).length = l.length := by simp [mq]; omega
theorem mq_full (l : List Fq) : mq l l.length = l := by simp [mq]
theorem mq_zero (l : List Fq) : mq l 0 = List.replicate l.length zq := by simp [mq]
theorem mq_set (l : List Fq) (k : Nat) (x : Fq) (h : l[k]? = some x) : splice (cq (mq l k)) (k * 4) (cq1 x) = cq (mq l (k + 1)) := by
  have hk := (List.getElem?_eq_some_iff.1 h).1
  have e1 : mq l k = l.take k ++ (zq :: List.replicate (l.length - (k + 1)) zq) := by
    rw [mq, show l.length - k = (l.length - (k + 1)) + 1 by omega, List.replicate_succ]
  have e2 : mq l (k + 1) = l.take k ++ (x :: List.replicate (l.length - (k + 1)) zq) := by
    rw [mq, List.take_add_one, h]
    simp
  have e3 : (cq (l.take k)).length = k * 4 := by rw [cq_len]; simp; omega
  rw [e1, e2, cq_append, cq_append, splice, ← e3, List.take_left, List.drop_append]
  simp [cq, cq1]
theorem cq_rep : ∀ N : Nat, cq (List.replicate N zq) = (List.replicate N (cq1 zq)).flatten
  | 0 => rfl
  | N + 1 => by rw [List.replicate_succ, List.replicate_succ, cq_cons, cq_rep N]; rfl
theorem cq_rep_get (N j : Nat) (h : j < N * 4) : (cq (List.replicate N zq))[j]? = (cq1 zq)[j % 4]? := by
  induction N generalizing j with
  | zero => omega
  | succ N ih =>
    rw [List.replicate_succ, cq_cons]
    by_cases q : j < 4
    · match j, q with
      | 0, _ => rfl
      | 1, _ => rfl
      | 2, _ => rfl
      | 3, _ => rfl
    · obtain ⟨i, rfl⟩ : ∃ i, j = i + 4 := ⟨j - 4, by omega⟩
      have := ih i (by omega)
      rw [show (i + 4) % 4 = i % 4 by omega, ← this]
      rfl
theorem made4 (N : Nat) : madeCells (tq zq).cells (N * 4) = (cq (List.replicate N zq)).toArray := by
  apply Array.ext
  · rw [size_madeCells]; simp [cq_len]
  · intro j h1 h2
    have hj : j < N * 4 := by rw [size_madeCells] at h1; exact h1
    have hz : (tq zq).cells = #[Value.int .i64 0, Value.string ByteArray.empty, Value.int .i64 0, Value.int .i64 0] := rfl
    have hr := cq_rep_get N j hj
    rw [List.getElem?_eq_getElem (by simpa using h2)] at hr
    simp only [madeCells, hz, Array.getElem_map, Array.getElem_range, List.getElem_toArray]
    have h4 : j % 4 < 4 := Nat.mod_lt _ (by decide)
    show #[Value.int IntKind.i64 0, Value.string ByteArray.empty, Value.int IntKind.i64 0, Value.int IntKind.i64 0][j % 4]! = _
    revert hr
    match j % 4, h4 with
    | 0, _ => intro hr; exact (Option.some.inj hr).symm
    | 1, _ => intro hr; exact (Option.some.inj hr).symm
    | 2, _ => intro hr; exact (Option.some.inj hr).symm
    | 3, _ => intro hr; exact (Option.some.inj hr).symm
/-- The copy lies in its block. -/
structure Lo (w : World) (l : List Fq) (k : Nat) (V : World) : Prop where
  row : V.heap[w.heap.size]? = some (.cells (cq (mq l k)).toArray 50 (0, 0))
  bl : Below w.heap.size w V
/-- Where the i-th line begins. -/
def stt (L : List (List Fq)) (i : Nat) : Nat := ((L.take i).map fun d => d.length + 1).sum
theorem stt_app (L M : List (List Fq)) {i : Nat} (h : i ≤ L.length) : stt (L ++ M) i = stt L i := by
  unfold stt
  rw [List.take_append_of_le_length h]
theorem lns_stt (l : List Fq) : ∀ k, k ≤ l.length → stt (lns (l.take k)).1 (lns (l.take k)).1.length + (lns (l.take k)).2.length = k
  | 0, _ => by simp [lns, stt]
  | k + 1, h => by
    have ih := lns_stt l k (by omega)
    obtain ⟨y, hy⟩ : ∃ y, l[k]? = some y := ⟨_, List.getElem?_eq_getElem (by omega)⟩
    rw [lns_succ l k y hy]
    unfold lnF stt at *
    rw [List.take_length] at *
    split
    · simp only [List.map_append, List.sum_append, List.map_cons, List.map_nil, List.sum_cons, List.sum_nil, List.length_nil]
      omega
    · simp only [List.length_append, List.length_cons, List.length_nil]
      omega
/-- Lists out of the copy. -/
def Kq (w : World) (l : List Fq) (x : List Value) (L : List (List Fq)) : Prop := ∀ (i : Nat) (d : List Fq), L[i]? = some d → ∃ j, (x[i]? = some (.slice (some ⟨w.heap.size, if d.length = 0 then 0 else j * 4, none⟩) d.length d.length)) ∧ d = (l.drop j).take d.length ∧ d.length ≤ l.length ∧ j = stt L i ∧ j + d.length ≤ l.length
/-- While the lines are gathered. -/
structure Lg (w : World) (l : List Fq) (k : Nat) (o : Value) (x : List Value) (V : World) : Prop where
  row : V.heap[w.heap.size]? = some (.cells (cq l).toArray 50 (0, 0))
  out : V.ownsRow w.heap.size 39 1 o (lns (l.take k)).1.length x
  kept : Kq w l x (lns (l.take k)).1
  bl : Below w.heap.size w V
theorem row_tq {V : World} {g : Nat} {l : List Fq} (h : V.heap[g]? = some (.cells (cq l).toArray 50 (0, 0))) : TqAt V g 0 l := fun k x hk => by
  obtain ⟨c0, c1, c2, c3⟩ := cq_get l k x hk
  rw [Nat.zero_add]
  exact ⟨(cell_at h _).trans (by simpa using c0), (cell_at h _).trans (by simpa using c1), (cell_at h _).trans (by simpa using c2), (cell_at h _).trans (by simpa using c3)⟩
section
variable {w V V' : World} {l : List Fq} {k : Nat} {o : Value} {x : List Value}
theorem Lg.lx (h : Lg w l k o x V) : x.length = (lns (l.take k)).1.length := by have := h.out.1; omega
theorem Lg.carry (h : Lg w l k o x V) (hb : Below V.heap.size V V') : Lg w l k o x V' :=
  ⟨(hb.block _ (lt_at h.row)).trans h.row, row_below h.out hb, h.kept, bel2 h.bl hb⟩
theorem rw_of {L : List (List Fq)} (hr : V.heap[w.heap.size]? = some (.cells (cq l).toArray 50 (0, 0))) (hx : x.length = L.length) (h : Kq w l x L) (hl : l.length * 40 ≤ 140737488351232) : RwQ V x L := ⟨hx, fun i d hd => by
  obtain ⟨j, h1, h2, h3, _, _⟩ := h i d hd
  refine ⟨_, _, h1, fun hne => ⟨w.heap.size, j * 4, ?_, lt_at hr, ?_⟩, by omega⟩
  · rw [if_neg (fun e => hne (List.length_eq_zero_iff.1 e))]
  · have := (row_tq hr).sub j d.length
    rw [← h2, Nat.zero_add] at this
    exact this⟩
/-- The line that goes on, out of the copy. -/
def zl (w : World) (k C : Nat) : Value := .slice (some ⟨w.heap.size, if C = 0 then 0 else (k - C) * 4, none⟩) C C
theorem Lg.push (h : Lg w l k o x V) (hk : k ≤ l.length) {C : Nat} (hC : (lns (l.take k)).2.length = C) {o' : Value} (hg : V.grownBy V' o.ownBlock) (ho : V'.ownsRow w.heap.size 39 1 o' ((lns (l.take k)).1.length + 1) (x ++ [zl w k C])) : V'.heap[w.heap.size]? = some (.cells (cq l).toArray 50 (0, 0)) ∧ V'.ownsRow w.heap.size 39 1 o' ((lns (l.take k)).1 ++ [(lns (l.take k)).2]).length (x ++ [zl w k C]) ∧ Kq w l (x ++ [zl w k C]) ((lns (l.take k)).1 ++ [(lns (l.take k)).2]) ∧ Below w.heap.size w V' := by
  have hlx := h.lx
  have hs := lns_size l k hk
  refine ⟨(hg.block _ (lt_at h.row) (fun e => row_type h.out h.row (by decide) e.symm)).trans h.row, by rw [List.length_append]; exact ho, fun i d hd => ?_, h.bl.grown hg h.bl.size (fun q e => (row_lt2 h.out q e).1)⟩
  rcases get_snocQ _ _ i d hd with ⟨q1, q2⟩ | ⟨q1, rfl⟩
  · obtain ⟨j, h1, h2, h3, h4, h5⟩ := h.kept i d q2
    exact ⟨j, by rw [List.getElem?_append_left (by omega)]; exact h1, h2, h3, by rw [stt_app _ _ (by omega)]; exact h4, h5⟩
  · have hst := lns_stt l k hk
    refine ⟨k - C, by rw [q1, ← hlx, hC]; simp [zl], ?_, by omega, by rw [stt_app _ _ (by omega), q1]; omega, by omega⟩
    have h3 := hs.2.2
    rw [hC] at h3 ⊢
    rw [List.drop_take, show k - (k - C) = C by omega] at h3
    exact h3
theorem Lg.done (h : Lg w l k o x V) (hk : k < l.length) {y : Fq} (hy : l[k]? = some y) (h1 : y.1 = 1) {C : Nat} (hC : (lns (l.take k)).2.length = C) {o' : Value} (hg : V.grownBy V' o.ownBlock) (ho : V'.ownsRow w.heap.size 39 1 o' ((lns (l.take k)).1.length + 1) (x ++ [zl w k C])) : Lg w l (k + 1) o' (x ++ [zl w k C]) V' ∧ (lns (l.take (k + 1))).2.length = 0 := by
  obtain ⟨a, b, c, d⟩ := h.push (by omega) hC hg ho
  have e : lns (l.take (k + 1)) = ((lns (l.take k)).1 ++ [(lns (l.take k)).2], []) := by rw [lns_succ l k y hy, lnF, if_pos h1]
  exact ⟨⟨a, by rw [e]; exact b, by rw [e]; exact c, d⟩, by rw [e]; rfl⟩
theorem Lg.more (h : Lg w l k o x V) {y : Fq} (hy : l[k]? = some y) (h1 : y.1 ≠ 1) : Lg w l (k + 1) o x V ∧ (lns (l.take (k + 1))).2.length = (lns (l.take k)).2.length + 1 := by
  have e : lns (l.take (k + 1)) = ((lns (l.take k)).1, (lns (l.take k)).2 ++ [y]) := by rw [lns_succ l k y hy, lnF, if_neg h1]
  exact ⟨⟨h.row, by rw [e]; exact h.out, by rw [e]; exact h.kept, h.bl⟩, by rw [e]; simp⟩
end
/-- The lines, and where they lie. -/
def LnP (w : World) (l : List Fq) (e : Ending) (w' : World) : Prop := ∃ ao co x, e = .returned (.slice ao (outL l).length co) ∧ w'.ownsRow w.heap.size 39 1 (.slice ao (outL l).length co) (outL l).length x ∧ (x.length = (outL l).length ∧ Kq w l x (outL l) ∧ w'.heap[w.heap.size]? = some (.cells (cq l).toArray 50 (0, 0))) ∧ Below w.heap.size w w'
theorem info4 : (Tryz.prog.info? 50).map (·.size) = some 4 := by kernel_rfl
set_option maxHeartbeats 8000000 in
set_option maxRecDepth 100000 in
theorem lines_any (ad : Option Addr) (cap : Nat) (l : List Fq) (w : World) (hr : RdQ w ad l) (hl : l.length * 40 ≤ 140737488351232) (hs : ∀ (k : Nat) (x : Fq), l[k]? = some x → x.2.1.size ≤ 140737488351232) : Calls Tryz.prog 8 #[.slice ad l.length cap] w (LnP w l) := by
  obtain ⟨ic, hic, hz0, hz1, hz2⟩ := info_parts infoTq
  obtain ⟨ia, hia, hy0, hy1, hy2⟩ := info_parts infoLq
  have hmk : ∀ W : World, (Instr.makeSlice 39 (.int .i64 (l.length : Int)) (.int .i64 (l.length : Int))).run Tryz.prog W = .ok (.slice (some ⟨W.heap.size, 0, none⟩) l.length l.length) (W.alloc (.cells (cq (mq l 0)).toArray 50)) := by
    intro W
    have := run_make (P := Tryz.prog) W 39 50 ic _ Tryz.underlying39 hic hz0 .i64 .i64 (l.length : Int) (l.length : Int) (by omega) (Int.le_refl _) (by rw [hz2]; omega) (by omega)
    rw [Int.toNat_natCast, hz1] at this
    rw [mq_zero, ← made4]
    exact this
  obtain ⟨n, hn⟩ : ∃ n, l.length = n := ⟨_, rfl⟩
  generalize hM0 : (cq (mq l 0)).toArray = M0 at hmk
  have HM0 : Hid ((cq (mq l 0)).toArray = M0) := hM0
  rw [hn] at hmk ⊢
  have HN : Hid (l.length = n) := hn
  have hlim : n * 40 ≤ 140737488351232 := by rw [← hn]; exact hl
  clear hn hM0
  go_enter Tryz.func8, Tryz.ntmps8
  go_wp2
  go_loopw [15] (fun i wz => ∃ (k : Nat), i = .int .i64 (k : Int) ∧ k ≤ n ∧ Lo w l k wz) (fun i _ => n - vnatQ i)
  case atStart => exact ⟨0, rfl, Nat.zero_le _, by rw [HM0.out]; exact new_at rfl, al1' _ _⟩
  case round =>
    obtain ⟨k, rfl, hk, hL⟩ := hrel
    have HL : Hid (Lo w l k wr) := hL
    clear hL
    by_cases hkl : k < n
    · have hki : (k : Int) < (n : Int) := by omega
      obtain ⟨y, hy⟩ : ∃ y, l[k]? = some y := ⟨_, List.getElem?_eq_getElem (by rw [HN.out]; exact hkl)⟩
      have hne : l ≠ [] := fun e => by subst e; simp at hy
      obtain ⟨b, off, rfl, hbl, hat⟩ := hr hne
      have hat' := hat.carry (HL.out.bl.block _ hbl)
      obtain ⟨c0, c1, c2, c3⟩ := hat' k y hy
      have hbz := HL.out.bl.size
      have hys := hs k y hy
      have hlt : w.heap.size < wr.heap.size := lt_at HL.out.row
      have hin : k * 4 + 4 ≤ (cq (mq l k)).length := by rw [cq_len, mq_len l k (by rw [HN.out]; exact hk), HN.out]; omega
      have HIN : Hid (k * 4 + 4 ≤ (cq (mq l k)).length) := hin
      clear hin
      go_wp2_with (first | (go_at_call 17; refine (clone_any y.2.1 _ (by omega)).mono ?_; rintro e u ⟨rfl, hb⟩; have hbx : u.heap[wr.heap.size]? = some (.cells #[.int .i64 y.1, .string y.2.1, .int .i64 y.2.2.1, .int .i64 y.2.2.2] 50 (0, 0)) := (hb.block _ (by simp)).trans (new_at rfl); have x0 := cell_at hbx 0; have x1 := cell_at hbx 1; have x2 := cell_at hbx 2; have x3 := cell_at hbx 3; have xt := thaw_at hbx 1; have HU : Hid (Below w.heap.size w u ∧ u.heap[w.heap.size]? = some (.cells (cq (mq l k)).toArray 50 (0, 0))) := ⟨bel2 (bel2 HL.out.bl (al1' _ _)) hb, (hb.block _ (by simp; omega)).trans (old_at HL.out.row)⟩; have HG : Hid ((u.setCell ⟨wr.heap.size, 1, none⟩ (.string y.2.1)).heap[w.heap.size]? = some (.cells (cq (mq l k)).toArray 50 (0, 0))) := (Below.heap_setCell _ _ _ _ (Nat.ne_of_lt hlt)).trans HU.out.2; clear hbx; simp at x0 x1 x2 x3) | (refine wpList_store_in rfl 50 (.tmp 27) (.tmp 26) rfl w.heap.size (k * 4) 50 (cq (mq l k)) [.int .i64 y.1, .string y.2.1, .int .i64 y.2.2.1, .int .i64 y.2.2.2] rfl rfl HG.out info4 HIN.out (by simp [Value.oneCell']) ?_))
      go_roundw
      case rel =>
        refine ⟨k + 1, by simp, by omega, ?_, ?_⟩
        · have e := mq_set l k y hy
          unfold cq1 at e
          rw [e]
          exact setRow_heap _ _ _ _ _ _ HG.out
        · exact below_sr (HU.out.1.setCell hbz _) (Nat.le_refl _)
      case measure => simp [vnatQ]; omega
    · have hkk : k = n := by omega
      subst hkk
      have hki : ¬ ((k : Int) < (k : Int)) := by omega
      have hfull : mq l k = l := by have := mq_full l; rw [HN.out] at this; exact this
      have HR : Hid (wr.heap[w.heap.size]? = some (.cells (cq l).toArray 50 (0, 0))) := by have := HL.out.row; rw [hfull] at this; exact this
      have HB : Hid (Below w.heap.size w wr) := HL.out.bl
      clear HL hfull
      go_wp2
      go_loopw [6, 7, 31] (fun o bg i wz => ∃ (m C : Nat) (x : List Value), i = .int .i64 (m : Int) ∧ bg = .int .i64 ((m - C : Nat) : Int) ∧ C ≤ m ∧ m ≤ k ∧ (lns (l.take m)).2.length = C ∧ Lg w l m o x wz) (fun _ _ i _ => k - vnatQ i)
      case atStart => exact ⟨0, 0, [], rfl, rfl, Nat.le_refl _, Nat.zero_le _, rfl, HR.out, World.ownsRow_nil _ _ _ _, fun i d hd => by simp [lns] at hd, HB.out⟩
      case round =>
        obtain ⟨m, C, x, rfl, rfl, hCm, hm, hC, hG⟩ := hrel
        obtain ⟨B, hB⟩ : ∃ B, m - C = B := ⟨_, rfl⟩
        rw [hB]
        have HmB : Hid (m = B + C) := by exact (by omega : m = B + C)
        have hCk : C ≤ k := by omega
        have hBm : (B : Int) ≤ (m : Int) := by omega
        have hmi : (m : Int) ≤ (k : Int) := by omega
        obtain ⟨ao, co, eo⟩ := row_slice hG.out
        subst eo
        obtain ⟨D, hD⟩ : ∃ D, (lns (l.take m)).1.length = D := ⟨_, rfl⟩
        have HC : Hid ((lns (l.take m)).2.length = C) := hC
        have HD : Hid ((lns (l.take m)).1.length = D) := hD
        have hDm : D ≤ m := by rw [← hD]; exact (lns_size l m (by rw [HN.out]; exact hm)).2.1
        rw [hD] at hG ⊢
        have HG : Hid (Lg w l m (.slice ao D co) x wr) := hG
        clear hG hD hC hB
        have hout : wr.ownsRow w.heap.size 39 1 (.slice ao D co) D x := by have := HG.out.out; rw [HD.out] at this; exact this
        have hbz := HG.out.bl.size
        have hlt : w.heap.size < wr.heap.size := lt_at HG.out.row
        by_cases hmk2 : m < k
        · have hki2 : (m : Int) < (k : Int) := by omega
          obtain ⟨y, hy⟩ : ∃ y, l[m]? = some y := ⟨_, List.getElem?_eq_getElem (by rw [HN.out]; exact hmk2)⟩
          obtain ⟨c0, c1, c2, c3⟩ := row_tq HG.out.row m y hy
          simp only [Nat.zero_add] at c0 c1 c2 c3
          by_cases h1 : y.1 = 1
          · have HY1 : Hid (y.1 = 1) := h1
            by_cases hC0 : C = 0
            · obtain rfl : B = m := by have := HmB.out; omega
              subst hC0
              clear hCm hBm
              have HZ : Hid (zl w B 0 = .slice (some ⟨w.heap.size, 0, none⟩) 0 0) := by exact (rfl : zl w B 0 = .slice (some ⟨w.heap.size, 0, none⟩) 0 0)
              go_wp2_with (at_builtin; refine wpList_append_own_at _ rfl _ _ 27 rfl w.heap.size 39 ia _ 1 24 Tryz.underlying27 hia hy0 hy1 hy2 rfl (by decide) _ D x rfl (row_below (row_below hout (al1' _ _)) (al1' _ _)) ⟨wr.heap.size + 1, 0, none⟩ 1 1 [.slice (some ⟨w.heap.size, 0, none⟩) 0 0] rfl rfl (by have := new_src (W := wr.alloc (.cells #[.int .i64 1, .string y.2.1, .int .i64 y.2.2.1, .int .i64 y.2.2.2] 50)) #[.slice (some ⟨w.heap.size, 0, none⟩) 0 0] 39; simpa using this) (by simp [Value.oneCell']) (by unfold maxLen; omega) (by omega) (by simp; omega) ?_; intro v2 u2 ho2 hg2 _ _; have HX : Hid (Lg w l (B + 1) v2 (x ++ [zl w B 0]) u2 ∧ (lns (l.take (B + 1))).2.length = 0) := (Lg.carry (Lg.carry HG.out (al1' wr (.cells #[.int .i64 1, .string y.2.1, .int .i64 y.2.2.1, .int .i64 y.2.2.2] 50))) (al1' _ (.cells #[.slice (some ⟨w.heap.size, 0, none⟩) 0 0] 39))).done (by rw [HN.out]; exact hmk2) hy HY1.out HC.out hg2 (by rw [HD.out, HZ.out]; exact ho2); clear ho2 hg2)
              go_roundw
              case rel => exact ⟨B + 1, 0, _, by simp, by simp, Nat.zero_le _, by omega, HX.out.2, HX.out.1⟩
              case measure => simp [vnatQ]; omega
            · have hne : ¬ (m = B) := by have := HmB.out; omega
              have HZ : Hid (zl w m C = .slice (some ⟨w.heap.size, B * 4, none⟩) (m - B) (m - B)) := by
                have e := HmB.out
                have e1 : m - C = B := by omega
                have e2 : m - B = C := by omega
                have : zl w m C = .slice (some ⟨w.heap.size, B * 4, none⟩) (m - B) (m - B) := by rw [zl, if_neg hC0, e1, e2]
                exact this
              go_wp2_with (at_builtin; refine wpList_append_own_at _ rfl _ _ 27 rfl w.heap.size 39 ia _ 1 24 Tryz.underlying27 hia hy0 hy1 hy2 rfl (by decide) _ D x rfl (row_below (row_below hout (al1' _ _)) (al1' _ _)) ⟨wr.heap.size + 1, 0, none⟩ 1 1 [.slice (some ⟨w.heap.size, B * 4, none⟩) (m - B) (m - B)] rfl rfl (by have := new_src (W := wr.alloc (.cells #[.int .i64 1, .string y.2.1, .int .i64 y.2.2.1, .int .i64 y.2.2.2] 50)) #[.slice (some ⟨w.heap.size, B * 4, none⟩) (m - B) (m - B)] 39; simpa using this) (by simp [Value.oneCell']) (by unfold maxLen; omega) (by omega) (by simp; omega) ?_; intro v2 u2 ho2 hg2 _ _; have HX : Hid (Lg w l (m + 1) v2 (x ++ [zl w m C]) u2 ∧ (lns (l.take (m + 1))).2.length = 0) := (Lg.carry (Lg.carry HG.out (al1' wr (.cells #[.int .i64 1, .string y.2.1, .int .i64 y.2.2.1, .int .i64 y.2.2.2] 50))) (al1' _ (.cells #[.slice (some ⟨w.heap.size, B * 4, none⟩) (m - B) (m - B)] 39))).done (by rw [HN.out]; exact hmk2) hy HY1.out HC.out hg2 (by rw [HD.out, HZ.out]; exact ho2); clear ho2 hg2)
              go_roundw
              case rel => exact ⟨m + 1, 0, _, by simp, by simp, Nat.zero_le _, by omega, HX.out.2, HX.out.1⟩
              case measure => simp [vnatQ]; omega
          · go_wp2
            go_roundw
            case rel =>
              obtain ⟨p1, p2⟩ := (HG.out.carry (al1' wr (.cells #[.int .i64 y.1, .string y.2.1, .int .i64 y.2.2.1, .int .i64 y.2.2.2] 50))).more hy h1
              refine ⟨m + 1, C + 1, x, by simp, ?_, by omega, by omega, by rw [p2, HC.out], p1⟩
              have := HmB.out
              simp
              omega
            case measure => simp [vnatQ]; omega
        · obtain rfl : m = k := by omega
          have hki2 : ¬ ((m : Int) < (m : Int)) := by omega
          have htk : l.take m = l := List.take_of_length_le (by rw [HN.out]; exact Nat.le_refl _)
          by_cases hC0 : C = 0
          · obtain rfl : B = m := by have := HmB.out; omega
            subst hC0
            have hnil : (lns l).2 = [] := by have := HC.out; rw [htk] at this; exact List.length_eq_zero_iff.1 this
            have eo : outL l = (lns l).1 := by unfold outL; rw [if_pos hnil]
            clear hCm hBm
            go_wp2
            go_ret
            have hD := HD.out
            rw [htk] at hD
            have hlx := HG.out.lx
            have hkp := HG.out.kept
            rw [htk] at hlx hkp
            refine ⟨ao, co, x, ?_, ?_, ?_, HG.out.bl⟩
            · rw [eo, hD]
              rfl
            · rw [eo, hD]
              exact hout
            · rw [eo]
              exact ⟨hlx, hkp, HG.out.row⟩
          · have hne : ¬ (m = B) := by have := HmB.out; omega
            have hBi : (B : Int) < (m : Int) := by omega
            have hnil : ¬ (lns l).2 = [] := fun e => by have := HC.out; rw [htk, e] at this; simp at this; omega
            have eo : outL l = (lns l).1 ++ [(lns l).2] := by unfold outL; rw [if_neg hnil]
            have HZ : Hid (zl w m C = .slice (some ⟨w.heap.size, B * 4, none⟩) (m - B) (m - B)) := by
              have e := HmB.out
              have e1 : m - C = B := by omega
              have e2 : m - B = C := by omega
              have : zl w m C = .slice (some ⟨w.heap.size, B * 4, none⟩) (m - B) (m - B) := by rw [zl, if_neg hC0, e1, e2]
              exact this
            go_wp2_with (at_builtin; refine wpList_append_own_at _ rfl _ _ 27 rfl w.heap.size 39 ia _ 1 24 Tryz.underlying27 hia hy0 hy1 hy2 rfl (by decide) _ D x rfl (row_below hout (al1' _ _)) ⟨wr.heap.size, 0, none⟩ 1 1 [.slice (some ⟨w.heap.size, B * 4, none⟩) (m - B) (m - B)] rfl rfl (new_src #[.slice (some ⟨w.heap.size, B * 4, none⟩) (m - B) (m - B)] 39) (by simp [Value.oneCell']) (by unfold maxLen; omega) (by omega) (Nat.le_trans hbz (al1' _ _).size) ?_; intro v2 u2 ho2 hg2 _ _; obtain ⟨a2, c2, e2⟩ := row_slice ho2; subst e2; have HX : Hid _ := (HG.out.carry (al1' wr (.cells #[.slice (some ⟨w.heap.size, B * 4, none⟩) (m - B) (m - B)] 39))).push (by rw [HN.out]; exact Nat.le_refl _) HC.out hg2 (by rw [HD.out, HZ.out]; exact ho2))
            go_ret
            obtain ⟨p1, p2, p3, p4⟩ := HX.out
            rw [htk, ← eo] at p2 p3
            have hD := HD.out
            rw [htk] at hD
            have el : (outL l).length = D + 1 := by rw [eo]; simp [hD]
            refine ⟨a2, c2, _, ?_, ?_, ⟨by have := p2.1; omega, p3, p1⟩, p4⟩
            · rw [el]
              rfl
            · have := p2
              rw [el] at this ⊢
              exact this
end Go.Proofs.YtngjjcmoekeciaaGreatDoor
