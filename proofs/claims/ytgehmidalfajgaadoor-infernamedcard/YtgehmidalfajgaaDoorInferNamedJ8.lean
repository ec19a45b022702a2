/- A tally in a world; its small calls: what they answer. -/
import Derived.Test.YtgehmidalfajgaaDoorInferNamedJ7
import Derived.Test.YtgehmidalfajgaaDoorRgn
namespace Go.Proofs.YtgehmidalfajgaaDoor
open Go.RowKit Go.Shelf

def ob (ad : Option Addr) : Option Nat := ad.map (·.block)
theorem ob_eq (ad : Option Addr) (n c : Nat) : (Value.slice ad n c).ownBlock = ob ad := by cases ad <;> rfl
theorem infoS : (Tryd.prog.info? 27).map (·.size) = some 4 := by kernel_rfl
theorem below_row {w0 w : World} {n b : Nat} (h : Below n w0 w) (hb : n ≤ b) (cs : Array Value) : Below n w0 (w.setRow b cs) :=
  ⟨h.os, h.tape, h.output, by simpa using h.size, fun k hk => (setRow_other _ _ _ _ (by omega)).trans (h.block k hk)⟩
def taC (t : Tl) (S : Value) : Array Value := #[.int .i64 t.n, .int .i64 t.need, .int .i64 t.ro, .int .u32 (wd t.reps 0 : Nat), .int .u32 (wd t.reps 1 : Nat), .int .u32 (wd t.reps 2 : Nat), .int .u32 (wd t.reps 3 : Nat), S]
/-- A tally: its block q, its list. -/
structure Ta (W : World) (base q : Nat) (ad : Option Addr) (cap : Nat) (t : Tl) : Prop where
  qb : base ≤ q
  obj : W.heap[q]? = some (.cells (taC t (.slice ad t.hs.length cap)) 67 (0, 0))
  row : W.ownsRow base 27 4 (.slice ad t.hs.length cap) t.hs.length (fs t.hs)
section
variable {W V : World} {base q : Nat} {ad : Option Addr} {cap : Nat} {t : Tl}
theorem Ta.lt (h : Ta W base q ad cap t) : q < W.heap.size := lt_at h.obj
theorem Ta.carry (h : Ta W base q ad cap t) (hb : Below W.heap.size W V) : Ta V base q ad cap t := ⟨h.qb, (hb.block _ h.lt).trans h.obj, row_below h.row hb⟩
theorem Ta.ne (h : Ta W base q ad cap t) : ob ad ≠ some q := fun e => row_type h.row h.obj (by decide) (by rw [ob_eq]; exact e)
theorem Ta.blk (h : Ta W base q ad cap t) {b : Nat} (e : ob ad = some b) : base ≤ b ∧ ∃ cur, W.heap[b]? = some (.cells cur 27 (0, 0)) := rowBlk h.row b (by rw [ob_eq]; exact e)
theorem Ta.cells (h : Ta W base q ad cap t) : W.cell? ⟨q, 0, none⟩ = some (.int .i64 t.n) ∧ W.cell? ⟨q, 1, none⟩ = some (.int .i64 t.need) ∧ W.cell? ⟨q, 2, none⟩ = some (.int .i64 t.ro) ∧ W.cell? ⟨q, 3, none⟩ = some (.int .u32 (wd t.reps 0 : Nat)) ∧ W.cell? ⟨q, 4, none⟩ = some (.int .u32 (wd t.reps 1 : Nat)) ∧ W.cell? ⟨q, 5, none⟩ = some (.int .u32 (wd t.reps 2 : Nat)) ∧ W.cell? ⟨q, 6, none⟩ = some (.int .u32 (wd t.reps 3 : Nat)) ∧ W.cell? ⟨q, 7, none⟩ = some (.slice ad t.hs.length cap) :=
  ⟨cell_at h.obj 0, cell_at h.obj 1, cell_at h.obj 2, cell_at h.obj 3, cell_at h.obj 4, cell_at h.obj 5, cell_at h.obj 6, cell_at h.obj 7⟩
/-- A block that is no tally's abides. -/
theorem Ta.stays (h : Ta W base q ad cap t) {g' : Option Nat} (ht : Tn q (ob ad) g' W V) {k : Nat} {cur : Array Value} {ty : TypeId} {z : Nat × Nat} (hk : W.heap[k]? = some (.cells cur ty z)) (h1 : ty ≠ 67) (h2 : ty ≠ 27) : V.heap[k]? = some (.cells cur ty z) := by
  refine (ht.block k (lt_at hk) (fun e => ?_) (fun e => ?_)).trans hk
  · subst e
    have := hk.symm.trans h.obj
    simp only [Option.some.injEq, Obj.cells.injEq] at this
    exact h1 this.2.1
  · obtain ⟨_, cur', h3⟩ := h.blk e.symm
    have := hk.symm.trans h3
    simp only [Option.some.injEq, Obj.cells.injEq] at this
    exact h2 this.2.1
theorem Ta.below (h : Ta W base q ad cap t) {g' : Option Nat} (ht : Tn q (ob ad) g' W V) : Below base W V := ht.below h.qb (fun _ e => (h.blk e).1) (Nat.le_trans h.qb (Nat.le_of_lt h.lt))
theorem isNode_any (id n : Int) (w : World) : Calls Tryd.prog 30 #[.int .i64 id, .int .i64 n] w fun e w' => e = .returned (.bool (isN id n)) ∧ w' = w := by
  go_enter Tryd.func30, Tryd.ntmps30
  go_wp2
  all_goals
    go_ret
    refine ⟨ret_bool ?_, rfl⟩
    unfold isN
    first
    | (have h : 0 ≤ id := by omega
       simp [h])
    | (have h : ¬ 0 ≤ id := by omega
       simp [h])
set_option maxHeartbeats 1000000 in
theorem kept_any (h : Ta W base q ad cap t) : Calls Tryd.prog 62 #[.pointer (some ⟨q, 0, none⟩)] W fun e w' => e = .returned (.slice ad t.hs.length cap) ∧ w' = W := by
  obtain ⟨_, _, _, _, _, _, _, c7⟩ := h.cells
  go_enter Tryd.func62, Tryd.ntmps62
  go_wp2
  go_ret
  exact ⟨rfl, rfl⟩
set_option maxHeartbeats 1000000 in
theorem need_any (h : Ta W base q ad cap t) : Calls Tryd.prog 35 #[.pointer (some ⟨q, 0, none⟩)] W fun e w' => e = .returned (.int .i64 t.need) ∧ w' = W := by
  obtain ⟨_, c1, _⟩ := h.cells
  go_enter Tryd.func35, Tryd.ntmps35
  go_wp2
  go_ret
  exact ⟨rfl, rfl⟩
set_option maxHeartbeats 1000000 in
theorem have_any (h : Ta W base q ad cap t) : Calls Tryd.prog 36 #[.pointer (some ⟨q, 0, none⟩)] W fun e w' => e = .returned (.int .i64 (t.hs.length : Int)) ∧ w' = W := by
  have hk := kept_any h
  go_enter Tryd.func36, Tryd.ntmps36
  go_wp2_with (go_at_call 62; (with_reducible refine hk.mono ?_); rintro e u ⟨rfl, hu⟩; obtain rfl := hu.symm)
  go_ret
  exact ⟨rfl, rfl⟩
set_option maxHeartbeats 1000000 in
theorem ready_any (h : Ta W base q ad cap t) : Calls Tryd.prog 11 #[.pointer (some ⟨q, 0, none⟩)] W fun e w' => e = .returned (.bool (rdy t)) ∧ w' = W := by
  have hn := need_any h
  have hh := have_any h
  go_enter Tryd.func11, Tryd.ntmps11
  go_wp2_with (first | (go_at_call 35; (with_reducible refine hn.mono ?_); rintro e u ⟨rfl, hu⟩; obtain rfl := hu.symm) | (go_at_call 36; (with_reducible refine hh.mono ?_); rintro e u ⟨rfl, hu⟩; obtain rfl := hu.symm))
  all_goals
    go_ret
    refine ⟨ret_bool ?_, rfl⟩
    unfold rdy
    first
    | (have h : 0 < t.need := by omega
       simp [h]
       rfl)
    | (have h : ¬ 0 < t.need := by omega
       simp [h])
set_option maxHeartbeats 1000000 in
set_option maxRecDepth 100000 in
theorem reps_any (h : Ta W base q ad cap t) : Calls Tryd.prog 41 #[.pointer (some ⟨q, 0, none⟩)] W fun e w' => e = .returned (sv t.reps) ∧ Below W.heap.size W w' := by
  obtain ⟨w1, hw1⟩ : ∃ w1, W.alloc (.cells #[.int .u32 0, .int .u32 0, .int .u32 0, .int .u32 0] 27) = w1 := ⟨_, rfl⟩
  have hb1 : Below W.heap.size W w1 := by rw [← hw1]; exact al1' _ _
  have g1 : Holds4 w1 W.heap.size (fun _ => 0) := by rw [← hw1]; exact new_at rfl
  obtain ⟨_, _, _, c3, c4, c5, c6, _⟩ := (h.carry hb1).cells
  obtain ⟨y0, y1, y2, y3, z0, z1, z2, z3⟩ := g1.facts
  have G1 : Hid (Holds4 w1 W.heap.size (fun _ => 0)) := g1
  clear g1
  go_enter Tryd.func41, Tryd.ntmps41
  go_wp2
  exact ret4 rfl rfl rfl (fin4 G1.out _) ⟨rfl, below4 hb1 (Nat.le_refl _) _⟩
set_option maxHeartbeats 1000000 in
set_option maxRecDepth 100000 in
theorem twith_any (h : Ta W base q ad cap t) (id : Int) : Calls Tryd.prog 57 #[.pointer (some ⟨q, 0, none⟩), .int .i64 id] W fun e w' => e = .returned (sv (wthN t.reps id)) ∧ Below W.heap.size W w' := by
  have hwi := with_any t.reps id
  obtain ⟨E, hV⟩ : ∃ E : Int, withV t.reps id = .tuple #[sv (wthN t.reps id), .int .i64 E] := by
    unfold withV wthN
    split
    · exact ⟨0, rfl⟩
    · exact ⟨30, rfl⟩
  rw [hV] at hwi
  clear hV
  generalize wthN t.reps id = M at *
  obtain ⟨w1, hw1⟩ : ∃ w1, W.alloc (.cells #[.int .u32 0, .int .u32 0, .int .u32 0, .int .u32 0] 27) = w1 := ⟨_, rfl⟩
  have hb1 : Below W.heap.size W w1 := by rw [← hw1]; exact al1' _ _
  have hs1 : W.heap.size < w1.heap.size := by rw [← hw1]; simp
  have g1 : Holds4 w1 W.heap.size (fun _ => 0) := by rw [← hw1]; exact new_at rfl
  obtain ⟨_, _, _, c3, c4, c5, c6, _⟩ := (h.carry hb1).cells
  simp only [sv] at hwi ⊢
  go_enter Tryd.func57, Tryd.ntmps57
  go_wp2_with (first
    | (go_at_call 25; refine (hwi _).mono ?_; rintro e u ⟨rfl, hb⟩; obtain ⟨w2, hw2⟩ : ∃ w2, u.alloc (.cells #[.int .u32 0, .int .u32 0, .int .u32 0, .int .u32 0] 27) = w2 := ⟨_, rfl⟩; have hb2 : Hid (Below W.heap.size W w2) := (by rw [← hw2]; exact bel2 (bel2 hb1 hb) (al1' _ _)); have g2 : Hid (Holds4 w2 W.heap.size (fun _ => 0)) := (by rw [← hw2]; exact old_at (g1.carry hb)); have g3 : Hid (Holds4 w2 u.heap.size (fun _ => 0)) := (by rw [← hw2]; exact new_at rfl); have hs2 : Hid (W.heap.size < u.heap.size) := Nat.lt_of_lt_of_le hs1 hb.size)
    | (refine wpList_store_row rfl 27 (.tmp 5) (.tmp 14) rfl u.heap.size (cells4 (wd M)) rfl rfl 27 _ g3.out infoS rfl (by simp [cells4, Value.oneCell']) ?_; obtain ⟨w3, hw3⟩ : ∃ v, w2.setRow u.heap.size (cells4 (wd M)) = v := ⟨_, rfl⟩; have g4 : Hid (Holds4 w3 u.heap.size (wd M)) := (by rw [← hw3]; exact setRow_heap _ _ _ _ _ _ g3.out); have g5 : Hid (Holds4 w3 W.heap.size (fun _ => 0)) := (by rw [← hw3]; exact (setRow_other _ _ _ _ (Nat.ne_of_lt hs2.out)).trans g2.out); have hb3 : Hid (Below W.heap.size W w3) := (by rw [← hw3]; exact below_row hb2.out (Nat.le_of_lt hs2.out) _); rw [hw3])
    | (refine wpList_load_row rfl 27 (.tmp 5) rfl u.heap.size rfl 27 _ (0, 0) _ g4.out Tryd.underlying27 rfl infoS ?_)
    | (refine wpList_store_row rfl 27 (.tmp 4) (.tmp 16) rfl W.heap.size (cells4 (wd M)) rfl rfl 27 _ g5.out infoS rfl (by simp [cells4, Value.oneCell']) ?_; obtain ⟨w4, hw4⟩ : ∃ v, w3.setRow W.heap.size (cells4 (wd M)) = v := ⟨_, rfl⟩; have g6 : Hid (Holds4 w4 W.heap.size (wd M)) := (by rw [← hw4]; exact setRow_heap _ _ _ _ _ _ g5.out); have hb4 : Hid (Below W.heap.size W w4) := (by rw [← hw4]; exact below_row hb3.out (Nat.le_refl _) _); rw [hw4]))
  exact ret4 rfl rfl rfl g6.out ⟨rfl, hb4.out⟩
end
end Go.Proofs.YtgehmidalfajgaaDoor
namespace Go.Proofs.YtgehmidalfajgaaDoor
open Go.RowKit Go.Shelf

/-- Sets put together, one behind the other. -/
def unis (H : Nat) (l : List Nat) : Nat := l.foldl (fun a b => cln (a ||| b)) H
theorem unis_nil (H : Nat) : unis H [] = H := rfl
theorem unis_cons (H x : Nat) (l : List Nat) : unis H (x :: l) = unis (cln (H ||| x)) l := rfl
theorem unis_append (H : Nat) (a b : List Nat) : unis H (a ++ b) = unis (unis H a) b := List.foldl_append
theorem unis_succ (H : Nat) (l : List Nat) (k x : Nat) (h : l[k]? = some x) : unis H (l.take (k + 1)) = cln (unis H (l.take k) ||| x) := by
  have e : l.take (k + 1) = l.take k ++ [x] := by rw [List.take_add_one, h]; rfl
  rw [e, unis_append]
  rfl
theorem unis_lt {H : Nat} (hH : H < S100) (l : List Nat) : unis H l < S100 := by
  induction l generalizing H with
  | nil => exact hH
  | cons x l ih => exact ih (cln_lt _)
theorem unis_bit {H : Nat} (hH : H < S100) (l : List Nat) (i : Nat) : (unis H l).testBit i = (H.testBit i || (decide (i < 100) && l.any (fun x => x.testBit i))) := by
  induction l generalizing H with
  | nil => simp [unis]
  | cons x l ih =>
    rw [unis_cons, ih (cln_lt _), testBit_cln]
    have h : H.testBit i = true → i < 100 := fun e => by
      rcases Nat.lt_or_ge i 100 with q | q
      · exact q
      · have hx : H < 2 ^ i := Nat.lt_of_lt_of_le (show H < 2 ^ 100 from hH) (Nat.pow_le_pow_right (by decide) q)
        rw [Nat.testBit_lt_two_pow hx] at e
        cases e
    rw [Nat.testBit_or, List.any_cons]
    cases h1 : H.testBit i <;> cases h2 : decide (i < 100) <;> simp_all
set_option maxHeartbeats 2000000 in
set_option maxRecDepth 100000 in
theorem fold_any (ad : Option Addr) (cap : Nat) (l : List Nat) (H : Nat) (w : World) (h : RdS w ad l) (hl : l.length ≤ 4611686018427387904) :
    Calls Tryd.prog 39 #[.slice ad l.length cap, sv H, .func (.func 23) #[] #[]] w fun e w' => e = .returned (sv (unis H l)) ∧ Below w.heap.size w w' := by
  obtain ⟨w1, hw1⟩ : ∃ w1, w.alloc (.cells #[.int .u32 (wd H 0 : Nat), .int .u32 (wd H 1 : Nat), .int .u32 (wd H 2 : Nat), .int .u32 (wd H 3 : Nat)] 27) = w1 := ⟨_, rfl⟩
  obtain ⟨w2, hw2⟩ : ∃ w2, w1.alloc (.cells #[.int .u32 0, .int .u32 0, .int .u32 0, .int .u32 0] 27) = w2 := ⟨_, rfl⟩
  have hb1 : Below w.heap.size w w1 := by rw [← hw1]; exact al1' _ _
  have hb2 : Below w.heap.size w w2 := by rw [← hw2]; exact bel2 hb1 (al1' _ _)
  have hs1 : w1.heap.size = w.heap.size + 1 := by rw [← hw1]; simp
  have hs2 : w2.heap.size = w.heap.size + 2 := by rw [← hw2]; simp [hs1]
  have g1 : Holds4 w2 w.heap.size (wd H) := by rw [← hw2]; exact old_at (by rw [← hw1]; exact new_at rfl)
  have g2 : Holds4 w2 (w.heap.size + 1) (fun _ => 0) := by rw [← hw2]; rw [← hs1]; exact new_at rfl
  have hu := union_any
  obtain ⟨R, hR⟩ : ∃ R, unis H l = R := ⟨_, rfl⟩
  rw [hR]
  simp only [sv] at hu ⊢
  go_enter Tryd.func39, Tryd.ntmps39
  go_wp2
  go_loopw [11] (fun c wz => ∃ k : Nat, c = .int .i64 k ∧ k ≤ l.length ∧ Holds4 wz w.heap.size (wd (unis H (l.take k))) ∧ Holds4 wz (w.heap.size + 1) (fun _ => 0) ∧ Below w.heap.size w wz) (fun c _ => l.length - vnat c)
  case atStart => exact ⟨0, rfl, Nat.zero_le _, g1, g2, hb2⟩
  case round =>
    obtain ⟨k, rfl, hk, q1, q2, hbw⟩ := hrel
    by_cases hkl : k < l.length
    · have hki : (k : Int) < (l.length : Int) := by omega
      have hne : l ≠ [] := fun e => by subst e; simp at hkl
      obtain ⟨b, off, rfl, hgl, hat⟩ := h hne
      obtain ⟨x, hx⟩ : ∃ x, l[k]? = some x := ⟨_, List.getElem?_eq_getElem hkl⟩
      have hix := idx_s b off l.length cap k hkl
      obtain ⟨c0, c1, c2, c3⟩ := (hat.carry (hbw.block _ hgl)) k x hx
      have hes := unis_succ H l k x hx
      generalize unis H (l.take k) = M at *
      obtain ⟨M2, hM2⟩ : ∃ M2, unis H (l.take (k + 1)) = M2 := ⟨_, rfl⟩
      have HM2 : Hid (unis H (l.take (k + 1)) = M2) := hM2
      rw [hM2] at hes
      clear hM2
      obtain ⟨w3, hw3⟩ : ∃ w3, wr.alloc (.cells #[.int .u32 0, .int .u32 0, .int .u32 0, .int .u32 0] 27) = w3 := ⟨_, rfl⟩
      have hz : (w.heap.size + 1) < wr.heap.size := q2.lt
      have g3 : Hid (Holds4 w3 wr.heap.size (fun _ => 0)) := by rw [← hw3]; exact new_at rfl
      have g4 : Hid (Holds4 w3 w.heap.size (wd M)) := by rw [← hw3]; exact old_at q1
      have g5 : Hid (Holds4 w3 (w.heap.size + 1) (fun _ => 0)) := by rw [← hw3]; exact old_at q2
      have hb3 : Hid (Below w.heap.size w w3) := by rw [← hw3]; exact hbw.trans ((al1' _ _).mono hbw.size)
      have hhu := hu M x
      rw [← hes] at hhu
      clear hes
      go_wp2_with (first
        | (refine wpList_store_row rfl 27 (.tmp 8) (.tmp 14) rfl wr.heap.size (cells4 (wd x)) rfl rfl 27 _ g3.out infoS rfl (by simp [cells4, Value.oneCell']) ?_; obtain ⟨w4, hw4⟩ : ∃ v, w3.setRow wr.heap.size (cells4 (wd x)) = v := ⟨_, rfl⟩; have k1 : Hid (Holds4 w4 wr.heap.size (wd x)) := (by rw [← hw4]; exact setRow_heap _ _ _ _ _ _ g3.out); have k2 : Hid (Holds4 w4 w.heap.size (wd M)) := (by rw [← hw4]; exact (setRow_other _ _ _ _ (by omega)).trans g4.out); have k3 : Hid (Holds4 w4 (w.heap.size + 1) (fun _ => 0)) := (by rw [← hw4]; exact (setRow_other _ _ _ _ (by omega)).trans g5.out); have k4 : Hid (Below w.heap.size w w4) := (by rw [← hw4]; exact below_row hb3.out (by omega) _); rw [hw4])
        | (refine wpList_load_row rfl 27 (.tmp 4) rfl w.heap.size rfl 27 _ (0, 0) _ k2.out Tryd.underlying27 rfl infoS ?_)
        | (refine wpList_load_row rfl 27 (.tmp 8) rfl wr.heap.size rfl 27 _ (0, 0) _ k1.out Tryd.underlying27 rfl infoS ?_)
        | (go_at_call 23; refine (hhu _).mono ?_; rintro e u ⟨rfl, hb⟩; have j2 := k2.out.carry hb; have j3 := k3.out.carry hb; have j4 := k4.out.trans (hb.mono k4.out.size))
        | (refine wpList_store_row rfl 27 (.tmp 4) (.tmp 18) rfl w.heap.size (cells4 (wd M2)) rfl rfl 27 _ j2 infoS rfl (by simp [cells4, Value.oneCell']) ?_))
      go_roundw
      case rel => exact ⟨k + 1, by simp, by omega, by rw [HM2.out]; exact setRow_heap _ _ _ _ _ _ j2, (setRow_other _ _ _ _ (by omega)).trans j3, below_row j4 (Nat.le_refl _) _⟩
      case measure => simp [vnat]; omega
    · have hkk : k = l.length := by omega
      subst hkk
      rw [List.take_length, hR] at q1
      have hki : ¬ ((l.length : Int) < (l.length : Int)) := by omega
      go_wp2_with (first
        | (refine wpList_load_row rfl 27 (.tmp 4) rfl w.heap.size rfl 27 _ (0, 0) _ q1 Tryd.underlying27 rfl infoS ?_)
        | (refine wpList_store_row rfl 27 (.tmp 6) (.tmp 20) rfl (w.heap.size + 1) (cells4 (wd R)) rfl rfl 27 _ q2 infoS rfl (by simp [cells4, Value.oneCell']) ?_; obtain ⟨w4, hw4⟩ : ∃ v, wr.setRow (w.heap.size + 1) (cells4 (wd R)) = v := ⟨_, rfl⟩; have g6 : Hid (Holds4 w4 (w.heap.size + 1) (wd R)) := (by rw [← hw4]; exact setRow_heap _ _ _ _ _ _ q2); have hb4 : Hid (Below w.heap.size w w4) := (by rw [← hw4]; exact below_row hbw (by omega) _); rw [hw4]))
      exact ret4 rfl rfl rfl g6.out ⟨rfl, hb4.out⟩
set_option maxHeartbeats 1000000 in
set_option maxRecDepth 100000 in
theorem iunion_any (ad : Option Addr) (cap : Nat) (l : List Nat) (w : World) (h : RdS w ad l) (hl : l.length ≤ 4611686018427387904) :
    Calls Tryd.prog 26 #[.slice ad l.length cap] w fun e w' => e = .returned (sv (unis 0 l)) ∧ Below w.heap.size w w' := by
  obtain ⟨w1, hw1⟩ : ∃ w1, w.alloc (.cells #[.int .u32 0, .int .u32 0, .int .u32 0, .int .u32 0] 27) = w1 := ⟨_, rfl⟩
  have hb1 : Below w.heap.size w w1 := by rw [← hw1]; exact al1' _ _
  have g1 : Hid (Holds4 w1 w.heap.size (fun _ => 0)) := by rw [← hw1]; exact new_at rfl
  have hf := fold_any ad cap l 0 w1 (h.carry hb1) hl
  have e0 : sv 0 = .agg #[.int .u32 0, .int .u32 0, .int .u32 0, .int .u32 0] := by kernel_rfl
  rw [e0] at hf
  generalize unis 0 l = M at *
  simp only [sv] at hf ⊢
  go_enter Tryd.func26, Tryd.ntmps26
  go_wp2_with (first
    | (go_at_call 39; (with_reducible refine hf.mono ?_); rintro e u ⟨rfl, hb⟩; have g2 := g1.out.carry hb; have hb2 := bel2 hb1 hb)
    | (refine wpList_store_row rfl 27 (.tmp 2) (.tmp 5) rfl w.heap.size (cells4 (wd M)) rfl rfl 27 _ g2 infoS rfl (by simp [cells4, Value.oneCell']) ?_; obtain ⟨w4, hw4⟩ : ∃ v, u.setRow w.heap.size (cells4 (wd M)) = v := ⟨_, rfl⟩; have g6 : Hid (Holds4 w4 w.heap.size (wd M)) := (by rw [← hw4]; exact setRow_heap _ _ _ _ _ _ g2); have hb4 : Hid (Below w.heap.size w w4) := (by rw [← hw4]; exact below_row hb2 (Nat.le_refl _) _); rw [hw4]))
  exact ret4 rfl rfl rfl g6.out ⟨rfl, hb4.out⟩
end Go.Proofs.YtgehmidalfajgaaDoor
namespace Go.Proofs.YtgehmidalfajgaaDoor
open Go.RowKit Go.Shelf

theorem load_i64 {W : World} {B o : Nat} {x : Int} (h : W.cell? ⟨B, o, none⟩ = some (.int .i64 x)) : (Instr.loadAt 3 (.pointer (some ⟨B, o, none⟩))).run Tryd.prog W = .ok (.int .i64 x) W := by go_simp
theorem load_tp {W : World} {B o q : Nat} (h : W.cell? ⟨B, o, none⟩ = some (.pointer (some ⟨q, 0, none⟩))) : (Instr.loadAt 31 (.pointer (some ⟨B, o, none⟩))).run Tryd.prog W = .ok (.pointer (some ⟨q, 0, none⟩)) W := by go_simp
theorem load_ts {W : World} {base q : Nat} {ad : Option Addr} {cap : Nat} {t : Tl} (h : Ta W base q ad cap t) : (Instr.loadAt 27 (.pointer (some ⟨q, 3, none⟩))).run Tryd.prog W = .ok (sv t.reps) W := by
  obtain ⟨_, _, _, c3, c4, c5, c6, _⟩ := h.cells
  unfold sv
  go_simp
theorem field_t0 (W : World) (q : Nat) : (Instr.fieldAt 67 (.pointer (some ⟨q, 0, none⟩)) 0).run Tryd.prog W = .ok (.pointer (some ⟨q, 0, none⟩)) W := by go_simp
theorem field_t2 (W : World) (q : Nat) : (Instr.fieldAt 67 (.pointer (some ⟨q, 0, none⟩)) 2).run Tryd.prog W = .ok (.pointer (some ⟨q, 2, none⟩)) W := by go_simp
theorem field_t3 (W : World) (q : Nat) : (Instr.fieldAt 67 (.pointer (some ⟨q, 0, none⟩)) 3).run Tryd.prog W = .ok (.pointer (some ⟨q, 3, none⟩)) W := by go_simp
theorem field_t4 (W : World) (q : Nat) : (Instr.fieldAt 67 (.pointer (some ⟨q, 0, none⟩)) 4).run Tryd.prog W = .ok (.pointer (some ⟨q, 7, none⟩)) W := by go_simp
theorem un_not (b : Bool) (W : World) : (Op.unary .not (.bool b)).run Tryd.prog W = .ok (.bool (!b)) W := by go_simp
theorem bin_ne64 {x y : Operand} (a b : Int) (w : World) : binRun Tryd.prog .neq 3 x y (.int .i64 a) (.int .i64 b) w = .ok (.bool (decide (a ≠ b))) w := by
  unfold binRun
  go_simp
  by_cases h : a = b <;> simp [h]
/-- The boxes that the fates look at. -/
structure Fx (W : World) (k q : Nat) (f r : Int) (N : Nat) : Prop where
  tb : W.heap[k]? = some (.cells #[.pointer (some ⟨q, 0, none⟩)] 31 (0, 0))
  fb : W.heap[k + 1]? = some (.cells #[.int .i64 f] 3 (0, 0))
  rb : W.heap[k + 1 + 1]? = some (.cells #[.int .i64 r] 3 (0, 0))
  hb : Holds4 W (k + 1 + 1 + 1) (wd N)
theorem Fx.carry {W V : World} {k q : Nat} {f r : Int} {N : Nat} (h : Fx W k q f r N) (hb : Below W.heap.size W V) : Fx V k q f r N :=
  ⟨(hb.block _ (lt_at h.tb)).trans h.tb, (hb.block _ (lt_at h.fb)).trans h.fb, (hb.block _ (lt_at h.rb)).trans h.rb, h.hb.carry hb⟩
def ftC (k q : Nat) : Array Value := #[.int .i64 5, .int .i64 0, .func (.func 58) #[] #[.pointer (some ⟨k + 1, 0, none⟩), .pointer (some ⟨k, 0, none⟩)],
  .int .i64 0, .int .i64 74, .func (.func 59) #[] #[.pointer (some ⟨k + 1 + 1 + 1, 0, none⟩), .pointer (some ⟨k, 0, none⟩)],
  .int .i64 2, .int .i64 0, .func (.func 60) #[] #[.pointer (some ⟨k + 1 + 1, 0, none⟩), .pointer (some ⟨k, 0, none⟩)],
  .int .i64 3, .int .i64 0, .func (.func 61) #[] #[.pointer (some ⟨k, 0, none⟩), .pointer (some ⟨k + 1, 0, none⟩)],
  .int .i64 4, .int .i64 0, .func (.func 11) #[.pointer (some ⟨q, 0, none⟩)] #[]]
set_option maxHeartbeats 4000000 in
set_option maxRecDepth 100000 in
theorem fates_any (q : Nat) (f r : Int) (N : Nat) (W : World) : Calls Tryd.prog 33 #[.pointer (some ⟨q, 0, none⟩), .int .i64 f, .int .i64 r, sv N] W fun e w' => ∃ k, e = .returned (.slice (some ⟨k + 1 + 1 + 1 + 1, 0, none⟩) 5 5) ∧ Fx w' k q f r N ∧ w'.heap[k + 1 + 1 + 1 + 1]? = some (.cells (ftC k q) 72 (0, 0)) ∧ Below W.heap.size W w' := by
  simp only [sv]
  go_enter Tryd.func33, Tryd.ntmps33
  go_wp2
  go_ret
  refine ⟨W.heap.size, rfl, ⟨?_, ?_, ?_, ?_⟩, ?_, ?_⟩
  · exact old_at (old_at (old_at (old_at (new_at rfl))))
  · exact old_at (old_at (old_at (new_at (by simp))))
  · exact old_at (old_at (new_at (by simp)))
  · exact old_at (new_at (by simp))
  · exact new_at (by simp)
  · exact bel2 (bel2 (bel2 (bel2 (al1' _ _) (al1' _ _)) (al1' _ _)) (al1' _ _)) (al1' _ _)
section
variable {w : World} {base q k : Nat} {ad : Option Addr} {cap : Nat} {t : Tl} {f r : Int} {N : Nat}
set_option maxHeartbeats 4000000 in
set_option maxRecDepth 100000 in
theorem fate1_any (h : Ta w base q ad cap t) (hx : Fx w k q f r N) : Calls Tryd.prog 58 #[.pointer (some ⟨k + 1, 0, none⟩), .pointer (some ⟨k, 0, none⟩)] w fun e w' => e = .returned (.bool (!isN f t.n)) ∧ Below w.heap.size w w' := by
  have hmx : Tryd.prog.follows .mixedOrders = true := by kernel_rfl
  go_enter Tryd.func58, Tryd.ntmps58
  go_wp2
  rename_i hK
  refine wp_region_any hmx ?_
  refine wpAny_pure (fun i__ => ([(.int .i64 f), (.pointer (some ⟨q, 0, none⟩)), (.pointer (some ⟨q, 0, none⟩)), (.pointer (some ⟨q, 0, none⟩)), (.int .i64 t.n), (.bool (isN f t.n)), (.bool (!isN f t.n)), (.bool (!isN f t.n))] : List Value).getD i__ undef) (fun V => Below w.heap.size w V) (by kernel_rfl) (Below.refl _ _).drew ?_ ?_
  · refine (stepsFrom_cons ?_ (stepsFrom_cons ?_ (stepsFrom_cons ?_ (stepsFrom_cons ?_ (stepsFrom_cons ?_ (stepsFrom_cons ?_ (stepsFrom_cons ?_ (stepsFrom_cons ?_ trivial))))))))
    · exact step_load rfl trivial _ _ _ rfl rfl (fun v hw => load_i64 (by rw [cell_at (hx.carry hw).fb]; rfl))
    · exact step_load rfl trivial _ _ _ rfl rfl (fun v hw => load_tp (by rw [cell_at (hx.carry hw).tb]; rfl))
    · exact step_nilCheck rfl trivial _ _ _ rfl rfl rfl
    · exact step_fieldAddr rfl trivial _ _ _ _ rfl rfl (fun v hw => field_t0 v _)
    · exact step_load rfl trivial _ _ _ rfl rfl (fun v hw => load_i64 (h.carry hw).cells.1)
    · exact step_call rfl trivial 30 _ _ [(.int .i64 f), (.int .i64 t.n)] rfl (by kernel_rfl) (enters_of Tryd.func30 (by kernel_rfl) rfl) (fun v hw => (isNode_any f t.n v).mono (by rintro e w' ⟨rfl, rfl⟩; exact ⟨rfl, hw⟩))
    · exact step_unOp rfl trivial _ _ _ _ rfl rfl (fun v hw => un_not _ v)
    · exact step_assign rfl trivial _ rfl (by kernel_rfl) (fun _ h => h)
  intro W hW
  first | refine hK _ _ ?_ | refine (‹∀ (a : Act) (w : World), Code.wp Tryd.prog _ _ a w → _›) _ _ ?_
  simp only [finL, List.getD_cons_zero, List.getD_cons_succ, Nat.zero_add, Nat.reduceAdd, List.setIfInBounds_toArray, List.set_cons_zero, List.set_cons_succ]
  clear hK
  go_wp2
  go_ret
  exact ⟨rfl, hW⟩
set_option maxHeartbeats 4000000 in
set_option maxRecDepth 100000 in
theorem fate2_any (h : Ta w base q ad cap t) (hx : Fx w k q f r N) (hN : N < S128) : Calls Tryd.prog 59 #[.pointer (some ⟨k + 1 + 1 + 1, 0, none⟩), .pointer (some ⟨k, 0, none⟩)] w fun e w' => e = .returned (.bool (!wthB N t.n)) ∧ Below w.heap.size w w' := by
  have hmx : Tryd.prog.follows .mixedOrders = true := by kernel_rfl
  go_enter Tryd.func59, Tryd.ntmps59
  go_wp2
  rename_i hK
  refine wp_region_any hmx ?_
  refine wpAny_pure (fun i__ => ([(sv N), (.pointer (some ⟨q, 0, none⟩)), (.pointer (some ⟨q, 0, none⟩)), (.pointer (some ⟨q, 0, none⟩)), (.int .i64 t.n), (.bool (wthB N t.n)), (.bool (!wthB N t.n)), (.bool (!wthB N t.n))] : List Value).getD i__ undef) (fun V => Below w.heap.size w V) (by kernel_rfl) (Below.refl _ _).drew ?_ ?_
  · refine (stepsFrom_cons ?_ (stepsFrom_cons ?_ (stepsFrom_cons ?_ (stepsFrom_cons ?_ (stepsFrom_cons ?_ (stepsFrom_cons ?_ (stepsFrom_cons ?_ (stepsFrom_cons ?_ trivial))))))))
    · exact step_load rfl trivial _ _ _ rfl rfl (fun v hw => whole4 v _ N (hx.carry hw).hb)
    · exact step_load rfl trivial _ _ _ rfl rfl (fun v hw => load_tp (by rw [cell_at (hx.carry hw).tb]; rfl))
    · exact step_nilCheck rfl trivial _ _ _ rfl rfl rfl
    · exact step_fieldAddr rfl trivial _ _ _ _ rfl rfl (fun v hw => field_t0 v _)
    · exact step_load rfl trivial _ _ _ rfl rfl (fun v hw => load_i64 (h.carry hw).cells.1)
    · exact step_call rfl trivial 31 _ _ [(sv N), (.int .i64 t.n)] rfl (by kernel_rfl) (enters_of Tryd.func31 (by kernel_rfl) rfl) (fun v hw => (within_any N hN t.n v).mono (by rintro e w' ⟨rfl, hb⟩; exact ⟨rfl, bel2 hw hb⟩))
    · exact step_unOp rfl trivial _ _ _ _ rfl rfl (fun v hw => un_not _ v)
    · exact step_assign rfl trivial _ rfl (by kernel_rfl) (fun _ h => h)
  intro W hW
  first | refine hK _ _ ?_ | refine (‹∀ (a : Act) (w : World), Code.wp Tryd.prog _ _ a w → _›) _ _ ?_
  simp only [finL, List.getD_cons_zero, List.getD_cons_succ, Nat.zero_add, Nat.reduceAdd, List.setIfInBounds_toArray, List.set_cons_zero, List.set_cons_succ]
  clear hK
  go_wp2
  go_ret
  exact ⟨rfl, hW⟩
set_option maxHeartbeats 4000000 in
set_option maxRecDepth 100000 in
theorem fate3_any (h : Ta w base q ad cap t) (hx : Fx w k q f r N) : Calls Tryd.prog 60 #[.pointer (some ⟨k + 1 + 1, 0, none⟩), .pointer (some ⟨k, 0, none⟩)] w fun e w' => e = .returned (.bool (decide (r ≠ t.ro))) ∧ Below w.heap.size w w' := by
  have hmx : Tryd.prog.follows .mixedOrders = true := by kernel_rfl
  go_enter Tryd.func60, Tryd.ntmps60
  go_wp2
  rename_i hK
  refine wp_region_any hmx ?_
  refine wpAny_pure (fun i__ => ([(.int .i64 r), (.pointer (some ⟨q, 0, none⟩)), (.pointer (some ⟨q, 0, none⟩)), (.pointer (some ⟨q, 2, none⟩)), (.int .i64 t.ro), (.bool (decide (r ≠ t.ro))), (.bool (decide (r ≠ t.ro)))] : List Value).getD i__ undef) (fun V => Below w.heap.size w V) (by kernel_rfl) (Below.refl _ _).drew ?_ ?_
  · refine (stepsFrom_cons ?_ (stepsFrom_cons ?_ (stepsFrom_cons ?_ (stepsFrom_cons ?_ (stepsFrom_cons ?_ (stepsFrom_cons ?_ (stepsFrom_cons ?_ trivial)))))))
    · exact step_load rfl trivial _ _ _ rfl rfl (fun v hw => load_i64 (by rw [cell_at (hx.carry hw).rb]; rfl))
    · exact step_load rfl trivial _ _ _ rfl rfl (fun v hw => load_tp (by rw [cell_at (hx.carry hw).tb]; rfl))
    · exact step_nilCheck rfl trivial _ _ _ rfl rfl rfl
    · exact step_fieldAddr rfl trivial _ _ _ _ rfl rfl (fun v hw => field_t2 v _)
    · exact step_load rfl trivial _ _ _ rfl rfl (fun v hw => load_i64 (h.carry hw).cells.2.2.1)
    · exact step_binOp rfl trivial _ _ _ _ _ _ _ rfl rfl rfl (fun v hw => bin_ne64 _ _ v)
    · exact step_assign rfl trivial _ rfl (by kernel_rfl) (fun _ h => h)
  intro W hW
  first | refine hK _ _ ?_ | refine (‹∀ (a : Act) (w : World), Code.wp Tryd.prog _ _ a w → _›) _ _ ?_
  simp only [finL, List.getD_cons_zero, List.getD_cons_succ, Nat.zero_add, Nat.reduceAdd, List.setIfInBounds_toArray, List.set_cons_zero, List.set_cons_succ]
  clear hK
  go_wp2
  go_ret
  exact ⟨rfl, hW⟩
set_option maxHeartbeats 4000000 in
set_option maxRecDepth 100000 in
theorem fate4_any (h : Ta w base q ad cap t) (hx : Fx w k q f r N) (hr : t.reps < S100) : Calls Tryd.prog 61 #[.pointer (some ⟨k, 0, none⟩), .pointer (some ⟨k + 1, 0, none⟩)] w fun e w' => e = .returned (.bool (decide (wthN t.reps f = t.reps))) ∧ Below w.heap.size w w' := by
  have hmx : Tryd.prog.follows .mixedOrders = true := by kernel_rfl
  go_enter Tryd.func61, Tryd.ntmps61
  go_wp2
  rename_i hK
  refine wp_region_any hmx ?_
  refine wpAny_pure (fun i__ => ([(.pointer (some ⟨q, 0, none⟩)), (.int .i64 f), (sv (wthN t.reps f)), (.pointer (some ⟨q, 0, none⟩)), (.pointer (some ⟨q, 0, none⟩)), (.pointer (some ⟨q, 3, none⟩)), (sv t.reps), (.bool (decide (wthN t.reps f = t.reps))), (.bool (decide (wthN t.reps f = t.reps)))] : List Value).getD i__ undef) (fun V => Below w.heap.size w V) (by kernel_rfl) (Below.refl _ _).drew ?_ ?_
  · refine (stepsFrom_cons ?_ (stepsFrom_cons ?_ (stepsFrom_cons ?_ (stepsFrom_cons ?_ (stepsFrom_cons ?_ (stepsFrom_cons ?_ (stepsFrom_cons ?_ (stepsFrom_cons ?_ (stepsFrom_cons ?_ trivial)))))))))
    · exact step_load rfl trivial _ _ _ rfl rfl (fun v hw => load_tp (by rw [cell_at (hx.carry hw).tb]; rfl))
    · exact step_load rfl trivial _ _ _ rfl rfl (fun v hw => load_i64 (by rw [cell_at (hx.carry hw).fb]; rfl))
    · exact step_call rfl trivial 57 _ _ [(.pointer (some ⟨q, 0, none⟩)), (.int .i64 f)] rfl (by kernel_rfl) (enters_of Tryd.func57 (by kernel_rfl) rfl) (fun v hw => (twith_any (h.carry hw) f).mono (by rintro e w' ⟨rfl, hb⟩; exact ⟨rfl, bel2 hw hb⟩))
    · exact step_load rfl trivial _ _ _ rfl rfl (fun v hw => load_tp (by rw [cell_at (hx.carry hw).tb]; rfl))
    · exact step_nilCheck rfl trivial _ _ _ rfl rfl rfl
    · exact step_fieldAddr rfl trivial _ _ _ _ rfl rfl (fun v hw => field_t3 v _)
    · exact step_load rfl trivial _ _ _ rfl rfl (fun v hw => load_ts (h.carry hw))
    · exact step_binOp rfl trivial _ _ _ _ _ _ _ rfl rfl rfl (fun v hw => eql4 _ _ _ _ (S100_S128 (wthN_lt _ _)) (S100_S128 hr) v)
    · exact step_assign rfl trivial _ rfl (by kernel_rfl) (fun _ h => h)
  intro W hW
  first | refine hK _ _ ?_ | refine (‹∀ (a : Act) (w : World), Code.wp Tryd.prog _ _ a w → _›) _ _ ?_
  simp only [finL, List.getD_cons_zero, List.getD_cons_succ, Nat.zero_add, Nat.reduceAdd, List.setIfInBounds_toArray, List.set_cons_zero, List.set_cons_succ]
  clear hK
  go_wp2
  go_ret
  exact ⟨rfl, hW⟩
end
end Go.Proofs.YtgehmidalfajgaaDoor
