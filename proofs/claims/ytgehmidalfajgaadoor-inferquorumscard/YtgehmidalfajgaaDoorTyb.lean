/- A tally in a world; its small calls: what they answer. -/
import Derived.Test.YtgehmidalfajgaaDoorTya
namespace Go.Proofs.YtgehmidalfajgaaDoor
open Go.RowKit Go.Shelf

def ob (ad : Option Addr) : Option Nat := ad.map (·.block)
theorem ob_eq (ad : Option Addr) (n c : Nat) : (Value.slice ad n c).ownBlock = ob ad := by cases ad <;> rfl
theorem infoS : (Tryd.prog.info? 27).map (·.size) = some 4 := by kernel_rfl
theorem below_row {w0 w : World} {n b : Nat} (h : Below n w0 w) (hb : n ≤ b) (cs : Array Value) : Below n w0 (w.setRow b cs) :=
  ⟨h.os, h.tape, h.output, by simpa using h.size, fun k hk => (setRow_other _ _ _ _ (by omega)).trans (h.block k hk)⟩
def taC (t : Tl) (S : Value) : Array Value := #[.int .i64 t.n, .int .i64 t.need, .int .i64 t.ro, .int .u32 (wd t.reps 0 : Nat), .int .u32 (wd t.reps 1 : Nat), .int .u32 (wd t.reps 2 : Nat), .int .u32 (wd t.reps 3 : Nat), S]
/-- A tally: its block q, its list. -/
structure Ta (W : World) (base q : Nat) (ad : Option Addr) (cap : Nat) (t : Tl) : Prop where
  qb : base ≤ q
  obj : W.heap[q]? = some (.cells (taC t (.slice ad t.hs.length cap)) 67 (0, 0))
  row : W.ownsRow base 27 4 (.slice ad t.hs.length cap) t.hs.length (fs t.hs)
section
variable {W V : World} {base q : Nat} {ad : Option Addr} {cap : Nat} {t : Tl}
theorem Ta.lt (h : Ta W base q ad cap t) : q < W.heap.size := lt_at h.obj
theorem Ta.carry (h : Ta W base q ad cap t) (hb : Below W.heap.size W V) : Ta V base q ad cap t := ⟨h.qb, (hb.block _ h.lt).trans h.obj, row_below h.row hb⟩
theorem Ta.ne (h : Ta W base q ad cap t) : ob ad ≠ some q := fun e => row_type h.row h.obj (by decide) (by rw [ob_eq]; exact e)
theorem Ta.blk (h : Ta W base q ad cap t) {b : Nat} (e : ob ad = some b) : base ≤ b ∧ ∃ cur, W.heap[b]? = some (.cells cur 27 (0, 0)) := rowBlk h.row b (by rw [ob_eq]; exact e)
theorem Ta.cells (h : Ta W base q ad cap t) : W.cell? ⟨q, 0, none⟩ = some (.int .i64 t.n) ∧ W.cell? ⟨q, 1, none⟩ = some (.int .i64 t.need) ∧ W.cell? ⟨q, 2, none⟩ = some (.int .i64 t.ro) ∧ W.cell? ⟨q, 3, none⟩ = some (.int .u32 (wd t.reps 0 : Nat)) ∧ W.cell? ⟨q, 4, none⟩ = some (.int .u32 (wd t.reps 1 : Nat)) ∧ W.cell? ⟨q, 5, none⟩ = some (.int .u32 (wd t.reps 2 : Nat)) ∧ W.cell? ⟨q, 6, none⟩ = some (.int .u32 (wd t.reps 3 : Nat)) ∧ W.cell? ⟨q, 7, none⟩ = some (.slice ad t.hs.length cap) :=
  ⟨cell_at h.obj 0, cell_at h.obj 1, cell_at h.obj 2, cell_at h.obj 3, cell_at h.obj 4, cell_at h.obj 5, cell_at h.obj 6, cell_at h.obj 7⟩
/-- A block that is no tally's abides. -/
theorem Ta.stays (h : Ta W base q ad cap t) {g' : Option Nat} (ht : Tn q (ob ad) g' W V) {k : Nat} {cur : Array Value} {ty : TypeId} {z : Nat × Nat} (hk : W.heap[k]? = some (.cells cur ty z)) (h1 : ty ≠ 67) (h2 : ty ≠ 27) : V.heap[k]? = some (.cells cur ty z) := by
  refine (ht.block k (lt_at hk) (fun e => ?_) (fun e => ?_)).trans hk
  · subst e
    have := hk.symm.trans h.obj
    simp only [Option.some.injEq, Obj.cells.injEq] at this
    exact h1 this.2.1
  · obtain ⟨_, cur', h3⟩ := h.blk e.symm
    have := hk.symm.trans h3
    simp only [Option.some.injEq, Obj.cells.injEq] at this
    exact h2 this.2.1
theorem Ta.below (h : Ta W base q ad cap t) {g' : Option Nat} (ht : Tn q (ob ad) g' W V) : Below base W V := ht.below h.qb (fun _ e => (h.blk e).1) (Nat.le_trans h.qb (Nat.le_of_lt h.lt))
theorem isNode_any (id n : Int) (w : World) : Calls Tryd.prog 30 #[.int .i64 id, .int .i64 n] w fun e w' => e = .returned (.bool (isN id n)) ∧ w' = w := by
  go_enter Tryd.func30, Tryd.ntmps30
  go_wp2
  all_goals
    go_ret
    refine ⟨ret_bool ?_, rfl⟩
    unfold isN
    first
    | (have h : 0 ≤ id := by omega
       simp [h])
    | (have h : ¬ 0 ≤ id := by omega
       simp [h])
set_option maxHeartbeats 1000000 in
theorem kept_any (h : Ta W base q ad cap t) : Calls Tryd.prog 62 #[.pointer (some ⟨q, 0, none⟩)] W fun e w' => e = .returned (.slice ad t.hs.length cap) ∧ w' = W := by
  obtain ⟨_, _, _, _, _, _, _, c7⟩ := h.cells
  go_enter Tryd.func62, Tryd.ntmps62
  go_wp2
  go_ret
  exact ⟨rfl, rfl⟩
set_option maxHeartbeats 1000000 in
theorem need_any (h : Ta W base q ad cap t) : Calls Tryd.prog 35 #[.pointer (some ⟨q, 0, none⟩)] W fun e w' => e = .returned (.int .i64 t.need) ∧ w' = W := by
  obtain ⟨_, c1, _⟩ := h.cells
  go_enter Tryd.func35, Tryd.ntmps35
  go_wp2
  go_ret
  exact ⟨rfl, rfl⟩
set_option maxHeartbeats 1000000 in
theorem have_any (h : Ta W base q ad cap t) : Calls Tryd.prog 36 #[.pointer (some ⟨q, 0, none⟩)] W fun e w' => e = .returned (.int .i64 (t.hs.length : Int)) ∧ w' = W := by
  have hk := kept_any h
  go_enter Tryd.func36, Tryd.ntmps36
  go_wp2_with (go_at_call 62; (with_reducible refine hk.mono ?_); rintro e u ⟨rfl, hu⟩; obtain rfl := hu.symm)
  go_ret
  exact ⟨rfl, rfl⟩
set_option maxHeartbeats 1000000 in
theorem ready_any (h : Ta W base q ad cap t) : Calls Tryd.prog 11 #[.pointer (some ⟨q, 0, none⟩)] W fun e w' => e = .returned (.bool (rdy t)) ∧ w' = W := by
  have hn := need_any h
  have hh := have_any h
  go_enter Tryd.func11, Tryd.ntmps11
  go_wp2_with (first | (go_at_call 35; (with_reducible refine hn.mono ?_); rintro e u ⟨rfl, hu⟩; obtain rfl := hu.symm) | (go_at_call 36; (with_reducible refine hh.mono ?_); rintro e u ⟨rfl, hu⟩; obtain rfl := hu.symm))
  all_goals
    go_ret
    refine ⟨ret_bool ?_, rfl⟩
    unfold rdy
    first
    | (have h : 0 < t.need := by omega
       simp [h]
       rfl)
    | (have h : ¬ 0 < t.need := by omega
       simp [h])
set_option maxHeartbeats 1000000 in
set_option maxRecDepth 100000 in
theorem reps_any (h : Ta W base q ad cap t) : Calls Tryd.prog 41 #[.pointer (some ⟨q, 0, none⟩)] W fun e w' => e = .returned (sv t.reps) ∧ Below W.heap.size W w' := by
  obtain ⟨w1, hw1⟩ : ∃ w1, W.alloc (.cells #[.int .u32 0, .int .u32 0, .int .u32 0, .int .u32 0] 27) = w1 := ⟨_, rfl⟩
  have hb1 : Below W.heap.size W w1 := by rw [← hw1]; exact al1' _ _
  have g1 : Holds4 w1 W.heap.size (fun _ => 0) := by rw [← hw1]; exact new_at rfl
  obtain ⟨_, _, _, c3, c4, c5, c6, _⟩ := (h.carry hb1).cells
  obtain ⟨y0, y1, y2, y3, z0, z1, z2, z3⟩ := g1.facts
  have G1 : Hid (Holds4 w1 W.heap.size (fun _ => 0)) := g1
  clear g1
  go_enter Tryd.func41, Tryd.ntmps41
  go_wp2
  exact ret4 rfl rfl rfl (fin4 G1.out _) ⟨rfl, below4 hb1 (Nat.le_refl _) _⟩
set_option maxHeartbeats 1000000 in
set_option maxRecDepth 100000 in
theorem twith_any (h : Ta W base q ad cap t) (id : Int) : Calls Tryd.prog 57 #[.pointer (some ⟨q, 0, none⟩), .int .i64 id] W fun e w' => e = .returned (sv (wthN t.reps id)) ∧ Below W.heap.size W w' := by
  have hwi := with_any t.reps id
  obtain ⟨E, hV⟩ : ∃ E : Int, withV t.reps id = .tuple #[sv (wthN t.reps id), .int .i64 E] := by
    unfold withV wthN
    split
    · exact ⟨0, rfl⟩
    · exact ⟨30, rfl⟩
  rw [hV] at hwi
  clear hV
  generalize wthN t.reps id = M at *
  obtain ⟨w1, hw1⟩ : ∃ w1, W.alloc (.cells #[.int .u32 0, .int .u32 0, .int .u32 0, .int .u32 0] 27) = w1 := ⟨_, rfl⟩
  have hb1 : Below W.heap.size W w1 := by rw [← hw1]; exact al1' _ _
  have hs1 : W.heap.size < w1.heap.size := by rw [← hw1]; simp
  have g1 : Holds4 w1 W.heap.size (fun _ => 0) := by rw [← hw1]; exact new_at rfl
  obtain ⟨_, _, _, c3, c4, c5, c6, _⟩ := (h.carry hb1).cells
  simp only [sv] at hwi ⊢
  go_enter Tryd.func57, Tryd.ntmps57
  go_wp2_with (first
    | (go_at_call 25; refine (hwi _).mono ?_; rintro e u ⟨rfl, hb⟩; obtain ⟨w2, hw2⟩ : ∃ w2, u.alloc (.cells #[.int .u32 0, .int .u32 0, .int .u32 0, .int .u32 0] 27) = w2 := ⟨_, rfl⟩; have hb2 : Hid (Below W.heap.size W w2) := (by rw [← hw2]; exact bel2 (bel2 hb1 hb) (al1' _ _)); have g2 : Hid (Holds4 w2 W.heap.size (fun _ => 0)) := (by rw [← hw2]; exact old_at (g1.carry hb)); have g3 : Hid (Holds4 w2 u.heap.size (fun _ => 0)) := (by rw [← hw2]; exact new_at rfl); have hs2 : Hid (W.heap.size < u.heap.size) := Nat.lt_of_lt_of_le hs1 hb.size)
    | (refine wpList_store_row rfl 27 (.tmp 5) (.tmp 14) rfl u.heap.size (cells4 (wd M)) rfl rfl 27 _ g3.out infoS rfl (by simp [cells4, Value.oneCell']) ?_; obtain ⟨w3, hw3⟩ : ∃ v, w2.setRow u.heap.size (cells4 (wd M)) = v := ⟨_, rfl⟩; have g4 : Hid (Holds4 w3 u.heap.size (wd M)) := (by rw [← hw3]; exact setRow_heap _ _ _ _ _ _ g3.out); have g5 : Hid (Holds4 w3 W.heap.size (fun _ => 0)) := (by rw [← hw3]; exact (setRow_other _ _ _ _ (Nat.ne_of_lt hs2.out)).trans g2.out); have hb3 : Hid (Below W.heap.size W w3) := (by rw [← hw3]; exact below_row hb2.out (Nat.le_of_lt hs2.out) _); rw [hw3])
    | (refine wpList_load_row rfl 27 (.tmp 5) rfl u.heap.size rfl 27 _ (0, 0) _ g4.out Tryd.underlying27 rfl infoS ?_)
    | (refine wpList_store_row rfl 27 (.tmp 4) (.tmp 16) rfl W.heap.size (cells4 (wd M)) rfl rfl 27 _ g5.out infoS rfl (by simp [cells4, Value.oneCell']) ?_; obtain ⟨w4, hw4⟩ : ∃ v, w3.setRow W.heap.size (cells4 (wd M)) = v := ⟨_, rfl⟩; have g6 : Hid (Holds4 w4 W.heap.size (wd M)) := (by rw [← hw4]; exact setRow_heap _ _ _ _ _ _ g5.out); have hb4 : Hid (Below W.heap.size W w4) := (by rw [← hw4]; exact below_row hb3.out (Nat.le_refl _) _); rw [hw4]))
  exact ret4 rfl rfl rfl g6.out ⟨rfl, hb4.out⟩
end
end Go.Proofs.YtgehmidalfajgaaDoor
