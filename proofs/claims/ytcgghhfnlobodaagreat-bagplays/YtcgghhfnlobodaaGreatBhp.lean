/- The play of two bags. -/
import Derived.Test.YtcgghhfnlobodaaGreatBho
namespace Go.Proofs.YtcgghhfnlobodaaGreat
open Go.RowKit Go.Shelf Go.Lib
theorem info_bo : (Tryz.prog.info? 47).map (·.size) = some 5 := by kernel_rfl
theorem bg_new {σ : Nat → Prop} {W : World} {base p : Nat} {room : Int} (h : W.heap[p]? = some (.cells #[.int .i64 room, .int .i64 0, .slice none 0 0] 54 (0, 0))) (hp : base ≤ p) (h0 : 0 ≤ room) (h1 : room ≤ 65536) (hs : ∀ b, σ b → b < W.heap.size) : Bg σ W base p none 0 room 0 [] [] := ⟨hp, h, World.ownsRow_nil _ _ _ _, rfl, (fun k q x h => by simp at h), by simpa using h0, h1, hs⟩
theorem rg_new {W : World} {base lb o : Nat} {room : Int} (c0 : W.cell? ⟨lb, o, none⟩ = some (.slice none 0 0)) (c1 : W.cell? ⟨lb, o + 1, none⟩ = some (.int .i64 0)) (c2 : W.cell? ⟨lb, o + 2, none⟩ = some (.int .i64 room)) (hl : ∃ cur, W.heap[lb]? = some (.cells cur 48 (0, 0))) (h0 : 0 ≤ room) (h1 : room ≤ 65536) : Rg W base lb o none 0 0 room [] [] := ⟨c0, c1, c2, hl, World.ownsRow_nil _ _ _ _, rfl, (fun k x a h => by simp at h), (fun x hx => by cases hx), h1, by simpa using h0⟩
theorem nk_new {W : World} {base bb : Nat} (h : KB (.slice none 0 0) (.slice none 0 0) W bb (.slice none 0 0) (.slice none 0 0)) (hb : base ≤ bb) : NK base bb W := ⟨_, _, _, _, 0, 0, [], [], [], [], Nat.zero_le _, Nat.zero_le _, h, World.ownsRow_nil _ _ _ _, World.ownsRow_nil _ _ _ _, World.ownsRow_nil _ _ _ _, World.ownsRow_nil _ _ _ _, (fun q e => by cases e), (fun q e => by cases e), hb⟩
/-- What the rooms' box holds; what is asked of a room. -/
def RmB (W : World) (b : Nat) (x y : Int) : Prop := W.heap[b]? = some (.cells #[.int .i64 x, .int .i64 y] 22 (0, 0))
/-- Made: a bag, empty. -/
def Mk (W : World) (base p : Nat) (room : Int) : Prop := W.heap[p]? = some (.cells #[.int .i64 room, .int .i64 0, .slice none 0 0] 54 (0, 0)) ∧ base ≤ p ∧ 0 ≤ room ∧ room ≤ 65536
theorem Mk.carry {W V : World} {base p : Nat} {room : Int} (h : Mk W base p room) (hb : Below W.heap.size W V) : Mk V base p room := ⟨(hb.block _ (lt_at h.1)).trans h.1, h.2⟩
/-- While both are made. -/
def Lp (w : World) (rb lb bb : Nat) (r1 : Int) (r0 : Int) (k : Nat) (W : World) : Prop := match k with
  | 0 => Below w.heap.size w W ∧ KB (.slice none 0 0) (.slice none 0 0) W bb (.slice none 0 0) (.slice none 0 0) ∧ RmB W rb r0 r1 ∧ W.heap[lb]? = some (.cells [.pointer none, .slice none 0 0, .int .i64 0, .int .i64 0, .pointer none, .pointer none, .slice none 0 0, .int .i64 0, .int .i64 0, .pointer none].toArray 48 (0, 0))
  | 1 => ∃ p room x, Below w.heap.size w W ∧ KB (.slice none 0 0) (.slice none 0 0) W bb (.slice none 0 0) (.slice none 0 0) ∧ RmB W rb x r1 ∧ W.heap[lb]? = some (.cells [.pointer (some ⟨p, 0, none⟩), .slice none 0 0, .int .i64 0, .int .i64 room, .pointer (some ⟨bb, 0, none⟩), .pointer none, .slice none 0 0, .int .i64 0, .int .i64 0, .pointer none].toArray 48 (0, 0)) ∧ Mk W w.heap.size p room
  | _ => PS w lb bb 0 W
theorem Lp.two {w W : World} {lb bb p p' : Nat} {room room' : Int} (hB : Below w.heap.size w W) (hk : KB (.slice none 0 0) (.slice none 0 0) W bb (.slice none 0 0) (.slice none 0 0)) (hl : W.heap[lb]? = some (.cells [.pointer (some ⟨p, 0, none⟩), .slice none 0 0, .int .i64 0, .int .i64 room, .pointer (some ⟨bb, 0, none⟩), .pointer (some ⟨p', 0, none⟩), .slice none 0 0, .int .i64 0, .int .i64 room', .pointer (some ⟨bb, 0, none⟩)].toArray 48 (0, 0))) (h1 : Mk W w.heap.size p room) (h2 : Mk W w.heap.size p' room') (hbb : w.heap.size ≤ bb) (hlb : w.heap.size ≤ lb) (hne : p ≠ p') : PS w lb bb 0 W := by
  have hnk := nk_new (base := w.heap.size) hk hbb
  refine ⟨fun _ => False, p, none, none, p', none, none, ⟨0, room, 0, [], [], 0, [], ⟨(cell_at hl 0).trans rfl, (cell_at hl 4).trans rfl, bg_new h1.1 h1.2.1 h1.2.2.1 h1.2.2.2 (fun _ q => q.elim), rg_new ((cell_at hl 1).trans rfl) ((cell_at hl 2).trans rfl) ((cell_at hl 3).trans rfl) ⟨_, hl⟩ h1.2.2.1 h1.2.2.2, hnk, hlb, (fun b e => by cases e)⟩, Int.le_refl _, Int.le_refl _⟩, ⟨0, room', 0, [], [], 0, [], ⟨(cell_at hl 5).trans rfl, (cell_at hl 9).trans rfl, bg_new h2.1 h2.2.1 h2.2.2.1 h2.2.2.2 (fun _ q => q.elim), rg_new ((cell_at hl 6).trans rfl) ((cell_at hl 7).trans rfl) ((cell_at hl 8).trans rfl) ⟨_, hl⟩ h2.2.2.1 h2.2.2.2, hnk, hlb, (fun b e => by cases e)⟩, Int.le_refl _, Int.le_refl _⟩, hne, (fun b e => by cases e), (fun b e => by cases e), hB⟩
theorem put_row {W : World} {lb : Nat} {cur : List Value} {t : TypeId} (cs : Array Value) (h : W.heap[lb]? = some (.cells cur.toArray t (0, 0))) : (W.setRow lb cs).heap[lb]? = some (.cells cs t (0, 0)) ∧ (∀ q, q ≠ lb → (W.setRow lb cs).heap[q]? = W.heap[q]?) ∧ (∀ base, base ≤ lb → Below base W (W.setRow lb cs)) := ⟨setRow_heap _ _ _ _ _ _ h, fun q hq => setRow_other _ _ _ _ hq, fun base h1 => ⟨rfl, rfl, rfl, by simp [World.setRow], fun k hk => setRow_other _ _ _ _ (by omega)⟩⟩
theorem ne_block {W : World} {a b : Nat} {c d : Array Value} {t u : TypeId} {y z : Nat × Nat} (h : W.heap[a]? = some (.cells c t y)) (k : W.heap[b]? = some (.cells d u z)) (ht : t ≠ u) : a ≠ b := fun e => by
  rw [e, k] at h
  simp only [Option.some.injEq, Obj.cells.injEq] at h
  exact ht h.2.1.symm
theorem Lp.one {w W : World} {rb lb bb p : Nat} {r0 r1 x room : Int} (hB : Below w.heap.size w W) (hk : KB (.slice none 0 0) (.slice none 0 0) W bb (.slice none 0 0) (.slice none 0 0)) (hr : RmB W rb x r1) (hl : W.heap[lb]? = some (.cells [.pointer none, .slice none 0 0, .int .i64 0, .int .i64 0, .pointer none, .pointer none, .slice none 0 0, .int .i64 0, .int .i64 0, .pointer none].toArray 48 (0, 0))) (hm : Mk W w.heap.size p room) (hlb : w.heap.size ≤ lb) : Lp w rb lb bb r1 r0 1 (W.setRow lb (splice [.pointer none, .slice none 0 0, .int .i64 0, .int .i64 0, .pointer none, .pointer none, .slice none 0 0, .int .i64 0, .int .i64 0, .pointer none] 0 [.pointer (some ⟨p, 0, none⟩), .slice none 0 0, .int .i64 0, .int .i64 room, .pointer (some ⟨bb, 0, none⟩)]).toArray) := by
  obtain ⟨k1, k2, k3⟩ := put_row (splice [.pointer none, .slice none 0 0, .int .i64 0, .int .i64 0, .pointer none, .pointer none, .slice none 0 0, .int .i64 0, .int .i64 0, .pointer none] 0 [.pointer (some ⟨p, 0, none⟩), .slice none 0 0, .int .i64 0, .int .i64 room, .pointer (some ⟨bb, 0, none⟩)]).toArray hl
  exact ⟨p, room, x, hB.trans (k3 _ hlb), (k2 _ (ne_block hk hl (by decide))).trans hk, (k2 _ (ne_block hr hl (by decide))).trans hr, k1, (k2 _ (ne_block hm.1 hl (by decide))).trans hm.1, hm.2⟩
theorem Lp.two' {w W : World} {rb lb bb p p' : Nat} {r0 r1 room room' : Int} (hB : Below w.heap.size w W) (hk : KB (.slice none 0 0) (.slice none 0 0) W bb (.slice none 0 0) (.slice none 0 0)) (hl : W.heap[lb]? = some (.cells [.pointer (some ⟨p, 0, none⟩), .slice none 0 0, .int .i64 0, .int .i64 room, .pointer (some ⟨bb, 0, none⟩), .pointer none, .slice none 0 0, .int .i64 0, .int .i64 0, .pointer none].toArray 48 (0, 0))) (hm : Mk W w.heap.size p room) (hm' : Mk W w.heap.size p' room') (hlb : w.heap.size ≤ lb) (hbb : w.heap.size ≤ bb) (hne : p ≠ p') : Lp w rb lb bb r1 r0 2 (W.setRow lb (splice [.pointer (some ⟨p, 0, none⟩), .slice none 0 0, .int .i64 0, .int .i64 room, .pointer (some ⟨bb, 0, none⟩), .pointer none, .slice none 0 0, .int .i64 0, .int .i64 0, .pointer none] 5 [.pointer (some ⟨p', 0, none⟩), .slice none 0 0, .int .i64 0, .int .i64 room', .pointer (some ⟨bb, 0, none⟩)]).toArray) := by
  obtain ⟨k1, k2, k3⟩ := put_row (splice [.pointer (some ⟨p, 0, none⟩), .slice none 0 0, .int .i64 0, .int .i64 room, .pointer (some ⟨bb, 0, none⟩), .pointer none, .slice none 0 0, .int .i64 0, .int .i64 0, .pointer none] 5 [.pointer (some ⟨p', 0, none⟩), .slice none 0 0, .int .i64 0, .int .i64 room', .pointer (some ⟨bb, 0, none⟩)]).toArray hl
  exact Lp.two (hB.trans (k3 _ hlb)) ((k2 _ (ne_block hk hl (by decide))).trans hk) k1 ⟨(k2 _ (ne_block hm.1 hl (by decide))).trans hm.1, hm.2⟩ ⟨(k2 _ (ne_block hm'.1 hl (by decide))).trans hm'.1, hm'.2⟩ hbb hlb hne
theorem fld_O1 (W : World) (B o : Nat) : (Instr.fieldAt 57 (.pointer (some ⟨B, o, none⟩)) 1).run Tryz.prog W = .ok (.pointer (some ⟨B, o + 1, none⟩)) W := by go_simp
theorem bin_andI {P : Program} {t : TypeId} {x y : Operand} {w : World} (a b c : Int) (h : bits .and .i64 a b = c) : binRun P .and t x y (.int .i64 a) (.int .i64 b) w = .ok (.int .i64 c) w := by rw [← h]; simp [binRun, go_sem]
/-- A room's box is written. -/
theorem rm_put {W : World} {rb : Nat} {x y : Int} (h : RmB W rb x y) : RmB (W.setCell ⟨rb, 0, none⟩ (.int .i64 0)) rb 0 y ∧ RmB (W.setCell ⟨rb, 1, none⟩ (.int .i64 0)) rb x 0 := ⟨(heap_setCell_same _ _ 0 _ _ _ h).trans rfl, (heap_setCell_same _ _ 1 _ _ _ h).trans rfl⟩
set_option maxHeartbeats 16000000 in
set_option maxRecDepth 100000 in
theorem play_A (r0 r1 : Int) (w : World) (ad1 : Option Addr) (cap1 : Nat) (l1 : List Op6) (w1 : RdO w w.heap.size ad1 l1) (hm150 : ¬ l1.length > 150) : Calls Tryz.prog 5 #[.agg #[.int .i64 r0, .int .i64 r1], .slice ad1 l1.length cap1, .bool false] w fun e w' => e = .returned (.bool true) ∧ Below w.heap.size w w' := by
  have hal := alive_any
  have hmx : Tryz.prog.follows .mixedOrders = true := by kernel_rfl
  have hmi : ¬ (l1.length : Int) > 150 := by omega
  obtain ⟨u0, hu0⟩ : ∃ u0, w.alloc (.cells #[.int .i64 r0, .int .i64 r1] 22) = u0 := ⟨_, rfl⟩
  have hb0 : Below w.heap.size w u0 := by rw [← hu0]; exact al1' _ _
  have hr0 : RmB u0 w.heap.size r0 r1 := by rw [← hu0]; exact new_at rfl
  have hal0 := hal u0
  go_enter Tryz.func5, Tryz.ntmps5
  go_wp2_with (go_at_call 6; (with_reducible refine hal0.mono ?_); rintro e u1 ⟨rfl, hb1⟩; obtain ⟨u2, hu2⟩ : ∃ u2, u1.alloc (.cells #[.slice none 0 0, .slice none 0 0, .slice none 0 0, .slice none 0 0, .slice none 0 0, .slice none 0 0, .slice none 0 0, .slice none 0 0, .slice none 0 0, .slice none 0 0, .slice none 0 0, .slice none 0 0, .slice none 0 0, .slice none 0 0, .slice none 0 0, .slice none 0 0, .slice none 0 0, .slice none 0 0, .slice none 0 0, .slice none 0 0, .slice none 0 0, .slice none 0 0, .slice none 0 0, .slice none 0 0] 41) = u2 := ⟨_, rfl⟩; have hb2 : Below u1.heap.size u1 u2 := (by rw [← hu2]; exact al1' _ _); have hk2 : KB (.slice none 0 0) (.slice none 0 0) u2 u1.heap.size (.slice none 0 0) (.slice none 0 0) := (by rw [← hu2]; exact new_at rfl); obtain ⟨u3, hu3⟩ : ∃ u3, u2.alloc (.cells #[.pointer none, .slice none 0 0, .int .i64 0, .int .i64 0, .pointer none, .pointer none, .slice none 0 0, .int .i64 0, .int .i64 0, .pointer none] 48) = u3 := ⟨_, rfl⟩; have hb3 : Below u2.heap.size u2 u3 := (by rw [← hu3]; exact al1' _ _); have hl3 : u3.heap[u2.heap.size]? = some (.cells [.pointer none, .slice none 0 0, .int .i64 0, .int .i64 0, .pointer none, .pointer none, .slice none 0 0, .int .i64 0, .int .i64 0, .pointer none].toArray 48 (0, 0)) := (by rw [← hu3]; exact new_at rfl); have hk3 : KB (.slice none 0 0) (.slice none 0 0) u3 u1.heap.size (.slice none 0 0) (.slice none 0 0) := (hb3.block _ (lt_at hk2)).trans hk2; have hr3 : RmB u3 w.heap.size r0 r1 := (((bel2 hb1 hb2).trans (hb3.mono (bel2 hb1 hb2).size)).block _ (lt_at hr0)).trans hr0; have hB3 : Below w.heap.size w u3 := bel2 (bel2 (bel2 hb0 hb1) hb2) hb3; have s0 := lt_at hr0; have s1 := hb1.size; have s2 := hb2.size; have s3 := lt_at hl3; have s4 := lt_at hk2)
  go_loopw [9, 10, 11] (fun i _ _ wz => ∃ (k : Nat) (z : Int), i = .int .i64 z ∧ z = (k : Int) ∧ k ≤ 2 ∧ Lp w w.heap.size u2.heap.size u1.heap.size r1 r0 k wz) (fun i _ _ _ => 2 - vnat i)
  case atStart => exact ⟨0, 0, rfl, rfl, by omega, hB3, hk3, hr3, hl3⟩
  case round =>
    obtain ⟨k, z, rfl, hz, hk, hLk⟩ := hrel
    have hk' : k = 0 ∨ k = 1 ∨ k = 2 := by omega
    rcases hk' with rfl | rfl | rfl
    · obtain rfl : z = 0 := hz
      obtain ⟨hBk, hkk, hrk, hlk⟩ := hLk
      have q0 : wr.cell? ⟨w.heap.size, 0, none⟩ = some (.int .i64 r0) := cell_at hrk 0
      by_cases hv : r0 < 0 ∨ 65536 < r0
      · have hN := new_no r0 wr hv
        obtain ⟨u5, hu5⟩ : ∃ u5, wr.alloc (.cells #[.int .i64 0, .int .i64 0, .slice none 0 0] 54) = u5 := ⟨_, rfl⟩
        have hb5 : Below wr.heap.size wr u5 := by rw [← hu5]; exact al1' _ _
        have ho5 : u5.heap[wr.heap.size]? = some (.cells #[.int .i64 0, .int .i64 0, .slice none 0 0] 54 (0, 0)) := by rw [← hu5]; exact new_at rfl
        have hr5 : RmB u5 w.heap.size r0 r1 := (hb5.block _ (lt_at hrk)).trans hrk
        have q05 : u5.cell? ⟨w.heap.size, 0, none⟩ = some (.int .i64 r0) := cell_at hr5 0
        have z05 := thaw_at hr5 0
        obtain ⟨u6, hu6⟩ : ∃ u6, u5.setCell ⟨w.heap.size, 0, none⟩ (.int .i64 0) = u6 := ⟨_, rfl⟩
        have ht6 : ∀ (q : Nat) (c : Array Value) (t : TypeId) (z : Nat × Nat), u5.heap[q]? = some (.cells c t z) → t ≠ 22 → u6.heap[q]? = some (.cells c t z) := fun q c t z hc ht => by
          rw [← hu6]
          have hne : q ≠ w.heap.size := ne_block hc (show u5.heap[w.heap.size]? = _ from hr5) ht
          exact (Below.heap_setCell _ _ _ _ hne).trans hc
        have hr6 : RmB u6 w.heap.size 0 r1 := by rw [← hu6]; exact (rm_put hr5).1
        have q06 : u6.cell? ⟨w.heap.size, 0, none⟩ = some (.int .i64 0) := cell_at hr6 0
        have hl6 := ht6 _ _ _ _ ((hb5.block _ (lt_at hlk)).trans hlk) (by decide)
        have HL6 : Hid (_) := hl6
        have HB6 : Hid (Below w.heap.size w u6) := by rw [← hu6]; exact (hBk.trans (hb5.mono hBk.size)).setCell (p := ⟨w.heap.size, 0, none⟩) (Nat.le_refl _) _
        have HK6 : Hid (KB (.slice none 0 0) (.slice none 0 0) u6 u1.heap.size (.slice none 0 0) (.slice none 0 0)) := ht6 _ _ _ _ ((hb5.block _ (lt_at hkk)).trans hkk) (by decide)
        have HM6 : Hid (Mk u6 w.heap.size wr.heap.size 0) := ⟨ht6 _ _ _ _ ho5 (by decide), hBk.size, by decide, by decide⟩
        have hvv : (decide (r0 < 0) || decide (65536 < r0)) = true := by simpa using hv
        rcases hv with hv | hv
        · go_wp2_with (first | (go_at_call 7; (with_reducible refine hN.mono ?_); rintro e u4 ⟨rfl, hu4⟩; obtain rfl := hu4.symm) | (refine wpList_store_in rfl 47 (.tmp 66) (.tmp 65) rfl u2.heap.size 0 48 [.pointer none, .slice none 0 0, .int .i64 0, .int .i64 0, .pointer none, .pointer none, .slice none 0 0, .int .i64 0, .int .i64 0, .pointer none] [.pointer (some ⟨wr.heap.size, 0, none⟩), .slice none 0 0, .int .i64 0, .int .i64 0, .pointer (some ⟨u1.heap.size, 0, none⟩)] rfl rfl hl6 info_bo (show (0 + 5 : Nat) ≤ 10 from by decide) (by simp [Value.oneCell']) ?_))
          exact ⟨⟨1, 1, rfl, rfl, by omega, Lp.one HB6.out HK6.out hr6 HL6.out HM6.out (by omega)⟩, by simp [vnat]⟩
        · have hv0 : ¬ r0 < 0 := by omega
          have hv1 : r0 > 65536 := hv
          go_wp2_with (first | (go_at_call 7; (with_reducible refine hN.mono ?_); rintro e u4 ⟨rfl, hu4⟩; obtain rfl := hu4.symm) | (refine wpList_store_in rfl 47 (.tmp 66) (.tmp 65) rfl u2.heap.size 0 48 [.pointer none, .slice none 0 0, .int .i64 0, .int .i64 0, .pointer none, .pointer none, .slice none 0 0, .int .i64 0, .int .i64 0, .pointer none] [.pointer (some ⟨wr.heap.size, 0, none⟩), .slice none 0 0, .int .i64 0, .int .i64 0, .pointer (some ⟨u1.heap.size, 0, none⟩)] rfl rfl hl6 info_bo (show (0 + 5 : Nat) ≤ 10 from by decide) (by simp [Value.oneCell']) ?_))
          exact ⟨⟨1, 1, rfl, rfl, by omega, Lp.one HB6.out HK6.out hr6 HL6.out HM6.out (by omega)⟩, by simp [vnat]⟩
      · have v0 : ¬ r0 < 0 := by omega
        have v1 : ¬ r0 > 65536 := by omega
        have hN := new_ok (σ := fun _ => False) r0 wr (by omega) (by omega) (fun _ q => q.elim)
        go_wp2_with (first | (go_at_call 7; (with_reducible refine hN.mono ?_); rintro e u4 ⟨rfl, hB4, hb4⟩; have hl4 := (hb4.block _ (lt_at hlk)).trans hlk; have q04 : u4.cell? ⟨w.heap.size, 0, none⟩ = some (.int .i64 r0) := (hb4.cell (p := ⟨w.heap.size, 0, none⟩) (lt_at hrk)).trans q0) | (refine wpList_store_in rfl 47 (.tmp 66) (.tmp 65) rfl u2.heap.size 0 48 [.pointer none, .slice none 0 0, .int .i64 0, .int .i64 0, .pointer none, .pointer none, .slice none 0 0, .int .i64 0, .int .i64 0, .pointer none] [.pointer (some ⟨wr.heap.size, 0, none⟩), .slice none 0 0, .int .i64 0, .int .i64 r0, .pointer (some ⟨u1.heap.size, 0, none⟩)] rfl rfl hl4 info_bo (show (0 + 5 : Nat) ≤ 10 from by decide) (by simp [Value.oneCell']) ?_))
        exact ⟨⟨1, 1, rfl, rfl, by omega, Lp.one (hBk.trans (hb4.mono hBk.size)) ((hb4.block _ (lt_at hkk)).trans hkk) ((hb4.block _ (lt_at hrk)).trans hrk) hl4 ⟨hB4.obj, hBk.size, by omega, by omega⟩ (by omega)⟩, by simp [vnat]⟩
    · obtain rfl : z = 1 := hz
      obtain ⟨pF, roomF, x, hBk, hkk, hrk, hlk, hmk⟩ := hLk
      have q0 : wr.cell? ⟨w.heap.size, 1, none⟩ = some (.int .i64 r1) := cell_at hrk 1
      by_cases hv : r1 < 0 ∨ 65536 < r1
      · have hN := new_no r1 wr hv
        obtain ⟨u5, hu5⟩ : ∃ u5, wr.alloc (.cells #[.int .i64 0, .int .i64 0, .slice none 0 0] 54) = u5 := ⟨_, rfl⟩
        have hb5 : Below wr.heap.size wr u5 := by rw [← hu5]; exact al1' _ _
        have ho5 : u5.heap[wr.heap.size]? = some (.cells #[.int .i64 0, .int .i64 0, .slice none 0 0] 54 (0, 0)) := by rw [← hu5]; exact new_at rfl
        have hr5 : RmB u5 w.heap.size x r1 := (hb5.block _ (lt_at hrk)).trans hrk
        have q05 : u5.cell? ⟨w.heap.size, 1, none⟩ = some (.int .i64 r1) := cell_at hr5 1
        have z05 := thaw_at hr5 1
        obtain ⟨u6, hu6⟩ : ∃ u6, u5.setCell ⟨w.heap.size, 1, none⟩ (.int .i64 0) = u6 := ⟨_, rfl⟩
        have ht6 : ∀ (q : Nat) (c : Array Value) (t : TypeId) (z : Nat × Nat), u5.heap[q]? = some (.cells c t z) → t ≠ 22 → u6.heap[q]? = some (.cells c t z) := fun q c t z hc ht => by
          rw [← hu6]
          have hne : q ≠ w.heap.size := ne_block hc (show u5.heap[w.heap.size]? = _ from hr5) ht
          exact (Below.heap_setCell _ _ _ _ hne).trans hc
        have hr6 : RmB u6 w.heap.size x 0 := by rw [← hu6]; exact (rm_put hr5).2
        have q06 : u6.cell? ⟨w.heap.size, 1, none⟩ = some (.int .i64 0) := cell_at hr6 1
        have hl6 := ht6 _ _ _ _ ((hb5.block _ (lt_at hlk)).trans hlk) (by decide)
        have HL6 : Hid (_) := hl6
        have HB6 : Hid (Below w.heap.size w u6) := by rw [← hu6]; exact (hBk.trans (hb5.mono hBk.size)).setCell (p := ⟨w.heap.size, 1, none⟩) (Nat.le_refl _) _
        have HK6 : Hid (KB (.slice none 0 0) (.slice none 0 0) u6 u1.heap.size (.slice none 0 0) (.slice none 0 0)) := ht6 _ _ _ _ ((hb5.block _ (lt_at hkk)).trans hkk) (by decide)
        have HM6 : Hid (Mk u6 w.heap.size wr.heap.size 0) := ⟨ht6 _ _ _ _ ho5 (by decide), hBk.size, by decide, by decide⟩
        have HM1 : Hid (Mk u6 w.heap.size pF roomF) := ⟨ht6 _ _ _ _ ((hb5.block _ (lt_at hmk.1)).trans hmk.1) (by decide), hmk.2⟩
        have hvv : (decide (r1 < 0) || decide (65536 < r1)) = true := by simpa using hv
        rcases hv with hv | hv
        · go_wp2_with (first | (go_at_call 7; (with_reducible refine hN.mono ?_); rintro e u4 ⟨rfl, hu4⟩; obtain rfl := hu4.symm) | (refine wpList_store_in rfl 47 (.tmp 66) (.tmp 65) rfl u2.heap.size 5 48 [.pointer (some ⟨pF, 0, none⟩), .slice none 0 0, .int .i64 0, .int .i64 roomF, .pointer (some ⟨u1.heap.size, 0, none⟩), .pointer none, .slice none 0 0, .int .i64 0, .int .i64 0, .pointer none] [.pointer (some ⟨wr.heap.size, 0, none⟩), .slice none 0 0, .int .i64 0, .int .i64 0, .pointer (some ⟨u1.heap.size, 0, none⟩)] rfl rfl hl6 info_bo (show (5 + 5 : Nat) ≤ 10 from by decide) (by simp [Value.oneCell']) ?_))
          exact ⟨⟨2, 2, rfl, rfl, by omega, Lp.two' HB6.out HK6.out HL6.out HM1.out HM6.out (by omega) (by omega) (Nat.ne_of_lt (lt_at hmk.1))⟩, by simp [vnat]⟩
        · have hv0 : ¬ r1 < 0 := by omega
          have hv1 : r1 > 65536 := hv
          go_wp2_with (first | (go_at_call 7; (with_reducible refine hN.mono ?_); rintro e u4 ⟨rfl, hu4⟩; obtain rfl := hu4.symm) | (refine wpList_store_in rfl 47 (.tmp 66) (.tmp 65) rfl u2.heap.size 5 48 [.pointer (some ⟨pF, 0, none⟩), .slice none 0 0, .int .i64 0, .int .i64 roomF, .pointer (some ⟨u1.heap.size, 0, none⟩), .pointer none, .slice none 0 0, .int .i64 0, .int .i64 0, .pointer none] [.pointer (some ⟨wr.heap.size, 0, none⟩), .slice none 0 0, .int .i64 0, .int .i64 0, .pointer (some ⟨u1.heap.size, 0, none⟩)] rfl rfl hl6 info_bo (show (5 + 5 : Nat) ≤ 10 from by decide) (by simp [Value.oneCell']) ?_))
          exact ⟨⟨2, 2, rfl, rfl, by omega, Lp.two' HB6.out HK6.out HL6.out HM1.out HM6.out (by omega) (by omega) (Nat.ne_of_lt (lt_at hmk.1))⟩, by simp [vnat]⟩
      · have v0 : ¬ r1 < 0 := by omega
        have v1 : ¬ r1 > 65536 := by omega
        have hN := new_ok (σ := fun _ => False) r1 wr (by omega) (by omega) (fun _ q => q.elim)
        go_wp2_with (first | (go_at_call 7; (with_reducible refine hN.mono ?_); rintro e u4 ⟨rfl, hB4, hb4⟩; have hl4 := (hb4.block _ (lt_at hlk)).trans hlk; have q04 : u4.cell? ⟨w.heap.size, 1, none⟩ = some (.int .i64 r1) := (hb4.cell (p := ⟨w.heap.size, 1, none⟩) (lt_at hrk)).trans q0) | (refine wpList_store_in rfl 47 (.tmp 66) (.tmp 65) rfl u2.heap.size 5 48 [.pointer (some ⟨pF, 0, none⟩), .slice none 0 0, .int .i64 0, .int .i64 roomF, .pointer (some ⟨u1.heap.size, 0, none⟩), .pointer none, .slice none 0 0, .int .i64 0, .int .i64 0, .pointer none] [.pointer (some ⟨wr.heap.size, 0, none⟩), .slice none 0 0, .int .i64 0, .int .i64 r1, .pointer (some ⟨u1.heap.size, 0, none⟩)] rfl rfl hl4 info_bo (show (5 + 5 : Nat) ≤ 10 from by decide) (by simp [Value.oneCell']) ?_))
        exact ⟨⟨2, 2, rfl, rfl, by omega, Lp.two' (hBk.trans (hb4.mono hBk.size)) ((hb4.block _ (lt_at hkk)).trans hkk) hl4 (hmk.carry hb4) ⟨hB4.obj, hBk.size, by omega, by omega⟩ (by omega) (by omega) (Nat.ne_of_lt (lt_at hmk.1))⟩, by simp [vnat]⟩
    · obtain rfl : z = 2 := hz
      have hPS : PS w u2.heap.size u1.heap.size 0 wr := hLk
      clear hLk hal hal0 hl3 hk3 hk2 hr3 hu0 hu2 hu3
      go_wp2
      go_loopw [12] (fun i wz => ∃ m : Nat, i = .int .i64 (m : Int) ∧ m ≤ l1.length ∧ PS w u2.heap.size u1.heap.size m wz) (fun i _ => l1.length - vnat i)
      case atStart => exact ⟨0, rfl, Nat.zero_le _, hPS⟩
      case round =>
        obtain ⟨m, rfl, hm, hPm⟩ := hrel
        clear hPS
        by_cases hmn : m < l1.length
        · have hmi2 : (m : Int) < (l1.length : Int) := by omega
          obtain ⟨o, ho⟩ : ∃ o, l1[m]? = some o := ⟨_, List.getElem?_eq_getElem hmn⟩
          obtain ⟨bs, offs, a, cc, rfl, hbs, c0, c1, c2, c3, c4, c5, hrx, hby, hcx⟩ := w1 m o ho
          obtain ⟨k, who, iA, jA, kA, dt⟩ := o
          dsimp only at c0 c1 c2 c3 c4 c5 hrx hby hcx
          obtain ⟨q, hq2, hqe⟩ : ∃ q : Nat, q < 2 ∧ who % 2 = (q : Int) := ⟨(who % 2).toNat, by omega, by omega⟩
          have hand : bits .and .i64 who 1 = (q : Int) := (i64_and1 who).trans hqe
          obtain ⟨σ, p, ad, adR, p', ad', adR', hP⟩ := hPm.at hq2
          have hBm := hP.low
          obtain ⟨nd, hn⟩ : ∃ nd, dt.length = nd := ⟨_, rfl⟩
          rw [hn] at c5
          have HNX : Hid (dt.length = nd) := hn
          have e5 := (hBm.cell (p := ⟨bs, offs + m * 6 + 5, none⟩) hbs).trans c5
          have hix := idx_O bs offs l1.length cap1 m hmn
          have hf5 := fld_O
          have HCE : Hid (∀ V, Below w.heap.size w V → V.cell? ⟨bs, offs + m * 6, none⟩ = some (.int .i64 k) ∧ V.cell? ⟨bs, offs + m * 6 + 1, none⟩ = some (.int .i64 who) ∧ V.cell? ⟨bs, offs + m * 6 + 2, none⟩ = some (.int .i64 iA) ∧ V.cell? ⟨bs, offs + m * 6 + 3, none⟩ = some (.int .i64 jA) ∧ V.cell? ⟨bs, offs + m * 6 + 4, none⟩ = some (.int .i64 kA) ∧ V.cell? ⟨bs, offs + m * 6 + 5, none⟩ = some (.slice a nd cc)) := fun V hV => ⟨(hV.cell (p := ⟨bs, _, none⟩) hbs).trans c0, (hV.cell (p := ⟨bs, _, none⟩) hbs).trans c1, (hV.cell (p := ⟨bs, _, none⟩) hbs).trans c2, (hV.cell (p := ⟨bs, _, none⟩) hbs).trans c3, (hV.cell (p := ⟨bs, _, none⟩) hbs).trans c4, (hV.cell (p := ⟨bs, _, none⟩) hbs).trans c5⟩
          clear c0 c1 c2 c3 c4 c5 ho hqe hPm hn
          by_cases hd3 : nd ≤ 2000
          case neg =>
            have hdi : (nd : Int) > 2000 := by omega
            go_wp2
            go_ret
            exact ⟨rfl, hBm⟩
          have hdi : ¬ (nd : Int) > 2000 := by omega
          have HGO : Hid (∀ V, Pq σ w u2.heap.size u1.heap.size m q p ad adR p' ad' adR' V → Calls Tryz.prog 8 #[.pointer (some ⟨u2.heap.size, 5 * q, none⟩), .agg #[.int .i64 k, .int .i64 who, .int .i64 iA, .int .i64 jA, .int .i64 kA, .slice a nd cc]] V fun e w' => e = .returned (.bool true) ∧ PS w u2.heap.size u1.heap.size (m + 1) w') := fun V hV => hV.go hq2 (by omega) k who iA jA kA a nd cc dt HNX.out hrx hcx hby hd3
          go_wp2
          rename_i Q0 K0 hK
          refine wp_region_any hmx ?_
          refine wpAny_tabG (G := (Unit)) (fun g i__ => ([(.slice (some ⟨bs, offs, none⟩) l1.length cap1), (.int .i64 (m : Int)), (.pointer (some ⟨bs, offs + m * 6, none⟩)), (.pointer (some ⟨bs, offs + m * 6 + 1, none⟩)), (.int .i64 who), (.int .i64 (q : Int)), (.pointer (some ⟨u2.heap.size, 5 * q, none⟩)), (.slice (some ⟨bs, offs, none⟩) l1.length cap1), (.int .i64 (m : Int)), (.pointer (some ⟨bs, offs + m * 6, none⟩)), (.agg #[.int .i64 k, .int .i64 who, .int .i64 iA, .int .i64 jA, .int .i64 kA, .slice a nd cc]), (.bool true), (.bool false), (.bool false), (.bool false), (.bool false), undef, undef, undef, undef, undef, undef, undef, undef, (.bool false), (.bool false)] : List Value).getD i__ undef) (fun _ d V => (d 11 = false → Pq σ w u2.heap.size u1.heap.size m q p ad adR p' ad' adR' V) ∧ (d 11 = true → PS w u2.heap.size u1.heap.size (m + 1) V) ∧ Below w.heap.size w V) (by kernel_rfl) (()) ⟨fun _ => hP.carry (Below.refl _ _).drew, (fun e => absurd e (by decide)), hBm.drew⟩ ?step1 ?fin1
          case step1 =>
            intro i o ho
            have hi : i < 26 := getElem?_lt ho
            match i, hi, ho with
            | 0, _, ho =>
              cases ho
              refine stepG_of (fun g d hdep => ?_)
              exact step_move rfl trivial _ rfl (by kernel_rfl)
            | 1, _, ho =>
              cases ho
              refine stepG_of (fun g d hdep => ?_)
              exact step_move rfl trivial _ rfl (by kernel_rfl)
            | 2, _, ho =>
              cases ho
              refine stepG_of (fun g d hdep => ?_)
              exact step_indexAddr rfl trivial _ _ _ _ _ rfl rfl rfl (fun v hw => hix v)
            | 3, _, ho =>
              cases ho
              refine stepG_of (fun g d hdep => ?_)
              exact step_fieldAddr rfl trivial _ _ _ _ rfl rfl (fun v hw => fld_O1 v _ _)
            | 4, _, ho =>
              cases ho
              refine stepG_of (fun g d hdep => ?_)
              exact step_load rfl trivial _ _ _ rfl rfl (fun v hw => load_i (HCE.out v hw.2.2).2.1)
            | 5, _, ho =>
              cases ho
              refine stepG_of (fun g d hdep => ?_)
              exact step_binOp rfl trivial _ _ _ _ _ _ _ rfl rfl rfl (fun v hw => bin_andI _ _ _ hand)
            | 6, _, ho =>
              cases ho
              refine stepG_of (fun g d hdep => ?_)
              exact step_indexAddr rfl trivial _ _ _ _ _ rfl rfl rfl (fun v hw => idx_b2 _ q hq2 v)
            | 7, _, ho =>
              cases ho
              refine stepG_of (fun g d hdep => ?_)
              exact step_move rfl trivial _ rfl (by kernel_rfl)
            | 8, _, ho =>
              cases ho
              refine stepG_of (fun g d hdep => ?_)
              exact step_move rfl trivial _ rfl (by kernel_rfl)
            | 9, _, ho =>
              cases ho
              refine stepG_of (fun g d hdep => ?_)
              exact step_indexAddr rfl trivial _ _ _ _ _ rfl rfl rfl (fun v hw => hix v)
            | 10, _, ho =>
              cases ho
              refine stepG_of (fun g d hdep => ?_)
              exact step_load rfl trivial _ _ _ rfl rfl (fun v hw => load_O (HCE.out v hw.2.2).1 (HCE.out v hw.2.2).2.1 (HCE.out v hw.2.2).2.2.1 (HCE.out v hw.2.2).2.2.2.1 (HCE.out v hw.2.2).2.2.2.2.1 (HCE.out v hw.2.2).2.2.2.2.2)
            | 11, _, ho =>
              cases ho
              exact stepG_ofCB (fun g d hun hdep hcl => step_call rfl trivial 8 _ _ [(.pointer (some ⟨u2.heap.size, 5 * q, none⟩)), (.agg #[.int .i64 k, .int .i64 who, .int .i64 iA, .int .i64 jA, .int .i64 kA, .slice a nd cc])] rfl (by kernel_rfl) (enters_of Tryz.func8 (by kernel_rfl) rfl) (fun V hw => (HGO.out V (hw.1 hun)).mono (by rintro e w' ⟨rfl, hs⟩; refine ⟨rfl, ?_⟩; show (true = false → _) ∧ (true = true → PS w u2.heap.size u1.heap.size (m + 1) w') ∧ Below w.heap.size w w'; exact ⟨(fun e => by cases e), fun _ => hs, (by obtain ⟨_, _, _, _, _, _, _, z⟩ := hs; exact z.low)⟩)))
            | 12, _, ho =>
              cases ho
              refine stepG_of (fun g d hdep => ?_)
              exact step_unOp rfl trivial _ _ _ _ rfl rfl (fun v hw => un_not true v)
            | 13, _, ho =>
              cases ho
              refine stepG_of (fun g d hdep => ?_)
              exact step_move rfl trivial _ rfl (by kernel_rfl)
            | 14, _, ho =>
              cases ho
              refine stepG_of (fun g d hdep => ?_)
              exact step_move rfl (by exact ⟨_, rfl, by kernel_rfl⟩) _ rfl (by kernel_rfl)
            | 15, _, ho =>
              cases ho
              refine stepG_of (fun g d hdep => ?_)
              exact step_move rfl (by exact ⟨_, rfl, by kernel_rfl⟩) _ rfl (by kernel_rfl)
            | 16, _, ho =>
              cases ho
              refine stepG_of (fun g d hdep => ?_)
              exact step_skip rfl 15 true 95 (.bool false) rfl rfl (by kernel_rfl) (by intro h; cases h) rfl
            | 17, _, ho =>
              cases ho
              refine stepG_of (fun g d hdep => ?_)
              exact step_skip rfl 15 true 95 (.bool false) rfl rfl (by kernel_rfl) (by intro h; cases h) rfl
            | 18, _, ho =>
              cases ho
              refine stepG_of (fun g d hdep => ?_)
              exact step_skip rfl 15 true 95 (.bool false) rfl rfl (by kernel_rfl) (by intro h; cases h) rfl
            | 19, _, ho =>
              cases ho
              refine stepG_of (fun g d hdep => ?_)
              exact step_skip rfl 15 true 95 (.bool false) rfl rfl (by kernel_rfl) (by intro h; cases h) rfl
            | 20, _, ho =>
              cases ho
              refine stepG_of (fun g d hdep => ?_)
              exact step_skip rfl 19 false 99 undef rfl rfl (by kernel_rfl) (by intro h; cases h) rfl
            | 21, _, ho =>
              cases ho
              refine stepG_of (fun g d hdep => ?_)
              exact step_skip rfl 19 false 99 undef rfl rfl (by kernel_rfl) (by intro h; cases h) rfl
            | 22, _, ho =>
              cases ho
              refine stepG_of (fun g d hdep => ?_)
              exact step_skip rfl 19 false 99 undef rfl rfl (by kernel_rfl) (by intro h; cases h) rfl
            | 23, _, ho =>
              cases ho
              refine stepG_of (fun g d hdep => ?_)
              exact step_skip rfl 15 true 95 (.bool false) rfl rfl (by kernel_rfl) (by intro h; cases h) rfl
            | 24, _, ho =>
              cases ho
              refine stepG_of (fun g d hdep => ?_)
              exact step_pick rfl (by exact ⟨_, rfl, by kernel_rfl⟩) _ _ _ false rfl (by kernel_rfl) (by kernel_rfl)
            | 25, _, ho =>
              cases ho
              refine stepG_of (fun g d hdep => ?_)
              exact step_pick rfl trivial _ _ _ false rfl (by kernel_rfl) (by kernel_rfl)
          intro g d W hall hW
          first | refine hK _ _ ?_ | refine (‹∀ (a : Act) (w : World), Code.wp Tryz.prog _ _ a w → _›) _ _ ?_ | skip
          simp only [finL, List.getD_cons_zero, List.getD_cons_succ, Nat.zero_add, Nat.reduceAdd, List.setIfInBounds_toArray, List.set_cons_zero, List.set_cons_succ]
          have hfin := hW.2.1 (hall 11 (by decide))
          clear hW hall hK
          go_wp2
          go_roundw
          case rel => exact ⟨m + 1, by simp, by omega, hfin⟩
          case measure => simp [vnat]; omega
        · have hmm : m = l1.length := by omega
          subst hmm
          have hmi2 : ¬ (l1.length : Int) < (l1.length : Int) := by omega
          obtain ⟨σ, p, ad, adR, p', ad', adR', hP⟩ := hPm
          have hlo := hP.looksA
          rw [show 5 * 0 = 0 from rfl] at hlo
          clear hP
          go_wp2_with (first | (go_at_call 9; have mm := stA; (with_reducible refine hlo2.mono ?_); rintro e y2 ⟨rfl, hP2⟩) | (go_at_call 9; (with_reducible refine hlo.mono ?_); rintro e y1 ⟨rfl, hP1⟩; have hlo2 := hP1.turn.looksA; rw [show 5 * 1 = 5 from rfl] at hlo2; have stA : True := trivial))
          go_ret
          exact ⟨rfl, hP2.low⟩
end Go.Proofs.YtcgghhfnlobodaaGreat
