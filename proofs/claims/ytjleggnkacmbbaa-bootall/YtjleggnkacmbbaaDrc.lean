/- The document's disk: New, Of, Copy; Lent and Stays of bytes: what they answer. -/
import Derived.Test.YtjleggnkacmbbaaDrb
import Derived.Laws.IdiomArrays
namespace Go.Proofs.Ytjleggnkacmbbaa
open Go.RowKit Go.Shelf

theorem mk256' (w : World) : (Instr.makeSlice 62 (.int .i64 256) (.int .i64 256)).run Try.prog w = .ok (.slice (some ⟨w.heap.size, 0, none⟩) 256 256) (w.alloc (.cells z256 5)) := by kernel_rfl
theorem z256_own (w : World) : (w.alloc (.cells z256 5)).ownsRow w.heap.size 5 1 (.slice (some ⟨w.heap.size, 0, none⟩) 256 256) 256 (cB d0.l) := by
  have e0 : z256.size = 256 := by unfold z256; rw [List.size_toArray, cB_len, List.length_replicate]
  have e : z256.toList = cB d0.l := rfl
  refine ⟨by rw [cB_len, d0_len], .inr ⟨w.heap.size, 256, z256, rfl, Nat.le_refl _, new_at rfl, Nat.le_refl _, by unfold maxLen; omega, by rw [e0], ?_⟩⟩
  rw [e, List.take_of_length_le (by rw [cB_len, d0_len]; omega)]
theorem und_rd : Try.prog.underlying 64 = some (.struct ((match Try.prog.underlying 64 with | some (.struct f) => f | _ => #[]))) := by kernel_rfl
theorem info_rd : (Try.prog.info? 64).map (·.size) = some 4 := by kernel_rfl
/-- A block with the document's disk. -/
theorem row_setRow {W : World} {base g n c b : Nat} {e : TypeId} {xs : List Value} (h : W.ownsRow base e 1 (.slice (some ⟨g, 0, none⟩) n c) n xs) (hn : g ≠ b) (cs : Array Value) : (W.setRow b cs).ownsRow base e 1 (.slice (some ⟨g, 0, none⟩) n c) n xs := by
  refine ⟨h.1, ?_⟩
  rcases h.2 with ⟨e1, _⟩ | ⟨g1, c1, cur, e1, h2, h3, h4⟩
  · cases e1
  · cases e1
    exact .inr ⟨g, c, cur, rfl, h2, (setRow_other W b g cs hn).trans h3, h4⟩
def RB (W : World) (b : Nat) (v : Value) (o : Bool) (f n : Int) : Prop := W.heap[b]? = some (.cells #[v, .bool o, .int .i64 f, .int .i64 n] 64 (0, 0))
set_option maxHeartbeats 1000000 in
set_option maxRecDepth 100000 in
theorem rnew_any (w : World) : Calls Try.prog 30 #[] w fun e w' => ∃ r, e = .returned (rdV r 256 false (-1) 0) ∧ w.heap.size ≤ r ∧ w'.ownsRow w.heap.size 5 1 (.slice (some ⟨r, 0, none⟩) 256 256) 256 (cB d0.l) ∧ Below w.heap.size w w' := by
  have hm := mk256'
  obtain ⟨w1, hw1⟩ : ∃ w1, w.alloc (.cells #[.slice none 0 0, .bool false, .int .i64 0, .int .i64 0] 64) = w1 := ⟨_, rfl⟩
  have hb1 : Below w.heap.size w w1 := by rw [← hw1]; exact al1' _ _
  have hg1 : RB w1 w.heap.size (.slice none 0 0) false 0 0 := by rw [← hw1]; exact new_at rfl
  obtain ⟨w2, hw2⟩ : ∃ w2, w1.alloc (.cells z256 5) = w2 := ⟨_, rfl⟩
  have hb2 : Below w1.heap.size w1 w2 := by rw [← hw2]; exact al1' _ _
  have ho2 := z256_own w1
  rw [hw2] at ho2
  have hg2 : RB w2 w.heap.size (.slice none 0 0) false 0 0 := (hb2.block _ (lt_at hg1)).trans hg1
  have hlt := lt_at hg1
  go_enter Try.func30, Try.ntmps30
  go_wp2_with (refine wpList_store_row rfl 64 (.tmp 0) (.tmp 2) rfl w.heap.size #[.slice (some ⟨w1.heap.size, 0, none⟩) 256 256, .bool false, .int .i64 (-1), .int .i64 0] rfl rfl 64 _ hg2 info_rd rfl (by simp [Value.oneCell']) ?_; obtain ⟨v, hv⟩ : ∃ v, w2.setRow w.heap.size #[.slice (some ⟨w1.heap.size, 0, none⟩) 256 256, .bool false, .int .i64 (-1), .int .i64 0] = v := ⟨_, rfl⟩; have HV : Hid (RB v w.heap.size (.slice (some ⟨w1.heap.size, 0, none⟩) 256 256) false (-1) 0) := (by rw [← hv]; exact setRow_heap _ _ _ _ _ _ hg2); have HB : Hid (Below w.heap.size w v) := (by rw [← hv]; exact below_setRow (bel2 hb1 hb2) (Nat.le_refl _) _); have HR : Hid (v.ownsRow w.heap.size 5 1 (.slice (some ⟨w1.heap.size, 0, none⟩) 256 256) 256 (cB d0.l)) := (by rw [← hv]; exact row_base (row_setRow ho2 (show w1.heap.size ≠ w.heap.size by omega) _) (Nat.le_of_lt hlt)); rw [hv])
  (try simp only [Exit.inBlock, Exit.then])
  refine bodyPost_ret (results_cell_row rfl _ _ w.heap.size _ _ (0, 0) _ rfl HV.out und_rd rfl info_rd) rfl ?_
  exact ⟨w1.heap.size, rfl, Nat.le_of_lt hlt, HR.out, HB.out⟩
theorem RB.c0 {W : World} {b : Nat} {v : Value} {o : Bool} {f n : Int} (h : RB W b v o f n) : W.cell? ⟨b, 0, none⟩ = some v := cell_at h 0
theorem RB.carry {W V : World} {b : Nat} {v : Value} {o : Bool} {f n : Int} (h : RB W b v o f n) (hb : Below W.heap.size W V) : RB V b v o f n := (hb.block _ (lt_at h)).trans h
end Go.Proofs.Ytjleggnkacmbbaa
