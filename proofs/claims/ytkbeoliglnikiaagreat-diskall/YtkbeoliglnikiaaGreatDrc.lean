/- The document's disk: New, Of, Copy; Lent and Stays of bytes: what they answer. -/
import Derived.Test.YtkbeoliglnikiaaGreatDrb
import Derived.Laws.IdiomArrays
namespace Go.Proofs.YtkbeoliglnikiaaGreat
open Go.RowKit Go.Shelf

theorem mk256' (w : World) : (Instr.makeSlice 22 (.int .i64 256) (.int .i64 256)).run Tryz.prog w = .ok (.slice (some ⟨w.heap.size, 0, none⟩) 256 256) (w.alloc (.cells z256 5)) := by kernel_rfl
theorem z256_own (w : World) : (w.alloc (.cells z256 5)).ownsRow w.heap.size 5 1 (.slice (some ⟨w.heap.size, 0, none⟩) 256 256) 256 (cB d0.l) := by
  have e0 : z256.size = 256 := by unfold z256; rw [List.size_toArray, cB_len, List.length_replicate]
  have e : z256.toList = cB d0.l := rfl
  refine ⟨by rw [cB_len, d0_len], .inr ⟨w.heap.size, 256, z256, rfl, Nat.le_refl _, new_at rfl, Nat.le_refl _, by unfold maxLen; omega, by rw [e0], ?_⟩⟩
  rw [e, List.take_of_length_le (by rw [cB_len, d0_len]; omega)]
theorem und_rd : Tryz.prog.underlying 44 = some (.struct ((match Tryz.prog.underlying 44 with | some (.struct f) => f | _ => #[]))) := by kernel_rfl
theorem info_rd : (Tryz.prog.info? 44).map (·.size) = some 4 := by kernel_rfl
/-- A block with the document's disk. -/
theorem row_setRow {W : World} {base g n c b : Nat} {e : TypeId} {xs : List Value} (h : W.ownsRow base e 1 (.slice (some ⟨g, 0, none⟩) n c) n xs) (hn : g ≠ b) (cs : Array Value) : (W.setRow b cs).ownsRow base e 1 (.slice (some ⟨g, 0, none⟩) n c) n xs := by
  refine ⟨h.1, ?_⟩
  rcases h.2 with ⟨e1, _⟩ | ⟨g1, c1, cur, e1, h2, h3, h4⟩
  · cases e1
  · cases e1
    exact .inr ⟨g, c, cur, rfl, h2, (setRow_other W b g cs hn).trans h3, h4⟩
def RB (W : World) (b : Nat) (v : Value) (o : Bool) (f n : Int) : Prop := W.heap[b]? = some (.cells #[v, .bool o, .int .i64 f, .int .i64 n] 44 (0, 0))
set_option maxHeartbeats 1000000 in
set_option maxRecDepth 100000 in
theorem rnew_any (w : World) : Calls Tryz.prog 8 #[] w fun e w' => ∃ r, e = .returned (rdV r 256 false (-1) 0) ∧ w.heap.size ≤ r ∧ w'.ownsRow w.heap.size 5 1 (.slice (some ⟨r, 0, none⟩) 256 256) 256 (cB d0.l) ∧ Below w.heap.size w w' := by
  have hm := mk256'
  obtain ⟨w1, hw1⟩ : ∃ w1, w.alloc (.cells #[.slice none 0 0, .bool false, .int .i64 0, .int .i64 0] 44) = w1 := ⟨_, rfl⟩
  have hb1 : Below w.heap.size w w1 := by rw [← hw1]; exact al1' _ _
  have hg1 : RB w1 w.heap.size (.slice none 0 0) false 0 0 := by rw [← hw1]; exact new_at rfl
  obtain ⟨w2, hw2⟩ : ∃ w2, w1.alloc (.cells z256 5) = w2 := ⟨_, rfl⟩
  have hb2 : Below w1.heap.size w1 w2 := by rw [← hw2]; exact al1' _ _
  have ho2 := z256_own w1
  rw [hw2] at ho2
  have hg2 : RB w2 w.heap.size (.slice none 0 0) false 0 0 := (hb2.block _ (lt_at hg1)).trans hg1
  have hlt := lt_at hg1
  go_enter Tryz.func8, Tryz.ntmps8
  go_wp2_with (refine wpList_store_row rfl 44 (.tmp 0) (.tmp 2) rfl w.heap.size #[.slice (some ⟨w1.heap.size, 0, none⟩) 256 256, .bool false, .int .i64 (-1), .int .i64 0] rfl rfl 44 _ hg2 info_rd rfl (by simp [Value.oneCell']) ?_; obtain ⟨v, hv⟩ : ∃ v, w2.setRow w.heap.size #[.slice (some ⟨w1.heap.size, 0, none⟩) 256 256, .bool false, .int .i64 (-1), .int .i64 0] = v := ⟨_, rfl⟩; have HV : Hid (RB v w.heap.size (.slice (some ⟨w1.heap.size, 0, none⟩) 256 256) false (-1) 0) := (by rw [← hv]; exact setRow_heap _ _ _ _ _ _ hg2); have HB : Hid (Below w.heap.size w v) := (by rw [← hv]; exact below_setRow (bel2 hb1 hb2) (Nat.le_refl _) _); have HR : Hid (v.ownsRow w.heap.size 5 1 (.slice (some ⟨w1.heap.size, 0, none⟩) 256 256) 256 (cB d0.l)) := (by rw [← hv]; exact row_base (row_setRow ho2 (show w1.heap.size ≠ w.heap.size by omega) _) (Nat.le_of_lt hlt)); rw [hv])
  (try simp only [Exit.inBlock, Exit.then])
  refine bodyPost_ret (results_cell_row rfl _ _ w.heap.size _ _ (0, 0) _ rfl HV.out und_rd rfl info_rd) rfl ?_
  exact ⟨w1.heap.size, rfl, Nat.le_of_lt hlt, HR.out, HB.out⟩
theorem RB.c0 {W : World} {b : Nat} {v : Value} {o : Bool} {f n : Int} (h : RB W b v o f n) : W.cell? ⟨b, 0, none⟩ = some v := cell_at h 0
theorem RB.carry {W V : World} {b : Nat} {v : Value} {o : Bool} {f n : Int} (h : RB W b v o f n) (hb : Below W.heap.size W V) : RB V b v o f n := (hb.block _ (lt_at h)).trans h
set_option maxHeartbeats 1000000 in
set_option maxRecDepth 100000 in
theorem rcopy_any (w : World) (r c : Nat) (o : Bool) (f n : Int) (l : List Nat) (base : Nat) (h : w.ownsRow base 5 1 (.slice (some ⟨r, 0, none⟩) 256 c) 256 (cB l)) (hl : l.length = 256) : Calls Tryz.prog 11 #[rdV r c o f n] w fun e w' => ∃ r' c', e = .returned (rdV r' c' o f n) ∧ w.heap.size ≤ r' ∧ w'.ownsRow w.heap.size 5 1 (.slice (some ⟨r', 0, none⟩) 256 c') 256 (cB l) ∧ Below w.heap.size w w' := by
  obtain ⟨ic, hic, hz0, hz1, hz2⟩ := info_parts infoB
  obtain ⟨w1, hw1⟩ : ∃ w1, w.alloc (.cells #[.slice (some ⟨r, 0, none⟩) 256 c, .bool o, .int .i64 f, .int .i64 n] 44) = w1 := ⟨_, rfl⟩
  have hb1 : Below w.heap.size w w1 := by rw [← hw1]; exact al1' _ _
  have hg1 : RB w1 w.heap.size (.slice (some ⟨r, 0, none⟩) 256 c) o f n := by rw [← hw1]; exact new_at rfl
  obtain ⟨w2, hw2⟩ : ∃ w2, w1.alloc (.cells #[.slice none 0 0, .bool false, .int .i64 0, .int .i64 0] 44) = w2 := ⟨_, rfl⟩
  have hb2 : Below w1.heap.size w1 w2 := by rw [← hw2]; exact al1' _ _
  have hg2 : RB w2 w1.heap.size (.slice none 0 0) false 0 0 := by rw [← hw2]; exact new_at rfl
  have hg12 := hg1.carry hb2
  have hlt1 := lt_at hg1
  have hlt2 := lt_at hg2
  have hb12 := bel2 hb1 hb2
  have h2 := row_below h hb12
  have c0 := hg12.c0
  have z0 := thaw_at hg12 0
  have hnil := World.ownsRow_nil w2 w2.heap.size 5 1
  have hnews := b_src (b_own h2 hl.symm)
  have hcl : (cB l).length = 256 * 1 := by rw [cB_len, hl]
  unfold rdV
  go_enter Tryz.func11, Tryz.ntmps11
  go_wp2_with (first | (at_builtin; refine wpList_append_own_at _ rfl _ _ 22 rfl w2.heap.size 5 ic _ 1 1 Tryz.underlying22 hic hz0 hz1 hz2 rfl (by decide) _ 0 [] rfl hnil ⟨r, 0, none⟩ 256 c (cB l) rfl (by rw [hcl]) hnews (cB_one l) (by unfold maxLen; omega) (by omega) (Nat.le_refl _) ?_; intro v u ho2 hgu hnn _; have hbu : Below w2.heap.size w2 u := ⟨hgu.os, hgu.tape, hgu.output, hgu.size, fun q hq => hgu.block q hq (show some q ≠ none from by simp)⟩; rw [Nat.zero_add, List.nil_append] at ho2; obtain ⟨g2, c2, rfl⟩ := own_some ho2 (by omega); have hgu1 := hg12.carry hbu; have hgu2 := hg2.carry hbu; have cu0 := hgu1.c0; have zu0 := thaw_at hgu1 0; obtain ⟨v1, hv1⟩ : ∃ v1, u.setCell ⟨w.heap.size, 0, none⟩ (.slice (some ⟨g2, 0, none⟩) 256 c2) = v1 := ⟨_, rfl⟩; have hgv1 : RB v1 w.heap.size (.slice (some ⟨g2, 0, none⟩) 256 c2) o f n := (by rw [← hv1]; exact (heap_setCell_same _ _ 0 _ _ _ hgu1).trans rfl); have hgv2 : RB v1 w1.heap.size (.slice none 0 0) false 0 0 := (by rw [← hv1]; exact (Below.heap_setCell _ _ _ _ (show w1.heap.size ≠ w.heap.size by omega)).trans hgu2); have hgr := (own_block ho2 g2 rfl); have HRV : Hid (v1.ownsRow w2.heap.size 5 1 (.slice (some ⟨g2, 0, none⟩) 256 c2) 256 (cB l)) := (by rw [← hv1]; exact ownsRow_set ho2 (fun q e => by have e2 : g2 = q := Option.some.inj e; show q ≠ w.heap.size; omega) _); have HBV : Hid (Below w.heap.size w v1) := (by rw [← hv1]; exact (bel2 hb12 hbu).setCell (p := ⟨w.heap.size, 0, none⟩) (Nat.le_refl _) _)) | (refine wpList_load_row rfl 44 (.tmp 1) rfl w.heap.size rfl 44 _ (0, 0) _ hgv1 und_rd rfl info_rd ?_) | (refine wpList_store_row rfl 44 (.tmp 2) (.tmp 7) rfl w1.heap.size #[.slice (some ⟨g2, 0, none⟩) 256 c2, .bool o, .int .i64 f, .int .i64 n] rfl rfl 44 _ hgv2 info_rd rfl (by simp [Value.oneCell']) ?_; obtain ⟨v, hv⟩ : ∃ v, v1.setRow w1.heap.size #[.slice (some ⟨g2, 0, none⟩) 256 c2, .bool o, .int .i64 f, .int .i64 n] = v := ⟨_, rfl⟩; have HV : Hid (RB v w1.heap.size (.slice (some ⟨g2, 0, none⟩) 256 c2) o f n) := (by rw [← hv]; exact setRow_heap _ _ _ _ _ _ hgv2); have HB : Hid (Below w.heap.size w v) := (by rw [← hv]; exact below_setRow HBV.out (Nat.le_of_lt hlt1) _); have HR : Hid (v.ownsRow w.heap.size 5 1 (.slice (some ⟨g2, 0, none⟩) 256 c2) 256 (cB l)) := (by rw [← hv]; exact row_base (row_setRow HRV.out (show g2 ≠ w1.heap.size by omega) _) (by omega)); rw [hv]))
  (try simp only [Exit.inBlock, Exit.then])
  refine bodyPost_ret (results_cell_row rfl _ _ w1.heap.size _ _ (0, 0) _ rfl HV.out und_rd rfl info_rd) rfl ?_
  exact ⟨g2, c2, rfl, by omega, HR.out, HB.out⟩
end Go.Proofs.YtkbeoliglnikiaaGreat
