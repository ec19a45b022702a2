/- disk's filled, part, blow, Write: what they answer. -/
import Derived.Test.YtjleggnkacmbbaaDkb
namespace Go.Proofs.Ytjleggnkacmbbaa
open Go.RowKit Go.Shelf

theorem litS : (#[.int .u8 0, .int .u8 0, .int .u8 0, .int .u8 0, .int .u8 0, .int .u8 0, .int .u8 0, .int .u8 0, .int .u8 0, .int .u8 0, .int .u8 0, .int .u8 0, .int .u8 0, .int .u8 0, .int .u8 0, .int .u8 0, .int .u8 0, .int .u8 0, .int .u8 0, .int .u8 0, .int .u8 0, .int .u8 0, .int .u8 0, .int .u8 0, .int .u8 0, .int .u8 0, .int .u8 0, .int .u8 0, .int .u8 0, .int .u8 0, .int .u8 0, .int .u8 0] : Array Value) = (cB (List.replicate 32 0)).toArray := by kernel_rfl
theorem infoB1 : (Try.prog.info? 5).map (·.size) = some 1 := by kernel_rfl
theorem slS (g : Nat) (w : World) : (Instr.sliceAt 48 (.pointer (some ⟨g, 0, none⟩)) none none none).run Try.prog w = .ok (.slice (some ⟨g, 0, none⟩) 32 32) w := by go_simp
theorem spl32 (l : List Nat) (h : l.length = 32) : splice (cB (List.replicate 32 0)) 0 (cB l) = cB l := by
  have e : (cB l).length = 32 := by rw [cB_len, h]
  simp [splice, e]
  simp [cB]
theorem und44 : Try.prog.underlying 48 = some (.array 32 5) := by kernel_rfl
theorem all_one (l : List Nat) : (cB l).toArray.all (·.oneCell') = true := by
  rw [Array.all_eq_true_iff_forall_mem]
  intro v hv
  exact cB_one l v (by simpa using hv)
set_option maxHeartbeats 1000000 in
set_option maxRecDepth 100000 in
theorem filled_any (ad : Option Addr) (cap : Nat) (l : List Nat) (w : World) (h : RdB w ad l) (hl : l.length = 32) : Calls Try.prog 45 #[.slice ad 32 cap] w fun e w' => e = .returned (.agg (cB l).toArray) ∧ Below w.heap.size w w' := by
  have hs := slS
  obtain ⟨w1, hw1⟩ : ∃ w1, w.alloc (.cells #[.int .u8 0, .int .u8 0, .int .u8 0, .int .u8 0, .int .u8 0, .int .u8 0, .int .u8 0, .int .u8 0, .int .u8 0, .int .u8 0, .int .u8 0, .int .u8 0, .int .u8 0, .int .u8 0, .int .u8 0, .int .u8 0, .int .u8 0, .int .u8 0, .int .u8 0, .int .u8 0, .int .u8 0, .int .u8 0, .int .u8 0, .int .u8 0, .int .u8 0, .int .u8 0, .int .u8 0, .int .u8 0, .int .u8 0, .int .u8 0, .int .u8 0, .int .u8 0] 48) = w1 := ⟨_, rfl⟩
  have hb1 : Below w.heap.size w w1 := by rw [← hw1]; exact al1' _ _
  have hg1 : w1.heap[w.heap.size]? = some (.cells (cB (List.replicate 32 0)).toArray 48 (0, 0)) := by rw [← hw1, ← litS]; exact new_at rfl
  obtain ⟨w2, hw2⟩ : ∃ w2, w1.alloc (.cells #[.int .u8 0, .int .u8 0, .int .u8 0, .int .u8 0, .int .u8 0, .int .u8 0, .int .u8 0, .int .u8 0, .int .u8 0, .int .u8 0, .int .u8 0, .int .u8 0, .int .u8 0, .int .u8 0, .int .u8 0, .int .u8 0, .int .u8 0, .int .u8 0, .int .u8 0, .int .u8 0, .int .u8 0, .int .u8 0, .int .u8 0, .int .u8 0, .int .u8 0, .int .u8 0, .int .u8 0, .int .u8 0, .int .u8 0, .int .u8 0, .int .u8 0, .int .u8 0] 48) = w2 := ⟨_, rfl⟩
  have hb2 : Below w1.heap.size w1 w2 := by rw [← hw2]; exact al1' _ _
  have hg2 : w2.heap[w1.heap.size]? = some (.cells (cB (List.replicate 32 0)).toArray 48 (0, 0)) := by rw [← hw2, ← litS]; exact new_at rfl
  have hg12 := (hb2.block _ (lt_at hg1)).trans hg1
  have hlt := lt_at hg1
  have h2 := h.carry (bel2 hb1 hb2)
  have hsrc : 0 < (cB l).length → some (⟨w1.heap.size, 0, none⟩ : Addr) = some ⟨w1.heap.size, 0, none⟩ ∧ ∃ a, ad = some a ∧ ∀ j v, (cB l)[j]? = some v → w2.cell? (a.add j) = some v := fun hp => by
    obtain ⟨b, off, rfl, hbl, hat⟩ := h2 (fun e => by subst e; simp [cB] at hp)
    exact ⟨rfl, _, rfl, b_src hat⟩
  go_enter Try.func45, Try.ntmps45
  have hzl : (Try.prog.info? 48).map (·.size) = some (cB l).toArray.size := by rw [List.size_toArray, cB_len, hl]; exact infoS
  have hzo : (cB (List.replicate 32 0)).toArray.size = (cB l).toArray.size := by rw [List.size_toArray, List.size_toArray, cB_len, cB_len, hl, List.length_replicate]
  go_wp2_with (first | (refine wpList_copy_splice rfl _ _ _ _ rfl 5 Try.underlying62 infoB1 _ ad _ _ 32 cap rfl rfl w1.heap.size 0 (cB (List.replicate 32 0)) 48 hg2 (cB l) (by rw [cB_len, hl]; rfl) hsrc (by rw [cB_len, cB_len, List.length_replicate, hl]; decide) (cB_one l) w1.heap.size w1 hb2 (Nat.le_refl _) ?_; intro u HU hbu; rw [spl32 l hl] at HU) | (refine wpList_load_row rfl 48 (.tmp 3) rfl w1.heap.size rfl 48 (cB l).toArray (0, 0) _ HU.out und44 rfl hzl ?_) | (refine wpList_store_row rfl 48 (.tmp 2) (.tmp 7) rfl w.heap.size (cB l).toArray rfl rfl 48 (cB (List.replicate 32 0)).toArray ((hbu.block _ hlt).trans hg1) hzl hzo (all_one l) ?_; obtain ⟨v, hv⟩ : ∃ v, u.setRow w.heap.size (cB l).toArray = v := ⟨_, rfl⟩; have HV : Hid (v.heap[w.heap.size]? = some (.cells (cB l).toArray 48 (0, 0))) := (by rw [← hv]; exact setRow_heap _ _ _ _ _ _ ((hbu.block _ hlt).trans hg1)); have HB : Hid (Below w.heap.size w v) := (by rw [← hv]; exact below_setRow (bel2 hb1 hbu) (Nat.le_refl _) _)))
  (try simp only [Exit.inBlock, Exit.then])
  refine bodyPost_ret (results_cell_row rfl _ _ w.heap.size _ (cB l).toArray (0, 0) _ rfl HV.out und44 rfl hzl) rfl ?_
  exact ⟨rfl, HB.out⟩
end Go.Proofs.Ytjleggnkacmbbaa
