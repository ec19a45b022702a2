/- slot's (entry).image: what it answers. -/
import Derived.Test.YtjleggnkacmbbaaLtb
namespace Go.Proofs.Ytjleggnkacmbbaa
open Go.RowKit Go.Shelf

def z64 : List Nat := List.replicate 64 0
theorem zerI : ∀ w : World, (zeroValue 100).run Try.prog w = .ok (.agg (cB z64).toArray) w := (zero_of_info (n := 64) (by kernel_rfl)).1
theorem infoI : (Try.prog.info? 100).map (·.size) = some 64 := by kernel_rfl
theorem undI : Try.prog.underlying 100 = some (.array 64 5) := by kernel_rfl
theorem slI (g a b : Nat) (w : World) (ha : a < 64) (hab : a ≤ b) (hb : b ≤ 64) : (Instr.sliceAt 100 (.pointer (some ⟨g, 0, none⟩)) (some (.int .i64 (a : Int))) (some (.int .i64 (b : Int))) none).run Try.prog w = .ok (.slice (some ⟨g, a, none⟩) (b - a) (64 - a)) w := by
  have h1 : (b : Int) ≤ 64 := by omega
  have h2 : (a : Int) ≤ (b : Int) := by omega
  have h3 : ¬ 64 = a := by omega
  go_simp
theorem field_e0 (W : World) (B : Nat) : (Instr.fieldAt 84 (.pointer (some ⟨B, 0, none⟩)) 0).run Try.prog W = .ok (.pointer (some ⟨B, 0, none⟩)) W := by go_simp
theorem field_e1 (W : World) (B : Nat) : (Instr.fieldAt 84 (.pointer (some ⟨B, 0, none⟩)) 1).run Try.prog W = .ok (.pointer (some ⟨B, 3, none⟩)) W := by go_simp
theorem field_r0 (W : World) (B : Nat) : (Instr.fieldAt 36 (.pointer (some ⟨B, 0, none⟩)) 0).run Try.prog W = .ok (.pointer (some ⟨B, 0, none⟩)) W := by go_simp
theorem field_r1 (W : World) (B : Nat) : (Instr.fieldAt 36 (.pointer (some ⟨B, 0, none⟩)) 1).run Try.prog W = .ok (.pointer (some ⟨B, 1, none⟩)) W := by go_simp
theorem field_r2 (W : World) (B : Nat) : (Instr.fieldAt 36 (.pointer (some ⟨B, 0, none⟩)) 2).run Try.prog W = .ok (.pointer (some ⟨B, 2, none⟩)) W := by go_simp
theorem load_i64 {W : World} {B o : Nat} {x : Int} (h : W.cell? ⟨B, o, none⟩ = some (.int .i64 x)) : (Instr.loadAt 3 (.pointer (some ⟨B, o, none⟩))).run Try.prog W = .ok (.int .i64 x) W := by go_simp
/-- While a slot's bytes are laid. -/
def JI (w : World) (E : Array Value) (L : List Nat) (V : World) : Prop := V.heap[w.heap.size]? = some (.cells E 84 (0, 0)) ∧ V.heap[w.heap.size + 1]? = some (.cells (cB z64).toArray 100 (0, 0)) ∧ V.heap[w.heap.size + 1 + 1]? = some (.cells (cB L).toArray 100 (0, 0)) ∧ L.length = 64 ∧ Below w.heap.size w V
theorem JI.lay {w V : World} {E : Array Value} {L : List Nat} (h : JI w E L V) (off n cap v : Nat) (ho : off + n ≤ 64) (hn : n ≤ 8) : Calls Try.prog 66 #[.slice (some ⟨w.heap.size + 1 + 1, off, none⟩) n cap, .int .i64 (v : Int)] V fun e V' => e = .returned (.tuple #[]) ∧ JI w E (splice L off (numB v n)) V' := by
  obtain ⟨h1, h2, h3, h4, h5⟩ := h
  refine (lay_any V _ off n cap v _ L h3 (by omega) hn).mono ?_
  rintro e V' ⟨rfl, hg, ht⟩
  exact ⟨rfl, (ht.block _ (lt_at h1) (by omega)).trans h1, (ht.block _ (lt_at h2) (by omega)).trans h2, hg, (length_splice _ _ _ (by rw [numB_len]; omega)).trans h4, h5.trans (ht.below (by omega) h5.size)⟩
theorem JI.drew {w V : World} {E : Array Value} {L : List Nat} (h : JI w E L V) : JI w E L V.drew := ⟨h.1, h.2.1, h.2.2.1, h.2.2.2.1, h.2.2.2.2.drew⟩
theorem JI.c {w V : World} {E : Array Value} {L : List Nat} (h : JI w E L V) (k : Nat) (x : Value) (hk : E[k]? = some x) : V.cell? ⟨w.heap.size, k, none⟩ = some x := by
  rw [cell_at h.1]
  exact hk
set_option maxHeartbeats 4000000 in
set_option maxRecDepth 100000 in
theorem eimage_any (a b c s : Nat) (w : World) : Calls Try.prog 58 #[.agg #[.int .i64 (a : Int), .int .i64 (b : Int), .int .i64 (c : Int), .int .i64 (s : Int)]] w fun e w' => e = .returned (.agg (cB (slN a b c s)).toArray) ∧ Below w.heap.size w w' := by
  have hz := zerI
  obtain ⟨Z, hZ⟩ : ∃ Z, (cB z64).toArray = Z := ⟨_, rfl⟩
  rw [hZ] at hz
  have hmx : Try.prog.follows .mixedOrders = true := by kernel_rfl
  obtain ⟨E, hE⟩ : ∃ E : Array Value, #[.int .i64 (a : Int), .int .i64 (b : Int), .int .i64 (c : Int), .int .i64 (s : Int)] = E := ⟨_, rfl⟩
  obtain ⟨w3, hw3⟩ : ∃ w3, ((w.alloc (.cells E 84)).alloc (.cells Z 100)).alloc (.cells Z 100) = w3 := ⟨_, rfl⟩
  have hj : JI w E z64 w3 := by
    rw [← hw3]
    refine ⟨old_at (old_at (new_at rfl)), ?_, ?_, by simp [z64], bel2 (bel2 (al1' _ _) (al1' _ _)) (al1' _ _)⟩
    · rw [hZ]
      exact old_at (new_at (by simp))
    · rw [hZ]
      exact new_at (by simp)
  have h0 : Calls Try.prog 66 #[.slice (some ⟨w.heap.size + 1 + 1, 0, none⟩) 4 64, .int .i64 1700885041] w3 (fun e V' => e = .returned (.tuple #[]) ∧ JI w E (splice z64 0 (numB 1700885041 4)) V') := hj.lay 0 4 64 1700885041 (by omega) (by omega)
  go_enter Try.func58, Try.ntmps58
  go_wp2_with (go_at_call 66; (with_reducible refine h0.mono ?_); rintro e u1 ⟨rfl, j1⟩)
  rename_i hK
  refine wp_region_any hmx ?_
  refine wpAny_last 3 (fun i__ => ([(.slice (some ⟨w.heap.size + 1 + 1, 4, none⟩) 8 60), (.pointer (some ⟨w.heap.size, 3, none⟩)), (.int .i64 (s : Int)), (.tuple #[])] : List Value).getD i__ undef) (JI w E (splice z64 0 (numB 1700885041 4))) (JI w E (splice (splice z64 0 (numB 1700885041 4)) 4 (numB s 8))) rfl (by kernel_rfl) (by kernel_rfl) (j1.drew) ?_ ?_  ?_
  · refine (stepsFrom_cons ?_ (stepsFrom_cons ?_ (stepsFrom_cons ?_ trivial)))
    · exact step_slice rfl trivial _ _ _ _ _ (some (Go.Value.int Go.IntKind.i64 4)) (some (Go.Value.int Go.IntKind.i64 12)) rfl rfl rfl rfl (fun v hw => slI _ 4 12 v (by omega) (by omega) (by omega))
    · exact step_fieldAddr rfl trivial _ _ _ _ rfl rfl (fun v hw => field_e1 v _)
    · exact step_load rfl trivial _ _ _ rfl rfl (fun v hw => load_i64 (hw.c 3 _ (by rw [← hE]; rfl)))
  · intro o ho
    cases ho
    exact step_call rfl trivial 66 _ _ [(.slice (some ⟨w.heap.size + 1 + 1, 4, none⟩) 8 60), (.int .i64 (s : Int))] rfl (by kernel_rfl) (enters_of Try.func66 (by kernel_rfl) rfl) (fun v hw => hw.lay 4 8 60 s (by omega) (by omega))
  intro W hW
  first | refine hK _ _ ?_ | refine (‹∀ (a : Act) (w : World), Code.wp Try.prog _ _ a w → _›) _ _ ?_
  simp only [finL, List.getD_cons_zero, List.getD_cons_succ, Nat.zero_add, Nat.reduceAdd, List.setIfInBounds_toArray, List.set_cons_zero, List.set_cons_succ]
  clear hK
  go_wp2
  rename_i hK
  refine wp_region_any hmx ?_
  refine wpAny_last 4 (fun i__ => ([(.slice (some ⟨w.heap.size + 1 + 1, 12, none⟩) 4 52), (.pointer (some ⟨w.heap.size, 0, none⟩)), (.pointer (some ⟨w.heap.size, 0, none⟩)), (.int .i64 (a : Int)), (.tuple #[])] : List Value).getD i__ undef) (JI w E (splice (splice z64 0 (numB 1700885041 4)) 4 (numB s 8))) (JI w E (splice (splice (splice z64 0 (numB 1700885041 4)) 4 (numB s 8)) 12 (numB a 4))) rfl (by kernel_rfl) (by kernel_rfl) (hW.drew) ?_ ?_  ?_
  · refine (stepsFrom_cons ?_ (stepsFrom_cons ?_ (stepsFrom_cons ?_ (stepsFrom_cons ?_ trivial))))
    · exact step_slice rfl trivial _ _ _ _ _ (some (Go.Value.int Go.IntKind.i64 12)) (some (Go.Value.int Go.IntKind.i64 16)) rfl rfl rfl rfl (fun v hw => slI _ 12 16 v (by omega) (by omega) (by omega))
    · exact step_fieldAddr rfl trivial _ _ _ _ rfl rfl (fun v hw => field_e0 v _)
    · exact step_fieldAddr rfl trivial _ _ _ _ rfl rfl (fun v hw => field_r0 v _)
    · exact step_load rfl trivial _ _ _ rfl rfl (fun v hw => load_i64 (hw.c 0 _ (by rw [← hE]; rfl)))
  · intro o ho
    cases ho
    exact step_call rfl trivial 66 _ _ [(.slice (some ⟨w.heap.size + 1 + 1, 12, none⟩) 4 52), (.int .i64 (a : Int))] rfl (by kernel_rfl) (enters_of Try.func66 (by kernel_rfl) rfl) (fun v hw => hw.lay 12 4 52 a (by omega) (by omega))
  intro W hW
  first | refine hK _ _ ?_ | refine (‹∀ (a : Act) (w : World), Code.wp Try.prog _ _ a w → _›) _ _ ?_
  simp only [finL, List.getD_cons_zero, List.getD_cons_succ, Nat.zero_add, Nat.reduceAdd, List.setIfInBounds_toArray, List.set_cons_zero, List.set_cons_succ]
  clear hK
  go_wp2
  rename_i hK
  refine wp_region_any hmx ?_
  refine wpAny_last 4 (fun i__ => ([(.slice (some ⟨w.heap.size + 1 + 1, 16, none⟩) 5 48), (.pointer (some ⟨w.heap.size, 0, none⟩)), (.pointer (some ⟨w.heap.size, 1, none⟩)), (.int .i64 (b : Int)), (.tuple #[])] : List Value).getD i__ undef) (JI w E (splice (splice (splice z64 0 (numB 1700885041 4)) 4 (numB s 8)) 12 (numB a 4))) (JI w E (splice (splice (splice (splice z64 0 (numB 1700885041 4)) 4 (numB s 8)) 12 (numB a 4)) 16 (numB b 5))) rfl (by kernel_rfl) (by kernel_rfl) (hW.drew) ?_ ?_  ?_
  · refine (stepsFrom_cons ?_ (stepsFrom_cons ?_ (stepsFrom_cons ?_ (stepsFrom_cons ?_ trivial))))
    · exact step_slice rfl trivial _ _ _ _ _ (some (Go.Value.int Go.IntKind.i64 16)) (some (Go.Value.int Go.IntKind.i64 21)) rfl rfl rfl rfl (fun v hw => slI _ 16 21 v (by omega) (by omega) (by omega))
    · exact step_fieldAddr rfl trivial _ _ _ _ rfl rfl (fun v hw => field_e0 v _)
    · exact step_fieldAddr rfl trivial _ _ _ _ rfl rfl (fun v hw => field_r1 v _)
    · exact step_load rfl trivial _ _ _ rfl rfl (fun v hw => load_i64 (hw.c 1 _ (by rw [← hE]; rfl)))
  · intro o ho
    cases ho
    exact step_call rfl trivial 66 _ _ [(.slice (some ⟨w.heap.size + 1 + 1, 16, none⟩) 5 48), (.int .i64 (b : Int))] rfl (by kernel_rfl) (enters_of Try.func66 (by kernel_rfl) rfl) (fun v hw => hw.lay 16 5 48 b (by omega) (by omega))
  intro W hW
  first | refine hK _ _ ?_ | refine (‹∀ (a : Act) (w : World), Code.wp Try.prog _ _ a w → _›) _ _ ?_
  simp only [finL, List.getD_cons_zero, List.getD_cons_succ, Nat.zero_add, Nat.reduceAdd, List.setIfInBounds_toArray, List.set_cons_zero, List.set_cons_succ]
  clear hK
  have h6 : Calls Try.prog 66 #[.slice (some ⟨w.heap.size + 1 + 1, 32, none⟩) 4 32, .int .i64 1700885042] W (fun e V' => e = .returned (.tuple #[]) ∧ JI w E (splice (splice (splice (splice (splice z64 0 (numB 1700885041 4)) 4 (numB s 8)) 12 (numB a 4)) 16 (numB b 5)) 32 (numB 1700885042 4)) V') := hW.lay 32 4 32 1700885042 (by omega) (by omega)
  go_wp2_with (go_at_call 66; (with_reducible refine h6.mono ?_); rintro e u6 ⟨rfl, j6⟩)
  rename_i hK
  refine wp_region_any hmx ?_
  refine wpAny_last 3 (fun i__ => ([(.slice (some ⟨w.heap.size + 1 + 1, 36, none⟩) 8 28), (.pointer (some ⟨w.heap.size, 3, none⟩)), (.int .i64 (s : Int)), (.tuple #[])] : List Value).getD i__ undef) (JI w E (splice (splice (splice (splice (splice z64 0 (numB 1700885041 4)) 4 (numB s 8)) 12 (numB a 4)) 16 (numB b 5)) 32 (numB 1700885042 4))) (JI w E (splice (splice (splice (splice (splice (splice z64 0 (numB 1700885041 4)) 4 (numB s 8)) 12 (numB a 4)) 16 (numB b 5)) 32 (numB 1700885042 4)) 36 (numB s 8))) rfl (by kernel_rfl) (by kernel_rfl) (j6.drew) ?_ ?_  ?_
  · refine (stepsFrom_cons ?_ (stepsFrom_cons ?_ (stepsFrom_cons ?_ trivial)))
    · exact step_slice rfl trivial _ _ _ _ _ (some (Go.Value.int Go.IntKind.i64 36)) (some (Go.Value.int Go.IntKind.i64 44)) rfl rfl rfl rfl (fun v hw => slI _ 36 44 v (by omega) (by omega) (by omega))
    · exact step_fieldAddr rfl trivial _ _ _ _ rfl rfl (fun v hw => field_e1 v _)
    · exact step_load rfl trivial _ _ _ rfl rfl (fun v hw => load_i64 (hw.c 3 _ (by rw [← hE]; rfl)))
  · intro o ho
    cases ho
    exact step_call rfl trivial 66 _ _ [(.slice (some ⟨w.heap.size + 1 + 1, 36, none⟩) 8 28), (.int .i64 (s : Int))] rfl (by kernel_rfl) (enters_of Try.func66 (by kernel_rfl) rfl) (fun v hw => hw.lay 36 8 28 s (by omega) (by omega))
  intro W hW
  first | refine hK _ _ ?_ | refine (‹∀ (a : Act) (w : World), Code.wp Try.prog _ _ a w → _›) _ _ ?_
  simp only [finL, List.getD_cons_zero, List.getD_cons_succ, Nat.zero_add, Nat.reduceAdd, List.setIfInBounds_toArray, List.set_cons_zero, List.set_cons_succ]
  clear hK
  go_wp2
  rename_i hK
  refine wp_region_any hmx ?_
  refine wpAny_last 4 (fun i__ => ([(.slice (some ⟨w.heap.size + 1 + 1, 44, none⟩) 3 20), (.pointer (some ⟨w.heap.size, 0, none⟩)), (.pointer (some ⟨w.heap.size, 2, none⟩)), (.int .i64 (c : Int)), (.tuple #[])] : List Value).getD i__ undef) (JI w E (splice (splice (splice (splice (splice (splice z64 0 (numB 1700885041 4)) 4 (numB s 8)) 12 (numB a 4)) 16 (numB b 5)) 32 (numB 1700885042 4)) 36 (numB s 8))) (JI w E (splice (splice (splice (splice (splice (splice (splice z64 0 (numB 1700885041 4)) 4 (numB s 8)) 12 (numB a 4)) 16 (numB b 5)) 32 (numB 1700885042 4)) 36 (numB s 8)) 44 (numB c 3))) rfl (by kernel_rfl) (by kernel_rfl) (hW.drew) ?_ ?_  ?_
  · refine (stepsFrom_cons ?_ (stepsFrom_cons ?_ (stepsFrom_cons ?_ (stepsFrom_cons ?_ trivial))))
    · exact step_slice rfl trivial _ _ _ _ _ (some (Go.Value.int Go.IntKind.i64 44)) (some (Go.Value.int Go.IntKind.i64 47)) rfl rfl rfl rfl (fun v hw => slI _ 44 47 v (by omega) (by omega) (by omega))
    · exact step_fieldAddr rfl trivial _ _ _ _ rfl rfl (fun v hw => field_e0 v _)
    · exact step_fieldAddr rfl trivial _ _ _ _ rfl rfl (fun v hw => field_r2 v _)
    · exact step_load rfl trivial _ _ _ rfl rfl (fun v hw => load_i64 (hw.c 2 _ (by rw [← hE]; rfl)))
  · intro o ho
    cases ho
    exact step_call rfl trivial 66 _ _ [(.slice (some ⟨w.heap.size + 1 + 1, 44, none⟩) 3 20), (.int .i64 (c : Int))] rfl (by kernel_rfl) (enters_of Try.func66 (by kernel_rfl) rfl) (fun v hw => hw.lay 44 3 20 c (by omega) (by omega))
  intro W hW
  first | refine hK _ _ ?_ | refine (‹∀ (a : Act) (w : World), Code.wp Try.prog _ _ a w → _›) _ _ ?_
  simp only [finL, List.getD_cons_zero, List.getD_cons_succ, Nat.zero_add, Nat.reduceAdd, List.setIfInBounds_toArray, List.set_cons_zero, List.set_cons_succ]
  clear hK
  have hW2 : JI w E (slN a b c s) W := hW
  obtain ⟨S, hS⟩ : ∃ S, slN a b c s = S := ⟨_, rfl⟩
  rw [hS] at hW2
  have HS : Hid (slN a b c s = S) := hS
  obtain ⟨hx1, hx2, hx3, hx4, hx5⟩ := hW2
  have hzl : (Try.prog.info? 100).map (·.size) = some (cB S).toArray.size := by rw [List.size_toArray, cB_len, hx4]; exact infoI
  have hzo : (cB z64).toArray.size = (cB S).toArray.size := by rw [List.size_toArray, List.size_toArray, cB_len, cB_len, hx4]; rfl
  clear hW hS hj h0
  go_wp2_with (first | (refine wpList_load_row rfl 100 (.tmp 3) rfl (w.heap.size + 1 + 1) rfl 100 (cB S).toArray (0, 0) _ hx3 undI rfl hzl ?_) | (refine wpList_store_row rfl 100 (.tmp 2) (.tmp 31) rfl (w.heap.size + 1) (cB S).toArray rfl rfl 100 (cB z64).toArray hx2 hzl hzo (all_one S) ?_; obtain ⟨v, hv⟩ : ∃ v, W.setRow (w.heap.size + 1) (cB S).toArray = v := ⟨_, rfl⟩; have HV : Hid (v.heap[w.heap.size + 1]? = some (.cells (cB S).toArray 100 (0, 0))) := (by rw [← hv]; exact setRow_heap _ _ _ _ _ _ hx2); have HB : Hid (Below w.heap.size w v) := (by rw [← hv]; exact below_setRow hx5 (by omega) _); rw [hv]))
  (try simp only [Exit.inBlock, Exit.then])
  refine bodyPost_ret (results_cell_row rfl _ _ (w.heap.size + 1) _ (cB S).toArray (0, 0) _ rfl HV.out undI rfl hzl) rfl ?_
  exact ⟨by rw [HS.out], HB.out⟩
end Go.Proofs.Ytjleggnkacmbbaa
