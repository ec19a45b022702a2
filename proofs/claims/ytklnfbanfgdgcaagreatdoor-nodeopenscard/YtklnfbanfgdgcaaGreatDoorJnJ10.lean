/- slot's (entry).image: what it answers. -/
import Derived.Test.YtklnfbanfgdgcaaGreatDoorJnJ9
import Derived.ChangeKeysEq
set_option maxHeartbeats 40000000
set_option maxRecDepth 100000
set_option linter.unusedVariables false
namespace Go.Proofs.YtklnfbanfgdgcaaGreatDoor
open Go.RowKit Go.Shelf

def z64 : List Nat := List.replicate 64 0
theorem zerI : ∀ w : World, (zeroValue 334).run Tryz.prog w = .ok (.agg (cB z64).toArray) w := (zero_of_info (n := 64) (by kernel_rfl)).1
theorem infoI : (Tryz.prog.info? 334).map (·.size) = some 64 := by kernel_rfl
theorem undI : Tryz.prog.underlying 334 = some (.array 64 5) := by kernel_rfl
theorem slI (g a b : Nat) (w : World) (ha : a < 64) (hab : a ≤ b) (hb : b ≤ 64) : (Instr.sliceAt 334 (.pointer (some ⟨g, 0, none⟩)) (some (.int .i64 (a : Int))) (some (.int .i64 (b : Int))) none).run Tryz.prog w = .ok (.slice (some ⟨g, a, none⟩) (b - a) (64 - a)) w := by
  have h1 : (b : Int) ≤ 64 := by omega
  have h2 : (a : Int) ≤ (b : Int) := by omega
  have h3 : ¬ 64 = a := by omega
  go_simp
theorem field_e0 (W : World) (B : Nat) : (Instr.fieldAt 269 (.pointer (some ⟨B, 0, none⟩)) 0).run Tryz.prog W = .ok (.pointer (some ⟨B, 0, none⟩)) W := by go_simp
theorem field_e1 (W : World) (B : Nat) : (Instr.fieldAt 269 (.pointer (some ⟨B, 0, none⟩)) 1).run Tryz.prog W = .ok (.pointer (some ⟨B, 3, none⟩)) W := by go_simp
theorem field_r0Z (W : World) (B : Nat) : (Instr.fieldAt 23 (.pointer (some ⟨B, 0, none⟩)) 0).run Tryz.prog W = .ok (.pointer (some ⟨B, 0, none⟩)) W := by go_simp
theorem field_r1Z (W : World) (B : Nat) : (Instr.fieldAt 23 (.pointer (some ⟨B, 0, none⟩)) 1).run Tryz.prog W = .ok (.pointer (some ⟨B, 1, none⟩)) W := by go_simp
theorem field_r2Z (W : World) (B : Nat) : (Instr.fieldAt 23 (.pointer (some ⟨B, 0, none⟩)) 2).run Tryz.prog W = .ok (.pointer (some ⟨B, 2, none⟩)) W := by go_simp
theorem load_i64Z {W : World} {B o : Nat} {x : Int} (h : W.cell? ⟨B, o, none⟩ = some (.int .i64 x)) : (Instr.loadAt 3 (.pointer (some ⟨B, o, none⟩))).run Tryz.prog W = .ok (.int .i64 x) W := by go_simp
/-- While a slot's bytes are laid. -/
def JIZ (w : World) (E : Array Value) (L : List Nat) (V : World) : Prop := V.heap[w.heap.size]? = some (.cells E 269 (0, 0)) ∧ V.heap[w.heap.size + 1]? = some (.cells (cB z64).toArray 334 (0, 0)) ∧ V.heap[w.heap.size + 1 + 1]? = some (.cells (cB L).toArray 334 (0, 0)) ∧ L.length = 64 ∧ Below w.heap.size w V
theorem JIZ.lay {w V : World} {E : Array Value} {L : List Nat} (h : JIZ w E L V) (off n cap v : Nat) (ho : off + n ≤ 64) (hn : n ≤ 8) : Calls Tryz.prog 272 #[.slice (some ⟨w.heap.size + 1 + 1, off, none⟩) n cap, .int .i64 (v : Int)] V fun e V' => e = .returned (.tuple #[]) ∧ JIZ w E (splice L off (numB v n)) V' := by
  obtain ⟨h1, h2, h3, h4, h5⟩ := h
  refine (lay_any V _ off n cap v _ L h3 (by omega) hn).mono ?_
  rintro e V' ⟨rfl, hg, ht⟩
  exact ⟨rfl, (ht.block _ (lt_at h1) (by omega)).trans h1, (ht.block _ (lt_at h2) (by omega)).trans h2, hg, (length_splice _ _ _ (by rw [numB_len]; omega)).trans h4, h5.trans (ht.below (by omega) h5.size)⟩
theorem JIZ.drew {w V : World} {E : Array Value} {L : List Nat} (h : JIZ w E L V) : JIZ w E L V.drew := ⟨h.1, h.2.1, h.2.2.1, h.2.2.2.1, h.2.2.2.2.drew⟩
theorem JIZ.c {w V : World} {E : Array Value} {L : List Nat} (h : JIZ w E L V) (k : Nat) (x : Value) (hk : E[k]? = some x) : V.cell? ⟨w.heap.size, k, none⟩ = some x := by
  rw [cell_at h.1]
  exact hk
set_option maxHeartbeats 4000000 in
set_option maxRecDepth 100000 in
theorem eimage_any (a b c s : Nat) (w : World) : Calls Tryz.prog 230 #[.agg #[.int .i64 (a : Int), .int .i64 (b : Int), .int .i64 (c : Int), .int .i64 (s : Int)]] w fun e w' => e = .returned (.agg (cB (slN a b c s)).toArray) ∧ Below w.heap.size w w' := by
  have hz := zerI
  obtain ⟨Z, hZ⟩ : ∃ Z, (cB z64).toArray = Z := ⟨_, rfl⟩
  rw [hZ] at hz
  have hmx : Tryz.prog.follows .mixedOrders = true := by kernel_rfl
  obtain ⟨E, hE⟩ : ∃ E : Array Value, #[.int .i64 (a : Int), .int .i64 (b : Int), .int .i64 (c : Int), .int .i64 (s : Int)] = E := ⟨_, rfl⟩
  obtain ⟨w3, hw3⟩ : ∃ w3, ((w.alloc (.cells E 269)).alloc (.cells Z 334)).alloc (.cells Z 334) = w3 := ⟨_, rfl⟩
  have hj : JIZ w E z64 w3 := by
    rw [← hw3]
    refine ⟨old_at (old_at (new_at rfl)), ?_, ?_, by simp [z64], bel2Z (bel2Z (al1'Z _ _) (al1'Z _ _)) (al1'Z _ _)⟩
    · rw [hZ]
      exact old_at (new_at (by simp))
    · rw [hZ]
      exact new_at (by simp)
  have h0 : Calls Tryz.prog 272 #[.slice (some ⟨w.heap.size + 1 + 1, 0, none⟩) 4 64, .int .i64 1700885041] w3 (fun e V' => e = .returned (.tuple #[]) ∧ JIZ w E (splice z64 0 (numB 1700885041 4)) V') := hj.lay 0 4 64 1700885041 (by omega) (by omega)
  go_enter Tryz.func230, Tryz.ntmps230
  go_wp2_with (go_at_call 272; (with_reducible refine h0.mono ?_); rintro e u1 ⟨rfl, j1⟩)
  rename_i hK
  refine wp_region_any hmx ?_
  refine wpAny_last 3 (fun i__ => ([(.slice (some ⟨w.heap.size + 1 + 1, 4, none⟩) 8 60), (.pointer (some ⟨w.heap.size, 3, none⟩)), (.int .i64 (s : Int)), (.tuple #[])] : List Value).getD i__ undef) (JIZ w E (splice z64 0 (numB 1700885041 4))) (JIZ w E (splice (splice z64 0 (numB 1700885041 4)) 4 (numB s 8))) rfl (by kernel_rfl) (by kernel_rfl) (j1.drew) ?_ ?_  ?_
  · refine (stepsFrom_cons ?_ (stepsFrom_cons ?_ (stepsFrom_cons ?_ trivial)))
    · exact step_slice rfl trivial _ _ _ _ _ (some (Go.Value.int Go.IntKind.i64 4)) (some (Go.Value.int Go.IntKind.i64 12)) rfl rfl rfl rfl (fun v hw => slI _ 4 12 v (by omega) (by omega) (by omega))
    · exact step_fieldAddr rfl trivial _ _ _ _ rfl rfl (fun v hw => field_e1 v _)
    · exact step_load rfl trivial _ _ _ rfl rfl (fun v hw => load_i64Z (hw.c 3 _ (by rw [← hE]; rfl)))
  · intro o ho
    cases ho
    exact step_call rfl trivial 272 _ _ [(.slice (some ⟨w.heap.size + 1 + 1, 4, none⟩) 8 60), (.int .i64 (s : Int))] rfl (by kernel_rfl) (enters_of Tryz.func272 (by kernel_rfl) rfl) (fun v hw => hw.lay 4 8 60 s (by omega) (by omega))
  intro W hW
  first | refine hK _ _ ?_ | refine (‹∀ (a : Act) (w : World), Code.wp Tryz.prog _ _ a w → _›) _ _ ?_ | skip
  simp only [finL, List.getD_cons_zero, List.getD_cons_succ, Nat.zero_add, Nat.reduceAdd, List.setIfInBounds_toArray, List.set_cons_zero, List.set_cons_succ]
  clear hK
  go_wp2
  rename_i hK
  refine wp_region_any hmx ?_
  refine wpAny_last 4 (fun i__ => ([(.slice (some ⟨w.heap.size + 1 + 1, 12, none⟩) 4 52), (.pointer (some ⟨w.heap.size, 0, none⟩)), (.pointer (some ⟨w.heap.size, 0, none⟩)), (.int .i64 (a : Int)), (.tuple #[])] : List Value).getD i__ undef) (JIZ w E (splice (splice z64 0 (numB 1700885041 4)) 4 (numB s 8))) (JIZ w E (splice (splice (splice z64 0 (numB 1700885041 4)) 4 (numB s 8)) 12 (numB a 4))) rfl (by kernel_rfl) (by kernel_rfl) (hW.drew) ?_ ?_  ?_
  · refine (stepsFrom_cons ?_ (stepsFrom_cons ?_ (stepsFrom_cons ?_ (stepsFrom_cons ?_ trivial))))
    · exact step_slice rfl trivial _ _ _ _ _ (some (Go.Value.int Go.IntKind.i64 12)) (some (Go.Value.int Go.IntKind.i64 16)) rfl rfl rfl rfl (fun v hw => slI _ 12 16 v (by omega) (by omega) (by omega))
    · exact step_fieldAddr rfl trivial _ _ _ _ rfl rfl (fun v hw => field_e0 v _)
    · exact step_fieldAddr rfl trivial _ _ _ _ rfl rfl (fun v hw => field_r0Z v _)
    · exact step_load rfl trivial _ _ _ rfl rfl (fun v hw => load_i64Z (hw.c 0 _ (by rw [← hE]; rfl)))
  · intro o ho
    cases ho
    exact step_call rfl trivial 272 _ _ [(.slice (some ⟨w.heap.size + 1 + 1, 12, none⟩) 4 52), (.int .i64 (a : Int))] rfl (by kernel_rfl) (enters_of Tryz.func272 (by kernel_rfl) rfl) (fun v hw => hw.lay 12 4 52 a (by omega) (by omega))
  intro W hW
  first | refine hK _ _ ?_ | refine (‹∀ (a : Act) (w : World), Code.wp Tryz.prog _ _ a w → _›) _ _ ?_ | skip
  simp only [finL, List.getD_cons_zero, List.getD_cons_succ, Nat.zero_add, Nat.reduceAdd, List.setIfInBounds_toArray, List.set_cons_zero, List.set_cons_succ]
  clear hK
  go_wp2
  rename_i hK
  refine wp_region_any hmx ?_
  refine wpAny_last 4 (fun i__ => ([(.slice (some ⟨w.heap.size + 1 + 1, 16, none⟩) 5 48), (.pointer (some ⟨w.heap.size, 0, none⟩)), (.pointer (some ⟨w.heap.size, 1, none⟩)), (.int .i64 (b : Int)), (.tuple #[])] : List Value).getD i__ undef) (JIZ w E (splice (splice (splice z64 0 (numB 1700885041 4)) 4 (numB s 8)) 12 (numB a 4))) (JIZ w E (splice (splice (splice (splice z64 0 (numB 1700885041 4)) 4 (numB s 8)) 12 (numB a 4)) 16 (numB b 5))) rfl (by kernel_rfl) (by kernel_rfl) (hW.drew) ?_ ?_  ?_
  · refine (stepsFrom_cons ?_ (stepsFrom_cons ?_ (stepsFrom_cons ?_ (stepsFrom_cons ?_ trivial))))
    · exact step_slice rfl trivial _ _ _ _ _ (some (Go.Value.int Go.IntKind.i64 16)) (some (Go.Value.int Go.IntKind.i64 21)) rfl rfl rfl rfl (fun v hw => slI _ 16 21 v (by omega) (by omega) (by omega))
    · exact step_fieldAddr rfl trivial _ _ _ _ rfl rfl (fun v hw => field_e0 v _)
    · exact step_fieldAddr rfl trivial _ _ _ _ rfl rfl (fun v hw => field_r1Z v _)
    · exact step_load rfl trivial _ _ _ rfl rfl (fun v hw => load_i64Z (hw.c 1 _ (by rw [← hE]; rfl)))
  · intro o ho
    cases ho
    exact step_call rfl trivial 272 _ _ [(.slice (some ⟨w.heap.size + 1 + 1, 16, none⟩) 5 48), (.int .i64 (b : Int))] rfl (by kernel_rfl) (enters_of Tryz.func272 (by kernel_rfl) rfl) (fun v hw => hw.lay 16 5 48 b (by omega) (by omega))
  intro W hW
  first | refine hK _ _ ?_ | refine (‹∀ (a : Act) (w : World), Code.wp Tryz.prog _ _ a w → _›) _ _ ?_ | skip
  simp only [finL, List.getD_cons_zero, List.getD_cons_succ, Nat.zero_add, Nat.reduceAdd, List.setIfInBounds_toArray, List.set_cons_zero, List.set_cons_succ]
  clear hK
  have h6 : Calls Tryz.prog 272 #[.slice (some ⟨w.heap.size + 1 + 1, 32, none⟩) 4 32, .int .i64 1700885042] W (fun e V' => e = .returned (.tuple #[]) ∧ JIZ w E (splice (splice (splice (splice (splice z64 0 (numB 1700885041 4)) 4 (numB s 8)) 12 (numB a 4)) 16 (numB b 5)) 32 (numB 1700885042 4)) V') := hW.lay 32 4 32 1700885042 (by omega) (by omega)
  go_wp2_with (go_at_call 272; (with_reducible refine h6.mono ?_); rintro e u6 ⟨rfl, j6⟩)
  rename_i hK
  refine wp_region_any hmx ?_
  refine wpAny_last 3 (fun i__ => ([(.slice (some ⟨w.heap.size + 1 + 1, 36, none⟩) 8 28), (.pointer (some ⟨w.heap.size, 3, none⟩)), (.int .i64 (s : Int)), (.tuple #[])] : List Value).getD i__ undef) (JIZ w E (splice (splice (splice (splice (splice z64 0 (numB 1700885041 4)) 4 (numB s 8)) 12 (numB a 4)) 16 (numB b 5)) 32 (numB 1700885042 4))) (JIZ w E (splice (splice (splice (splice (splice (splice z64 0 (numB 1700885041 4)) 4 (numB s 8)) 12 (numB a 4)) 16 (numB b 5)) 32 (numB 1700885042 4)) 36 (numB s 8))) rfl (by kernel_rfl) (by kernel_rfl) (j6.drew) ?_ ?_  ?_
  · refine (stepsFrom_cons ?_ (stepsFrom_cons ?_ (stepsFrom_cons ?_ trivial)))
    · exact step_slice rfl trivial _ _ _ _ _ (some (Go.Value.int Go.IntKind.i64 36)) (some (Go.Value.int Go.IntKind.i64 44)) rfl rfl rfl rfl (fun v hw => slI _ 36 44 v (by omega) (by omega) (by omega))
    · exact step_fieldAddr rfl trivial _ _ _ _ rfl rfl (fun v hw => field_e1 v _)
    · exact step_load rfl trivial _ _ _ rfl rfl (fun v hw => load_i64Z (hw.c 3 _ (by rw [← hE]; rfl)))
  · intro o ho
    cases ho
    exact step_call rfl trivial 272 _ _ [(.slice (some ⟨w.heap.size + 1 + 1, 36, none⟩) 8 28), (.int .i64 (s : Int))] rfl (by kernel_rfl) (enters_of Tryz.func272 (by kernel_rfl) rfl) (fun v hw => hw.lay 36 8 28 s (by omega) (by omega))
  intro W hW
  first | refine hK _ _ ?_ | refine (‹∀ (a : Act) (w : World), Code.wp Tryz.prog _ _ a w → _›) _ _ ?_ | skip
  simp only [finL, List.getD_cons_zero, List.getD_cons_succ, Nat.zero_add, Nat.reduceAdd, List.setIfInBounds_toArray, List.set_cons_zero, List.set_cons_succ]
  clear hK
  go_wp2
  rename_i hK
  refine wp_region_any hmx ?_
  refine wpAny_last 4 (fun i__ => ([(.slice (some ⟨w.heap.size + 1 + 1, 44, none⟩) 3 20), (.pointer (some ⟨w.heap.size, 0, none⟩)), (.pointer (some ⟨w.heap.size, 2, none⟩)), (.int .i64 (c : Int)), (.tuple #[])] : List Value).getD i__ undef) (JIZ w E (splice (splice (splice (splice (splice (splice z64 0 (numB 1700885041 4)) 4 (numB s 8)) 12 (numB a 4)) 16 (numB b 5)) 32 (numB 1700885042 4)) 36 (numB s 8))) (JIZ w E (splice (splice (splice (splice (splice (splice (splice z64 0 (numB 1700885041 4)) 4 (numB s 8)) 12 (numB a 4)) 16 (numB b 5)) 32 (numB 1700885042 4)) 36 (numB s 8)) 44 (numB c 3))) rfl (by kernel_rfl) (by kernel_rfl) (hW.drew) ?_ ?_  ?_
  · refine (stepsFrom_cons ?_ (stepsFrom_cons ?_ (stepsFrom_cons ?_ (stepsFrom_cons ?_ trivial))))
    · exact step_slice rfl trivial _ _ _ _ _ (some (Go.Value.int Go.IntKind.i64 44)) (some (Go.Value.int Go.IntKind.i64 47)) rfl rfl rfl rfl (fun v hw => slI _ 44 47 v (by omega) (by omega) (by omega))
    · exact step_fieldAddr rfl trivial _ _ _ _ rfl rfl (fun v hw => field_e0 v _)
    · exact step_fieldAddr rfl trivial _ _ _ _ rfl rfl (fun v hw => field_r2Z v _)
    · exact step_load rfl trivial _ _ _ rfl rfl (fun v hw => load_i64Z (hw.c 2 _ (by rw [← hE]; rfl)))
  · intro o ho
    cases ho
    exact step_call rfl trivial 272 _ _ [(.slice (some ⟨w.heap.size + 1 + 1, 44, none⟩) 3 20), (.int .i64 (c : Int))] rfl (by kernel_rfl) (enters_of Tryz.func272 (by kernel_rfl) rfl) (fun v hw => hw.lay 44 3 20 c (by omega) (by omega))
  intro W hW
  first | refine hK _ _ ?_ | refine (‹∀ (a : Act) (w : World), Code.wp Tryz.prog _ _ a w → _›) _ _ ?_ | skip
  simp only [finL, List.getD_cons_zero, List.getD_cons_succ, Nat.zero_add, Nat.reduceAdd, List.setIfInBounds_toArray, List.set_cons_zero, List.set_cons_succ]
  clear hK
  have hW2 : JIZ w E (slN a b c s) W := hW
  obtain ⟨S, hS⟩ : ∃ S, slN a b c s = S := ⟨_, rfl⟩
  rw [hS] at hW2
  have HS : Hid (slN a b c s = S) := hS
  obtain ⟨hx1, hx2, hx3, hx4, hx5⟩ := hW2
  have hzl : (Tryz.prog.info? 334).map (·.size) = some (cB S).toArray.size := by rw [List.size_toArray, cB_len, hx4]; exact infoI
  have hzo : (cB z64).toArray.size = (cB S).toArray.size := by rw [List.size_toArray, List.size_toArray, cB_len, cB_len, hx4]; rfl
  clear hW hS hj h0
  go_wp2_with (first | (refine wpList_load_row rfl 334 (.tmp 3) rfl (w.heap.size + 1 + 1) rfl 334 (cB S).toArray (0, 0) _ hx3 undI rfl hzl ?_) | (refine wpList_store_row rfl 334 (.tmp 2) (.tmp 31) rfl (w.heap.size + 1) (cB S).toArray rfl rfl 334 (cB z64).toArray hx2 hzl hzo (all_one S) ?_; obtain ⟨v, hv⟩ : ∃ v, W.setRow (w.heap.size + 1) (cB S).toArray = v := ⟨_, rfl⟩; have HV : Hid (v.heap[w.heap.size + 1]? = some (.cells (cB S).toArray 334 (0, 0))) := (by rw [← hv]; exact setRow_heap _ _ _ _ _ _ hx2); have HB : Hid (Below w.heap.size w v) := (by rw [← hv]; exact below_setRow hx5 (by omega) _); rw [hv]))
  (try simp only [Exit.inBlock, Exit.then])
  refine bodyPost_ret (results_cell_row rfl _ _ (w.heap.size + 1) _ (cB S).toArray (0, 0) _ rfl HV.out undI rfl hzl) rfl ?_
  exact ⟨by rw [HS.out], HB.out⟩
end Go.Proofs.YtklnfbanfgdgcaaGreatDoor
namespace Go.Proofs.YtklnfbanfgdgcaaGreatDoor
open Go.RowKit Go.Shelf Go.Lib

theorem eqI (l m : List Nat) (w : World) : ∀ is : List Nat, (∀ j ∈ is, j < l.length ∧ j < m.length) → (Op.eqItems 9999 5 1 (cB l).toArray (cB m).toArray is).run Tryz.prog w = .ok (is.all fun j => decide (l[j]? = m[j]?)) w
  | [], _ => by simp [Op.eqItems]
  | j :: is, h => by
    obtain ⟨h1, h2⟩ := h j (List.mem_cons_self ..)
    obtain ⟨x, hx⟩ := get_lt h1
    obtain ⟨y, hy⟩ := get_lt h2
    have he : Tryz.prog.plainKey 5 = true := by kernel_rfl
    have p1 := run_part_plain (P := Tryz.prog) w he (xs := (cB l).toArray) (off := j * 1) (by rw [Nat.mul_one, List.getElem?_toArray]; exact cB_get hx)
    have p2 := run_part_plain (P := Tryz.prog) w he (xs := (cB m).toArray) (off := j * 1) (by rw [Nat.mul_one, List.getElem?_toArray]; exact cB_get hy)
    have p3 := run_equalIn_int (P := Tryz.prog) w 9998 5 .u8 .u8 (x : Int) (y : Int) Tryz.underlying5
    have ih := eqI l m w is (fun i hi => h i (List.mem_cons_of_mem _ hi))
    rw [Op.eqItems]
    simp only [Sem.run_bind, p1, p2, Result.andThen_ok]
    rw [p3]
    simp only [Result.andThen_ok]
    rw [List.all_cons, hx, hy]
    by_cases e : x = y
    · subst e
      simp [ih]
    · have h2 : ((x : Int) == (y : Int)) = false := by simp; omega
      simp [e, h2]
theorem all_range (l m : List Nat) (h : l.length = 64) (k : m.length = 64) : ((List.range 64).all fun j => decide (l[j]? = m[j]?)) = decide (l = m) := by
  rw [Bool.eq_iff_iff, List.all_eq_true, decide_eq_true_iff]
  constructor
  · intro q
    refine List.ext_getElem? fun j => ?_
    by_cases hj : j < 64
    · exact of_decide_eq_true (q j (List.mem_range.2 hj))
    · rw [List.getElem?_eq_none (by omega), List.getElem?_eq_none (by omega)]
  · rintro rfl j _
    simp
theorem eqIm (l m : List Nat) (h : l.length = 64) (k : m.length = 64) (w : World) : (Op.equalIn 10000 334 (.agg (cB l).toArray) (.agg (cB m).toArray)).run Tryz.prog w = .ok (decide (l = m)) w := by
  have hi : (Tryz.prog.info? 5).isSome = true := by kernel_rfl
  obtain ⟨i, hi⟩ := Option.isSome_iff_exists.1 hi
  have hc : Tryz.prog.cellsOf 5 = 1 := by kernel_rfl
  rw [run_equalIn_array w 9999 _ _ undI hi, hc, eqI l m w _ (fun j hj => by have := List.mem_range.1 hj; omega), all_range l m h k]
theorem neqI (x y : Operand) (l m : List Nat) (h : l.length = 64) (k : m.length = 64) (w : World) : binRun Tryz.prog .neq 334 x y (.agg (cB l).toArray) (.agg (cB m).toArray) w = .ok (.bool (!decide (l = m))) w := by
  have h := eqIm l m h k w
  unfold binRun
  go_simp
theorem neqI_t (x y : Operand) {l m : List Nat} (h : l.length = 64) (k : m.length = 64) (hn : ¬ l = m) (w : World) : binRun Tryz.prog .neq 334 x y (.agg (cB l).toArray) (.agg (cB m).toArray) w = .ok (.bool true) w := by
  rw [neqI x y l m h k w, decide_eq_false hn]
  rfl
theorem neqI_f (x y : Operand) {l m : List Nat} (h : l.length = 64) (k : m.length = 64) (hn : l = m) (w : World) : binRun Tryz.prog .neq 334 x y (.agg (cB l).toArray) (.agg (cB m).toArray) w = .ok (.bool false) w := by
  rw [neqI x y l m h k w, decide_eq_true hn]
  rfl
section
variable {f : Func} {p q r : Tmp} {ty t : TypeId} {R : Ending → World → Prop} {a : Act} {w : World} {b : Nat} {cs : Array Value} {fr : Nat × Nat} {F} {x y : Value}
theorem retC2Z (hres : f.results = #[.cell p ty, .tmp q]) (hp : a.tmps.getD p undef = .pointer (some ⟨b, 0, none⟩)) (hq : a.tmps.getD q undef = x) (hd : a.defers = []) (hg : w.heap[b]? = some (.cells cs t fr)) (hu : Tryz.prog.underlying ty = some (.struct F)) (hi : (Tryz.prog.info? ty).map (·.size) = some cs.size) (hR : R (.returned (.tuple #[.agg cs, x])) w) : bodyPost Tryz.prog f R .ret a w := by
  refine bodyPost_ret (v := .tuple #[.agg cs, x]) ?_ hd hR
  have h2 := run_loadVar_row (P := Tryz.prog) w b t ty cs fr _ hg hu rfl hi
  have hp' : a.tmps[p]?.getD undef = .pointer (some ⟨b, 0, none⟩) := by simpa using hp
  have hq' : a.tmps[q]?.getD undef = x := by simpa using hq
  simp [results, hres, hp', hq', asAddr, h2]
theorem retC3 (hres : f.results = #[.cell p ty, .tmp q, .tmp r]) (hp : a.tmps.getD p undef = .pointer (some ⟨b, 0, none⟩)) (hq : a.tmps.getD q undef = x) (hr : a.tmps.getD r undef = y) (hd : a.defers = []) (hg : w.heap[b]? = some (.cells cs t fr)) (hu : Tryz.prog.underlying ty = some (.struct F)) (hi : (Tryz.prog.info? ty).map (·.size) = some cs.size) (hR : R (.returned (.tuple #[.agg cs, x, y])) w) : bodyPost Tryz.prog f R .ret a w := by
  refine bodyPost_ret (v := .tuple #[.agg cs, x, y]) ?_ hd hR
  have h2 := run_loadVar_row (P := Tryz.prog) w b t ty cs fr _ hg hu rfl hi
  have hp' : a.tmps[p]?.getD undef = .pointer (some ⟨b, 0, none⟩) := by simpa using hp
  have hq' : a.tmps[q]?.getD undef = x := by simpa using hq
  have hr' : a.tmps[r]?.getD undef = y := by simpa using hr
  simp [results, hres, hp', hq', hr', asAddr, h2]
end
theorem undE : Tryz.prog.underlying 269 = some (.struct ((match Tryz.prog.underlying 269 with | some (.struct f) => f | _ => #[]))) := by kernel_rfl
theorem undR : Tryz.prog.underlying 23 = some (.struct ((match Tryz.prog.underlying 23 with | some (.struct f) => f | _ => #[]))) := by kernel_rfl
theorem infoR : (Tryz.prog.info? 23).map (·.size) = some 3 := by kernel_rfl
theorem boxI (C : Array Value) (w : World) : (Instr.box 334 (.agg C)).run Tryz.prog w = .ok (.pointer (some ⟨w.heap.size, 0, none⟩)) (w.alloc (.cells C 334)) := by kernel_rfl
theorem load_e {W : World} {B : Nat} {a b c s : Value} (h : W.heap[B]? = some (.cells #[a, b, c, s] 269 (0, 0))) : (Instr.loadAt 269 (.pointer (some ⟨B, 0, none⟩))).run Tryz.prog W = .ok (.agg #[a, b, c, s]) W := by
  have c0 := cell_at h 0
  have c1 := cell_at h 1
  have c2 := cell_at h 2
  have c3 := cell_at h 3
  go_simp
theorem load_im {W : World} {B : Nat} {l : List Nat} (h : W.heap[B]? = some (.cells (cB l).toArray 334 (0, 0))) (hl : l.length = 64) : (Instr.loadAt 334 (.pointer (some ⟨B, 0, none⟩))).run Tryz.prog W = .ok (.agg (cB l).toArray) W := by
  have := run_loadVar_row (P := Tryz.prog) W B 334 334 (cB l).toArray (0, 0) _ h undI rfl (by rw [List.size_toArray, cB_len, hl]; exact infoI)
  simp only [Instr.loadAt, Instr.sureAddr, Sem.run_bind, Sem.run_pure, Result.andThen_ok, this]
/-- While a slot's bytes are read. -/
def JY (w : World) (l : List Nat) (E : Array Value) (V : World) : Prop := V.heap[w.heap.size]? = some (.cells (cB l).toArray 334 (0, 0)) ∧ V.heap[w.heap.size + 1]? = some (.cells #[.int .i64 0, .int .i64 0, .int .i64 0, .int .i64 0] 269 (0, 0)) ∧ V.heap[w.heap.size + 1 + 1]? = some (.cells E 269 (0, 0)) ∧ Below w.heap.size w V
theorem JY.drew {w V : World} {l : List Nat} {E : Array Value} (h : JY w l E V) : JY w l E V.drew := ⟨h.1, h.2.1, h.2.2.1, h.2.2.2.drew⟩
theorem JY.carry {w V V' : World} {l : List Nat} {E : Array Value} (h : JY w l E V) (hb : Below V.heap.size V V') : JY w l E V' := ⟨(hb.block _ (lt_at h.1)).trans h.1, (hb.block _ (lt_at h.2.1)).trans h.2.1, (hb.block _ (lt_at h.2.2.1)).trans h.2.2.1, bel2Z h.2.2.2 hb⟩
theorem JY.set {w V : World} {l : List Nat} {E : Array Value} (h : JY w l E V) (k : Nat) (x : Value) : JY w l (E.setIfInBounds k x) (V.setCell ⟨w.heap.size + 1 + 1, k, none⟩ x) :=
  ⟨(Below.heap_setCell _ _ _ _ (show w.heap.size ≠ w.heap.size + 1 + 1 by omega)).trans h.1, (Below.heap_setCell _ _ _ _ (show w.heap.size + 1 ≠ w.heap.size + 1 + 1 by omega)).trans h.2.1, heap_setCell_same _ _ _ _ _ _ h.2.2.1, h.2.2.2.setCell (p := ⟨w.heap.size + 1 + 1, k, none⟩) (show w.heap.size ≤ w.heap.size + 1 + 1 by omega) _⟩
theorem JY.num {w V : World} {l : List Nat} {E : Array Value} (h : JY w l E V) (off n cap : Nat) (hl : off + n ≤ l.length) (hb : Byt l) (hn : n ≤ 8) : Calls Tryz.prog 268 #[.slice (some ⟨w.heap.size, off, none⟩) n cap] V fun e V' => e = .returned (.int .i64 (IntKind.i64.wrap ((valB 0 ((l.drop off).take n) : Nat) : Int))) ∧ V' = V := by
  have hlen : ((l.drop off).take n).length = n := by rw [List.length_take, List.length_drop]; omega
  have hat : BAt V w.heap.size 0 l := fun k x hk => by
    rw [Nat.zero_add, cell_at h.1, List.getElem?_toArray]
    exact cB_get hk
  have hs := hat.sub off n
  rw [Nat.zero_add] at hs
  have := number_any (some ⟨w.heap.size, off, none⟩) cap ((l.drop off).take n) V (fun _ => ⟨_, _, rfl, lt_at h.1, hs⟩) ((hb.drop off).take n) (by omega)
  rw [hlen] at this
  exact this
theorem val_small {l : List Nat} (hb : Byt l) (hl : l.length ≤ 7) : IntKind.i64.wrap ((valB 0 l : Nat) : Int) = ((valB 0 l : Nat) : Int) := by
  have h1 := valB_lt l hb
  have h2 : 2 ^ (8 * l.length) ≤ 2 ^ (8 * 7) := Nat.pow_le_pow_right (by decide) (by omega)
  exact i64_idZ _ (by omega) (by omega)
theorem JY.num7 {w V : World} {l : List Nat} {E : Array Value} (h : JY w l E V) (off n cap : Nat) (hl : off + n ≤ l.length) (hb : Byt l) (hn : n ≤ 7) : Calls Tryz.prog 268 #[.slice (some ⟨w.heap.size, off, none⟩) n cap] V fun e V' => e = .returned (.int .i64 ((valB 0 ((l.drop off).take n) : Nat) : Int)) ∧ V' = V := by
  have := h.num off n cap hl hb (by omega)
  rw [val_small ((hb.drop off).take n) (by rw [List.length_take]; omega)] at this
  exact this
theorem eimage_fit {r : Rec} {s : Int} (h : Fit r s) (w : World) : Calls Tryz.prog 230 #[eV r s] w fun e w' => e = .returned (.agg (cB (slB r s)).toArray) ∧ Below w.heap.size w w' := by
  obtain ⟨⟨⟨h1, h2⟩, ⟨h3, h4⟩, h5, h6⟩, h7, h8⟩ := h
  have := eimage_any r.li.toNat r.ro.toNat r.ta.toNat s.toNat w
  rw [Int.toNat_of_nonneg (by omega), Int.toNat_of_nonneg (by omega), Int.toNat_of_nonneg (by omega), Int.toNat_of_nonneg (by omega)] at this
  exact this
def e0V : Value := .agg #[.int .i64 0, .int .i64 0, .int .i64 0, .int .i64 0]
/-- What says answers. -/
def sayV : Option (Rec × Int) → Value
  | none => .tuple #[e0V, .bool false]
  | some (r, s) => .tuple #[eV r s, .bool true]
theorem infoEZ : (Tryz.prog.info? 269).map (·.size) = some 4 := by kernel_rfl
set_option maxHeartbeats 4000000 in
set_option maxRecDepth 100000 in
theorem says_any (l : List Nat) (hl : l.length = 64) (hb : Byt l) (w : World) : Calls Tryz.prog 227 #[.agg (cB l).toArray] w fun e w' => e = .returned (sayV (say l)) ∧ Below w.heap.size w w' := by
  have hbox := boxI
  have hmx : Tryz.prog.follows .mixedOrders = true := by kernel_rfl
  obtain ⟨C, hC⟩ : ∃ C, (cB l).toArray = C := ⟨_, rfl⟩
  obtain ⟨w3, hw3⟩ : ∃ w3, ((w.alloc (.cells C 334)).alloc (.cells #[.int .i64 0, .int .i64 0, .int .i64 0, .int .i64 0] 269)).alloc (.cells #[.int .i64 0, .int .i64 0, .int .i64 0, .int .i64 0] 269) = w3 := ⟨_, rfl⟩
  have hj : JY w l #[.int .i64 0, .int .i64 0, .int .i64 0, .int .i64 0] w3 := by
    rw [← hw3, ← hC]
    exact ⟨old_at (old_at (new_at rfl)), old_at (new_at (by simp)), new_at (by simp), bel2Z (bel2Z (al1'Z _ _) (al1'Z _ _)) (al1'Z _ _)⟩
  rw [hC]
  obtain ⟨r, hr⟩ : ∃ r, rdR l = r := ⟨_, rfl⟩
  obtain ⟨s, hs⟩ : ∃ s, rdS l = s := ⟨_, rfl⟩
  have n1 := hj.num 4 8 60 (by omega) hb (by omega)
  rw [show IntKind.i64.wrap ((valB 0 ((l.drop 4).take 8) : Nat) : Int) = s from hs] at n1
  obtain ⟨u1, hu1⟩ : ∃ u1, w3.setCell ⟨w.heap.size + 1 + 1, 3, none⟩ (.int .i64 s) = u1 := ⟨_, rfl⟩
  have hj1 := hj.set 3 (.int .i64 s)
  rw [hu1] at hj1
  have n2 := hj1.num7 12 4 52 (by omega) hb (by omega)
  rw [show ((valB 0 ((l.drop 12).take 4) : Nat) : Int) = r.li from by rw [← hr]; rfl] at n2
  obtain ⟨u2, hu2⟩ : ∃ u2, u1.setCell ⟨w.heap.size + 1 + 1, 0, none⟩ (.int .i64 r.li) = u2 := ⟨_, rfl⟩
  have hj2 := hj1.set 0 (.int .i64 r.li)
  rw [hu2] at hj2
  have n3 := hj2.num7 16 5 48 (by omega) hb (by omega)
  rw [show ((valB 0 ((l.drop 16).take 5) : Nat) : Int) = r.ro from by rw [← hr]; rfl] at n3
  obtain ⟨u3, hu3⟩ : ∃ u3, u2.setCell ⟨w.heap.size + 1 + 1, 1, none⟩ (.int .i64 r.ro) = u3 := ⟨_, rfl⟩
  have hj3 := hj2.set 1 (.int .i64 r.ro)
  rw [hu3] at hj3
  have n4 := hj3.num7 44 3 20 (by omega) hb (by omega)
  rw [show ((valB 0 ((l.drop 44).take 3) : Nat) : Int) = r.ta from by rw [← hr]; rfl] at n4
  obtain ⟨u4, hu4⟩ : ∃ u4, u3.setCell ⟨w.heap.size + 1 + 1, 2, none⟩ (.int .i64 r.ta) = u4 := ⟨_, rfl⟩
  have hj4 : JY w l #[.int .i64 r.li, .int .i64 r.ro, .int .i64 r.ta, .int .i64 s] u4 := by
    have := hj3.set 2 (.int .i64 r.ta)
    rw [hu4] at this
    exact this
  have c3 : w3.cell? ⟨w.heap.size + 1 + 1, 3, none⟩ = some (.int .i64 0) := by rw [cell_at hj.2.2.1]; rfl
  have z3 := thaw_at hj.2.2.1 3
  have c0 : u1.cell? ⟨w.heap.size + 1 + 1, 0, none⟩ = some (.int .i64 0) := by rw [cell_at hj1.2.2.1]; rfl
  have z0 := thaw_at hj1.2.2.1 0
  have c1 : u2.cell? ⟨w.heap.size + 1 + 1, 1, none⟩ = some (.int .i64 0) := by rw [cell_at hj2.2.2.1]; rfl
  have z1 := thaw_at hj2.2.2.1 1
  have c2 : u3.cell? ⟨w.heap.size + 1 + 1, 2, none⟩ = some (.int .i64 0) := by rw [cell_at hj3.2.2.1]; rfl
  have z2 := thaw_at hj3.2.2.1 2
  have hfit := fits_any r s
  have HL : Hid (l.length = 64) := hl
  have HS : Hid (say l = if Fit r s ∧ slB r s = l then some (r, s) else none) := by show say l = _; rw [← hr, ← hs]; rfl
  clear hr hs hj3 hj2 hj1 hj
  go_enter Tryz.func227, Tryz.ntmps227
  go_wp2_with (first | (go_at_call 268; (with_reducible refine n1.mono ?_); rintro e v ⟨rfl, hv⟩; obtain rfl := hv.symm) | (go_at_call 268; (with_reducible refine n2.mono ?_); rintro e v ⟨rfl, hv⟩; obtain rfl := hv.symm) | (go_at_call 268; (with_reducible refine n3.mono ?_); rintro e v ⟨rfl, hv⟩; obtain rfl := hv.symm) | (go_at_call 268; (with_reducible refine n4.mono ?_); rintro e v ⟨rfl, hv⟩; obtain rfl := hv.symm))
  by_cases hf : Fit r s
  case neg =>
    rw [decide_eq_false hf] at hfit
    rename_i hK
    refine wp_region_any hmx ?_
    refine wpAny_pure (fun i__ => ([(eV r s), (.bool false), (.bool true), (.bool true), undef, undef, undef, undef, (.bool true)] : List Value).getD i__ undef) (JY w l #[.int .i64 r.li, .int .i64 r.ro, .int .i64 r.ta, .int .i64 s]) (by kernel_rfl) (hj4.drew) ?_ ?_
    · refine (stepsFrom_cons ?_ (stepsFrom_cons ?_ (stepsFrom_cons ?_ (stepsFrom_cons ?_ (stepsFrom_cons ?_ (stepsFrom_cons ?_ (stepsFrom_cons ?_ (stepsFrom_cons ?_ (stepsFrom_cons ?_ trivial)))))))))
      · exact step_load rfl trivial _ _ _ rfl rfl (fun v hw => load_e hw.2.2.1)
      · exact step_call rfl trivial 269 _ _ [(eV r s)] rfl (by kernel_rfl) (enters_of Tryz.func269 (by kernel_rfl) rfl) (fun v hw => (hfit v).mono (by rintro e w' ⟨rfl, hb'⟩; exact ⟨rfl, hw.carry hb'⟩))
      · exact step_unOp rfl trivial _ _ _ _ rfl rfl (fun v hw => by kernel_rfl)
      · exact step_move rfl trivial _ rfl (by kernel_rfl)
      · exact step_skip rfl 3 false 23 (.bool true) rfl rfl (by kernel_rfl) (by intro h; cases h) rfl
      · exact step_skip rfl 3 false 23 (.bool true) rfl rfl (by kernel_rfl) (by intro h; cases h) rfl
      · exact step_skip rfl 3 false 23 (.bool true) rfl rfl (by kernel_rfl) (by intro h; cases h) rfl
      · exact step_skip rfl 3 false 23 (.bool true) rfl rfl (by kernel_rfl) (by intro h; cases h) rfl
      · exact step_pick rfl trivial _ _ _ true rfl (by kernel_rfl) (by kernel_rfl)
    intro W hW
    first | refine hK _ _ ?_ | refine (‹∀ (a : Act) (w : World), Code.wp Tryz.prog _ _ a w → _›) _ _ ?_ | skip
    simp only [finL, List.getD_cons_zero, List.getD_cons_succ, Nat.zero_add, Nat.reduceAdd, List.setIfInBounds_toArray, List.set_cons_zero, List.set_cons_succ]
    clear hK
    have hj5 := hW
    clear hW hj4
    go_wp2_with ((refine wpList_store_row rfl 269 (.tmp 2) (.tmp 29) rfl (w.heap.size + 1) #[.int .i64 0, .int .i64 0, .int .i64 0, .int .i64 0] rfl rfl 269 _ hj5.2.1 infoEZ rfl (by simp [Value.oneCell']) ?_; obtain ⟨v, hv⟩ : ∃ v, W.setRow (w.heap.size + 1) #[.int .i64 0, .int .i64 0, .int .i64 0, .int .i64 0] = v := ⟨_, rfl⟩; have HV : Hid (v.heap[w.heap.size + 1]? = some (.cells #[.int .i64 0, .int .i64 0, .int .i64 0, .int .i64 0] 269 (0, 0))) := (by rw [← hv]; exact setRow_heap _ _ _ _ _ _ hj5.2.1); have HB : Hid (Below w.heap.size w v) := (by rw [← hv]; exact below_setRow hj5.2.2.2 (by omega) _); rw [hv]))
    (try simp only [Exit.inBlock, Exit.then])
    exact retC2Z rfl rfl rfl rfl HV.out undE infoEZ ⟨by rw [HS.out, if_neg (fun q => hf q.1)]; rfl, HB.out⟩
  rw [decide_eq_true hf] at hfit
  have him := eimage_fit hf
  by_cases hq : slB r s = l
  case neg =>
    rename_i hK
    refine wp_region_any hmx ?_
    refine wpAny_pure (fun i__ => ([(eV r s), (.bool true), (.bool false), (.bool false), (eV r s), (.agg (cB (slB r s)).toArray), (.agg (cB l).toArray), (.bool true), (.bool true)] : List Value).getD i__ undef) (JY w l #[.int .i64 r.li, .int .i64 r.ro, .int .i64 r.ta, .int .i64 s]) (by kernel_rfl) (hj4.drew) ?_ ?_
    · refine (stepsFrom_cons ?_ (stepsFrom_cons ?_ (stepsFrom_cons ?_ (stepsFrom_cons ?_ (stepsFrom_cons ?_ (stepsFrom_cons ?_ (stepsFrom_cons ?_ (stepsFrom_cons ?_ (stepsFrom_cons ?_ trivial)))))))))
      · exact step_load rfl trivial _ _ _ rfl rfl (fun v hw => load_e hw.2.2.1)
      · exact step_call rfl trivial 269 _ _ [(eV r s)] rfl (by kernel_rfl) (enters_of Tryz.func269 (by kernel_rfl) rfl) (fun v hw => (hfit v).mono (by rintro e w' ⟨rfl, hb'⟩; exact ⟨rfl, hw.carry hb'⟩))
      · exact step_unOp rfl trivial _ _ _ _ rfl rfl (fun v hw => by kernel_rfl)
      · exact step_move rfl trivial _ rfl (by kernel_rfl)
      · exact step_load rfl (by exact ⟨_, rfl, by kernel_rfl⟩) _ _ _ rfl rfl (fun v hw => load_e hw.2.2.1)
      · exact step_call rfl (by exact ⟨_, rfl, by kernel_rfl⟩) 230 _ _ [(eV r s)] rfl (by kernel_rfl) (enters_of Tryz.func230 (by kernel_rfl) rfl) (fun v hw => (him v).mono (by rintro e w' ⟨rfl, hb'⟩; exact ⟨rfl, hw.carry hb'⟩))
      · exact step_load rfl (by exact ⟨_, rfl, by kernel_rfl⟩) _ _ _ rfl rfl (fun v hw => load_im hw.1 hl)
      · exact step_binOp rfl (by exact ⟨_, rfl, by kernel_rfl⟩) _ _ _ _ _ _ _ rfl rfl rfl (fun v hw => by exact neqI_t _ _ (slB_len r s) hl hq v)
      · exact step_pick rfl trivial _ _ _ false rfl (by kernel_rfl) (by kernel_rfl)
    intro W hW
    first | refine hK _ _ ?_ | refine (‹∀ (a : Act) (w : World), Code.wp Tryz.prog _ _ a w → _›) _ _ ?_ | skip
    simp only [finL, List.getD_cons_zero, List.getD_cons_succ, Nat.zero_add, Nat.reduceAdd, List.setIfInBounds_toArray, List.set_cons_zero, List.set_cons_succ]
    clear hK
    have hj5 := hW
    clear hW hj4
    go_wp2_with ((refine wpList_store_row rfl 269 (.tmp 2) (.tmp 29) rfl (w.heap.size + 1) #[.int .i64 0, .int .i64 0, .int .i64 0, .int .i64 0] rfl rfl 269 _ hj5.2.1 infoEZ rfl (by simp [Value.oneCell']) ?_; obtain ⟨v, hv⟩ : ∃ v, W.setRow (w.heap.size + 1) #[.int .i64 0, .int .i64 0, .int .i64 0, .int .i64 0] = v := ⟨_, rfl⟩; have HV : Hid (v.heap[w.heap.size + 1]? = some (.cells #[.int .i64 0, .int .i64 0, .int .i64 0, .int .i64 0] 269 (0, 0))) := (by rw [← hv]; exact setRow_heap _ _ _ _ _ _ hj5.2.1); have HB : Hid (Below w.heap.size w v) := (by rw [← hv]; exact below_setRow hj5.2.2.2 (by omega) _); rw [hv]))
    (try simp only [Exit.inBlock, Exit.then])
    exact retC2Z rfl rfl rfl rfl HV.out undE infoEZ ⟨by rw [HS.out, if_neg (fun q => hq q.2)]; rfl, HB.out⟩
  case pos =>
    rename_i hK
    refine wp_region_any hmx ?_
    refine wpAny_pure (fun i__ => ([(eV r s), (.bool true), (.bool false), (.bool false), (eV r s), (.agg (cB (slB r s)).toArray), (.agg (cB l).toArray), (.bool false), (.bool false)] : List Value).getD i__ undef) (JY w l #[.int .i64 r.li, .int .i64 r.ro, .int .i64 r.ta, .int .i64 s]) (by kernel_rfl) (hj4.drew) ?_ ?_
    · refine (stepsFrom_cons ?_ (stepsFrom_cons ?_ (stepsFrom_cons ?_ (stepsFrom_cons ?_ (stepsFrom_cons ?_ (stepsFrom_cons ?_ (stepsFrom_cons ?_ (stepsFrom_cons ?_ (stepsFrom_cons ?_ trivial)))))))))
      · exact step_load rfl trivial _ _ _ rfl rfl (fun v hw => load_e hw.2.2.1)
      · exact step_call rfl trivial 269 _ _ [(eV r s)] rfl (by kernel_rfl) (enters_of Tryz.func269 (by kernel_rfl) rfl) (fun v hw => (hfit v).mono (by rintro e w' ⟨rfl, hb'⟩; exact ⟨rfl, hw.carry hb'⟩))
      · exact step_unOp rfl trivial _ _ _ _ rfl rfl (fun v hw => by kernel_rfl)
      · exact step_move rfl trivial _ rfl (by kernel_rfl)
      · exact step_load rfl (by exact ⟨_, rfl, by kernel_rfl⟩) _ _ _ rfl rfl (fun v hw => load_e hw.2.2.1)
      · exact step_call rfl (by exact ⟨_, rfl, by kernel_rfl⟩) 230 _ _ [(eV r s)] rfl (by kernel_rfl) (enters_of Tryz.func230 (by kernel_rfl) rfl) (fun v hw => (him v).mono (by rintro e w' ⟨rfl, hb'⟩; exact ⟨rfl, hw.carry hb'⟩))
      · exact step_load rfl (by exact ⟨_, rfl, by kernel_rfl⟩) _ _ _ rfl rfl (fun v hw => load_im hw.1 hl)
      · exact step_binOp rfl (by exact ⟨_, rfl, by kernel_rfl⟩) _ _ _ _ _ _ _ rfl rfl rfl (fun v hw => by exact neqI_f _ _ (slB_len r s) hl hq v)
      · exact step_pick rfl trivial _ _ _ false rfl (by kernel_rfl) (by kernel_rfl)
    intro W hW
    first | refine hK _ _ ?_ | refine (‹∀ (a : Act) (w : World), Code.wp Tryz.prog _ _ a w → _›) _ _ ?_ | skip
    simp only [finL, List.getD_cons_zero, List.getD_cons_succ, Nat.zero_add, Nat.reduceAdd, List.setIfInBounds_toArray, List.set_cons_zero, List.set_cons_succ]
    clear hK
    have hj5 := hW
    clear hW hj4
    go_wp2_with (first | (refine wpList_load_row rfl 269 (.tmp 4) rfl (w.heap.size + 1 + 1) rfl 269 _ (0, 0) _ hj5.2.2.1 undE rfl infoEZ ?_) | (refine wpList_store_row rfl 269 (.tmp 2) (.tmp 30) rfl (w.heap.size + 1) #[.int .i64 r.li, .int .i64 r.ro, .int .i64 r.ta, .int .i64 s] rfl rfl 269 _ hj5.2.1 infoEZ rfl (by simp [Value.oneCell']) ?_; obtain ⟨v, hv⟩ : ∃ v, W.setRow (w.heap.size + 1) #[.int .i64 r.li, .int .i64 r.ro, .int .i64 r.ta, .int .i64 s] = v := ⟨_, rfl⟩; have HV : Hid (v.heap[w.heap.size + 1]? = some (.cells #[.int .i64 r.li, .int .i64 r.ro, .int .i64 r.ta, .int .i64 s] 269 (0, 0))) := (by rw [← hv]; exact setRow_heap _ _ _ _ _ _ hj5.2.1); have HB : Hid (Below w.heap.size w v) := (by rw [← hv]; exact below_setRow hj5.2.2.2 (by omega) _); rw [hv]))
    (try simp only [Exit.inBlock, Exit.then])
    exact retC2Z rfl rfl rfl rfl HV.out undE infoEZ ⟨by rw [HS.out, if_pos ⟨hf, hq⟩]; rfl, HB.out⟩

/-- A slot's bytes in a block of their own. -/
def ImB (W : World) (g : Nat) (l : List Nat) : Prop := W.heap[g]? = some (.cells (cB l).toArray 334 (0, 0))
theorem ImB.at {W : World} {g : Nat} {l : List Nat} (h : ImB W g l) : BAt W g 0 l := fun k x hk => by
  rw [Nat.zero_add, cell_at h, List.getElem?_toArray]
  exact cB_get hk
def r0A : Array Value := #[.int .i64 0, .int .i64 0, .int .i64 0]
def rA (r : Rec) : Array Value := #[.int .i64 r.li, .int .i64 r.ro, .int .i64 r.ta]
def eA (r : Rec) (s : Int) : Array Value := #[.int .i64 r.li, .int .i64 r.ro, .int .i64 r.ta, .int .i64 s]
theorem store_rec {W : World} {B : Nat} {C : Array Value} {a b c : Int} (h : W.heap[B]? = some (.cells C 23 (0, 0))) (hC : C.size = 3) : (Instr.storeAt 23 (.pointer (some ⟨B, 0, none⟩)) (.agg #[.int .i64 a, .int .i64 b, .int .i64 c])).run Tryz.prog W = .ok () (W.setRow B #[.int .i64 a, .int .i64 b, .int .i64 c]) := by
  have := run_storeVar_row (P := Tryz.prog) W B 23 23 C #[.int .i64 a, .int .i64 b, .int .i64 c] h infoR (by rw [hC]; rfl) (by simp [Value.oneCell'])
  simp only [Instr.storeAt, Instr.sureAddr, Sem.run_bind, Sem.run_pure, Result.andThen_ok, this]
theorem load_er {W : World} {B : Nat} {a b c s : Value} (h : W.heap[B]? = some (.cells #[a, b, c, s] 269 (0, 0))) : (Instr.loadAt 23 (.pointer (some ⟨B, 0, none⟩))).run Tryz.prog W = .ok (.agg #[a, b, c]) W := by
  have c0 := cell_at h 0
  have c1 := cell_at h 1
  have c2 := cell_at h 2
  go_simp
/-- While a record is told. -/
def JP (w : World) (x : Nat) (r : Rec) (s : Int) (b : Bool) (W : World) : Prop := W.heap[w.heap.size]? = some (.cells (if b = true then rA r else r0A) 23 (0, 0)) ∧ W.heap[x]? = some (.cells (eA r s) 269 (0, 0)) ∧ Below w.heap.size w W
theorem JP.store {w : World} {x : Nat} {r : Rec} {s : Int} {b : Bool} {W : World} (h : JP w x r s b W) : ∃ W', (Instr.storeAt 23 (.pointer (some ⟨w.heap.size, 0, none⟩)) (rV r)).run Tryz.prog W = .ok () W' ∧ JP w x r s true W' := by
  refine ⟨_, store_rec h.1 (by cases b <;> rfl), setRow_heap _ _ _ _ _ _ h.1, ?_, below_setRow h.2.2 (Nat.le_refl _) _⟩
  have hx : x ≠ w.heap.size := fun e => by
    have h2 := h.2.1
    rw [e, h.1] at h2
    simp only [Option.some.injEq, Obj.cells.injEq] at h2
    exact absurd h2.2.1 (by decide)
  exact (setRow_other _ _ _ _ hx).trans h.2.1
theorem JP.drew {w : World} {x : Nat} {r : Rec} {s : Int} {b : Bool} {W : World} (h : JP w x r s b W) : JP w x r s b W.drew := ⟨h.1, h.2.1, h.2.2.drew⟩
def decV : Option (Rec × Int) → Value
  | none => .tuple #[.agg r0A, .int .i64 0, .int .i64 70]
  | some (r, s) => .tuple #[rV r, .int .i64 s, .int .i64 0]

/-- A slot's bytes on a disk. -/
def slt (l : List Nat) (q : Nat) : List Nat := (l.drop (64 * q)).take 64
theorem slt_len {l : List Nat} (h : l.length = 256) {q : Nat} (hq : q < 2) : (slt l q).length = 64 := by rw [slt, List.length_take, List.length_drop, h]; omega
theorem slt_byt {l : List Nat} (h : Byt l) (q : Nat) : Byt (slt l q) := (h.drop _).take _
theorem slt_secs (l : List Nat) (q : Nat) : slt l q = secs l (2 * q) ++ secs l (2 * q + 1) := by
  unfold slt secs
  rw [show 32 * (2 * q) = 64 * q by omega, show 32 * (2 * q + 1) = 64 * q + 32 by omega, ← List.drop_drop, show 64 = 32 + 32 from rfl, List.take_add]
theorem rd_at {V : World} {p : Nat} {d : Dst} (h : Dk V p d) (ho : d.off = false) (n : Nat) (z : Int) (hz : z = (n : Int)) (hn : n < 8) : Calls Tryz.prog 267 #[.pointer (some ⟨p, 0, none⟩), .int .i64 z] V fun e w' => ∃ g, e = .returned (.tuple #[.slice (some ⟨g, 32 * n, none⟩) 32 32, .int .i64 0]) ∧ RdB w' (some ⟨g, 32 * n, none⟩) (secs d.l n) ∧ Below V.heap.size V w' := by
  subst hz
  refine (read_ok h n ho hn).mono ?_
  rintro e w' ⟨g, c, rfl, _, hr, hb⟩
  exact ⟨g, rfl, hr.rd, hb⟩
theorem half0 (A : List Nat) (h : A.length = 32) : splice (cB z64) 0 (cB A) = cB (A ++ z64.drop 32) := by
  have e : (cB A).length = 32 := by rw [cB_len, h]
  simp [splice, e, cB_app]
  simp [cB, List.map_drop]
theorem half1 (A B : List Nat) (h : A.length = 32) (k : B.length = 32) : splice (cB (A ++ z64.drop 32)) 32 (cB B) = cB (A ++ B) := by
  have e : (cB A).length = 32 := by rw [cB_len, h]
  have e2 : (cB B).length = 32 := by rw [cB_len, k]
  have e3 : (cB (z64.drop 32)).length = 32 := by rw [cB_len]; rfl
  rw [cB_app, cB_app, splice, List.take_append_of_le_length (by omega), List.take_of_length_le (by omega), e2, List.drop_append, List.drop_of_length_le (by omega), List.nil_append, e, List.drop_of_length_le (by rw [e3]; omega), List.append_nil]
/-- While a slot is read. -/
def JRZ (w : World) (C : List Nat) (V : World) : Prop := V.heap[w.heap.size]? = some (.cells (cB z64).toArray 334 (0, 0)) ∧ V.heap[w.heap.size + 1]? = some (.cells (cB C).toArray 334 (0, 0)) ∧ Below w.heap.size w V
theorem JRZ.carry {w V V' : World} {C : List Nat} (h : JRZ w C V) (hb : Below V.heap.size V V') : JRZ w C V' := ⟨(hb.block _ (lt_at h.1)).trans h.1, (hb.block _ (lt_at h.2.1)).trans h.2.1, bel2Z h.2.2 hb⟩
theorem JRZ.put {w V V' : World} {C C' : List Nat} (h : JRZ w C V) (hu : V'.heap[w.heap.size + 1]? = some (.cells (cB C').toArray 334 (0, 0))) (hb : Below (w.heap.size + 1) V V') : JRZ w C' V' := ⟨(hb.block _ (by omega)).trans h.1, hu, h.2.2.trans (hb.mono (by omega))⟩
section
variable {W : World} {p : Nat} {d : Dst}
set_option maxHeartbeats 4000000 in
set_option maxRecDepth 100000 in
theorem sread_any (h : Dk W p d) (ho : d.off = false) (q : Nat) (hq : q < 2) : Calls Tryz.prog 226 #[.pointer (some ⟨p, 0, none⟩), .int .i64 (q : Int)] W fun e w' => e = .returned (.agg (cB (slt d.l q)).toArray) ∧ Below W.heap.size W w' := by
  have hz := zerI
  obtain ⟨Z, hZ⟩ : ∃ Z, (cB z64).toArray = Z := ⟨_, rfl⟩
  rw [hZ] at hz
  obtain ⟨w2, hw2⟩ : ∃ w2, (W.alloc (.cells Z 334)).alloc (.cells Z 334) = w2 := ⟨_, rfl⟩
  have hj : JRZ W z64 w2 := by
    rw [← hw2]
    refine ⟨?_, ?_, bel2Z (al1'Z _ _) (al1'Z _ _)⟩
    · rw [hZ]
      exact old_at (new_at rfl)
    · rw [hZ]
      exact new_at (by simp)
  have hq : q = 0 ∨ q = 1 := by omega
  rcases hq with rfl | rfl
  · change Calls Tryz.prog 226 #[.pointer (some ⟨p, 0, none⟩), .int .i64 0] W _
    obtain ⟨ZZ, hZZ⟩ : ∃ ZZ, secs d.l 0 = ZZ := ⟨_, rfl⟩
    obtain ⟨YY, hYY⟩ : ∃ YY, secs d.l 1 = YY := ⟨_, rfl⟩
    have hl0 : ZZ.length = 32 := by rw [← hZZ]; exact secs_len h.len (by omega)
    have hl1 : YY.length = 32 := by rw [← hYY]; exact secs_len h.len (by omega)
    have HS : Hid (slt d.l 0 = ZZ ++ YY) := by show slt d.l 0 = _; rw [slt_secs d.l 0, hZZ, hYY]
    have HZ : Hid (secs d.l 0 = ZZ) := hZZ
    have HY : Hid (secs d.l 1 = YY) := hYY
    clear hZZ hYY
    go_enter Tryz.func226, Tryz.ntmps226
    go_wp2
    go_loopw [9] (fun i wz => ∃ (k : Nat) (C : List Nat), i = .int .i64 k ∧ Hid ((k = 0 ∧ C = z64) ∨ (k = 1 ∧ C = ZZ ++ z64.drop 32) ∨ (k = 2 ∧ C = ZZ ++ YY)) ∧ JRZ W C wz) (fun i _ => 2 - vnatZ i)
    case atStart => exact ⟨0, z64, rfl, .inl ⟨rfl, rfl⟩, hj⟩
    case round =>
      obtain ⟨k, C, rfl, HC, hjr⟩ := hrel
      rcases HC.out with ⟨rfl, rfl⟩ | ⟨rfl, rfl⟩ | ⟨rfl, rfl⟩
      · have hD := h.carry hjr.2.2
        have hr := rd_at hD ho 0 0 rfl (by omega)
        rw [HZ.out] at hr
        go_wp2_with (first | (go_at_call 267; (with_reducible refine hr.mono ?_); rintro e u1 ⟨g, rfl, hrd, hu1⟩; have j1 := hjr.carry hu1) | (refine wpList_copy_splice rfl _ _ _ _ rfl 5 Tryz.underlying30 infoB1 _ _ _ _ 32 32 rfl rfl (W.heap.size + 1) 0 (cB z64) 334 j1.2.1 (cB ZZ) (by rw [cB_len, hl0]; rfl) (fun hp => by obtain ⟨b, off, e1, hbl, hat⟩ := hrd (fun e => by subst e; simp [cB] at hp); cases e1; exact ⟨rfl, _, rfl, b_src hat⟩) (by rw [cB_len, cB_len, hl0]; first | (simp [z64]; done) | simp [z64, hl0]) (cB_one ZZ) (W.heap.size + 1) u1 (Below.refl _ _) (Nat.le_refl _) ?_; intro u HU hbu; rw [half0 ZZ hl0] at HU; have HJ := j1.put HU.out hbu))
        go_roundw
        case rel => exact ⟨1, _, rfl, .inr (.inl ⟨rfl, rfl⟩), HJ⟩
        case measure => simp [vnatZ]
      · have hD := h.carry hjr.2.2
        have hr := rd_at hD ho 1 1 rfl (by omega)
        rw [HY.out] at hr
        go_wp2_with (first | (go_at_call 267; (with_reducible refine hr.mono ?_); rintro e u1 ⟨g, rfl, hrd, hu1⟩; have j1 := hjr.carry hu1) | (refine wpList_copy_splice rfl _ _ _ _ rfl 5 Tryz.underlying30 infoB1 _ _ _ _ 32 32 rfl rfl (W.heap.size + 1) 32 (cB (ZZ ++ z64.drop 32)) 334 j1.2.1 (cB YY) (by rw [cB_len, hl1]; rfl) (fun hp => by obtain ⟨b, off, e1, hbl, hat⟩ := hrd (fun e => by subst e; simp [cB] at hp); cases e1; exact ⟨rfl, _, rfl, b_src hat⟩) (by rw [cB_len, cB_len, hl1]; first | (simp [z64]; done) | simp [z64, hl0]) (cB_one YY) (W.heap.size + 1) u1 (Below.refl _ _) (Nat.le_refl _) ?_; intro u HU hbu; rw [half1 ZZ YY hl0 hl1] at HU; have HJ := j1.put HU.out hbu))
        go_roundw
        case rel => exact ⟨2, _, rfl, .inr (.inr ⟨rfl, rfl⟩), HJ⟩
        case measure => simp [vnatZ]
      · have hzl : (Tryz.prog.info? 334).map (·.size) = some (cB (ZZ ++ YY)).toArray.size := by rw [List.size_toArray, cB_len, List.length_append, hl0, hl1]; exact infoI
        have hzo : (cB z64).toArray.size = (cB (ZZ ++ YY)).toArray.size := by rw [List.size_toArray, List.size_toArray, cB_len, cB_len, List.length_append, hl0, hl1]; rfl
        go_wp2_with (first | (refine wpList_load_row rfl 334 (.tmp 5) rfl (W.heap.size + 1) rfl 334 (cB (ZZ ++ YY)).toArray (0, 0) _ hjr.2.1 undI rfl hzl ?_) | (refine wpList_store_row rfl 334 (.tmp 4) (.tmp 27) rfl W.heap.size (cB (ZZ ++ YY)).toArray rfl rfl 334 (cB z64).toArray hjr.1 hzl hzo (all_one (ZZ ++ YY)) ?_; obtain ⟨v, hv⟩ : ∃ v, wr.setRow W.heap.size (cB (ZZ ++ YY)).toArray = v := ⟨_, rfl⟩; have HV : Hid (v.heap[W.heap.size]? = some (.cells (cB (ZZ ++ YY)).toArray 334 (0, 0))) := (by rw [← hv]; exact setRow_heap _ _ _ _ _ _ hjr.1); have HB : Hid (Below W.heap.size W v) := (by rw [← hv]; exact below_setRow hjr.2.2 (Nat.le_refl _) _); rw [hv]))
        (try simp only [Exit.inBlock, Exit.then])
        refine bodyPost_ret (results_cell_row rfl _ _ W.heap.size _ (cB (ZZ ++ YY)).toArray (0, 0) _ rfl HV.out undI rfl hzl) rfl ?_
        exact ⟨by rw [HS.out], HB.out⟩
  · change Calls Tryz.prog 226 #[.pointer (some ⟨p, 0, none⟩), .int .i64 1] W _
    obtain ⟨ZZ, hZZ⟩ : ∃ ZZ, secs d.l 2 = ZZ := ⟨_, rfl⟩
    obtain ⟨YY, hYY⟩ : ∃ YY, secs d.l 3 = YY := ⟨_, rfl⟩
    have hl0 : ZZ.length = 32 := by rw [← hZZ]; exact secs_len h.len (by omega)
    have hl1 : YY.length = 32 := by rw [← hYY]; exact secs_len h.len (by omega)
    have HS : Hid (slt d.l 1 = ZZ ++ YY) := by show slt d.l 1 = _; rw [slt_secs d.l 1, hZZ, hYY]
    have HZ : Hid (secs d.l 2 = ZZ) := hZZ
    have HY : Hid (secs d.l 3 = YY) := hYY
    clear hZZ hYY
    go_enter Tryz.func226, Tryz.ntmps226
    go_wp2
    go_loopw [9] (fun i wz => ∃ (k : Nat) (C : List Nat), i = .int .i64 k ∧ Hid ((k = 0 ∧ C = z64) ∨ (k = 1 ∧ C = ZZ ++ z64.drop 32) ∨ (k = 2 ∧ C = ZZ ++ YY)) ∧ JRZ W C wz) (fun i _ => 2 - vnatZ i)
    case atStart => exact ⟨0, z64, rfl, .inl ⟨rfl, rfl⟩, hj⟩
    case round =>
      obtain ⟨k, C, rfl, HC, hjr⟩ := hrel
      rcases HC.out with ⟨rfl, rfl⟩ | ⟨rfl, rfl⟩ | ⟨rfl, rfl⟩
      · have hD := h.carry hjr.2.2
        have hr := rd_at hD ho 2 2 rfl (by omega)
        rw [HZ.out] at hr
        go_wp2_with (first | (go_at_call 267; (with_reducible refine hr.mono ?_); rintro e u1 ⟨g, rfl, hrd, hu1⟩; have j1 := hjr.carry hu1) | (refine wpList_copy_splice rfl _ _ _ _ rfl 5 Tryz.underlying30 infoB1 _ _ _ _ 32 32 rfl rfl (W.heap.size + 1) 0 (cB z64) 334 j1.2.1 (cB ZZ) (by rw [cB_len, hl0]; rfl) (fun hp => by obtain ⟨b, off, e1, hbl, hat⟩ := hrd (fun e => by subst e; simp [cB] at hp); cases e1; exact ⟨rfl, _, rfl, b_src hat⟩) (by rw [cB_len, cB_len, hl0]; first | (simp [z64]; done) | simp [z64, hl0]) (cB_one ZZ) (W.heap.size + 1) u1 (Below.refl _ _) (Nat.le_refl _) ?_; intro u HU hbu; rw [half0 ZZ hl0] at HU; have HJ := j1.put HU.out hbu))
        go_roundw
        case rel => exact ⟨1, _, rfl, .inr (.inl ⟨rfl, rfl⟩), HJ⟩
        case measure => simp [vnatZ]
      · have hD := h.carry hjr.2.2
        have hr := rd_at hD ho 3 3 rfl (by omega)
        rw [HY.out] at hr
        go_wp2_with (first | (go_at_call 267; (with_reducible refine hr.mono ?_); rintro e u1 ⟨g, rfl, hrd, hu1⟩; have j1 := hjr.carry hu1) | (refine wpList_copy_splice rfl _ _ _ _ rfl 5 Tryz.underlying30 infoB1 _ _ _ _ 32 32 rfl rfl (W.heap.size + 1) 32 (cB (ZZ ++ z64.drop 32)) 334 j1.2.1 (cB YY) (by rw [cB_len, hl1]; rfl) (fun hp => by obtain ⟨b, off, e1, hbl, hat⟩ := hrd (fun e => by subst e; simp [cB] at hp); cases e1; exact ⟨rfl, _, rfl, b_src hat⟩) (by rw [cB_len, cB_len, hl1]; first | (simp [z64]; done) | simp [z64, hl0]) (cB_one YY) (W.heap.size + 1) u1 (Below.refl _ _) (Nat.le_refl _) ?_; intro u HU hbu; rw [half1 ZZ YY hl0 hl1] at HU; have HJ := j1.put HU.out hbu))
        go_roundw
        case rel => exact ⟨2, _, rfl, .inr (.inr ⟨rfl, rfl⟩), HJ⟩
        case measure => simp [vnatZ]
      · have hzl : (Tryz.prog.info? 334).map (·.size) = some (cB (ZZ ++ YY)).toArray.size := by rw [List.size_toArray, cB_len, List.length_append, hl0, hl1]; exact infoI
        have hzo : (cB z64).toArray.size = (cB (ZZ ++ YY)).toArray.size := by rw [List.size_toArray, List.size_toArray, cB_len, cB_len, List.length_append, hl0, hl1]; rfl
        go_wp2_with (first | (refine wpList_load_row rfl 334 (.tmp 5) rfl (W.heap.size + 1) rfl 334 (cB (ZZ ++ YY)).toArray (0, 0) _ hjr.2.1 undI rfl hzl ?_) | (refine wpList_store_row rfl 334 (.tmp 4) (.tmp 27) rfl W.heap.size (cB (ZZ ++ YY)).toArray rfl rfl 334 (cB z64).toArray hjr.1 hzl hzo (all_one (ZZ ++ YY)) ?_; obtain ⟨v, hv⟩ : ∃ v, wr.setRow W.heap.size (cB (ZZ ++ YY)).toArray = v := ⟨_, rfl⟩; have HV : Hid (v.heap[W.heap.size]? = some (.cells (cB (ZZ ++ YY)).toArray 334 (0, 0))) := (by rw [← hv]; exact setRow_heap _ _ _ _ _ _ hjr.1); have HB : Hid (Below W.heap.size W v) := (by rw [← hv]; exact below_setRow hjr.2.2 (Nat.le_refl _) _); rw [hv]))
        (try simp only [Exit.inBlock, Exit.then])
        refine bodyPost_ret (results_cell_row rfl _ _ W.heap.size _ (cB (ZZ ++ YY)).toArray (0, 0) _ rfl HV.out undI rfl hzl) rfl ?_
        exact ⟨by rw [HS.out], HB.out⟩
end
end Go.Proofs.YtklnfbanfgdgcaaGreatDoor
