/- The document's New; looks: what they answer. -/
import Derived.Test.YtgehmidalfajgaaTyl
namespace Go.Proofs.Ytgehmidalfajgaa
open Go.RowKit Go.Shelf

def z5 : Array Value := #[.int .i64 0, .int .i64 0, .int .i64 0, .slice none 0 0, .slice none 0 0]
theorem infoRf : (Try.prog.info? 49).map (·.size) = some 5 := by kernel_rfl
theorem undRf : Try.prog.underlying 49 = some (.struct ((match Try.prog.underlying 49 with | some (.struct f) => f | _ => #[]))) := by kernel_rfl
section
variable {f : Func} {p q : Tmp} {ty t : TypeId} {R : Ending → World → Prop} {a : Act} {w : World} {b : Nat} {cs : Array Value} {fr : Nat × Nat} {F} {x : Value}
theorem retC2 (hres : f.results = #[.cell p ty, .tmp q]) (hp : a.tmps.getD p undef = .pointer (some ⟨b, 0, none⟩)) (hq : a.tmps.getD q undef = x) (hd : a.defers = []) (hg : w.heap[b]? = some (.cells cs t fr)) (hu : Try.prog.underlying ty = some (.struct F)) (hi : (Try.prog.info? ty).map (·.size) = some cs.size) (hR : R (.returned (.tuple #[.agg cs, x])) w) : bodyPost Try.prog f R .ret a w := by
  refine bodyPost_ret (v := .tuple #[.agg cs, x]) ?_ hd hR
  have h2 := run_loadVar_row (P := Try.prog) w b t ty cs fr _ hg hu rfl hi
  have hp' : a.tmps[p]?.getD undef = .pointer (some ⟨b, 0, none⟩) := by simpa using hp
  have hq' : a.tmps[q]?.getD undef = x := by simpa using hq
  simp [results, hres, hp', hq', asAddr, h2]
end
set_option maxHeartbeats 8000000 in
set_option maxRecDepth 100000 in
theorem rNew_no (n f self ro : Int) (N : Nat) (hN : N < S128) (he : nwE n f self ro N ≠ 0) (w : World) : Calls Try.prog 19 #[.int .i64 n, .int .i64 f, .int .i64 self, .int .i64 ro, sv N] w fun e w' => e = .returned (.tuple #[.agg z5, .int .i64 (nwE n f self ro N)]) ∧ Below w.heap.size w w' := by
  obtain ⟨w1, hw1⟩ : ∃ w1, (w.alloc (.cells #[.int .u32 (wd N 0 : Nat), .int .u32 (wd N 1 : Nat), .int .u32 (wd N 2 : Nat), .int .u32 (wd N 3 : Nat)] 24)).alloc (.cells #[.int .i64 0, .int .i64 0, .int .i64 0, .slice none 0 0, .slice none 0 0] 49) = w1 := ⟨_, rfl⟩
  have hb1 : Below w.heap.size w w1 := by rw [← hw1]; exact bel2 (al1' _ _) (al1' _ _)
  have G1 : Hid (Holds4 w1 w.heap.size (wd N)) := by rw [← hw1]; exact old_at (new_at rfl)
  have R1 : Hid (w1.heap[w.heap.size + 1]? = some (.cells z5 49 (0, 0))) := by rw [← hw1]; exact new_at (by simp)
  obtain ⟨y0, y1, y2, y3, _⟩ := G1.out.facts
  have hwi := rWithin_any N hN n w1
  by_cases c1 : n < 1
  · rw [show nwE n f self ro N = 1 by unfold nwE; rw [if_pos (by omega)]]
    simp only [sv]
    go_enter Try.func19, Try.ntmps19
    go_wp2_with (refine wpList_store_row rfl 49 (.tmp 10) (.tmp 27) rfl (w.heap.size + 1) z5 rfl rfl 49 _ R1.out infoRf rfl (by simp [z5, Value.oneCell']) ?_; obtain ⟨v, hv⟩ : ∃ v, w1.setRow (w.heap.size + 1) z5 = v := ⟨_, rfl⟩; have RV : Hid (v.heap[w.heap.size + 1]? = some (.cells z5 49 (0, 0))) := (by rw [← hv]; exact setRow_heap _ _ _ _ _ _ R1.out); have HB : Hid (Below w.heap.size w v) := (by rw [← hv]; exact below_row hb1 (by omega) _); rw [hv])
    exact retC2 rfl rfl rfl rfl RV.out undRf infoRf ⟨rfl, HB.out⟩
  by_cases c2 : 100 < n
  · rw [show nwE n f self ro N = 1 by unfold nwE; rw [if_pos (by omega)]]
    simp only [sv]
    go_enter Try.func19, Try.ntmps19
    go_wp2_with (refine wpList_store_row rfl 49 (.tmp 10) (.tmp 27) rfl (w.heap.size + 1) z5 rfl rfl 49 _ R1.out infoRf rfl (by simp [z5, Value.oneCell']) ?_; obtain ⟨v, hv⟩ : ∃ v, w1.setRow (w.heap.size + 1) z5 = v := ⟨_, rfl⟩; have RV : Hid (v.heap[w.heap.size + 1]? = some (.cells z5 49 (0, 0))) := (by rw [← hv]; exact setRow_heap _ _ _ _ _ _ R1.out); have HB : Hid (Below w.heap.size w v) := (by rw [← hv]; exact below_row hb1 (by omega) _); rw [hv])
    exact retC2 rfl rfl rfl rfl RV.out undRf infoRf ⟨rfl, HB.out⟩
  by_cases c3 : f < 0
  · rw [show nwE n f self ro N = 1 by unfold nwE; rw [if_pos (by omega)]]
    simp only [sv]
    go_enter Try.func19, Try.ntmps19
    go_wp2_with (refine wpList_store_row rfl 49 (.tmp 10) (.tmp 27) rfl (w.heap.size + 1) z5 rfl rfl 49 _ R1.out infoRf rfl (by simp [z5, Value.oneCell']) ?_; obtain ⟨v, hv⟩ : ∃ v, w1.setRow (w.heap.size + 1) z5 = v := ⟨_, rfl⟩; have RV : Hid (v.heap[w.heap.size + 1]? = some (.cells z5 49 (0, 0))) := (by rw [← hv]; exact setRow_heap _ _ _ _ _ _ R1.out); have HB : Hid (Below w.heap.size w v) := (by rw [← hv]; exact below_row hb1 (by omega) _); rw [hv])
    exact retC2 rfl rfl rfl rfl RV.out undRf infoRf ⟨rfl, HB.out⟩
  by_cases c4 : n ≤ f
  · rw [show nwE n f self ro N = 1 by unfold nwE; rw [if_pos (by omega)]]
    simp only [sv]
    go_enter Try.func19, Try.ntmps19
    go_wp2_with (refine wpList_store_row rfl 49 (.tmp 10) (.tmp 27) rfl (w.heap.size + 1) z5 rfl rfl 49 _ R1.out infoRf rfl (by simp [z5, Value.oneCell']) ?_; obtain ⟨v, hv⟩ : ∃ v, w1.setRow (w.heap.size + 1) z5 = v := ⟨_, rfl⟩; have RV : Hid (v.heap[w.heap.size + 1]? = some (.cells z5 49 (0, 0))) := (by rw [← hv]; exact setRow_heap _ _ _ _ _ _ R1.out); have HB : Hid (Below w.heap.size w v) := (by rw [← hv]; exact below_row hb1 (by omega) _); rw [hv])
    exact retC2 rfl rfl rfl rfl RV.out undRf infoRf ⟨rfl, HB.out⟩
  have hE1 : nwE n f self ro N = if isN self n = false then 30 else if ro < 1 ∨ 1099511627775 < ro then 73 else if wthB N n = false then 74 else 0 := by unfold nwE; rw [if_neg (by omega)]
  rw [hE1] at he ⊢
  clear hE1
  by_cases c5 : self < 0
  · rw [if_pos (by simp [isN]; omega)]
    simp only [sv]
    go_enter Try.func19, Try.ntmps19
    go_wp2_with (refine wpList_store_row rfl 49 (.tmp 10) (.tmp 35) rfl (w.heap.size + 1) z5 rfl rfl 49 _ R1.out infoRf rfl (by simp [z5, Value.oneCell']) ?_; obtain ⟨v, hv⟩ : ∃ v, w1.setRow (w.heap.size + 1) z5 = v := ⟨_, rfl⟩; have RV : Hid (v.heap[w.heap.size + 1]? = some (.cells z5 49 (0, 0))) := (by rw [← hv]; exact setRow_heap _ _ _ _ _ _ R1.out); have HB : Hid (Below w.heap.size w v) := (by rw [← hv]; exact below_row hb1 (by omega) _); rw [hv])
    exact retC2 rfl rfl rfl rfl RV.out undRf infoRf ⟨rfl, HB.out⟩
  by_cases c6 : n ≤ self
  · rw [if_pos (by simp [isN]; omega)]
    simp only [sv]
    go_enter Try.func19, Try.ntmps19
    go_wp2_with (refine wpList_store_row rfl 49 (.tmp 10) (.tmp 35) rfl (w.heap.size + 1) z5 rfl rfl 49 _ R1.out infoRf rfl (by simp [z5, Value.oneCell']) ?_; obtain ⟨v, hv⟩ : ∃ v, w1.setRow (w.heap.size + 1) z5 = v := ⟨_, rfl⟩; have RV : Hid (v.heap[w.heap.size + 1]? = some (.cells z5 49 (0, 0))) := (by rw [← hv]; exact setRow_heap _ _ _ _ _ _ R1.out); have HB : Hid (Below w.heap.size w v) := (by rw [← hv]; exact below_row hb1 (by omega) _); rw [hv])
    exact retC2 rfl rfl rfl rfl RV.out undRf infoRf ⟨rfl, HB.out⟩
  have his : isN self n = true := by simp [isN]; omega
  rw [if_neg (by simp [his])] at he ⊢
  by_cases c7 : ro < 1
  · rw [if_pos (by omega)]
    simp only [sv]
    go_enter Try.func19, Try.ntmps19
    go_wp2_with (refine wpList_store_row rfl 49 (.tmp 10) (.tmp 42) rfl (w.heap.size + 1) z5 rfl rfl 49 _ R1.out infoRf rfl (by simp [z5, Value.oneCell']) ?_; obtain ⟨v, hv⟩ : ∃ v, w1.setRow (w.heap.size + 1) z5 = v := ⟨_, rfl⟩; have RV : Hid (v.heap[w.heap.size + 1]? = some (.cells z5 49 (0, 0))) := (by rw [← hv]; exact setRow_heap _ _ _ _ _ _ R1.out); have HB : Hid (Below w.heap.size w v) := (by rw [← hv]; exact below_row hb1 (by omega) _); rw [hv])
    exact retC2 rfl rfl rfl rfl RV.out undRf infoRf ⟨rfl, HB.out⟩
  by_cases c8 : 1099511627775 < ro
  · rw [if_pos (by omega)]
    simp only [sv]
    go_enter Try.func19, Try.ntmps19
    go_wp2_with (refine wpList_store_row rfl 49 (.tmp 10) (.tmp 42) rfl (w.heap.size + 1) z5 rfl rfl 49 _ R1.out infoRf rfl (by simp [z5, Value.oneCell']) ?_; obtain ⟨v, hv⟩ : ∃ v, w1.setRow (w.heap.size + 1) z5 = v := ⟨_, rfl⟩; have RV : Hid (v.heap[w.heap.size + 1]? = some (.cells z5 49 (0, 0))) := (by rw [← hv]; exact setRow_heap _ _ _ _ _ _ R1.out); have HB : Hid (Below w.heap.size w v) := (by rw [← hv]; exact below_row hb1 (by omega) _); rw [hv])
    exact retC2 rfl rfl rfl rfl RV.out undRf infoRf ⟨rfl, HB.out⟩
  rw [if_neg (by omega)] at he ⊢
  cases hb : wthB N n with
  | true => simp [hb] at he
  | false =>
    rw [hb] at hwi
    rw [if_pos rfl]
    simp only [sv] at hwi ⊢
    go_enter Try.func19, Try.ntmps19
    go_wp2_with (first | (go_at_call 40; (with_reducible refine hwi.mono ?_); rintro e u ⟨rfl, hu⟩; have R2 : Hid (u.heap[w.heap.size + 1]? = some (.cells z5 49 (0, 0))) := (hu.block _ (lt_at R1.out)).trans R1.out; have hb2 : Hid (Below w.heap.size w u) := bel2 hb1 hu) | (refine wpList_store_row rfl 49 (.tmp 10) (.tmp 47) rfl (w.heap.size + 1) z5 rfl rfl 49 _ R2.out infoRf rfl (by simp [z5, Value.oneCell']) ?_; obtain ⟨v, hv⟩ : ∃ v, u.setRow (w.heap.size + 1) z5 = v := ⟨_, rfl⟩; have RV : Hid (v.heap[w.heap.size + 1]? = some (.cells z5 49 (0, 0))) := (by rw [← hv]; exact setRow_heap _ _ _ _ _ _ R2.out); have HB : Hid (Below w.heap.size w v) := (by rw [← hv]; exact below_row hb2.out (by omega) _); rw [hv]))
    exact retC2 rfl rfl rfl rfl RV.out undRf infoRf ⟨rfl, HB.out⟩
set_option maxHeartbeats 8000000 in
set_option maxRecDepth 100000 in
theorem rNew_ok (n f self ro : Int) (N : Nat) (hN : N < S128) (he : nwE n f self ro N = 0) (w : World) : Calls Try.prog 19 #[.int .i64 n, .int .i64 f, .int .i64 self, .int .i64 ro, sv N] w fun e w' => ∃ g1 g2, e = .returned (.tuple #[.agg (rfC n f ro (.slice (some ⟨g1, 0, none⟩) 1 1) (.slice (some ⟨g2, 0, none⟩) 1 1)), .int .i64 0]) ∧ w'.ownsRow w.heap.size 3 1 (.slice (some ⟨g1, 0, none⟩) 1 1) 1 (inV [self]) ∧ w'.ownsRow w.heap.size 24 4 (.slice (some ⟨g2, 0, none⟩) 1 1) 1 (fs [N]) ∧ Below w.heap.size w w' := by
  obtain ⟨h1, h2, h3, h4, h5, h6, h7, h8⟩ := nw_ok he
  obtain ⟨w1, hw1⟩ : ∃ w1, (w.alloc (.cells #[.int .u32 (wd N 0 : Nat), .int .u32 (wd N 1 : Nat), .int .u32 (wd N 2 : Nat), .int .u32 (wd N 3 : Nat)] 24)).alloc (.cells #[.int .i64 0, .int .i64 0, .int .i64 0, .slice none 0 0, .slice none 0 0] 49) = w1 := ⟨_, rfl⟩
  have hb1 : Below w.heap.size w w1 := by rw [← hw1]; exact bel2 (al1' _ _) (al1' _ _)
  have G1 : Hid (Holds4 w1 w.heap.size (wd N)) := by rw [← hw1]; exact old_at (new_at rfl)
  have R1 : Hid (w1.heap[w.heap.size + 1]? = some (.cells z5 49 (0, 0))) := by rw [← hw1]; exact new_at (by simp)
  obtain ⟨y0, y1, y2, y3, _⟩ := G1.out.facts
  have hwi := rWithin_any N hN n w1
  rw [h8] at hwi
  have c1 : ¬ n < 1 := by omega
  have c2 : ¬ 100 < n := by omega
  have c3 : ¬ f < 0 := by omega
  have c4 : ¬ n ≤ f := by omega
  have c5 : ¬ self < 0 := by simp [isN] at h5; omega
  have c6 : ¬ n ≤ self := by simp [isN] at h5; omega
  have c7 : ¬ ro < 1 := by omega
  have c8 : ¬ 1099511627775 < ro := by omega
  clear h8 h5 he h1 h2 h3 h4 h6 h7
  simp only [sv] at hwi ⊢
  go_enter Try.func19, Try.ntmps19
  go_wp2_with (first
    | (go_at_call 40; (with_reducible refine hwi.mono ?_); rintro e u ⟨rfl, hu⟩; have R2 : Hid (u.heap[w.heap.size + 1]? = some (.cells z5 49 (0, 0))) := (hu.block _ (lt_at R1.out)).trans R1.out; have hb2 : Hid (Below w.heap.size w u) := bel2 hb1 hu; obtain ⟨u1, hu1⟩ : ∃ u1, u.alloc (.cells #[.int .i64 self] 3) = u1 := ⟨_, rfl⟩; have G2 : Hid (Holds4 u1 w.heap.size (wd N)) := (by rw [← hu1]; exact old_at (G1.out.carry hu)); have hs1' : u1.heap.size = u.heap.size + 1 := (by rw [← hu1]; simp); have hs1 : Hid (u1.heap.size = u.heap.size + 1) := hs1'; clear hs1'; obtain ⟨x0, x1, x2, x3, _⟩ := G2.out.facts; obtain ⟨u2, hu2⟩ : ∃ u2, u1.alloc (.cells #[.int .u32 (wd N 0 : Nat), .int .u32 (wd N 1 : Nat), .int .u32 (wd N 2 : Nat), .int .u32 (wd N 3 : Nat)] 24) = u2 := ⟨_, rfl⟩; have R3 : Hid (u2.heap[w.heap.size + 1]? = some (.cells z5 49 (0, 0))) := (by rw [← hu2, ← hu1]; exact old_at (old_at R2.out)); have hb3 : Hid (Below w.heap.size w u2) := (by rw [← hu2, ← hu1]; exact bel2 (bel2 hb2.out (al1' _ _)) (al1' _ _)); have I2 : Hid (u2.ownsRow w.heap.size 3 1 (.slice (some ⟨u.heap.size, 0, none⟩) 1 1) 1 (inV [self])) := (by rw [← hu2, ← hu1]; exact row_below (World.ownsRow_lit (base := w.heap.size) (e := 3) (size := 1) u #[.int .i64 self] 1 hb2.out.size (by unfold maxLen; omega) (by simp)) (al1' _ _)); have S2 : Hid (u2.ownsRow w.heap.size 24 4 (.slice (some ⟨u1.heap.size, 0, none⟩) 1 1) 1 (fs [N])) := (by rw [← hu2]; exact World.ownsRow_lit (base := w.heap.size) (e := 24) (size := 4) u1 #[.int .u32 (wd N 0 : Nat), .int .u32 (wd N 1 : Nat), .int .u32 (wd N 2 : Nat), .int .u32 (wd N 3 : Nat)] 1 (by rw [hs1.out]; exact Nat.le_trans hb2.out.size (by omega)) (by unfold maxLen; omega) (by simp)))
    | (refine wpList_store_row rfl 49 (.tmp 10) (.tmp 55) rfl (w.heap.size + 1) (rfC n f ro (.slice (some ⟨u.heap.size, 0, none⟩) 1 1) (.slice (some ⟨u1.heap.size, 0, none⟩) 1 1)) rfl rfl 49 _ R3.out infoRf rfl (by simp [rfC, Value.oneCell']) ?_; obtain ⟨v, hv⟩ : ∃ v, u2.setRow (w.heap.size + 1) (rfC n f ro (.slice (some ⟨u.heap.size, 0, none⟩) 1 1) (.slice (some ⟨u1.heap.size, 0, none⟩) 1 1)) = v := ⟨_, rfl⟩; have RV : Hid (v.heap[w.heap.size + 1]? = some (.cells (rfC n f ro (.slice (some ⟨u.heap.size, 0, none⟩) 1 1) (.slice (some ⟨u1.heap.size, 0, none⟩) 1 1)) 49 (0, 0))) := (by rw [← hv]; exact setRow_heap _ _ _ _ _ _ R3.out); have HB : Hid (Below w.heap.size w v) := (by rw [← hv]; exact below_row hb3.out (by omega) _); have IV : Hid (v.ownsRow w.heap.size 3 1 (.slice (some ⟨u.heap.size, 0, none⟩) 1 1) 1 (inV [self])) := (by rw [← hv]; exact row_moved I2.out (fun b e => setRow_other (fun e2 => row_type I2.out R3.out (by decide) (by rw [← e2]; exact e)))); have SV : Hid (v.ownsRow w.heap.size 24 4 (.slice (some ⟨u1.heap.size, 0, none⟩) 1 1) 1 (fs [N])) := (by rw [← hv]; exact row_moved S2.out (fun b e => setRow_other (fun e2 => row_type S2.out R3.out (by decide) (by rw [← e2]; exact e)))); rw [hv]))
  exact retC2 rfl rfl rfl rfl RV.out undRf infoRf ⟨u.heap.size, u1.heap.size, rfl, IV.out, SV.out, HB.out⟩
end Go.Proofs.Ytgehmidalfajgaa
