/- The document's New; looks: what they answer. -/
import Derived.Test.YtcdefcaoocnlbabTyl
namespace Go.Proofs.Ytcdefcaoocnlbab
open Go.RowKit Go.Shelf

def z5 : Array Value := #[.int .i64 0, .int .i64 0, .int .i64 0, .slice none 0 0, .slice none 0 0]
theorem infoRf : (Try.prog.info? 44).map (·.size) = some 5 := by kernel_rfl
theorem undRf : Try.prog.underlying 44 = some (.struct ((match Try.prog.underlying 44 with | some (.struct f) => f | _ => #[]))) := by kernel_rfl
section
variable {f : Func} {p q : Tmp} {ty t : TypeId} {R : Ending → World → Prop} {a : Act} {w : World} {b : Nat} {cs : Array Value} {fr : Nat × Nat} {F} {x : Value}
theorem retC2 (hres : f.results = #[.cell p ty, .tmp q]) (hp : a.tmps.getD p undef = .pointer (some ⟨b, 0, none⟩)) (hq : a.tmps.getD q undef = x) (hd : a.defers = []) (hg : w.heap[b]? = some (.cells cs t fr)) (hu : Try.prog.underlying ty = some (.struct F)) (hi : (Try.prog.info? ty).map (·.size) = some cs.size) (hR : R (.returned (.tuple #[.agg cs, x])) w) : bodyPost Try.prog f R .ret a w := by
  refine bodyPost_ret (v := .tuple #[.agg cs, x]) ?_ hd hR
  have h2 := run_loadVar_row (P := Try.prog) w b t ty cs fr _ hg hu rfl hi
  have hp' : a.tmps[p]?.getD undef = .pointer (some ⟨b, 0, none⟩) := by simpa using hp
  have hq' : a.tmps[q]?.getD undef = x := by simpa using hq
  simp [results, hres, hp', hq', asAddr, h2]
end
set_option maxHeartbeats 8000000 in
set_option maxRecDepth 100000 in
theorem rNew_no (n f self ro : Int) (N : Nat) (hN : N < S128) (he : nwE n f self ro N ≠ 0) (w : World) : Calls Try.prog 14 #[.int .i64 n, .int .i64 f, .int .i64 self, .int .i64 ro, sv N] w fun e w' => e = .returned (.tuple #[.agg z5, .int .i64 (nwE n f self ro N)]) ∧ Below w.heap.size w w' := by
  obtain ⟨w1, hw1⟩ : ∃ w1, (w.alloc (.cells #[.int .u32 (wd N 0 : Nat), .int .u32 (wd N 1 : Nat), .int .u32 (wd N 2 : Nat), .int .u32 (wd N 3 : Nat)] 24)).alloc (.cells #[.int .i64 0, .int .i64 0, .int .i64 0, .slice none 0 0, .slice none 0 0] 44) = w1 := ⟨_, rfl⟩
  have hb1 : Below w.heap.size w w1 := by rw [← hw1]; exact bel2 (al1' _ _) (al1' _ _)
  have G1 : Hid (Holds4 w1 w.heap.size (wd N)) := by rw [← hw1]; exact old_at (new_at rfl)
  have R1 : Hid (w1.heap[w.heap.size + 1]? = some (.cells z5 44 (0, 0))) := by rw [← hw1]; exact new_at (by simp)
  obtain ⟨y0, y1, y2, y3, _⟩ := G1.out.facts
  have hwi := rWithin_any N hN n w1
  by_cases c1 : n < 1
  · rw [show nwE n f self ro N = 1 by unfold nwE; rw [if_pos (by omega)]]
    simp only [sv]
    go_enter Try.func14, Try.ntmps14
    go_wp2_with (refine wpList_store_row rfl 44 (.tmp 10) (.tmp 27) rfl (w.heap.size + 1) z5 rfl rfl 44 _ R1.out infoRf rfl (by simp [z5, Value.oneCell']) ?_; obtain ⟨v, hv⟩ : ∃ v, w1.setRow (w.heap.size + 1) z5 = v := ⟨_, rfl⟩; have RV : Hid (v.heap[w.heap.size + 1]? = some (.cells z5 44 (0, 0))) := (by rw [← hv]; exact setRow_heap _ _ _ _ _ _ R1.out); have HB : Hid (Below w.heap.size w v) := (by rw [← hv]; exact below_row hb1 (by omega) _); rw [hv])
    exact retC2 rfl rfl rfl rfl RV.out undRf infoRf ⟨rfl, HB.out⟩
  by_cases c2 : 100 < n
  · rw [show nwE n f self ro N = 1 by unfold nwE; rw [if_pos (by omega)]]
    simp only [sv]
    go_enter Try.func14, Try.ntmps14
    go_wp2_with (refine wpList_store_row rfl 44 (.tmp 10) (.tmp 27) rfl (w.heap.size + 1) z5 rfl rfl 44 _ R1.out infoRf rfl (by simp [z5, Value.oneCell']) ?_; obtain ⟨v, hv⟩ : ∃ v, w1.setRow (w.heap.size + 1) z5 = v := ⟨_, rfl⟩; have RV : Hid (v.heap[w.heap.size + 1]? = some (.cells z5 44 (0, 0))) := (by rw [← hv]; exact setRow_heap _ _ _ _ _ _ R1.out); have HB : Hid (Below w.heap.size w v) := (by rw [← hv]; exact below_row hb1 (by omega) _); rw [hv])
    exact retC2 rfl rfl rfl rfl RV.out undRf infoRf ⟨rfl, HB.out⟩
  by_cases c3 : f < 0
  · rw [show nwE n f self ro N = 1 by unfold nwE; rw [if_pos (by omega)]]
    simp only [sv]
    go_enter Try.func14, Try.ntmps14
    go_wp2_with (refine wpList_store_row rfl 44 (.tmp 10) (.tmp 27) rfl (w.heap.size + 1) z5 rfl rfl 44 _ R1.out infoRf rfl (by simp [z5, Value.oneCell']) ?_; obtain ⟨v, hv⟩ : ∃ v, w1.setRow (w.heap.size + 1) z5 = v := ⟨_, rfl⟩; have RV : Hid (v.heap[w.heap.size + 1]? = some (.cells z5 44 (0, 0))) := (by rw [← hv]; exact setRow_heap _ _ _ _ _ _ R1.out); have HB : Hid (Below w.heap.size w v) := (by rw [← hv]; exact below_row hb1 (by omega) _); rw [hv])
    exact retC2 rfl rfl rfl rfl RV.out undRf infoRf ⟨rfl, HB.out⟩
  by_cases c4 : n ≤ f
  · rw [show nwE n f self ro N = 1 by unfold nwE; rw [if_pos (by omega)]]
    simp only [sv]
    go_enter Try.func14, Try.ntmps14
    go_wp2_with (refine wpList_store_row rfl 44 (.tmp 10) (.tmp 27) rfl (w.heap.size + 1) z5 rfl rfl 44 _ R1.out infoRf rfl (by simp [z5, Value.oneCell']) ?_; obtain ⟨v, hv⟩ : ∃ v, w1.setRow (w.heap.size + 1) z5 = v := ⟨_, rfl⟩; have RV : Hid (v.heap[w.heap.size + 1]? = some (.cells z5 44 (0, 0))) := (by rw [← hv]; exact setRow_heap _ _ _ _ _ _ R1.out); have HB : Hid (Below w.heap.size w v) := (by rw [← hv]; exact below_row hb1 (by omega) _); rw [hv])
    exact retC2 rfl rfl rfl rfl RV.out undRf infoRf ⟨rfl, HB.out⟩
  have hE1 : nwE n f self ro N = if isN self n = false then 30 else if ro < 1 ∨ 1099511627775 < ro then 73 else if wthB N n = false then 74 else 0 := by unfold nwE; rw [if_neg (by omega)]
  rw [hE1] at he ⊢
  clear hE1
  by_cases c5 : self < 0
  · rw [if_pos (by simp [isN]; omega)]
    simp only [sv]
    go_enter Try.func14, Try.ntmps14
    go_wp2_with (refine wpList_store_row rfl 44 (.tmp 10) (.tmp 35) rfl (w.heap.size + 1) z5 rfl rfl 44 _ R1.out infoRf rfl (by simp [z5, Value.oneCell']) ?_; obtain ⟨v, hv⟩ : ∃ v, w1.setRow (w.heap.size + 1) z5 = v := ⟨_, rfl⟩; have RV : Hid (v.heap[w.heap.size + 1]? = some (.cells z5 44 (0, 0))) := (by rw [← hv]; exact setRow_heap _ _ _ _ _ _ R1.out); have HB : Hid (Below w.heap.size w v) := (by rw [← hv]; exact below_row hb1 (by omega) _); rw [hv])
    exact retC2 rfl rfl rfl rfl RV.out undRf infoRf ⟨rfl, HB.out⟩
  by_cases c6 : n ≤ self
  · rw [if_pos (by simp [isN]; omega)]
    simp only [sv]
    go_enter Try.func14, Try.ntmps14
    go_wp2_with (refine wpList_store_row rfl 44 (.tmp 10) (.tmp 35) rfl (w.heap.size + 1) z5 rfl rfl 44 _ R1.out infoRf rfl (by simp [z5, Value.oneCell']) ?_; obtain ⟨v, hv⟩ : ∃ v, w1.setRow (w.heap.size + 1) z5 = v := ⟨_, rfl⟩; have RV : Hid (v.heap[w.heap.size + 1]? = some (.cells z5 44 (0, 0))) := (by rw [← hv]; exact setRow_heap _ _ _ _ _ _ R1.out); have HB : Hid (Below w.heap.size w v) := (by rw [← hv]; exact below_row hb1 (by omega) _); rw [hv])
    exact retC2 rfl rfl rfl rfl RV.out undRf infoRf ⟨rfl, HB.out⟩
  have his : isN self n = true := by simp [isN]; omega
  rw [if_neg (by simp [his])] at he ⊢
  by_cases c7 : ro < 1
  · rw [if_pos (by omega)]
    simp only [sv]
    go_enter Try.func14, Try.ntmps14
    go_wp2_with (refine wpList_store_row rfl 44 (.tmp 10) (.tmp 42) rfl (w.heap.size + 1) z5 rfl rfl 44 _ R1.out infoRf rfl (by simp [z5, Value.oneCell']) ?_; obtain ⟨v, hv⟩ : ∃ v, w1.setRow (w.heap.size + 1) z5 = v := ⟨_, rfl⟩; have RV : Hid (v.heap[w.heap.size + 1]? = some (.cells z5 44 (0, 0))) := (by rw [← hv]; exact setRow_heap _ _ _ _ _ _ R1.out); have HB : Hid (Below w.heap.size w v) := (by rw [← hv]; exact below_row hb1 (by omega) _); rw [hv])
    exact retC2 rfl rfl rfl rfl RV.out undRf infoRf ⟨rfl, HB.out⟩
  by_cases c8 : 1099511627775 < ro
  · rw [if_pos (by omega)]
    simp only [sv]
    go_enter Try.func14, Try.ntmps14
    go_wp2_with (refine wpList_store_row rfl 44 (.tmp 10) (.tmp 42) rfl (w.heap.size + 1) z5 rfl rfl 44 _ R1.out infoRf rfl (by simp [z5, Value.oneCell']) ?_; obtain ⟨v, hv⟩ : ∃ v, w1.setRow (w.heap.size + 1) z5 = v := ⟨_, rfl⟩; have RV : Hid (v.heap[w.heap.size + 1]? = some (.cells z5 44 (0, 0))) := (by rw [← hv]; exact setRow_heap _ _ _ _ _ _ R1.out); have HB : Hid (Below w.heap.size w v) := (by rw [← hv]; exact below_row hb1 (by omega) _); rw [hv])
    exact retC2 rfl rfl rfl rfl RV.out undRf infoRf ⟨rfl, HB.out⟩
  rw [if_neg (by omega)] at he ⊢
  cases hb : wthB N n with
  | true => simp [hb] at he
  | false =>
    rw [hb] at hwi
    rw [if_pos rfl]
    simp only [sv] at hwi ⊢
    go_enter Try.func14, Try.ntmps14
    go_wp2_with (first | (go_at_call 23; (with_reducible refine hwi.mono ?_); rintro e u ⟨rfl, hu⟩; have R2 : Hid (u.heap[w.heap.size + 1]? = some (.cells z5 44 (0, 0))) := (hu.block _ (lt_at R1.out)).trans R1.out; have hb2 : Hid (Below w.heap.size w u) := bel2 hb1 hu) | (refine wpList_store_row rfl 44 (.tmp 10) (.tmp 47) rfl (w.heap.size + 1) z5 rfl rfl 44 _ R2.out infoRf rfl (by simp [z5, Value.oneCell']) ?_; obtain ⟨v, hv⟩ : ∃ v, u.setRow (w.heap.size + 1) z5 = v := ⟨_, rfl⟩; have RV : Hid (v.heap[w.heap.size + 1]? = some (.cells z5 44 (0, 0))) := (by rw [← hv]; exact setRow_heap _ _ _ _ _ _ R2.out); have HB : Hid (Below w.heap.size w v) := (by rw [← hv]; exact below_row hb2.out (by omega) _); rw [hv]))
    exact retC2 rfl rfl rfl rfl RV.out undRf infoRf ⟨rfl, HB.out⟩
set_option maxHeartbeats 8000000 in
set_option maxRecDepth 100000 in
theorem rNew_ok (n f self ro : Int) (N : Nat) (hN : N < S128) (he : nwE n f self ro N = 0) (w : World) : Calls Try.prog 14 #[.int .i64 n, .int .i64 f, .int .i64 self, .int .i64 ro, sv N] w fun e w' => ∃ g1 g2, e = .returned (.tuple #[.agg (rfC n f ro (.slice (some ⟨g1, 0, none⟩) 1 1) (.slice (some ⟨g2, 0, none⟩) 1 1)), .int .i64 0]) ∧ w'.ownsRow w.heap.size 3 1 (.slice (some ⟨g1, 0, none⟩) 1 1) 1 (inV [self]) ∧ w'.ownsRow w.heap.size 24 4 (.slice (some ⟨g2, 0, none⟩) 1 1) 1 (fs [N]) ∧ Below w.heap.size w w' := by
  obtain ⟨h1, h2, h3, h4, h5, h6, h7, h8⟩ := nw_ok he
  obtain ⟨w1, hw1⟩ : ∃ w1, (w.alloc (.cells #[.int .u32 (wd N 0 : Nat), .int .u32 (wd N 1 : Nat), .int .u32 (wd N 2 : Nat), .int .u32 (wd N 3 : Nat)] 24)).alloc (.cells #[.int .i64 0, .int .i64 0, .int .i64 0, .slice none 0 0, .slice none 0 0] 44) = w1 := ⟨_, rfl⟩
  have hb1 : Below w.heap.size w w1 := by rw [← hw1]; exact bel2 (al1' _ _) (al1' _ _)
  have G1 : Hid (Holds4 w1 w.heap.size (wd N)) := by rw [← hw1]; exact old_at (new_at rfl)
  have R1 : Hid (w1.heap[w.heap.size + 1]? = some (.cells z5 44 (0, 0))) := by rw [← hw1]; exact new_at (by simp)
  obtain ⟨y0, y1, y2, y3, _⟩ := G1.out.facts
  have hwi := rWithin_any N hN n w1
  rw [h8] at hwi
  have c1 : ¬ n < 1 := by omega
  have c2 : ¬ 100 < n := by omega
  have c3 : ¬ f < 0 := by omega
  have c4 : ¬ n ≤ f := by omega
  have c5 : ¬ self < 0 := by simp [isN] at h5; omega
  have c6 : ¬ n ≤ self := by simp [isN] at h5; omega
  have c7 : ¬ ro < 1 := by omega
  have c8 : ¬ 1099511627775 < ro := by omega
  clear h8 h5 he h1 h2 h3 h4 h6 h7
  simp only [sv] at hwi ⊢
  go_enter Try.func14, Try.ntmps14
  go_wp2_with (first
    | (go_at_call 23; (with_reducible refine hwi.mono ?_); rintro e u ⟨rfl, hu⟩; have R2 : Hid (u.heap[w.heap.size + 1]? = some (.cells z5 44 (0, 0))) := (hu.block _ (lt_at R1.out)).trans R1.out; have hb2 : Hid (Below w.heap.size w u) := bel2 hb1 hu; obtain ⟨u1, hu1⟩ : ∃ u1, u.alloc (.cells #[.int .i64 self] 3) = u1 := ⟨_, rfl⟩; have G2 : Hid (Holds4 u1 w.heap.size (wd N)) := (by rw [← hu1]; exact old_at (G1.out.carry hu)); have hs1' : u1.heap.size = u.heap.size + 1 := (by rw [← hu1]; simp); have hs1 : Hid (u1.heap.size = u.heap.size + 1) := hs1'; clear hs1'; obtain ⟨x0, x1, x2, x3, _⟩ := G2.out.facts; obtain ⟨u2, hu2⟩ : ∃ u2, u1.alloc (.cells #[.int .u32 (wd N 0 : Nat), .int .u32 (wd N 1 : Nat), .int .u32 (wd N 2 : Nat), .int .u32 (wd N 3 : Nat)] 24) = u2 := ⟨_, rfl⟩; have R3 : Hid (u2.heap[w.heap.size + 1]? = some (.cells z5 44 (0, 0))) := (by rw [← hu2, ← hu1]; exact old_at (old_at R2.out)); have hb3 : Hid (Below w.heap.size w u2) := (by rw [← hu2, ← hu1]; exact bel2 (bel2 hb2.out (al1' _ _)) (al1' _ _)); have I2 : Hid (u2.ownsRow w.heap.size 3 1 (.slice (some ⟨u.heap.size, 0, none⟩) 1 1) 1 (inV [self])) := (by rw [← hu2, ← hu1]; exact row_below (World.ownsRow_lit (base := w.heap.size) (e := 3) (size := 1) u #[.int .i64 self] 1 hb2.out.size (by unfold maxLen; omega) (by simp)) (al1' _ _)); have S2 : Hid (u2.ownsRow w.heap.size 24 4 (.slice (some ⟨u1.heap.size, 0, none⟩) 1 1) 1 (fs [N])) := (by rw [← hu2]; exact World.ownsRow_lit (base := w.heap.size) (e := 24) (size := 4) u1 #[.int .u32 (wd N 0 : Nat), .int .u32 (wd N 1 : Nat), .int .u32 (wd N 2 : Nat), .int .u32 (wd N 3 : Nat)] 1 (by rw [hs1.out]; exact Nat.le_trans hb2.out.size (by omega)) (by unfold maxLen; omega) (by simp)))
    | (refine wpList_store_row rfl 44 (.tmp 10) (.tmp 55) rfl (w.heap.size + 1) (rfC n f ro (.slice (some ⟨u.heap.size, 0, none⟩) 1 1) (.slice (some ⟨u1.heap.size, 0, none⟩) 1 1)) rfl rfl 44 _ R3.out infoRf rfl (by simp [rfC, Value.oneCell']) ?_; obtain ⟨v, hv⟩ : ∃ v, u2.setRow (w.heap.size + 1) (rfC n f ro (.slice (some ⟨u.heap.size, 0, none⟩) 1 1) (.slice (some ⟨u1.heap.size, 0, none⟩) 1 1)) = v := ⟨_, rfl⟩; have RV : Hid (v.heap[w.heap.size + 1]? = some (.cells (rfC n f ro (.slice (some ⟨u.heap.size, 0, none⟩) 1 1) (.slice (some ⟨u1.heap.size, 0, none⟩) 1 1)) 44 (0, 0))) := (by rw [← hv]; exact setRow_heap _ _ _ _ _ _ R3.out); have HB : Hid (Below w.heap.size w v) := (by rw [← hv]; exact below_row hb3.out (by omega) _); have IV : Hid (v.ownsRow w.heap.size 3 1 (.slice (some ⟨u.heap.size, 0, none⟩) 1 1) 1 (inV [self])) := (by rw [← hv]; exact row_moved I2.out (fun b e => setRow_other (fun e2 => row_type I2.out R3.out (by decide) (by rw [← e2]; exact e)))); have SV : Hid (v.ownsRow w.heap.size 24 4 (.slice (some ⟨u1.heap.size, 0, none⟩) 1 1) 1 (fs [N])) := (by rw [← hv]; exact row_moved S2.out (fun b e => setRow_other (fun e2 => row_type S2.out R3.out (by decide) (by rw [← e2]; exact e)))); rw [hv]))
  exact retC2 rfl rfl rfl rfl RV.out undRf infoRf ⟨u.heap.size, u1.heap.size, rfl, IV.out, SV.out, HB.out⟩
set_option maxHeartbeats 8000000 in
set_option maxRecDepth 100000 in
theorem looks_any {w : World} {B q cap base p ch cs : Nat} {ad ah az : Option Addr} {t : Tl} {wh : List Int} (hT : Ta w B q ad cap t) (hR : Rf w base p t ah ch az cs wh) (hc : Cw t wh) (hv : Tv t) : Calls Try.prog 16 #[.pointer (some ⟨q, 0, none⟩), .pointer (some ⟨p, 0, none⟩)] w fun e w' => e = .returned (.bool true) ∧ Below w.heap.size w w' := by
  have hmx : Try.prog.follows .mixedOrders = true := by kernel_rfl
  have hlen := hv.len
  have hd1 := hv.d1
  have hn1 := hv.n1
  have hd0 := hv.d0
  have hsub := i64_id (t.n - (t.n - t.need)) (by omega) (by omega)
  have hneed : t.need = t.n - (t.n - t.need) := by omega
  have hhe : ∀ V, Below w.heap.size w V → Calls Try.prog 11 #[.pointer (some ⟨q, 0, none⟩)] V fun e w' => ∃ a c, e = .returned (.slice a t.hs.length c) ∧ RdS w' a t.hs ∧ Below V.heap.size V w' := fun V hV => by
    refine (heards_any (hT.carry hV) (by omega)).mono ?_
    rintro e w' ⟨a, c, rfl, h1, h2⟩
    exact ⟨a, c, rfl, RdS.own h1, h2⟩
  go_enter Try.func16, Try.ntmps16
  go_wp2
  rename_i hK
  refine wp_region_any hmx ?_
  refine wpAny_tabG (G := (Option Addr × Nat)) (fun g i__ => ([(.pointer (some ⟨q, 0, none⟩)), (.int .i64 t.ro), (.pointer (some ⟨p, 0, none⟩)), (.pointer (some ⟨p, 0, none⟩)), (.pointer (some ⟨p, 2, none⟩)), (.int .i64 t.ro), (.bool true), (.bool true), (.pointer (some ⟨q, 0, none⟩)), (.int .i64 t.need), (.pointer (some ⟨p, 0, none⟩)), (.pointer (some ⟨p, 0, none⟩)), (.pointer (some ⟨p, 0, none⟩)), (.int .i64 t.n), (.pointer (some ⟨p, 0, none⟩)), (.pointer (some ⟨p, 0, none⟩)), (.pointer (some ⟨p, 1, none⟩)), (.int .i64 (t.n - t.need)), (.int .i64 t.need), (.bool true), (.bool true), (.bool true), (.pointer (some ⟨q, 0, none⟩)), (.int .i64 (t.hs.length : Int)), (.pointer (some ⟨p, 0, none⟩)), (.pointer (some ⟨p, 0, none⟩)), (.pointer (some ⟨p, 3, none⟩)), (.slice ah t.hs.length ch), (.int .i64 (t.hs.length : Int)), (.bool true), (.bool true), (.bool true), (.pointer (some ⟨q, 0, none⟩)), (.bool (rdy t)), (.pointer (some ⟨p, 0, none⟩)), (.bool (rdy t)), (.bool true), (.bool true), (.bool true), (.pointer (some ⟨q, 0, none⟩)), (sv t.reps), (.pointer (some ⟨p, 0, none⟩)), (sv t.reps), (.bool true), (.bool true), (.bool true), (.pointer (some ⟨q, 0, none⟩)), (.slice g.1 t.hs.length g.2), (.pointer (some ⟨p, 0, none⟩)), (.pointer (some ⟨p, 0, none⟩)), (.pointer (some ⟨p, 4, none⟩)), (.slice az t.hs.length cs), (.bool true), (.bool true), (.bool true)] : List Value).getD i__ undef) (fun g d V => Jh w t.hs g (d 47) V) (by kernel_rfl) ((none, 0)) (show Jh w t.hs (none, 0) false _ from ⟨(Below.refl _ _).drew, fun e => by cases e⟩) ?step2 ?fin2
  case step2 =>
    intro i o ho
    have hi : i < 55 := getElem?_lt ho
    match i, hi, ho with
    | 0, _, ho =>
      cases ho
      refine stepG_of (fun g d hdep => ?_)
      exact step_move rfl trivial _ rfl (by kernel_rfl)
    | 1, _, ho =>
      cases ho
      refine stepG_of (fun g d hdep => ?_)
      exact step_call rfl trivial 25 _ _ [(.pointer (some ⟨q, 0, none⟩))] rfl (by kernel_rfl) (enters_of Try.func25 (by kernel_rfl) rfl) (fun v hw => (tround_any (hT.carry hw.1)).mono (by rintro e w2 ⟨rfl, rfl⟩; exact ⟨rfl, hw⟩))
    | 2, _, ho =>
      cases ho
      refine stepG_of (fun g d hdep => ?_)
      exact step_move rfl trivial _ rfl (by kernel_rfl)
    | 3, _, ho =>
      cases ho
      refine stepG_of (fun g d hdep => ?_)
      exact step_nilCheck rfl trivial _ _ _ rfl rfl rfl
    | 4, _, ho =>
      cases ho
      refine stepG_of (fun g d hdep => ?_)
      exact step_fieldAddr rfl trivial _ _ _ _ rfl rfl (fun v hw => field_r2 v _)
    | 5, _, ho =>
      cases ho
      refine stepG_of (fun g d hdep => ?_)
      exact step_load rfl trivial _ _ _ rfl rfl (fun v hw => load_i64 (hR.carry hw.1).cells.2.2.1)
    | 6, _, ho =>
      cases ho
      refine stepG_of (fun g d hdep => ?_)
      exact step_binOp rfl trivial _ _ _ _ _ _ _ rfl rfl rfl (fun v hw => (bin_eql .i64 _ _).trans (by simp))
    | 7, _, ho =>
      cases ho
      refine stepG_of (fun g d hdep => ?_)
      exact step_move rfl trivial _ rfl (by kernel_rfl)
    | 8, _, ho =>
      cases ho
      refine stepG_of (fun g d hdep => ?_)
      exact step_move rfl (by exact ⟨_, rfl, by kernel_rfl⟩) _ rfl (by kernel_rfl)
    | 9, _, ho =>
      cases ho
      refine stepG_of (fun g d hdep => ?_)
      exact step_call rfl (by exact ⟨_, rfl, by kernel_rfl⟩) 10 _ _ [(.pointer (some ⟨q, 0, none⟩))] rfl (by kernel_rfl) (enters_of Try.func10 (by kernel_rfl) rfl) (fun v hw => (need_any (hT.carry hw.1)).mono (by rintro e w2 ⟨rfl, rfl⟩; exact ⟨rfl, hw⟩))
    | 10, _, ho =>
      cases ho
      refine stepG_of (fun g d hdep => ?_)
      exact step_move rfl (by exact ⟨_, rfl, by kernel_rfl⟩) _ rfl (by kernel_rfl)
    | 11, _, ho =>
      cases ho
      refine stepG_of (fun g d hdep => ?_)
      exact step_nilCheck rfl (by exact ⟨_, rfl, by kernel_rfl⟩) _ _ _ rfl rfl rfl
    | 12, _, ho =>
      cases ho
      refine stepG_of (fun g d hdep => ?_)
      exact step_fieldAddr rfl (by exact ⟨_, rfl, by kernel_rfl⟩) _ _ _ _ rfl rfl (fun v hw => field_r0 v _)
    | 13, _, ho =>
      cases ho
      refine stepG_of (fun g d hdep => ?_)
      exact step_load rfl (by exact ⟨_, rfl, by kernel_rfl⟩) _ _ _ rfl rfl (fun v hw => load_i64 (hR.carry hw.1).cells.1)
    | 14, _, ho =>
      cases ho
      refine stepG_of (fun g d hdep => ?_)
      exact step_move rfl (by exact ⟨_, rfl, by kernel_rfl⟩) _ rfl (by kernel_rfl)
    | 15, _, ho =>
      cases ho
      refine stepG_of (fun g d hdep => ?_)
      exact step_nilCheck rfl (by exact ⟨_, rfl, by kernel_rfl⟩) _ _ _ rfl rfl rfl
    | 16, _, ho =>
      cases ho
      refine stepG_of (fun g d hdep => ?_)
      exact step_fieldAddr rfl (by exact ⟨_, rfl, by kernel_rfl⟩) _ _ _ _ rfl rfl (fun v hw => field_r1 v _)
    | 17, _, ho =>
      cases ho
      refine stepG_of (fun g d hdep => ?_)
      exact step_load rfl (by exact ⟨_, rfl, by kernel_rfl⟩) _ _ _ rfl rfl (fun v hw => load_i64 (hR.carry hw.1).cells.2.1)
    | 18, _, ho =>
      cases ho
      refine stepG_of (fun g d hdep => ?_)
      exact step_binOp rfl (by exact ⟨_, rfl, by kernel_rfl⟩) _ _ _ _ _ _ _ rfl rfl rfl (fun v hw => bin_sub64 _ _ _ (hsub.trans hneed.symm))
    | 19, _, ho =>
      cases ho
      refine stepG_of (fun g d hdep => ?_)
      exact step_binOp rfl (by exact ⟨_, rfl, by kernel_rfl⟩) _ _ _ _ _ _ _ rfl rfl rfl (fun v hw => (bin_eql .i64 _ _).trans (by simp))
    | 20, _, ho =>
      cases ho
      refine stepG_of (fun g d hdep => ?_)
      exact step_pick rfl trivial _ _ _ true rfl (by kernel_rfl) (by kernel_rfl)
    | 21, _, ho =>
      cases ho
      refine stepG_of (fun g d hdep => ?_)
      exact step_move rfl trivial _ rfl (by kernel_rfl)
    | 22, _, ho =>
      cases ho
      refine stepG_of (fun g d hdep => ?_)
      exact step_move rfl (by exact ⟨_, rfl, by kernel_rfl⟩) _ rfl (by kernel_rfl)
    | 23, _, ho =>
      cases ho
      refine stepG_of (fun g d hdep => ?_)
      exact step_call rfl (by exact ⟨_, rfl, by kernel_rfl⟩) 9 _ _ [(.pointer (some ⟨q, 0, none⟩))] rfl (by kernel_rfl) (enters_of Try.func9 (by kernel_rfl) rfl) (fun v hw => (have_any (hT.carry hw.1)).mono (by rintro e w2 ⟨rfl, rfl⟩; exact ⟨rfl, hw⟩))
    | 24, _, ho =>
      cases ho
      refine stepG_of (fun g d hdep => ?_)
      exact step_move rfl (by exact ⟨_, rfl, by kernel_rfl⟩) _ rfl (by kernel_rfl)
    | 25, _, ho =>
      cases ho
      refine stepG_of (fun g d hdep => ?_)
      exact step_nilCheck rfl (by exact ⟨_, rfl, by kernel_rfl⟩) _ _ _ rfl rfl rfl
    | 26, _, ho =>
      cases ho
      refine stepG_of (fun g d hdep => ?_)
      exact step_fieldAddr rfl (by exact ⟨_, rfl, by kernel_rfl⟩) _ _ _ _ rfl rfl (fun v hw => field_r3 v _)
    | 27, _, ho =>
      cases ho
      refine stepG_of (fun g d hdep => ?_)
      exact step_load rfl (by exact ⟨_, rfl, by kernel_rfl⟩) _ _ _ rfl rfl (fun v hw => load_si (hR.carry hw.1).cells.2.2.2.1)
    | 28, _, ho =>
      cases ho
      refine stepG_of (fun g d hdep => ?_)
      exact step_bi rfl (by exact ⟨_, rfl, by kernel_rfl⟩) _ _ _ [(.slice ah t.hs.length ch)] rfl (by kernel_rfl) (fun cs v hw => bi_lenI _ cs _ _ _ v)
    | 29, _, ho =>
      cases ho
      refine stepG_of (fun g d hdep => ?_)
      exact step_binOp rfl (by exact ⟨_, rfl, by kernel_rfl⟩) _ _ _ _ _ _ _ rfl rfl rfl (fun v hw => (bin_eql .i64 _ _).trans (by simp))
    | 30, _, ho =>
      cases ho
      refine stepG_of (fun g d hdep => ?_)
      exact step_pick rfl trivial _ _ _ true rfl (by kernel_rfl) (by kernel_rfl)
    | 31, _, ho =>
      cases ho
      refine stepG_of (fun g d hdep => ?_)
      exact step_move rfl trivial _ rfl (by kernel_rfl)
    | 32, _, ho =>
      cases ho
      refine stepG_of (fun g d hdep => ?_)
      exact step_move rfl (by exact ⟨_, rfl, by kernel_rfl⟩) _ rfl (by kernel_rfl)
    | 33, _, ho =>
      cases ho
      refine stepG_of (fun g d hdep => ?_)
      exact step_call rfl (by exact ⟨_, rfl, by kernel_rfl⟩) 8 _ _ [(.pointer (some ⟨q, 0, none⟩))] rfl (by kernel_rfl) (enters_of Try.func8 (by kernel_rfl) rfl) (fun v hw => (ready_any (hT.carry hw.1)).mono (by rintro e w2 ⟨rfl, rfl⟩; exact ⟨rfl, hw⟩))
    | 34, _, ho =>
      cases ho
      refine stepG_of (fun g d hdep => ?_)
      exact step_move rfl (by exact ⟨_, rfl, by kernel_rfl⟩) _ rfl (by kernel_rfl)
    | 35, _, ho =>
      cases ho
      refine stepG_of (fun g d hdep => ?_)
      exact step_call rfl (by exact ⟨_, rfl, by kernel_rfl⟩) 24 _ _ [(.pointer (some ⟨p, 0, none⟩))] rfl (by kernel_rfl) (enters_of Try.func24 (by kernel_rfl) rfl) (fun v hw => (rReady_any (hR.carry hw.1) hv).mono (by rintro e w2 ⟨rfl, hb⟩; exact ⟨rfl, hw.carry hb⟩))
    | 36, _, ho =>
      cases ho
      refine stepG_of (fun g d hdep => ?_)
      exact step_binOp rfl (by exact ⟨_, rfl, by kernel_rfl⟩) _ _ _ _ _ _ _ rfl rfl rfl (fun v hw => eqB_t _ _ v _)
    | 37, _, ho =>
      cases ho
      refine stepG_of (fun g d hdep => ?_)
      exact step_pick rfl trivial _ _ _ true rfl (by kernel_rfl) (by kernel_rfl)
    | 38, _, ho =>
      cases ho
      refine stepG_of (fun g d hdep => ?_)
      exact step_move rfl trivial _ rfl (by kernel_rfl)
    | 39, _, ho =>
      cases ho
      refine stepG_of (fun g d hdep => ?_)
      exact step_move rfl (by exact ⟨_, rfl, by kernel_rfl⟩) _ rfl (by kernel_rfl)
    | 40, _, ho =>
      cases ho
      refine stepG_of (fun g d hdep => ?_)
      exact step_call rfl (by exact ⟨_, rfl, by kernel_rfl⟩) 12 _ _ [(.pointer (some ⟨q, 0, none⟩))] rfl (by kernel_rfl) (enters_of Try.func12 (by kernel_rfl) rfl) (fun v hw => (reps_any (hT.carry hw.1)).mono (by rintro e w2 ⟨rfl, hb⟩; exact ⟨rfl, hw.carry hb⟩))
    | 41, _, ho =>
      cases ho
      refine stepG_of (fun g d hdep => ?_)
      exact step_move rfl (by exact ⟨_, rfl, by kernel_rfl⟩) _ rfl (by kernel_rfl)
    | 42, _, ho =>
      cases ho
      refine stepG_of (fun g d hdep => ?_)
      exact step_call rfl (by exact ⟨_, rfl, by kernel_rfl⟩) 26 _ _ [(.pointer (some ⟨p, 0, none⟩))] rfl (by kernel_rfl) (enters_of Try.func26 (by kernel_rfl) rfl) (fun v hw => (rReps_any (hR.carry hw.1) hc hv).mono (by rintro e w2 ⟨rfl, hb⟩; exact ⟨rfl, hw.carry hb⟩))
    | 43, _, ho =>
      cases ho
      refine stepG_of (fun g d hdep => ?_)
      exact step_binOp rfl (by exact ⟨_, rfl, by kernel_rfl⟩) _ _ _ _ _ _ _ rfl rfl rfl (fun v hw => eqls rfl (S100_S128 hv.reps) v)
    | 44, _, ho =>
      cases ho
      refine stepG_of (fun g d hdep => ?_)
      exact step_pick rfl trivial _ _ _ true rfl (by kernel_rfl) (by kernel_rfl)
    | 45, _, ho =>
      cases ho
      refine stepG_of (fun g d hdep => ?_)
      exact step_move rfl trivial _ rfl (by kernel_rfl)
    | 46, _, ho =>
      cases ho
      refine stepG_of (fun g d hdep => ?_)
      exact step_move rfl (by exact ⟨_, rfl, by kernel_rfl⟩) _ rfl (by kernel_rfl)
    | 47, _, ho =>
      cases ho
      exact stepG_call rfl (fun _ => ⟨_, rfl, by kernel_rfl⟩) 11 _ _ (fun _ => [.pointer (some ⟨q, 0, none⟩)]) rfl (fun g => by kernel_rfl) (enters_of Try.func11 (by kernel_rfl) rfl) (fun g d V hJ hun hdep hcl => (hhe V hJ.1).mono (by rintro e V' ⟨a, c, rfl, h1, h2⟩; refine ⟨(a, c), rfl, (fun j hj => match j, hj with | 47, hj => (by rw [hj] at hun; cases hun) | 52, hj => absurd ((hcl 52 _ rfl hj 47 (by kernel_rfl))) (by rw [hun]; simp) | 0, _ => rfl | 1, _ => rfl | 2, _ => rfl | 3, _ => rfl | 4, _ => rfl | 5, _ => rfl | 6, _ => rfl | 7, _ => rfl | 8, _ => rfl | 9, _ => rfl | 10, _ => rfl | 11, _ => rfl | 12, _ => rfl | 13, _ => rfl | 14, _ => rfl | 15, _ => rfl | 16, _ => rfl | 17, _ => rfl | 18, _ => rfl | 19, _ => rfl | 20, _ => rfl | 21, _ => rfl | 22, _ => rfl | 23, _ => rfl | 24, _ => rfl | 25, _ => rfl | 26, _ => rfl | 27, _ => rfl | 28, _ => rfl | 29, _ => rfl | 30, _ => rfl | 31, _ => rfl | 32, _ => rfl | 33, _ => rfl | 34, _ => rfl | 35, _ => rfl | 36, _ => rfl | 37, _ => rfl | 38, _ => rfl | 39, _ => rfl | 40, _ => rfl | 41, _ => rfl | 42, _ => rfl | 43, _ => rfl | 44, _ => rfl | 45, _ => rfl | 46, _ => rfl | 48, _ => rfl | 49, _ => rfl | 50, _ => rfl | 51, _ => rfl | 53, _ => rfl | 54, _ => rfl | _ + 55, _ => rfl), ?_⟩; exact ⟨bel2 hJ.1 h2, fun _ => h1⟩))
    | 48, _, ho =>
      cases ho
      refine stepG_of (fun g d hdep => ?_)
      exact step_move rfl (by exact ⟨_, rfl, by kernel_rfl⟩) _ rfl (by kernel_rfl)
    | 49, _, ho =>
      cases ho
      refine stepG_of (fun g d hdep => ?_)
      exact step_nilCheck rfl (by exact ⟨_, rfl, by kernel_rfl⟩) _ _ _ rfl rfl rfl
    | 50, _, ho =>
      cases ho
      refine stepG_of (fun g d hdep => ?_)
      exact step_fieldAddr rfl (by exact ⟨_, rfl, by kernel_rfl⟩) _ _ _ _ rfl rfl (fun v hw => field_r4 v _)
    | 51, _, ho =>
      cases ho
      refine stepG_of (fun g d hdep => ?_)
      exact step_load rfl (by exact ⟨_, rfl, by kernel_rfl⟩) _ _ _ rfl rfl (fun v hw => load_ss (hR.carry hw.1).cells.2.2.2.2)
    | 52, _, ho =>
      cases ho
      refine stepG_of (fun g d hdep => ?_)
      exact step_call rfl (by exact ⟨_, rfl, by kernel_rfl⟩) 27 _ _ [(.slice g.1 t.hs.length g.2), (.slice az t.hs.length cs)] rfl (by kernel_rfl) (enters_of Try.func27 (by kernel_rfl) rfl) (fun v hw => (sets_yes g.1 az g.2 cs t.hs v (hw.2 (hdep 47 (by kernel_rfl))) (RdS.own (hR.carry hw.1).rs) (by omega) hv.each).mono (by rintro e w2 ⟨rfl, hb⟩; exact ⟨rfl, hw.carry hb⟩))
    | 53, _, ho =>
      cases ho
      refine stepG_of (fun g d hdep => ?_)
      exact step_pick rfl trivial _ _ _ true rfl (by kernel_rfl) (by kernel_rfl)
    | 54, _, ho =>
      cases ho
      refine stepG_of (fun g d hdep => ?_)
      exact step_assign rfl trivial _ rfl (by kernel_rfl) (fun _ h => h)
  intro g d W hall hW
  first | refine hK _ _ ?_ | refine (‹∀ (a : Act) (w : World), Code.wp Try.prog _ _ a w → _›) _ _ ?_ | skip
  simp only [finL, List.getD_cons_zero, List.getD_cons_succ, Nat.zero_add, Nat.reduceAdd, List.setIfInBounds_toArray, List.set_cons_zero, List.set_cons_succ]
  clear hK
  go_wp2
  go_ret
  exact ⟨rfl, hW.1⟩
end Go.Proofs.Ytcdefcaoocnlbab
