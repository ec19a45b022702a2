/- The document's Of: what it answers. -/
import Derived.Test.YtkbeoliglnikiaaGreatDrc
namespace Go.Proofs.YtkbeoliglnikiaaGreat
open Go.RowKit Go.Shelf

theorem retRt {f : Func} {p q : Tmp} {R : Ending → World → Prop} {a : Act} {w : World} {b : Nat} {v : Value} {o : Bool} {fu n : Int} {x : Value} (hres : f.results = #[.cell p 44, .tmp q]) (hp : a.tmps.getD p undef = .pointer (some ⟨b, 0, none⟩)) (hq : a.tmps.getD q undef = x) (hd : a.defers = []) (h : RB w b v o fu n) (hR : R (.returned (.tuple #[.agg #[v, .bool o, .int .i64 fu, .int .i64 n], x])) w) : bodyPost Tryz.prog f R .ret a w := by
  refine bodyPost_ret (v := .tuple #[.agg #[v, .bool o, .int .i64 fu, .int .i64 n], x]) ?_ hd hR
  have h2 := run_loadVar_row (P := Tryz.prog) w b 44 44 #[v, .bool o, .int .i64 fu, .int .i64 n] (0, 0) _ h und_rd rfl info_rd
  have hp' : a.tmps[p]?.getD undef = .pointer (some ⟨b, 0, none⟩) := by simpa using hp
  have hq' : a.tmps[q]?.getD undef = x := by simpa using hq
  simp [results, hres, hp', hq', asAddr, h2]
set_option maxHeartbeats 1000000 in
set_option maxRecDepth 100000 in
theorem rof_no (ad : Option Addr) (cap n : Nat) (w : World) (hn : ¬ n = 256) : Calls Tryz.prog 7 #[.slice ad n cap] w fun e w' => e = .returned (.tuple #[.agg #[.slice none 0 0, .bool false, .int .i64 0, .int .i64 0], .int .i64 102]) ∧ Below w.heap.size w w' := by
  have hni : ¬ (n : Int) = 256 := by omega
  obtain ⟨w1, hw1⟩ : ∃ w1, w.alloc (.cells #[.slice none 0 0, .bool false, .int .i64 0, .int .i64 0] 44) = w1 := ⟨_, rfl⟩
  have hb1 : Below w.heap.size w w1 := by rw [← hw1]; exact al1' _ _
  have hg1 : RB w1 w.heap.size (.slice none 0 0) false 0 0 := by rw [← hw1]; exact new_at rfl
  go_enter Tryz.func7, Tryz.ntmps7
  go_wp2_with (refine wpList_store_row rfl 44 (.tmp 2) (.tmp 8) rfl w.heap.size #[.slice none 0 0, .bool false, .int .i64 0, .int .i64 0] rfl rfl 44 _ hg1 info_rd rfl (by simp [Value.oneCell']) ?_; obtain ⟨v, hv⟩ : ∃ v, w1.setRow w.heap.size #[.slice none 0 0, .bool false, .int .i64 0, .int .i64 0] = v := ⟨_, rfl⟩; have HV : Hid (RB v w.heap.size (.slice none 0 0) false 0 0) := (by rw [← hv]; exact setRow_heap _ _ _ _ _ _ hg1); have HB : Hid (Below w.heap.size w v) := (by rw [← hv]; exact below_setRow hb1 (Nat.le_refl _) _); rw [hv])
  (try simp only [Exit.inBlock, Exit.then])
  exact retRt rfl rfl rfl rfl HV.out ⟨rfl, HB.out⟩
theorem row_lt0 {W : World} {base g n c : Nat} {e : TypeId} {xs : List Value} (h : W.ownsRow base e 1 (.slice (some ⟨g, 0, none⟩) n c) n xs) : g < W.heap.size := by
  rcases h.2 with ⟨e1, _⟩ | ⟨g1, c1, cur, e1, _, h3, _⟩
  · cases e1
  · cases e1
    exact lt_at h3
theorem own_cur {W : World} {base g n c : Nat} {e : TypeId} {xs : List Value} (h : W.ownsRow base e 1 (.slice (some ⟨g, 0, none⟩) n c) n xs) : ∃ cur : Array Value, W.heap[g]? = some (.cells cur e (0, 0)) ∧ n ≤ c ∧ c ≤ maxLen ∧ cur.size = c ∧ base ≤ g := by
  rcases h.2 with ⟨e1, _⟩ | ⟨g1, c1, cur, e1, h2, h3, h4, h5, h6, _⟩
  · cases e1
  · cases e1
    exact ⟨cur, h3, h4, h5, by omega, h2⟩
theorem own_put {W : World} {base r : Nat} {cur : Array Value} {I : List Nat} (h : W.heap[r]? = some (.cells cur 5 (0, 0))) (hc : cur.size = 256) (hI : I.length = 256) (hb : base ≤ r) : (W.setRow r (cur.toList.take 0 ++ (cB I ++ cur.toList.drop (0 + (cB I).length))).toArray).ownsRow base 5 1 (.slice (some ⟨r, 0, none⟩) 256 256) 256 (cB I) := by
  have e : (cB I).length = 256 := by rw [cB_len, hI]
  refine ⟨by rw [e], .inr ⟨r, 256, _, rfl, hb, setRow_heap _ _ _ _ _ _ h, Nat.le_refl _, by unfold maxLen; omega, ?_, ?_⟩⟩
  · simp [e, hc]
  · simp only [List.take_zero, List.nil_append]
    rw [List.take_append_of_le_length (by omega), List.take_of_length_le (by omega)]
set_option maxHeartbeats 2000000 in
set_option maxRecDepth 100000 in
theorem rof_ok (b off : Nat) (cap : Nat) (I : List Nat) (w : World) (hb : b < w.heap.size) (hat : BAt w b off I) (hI : I.length = 256) : Calls Tryz.prog 7 #[.slice (some ⟨b, off, none⟩) 256 cap] w fun e w' => ∃ r, e = .returned (.tuple #[rdV r 256 false (-1) 0, .int .i64 0]) ∧ w.heap.size ≤ r ∧ w'.ownsRow w.heap.size 5 1 (.slice (some ⟨r, 0, none⟩) 256 256) 256 (cB I) ∧ Below w.heap.size w w' := by
  obtain ⟨w1, hw1⟩ : ∃ w1, w.alloc (.cells #[.slice none 0 0, .bool false, .int .i64 0, .int .i64 0] 44) = w1 := ⟨_, rfl⟩
  have hb1 : Below w.heap.size w w1 := by rw [← hw1]; exact al1' _ _
  have hg1 : RB w1 w.heap.size (.slice none 0 0) false 0 0 := by rw [← hw1]; exact new_at rfl
  have hlt1 := lt_at hg1
  have hne := rnew_any w1
  unfold rdV at hne ⊢
  have hcl : (cB I).length = 256 := by rw [cB_len, hI]
  go_enter Tryz.func7, Tryz.ntmps7
  go_wp2_with (first | (go_at_call 8; (with_reducible refine hne.mono ?_); rintro e u1 ⟨r, rfl, hr, ho1, hbu1⟩; obtain ⟨u2, hu2⟩ : ∃ u2, u1.alloc (.cells #[.slice none 0 0, .bool false, .int .i64 0, .int .i64 0] 44) = u2 := ⟨_, rfl⟩; have hb2 : Below u1.heap.size u1 u2 := (by rw [← hu2]; exact al1' _ _); have hg2 : RB u2 u1.heap.size (.slice none 0 0) false 0 0 := (by rw [← hu2]; exact new_at rfl); have ho2 := row_below ho1 hb2; have hlt2 := row_lt0 ho1; have hg12 := (hg1.carry hbu1).carry hb2; have hB2 := bel2 (bel2 hb1 hbu1) hb2) | (refine wpList_store_row rfl 44 (.tmp 4) (.tmp 9) rfl u1.heap.size #[.slice (some ⟨r, 0, none⟩) 256 256, .bool false, .int .i64 (-1), .int .i64 0] rfl rfl 44 _ hg2 info_rd rfl (by simp [Value.oneCell']) ?_; obtain ⟨v, hv⟩ : ∃ v, u2.setRow u1.heap.size #[.slice (some ⟨r, 0, none⟩) 256 256, .bool false, .int .i64 (-1), .int .i64 0] = v := ⟨_, rfl⟩; have hgv : RB v u1.heap.size (.slice (some ⟨r, 0, none⟩) 256 256) false (-1) 0 := (by rw [← hv]; exact setRow_heap _ _ _ _ _ _ hg2); have hBv : Below w.heap.size w v := (by rw [← hv]; exact below_setRow hB2 (Nat.le_trans hb1.size hbu1.size) _); have hov : v.ownsRow w1.heap.size 5 1 (.slice (some ⟨r, 0, none⟩) 256 256) 256 (cB d0.l) := (by rw [← hv]; exact row_setRow ho2 (Nat.ne_of_lt hlt2) _); have hg1v : RB v w.heap.size (.slice none 0 0) false 0 0 := (by rw [← hv]; exact (setRow_other _ _ _ _ (show w.heap.size ≠ u1.heap.size by have := hbu1.size; omega)).trans hg12); have cv0 := hgv.c0; obtain ⟨cur, hcu, _, _, hcs, _⟩ := own_cur hov; rw [hv]) | (refine wpList_copy_own rfl _ _ _ _ rfl 5 Tryz.underlying22 infoB1 r 0 256 256 ⟨b, off, none⟩ 256 cap rfl rfl cur 5 hcu (cB I) (by rw [hcl]; rfl) (b_src (hat.carry (hBv.block b hb))) (by rw [hcl]; omega) (cB_one I) ?_; obtain ⟨v2, hv2⟩ : ∃ v2, v.setRow r (cur.toList.take 0 ++ (cB I ++ cur.toList.drop (0 + (cB I).length))).toArray = v2 := ⟨_, rfl⟩; have hgx : RB v2 u1.heap.size (.slice (some ⟨r, 0, none⟩) 256 256) false (-1) 0 := (by rw [← hv2]; exact (setRow_other _ _ _ _ (Ne.symm (Nat.ne_of_lt hlt2))).trans hgv); have hg1x : RB v2 w.heap.size (.slice none 0 0) false 0 0 := (by rw [← hv2]; exact (setRow_other _ _ _ _ (show w.heap.size ≠ r by omega)).trans hg1v); have HR2 : Hid (v2.ownsRow w.heap.size 5 1 (.slice (some ⟨r, 0, none⟩) 256 256) 256 (cB I)) := (by rw [← hv2]; exact own_put hcu hcs hI (by omega)); have HB2 : Hid (Below w.heap.size w v2) := (by rw [← hv2]; exact below_setRow hBv (by omega) _); rw [hv2]) | (refine wpList_load_row rfl 44 (.tmp 4) rfl u1.heap.size rfl 44 _ (0, 0) _ hgx und_rd rfl info_rd ?_) | (refine wpList_store_row rfl 44 (.tmp 2) (.tmp 14) rfl w.heap.size #[.slice (some ⟨r, 0, none⟩) 256 256, .bool false, .int .i64 (-1), .int .i64 0] rfl rfl 44 _ hg1x info_rd rfl (by simp [Value.oneCell']) ?_; obtain ⟨v3, hv3⟩ : ∃ v3, v2.setRow w.heap.size #[.slice (some ⟨r, 0, none⟩) 256 256, .bool false, .int .i64 (-1), .int .i64 0] = v3 := ⟨_, rfl⟩; have HV : Hid (RB v3 w.heap.size (.slice (some ⟨r, 0, none⟩) 256 256) false (-1) 0) := (by rw [← hv3]; exact setRow_heap _ _ _ _ _ _ hg1x); have HB : Hid (Below w.heap.size w v3) := (by rw [← hv3]; exact below_setRow HB2.out (Nat.le_refl _) _); have HR : Hid (v3.ownsRow w.heap.size 5 1 (.slice (some ⟨r, 0, none⟩) 256 256) 256 (cB I)) := (by rw [← hv3]; exact row_setRow HR2.out (show r ≠ w.heap.size by omega) _); rw [hv3]))
  (try simp only [Exit.inBlock, Exit.then])
  exact retRt rfl rfl rfl rfl HV.out ⟨r, rfl, by omega, HR.out, HB.out⟩
end Go.Proofs.YtkbeoliglnikiaaGreat
