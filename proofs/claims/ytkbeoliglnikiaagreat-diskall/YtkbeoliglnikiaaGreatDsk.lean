/- The play. -/
import Derived.Test.YtkbeoliglnikiaaGreatDsn
namespace Go.Proofs.YtkbeoliglnikiaaGreat
open Go.RowKit Go.Shelf
theorem step_build3 {P : Program} {md : Region.Mode} {ops : Array Oper} {Q : Exit → Act → World → Prop} {X0 : Array Value} {val : Nat → Value} {J : World → Prop} {i : Nat} {o : Oper} (hi : ops[i]? = some o) (hg : GOk md ops X0 val i o) (t : TypeId) (a b c : Nat) (x y z : Operand) (p q r : Value) (ho : o.op = .build t #[(a, x), (b, y), (c, z)]) (hx : rdo md ops X0 val i o x = some p) (hy : rdo md ops X0 val i o y = some q) (hz : rdo md ops X0 val i o z = some r)
    (hr : ∀ w, J w → (Instr.build t #[(a, p), (b, q), (c, r)]).run P w = .ok (val i) w) : StepAt P md ops Q X0 val J J i o :=
  step_of hi hg fun a w hJ hS => by
    unfold Oper.wp execOp
    simp only [ho, hS.eval hx, hS.eval hy, hS.eval hz, List.map_toArray, List.map_cons, List.map_nil, Sem.run_bind, hr w hJ, Result.andThen_ok, Sem.run_pure, Oper.upon_value]
    exact ⟨trivial, hJ⟩
theorem bld_bo (p r c bb : Nat) (d : Dst) (W : World) : (Instr.build 46 #[(0, .pointer (some ⟨p, 0, none⟩)), (1, rdV r c d.off (left d) d.writes), (2, .pointer (some ⟨bb, 0, none⟩))]).run Tryz.prog W = .ok (.agg (boC p r c bb d).toArray) W := by
  unfold rdV boC
  go_simp
/-- While the other one is made a twin: a6: the disk is made, a11: the document's, a15: they are put. -/
def JT (σ : Sg) (w : World) (lb bb m q p r c : Nat) (d : Dst) (p' r' c' : Nat) (d' : Dst) (g : Nat × Nat × Nat) (a6 a11 a15 : Bool) (V : World) : Prop :=
  (a15 = false → Pq σ w lb bb m q p r c d p' r' c' d' V ∧ (a6 = true → Dk V g.1 d ∧ w.heap.size ≤ g.1 ∧ p ≠ g.1) ∧ (a11 = true → V.ownsRow w.heap.size 5 1 (.slice (some ⟨g.2.1, 0, none⟩) 256 g.2.2) 256 (cB d.l) ∧ r ≠ g.2.1 ∧ NK (oneMore σ g.2.1) w.heap.size bb V)) ∧ (a15 = true → PS w lb bb (m + 1) V)
theorem info_op : (Tryz.prog.info? 61).map (·.size) = some 4 := by kernel_rfl
theorem bounds_hi {a : Int} (h : (Lit.int .i64 a).wf = true) : a ≤ 9223372036854775807 := by
  simp only [Lit.wf, Bool.and_eq_true, decide_eq_true_eq] at h
  have h2 : IntKind.i64.max = 9223372036854775807 := rfl
  omega
set_option maxHeartbeats 8000000 in
set_option maxRecDepth 100000 in
theorem play_A (w : World) (ad0 : Option Addr) (cap0 : Nat) (l0 : List Nat) (w0 : RdB w ad0 l0) (hb0 : Byt l0) (hc0 : l0.length ≤ cap0) (ad1 : Option Addr) (cap1 : Nat) (l1 : List Op4) (w1 : RdO w w.heap.size ad1 l1) (hn : l1.length ≤ 150) (hI : l0.length = 256) : Calls Tryz.prog 4 #[.slice ad0 l0.length cap0, .slice ad1 l1.length cap1, .bool true] w fun e w' => e = .returned (.bool true) ∧ Below w.heap.size w w' := by
  have hal := alive_any w
  have hmx : Tryz.prog.follows .mixedOrders = true := by kernel_rfl
  obtain ⟨b, off, rfl, hbl, hat⟩ := w0 (fun e => by rw [e] at hI; cases hI)
  have hni : ¬ (l1.length : Int) > 150 := by omega
  rw [hI] at hc0 ⊢
  have HI : Hid (l0.length = 256) := hI
  clear hI
  go_enter Tryz.func4, Tryz.ntmps4
  go_wp2_with (first | (go_at_call 5; (with_reducible refine hal.mono ?_); rintro e u1 ⟨rfl, hb1⟩; obtain ⟨u2, hu2⟩ : ∃ u2, u1.alloc (.cells #[.slice none 0 0, .slice none 0 0, .slice none 0 0, .slice none 0 0, .slice none 0 0, .slice none 0 0, .slice none 0 0, .slice none 0 0, .slice none 0 0, .slice none 0 0, .slice none 0 0, .slice none 0 0, .slice none 0 0, .slice none 0 0, .slice none 0 0, .slice none 0 0, .slice none 0 0, .slice none 0 0, .slice none 0 0, .slice none 0 0, .slice none 0 0, .slice none 0 0, .slice none 0 0, .slice none 0 0] 41) = u2 := ⟨_, rfl⟩; have hb2 : Below u1.heap.size u1 u2 := (by rw [← hu2]; exact al1' _ _); have hk2 : KB u2 u1.heap.size (.slice none 0 0) (.slice none 0 0) := (by rw [← hu2]; exact new_at rfl); obtain ⟨u3, hu3⟩ : ∃ u3, u2.alloc (.cells #[.pointer none, .slice none 0 0, .bool false, .int .i64 0, .int .i64 0, .pointer none, .pointer none, .slice none 0 0, .bool false, .int .i64 0, .int .i64 0, .pointer none] 47) = u3 := ⟨_, rfl⟩; have hb3 : Below u2.heap.size u2 u3 := (by rw [← hu3]; exact al1' _ _); have hl3 : u3.heap[u2.heap.size]? = some (.cells #[.pointer none, .slice none 0 0, .bool false, .int .i64 0, .int .i64 0, .pointer none, .pointer none, .slice none 0 0, .bool false, .int .i64 0, .int .i64 0, .pointer none] 47 (0, 0)) := (by rw [← hu3]; exact new_at rfl); have hk3 : KB u3 u1.heap.size (.slice none 0 0) (.slice none 0 0) := (hb3.block _ (lt_at hk2)).trans hk2; have hB3 : Below w.heap.size w u3 := bel2 (bel2 hb1 hb2) hb3; have s2 := hb2.size; have s1 := hb1.size; have s3 := lt_at hl3; have s4 := lt_at hk2; have hof := of_ok b off cap0 l0 u3 (Nat.lt_of_lt_of_le hbl hB3.size) (hat.carry (hB3.block b hbl)) HI.out hb0 hc0) | (go_at_call 6; (with_reducible refine hof.mono ?_); rintro e u4 ⟨rfl, hD4, hlt4, hb4⟩; have hl4 := (hb4.block _ s3).trans hl3; have hk4 : KB u4 u1.heap.size (.slice none 0 0) (.slice none 0 0) := (hb4.block _ (lt_at hk3)).trans hk3; have hB4 := bel2 hB3 hb4; have hrof := rof_ok b off cap0 l0 u4 (Nat.lt_of_lt_of_le hbl hB4.size) (hat.carry (hB4.block b hbl)) HI.out; unfold rdV at hrof) | (go_at_call 7; (with_reducible refine hrof.mono ?_); rintro e u5 ⟨r0, rfl, hr5, ho5, hb5⟩; have hl5 := (hb5.block _ (lt_at hl4)).trans hl4; have hk5 : KB u5 u1.heap.size (.slice none 0 0) (.slice none 0 0) := (hb5.block _ (lt_at hk4)).trans hk4; have hB5 := bel2 hB4 hb5; have hD5 := hD4.carry hb5; obtain ⟨u6, hu6⟩ : ∃ u6, u5.alloc (.cells #[.slice none 0 0, .bool false, .int .i64 0, .int .i64 0] 44) = u6 := ⟨_, rfl⟩; have hb6 : Below u5.heap.size u5 u6 := (by rw [← hu6]; exact al1' _ _); have hg6 : RB u6 u5.heap.size (.slice none 0 0) false 0 0 := (by rw [← hu6]; exact new_at rfl); have s5 := hb5.size) | (refine wpList_store_row rfl 44 (.tmp 11) (.tmp 37) rfl u5.heap.size #[.slice (some ⟨r0, 0, none⟩) 256 256, .bool false, .int .i64 (-1), .int .i64 0] rfl rfl 44 _ hg6 info_rd rfl (by simp [Value.oneCell']) ?_; obtain ⟨v6, hv6⟩ : ∃ v6, u6.setRow u5.heap.size #[.slice (some ⟨r0, 0, none⟩) 256 256, .bool false, .int .i64 (-1), .int .i64 0] = v6 := ⟨_, rfl⟩; have hgv6 : RB v6 u5.heap.size (.slice (some ⟨r0, 0, none⟩) 256 256) false (-1) 0 := (by rw [← hv6]; exact setRow_heap _ _ _ _ _ _ hg6); have hbv6 : Below u5.heap.size u5 v6 := (by rw [← hv6]; exact below_setRow hb6 (Nat.le_refl _) _); rw [hv6]; have hl6 := (hbv6.block _ (lt_at hl5)).trans hl5; have hk6 : KB v6 u1.heap.size (.slice none 0 0) (.slice none 0 0) := (hbv6.block _ (lt_at hk5)).trans hk5; have hB6 := bel2 hB5 hbv6; have hD6 := hD5.carry hbv6; have ho6 := row_below ho5 hbv6; have s6 := hbv6.size) | (refine wpList_load_row rfl 44 (.tmp 11) rfl u5.heap.size rfl 44 _ (0, 0) _ hgv6 und_rd rfl info_rd ?_) | (refine wpList_store_in rfl 46 (.tmp 58) (.tmp 57) rfl u2.heap.size 0 47 [.pointer none, .slice none 0 0, .bool false, .int .i64 0, .int .i64 0, .pointer none, .pointer none, .slice none 0 0, .bool false, .int .i64 0, .int .i64 0, .pointer none] [.pointer (some ⟨u3.heap.size, 0, none⟩), .slice (some ⟨r0, 0, none⟩) 256 256, .bool false, .int .i64 (-1), .int .i64 0, .pointer (some ⟨u1.heap.size, 0, none⟩)] rfl rfl hl6 info_bo (show (6 : Nat) ≤ 12 from by decide) (by simp [Value.oneCell']) ?_; obtain ⟨v7, hv7⟩ : ∃ v7, v6.setRow u2.heap.size (splice [.pointer none, .slice none 0 0, .bool false, .int .i64 0, .int .i64 0, .pointer none, .pointer none, .slice none 0 0, .bool false, .int .i64 0, .int .i64 0, .pointer none] 0 [.pointer (some ⟨u3.heap.size, 0, none⟩), .slice (some ⟨r0, 0, none⟩) 256 256, .bool false, .int .i64 (-1), .int .i64 0, .pointer (some ⟨u1.heap.size, 0, none⟩)]).toArray = v7 := ⟨_, rfl⟩; have HL7 : Hid (v7.heap[u2.heap.size]? = some (.cells [.pointer (some ⟨u3.heap.size, 0, none⟩), .slice (some ⟨r0, 0, none⟩) 256 256, .bool false, .int .i64 (-1), .int .i64 0, .pointer (some ⟨u1.heap.size, 0, none⟩), .pointer none, .slice none 0 0, .bool false, .int .i64 0, .int .i64 0, .pointer none].toArray 47 (0, 0))) := (by rw [← hv7]; exact setRow_heap _ _ _ _ _ _ hl6); have t7 : Tp u2.heap.size v6 v7 := (by rw [← hv7]; exact Tp.row _ _ _); rw [hv7]; have hk7 : KB v7 u1.heap.size (.slice none 0 0) (.slice none 0 0) := (t7.block _ (lt_at hk6) (by omega)).trans hk6; have hD7 := hD6.tp t7 (by omega); have ho7 := row_tpb ho6 t7 (by omega); have hB7 := hB6.trans (t7.below (by omega) hB6.size); have hne7 := dnew_any v7) | (go_at_call 9; (with_reducible refine hne7.mono ?_); rintro e u8 ⟨rfl, hP8, hlt8, hb8⟩; have hrn8 := rnew_any u8; unfold rdV at hrn8) | (go_at_call 8; (with_reducible refine hrn8.mono ?_); rintro e u9 ⟨r1, rfl, hr9, ho9, hb9⟩; have hbb9 := bel2 hb8 hb9; have hk9 : KB u9 u1.heap.size (.slice none 0 0) (.slice none 0 0) := (hbb9.block _ (lt_at hk7)).trans hk7; have hD9 := hD7.carry hbb9; have hP9 := hP8.carry hb9; have ho09 := row_below ho7 hbb9; have hB9 := bel2 hB7 hbb9; have hl9 := (hbb9.block _ (lt_at HL7.out)).trans HL7.out; have s7 := t7.size; have s8 := hbb9.size) | (refine wpList_store_in rfl 46 (.tmp 63) (.tmp 62) rfl u2.heap.size 6 47 [.pointer (some ⟨u3.heap.size, 0, none⟩), .slice (some ⟨r0, 0, none⟩) 256 256, .bool false, .int .i64 (-1), .int .i64 0, .pointer (some ⟨u1.heap.size, 0, none⟩), .pointer none, .slice none 0 0, .bool false, .int .i64 0, .int .i64 0, .pointer none] [.pointer (some ⟨v7.heap.size, 0, none⟩), .slice (some ⟨r1, 0, none⟩) 256 256, .bool false, .int .i64 (-1), .int .i64 0, .pointer (some ⟨u1.heap.size, 0, none⟩)] rfl rfl hl9 info_bo (show (12 : Nat) ≤ 12 from by decide) (by simp [Value.oneCell']) ?_; obtain ⟨v9, hv9⟩ : ∃ v9, u9.setRow u2.heap.size (splice [.pointer (some ⟨u3.heap.size, 0, none⟩), .slice (some ⟨r0, 0, none⟩) 256 256, .bool false, .int .i64 (-1), .int .i64 0, .pointer (some ⟨u1.heap.size, 0, none⟩), .pointer none, .slice none 0 0, .bool false, .int .i64 0, .int .i64 0, .pointer none] 6 [.pointer (some ⟨v7.heap.size, 0, none⟩), .slice (some ⟨r1, 0, none⟩) 256 256, .bool false, .int .i64 (-1), .int .i64 0, .pointer (some ⟨u1.heap.size, 0, none⟩)]).toArray = v9 := ⟨_, rfl⟩; have HL9 : Hid (v9.heap[u2.heap.size]? = some (.cells (boC u3.heap.size r0 256 u1.heap.size (dOf l0) ++ boC v7.heap.size r1 256 u1.heap.size d0).toArray 47 (0, 0))) := (by rw [← hv9]; exact setRow_heap _ _ _ _ _ _ hl9); have t9 : Tp u2.heap.size u9 v9 := (by rw [← hv9]; exact Tp.row _ _ _); rw [hv9]))
  have hk9' := (t9.block _ (lt_at hk9) (by omega)).trans hk9
  have hnk := nk_new (σ := fun b => b = r0 ∨ b = r1) (base := w.heap.size) hk9' (by omega) (fun b q => by have q1 := row_lt0 ho09; have q2 := row_lt0 ho9; have q3 := t9.size; rcases q with q | q <;> omega)
  have hD9' := hD9.tp t9 (by omega)
  have hP9' := hP9.tp t9 (by omega)
  have ho09' := row_base (base' := w.heap.size) (row_tpb ho09 t9 (by omega)) (by omega)
  have ho9' := row_base (base' := w.heap.size) (row_tpb ho9 t9 (by omega)) (by omega)
  have hB9' := hB9.trans (t9.below (by omega) hB9.size)
  have hlt0 := row_lt0 ho7
  have hPS : PS w u2.heap.size u1.heap.size 0 v9 := ⟨fun b => b = r0 ∨ b = r1, _, _, _, _, _, _, _, _, sd_lo HL9.out hD9' ho09' hnk hB9'.size (by omega) (by omega) (.inl rfl), sd_hi HL9.out hP9' ho9' hnk hB9'.size (by omega) (by omega) (.inr rfl), by omega, by omega, (fun q => by cases q), (fun q => by cases q), ⟨by show (0 : Int) ≤ 0; decide, by show (0 : Int) ≤ 0; decide⟩, ⟨by show (0 : Int) ≤ 0; decide, by show (0 : Int) ≤ 0; decide⟩, hB9'⟩
  clear hk9 hnk hD9' hP9' ho09' ho9' hl9 HL9 HL7 hD9 hP9 ho09 ho9 hk7 hD7 ho7 hl6 hk6 hD6 ho6 hgv6 hl5 hk5 hD5 hg6 ho5 hl4 hk4 hD4 hk3 hl3 hk2 hof hrof hne7 hrn8 hal hB9' hB9 hB7 hB6 hB5 hB4 hB3
  go_loopw [13] (fun i wz => ∃ m : Nat, i = .int .i64 (m : Int) ∧ m ≤ l1.length ∧ PS w u2.heap.size u1.heap.size m wz) (fun i _ => l1.length - vnat i)
  case atStart => exact ⟨0, rfl, Nat.zero_le _, hPS⟩
  case round =>
    obtain ⟨m, rfl, hm, hPm⟩ := hrel
    clear hPS
    by_cases hmn : m < l1.length
    · have hmi : (m : Int) < (l1.length : Int) := by omega
      obtain ⟨o, ho⟩ : ∃ o, l1[m]? = some o := ⟨_, List.getElem?_eq_getElem hmn⟩
      obtain ⟨bs, offs, a, cc, rfl, hbs, c0, c1, c2, c3, hrx, hbx, hwf⟩ := w1 m o ho
      obtain ⟨k, who, x, dt⟩ := o
      dsimp only at c0 c1 c2 c3 hrx hbx hwf
      obtain ⟨q, hq2, hqe⟩ : ∃ q : Nat, q < 2 ∧ who % 2 = (q : Int) := ⟨(who % 2).toNat, by omega, by omega⟩
      have hand : bits .and .i64 who 1 = (q : Int) := (i64_and1 who).trans hqe
      obtain ⟨σ, p, r, c, dA, p', r', c', dB, hP⟩ := hPm.at hq2
      have hBm := hP.low
      have e0 := (hBm.cell (p := ⟨bs, offs + m * 4, none⟩) hbs).trans c0
      have e1 := (hBm.cell (p := ⟨bs, offs + m * 4 + 1, none⟩) hbs).trans c1
      have e2 := (hBm.cell (p := ⟨bs, offs + m * 4 + 2, none⟩) hbs).trans c2
      have e3 := (hBm.cell (p := ⟨bs, offs + m * 4 + 3, none⟩) hbs).trans c3
      obtain ⟨x1, hx1⟩ : ∃ x1, wr.alloc (.cells #[.int .i64 0, .int .i64 0, .int .i64 0, .slice none 0 0] 61) = x1 := ⟨_, rfl⟩
      have hbx1 : Below wr.heap.size wr x1 := by rw [← hx1]; exact al1' _ _
      have hox1 : OpB x1 wr.heap.size 0 0 0 (.slice none 0 0) := by rw [← hx1]; exact new_at rfl
      have hix := idx_O bs offs l1.length cap1 m hmn
      clear c0 c1 c2 c3 hPm ho hqe
      obtain ⟨n, hn⟩ : ∃ n, dt.length = n := ⟨_, rfl⟩
      rw [hn] at e3
      have HN : Hid (dt.length = n) := hn
      clear hn
      by_cases hd3 : n ≤ 300
      case neg =>
        have hdi : (n : Int) > 300 := by omega
        go_wp2_with (refine wpList_store_row rfl 61 (.tmp 14) (.tmp 73) rfl wr.heap.size #[.int .i64 k, .int .i64 who, .int .i64 x, .slice a n cc] rfl rfl 61 _ hox1 info_op rfl (by simp [Value.oneCell']) ?_; obtain ⟨x2, hx2⟩ : ∃ x2, x1.setRow wr.heap.size #[.int .i64 k, .int .i64 who, .int .i64 x, .slice a n cc] = x2 := ⟨_, rfl⟩; have hox2 : OpB x2 wr.heap.size k who x (.slice a n cc) := (by rw [← hx2]; exact setRow_heap _ _ _ _ _ _ hox1); have hbx2 : Below wr.heap.size wr x2 := (by rw [← hx2]; exact below_setRow hbx1 (Nat.le_refl _) _); rw [hx2]; have f0 := hox2.c0; have f1 := hox2.c1; have f3 := hox2.c3)
        go_ret
        exact ⟨rfl, hBm.trans (hbx2.mono hBm.size)⟩
      have hdi : ¬ (n : Int) > 300 := by omega
      by_cases hk6 : k = 6
      · subst hk6
        go_wp2_with (refine wpList_store_row rfl 61 (.tmp 14) (.tmp 73) rfl wr.heap.size #[.int .i64 6, .int .i64 who, .int .i64 x, .slice a n cc] rfl rfl 61 _ hox1 info_op rfl (by simp [Value.oneCell']) ?_; obtain ⟨x2, hx2⟩ : ∃ x2, x1.setRow wr.heap.size #[.int .i64 6, .int .i64 who, .int .i64 x, .slice a n cc] = x2 := ⟨_, rfl⟩; have hox2 : OpB x2 wr.heap.size 6 who x (.slice a n cc) := (by rw [← hx2]; exact setRow_heap _ _ _ _ _ _ hox1); have hbx2 : Below wr.heap.size wr x2 := (by rw [← hx2]; exact below_setRow hbx1 (Nat.le_refl _) _); rw [hx2]; have f0 := hox2.c0; have f1 := hox2.c1; have f3 := hox2.c3)
        have HX2 : Hid (OpB x2 wr.heap.size 6 who x (.slice a n cc)) := hox2
        have hP2 := hP.carry hbx2
        clear hox2 f0 f1 f3 hx2
        refine wp_region_any hmx ?_
        refine wpAny_tabG (G := (Nat × Nat × Nat)) (fun g i__ => ([(.int .i64 (q : Int)), (.int .i64 ((1 - q : Nat) : Int)), (.int .i64 (q : Int)), (.pointer (some ⟨u2.heap.size, 6 * q, none⟩)), (.pointer (some ⟨u2.heap.size, 6 * q, none⟩)), (.pointer (some ⟨p, 0, none⟩)), (.pointer (some ⟨g.1, 0, none⟩)), (.int .i64 (q : Int)), (.pointer (some ⟨u2.heap.size, 6 * q, none⟩)), (.pointer (some ⟨u2.heap.size, 6 * q + 1, none⟩)), (rdV r c dA.off (left dA) dA.writes), (rdV g.2.1 g.2.2 dA.off (left dA) dA.writes), (.pointer (some ⟨u1.heap.size, 0, none⟩)), (.agg (boC g.1 g.2.1 g.2.2 u1.heap.size dA).toArray), (.pointer (some ⟨u2.heap.size, 6 * (1 - q), none⟩)), undef] : List Value).getD i__ undef) (fun g f V => JT σ w u2.heap.size u1.heap.size m q p r c dA p' r' c' dB g (f 6) (f 11) (f 15) V) (by kernel_rfl) ((0, 0, 0)) ⟨fun _ => ⟨hP2.carry (Below.refl _ _).drew, (fun e => absurd e (by decide)), (fun e => absurd e (by decide))⟩, (fun e => absurd e (by decide))⟩ ?step1 ?fin1
        case step1 =>
          intro i o ho
          have hi : i < 16 := getElem?_lt ho
          match i, hi, ho with
          | 0, _, ho =>
            cases ho
            refine stepG_of (fun g d hdep => ?_)
            exact step_move rfl trivial _ rfl (by kernel_rfl)
          | 1, _, ho =>
            cases ho
            refine stepG_of (fun g d hdep => ?_)
            exact step_binOp rfl trivial _ _ _ _ _ _ _ rfl rfl rfl (fun v hw => bin_sub64 _ _ _ ((i64_id _ (by omega) (by omega)).trans (by omega)))
          | 2, _, ho =>
            cases ho
            refine stepG_of (fun g d hdep => ?_)
            exact step_move rfl trivial _ rfl (by kernel_rfl)
          | 3, _, ho =>
            cases ho
            refine stepG_of (fun g d hdep => ?_)
            exact step_indexAddr rfl trivial _ _ _ _ _ rfl rfl rfl (fun v hw => idx_b2 _ q hq2 v)
          | 4, _, ho =>
            cases ho
            refine stepG_of (fun g d hdep => ?_)
            exact step_fieldAddr rfl trivial _ _ _ _ rfl rfl (fun v hw => field_bo0 v _ _)
          | 5, _, ho =>
            cases ho
            exact stepG_ofC (fun g f hun hdep hcl => step_load rfl trivial _ _ _ rfl rfl (fun v hw => load_bop (hw.1 (by cases h : f 15 with | false => rfl | true => exact absurd (hcl 15 _ rfl h 5 (by kernel_rfl)) (by rw [hun]; simp))).1.a.c0))
          | 6, _, ho =>
            cases ho
            exact stepG_call rfl (fun g => trivial) 10 _ _ (fun _ => [.pointer (some ⟨p, 0, none⟩)]) rfl (fun g => rfl) (enters_of Tryz.func10 (by kernel_rfl) rfl) (fun g f V hJ hun hdep hcl => by have h15 : f 15 = false := (by cases h : f 15 with | false => rfl | true => exact absurd (hcl 15 _ rfl h 6 (by kernel_rfl)) (by rw [hun]; simp)); have h11 : f 11 = false := (by cases h : f 11 with | false => rfl | true => exact absurd (hcl 11 _ rfl h 6 (by kernel_rfl)) (by rw [hun]; simp)); obtain ⟨hq, _, _⟩ := hJ.1 h15; refine (twin_any hq.a.dk).mono ?_; rintro e w' ⟨rfl, hk, hb⟩; refine ⟨(V.heap.size, g.2), rfl, (fun j hj => match j, hj with | 6, hj => (by rw [hj] at hun; cases hun) | 13, hj => absurd ((hcl 13 _ rfl hj 6 (by kernel_rfl))) (by rw [hun]; simp) | 0, _ => rfl | 1, _ => rfl | 2, _ => rfl | 3, _ => rfl | 4, _ => rfl | 5, _ => rfl | 7, _ => rfl | 8, _ => rfl | 9, _ => rfl | 10, _ => rfl | 11, _ => rfl | 12, _ => rfl | 14, _ => rfl | 15, _ => rfl | _ + 16, _ => rfl), ?_⟩; show JT σ w u2.heap.size u1.heap.size m q p r c dA p' r' c' dB _ true (f 11) (f 15) w'; rw [h15, h11]; exact ⟨fun _ => ⟨hq.carry hb, fun _ => ⟨hk, hq.low.size, Nat.ne_of_lt hq.a.dk.lt⟩, (fun e => absurd e (by decide))⟩, (fun e => absurd e (by decide))⟩)
          | 7, _, ho =>
            cases ho
            refine stepG_of (fun g d hdep => ?_)
            exact step_move rfl trivial _ rfl (by kernel_rfl)
          | 8, _, ho =>
            cases ho
            refine stepG_of (fun g d hdep => ?_)
            exact step_indexAddr rfl trivial _ _ _ _ _ rfl rfl rfl (fun v hw => idx_b2 _ q hq2 v)
          | 9, _, ho =>
            cases ho
            refine stepG_of (fun g d hdep => ?_)
            exact step_fieldAddr rfl trivial _ _ _ _ rfl rfl (fun v hw => field_bo1 v _ _)
          | 10, _, ho =>
            cases ho
            exact stepG_ofC (fun g f hun hdep hcl => step_load rfl trivial _ _ _ rfl rfl (fun v hw => load_rdd (hw.1 (by cases h : f 15 with | false => rfl | true => exact absurd (hcl 15 _ rfl h 10 (by kernel_rfl)) (by rw [hun]; simp))).1.a.rf))
          | 11, _, ho =>
            cases ho
            exact stepG_call rfl (fun g => trivial) 11 _ _ (fun _ => [rdV r c dA.off (left dA) dA.writes]) rfl (fun g => rfl) (enters_of Tryz.func11 (by kernel_rfl) rfl) (fun g f V hJ hun hdep hcl => by have h15 : f 15 = false := (by cases h : f 15 with | false => rfl | true => exact absurd (hcl 15 _ rfl h 11 (by kernel_rfl)) (by rw [hun]; simp)); have h6 : f 6 = true := hdep 6 (by kernel_rfl); obtain ⟨hq, h6', _⟩ := hJ.1 h15; obtain ⟨k1, k2, k3⟩ := h6' h6; refine (rcopy_any V r c dA.off (left dA) dA.writes dA.l w.heap.size hq.a.rf.row hq.a.dk.len).mono ?_; rintro e w' ⟨r2, c2, rfl, hr2, ho2, hb⟩; refine ⟨(g.1, r2, c2), rfl, (fun j hj => match j, hj with | 11, hj => (by rw [hj] at hun; cases hun) | 13, hj => absurd ((hcl 13 _ rfl hj 11 (by kernel_rfl))) (by rw [hun]; simp) | 0, _ => rfl | 1, _ => rfl | 2, _ => rfl | 3, _ => rfl | 4, _ => rfl | 5, _ => rfl | 6, _ => rfl | 7, _ => rfl | 8, _ => rfl | 9, _ => rfl | 10, _ => rfl | 12, _ => rfl | 14, _ => rfl | 15, _ => rfl | _ + 16, _ => rfl), ?_⟩; show JT σ w u2.heap.size u1.heap.size m q p r c dA p' r' c' dB _ (f 6) true (f 15) w'; rw [h15, h6]; have hrl := row_lt0 hq.a.rf.row; exact ⟨fun _ => ⟨hq.carry hb, fun _ => ⟨k1.carry hb, k2, k3⟩, fun _ => ⟨row_base ho2 hq.low.size, (by show r ≠ r2; omega), hq.a.nk.more w' (fun _ _ _ q => q.carry hb) hb.block hb.size (own_block ho2 r2 rfl) (row_lt0 ho2)⟩⟩, (fun e => absurd e (by decide))⟩)
          | 12, _, ho =>
            cases ho
            refine stepG_of (fun g d hdep => ?_)
            exact step_move rfl trivial _ rfl (by kernel_rfl)
          | 13, _, ho =>
            cases ho
            exact stepG_of (fun g f hdep => step_build3 rfl trivial _ _ _ _ _ _ _ (.pointer (some ⟨g.1, 0, none⟩)) (rdV g.2.1 g.2.2 dA.off (left dA) dA.writes) (.pointer (some ⟨u1.heap.size, 0, none⟩)) rfl rfl rfl rfl (fun v hw => bld_bo _ _ _ _ _ v))
          | 14, _, ho =>
            cases ho
            refine stepG_of (fun g d hdep => ?_)
            exact step_indexAddr rfl trivial _ _ _ _ _ rfl rfl rfl (fun v hw => idx_b2 _ (1 - q) (by omega) v)
          | 15, _, ho =>
            cases ho
            exact stepG_ofC (fun g f hun hdep hcl => step_store rfl trivial rfl _ _ _ _ _ rfl rfl rfl (fun V hw => by have h6 : f 6 = true := hdep 6 (by kernel_rfl); have h11 : f 11 = true := hdep 11 (by kernel_rfl); have h15 : f 15 = false := hun; obtain ⟨hq, h6', h11'⟩ := hw.1 h15; obtain ⟨k1, k2, k3⟩ := h6' h6; obtain ⟨k4, k5, k6⟩ := h11' h11; obtain ⟨V', hr, hA⟩ := hq.twin hq2 k1 k4 k2 k3 k5 k6; refine ⟨V', hr, ?_⟩; show JT σ w u2.heap.size u1.heap.size m q p r c dA p' r' c' dB _ (f 6) (f 11) true V'; exact ⟨(fun e => absurd e (by decide)), fun _ => hA⟩))
        intro g d W hall hW
        first | refine hK _ _ ?_ | refine (‹∀ (a : Act) (w : World), Code.wp Tryz.prog _ _ a w → _›) _ _ ?_ | skip
        simp only [finL, List.getD_cons_zero, List.getD_cons_succ, Nat.zero_add, Nat.reduceAdd, List.setIfInBounds_toArray, List.set_cons_zero, List.set_cons_succ]
        have hfin := hW.2 (hall 15 (by decide))
        clear hW hall
        obtain ⟨σ2, pA, rA, cA, eA, pB, rB, cB2, eB, hQ⟩ := hfin
        have hlo := looks_any hQ.a
        rw [show 6 * 0 = 0 from rfl] at hlo
        have HQ : Hid (Pq σ2 w u2.heap.size u1.heap.size (m + 1) 0 pA rA cA eA pB rB cB2 eB W) := hQ
        clear hQ 
        go_wp2_with (first | (go_at_call 13; have mm := stA; (with_reducible refine hlo2.mono ?_); rintro e y2 ⟨rfl, hn2, hk2⟩; have HQ3 : Hid (Pq σ2 w u2.heap.size u1.heap.size (m + 1) 0 pA rA cA eA pB rB cB2 eB y2) := HQ2.out.kp hk2 hn2) | (go_at_call 13; (with_reducible refine hlo.mono ?_); rintro e y1 ⟨rfl, hn1, hk1⟩; have HQ2 : Hid (Pq σ2 w u2.heap.size u1.heap.size (m + 1) 0 pA rA cA eA pB rB cB2 eB y1) := HQ.out.kp hk1 hn1; have hlo2 := looks_any HQ2.out.b; rw [show 6 * (1 - 0) = 6 from rfl] at hlo2; have stA : True := trivial))
        go_roundw
        case rel => exact ⟨m + 1, by simp, by omega, HQ3.out.ps (by decide)⟩
        case measure => simp [vnat]; omega
      · have hst := fun V (hV : Pq σ w u2.heap.size u1.heap.size m q p r c dA p' r' c' dB V) => step_any hV.a hV.a.lb0 hV.a.pb hV.low k who x a cc dt hrx hbx (by rw [HN.out]; exact hd3) hV.fa hV.wa.1 (by have := hV.wa.2; omega)
        have hfz := dStep_fz (k := k) (a := x) (x := dt) hP.fa (bounds_hi hwf) hP.wa.1
        rw [HN.out] at hst
        go_wp2_with (refine wpList_store_row rfl 61 (.tmp 14) (.tmp 73) rfl wr.heap.size #[.int .i64 k, .int .i64 who, .int .i64 x, .slice a n cc] rfl rfl 61 _ hox1 info_op rfl (by simp [Value.oneCell']) ?_; obtain ⟨x2, hx2⟩ : ∃ x2, x1.setRow wr.heap.size #[.int .i64 k, .int .i64 who, .int .i64 x, .slice a n cc] = x2 := ⟨_, rfl⟩; have hox2 : OpB x2 wr.heap.size k who x (.slice a n cc) := (by rw [← hx2]; exact setRow_heap _ _ _ _ _ _ hox1); have hbx2 : Below wr.heap.size wr x2 := (by rw [← hx2]; exact below_setRow hbx1 (Nat.le_refl _) _); rw [hx2]; have f0 := hox2.c0; have f1 := hox2.c1; have f3 := hox2.c3)
        refine wp_region_any hmx ?_
        refine wpAny_last2 3 (fun i__ => ([(.int .i64 (q : Int)), (.pointer (some ⟨u2.heap.size, 6 * q, none⟩)), (.agg #[.int .i64 k, .int .i64 who, .int .i64 x, .slice a n cc]), (.bool true), (.bool false)] : List Value).getD i__ undef) (fun V => Pq σ w u2.heap.size u1.heap.size m q p r c dA p' r' c' dB V ∧ OpB V wr.heap.size k who x (.slice a n cc)) (fun V => PS w u2.heap.size u1.heap.size (m + 1) V) (fun V => PS w u2.heap.size u1.heap.size (m + 1) V) rfl (by kernel_rfl) (by kernel_rfl) ⟨(hP.carry hbx2).carry (Below.refl _ _).drew, hox2.carry (Below.refl _ _).drew⟩ ?_ ?_ ?_  ?_
        · refine (stepsFrom_cons ?_ (stepsFrom_cons ?_ (stepsFrom_cons ?_ trivial)))
          · exact step_move rfl trivial _ rfl (by kernel_rfl)
          · exact step_indexAddr rfl trivial _ _ _ _ _ rfl rfl rfl (fun v hw => idx_b2 _ q hq2 v)
          · exact step_load rfl trivial _ _ _ rfl rfl (fun v hw => load_opb hw.2)
        · intro o ho
          cases ho
          exact step_call rfl trivial 12 _ _ [(.pointer (some ⟨u2.heap.size, 6 * q, none⟩)), (.agg #[.int .i64 k, .int .i64 who, .int .i64 x, .slice a n cc])] rfl (by kernel_rfl) (enters_of Tryz.func12 (by kernel_rfl) rfl) (fun v hw => (hst v hw.1).mono (by rintro e w' ⟨rfl, hs, he⟩; exact ⟨rfl, (hw.1.step hq2 hs he hfz.1 hfz.2).ps hq2⟩))
        · intro o ho
          cases ho
          exact step_unOp rfl trivial _ _ _ _ rfl rfl (fun v hw => un_not true v)
        intro W hW
        first | refine hK _ _ ?_ | refine (‹∀ (a : Act) (w : World), Code.wp Tryz.prog _ _ a w → _›) _ _ ?_
        simp only [finL, List.getD_cons_zero, List.getD_cons_succ, Nat.zero_add, Nat.reduceAdd, List.setIfInBounds_toArray, List.set_cons_zero, List.set_cons_succ]
        obtain ⟨σ2, pA, rA, cA, eA, pB, rB, cB2, eB, hQ⟩ := hW
        have hlo := looks_any hQ.a
        rw [show 6 * 0 = 0 from rfl] at hlo
        have HQ : Hid (Pq σ2 w u2.heap.size u1.heap.size (m + 1) 0 pA rA cA eA pB rB cB2 eB W) := hQ
        clear hQ 
        go_wp2_with (first | (go_at_call 13; have mm := stA; (with_reducible refine hlo2.mono ?_); rintro e y2 ⟨rfl, hn2, hk2⟩; have HQ3 : Hid (Pq σ2 w u2.heap.size u1.heap.size (m + 1) 0 pA rA cA eA pB rB cB2 eB y2) := HQ2.out.kp hk2 hn2) | (go_at_call 13; (with_reducible refine hlo.mono ?_); rintro e y1 ⟨rfl, hn1, hk1⟩; have HQ2 : Hid (Pq σ2 w u2.heap.size u1.heap.size (m + 1) 0 pA rA cA eA pB rB cB2 eB y1) := HQ.out.kp hk1 hn1; have hlo2 := looks_any HQ2.out.b; rw [show 6 * (1 - 0) = 6 from rfl] at hlo2; have stA : True := trivial))
        go_roundw
        case rel => exact ⟨m + 1, by simp, by omega, HQ3.out.ps (by decide)⟩
        case measure => simp [vnat]; omega
    · have hmm : m = l1.length := by omega
      subst hmm
      obtain ⟨σ2, pA, rA, cA, eA, pB, rB, cB2, eB, hQ⟩ := hPm
      have hlo := looks_any hQ.a
      rw [show 6 * 0 = 0 from rfl] at hlo
      have HQ : Hid (Pq σ2 w u2.heap.size u1.heap.size l1.length 0 pA rA cA eA pB rB cB2 eB wr) := hQ
      clear hQ
      go_wp2_with (first | (go_at_call 14; (with_reducible refine hap.mono ?_); rintro e y3 ⟨rfl, hb3⟩) | (go_at_call 13; have mm := stA; (with_reducible refine hlo2.mono ?_); rintro e y2 ⟨rfl, hn2, hk2⟩; have HQ3 : Hid (Pq σ2 w u2.heap.size u1.heap.size l1.length 0 pA rA cA eA pB rB cB2 eB y2) := HQ2.out.kp hk2 hn2; have hap := HQ3.out.a.nk.apart HQ3.out.a.bz) | (go_at_call 13; (with_reducible refine hlo.mono ?_); rintro e y1 ⟨rfl, hn1, hk1⟩; have HQ2 : Hid (Pq σ2 w u2.heap.size u1.heap.size l1.length 0 pA rA cA eA pB rB cB2 eB y1) := HQ.out.kp hk1 hn1; have hlo2 := looks_any HQ2.out.b; rw [show 6 * (1 - 0) = 6 from rfl] at hlo2; have stA : True := trivial))
      go_ret
      exact ⟨rfl, HQ3.out.low.trans hb3⟩
end Go.Proofs.YtkbeoliglnikiaaGreat
