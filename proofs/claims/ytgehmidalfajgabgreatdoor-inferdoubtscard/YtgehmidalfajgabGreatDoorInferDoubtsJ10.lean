/- tally's Take: what it answers, at every reply. -/
import Derived.Test.YtgehmidalfajgabGreatDoorInferDoubtsJ9
namespace Go.Proofs.YtgehmidalfajgabGreatDoor
open Go.RowKit Go.Shelf

/-- Does the fate befall the reply? -/
def bef (t : Tl) (f r : Int) (N : Nat) : Nat → Bool
  | 0 => !isN f t.n
  | 1 => !wthB N t.n
  | 2 => decide (r ≠ t.ro)
  | 3 => decide (wthN t.reps f = t.reps)
  | _ => rdy t
theorem fate_yes {t : Tl} {f r : Int} {N : Nat} (i : Nat) (hi : i < 5) (h : i ≤ fate t f r N) (hb : bef t f r N i = true) : fate t f r N = i := by
  unfold fate at h ⊢
  match i, hi with
  | 0, _ => simp [bef] at hb; simp [hb]
  | 1, _ => simp [bef] at hb; simp [hb] at h ⊢; by_cases q : isN f t.n = false <;> simp_all
  | 2, _ => simp [bef] at hb; simp [hb] at h ⊢; by_cases q : isN f t.n = false <;> by_cases q2 : wthB N t.n = false <;> simp_all
  | 3, _ => simp [bef] at hb; by_cases q : isN f t.n = false <;> by_cases q2 : wthB N t.n = false <;> by_cases q3 : r = t.ro <;> simp_all
  | 4, _ => simp [bef] at hb; by_cases q : isN f t.n = false <;> by_cases q2 : wthB N t.n = false <;> by_cases q3 : r = t.ro <;> by_cases q4 : wthN t.reps f = t.reps <;> simp_all
theorem fate_no {t : Tl} {f r : Int} {N : Nat} (i : Nat) (hi : i < 5) (h : i ≤ fate t f r N) (hb : bef t f r N i = false) : i + 1 ≤ fate t f r N := by
  rcases Nat.lt_or_ge i (fate t f r N) with q | q
  · exact q
  · have e : fate t f r N = i := by omega
    exfalso
    unfold fate at e
    match i, hi with
    | 0, _ => simp [bef] at hb; simp [hb] at e; split at e <;> (try split at e) <;> (try split at e) <;> (try split at e) <;> omega
    | 1, _ => simp [bef] at hb; simp [hb] at e; split at e <;> (try split at e) <;> (try split at e) <;> (try split at e) <;> omega
    | 2, _ => simp [bef] at hb; simp [hb] at e; split at e <;> (try split at e) <;> (try split at e) <;> (try split at e) <;> omega
    | 3, _ => simp [bef] at hb; simp [hb] at e; split at e <;> (try split at e) <;> (try split at e) <;> (try split at e) <;> omega
    | 4, _ => simp [bef] at hb; simp [hb] at e; split at e <;> (try split at e) <;> (try split at e) <;> (try split at e) <;> omega
/-- While the fates are asked. -/
structure Lt (W : World) (base q k : Nat) (ad : Option Addr) (cap : Nat) (t : Tl) (f r : Int) (N : Nat) (V : World) : Prop where
  ta : Ta V base q ad cap t
  fx : Fx V k q f r N
  tab : V.heap[k + 1 + 1 + 1 + 1]? = some (.cells (ftC k q) 119 (0, 0))
  hb : Holds4 V W.heap.size (wd N)
  bl : Below W.heap.size W V
theorem Lt.carry {W V V' : World} {base q k cap : Nat} {ad : Option Addr} {t : Tl} {f r : Int} {N : Nat} (h : Lt W base q k ad cap t f r N V) (hb : Below V.heap.size V V') : Lt W base q k ad cap t f r N V' :=
  ⟨h.ta.carry hb, h.fx.carry hb, (hb.block _ (lt_at h.tab)).trans h.tab, h.hb.carry hb, bel2 h.bl hb⟩
theorem infoF : (Tryz.prog.info? 119).map (·.size) = some 3 := by kernel_rfl
theorem field_f0 (W : World) (B : Nat) : (Instr.fieldAt 119 (.pointer (some ⟨B, 0, none⟩)) 0).run Tryz.prog W = .ok (.pointer (some ⟨B, 0, none⟩)) W := by go_simp
theorem field_f1 (W : World) (B : Nat) : (Instr.fieldAt 119 (.pointer (some ⟨B, 0, none⟩)) 1).run Tryz.prog W = .ok (.pointer (some ⟨B, 1, none⟩)) W := by go_simp
theorem load_en {W : World} {B o : Nat} {x : Int} (h : W.cell? ⟨B, o, none⟩ = some (.int .i64 x)) : (Instr.loadAt 28 (.pointer (some ⟨B, o, none⟩))).run Tryz.prog W = .ok (.int .i64 x) W := by go_simp
section
variable {W : World} {base q : Nat} {ad : Option Addr} {cap : Nat} {t : Tl}
set_option maxHeartbeats 4000000 in
set_option maxRecDepth 100000 in
theorem take_any (h : Ta W base q ad cap t) (hv : Tv t) (hb0 : base ≤ W.heap.size) (f r : Int) (N : Nat) (hN : N < S128) : Calls Tryz.prog 16 #[.pointer (some ⟨q, 0, none⟩), .int .i64 f, .int .i64 r, sv N] W fun e w' => e = .returned (.tuple #[.int .i64 (kd (fate t f r N)), .int .i64 (ke (fate t f r N))]) ∧ ∃ ad' cap', Ta w' base q ad' cap' (tk t f r N) ∧ Tn q (ob ad) (ob ad') W w' ∧ (fate t f r N ≠ 5 → ad' = ad ∧ cap' = cap ∧ Below W.heap.size W w') := by
  have hmx : Tryz.prog.follows .mixedOrders = true := by kernel_rfl
  obtain ⟨w1, hw1⟩ : ∃ w1, W.alloc (.cells #[.int .u32 (wd N 0 : Nat), .int .u32 (wd N 1 : Nat), .int .u32 (wd N 2 : Nat), .int .u32 (wd N 3 : Nat)] 25) = w1 := ⟨_, rfl⟩
  have hb1 : Below W.heap.size W w1 := by rw [← hw1]; exact al1' _ _
  have g1 : Holds4 w1 W.heap.size (wd N) := by rw [← hw1]; exact new_at rfl
  obtain ⟨y0, y1, y2, y3, _⟩ := g1.facts
  have G1 : Hid (Holds4 w1 W.heap.size (wd N)) := g1
  clear g1
  have hf := fates_any q f r N w1
  simp only [sv] at hf ⊢
  go_enter Tryz.func16, Tryz.ntmps16
  go_wp2_with (go_at_call 86; (with_reducible refine hf.mono ?_); rintro e u ⟨k, rfl, hx, htab, hb⟩; have hL : Hid (Lt W base q k ad cap t f r N u) := ⟨(h.carry hb1).carry hb, hx, htab, G1.out.carry hb, bel2 hb1 hb⟩)
  clear hx htab hf y0 y1 y2 y3
  go_loopw [20] (fun c wz => ∃ i : Nat, c = .int .i64 i ∧ i ≤ 5 ∧ i ≤ fate t f r N ∧ Lt W base q k ad cap t f r N wz) (fun c _ => 5 - vnat c)
  case atStart => exact ⟨0, rfl, by omega, by omega, hL.out⟩
  case round =>
    obtain ⟨i, rfl, hi5, hif, hLr⟩ := hrel
    by_cases hi : i < 5
    · have hii : (i : Int) < 5 := by omega
      obtain rfl | rfl | rfl | rfl | rfl : i = 0 ∨ i = 1 ∨ i = 2 ∨ i = 3 ∨ i = 4 := by omega
      · have c0 := cell_at hLr.tab 0
        have c1 := cell_at hLr.tab 1
        have c2 := cell_at hLr.tab 2
        unfold ftC at c0 c1 c2
        simp at c0 c1 c2
        obtain ⟨b, hbb⟩ : ∃ b, bef t f r N 0 = b := ⟨_, rfl⟩
        have hc : ∀ V, Lt W base q k ad cap t f r N V → Calls Tryz.prog 131 #[.pointer (some ⟨k + 1, 0, none⟩), .pointer (some ⟨k, 0, none⟩)] V fun e w' => e = .returned (.bool b) ∧ Below V.heap.size V w' := fun V hV => by
          rw [← hbb]
          exact fate1_any hV.ta hV.fx
        have hag : ∀ {C : Array Value} (v : World), v.heap[wr.heap.size]? = some (.cells C 119 (0, 0)) → Below wr.heap.size wr v → Lt W base q k ad cap t f r N v := fun v _ hb => hLr.carry hb
        cases b with
        | false =>
          go_wp2_with (first
            | (refine wpList_store_row rfl 119 (.tmp 11) (.tmp 23) rfl wr.heap.size #[.int .i64 5, .int .i64 0, .func (.func 131) #[] #[.pointer (some ⟨k + 1, 0, none⟩), .pointer (some ⟨k, 0, none⟩)]] rfl rfl 119 _ (new_at rfl) infoF rfl (by simp [Value.oneCell']) ?_; obtain ⟨v, hv⟩ : ∃ v, (wr.alloc (.cells #[.int .i64 0, .int .i64 0, .nilFunc] 119)).setRow wr.heap.size #[.int .i64 5, .int .i64 0, .func (.func 131) #[] #[.pointer (some ⟨k + 1, 0, none⟩), .pointer (some ⟨k, 0, none⟩)]] = v := ⟨_, rfl⟩; have HG : Hid (v.heap[wr.heap.size]? = some (.cells #[.int .i64 5, .int .i64 0, .func (.func 131) #[] #[.pointer (some ⟨k + 1, 0, none⟩), .pointer (some ⟨k, 0, none⟩)]] 119 (0, 0))) := (by rw [← hv]; exact setRow_heap _ _ _ _ _ _ (new_at rfl)); have HB : Hid (Below wr.heap.size wr v) := (by rw [← hv]; exact below_row (al1' _ _) (Nat.le_refl _) _); rw [hv]; have b2 := cell_at HG.out 2; simp at b2)
            | (go_at_call 131; (with_reducible refine (hc v (hag v HG.out HB.out)).mono ?_); rintro e u2 ⟨rfl, hb2⟩))
          go_roundw
          case rel => exact ⟨0+1, by simp, by omega, fate_no 0 (by omega) hif hbb, (hag v HG.out HB.out).carry hb2⟩
          case measure => simp only [vnat]; omega
        | true =>
          have hfa := fate_yes 0 (by omega) hif hbb
          go_wp2_with (first
            | (refine wpList_store_row rfl 119 (.tmp 11) (.tmp 23) rfl wr.heap.size #[.int .i64 5, .int .i64 0, .func (.func 131) #[] #[.pointer (some ⟨k + 1, 0, none⟩), .pointer (some ⟨k, 0, none⟩)]] rfl rfl 119 _ (new_at rfl) infoF rfl (by simp [Value.oneCell']) ?_; obtain ⟨v, hv⟩ : ∃ v, (wr.alloc (.cells #[.int .i64 0, .int .i64 0, .nilFunc] 119)).setRow wr.heap.size #[.int .i64 5, .int .i64 0, .func (.func 131) #[] #[.pointer (some ⟨k + 1, 0, none⟩), .pointer (some ⟨k, 0, none⟩)]] = v := ⟨_, rfl⟩; have HG : Hid (v.heap[wr.heap.size]? = some (.cells #[.int .i64 5, .int .i64 0, .func (.func 131) #[] #[.pointer (some ⟨k + 1, 0, none⟩), .pointer (some ⟨k, 0, none⟩)]] 119 (0, 0))) := (by rw [← hv]; exact setRow_heap _ _ _ _ _ _ (new_at rfl)); have HB : Hid (Below wr.heap.size wr v) := (by rw [← hv]; exact below_row (al1' _ _) (Nat.le_refl _) _); rw [hv]; have b2 := cell_at HG.out 2; simp at b2)
            | (go_at_call 131; (with_reducible refine (hc v (hag v HG.out HB.out)).mono ?_); rintro e u2 ⟨rfl, hb2⟩))
          have HG2 := (hb2.block _ (lt_at HG.out)).trans HG.out
          have HL2 := (hag v HG.out HB.out).carry hb2
          refine wp_region_any hmx ?_
          refine wpAny_pure (fun i__ => ([(.pointer (some ⟨wr.heap.size, 0, none⟩)), (.int .i64 5), (.pointer (some ⟨wr.heap.size, 1, none⟩)), (.int .i64 0), (.int .i64 5), (.int .i64 0)] : List Value).getD i__ undef) (fun V => Below u2.heap.size u2 V) (by kernel_rfl) (Below.refl _ _).drew ?_ ?_
          · refine (stepsFrom_cons ?_ (stepsFrom_cons ?_ (stepsFrom_cons ?_ (stepsFrom_cons ?_ (stepsFrom_cons ?_ (stepsFrom_cons ?_ trivial))))))
            · exact step_fieldAddr rfl trivial _ _ _ _ rfl rfl (fun v hw => field_f0 v _)
            · exact step_load rfl trivial _ _ _ rfl rfl (fun v hw => load_i64 (by rw [cell_at ((hw.block _ (lt_at HG2)).trans HG2)]; rfl))
            · exact step_fieldAddr rfl trivial _ _ _ _ rfl rfl (fun v hw => field_f1 v _)
            · exact step_load rfl trivial _ _ _ rfl rfl (fun v hw => load_en (by rw [cell_at ((hw.block _ (lt_at HG2)).trans HG2)]; rfl))
            · exact step_assign rfl trivial _ rfl (by kernel_rfl) (fun _ h => h)
            · exact step_assign rfl trivial _ rfl (by kernel_rfl) (fun _ h => h)
          intro W hW
          first | refine hK _ _ ?_ | refine (‹∀ (a : Act) (w : World), Code.wp Tryz.prog _ _ a w → _›) _ _ ?_
          simp only [finL, List.getD_cons_zero, List.getD_cons_succ, Nat.zero_add, Nat.reduceAdd, List.setIfInBounds_toArray, List.set_cons_zero, List.set_cons_succ]
          go_wp2
          go_ret2
          rw [hfa]
          refine ⟨rfl, ad, cap, ?_, Tn.of q _ (bel2 HL2.bl hW), fun _ => ⟨rfl, rfl, bel2 HL2.bl hW⟩⟩
          unfold tk
          rw [hfa, if_neg (by decide)]
          exact (HL2.carry hW).ta
      · have c0 := cell_at hLr.tab 3
        have c1 := cell_at hLr.tab 4
        have c2 := cell_at hLr.tab 5
        unfold ftC at c0 c1 c2
        simp at c0 c1 c2
        obtain ⟨b, hbb⟩ : ∃ b, bef t f r N 1 = b := ⟨_, rfl⟩
        have hc : ∀ V, Lt W base q k ad cap t f r N V → Calls Tryz.prog 132 #[.pointer (some ⟨k + 1 + 1 + 1, 0, none⟩), .pointer (some ⟨k, 0, none⟩)] V fun e w' => e = .returned (.bool b) ∧ Below V.heap.size V w' := fun V hV => by
          rw [← hbb]
          exact fate2_any hV.ta hV.fx hN
        have hag : ∀ {C : Array Value} (v : World), v.heap[wr.heap.size]? = some (.cells C 119 (0, 0)) → Below wr.heap.size wr v → Lt W base q k ad cap t f r N v := fun v _ hb => hLr.carry hb
        cases b with
        | false =>
          go_wp2_with (first
            | (refine wpList_store_row rfl 119 (.tmp 11) (.tmp 23) rfl wr.heap.size #[.int .i64 0, .int .i64 74, .func (.func 132) #[] #[.pointer (some ⟨k + 1 + 1 + 1, 0, none⟩), .pointer (some ⟨k, 0, none⟩)]] rfl rfl 119 _ (new_at rfl) infoF rfl (by simp [Value.oneCell']) ?_; obtain ⟨v, hv⟩ : ∃ v, (wr.alloc (.cells #[.int .i64 0, .int .i64 0, .nilFunc] 119)).setRow wr.heap.size #[.int .i64 0, .int .i64 74, .func (.func 132) #[] #[.pointer (some ⟨k + 1 + 1 + 1, 0, none⟩), .pointer (some ⟨k, 0, none⟩)]] = v := ⟨_, rfl⟩; have HG : Hid (v.heap[wr.heap.size]? = some (.cells #[.int .i64 0, .int .i64 74, .func (.func 132) #[] #[.pointer (some ⟨k + 1 + 1 + 1, 0, none⟩), .pointer (some ⟨k, 0, none⟩)]] 119 (0, 0))) := (by rw [← hv]; exact setRow_heap _ _ _ _ _ _ (new_at rfl)); have HB : Hid (Below wr.heap.size wr v) := (by rw [← hv]; exact below_row (al1' _ _) (Nat.le_refl _) _); rw [hv]; have b2 := cell_at HG.out 2; simp at b2)
            | (go_at_call 132; (with_reducible refine (hc v (hag v HG.out HB.out)).mono ?_); rintro e u2 ⟨rfl, hb2⟩))
          go_roundw
          case rel => exact ⟨1+1, by simp, by omega, fate_no 1 (by omega) hif hbb, (hag v HG.out HB.out).carry hb2⟩
          case measure => simp only [vnat]; omega
        | true =>
          have hfa := fate_yes 1 (by omega) hif hbb
          go_wp2_with (first
            | (refine wpList_store_row rfl 119 (.tmp 11) (.tmp 23) rfl wr.heap.size #[.int .i64 0, .int .i64 74, .func (.func 132) #[] #[.pointer (some ⟨k + 1 + 1 + 1, 0, none⟩), .pointer (some ⟨k, 0, none⟩)]] rfl rfl 119 _ (new_at rfl) infoF rfl (by simp [Value.oneCell']) ?_; obtain ⟨v, hv⟩ : ∃ v, (wr.alloc (.cells #[.int .i64 0, .int .i64 0, .nilFunc] 119)).setRow wr.heap.size #[.int .i64 0, .int .i64 74, .func (.func 132) #[] #[.pointer (some ⟨k + 1 + 1 + 1, 0, none⟩), .pointer (some ⟨k, 0, none⟩)]] = v := ⟨_, rfl⟩; have HG : Hid (v.heap[wr.heap.size]? = some (.cells #[.int .i64 0, .int .i64 74, .func (.func 132) #[] #[.pointer (some ⟨k + 1 + 1 + 1, 0, none⟩), .pointer (some ⟨k, 0, none⟩)]] 119 (0, 0))) := (by rw [← hv]; exact setRow_heap _ _ _ _ _ _ (new_at rfl)); have HB : Hid (Below wr.heap.size wr v) := (by rw [← hv]; exact below_row (al1' _ _) (Nat.le_refl _) _); rw [hv]; have b2 := cell_at HG.out 2; simp at b2)
            | (go_at_call 132; (with_reducible refine (hc v (hag v HG.out HB.out)).mono ?_); rintro e u2 ⟨rfl, hb2⟩))
          have HG2 := (hb2.block _ (lt_at HG.out)).trans HG.out
          have HL2 := (hag v HG.out HB.out).carry hb2
          refine wp_region_any hmx ?_
          refine wpAny_pure (fun i__ => ([(.pointer (some ⟨wr.heap.size, 0, none⟩)), (.int .i64 0), (.pointer (some ⟨wr.heap.size, 1, none⟩)), (.int .i64 74), (.int .i64 0), (.int .i64 74)] : List Value).getD i__ undef) (fun V => Below u2.heap.size u2 V) (by kernel_rfl) (Below.refl _ _).drew ?_ ?_
          · refine (stepsFrom_cons ?_ (stepsFrom_cons ?_ (stepsFrom_cons ?_ (stepsFrom_cons ?_ (stepsFrom_cons ?_ (stepsFrom_cons ?_ trivial))))))
            · exact step_fieldAddr rfl trivial _ _ _ _ rfl rfl (fun v hw => field_f0 v _)
            · exact step_load rfl trivial _ _ _ rfl rfl (fun v hw => load_i64 (by rw [cell_at ((hw.block _ (lt_at HG2)).trans HG2)]; rfl))
            · exact step_fieldAddr rfl trivial _ _ _ _ rfl rfl (fun v hw => field_f1 v _)
            · exact step_load rfl trivial _ _ _ rfl rfl (fun v hw => load_en (by rw [cell_at ((hw.block _ (lt_at HG2)).trans HG2)]; rfl))
            · exact step_assign rfl trivial _ rfl (by kernel_rfl) (fun _ h => h)
            · exact step_assign rfl trivial _ rfl (by kernel_rfl) (fun _ h => h)
          intro W hW
          first | refine hK _ _ ?_ | refine (‹∀ (a : Act) (w : World), Code.wp Tryz.prog _ _ a w → _›) _ _ ?_
          simp only [finL, List.getD_cons_zero, List.getD_cons_succ, Nat.zero_add, Nat.reduceAdd, List.setIfInBounds_toArray, List.set_cons_zero, List.set_cons_succ]
          go_wp2
          go_ret2
          rw [hfa]
          refine ⟨rfl, ad, cap, ?_, Tn.of q _ (bel2 HL2.bl hW), fun _ => ⟨rfl, rfl, bel2 HL2.bl hW⟩⟩
          unfold tk
          rw [hfa, if_neg (by decide)]
          exact (HL2.carry hW).ta
      · have c0 := cell_at hLr.tab 6
        have c1 := cell_at hLr.tab 7
        have c2 := cell_at hLr.tab 8
        unfold ftC at c0 c1 c2
        simp at c0 c1 c2
        obtain ⟨b, hbb⟩ : ∃ b, bef t f r N 2 = b := ⟨_, rfl⟩
        have hc : ∀ V, Lt W base q k ad cap t f r N V → Calls Tryz.prog 133 #[.pointer (some ⟨k + 1 + 1, 0, none⟩), .pointer (some ⟨k, 0, none⟩)] V fun e w' => e = .returned (.bool b) ∧ Below V.heap.size V w' := fun V hV => by
          rw [← hbb]
          exact fate3_any hV.ta hV.fx
        have hag : ∀ {C : Array Value} (v : World), v.heap[wr.heap.size]? = some (.cells C 119 (0, 0)) → Below wr.heap.size wr v → Lt W base q k ad cap t f r N v := fun v _ hb => hLr.carry hb
        cases b with
        | false =>
          go_wp2_with (first
            | (refine wpList_store_row rfl 119 (.tmp 11) (.tmp 23) rfl wr.heap.size #[.int .i64 2, .int .i64 0, .func (.func 133) #[] #[.pointer (some ⟨k + 1 + 1, 0, none⟩), .pointer (some ⟨k, 0, none⟩)]] rfl rfl 119 _ (new_at rfl) infoF rfl (by simp [Value.oneCell']) ?_; obtain ⟨v, hv⟩ : ∃ v, (wr.alloc (.cells #[.int .i64 0, .int .i64 0, .nilFunc] 119)).setRow wr.heap.size #[.int .i64 2, .int .i64 0, .func (.func 133) #[] #[.pointer (some ⟨k + 1 + 1, 0, none⟩), .pointer (some ⟨k, 0, none⟩)]] = v := ⟨_, rfl⟩; have HG : Hid (v.heap[wr.heap.size]? = some (.cells #[.int .i64 2, .int .i64 0, .func (.func 133) #[] #[.pointer (some ⟨k + 1 + 1, 0, none⟩), .pointer (some ⟨k, 0, none⟩)]] 119 (0, 0))) := (by rw [← hv]; exact setRow_heap _ _ _ _ _ _ (new_at rfl)); have HB : Hid (Below wr.heap.size wr v) := (by rw [← hv]; exact below_row (al1' _ _) (Nat.le_refl _) _); rw [hv]; have b2 := cell_at HG.out 2; simp at b2)
            | (go_at_call 133; (with_reducible refine (hc v (hag v HG.out HB.out)).mono ?_); rintro e u2 ⟨rfl, hb2⟩))
          go_roundw
          case rel => exact ⟨2+1, by simp, by omega, fate_no 2 (by omega) hif hbb, (hag v HG.out HB.out).carry hb2⟩
          case measure => simp only [vnat]; omega
        | true =>
          have hfa := fate_yes 2 (by omega) hif hbb
          go_wp2_with (first
            | (refine wpList_store_row rfl 119 (.tmp 11) (.tmp 23) rfl wr.heap.size #[.int .i64 2, .int .i64 0, .func (.func 133) #[] #[.pointer (some ⟨k + 1 + 1, 0, none⟩), .pointer (some ⟨k, 0, none⟩)]] rfl rfl 119 _ (new_at rfl) infoF rfl (by simp [Value.oneCell']) ?_; obtain ⟨v, hv⟩ : ∃ v, (wr.alloc (.cells #[.int .i64 0, .int .i64 0, .nilFunc] 119)).setRow wr.heap.size #[.int .i64 2, .int .i64 0, .func (.func 133) #[] #[.pointer (some ⟨k + 1 + 1, 0, none⟩), .pointer (some ⟨k, 0, none⟩)]] = v := ⟨_, rfl⟩; have HG : Hid (v.heap[wr.heap.size]? = some (.cells #[.int .i64 2, .int .i64 0, .func (.func 133) #[] #[.pointer (some ⟨k + 1 + 1, 0, none⟩), .pointer (some ⟨k, 0, none⟩)]] 119 (0, 0))) := (by rw [← hv]; exact setRow_heap _ _ _ _ _ _ (new_at rfl)); have HB : Hid (Below wr.heap.size wr v) := (by rw [← hv]; exact below_row (al1' _ _) (Nat.le_refl _) _); rw [hv]; have b2 := cell_at HG.out 2; simp at b2)
            | (go_at_call 133; (with_reducible refine (hc v (hag v HG.out HB.out)).mono ?_); rintro e u2 ⟨rfl, hb2⟩))
          have HG2 := (hb2.block _ (lt_at HG.out)).trans HG.out
          have HL2 := (hag v HG.out HB.out).carry hb2
          refine wp_region_any hmx ?_
          refine wpAny_pure (fun i__ => ([(.pointer (some ⟨wr.heap.size, 0, none⟩)), (.int .i64 2), (.pointer (some ⟨wr.heap.size, 1, none⟩)), (.int .i64 0), (.int .i64 2), (.int .i64 0)] : List Value).getD i__ undef) (fun V => Below u2.heap.size u2 V) (by kernel_rfl) (Below.refl _ _).drew ?_ ?_
          · refine (stepsFrom_cons ?_ (stepsFrom_cons ?_ (stepsFrom_cons ?_ (stepsFrom_cons ?_ (stepsFrom_cons ?_ (stepsFrom_cons ?_ trivial))))))
            · exact step_fieldAddr rfl trivial _ _ _ _ rfl rfl (fun v hw => field_f0 v _)
            · exact step_load rfl trivial _ _ _ rfl rfl (fun v hw => load_i64 (by rw [cell_at ((hw.block _ (lt_at HG2)).trans HG2)]; rfl))
            · exact step_fieldAddr rfl trivial _ _ _ _ rfl rfl (fun v hw => field_f1 v _)
            · exact step_load rfl trivial _ _ _ rfl rfl (fun v hw => load_en (by rw [cell_at ((hw.block _ (lt_at HG2)).trans HG2)]; rfl))
            · exact step_assign rfl trivial _ rfl (by kernel_rfl) (fun _ h => h)
            · exact step_assign rfl trivial _ rfl (by kernel_rfl) (fun _ h => h)
          intro W hW
          first | refine hK _ _ ?_ | refine (‹∀ (a : Act) (w : World), Code.wp Tryz.prog _ _ a w → _›) _ _ ?_
          simp only [finL, List.getD_cons_zero, List.getD_cons_succ, Nat.zero_add, Nat.reduceAdd, List.setIfInBounds_toArray, List.set_cons_zero, List.set_cons_succ]
          go_wp2
          go_ret2
          rw [hfa]
          refine ⟨rfl, ad, cap, ?_, Tn.of q _ (bel2 HL2.bl hW), fun _ => ⟨rfl, rfl, bel2 HL2.bl hW⟩⟩
          unfold tk
          rw [hfa, if_neg (by decide)]
          exact (HL2.carry hW).ta
      · have c0 := cell_at hLr.tab 9
        have c1 := cell_at hLr.tab 10
        have c2 := cell_at hLr.tab 11
        unfold ftC at c0 c1 c2
        simp at c0 c1 c2
        obtain ⟨b, hbb⟩ : ∃ b, bef t f r N 3 = b := ⟨_, rfl⟩
        have hc : ∀ V, Lt W base q k ad cap t f r N V → Calls Tryz.prog 134 #[.pointer (some ⟨k, 0, none⟩), .pointer (some ⟨k + 1, 0, none⟩)] V fun e w' => e = .returned (.bool b) ∧ Below V.heap.size V w' := fun V hV => by
          rw [← hbb]
          exact fate4_any hV.ta hV.fx hv.reps
        have hag : ∀ {C : Array Value} (v : World), v.heap[wr.heap.size]? = some (.cells C 119 (0, 0)) → Below wr.heap.size wr v → Lt W base q k ad cap t f r N v := fun v _ hb => hLr.carry hb
        cases b with
        | false =>
          go_wp2_with (first
            | (refine wpList_store_row rfl 119 (.tmp 11) (.tmp 23) rfl wr.heap.size #[.int .i64 3, .int .i64 0, .func (.func 134) #[] #[.pointer (some ⟨k, 0, none⟩), .pointer (some ⟨k + 1, 0, none⟩)]] rfl rfl 119 _ (new_at rfl) infoF rfl (by simp [Value.oneCell']) ?_; obtain ⟨v, hv⟩ : ∃ v, (wr.alloc (.cells #[.int .i64 0, .int .i64 0, .nilFunc] 119)).setRow wr.heap.size #[.int .i64 3, .int .i64 0, .func (.func 134) #[] #[.pointer (some ⟨k, 0, none⟩), .pointer (some ⟨k + 1, 0, none⟩)]] = v := ⟨_, rfl⟩; have HG : Hid (v.heap[wr.heap.size]? = some (.cells #[.int .i64 3, .int .i64 0, .func (.func 134) #[] #[.pointer (some ⟨k, 0, none⟩), .pointer (some ⟨k + 1, 0, none⟩)]] 119 (0, 0))) := (by rw [← hv]; exact setRow_heap _ _ _ _ _ _ (new_at rfl)); have HB : Hid (Below wr.heap.size wr v) := (by rw [← hv]; exact below_row (al1' _ _) (Nat.le_refl _) _); rw [hv]; have b2 := cell_at HG.out 2; simp at b2)
            | (go_at_call 134; (with_reducible refine (hc v (hag v HG.out HB.out)).mono ?_); rintro e u2 ⟨rfl, hb2⟩))
          go_roundw
          case rel => exact ⟨3+1, by simp, by omega, fate_no 3 (by omega) hif hbb, (hag v HG.out HB.out).carry hb2⟩
          case measure => simp only [vnat]; omega
        | true =>
          have hfa := fate_yes 3 (by omega) hif hbb
          go_wp2_with (first
            | (refine wpList_store_row rfl 119 (.tmp 11) (.tmp 23) rfl wr.heap.size #[.int .i64 3, .int .i64 0, .func (.func 134) #[] #[.pointer (some ⟨k, 0, none⟩), .pointer (some ⟨k + 1, 0, none⟩)]] rfl rfl 119 _ (new_at rfl) infoF rfl (by simp [Value.oneCell']) ?_; obtain ⟨v, hv⟩ : ∃ v, (wr.alloc (.cells #[.int .i64 0, .int .i64 0, .nilFunc] 119)).setRow wr.heap.size #[.int .i64 3, .int .i64 0, .func (.func 134) #[] #[.pointer (some ⟨k, 0, none⟩), .pointer (some ⟨k + 1, 0, none⟩)]] = v := ⟨_, rfl⟩; have HG : Hid (v.heap[wr.heap.size]? = some (.cells #[.int .i64 3, .int .i64 0, .func (.func 134) #[] #[.pointer (some ⟨k, 0, none⟩), .pointer (some ⟨k + 1, 0, none⟩)]] 119 (0, 0))) := (by rw [← hv]; exact setRow_heap _ _ _ _ _ _ (new_at rfl)); have HB : Hid (Below wr.heap.size wr v) := (by rw [← hv]; exact below_row (al1' _ _) (Nat.le_refl _) _); rw [hv]; have b2 := cell_at HG.out 2; simp at b2)
            | (go_at_call 134; (with_reducible refine (hc v (hag v HG.out HB.out)).mono ?_); rintro e u2 ⟨rfl, hb2⟩))
          have HG2 := (hb2.block _ (lt_at HG.out)).trans HG.out
          have HL2 := (hag v HG.out HB.out).carry hb2
          refine wp_region_any hmx ?_
          refine wpAny_pure (fun i__ => ([(.pointer (some ⟨wr.heap.size, 0, none⟩)), (.int .i64 3), (.pointer (some ⟨wr.heap.size, 1, none⟩)), (.int .i64 0), (.int .i64 3), (.int .i64 0)] : List Value).getD i__ undef) (fun V => Below u2.heap.size u2 V) (by kernel_rfl) (Below.refl _ _).drew ?_ ?_
          · refine (stepsFrom_cons ?_ (stepsFrom_cons ?_ (stepsFrom_cons ?_ (stepsFrom_cons ?_ (stepsFrom_cons ?_ (stepsFrom_cons ?_ trivial))))))
            · exact step_fieldAddr rfl trivial _ _ _ _ rfl rfl (fun v hw => field_f0 v _)
            · exact step_load rfl trivial _ _ _ rfl rfl (fun v hw => load_i64 (by rw [cell_at ((hw.block _ (lt_at HG2)).trans HG2)]; rfl))
            · exact step_fieldAddr rfl trivial _ _ _ _ rfl rfl (fun v hw => field_f1 v _)
            · exact step_load rfl trivial _ _ _ rfl rfl (fun v hw => load_en (by rw [cell_at ((hw.block _ (lt_at HG2)).trans HG2)]; rfl))
            · exact step_assign rfl trivial _ rfl (by kernel_rfl) (fun _ h => h)
            · exact step_assign rfl trivial _ rfl (by kernel_rfl) (fun _ h => h)
          intro W hW
          first | refine hK _ _ ?_ | refine (‹∀ (a : Act) (w : World), Code.wp Tryz.prog _ _ a w → _›) _ _ ?_
          simp only [finL, List.getD_cons_zero, List.getD_cons_succ, Nat.zero_add, Nat.reduceAdd, List.setIfInBounds_toArray, List.set_cons_zero, List.set_cons_succ]
          go_wp2
          go_ret2
          rw [hfa]
          refine ⟨rfl, ad, cap, ?_, Tn.of q _ (bel2 HL2.bl hW), fun _ => ⟨rfl, rfl, bel2 HL2.bl hW⟩⟩
          unfold tk
          rw [hfa, if_neg (by decide)]
          exact (HL2.carry hW).ta
      · have c0 := cell_at hLr.tab 12
        have c1 := cell_at hLr.tab 13
        have c2 := cell_at hLr.tab 14
        unfold ftC at c0 c1 c2
        simp at c0 c1 c2
        obtain ⟨b, hbb⟩ : ∃ b, bef t f r N 4 = b := ⟨_, rfl⟩
        have hc : ∀ V, Lt W base q k ad cap t f r N V → Calls Tryz.prog 88 #[.pointer (some ⟨q, 0, none⟩)] V fun e w' => e = .returned (.bool b) ∧ Below V.heap.size V w' := fun V hV => by
          rw [← hbb]
          exact (ready_any hV.ta).mono (by rintro e w2 ⟨rfl, rfl⟩; exact ⟨rfl, Below.refl _ _⟩)
        have hag : ∀ {C : Array Value} (v : World), v.heap[wr.heap.size]? = some (.cells C 119 (0, 0)) → Below wr.heap.size wr v → Lt W base q k ad cap t f r N v := fun v _ hb => hLr.carry hb
        cases b with
        | false =>
          go_wp2_with (first
            | (refine wpList_store_row rfl 119 (.tmp 11) (.tmp 23) rfl wr.heap.size #[.int .i64 4, .int .i64 0, .func (.func 88) #[.pointer (some ⟨q, 0, none⟩)] #[]] rfl rfl 119 _ (new_at rfl) infoF rfl (by simp [Value.oneCell']) ?_; obtain ⟨v, hv⟩ : ∃ v, (wr.alloc (.cells #[.int .i64 0, .int .i64 0, .nilFunc] 119)).setRow wr.heap.size #[.int .i64 4, .int .i64 0, .func (.func 88) #[.pointer (some ⟨q, 0, none⟩)] #[]] = v := ⟨_, rfl⟩; have HG : Hid (v.heap[wr.heap.size]? = some (.cells #[.int .i64 4, .int .i64 0, .func (.func 88) #[.pointer (some ⟨q, 0, none⟩)] #[]] 119 (0, 0))) := (by rw [← hv]; exact setRow_heap _ _ _ _ _ _ (new_at rfl)); have HB : Hid (Below wr.heap.size wr v) := (by rw [← hv]; exact below_row (al1' _ _) (Nat.le_refl _) _); rw [hv]; have b2 := cell_at HG.out 2; simp at b2)
            | (go_at_call 88; (with_reducible refine (hc v (hag v HG.out HB.out)).mono ?_); rintro e u2 ⟨rfl, hb2⟩))
          go_roundw
          case rel => exact ⟨4+1, by simp, by omega, fate_no 4 (by omega) hif hbb, (hag v HG.out HB.out).carry hb2⟩
          case measure => simp only [vnat]; omega
        | true =>
          have hfa := fate_yes 4 (by omega) hif hbb
          go_wp2_with (first
            | (refine wpList_store_row rfl 119 (.tmp 11) (.tmp 23) rfl wr.heap.size #[.int .i64 4, .int .i64 0, .func (.func 88) #[.pointer (some ⟨q, 0, none⟩)] #[]] rfl rfl 119 _ (new_at rfl) infoF rfl (by simp [Value.oneCell']) ?_; obtain ⟨v, hv⟩ : ∃ v, (wr.alloc (.cells #[.int .i64 0, .int .i64 0, .nilFunc] 119)).setRow wr.heap.size #[.int .i64 4, .int .i64 0, .func (.func 88) #[.pointer (some ⟨q, 0, none⟩)] #[]] = v := ⟨_, rfl⟩; have HG : Hid (v.heap[wr.heap.size]? = some (.cells #[.int .i64 4, .int .i64 0, .func (.func 88) #[.pointer (some ⟨q, 0, none⟩)] #[]] 119 (0, 0))) := (by rw [← hv]; exact setRow_heap _ _ _ _ _ _ (new_at rfl)); have HB : Hid (Below wr.heap.size wr v) := (by rw [← hv]; exact below_row (al1' _ _) (Nat.le_refl _) _); rw [hv]; have b2 := cell_at HG.out 2; simp at b2)
            | (go_at_call 88; (with_reducible refine (hc v (hag v HG.out HB.out)).mono ?_); rintro e u2 ⟨rfl, hb2⟩))
          have HG2 := (hb2.block _ (lt_at HG.out)).trans HG.out
          have HL2 := (hag v HG.out HB.out).carry hb2
          refine wp_region_any hmx ?_
          refine wpAny_pure (fun i__ => ([(.pointer (some ⟨wr.heap.size, 0, none⟩)), (.int .i64 4), (.pointer (some ⟨wr.heap.size, 1, none⟩)), (.int .i64 0), (.int .i64 4), (.int .i64 0)] : List Value).getD i__ undef) (fun V => Below u2.heap.size u2 V) (by kernel_rfl) (Below.refl _ _).drew ?_ ?_
          · refine (stepsFrom_cons ?_ (stepsFrom_cons ?_ (stepsFrom_cons ?_ (stepsFrom_cons ?_ (stepsFrom_cons ?_ (stepsFrom_cons ?_ trivial))))))
            · exact step_fieldAddr rfl trivial _ _ _ _ rfl rfl (fun v hw => field_f0 v _)
            · exact step_load rfl trivial _ _ _ rfl rfl (fun v hw => load_i64 (by rw [cell_at ((hw.block _ (lt_at HG2)).trans HG2)]; rfl))
            · exact step_fieldAddr rfl trivial _ _ _ _ rfl rfl (fun v hw => field_f1 v _)
            · exact step_load rfl trivial _ _ _ rfl rfl (fun v hw => load_en (by rw [cell_at ((hw.block _ (lt_at HG2)).trans HG2)]; rfl))
            · exact step_assign rfl trivial _ rfl (by kernel_rfl) (fun _ h => h)
            · exact step_assign rfl trivial _ rfl (by kernel_rfl) (fun _ h => h)
          intro W hW
          first | refine hK _ _ ?_ | refine (‹∀ (a : Act) (w : World), Code.wp Tryz.prog _ _ a w → _›) _ _ ?_
          simp only [finL, List.getD_cons_zero, List.getD_cons_succ, Nat.zero_add, Nat.reduceAdd, List.setIfInBounds_toArray, List.set_cons_zero, List.set_cons_succ]
          go_wp2
          go_ret2
          rw [hfa]
          refine ⟨rfl, ad, cap, ?_, Tn.of q _ (bel2 HL2.bl hW), fun _ => ⟨rfl, rfl, bel2 HL2.bl hW⟩⟩
          unfold tk
          rw [hfa, if_neg (by decide)]
          exact (HL2.carry hW).ta
    · have hi' : i = 5 := by omega
      subst hi'
      have hfa : fate t f r N = 5 := by have := fate_lt t f r N; omega
      obtain ⟨y0, y1, y2, y3, _⟩ := hLr.hb.facts
      have hco := tcount_any hLr.ta (Nat.le_trans hb0 hLr.bl.size) (by have := hv.len; have := hv.d1; have := hv.n1; omega) f N
      simp only [sv] at hco
      have HL : Hid (Lt W base q k ad cap t f r N wr) := hLr
      clear hLr
      go_wp2_with (go_at_call 85; (with_reducible refine hco.mono ?_); rintro e u2 ⟨rfl, ad', cap', hT2, hn2⟩)
      go_ret2
      rw [hfa]
      refine ⟨rfl, ad', cap', ?_, (Tn.of q _ HL.out.bl).trans hn2, fun e => absurd rfl e⟩
      unfold tk
      rw [if_pos hfa]
      exact hT2
end
end Go.Proofs.YtgehmidalfajgabGreatDoor
namespace Go.Proofs.YtgehmidalfajgabGreatDoor
open Go.RowKit Go.Shelf

theorem i64_id (x : Int) (h1 : -9223372036854775808 ≤ x) (h2 : x ≤ 9223372036854775807) : IntKind.i64.wrap x = x := by
  rw [IntKind.wrap_i64]
  omega
/-- The error that New tells. -/
def nwE (n f self ro : Int) (N : Nat) : Int := if n < 1 ∨ 100 < n ∨ f < 0 ∨ n ≤ f then 1 else if isN self n = false then 30 else if ro < 1 ∨ 1099511627775 < ro then 73 else if wthB N n = false then 74 else 0
def tl0 (n f ro : Int) : Tl := ⟨n, n - f, ro, 0, []⟩
def nwT (n f self ro : Int) (N : Nat) : Tl := cntT (tl0 n f ro) self N
theorem new_tl0 (u : World) (n f ro : Int) : (u.alloc (.cells #[.int .i64 n, .int .i64 (n - f), .int .i64 ro, .int .u32 0, .int .u32 0, .int .u32 0, .int .u32 0, .slice none 0 0] 114)).heap[u.heap.size]? = some (.cells (taC (tl0 n f ro) (.slice none (tl0 n f ro).hs.length 0)) 114 (0, 0)) := by
  rw [show taC (tl0 n f ro) (.slice none (tl0 n f ro).hs.length 0) = #[.int .i64 n, .int .i64 (n - f), .int .i64 ro, .int .u32 0, .int .u32 0, .int .u32 0, .int .u32 0, .slice none 0 0] by simp [taC, tl0, wd]]
  exact new_at rfl
theorem nw_ok {n f self ro : Int} {N : Nat} (h : nwE n f self ro N = 0) : 1 ≤ n ∧ n ≤ 100 ∧ 0 ≤ f ∧ f < n ∧ isN self n = true ∧ 1 ≤ ro ∧ ro ≤ 1099511627775 ∧ wthB N n = true := by
  unfold nwE at h
  repeat' split at h
  all_goals first | omega | skip
  rename_i h1 h2 h3 h4
  refine ⟨by omega, by omega, by omega, by omega, by simpa using h2, by omega, by omega, by simpa using h4⟩
theorem Tv.new {n f self ro : Int} {N : Nat} (hN : N < S128) (h : nwE n f self ro N = 0) : Tv (nwT n f self ro N) := by
  obtain ⟨h1, h2, h3, h4, h5, _⟩ := nw_ok h
  refine ⟨by simp only [nwT, cntT, tl0]; omega, by simp only [nwT, cntT, tl0]; omega, by simp only [nwT, cntT, tl0]; omega, by simp only [nwT, cntT, tl0]; omega, by simp only [nwT, cntT, tl0]; omega, ?_, wthN_lt _ _, fun M hM => ?_⟩
  · simp only [nwT, cntT, tl0, List.nil_append, List.length_cons, List.length_nil]
    omega
  · simp [nwT, cntT, tl0] at hM
    subst hM
    exact hN
set_option maxHeartbeats 4000000 in
set_option maxRecDepth 100000 in
theorem new_no (n f self ro : Int) (N : Nat) (hN : N < S128) (he : nwE n f self ro N ≠ 0) (W : World) : Calls Tryz.prog 15 #[.int .i64 n, .int .i64 f, .int .i64 self, .int .i64 ro, sv N] W fun e w' => e = .returned (.tuple #[.pointer none, .int .i64 (nwE n f self ro N)]) ∧ Below W.heap.size W w' := by
  obtain ⟨w1, hw1⟩ : ∃ w1, W.alloc (.cells #[.int .u32 (wd N 0 : Nat), .int .u32 (wd N 1 : Nat), .int .u32 (wd N 2 : Nat), .int .u32 (wd N 3 : Nat)] 25) = w1 := ⟨_, rfl⟩
  have hb1 : Below W.heap.size W w1 := by rw [← hw1]; exact al1' _ _
  have g1 : Holds4 w1 W.heap.size (wd N) := by rw [← hw1]; exact new_at rfl
  obtain ⟨y0, y1, y2, y3, _⟩ := g1.facts
  clear g1
  have hwi := within_any N hN n w1
  have his := isNode_any self n w1
  by_cases c1 : n < 1
  · rw [show nwE n f self ro N = 1 by unfold nwE; rw [if_pos (by omega)]]
    simp only [sv]
    go_enter Tryz.func15, Tryz.ntmps15
    go_wp2
    go_ret2
    exact ⟨rfl, hb1⟩
  by_cases c2 : 100 < n
  · rw [show nwE n f self ro N = 1 by unfold nwE; rw [if_pos (by omega)]]
    simp only [sv]
    go_enter Tryz.func15, Tryz.ntmps15
    go_wp2
    go_ret2
    exact ⟨rfl, hb1⟩
  by_cases c3 : f < 0
  · rw [show nwE n f self ro N = 1 by unfold nwE; rw [if_pos (by omega)]]
    simp only [sv]
    go_enter Tryz.func15, Tryz.ntmps15
    go_wp2
    go_ret2
    exact ⟨rfl, hb1⟩
  by_cases c4 : n ≤ f
  · rw [show nwE n f self ro N = 1 by unfold nwE; rw [if_pos (by omega)]]
    simp only [sv]
    go_enter Tryz.func15, Tryz.ntmps15
    go_wp2
    go_ret2
    exact ⟨rfl, hb1⟩
  have hE1 : nwE n f self ro N = if isN self n = false then 30 else if ro < 1 ∨ 1099511627775 < ro then 73 else if wthB N n = false then 74 else 0 := by unfold nwE; rw [if_neg (by omega)]
  rw [hE1] at he ⊢
  clear hE1
  cases hs : isN self n with
  | false =>
    rw [hs] at his
    simp only [if_true, sv]
    go_enter Tryz.func15, Tryz.ntmps15
    go_wp2_with (go_at_call 83; (with_reducible refine his.mono ?_); rintro e u ⟨rfl, hu⟩; obtain rfl := hu.symm)
    go_ret2
    exact ⟨rfl, hb1⟩
  | true =>
    rw [hs] at his he
    by_cases c5 : ro < 1
    · rw [if_neg (by simp), if_pos (by omega)]
      simp only [sv]
      go_enter Tryz.func15, Tryz.ntmps15
      go_wp2_with (go_at_call 83; (with_reducible refine his.mono ?_); rintro e u ⟨rfl, hu⟩; obtain rfl := hu.symm)
      go_ret2
      exact ⟨rfl, hb1⟩
    by_cases c6 : 1099511627775 < ro
    · rw [if_neg (by simp), if_pos (by omega)]
      simp only [sv]
      go_enter Tryz.func15, Tryz.ntmps15
      go_wp2_with (go_at_call 83; (with_reducible refine his.mono ?_); rintro e u ⟨rfl, hu⟩; obtain rfl := hu.symm)
      go_ret2
      exact ⟨rfl, hb1⟩
    rw [if_neg (by simp), if_neg (by omega)] at he ⊢
    cases hb : wthB N n with
    | true => simp [hb] at he
    | false =>
      rw [hb] at hwi
      rw [if_pos rfl]
      simp only [sv] at hwi ⊢
      go_enter Tryz.func15, Tryz.ntmps15
      go_wp2_with (first | (go_at_call 83; (with_reducible refine his.mono ?_); rintro e u ⟨rfl, hu⟩; obtain rfl := hu.symm) | (go_at_call 84; (with_reducible refine hwi.mono ?_); rintro e u ⟨rfl, hu⟩))
      go_ret2
      exact ⟨rfl, bel2 hb1 hu⟩
set_option maxHeartbeats 4000000 in
set_option maxRecDepth 100000 in
theorem new_ok (n f self ro : Int) (N : Nat) (hN : N < S128) (he : nwE n f self ro N = 0) (W : World) : Calls Tryz.prog 15 #[.int .i64 n, .int .i64 f, .int .i64 self, .int .i64 ro, sv N] W fun e w' => ∃ q ad cap, e = .returned (.tuple #[.pointer (some ⟨q, 0, none⟩), .int .i64 0]) ∧ Ta w' W.heap.size q ad cap (nwT n f self ro N) ∧ Below W.heap.size W w' := by
  obtain ⟨h1, h2, h3, h4, h5, h6, h7, h8⟩ := nw_ok he
  obtain ⟨w1, hw1⟩ : ∃ w1, W.alloc (.cells #[.int .u32 (wd N 0 : Nat), .int .u32 (wd N 1 : Nat), .int .u32 (wd N 2 : Nat), .int .u32 (wd N 3 : Nat)] 25) = w1 := ⟨_, rfl⟩
  have hb1 : Below W.heap.size W w1 := by rw [← hw1]; exact al1' _ _
  have g1 : Holds4 w1 W.heap.size (wd N) := by rw [← hw1]; exact new_at rfl
  obtain ⟨y0, y1, y2, y3, _⟩ := g1.facts
  have G1 : Hid (Holds4 w1 W.heap.size (wd N)) := g1
  clear g1
  have hwi := within_any N hN n w1
  have his := isNode_any self n w1
  rw [h8] at hwi
  rw [h5] at his
  clear h8 h5 he
  have c1 : ¬ n < 1 := by omega
  have c2 : ¬ 100 < n := by omega
  have c3 : ¬ f < 0 := by omega
  have c4 : ¬ n ≤ f := by omega
  have c5 : ¬ ro < 1 := by omega
  have c6 : ¬ 1099511627775 < ro := by omega
  have hid := i64_id (n - f) (by omega) (by omega)
  simp only [sv] at hwi ⊢
  go_enter Tryz.func15, Tryz.ntmps15
  go_wp2_with (first
    | (go_at_call 83; (with_reducible refine his.mono ?_); rintro e u ⟨rfl, hu⟩; obtain rfl := hu.symm)
    | (go_at_call 84; (with_reducible refine hwi.mono ?_); rintro e u ⟨rfl, hu⟩; obtain ⟨u2, hu2⟩ : ∃ u2, u.alloc (.cells #[.int .i64 n, .int .i64 (n - f), .int .i64 ro, .int .u32 0, .int .u32 0, .int .u32 0, .int .u32 0, .slice none 0 0] 114) = u2 := ⟨_, rfl⟩; have hb2 : Hid (Below W.heap.size W u2) := (by rw [← hu2]; exact bel2 (bel2 hb1 hu) (al1' _ _)); have hT : Hid (Ta u2 W.heap.size u.heap.size none 0 (tl0 n f ro)) := (by rw [← hu2]; exact ⟨(bel2 hb1 hu).size, new_tl0 u n f ro, World.ownsRow_nil _ _ _ _⟩); have G2 : Hid (Holds4 u2 W.heap.size (wd N)) := (by rw [← hu2]; exact old_at (G1.out.carry hu)); obtain ⟨x0, x1, x2, x3, _⟩ := G2.out.facts; have hco := tcount_any hT.out hb2.out.size (by simp [tl0]) self N; simp only [sv] at hco)
    | (go_at_call 85; (with_reducible refine hco.mono ?_); rintro e u3 ⟨rfl, ad', cap', hT2, hn2⟩))
  go_ret2
  exact ⟨u.heap.size, ad', cap', rfl, hT2, hb2.out.trans (hT.out.below hn2)⟩
end Go.Proofs.YtgehmidalfajgabGreatDoor
namespace Go.Proofs.YtgehmidalfajgabGreatDoor
open Go.RowKit Go.Shelf

set_option maxHeartbeats 1000000 in
theorem kept_nil (W : World) : Calls Tryz.prog 144 #[.pointer none] W fun e w' => e = .returned (.slice none 0 0) ∧ w' = W := by
  go_enter Tryz.func144, Tryz.ntmps144
  go_wp2
  go_ret
  exact ⟨rfl, rfl⟩
set_option maxHeartbeats 1000000 in
theorem need_nil (W : World) : Calls Tryz.prog 135 #[.pointer none] W fun e w' => e = .returned (.int .i64 0) ∧ w' = W := by
  go_enter Tryz.func135, Tryz.ntmps135
  go_wp2
  go_ret
  exact ⟨rfl, rfl⟩
set_option maxHeartbeats 1000000 in
theorem ready_nil (W : World) : Calls Tryz.prog 88 #[.pointer none] W fun e w' => e = .returned (.bool false) ∧ w' = W := by
  have hn := need_nil W
  go_enter Tryz.func88, Tryz.ntmps88
  go_wp2_with (go_at_call 135; (with_reducible refine hn.mono ?_); rintro e u ⟨rfl, hu⟩; obtain rfl := hu.symm)
  go_ret
  exact ⟨rfl, rfl⟩
set_option maxHeartbeats 1000000 in
theorem heards_nil (W : World) : Calls Tryz.prog 138 #[.pointer none] W fun e w' => ∃ a c, e = .returned (.slice a 0 c) ∧ Below W.heap.size W w' := by
  have hk := kept_nil W
  have hc := cloneS_any none 0 0 [] W (World.ownsRow_nil _ _ _ _) (by simp)
  simp only [List.length_nil] at hc
  go_enter Tryz.func138, Tryz.ntmps138
  go_wp2_with (first | (go_at_call 144; (with_reducible refine hk.mono ?_); rintro e u ⟨rfl, hu⟩; obtain rfl := hu.symm) | (go_at_call 145; (with_reducible refine hc.mono ?_); rintro e u ⟨a, c, rfl, ho, hb⟩))
  go_ret
  exact ⟨a, c, rfl, hb⟩
set_option maxHeartbeats 1000000 in
set_option maxRecDepth 100000 in
theorem reps_nil (W : World) : Calls Tryz.prog 139 #[.pointer none] W fun e w' => e = .returned (sv 0) ∧ Below W.heap.size W w' := by
  obtain ⟨w1, hw1⟩ : ∃ w1, W.alloc (.cells #[.int .u32 0, .int .u32 0, .int .u32 0, .int .u32 0] 25) = w1 := ⟨_, rfl⟩
  have hb1 : Below W.heap.size W w1 := by rw [← hw1]; exact al1' _ _
  have g1 : Holds4 w1 W.heap.size (fun _ => 0) := by rw [← hw1]; exact new_at rfl
  obtain ⟨y0, y1, y2, y3, z0, z1, z2, z3⟩ := g1.facts
  have G1 : Hid (Holds4 w1 W.heap.size (fun _ => 0)) := g1
  clear g1
  have e0 : set4 w1 W.heap.size 0 = (((w1.setCell ⟨W.heap.size, 0, none⟩ (.int .u32 0)).setCell ⟨W.heap.size, 1, none⟩ (.int .u32 0)).setCell ⟨W.heap.size, 2, none⟩ (.int .u32 0)).setCell ⟨W.heap.size, 3, none⟩ (.int .u32 0) := by simp [set4, wd]
  go_enter Tryz.func139, Tryz.ntmps139
  go_wp2
  rw [← e0]
  exact ret4 rfl rfl rfl (fin4 G1.out 0) ⟨rfl, below4 hb1 (Nat.le_refl _) _⟩
set_option maxHeartbeats 1000000 in
theorem take_nil (f r : Int) (N : Nat) (W : World) : Calls Tryz.prog 16 #[.pointer none, .int .i64 f, .int .i64 r, sv N] W fun e w' => e = .returned (.tuple #[.int .i64 0, .int .i64 1]) ∧ Below W.heap.size W w' := by
  simp only [sv]
  go_enter Tryz.func16, Tryz.ntmps16
  go_wp2
  go_ret2
  exact ⟨rfl, al1' _ _⟩
theorem zero_ta (u : World) (base : Nat) (hb : base ≤ u.heap.size) : Ta (u.alloc (.cells #[.int .i64 0, .int .i64 0, .int .i64 0, .int .u32 0, .int .u32 0, .int .u32 0, .int .u32 0, .slice none 0 0] 114)) base u.heap.size none 0 (tl0 0 0 0) := ⟨hb, new_tl0 u 0 0 0, World.ownsRow_nil _ _ _ _⟩
theorem zero_tv : Tv (tl0 0 0 0) := ⟨by decide, by decide, by decide, by decide, by decide, by decide, by decide, by intro N h; cases h⟩
theorem zero_fate (f r : Int) (N : Nat) : fate (tl0 0 0 0) f r N = 0 := by
  unfold fate isN
  rw [if_pos]
  simp [tl0]
theorem zero_tk (f r : Int) (N : Nat) : tk (tl0 0 0 0) f r N = tl0 0 0 0 := by
  unfold tk
  rw [zero_fate, if_neg (by decide)]
end Go.Proofs.YtgehmidalfajgabGreatDoor
