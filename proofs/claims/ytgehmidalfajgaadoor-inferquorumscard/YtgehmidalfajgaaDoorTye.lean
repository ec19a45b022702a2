/- tally's Take: what it answers, at every reply. -/
import Derived.Test.YtgehmidalfajgaaDoorTyc
namespace Go.Proofs.YtgehmidalfajgaaDoor
open Go.RowKit Go.Shelf

/-- Does the fate befall the reply? -/
def bef (t : Tl) (f r : Int) (N : Nat) : Nat → Bool
  | 0 => !isN f t.n
  | 1 => !wthB N t.n
  | 2 => decide (r ≠ t.ro)
  | 3 => decide (wthN t.reps f = t.reps)
  | _ => rdy t
theorem fate_yes {t : Tl} {f r : Int} {N : Nat} (i : Nat) (hi : i < 5) (h : i ≤ fate t f r N) (hb : bef t f r N i = true) : fate t f r N = i := by
  unfold fate at h ⊢
  match i, hi with
  | 0, _ => simp [bef] at hb; simp [hb]
  | 1, _ => simp [bef] at hb; simp [hb] at h ⊢; by_cases q : isN f t.n = false <;> simp_all
  | 2, _ => simp [bef] at hb; simp [hb] at h ⊢; by_cases q : isN f t.n = false <;> by_cases q2 : wthB N t.n = false <;> simp_all
  | 3, _ => simp [bef] at hb; by_cases q : isN f t.n = false <;> by_cases q2 : wthB N t.n = false <;> by_cases q3 : r = t.ro <;> simp_all
  | 4, _ => simp [bef] at hb; by_cases q : isN f t.n = false <;> by_cases q2 : wthB N t.n = false <;> by_cases q3 : r = t.ro <;> by_cases q4 : wthN t.reps f = t.reps <;> simp_all
theorem fate_no {t : Tl} {f r : Int} {N : Nat} (i : Nat) (hi : i < 5) (h : i ≤ fate t f r N) (hb : bef t f r N i = false) : i + 1 ≤ fate t f r N := by
  rcases Nat.lt_or_ge i (fate t f r N) with q | q
  · exact q
  · have e : fate t f r N = i := by omega
    exfalso
    unfold fate at e
    match i, hi with
    | 0, _ => simp [bef] at hb; simp [hb] at e; split at e <;> (try split at e) <;> (try split at e) <;> (try split at e) <;> omega
    | 1, _ => simp [bef] at hb; simp [hb] at e; split at e <;> (try split at e) <;> (try split at e) <;> (try split at e) <;> omega
    | 2, _ => simp [bef] at hb; simp [hb] at e; split at e <;> (try split at e) <;> (try split at e) <;> (try split at e) <;> omega
    | 3, _ => simp [bef] at hb; simp [hb] at e; split at e <;> (try split at e) <;> (try split at e) <;> (try split at e) <;> omega
    | 4, _ => simp [bef] at hb; simp [hb] at e; split at e <;> (try split at e) <;> (try split at e) <;> (try split at e) <;> omega
/-- While the fates are asked. -/
structure Lt (W : World) (base q k : Nat) (ad : Option Addr) (cap : Nat) (t : Tl) (f r : Int) (N : Nat) (V : World) : Prop where
  ta : Ta V base q ad cap t
  fx : Fx V k q f r N
  tab : V.heap[k + 1 + 1 + 1 + 1]? = some (.cells (ftC k q) 72 (0, 0))
  hb : Holds4 V W.heap.size (wd N)
  bl : Below W.heap.size W V
theorem Lt.carry {W V V' : World} {base q k cap : Nat} {ad : Option Addr} {t : Tl} {f r : Int} {N : Nat} (h : Lt W base q k ad cap t f r N V) (hb : Below V.heap.size V V') : Lt W base q k ad cap t f r N V' :=
  ⟨h.ta.carry hb, h.fx.carry hb, (hb.block _ (lt_at h.tab)).trans h.tab, h.hb.carry hb, bel2 h.bl hb⟩
theorem infoF : (Tryd.prog.info? 72).map (·.size) = some 3 := by kernel_rfl
theorem field_f0 (W : World) (B : Nat) : (Instr.fieldAt 72 (.pointer (some ⟨B, 0, none⟩)) 0).run Tryd.prog W = .ok (.pointer (some ⟨B, 0, none⟩)) W := by go_simp
theorem field_f1 (W : World) (B : Nat) : (Instr.fieldAt 72 (.pointer (some ⟨B, 0, none⟩)) 1).run Tryd.prog W = .ok (.pointer (some ⟨B, 1, none⟩)) W := by go_simp
theorem load_en {W : World} {B o : Nat} {x : Int} (h : W.cell? ⟨B, o, none⟩ = some (.int .i64 x)) : (Instr.loadAt 28 (.pointer (some ⟨B, o, none⟩))).run Tryd.prog W = .ok (.int .i64 x) W := by go_simp
section
variable {W : World} {base q : Nat} {ad : Option Addr} {cap : Nat} {t : Tl}
set_option maxHeartbeats 4000000 in
set_option maxRecDepth 100000 in
theorem take_any (h : Ta W base q ad cap t) (hv : Tv t) (hb0 : base ≤ W.heap.size) (f r : Int) (N : Nat) (hN : N < S128) : Calls Tryd.prog 9 #[.pointer (some ⟨q, 0, none⟩), .int .i64 f, .int .i64 r, sv N] W fun e w' => e = .returned (.tuple #[.int .i64 (kd (fate t f r N)), .int .i64 (ke (fate t f r N))]) ∧ ∃ ad' cap', Ta w' base q ad' cap' (tk t f r N) ∧ Tn q (ob ad) (ob ad') W w' ∧ (fate t f r N ≠ 5 → ad' = ad ∧ cap' = cap ∧ Below W.heap.size W w') := by
  have hmx : Tryd.prog.follows .mixedOrders = true := by kernel_rfl
  obtain ⟨w1, hw1⟩ : ∃ w1, W.alloc (.cells #[.int .u32 (wd N 0 : Nat), .int .u32 (wd N 1 : Nat), .int .u32 (wd N 2 : Nat), .int .u32 (wd N 3 : Nat)] 27) = w1 := ⟨_, rfl⟩
  have hb1 : Below W.heap.size W w1 := by rw [← hw1]; exact al1' _ _
  have g1 : Holds4 w1 W.heap.size (wd N) := by rw [← hw1]; exact new_at rfl
  obtain ⟨y0, y1, y2, y3, _⟩ := g1.facts
  have G1 : Hid (Holds4 w1 W.heap.size (wd N)) := g1
  clear g1
  have hf := fates_any q f r N w1
  simp only [sv] at hf ⊢
  go_enter Tryd.func9, Tryd.ntmps9
  go_wp2_with (go_at_call 33; (with_reducible refine hf.mono ?_); rintro e u ⟨k, rfl, hx, htab, hb⟩; have hL : Hid (Lt W base q k ad cap t f r N u) := ⟨(h.carry hb1).carry hb, hx, htab, G1.out.carry hb, bel2 hb1 hb⟩)
  clear hx htab hf y0 y1 y2 y3
  go_loopw [20] (fun c wz => ∃ i : Nat, c = .int .i64 i ∧ i ≤ 5 ∧ i ≤ fate t f r N ∧ Lt W base q k ad cap t f r N wz) (fun c _ => 5 - vnat c)
  case atStart => exact ⟨0, rfl, by omega, by omega, hL.out⟩
  case round =>
    obtain ⟨i, rfl, hi5, hif, hLr⟩ := hrel
    by_cases hi : i < 5
    · have hii : (i : Int) < 5 := by omega
      obtain rfl | rfl | rfl | rfl | rfl : i = 0 ∨ i = 1 ∨ i = 2 ∨ i = 3 ∨ i = 4 := by omega
      · have c0 := cell_at hLr.tab 0
        have c1 := cell_at hLr.tab 1
        have c2 := cell_at hLr.tab 2
        unfold ftC at c0 c1 c2
        simp at c0 c1 c2
        obtain ⟨b, hbb⟩ : ∃ b, bef t f r N 0 = b := ⟨_, rfl⟩
        have hc : ∀ V, Lt W base q k ad cap t f r N V → Calls Tryd.prog 58 #[.pointer (some ⟨k + 1, 0, none⟩), .pointer (some ⟨k, 0, none⟩)] V fun e w' => e = .returned (.bool b) ∧ Below V.heap.size V w' := fun V hV => by
          rw [← hbb]
          exact fate1_any hV.ta hV.fx
        have hag : ∀ {C : Array Value} (v : World), v.heap[wr.heap.size]? = some (.cells C 72 (0, 0)) → Below wr.heap.size wr v → Lt W base q k ad cap t f r N v := fun v _ hb => hLr.carry hb
        cases b with
        | false =>
          go_wp2_with (first
            | (refine wpList_store_row rfl 72 (.tmp 11) (.tmp 23) rfl wr.heap.size #[.int .i64 5, .int .i64 0, .func (.func 58) #[] #[.pointer (some ⟨k + 1, 0, none⟩), .pointer (some ⟨k, 0, none⟩)]] rfl rfl 72 _ (new_at rfl) infoF rfl (by simp [Value.oneCell']) ?_; obtain ⟨v, hv⟩ : ∃ v, (wr.alloc (.cells #[.int .i64 0, .int .i64 0, .nilFunc] 72)).setRow wr.heap.size #[.int .i64 5, .int .i64 0, .func (.func 58) #[] #[.pointer (some ⟨k + 1, 0, none⟩), .pointer (some ⟨k, 0, none⟩)]] = v := ⟨_, rfl⟩; have HG : Hid (v.heap[wr.heap.size]? = some (.cells #[.int .i64 5, .int .i64 0, .func (.func 58) #[] #[.pointer (some ⟨k + 1, 0, none⟩), .pointer (some ⟨k, 0, none⟩)]] 72 (0, 0))) := (by rw [← hv]; exact setRow_heap _ _ _ _ _ _ (new_at rfl)); have HB : Hid (Below wr.heap.size wr v) := (by rw [← hv]; exact below_row (al1' _ _) (Nat.le_refl _) _); rw [hv]; have b2 := cell_at HG.out 2; simp at b2)
            | (go_at_call 58; (with_reducible refine (hc v (hag v HG.out HB.out)).mono ?_); rintro e u2 ⟨rfl, hb2⟩))
          go_roundw
          case rel => exact ⟨0+1, by simp, by omega, fate_no 0 (by omega) hif hbb, (hag v HG.out HB.out).carry hb2⟩
          case measure => simp only [vnat]; omega
        | true =>
          have hfa := fate_yes 0 (by omega) hif hbb
          go_wp2_with (first
            | (refine wpList_store_row rfl 72 (.tmp 11) (.tmp 23) rfl wr.heap.size #[.int .i64 5, .int .i64 0, .func (.func 58) #[] #[.pointer (some ⟨k + 1, 0, none⟩), .pointer (some ⟨k, 0, none⟩)]] rfl rfl 72 _ (new_at rfl) infoF rfl (by simp [Value.oneCell']) ?_; obtain ⟨v, hv⟩ : ∃ v, (wr.alloc (.cells #[.int .i64 0, .int .i64 0, .nilFunc] 72)).setRow wr.heap.size #[.int .i64 5, .int .i64 0, .func (.func 58) #[] #[.pointer (some ⟨k + 1, 0, none⟩), .pointer (some ⟨k, 0, none⟩)]] = v := ⟨_, rfl⟩; have HG : Hid (v.heap[wr.heap.size]? = some (.cells #[.int .i64 5, .int .i64 0, .func (.func 58) #[] #[.pointer (some ⟨k + 1, 0, none⟩), .pointer (some ⟨k, 0, none⟩)]] 72 (0, 0))) := (by rw [← hv]; exact setRow_heap _ _ _ _ _ _ (new_at rfl)); have HB : Hid (Below wr.heap.size wr v) := (by rw [← hv]; exact below_row (al1' _ _) (Nat.le_refl _) _); rw [hv]; have b2 := cell_at HG.out 2; simp at b2)
            | (go_at_call 58; (with_reducible refine (hc v (hag v HG.out HB.out)).mono ?_); rintro e u2 ⟨rfl, hb2⟩))
          have HG2 := (hb2.block _ (lt_at HG.out)).trans HG.out
          have HL2 := (hag v HG.out HB.out).carry hb2
          refine wp_region_any hmx ?_
          refine wpAny_pure (fun i__ => ([(.pointer (some ⟨wr.heap.size, 0, none⟩)), (.int .i64 5), (.pointer (some ⟨wr.heap.size, 1, none⟩)), (.int .i64 0), (.int .i64 5), (.int .i64 0)] : List Value).getD i__ undef) (fun V => Below u2.heap.size u2 V) (by kernel_rfl) (Below.refl _ _).drew ?_ ?_
          · refine (stepsFrom_cons ?_ (stepsFrom_cons ?_ (stepsFrom_cons ?_ (stepsFrom_cons ?_ (stepsFrom_cons ?_ (stepsFrom_cons ?_ trivial))))))
            · exact step_fieldAddr rfl trivial _ _ _ _ rfl rfl (fun v hw => field_f0 v _)
            · exact step_load rfl trivial _ _ _ rfl rfl (fun v hw => load_i64 (by rw [cell_at ((hw.block _ (lt_at HG2)).trans HG2)]; rfl))
            · exact step_fieldAddr rfl trivial _ _ _ _ rfl rfl (fun v hw => field_f1 v _)
            · exact step_load rfl trivial _ _ _ rfl rfl (fun v hw => load_en (by rw [cell_at ((hw.block _ (lt_at HG2)).trans HG2)]; rfl))
            · exact step_assign rfl trivial _ rfl (by kernel_rfl) (fun _ h => h)
            · exact step_assign rfl trivial _ rfl (by kernel_rfl) (fun _ h => h)
          intro W hW
          first | refine hK _ _ ?_ | refine (‹∀ (a : Act) (w : World), Code.wp Tryd.prog _ _ a w → _›) _ _ ?_
          simp only [finL, List.getD_cons_zero, List.getD_cons_succ, Nat.zero_add, Nat.reduceAdd, List.setIfInBounds_toArray, List.set_cons_zero, List.set_cons_succ]
          go_wp2
          go_ret2
          rw [hfa]
          refine ⟨rfl, ad, cap, ?_, Tn.of q _ (bel2 HL2.bl hW), fun _ => ⟨rfl, rfl, bel2 HL2.bl hW⟩⟩
          unfold tk
          rw [hfa, if_neg (by decide)]
          exact (HL2.carry hW).ta
      · have c0 := cell_at hLr.tab 3
        have c1 := cell_at hLr.tab 4
        have c2 := cell_at hLr.tab 5
        unfold ftC at c0 c1 c2
        simp at c0 c1 c2
        obtain ⟨b, hbb⟩ : ∃ b, bef t f r N 1 = b := ⟨_, rfl⟩
        have hc : ∀ V, Lt W base q k ad cap t f r N V → Calls Tryd.prog 59 #[.pointer (some ⟨k + 1 + 1 + 1, 0, none⟩), .pointer (some ⟨k, 0, none⟩)] V fun e w' => e = .returned (.bool b) ∧ Below V.heap.size V w' := fun V hV => by
          rw [← hbb]
          exact fate2_any hV.ta hV.fx hN
        have hag : ∀ {C : Array Value} (v : World), v.heap[wr.heap.size]? = some (.cells C 72 (0, 0)) → Below wr.heap.size wr v → Lt W base q k ad cap t f r N v := fun v _ hb => hLr.carry hb
        cases b with
        | false =>
          go_wp2_with (first
            | (refine wpList_store_row rfl 72 (.tmp 11) (.tmp 23) rfl wr.heap.size #[.int .i64 0, .int .i64 74, .func (.func 59) #[] #[.pointer (some ⟨k + 1 + 1 + 1, 0, none⟩), .pointer (some ⟨k, 0, none⟩)]] rfl rfl 72 _ (new_at rfl) infoF rfl (by simp [Value.oneCell']) ?_; obtain ⟨v, hv⟩ : ∃ v, (wr.alloc (.cells #[.int .i64 0, .int .i64 0, .nilFunc] 72)).setRow wr.heap.size #[.int .i64 0, .int .i64 74, .func (.func 59) #[] #[.pointer (some ⟨k + 1 + 1 + 1, 0, none⟩), .pointer (some ⟨k, 0, none⟩)]] = v := ⟨_, rfl⟩; have HG : Hid (v.heap[wr.heap.size]? = some (.cells #[.int .i64 0, .int .i64 74, .func (.func 59) #[] #[.pointer (some ⟨k + 1 + 1 + 1, 0, none⟩), .pointer (some ⟨k, 0, none⟩)]] 72 (0, 0))) := (by rw [← hv]; exact setRow_heap _ _ _ _ _ _ (new_at rfl)); have HB : Hid (Below wr.heap.size wr v) := (by rw [← hv]; exact below_row (al1' _ _) (Nat.le_refl _) _); rw [hv]; have b2 := cell_at HG.out 2; simp at b2)
            | (go_at_call 59; (with_reducible refine (hc v (hag v HG.out HB.out)).mono ?_); rintro e u2 ⟨rfl, hb2⟩))
          go_roundw
          case rel => exact ⟨1+1, by simp, by omega, fate_no 1 (by omega) hif hbb, (hag v HG.out HB.out).carry hb2⟩
          case measure => simp only [vnat]; omega
        | true =>
          have hfa := fate_yes 1 (by omega) hif hbb
          go_wp2_with (first
            | (refine wpList_store_row rfl 72 (.tmp 11) (.tmp 23) rfl wr.heap.size #[.int .i64 0, .int .i64 74, .func (.func 59) #[] #[.pointer (some ⟨k + 1 + 1 + 1, 0, none⟩), .pointer (some ⟨k, 0, none⟩)]] rfl rfl 72 _ (new_at rfl) infoF rfl (by simp [Value.oneCell']) ?_; obtain ⟨v, hv⟩ : ∃ v, (wr.alloc (.cells #[.int .i64 0, .int .i64 0, .nilFunc] 72)).setRow wr.heap.size #[.int .i64 0, .int .i64 74, .func (.func 59) #[] #[.pointer (some ⟨k + 1 + 1 + 1, 0, none⟩), .pointer (some ⟨k, 0, none⟩)]] = v := ⟨_, rfl⟩; have HG : Hid (v.heap[wr.heap.size]? = some (.cells #[.int .i64 0, .int .i64 74, .func (.func 59) #[] #[.pointer (some ⟨k + 1 + 1 + 1, 0, none⟩), .pointer (some ⟨k, 0, none⟩)]] 72 (0, 0))) := (by rw [← hv]; exact setRow_heap _ _ _ _ _ _ (new_at rfl)); have HB : Hid (Below wr.heap.size wr v) := (by rw [← hv]; exact below_row (al1' _ _) (Nat.le_refl _) _); rw [hv]; have b2 := cell_at HG.out 2; simp at b2)
            | (go_at_call 59; (with_reducible refine (hc v (hag v HG.out HB.out)).mono ?_); rintro e u2 ⟨rfl, hb2⟩))
          have HG2 := (hb2.block _ (lt_at HG.out)).trans HG.out
          have HL2 := (hag v HG.out HB.out).carry hb2
          refine wp_region_any hmx ?_
          refine wpAny_pure (fun i__ => ([(.pointer (some ⟨wr.heap.size, 0, none⟩)), (.int .i64 0), (.pointer (some ⟨wr.heap.size, 1, none⟩)), (.int .i64 74), (.int .i64 0), (.int .i64 74)] : List Value).getD i__ undef) (fun V => Below u2.heap.size u2 V) (by kernel_rfl) (Below.refl _ _).drew ?_ ?_
          · refine (stepsFrom_cons ?_ (stepsFrom_cons ?_ (stepsFrom_cons ?_ (stepsFrom_cons ?_ (stepsFrom_cons ?_ (stepsFrom_cons ?_ trivial))))))
            · exact step_fieldAddr rfl trivial _ _ _ _ rfl rfl (fun v hw => field_f0 v _)
            · exact step_load rfl trivial _ _ _ rfl rfl (fun v hw => load_i64 (by rw [cell_at ((hw.block _ (lt_at HG2)).trans HG2)]; rfl))
            · exact step_fieldAddr rfl trivial _ _ _ _ rfl rfl (fun v hw => field_f1 v _)
            · exact step_load rfl trivial _ _ _ rfl rfl (fun v hw => load_en (by rw [cell_at ((hw.block _ (lt_at HG2)).trans HG2)]; rfl))
            · exact step_assign rfl trivial _ rfl (by kernel_rfl) (fun _ h => h)
            · exact step_assign rfl trivial _ rfl (by kernel_rfl) (fun _ h => h)
          intro W hW
          first | refine hK _ _ ?_ | refine (‹∀ (a : Act) (w : World), Code.wp Tryd.prog _ _ a w → _›) _ _ ?_
          simp only [finL, List.getD_cons_zero, List.getD_cons_succ, Nat.zero_add, Nat.reduceAdd, List.setIfInBounds_toArray, List.set_cons_zero, List.set_cons_succ]
          go_wp2
          go_ret2
          rw [hfa]
          refine ⟨rfl, ad, cap, ?_, Tn.of q _ (bel2 HL2.bl hW), fun _ => ⟨rfl, rfl, bel2 HL2.bl hW⟩⟩
          unfold tk
          rw [hfa, if_neg (by decide)]
          exact (HL2.carry hW).ta
      · have c0 := cell_at hLr.tab 6
        have c1 := cell_at hLr.tab 7
        have c2 := cell_at hLr.tab 8
        unfold ftC at c0 c1 c2
        simp at c0 c1 c2
        obtain ⟨b, hbb⟩ : ∃ b, bef t f r N 2 = b := ⟨_, rfl⟩
        have hc : ∀ V, Lt W base q k ad cap t f r N V → Calls Tryd.prog 60 #[.pointer (some ⟨k + 1 + 1, 0, none⟩), .pointer (some ⟨k, 0, none⟩)] V fun e w' => e = .returned (.bool b) ∧ Below V.heap.size V w' := fun V hV => by
          rw [← hbb]
          exact fate3_any hV.ta hV.fx
        have hag : ∀ {C : Array Value} (v : World), v.heap[wr.heap.size]? = some (.cells C 72 (0, 0)) → Below wr.heap.size wr v → Lt W base q k ad cap t f r N v := fun v _ hb => hLr.carry hb
        cases b with
        | false =>
          go_wp2_with (first
            | (refine wpList_store_row rfl 72 (.tmp 11) (.tmp 23) rfl wr.heap.size #[.int .i64 2, .int .i64 0, .func (.func 60) #[] #[.pointer (some ⟨k + 1 + 1, 0, none⟩), .pointer (some ⟨k, 0, none⟩)]] rfl rfl 72 _ (new_at rfl) infoF rfl (by simp [Value.oneCell']) ?_; obtain ⟨v, hv⟩ : ∃ v, (wr.alloc (.cells #[.int .i64 0, .int .i64 0, .nilFunc] 72)).setRow wr.heap.size #[.int .i64 2, .int .i64 0, .func (.func 60) #[] #[.pointer (some ⟨k + 1 + 1, 0, none⟩), .pointer (some ⟨k, 0, none⟩)]] = v := ⟨_, rfl⟩; have HG : Hid (v.heap[wr.heap.size]? = some (.cells #[.int .i64 2, .int .i64 0, .func (.func 60) #[] #[.pointer (some ⟨k + 1 + 1, 0, none⟩), .pointer (some ⟨k, 0, none⟩)]] 72 (0, 0))) := (by rw [← hv]; exact setRow_heap _ _ _ _ _ _ (new_at rfl)); have HB : Hid (Below wr.heap.size wr v) := (by rw [← hv]; exact below_row (al1' _ _) (Nat.le_refl _) _); rw [hv]; have b2 := cell_at HG.out 2; simp at b2)
            | (go_at_call 60; (with_reducible refine (hc v (hag v HG.out HB.out)).mono ?_); rintro e u2 ⟨rfl, hb2⟩))
          go_roundw
          case rel => exact ⟨2+1, by simp, by omega, fate_no 2 (by omega) hif hbb, (hag v HG.out HB.out).carry hb2⟩
          case measure => simp only [vnat]; omega
        | true =>
          have hfa := fate_yes 2 (by omega) hif hbb
          go_wp2_with (first
            | (refine wpList_store_row rfl 72 (.tmp 11) (.tmp 23) rfl wr.heap.size #[.int .i64 2, .int .i64 0, .func (.func 60) #[] #[.pointer (some ⟨k + 1 + 1, 0, none⟩), .pointer (some ⟨k, 0, none⟩)]] rfl rfl 72 _ (new_at rfl) infoF rfl (by simp [Value.oneCell']) ?_; obtain ⟨v, hv⟩ : ∃ v, (wr.alloc (.cells #[.int .i64 0, .int .i64 0, .nilFunc] 72)).setRow wr.heap.size #[.int .i64 2, .int .i64 0, .func (.func 60) #[] #[.pointer (some ⟨k + 1 + 1, 0, none⟩), .pointer (some ⟨k, 0, none⟩)]] = v := ⟨_, rfl⟩; have HG : Hid (v.heap[wr.heap.size]? = some (.cells #[.int .i64 2, .int .i64 0, .func (.func 60) #[] #[.pointer (some ⟨k + 1 + 1, 0, none⟩), .pointer (some ⟨k, 0, none⟩)]] 72 (0, 0))) := (by rw [← hv]; exact setRow_heap _ _ _ _ _ _ (new_at rfl)); have HB : Hid (Below wr.heap.size wr v) := (by rw [← hv]; exact below_row (al1' _ _) (Nat.le_refl _) _); rw [hv]; have b2 := cell_at HG.out 2; simp at b2)
            | (go_at_call 60; (with_reducible refine (hc v (hag v HG.out HB.out)).mono ?_); rintro e u2 ⟨rfl, hb2⟩))
          have HG2 := (hb2.block _ (lt_at HG.out)).trans HG.out
          have HL2 := (hag v HG.out HB.out).carry hb2
          refine wp_region_any hmx ?_
          refine wpAny_pure (fun i__ => ([(.pointer (some ⟨wr.heap.size, 0, none⟩)), (.int .i64 2), (.pointer (some ⟨wr.heap.size, 1, none⟩)), (.int .i64 0), (.int .i64 2), (.int .i64 0)] : List Value).getD i__ undef) (fun V => Below u2.heap.size u2 V) (by kernel_rfl) (Below.refl _ _).drew ?_ ?_
          · refine (stepsFrom_cons ?_ (stepsFrom_cons ?_ (stepsFrom_cons ?_ (stepsFrom_cons ?_ (stepsFrom_cons ?_ (stepsFrom_cons ?_ trivial))))))
            · exact step_fieldAddr rfl trivial _ _ _ _ rfl rfl (fun v hw => field_f0 v _)
            · exact step_load rfl trivial _ _ _ rfl rfl (fun v hw => load_i64 (by rw [cell_at ((hw.block _ (lt_at HG2)).trans HG2)]; rfl))
            · exact step_fieldAddr rfl trivial _ _ _ _ rfl rfl (fun v hw => field_f1 v _)
            · exact step_load rfl trivial _ _ _ rfl rfl (fun v hw => load_en (by rw [cell_at ((hw.block _ (lt_at HG2)).trans HG2)]; rfl))
            · exact step_assign rfl trivial _ rfl (by kernel_rfl) (fun _ h => h)
            · exact step_assign rfl trivial _ rfl (by kernel_rfl) (fun _ h => h)
          intro W hW
          first | refine hK _ _ ?_ | refine (‹∀ (a : Act) (w : World), Code.wp Tryd.prog _ _ a w → _›) _ _ ?_
          simp only [finL, List.getD_cons_zero, List.getD_cons_succ, Nat.zero_add, Nat.reduceAdd, List.setIfInBounds_toArray, List.set_cons_zero, List.set_cons_succ]
          go_wp2
          go_ret2
          rw [hfa]
          refine ⟨rfl, ad, cap, ?_, Tn.of q _ (bel2 HL2.bl hW), fun _ => ⟨rfl, rfl, bel2 HL2.bl hW⟩⟩
          unfold tk
          rw [hfa, if_neg (by decide)]
          exact (HL2.carry hW).ta
      · have c0 := cell_at hLr.tab 9
        have c1 := cell_at hLr.tab 10
        have c2 := cell_at hLr.tab 11
        unfold ftC at c0 c1 c2
        simp at c0 c1 c2
        obtain ⟨b, hbb⟩ : ∃ b, bef t f r N 3 = b := ⟨_, rfl⟩
        have hc : ∀ V, Lt W base q k ad cap t f r N V → Calls Tryd.prog 61 #[.pointer (some ⟨k, 0, none⟩), .pointer (some ⟨k + 1, 0, none⟩)] V fun e w' => e = .returned (.bool b) ∧ Below V.heap.size V w' := fun V hV => by
          rw [← hbb]
          exact fate4_any hV.ta hV.fx hv.reps
        have hag : ∀ {C : Array Value} (v : World), v.heap[wr.heap.size]? = some (.cells C 72 (0, 0)) → Below wr.heap.size wr v → Lt W base q k ad cap t f r N v := fun v _ hb => hLr.carry hb
        cases b with
        | false =>
          go_wp2_with (first
            | (refine wpList_store_row rfl 72 (.tmp 11) (.tmp 23) rfl wr.heap.size #[.int .i64 3, .int .i64 0, .func (.func 61) #[] #[.pointer (some ⟨k, 0, none⟩), .pointer (some ⟨k + 1, 0, none⟩)]] rfl rfl 72 _ (new_at rfl) infoF rfl (by simp [Value.oneCell']) ?_; obtain ⟨v, hv⟩ : ∃ v, (wr.alloc (.cells #[.int .i64 0, .int .i64 0, .nilFunc] 72)).setRow wr.heap.size #[.int .i64 3, .int .i64 0, .func (.func 61) #[] #[.pointer (some ⟨k, 0, none⟩), .pointer (some ⟨k + 1, 0, none⟩)]] = v := ⟨_, rfl⟩; have HG : Hid (v.heap[wr.heap.size]? = some (.cells #[.int .i64 3, .int .i64 0, .func (.func 61) #[] #[.pointer (some ⟨k, 0, none⟩), .pointer (some ⟨k + 1, 0, none⟩)]] 72 (0, 0))) := (by rw [← hv]; exact setRow_heap _ _ _ _ _ _ (new_at rfl)); have HB : Hid (Below wr.heap.size wr v) := (by rw [← hv]; exact below_row (al1' _ _) (Nat.le_refl _) _); rw [hv]; have b2 := cell_at HG.out 2; simp at b2)
            | (go_at_call 61; (with_reducible refine (hc v (hag v HG.out HB.out)).mono ?_); rintro e u2 ⟨rfl, hb2⟩))
          go_roundw
          case rel => exact ⟨3+1, by simp, by omega, fate_no 3 (by omega) hif hbb, (hag v HG.out HB.out).carry hb2⟩
          case measure => simp only [vnat]; omega
        | true =>
          have hfa := fate_yes 3 (by omega) hif hbb
          go_wp2_with (first
            | (refine wpList_store_row rfl 72 (.tmp 11) (.tmp 23) rfl wr.heap.size #[.int .i64 3, .int .i64 0, .func (.func 61) #[] #[.pointer (some ⟨k, 0, none⟩), .pointer (some ⟨k + 1, 0, none⟩)]] rfl rfl 72 _ (new_at rfl) infoF rfl (by simp [Value.oneCell']) ?_; obtain ⟨v, hv⟩ : ∃ v, (wr.alloc (.cells #[.int .i64 0, .int .i64 0, .nilFunc] 72)).setRow wr.heap.size #[.int .i64 3, .int .i64 0, .func (.func 61) #[] #[.pointer (some ⟨k, 0, none⟩), .pointer (some ⟨k + 1, 0, none⟩)]] = v := ⟨_, rfl⟩; have HG : Hid (v.heap[wr.heap.size]? = some (.cells #[.int .i64 3, .int .i64 0, .func (.func 61) #[] #[.pointer (some ⟨k, 0, none⟩), .pointer (some ⟨k + 1, 0, none⟩)]] 72 (0, 0))) := (by rw [← hv]; exact setRow_heap _ _ _ _ _ _ (new_at rfl)); have HB : Hid (Below wr.heap.size wr v) := (by rw [← hv]; exact below_row (al1' _ _) (Nat.le_refl _) _); rw [hv]; have b2 := cell_at HG.out 2; simp at b2)
            | (go_at_call 61; (with_reducible refine (hc v (hag v HG.out HB.out)).mono ?_); rintro e u2 ⟨rfl, hb2⟩))
          have HG2 := (hb2.block _ (lt_at HG.out)).trans HG.out
          have HL2 := (hag v HG.out HB.out).carry hb2
          refine wp_region_any hmx ?_
          refine wpAny_pure (fun i__ => ([(.pointer (some ⟨wr.heap.size, 0, none⟩)), (.int .i64 3), (.pointer (some ⟨wr.heap.size, 1, none⟩)), (.int .i64 0), (.int .i64 3), (.int .i64 0)] : List Value).getD i__ undef) (fun V => Below u2.heap.size u2 V) (by kernel_rfl) (Below.refl _ _).drew ?_ ?_
          · refine (stepsFrom_cons ?_ (stepsFrom_cons ?_ (stepsFrom_cons ?_ (stepsFrom_cons ?_ (stepsFrom_cons ?_ (stepsFrom_cons ?_ trivial))))))
            · exact step_fieldAddr rfl trivial _ _ _ _ rfl rfl (fun v hw => field_f0 v _)
            · exact step_load rfl trivial _ _ _ rfl rfl (fun v hw => load_i64 (by rw [cell_at ((hw.block _ (lt_at HG2)).trans HG2)]; rfl))
            · exact step_fieldAddr rfl trivial _ _ _ _ rfl rfl (fun v hw => field_f1 v _)
            · exact step_load rfl trivial _ _ _ rfl rfl (fun v hw => load_en (by rw [cell_at ((hw.block _ (lt_at HG2)).trans HG2)]; rfl))
            · exact step_assign rfl trivial _ rfl (by kernel_rfl) (fun _ h => h)
            · exact step_assign rfl trivial _ rfl (by kernel_rfl) (fun _ h => h)
          intro W hW
          first | refine hK _ _ ?_ | refine (‹∀ (a : Act) (w : World), Code.wp Tryd.prog _ _ a w → _›) _ _ ?_
          simp only [finL, List.getD_cons_zero, List.getD_cons_succ, Nat.zero_add, Nat.reduceAdd, List.setIfInBounds_toArray, List.set_cons_zero, List.set_cons_succ]
          go_wp2
          go_ret2
          rw [hfa]
          refine ⟨rfl, ad, cap, ?_, Tn.of q _ (bel2 HL2.bl hW), fun _ => ⟨rfl, rfl, bel2 HL2.bl hW⟩⟩
          unfold tk
          rw [hfa, if_neg (by decide)]
          exact (HL2.carry hW).ta
      · have c0 := cell_at hLr.tab 12
        have c1 := cell_at hLr.tab 13
        have c2 := cell_at hLr.tab 14
        unfold ftC at c0 c1 c2
        simp at c0 c1 c2
        obtain ⟨b, hbb⟩ : ∃ b, bef t f r N 4 = b := ⟨_, rfl⟩
        have hc : ∀ V, Lt W base q k ad cap t f r N V → Calls Tryd.prog 11 #[.pointer (some ⟨q, 0, none⟩)] V fun e w' => e = .returned (.bool b) ∧ Below V.heap.size V w' := fun V hV => by
          rw [← hbb]
          exact (ready_any hV.ta).mono (by rintro e w2 ⟨rfl, rfl⟩; exact ⟨rfl, Below.refl _ _⟩)
        have hag : ∀ {C : Array Value} (v : World), v.heap[wr.heap.size]? = some (.cells C 72 (0, 0)) → Below wr.heap.size wr v → Lt W base q k ad cap t f r N v := fun v _ hb => hLr.carry hb
        cases b with
        | false =>
          go_wp2_with (first
            | (refine wpList_store_row rfl 72 (.tmp 11) (.tmp 23) rfl wr.heap.size #[.int .i64 4, .int .i64 0, .func (.func 11) #[.pointer (some ⟨q, 0, none⟩)] #[]] rfl rfl 72 _ (new_at rfl) infoF rfl (by simp [Value.oneCell']) ?_; obtain ⟨v, hv⟩ : ∃ v, (wr.alloc (.cells #[.int .i64 0, .int .i64 0, .nilFunc] 72)).setRow wr.heap.size #[.int .i64 4, .int .i64 0, .func (.func 11) #[.pointer (some ⟨q, 0, none⟩)] #[]] = v := ⟨_, rfl⟩; have HG : Hid (v.heap[wr.heap.size]? = some (.cells #[.int .i64 4, .int .i64 0, .func (.func 11) #[.pointer (some ⟨q, 0, none⟩)] #[]] 72 (0, 0))) := (by rw [← hv]; exact setRow_heap _ _ _ _ _ _ (new_at rfl)); have HB : Hid (Below wr.heap.size wr v) := (by rw [← hv]; exact below_row (al1' _ _) (Nat.le_refl _) _); rw [hv]; have b2 := cell_at HG.out 2; simp at b2)
            | (go_at_call 11; (with_reducible refine (hc v (hag v HG.out HB.out)).mono ?_); rintro e u2 ⟨rfl, hb2⟩))
          go_roundw
          case rel => exact ⟨4+1, by simp, by omega, fate_no 4 (by omega) hif hbb, (hag v HG.out HB.out).carry hb2⟩
          case measure => simp only [vnat]; omega
        | true =>
          have hfa := fate_yes 4 (by omega) hif hbb
          go_wp2_with (first
            | (refine wpList_store_row rfl 72 (.tmp 11) (.tmp 23) rfl wr.heap.size #[.int .i64 4, .int .i64 0, .func (.func 11) #[.pointer (some ⟨q, 0, none⟩)] #[]] rfl rfl 72 _ (new_at rfl) infoF rfl (by simp [Value.oneCell']) ?_; obtain ⟨v, hv⟩ : ∃ v, (wr.alloc (.cells #[.int .i64 0, .int .i64 0, .nilFunc] 72)).setRow wr.heap.size #[.int .i64 4, .int .i64 0, .func (.func 11) #[.pointer (some ⟨q, 0, none⟩)] #[]] = v := ⟨_, rfl⟩; have HG : Hid (v.heap[wr.heap.size]? = some (.cells #[.int .i64 4, .int .i64 0, .func (.func 11) #[.pointer (some ⟨q, 0, none⟩)] #[]] 72 (0, 0))) := (by rw [← hv]; exact setRow_heap _ _ _ _ _ _ (new_at rfl)); have HB : Hid (Below wr.heap.size wr v) := (by rw [← hv]; exact below_row (al1' _ _) (Nat.le_refl _) _); rw [hv]; have b2 := cell_at HG.out 2; simp at b2)
            | (go_at_call 11; (with_reducible refine (hc v (hag v HG.out HB.out)).mono ?_); rintro e u2 ⟨rfl, hb2⟩))
          have HG2 := (hb2.block _ (lt_at HG.out)).trans HG.out
          have HL2 := (hag v HG.out HB.out).carry hb2
          refine wp_region_any hmx ?_
          refine wpAny_pure (fun i__ => ([(.pointer (some ⟨wr.heap.size, 0, none⟩)), (.int .i64 4), (.pointer (some ⟨wr.heap.size, 1, none⟩)), (.int .i64 0), (.int .i64 4), (.int .i64 0)] : List Value).getD i__ undef) (fun V => Below u2.heap.size u2 V) (by kernel_rfl) (Below.refl _ _).drew ?_ ?_
          · refine (stepsFrom_cons ?_ (stepsFrom_cons ?_ (stepsFrom_cons ?_ (stepsFrom_cons ?_ (stepsFrom_cons ?_ (stepsFrom_cons ?_ trivial))))))
            · exact step_fieldAddr rfl trivial _ _ _ _ rfl rfl (fun v hw => field_f0 v _)
            · exact step_load rfl trivial _ _ _ rfl rfl (fun v hw => load_i64 (by rw [cell_at ((hw.block _ (lt_at HG2)).trans HG2)]; rfl))
            · exact step_fieldAddr rfl trivial _ _ _ _ rfl rfl (fun v hw => field_f1 v _)
            · exact step_load rfl trivial _ _ _ rfl rfl (fun v hw => load_en (by rw [cell_at ((hw.block _ (lt_at HG2)).trans HG2)]; rfl))
            · exact step_assign rfl trivial _ rfl (by kernel_rfl) (fun _ h => h)
            · exact step_assign rfl trivial _ rfl (by kernel_rfl) (fun _ h => h)
          intro W hW
          first | refine hK _ _ ?_ | refine (‹∀ (a : Act) (w : World), Code.wp Tryd.prog _ _ a w → _›) _ _ ?_
          simp only [finL, List.getD_cons_zero, List.getD_cons_succ, Nat.zero_add, Nat.reduceAdd, List.setIfInBounds_toArray, List.set_cons_zero, List.set_cons_succ]
          go_wp2
          go_ret2
          rw [hfa]
          refine ⟨rfl, ad, cap, ?_, Tn.of q _ (bel2 HL2.bl hW), fun _ => ⟨rfl, rfl, bel2 HL2.bl hW⟩⟩
          unfold tk
          rw [hfa, if_neg (by decide)]
          exact (HL2.carry hW).ta
    · have hi' : i = 5 := by omega
      subst hi'
      have hfa : fate t f r N = 5 := by have := fate_lt t f r N; omega
      obtain ⟨y0, y1, y2, y3, _⟩ := hLr.hb.facts
      have hco := tcount_any hLr.ta (Nat.le_trans hb0 hLr.bl.size) (by have := hv.len; have := hv.d1; have := hv.n1; omega) f N
      simp only [sv] at hco
      have HL : Hid (Lt W base q k ad cap t f r N wr) := hLr
      clear hLr
      go_wp2_with (go_at_call 32; (with_reducible refine hco.mono ?_); rintro e u2 ⟨rfl, ad', cap', hT2, hn2⟩)
      go_ret2
      rw [hfa]
      refine ⟨rfl, ad', cap', ?_, (Tn.of q _ HL.out.bl).trans hn2, fun e => absurd rfl e⟩
      unfold tk
      rw [if_pos hfa]
      exact hT2
end
end Go.Proofs.YtgehmidalfajgaaDoor
