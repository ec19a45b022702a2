/- slot's Load and Save: what they answer. -/
import Derived.Test.YtjleggnkacmbbaaLth
namespace Go.Proofs.Ytjleggnkacmbbaa
open Go.RowKit Go.Shelf Go.Lib

section
variable {W : World} {p : Nat} {d : Dst}
theorem newest_any (h : Dk W p d) : Calls Try.prog 41 #[.pointer (some ⟨p, 0, none⟩)] W fun e w' => e = .returned (ntV (nwT d)) ∧ Below W.heap.size W w' := by
  cases ho : d.off with
  | true => exact newest_off h ho
  | false => exact newest_on h ho
/-- What Load tells. -/
def ldV (t : Nt) : Value := .tuple #[rV t.r, .int .i64 t.s, .int .i64 t.e]
set_option maxHeartbeats 4000000 in
set_option maxRecDepth 100000 in
theorem load_of (P : Value) (t : Nt) (hn : ∀ V, Below W.heap.size W V → Calls Try.prog 41 #[P] V fun e w' => e = .returned (ntV t) ∧ Below V.heap.size V w') : Calls Try.prog 23 #[P] W fun e w' => e = .returned (ldV t) ∧ Below W.heap.size W w' := by
  have hmx : Try.prog.follows .mixedOrders = true := by kernel_rfl
  obtain ⟨r, s, a, er⟩ := t
  unfold ntV eV at hn
  dsimp only at hn
  obtain ⟨w1, hw1⟩ : ∃ w1, W.alloc (.cells #[.int .i64 0, .int .i64 0, .int .i64 0] 36) = w1 := ⟨_, rfl⟩
  have hb1 : Below W.heap.size W w1 := by rw [← hw1]; exact al1' _ _
  have hg1 : w1.heap[W.heap.size]? = some (.cells #[.int .i64 0, .int .i64 0, .int .i64 0] 36 (0, 0)) := by rw [← hw1]; exact new_at rfl
  have hn1 := hn w1 hb1
  go_enter Try.func23, Try.ntmps23
  go_wp2_with (go_at_call 41; (with_reducible refine hn1.mono ?_); rintro e u1 ⟨rfl, hu1⟩; obtain ⟨u2, hu2⟩ : ∃ u2, u1.alloc (.cells #[.int .i64 r.li, .int .i64 r.ro, .int .i64 r.ta, .int .i64 s] 84) = u2 := ⟨_, rfl⟩; have hjp : JP W u1.heap.size r s false u2 := (by rw [← hu2]; exact ⟨old_at ((hu1.block _ (lt_at hg1)).trans hg1), new_at rfl, bel2 (bel2 hb1 hu1) (al1' _ _)⟩))
  rename_i hK
  refine wp_region_any hmx ?_
  refine wpAny_tabG (G := Unit) (fun g i__ => ([(.pointer (some ⟨u1.heap.size, 0, none⟩)), (rV r), (.pointer (some ⟨u1.heap.size, 3, none⟩)), (.int .i64 s), (.int .i64 er), undef, (.int .i64 s), (.int .i64 er)] : List Value).getD i__ undef) (fun g d W' => JP W u1.heap.size r s (d 5) W') (by kernel_rfl) (()) (show JP W u1.heap.size r s false _ from hjp.drew) ?step1 ?fin1
  case step1 =>
    intro i o ho
    have hi : i < 8 := getElem?_lt ho
    match i, hi, ho with
    | 0, _, ho =>
      cases ho
      refine stepG_of (fun g d hdep => ?_)
      exact step_fieldAddr rfl trivial _ _ _ _ rfl rfl (fun v hw => field_e0 v _)
    | 1, _, ho =>
      cases ho
      refine stepG_of (fun g d hdep => ?_)
      exact step_load rfl trivial _ _ _ rfl rfl (fun v hw => load_er hw.2.1)
    | 2, _, ho =>
      cases ho
      refine stepG_of (fun g d hdep => ?_)
      exact step_fieldAddr rfl trivial _ _ _ _ rfl rfl (fun v hw => field_e1 v _)
    | 3, _, ho =>
      cases ho
      refine stepG_of (fun g d hdep => ?_)
      exact step_load rfl trivial _ _ _ rfl rfl (fun v hw => load_i64 (by rw [cell_at hw.2.1]; rfl))
    | 4, _, ho =>
      cases ho
      refine stepG_of (fun g d hdep => ?_)
      exact step_move rfl trivial _ rfl (by kernel_rfl)
    | 5, _, ho =>
      cases ho
      refine stepG_of (fun g d hdep => ?_)
      exact step_store rfl trivial rfl _ _ _ _ _ rfl rfl rfl (fun v hw => hw.store)
    | 6, _, ho =>
      cases ho
      refine stepG_of (fun g d hdep => ?_)
      exact step_assign rfl trivial _ rfl (by kernel_rfl) (fun _ h => h)
    | 7, _, ho =>
      cases ho
      refine stepG_of (fun g d hdep => ?_)
      exact step_assign rfl trivial _ rfl (by kernel_rfl) (fun _ h => h)
  intro g d W hall hW
  first | refine hK _ _ ?_ | refine (‹∀ (a : Act) (w : World), Code.wp Try.prog _ _ a w → _›) _ _ ?_ | skip
  simp only [finL, List.getD_cons_zero, List.getD_cons_succ, Nat.zero_add, Nat.reduceAdd, List.setIfInBounds_toArray, List.set_cons_zero, List.set_cons_succ]
  rw [hall 5 (by decide)] at hW
  clear hK
  go_wp2
  (try simp only [Exit.inBlock, Exit.then])
  exact retC3 rfl rfl rfl rfl rfl hW.1 undR infoR ⟨rfl, hW.2.2⟩
theorem load_any (h : Dk W p d) : Calls Try.prog 23 #[.pointer (some ⟨p, 0, none⟩)] W fun e w' => e = .returned (ldV (nwT d)) ∧ Below W.heap.size W w' :=
  load_of _ _ fun _ hV => newest_any (h.carry hV)
/-- A record is saved: what is answered, and the disk behind it. -/
def dSv (d : Dst) (r : Rec) : Int × Dst := if ¬ May r then (1, d) else if d.off = true then (100, d) else if (nwT d).s = 1099511627776 then (120, d) else dW2 d (if (nwT d).e = 0 then 1 - (nwT d).a else 0).toNat (slB r ((nwT d).s + 1))
theorem nw_fit {l : List Nat} {r : Rec} {s : Int} {k : Nat} (h : nw l = some ((r, s), k)) : Fit r s ∧ k < 2 ∧ say (slt l k) = some (r, s) := by
  unfold nw nwo at h
  split at h
  · cases h
  · rename_i x e1 e2
    cases h
    exact ⟨(say_some e1).1, by omega, e1⟩
  · rename_i x e1 e2
    cases h
    exact ⟨(say_some e2).1, by omega, e2⟩
  · rename_i x y e1 e2
    split at h
    · cases h
      exact ⟨(say_some e2).1, by omega, e2⟩
    · cases h
      exact ⟨(say_some e1).1, by omega, e1⟩
theorem nwT_s (d : Dst) : 0 ≤ (nwT d).s ∧ (nwT d).s ≤ 1099511627776 := by
  unfold nwT
  split
  · exact ⟨Int.le_refl _, by show (0 : Int) ≤ _; omega⟩
  · cases h : nw d.l with
    | none => exact ⟨Int.le_refl _, by show (0 : Int) ≤ _; omega⟩
    | some x =>
      obtain ⟨⟨r, s⟩, k⟩ := x
      obtain ⟨⟨_, h1, h2⟩, _⟩ := nw_fit h
      exact ⟨by show 0 ≤ s; omega, h2⟩
theorem nwT_a (d : Dst) : (nwT d).a = 0 ∨ (nwT d).a = 1 := by
  unfold nwT
  split
  · exact .inl rfl
  · cases h : nw d.l with
    | none => exact .inl rfl
    | some x =>
      obtain ⟨⟨r, s⟩, k⟩ := x
      obtain ⟨_, h1, _⟩ := nw_fit h
      show (k : Int) = 0 ∨ (k : Int) = 1
      omega
theorem nwT_e (d : Dst) : (nwT d).e = 100 ↔ d.off = true := by
  unfold nwT
  split
  · rename_i h
    exact ⟨fun _ => h, fun _ => rfl⟩
  · rename_i h
    refine ⟨fun q => ?_, fun q => absurd q h⟩
    cases hh : nw d.l with
    | none => rw [hh] at q; exact absurd q (by decide)
    | some x => obtain ⟨⟨r, s⟩, k⟩ := x; rw [hh] at q; exact absurd (show (0 : Int) = 100 from q) (by decide)
set_option maxHeartbeats 4000000 in
set_option maxRecDepth 100000 in
theorem save_any (h : Dk W p d) (r : Rec) (hf : Fz d) (hw0 : 0 ≤ d.writes) (hw : d.writes ≤ 4611686018427387903) : Calls Try.prog 42 #[.pointer (some ⟨p, 0, none⟩), rV r] W fun e w' => e = .returned (.int .i64 (dSv d r).1) ∧ Dk w' p (dSv d r).2 ∧ Tp p W w' := by
  have hmay := mayBe_any r
  unfold rV at hmay ⊢
  obtain ⟨w1, hw1⟩ : ∃ w1, W.alloc (.cells #[.int .i64 r.li, .int .i64 r.ro, .int .i64 r.ta] 36) = w1 := ⟨_, rfl⟩
  have hb1 : Below W.heap.size W w1 := by rw [← hw1]; exact al1' _ _
  have hg1 : w1.heap[W.heap.size]? = some (.cells #[.int .i64 r.li, .int .i64 r.ro, .int .i64 r.ta] 36 (0, 0)) := by rw [← hw1]; exact new_at rfl
  by_cases hm : May r
  case neg =>
    rw [dSv, if_pos hm]
    rw [decide_eq_false hm] at hmay
    go_enter Try.func42, Try.ntmps42
    go_wp2_with (first | (refine wpList_load_row rfl 36 (.tmp 3) rfl W.heap.size rfl 36 _ (0, 0) _ hg1 undR rfl infoR ?_) | (go_at_call 56; (with_reducible refine (hmay _).mono ?_); rintro e u1 ⟨rfl, hu1⟩))
    go_ret
    exact ⟨rfl, h.carry (bel2 hb1 hu1), Tp.of _ (bel2 hb1 hu1)⟩
  rw [dSv, if_neg (fun q => q hm)]
  rw [decide_eq_true hm] at hmay
  have hne := fun V hV => newest_any (W := V) (h.carry hV)
  have hoe := nwT_e d
  have hts := nwT_s d
  have hta := nwT_a d
  obtain ⟨t, ht⟩ : ∃ t, nwT d = t := ⟨_, rfl⟩
  rw [ht] at hne hoe hts hta ⊢
  clear ht
  obtain ⟨r', s, a, er⟩ := t
  unfold ntV eV at hne
  dsimp only at hne hoe hts hta ⊢
  by_cases hof : d.off = true
  case pos =>
    obtain rfl : er = 100 := hoe.2 hof
    rw [if_pos hof]
    clear hoe hts hta
    go_enter Try.func42, Try.ntmps42
    go_wp2_with (first | (refine wpList_load_row rfl 36 (.tmp 3) rfl W.heap.size rfl 36 _ (0, 0) _ hg1 undR rfl infoR ?_) | (go_at_call 56; (with_reducible refine (hmay _).mono ?_); rintro e u1 ⟨rfl, hu1⟩; have hn1 := hne _ (bel2 hb1 hu1)) | (go_at_call 41; (with_reducible refine hn1.mono ?_); rintro e u2 ⟨rfl, hu2⟩))
    go_ret
    exact ⟨rfl, h.carry (bel2 (bel2 (bel2 hb1 hu1) hu2) (al1' _ _)), Tp.of _ (bel2 (bel2 (bel2 hb1 hu1) hu2) (al1' _ _))⟩
  rw [if_neg hof]
  have her : ¬ er = 100 := fun q => hof (hoe.1 q)
  clear hoe hof
  by_cases hse : s = 1099511627776
  case pos =>
    rw [if_pos hse]
    subst hse
    go_enter Try.func42, Try.ntmps42
    go_wp2_with (first | (refine wpList_load_row rfl 36 (.tmp 3) rfl W.heap.size rfl 36 _ (0, 0) _ hg1 undR rfl infoR ?_) | (go_at_call 56; (with_reducible refine (hmay _).mono ?_); rintro e u1 ⟨rfl, hu1⟩; have hn1 := hne _ (bel2 hb1 hu1)) | (go_at_call 41; (with_reducible refine hn1.mono ?_); rintro e u2 ⟨rfl, hu2⟩))
    go_ret
    exact ⟨rfl, h.carry (bel2 (bel2 (bel2 hb1 hu1) hu2) (al1' _ _)), Tp.of _ (bel2 (bel2 (bel2 hb1 hu1) hu2) (al1' _ _))⟩
  rw [if_neg hse]
  have hfit : Fit r (s + 1) := ⟨hm, by omega, by omega⟩
  have him := eimage_fit hfit
  have hwi : IntKind.i64.wrap (s + 1) = s + 1 := i64_id _ (by omega) (by omega)
  have hlo : -9223372036854775808 ≤ s + 1 := by omega
  have hhi : s + 1 ≤ 9223372036854775807 := by omega
  unfold eV at him
  have hwr := fun V (q : Nat) (hq : q < 2) (hV : Below W.heap.size W V) => swrite_any (h.carry hV) q hq (slB r (s + 1)) (slB_len _ _) (slB_byt _ _) hf hw0 hw
  obtain ⟨S, hS⟩ : ∃ S, slB r (s + 1) = S := ⟨_, rfl⟩
  rw [hS] at him hwr ⊢
  clear hS hfit hts
  by_cases hz : er = 0
  case neg =>
    rw [if_neg hz]
    change Calls Try.prog _ _ W fun e w' => e = .returned (.int .i64 (dW2 d 0 S).1) ∧ Dk w' p (dW2 d 0 S).2 ∧ Tp p W w'
    go_enter Try.func42, Try.ntmps42
    go_wp2_with (first | (refine wpList_load_row rfl 36 (.tmp 3) rfl W.heap.size rfl 36 _ (0, 0) _ hg5 undR rfl infoR ?_) | (refine wpList_load_row rfl 36 (.tmp 3) rfl W.heap.size rfl 36 _ (0, 0) _ hg1 undR rfl infoR ?_) | (go_at_call 56; (with_reducible refine (hmay _).mono ?_); rintro e u1 ⟨rfl, hu1⟩; have hn1 := hne _ (bel2 hb1 hu1)) | (go_at_call 41; (with_reducible refine hn1.mono ?_); rintro e u2 ⟨rfl, hu2⟩; obtain ⟨u3, hu3⟩ : ∃ u3, u2.alloc (.cells #[.int .i64 r'.li, .int .i64 r'.ro, .int .i64 r'.ta, .int .i64 s] 84) = u3 := ⟨_, rfl⟩; have hb3 := bel2 (bel2 (bel2 hb1 hu1) hu2) (al1' u2 (.cells #[.int .i64 r'.li, .int .i64 r'.ro, .int .i64 r'.ta, .int .i64 s] 84)); rw [hu3] at hb3; have hx3 : u3.heap[u2.heap.size]? = some (.cells #[.int .i64 r'.li, .int .i64 r'.ro, .int .i64 r'.ta, .int .i64 s] 84 (0, 0)) := (by rw [← hu3]; exact new_at rfl); have cx : u3.cell? ⟨u2.heap.size, 3, none⟩ = some (.int .i64 s) := (by rw [cell_at hx3]; rfl); have hg5 : u3.heap[W.heap.size]? = some (.cells #[.int .i64 r.li, .int .i64 r.ro, .int .i64 r.ta] 36 (0, 0)) := (by rw [← hu3]; exact old_at ((hu2.block _ (lt_at ((hu1.block _ (lt_at hg1)).trans hg1))).trans ((hu1.block _ (lt_at hg1)).trans hg1)))) | (go_at_call 58; (with_reducible refine (him _).mono ?_); rintro e u4 ⟨rfl, hu4⟩; have hb4 := bel2 hb3 hu4; have hwr4 : Calls Try.prog 57 #[.pointer (some ⟨p, 0, none⟩), .int .i64 0, .agg (cB S).toArray] u4 (fun e w' => e = .returned (.int .i64 (dW2 d 0 S).1) ∧ Dk w' p (dW2 d 0 S).2 ∧ Tp p u4 w') := hwr u4 0 (by omega) hb4) | (go_at_call 57; (with_reducible refine hwr4.mono ?_); rintro e u5 ⟨rfl, hd5, ht5⟩))
    go_ret
    exact ⟨rfl, hd5, (Tp.of p hb4).trans ht5⟩
  subst hz
  rw [if_pos rfl]
  rcases hta with rfl | rfl
  · change Calls Try.prog _ _ W fun e w' => e = .returned (.int .i64 (dW2 d 1 S).1) ∧ Dk w' p (dW2 d 1 S).2 ∧ Tp p W w'
    go_enter Try.func42, Try.ntmps42
    go_wp2_with (first | (refine wpList_load_row rfl 36 (.tmp 3) rfl W.heap.size rfl 36 _ (0, 0) _ hg5 undR rfl infoR ?_) | (refine wpList_load_row rfl 36 (.tmp 3) rfl W.heap.size rfl 36 _ (0, 0) _ hg1 undR rfl infoR ?_) | (go_at_call 56; (with_reducible refine (hmay _).mono ?_); rintro e u1 ⟨rfl, hu1⟩; have hn1 := hne _ (bel2 hb1 hu1)) | (go_at_call 41; (with_reducible refine hn1.mono ?_); rintro e u2 ⟨rfl, hu2⟩; obtain ⟨u3, hu3⟩ : ∃ u3, u2.alloc (.cells #[.int .i64 r'.li, .int .i64 r'.ro, .int .i64 r'.ta, .int .i64 s] 84) = u3 := ⟨_, rfl⟩; have hb3 := bel2 (bel2 (bel2 hb1 hu1) hu2) (al1' u2 (.cells #[.int .i64 r'.li, .int .i64 r'.ro, .int .i64 r'.ta, .int .i64 s] 84)); rw [hu3] at hb3; have hx3 : u3.heap[u2.heap.size]? = some (.cells #[.int .i64 r'.li, .int .i64 r'.ro, .int .i64 r'.ta, .int .i64 s] 84 (0, 0)) := (by rw [← hu3]; exact new_at rfl); have cx : u3.cell? ⟨u2.heap.size, 3, none⟩ = some (.int .i64 s) := (by rw [cell_at hx3]; rfl); have hg5 : u3.heap[W.heap.size]? = some (.cells #[.int .i64 r.li, .int .i64 r.ro, .int .i64 r.ta] 36 (0, 0)) := (by rw [← hu3]; exact old_at ((hu2.block _ (lt_at ((hu1.block _ (lt_at hg1)).trans hg1))).trans ((hu1.block _ (lt_at hg1)).trans hg1)))) | (go_at_call 58; (with_reducible refine (him _).mono ?_); rintro e u4 ⟨rfl, hu4⟩; have hb4 := bel2 hb3 hu4; have hwr4 : Calls Try.prog 57 #[.pointer (some ⟨p, 0, none⟩), .int .i64 1, .agg (cB S).toArray] u4 (fun e w' => e = .returned (.int .i64 (dW2 d 1 S).1) ∧ Dk w' p (dW2 d 1 S).2 ∧ Tp p u4 w') := hwr u4 1 (by omega) hb4) | (go_at_call 57; (with_reducible refine hwr4.mono ?_); rintro e u5 ⟨rfl, hd5, ht5⟩))
    go_ret
    exact ⟨rfl, hd5, (Tp.of p hb4).trans ht5⟩
  · change Calls Try.prog _ _ W fun e w' => e = .returned (.int .i64 (dW2 d 0 S).1) ∧ Dk w' p (dW2 d 0 S).2 ∧ Tp p W w'
    go_enter Try.func42, Try.ntmps42
    go_wp2_with (first | (refine wpList_load_row rfl 36 (.tmp 3) rfl W.heap.size rfl 36 _ (0, 0) _ hg5 undR rfl infoR ?_) | (refine wpList_load_row rfl 36 (.tmp 3) rfl W.heap.size rfl 36 _ (0, 0) _ hg1 undR rfl infoR ?_) | (go_at_call 56; (with_reducible refine (hmay _).mono ?_); rintro e u1 ⟨rfl, hu1⟩; have hn1 := hne _ (bel2 hb1 hu1)) | (go_at_call 41; (with_reducible refine hn1.mono ?_); rintro e u2 ⟨rfl, hu2⟩; obtain ⟨u3, hu3⟩ : ∃ u3, u2.alloc (.cells #[.int .i64 r'.li, .int .i64 r'.ro, .int .i64 r'.ta, .int .i64 s] 84) = u3 := ⟨_, rfl⟩; have hb3 := bel2 (bel2 (bel2 hb1 hu1) hu2) (al1' u2 (.cells #[.int .i64 r'.li, .int .i64 r'.ro, .int .i64 r'.ta, .int .i64 s] 84)); rw [hu3] at hb3; have hx3 : u3.heap[u2.heap.size]? = some (.cells #[.int .i64 r'.li, .int .i64 r'.ro, .int .i64 r'.ta, .int .i64 s] 84 (0, 0)) := (by rw [← hu3]; exact new_at rfl); have cx : u3.cell? ⟨u2.heap.size, 3, none⟩ = some (.int .i64 s) := (by rw [cell_at hx3]; rfl); have hg5 : u3.heap[W.heap.size]? = some (.cells #[.int .i64 r.li, .int .i64 r.ro, .int .i64 r.ta] 36 (0, 0)) := (by rw [← hu3]; exact old_at ((hu2.block _ (lt_at ((hu1.block _ (lt_at hg1)).trans hg1))).trans ((hu1.block _ (lt_at hg1)).trans hg1)))) | (go_at_call 58; (with_reducible refine (him _).mono ?_); rintro e u4 ⟨rfl, hu4⟩; have hb4 := bel2 hb3 hu4; have hwr4 : Calls Try.prog 57 #[.pointer (some ⟨p, 0, none⟩), .int .i64 0, .agg (cB S).toArray] u4 (fun e w' => e = .returned (.int .i64 (dW2 d 0 S).1) ∧ Dk w' p (dW2 d 0 S).2 ∧ Tp p u4 w') := hwr u4 0 (by omega) hb4) | (go_at_call 57; (with_reducible refine hwr4.mono ?_); rintro e u5 ⟨rfl, hd5, ht5⟩))
    go_ret
    exact ⟨rfl, hd5, (Tp.of p hb4).trans ht5⟩
end
end Go.Proofs.Ytjleggnkacmbbaa
