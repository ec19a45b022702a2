/- Books that have no node: what their calls answer. -/
import Derived.Test.YtddblfffjhoiaaaBkg
import Derived.Test.YtddblfffjhoiaaaBku
namespace Go.Proofs.Ytddblfffjhoiaaa
open Go.RowKit Go.Shelf Go.Lib
attribute [local go_sem] Oper.semAt_some

/-- A book that has no node: nil, or a zero one. -/
def EB (W : World) (v : Value) : Prop := v = .pointer none ∨ ∃ p, v = .pointer (some ⟨p, 0, none⟩) ∧ W.heap[p]? = some (.cells #[.slice none 0 0] 66 (0, 0))
theorem EB.carry {W V : World} {v : Value} (h : EB W v) (hb : Below W.heap.size W V) : EB V v := by
  rcases h with h | ⟨p, rfl, hp⟩
  · exact .inl h
  · exact .inr ⟨p, rfl, (hb.block _ (lt_at hp)).trans hp⟩
set_option maxHeartbeats 1000000 in
theorem ekept_any {w : World} {v : Value} (h : EB w v) : Calls Try.prog 34 #[v] w fun e w' => e = .returned (.slice none 0 0) ∧ Below w.heap.size w w' := by
  rcases h with rfl | ⟨p, rfl, hp⟩
  · go_enter Try.func34, Try.ntmps34
    go_wp2
    go_ret
    exact ⟨rfl, Below.refl _ _⟩
  · have c0 := cell_at hp 0
    simp at c0
    go_enter Try.func34, Try.ntmps34
    go_wp2
    go_ret
    exact ⟨rfl, Below.refl _ _⟩
set_option maxHeartbeats 1000000 in
theorem esize_any {w : World} {v : Value} (h : EB w v) : Calls Try.prog 23 #[v] w fun e w' => e = .returned (.int .i64 0) ∧ Below w.heap.size w w' := by
  have hk := ekept_any h
  go_enter Try.func23, Try.ntmps23
  go_wp2_with (go_at_call 34; (with_reducible refine hk.mono ?_); rintro e u1 ⟨rfl, hb1⟩)
  go_ret
  exact ⟨rfl, hb1⟩
set_option maxHeartbeats 1000000 in
theorem etwin_nil (w : World) : Calls Try.prog 50 #[.pointer none] w fun e w' => e = .returned (.pointer none) ∧ Below w.heap.size w w' := by
  go_enter Try.func50, Try.ntmps50
  go_wp2
  go_ret
  exact ⟨rfl, Below.refl _ _⟩
set_option maxHeartbeats 1000000 in
theorem etwin_any {w : World} {v : Value} (h : EB w v) : Calls Try.prog 50 #[v] w fun e w' => ∃ v', e = .returned v' ∧ EB w' v' ∧ Below w.heap.size w w' := by
  rcases h with rfl | ⟨p, rfl, hp⟩
  · exact (etwin_nil w).mono fun e w' h => ⟨_, h.1, .inl rfl, h.2⟩
  · have hz := esize_any (w := w.alloc (.cells #[.slice none 0 0] 66)) (v := .pointer (some ⟨p, 0, none⟩)) (.inr ⟨p, rfl, old_at hp⟩)
    go_enter Try.func50, Try.ntmps50
    go_wp2_with (go_at_call 23; (with_reducible refine hz.mono ?_); rintro e u1 ⟨rfl, hb1⟩)
    go_ret
    exact ⟨_, rfl, .inr ⟨_, rfl, (hb1.block _ (by simp)).trans (new_at rfl)⟩, bel2 (al1 _ _) hb1⟩
set_option maxHeartbeats 1000000 in
theorem eall_any {w : World} {v : Value} (h : EB w v) : Calls Try.prog 29 #[v] w fun e w' => ∃ bx, e = .returned (.func (.func 51) #[] #[.pointer (some ⟨bx, 0, none⟩)]) ∧ w.heap.size ≤ bx ∧ w'.heap[bx]? = some (.cells #[.slice none 0 0] 22 (0, 0)) ∧ Below w.heap.size w w' := by
  have ht := etwin_any h
  go_enter Try.func29, Try.ntmps29
  go_wp2_with (first | (go_at_call 50; (with_reducible refine ht.mono ?_); rintro e u1 ⟨v2, rfl, he2, hb2⟩; have hk := ekept_any he2) | (go_at_call 34; (with_reducible refine hk.mono ?_); rintro e u2 ⟨rfl, hb3⟩))
  go_ret
  have hbb := bel2 hb2 hb3
  exact ⟨u2.heap.size, rfl, hbb.size, new_at rfl, hbb.alloc hbb.size _⟩
set_option maxHeartbeats 1000000 in
set_option maxRecDepth 100000 in
theorem all0_seq (bx : Nat) (w : World) (hs : w.heap[bx]? = some (.cells #[.slice none 0 0] 22 (0, 0))) :
    SeqE Try.prog (fun _ => True) 51 #[.pointer (some ⟨bx, 0, none⟩)] (fun x : N3 => #[nt x.1 x.2.1 x.2.2]) bx 0 [] w := by
  intro ll J Jx W hW hJ hJx hE hY h0
  have hb0 : W.heap[bx]? = some (.cells #[.slice none 0 0] 22 (0, 0)) := (hW.block _ (lt_at hs)).trans hs
  have c0 := cell_at hb0 0
  simp at c0
  clear hE hY
  refine callsIn_of_wp Try.func51 rfl trivial ?_ rfl
  simp only [Try.ntmps51, List.size_toArray, List.length_cons, List.length_nil, Nat.reduceAdd, Nat.reduceSub, Array.replicate_succ, Array.replicate_zero, List.push_toArray, List.append_toArray, List.nil_append, List.cons_append]
  gi_wp2
  refine wpIn_loop_once ?_
  gi_wp2
  go_end0
  exact ⟨⟨_, rfl⟩, .inl h0⟩
theorem not_pfx {pre : List N3} {x : N3} (h : pre ++ [x] <+: []) : False := by
  have := h.length_le
  simp at this
set_option maxHeartbeats 4000000 in
set_option maxRecDepth 100000 in
theorem egl_in {w : World} {v : Value} (h : EB w v) : CallsIn Fence.wide 0 Try.prog 40 #[v, .func (.func 41) #[] #[]] w fun e w' => e = .returned (.slice none 0 0) ∧ Below w.heap.size w w' := by
  have hal := eall_any ((h.carry (al1 w (.cells #[.func (.func 41) #[] #[]] 61))).carry (al1 _ (.cells #[.slice none 0 0] 22)))
  clear h
  refine callsIn_of_wp_marks Try.func40 rfl trivial ?_ rfl
  simp only [Try.ntmps40, List.size_toArray, List.length_cons, List.length_nil, Nat.reduceAdd, Nat.reduceSub, Array.replicate_succ, Array.replicate_zero, List.push_toArray, List.append_toArray, List.nil_append, List.cons_append]
  gi_wp2
  with_reducible (refine And.intro (wfn _) (And.intro wdep ?_))
  refine (callsIn_wide.2 hal).mono ?_
  rintro e W0 ⟨bx, rfl, hbx, hsb, hb⟩
  have b0 : Below w.heap.size w W0 := bel2 (al2 _ _ _) hb
  have v0 : Boxed W0 (w.heap.size + 1) 22 (.slice none 0 0) := (hb.block _ (by simp)).trans (new_at (by simp))
  have hgl := lt_at hsb
  have hz : w.heap.size + 2 ≤ W0.heap.size := by simp at hbx; omega
  clear hal hb
  gi_wp2
  refine wp_rangeE (kb := 0) (gf := 51) (lb := #[.pointer (some ⟨bx, 0, none⟩)]) rfl (enters_of Try.func51 (by kernel_rfl) rfl)
    (all0_seq bx _ hsb) hgl (fun _ => rfl)
    (fun _ W => Boxed W (w.heap.size + 1) 22 (.slice none 0 0) ∧ Below w.heap.size w W)
    (fun _ _ _ => False)
    (OwnFrom.and ((boxed_own _ _ (fun _ : List N3 => (.slice none 0 0))).from _) (ownFrom_below (Nat.le_refl _) (by omega)))
    (fun _ _ _ _ _ hs _ _ => hs)
    ⟨v0, b0⟩ (fun _ _ _ => trivial) (fun _ _ _ => True) (fun _ _ _ _ _ _ _ _ _ => trivial) ?assign ?body ?done ?stop
  case assign =>
    rintro l2 pre ⟨o, t, k⟩ W K ⟨hv, hb⟩ hsz hK
    unfold nt
    gi_wp2
    exact hK _ _ (Kept.below (al1 _ _) (by omega) (by omega)) ⟨hv.alloc _, hb.alloc hb.size _⟩ trivial
  case body =>
    rintro l2 pre x a' W _ _ _ hpr
    exact (not_pfx hpr).elim
  case done =>
    rintro W ⟨hv, hb⟩ hK
    have hcv := hv.cell
    gi_wp2
    refine ⟨by simp, .inl ⟨_, _, rfl, run_takeDeferred hK, ?_⟩⟩
    exact ⟨.slice none 0 0, by simp [results, Try.results40, go_sem], rfl, below_taken _ hb (by omega)⟩
  case stop =>
    rintro c pre W _ h _
    exact h.elim
set_option maxHeartbeats 1000000 in
theorem elist_any {w : World} {v : Value} (h : EB w v) : Calls Try.prog 19 #[v] w fun e w' => e = .returned (.slice none 0 0) ∧ Below w.heap.size w w' := by
  have hg := callsIn_wide.1 (egl_in h)
  rcases h with rfl | ⟨p, rfl, hp⟩
  all_goals
    go_enter Try.func19, Try.ntmps19
    go_wp2_with (go_at_call 40; (with_reducible refine hg.mono ?_); rintro e u1 ⟨rfl, hb1⟩)
    go_ret
    exact ⟨rfl, hb1⟩
set_option maxHeartbeats 4000000 in
set_option maxRecDepth 100000 in
theorem egn_in {w : World} {v : Value} (h : EB w v) : CallsIn Fence.wide 0 Try.prog 40 #[v, .func (.func 55) #[] #[]] w fun e w' => e = .returned (.slice none 0 0) ∧ Below w.heap.size w w' := by
  have hal := eall_any ((h.carry (al1 w (.cells #[.func (.func 55) #[] #[]] 61))).carry (al1 _ (.cells #[.slice none 0 0] 22)))
  clear h
  refine callsIn_of_wp_marks Try.func40 rfl trivial ?_ rfl
  simp only [Try.ntmps40, List.size_toArray, List.length_cons, List.length_nil, Nat.reduceAdd, Nat.reduceSub, Array.replicate_succ, Array.replicate_zero, List.push_toArray, List.append_toArray, List.nil_append, List.cons_append]
  gi_wp2
  with_reducible (refine And.intro (wfn _) (And.intro wdep ?_))
  refine (callsIn_wide.2 hal).mono ?_
  rintro e W0 ⟨bx, rfl, hbx, hsb, hb⟩
  have b0 : Below w.heap.size w W0 := bel2 (al2 _ _ _) hb
  have v0 : Boxed W0 (w.heap.size + 1) 22 (.slice none 0 0) := (hb.block _ (by simp)).trans (new_at (by simp))
  have hgl := lt_at hsb
  have hz : w.heap.size + 2 ≤ W0.heap.size := by simp at hbx; omega
  clear hal hb
  gi_wp2
  refine wp_rangeE (kb := 0) (gf := 51) (lb := #[.pointer (some ⟨bx, 0, none⟩)]) rfl (enters_of Try.func51 (by kernel_rfl) rfl)
    (all0_seq bx _ hsb) hgl (fun _ => rfl)
    (fun _ W => Boxed W (w.heap.size + 1) 22 (.slice none 0 0) ∧ Below w.heap.size w W)
    (fun _ _ _ => False)
    (OwnFrom.and ((boxed_own _ _ (fun _ : List N3 => (.slice none 0 0))).from _) (ownFrom_below (Nat.le_refl _) (by omega)))
    (fun _ _ _ _ _ hs _ _ => hs)
    ⟨v0, b0⟩ (fun _ _ _ => trivial) (fun _ _ _ => True) (fun _ _ _ _ _ _ _ _ _ => trivial) ?assign ?body ?done ?stop
  case assign =>
    rintro l2 pre ⟨o, t, k⟩ W K ⟨hv, hb⟩ hsz hK
    unfold nt
    gi_wp2
    exact hK _ _ (Kept.below (al1 _ _) (by omega) (by omega)) ⟨hv.alloc _, hb.alloc hb.size _⟩ trivial
  case body =>
    rintro l2 pre x a' W _ _ _ hpr
    exact (not_pfx hpr).elim
  case done =>
    rintro W ⟨hv, hb⟩ hK
    have hcv := hv.cell
    gi_wp2
    refine ⟨by simp, .inl ⟨_, _, rfl, run_takeDeferred hK, ?_⟩⟩
    exact ⟨.slice none 0 0, by simp [results, Try.results40, go_sem], rfl, below_taken _ hb (by omega)⟩
  case stop =>
    rintro c pre W _ h _
    exact h.elim
set_option maxHeartbeats 1000000 in
theorem enews_any {w : World} {v : Value} (h : EB w v) : Calls Try.prog 39 #[v] w fun e w' => e = .returned (.slice none 0 0) ∧ Below w.heap.size w w' := by
  have hg := callsIn_wide.1 (egn_in h)
  rcases h with rfl | ⟨p, rfl, hp⟩
  all_goals
    go_enter Try.func39, Try.ntmps39
    go_wp2_with (go_at_call 40; (with_reducible refine hg.mono ?_); rintro e u1 ⟨rfl, hb1⟩)
    go_ret
    exact ⟨rfl, hb1⟩
set_option maxHeartbeats 1000000 in
theorem ssame_any {w : World} {v v2 : Value} (l m : List N3) (ad ad2 : Option Addr) (c c2 : Nat) (h1 : ∀ W, Below w.heap.size w W → Calls Try.prog 34 #[v] W fun e w' => e = .returned (.slice ad l.length c) ∧ Below W.heap.size W w') (h2 : ∀ W, Below w.heap.size w W → Calls Try.prog 34 #[v2] W fun e w' => e = .returned (.slice ad2 m.length c2) ∧ Below W.heap.size W w') (hr : RdN w ad l) (hr2 : RdN w ad2 m) (hl : l.length ≤ 6000000000000) : Calls Try.prog 14 #[v, v2] w fun e w' => e = .returned (.bool (decide (l = m))) ∧ Below w.heap.size w w' := by
  have k1 := h1 w (Below.refl _ _)
  have HE : Hid (∀ W, Below w.heap.size w W → Calls Try.prog 33 #[.slice ad l.length c, .slice ad2 m.length c2] W fun e w' => e = .returned (.bool (decide (l = m))) ∧ Below W.heap.size W w') := fun W hb => equal_any _ _ _ _ l m W (hr.carry hb) (hr2.carry hb) hl
  have HK : Hid (∀ W, Below w.heap.size w W → Calls Try.prog 34 #[v2] W fun e w' => e = .returned (.slice ad2 m.length c2) ∧ Below W.heap.size W w') := h2
  generalize decide (l = m) = R at *
  clear hl h1 h2 hr hr2
  go_enter Try.func14, Try.ntmps14
  go_wp2_with (first | (go_at_call 34; first | (have hz := k1; (with_reducible refine k1.mono ?_); rintro e u1 ⟨rfl, hb1⟩; clear k1 hz; have k2 := HK.out u1 hb1) | (have hz := k2; (with_reducible refine k2.mono ?_); rintro e u2 ⟨rfl, hb2⟩; have k3 := HE.out u2 (bel2 hb1 hb2))) | (go_at_call 33; (with_reducible refine k3.mono ?_); rintro e u3 ⟨rfl, hb3⟩))
  go_ret
  exact ⟨rfl, bel2 (bel2 hb1 hb2) hb3⟩
theorem rd_nil (W : World) : RdN W none [] := fun h => absurd rfl h
set_option maxHeartbeats 4000000 in
set_option maxRecDepth 100000 in
theorem etake_any {w : World} {v : Value} (h : EB w v) (o t k : Int) : Calls Try.prog 16 #[v, nt o t k] w fun e w' => e = .returned (.tuple #[.bool false, .int .i64 50]) ∧ Below w.heap.size w w' := by
  have hmx : Try.prog.follows .mixedOrders = true := by kernel_rfl
  have hva := valid_any 0 o t k
  rw [show vl 0 o t k = false from decide_eq_false (by omega)] at hva
  have hj0 : NB (w.alloc (.cells #[.int .i64 o, .int .i64 t, .int .i64 k] 32)) w.heap.size o t k ∧ EB (w.alloc (.cells #[.int .i64 o, .int .i64 t, .int .i64 k] 32)) v ∧ Below w.heap.size w (w.alloc (.cells #[.int .i64 o, .int .i64 t, .int .i64 k] 32)) := ⟨NB.new _ _ _ _, h.carry (al1 _ _), al1 _ _⟩
  clear h
  go_enter Try.func16, Try.ntmps16
  unfold nt
  go_wp2
  rename_i Q0 K0 hK
  refine wp_region_any hmx ?_
  refine wpAny_pure (fun i__ => ([v, (.int .i64 0), (nt o t k), (.bool false), (.bool true)] : List Value).getD i__ undef) (fun V => NB V w.heap.size o t k ∧ EB V v ∧ Below w.heap.size w V) (by kernel_rfl) ⟨hj0.1.carry (Below.refl _ _).drew, hj0.2.1.carry (Below.refl _ _).drew, hj0.2.2.drew⟩ ?_ ?_
  · refine (stepsFrom_cons ?_ (stepsFrom_cons ?_ (stepsFrom_cons ?_ (stepsFrom_cons ?_ (stepsFrom_cons ?_ trivial)))))
    · exact step_move rfl trivial _ rfl (by kernel_rfl)
    · exact step_call rfl trivial 23 _ _ [v] rfl (by kernel_rfl) (enters_of Try.func23 (by kernel_rfl) rfl) (fun w hw => (esize_any hw.2.1).mono (by rintro e w' ⟨rfl, hb⟩; exact ⟨rfl, hw.1.carry hb, hw.2.1.carry hb, bel2 hw.2.2 hb⟩))
    · exact step_load rfl trivial _ _ _ rfl rfl (fun w hw => load_nt hw.1)
    · exact step_call rfl trivial 37 _ _ [(.int .i64 0), (nt o t k)] rfl (by kernel_rfl) (enters_of Try.func37 (by kernel_rfl) rfl) (fun w hw => (hva w).mono (by rintro e w' ⟨rfl, hb⟩; exact ⟨rfl, hw.1.carry hb, hw.2.1.carry hb, bel2 hw.2.2 hb⟩))
    · exact step_unOp rfl trivial _ _ _ _ rfl rfl (fun w hw => un_not false w)
  intro W hW
  first | refine hK _ _ ?_ | refine (‹∀ (a : Act) (w : World), Code.wp Try.prog _ _ a w → _›) _ _ ?_
  simp only [finL, List.getD_cons_zero, List.getD_cons_succ, Nat.zero_add, Nat.reduceAdd, List.setIfInBounds_toArray, List.set_cons_zero, List.set_cons_succ]
  obtain ⟨hn, hk, hb⟩ := hW
  clear hj0 hK hva
  go_wp2
  go_ret2
  exact ⟨rfl, hb⟩
set_option maxHeartbeats 4000000 in
theorem eat_any {w : World} {v : Value} (h : EB w v) (id : Int) : Calls Try.prog 12 #[v, .int .i64 id] w fun e w' => e = .returned (.tuple #[.agg #[.int .i64 0, .int .i64 0, .int .i64 0], .int .i64 30]) ∧ Below w.heap.size w w' := by
  have hn1 : NB (w.alloc (.cells #[.int .i64 0, .int .i64 0, .int .i64 0] 32)) w.heap.size 0 0 0 := NB.new _ _ _ _
  have hb1 := al1 w (.cells #[.int .i64 0, .int .i64 0, .int .i64 0] 32)
  have hsz := esize_any (h.carry hb1)
  clear h
  by_cases h0 : id < 0
  · have c0 := hn1.c0
    have c1 := hn1.c1
    have c2 := hn1.c2
    have z0 := hn1.thaw 0
    have z1 := hn1.thaw 1
    have z2 := hn1.thaw 2
    go_enter Try.func12, Try.ntmps12
    go_wp2
    exact retNt rfl rfl rfl rfl hn1 ⟨rfl, hb1⟩
  · have hge : 0 ≤ id := by omega
    go_enter Try.func12, Try.ntmps12
    go_wp2_with (go_at_call 23; (with_reducible refine hsz.mono ?_); rintro e u1 ⟨rfl, hb2⟩; have hn2 := hn1.carry hb2; have c0 := hn2.c0; have c1 := hn2.c1; have c2 := hn2.c2; have z0 := hn2.thaw 0; have z1 := hn2.thaw 1; have z2 := hn2.thaw 2)
    exact retNt rfl rfl rfl rfl (NB.set hn2 _ _ _) ⟨rfl, below3 (bel2 hb1 hb2) (Nat.le_refl _) _ _ _⟩
end Go.Proofs.Ytddblfffjhoiaaa
