/- spread.Absorb: what it answers, at every book and list. -/
import Derived.Test.YtddblfffjhoiaaaJnJ0
import Derived.Test.YtddblfffjhoiaaaBkg
import Derived.Test.YtddblfffjhoiaaaBku
namespace Go.Proofs.Ytddblfffjhoiaaa
open Go.RowKit Go.Shelf Go.Lib
attribute [local go_sem] Oper.semAt_some

/-- The book behind Absorb. -/
def abs (l : List N3) (self : Int) (m : List N3) : List N3 := if m.all (vlx l.length) = true then mrg l (m.filter (nm self)) else l
/-- What Absorb tells. -/
def abr (l : List N3) (self : Int) (m : List N3) : Nat := if m.all (vlx l.length) = true then mrs l (m.filter (nm self)) else 0
theorem abs_bok {l : List N3} (hb : Bok l) (self : Int) (m : List N3) : Bok (abs l self m) := by
  unfold abs
  split
  · exact mrg_bok hb _
  · exact hb
theorem abs_len {l : List N3} (hb : Bok l) (self : Int) (m : List N3) : (abs l self m).length = l.length := by
  unfold abs
  split
  · exact mrg_len hb _
  · rfl
set_option maxHeartbeats 4000000 in
set_option maxRecDepth 100000 in
theorem absorb_any {w : World} {p g : Nat} {l : List N3} (hB : Bk w p g l) (self : Int) (ad : Option Addr) (cap : Nat) (m : List N3) (hm : RdN w ad m) (hl : m.length ≤ 1000000) : Calls Try.prog 13 #[.pointer (some ⟨p, 0, none⟩), .int .i64 self, .slice ad m.length cap] w fun e w' => e = .returned (.tuple #[sv (abr l self m), .int .i64 (if m.all (vlx l.length) = true then 0 else 50)]) ∧ Bk w' p g (abs l self m) ∧ w.grownBy w' (some g) := by
  obtain ⟨w1, hw1⟩ : ∃ w1, (w.alloc (.cells #[.int .i64 self] 3)).alloc (.cells #[.int .u32 0, .int .u32 0, .int .u32 0, .int .u32 0] 37) = w1 := ⟨_, rfl⟩
  have hb1 : Below w.heap.size w w1 := by rw [← hw1]; exact al2 _ _ _
  have hz1 : w1.heap.size = w.heap.size + 2 := by rw [← hw1]; simp
  have HZ1 : Hid (w1.heap.size = w.heap.size + 2) := hz1
  have hs1 : w1.heap[w.heap.size]? = some (.cells #[.int .i64 self] 3 (0, 0)) := by rw [← hw1]; exact old_at (new_at rfl)
  have hr1 : Holds4 w1 (w.heap.size + 1) (fun _ => 0) := by rw [← hw1]; exact new_at (by simp)
  clear hz1
  have hsz := bsize_any (hB.carry hb1)
  generalize hA : m.all (vlx l.length) = A
  have HA : Hid (m.all (vlx l.length) = A) := hA
  have HR : Hid (abr l self m = if A = true then mrs l (m.filter (nm self)) else 0) := by show _ = _; unfold abr; rw [hA]
  have HB : Hid (abs l self m = if A = true then mrg l (m.filter (nm self)) else l) := by show _ = _; unfold abs; rw [hA]
  clear hA
  cases A with
  | false =>
    go_enter Try.func13, Try.ntmps13
    go_wp2_with (first | (go_at_call 23; (with_reducible refine hsz.mono ?_); rintro e u2 ⟨rfl, hb2⟩; have hav := allv_any (l.length : Int) ad cap m u2 ((hm.carry hb1).carry hb2) (by omega); have hva : m.all (vln (l.length : Int)) = false := HA.out; rw [hva] at hav; clear hva) | (go_at_call 30; (with_reducible refine hav.mono ?_); rintro e u3 ⟨rfl, hb3⟩; have hr3 := (hr1.carry hb2).carry hb3; obtain ⟨x0, x1, x2, x3, y0, y1, y2, y3⟩ := hr3.facts))
    refine ret4t (M := 0) (x := .int .i64 50) rfl rfl rfl rfl (fin4 hr3 0) ?_
    rw [HR.out, HB.out, if_neg (by decide), if_neg (by decide)]
    have hbb : Below w.heap.size w u3 := bel2 (bel2 hb1 hb2) hb3
    have hk3 := hB.carry hbb
    have hne := hk3.ne4 hr3
    exact ⟨rfl, hk3.set_ne (M := 0) hne.1 hne.2, grown_res (M := 0) (grown_below0 hbb g) (Nat.le_succ _)⟩
  | true =>
    have HF : Hid ((m.filter (nm self)).all (vlx l.length) = true) := by
      show _ = _
      rw [List.all_eq_true]
      intro x hx
      exact List.all_eq_true.1 HA.out x (List.mem_filter.1 hx).1
    have hfl : (m.filter (nm self)).length ≤ 1000000 := Nat.le_trans (List.length_filter_le _ _) hl
    go_enter Try.func13, Try.ntmps13
    go_wp2_with (first | (go_at_call 23; (with_reducible refine hsz.mono ?_); rintro e u2 ⟨rfl, hb2⟩; have hav := allv_any (l.length : Int) ad cap m u2 ((hm.carry hb1).carry hb2) (by omega); have hva : m.all (vln (l.length : Int)) = true := HA.out; rw [hva] at hav; clear hva) | (go_at_call 30; (with_reducible refine hav.mono ?_); rintro e u3 ⟨rfl, hb3⟩; have hvs := vals_any u3 ad m.length cap) | (go_at_call 32; (with_reducible refine hvs.mono ?_); rintro e u4 ⟨rfl, hv4, hb4⟩; have hps := pass_any u4 54 31 #[.pointer (some ⟨u3.heap.size, 0, none⟩)] #[.pointer (some ⟨w.heap.size, 0, none⟩)]) | (go_at_call 28; (with_reducible refine hps.mono ?_); rintro e u5 ⟨rfl, hp5, hq5, hb5⟩; have hbb : Below w1.heap.size w1 u5 := bel2 (bel2 (bel2 hb2 hb3) hb4) hb5; have hs5 := (hbb.block _ (lt_at hs1)).trans hs1; have hm5 := (hm.carry hb1).carry hbb; have hsq := passV_seq (w := u5) m u4.heap.size (u4.heap.size + 1) u3.heap.size w.heap.size w.heap.size (nm self) _ (fun W => W.heap[w.heap.size]? = some (.cells #[.int .i64 self] 3 (0, 0))) (vals_seq m u3.heap.size w.heap.size ad cap u5 (by omega) ((hb5.block _ (lt_at hv4)).trans hv4)) hp5 (lt_at hs5) (fun x _ W hW => own1_any w.heap.size self x.1 x.2.1 x.2.2 hW); have hco := collect_any u4.heap.size (u4.heap.size + 1) hsq (lt_at hs5) (fun W hW => ⟨hm5.carry hW, (hW.block _ (lt_at hs5)).trans hs5, (hW.block _ (lt_at hq5)).trans hq5⟩) hfl; clear hsq) | (go_at_call 27; (with_reducible refine hco.mono ?_); rintro e u6 ⟨v, rfl, hmd, hb6⟩; obtain ⟨ad6, cap6, rfl, hrd, hnew⟩ := hmd.rd; have hb16 : Below w1.heap.size w1 u6 := bel2 hbb hb6; have hk6 := (hB.carry hb1).carry hb16; have hmg := merge_any hk6 ad6 cap6 (m.filter (nm self)) hrd (fun _ a e => (by have h1 := hnew a e; have h2 := hB.glt; have h3 := hbb.size; have h4 := HZ1.out; omega)) (by omega); rw [if_pos HF.out] at hmg; unfold sv at hmg) | (go_at_call 21; (with_reducible refine hmg.mono ?_); rintro e u7 ⟨rfl, hk7, hg7⟩; have hr6 := hr1.carry hb16; have hr7 := hr6.turn hk6 hg7; obtain ⟨x0, x1, x2, x3, y0, y1, y2, y3⟩ := hr7.facts))
    refine ret4t (M := mrs l (m.filter (nm self))) (x := .int .i64 0) rfl rfl rfl rfl (fin4 hr7 _) ?_
    rw [HR.out, HB.out]
    simp only [if_true]
    have hne := hk7.ne4 hr7
    exact ⟨trivial, hk7.set_ne hne.1 hne.2, grown_res (grown_then (bel2 hb1 hb16) hg7) (Nat.le_succ _)⟩
end Go.Proofs.Ytddblfffjhoiaaa
namespace Go.Proofs.Ytddblfffjhoiaaa
open Go.RowKit Go.Shelf Go.Lib
attribute [local go_sem] Oper.semAt_some

/-- A book that has no node: nil, or a zero one. -/
def EB (W : World) (v : Value) : Prop := v = .pointer none ∨ ∃ p, v = .pointer (some ⟨p, 0, none⟩) ∧ W.heap[p]? = some (.cells #[.slice none 0 0] 66 (0, 0))
theorem EB.carry {W V : World} {v : Value} (h : EB W v) (hb : Below W.heap.size W V) : EB V v := by
  rcases h with h | ⟨p, rfl, hp⟩
  · exact .inl h
  · exact .inr ⟨p, rfl, (hb.block _ (lt_at hp)).trans hp⟩
set_option maxHeartbeats 1000000 in
theorem ekept_any {w : World} {v : Value} (h : EB w v) : Calls Try.prog 34 #[v] w fun e w' => e = .returned (.slice none 0 0) ∧ Below w.heap.size w w' := by
  rcases h with rfl | ⟨p, rfl, hp⟩
  · go_enter Try.func34, Try.ntmps34
    go_wp2
    go_ret
    exact ⟨rfl, Below.refl _ _⟩
  · have c0 := cell_at hp 0
    simp at c0
    go_enter Try.func34, Try.ntmps34
    go_wp2
    go_ret
    exact ⟨rfl, Below.refl _ _⟩
set_option maxHeartbeats 1000000 in
theorem esize_any {w : World} {v : Value} (h : EB w v) : Calls Try.prog 23 #[v] w fun e w' => e = .returned (.int .i64 0) ∧ Below w.heap.size w w' := by
  have hk := ekept_any h
  go_enter Try.func23, Try.ntmps23
  go_wp2_with (go_at_call 34; (with_reducible refine hk.mono ?_); rintro e u1 ⟨rfl, hb1⟩)
  go_ret
  exact ⟨rfl, hb1⟩
set_option maxHeartbeats 1000000 in
theorem etwin_nil (w : World) : Calls Try.prog 50 #[.pointer none] w fun e w' => e = .returned (.pointer none) ∧ Below w.heap.size w w' := by
  go_enter Try.func50, Try.ntmps50
  go_wp2
  go_ret
  exact ⟨rfl, Below.refl _ _⟩
set_option maxHeartbeats 1000000 in
theorem etwin_any {w : World} {v : Value} (h : EB w v) : Calls Try.prog 50 #[v] w fun e w' => ∃ v', e = .returned v' ∧ EB w' v' ∧ Below w.heap.size w w' := by
  rcases h with rfl | ⟨p, rfl, hp⟩
  · exact (etwin_nil w).mono fun e w' h => ⟨_, h.1, .inl rfl, h.2⟩
  · have hz := esize_any (w := w.alloc (.cells #[.slice none 0 0] 66)) (v := .pointer (some ⟨p, 0, none⟩)) (.inr ⟨p, rfl, old_at hp⟩)
    go_enter Try.func50, Try.ntmps50
    go_wp2_with (go_at_call 23; (with_reducible refine hz.mono ?_); rintro e u1 ⟨rfl, hb1⟩)
    go_ret
    exact ⟨_, rfl, .inr ⟨_, rfl, (hb1.block _ (by simp)).trans (new_at rfl)⟩, bel2 (al1 _ _) hb1⟩
set_option maxHeartbeats 1000000 in
theorem eall_any {w : World} {v : Value} (h : EB w v) : Calls Try.prog 29 #[v] w fun e w' => ∃ bx, e = .returned (.func (.func 51) #[] #[.pointer (some ⟨bx, 0, none⟩)]) ∧ w.heap.size ≤ bx ∧ w'.heap[bx]? = some (.cells #[.slice none 0 0] 22 (0, 0)) ∧ Below w.heap.size w w' := by
  have ht := etwin_any h
  go_enter Try.func29, Try.ntmps29
  go_wp2_with (first | (go_at_call 50; (with_reducible refine ht.mono ?_); rintro e u1 ⟨v2, rfl, he2, hb2⟩; have hk := ekept_any he2) | (go_at_call 34; (with_reducible refine hk.mono ?_); rintro e u2 ⟨rfl, hb3⟩))
  go_ret
  have hbb := bel2 hb2 hb3
  exact ⟨u2.heap.size, rfl, hbb.size, new_at rfl, hbb.alloc hbb.size _⟩
set_option maxHeartbeats 1000000 in
set_option maxRecDepth 100000 in
theorem all0_seq (bx : Nat) (w : World) (hs : w.heap[bx]? = some (.cells #[.slice none 0 0] 22 (0, 0))) :
    SeqE Try.prog (fun _ => True) 51 #[.pointer (some ⟨bx, 0, none⟩)] (fun x : N3 => #[nt x.1 x.2.1 x.2.2]) bx 0 [] w := by
  intro ll J Jx W hW hJ hJx hE hY h0
  have hb0 : W.heap[bx]? = some (.cells #[.slice none 0 0] 22 (0, 0)) := (hW.block _ (lt_at hs)).trans hs
  have c0 := cell_at hb0 0
  simp at c0
  clear hE hY
  refine callsIn_of_wp Try.func51 rfl trivial ?_ rfl
  simp only [Try.ntmps51, List.size_toArray, List.length_cons, List.length_nil, Nat.reduceAdd, Nat.reduceSub, Array.replicate_succ, Array.replicate_zero, List.push_toArray, List.append_toArray, List.nil_append, List.cons_append]
  gi_wp2
  refine wpIn_loop_once ?_
  gi_wp2
  go_end0
  exact ⟨⟨_, rfl⟩, .inl h0⟩
theorem not_pfx {pre : List N3} {x : N3} (h : pre ++ [x] <+: []) : False := by
  have := h.length_le
  simp at this
set_option maxHeartbeats 4000000 in
set_option maxRecDepth 100000 in
theorem egl_in {w : World} {v : Value} (h : EB w v) : CallsIn Fence.wide 0 Try.prog 40 #[v, .func (.func 41) #[] #[]] w fun e w' => e = .returned (.slice none 0 0) ∧ Below w.heap.size w w' := by
  have hal := eall_any ((h.carry (al1 w (.cells #[.func (.func 41) #[] #[]] 61))).carry (al1 _ (.cells #[.slice none 0 0] 22)))
  clear h
  refine callsIn_of_wp_marks Try.func40 rfl trivial ?_ rfl
  simp only [Try.ntmps40, List.size_toArray, List.length_cons, List.length_nil, Nat.reduceAdd, Nat.reduceSub, Array.replicate_succ, Array.replicate_zero, List.push_toArray, List.append_toArray, List.nil_append, List.cons_append]
  gi_wp2
  with_reducible (refine And.intro (wfn _) (And.intro wdep ?_))
  refine (callsIn_wide.2 hal).mono ?_
  rintro e W0 ⟨bx, rfl, hbx, hsb, hb⟩
  have b0 : Below w.heap.size w W0 := bel2 (al2 _ _ _) hb
  have v0 : Boxed W0 (w.heap.size + 1) 22 (.slice none 0 0) := (hb.block _ (by simp)).trans (new_at (by simp))
  have hgl := lt_at hsb
  have hz : w.heap.size + 2 ≤ W0.heap.size := by simp at hbx; omega
  clear hal hb
  gi_wp2
  refine wp_rangeE (kb := 0) (gf := 51) (lb := #[.pointer (some ⟨bx, 0, none⟩)]) rfl (enters_of Try.func51 (by kernel_rfl) rfl)
    (all0_seq bx _ hsb) hgl (fun _ => rfl)
    (fun _ W => Boxed W (w.heap.size + 1) 22 (.slice none 0 0) ∧ Below w.heap.size w W)
    (fun _ _ _ => False)
    (OwnFrom.and ((boxed_own _ _ (fun _ : List N3 => (.slice none 0 0))).from _) (ownFrom_below (Nat.le_refl _) (by omega)))
    (fun _ _ _ _ _ hs _ _ => hs)
    ⟨v0, b0⟩ (fun _ _ _ => trivial) (fun _ _ _ => True) (fun _ _ _ _ _ _ _ _ _ => trivial) ?assign ?body ?done ?stop
  case assign =>
    rintro l2 pre ⟨o, t, k⟩ W K ⟨hv, hb⟩ hsz hK
    unfold nt
    gi_wp2
    exact hK _ _ (Kept.below (al1 _ _) (by omega) (by omega)) ⟨hv.alloc _, hb.alloc hb.size _⟩ trivial
  case body =>
    rintro l2 pre x a' W _ _ _ hpr
    exact (not_pfx hpr).elim
  case done =>
    rintro W ⟨hv, hb⟩ hK
    have hcv := hv.cell
    gi_wp2
    refine ⟨by simp, .inl ⟨_, _, rfl, run_takeDeferred hK, ?_⟩⟩
    exact ⟨.slice none 0 0, by simp [results, Try.results40, go_sem], rfl, below_taken _ hb (by omega)⟩
  case stop =>
    rintro c pre W _ h _
    exact h.elim
set_option maxHeartbeats 1000000 in
theorem elist_any {w : World} {v : Value} (h : EB w v) : Calls Try.prog 19 #[v] w fun e w' => e = .returned (.slice none 0 0) ∧ Below w.heap.size w w' := by
  have hg := callsIn_wide.1 (egl_in h)
  rcases h with rfl | ⟨p, rfl, hp⟩
  all_goals
    go_enter Try.func19, Try.ntmps19
    go_wp2_with (go_at_call 40; (with_reducible refine hg.mono ?_); rintro e u1 ⟨rfl, hb1⟩)
    go_ret
    exact ⟨rfl, hb1⟩
set_option maxHeartbeats 4000000 in
set_option maxRecDepth 100000 in
theorem egn_in {w : World} {v : Value} (h : EB w v) : CallsIn Fence.wide 0 Try.prog 40 #[v, .func (.func 55) #[] #[]] w fun e w' => e = .returned (.slice none 0 0) ∧ Below w.heap.size w w' := by
  have hal := eall_any ((h.carry (al1 w (.cells #[.func (.func 55) #[] #[]] 61))).carry (al1 _ (.cells #[.slice none 0 0] 22)))
  clear h
  refine callsIn_of_wp_marks Try.func40 rfl trivial ?_ rfl
  simp only [Try.ntmps40, List.size_toArray, List.length_cons, List.length_nil, Nat.reduceAdd, Nat.reduceSub, Array.replicate_succ, Array.replicate_zero, List.push_toArray, List.append_toArray, List.nil_append, List.cons_append]
  gi_wp2
  with_reducible (refine And.intro (wfn _) (And.intro wdep ?_))
  refine (callsIn_wide.2 hal).mono ?_
  rintro e W0 ⟨bx, rfl, hbx, hsb, hb⟩
  have b0 : Below w.heap.size w W0 := bel2 (al2 _ _ _) hb
  have v0 : Boxed W0 (w.heap.size + 1) 22 (.slice none 0 0) := (hb.block _ (by simp)).trans (new_at (by simp))
  have hgl := lt_at hsb
  have hz : w.heap.size + 2 ≤ W0.heap.size := by simp at hbx; omega
  clear hal hb
  gi_wp2
  refine wp_rangeE (kb := 0) (gf := 51) (lb := #[.pointer (some ⟨bx, 0, none⟩)]) rfl (enters_of Try.func51 (by kernel_rfl) rfl)
    (all0_seq bx _ hsb) hgl (fun _ => rfl)
    (fun _ W => Boxed W (w.heap.size + 1) 22 (.slice none 0 0) ∧ Below w.heap.size w W)
    (fun _ _ _ => False)
    (OwnFrom.and ((boxed_own _ _ (fun _ : List N3 => (.slice none 0 0))).from _) (ownFrom_below (Nat.le_refl _) (by omega)))
    (fun _ _ _ _ _ hs _ _ => hs)
    ⟨v0, b0⟩ (fun _ _ _ => trivial) (fun _ _ _ => True) (fun _ _ _ _ _ _ _ _ _ => trivial) ?assign ?body ?done ?stop
  case assign =>
    rintro l2 pre ⟨o, t, k⟩ W K ⟨hv, hb⟩ hsz hK
    unfold nt
    gi_wp2
    exact hK _ _ (Kept.below (al1 _ _) (by omega) (by omega)) ⟨hv.alloc _, hb.alloc hb.size _⟩ trivial
  case body =>
    rintro l2 pre x a' W _ _ _ hpr
    exact (not_pfx hpr).elim
  case done =>
    rintro W ⟨hv, hb⟩ hK
    have hcv := hv.cell
    gi_wp2
    refine ⟨by simp, .inl ⟨_, _, rfl, run_takeDeferred hK, ?_⟩⟩
    exact ⟨.slice none 0 0, by simp [results, Try.results40, go_sem], rfl, below_taken _ hb (by omega)⟩
  case stop =>
    rintro c pre W _ h _
    exact h.elim
set_option maxHeartbeats 1000000 in
theorem enews_any {w : World} {v : Value} (h : EB w v) : Calls Try.prog 39 #[v] w fun e w' => e = .returned (.slice none 0 0) ∧ Below w.heap.size w w' := by
  have hg := callsIn_wide.1 (egn_in h)
  rcases h with rfl | ⟨p, rfl, hp⟩
  all_goals
    go_enter Try.func39, Try.ntmps39
    go_wp2_with (go_at_call 40; (with_reducible refine hg.mono ?_); rintro e u1 ⟨rfl, hb1⟩)
    go_ret
    exact ⟨rfl, hb1⟩
set_option maxHeartbeats 1000000 in
theorem ssame_any {w : World} {v v2 : Value} (l m : List N3) (ad ad2 : Option Addr) (c c2 : Nat) (h1 : ∀ W, Below w.heap.size w W → Calls Try.prog 34 #[v] W fun e w' => e = .returned (.slice ad l.length c) ∧ Below W.heap.size W w') (h2 : ∀ W, Below w.heap.size w W → Calls Try.prog 34 #[v2] W fun e w' => e = .returned (.slice ad2 m.length c2) ∧ Below W.heap.size W w') (hr : RdN w ad l) (hr2 : RdN w ad2 m) (hl : l.length ≤ 6000000000000) : Calls Try.prog 14 #[v, v2] w fun e w' => e = .returned (.bool (decide (l = m))) ∧ Below w.heap.size w w' := by
  have k1 := h1 w (Below.refl _ _)
  have HE : Hid (∀ W, Below w.heap.size w W → Calls Try.prog 33 #[.slice ad l.length c, .slice ad2 m.length c2] W fun e w' => e = .returned (.bool (decide (l = m))) ∧ Below W.heap.size W w') := fun W hb => equal_any _ _ _ _ l m W (hr.carry hb) (hr2.carry hb) hl
  have HK : Hid (∀ W, Below w.heap.size w W → Calls Try.prog 34 #[v2] W fun e w' => e = .returned (.slice ad2 m.length c2) ∧ Below W.heap.size W w') := h2
  generalize decide (l = m) = R at *
  clear hl h1 h2 hr hr2
  go_enter Try.func14, Try.ntmps14
  go_wp2_with (first | (go_at_call 34; first | (have hz := k1; (with_reducible refine k1.mono ?_); rintro e u1 ⟨rfl, hb1⟩; clear k1 hz; have k2 := HK.out u1 hb1) | (have hz := k2; (with_reducible refine k2.mono ?_); rintro e u2 ⟨rfl, hb2⟩; have k3 := HE.out u2 (bel2 hb1 hb2))) | (go_at_call 33; (with_reducible refine k3.mono ?_); rintro e u3 ⟨rfl, hb3⟩))
  go_ret
  exact ⟨rfl, bel2 (bel2 hb1 hb2) hb3⟩
theorem rd_nil (W : World) : RdN W none [] := fun h => absurd rfl h
set_option maxHeartbeats 4000000 in
set_option maxRecDepth 100000 in
theorem etake_any {w : World} {v : Value} (h : EB w v) (o t k : Int) : Calls Try.prog 16 #[v, nt o t k] w fun e w' => e = .returned (.tuple #[.bool false, .int .i64 50]) ∧ Below w.heap.size w w' := by
  have hmx : Try.prog.follows .mixedOrders = true := by kernel_rfl
  have hva := valid_any 0 o t k
  rw [show vl 0 o t k = false from decide_eq_false (by omega)] at hva
  have hj0 : NB (w.alloc (.cells #[.int .i64 o, .int .i64 t, .int .i64 k] 32)) w.heap.size o t k ∧ EB (w.alloc (.cells #[.int .i64 o, .int .i64 t, .int .i64 k] 32)) v ∧ Below w.heap.size w (w.alloc (.cells #[.int .i64 o, .int .i64 t, .int .i64 k] 32)) := ⟨NB.new _ _ _ _, h.carry (al1 _ _), al1 _ _⟩
  clear h
  go_enter Try.func16, Try.ntmps16
  unfold nt
  go_wp2
  rename_i Q0 K0 hK
  refine wp_region_any hmx ?_
  refine wpAny_pure (fun i__ => ([v, (.int .i64 0), (nt o t k), (.bool false), (.bool true)] : List Value).getD i__ undef) (fun V => NB V w.heap.size o t k ∧ EB V v ∧ Below w.heap.size w V) (by kernel_rfl) ⟨hj0.1.carry (Below.refl _ _).drew, hj0.2.1.carry (Below.refl _ _).drew, hj0.2.2.drew⟩ ?_ ?_
  · refine (stepsFrom_cons ?_ (stepsFrom_cons ?_ (stepsFrom_cons ?_ (stepsFrom_cons ?_ (stepsFrom_cons ?_ trivial)))))
    · exact step_move rfl trivial _ rfl (by kernel_rfl)
    · exact step_call rfl trivial 23 _ _ [v] rfl (by kernel_rfl) (enters_of Try.func23 (by kernel_rfl) rfl) (fun w hw => (esize_any hw.2.1).mono (by rintro e w' ⟨rfl, hb⟩; exact ⟨rfl, hw.1.carry hb, hw.2.1.carry hb, bel2 hw.2.2 hb⟩))
    · exact step_load rfl trivial _ _ _ rfl rfl (fun w hw => load_nt hw.1)
    · exact step_call rfl trivial 37 _ _ [(.int .i64 0), (nt o t k)] rfl (by kernel_rfl) (enters_of Try.func37 (by kernel_rfl) rfl) (fun w hw => (hva w).mono (by rintro e w' ⟨rfl, hb⟩; exact ⟨rfl, hw.1.carry hb, hw.2.1.carry hb, bel2 hw.2.2 hb⟩))
    · exact step_unOp rfl trivial _ _ _ _ rfl rfl (fun w hw => un_not false w)
  intro W hW
  first | refine hK _ _ ?_ | refine (‹∀ (a : Act) (w : World), Code.wp Try.prog _ _ a w → _›) _ _ ?_
  simp only [finL, List.getD_cons_zero, List.getD_cons_succ, Nat.zero_add, Nat.reduceAdd, List.setIfInBounds_toArray, List.set_cons_zero, List.set_cons_succ]
  obtain ⟨hn, hk, hb⟩ := hW
  clear hj0 hK hva
  go_wp2
  go_ret2
  exact ⟨rfl, hb⟩
set_option maxHeartbeats 4000000 in
theorem eat_any {w : World} {v : Value} (h : EB w v) (id : Int) : Calls Try.prog 12 #[v, .int .i64 id] w fun e w' => e = .returned (.tuple #[.agg #[.int .i64 0, .int .i64 0, .int .i64 0], .int .i64 30]) ∧ Below w.heap.size w w' := by
  have hn1 : NB (w.alloc (.cells #[.int .i64 0, .int .i64 0, .int .i64 0] 32)) w.heap.size 0 0 0 := NB.new _ _ _ _
  have hb1 := al1 w (.cells #[.int .i64 0, .int .i64 0, .int .i64 0] 32)
  have hsz := esize_any (h.carry hb1)
  clear h
  by_cases h0 : id < 0
  · have c0 := hn1.c0
    have c1 := hn1.c1
    have c2 := hn1.c2
    have z0 := hn1.thaw 0
    have z1 := hn1.thaw 1
    have z2 := hn1.thaw 2
    go_enter Try.func12, Try.ntmps12
    go_wp2
    exact retNt rfl rfl rfl rfl hn1 ⟨rfl, hb1⟩
  · have hge : 0 ≤ id := by omega
    go_enter Try.func12, Try.ntmps12
    go_wp2_with (go_at_call 23; (with_reducible refine hsz.mono ?_); rintro e u1 ⟨rfl, hb2⟩; have hn2 := hn1.carry hb2; have c0 := hn2.c0; have c1 := hn2.c1; have c2 := hn2.c2; have z0 := hn2.thaw 0; have z1 := hn2.thaw 1; have z2 := hn2.thaw 2)
    exact retNt rfl rfl rfl rfl (NB.set hn2 _ _ _) ⟨rfl, below3 (bel2 hb1 hb2) (Nat.le_refl _) _ _ _⟩
end Go.Proofs.Ytddblfffjhoiaaa
namespace Go.Proofs.Ytddblfffjhoiaaa
open Go.RowKit Go.Shelf Go.Lib
attribute [local go_sem] Oper.semAt_some

/-- A book that is handed in: nil, or one that has l. -/
def BV (W : World) (v : Value) (l : List N3) : Prop := (v = .pointer none ∧ l = []) ∨ ∃ p g, v = .pointer (some ⟨p, 0, none⟩) ∧ Bk W p g l ∧ 0 < l.length ∧ l.length ≤ 100 ∧ Bok l
theorem BV.carry {W V : World} {v : Value} {l : List N3} (h : BV W v l) (hb : Below W.heap.size W V) : BV V v l := by
  rcases h with h | ⟨p, g, e, h, h1⟩
  · exact .inl h
  · exact .inr ⟨p, g, e, h.carry hb, h1⟩
theorem BV.len {W : World} {v : Value} {l : List N3} (h : BV W v l) : l.length ≤ 100 := by
  rcases h with ⟨_, rfl⟩ | ⟨p, g, e, h, h1, h2, _⟩
  · simp
  · exact h2
theorem BV.bok {W : World} {v : Value} {l : List N3} (h : BV W v l) : Bok l := by
  rcases h with ⟨_, rfl⟩ | ⟨p, g, e, h, h1, h2, h3⟩
  · intro i x hx
    simp at hx
  · exact h3
theorem sizeV_any {w : World} {v : Value} {l : List N3} (h : BV w v l) : Calls Try.prog 23 #[v] w fun e w' => e = .returned (.int .i64 (l.length : Int)) ∧ Below w.heap.size w w' := by
  rcases h with ⟨rfl, rfl⟩ | ⟨p, g, rfl, h, _⟩
  · exact esize_any (.inl rfl)
  · exact bsize_any h
/-- What a book has of a node; a zero notice, if it has none. -/
def atN (l : List N3) (id : Int) : N3 := if 0 ≤ id ∧ id < (l.length : Int) then (l[id.toNat]?).getD (0, 0, 0) else (0, 0, 0)
def atE (l : List N3) (id : Int) : Int := if 0 ≤ id ∧ id < (l.length : Int) then 0 else 30
theorem atW_any {w : World} {v : Value} {l : List N3} (h : BV w v l) (id : Int) : Calls Try.prog 12 #[v, .int .i64 id] w fun e w' => e = .returned (.tuple #[nt (atN l id).1 (atN l id).2.1 (atN l id).2.2, .int .i64 (atE l id)]) ∧ Below w.heap.size w w' := by
  rcases h with ⟨rfl, rfl⟩ | ⟨p, g, rfl, h, _⟩
  · have e : ¬ (0 ≤ id ∧ id < (([] : List N3).length : Int)) := by simp
    unfold atN atE
    rw [if_neg e, if_neg e]
    exact eat_any (.inl rfl) id
  · refine (at_any h id).mono ?_
    rintro e w' ⟨rfl, hb⟩
    refine ⟨?_, hb⟩
    by_cases hi : 0 ≤ id ∧ id < (l.length : Int)
    · obtain ⟨i, rfl⟩ : ∃ i : Nat, id = (i : Int) := ⟨id.toNat, by omega⟩
      obtain ⟨x, hx⟩ : ∃ x, l[i]? = some x := ⟨_, List.getElem?_eq_getElem (by omega)⟩
      rw [atV_in hx, atN, atE, if_pos hi, if_pos hi, Int.toNat_natCast, hx]
      rfl
    · rw [atV, atN, atE, if_neg hi, if_neg hi, if_neg hi]
/-- Values that can be read one behind the other. -/
def RdP (W : World) (ad : Option Addr) (vs : List Value) : Prop := vs ≠ [] → ∃ b off, ad = some ⟨b, off, none⟩ ∧ b < W.heap.size ∧ ∀ (k : Nat) v, vs[k]? = some v → W.cell? ⟨b, off + k, none⟩ = some v
theorem RdP.carry {W V : World} {ad : Option Addr} {vs : List Value} (h : RdP W ad vs) (hb : Below W.heap.size W V) : RdP V ad vs := fun hne => by
  obtain ⟨b, off, e, hl, hc⟩ := h hne
  exact ⟨b, off, e, Nat.lt_of_lt_of_le hl hb.size, fun k v hv => (hb.cell (p := ⟨b, _, none⟩) hl).trans (hc k v hv)⟩
/-- Books, one behind the other. -/
structure BVs (W : World) (ad : Option Addr) (vs : List Value) (ls : List (List N3)) : Prop where
  len : vs.length = ls.length
  rd : RdP W ad vs
  bv : ∀ (k : Nat) v l, vs[k]? = some v → ls[k]? = some l → BV W v l
theorem BVs.carry {W V : World} {ad : Option Addr} {vs : List Value} {ls : List (List N3)} (h : BVs W ad vs ls) (hb : Below W.heap.size W V) : BVs V ad vs ls := ⟨h.len, h.rd.carry hb, fun k v l h1 h2 => (h.bv k v l h1 h2).carry hb⟩
theorem BVs.at {W : World} {ad : Option Addr} {vs : List Value} {ls : List (List N3)} (h : BVs W ad vs ls) {k : Nat} {l : List N3} (hk : ls[k]? = some l) : ∃ v b off, vs[k]? = some v ∧ BV W v l ∧ ad = some ⟨b, off, none⟩ ∧ W.cell? ⟨b, off + k, none⟩ = some v ∧ b < W.heap.size := by
  have hk1 : k < vs.length := by rw [h.len]; exact (List.getElem?_eq_some_iff.1 hk).1
  obtain ⟨v, hv⟩ : ∃ v, vs[k]? = some v := ⟨_, List.getElem?_eq_getElem hk1⟩
  obtain ⟨b, off, e, hlt, hc⟩ := h.rd (fun e => by rw [e] at hk1; simp at hk1)
  exact ⟨v, b, off, hv, h.bv k v l hv hk, e, hc k v hv, hlt⟩
theorem BV.ptr {W : World} {v : Value} {l : List N3} (h : BV W v l) : ∃ a, v = .pointer a := by
  rcases h with ⟨e, _⟩ | ⟨p, g, e, _⟩
  · exact ⟨_, e⟩
  · exact ⟨_, e⟩
def BxP (W : World) (b : Nat) (v : Value) : Prop := W.heap[b]? = some (.cells #[v] 45 (0, 0))
theorem load_bxp {W : World} {b : Nat} {v : Value} (h : BxP W b v) : (Instr.loadAt 45 (.pointer (some ⟨b, 0, none⟩))).run Try.prog W = .ok v W := by
  have c0 := cell_at h 0
  simp at c0
  go_simp
theorem idx_p (gb off n cap i : Nat) (h : i < n) (W : World) : (Instr.indexAt 45 (.slice (some ⟨gb, off, none⟩) n cap) (.int .i64 (i : Int))).run Try.prog W = .ok (.pointer (some ⟨gb, off + i, none⟩)) W := by
  have h2 : (i : Int) < (n : Int) := by omega
  go_simp
theorem load_p {W : World} {gb o : Nat} {a : Option Addr} (h : W.cell? ⟨gb, o, none⟩ = some (.pointer a)) : (Instr.loadAt 25 (.pointer (some ⟨gb, o, none⟩))).run Try.prog W = .ok (.pointer a) W := by go_simp
set_option maxHeartbeats 1000000 in
set_option maxRecDepth 100000 in
theorem one1_any {w : World} (b : Nat) (ad : Option Addr) (cap : Nat) (vs : List Value) (ls : List (List N3)) (l l0 : List N3) (v : Value) (hb : BxP w b (.slice ad ls.length cap)) (h : BVs w ad vs ls) (hv : BV w v l) (h0 : ls[0]? = some l0) : Calls Try.prog 46 #[v, .pointer (some ⟨b, 0, none⟩)] w fun e w' => e = .returned (.bool (((l.length : Int) != (l0.length : Int)))) ∧ Below w.heap.size w w' := by
  have hmx : Try.prog.follows .mixedOrders = true := by kernel_rfl
  obtain ⟨v0, gb, off, _, hv0, rfl, hc, hgl⟩ := h.at h0
  have hn : 0 < ls.length := (List.getElem?_eq_some_iff.1 h0).1
  obtain ⟨a0, rfl⟩ := hv0.ptr
  obtain ⟨a, rfl⟩ := hv.ptr
  obtain ⟨N, hN⟩ : ∃ N, ls.length = N := ⟨_, rfl⟩
  rw [hN] at hb hn
  clear hN h h0
  have hj0 : BxP w b (.slice (some ⟨gb, off, none⟩) N cap) ∧ BV w (.pointer a) l ∧ BV w (.pointer a0) l0 ∧ w.cell? ⟨gb, off + 0, none⟩ = some (.pointer a0) ∧ gb < w.heap.size ∧ Below w.heap.size w w := ⟨hb, hv, hv0, hc, hgl, Below.refl _ _⟩
  have step : ∀ {V V' : World}, (BxP V b (.slice (some ⟨gb, off, none⟩) N cap) ∧ BV V (.pointer a) l ∧ BV V (.pointer a0) l0 ∧ V.cell? ⟨gb, off + 0, none⟩ = some (.pointer a0) ∧ gb < V.heap.size ∧ Below w.heap.size w V) → Below V.heap.size V V' → (BxP V' b (.slice (some ⟨gb, off, none⟩) N cap) ∧ BV V' (.pointer a) l ∧ BV V' (.pointer a0) l0 ∧ V'.cell? ⟨gb, off + 0, none⟩ = some (.pointer a0) ∧ gb < V'.heap.size ∧ Below w.heap.size w V') := fun h hb' => ⟨(hb'.block _ (lt_at h.1)).trans h.1, h.2.1.carry hb', h.2.2.1.carry hb', (hb'.cell (p := ⟨gb, _, none⟩) h.2.2.2.2.1).trans h.2.2.2.1, Nat.lt_of_lt_of_le h.2.2.2.2.1 hb'.size, bel2 h.2.2.2.2.2 hb'⟩
  clear hv hv0 hb hc
  go_enter Try.func46, Try.ntmps46
  go_wp2
  rename_i Q0 K0 hK
  refine wp_region_any hmx ?_
  refine wpAny_pure (fun i__ => ([(.pointer a), (.int .i64 (l.length : Int)), (.slice (some ⟨gb, off, none⟩) N cap), (.pointer (some ⟨gb, off + 0, none⟩)), (.pointer a0), (.int .i64 (l0.length : Int)), (.bool ((l.length : Int) != (l0.length : Int))), (.bool ((l.length : Int) != (l0.length : Int)))] : List Value).getD i__ undef) (fun V => BxP V b (.slice (some ⟨gb, off, none⟩) N cap) ∧ BV V (.pointer a) l ∧ BV V (.pointer a0) l0 ∧ V.cell? ⟨gb, off + 0, none⟩ = some (.pointer a0) ∧ gb < V.heap.size ∧ Below w.heap.size w V) (by kernel_rfl) (step hj0 (Below.refl _ _).drew) ?_ ?_
  · refine (stepsFrom_cons ?_ (stepsFrom_cons ?_ (stepsFrom_cons ?_ (stepsFrom_cons ?_ (stepsFrom_cons ?_ (stepsFrom_cons ?_ (stepsFrom_cons ?_ (stepsFrom_cons ?_ trivial))))))))
    · exact step_move rfl trivial _ rfl (by kernel_rfl)
    · exact step_call rfl trivial 23 _ _ [(.pointer a)] rfl (by kernel_rfl) (enters_of Try.func23 (by kernel_rfl) rfl) (fun w hw => (sizeV_any hw.2.1).mono (by rintro e w' ⟨rfl, hb⟩; exact ⟨rfl, step hw hb⟩))
    · exact step_load rfl trivial _ _ _ rfl rfl (fun w hw => load_bxp hw.1)
    · exact step_indexAddr rfl trivial _ _ _ _ _ rfl rfl rfl (fun w hw => idx_p gb off N cap 0 hn w)
    · exact step_load rfl trivial _ _ _ rfl rfl (fun w hw => load_p hw.2.2.2.1)
    · exact step_call rfl trivial 23 _ _ [(.pointer a0)] rfl (by kernel_rfl) (enters_of Try.func23 (by kernel_rfl) rfl) (fun w hw => (sizeV_any hw.2.2.1).mono (by rintro e w' ⟨rfl, hb⟩; exact ⟨rfl, step hw hb⟩))
    · exact step_binOp rfl trivial _ _ _ _ _ _ _ rfl rfl rfl (fun w hw => bin_neq _ _ _)
    · exact step_assign rfl trivial _ rfl (by kernel_rfl) (fun _ h => h)
  intro W hW
  first | refine hK _ _ ?_ | refine (‹∀ (a : Act) (w : World), Code.wp Try.prog _ _ a w → _›) _ _ ?_
  simp only [finL, List.getD_cons_zero, List.getD_cons_succ, Nat.zero_add, Nat.reduceAdd, List.setIfInBounds_toArray, List.set_cons_zero, List.set_cons_succ]
  go_wp2
  go_ret
  exact ⟨rfl, hW.2.2.2.2.2⟩
set_option maxHeartbeats 4000000 in
set_option maxRecDepth 100000 in
theorem idxP_any {w : World} (b : Nat) (ad : Option Addr) (cap : Nat) (vs : List Value) (ls : List (List N3)) (l0 : List N3) (hb : BxP w b (.slice ad ls.length cap)) (h : BVs w ad vs ls) (h0 : ls[0]? = some l0) (hl : ls.length ≤ 1000000) : Calls Try.prog 59 #[.slice ad ls.length cap, .func (.func 46) #[] #[.pointer (some ⟨b, 0, none⟩)]] w fun e w' => ∃ z : Int, e = .returned (.int .i64 z) ∧ decide (z ≥ 0) = !ls.all (fun l => decide (l.length = l0.length)) ∧ Below w.heap.size w w' := by
  have HO : Hid (∀ (W : World) (v : Value) (l : List N3), BV W v l → Below w.heap.size w W → Calls Try.prog 46 #[v, .pointer (some ⟨b, 0, none⟩)] W fun e w' => e = .returned (.bool (((l.length : Int) != (l0.length : Int)))) ∧ Below W.heap.size W w') := fun W v l hv hW => one1_any b ad cap vs ls l l0 v ((hW.block _ (lt_at hb)).trans hb) (h.carry hW) hv h0
  obtain ⟨N, hN⟩ : ∃ N, ls.length = N := ⟨_, rfl⟩
  have HN : Hid (ls.length = N) := hN
  have HR : Hid (BVs w ad vs ls) := h
  rw [hN] at hl ⊢
  clear hN h h0 hb
  go_enter Try.func59, Try.ntmps59
  go_wp2
  go_loopw [8] (fun i wz => ∃ (k : Nat), i = .int .i64 k ∧ k ≤ N ∧ (ls.take k).all (fun l => decide (l.length = l0.length)) = true ∧ Below w.heap.size w wz) (fun i _ => N - vnatR i)
  case atStart => exact ⟨0, rfl, Nat.zero_le _, rfl, Below.refl _ _⟩
  case round =>
    obtain ⟨k, rfl, hk, hall, hbw⟩ := hrel
    have HK : Hid ((ls.take k).all (fun l => decide (l.length = l0.length)) = true) := hall
    clear hall
    by_cases hkl : k < N
    · have hki : (k : Int) < (N : Int) := by omega
      have hkl1 : k < ls.length := by rw [HN.out]; exact hkl
      obtain ⟨l, hx⟩ : ∃ x, ls[k]? = some x := ⟨_, List.getElem?_eq_getElem hkl1⟩
      obtain ⟨v, gb, off, _, hv, rfl, hc, _⟩ := (HR.out.carry hbw).at hx
      obtain ⟨a, rfl⟩ := hv.ptr
      have ho := HO.out _ _ _ hv hbw
      have HX : Hid (ls[k]? = some l) := hx
      generalize hvv : ((l.length : Int) != (l0.length : Int)) = V at ho
      have HV : Hid (((l.length : Int) != (l0.length : Int)) = V) := hvv
      clear hx hkl1 hvv hv
      cases V with
      | true =>
        go_wp2_with (go_at_call 46; (with_reducible refine ho.mono ?_); rintro e u1 ⟨rfl, hb2⟩)
        go_ret
        refine ⟨_, rfl, ?_, bel2 hbw hb2⟩
        have : ls.all (fun l => decide (l.length = l0.length)) = false := by
          rw [Bool.eq_false_iff]
          intro e
          have h1 := List.all_eq_true.1 e _ (List.mem_of_getElem? HX.out)
          have h2 := HV.out
          simp at h1 h2
          omega
        rw [this]
        simp
      | false =>
        go_wp2_with (go_at_call 46; (with_reducible refine ho.mono ?_); rintro e u1 ⟨rfl, hb2⟩)
        go_roundw
        case rel =>
          refine ⟨k + 1, by simp, by omega, ?_, bel2 hbw hb2⟩
          rw [List.take_add_one, HX.out, List.all_append, HK.out]
          have h2 := HV.out
          simp at h2 ⊢
          omega
        case measure => simp [vnatR]; omega
    · have hkk : k = N := by omega
      subst hkk
      go_wp2
      go_ret
      refine ⟨_, rfl, ?_, hbw⟩
      have := HK.out
      rw [List.take_of_length_le (by rw [HN.out]; exact Nat.le_refl _)] at this
      rw [this]
      rfl
set_option maxHeartbeats 1000000 in
theorem conP_any {w : World} (b : Nat) (ad : Option Addr) (cap : Nat) (vs : List Value) (ls : List (List N3)) (l0 : List N3) (hb : BxP w b (.slice ad ls.length cap)) (h : BVs w ad vs ls) (h0 : ls[0]? = some l0) (hl : ls.length ≤ 1000000) : Calls Try.prog 45 #[.slice ad ls.length cap, .func (.func 46) #[] #[.pointer (some ⟨b, 0, none⟩)]] w fun e w' => e = .returned (.bool (!ls.all (fun l => decide (l.length = l0.length)))) ∧ Below w.heap.size w w' := by
  have hi := idxP_any b ad cap vs ls l0 hb h h0 hl
  go_enter Try.func45, Try.ntmps45
  go_wp2_with (go_at_call 59; (with_reducible refine hi.mono ?_); rintro e u1 ⟨z, rfl, hz, hb2⟩; have HZ : Hid (decide (z ≥ 0) = !ls.all (fun l => decide (l.length = l0.length))) := hz; clear hz)
  go_ret
  refine ⟨?_, hb2⟩
  rw [← HZ.out]
  rfl
/-- Are all of one size? -/
def ones (ls : List (List N3)) : Bool := ls.all (fun l => decide (l.length = (ls.headD []).length))
set_option maxHeartbeats 1000000 in
theorem one_any {w : World} (ad : Option Addr) (cap : Nat) (vs : List Value) (ls : List (List N3)) (h : BVs w ad vs ls) (h0 : 0 < ls.length) (hl : ls.length ≤ 1000000) : Calls Try.prog 22 #[.slice ad ls.length cap] w fun e w' => e = .returned (.bool (ones ls)) ∧ Below w.heap.size w w' := by
  obtain ⟨w1, hw1⟩ : ∃ w1, w.alloc (.cells #[.slice ad ls.length cap] 45) = w1 := ⟨_, rfl⟩
  have hb1 : Below w.heap.size w w1 := by rw [← hw1]; exact al1 _ _
  have hx1 : BxP w1 w.heap.size (.slice ad ls.length cap) := by rw [← hw1]; exact new_at rfl
  have hc := conP_any w.heap.size ad cap vs ls (ls.headD []) hx1 (h.carry hb1) (by cases ls with | nil => simp at h0 | cons a t => rfl) hl
  have c0 := cell_at hx1 0
  simp at c0
  unfold ones
  generalize ls.all (fun l => decide (l.length = (ls.headD []).length)) = B at hc ⊢
  go_enter Try.func22, Try.ntmps22
  go_wp2_with (go_at_call 45; (with_reducible refine hc.mono ?_); rintro e u1 ⟨rfl, hb2⟩)
  go_ret
  exact ⟨by simp, bel2 hb1 hb2⟩
end Go.Proofs.Ytddblfffjhoiaaa
namespace Go.Proofs.Ytddblfffjhoiaaa
open Go.RowKit Go.Shelf Go.Lib
attribute [local go_sem] Oper.semAt_some

theorem row_from {w : World} {base base' : Nat} {e : TypeId} {size : Nat} {v : Value} {n : Nat} {xs : List Value} (h : w.ownsRow base e size v n xs) (hb : base' ≤ base) : w.ownsRow base' e size v n xs := by
  refine ⟨h.1, ?_⟩
  rcases h.2 with h1 | ⟨g, cap, cur, h1, h2, h3, h4⟩
  · exact .inl h1
  · exact .inr ⟨g, cap, cur, h1, Nat.le_trans hb h2, h3, h4⟩
theorem allW_any {w : World} {v : Value} {l : List N3} (h : BV w v l) : Calls Try.prog 29 #[v] w fun e w' => ∃ bx q, e = .returned (.func (.func 51) #[] #[.pointer (some ⟨bx, 0, none⟩)]) ∧ q < w'.heap.size ∧ SeqE Try.prog (fun _ => True) 51 #[.pointer (some ⟨bx, 0, none⟩)] (fun x : N3 => #[nt x.1 x.2.1 x.2.2]) q 0 l w' ∧ Below w.heap.size w w' := by
  rcases h with ⟨rfl, rfl⟩ | ⟨p, g, rfl, h, h0, h1, _⟩
  · refine (eall_any (.inl rfl)).mono ?_
    rintro e w' ⟨bx, rfl, _, hs, hb⟩
    exact ⟨bx, bx, rfl, lt_at hs, all0_seq bx w' hs, hb⟩
  · refine (ball_any h h0 h1).mono ?_
    rintro e w' ⟨bx, gt, rfl, _, _, hs, hb⟩
    exact ⟨bx, gt, rfl, lt_at hs.row, all1_seq l bx gt w' h1 hs, hb⟩
/-- Does x beat what the book has of its node? -/
def abn (l : List N3) (x : N3) : Bool := btx x (atN l x.1)
/-- What Above tells. -/
def abv (a b : List N3) : List N3 := if a.length = b.length then a.filter (abn b) else []
def BxB (W : World) (b : Nat) (v : Value) : Prop := W.heap[b]? = some (.cells #[v] 25 (0, 0))
set_option maxHeartbeats 4000000 in
set_option maxRecDepth 100000 in
theorem above1_any {w : World} (b : Nat) (v : Value) (l : List N3) (o t k : Int) (hb : BxB w b v) (hv : BV w v l) : Calls Try.prog 26 #[nt o t k, .pointer (some ⟨b, 0, none⟩)] w fun e w' => e = .returned (.bool (!abn l (o, t, k))) ∧ Below w.heap.size w w' := by
  obtain ⟨a, rfl⟩ := hv.ptr
  obtain ⟨w1, hw1⟩ : ∃ w1, w.alloc (.cells #[.int .i64 o, .int .i64 t, .int .i64 k] 32) = w1 := ⟨_, rfl⟩
  have hb1 : Below w.heap.size w w1 := by rw [← hw1]; exact al1 _ _
  have hn : NB w1 w.heap.size o t k := by rw [← hw1]; exact NB.new _ _ _ _
  have c0 : w1.cell? ⟨b, 0, none⟩ = some (.pointer a) := cell_at ((hb1.block _ (lt_at hb)).trans hb) 0
  have n0 := hn.c0
  have n1 := hn.c1
  have n2 := hn.c2
  have ha := atW_any (hv.carry hb1) o
  have HA : Hid (abn l (o, t, k) = btx (o, t, k) (atN l o)) := rfl
  generalize atN l o = y at ha HA
  generalize atE l o = E at ha
  obtain ⟨o', t', k'⟩ := y
  have hbt := beats_any o t k o' t' k'
  have HB : Hid (abn l (o, t, k) = bt o t k o' t' k') := HA.out
  clear hv hb HA
  unfold nt at ha hbt ⊢
  dsimp only at ha
  go_enter Try.func26, Try.ntmps26
  go_wp2_with (first | (go_at_call 12; (with_reducible refine ha.mono ?_); rintro e u1 ⟨rfl, hb2⟩; obtain ⟨u2, hu2⟩ : ∃ u2, u1.alloc (.cells #[.int .i64 o', .int .i64 t', .int .i64 k'] 32) = u2 := ⟨_, rfl⟩; have hb3 : Below u1.heap.size u1 u2 := (by rw [← hu2]; exact al1 _ _); have hm2 : NB u2 u1.heap.size o' t' k' := (by rw [← hu2]; exact NB.new _ _ _ _); have hn2 := (hn.carry hb2).carry hb3; have c3 := hm2.c0; have c4 := hm2.c1; have c5 := hm2.c2; have d0 := hn2.c0; have d1 := hn2.c1; have d2 := hn2.c2; have hc := hbt u2) | (go_at_call 15; (with_reducible refine hc.mono ?_); rintro e u3 ⟨rfl, hb4⟩))
  go_ret
  refine ⟨?_, bel2 (bel2 (bel2 hb1 hb2) hb3) hb4⟩
  rw [HB.out]
  rfl
set_option maxHeartbeats 4000000 in
set_option maxRecDepth 100000 in
theorem above_any {w : World} {va vb : Value} {la lb : List N3} (ha : BV w va la) (hb : BV w vb lb) : Calls Try.prog 11 #[va, vb] w fun e w' => ∃ v, e = .returned (.tuple #[v, .int .i64 (if la.length = lb.length then 0 else 1)]) ∧ Made w w' v (abv la lb) ∧ Below w.heap.size w w' := by
  obtain ⟨a, rfl⟩ := ha.ptr
  obtain ⟨b, rfl⟩ := hb.ptr
  obtain ⟨w1, hw1⟩ : ∃ w1, w.alloc (.cells #[.pointer b] 25) = w1 := ⟨_, rfl⟩
  have hb1 : Below w.heap.size w w1 := by rw [← hw1]; exact al1 _ _
  have hx1 : BxB w1 w.heap.size (.pointer b) := by rw [← hw1]; exact new_at rfl
  have c1 : w1.cell? ⟨w.heap.size, 0, none⟩ = some (.pointer b) := cell_at hx1 0
  obtain ⟨w2, hw2⟩ : ∃ w2, w1.alloc (.cells #[.pointer a, .pointer b] 25) = w2 := ⟨_, rfl⟩
  have hb2 : Below w1.heap.size w1 w2 := by rw [← hw2]; exact al1 _ _
  have hr2 : w2.heap[w1.heap.size]? = some (.cells #[.pointer a, .pointer b] 25 (0, 0)) := by rw [← hw2]; exact new_at rfl
  have h2 : BVs w2 (some ⟨w1.heap.size, 0, none⟩) [.pointer a, .pointer b] [la, lb] := ⟨rfl, fun _ => ⟨_, _, rfl, lt_at hr2, fun k v hk => by rw [Nat.zero_add]; exact (cell_at hr2 k).trans (by simpa using hk)⟩, fun k v l h1 h2 => by
    match k, h1, h2 with
    | 0, h1, h2 => cases h1; cases h2; exact (ha.carry hb1).carry hb2
    | 1, h1, h2 => cases h1; cases h2; exact (hb.carry hb1).carry hb2
    | k + 2, h1, h2 => simp at h1⟩
  have ho : Calls Try.prog 22 #[.slice (some ⟨w1.heap.size, 0, none⟩) 2 2] w2 fun e w' => e = .returned (.bool (ones [la, lb])) ∧ Below w2.heap.size w2 w' := one_any (some ⟨w1.heap.size, 0, none⟩) 2 _ _ h2 (by simp) (by simp)
  have hO : ones [la, lb] = decide (la.length = lb.length) := by
    simp only [ones, List.headD_cons, List.all_cons, List.all_nil, Bool.and_true, decide_true, Bool.true_and]
    by_cases e : la.length = lb.length <;> simp [e, eq_comm]
  rw [hO] at ho
  clear hO h2
  have hla := ha.len
  unfold abv
  by_cases e : la.length = lb.length
  · rw [if_pos e, if_pos e]
    rw [decide_eq_true e] at ho
    clear e
    have hal := fun (W : World) (hW : Below w2.heap.size w2 W) => allW_any (((ha.carry hb1).carry hb2).carry hW)
    have hfl : (la.filter (abn lb)).length ≤ 1000000 := Nat.le_trans (List.length_filter_le _ _) (by omega)
    go_enter Try.func11, Try.ntmps11
    go_wp2_with (first | (go_at_call 22; (with_reducible refine ho.mono ?_); rintro e u3 ⟨rfl, hb3⟩; have hal3 := hal _ hb3; clear hal) | (go_at_call 29; (with_reducible refine hal3.mono ?_); rintro e u4 ⟨bx, q, rfl, hq, hsq, hb4⟩; have hps := pass_any u4 51 26 #[.pointer (some ⟨bx, 0, none⟩)] #[.pointer (some ⟨w.heap.size, 0, none⟩)]) | (go_at_call 28; (with_reducible refine hps.mono ?_); rintro e u5 ⟨rfl, hp5, hq5, hb5⟩; have hbb : Below w1.heap.size w1 u5 := bel2 (bel2 (bel2 hb2 hb3) hb4) hb5; have hx5 : BxB u5 w.heap.size (.pointer b) := (hbb.block _ (lt_at hx1)).trans hx1; have hv5 := (hb.carry hb1).carry hbb; have hqq : q < u5.heap.size := Nat.lt_of_lt_of_le hq hb5.size; have hs2 := passA_seq (w := u5) la u4.heap.size (u4.heap.size + 1) bx w.heap.size q (abn lb) _ (fun W => BxB W w.heap.size (.pointer b) ∧ BV W (.pointer b) lb) (hsq.at hb5) hp5 hqq (fun x _ W hW => above1_any w.heap.size (.pointer b) lb x.1 x.2.1 x.2.2 hW.1 hW.2); have hco := collect_any u4.heap.size (u4.heap.size + 1) hs2 hqq (fun W hW => ⟨trivial, ⟨(hW.block _ (lt_at hx5)).trans hx5, hv5.carry hW⟩, (hW.block _ (lt_at hq5)).trans hq5⟩) hfl; clear hs2 hsq) | (go_at_call 27; (with_reducible refine hco.mono ?_); rintro e u6 ⟨v, rfl, hmd, hb6⟩; obtain ⟨ad6, cap6, rfl, hrd, hnew⟩ := hmd.rd))
    go_ret2
    have hbf : Below w.heap.size w u6 := bel2 hb1 (bel2 hbb hb6)
    exact ⟨_, rfl, row_from hmd (bel2 hb1 hbb).size, hbf⟩
  · rw [if_neg e, if_neg e]
    rw [decide_eq_false e] at ho
    clear e
    go_enter Try.func11, Try.ntmps11
    go_wp2_with (go_at_call 22; (with_reducible refine ho.mono ?_); rintro e u3 ⟨rfl, hb3⟩)
    go_ret2
    exact ⟨_, rfl, World.ownsRow_nil _ _ _ _, bel2 hb1 (bel2 hb2 hb3)⟩
end Go.Proofs.Ytddblfffjhoiaaa
