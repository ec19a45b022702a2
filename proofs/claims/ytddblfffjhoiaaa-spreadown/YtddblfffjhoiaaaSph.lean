/- spread.Level: what it answers, at any books, nil ones too. -/
import Derived.Test.YtddblfffjhoiaaaSpg
namespace Go.Proofs.Ytddblfffjhoiaaa
open Go.RowKit Go.Shelf Go.Lib
attribute [local go_sem] Oper.semAt_some

set_option maxHeartbeats 4000000 in
set_option maxRecDepth 100000 in
theorem said_seq {w : World} (bi bb bx : Nat) (id : Int) (ad : Option Addr) (cap : Nat) (vs : List Value) (ls : List (List N3)) (hl : ls.length ≤ 1000000) (hs : BxP w bb (.slice ad ls.length cap)) :
    SeqE Try.prog (fun W => BVs W ad vs ls ∧ W.heap[bi]? = some (.cells #[.int .i64 id] 3 (0, 0))) 47 #[.pointer (some ⟨bb, 0, none⟩), .pointer (some ⟨bi, 0, none⟩)] (fun x : N3 => #[nt x.1 x.2.1 x.2.2]) bx 0 (ls.map (fun l => atN l id)) w := by
  intro ll J Jx W hW hJ hJx hE hY h0
  have hb0 : BxP W bb (.slice ad ls.length cap) := (hW.block _ (lt_at hs)).trans hs
  have c0 := cell_at hb0 0
  simp at c0
  obtain ⟨n, hn⟩ : ∃ n, ls.length = n := ⟨_, rfl⟩
  have HN : Hid (ls.length = n) := hn
  rw [hn] at c0 hl
  clear hn hb0 hs
  refine callsIn_of_wp Try.func47 rfl trivial ?_ rfl
  simp only [Try.ntmps47, List.size_toArray, List.length_cons, List.length_nil, Nat.reduceAdd, Nat.reduceSub, Array.replicate_succ, Array.replicate_zero, List.push_toArray, List.append_toArray, List.nil_append, List.cons_append]
  gi_wp2
  gi_loopw [10] (fun c wz => ∃ k : Nat, c = .int .i64 k ∧ k ≤ n ∧ J ((ls.map (fun l => atN l id)).take k) wz ∧ W.heap.size ≤ wz.heap.size) (fun c _ => n - vnat c)
  case atStart => exact ⟨0, rfl, Nat.zero_le _, h0, Nat.le_refl _⟩
  case round =>
    obtain ⟨k, rfl, hk, hj, hsz⟩ := hrel
    by_cases hkl : k < n
    · have hki : (k : Int) < (n : Int) := by omega
      obtain ⟨l, hx⟩ : ∃ x, ls[k]? = some x := ⟨_, List.getElem?_eq_getElem (by rw [HN.out]; exact hkl)⟩
      obtain ⟨hbv, hid⟩ := hE _ _ hj
      obtain ⟨v, gb, off, _, hv, rfl, hc, _⟩ := hbv.at hx
      obtain ⟨a, rfl⟩ := hv.ptr
      have ci : wr.cell? ⟨bi, 0, none⟩ = some (.int .i64 id) := cell_at hid 0
      have ha := atW_any hv id
      have HT : Hid ((ls.map (fun l => atN l id)).take (k + 1) = (ls.map (fun l => atN l id)).take k ++ [atN l id]) := by
        show _ = _
        rw [List.take_add_one, List.getElem?_map, hx]
        rfl
      generalize atE l id = E at ha
      generalize atN l id = y at ha HT
      obtain ⟨o, t, q⟩ := y
      unfold nt at ha
      dsimp only at ha
      clear hx hbv hid hv hE
      gi_wp2
      with_reducible (refine And.intro (wfn _) (And.intro wdep ?_))
      refine (callsIn_wide.2 ha).mono ?_
      rintro e u1 ⟨rfl, hb1⟩
      have hj1 : J ((ls.map (fun l => atN l id)).take k) (u1.alloc (.cells #[.int .i64 o, .int .i64 t, .int .i64 q] 32)) := hJ.alloc _ (own_below hJ hj hb1)
      have hsb := hb1.size
      have hyl := hY _ (o, t, q) _ hj1 (by simp; omega) (by rw [← HT.out]; exact List.take_prefix _ _)
      obtain ⟨fn, tmps, assign, body, hy, hR⟩ := hyl
      unfold nt at hy
      clear hY
      gi_wp2
      refine ⟨rfl, hR.mono ?_⟩
      rintro e' W3 ⟨hkp, (⟨rfl, hj3⟩ | ⟨rfl, hjx⟩)⟩
      · have hsz3 := hkp.size
        gi_wp2
        go_roundw
        case rel => exact ⟨k + 1, by simp, by omega, by rw [HT.out]; exact hj3, by simp at hsz3; omega⟩
        case measure => simp [vnat]; omega
      · gi_wp2
        refine bodyPost_ret (results_none rfl _ _ _) rfl ?_
        exact ⟨⟨_, rfl⟩, .inr ⟨_, by rw [← HT.out]; exact List.take_prefix _ _, hjx⟩⟩
    · have hkk : k = n := by omega
      subst hkk
      rw [List.take_of_length_le (by rw [List.length_map, HN.out]; exact Nat.le_refl _)] at hj
      gi_wp2
      go_end0
      exact ⟨⟨_, rfl⟩, .inl hj⟩
set_option maxHeartbeats 1000000 in
theorem said_any (w : World) (id : Int) (ad : Option Addr) (n cap : Nat) : Calls Try.prog 25 #[.int .i64 id, .slice ad n cap] w fun e w' => e = .returned (.func (.func 47) #[] #[.pointer (some ⟨w.heap.size + 1, 0, none⟩), .pointer (some ⟨w.heap.size, 0, none⟩)]) ∧ BxP w' (w.heap.size + 1) (.slice ad n cap) ∧ w'.heap[w.heap.size]? = some (.cells #[.int .i64 id] 3 (0, 0)) ∧ Below w.heap.size w w' := by
  go_enter Try.func25, Try.ntmps25
  go_wp2
  go_ret
  exact ⟨rfl, new_at (by simp), old_at (new_at rfl), al2 _ _ _⟩
/-- The greatest so far. -/
def gst (s : Bool × N3) (x : N3) : Bool × N3 := if s.1 = false ∨ btx x s.2 = true then (true, x) else s
def grt (xs : List N3) : N3 := (xs.foldl gst (false, (0, 0, 0))).2
theorem gst_snoc (pre : List N3) (x : N3) : (pre ++ [x]).foldl gst (false, (0, 0, 0)) = gst (pre.foldl gst (false, (0, 0, 0))) x := by simp
/-- What holds while the greatest is looked for. -/
structure JG (w : World) (s : Bool × N3) (W : World) : Prop where
  bt : W.heap[w.heap.size]? = some (.cells #[.func (.func 15) #[] #[]] 42 (0, 0))
  rs : NB W (w.heap.size + 1) 0 0 0
  bs : NB W (w.heap.size + 2) s.2.1 s.2.2.1 s.2.2.2
  fd : W.heap[w.heap.size + 3]? = some (.cells #[.bool s.1] 4 (0, 0))
  be : Below w.heap.size w W
theorem JG.carry {w W V : World} {s : Bool × N3} (h : JG w s W) (hb : Below W.heap.size W V) : JG w s V := ⟨(hb.block _ (lt_at h.bt)).trans h.bt, h.rs.carry hb, h.bs.carry hb, (hb.block _ (lt_at h.fd)).trans h.fd, bel2 h.be hb⟩
theorem JG.own {w W0 : World} (h0 : w.heap.size ≤ W0.heap.size) : OwnFrom W0.heap.size (fun (s : Bool × N3) W => JG w s W) := fun s X Y row hs hg hr => by
  have hc : ∀ {k : Nat} {o : Obj}, X.heap[k]? = some o → o.isCells = true → Y.heap[k]? = some o := fun h1 h2 => (grownBy_keeps_cells hg (fun r q => (hr r q).2) h1 h2).trans h1
  exact ⟨hc hs.bt rfl, hc hs.rs rfl, hc hs.bs rfl, hc hs.fd rfl, hs.be.grown hg hs.be.size (fun k e => Nat.le_trans h0 (hr k e).1)⟩
theorem JG.turn {w W : World} {s : Bool × N3} (h : JG w s W) (o t k : Int) : JG w (true, (o, t, k)) ((W3 W (w.heap.size + 2) o t k).setCell ⟨w.heap.size + 3, 0, none⟩ (.bool true)) := by
  have e3 : ∀ b, b ≠ w.heap.size + 2 → b ≠ w.heap.size + 3 → ((W3 W (w.heap.size + 2) o t k).setCell ⟨w.heap.size + 3, 0, none⟩ (.bool true)).heap[b]? = W.heap[b]? := fun b h2 h3 => by
    unfold W3
    rw [Below.heap_setCell _ _ _ _ h3, Below.heap_setCell _ _ _ _ h2, Below.heap_setCell _ _ _ _ h2, Below.heap_setCell _ _ _ _ h2]
  have e4 : (W3 W (w.heap.size + 2) o t k).heap[w.heap.size + 3]? = some (.cells #[.bool s.1] 4 (0, 0)) := by
    unfold W3
    rw [Below.heap_setCell _ _ _ _ (by simp), Below.heap_setCell _ _ _ _ (by simp), Below.heap_setCell _ _ _ _ (by simp)]
    exact h.fd
  refine ⟨(e3 _ (by omega) (by omega)).trans h.bt, (e3 _ (by omega) (by omega)).trans h.rs, (Below.heap_setCell _ _ _ _ (by simp)).trans (NB.set h.bs o t k), ?_, (below3 h.be (by omega) o t k).setCell (by simp) _⟩
  have := heap_setCell_same _ _ 0 _ _ (.bool true) e4
  simpa using this
theorem JG.kept {w W : World} {bx B m : Nat} (hbx : bx < w.heap.size) (hB : w.heap.size + 4 ≤ B) (o t k : Int) : Kept bx B m W ((W3 W (w.heap.size + 2) o t k).setCell ⟨w.heap.size + 3, 0, none⟩ (.bool true)) :=
  (((Kept.setCell (by omega) (.inl (by omega))).trans (Kept.setCell (by omega) (.inl (by omega)))).trans (Kept.setCell (by omega) (.inl (by omega)))).trans (Kept.setCell (by omega) (.inl (by omega)))
set_option maxHeartbeats 4000000 in
set_option maxRecDepth 100000 in
theorem great_in {w : World} {xs : List N3} {Ext : World → Prop} {bx m : Nat} (b1 b2 : Nat) (hsq : SeqE Try.prog Ext 47 #[.pointer (some ⟨b1, 0, none⟩), .pointer (some ⟨b2, 0, none⟩)] (fun x : N3 => #[nt x.1 x.2.1 x.2.2]) bx m xs w) (hbx : bx < w.heap.size) (hE : ∀ W, Below w.heap.size w W → Ext W) :
    CallsIn Fence.wide 0 Try.prog 24 #[.func (.func 47) #[] #[.pointer (some ⟨b1, 0, none⟩), .pointer (some ⟨b2, 0, none⟩)], .func (.func 15) #[] #[]] w fun e w' => e = .returned (nt (grt xs).1 (grt xs).2.1 (grt xs).2.2) ∧ Below w.heap.size w w' := by
  obtain ⟨Wa, hWa⟩ : ∃ Wa, (((w.alloc (.cells #[.func (.func 15) #[] #[]] 42)).alloc (.cells #[.int .i64 0, .int .i64 0, .int .i64 0] 32)).alloc (.cells #[.int .i64 0, .int .i64 0, .int .i64 0] 32)).alloc (.cells #[.bool false] 4) = Wa := ⟨_, rfl⟩
  have hza : Wa.heap.size = w.heap.size + 4 := by rw [← hWa]; simp
  have ba : Below w.heap.size w Wa := by rw [← hWa]; exact (((al1 _ _).alloc (by simp) _).alloc (by simp; omega) _).alloc (by simp; omega) _
  have ja : JG w (false, (0, 0, 0)) Wa := ⟨by rw [← hWa]; exact old_at (old_at (old_at (new_at rfl))), by rw [← hWa]; exact old_at (old_at (new_at (by simp))), by rw [← hWa]; exact old_at (new_at (by simp)), by rw [← hWa]; exact new_at (by simp), ba⟩
  obtain ⟨W0, hW0⟩ : ∃ W0, Wa.setCell ⟨w.heap.size + 3, 0, none⟩ (.bool false) = W0 := ⟨_, rfl⟩
  have hz : W0.heap.size = w.heap.size + 4 := by rw [← hW0]; simpa using hza
  have b0 : Below w.heap.size w W0 := by rw [← hW0]; exact ba.setCell (by simp) _
  have j0 : JG w (false, (0, 0, 0)) W0 := by
    rw [← hW0]
    refine ⟨(Below.heap_setCell _ _ _ _ (by simp)).trans ja.bt, (Below.heap_setCell _ _ _ _ (by simp)).trans ja.rs, (Below.heap_setCell _ _ _ _ (by simp)).trans ja.bs, ?_, ba.setCell (by simp) _⟩
    have := heap_setCell_same _ _ 0 _ _ (.bool false) ja.fd
    simpa using this
  have ca := cell_at ja.fd 0
  have za := thaw_at ja.fd 0
  simp only [List.getElem?_toArray, List.getElem?_cons_zero] at ca
  clear hza ja ba
  have HZ : Hid (W0.heap.size = w.heap.size + 4) := hz
  have hsq0 := hsq.at b0
  have hbx0 : bx < W0.heap.size := by omega
  clear hsq hz
  refine callsIn_of_wp_marks Try.func24 rfl trivial ?_ rfl
  simp only [Try.ntmps24, List.size_toArray, List.length_cons, List.length_nil, Nat.reduceAdd, Nat.reduceSub, Array.replicate_succ, Array.replicate_zero, List.push_toArray, List.append_toArray, List.nil_append, List.cons_append]
  gi_wp2
  simp only [Nat.add_assoc, Nat.reduceAdd]
  gi_wp2
  refine wp_rangeE (kb := 0) (gf := 47) (lb := #[.pointer (some ⟨b1, 0, none⟩), .pointer (some ⟨b2, 0, none⟩)]) rfl (enters_of Try.func47 (by kernel_rfl) rfl)
    hsq0 hbx0 (fun _ => rfl)
    (fun pre W => JG w (pre.foldl gst (false, (0, 0, 0))) W)
    (fun _ _ _ => False)
    (fun s X Y row hs hg hr => JG.own b0.size _ X Y row hs hg hr)
    (fun _ _ _ _ _ hs _ _ => hs)
    j0 (fun _ _ h => hE _ h.be)
    (fun x a' W => ∃ B, a' = { tmps := #[.func (.func 47) #[] #[.pointer (some ⟨b1, 0, none⟩), .pointer (some ⟨b2, 0, none⟩)], .func (.func 15) #[] #[], undef, .pointer (some ⟨w.heap.size, 0, none⟩), .pointer (some ⟨w.heap.size + 1, 0, none⟩), .pointer (some ⟨w.heap.size + 2, 0, none⟩), .pointer (some ⟨w.heap.size + 3, 0, none⟩), .pointer (some ⟨B, 0, none⟩), .func (.func 47) #[] #[.pointer (some ⟨b1, 0, none⟩), .pointer (some ⟨b2, 0, none⟩)], nt x.1 x.2.1 x.2.2, undef, undef, undef, undef, undef, undef, undef, undef, undef, undef], defers := [] } ∧ NB W B x.1 x.2.1 x.2.2)
    (fun x a' s X Y row hs hg hr => by
      obtain ⟨B, e, hn⟩ := hs
      exact ⟨B, e, (grownBy_keeps_cells hg (fun r q => (hr r q).2) hn rfl).trans hn⟩) ?assign ?body ?done ?stop
  case assign =>
    rintro l2 pre ⟨o, t, k⟩ W K hi hsz hK
    unfold nt
    gi_wp2
    exact hK _ _ (Kept.below (al1 _ _) (by have := HZ.out; omega) (by omega)) (hi.carry (al1 _ _)) ⟨_, rfl, NB.new _ _ _ _⟩
  case body =>
    rintro l2 pre ⟨o, t, k⟩ a' W hi ⟨B, rfl, hn⟩ hsz hpr
    obtain ⟨s, hs⟩ : ∃ s, pre.foldl gst (false, (0, 0, 0)) = s := ⟨_, rfl⟩
    have HP : Hid ((pre ++ [(o, t, k)]).foldl gst (false, (0, 0, 0)) = gst s (o, t, k)) := by show _ = _; rw [gst_snoc, hs]
    rw [hs] at hi
    clear hs
    obtain ⟨f, o', t', k'⟩ := s
    have n0 := hn.c0
    have n1 := hn.c1
    have n2 := hn.c2
    have m0 := hi.bs.c0
    have m1 := hi.bs.c1
    have m2 := hi.bs.c2
    have z0 := hi.bs.thaw 0
    have z1 := hi.bs.thaw 1
    have z2 := hi.bs.thaw 2
    have cb := cell_at hi.bt 0
    have cf := cell_at hi.fd 0
    have zf := thaw_at hi.fd 0
    simp only [List.getElem?_toArray, List.getElem?_cons_zero] at cb cf
    dsimp only at n0 n1 n2 m0 m1 m2
    cases f with
    | false =>
      have HS : Hid (gst (false, (o', t', k')) (o, t, k) = (true, (o, t, k))) := by show _ = _; simp [gst]
      gi_wp2
      refine ⟨fun f e => (by cases e), ?_⟩
      gi_wp2
      refine ⟨JG.kept hbx (by have := HZ.out; omega) o t k, ?_⟩
      show JG w (List.foldl gst (false, 0, 0, 0) (pre ++ [(o, t, k)])) _
      rw [HP.out, HS.out]
      exact hi.turn o t k
    | true =>
      have hc := beats_any o t k o' t' k' W
      have HS : Hid (gst (true, (o', t', k')) (o, t, k) = if bt o t k o' t' k' = true then (true, (o, t, k)) else (true, (o', t', k'))) := by show _ = _; simp [gst, btx]
      generalize bt o t k o' t' k' = b at hc HS
      unfold nt at hc
      gi_wp2
      refine ⟨trivial, rfl, ?_⟩
      refine (callsIn_wide.2 hc).mono ?_
      rintro e u1 ⟨rfl, hb1⟩
      have hi1 := hi.carry hb1
      have hn1 := hn.carry hb1
      have p0 := hn1.c0
      have p1 := hn1.c1
      have p2 := hn1.c2
      have q0 := hi1.bs.c0
      have q1 := hi1.bs.c1
      have q2 := hi1.bs.c2
      have y0 := hi1.bs.thaw 0
      have y1 := hi1.bs.thaw 1
      have y2 := hi1.bs.thaw 2
      have cf1 := cell_at hi1.fd 0
      have zf1 := thaw_at hi1.fd 0
      simp only [List.getElem?_toArray, List.getElem?_cons_zero] at cf1
      have hk1 : Kept bx W0.heap.size (m + 2) W u1 := Kept.below hb1 (by have := HZ.out; omega) (by omega)
      cases b with
      | false =>
        gi_wp2
        refine ⟨hk1, ?_⟩
        show JG w (List.foldl gst (false, 0, 0, 0) (pre ++ [(o, t, k)])) _
        rw [HP.out, HS.out]
        exact hi1
      | true =>
        gi_wp2
        refine ⟨hk1.trans (JG.kept hbx (by have := HZ.out; omega) o t k), ?_⟩
        show JG w (List.foldl gst (false, 0, 0, 0) (pre ++ [(o, t, k)])) _
        rw [HP.out, HS.out]
        exact hi1.turn o t k
  case done =>
    rintro W hi hK
    obtain ⟨s, hs⟩ : ∃ s, xs.foldl gst (false, (0, 0, 0)) = s := ⟨_, rfl⟩
    have HP : Hid (grt xs = s.2) := by show _ = _; rw [grt, hs]
    rw [hs] at hi
    clear hs
    obtain ⟨f, o', t', k'⟩ := s
    have m0 := hi.bs.c0
    have m1 := hi.bs.c1
    have m2 := hi.bs.c2
    have r0 := hi.rs.c0
    have r1 := hi.rs.c1
    have r2 := hi.rs.c2
    have z0 := hi.rs.thaw 0
    have z1 := hi.rs.thaw 1
    have z2 := hi.rs.thaw 2
    dsimp only at m0 m1 m2
    gi_wp2
    have hK2 : (W3 W (w.heap.size + 1) o' t' k').heap[W0.heap.size]? = some (.deferred (some [])) := by
      have := HZ.out
      unfold W3
      rw [Below.heap_setCell _ _ _ _ (by simp only; omega), Below.heap_setCell _ _ _ _ (by simp only; omega), Below.heap_setCell _ _ _ _ (by simp only; omega)]
      exact hK
    refine ⟨by simp, .inl ⟨_, _, rfl, run_takeDeferred hK2, ?_⟩⟩
    have hr := NB.set hi.rs o' t' k'
    have hr2 : NB ((W3 W (w.heap.size + 1) o' t' k').putObj W0.heap.size (.deferred none)) (w.heap.size + 1) o' t' k' := (World.putObj_heap_other (by have := HZ.out; omega)).trans hr
    have f0 := hr2.c0
    have f1 := hr2.c1
    have f2 := hr2.c2
    unfold W3 at f0 f1 f2
    exact ⟨nt o' t' k', by simp [results, Try.results24, asAddr, go_sem, f0, f1, f2, nt], by rw [HP.out], below_taken _ (below3 hi.be (by omega) o' t' k') b0.size⟩
  case stop =>
    rintro c pre W _ h _
    exact h.elim
end Go.Proofs.Ytddblfffjhoiaaa
