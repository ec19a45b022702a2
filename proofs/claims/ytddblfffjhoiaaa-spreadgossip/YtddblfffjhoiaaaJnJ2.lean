/- spread.Level: what it answers, at any books, nil ones too. -/
import Derived.Test.YtddblfffjhoiaaaJnJ1
namespace Go.Proofs.Ytddblfffjhoiaaa
open Go.RowKit Go.Shelf Go.Lib
attribute [local go_sem] Oper.semAt_some

set_option maxHeartbeats 4000000 in
set_option maxRecDepth 100000 in
theorem said_seq {w : World} (bi bb bx : Nat) (id : Int) (ad : Option Addr) (cap : Nat) (vs : List Value) (ls : List (List N3)) (hl : ls.length ≤ 1000000) (hs : BxP w bb (.slice ad ls.length cap)) :
    SeqE Try.prog (fun W => BVs W ad vs ls ∧ W.heap[bi]? = some (.cells #[.int .i64 id] 3 (0, 0))) 47 #[.pointer (some ⟨bb, 0, none⟩), .pointer (some ⟨bi, 0, none⟩)] (fun x : N3 => #[nt x.1 x.2.1 x.2.2]) bx 0 (ls.map (fun l => atN l id)) w := by
  intro ll J Jx W hW hJ hJx hE hY h0
  have hb0 : BxP W bb (.slice ad ls.length cap) := (hW.block _ (lt_at hs)).trans hs
  have c0 := cell_at hb0 0
  simp at c0
  obtain ⟨n, hn⟩ : ∃ n, ls.length = n := ⟨_, rfl⟩
  have HN : Hid (ls.length = n) := hn
  rw [hn] at c0 hl
  clear hn hb0 hs
  refine callsIn_of_wp Try.func47 rfl trivial ?_ rfl
  simp only [Try.ntmps47, List.size_toArray, List.length_cons, List.length_nil, Nat.reduceAdd, Nat.reduceSub, Array.replicate_succ, Array.replicate_zero, List.push_toArray, List.append_toArray, List.nil_append, List.cons_append]
  gi_wp2
  gi_loopw [10] (fun c wz => ∃ k : Nat, c = .int .i64 k ∧ k ≤ n ∧ J ((ls.map (fun l => atN l id)).take k) wz ∧ W.heap.size ≤ wz.heap.size) (fun c _ => n - vnat c)
  case atStart => exact ⟨0, rfl, Nat.zero_le _, h0, Nat.le_refl _⟩
  case round =>
    obtain ⟨k, rfl, hk, hj, hsz⟩ := hrel
    by_cases hkl : k < n
    · have hki : (k : Int) < (n : Int) := by omega
      obtain ⟨l, hx⟩ : ∃ x, ls[k]? = some x := ⟨_, List.getElem?_eq_getElem (by rw [HN.out]; exact hkl)⟩
      obtain ⟨hbv, hid⟩ := hE _ _ hj
      obtain ⟨v, gb, off, _, hv, rfl, hc, _⟩ := hbv.at hx
      obtain ⟨a, rfl⟩ := hv.ptr
      have ci : wr.cell? ⟨bi, 0, none⟩ = some (.int .i64 id) := cell_at hid 0
      have ha := atW_any hv id
      have HT : Hid ((ls.map (fun l => atN l id)).take (k + 1) = (ls.map (fun l => atN l id)).take k ++ [atN l id]) := by
        show _ = _
        rw [List.take_add_one, List.getElem?_map, hx]
        rfl
      generalize atE l id = E at ha
      generalize atN l id = y at ha HT
      obtain ⟨o, t, q⟩ := y
      unfold nt at ha
      dsimp only at ha
      clear hx hbv hid hv hE
      gi_wp2
      with_reducible (refine And.intro (wfn _) (And.intro wdep ?_))
      refine (callsIn_wide.2 ha).mono ?_
      rintro e u1 ⟨rfl, hb1⟩
      have hj1 : J ((ls.map (fun l => atN l id)).take k) (u1.alloc (.cells #[.int .i64 o, .int .i64 t, .int .i64 q] 32)) := hJ.alloc _ (own_below hJ hj hb1)
      have hsb := hb1.size
      have hyl := hY _ (o, t, q) _ hj1 (by simp; omega) (by rw [← HT.out]; exact List.take_prefix _ _)
      obtain ⟨fn, tmps, assign, body, hy, hR⟩ := hyl
      unfold nt at hy
      clear hY
      gi_wp2
      refine ⟨rfl, hR.mono ?_⟩
      rintro e' W3 ⟨hkp, (⟨rfl, hj3⟩ | ⟨rfl, hjx⟩)⟩
      · have hsz3 := hkp.size
        gi_wp2
        go_roundw
        case rel => exact ⟨k + 1, by simp, by omega, by rw [HT.out]; exact hj3, by simp at hsz3; omega⟩
        case measure => simp [vnat]; omega
      · gi_wp2
        refine bodyPost_ret (results_none rfl _ _ _) rfl ?_
        exact ⟨⟨_, rfl⟩, .inr ⟨_, by rw [← HT.out]; exact List.take_prefix _ _, hjx⟩⟩
    · have hkk : k = n := by omega
      subst hkk
      rw [List.take_of_length_le (by rw [List.length_map, HN.out]; exact Nat.le_refl _)] at hj
      gi_wp2
      go_end0
      exact ⟨⟨_, rfl⟩, .inl hj⟩
set_option maxHeartbeats 1000000 in
theorem said_any (w : World) (id : Int) (ad : Option Addr) (n cap : Nat) : Calls Try.prog 25 #[.int .i64 id, .slice ad n cap] w fun e w' => e = .returned (.func (.func 47) #[] #[.pointer (some ⟨w.heap.size + 1, 0, none⟩), .pointer (some ⟨w.heap.size, 0, none⟩)]) ∧ BxP w' (w.heap.size + 1) (.slice ad n cap) ∧ w'.heap[w.heap.size]? = some (.cells #[.int .i64 id] 3 (0, 0)) ∧ Below w.heap.size w w' := by
  go_enter Try.func25, Try.ntmps25
  go_wp2
  go_ret
  exact ⟨rfl, new_at (by simp), old_at (new_at rfl), al2 _ _ _⟩
/-- The greatest so far. -/
def gst (s : Bool × N3) (x : N3) : Bool × N3 := if s.1 = false ∨ btx x s.2 = true then (true, x) else s
def grt (xs : List N3) : N3 := (xs.foldl gst (false, (0, 0, 0))).2
theorem gst_snoc (pre : List N3) (x : N3) : (pre ++ [x]).foldl gst (false, (0, 0, 0)) = gst (pre.foldl gst (false, (0, 0, 0))) x := by simp
/-- What holds while the greatest is looked for. -/
structure JG (w : World) (s : Bool × N3) (W : World) : Prop where
  bt : W.heap[w.heap.size]? = some (.cells #[.func (.func 15) #[] #[]] 42 (0, 0))
  rs : NB W (w.heap.size + 1) 0 0 0
  bs : NB W (w.heap.size + 2) s.2.1 s.2.2.1 s.2.2.2
  fd : W.heap[w.heap.size + 3]? = some (.cells #[.bool s.1] 4 (0, 0))
  be : Below w.heap.size w W
theorem JG.carry {w W V : World} {s : Bool × N3} (h : JG w s W) (hb : Below W.heap.size W V) : JG w s V := ⟨(hb.block _ (lt_at h.bt)).trans h.bt, h.rs.carry hb, h.bs.carry hb, (hb.block _ (lt_at h.fd)).trans h.fd, bel2 h.be hb⟩
theorem JG.own {w W0 : World} (h0 : w.heap.size ≤ W0.heap.size) : OwnFrom W0.heap.size (fun (s : Bool × N3) W => JG w s W) := fun s X Y row hs hg hr => by
  have hc : ∀ {k : Nat} {o : Obj}, X.heap[k]? = some o → o.isCells = true → Y.heap[k]? = some o := fun h1 h2 => (grownBy_keeps_cells hg (fun r q => (hr r q).2) h1 h2).trans h1
  exact ⟨hc hs.bt rfl, hc hs.rs rfl, hc hs.bs rfl, hc hs.fd rfl, hs.be.grown hg hs.be.size (fun k e => Nat.le_trans h0 (hr k e).1)⟩
theorem JG.turn {w W : World} {s : Bool × N3} (h : JG w s W) (o t k : Int) : JG w (true, (o, t, k)) ((W3 W (w.heap.size + 2) o t k).setCell ⟨w.heap.size + 3, 0, none⟩ (.bool true)) := by
  have e3 : ∀ b, b ≠ w.heap.size + 2 → b ≠ w.heap.size + 3 → ((W3 W (w.heap.size + 2) o t k).setCell ⟨w.heap.size + 3, 0, none⟩ (.bool true)).heap[b]? = W.heap[b]? := fun b h2 h3 => by
    unfold W3
    rw [Below.heap_setCell _ _ _ _ h3, Below.heap_setCell _ _ _ _ h2, Below.heap_setCell _ _ _ _ h2, Below.heap_setCell _ _ _ _ h2]
  have e4 : (W3 W (w.heap.size + 2) o t k).heap[w.heap.size + 3]? = some (.cells #[.bool s.1] 4 (0, 0)) := by
    unfold W3
    rw [Below.heap_setCell _ _ _ _ (by simp), Below.heap_setCell _ _ _ _ (by simp), Below.heap_setCell _ _ _ _ (by simp)]
    exact h.fd
  refine ⟨(e3 _ (by omega) (by omega)).trans h.bt, (e3 _ (by omega) (by omega)).trans h.rs, (Below.heap_setCell _ _ _ _ (by simp)).trans (NB.set h.bs o t k), ?_, (below3 h.be (by omega) o t k).setCell (by simp) _⟩
  have := heap_setCell_same _ _ 0 _ _ (.bool true) e4
  simpa using this
theorem JG.kept {w W : World} {bx B m : Nat} (hbx : bx < w.heap.size) (hB : w.heap.size + 4 ≤ B) (o t k : Int) : Kept bx B m W ((W3 W (w.heap.size + 2) o t k).setCell ⟨w.heap.size + 3, 0, none⟩ (.bool true)) :=
  (((Kept.setCell (by omega) (.inl (by omega))).trans (Kept.setCell (by omega) (.inl (by omega)))).trans (Kept.setCell (by omega) (.inl (by omega)))).trans (Kept.setCell (by omega) (.inl (by omega)))
set_option maxHeartbeats 4000000 in
set_option maxRecDepth 100000 in
theorem great_in {w : World} {xs : List N3} {Ext : World → Prop} {bx m : Nat} (b1 b2 : Nat) (hsq : SeqE Try.prog Ext 47 #[.pointer (some ⟨b1, 0, none⟩), .pointer (some ⟨b2, 0, none⟩)] (fun x : N3 => #[nt x.1 x.2.1 x.2.2]) bx m xs w) (hbx : bx < w.heap.size) (hE : ∀ W, Below w.heap.size w W → Ext W) :
    CallsIn Fence.wide 0 Try.prog 24 #[.func (.func 47) #[] #[.pointer (some ⟨b1, 0, none⟩), .pointer (some ⟨b2, 0, none⟩)], .func (.func 15) #[] #[]] w fun e w' => e = .returned (nt (grt xs).1 (grt xs).2.1 (grt xs).2.2) ∧ Below w.heap.size w w' := by
  obtain ⟨Wa, hWa⟩ : ∃ Wa, (((w.alloc (.cells #[.func (.func 15) #[] #[]] 42)).alloc (.cells #[.int .i64 0, .int .i64 0, .int .i64 0] 32)).alloc (.cells #[.int .i64 0, .int .i64 0, .int .i64 0] 32)).alloc (.cells #[.bool false] 4) = Wa := ⟨_, rfl⟩
  have hza : Wa.heap.size = w.heap.size + 4 := by rw [← hWa]; simp
  have ba : Below w.heap.size w Wa := by rw [← hWa]; exact (((al1 _ _).alloc (by simp) _).alloc (by simp; omega) _).alloc (by simp; omega) _
  have ja : JG w (false, (0, 0, 0)) Wa := ⟨by rw [← hWa]; exact old_at (old_at (old_at (new_at rfl))), by rw [← hWa]; exact old_at (old_at (new_at (by simp))), by rw [← hWa]; exact old_at (new_at (by simp)), by rw [← hWa]; exact new_at (by simp), ba⟩
  obtain ⟨W0, hW0⟩ : ∃ W0, Wa.setCell ⟨w.heap.size + 3, 0, none⟩ (.bool false) = W0 := ⟨_, rfl⟩
  have hz : W0.heap.size = w.heap.size + 4 := by rw [← hW0]; simpa using hza
  have b0 : Below w.heap.size w W0 := by rw [← hW0]; exact ba.setCell (by simp) _
  have j0 : JG w (false, (0, 0, 0)) W0 := by
    rw [← hW0]
    refine ⟨(Below.heap_setCell _ _ _ _ (by simp)).trans ja.bt, (Below.heap_setCell _ _ _ _ (by simp)).trans ja.rs, (Below.heap_setCell _ _ _ _ (by simp)).trans ja.bs, ?_, ba.setCell (by simp) _⟩
    have := heap_setCell_same _ _ 0 _ _ (.bool false) ja.fd
    simpa using this
  have ca := cell_at ja.fd 0
  have za := thaw_at ja.fd 0
  simp only [List.getElem?_toArray, List.getElem?_cons_zero] at ca
  clear hza ja ba
  have HZ : Hid (W0.heap.size = w.heap.size + 4) := hz
  have hsq0 := hsq.at b0
  have hbx0 : bx < W0.heap.size := by omega
  clear hsq hz
  refine callsIn_of_wp_marks Try.func24 rfl trivial ?_ rfl
  simp only [Try.ntmps24, List.size_toArray, List.length_cons, List.length_nil, Nat.reduceAdd, Nat.reduceSub, Array.replicate_succ, Array.replicate_zero, List.push_toArray, List.append_toArray, List.nil_append, List.cons_append]
  gi_wp2
  simp only [Nat.add_assoc, Nat.reduceAdd]
  gi_wp2
  refine wp_rangeE (kb := 0) (gf := 47) (lb := #[.pointer (some ⟨b1, 0, none⟩), .pointer (some ⟨b2, 0, none⟩)]) rfl (enters_of Try.func47 (by kernel_rfl) rfl)
    hsq0 hbx0 (fun _ => rfl)
    (fun pre W => JG w (pre.foldl gst (false, (0, 0, 0))) W)
    (fun _ _ _ => False)
    (fun s X Y row hs hg hr => JG.own b0.size _ X Y row hs hg hr)
    (fun _ _ _ _ _ hs _ _ => hs)
    j0 (fun _ _ h => hE _ h.be)
    (fun x a' W => ∃ B, a' = { tmps := #[.func (.func 47) #[] #[.pointer (some ⟨b1, 0, none⟩), .pointer (some ⟨b2, 0, none⟩)], .func (.func 15) #[] #[], undef, .pointer (some ⟨w.heap.size, 0, none⟩), .pointer (some ⟨w.heap.size + 1, 0, none⟩), .pointer (some ⟨w.heap.size + 2, 0, none⟩), .pointer (some ⟨w.heap.size + 3, 0, none⟩), .pointer (some ⟨B, 0, none⟩), .func (.func 47) #[] #[.pointer (some ⟨b1, 0, none⟩), .pointer (some ⟨b2, 0, none⟩)], nt x.1 x.2.1 x.2.2, undef, undef, undef, undef, undef, undef, undef, undef, undef, undef], defers := [] } ∧ NB W B x.1 x.2.1 x.2.2)
    (fun x a' s X Y row hs hg hr => by
      obtain ⟨B, e, hn⟩ := hs
      exact ⟨B, e, (grownBy_keeps_cells hg (fun r q => (hr r q).2) hn rfl).trans hn⟩) ?assign ?body ?done ?stop
  case assign =>
    rintro l2 pre ⟨o, t, k⟩ W K hi hsz hK
    unfold nt
    gi_wp2
    exact hK _ _ (Kept.below (al1 _ _) (by have := HZ.out; omega) (by omega)) (hi.carry (al1 _ _)) ⟨_, rfl, NB.new _ _ _ _⟩
  case body =>
    rintro l2 pre ⟨o, t, k⟩ a' W hi ⟨B, rfl, hn⟩ hsz hpr
    obtain ⟨s, hs⟩ : ∃ s, pre.foldl gst (false, (0, 0, 0)) = s := ⟨_, rfl⟩
    have HP : Hid ((pre ++ [(o, t, k)]).foldl gst (false, (0, 0, 0)) = gst s (o, t, k)) := by show _ = _; rw [gst_snoc, hs]
    rw [hs] at hi
    clear hs
    obtain ⟨f, o', t', k'⟩ := s
    have n0 := hn.c0
    have n1 := hn.c1
    have n2 := hn.c2
    have m0 := hi.bs.c0
    have m1 := hi.bs.c1
    have m2 := hi.bs.c2
    have z0 := hi.bs.thaw 0
    have z1 := hi.bs.thaw 1
    have z2 := hi.bs.thaw 2
    have cb := cell_at hi.bt 0
    have cf := cell_at hi.fd 0
    have zf := thaw_at hi.fd 0
    simp only [List.getElem?_toArray, List.getElem?_cons_zero] at cb cf
    dsimp only at n0 n1 n2 m0 m1 m2
    cases f with
    | false =>
      have HS : Hid (gst (false, (o', t', k')) (o, t, k) = (true, (o, t, k))) := by show _ = _; simp [gst]
      gi_wp2
      refine ⟨fun f e => (by cases e), ?_⟩
      gi_wp2
      refine ⟨JG.kept hbx (by have := HZ.out; omega) o t k, ?_⟩
      show JG w (List.foldl gst (false, 0, 0, 0) (pre ++ [(o, t, k)])) _
      rw [HP.out, HS.out]
      exact hi.turn o t k
    | true =>
      have hc := beats_any o t k o' t' k' W
      have HS : Hid (gst (true, (o', t', k')) (o, t, k) = if bt o t k o' t' k' = true then (true, (o, t, k)) else (true, (o', t', k'))) := by show _ = _; simp [gst, btx]
      generalize bt o t k o' t' k' = b at hc HS
      unfold nt at hc
      gi_wp2
      refine ⟨trivial, rfl, ?_⟩
      refine (callsIn_wide.2 hc).mono ?_
      rintro e u1 ⟨rfl, hb1⟩
      have hi1 := hi.carry hb1
      have hn1 := hn.carry hb1
      have p0 := hn1.c0
      have p1 := hn1.c1
      have p2 := hn1.c2
      have q0 := hi1.bs.c0
      have q1 := hi1.bs.c1
      have q2 := hi1.bs.c2
      have y0 := hi1.bs.thaw 0
      have y1 := hi1.bs.thaw 1
      have y2 := hi1.bs.thaw 2
      have cf1 := cell_at hi1.fd 0
      have zf1 := thaw_at hi1.fd 0
      simp only [List.getElem?_toArray, List.getElem?_cons_zero] at cf1
      have hk1 : Kept bx W0.heap.size (m + 2) W u1 := Kept.below hb1 (by have := HZ.out; omega) (by omega)
      cases b with
      | false =>
        gi_wp2
        refine ⟨hk1, ?_⟩
        show JG w (List.foldl gst (false, 0, 0, 0) (pre ++ [(o, t, k)])) _
        rw [HP.out, HS.out]
        exact hi1
      | true =>
        gi_wp2
        refine ⟨hk1.trans (JG.kept hbx (by have := HZ.out; omega) o t k), ?_⟩
        show JG w (List.foldl gst (false, 0, 0, 0) (pre ++ [(o, t, k)])) _
        rw [HP.out, HS.out]
        exact hi1.turn o t k
  case done =>
    rintro W hi hK
    obtain ⟨s, hs⟩ : ∃ s, xs.foldl gst (false, (0, 0, 0)) = s := ⟨_, rfl⟩
    have HP : Hid (grt xs = s.2) := by show _ = _; rw [grt, hs]
    rw [hs] at hi
    clear hs
    obtain ⟨f, o', t', k'⟩ := s
    have m0 := hi.bs.c0
    have m1 := hi.bs.c1
    have m2 := hi.bs.c2
    have r0 := hi.rs.c0
    have r1 := hi.rs.c1
    have r2 := hi.rs.c2
    have z0 := hi.rs.thaw 0
    have z1 := hi.rs.thaw 1
    have z2 := hi.rs.thaw 2
    dsimp only at m0 m1 m2
    gi_wp2
    have hK2 : (W3 W (w.heap.size + 1) o' t' k').heap[W0.heap.size]? = some (.deferred (some [])) := by
      have := HZ.out
      unfold W3
      rw [Below.heap_setCell _ _ _ _ (by simp only; omega), Below.heap_setCell _ _ _ _ (by simp only; omega), Below.heap_setCell _ _ _ _ (by simp only; omega)]
      exact hK
    refine ⟨by simp, .inl ⟨_, _, rfl, run_takeDeferred hK2, ?_⟩⟩
    have hr := NB.set hi.rs o' t' k'
    have hr2 : NB ((W3 W (w.heap.size + 1) o' t' k').putObj W0.heap.size (.deferred none)) (w.heap.size + 1) o' t' k' := (World.putObj_heap_other (by have := HZ.out; omega)).trans hr
    have f0 := hr2.c0
    have f1 := hr2.c1
    have f2 := hr2.c2
    unfold W3 at f0 f1 f2
    exact ⟨nt o' t' k', by simp [results, Try.results24, asAddr, go_sem, f0, f1, f2, nt], by rw [HP.out], below_taken _ (below3 hi.be (by omega) o' t' k') b0.size⟩
  case stop =>
    rintro c pre W _ h _
    exact h.elim
end Go.Proofs.Ytddblfffjhoiaaa
namespace Go.Proofs.Ytddblfffjhoiaaa
open Go.RowKit Go.Shelf Go.Lib
attribute [local go_sem] Oper.semAt_some

/-- The greatest of a node. -/
def lvA (ls : List (List N3)) (i : Nat) : N3 := grt (ls.map fun l => atN l (i : Int))
def lvs (ls : List (List N3)) (n : Nat) : List N3 := (List.range n).map (lvA ls)
/-- What Level tells. -/
def lvl (ls : List (List N3)) : List N3 := if ls ≠ [] ∧ ones ls = true then lvs ls (ls.headD []).length else []
def lvE (ls : List (List N3)) : Int := if ls ≠ [] ∧ ones ls = true then 0 else 1
theorem lvs_len (ls : List (List N3)) (n : Nat) : (lvs ls n).length = n := by simp [lvs]
theorem lvs_succ (ls : List (List N3)) (n : Nat) : lvs ls (n + 1) = lvs ls n ++ [lvA ls n] := by simp [lvs, List.range_succ]
set_option maxHeartbeats 4000000 in
set_option maxRecDepth 100000 in
theorem level_any {w : World} (ad : Option Addr) (cap : Nat) (vs : List Value) (ls : List (List N3)) (h : BVs w ad vs ls) (hl : ls.length ≤ 1000000) : Calls Try.prog 10 #[.slice ad ls.length cap] w fun e w' => ∃ v, e = .returned (.tuple #[v, .int .i64 (lvE ls)]) ∧ Made w w' v (lvl ls) ∧ Below w.heap.size w w' := by
  obtain ⟨ic, hic, hz0, hz1, hz2⟩ := info_partsN
  cases hls : ls with
  | nil =>
    have e1 : lvE ([] : List (List N3)) = 1 := by simp [lvE]
    have e2 : lvl ([] : List (List N3)) = [] := by simp [lvl]
    rw [e1, e2]
    clear h hl hls
    go_enter Try.func10, Try.ntmps10
    go_wp2
    go_ret2
    exact ⟨_, rfl, World.ownsRow_nil _ _ _ _, Below.refl _ _⟩
  | cons l0 lt =>
    have hne : ls ≠ [] := by rw [hls]; simp
    have h0 : 0 < ls.length := by rw [hls]; simp
    have hhd : ls.headD [] = l0 := by rw [hls]; rfl
    have hg0 : ls[0]? = some l0 := by rw [hls]; rfl
    rw [← hls]
    have ho := one_any ad cap vs ls h h0 hl
    have HE : Hid (lvE ls = if ones ls = true then 0 else 1) := by show _ = _; simp [lvE, hne]
    have HL : Hid (lvl ls = if ones ls = true then lvs ls l0.length else []) := by
      show _ = _
      unfold lvl
      rw [hhd]
      simp [hne]
    obtain ⟨K, hK⟩ : ∃ K, ls.length = K := ⟨_, rfl⟩
    have HK : Hid (ls.length = K) := hK
    have HB : Hid (BVs w ad vs ls) := h
    rw [hK] at h0 hl ho ⊢
    have hki : ((K : Int) == 0) = false := by
      rw [beq_eq_false_iff_ne]
      omega
    clear hls hne hhd hK h
    generalize ones ls = B at ho HE HL
    cases B with
    | false =>
      clear hg0
      go_enter Try.func10, Try.ntmps10
      go_wp2_with (go_at_call 22; (with_reducible refine ho.mono ?_); rintro e u1 ⟨rfl, hb1⟩)
      go_ret2
      rw [HE.out, HL.out]
      exact ⟨_, rfl, World.ownsRow_nil _ _ _ _, hb1⟩
    | true =>
      obtain ⟨v0, gb, off, _, hv0, rfl, hc0, hgl⟩ := HB.out.at hg0
      obtain ⟨a0, rfl⟩ := hv0.ptr
      have hn0 := hv0.len
      have hsz := fun (W : World) (hW : Below w.heap.size w W) => sizeV_any (hv0.carry hW)
      rw [Nat.add_zero] at hc0
      clear hg0 hv0
      obtain ⟨N, hN⟩ : ∃ N, l0.length = N := ⟨_, rfl⟩
      rw [hN] at hsz hn0 HL
      clear hN
      go_enter Try.func10, Try.ntmps10
      go_wp2_with (first | (go_at_call 22; (with_reducible refine ho.mono ?_); rintro e u1 ⟨rfl, hb1⟩; have hc1 : u1.cell? ⟨gb, off, none⟩ = some (.pointer a0) := (hb1.cell (p := ⟨gb, _, none⟩) hgl).trans hc0; have hs1 := hsz _ hb1; clear hsz) | (go_at_call 23; (with_reducible refine hs1.mono ?_); rintro e u2 ⟨rfl, hb2⟩; have hbb : Below w.heap.size w u2 := bel2 hb1 hb2))
      go_loopw [4, 18] (fun c i wz => ∃ (k : Nat), i = .int .i64 k ∧ k ≤ N ∧ wz.ownsRow w.heap.size 32 3 c k (fl (lvs ls k)) ∧ Below w.heap.size w wz) (fun _ i _ => N - vnatR i)
      case atStart => exact ⟨0, rfl, Nat.zero_le _, World.ownsRow_nil _ _ _ _, hbb⟩
      case round =>
        obtain ⟨k, rfl, hk, hrow, hbr⟩ := hrel
        by_cases hkl : k < N
        · have hki : (k : Int) < (N : Int) := by omega
          have hsd := said_any wr (k : Int) (some ⟨gb, off, none⟩) K cap
          have HS : Hid (lvs ls (k + 1) = lvs ls k ++ [lvA ls k]) := lvs_succ ls k
          have HA : Hid (lvA ls k = grt (ls.map fun l => atN l (k : Int))) := rfl
          generalize lvA ls k = y at HS HA
          obtain ⟨o, t, q⟩ := y
          go_wp2_with (first | (go_at_call 25; (with_reducible refine hsd.mono ?_); rintro e v1 ⟨rfl, hx1, hi1, hc1'⟩; have hsq := said_seq (w := v1) wr.heap.size (wr.heap.size + 1) wr.heap.size (k : Int) (some ⟨gb, off, none⟩) cap vs ls (by rw [HK.out]; exact hl) (by rw [HK.out]; exact hx1); have hgr := callsIn_wide.1 (great_in (wr.heap.size + 1) wr.heap.size hsq (lt_at hi1) (fun W hW => ⟨((HB.out.carry hbr).carry hc1').carry hW, (hW.block _ (lt_at hi1)).trans hi1⟩)); rw [← HA.out] at hgr; unfold nt at hgr; dsimp only at hgr; clear hsq) | (go_at_call 24; (with_reducible refine hgr.mono ?_); rintro e v2 ⟨rfl, hb3⟩; have hbv : Below wr.heap.size wr v2 := bel2 hc1' hb3; have hrow2 := row_below hrow hbv; have hbr2 := bel2 hbr hbv) | (at_builtin; refine wpList_append_own_at _ rfl _ _ 22 rfl w.heap.size 32 ic _ 3 24 Try.underlying22 hic hz0 hz1 hz2 rfl (by decide) _ k (fl (lvs ls k)) rfl (hrow2.alloc _) ⟨v2.heap.size, 0, none⟩ 1 1 [_, _, _] rfl rfl (rowN _ #[_, _, _] _) (by simp [Value.oneCell']) (by unfold maxLen; omega) (by omega) (Nat.le_trans hbr2.size (by simp)) ?_; intro v' w2 hown' hgrow _ hob))
          go_roundw
          case rel =>
            refine ⟨k + 1, by simp, by omega, ?_, (hbr2.alloc hbr2.size _).grown hgrow (by have := hbr2.size; simp; omega) (fun q hq' => own_block hrow2 q hq')⟩
            rw [HS.out, fl_append]
            exact hown'
          case measure => simp [vnatR]; omega
        · have hkk : k = N := by omega
          subst hkk
          go_wp2
          go_ret2
          rw [HE.out, HL.out]
          refine ⟨_, rfl, ?_, hbr⟩
          show _
          unfold Made
          rw [if_pos trivial, lvs_len]
          exact hrow
end Go.Proofs.Ytddblfffjhoiaaa
namespace Go.Proofs.Ytddblfffjhoiaaa
open Go.RowKit Go.Shelf Go.Lib
attribute [local go_sem] Oper.semAt_some

set_option maxHeartbeats 1000000 in
theorem ride_any {w : World} {p g : Nat} {l : List N3} (h : Bk w p g l) (h0 : 0 < l.length) (h1 : l.length ≤ 100) : Calls Try.prog 17 #[.pointer (some ⟨p, 0, none⟩)] w fun e w' => ∃ v, e = .returned v ∧ Made w w' v (l.filter pNew) ∧ Below w.heap.size w w' := by
  have hn := bnews_any h h0 h1
  go_enter Try.func17, Try.ntmps17
  go_wp2_with (go_at_call 39; (with_reducible refine hn.mono ?_); rintro e u1 ⟨v, rfl, hm, hb1⟩)
  go_ret
  exact ⟨v, rfl, hm, hb1⟩
theorem grown_new {w W V : World} {g : Nat} (hb : Below w.heap.size w W) (hg : W.grownBy V (some g)) (h : w.heap.size ≤ g) : Below w.heap.size w V :=
  hb.trans ⟨hg.os, hg.tape, hg.output, hg.size, fun k hk => hg.block k (Nat.lt_of_lt_of_le hk hb.size) (by simp; omega)⟩
set_option maxHeartbeats 4000000 in
set_option maxRecDepth 100000 in
theorem made_any {w : World} (N s : Nat) (h0 : 1 ≤ N) (h1 : N ≤ 100) (hs : s < N) (ad : Option Addr) (cap : Nat) (l : List N3) (h : RdN w ad l) (hl : l.length ≤ 1000000) : Calls Try.prog 9 #[.int .i64 (N : Int), .int .i64 (s : Int), .slice ad l.length cap] w fun e w' => ∃ p g, e = .returned (.pointer (some ⟨p, 0, none⟩)) ∧ w.heap.size ≤ p ∧ w.heap.size ≤ g ∧ Bk w' p g (mrg (bk0 N s 0) l) ∧ Below w.heap.size w w' := by
  have hn := new_any (N : Int) (s : Int) 0 w
  have HOK : Hid (∀ (V : World) (e : Ending), NewV (N : Int) (s : Int) 0 w e V → ∃ p g, e = .returned (.tuple #[.pointer (some ⟨p, 0, none⟩), .int .i64 0]) ∧ w.heap.size ≤ p ∧ w.heap.size ≤ g ∧ Bk V p g (bk0 N s 0)) := fun V e hV => by simpa using hV.ok (by omega) (by omega) (by omega)
  clear h0 h1 hs
  go_enter Try.func9, Try.ntmps9
  go_wp2_with (first | (go_at_call 20; (with_reducible refine hn.mono ?_); rintro e u1 hV; obtain ⟨p, g, rfl, hp, hg, hk⟩ := HOK.out _ _ hV; have hb1 := hV.1; clear hV; have hm := merge_some hk ad cap l (h.carry hb1) (h.ne hg) (by omega)) | (go_at_call 21; (with_reducible refine hm.mono ?_); rintro e u2 ⟨⟨NN, EE, rfl⟩, hk2, hg2⟩))
  go_ret
  exact ⟨p, g, rfl, hp, hg, hk2, grown_new hb1 hg2 hg⟩
set_option maxHeartbeats 1000000 in
theorem light_any (w : World) (ad : Option Addr) (n cap : Nat) : Calls Try.prog 7 #[.slice ad n cap] w fun e w' => e = .returned (.bool (decide (n ≤ 300))) ∧ w' = w := by
  go_enter Try.func7, Try.ntmps7
  go_wp2
  go_ret
  refine ⟨?_, rfl⟩
  simp
  omega
set_option maxHeartbeats 4000000 in
set_option maxRecDepth 100000 in
theorem alive_any (w : World) : Calls Try.prog 8 #[] w fun e w' => e = .returned (.bool true) ∧ Below w.heap.size w w' := by
  have hn := new_any 3 0 0 w
  have e4 : sv 4 = .agg #[.int .u32 4, .int .u32 0, .int .u32 0, .int .u32 0] := by kernel_rfl
  have hq := eqn4 4 4 (by decide) (by decide)
  rw [e4] at hq
  have HA : Hid (∀ (W : World) (p g B : Nat), Bk W p g (bk0 3 0 0) → NB W B 2 1 1 → Calls Try.prog 13 #[.pointer (some ⟨p, 0, none⟩), .int .i64 0, .slice (some ⟨B, 0, none⟩) 1 1] W fun e w' => e = .returned (.tuple #[.agg #[.int .u32 4, .int .u32 0, .int .u32 0, .int .u32 0], .int .i64 0]) ∧ Bk w' p g [(0, 0, 1), (1, 0, 1), (2, 1, 1)] ∧ W.grownBy w' (some g)) := fun W p g B h hB => by
    have hr : RdN W (some ⟨B, 0, none⟩) [((2 : Int), (1 : Int), (1 : Int))] := fun _ => ⟨B, 0, rfl, lt_at hB, fun k x hk => by
      match k, hk with
      | 0, hk => cases hk; exact ⟨hB.c0, hB.c1, hB.c2⟩
      | k + 1, hk => simp at hk⟩
    have := absorb_any h 0 (some ⟨B, 0, none⟩) 1 _ hr (by simp)
    have e1 : abs (bk0 3 0 0) 0 [(2, 1, 1)] = [(0, 0, 1), (1, 0, 1), (2, 1, 1)] := by decide
    have e2 : abr (bk0 3 0 0) 0 [(2, 1, 1)] = 4 := by decide
    have e3 : (if ([((2 : Int), (1 : Int), (1 : Int))]).all (vlx (bk0 3 0 0).length) = true then (0 : Int) else 50) = 0 := by decide
    rw [e1, e2, e3, e4] at this
    exact this
  have HR : Hid (∀ (W : World) (p g : Nat), Bk W p g [(0, 0, 1), (1, 0, 1), (2, 1, 1)] → Calls Try.prog 17 #[.pointer (some ⟨p, 0, none⟩)] W fun e w' => ∃ B cap, e = .returned (.slice (some ⟨B, 0, none⟩) 1 cap) ∧ w'.cell? ⟨B, 0, none⟩ = some (.int .i64 2) ∧ Below W.heap.size W w') := fun W p g h => (ride_any h (by decide) (by decide)).mono (by
    rintro e w' ⟨v, rfl, hm, hb⟩
    have e1 : ([((0 : Int), (0 : Int), (1 : Int)), (1, 0, 1), (2, 1, 1)]).filter pNew = [(2, 1, 1)] := by decide
    rw [e1] at hm
    obtain ⟨B, cap, rfl⟩ := ownsRow_succ hm
    exact ⟨B, cap, rfl, by have := (nts_own hm rfl 0 _ rfl).1; simpa using this, hb⟩)
  go_enter Try.func8, Try.ntmps8
  go_wp2_with (first | (go_at_call 20; (with_reducible refine hn.mono ?_); rintro e u1 hV; obtain ⟨p, g, rfl, hp, hg, hk⟩ := hV.ok (by decide) (by decide) (by decide); have hb1 := hV.1; clear hV; obtain ⟨u2, hu2⟩ : ∃ u2, u1.alloc (.cells #[.int .i64 2, .int .i64 1, .int .i64 1] 32) = u2 := ⟨_, rfl⟩; have hb2 : Below u1.heap.size u1 u2 := (by rw [← hu2]; exact al1 _ _); have hB : NB u2 u1.heap.size 2 1 1 := (by rw [← hu2]; exact NB.new _ _ _ _); have k1 := HA.out u2 p g u1.heap.size (hk.carry hb2) hB) | (go_at_call 13; (with_reducible refine k1.mono ?_); rintro e u3 ⟨rfl, hk3, hg3⟩; have hb3 : Below w.heap.size w u3 := grown_new (bel2 hb1 hb2) hg3 hg; have k2 := HR.out _ p g (hk3.alloc (.cells #[.int .u32 4, .int .u32 0, .int .u32 0, .int .u32 0] 37)); have hs4 : Holds4 (u3.alloc (.cells #[.int .u32 4, .int .u32 0, .int .u32 0, .int .u32 0] 37)) u3.heap.size (wd 4) := new_at rfl) | (go_at_call 17; (with_reducible refine k2.mono ?_); rintro e u4 ⟨B, cap, rfl, hc, hb4⟩; obtain ⟨x0, x1, x2, x3, _, _, _, _⟩ := (hs4.carry hb4).facts; rw [show wd 4 0 = 4 by kernel_rfl] at x0; rw [show wd 4 1 = 0 by kernel_rfl] at x1; rw [show wd 4 2 = 0 by kernel_rfl] at x2; rw [show wd 4 3 = 0 by kernel_rfl] at x3))
  go_ret
  exact ⟨rfl, bel2 (hb3.alloc hb3.size _) hb4⟩
end Go.Proofs.Ytddblfffjhoiaaa
namespace Go.Proofs.Ytddblfffjhoiaaa
open Go.RowKit Go.Shelf Go.Lib

theorem all_filter {m : List N3} {n : Nat} (p : N3 → Bool) (h : m.all (vlx n) = true) : (m.filter p).all (vlx n) = true := by
  rw [List.all_eq_true] at h ⊢
  intro x hx
  exact h x (List.mem_filter.1 hx).1
theorem mrg_tke {l m : List N3} (h : m.all (vlx l.length) = true) : mrg l m = m.foldl tke l := by
  unfold mrg
  rw [if_pos h, fold_rse m h]
theorem mrg_nil (l : List N3) : mrg l [] = l := by simp [mrg]
theorem abs_comm {l : List N3} (hb : Bok l) (s : Int) (a b : List N3) : abs (abs l s a) s b = abs (abs l s b) s a := by
  unfold abs
  by_cases ha : a.all (vlx l.length) = true
  · by_cases hb' : b.all (vlx l.length) = true
    · have fa := all_filter (nm s) ha
      have fb := all_filter (nm s) hb'
      rw [if_pos ha, if_pos hb', mrg_len hb, mrg_len hb, if_pos ha, if_pos hb']
      rw [mrg_tke (l := mrg l (a.filter (nm s))) (by rw [mrg_len hb]; exact fb), mrg_tke (l := mrg l (b.filter (nm s))) (by rw [mrg_len hb]; exact fa), mrg_tke fa, mrg_tke fb, ← List.foldl_append, ← List.foldl_append]
      exact fold_perm List.perm_append_comm hb
    · rw [if_pos ha, if_neg hb', mrg_len hb, if_neg hb', if_pos ha]
  · by_cases hb' : b.all (vlx l.length) = true
    · rw [if_neg ha, if_pos hb', mrg_len hb, if_neg ha]
    · rw [if_neg ha, if_neg hb', if_neg ha]
theorem abs_twice {l : List N3} (hb : Bok l) (s : Int) (a : List N3) : abs (abs l s a) s a = abs l s a := by
  unfold abs
  by_cases ha : a.all (vlx l.length) = true
  · rw [if_pos ha, mrg_len hb, if_pos ha, (twice hb _).2]
  · rw [if_neg ha, if_neg ha]
theorem abs_four {l : List N3} (hb : Bok l) (s : Int) (a b : List N3) : abs (abs (abs (abs l s a) s b) s a) s b = abs (abs l s a) s b := by
  rw [abs_comm (l := abs l s a) (abs_bok hb s a) s b a, abs_twice hb, abs_twice (abs_bok hb s a)]
theorem absorb_some {w : World} {p g : Nat} {l : List N3} (h : Bk w p g l) (self : Int) (ad : Option Addr) (cap : Nat) (m : List N3) (hm : RdN w ad m) (hl : m.length ≤ 1000000) : Calls Try.prog 13 #[.pointer (some ⟨p, 0, none⟩), .int .i64 self, .slice ad m.length cap] w fun e w' => (∃ (N : Nat) (E : Int), e = .returned (.tuple #[.agg #[.int .u32 (wd N 0 : Nat), .int .u32 (wd N 1 : Nat), .int .u32 (wd N 2 : Nat), .int .u32 (wd N 3 : Nat)], .int .i64 E])) ∧ Bk w' p g (abs l self m) ∧ w.grownBy w' (some g) :=
  (absorb_any h self ad cap m hm hl).mono fun _ _ hq => ⟨⟨_, _, hq.1⟩, hq.2⟩
theorem made0_any (w : World) (N s : Nat) (h0 : 1 ≤ N) (h1 : N ≤ 100) (hs : s < N) : Calls Try.prog 9 #[.int .i64 (N : Int), .int .i64 (s : Int), .slice none 0 0] w fun e w' => ∃ p g, e = .returned (.pointer (some ⟨p, 0, none⟩)) ∧ w.heap.size ≤ p ∧ w.heap.size ≤ g ∧ Bk w' p g (bk0 N s 0) ∧ Below w.heap.size w w' := by
  have := made_any (w := w) N s h0 h1 hs none 0 [] (fun e => absurd rfl e) (by simp)
  rw [mrg_nil] at this
  exact this
/-- What lies in a book behind a merge is what lay there, or one of the list. -/
theorem fold_rse_mem : ∀ (m l : List N3) (i : Nat) (y : N3), (m.foldl rse l)[i]? = some y → l[i]? = some y ∨ y ∈ m
  | [], l, i, y, h => .inl h
  | x :: m, l, i, y, h => by
    rcases fold_rse_mem m (rse l x) i y h with h1 | h1
    · unfold rse at h1
      split at h1
      · rw [List.getElem?_set] at h1
        split at h1
        · split at h1
          · cases h1; exact .inr (by simp)
          · cases h1
        · exact .inl h1
      · exact .inl h1
    · exact .inr (List.mem_cons_of_mem _ h1)
end Go.Proofs.Ytddblfffjhoiaaa
