/- slices.Values as an iterator; passOver, Collect: at every list. -/
import Derived.Test.YtddblfffjhoiaaaBkg
import Derived.Test.YtddblfffjhoiaaaBkx
import Derived.Laws.EntriesVeiled
namespace Go.Proofs.Ytddblfffjhoiaaa
open Go.RowKit Go.Shelf Go.Lib
attribute [local go_sem] Oper.semAt_some

set_option maxHeartbeats 1000000 in
set_option maxRecDepth 100000 in
theorem vals_seq (l : List N3) (b bx : Nat) (ad : Option Addr) (cap : Nat) (w : World) (hl : l.length ≤ 6000000000000) (hs : w.heap[b]? = some (.cells #[.slice ad l.length cap] 22 (0, 0))) :
    SeqE Try.prog (fun W => RdN W ad l) 54 #[.pointer (some ⟨b, 0, none⟩)] (fun x : N3 => #[nt x.1 x.2.1 x.2.2]) bx 0 l w := by
  intro ll J Jx W hW hJ hJx hE hY h0
  have hb0 : W.heap[b]? = some (.cells #[.slice ad l.length cap] 22 (0, 0)) := (hW.block _ (lt_at hs)).trans hs
  have c0 := cell_at hb0 0
  simp at c0
  obtain ⟨n, hn⟩ : ∃ n, l.length = n := ⟨_, rfl⟩
  have HN : Hid (l.length = n) := hn
  rw [hn] at c0 hl
  clear hn
  refine callsIn_of_wp Try.func54 rfl trivial ?_ rfl
  simp only [Try.ntmps54, List.size_toArray, List.length_cons, List.length_nil, Nat.reduceAdd, Nat.reduceSub, Array.replicate_succ, Array.replicate_zero, List.push_toArray, List.append_toArray, List.nil_append, List.cons_append]
  gi_wp2
  gi_loopw [7] (fun c wz => ∃ k : Nat, c = .int .i64 k ∧ k ≤ n ∧ J (l.take k) wz ∧ W.heap.size ≤ wz.heap.size) (fun c _ => n - vnat c)
  case atStart => exact ⟨0, rfl, Nat.zero_le _, h0, Nat.le_refl _⟩
  case round =>
    obtain ⟨k, rfl, hk, hj, hsz⟩ := hrel
    by_cases hkl : k < n
    · have hki : (k : Int) < (n : Int) := by omega
      obtain ⟨⟨o, t, q⟩, hx⟩ : ∃ x, l[k]? = some x := ⟨_, List.getElem?_eq_getElem (by rw [HN.out]; exact hkl)⟩
      obtain ⟨gt, off, rfl, hgl, hnt⟩ := hE _ _ hj (by intro e; rw [e] at hx; simp at hx)
      obtain ⟨e0, e1, e2⟩ := hnt k _ hx
      dsimp only at e0 e1 e2
      have HT : Hid (l.take (k + 1) = l.take k ++ [(o, t, q)]) := by
        show _ = _
        rw [List.take_add_one, hx]
        rfl
      have hj1 : J (l.take k) (wr.alloc (.cells #[.int .i64 o, .int .i64 t, .int .i64 q] 32)) := hJ.alloc _ hj
      have hyl := hY _ (o, t, q) _ hj1 (by simp; omega) (by rw [← HT.out]; exact List.take_prefix _ _)
      obtain ⟨fn, tmps, assign, body, hy, hR⟩ := hyl
      unfold nt at hy
      clear hY hx hE hnt
      gi_wp2
      refine ⟨rfl, hR.mono ?_⟩
      rintro e' W3 ⟨hkp, (⟨rfl, hj3⟩ | ⟨rfl, hjx⟩)⟩
      · have hsz3 := hkp.size
        gi_wp2
        go_roundw
        case rel => exact ⟨k + 1, by simp, by omega, by rw [HT.out]; exact hj3, by simp at hsz3; omega⟩
        case measure => simp [vnat]; omega
      · gi_wp2
        refine bodyPost_ret (results_none rfl _ _ _) rfl ?_
        exact ⟨⟨_, rfl⟩, .inr ⟨_, by rw [← HT.out]; exact List.take_prefix _ _, hjx⟩⟩
    · have hkk : k = n := by omega
      subst hkk
      rw [List.take_of_length_le (by rw [HN.out]; exact Nat.le_refl _)] at hj
      gi_wp2
      go_end0
      exact ⟨⟨_, rfl⟩, .inl hj⟩
set_option maxHeartbeats 1000000 in
theorem vals_any (w : World) (ad : Option Addr) (n cap : Nat) : Calls Try.prog 32 #[.slice ad n cap] w fun e w' => e = .returned (.func (.func 54) #[] #[.pointer (some ⟨w.heap.size, 0, none⟩)]) ∧ w'.heap[w.heap.size]? = some (.cells #[.slice ad n cap] 22 (0, 0)) ∧ Below w.heap.size w w' := by
  go_enter Try.func32, Try.ntmps32
  go_wp2
  go_ret
  exact ⟨rfl, new_at rfl, al1 _ _⟩
set_option maxHeartbeats 1000000 in
theorem pass_any (w : World) (f1 f2 : Nat) (b1 b2 : Array Value) : Calls Try.prog 28 #[.func (.func f1) #[] b1, .func (.func f2) #[] b2] w fun e w' => e = .returned (.func (.func 49) #[] #[.pointer (some ⟨w.heap.size, 0, none⟩), .pointer (some ⟨w.heap.size + 1, 0, none⟩)]) ∧ w'.heap[w.heap.size]? = some (.cells #[.func (.func f1) #[] b1] 59 (0, 0)) ∧ w'.heap[w.heap.size + 1]? = some (.cells #[.func (.func f2) #[] b2] 61 (0, 0)) ∧ Below w.heap.size w w' := by
  go_enter Try.func28, Try.ntmps28
  go_wp2
  go_ret
  exact ⟨rfl, old_at (new_at rfl), new_at (by simp), al2 _ _ _⟩
end Go.Proofs.Ytddblfffjhoiaaa
namespace Go.Proofs.Ytddblfffjhoiaaa
open Go.RowKit Go.Shelf Go.Lib
attribute [local go_sem] Oper.semAt_some

theorem round_in {F : Fence} {n : Nat} {P : Program} {l : Nat} {f : FuncId} {tmps : Array Value} {assign body : Code} {w : World} {R : Ending → World → Prop} (l2 : Nat) (h : RoundIn F n P l f tmps assign body w R) : RoundIn (F.inRound l2) n P l f tmps assign body w R := h
theorem yield_in {n : Nat} {P : Program} {l : Nat} {args : Array Value} {W : World} {R : Ending → World → Prop} (l2 : Nat) (h : YieldAt Fence.wide 0 P l args W R) : YieldAt (Fence.wide.inRound l2) n P l args W R := by
  obtain ⟨fn, tmps, assign, body, hy, hR⟩ := yield_any (n' := n) h
  exact ⟨fn, tmps, assign, body, hy, round_in l2 hR⟩
theorem SeqE.at {α : Type} {P : Program} {Ext : World → Prop} {g : Nat} {lb : Array Value} {encs : α → Array Value} {bx m : Nat} {xs : List α} {w W : World} (h : SeqE P Ext g lb encs bx m xs w) (hb : Below w.heap.size w W) : SeqE P Ext g lb encs bx m xs W :=
  fun l J Jx W2 h2 => h l J Jx W2 (hb.trans (h2.mono hb.size))
set_option maxHeartbeats 4000000 in
set_option maxRecDepth 100000 in
theorem passV_seq {w : World} (xs : List N3) (b1 b2 bi bu bx : Nat) (p : N3 → Bool) (ExtI ExtU : World → Prop)
    (hin : SeqE Try.prog ExtI 54 #[.pointer (some ⟨bi, 0, none⟩)] (fun x : N3 => #[nt x.1 x.2.1 x.2.2]) bx 0 xs w)
    (h1 : w.heap[b1]? = some (.cells #[.func (.func 54) #[] #[.pointer (some ⟨bi, 0, none⟩)]] 59 (0, 0)))
    (hbx : bx < w.heap.size)
    (hu : ∀ x ∈ xs, ∀ W, ExtU W → Calls Try.prog 31 #[nt x.1 x.2.1 x.2.2, .pointer (some ⟨bu, 0, none⟩)] W fun e w' => e = .returned (.bool (!p x)) ∧ Below W.heap.size W w') :
    SeqE Try.prog (fun W => ExtI W ∧ ExtU W ∧ W.heap[b2]? = some (.cells #[.func (.func 31) #[] #[.pointer (some ⟨bu, 0, none⟩)]] 61 (0, 0))) 49 #[.pointer (some ⟨b1, 0, none⟩), .pointer (some ⟨b2, 0, none⟩)] (fun x : N3 => #[nt x.1 x.2.1 x.2.2]) bx 3 (xs.filter p) w := by
  intro ll J Jx W0 hW hJ hJx hE hY h0
  have hu' : Hid (∀ x ∈ xs, ∀ W, ExtU W → Calls Try.prog 31 #[nt x.1 x.2.1 x.2.2, .pointer (some ⟨bu, 0, none⟩)] W fun e w' => e = .returned (.bool (!p x)) ∧ Below W.heap.size W w') := hu
  clear hu
  have hb1 := (hW.block _ (lt_at h1)).trans h1
  have c0 := cell_at hb1 0
  simp only [List.getElem?_toArray, List.getElem?_cons_zero] at c0
  obtain ⟨W1, hW1⟩ : ∃ W1, W0.alloc (.cells #[.func (.yield ll) #[] #[]] 61) = W1 := ⟨_, rfl⟩
  have hbW1 : Below W0.heap.size W0 W1 := by rw [← hW1]; exact al1 _ _
  have hz1 : W1.heap.size = W0.heap.size + 1 := by rw [← hW1]; simp
  have hB1 : W1.heap[W0.heap.size]? = some (.cells #[.func (.yield ll) #[] #[]] 61 (0, 0)) := by rw [← hW1]; exact new_at rfl
  have c1 : W1.cell? ⟨b1, 0, none⟩ = some (.func (.func 54) #[] #[.pointer (some ⟨bi, 0, none⟩)]) := by
    have := cell_at ((hbW1.block _ (lt_at hb1)).trans hb1) 0
    simpa using this
  have hj1 : J [] W1 := own_below hJ h0 hbW1
  have hin1 : SeqE Try.prog ExtI 54 #[.pointer (some ⟨bi, 0, none⟩)] (fun x : N3 => #[nt x.1 x.2.1 x.2.2]) bx 0 xs W1 := hin.at (hW.trans (hbW1.mono hW.size))
  have hws := hW.size
  have hbx1 : bx < W1.heap.size := by omega
  clear hin h1 h0 hb1
  refine callsIn_of_wp_marks Try.func49 rfl trivial ?_ rfl
  simp only [Try.ntmps49, List.size_toArray, List.length_cons, List.length_nil, Nat.reduceAdd, Nat.reduceSub, Array.replicate_succ, Array.replicate_zero, List.push_toArray, List.append_toArray, List.nil_append, List.cons_append]
  gi_wp2
  refine wp_rangeE (kb := 0) (gf := 54) (lb := #[.pointer (some ⟨bi, 0, none⟩)]) rfl (enters_of Try.func54 (by kernel_rfl) rfl)
    hin1 hbx1 (fun _ => rfl)
    (fun pre W => J (pre.filter p) W ∧ W.heap[W0.heap.size]? = some (.cells #[.func (.yield ll) #[] #[]] 61 (0, 0)))
    (fun c pre W => c = .ret ∧ Jx (pre.filter p) W)
    (fun s X Y row hs hg hr => ⟨hJ _ X Y row hs.1 hg (fun r e => ⟨by have := (hr r e).1; omega, (hr r e).2⟩), (grownBy_keeps_cells hg (fun r q => (hr r q).2) hs.2 rfl).trans hs.2⟩)
    (fun c s X Y row hs hg hr => ⟨hs.1, hJx _ X Y row hs.2 hg (fun r e => ⟨by have := (hr r e).1; omega, (hr r e).2⟩)⟩)
    ⟨hj1, hB1⟩ (fun _ _ h => (hE _ _ h.1).1)
    (fun x a' W => ∃ B, a' = { tmps := #[.func (.yield ll) #[] #[], .pointer (some ⟨b1, 0, none⟩), .pointer (some ⟨b2, 0, none⟩), .pointer (some ⟨W0.heap.size, 0, none⟩), .pointer (some ⟨B, 0, none⟩), .func (.func 54) #[] #[.pointer (some ⟨bi, 0, none⟩)], nt x.1 x.2.1 x.2.2, undef, undef, undef, undef, undef, undef, undef, undef, undef, undef], defers := [] } ∧ NB W B x.1 x.2.1 x.2.2)
    (fun x a' s X Y row hs hg hr => by
      obtain ⟨B, e, hn⟩ := hs
      exact ⟨B, e, (grownBy_keeps_cells hg (fun r q => (hr r q).2) hn rfl).trans hn⟩) ?assign ?body ?done ?stop
  case assign =>
    rintro l2 pre ⟨o, t, k⟩ W K ⟨hj, hbo⟩ hsz hK
    unfold nt
    gi_wp2
    exact hK _ _ (Kept.below (al1 _ _) (by omega) (by omega)) ⟨hJ.alloc _ hj, old_at hbo⟩ ⟨_, rfl, NB.new _ _ _ _⟩
  case body =>
    rintro l2 pre ⟨o, t, k⟩ a' W ⟨hj, hbo⟩ ⟨B, rfl, hn⟩ hsz hpr
    have hmem : (o, t, k) ∈ xs := hpr.mem (by simp)
    have hex := hE _ _ hj
    have hc := hu'.out (o, t, k) hmem W hex.2.1
    have cu : W.cell? ⟨b2, 0, none⟩ = some (.func (.func 31) #[] #[.pointer (some ⟨bu, 0, none⟩)]) := by
      have := cell_at hex.2.2 0
      simpa using this
    have n0 := hn.c0
    have n1 := hn.c1
    have n2 := hn.c2
    dsimp only at n0 n1 n2 hc
    have hfs := filter_snoc p pre (o, t, k)
    have hpf : (pre ++ [(o, t, k)]).filter p <+: xs.filter p := hpr.filter p
    clear hex
    generalize hPx : p (o, t, k) = b at hc hfs
    unfold nt at hc
    cases b with
    | false =>
      rw [if_neg (by decide)] at hfs
      gi_wp2_with (refine ⟨trivial, rfl, ?_⟩; gi_at_call 31; refine (callsIn_wide.2 hc).mono ?_; rintro e u1 ⟨rfl, hb1⟩)
      refine ⟨fun f e => (by cases e), ?_⟩
      gi_wp2
      refine ⟨Kept.below hb1 (by omega) (by omega), ?_, (hb1.block _ (lt_at hbo)).trans hbo⟩
      rw [hfs]
      exact own_below hJ hj hb1
    | true =>
      rw [if_pos rfl] at hfs
      rw [hfs] at hpf
      gi_wp2
      refine ⟨trivial, rfl, ?_⟩
      refine (callsIn_wide.2 hc).mono ?_
      rintro e u1 ⟨rfl, hb1⟩
      have hbo1 := (hb1.block _ (lt_at hbo)).trans hbo
      have cb : u1.cell? ⟨W0.heap.size, 0, none⟩ = some (.func (.yield ll) #[] #[]) := by
        have := cell_at hbo1 0
        simpa using this
      have hn1 := hn.carry hb1
      have m0 := hn1.c0
      have m1 := hn1.c1
      have m2 := hn1.c2
      have hyl := yield_in (n := 0) l2 (hY _ (o, t, k) u1 (own_below hJ hj hb1) (by have := hb1.size; omega) hpf)
      obtain ⟨fn, tmps, assign, body, hy, hR⟩ := hyl
      unfold nt at hy
      gi_wp2
      refine ⟨rfl, hR.mono ?_⟩
      rintro e' W3 ⟨hkp, hfin⟩
      have hk0 : Kept bx W0.heap.size 3 W u1 := Kept.below hb1 (by omega) (by omega)
      have hkp2 : Kept bx W1.heap.size (0 + 2) W W3 := (hk0.trans hkp).less (by omega) (by omega)
      have hbo3 := (hkp.rng W0.heap.size (by omega) (by omega)).trans hbo1
      rcases hfin with ⟨rfl, hj3⟩ | ⟨rfl, hjx⟩
      · gi_wp2
        refine ⟨hkp2, ?_, hbo3⟩
        rw [hfs]
        exact hj3
      · gi_wp2
        refine ⟨hkp2, rfl, ?_⟩
        rw [hfs]
        exact hjx
  case done =>
    rintro V ⟨hj, hbo⟩ hK
    gi_wp2
    refine ⟨by simp, .inl ⟨_, _, rfl, run_takeDeferred hK, ?_⟩⟩
    refine ⟨.tuple #[], by simp [results, Try.results49], ⟨_, rfl⟩, .inl ?_⟩
    exact hJ.putObj _ hj (by omega) hK rfl
  case stop =>
    rintro co pre V hpr ⟨rfl, hjx⟩ hK
    gi_wp2
    refine ⟨by simp, .inl ⟨_, _, rfl, run_takeDeferred hK, ?_⟩⟩
    refine ⟨.tuple #[], by simp [results, Try.results49], ⟨_, rfl⟩, .inr ⟨pre.filter p, hpr.filter p, ?_⟩⟩
    exact hJx.putObj _ hjx (by omega) hK rfl
set_option maxHeartbeats 4000000 in
set_option maxRecDepth 100000 in
theorem passA_seq {w : World} (xs : List N3) (b1 b2 bi bu bx : Nat) (p : N3 → Bool) (ExtI ExtU : World → Prop)
    (hin : SeqE Try.prog ExtI 51 #[.pointer (some ⟨bi, 0, none⟩)] (fun x : N3 => #[nt x.1 x.2.1 x.2.2]) bx 0 xs w)
    (h1 : w.heap[b1]? = some (.cells #[.func (.func 51) #[] #[.pointer (some ⟨bi, 0, none⟩)]] 59 (0, 0)))
    (hbx : bx < w.heap.size)
    (hu : ∀ x ∈ xs, ∀ W, ExtU W → Calls Try.prog 26 #[nt x.1 x.2.1 x.2.2, .pointer (some ⟨bu, 0, none⟩)] W fun e w' => e = .returned (.bool (!p x)) ∧ Below W.heap.size W w') :
    SeqE Try.prog (fun W => ExtI W ∧ ExtU W ∧ W.heap[b2]? = some (.cells #[.func (.func 26) #[] #[.pointer (some ⟨bu, 0, none⟩)]] 61 (0, 0))) 49 #[.pointer (some ⟨b1, 0, none⟩), .pointer (some ⟨b2, 0, none⟩)] (fun x : N3 => #[nt x.1 x.2.1 x.2.2]) bx 3 (xs.filter p) w := by
  intro ll J Jx W0 hW hJ hJx hE hY h0
  have hu' : Hid (∀ x ∈ xs, ∀ W, ExtU W → Calls Try.prog 26 #[nt x.1 x.2.1 x.2.2, .pointer (some ⟨bu, 0, none⟩)] W fun e w' => e = .returned (.bool (!p x)) ∧ Below W.heap.size W w') := hu
  clear hu
  have hb1 := (hW.block _ (lt_at h1)).trans h1
  have c0 := cell_at hb1 0
  simp only [List.getElem?_toArray, List.getElem?_cons_zero] at c0
  obtain ⟨W1, hW1⟩ : ∃ W1, W0.alloc (.cells #[.func (.yield ll) #[] #[]] 61) = W1 := ⟨_, rfl⟩
  have hbW1 : Below W0.heap.size W0 W1 := by rw [← hW1]; exact al1 _ _
  have hz1 : W1.heap.size = W0.heap.size + 1 := by rw [← hW1]; simp
  have hB1 : W1.heap[W0.heap.size]? = some (.cells #[.func (.yield ll) #[] #[]] 61 (0, 0)) := by rw [← hW1]; exact new_at rfl
  have c1 : W1.cell? ⟨b1, 0, none⟩ = some (.func (.func 51) #[] #[.pointer (some ⟨bi, 0, none⟩)]) := by
    have := cell_at ((hbW1.block _ (lt_at hb1)).trans hb1) 0
    simpa using this
  have hj1 : J [] W1 := own_below hJ h0 hbW1
  have hin1 : SeqE Try.prog ExtI 51 #[.pointer (some ⟨bi, 0, none⟩)] (fun x : N3 => #[nt x.1 x.2.1 x.2.2]) bx 0 xs W1 := hin.at (hW.trans (hbW1.mono hW.size))
  have hws := hW.size
  have hbx1 : bx < W1.heap.size := by omega
  clear hin h1 h0 hb1
  refine callsIn_of_wp_marks Try.func49 rfl trivial ?_ rfl
  simp only [Try.ntmps49, List.size_toArray, List.length_cons, List.length_nil, Nat.reduceAdd, Nat.reduceSub, Array.replicate_succ, Array.replicate_zero, List.push_toArray, List.append_toArray, List.nil_append, List.cons_append]
  gi_wp2
  refine wp_rangeE (kb := 0) (gf := 51) (lb := #[.pointer (some ⟨bi, 0, none⟩)]) rfl (enters_of Try.func51 (by kernel_rfl) rfl)
    hin1 hbx1 (fun _ => rfl)
    (fun pre W => J (pre.filter p) W ∧ W.heap[W0.heap.size]? = some (.cells #[.func (.yield ll) #[] #[]] 61 (0, 0)))
    (fun c pre W => c = .ret ∧ Jx (pre.filter p) W)
    (fun s X Y row hs hg hr => ⟨hJ _ X Y row hs.1 hg (fun r e => ⟨by have := (hr r e).1; omega, (hr r e).2⟩), (grownBy_keeps_cells hg (fun r q => (hr r q).2) hs.2 rfl).trans hs.2⟩)
    (fun c s X Y row hs hg hr => ⟨hs.1, hJx _ X Y row hs.2 hg (fun r e => ⟨by have := (hr r e).1; omega, (hr r e).2⟩)⟩)
    ⟨hj1, hB1⟩ (fun _ _ h => (hE _ _ h.1).1)
    (fun x a' W => ∃ B, a' = { tmps := #[.func (.yield ll) #[] #[], .pointer (some ⟨b1, 0, none⟩), .pointer (some ⟨b2, 0, none⟩), .pointer (some ⟨W0.heap.size, 0, none⟩), .pointer (some ⟨B, 0, none⟩), .func (.func 51) #[] #[.pointer (some ⟨bi, 0, none⟩)], nt x.1 x.2.1 x.2.2, undef, undef, undef, undef, undef, undef, undef, undef, undef, undef], defers := [] } ∧ NB W B x.1 x.2.1 x.2.2)
    (fun x a' s X Y row hs hg hr => by
      obtain ⟨B, e, hn⟩ := hs
      exact ⟨B, e, (grownBy_keeps_cells hg (fun r q => (hr r q).2) hn rfl).trans hn⟩) ?assign ?body ?done ?stop
  case assign =>
    rintro l2 pre ⟨o, t, k⟩ W K ⟨hj, hbo⟩ hsz hK
    unfold nt
    gi_wp2
    exact hK _ _ (Kept.below (al1 _ _) (by omega) (by omega)) ⟨hJ.alloc _ hj, old_at hbo⟩ ⟨_, rfl, NB.new _ _ _ _⟩
  case body =>
    rintro l2 pre ⟨o, t, k⟩ a' W ⟨hj, hbo⟩ ⟨B, rfl, hn⟩ hsz hpr
    have hmem : (o, t, k) ∈ xs := hpr.mem (by simp)
    have hex := hE _ _ hj
    have hc := hu'.out (o, t, k) hmem W hex.2.1
    have cu : W.cell? ⟨b2, 0, none⟩ = some (.func (.func 26) #[] #[.pointer (some ⟨bu, 0, none⟩)]) := by
      have := cell_at hex.2.2 0
      simpa using this
    have n0 := hn.c0
    have n1 := hn.c1
    have n2 := hn.c2
    dsimp only at n0 n1 n2 hc
    have hfs := filter_snoc p pre (o, t, k)
    have hpf : (pre ++ [(o, t, k)]).filter p <+: xs.filter p := hpr.filter p
    clear hex
    generalize hPx : p (o, t, k) = b at hc hfs
    unfold nt at hc
    cases b with
    | false =>
      rw [if_neg (by decide)] at hfs
      gi_wp2_with (refine ⟨trivial, rfl, ?_⟩; gi_at_call 26; refine (callsIn_wide.2 hc).mono ?_; rintro e u1 ⟨rfl, hb1⟩)
      refine ⟨fun f e => (by cases e), ?_⟩
      gi_wp2
      refine ⟨Kept.below hb1 (by omega) (by omega), ?_, (hb1.block _ (lt_at hbo)).trans hbo⟩
      rw [hfs]
      exact own_below hJ hj hb1
    | true =>
      rw [if_pos rfl] at hfs
      rw [hfs] at hpf
      gi_wp2
      refine ⟨trivial, rfl, ?_⟩
      refine (callsIn_wide.2 hc).mono ?_
      rintro e u1 ⟨rfl, hb1⟩
      have hbo1 := (hb1.block _ (lt_at hbo)).trans hbo
      have cb : u1.cell? ⟨W0.heap.size, 0, none⟩ = some (.func (.yield ll) #[] #[]) := by
        have := cell_at hbo1 0
        simpa using this
      have hn1 := hn.carry hb1
      have m0 := hn1.c0
      have m1 := hn1.c1
      have m2 := hn1.c2
      have hyl := yield_in (n := 0) l2 (hY _ (o, t, k) u1 (own_below hJ hj hb1) (by have := hb1.size; omega) hpf)
      obtain ⟨fn, tmps, assign, body, hy, hR⟩ := hyl
      unfold nt at hy
      gi_wp2
      refine ⟨rfl, hR.mono ?_⟩
      rintro e' W3 ⟨hkp, hfin⟩
      have hk0 : Kept bx W0.heap.size 3 W u1 := Kept.below hb1 (by omega) (by omega)
      have hkp2 : Kept bx W1.heap.size (0 + 2) W W3 := (hk0.trans hkp).less (by omega) (by omega)
      have hbo3 := (hkp.rng W0.heap.size (by omega) (by omega)).trans hbo1
      rcases hfin with ⟨rfl, hj3⟩ | ⟨rfl, hjx⟩
      · gi_wp2
        refine ⟨hkp2, ?_, hbo3⟩
        rw [hfs]
        exact hj3
      · gi_wp2
        refine ⟨hkp2, rfl, ?_⟩
        rw [hfs]
        exact hjx
  case done =>
    rintro V ⟨hj, hbo⟩ hK
    gi_wp2
    refine ⟨by simp, .inl ⟨_, _, rfl, run_takeDeferred hK, ?_⟩⟩
    refine ⟨.tuple #[], by simp [results, Try.results49], ⟨_, rfl⟩, .inl ?_⟩
    exact hJ.putObj _ hj (by omega) hK rfl
  case stop =>
    rintro co pre V hpr ⟨rfl, hjx⟩ hK
    gi_wp2
    refine ⟨by simp, .inl ⟨_, _, rfl, run_takeDeferred hK, ?_⟩⟩
    refine ⟨.tuple #[], by simp [results, Try.results49], ⟨_, rfl⟩, .inr ⟨pre.filter p, hpr.filter p, ?_⟩⟩
    exact hJx.putObj _ hjx (by omega) hK rfl
end Go.Proofs.Ytddblfffjhoiaaa
namespace Go.Proofs.Ytddblfffjhoiaaa
open Go.RowKit Go.Shelf Go.Lib
attribute [local go_sem] Oper.semAt_some

set_option maxHeartbeats 4000000 in
set_option maxRecDepth 100000 in
theorem appseq_in {w : World} {xs : List N3} {Ext : World → Prop} {bx m : Nat} (b1 b2 : Nat) (hsq : SeqE Try.prog Ext 49 #[.pointer (some ⟨b1, 0, none⟩), .pointer (some ⟨b2, 0, none⟩)] (fun x : N3 => #[nt x.1 x.2.1 x.2.2]) bx m xs w) (hbx : bx < w.heap.size) (hE : ∀ W, Below w.heap.size w W → Ext W) (hlen : xs.length ≤ 1000000) :
    CallsIn Fence.wide 0 Try.prog 48 #[.slice none 0 0, .func (.func 49) #[] #[.pointer (some ⟨b1, 0, none⟩), .pointer (some ⟨b2, 0, none⟩)]] w fun e w' => ∃ v, e = .returned v ∧ Made w w' v xs ∧ Below w.heap.size w w' := by
  obtain ⟨ic, hic, hz0, hz1, hz2⟩ := info_partsN
  obtain ⟨W0, hW0⟩ : ∃ W0, w.alloc (.cells #[.slice none 0 0] 22) = W0 := ⟨_, rfl⟩
  have b0 : Below w.heap.size w W0 := by rw [← hW0]; exact al1 _ _
  have hz : W0.heap.size = w.heap.size + 1 := by rw [← hW0]; simp
  have v0 : Boxed W0 w.heap.size 22 (.slice none 0 0) := by rw [← hW0]; exact new_at rfl
  have o0 : W0.ownsRow w.heap.size 32 3 (.slice none 0 0) 0 [] := World.ownsRow_nil _ _ _ _
  have hsq0 := hsq.at b0
  have hbx0 : bx < W0.heap.size := by omega
  clear hsq
  refine callsIn_of_wp_marks Try.func48 rfl trivial ?_ rfl
  simp only [Try.ntmps48, List.size_toArray, List.length_cons, List.length_nil, Nat.reduceAdd, Nat.reduceSub, Array.replicate_succ, Array.replicate_zero, List.push_toArray, List.append_toArray, List.nil_append, List.cons_append]
  gi_wp2
  refine wp_rangeE (kb := 0) (gf := 49) (lb := #[.pointer (some ⟨b1, 0, none⟩), .pointer (some ⟨b2, 0, none⟩)]) rfl (enters_of Try.func49 (by kernel_rfl) rfl)
    hsq0 hbx0 (fun _ => rfl)
    (fun pre W => (∃ v, Boxed W w.heap.size 22 v ∧ W.ownsRow w.heap.size 32 3 v pre.length (fl pre) ∧ ∀ q, v.ownBlock = some q → W0.heap.size + (m + 2) ≤ q) ∧ Below w.heap.size w W)
    (fun _ _ _ => False)
    (OwnFrom.and ((rowBoxP_own _ _ _ _ _ (fun pre : List N3 => pre.length) (fun pre => fl pre) _).from _) (ownFrom_below (Nat.le_refl _) (by omega)))
    (fun _ _ _ _ _ hs _ _ => hs)
    ⟨⟨_, v0, o0, fun q e => by cases e⟩, b0⟩ (fun _ _ h => hE _ h.2)
    (fun x a' W => ∃ B, a' = { tmps := #[.slice none 0 0, .func (.func 49) #[] #[.pointer (some ⟨b1, 0, none⟩), .pointer (some ⟨b2, 0, none⟩)], .pointer (some ⟨w.heap.size, 0, none⟩), undef, .slice none 0 0, .pointer (some ⟨B, 0, none⟩), .func (.func 49) #[] #[.pointer (some ⟨b1, 0, none⟩), .pointer (some ⟨b2, 0, none⟩)], nt x.1 x.2.1 x.2.2, undef, undef, undef, undef, undef], defers := [] } ∧ NB W B x.1 x.2.1 x.2.2)
    (fun x a' s X Y row hs hg hr => by
      obtain ⟨B, e, hn⟩ := hs
      exact ⟨B, e, (grownBy_keeps_cells hg (fun r q => (hr r q).2) hn rfl).trans hn⟩) ?assign ?body ?done ?stop
  case assign =>
    rintro l2 pre ⟨o, t, k⟩ W K hi hsz hK
    unfold nt
    gi_wp2
    refine hK _ _ (Kept.below (al1 _ _) (by omega) (by omega)) ?_ ⟨_, rfl, NB.new _ _ _ _⟩
    obtain ⟨⟨v, hv, hrow, hq⟩, hb⟩ := hi
    exact ⟨⟨v, hv.alloc _, hrow.alloc _, hq⟩, hb.alloc hb.size _⟩
  case body =>
    rintro l2 pre ⟨o, t, k⟩ a' W ⟨⟨v, hv, hrow, hq⟩, hb⟩ ⟨B, rfl, hn⟩ hsz hpr
    have hcv := hv.cell
    have n0 := hn.c0
    have n1 := hn.c1
    have n2 := hn.c2
    dsimp only at n0 n1 n2
    have hln : pre.length + 1 ≤ xs.length := by have := hpr.length_le; simpa using this
    have hbs := hb.size
    gi_wp2_with (gi_at_builtin; refine wpListIn_append_own_at _ rfl _ _ 22 rfl w.heap.size 32 ic _ 3 24 Try.underlying22 hic hz0 hz1 hz2 rfl (by decide) _ _ _ rfl (hrow.alloc _) ⟨W.heap.size, 0, none⟩ 1 1 [_, _, _] rfl rfl (rowN _ #[_, _, _] _) (by simp [Value.oneCell']) (by unfold maxLen; omega) (by omega) (Nat.le_trans hb.size (by simp)) ?_; intro v' w2 hown' hgrow _ hob; obtain ⟨g', cap', rfl⟩ := ownsRow_succ hown'; have hv2 : Boxed w2 w.heap.size 22 v := (hv.alloc _).kept hgrow (fun e' => by have := hq _ e'.symm; omega); have hc2 := hv2.cell; have hfz2 := hv2.frozen)
    refine ⟨?_, ⟨_, hv2.set _, ?_, ?_⟩, ?_⟩
    · refine ((Kept.below (al1 _ _) (by omega) (by omega)).trans (Kept.grown hgrow (by simp; omega) (by simp; omega) (fun q hq' => ?_))).trans (Kept.setCell (by omega) (by omega))
      have := hq q hq'
      omega
    · rw [fl_append, List.length_append]
      refine ownsRow_set hown' (fun q hq' => ?_) _
      rcases hob with e | e
      · have := hq q (e ▸ hq'); omega
      · rw [e] at hq'; simp at hq'; omega
    · intro q hq'
      rcases hob with e | e
      · have := hq q (e ▸ hq'); omega
      · rw [e] at hq'; simp at hq'; omega
    · exact ((hb.alloc hb.size _).grown hgrow (by have := hb.size; simp; omega) (fun q hq' => by have := hq q hq'; omega)).setCell (by simp) _
  case done =>
    rintro W ⟨⟨v, hv, hrow, hq⟩, hb⟩ hK
    have hcv := hv.cell
    gi_wp2
    refine ⟨by simp, .inl ⟨_, _, rfl, run_takeDeferred hK, ?_⟩⟩
    exact ⟨v, by simp [results, Try.results48, go_sem], v, rfl, ownsRow_putObj hrow _ hK rfl, below_taken _ hb (by omega)⟩
  case stop =>
    rintro c pre W _ h _
    exact h.elim
set_option maxHeartbeats 1000000 in
theorem collect_any {w : World} {xs : List N3} {Ext : World → Prop} {bx m : Nat} (b1 b2 : Nat) (hsq : SeqE Try.prog Ext 49 #[.pointer (some ⟨b1, 0, none⟩), .pointer (some ⟨b2, 0, none⟩)] (fun x : N3 => #[nt x.1 x.2.1 x.2.2]) bx m xs w) (hbx : bx < w.heap.size) (hE : ∀ W, Below w.heap.size w W → Ext W) (hlen : xs.length ≤ 1000000) :
    Calls Try.prog 27 #[.func (.func 49) #[] #[.pointer (some ⟨b1, 0, none⟩), .pointer (some ⟨b2, 0, none⟩)]] w fun e w' => ∃ v, e = .returned v ∧ Made w w' v xs ∧ Below w.heap.size w w' := by
  have ha := callsIn_wide.1 (appseq_in b1 b2 hsq hbx hE hlen)
  clear hsq
  go_enter Try.func27, Try.ntmps27
  go_wp2_with (go_at_call 48; (with_reducible refine ha.mono ?_); rintro e u1 ⟨v, rfl, hm, hb1⟩)
  go_ret
  exact ⟨v, rfl, hm, hb1⟩
end Go.Proofs.Ytddblfffjhoiaaa
namespace Go.Proofs.Ytddblfffjhoiaaa
open Go.RowKit Go.Shelf Go.Lib
attribute [local go_sem] Oper.semAt_some

/-- Valid of n nodes. -/
def vln (n : Int) (x : N3) : Bool := vl n x.1 x.2.1 x.2.2
set_option maxHeartbeats 1000000 in
theorem allv1_any {w : World} (b : Nat) (n o t k : Int) (hb : w.heap[b]? = some (.cells #[.int .i64 n] 3 (0, 0))) : Calls Try.prog 53 #[nt o t k, .pointer (some ⟨b, 0, none⟩)] w fun e w' => e = .returned (.bool (!vln n (o, t, k))) ∧ Below w.heap.size w w' := by
  obtain ⟨w1, hw1⟩ : ∃ w1, w.alloc (.cells #[.int .i64 o, .int .i64 t, .int .i64 k] 32) = w1 := ⟨_, rfl⟩
  have hb1 : Below w.heap.size w w1 := by rw [← hw1]; exact al1 _ _
  have hn : NB w1 w.heap.size o t k := by rw [← hw1]; exact NB.new _ _ _ _
  have c0 : w1.cell? ⟨b, 0, none⟩ = some (.int .i64 n) := cell_at ((hb1.block _ (lt_at hb)).trans hb) 0
  have n0 := hn.c0
  have n1 := hn.c1
  have n2 := hn.c2
  have hv := valid_any n o t k w1
  unfold nt at hv ⊢
  unfold vln
  go_enter Try.func53, Try.ntmps53
  go_wp2_with (go_at_call 37; (with_reducible refine hv.mono ?_); rintro e u1 ⟨rfl, hb2⟩)
  go_ret
  exact ⟨rfl, bel2 hb1 hb2⟩
set_option maxHeartbeats 4000000 in
set_option maxRecDepth 100000 in
theorem idxV_any {w : World} (b : Nat) (n : Int) (ad : Option Addr) (cap : Nat) (l : List N3) (hb : w.heap[b]? = some (.cells #[.int .i64 n] 3 (0, 0))) (h : RdN w ad l) (hl : l.length ≤ 6000000000000) : Calls Try.prog 60 #[.slice ad l.length cap, .func (.func 53) #[] #[.pointer (some ⟨b, 0, none⟩)]] w fun e w' => ∃ z : Int, e = .returned (.int .i64 z) ∧ decide (z ≥ 0) = !l.all (vln n) ∧ Below w.heap.size w w' := by
  obtain ⟨N, hN⟩ : ∃ N, l.length = N := ⟨_, rfl⟩
  have HN : Hid (l.length = N) := hN
  have HR : Hid (RdN w ad l) := h
  rw [hN] at hl ⊢
  clear hN h
  go_enter Try.func60, Try.ntmps60
  go_wp2
  go_loopw [8] (fun i wz => ∃ (k : Nat), i = .int .i64 k ∧ k ≤ N ∧ (l.take k).all (vln n) = true ∧ Below w.heap.size w wz) (fun i _ => N - vnatR i)
  case atStart => exact ⟨0, rfl, Nat.zero_le _, rfl, Below.refl _ _⟩
  case round =>
    obtain ⟨k, rfl, hk, hall, hbw⟩ := hrel
    have HK : Hid ((l.take k).all (vln n) = true) := hall
    clear hall
    by_cases hkl : k < N
    · have hki : (k : Int) < (N : Int) := by omega
      have hkl1 : k < l.length := by rw [HN.out]; exact hkl
      obtain ⟨⟨o, t, q⟩, hx⟩ : ∃ x, l[k]? = some x := ⟨_, List.getElem?_eq_getElem hkl1⟩
      obtain ⟨gb, off, rfl, hgl, hat⟩ := (HR.out.carry hbw) (fun e => by rw [e] at hkl1; simp at hkl1)
      obtain ⟨c0, c1, c2⟩ := hat k _ hx
      dsimp only at c0 c1 c2
      have hc := allv1_any b n o t q ((hbw.block _ (lt_at hb)).trans hb)
      have HX : Hid (l[k]? = some (o, t, q)) := hx
      generalize hv : vln n (o, t, q) = V at hc
      have HV : Hid (vln n (o, t, q) = V) := hv
      unfold nt at hc
      clear hx hat hkl1 hv
      cases V with
      | false =>
        go_wp2_with (go_at_call 53; (with_reducible refine hc.mono ?_); rintro e u1 ⟨rfl, hb2⟩)
        go_ret
        refine ⟨_, rfl, ?_, bel2 hbw hb2⟩
        have : l.all (vln n) = false := by
          rw [Bool.eq_false_iff]
          intro e
          have := List.all_eq_true.1 e _ (List.mem_of_getElem? HX.out)
          rw [HV.out] at this
          cases this
        rw [this]
        simp
      | true =>
        go_wp2_with (go_at_call 53; (with_reducible refine hc.mono ?_); rintro e u1 ⟨rfl, hb2⟩)
        go_roundw
        case rel =>
          refine ⟨k + 1, by simp, by omega, ?_, bel2 hbw hb2⟩
          rw [List.take_add_one, HX.out, List.all_append, HK.out]
          simpa using HV.out
        case measure => simp [vnatR]; omega
    · have hkk : k = N := by omega
      subst hkk
      go_wp2
      go_ret
      refine ⟨_, rfl, ?_, hbw⟩
      have := HK.out
      rw [List.take_of_length_le (by rw [HN.out]; exact Nat.le_refl _)] at this
      rw [this]
      rfl
set_option maxHeartbeats 1000000 in
theorem conV_any {w : World} (b : Nat) (n : Int) (ad : Option Addr) (cap : Nat) (l : List N3) (hb : w.heap[b]? = some (.cells #[.int .i64 n] 3 (0, 0))) (h : RdN w ad l) (hl : l.length ≤ 6000000000000) : Calls Try.prog 52 #[.slice ad l.length cap, .func (.func 53) #[] #[.pointer (some ⟨b, 0, none⟩)]] w fun e w' => e = .returned (.bool (!l.all (vln n))) ∧ Below w.heap.size w w' := by
  have hi := idxV_any b n ad cap l hb h hl
  go_enter Try.func52, Try.ntmps52
  go_wp2_with (go_at_call 60; (with_reducible refine hi.mono ?_); rintro e u1 ⟨z, rfl, hz, hb2⟩; have HZ : Hid (decide (z ≥ 0) = !l.all (vln n)) := hz; clear hz)
  go_ret
  refine ⟨?_, hb2⟩
  rw [← HZ.out]
  rfl
set_option maxHeartbeats 1000000 in
theorem allv_any (n : Int) (ad : Option Addr) (cap : Nat) (l : List N3) (w : World) (h : RdN w ad l) (hl : l.length ≤ 6000000000000) : Calls Try.prog 30 #[.int .i64 n, .slice ad l.length cap] w fun e w' => e = .returned (.bool (l.all (vln n))) ∧ Below w.heap.size w w' := by
  have hc := conV_any (w := w.alloc (.cells #[.int .i64 n] 3)) w.heap.size n ad cap l (new_at rfl) (h.carry (al1 _ _)) hl
  go_enter Try.func30, Try.ntmps30
  go_wp2_with (go_at_call 52; (with_reducible refine hc.mono ?_); rintro e u1 ⟨rfl, hb2⟩)
  go_ret
  exact ⟨by simp, bel2 (al1 _ _) hb2⟩
/-- No mistake of self. -/
def nm (self : Int) (x : N3) : Bool := !decide (x.1 = self ∧ x.2.2 = 1)
set_option maxHeartbeats 1000000 in
theorem own1_any {w : World} (b : Nat) (self o t k : Int) (hb : w.heap[b]? = some (.cells #[.int .i64 self] 3 (0, 0))) : Calls Try.prog 31 #[nt o t k, .pointer (some ⟨b, 0, none⟩)] w fun e w' => e = .returned (.bool (!nm self (o, t, k))) ∧ Below w.heap.size w w' := by
  obtain ⟨w1, hw1⟩ : ∃ w1, w.alloc (.cells #[.int .i64 o, .int .i64 t, .int .i64 k] 32) = w1 := ⟨_, rfl⟩
  have hb1 : Below w.heap.size w w1 := by rw [← hw1]; exact al1 _ _
  have hn : NB w1 w.heap.size o t k := by rw [← hw1]; exact NB.new _ _ _ _
  have c0 : w1.cell? ⟨b, 0, none⟩ = some (.int .i64 self) := cell_at ((hb1.block _ (lt_at hb)).trans hb) 0
  have n0 := hn.c0
  have n1 := hn.c1
  have n2 := hn.c2
  have HG : Hid (∀ B : Bool, B = decide (o = self ∧ k = 1) → Ending.returned (Value.bool B) = Ending.returned (Value.bool (!nm self (o, t, k)))) := by
    rintro B rfl
    simp [nm]
  unfold nt
  go_enter Try.func31, Try.ntmps31
  by_cases h1 : o = self
  · subst h1
    go_wp2
    go_ret
    exact ⟨HG.out _ (by rw [Bool.eq_iff_iff]; simp), hb1⟩
  · have h2 : (o == self) = false := by simpa using h1
    go_wp2
    go_ret
    exact ⟨HG.out _ (by simp [h1]), hb1⟩
end Go.Proofs.Ytddblfffjhoiaaa
