/- passOver as an iterator over an iterator. -/
import Derived.Test.YtddblfffjhoiaaaSpa
namespace Go.Proofs.Ytddblfffjhoiaaa
open Go.RowKit Go.Shelf Go.Lib
attribute [local go_sem] Oper.semAt_some

theorem round_in {F : Fence} {n : Nat} {P : Program} {l : Nat} {f : FuncId} {tmps : Array Value} {assign body : Code} {w : World} {R : Ending → World → Prop} (l2 : Nat) (h : RoundIn F n P l f tmps assign body w R) : RoundIn (F.inRound l2) n P l f tmps assign body w R := h
theorem yield_in {n : Nat} {P : Program} {l : Nat} {args : Array Value} {W : World} {R : Ending → World → Prop} (l2 : Nat) (h : YieldAt Fence.wide 0 P l args W R) : YieldAt (Fence.wide.inRound l2) n P l args W R := by
  obtain ⟨fn, tmps, assign, body, hy, hR⟩ := yield_any (n' := n) h
  exact ⟨fn, tmps, assign, body, hy, round_in l2 hR⟩
theorem SeqE.at {α : Type} {P : Program} {Ext : World → Prop} {g : Nat} {lb : Array Value} {encs : α → Array Value} {bx m : Nat} {xs : List α} {w W : World} (h : SeqE P Ext g lb encs bx m xs w) (hb : Below w.heap.size w W) : SeqE P Ext g lb encs bx m xs W :=
  fun l J Jx W2 h2 => h l J Jx W2 (hb.trans (h2.mono hb.size))
set_option maxHeartbeats 4000000 in
set_option maxRecDepth 100000 in
theorem passV_seq {w : World} (xs : List N3) (b1 b2 bi bu bx : Nat) (p : N3 → Bool) (ExtI ExtU : World → Prop)
    (hin : SeqE Try.prog ExtI 54 #[.pointer (some ⟨bi, 0, none⟩)] (fun x : N3 => #[nt x.1 x.2.1 x.2.2]) bx 0 xs w)
    (h1 : w.heap[b1]? = some (.cells #[.func (.func 54) #[] #[.pointer (some ⟨bi, 0, none⟩)]] 59 (0, 0)))
    (hbx : bx < w.heap.size)
    (hu : ∀ x ∈ xs, ∀ W, ExtU W → Calls Try.prog 31 #[nt x.1 x.2.1 x.2.2, .pointer (some ⟨bu, 0, none⟩)] W fun e w' => e = .returned (.bool (!p x)) ∧ Below W.heap.size W w') :
    SeqE Try.prog (fun W => ExtI W ∧ ExtU W ∧ W.heap[b2]? = some (.cells #[.func (.func 31) #[] #[.pointer (some ⟨bu, 0, none⟩)]] 61 (0, 0))) 49 #[.pointer (some ⟨b1, 0, none⟩), .pointer (some ⟨b2, 0, none⟩)] (fun x : N3 => #[nt x.1 x.2.1 x.2.2]) bx 3 (xs.filter p) w := by
  intro ll J Jx W0 hW hJ hJx hE hY h0
  have hu' : Hid (∀ x ∈ xs, ∀ W, ExtU W → Calls Try.prog 31 #[nt x.1 x.2.1 x.2.2, .pointer (some ⟨bu, 0, none⟩)] W fun e w' => e = .returned (.bool (!p x)) ∧ Below W.heap.size W w') := hu
  clear hu
  have hb1 := (hW.block _ (lt_at h1)).trans h1
  have c0 := cell_at hb1 0
  simp only [List.getElem?_toArray, List.getElem?_cons_zero] at c0
  obtain ⟨W1, hW1⟩ : ∃ W1, W0.alloc (.cells #[.func (.yield ll) #[] #[]] 61) = W1 := ⟨_, rfl⟩
  have hbW1 : Below W0.heap.size W0 W1 := by rw [← hW1]; exact al1 _ _
  have hz1 : W1.heap.size = W0.heap.size + 1 := by rw [← hW1]; simp
  have hB1 : W1.heap[W0.heap.size]? = some (.cells #[.func (.yield ll) #[] #[]] 61 (0, 0)) := by rw [← hW1]; exact new_at rfl
  have c1 : W1.cell? ⟨b1, 0, none⟩ = some (.func (.func 54) #[] #[.pointer (some ⟨bi, 0, none⟩)]) := by
    have := cell_at ((hbW1.block _ (lt_at hb1)).trans hb1) 0
    simpa using this
  have hj1 : J [] W1 := own_below hJ h0 hbW1
  have hin1 : SeqE Try.prog ExtI 54 #[.pointer (some ⟨bi, 0, none⟩)] (fun x : N3 => #[nt x.1 x.2.1 x.2.2]) bx 0 xs W1 := hin.at (hW.trans (hbW1.mono hW.size))
  have hws := hW.size
  have hbx1 : bx < W1.heap.size := by omega
  clear hin h1 h0 hb1
  refine callsIn_of_wp_marks Try.func49 rfl trivial ?_ rfl
  simp only [Try.ntmps49, List.size_toArray, List.length_cons, List.length_nil, Nat.reduceAdd, Nat.reduceSub, Array.replicate_succ, Array.replicate_zero, List.push_toArray, List.append_toArray, List.nil_append, List.cons_append]
  gi_wp2
  refine wp_rangeE (kb := 0) (gf := 54) (lb := #[.pointer (some ⟨bi, 0, none⟩)]) rfl (enters_of Try.func54 (by kernel_rfl) rfl)
    hin1 hbx1 (fun _ => rfl)
    (fun pre W => J (pre.filter p) W ∧ W.heap[W0.heap.size]? = some (.cells #[.func (.yield ll) #[] #[]] 61 (0, 0)))
    (fun c pre W => c = .ret ∧ Jx (pre.filter p) W)
    (fun s X Y row hs hg hr => ⟨hJ _ X Y row hs.1 hg (fun r e => ⟨by have := (hr r e).1; omega, (hr r e).2⟩), (grownBy_keeps_cells hg (fun r q => (hr r q).2) hs.2 rfl).trans hs.2⟩)
    (fun c s X Y row hs hg hr => ⟨hs.1, hJx _ X Y row hs.2 hg (fun r e => ⟨by have := (hr r e).1; omega, (hr r e).2⟩)⟩)
    ⟨hj1, hB1⟩ (fun _ _ h => (hE _ _ h.1).1)
    (fun x a' W => ∃ B, a' = { tmps := #[.func (.yield ll) #[] #[], .pointer (some ⟨b1, 0, none⟩), .pointer (some ⟨b2, 0, none⟩), .pointer (some ⟨W0.heap.size, 0, none⟩), .pointer (some ⟨B, 0, none⟩), .func (.func 54) #[] #[.pointer (some ⟨bi, 0, none⟩)], nt x.1 x.2.1 x.2.2, undef, undef, undef, undef, undef, undef, undef, undef, undef, undef], defers := [] } ∧ NB W B x.1 x.2.1 x.2.2)
    (fun x a' s X Y row hs hg hr => by
      obtain ⟨B, e, hn⟩ := hs
      exact ⟨B, e, (grownBy_keeps_cells hg (fun r q => (hr r q).2) hn rfl).trans hn⟩) ?assign ?body ?done ?stop
  case assign =>
    rintro l2 pre ⟨o, t, k⟩ W K ⟨hj, hbo⟩ hsz hK
    unfold nt
    gi_wp2
    exact hK _ _ (Kept.below (al1 _ _) (by omega) (by omega)) ⟨hJ.alloc _ hj, old_at hbo⟩ ⟨_, rfl, NB.new _ _ _ _⟩
  case body =>
    rintro l2 pre ⟨o, t, k⟩ a' W ⟨hj, hbo⟩ ⟨B, rfl, hn⟩ hsz hpr
    have hmem : (o, t, k) ∈ xs := hpr.mem (by simp)
    have hex := hE _ _ hj
    have hc := hu'.out (o, t, k) hmem W hex.2.1
    have cu : W.cell? ⟨b2, 0, none⟩ = some (.func (.func 31) #[] #[.pointer (some ⟨bu, 0, none⟩)]) := by
      have := cell_at hex.2.2 0
      simpa using this
    have n0 := hn.c0
    have n1 := hn.c1
    have n2 := hn.c2
    dsimp only at n0 n1 n2 hc
    have hfs := filter_snoc p pre (o, t, k)
    have hpf : (pre ++ [(o, t, k)]).filter p <+: xs.filter p := hpr.filter p
    clear hex
    generalize hPx : p (o, t, k) = b at hc hfs
    unfold nt at hc
    cases b with
    | false =>
      rw [if_neg (by decide)] at hfs
      gi_wp2_with (refine ⟨trivial, rfl, ?_⟩; gi_at_call 31; refine (callsIn_wide.2 hc).mono ?_; rintro e u1 ⟨rfl, hb1⟩)
      refine ⟨fun f e => (by cases e), ?_⟩
      gi_wp2
      refine ⟨Kept.below hb1 (by omega) (by omega), ?_, (hb1.block _ (lt_at hbo)).trans hbo⟩
      rw [hfs]
      exact own_below hJ hj hb1
    | true =>
      rw [if_pos rfl] at hfs
      rw [hfs] at hpf
      gi_wp2
      refine ⟨trivial, rfl, ?_⟩
      refine (callsIn_wide.2 hc).mono ?_
      rintro e u1 ⟨rfl, hb1⟩
      have hbo1 := (hb1.block _ (lt_at hbo)).trans hbo
      have cb : u1.cell? ⟨W0.heap.size, 0, none⟩ = some (.func (.yield ll) #[] #[]) := by
        have := cell_at hbo1 0
        simpa using this
      have hn1 := hn.carry hb1
      have m0 := hn1.c0
      have m1 := hn1.c1
      have m2 := hn1.c2
      have hyl := yield_in (n := 0) l2 (hY _ (o, t, k) u1 (own_below hJ hj hb1) (by have := hb1.size; omega) hpf)
      obtain ⟨fn, tmps, assign, body, hy, hR⟩ := hyl
      unfold nt at hy
      gi_wp2
      refine ⟨rfl, hR.mono ?_⟩
      rintro e' W3 ⟨hkp, hfin⟩
      have hk0 : Kept bx W0.heap.size 3 W u1 := Kept.below hb1 (by omega) (by omega)
      have hkp2 : Kept bx W1.heap.size (0 + 2) W W3 := (hk0.trans hkp).less (by omega) (by omega)
      have hbo3 := (hkp.rng W0.heap.size (by omega) (by omega)).trans hbo1
      rcases hfin with ⟨rfl, hj3⟩ | ⟨rfl, hjx⟩
      · gi_wp2
        refine ⟨hkp2, ?_, hbo3⟩
        rw [hfs]
        exact hj3
      · gi_wp2
        refine ⟨hkp2, rfl, ?_⟩
        rw [hfs]
        exact hjx
  case done =>
    rintro V ⟨hj, hbo⟩ hK
    gi_wp2
    refine ⟨by simp, .inl ⟨_, _, rfl, run_takeDeferred hK, ?_⟩⟩
    refine ⟨.tuple #[], by simp [results, Try.results49], ⟨_, rfl⟩, .inl ?_⟩
    exact hJ.putObj _ hj (by omega) hK rfl
  case stop =>
    rintro co pre V hpr ⟨rfl, hjx⟩ hK
    gi_wp2
    refine ⟨by simp, .inl ⟨_, _, rfl, run_takeDeferred hK, ?_⟩⟩
    refine ⟨.tuple #[], by simp [results, Try.results49], ⟨_, rfl⟩, .inr ⟨pre.filter p, hpr.filter p, ?_⟩⟩
    exact hJx.putObj _ hjx (by omega) hK rfl
set_option maxHeartbeats 4000000 in
set_option maxRecDepth 100000 in
theorem passA_seq {w : World} (xs : List N3) (b1 b2 bi bu bx : Nat) (p : N3 → Bool) (ExtI ExtU : World → Prop)
    (hin : SeqE Try.prog ExtI 51 #[.pointer (some ⟨bi, 0, none⟩)] (fun x : N3 => #[nt x.1 x.2.1 x.2.2]) bx 0 xs w)
    (h1 : w.heap[b1]? = some (.cells #[.func (.func 51) #[] #[.pointer (some ⟨bi, 0, none⟩)]] 59 (0, 0)))
    (hbx : bx < w.heap.size)
    (hu : ∀ x ∈ xs, ∀ W, ExtU W → Calls Try.prog 26 #[nt x.1 x.2.1 x.2.2, .pointer (some ⟨bu, 0, none⟩)] W fun e w' => e = .returned (.bool (!p x)) ∧ Below W.heap.size W w') :
    SeqE Try.prog (fun W => ExtI W ∧ ExtU W ∧ W.heap[b2]? = some (.cells #[.func (.func 26) #[] #[.pointer (some ⟨bu, 0, none⟩)]] 61 (0, 0))) 49 #[.pointer (some ⟨b1, 0, none⟩), .pointer (some ⟨b2, 0, none⟩)] (fun x : N3 => #[nt x.1 x.2.1 x.2.2]) bx 3 (xs.filter p) w := by
  intro ll J Jx W0 hW hJ hJx hE hY h0
  have hu' : Hid (∀ x ∈ xs, ∀ W, ExtU W → Calls Try.prog 26 #[nt x.1 x.2.1 x.2.2, .pointer (some ⟨bu, 0, none⟩)] W fun e w' => e = .returned (.bool (!p x)) ∧ Below W.heap.size W w') := hu
  clear hu
  have hb1 := (hW.block _ (lt_at h1)).trans h1
  have c0 := cell_at hb1 0
  simp only [List.getElem?_toArray, List.getElem?_cons_zero] at c0
  obtain ⟨W1, hW1⟩ : ∃ W1, W0.alloc (.cells #[.func (.yield ll) #[] #[]] 61) = W1 := ⟨_, rfl⟩
  have hbW1 : Below W0.heap.size W0 W1 := by rw [← hW1]; exact al1 _ _
  have hz1 : W1.heap.size = W0.heap.size + 1 := by rw [← hW1]; simp
  have hB1 : W1.heap[W0.heap.size]? = some (.cells #[.func (.yield ll) #[] #[]] 61 (0, 0)) := by rw [← hW1]; exact new_at rfl
  have c1 : W1.cell? ⟨b1, 0, none⟩ = some (.func (.func 51) #[] #[.pointer (some ⟨bi, 0, none⟩)]) := by
    have := cell_at ((hbW1.block _ (lt_at hb1)).trans hb1) 0
    simpa using this
  have hj1 : J [] W1 := own_below hJ h0 hbW1
  have hin1 : SeqE Try.prog ExtI 51 #[.pointer (some ⟨bi, 0, none⟩)] (fun x : N3 => #[nt x.1 x.2.1 x.2.2]) bx 0 xs W1 := hin.at (hW.trans (hbW1.mono hW.size))
  have hws := hW.size
  have hbx1 : bx < W1.heap.size := by omega
  clear hin h1 h0 hb1
  refine callsIn_of_wp_marks Try.func49 rfl trivial ?_ rfl
  simp only [Try.ntmps49, List.size_toArray, List.length_cons, List.length_nil, Nat.reduceAdd, Nat.reduceSub, Array.replicate_succ, Array.replicate_zero, List.push_toArray, List.append_toArray, List.nil_append, List.cons_append]
  gi_wp2
  refine wp_rangeE (kb := 0) (gf := 51) (lb := #[.pointer (some ⟨bi, 0, none⟩)]) rfl (enters_of Try.func51 (by kernel_rfl) rfl)
    hin1 hbx1 (fun _ => rfl)
    (fun pre W => J (pre.filter p) W ∧ W.heap[W0.heap.size]? = some (.cells #[.func (.yield ll) #[] #[]] 61 (0, 0)))
    (fun c pre W => c = .ret ∧ Jx (pre.filter p) W)
    (fun s X Y row hs hg hr => ⟨hJ _ X Y row hs.1 hg (fun r e => ⟨by have := (hr r e).1; omega, (hr r e).2⟩), (grownBy_keeps_cells hg (fun r q => (hr r q).2) hs.2 rfl).trans hs.2⟩)
    (fun c s X Y row hs hg hr => ⟨hs.1, hJx _ X Y row hs.2 hg (fun r e => ⟨by have := (hr r e).1; omega, (hr r e).2⟩)⟩)
    ⟨hj1, hB1⟩ (fun _ _ h => (hE _ _ h.1).1)
    (fun x a' W => ∃ B, a' = { tmps := #[.func (.yield ll) #[] #[], .pointer (some ⟨b1, 0, none⟩), .pointer (some ⟨b2, 0, none⟩), .pointer (some ⟨W0.heap.size, 0, none⟩), .pointer (some ⟨B, 0, none⟩), .func (.func 51) #[] #[.pointer (some ⟨bi, 0, none⟩)], nt x.1 x.2.1 x.2.2, undef, undef, undef, undef, undef, undef, undef, undef, undef, undef], defers := [] } ∧ NB W B x.1 x.2.1 x.2.2)
    (fun x a' s X Y row hs hg hr => by
      obtain ⟨B, e, hn⟩ := hs
      exact ⟨B, e, (grownBy_keeps_cells hg (fun r q => (hr r q).2) hn rfl).trans hn⟩) ?assign ?body ?done ?stop
  case assign =>
    rintro l2 pre ⟨o, t, k⟩ W K ⟨hj, hbo⟩ hsz hK
    unfold nt
    gi_wp2
    exact hK _ _ (Kept.below (al1 _ _) (by omega) (by omega)) ⟨hJ.alloc _ hj, old_at hbo⟩ ⟨_, rfl, NB.new _ _ _ _⟩
  case body =>
    rintro l2 pre ⟨o, t, k⟩ a' W ⟨hj, hbo⟩ ⟨B, rfl, hn⟩ hsz hpr
    have hmem : (o, t, k) ∈ xs := hpr.mem (by simp)
    have hex := hE _ _ hj
    have hc := hu'.out (o, t, k) hmem W hex.2.1
    have cu : W.cell? ⟨b2, 0, none⟩ = some (.func (.func 26) #[] #[.pointer (some ⟨bu, 0, none⟩)]) := by
      have := cell_at hex.2.2 0
      simpa using this
    have n0 := hn.c0
    have n1 := hn.c1
    have n2 := hn.c2
    dsimp only at n0 n1 n2 hc
    have hfs := filter_snoc p pre (o, t, k)
    have hpf : (pre ++ [(o, t, k)]).filter p <+: xs.filter p := hpr.filter p
    clear hex
    generalize hPx : p (o, t, k) = b at hc hfs
    unfold nt at hc
    cases b with
    | false =>
      rw [if_neg (by decide)] at hfs
      gi_wp2_with (refine ⟨trivial, rfl, ?_⟩; gi_at_call 26; refine (callsIn_wide.2 hc).mono ?_; rintro e u1 ⟨rfl, hb1⟩)
      refine ⟨fun f e => (by cases e), ?_⟩
      gi_wp2
      refine ⟨Kept.below hb1 (by omega) (by omega), ?_, (hb1.block _ (lt_at hbo)).trans hbo⟩
      rw [hfs]
      exact own_below hJ hj hb1
    | true =>
      rw [if_pos rfl] at hfs
      rw [hfs] at hpf
      gi_wp2
      refine ⟨trivial, rfl, ?_⟩
      refine (callsIn_wide.2 hc).mono ?_
      rintro e u1 ⟨rfl, hb1⟩
      have hbo1 := (hb1.block _ (lt_at hbo)).trans hbo
      have cb : u1.cell? ⟨W0.heap.size, 0, none⟩ = some (.func (.yield ll) #[] #[]) := by
        have := cell_at hbo1 0
        simpa using this
      have hn1 := hn.carry hb1
      have m0 := hn1.c0
      have m1 := hn1.c1
      have m2 := hn1.c2
      have hyl := yield_in (n := 0) l2 (hY _ (o, t, k) u1 (own_below hJ hj hb1) (by have := hb1.size; omega) hpf)
      obtain ⟨fn, tmps, assign, body, hy, hR⟩ := hyl
      unfold nt at hy
      gi_wp2
      refine ⟨rfl, hR.mono ?_⟩
      rintro e' W3 ⟨hkp, hfin⟩
      have hk0 : Kept bx W0.heap.size 3 W u1 := Kept.below hb1 (by omega) (by omega)
      have hkp2 : Kept bx W1.heap.size (0 + 2) W W3 := (hk0.trans hkp).less (by omega) (by omega)
      have hbo3 := (hkp.rng W0.heap.size (by omega) (by omega)).trans hbo1
      rcases hfin with ⟨rfl, hj3⟩ | ⟨rfl, hjx⟩
      · gi_wp2
        refine ⟨hkp2, ?_, hbo3⟩
        rw [hfs]
        exact hj3
      · gi_wp2
        refine ⟨hkp2, rfl, ?_⟩
        rw [hfs]
        exact hjx
  case done =>
    rintro V ⟨hj, hbo⟩ hK
    gi_wp2
    refine ⟨by simp, .inl ⟨_, _, rfl, run_takeDeferred hK, ?_⟩⟩
    refine ⟨.tuple #[], by simp [results, Try.results49], ⟨_, rfl⟩, .inl ?_⟩
    exact hJ.putObj _ hj (by omega) hK rfl
  case stop =>
    rintro co pre V hpr ⟨rfl, hjx⟩ hK
    gi_wp2
    refine ⟨by simp, .inl ⟨_, _, rfl, run_takeDeferred hK, ?_⟩⟩
    refine ⟨.tuple #[], by simp [results, Try.results49], ⟨_, rfl⟩, .inr ⟨pre.filter p, hpr.filter p, ?_⟩⟩
    exact hJx.putObj _ hjx (by omega) hK rfl
end Go.Proofs.Ytddblfffjhoiaaa
