import Derived.Test.YtekjhcnaabpfmaaGreatDoorJnJ25
set_option maxHeartbeats 40000000
set_option maxRecDepth 100000
set_option linter.unusedVariables false
namespace Go.Proofs.YtekjhcnaabpfmaaGreatDoor
open Go.RowKit Go.Shelf Go.Lib
attribute [local go_sem] Oper.semAt_some
theorem appseq_in {w : World} {xs : List N3} {Ext : World → Prop} {bx m : Nat} (b1 b2 : Nat) (hsq : SeqE Tryz.prog Ext 119 #[.pointer (some ⟨b1, 0, none⟩), .pointer (some ⟨b2, 0, none⟩)] (fun x : N3 => #[nt x.1 x.2.1 x.2.2]) bx m xs w) (hbx : bx < w.heap.size) (hE : ∀ W, Below w.heap.size w W → Ext W) (hlen : xs.length ≤ 1000000) :
  CallsIn Fence.wide 0 Tryz.prog 118 #[.slice none 0 0, .func (.func 119) #[] #[.pointer (some ⟨b1, 0, none⟩), .pointer (some ⟨b2, 0, none⟩)]] w fun e w' => ∃ v, e = .returned v ∧ Made w w' v xs ∧ Below w.heap.size w w' := by
 obtain ⟨ic, hic, hz0, hz1, hz2⟩ := info_partsN
 obtain ⟨W0, hW0⟩ : ∃ W0, w.alloc (.cells #[.slice none 0 0] 36) = W0 := ⟨_, rfl⟩
 have b0 : Below w.heap.size w W0 := by rw [← hW0]; exact al1 _ _
 have hz : W0.heap.size = w.heap.size + 1 := by rw [← hW0]; simp
 have v0 : Boxed W0 w.heap.size 36 (.slice none 0 0) := by rw [← hW0]; exact zna rfl
 have o0 : W0.ownsRow w.heap.size 65 3 (.slice none 0 0) 0 [] := World.ownsRow_nil _ _ _ _
 have hsq0 := hsq.at b0
 have hbx0 : bx < W0.heap.size := by omega
 clear hsq
 refine callsIn_of_wp_marks Tryz.func118 rfl trivial ?_ rfl
 simp only [Tryz.ntmps118, List.size_toArray, List.length_cons, List.length_nil, Nat.reduceAdd, Nat.reduceSub, Array.replicate_succ, Array.replicate_zero, List.push_toArray, List.append_toArray, List.nil_append, List.cons_append]
 gi_wp2
 refine wp_rangeE (kb := 0) (gf := 119) (lb := #[.pointer (some ⟨b1, 0, none⟩), .pointer (some ⟨b2, 0, none⟩)]) rfl (enters_of Tryz.func119 (by kernel_rfl) rfl)
  hsq0 hbx0 (fun _ => rfl)
  (fun pre W => (∃ v, Boxed W w.heap.size 36 v ∧ W.ownsRow w.heap.size 65 3 v pre.length (fl pre) ∧ ∀ q, v.ownBlock = some q → W0.heap.size + (m + 2) ≤ q) ∧ Below w.heap.size w W)
  (fun _ _ _ => False)
  (OwnFrom.and ((rowBoxP_own _ _ _ _ _ (fun pre : List N3 => pre.length) (fun pre => fl pre) _).from _) (ownFrom_below (Nat.le_refl _) (by omega)))
  (fun _ _ _ _ _ hs _ _ => hs)
  ⟨⟨_, v0, o0, fun q e => by cases e⟩, b0⟩ (fun _ _ h => hE _ h.2)
  (fun x a' W => ∃ B, a' = { tmps := #[.slice none 0 0, .func (.func 119) #[] #[.pointer (some ⟨b1, 0, none⟩), .pointer (some ⟨b2, 0, none⟩)], .pointer (some ⟨w.heap.size, 0, none⟩), undef, .slice none 0 0, .pointer (some ⟨B, 0, none⟩), .func (.func 119) #[] #[.pointer (some ⟨b1, 0, none⟩), .pointer (some ⟨b2, 0, none⟩)], nt x.1 x.2.1 x.2.2, undef, undef, undef, undef, undef], defers := [] } ∧ NB W B x.1 x.2.1 x.2.2)
  (fun x a' s X Y row hs hg hr => by
    obtain ⟨B, e, hn⟩ := hs
    exact ⟨B, e, (grownBy_keeps_cells hg (fun r q => (hr r q).2) hn rfl).trans hn⟩) ?assign ?body ?done ?stop
 case assign =>
  rintro l2 pre ⟨o, t, k⟩ W K hi hsz hK
  unfold nt
  gi_wp2
  refine hK _ _ (Kept.below (al1 _ _) (by omega) (by omega)) ?_ ⟨_, rfl, NB.new _ _ _ _⟩
  obtain ⟨⟨v, hv, hrow, hq⟩, hb⟩ := hi
  exact ⟨⟨v, hv.alloc _, hrow.alloc _, hq⟩, hb.alloc hb.size _⟩
 case body =>
  rintro l2 pre ⟨o, t, k⟩ a' W ⟨⟨v, hv, hrow, hq⟩, hb⟩ ⟨B, rfl, hn⟩ hsz hpr
  have hcv := hv.cell
  have n0 := hn.c0
  have n1 := hn.c1
  have n2 := hn.c2
  dsimp only at n0 n1 n2
  have hln : pre.length + 1 ≤ xs.length := by have := hpr.length_le; simpa using this
  have hbs := hb.size
  gi_wp2_with (gi_at_builtin; refine wpListIn_append_own_at _ rfl _ _ 36 rfl w.heap.size 65 ic _ 3 24 Tryz.underlying36 hic hz0 hz1 hz2 rfl (by decide) _ _ _ rfl (hrow.alloc _) ⟨W.heap.size, 0, none⟩ 1 1 [_, _, _] rfl rfl (rowN _ #[_, _, _] _) (by simp [Value.oneCell']) (by unfold maxLen; omega) (by omega) (Nat.le_trans hb.size (by simp)) ?_; intro v' w2 hown' hgrow _ hob; obtain ⟨g', cap', rfl⟩ := ownsRow_succ hown'; have hv2 : Boxed w2 w.heap.size 36 v := (hv.alloc _).kept hgrow (fun e' => by have := hq _ e'.symm; omega); have hc2 := hv2.cell; have hfz2 := hv2.frozen)
  refine ⟨?_, ⟨_, hv2.set _, ?_, ?_⟩, ?_⟩
  · refine ((Kept.below (al1 _ _) (by omega) (by omega)).trans (Kept.grown hgrow (by simp; omega) (by simp; omega) (fun q hq' => ?_))).trans (Kept.setCell (by omega) (by omega))
    have := hq q hq'
    omega
  · rw [fl_append, List.length_append]
    refine ownsRow_set hown' (fun q hq' => ?_) _
    rcases hob with e | e
    · have := hq q (e ▸ hq'); omega
    · rw [e] at hq'; simp at hq'; omega
  · intro q hq'
    rcases hob with e | e
    · have := hq q (e ▸ hq'); omega
    · rw [e] at hq'; simp at hq'; omega
  · exact ((hb.alloc hb.size _).grown hgrow (by have := hb.size; simp; omega) (fun q hq' => by have := hq q hq'; omega)).setCell (by simp) _
 case done =>
  rintro W ⟨⟨v, hv, hrow, hq⟩, hb⟩ hK
  have hcv := hv.cell
  gi_wp2
  refine ⟨by simp, .inl ⟨_, _, rfl, run_takeDeferred hK, ?_⟩⟩
  exact ⟨v, by simp [results, Tryz.results118, go_sem], v, rfl, ownsRow_putObj hrow _ hK rfl, below_taken _ hb (by omega)⟩
 case stop =>
  rintro c pre W _ h _
  exact h.elim
theorem collect_any {w : World} {xs : List N3} {Ext : World → Prop} {bx m : Nat} (b1 b2 : Nat) (hsq : SeqE Tryz.prog Ext 119 #[.pointer (some ⟨b1, 0, none⟩), .pointer (some ⟨b2, 0, none⟩)] (fun x : N3 => #[nt x.1 x.2.1 x.2.2]) bx m xs w) (hbx : bx < w.heap.size) (hE : ∀ W, Below w.heap.size w W → Ext W) (hlen : xs.length ≤ 1000000) :
  Calls Tryz.prog 82 #[.func (.func 119) #[] #[.pointer (some ⟨b1, 0, none⟩), .pointer (some ⟨b2, 0, none⟩)]] w fun e w' => ∃ v, e = .returned v ∧ Made w w' v xs ∧ Below w.heap.size w w' := by
 have ha := callsIn_wide.1 (appseq_in b1 b2 hsq hbx hE hlen)
 clear hsq
 go_enter Tryz.func82, Tryz.ntmps82
 go_wp2_with (go_at_call 118; (with_reducible refine ha.mono ?_); rintro e u1 ⟨v, rfl, hm, hb1⟩)
 go_ret
 exact ⟨v, rfl, hm, hb1⟩
end Go.Proofs.YtekjhcnaabpfmaaGreatDoor
namespace Go.Proofs.YtekjhcnaabpfmaaGreatDoor
open Go.RowKit Go.Shelf Go.Lib
attribute [local go_sem] Oper.semAt_some
def vln (n : Int) (x : N3) : Bool := vl n x.1 x.2.1 x.2.2
theorem allv1_any {w : World} (b : Nat) (n o t k : Int) (hb : w.heap[b]? = some (.cells #[.int .i64 n] 3 (0, 0))) : Calls Tryz.prog 115 #[nt o t k, .pointer (some ⟨b, 0, none⟩)] w fun e w' => e = .returned (.bool (!vln n (o, t, k))) ∧ Below w.heap.size w w' := by
 obtain ⟨w1, hw1⟩ : ∃ w1, w.alloc (.cells #[.int .i64 o, .int .i64 t, .int .i64 k] 65) = w1 := ⟨_, rfl⟩
 have hb1 : Below w.heap.size w w1 := by rw [← hw1]; exact al1 _ _
 have hn : NB w1 w.heap.size o t k := by rw [← hw1]; exact NB.new _ _ _ _
 have c0 : w1.cell? ⟨b, 0, none⟩ = some (.int .i64 n) := zca ((hb1.block _ (zla hb)).trans hb) 0
 have n0 := hn.c0
 have n1 := hn.c1
 have n2 := hn.c2
 have hv := valid_any n o t k w1
 unfold nt at hv ⊢
 unfold vln
 go_enter Tryz.func115, Tryz.ntmps115
 go_wp2_with (go_at_call 113; (with_reducible refine hv.mono ?_); rintro e u1 ⟨rfl, hb2⟩)
 go_ret
 exact ⟨rfl, bel2 hb1 hb2⟩
theorem idxV_any {w : World} (b : Nat) (n : Int) (ad : Option Addr) (cap : Nat) (l : List N3) (hb : w.heap[b]? = some (.cells #[.int .i64 n] 3 (0, 0))) (h : RdN w ad l) (hl : l.length ≤ 6000000000000) : Calls Tryz.prog 144 #[.slice ad l.length cap, .func (.func 115) #[] #[.pointer (some ⟨b, 0, none⟩)]] w fun e w' => ∃ z : Int, e = .returned (.int .i64 z) ∧ decide (z ≥ 0) = !l.all (vln n) ∧ Below w.heap.size w w' := by
 obtain ⟨N, hN⟩ : ∃ N, l.length = N := ⟨_, rfl⟩
 have HN : Hid (l.length = N) := hN
 have HR : Hid (RdN w ad l) := h
 rw [hN] at hl ⊢
 clear hN h
 go_enter Tryz.func144, Tryz.ntmps144
 go_wp2
 go_loopw [8] (fun i wz => ∃ (k : Nat), i = .int .i64 k ∧ k ≤ N ∧ (l.take k).all (vln n) = true ∧ Below w.heap.size w wz) (fun i _ => N - vnatR i)
 case atStart => exact ⟨0, rfl, Nat.zero_le _, rfl, Below.refl _ _⟩
 case round =>
  obtain ⟨k, rfl, hk, hall, hbw⟩ := hrel
  have HK : Hid ((l.take k).all (vln n) = true) := hall
  clear hall
  by_cases hkl : k < N
  · have hki : (k : Int) < (N : Int) := by omega
    have hkl1 : k < l.length := by rw [HN.out]; exact hkl
    obtain ⟨⟨o, t, q⟩, hx⟩ : ∃ x, l[k]? = some x := ⟨_, List.getElem?_eq_getElem hkl1⟩
    obtain ⟨gb, off, rfl, hgl, hat⟩ := (HR.out.carry hbw) (fun e => by rw [e] at hkl1; simp at hkl1)
    obtain ⟨c0, c1, c2⟩ := hat k _ hx
    dsimp only at c0 c1 c2
    have hc := allv1_any b n o t q ((hbw.block _ (zla hb)).trans hb)
    have HX : Hid (l[k]? = some (o, t, q)) := hx
    generalize hv : vln n (o, t, q) = V at hc
    have HV : Hid (vln n (o, t, q) = V) := hv
    unfold nt at hc
    clear hx hat hkl1 hv
    cases V with
    | false =>
     go_wp2_with (go_at_call 115; (with_reducible refine hc.mono ?_); rintro e u1 ⟨rfl, hb2⟩)
     go_ret
     refine ⟨_, rfl, ?_, bel2 hbw hb2⟩
     have : l.all (vln n) = false := by
      rw [Bool.eq_false_iff]
      intro e
      have := List.all_eq_true.1 e _ (List.mem_of_getElem? HX.out)
      rw [HV.out] at this
      cases this
     rw [this]
     simp
    | true =>
     go_wp2_with (go_at_call 115; (with_reducible refine hc.mono ?_); rintro e u1 ⟨rfl, hb2⟩)
     go_roundw
     case rel =>
      refine ⟨k + 1, by simp, by omega, ?_, bel2 hbw hb2⟩
      rw [List.take_add_one, HX.out, List.all_append, HK.out]
      simpa using HV.out
     case measure => simp [vnatR]; omega
  · have hkk : k = N := by omega
    subst hkk
    go_wp2
    go_ret
    refine ⟨_, rfl, ?_, hbw⟩
    have := HK.out
    rw [List.take_of_length_le (by rw [HN.out]; exact Nat.le_refl _)] at this
    rw [this]
    rfl
theorem conV_any {w : World} (b : Nat) (n : Int) (ad : Option Addr) (cap : Nat) (l : List N3) (hb : w.heap[b]? = some (.cells #[.int .i64 n] 3 (0, 0))) (h : RdN w ad l) (hl : l.length ≤ 6000000000000) : Calls Tryz.prog 114 #[.slice ad l.length cap, .func (.func 115) #[] #[.pointer (some ⟨b, 0, none⟩)]] w fun e w' => e = .returned (.bool (!l.all (vln n))) ∧ Below w.heap.size w w' := by
 have hi := idxV_any b n ad cap l hb h hl
 go_enter Tryz.func114, Tryz.ntmps114
 go_wp2_with (go_at_call 144; (with_reducible refine hi.mono ?_); rintro e u1 ⟨z, rfl, hz, hb2⟩; have HZ : Hid (decide (z ≥ 0) = !l.all (vln n)) := hz; clear hz)
 go_ret
 refine ⟨?_, hb2⟩
 rw [← HZ.out]
 rfl
theorem allv_any (n : Int) (ad : Option Addr) (cap : Nat) (l : List N3) (w : World) (h : RdN w ad l) (hl : l.length ≤ 6000000000000) : Calls Tryz.prog 78 #[.int .i64 n, .slice ad l.length cap] w fun e w' => e = .returned (.bool (l.all (vln n))) ∧ Below w.heap.size w w' := by
 have hc := conV_any (w := w.alloc (.cells #[.int .i64 n] 3)) w.heap.size n ad cap l (zna rfl) (h.carry (al1 _ _)) hl
 go_enter Tryz.func78, Tryz.ntmps78
 go_wp2_with (go_at_call 114; (with_reducible refine hc.mono ?_); rintro e u1 ⟨rfl, hb2⟩)
 go_ret
 exact ⟨by simp, bel2 (al1 _ _) hb2⟩
def nm (self : Int) (x : N3) : Bool := !decide (x.1 = self ∧ x.2.2 = 1)
theorem own1_any {w : World} (b : Nat) (self o t k : Int) (hb : w.heap[b]? = some (.cells #[.int .i64 self] 3 (0, 0))) : Calls Tryz.prog 80 #[nt o t k, .pointer (some ⟨b, 0, none⟩)] w fun e w' => e = .returned (.bool (!nm self (o, t, k))) ∧ Below w.heap.size w w' := by
 obtain ⟨w1, hw1⟩ : ∃ w1, w.alloc (.cells #[.int .i64 o, .int .i64 t, .int .i64 k] 65) = w1 := ⟨_, rfl⟩
 have hb1 : Below w.heap.size w w1 := by rw [← hw1]; exact al1 _ _
 have hn : NB w1 w.heap.size o t k := by rw [← hw1]; exact NB.new _ _ _ _
 have c0 : w1.cell? ⟨b, 0, none⟩ = some (.int .i64 self) := zca ((hb1.block _ (zla hb)).trans hb) 0
 have n0 := hn.c0
 have n1 := hn.c1
 have n2 := hn.c2
 have HG : Hid (∀ B : Bool, B = decide (o = self ∧ k = 1) → Ending.returned (Value.bool B) = Ending.returned (Value.bool (!nm self (o, t, k)))) := by
   rintro B rfl
   simp [nm]
 unfold nt
 go_enter Tryz.func80, Tryz.ntmps80
 by_cases h1 : o = self
 · subst h1
   go_wp2
   go_ret
   exact ⟨HG.out _ (by rw [Bool.eq_iff_iff]; simp), hb1⟩
 · have h2 : (o == self) = false := by simpa using h1
   go_wp2
   go_ret
   exact ⟨HG.out _ (by simp [h1]), hb1⟩
end Go.Proofs.YtekjhcnaabpfmaaGreatDoor
namespace Go.Proofs.YtekjhcnaabpfmaaGreatDoor
open Go.RowKit Go.Shelf Go.Lib
attribute [local go_sem] Oper.semAt_some
def abs (l : List N3) (self : Int) (m : List N3) : List N3 := if m.all (vlx l.length) = true then mrg l (m.filter (nm self)) else l
def abr (l : List N3) (self : Int) (m : List N3) : Nat := if m.all (vlx l.length) = true then mrs l (m.filter (nm self)) else 0
theorem abs_bok {l : List N3} (hb : Bok l) (self : Int) (m : List N3) : Bok (abs l self m) := by
 unfold abs
 split
 · exact mrg_bok hb _
 · exact hb
theorem abs_len {l : List N3} (hb : Bok l) (self : Int) (m : List N3) : (abs l self m).length = l.length := by
 unfold abs
 split
 · exact mrg_len hb _
 · rfl
theorem absorb_any {w : World} {p g : Nat} {l : List N3} (hB : Bk w p g l) (self : Int) (ad : Option Addr) (cap : Nat) (m : List N3) (hm : RdN w ad m) (hl : m.length ≤ 1000000) : Calls Tryz.prog 40 #[.pointer (some ⟨p, 0, none⟩), .int .i64 self, .slice ad m.length cap] w fun e w' => e = .returned (.tuple #[sv (abr l self m), .int .i64 (if m.all (vlx l.length) = true then 0 else 50)]) ∧ Bk w' p g (abs l self m) ∧ w.grownBy w' (some g) := by
 obtain ⟨w1, hw1⟩ : ∃ w1, (w.alloc (.cells #[.int .i64 self] 3)).alloc (.cells #[.int .u32 0, .int .u32 0, .int .u32 0, .int .u32 0] 35) = w1 := ⟨_, rfl⟩
 have hb1 : Below w.heap.size w w1 := by rw [← hw1]; exact al2 _ _ _
 have hz1 : w1.heap.size = w.heap.size + 2 := by rw [← hw1]; simp
 have HZ1 : Hid (w1.heap.size = w.heap.size + 2) := hz1
 have hs1 : w1.heap[w.heap.size]? = some (.cells #[.int .i64 self] 3 (0, 0)) := by rw [← hw1]; exact zoa (zna rfl)
 have hr1 : Zh4 w1 (w.heap.size + 1) (fun _ => 0) := by rw [← hw1]; exact zna (by simp)
 clear hz1
 have hsz := bsize_any (hB.carry hb1)
 generalize hA : m.all (vlx l.length) = A
 have HA : Hid (m.all (vlx l.length) = A) := hA
 have HR : Hid (abr l self m = if A = true then mrs l (m.filter (nm self)) else 0) := by show _ = _; unfold abr; rw [hA]
 have HB : Hid (abs l self m = if A = true then mrg l (m.filter (nm self)) else l) := by show _ = _; unfold abs; rw [hA]
 clear hA
 cases A with
 | false =>
  go_enter Tryz.func40, Tryz.ntmps40
  go_wp2_with (first | (go_at_call 79; (with_reducible refine hsz.mono ?_); rintro e u2 ⟨rfl, hb2⟩; have hav := allv_any (l.length : Int) ad cap m u2 ((hm.carry hb1).carry hb2) (by omega); have hva : m.all (vln (l.length : Int)) = false := HA.out; rw [hva] at hav; clear hva) | (go_at_call 78; (with_reducible refine hav.mono ?_); rintro e u3 ⟨rfl, hb3⟩; have hr3 := (hr1.carry hb2).carry hb3; obtain ⟨x0, x1, x2, x3, y0, y1, y2, y3⟩ := hr3.facts))
  refine ret4t (M := 0) (x := .int .i64 50) rfl rfl rfl rfl (fin4 hr3 0) ?_
  rw [HR.out, HB.out, if_neg (by decide), if_neg (by decide)]
  have hbb : Below w.heap.size w u3 := bel2 (bel2 hb1 hb2) hb3
  have hk3 := hB.carry hbb
  have hne := hk3.ne4 hr3
  exact ⟨rfl, hk3.set_ne (M := 0) hne.1 hne.2, grown_res (M := 0) (grown_below0 hbb g) (Nat.le_succ _)⟩
 | true =>
  have HF : Hid ((m.filter (nm self)).all (vlx l.length) = true) := by
   show _ = _
   rw [List.all_eq_true]
   intro x hx
   exact List.all_eq_true.1 HA.out x (List.mem_filter.1 hx).1
  have hfl : (m.filter (nm self)).length ≤ 1000000 := Nat.le_trans (List.length_filter_le _ _) hl
  go_enter Tryz.func40, Tryz.ntmps40
  go_wp2_with (first | (go_at_call 79; (with_reducible refine hsz.mono ?_); rintro e u2 ⟨rfl, hb2⟩; have hav := allv_any (l.length : Int) ad cap m u2 ((hm.carry hb1).carry hb2) (by omega); have hva : m.all (vln (l.length : Int)) = true := HA.out; rw [hva] at hav; clear hva) | (go_at_call 78; (with_reducible refine hav.mono ?_); rintro e u3 ⟨rfl, hb3⟩; have hvs := vals_any u3 ad m.length cap) | (go_at_call 84; (with_reducible refine hvs.mono ?_); rintro e u4 ⟨rfl, hv4, hb4⟩; have hps := pass_any u4 120 80 #[.pointer (some ⟨u3.heap.size, 0, none⟩)] #[.pointer (some ⟨w.heap.size, 0, none⟩)]) | (go_at_call 83; (with_reducible refine hps.mono ?_); rintro e u5 ⟨rfl, hp5, hq5, hb5⟩; have hbb : Below w1.heap.size w1 u5 := bel2 (bel2 (bel2 hb2 hb3) hb4) hb5; have hs5 := (hbb.block _ (zla hs1)).trans hs1; have hm5 := (hm.carry hb1).carry hbb; have hsq := passV_seq (w := u5) m u4.heap.size (u4.heap.size + 1) u3.heap.size w.heap.size w.heap.size (nm self) _ (fun W => W.heap[w.heap.size]? = some (.cells #[.int .i64 self] 3 (0, 0))) (vals_seq m u3.heap.size w.heap.size ad cap u5 (by omega) ((hb5.block _ (zla hv4)).trans hv4)) hp5 (zla hs5) (fun x _ W hW => own1_any w.heap.size self x.1 x.2.1 x.2.2 hW); have hco := collect_any u4.heap.size (u4.heap.size + 1) hsq (zla hs5) (fun W hW => ⟨hm5.carry hW, (hW.block _ (zla hs5)).trans hs5, (hW.block _ (zla hq5)).trans hq5⟩) hfl; clear hsq) | (go_at_call 82; (with_reducible refine hco.mono ?_); rintro e u6 ⟨v, rfl, hmd, hb6⟩; obtain ⟨ad6, cap6, rfl, hrd, hnew⟩ := hmd.rd; have hb16 : Below w1.heap.size w1 u6 := bel2 hbb hb6; have hk6 := (hB.carry hb1).carry hb16; have hmg := merge_any hk6 ad6 cap6 (m.filter (nm self)) hrd (fun _ a e => (by have h1 := hnew a e; have h2 := hB.glt; have h3 := hbb.size; have h4 := HZ1.out; omega)) (by omega); rw [if_pos HF.out] at hmg; unfold sv at hmg) | (go_at_call 81; (with_reducible refine hmg.mono ?_); rintro e u7 ⟨rfl, hk7, hg7⟩; have hr6 := hr1.carry hb16; have hr7 := hr6.turn hk6 hg7; obtain ⟨x0, x1, x2, x3, y0, y1, y2, y3⟩ := hr7.facts))
  refine ret4t (M := mrs l (m.filter (nm self))) (x := .int .i64 0) rfl rfl rfl rfl (fin4 hr7 _) ?_
  rw [HR.out, HB.out]
  simp only [if_true]
  have hne := hk7.ne4 hr7
  exact ⟨trivial, hk7.set_ne hne.1 hne.2, grown_res (grown_then (bel2 hb1 hb16) hg7) (Nat.le_succ _)⟩
end Go.Proofs.YtekjhcnaabpfmaaGreatDoor
namespace Go.Proofs.YtekjhcnaabpfmaaGreatDoor
open Go.RowKit Go.Shelf Go.Lib
attribute [local go_sem] Oper.semAt_some
theorem ride_any {w : World} {p g : Nat} {l : List N3} (h : Bk w p g l) (h0 : 0 < l.length) (h1 : l.length ≤ 100) : Calls Tryz.prog 96 #[.pointer (some ⟨p, 0, none⟩)] w fun e w' => ∃ v, e = .returned v ∧ Made w w' v (l.filter pNew) ∧ Below w.heap.size w w' := by
 have hn := bnews_any h h0 h1
 go_enter Tryz.func96, Tryz.ntmps96
 go_wp2_with (go_at_call 130; (with_reducible refine hn.mono ?_); rintro e u1 ⟨v, rfl, hm, hb1⟩)
 go_ret
 exact ⟨v, rfl, hm, hb1⟩
end Go.Proofs.YtekjhcnaabpfmaaGreatDoor
