/- infer's allWithin and counts: what they answer. -/
import Derived.Test.YtgehmidalfajgaaDoorTyq
import Derived.Test.YtgehmidalfajgaaDoorItx
import Derived.Test.YtgehmidalfajgaaDoorOwn
import Derived.Maps.AppendAt
import Derived.Maps.OwnIn
namespace Go.Proofs.YtgehmidalfajgaaDoor
open Go.RowKit Go.Shelf Go.Lib
attribute [local go_sem] Oper.semAt_some

set_option maxHeartbeats 1000000 in
set_option maxRecDepth 100000 in
theorem within1_any (a : Bool) (N : Nat) (hN : N < S128) (bn : Nat) (n : Int) (w : World) (hc : w.heap[bn]? = some (.cells #[.int .i64 n] 3 (0, 0))) : Calls Tryd.prog 53 #[.bool a, sv N, .pointer (some ⟨bn, 0, none⟩)] w fun e w' => e = .returned (.bool (a && wthB N n)) ∧ Below w.heap.size w w' := by
  obtain ⟨w1, hw1⟩ : ∃ w1, w.alloc (.cells #[.int .u32 (wd N 0 : Nat), .int .u32 (wd N 1 : Nat), .int .u32 (wd N 2 : Nat), .int .u32 (wd N 3 : Nat)] 27) = w1 := ⟨_, rfl⟩
  have hb1 : Below w.heap.size w w1 := by rw [← hw1]; exact al1' _ _
  have g1 : Holds4 w1 w.heap.size (wd N) := by rw [← hw1]; exact new_at rfl
  have hwi := within_any N hN n w1
  have c1 : w1.cell? ⟨bn, 0, none⟩ = some (.int .i64 n) := (World.cell?_of_block (a := ⟨bn, 0, none⟩) (hb1.block _ (lt_at hc))).trans (cell_at hc 0)
  obtain ⟨y0, y1, y2, y3, _⟩ := g1.facts
  clear g1
  simp only [sv] at hwi ⊢
  cases a with
  | false =>
    go_enter Tryd.func53, Tryd.ntmps53
    go_wp2
    go_ret
    exact ⟨rfl, hb1⟩
  | true =>
    go_enter Tryd.func53, Tryd.ntmps53
    go_wp2_with (go_at_call 31; (with_reducible refine hwi.mono ?_); rintro e u ⟨rfl, hu⟩)
    go_ret
    exact ⟨rfl, bel2 hb1 hu⟩
theorem all_succ (l : List Nat) (f : Nat → Bool) (k x : Nat) (h : l[k]? = some x) : (l.take (k + 1)).all f = ((l.take k).all f && f x) := by
  have e : l.take (k + 1) = l.take k ++ [x] := by rw [List.take_add_one, h]; rfl
  rw [e, List.all_append]
  simp
set_option maxHeartbeats 2000000 in
set_option maxRecDepth 100000 in
theorem foldB_any (ad : Option Addr) (cap : Nat) (l : List Nat) (bn : Nat) (n : Int) (w : World) (h : RdS w ad l) (hs : ∀ N ∈ l, N < S128) (hc : w.heap[bn]? = some (.cells #[.int .i64 n] 3 (0, 0))) (hl : l.length ≤ 4611686018427387904) :
    Calls Tryd.prog 52 #[.slice ad l.length cap, .bool true, .func (.func 53) #[] #[.pointer (some ⟨bn, 0, none⟩)]] w fun e w' => e = .returned (.bool (l.all (fun N => wthB N n))) ∧ Below w.heap.size w w' := by
  go_enter Tryd.func52, Tryd.ntmps52
  go_wp2
  go_loopw [1, 11] (fun a c wz => ∃ k : Nat, c = .int .i64 k ∧ k ≤ l.length ∧ a = .bool ((l.take k).all (fun N => wthB N n)) ∧ Below w.heap.size w wz) (fun _ c _ => l.length - vnat c)
  case atStart => exact ⟨0, rfl, Nat.zero_le _, rfl, Below.refl _ _⟩
  case round =>
    obtain ⟨k, rfl, hk, rfl, hbw⟩ := hrel
    by_cases hkl : k < l.length
    · have hki : (k : Int) < (l.length : Int) := by omega
      have hne : l ≠ [] := fun e => by subst e; simp at hkl
      obtain ⟨b, off, rfl, hgl, hat⟩ := h hne
      obtain ⟨x, hx⟩ : ∃ x, l[k]? = some x := ⟨_, List.getElem?_eq_getElem hkl⟩
      have hx8 := hs x (List.mem_of_getElem? hx)
      have hix := idx_s b off l.length cap k hkl
      obtain ⟨c0, c1, c2, c3⟩ := (hat.carry (hbw.block _ hgl)) k x hx
      have hes := all_succ l (fun N => wthB N n) k x hx
      obtain ⟨A, hA⟩ : ∃ A, (l.take k).all (fun N => wthB N n) = A := ⟨_, rfl⟩
      rw [hA] at hes ⊢
      have hcw := (hbw.block _ (lt_at hc)).trans hc
      obtain ⟨w3, hw3⟩ : ∃ w3, wr.alloc (.cells #[.int .u32 0, .int .u32 0, .int .u32 0, .int .u32 0] 27) = w3 := ⟨_, rfl⟩
      have g3 : Hid (Holds4 w3 wr.heap.size (fun _ => 0)) := by rw [← hw3]; exact new_at rfl
      have g4 : Hid (w3.heap[bn]? = some (.cells #[.int .i64 n] 3 (0, 0))) := by rw [← hw3]; exact old_at hcw
      have hb3 : Hid (Below w.heap.size w w3) := by rw [← hw3]; exact hbw.trans ((al1' _ _).mono hbw.size)
      have hlt : Hid (bn < wr.heap.size) := lt_at hcw
      have hw1 := fun V hV => within1_any A x hx8 bn n V hV
      rw [← hes] at hw1
      have HES := hes
      clear hes hcw
      obtain ⟨A2, hA2⟩ : ∃ A2, (l.take (k + 1)).all (fun N => wthB N n) = A2 := ⟨_, rfl⟩
      rw [hA2] at hw1
      have HA2 : Hid ((l.take (k + 1)).all (fun N => wthB N n) = A2) := hA2
      clear hA2 hA HES
      simp only [sv] at hw1
      go_wp2_with (first
        | (refine wpList_store_row rfl 27 (.tmp 8) (.tmp 14) rfl wr.heap.size (cells4 (wd x)) rfl rfl 27 _ g3.out infoS rfl (by simp [cells4, Value.oneCell']) ?_; obtain ⟨w4, hw4⟩ : ∃ v, w3.setRow wr.heap.size (cells4 (wd x)) = v := ⟨_, rfl⟩; have k1 : Hid (Holds4 w4 wr.heap.size (wd x)) := (by rw [← hw4]; exact setRow_heap _ _ _ _ _ _ g3.out); have k2 : Hid (w4.heap[bn]? = some (.cells #[.int .i64 n] 3 (0, 0))) := (by rw [← hw4]; exact (setRow_other _ _ _ _ (Nat.ne_of_lt hlt.out)).trans g4.out); have k4 : Hid (Below w.heap.size w w4) := (by rw [← hw4]; exact below_row hb3.out hbw.size _); rw [hw4])
        | (refine wpList_load_row rfl 27 (.tmp 8) rfl wr.heap.size rfl 27 _ (0, 0) _ k1.out Tryd.underlying27 rfl infoS ?_)
        | (go_at_call 53; refine (hw1 _ k2.out).mono ?_; rintro e u ⟨rfl, hb⟩; have j4 := k4.out.trans (hb.mono k4.out.size)))
      go_roundw
      case rel => exact ⟨k + 1, by simp, by omega, by rw [HA2.out], j4⟩
      case measure => simp [vnat]; omega
    · have hkk : k = l.length := by omega
      subst hkk
      have hki : ¬ ((l.length : Int) < (l.length : Int)) := by omega
      rw [List.take_length]
      go_wp2
      go_ret
      exact ⟨rfl, hbw⟩
set_option maxHeartbeats 1000000 in
theorem allWithin_any (ad : Option Addr) (cap : Nat) (l : List Nat) (n : Int) (w : World) (h : RdS w ad l) (hs : ∀ N ∈ l, N < S128) (hl : l.length ≤ 4611686018427387904) :
    Calls Tryd.prog 28 #[.int .i64 n, .slice ad l.length cap] w fun e w' => e = .returned (.bool (l.all (fun N => wthB N n))) ∧ Below w.heap.size w w' := by
  obtain ⟨w1, hw1⟩ : ∃ w1, w.alloc (.cells #[.int .i64 n] 3) = w1 := ⟨_, rfl⟩
  have hb1 : Below w.heap.size w w1 := by rw [← hw1]; exact al1' _ _
  have hf := foldB_any ad cap l w.heap.size n w1 (h.carry hb1) hs (by rw [← hw1]; exact new_at rfl) hl
  go_enter Tryd.func28, Tryd.ntmps28
  go_wp2_with (go_at_call 52; (with_reducible refine hf.mono ?_); rintro e u ⟨rfl, hu⟩)
  go_ret
  exact ⟨rfl, bel2 hb1 hu⟩
/-- A row of counts. -/
def cvR (n : Nat) (c : Nat → Nat) : Array Value := ((List.range n).map fun i => Value.int .i64 ((c i : Nat) : Int)).toArray
theorem cvR_get (n : Nat) (c : Nat → Nat) (i : Nat) (h : i < n) : (cvR n c)[i]? = some (.int .i64 ((c i : Nat) : Int)) := by
  simp [cvR, h]
theorem cvR_set (n : Nat) (c : Nat → Nat) (x : Nat) : (cvR n c).setIfInBounds x (.int .i64 ((c x : Int) + 1)) = cvR n (fun i => c i + if i = x then 1 else 0) := by
  apply Array.ext_getElem?
  intro i
  rw [Array.getElem?_setIfInBounds]
  simp only [cvR]
  by_cases h : i < n
  · by_cases q : x = i
    · subst q
      simp [h]
    · have q' : ¬ i = x := fun e => q e.symm
      simp [h, q, q']
  · by_cases q : x = i
    · subst q
      simp [h]
    · simp [h, q]
/-- What turns the block g alone. -/
structure Tq (g : Nat) (W W' : World) : Prop where
  os : W'.os = W.os
  tape : W'.tape = W.tape
  output : W'.output = W.output
  size : W.heap.size ≤ W'.heap.size
  block : ∀ k, k < W.heap.size → k ≠ g → W'.heap[k]? = W.heap[k]?
theorem Tq.of (g : Nat) {W W' : World} (hb : Below W.heap.size W W') : Tq g W W' := ⟨hb.os, hb.tape, hb.output, hb.size, fun k hk _ => hb.block k hk⟩
theorem Tq.trans {g : Nat} {W W' W'' : World} (h : Tq g W W') (k : Tq g W' W'') : Tq g W W'' :=
  ⟨k.os.trans h.os, k.tape.trans h.tape, k.output.trans h.output, Nat.le_trans h.size k.size, fun j hj hne => (k.block j (Nat.lt_of_lt_of_le hj h.size) hne).trans (h.block j hj hne)⟩
theorem Tq.below {g base : Nat} {W W' : World} (h : Tq g W W') (hg : base ≤ g) (hb : base ≤ W.heap.size) : Below base W W' :=
  ⟨h.os, h.tape, h.output, h.size, fun k hk => h.block k (by omega) (by omega)⟩
theorem Tq.set (g j : Nat) (W : World) (v : Value) : Tq g W (W.setCell ⟨g, j, none⟩ v) :=
  ⟨rfl, rfl, rfl, by simp, fun _ _ hne => Below.heap_setCell _ _ _ _ hne⟩
theorem Tq.put {g k : Nat} {W V : World} (h : Tq g W V) (o : Obj) (hk : W.heap.size ≤ k) : Tq g W (V.putObj k o) :=
  ⟨h.os, h.tape, h.output, by simpa using h.size, fun j hj hne => (World.putObj_heap_other (by omega)).trans (h.block j hj hne)⟩
theorem tq_own {β : Type} (g B : Nat) (w : World) (hB : w.heap.size ≤ B) : OwnFrom B (fun (_ : β) W => Tq g w W) := fun _ W W' row hs hg hr =>
  ⟨hg.os.trans hs.os, hg.tape.trans hs.tape, hg.output.trans hs.output, Nat.le_trans hs.size hg.size, fun k hk hne => (hg.block k (Nat.lt_of_lt_of_le hk hs.size) (fun e => by have := (hr k e.symm).1; omega)).trans (hs.block k hk hne)⟩
theorem ids_count (M i : Nat) (hi : i < 128) : (idsTo M 128).count i = if M.testBit i = true then 1 else 0 := by
  unfold idsTo
  by_cases h : M.testBit i = true
  · rw [List.count_filter h, List.count_range, if_pos h]
    simp [hi]
  · rw [if_neg h, List.count_eq_zero]
    intro q
    exact h (List.mem_filter.1 q).2
set_option maxHeartbeats 2000000 in
set_option maxRecDepth 100000 in
theorem counts1_in (n : Nat) (hn : n ≤ 100) (c : Nat → Nat) (hc : ∀ i, c i ≤ 4611686018427387904) (g : Nat) (hg0 : 0 < g) (N : Nat) (hN : ∀ i, N.testBit i = true → i < n) (w : World) (hrow : w.heap[g]? = some (.cells (cvR n c) 3 (0, 0))) (hT : Tab w) :
    CallsIn Fence.wide 0 Tryd.prog 55 #[.slice (some ⟨g, 0, none⟩) n n, sv N] w fun e w' => e = .returned (.slice (some ⟨g, 0, none⟩) n n) ∧ w'.heap[g]? = some (.cells (cvR n (fun i => c i + if N.testBit i = true then 1 else 0)) 3 (0, 0)) ∧ Tq g w w' := by
  have hall := all_any N
  have hM : ∀ i, (cln N).testBit i = true → i < n := fun i h => hN i (by rw [testBit_cln] at h; simpa using (Bool.and_eq_true _ _ ▸ h).2)
  have hMN : ∀ i, i < n → (cln N).testBit i = N.testBit i := fun i h => by rw [testBit_cln]; simp [show i < 100 by omega]
  obtain ⟨M, hMe⟩ : ∃ M, cln N = M := ⟨_, rfl⟩
  rw [hMe] at hM hMN
  simp only [hMe] at hall
  clear hMe
  simp only [sv] at hall ⊢
  have hgl := lt_at hrow
  refine callsIn_of_wp_marks Tryd.func55 rfl trivial ?_ rfl
  simp only [Tryd.ntmps55, List.size_toArray, List.length_cons, List.length_nil, Nat.reduceAdd, Nat.reduceSub, Array.replicate_succ, Array.replicate_zero, List.push_toArray, List.append_toArray, List.nil_append, List.cons_append]
  gi_wp2
  with_reducible (refine And.intro (wfn _) (And.intro wdep ?_))
  refine (callsIn_wide.2 (hall _)).mono ?_
  rintro e W0 ⟨rfl, hb, hh⟩
  have zz : w.heap.size + 3 ≤ W0.heap.size := by have := hh.lt; simp at this; omega
  have b0 : Below w.heap.size w W0 := ((((Below.refl _ w).alloc (Nat.le_refl _) _)).alloc (by simp) _).trans (hb.mono (by simp; omega))
  have v0 : Boxed W0 w.heap.size 23 (.slice (some ⟨g, 0, none⟩) n n) := (hb.block _ (by simp; omega)).trans (get_old (get_new (by simp)))
  have r0 : W0.heap[g]? = some (.cells (cvR n c) 3 (0, 0)) := (b0.block _ hgl).trans hrow
  have hh' : Holds4 W0 (w.heap.size + 1 + 1) (wd M) := by simpa using hh
  have hT0 : Tab W0 := hT.carry b0
  clear hb hall
  gi_wp2
  refine wp_rangeE (kb := 0) (gf := 69) (lb := #[.pointer (some ⟨w.heap.size + 1 + 1, 0, none⟩)]) rfl (enters_of Tryd.func69 (by kernel_rfl) rfl)
    (all1_seq M (w.heap.size + 1 + 1) _ hh') (by omega) (fun _ => rfl)
    (fun pre W => W.heap[g]? = some (.cells (cvR n (fun i => c i + pre.count i)) 3 (0, 0)) ∧ Boxed W w.heap.size 23 (.slice (some ⟨g, 0, none⟩) n n) ∧ Tq g w W)
    (fun _ _ _ => False)
    (OwnFrom.and ((blk_own g (fun pre : List Nat => .cells (cvR n (fun i => c i + pre.count i)) 3 (0, 0)) (fun _ => rfl)).from _) (OwnFrom.and ((boxed_own w.heap.size 23 (fun _ => .slice (some ⟨g, 0, none⟩) n n)).from _) (tq_own g _ w b0.size)))
    (fun _ _ _ _ _ hs _ _ => hs)
    ⟨by simpa using r0, v0, Tq.of g b0⟩
    (fun _ W h => by
      obtain ⟨cT, tT, h1, h2⟩ := hT
      exact ⟨cT, tT, (h.2.2.block 0 (lt_at h1) (by omega)).trans h1, h2⟩)
    (fun x a' _ => a' = { tmps := #[.slice (some ⟨g, 0, none⟩) n n, sv N, .pointer (some ⟨w.heap.size, 0, none⟩), .pointer (some ⟨w.heap.size + 1, 0, none⟩), .slice none 0 0, .int .i64 (x : Nat), sv N, .func (.func 69) #[] #[.pointer (some ⟨w.heap.size + 1 + 1, 0, none⟩)], .int .i64 (x : Nat), undef, undef, undef, undef, undef, undef, undef], defers := [] })
    (fun _ _ _ _ _ _ hs _ _ => hs) ?assign ?body ?done ?stop
  case assign =>
    rintro l pre x W K hi hsz hK
    gi_wp2
    exact hK _ _ (Kept.refl _ _ _ _) hi rfl
  case body =>
    rintro l pre x a' W ⟨hr, hv, hq⟩ rfl hsz hpr
    have hxm : x ∈ idsTo M 128 := by
      obtain ⟨rest, hrest⟩ := hpr
      rw [← hrest]
      simp
    have hxn : x < n := hM x (mem_idsTo.1 hxm).2
    have hxi : (x : Int) < (n : Int) := by omega
    have hcv := hv.cell
    have hplen : (pre ++ [x]).length ≤ (idsTo M 128).length := hpr.length_le
    have hpc : pre.count x ≤ 128 := by
      have h1 := List.count_le_length (a := x) (l := pre)
      have h2 : (idsTo M 128).length ≤ 128 := by rw [idsTo_length]; exact cnt_le _
      simp only [List.length_append, List.length_cons, List.length_nil] at hplen
      omega
    have hcx := hc x
    have hcell : W.cell? ⟨g, x, none⟩ = some (.int .i64 ((c x + pre.count x : Nat) : Int)) := (cell_at hr x).trans (cvR_get n _ x hxn)
    have hfz := thaw_at hr x
    have hadd := i64_id (((c x + pre.count x : Nat) : Int) + 1) (by omega) (by omega)
    have hst := heap_setCell_same _ _ x _ _ (.int .i64 (((c x + pre.count x : Nat) : Int) + 1)) hr
    have hcs := cvR_set n (fun i => c i + pre.count i) x
    have hgne : g ≠ w.heap.size := by omega
    have hgk : ∀ k, w.heap.size ≤ k → k ≠ g := fun k hk => by omega
    obtain ⟨CX, hCX⟩ : ∃ CX, c x + pre.count x = CX := ⟨_, rfl⟩
    rw [hCX] at hcell hadd hst
    simp only [hCX] at hcs
    gi_wp2
    have hb2 : w.heap.size + 1 + 1 ≠ g := by omega
    refine ⟨⟨by simp, Below.heap_setCell _ _ _ _ hb2, fun k h1 h2 => Below.heap_setCell _ _ _ _ (hgk k (by omega))⟩, ?_, ?_, hq.trans (Tq.set g _ _ _)⟩
    · rw [hst, hcs]
      have e : (fun i => c i + pre.count i + if i = x then 1 else 0) = fun i => c i + (pre ++ [x]).count i := by
        funext i
        rw [List.count_append, List.count_singleton]
        by_cases q : i = x
        · subst q
          simp
          omega
        · have q' : ¬ x = i := fun e => q e.symm
          simp [q, q']
      rw [e]
    · exact (Below.heap_setCell _ _ _ _ (Ne.symm hgne)).trans hv
  case done =>
    rintro W ⟨hr, hv, hq⟩ hK
    have hcv := hv.cell
    gi_wp2
    refine ⟨by simp, .inl ⟨_, _, rfl, run_takeDeferred hK, ?_⟩⟩
    refine ⟨.slice (some ⟨g, 0, none⟩) n n, by simp [results, Tryd.results55, go_sem], rfl, ?_, hq.put _ b0.size⟩
    refine (World.putObj_heap_other (by omega)).trans (hr.trans ?_)
    have e : cvR n (fun i => c i + (idsTo M 128).count i) = cvR n (fun i => c i + if N.testBit i = true then 1 else 0) := by
      unfold cvR
      congr 1
      apply List.map_congr_left
      intro i hi
      have hin : i < n := List.mem_range.1 hi
      show Value.int .i64 ((c i + (idsTo M 128).count i : Nat) : Int) = Value.int .i64 ((c i + (if N.testBit i = true then 1 else 0) : Nat) : Int)
      rw [ids_count M i (by omega), hMN i hin]
    rw [e]
  case stop =>
    rintro c pre W _ h _
    exact h.elim
theorem counts1_any (n : Nat) (hn : n ≤ 100) (c : Nat → Nat) (hc : ∀ i, c i ≤ 4611686018427387904) (g : Nat) (hg0 : 0 < g) (N : Nat) (hN : ∀ i, N.testBit i = true → i < n) (w : World) (hrow : w.heap[g]? = some (.cells (cvR n c) 3 (0, 0))) (hT : Tab w) :
    Calls Tryd.prog 55 #[.slice (some ⟨g, 0, none⟩) n n, sv N] w fun e w' => e = .returned (.slice (some ⟨g, 0, none⟩) n n) ∧ w'.heap[g]? = some (.cells (cvR n (fun i => c i + if N.testBit i = true then 1 else 0)) 3 (0, 0)) ∧ Tq g w w' := callsIn_wide.1 (counts1_in n hn c hc g hg0 N hN w hrow hT)
/-- In how many of the sets an id is. -/
def tms (l : List Nat) (i : Nat) : Nat := l.countP (fun x => x.testBit i)
theorem tms_succ (l : List Nat) (k x i : Nat) (h : l[k]? = some x) : tms (l.take (k + 1)) i = tms (l.take k) i + if x.testBit i = true then 1 else 0 := by
  have e : l.take (k + 1) = l.take k ++ [x] := by rw [List.take_add_one, h]; rfl
  unfold tms
  rw [e, List.countP_append]
  simp [List.countP_cons]
theorem tms_le (l : List Nat) (i : Nat) : tms l i ≤ l.length := List.countP_le_length
set_option maxHeartbeats 2000000 in
set_option maxRecDepth 100000 in
theorem foldI_any (ad : Option Addr) (cap : Nat) (l : List Nat) (n : Nat) (hn : n ≤ 100) (g : Nat) (hg0 : 0 < g) (w : World) (h : RdS w ad l) (hs : ∀ N ∈ l, ∀ i, N.testBit i = true → i < n) (hrow : w.heap[g]? = some (.cells (cvR n (fun _ => 0)) 3 (0, 0))) (hT : Tab w) (hl : l.length ≤ 1000000) (hag : l ≠ [] → ∀ b off, ad = some ⟨b, off, none⟩ → b ≠ g) :
    Calls Tryd.prog 54 #[.slice ad l.length cap, .slice (some ⟨g, 0, none⟩) n n, .func (.func 55) #[] #[]] w fun e w' => e = .returned (.slice (some ⟨g, 0, none⟩) n n) ∧ w'.heap[g]? = some (.cells (cvR n (tms l)) 3 (0, 0)) ∧ Tq g w w' := by
  go_enter Tryd.func54, Tryd.ntmps54
  go_wp2
  go_loopw [1, 11] (fun a c wz => ∃ k : Nat, c = .int .i64 k ∧ k ≤ l.length ∧ a = .slice (some ⟨g, 0, none⟩) n n ∧ wz.heap[g]? = some (.cells (cvR n (tms (l.take k))) 3 (0, 0)) ∧ Tq g w wz) (fun _ c _ => l.length - vnat c)
  case atStart => exact ⟨0, rfl, Nat.zero_le _, rfl, hrow, Tq.of g (Below.refl _ _)⟩
  case round =>
    obtain ⟨k, rfl, hk, rfl, hrw, hq⟩ := hrel
    by_cases hkl : k < l.length
    · have hki : (k : Int) < (l.length : Int) := by omega
      have hne : l ≠ [] := fun e => by subst e; simp at hkl
      obtain ⟨b, off, rfl, hgl, hat⟩ := h hne
      obtain ⟨x, hx⟩ : ∃ x, l[k]? = some x := ⟨_, List.getElem?_eq_getElem hkl⟩
      have hxb := hs x (List.mem_of_getElem? hx)
      have hix := idx_s b off l.length cap k hkl
      have hbg := hag hne b off rfl
      obtain ⟨c0, c1, c2, c3⟩ := (hat.carry (hq.block _ hgl hbg)) k x hx
      have hes : (fun i => tms (l.take k) i + if x.testBit i = true then 1 else 0) = tms (l.take (k + 1)) := by
        funext i
        exact (tms_succ l k x i hx).symm
      have hgw := lt_at hrw
      have hc1 := fun V hV hTV => counts1_any n hn (tms (l.take k)) (fun i => Nat.le_trans (tms_le _ _) (by rw [List.length_take]; omega)) g hg0 x hxb V hV hTV
      simp only [hes, sv] at hc1
      generalize tms (l.take k) = C at *
      have hT2 : Tab wr := by
        obtain ⟨cT, tT, h1, h2⟩ := hT
        exact ⟨cT, tT, (hq.block 0 (lt_at h1) (by omega)).trans h1, h2⟩
      obtain ⟨w3, hw3⟩ : ∃ w3, wr.alloc (.cells #[.int .u32 0, .int .u32 0, .int .u32 0, .int .u32 0] 27) = w3 := ⟨_, rfl⟩
      have g3 : Hid (Holds4 w3 wr.heap.size (fun _ => 0)) := by rw [← hw3]; exact new_at rfl
      have g4 : Hid (w3.heap[g]? = some (.cells (cvR n C) 3 (0, 0))) := by rw [← hw3]; exact old_at hrw
      have hb3 : Hid (Below wr.heap.size wr w3) := by rw [← hw3]; exact al1' _ _
      have hlt : Hid (g < wr.heap.size) := hgw
      clear hgw
      go_wp2_with (first
        | (refine wpList_store_row rfl 27 (.tmp 8) (.tmp 14) rfl wr.heap.size (cells4 (wd x)) rfl rfl 27 _ g3.out infoS rfl (by simp [cells4, Value.oneCell']) ?_; obtain ⟨w4, hw4⟩ : ∃ v, w3.setRow wr.heap.size (cells4 (wd x)) = v := ⟨_, rfl⟩; have k1 : Hid (Holds4 w4 wr.heap.size (wd x)) := (by rw [← hw4]; exact setRow_heap _ _ _ _ _ _ g3.out); have k2 : Hid (w4.heap[g]? = some (.cells (cvR n C) 3 (0, 0))) := (by rw [← hw4]; exact (setRow_other _ _ _ _ (Nat.ne_of_lt hlt.out)).trans g4.out); have k4 : Hid (Below wr.heap.size wr w4) := (by rw [← hw4]; exact below_row hb3.out (Nat.le_refl _) _); rw [hw4])
        | (refine wpList_load_row rfl 27 (.tmp 8) rfl wr.heap.size rfl 27 _ (0, 0) _ k1.out Tryd.underlying27 rfl infoS ?_)
        | (go_at_call 55; refine (hc1 _ k2.out (hT2.carry k4.out)).mono ?_; rintro e u ⟨rfl, hr2, hq2⟩; have hq3 : Hid (Tq g w u) := (hq.trans (Tq.of g k4.out)).trans hq2))
      go_roundw
      case rel => exact ⟨k + 1, by simp, by omega, rfl, hr2, hq3.out⟩
      case measure => simp [vnat]; omega
    · have hkk : k = l.length := by omega
      subst hkk
      have hki : ¬ ((l.length : Int) < (l.length : Int)) := by omega
      rw [List.take_length] at hrw
      go_wp2
      go_ret
      exact ⟨rfl, hrw, hq⟩
set_option maxHeartbeats 1000000 in
set_option maxRecDepth 100000 in
theorem counts_any (ad : Option Addr) (cap : Nat) (l : List Nat) (n : Int) (hn : 0 ≤ n ∧ n ≤ 100) (w : World) (h : RdS w ad l) (hs : ∀ N ∈ l, wthB N n = true) (hT : Tab w) (hl : l.length ≤ 1000000) :
    Calls Tryd.prog 29 #[.int .i64 n, .slice ad l.length cap] w fun e w' => ∃ g, e = .returned (.slice (some ⟨g, 0, none⟩) n.toNat n.toNat) ∧ w'.heap[g]? = some (.cells (cvR n.toNat (tms l)) 3 (0, 0)) ∧ Below w.heap.size w w' := by
  obtain ⟨m, hm, hm1⟩ : ∃ m : Nat, n = (m : Int) ∧ m ≤ 100 := ⟨n.toNat, by omega, by omega⟩
  subst hm
  rw [Int.toNat_natCast]
  obtain ⟨ic, hic, hz0, hz1, hz2⟩ := info_parts infoInt
  have hmk : (Instr.makeSlice 23 (.int .i64 (m : Int)) (.int .i64 (m : Int))).run Tryd.prog w = .ok (.slice (some ⟨w.heap.size, 0, none⟩) m m) (w.alloc (.cells (cvR m (fun _ => 0)) 3)) := by
    have h := run_make (P := Tryd.prog) w 23 3 ic _ Tryd.underlying23 hic hz0 .i64 .i64 (m : Int) (m : Int) (by omega) (by omega) (by rw [hz2]; omega) (by omega)
    rw [h, hz1]
    have e : madeCells (Value.int .i64 0).cells ((((m : Nat) : Int).toNat) * 1) = cvR m (fun _ => 0) := by
      apply Array.toList_inj.1
      have := toList_madeCells_one (.int .i64 0) m
      rw [Int.toNat_natCast, Nat.mul_one]
      rw [show (Value.int .i64 0).cells = #[.int .i64 0] from rfl, this]
      simp [cvR, List.map_const']
    rw [e]; rfl
  obtain ⟨w1, hw1⟩ : ∃ w1, w.alloc (.cells (cvR m (fun _ => 0)) 3) = w1 := ⟨_, rfl⟩
  have hb1 : Below w.heap.size w w1 := by rw [← hw1]; exact al1' _ _
  have g1 : w1.heap[w.heap.size]? = some (.cells (cvR m (fun _ => 0)) 3 (0, 0)) := by rw [← hw1]; exact new_at rfl
  have hf : Calls Tryd.prog 54 #[.slice ad l.length cap, .slice (some ⟨w.heap.size, 0, none⟩) m m, .func (.func 55) #[] #[]] w1 fun e w' => e = .returned (.slice (some ⟨w.heap.size, 0, none⟩) m m) ∧ w'.heap[w.heap.size]? = some (.cells (cvR m (tms l)) 3 (0, 0)) ∧ Tq w.heap.size w1 w' := by
    refine foldI_any ad cap l m hm1 w.heap.size hT.lt w1 (h.carry hb1) (fun N hN i hi => ?_) g1 (hT.carry hb1) hl (fun hle b off e => ?_)
    · have := (wthB_bit (hs N hN) hi).1
      omega
    · obtain ⟨b', off', e', hlt, _⟩ := h hle
      rw [e'] at e
      cases e
      omega
  rw [hw1] at hmk
  clear hw1
  go_enter Tryd.func29, Tryd.ntmps29
  go_wp2_with (go_at_call 54; (with_reducible refine hf.mono ?_); rintro e u ⟨rfl, hr, hq⟩)
  go_ret
  exact ⟨w.heap.size, rfl, hr, hb1.trans (hq.below (Nat.le_refl _) hb1.size)⟩
end Go.Proofs.YtgehmidalfajgaaDoor
