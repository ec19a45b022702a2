/- Print: what it answers, at every roster and set. -/
import Derived.Test.YtginkcjhfdoodabDoorPrm
import Derived.Test.YtginkcjhfdoodabDoorRps
import Derived.Test.YtginkcjhfdoodabDoorItx
import Derived.Test.YtginkcjhfdoodabDoorSqb
import Derived.Test.YtginkcjhfdoodabDoorShl
import Derived.Test.YtginkcjhfdoodabDoorRgf
namespace Go.Proofs.YtginkcjhfdoodabDoor
open Go.RowKit Go.Shelf Go.Lib
attribute [local go_sem] Oper.semAt_some

theorem load_ros {W : World} {B : Nat} {u v : Value} (h : W.heap[B]? = some (.cells #[u, v] 28 (0, 0))) : (Instr.loadAt 28 (.pointer (some ⟨B, 0, none⟩))).run Tryd.prog W = .ok (.agg #[u, v]) W := by
  have c0 := cell_at h 0
  have c1 := cell_at h 1
  go_simp
theorem below_own {M : Nat} {X Y : World} {row : Option Nat} (hg : X.grownBy Y row) (hM : M ≤ X.heap.size) (hr : ∀ k, row = some k → M ≤ k) : Below M X Y :=
  ⟨hg.os, hg.tape, hg.output, hg.size, fun k hk => hg.block k (by omega) (fun e => by have := hr k e.symm; omega)⟩
theorem builder_own {T e : TypeId} {B b : Nat} {bs : List Value} {X Y : World} {row : Option Nat} (h : IsBuilderF T e B b bs X) (hg : X.grownBy Y row) (hr : ∀ r, row = some r → ∃ o : Obj, X.heap[r]? = some o ∧ o.isCells = false) : IsBuilderF T e B b bs Y := by
  have key : ∀ p, BuilderAtF T e B b p bs X → BuilderAtF T e B b p bs Y := by
    rintro p ⟨h1, v, h2, h3, h4⟩
    refine ⟨h1, v, (hg.block b (lt_at h2) (fun e' => ?_)).trans h2, h3.kept hg ?_, h4⟩
    · obtain ⟨o, h5, h6⟩ := hr b e'.symm
      rw [h2] at h5; cases h5; cases h6
    · cases hv : v.ownBlock with
      | none => exact .inl rfl
      | some g =>
        refine .inr (fun e' => ?_)
        obtain ⟨o, h5, h6⟩ := hr g e'.symm
        obtain ⟨c, fz, h7⟩ := ownsRowF_kind (e := e) (xs := bs) h3 g hv
        rw [h7] at h5; cases h5; cases h6
  exact h.elim (fun x => .inl (key _ x)) (fun x => .inr (key _ x))
/-- What lies there as a set is told. -/
structure JN (w : World) (M B : Nat) (v u : Value) (l : List Int) (W : World) : Prop where
  a : W.heap[B]? = some (.cells #[v, u] 28 (0, 0))
  r : Ros M W (.agg #[v, u]) l
  below : Below w.heap.size w W
theorem JN.carry {w : World} {M B : Nat} {v u : Value} {l : List Int} {W W' : World} (hM : M ≤ w.heap.size) (h : JN w M B v u l W) (hb : Below W.heap.size W W') : JN w M B v u l W' := by
  have h1 := lt_at h.a
  have h2 := h.below.size
  exact ⟨(hb.block _ h1).trans h.a, h.r.call (by omega) hb, h.below.trans (hb.mono (by omega))⟩
theorem jn_own {β : Type} {w : World} {M B n : Nat} {v u : Value} {l : List Int} (hM : M ≤ w.heap.size) (hn : w.heap.size ≤ n) (hB : B < n) : OwnFrom n (fun (_ : β) W => JN w M B v u l W) := by
  intro s X Y row h hg hr
  have h2 := h.below.size
  refine ⟨(hg.block _ (lt_at h.a) (fun e => by have := (hr B e.symm).1; omega)).trans h.a, h.r.below (below_own hg (by omega) (fun k e => by have := (hr k e).1; omega)), h.below.trans (below_own hg h2 (fun k e => by have := (hr k e).1; omega))⟩
theorem txt_sgs_snoc (l : List Int) (pre : List Nat) (x : Nat) : (txt (sgs l (pre ++ [x]))).data.toList = (txt (sgs l pre)).data.toList ++ (Utf8.encode (l.getD x 0)).data.toList := by
  rw [txt_data, txt_data, sgs, List.map_append, wr_append]
  simp [wr, sgs]

set_option maxHeartbeats 4000000 in
set_option maxRecDepth 100000 in
theorem print_in {M : Nat} {v : Value} {l : List Int} (w : World) (h : Ros M w v l) (hM : M ≤ w.heap.size) (N : Nat) (hN : N < S128) (hT : Tab w) :
    CallsIn Fence.wide 0 Tryd.prog 7 #[v, sv N] w fun e w' => e = .returned (.tuple #[.string (prR l N).1, .int .i64 (prR l N).2]) ∧ Below w.heap.size w w' := by
  obtain ⟨ad, cap, mb, rfl⟩ := h.form
  have hT0 := hT.lt
  have hsg := h.1
  have hls := hsg.short
  have hmx : Tryd.prog.follows .mixedOrders = true := by kernel_rfl
  have hwi := within_any N hN l.length
  have hall := all_any N
  have hq := eqn4 N 0 hN (by decide)
  have e0 : sv 0 = .agg #[.int .u32 0, .int .u32 0, .int .u32 0, .int .u32 0] := by simp [sv, wd]
  rw [e0] at hq
  simp only [sv] at hq hall ⊢
  have j0 : JN w M w.heap.size (.slice ad l.length cap) (.map mb) l ((w.alloc (.cells #[.slice ad l.length cap, .map mb] 28)).alloc (.cells (cells4 (wd N)) 24)) := ⟨old_at (new_at rfl), (h.alloc hM _).alloc (by simp; omega) _, ((Below.refl _ w).alloc (by simp) _).alloc (by simp) _⟩
  have s0 : Holds4 ((w.alloc (.cells #[.slice ad l.length cap, .map mb] 28)).alloc (.cells (cells4 (wd N)) 24)) (w.heap.size + 1) (wd N) := get_new (by simp)
  refine callsIn_of_wp_marks Tryd.func7 rfl trivial ?_ rfl
  simp only [Tryd.ntmps7, List.size_toArray, List.length_cons, List.length_nil, Nat.reduceAdd, Nat.reduceSub, Array.replicate_succ, Array.replicate_zero, List.push_toArray, List.append_toArray, List.nil_append, List.cons_append]
  refine (wpIn_wide (n := 0)).2 ?_
  go_wp2
  rename_i Q0 K0 hK
  refine wp_region_any hmx ?_
  refine wpAny_pure (fun i__ => ([(sv N), (.agg #[.slice ad l.length cap, .map mb]), (.int .i64 (l.length : Nat)), (.bool (wthB N (l.length : Nat))), (.bool (!wthB N (l.length : Nat)))] : List Value).getD i__ undef) (fun W => JN w M w.heap.size (.slice ad l.length cap) (.map mb) l W ∧ Holds4 W (w.heap.size + 1) (wd N)) (by kernel_rfl) ⟨j0.carry hM (Below.refl _ _).drew, s0.carry (Below.refl _ _).drew⟩ ?_ ?_
  · refine (stepsFrom_cons ?_ (stepsFrom_cons ?_ (stepsFrom_cons ?_ (stepsFrom_cons ?_ (stepsFrom_cons ?_ trivial)))))
    · exact step_load rfl trivial _ _ _ rfl rfl (fun w hw => whole4 w _ N hw.2)
    · exact step_load rfl trivial _ _ _ rfl rfl (fun w hw => load_ros hw.1.a)
    · exact step_call rfl trivial 20 _ _ [(.agg #[.slice ad l.length cap, .map mb])] rfl (by kernel_rfl) (enters_of Tryd.func20 (by kernel_rfl) rfl) (fun w hw => (size_any w hw.1.r).mono (by rintro e w' ⟨rfl, hb⟩; exact ⟨rfl, hw.1.carry hM hb, hw.2.carry hb⟩))
    · exact step_call rfl trivial 19 _ _ [(sv N), (.int .i64 (l.length : Nat))] rfl (by kernel_rfl) (enters_of Tryd.func19 (by kernel_rfl) rfl) (fun w hw => (hwi w).mono (by rintro e w' ⟨rfl, hb⟩; exact ⟨rfl, hw.1.carry hM hb, hw.2.carry hb⟩))
    · exact step_unOp rfl trivial _ _ _ _ rfl rfl (fun w hw => by go_simp)
  intro W hW
  first | refine hK _ _ ?_ | refine (‹∀ (a : Act) (w : World), Code.wp Tryd.prog _ _ a w → _›) _ _ ?_
  simp only [finL, List.getD_cons_zero, List.getD_cons_succ, Nat.zero_add, Nat.reduceAdd, List.setIfInBounds_toArray, List.set_cons_zero, List.set_cons_succ]
  clear hK j0 s0
  obtain ⟨hj, hset⟩ := hW
  obtain ⟨y0, y1, y2, y3, _⟩ := hset.facts
  have hsl := hset.lt
  have HJ : Hid (JN w M w.heap.size (.slice ad l.length cap) (.map mb) l W) := hj
  have HS : Hid (Holds4 W (w.heap.size + 1) (wd N)) := hset
  clear hj hset
  by_cases hw1 : wthB N (l.length : Nat) = true
  · rw [hw1]
    by_cases hz : N = 0
    · have HP : Hid (prR l N = (dash, 0)) := by show prR l N = _; rw [prR, if_pos hw1, if_pos hz]
      rw [decide_eq_true hz] at hq
      clear hz hw1
      go_wp2
      refine ⟨.tuple #[.string (prR l N).1, .int .i64 (prR l N).2], ?_, rfl, HJ.out.below⟩
      rw [HP.out]
      simp [results, Tryd.results7, go_sem, dash]
    · have HP : Hid (prR l N = (txt (sgs l (idsTo N 128)), 0)) := by show prR l N = _; rw [prR, if_pos hw1, if_neg hz]
      rw [decide_eq_false hz] at hq
      have hcl := cln_self (wth_lt100 hw1)
      rw [hcl] at hall
      have hids : ∀ x ∈ idsTo N 128, x < l.length := fun x hx => (wth_id hw1 (mem_idsTo.1 hx).2).1
      clear hz hw1 hcl
      go_wp2_with (go_at_call 21; refine (hall _).mono ?_; rintro e w3 ⟨rfl, hb3, hh3⟩; (try simp only [World.size_alloc] at hh3); (try simp only [World.size_alloc]))
      have hf3 : W.heap.size + 1 < w3.heap.size := by have := hh3.lt; simpa using this
      have j3 : JN w M w.heap.size (.slice ad l.length cap) (.map mb) l w3 := (HJ.out.carry hM ((Below.refl _ W).alloc (Nat.le_refl _) _)).carry hM hb3
      have b3 : IsBuilderF 62 5 W.heap.size W.heap.size (byteCells []) w3 := builder_own (IsBuilderF.of (fresh_isBuilder 62 5 W)) (grown_below hb3) (fun r e => by cases e)
      have hbw := j3.below.size
      refine (wpIn_wide (n := 0)).1 ?_
      refine wp_rangeF (kb := 0) (gf := 35) (lb := #[.pointer (some ⟨W.heap.size + 1, 0, none⟩)]) rfl (enters_of Tryd.func35 (by kernel_rfl) rfl)
        (all1_seq N (W.heap.size + 1) _ hh3) (by omega) (fun _ => rfl)
        (fun pre Wz => JN w M w.heap.size (.slice ad l.length cap) (.map mb) l Wz ∧ Holds4 Wz (W.heap.size + 1) (wd N) ∧ IsBuilderF 62 5 W.heap.size W.heap.size (byteCells (txt (sgs l pre)).data.toList) Wz)
        (fun _ _ _ => False)
        ((jn_own hM (by omega) (by omega)).and (((blk_own _ (fun _ : List Nat => .cells (cells4 (wd N)) 24) (fun _ => rfl)).from _).and (fun s X Y row hs hg hr => builder_own hs hg (fun r e => (hr r e).2))))
        (fun _ _ _ _ _ hs _ _ => hs)
        ⟨j3, hh3, b3⟩ (fun _ Wz h => hT.keep h.1.below hT0)
        (fun x a' _ => a' = { tmps := #[.agg #[.slice ad l.length cap, .map mb], sv N, .pointer (some ⟨w.heap.size, 0, none⟩), .pointer (some ⟨w.heap.size + 1, 0, none⟩), .string ⟨#[]⟩, .int .i64 0, .pointer (some ⟨W.heap.size, 0, none⟩), .int .i64 ((x : Nat) : Int), sv N, .agg #[.slice ad l.length cap, .map mb], .int .i64 (l.length : Nat), .bool true, .bool false, sv N, .agg #[.int .u32 0, .int .u32 0, .int .u32 0, .int .u32 0], .bool false, sv N, .func (.func 35) #[] #[.pointer (some ⟨W.heap.size + 1, 0, none⟩)], .int .i64 ((x : Nat) : Int), undef, undef, undef, undef, undef, undef, undef], defers := [] })
        (fun _ _ _ _ _ _ hs _ _ => hs) ?assign ?body ?done ?stop
      case assign =>
        rintro lp pre x Wz K hi hsz hK
        gi_wp2
        exact hK _ _ (Kept.refl _ _ _ _) hi rfl
      case stop =>
        rintro c pre Wz _ h _
        exact h.elim
      case body =>
        rintro lp pre x a' Wz ⟨hj, hs4, hbd⟩ rfl hsz hpr hk0 ⟨lo, hk1⟩
        have hxm : x ∈ idsTo N 128 := hpr.subset (by simp)
        have hxl := hids x hxm
        have hpl : (pre ++ [x]).length ≤ 128 := Nat.le_trans hpr.length_le (by rw [idsTo_length]; exact cnt_le _)
        simp only [List.length_append, List.length_cons, List.length_nil] at hpl
        have hc := cls_letter (hsg.letter l[x] (List.getElem_mem hxl))
        obtain ⟨_, sl, mp, esl, ⟨ad', cap', rfl, hf⟩, _⟩ := hj.r
        simp at esl
        obtain ⟨⟨rfl, rfl⟩, rfl⟩ := esl
        obtain ⟨g, rfl, g1, g2, g3⟩ := hf (fun e => by subst e; simp at hxl)
        have gx := g3 x l[x] (List.getElem?_eq_getElem hxl)
        have hgl : g < Wz.heap.size := by have := hj.below.size; omega
        have ca := cell_at hj.a 0
        have hlen : (byteCells (txt (sgs l pre)).data.toList).length + 4 ≤ 140737488355328 := by
          rw [byteCells_length]
          have h1 := txt_size (sgs l pre)
          have h2 : (txt (sgs l pre)).data.toList.length = (txt (sgs l pre)).size := by simp
          have h3 : (sgs l pre).length = pre.length := by simp [sgs]
          omega
        have hwr := writeRune_any W.heap.size W.heap.size _ l[x] (by omega) (by omega) Wz hbd hlen (by omega)
        have HN : Hid ((txt (sgs l (pre ++ [x]))).data.toList = (txt (sgs l pre)).data.toList ++ (Utf8.encode l[x]).data.toList) := by
          show (txt (sgs l (pre ++ [x]))).data.toList = _
          rw [txt_sgs_snoc, List.getD_eq_getElem?_getD, List.getElem?_eq_getElem hxl]
          rfl
        have HJ2 : Hid (JN w M w.heap.size (.slice (some ⟨g, 0, none⟩) l.length cap) (.map mb) l Wz) := hj
        have HS2 : Hid (Holds4 Wz (W.heap.size + 1) (wd N)) := hs4
        have hxi : ((x : Nat) : Int) < (l.length : Int) := by omega
        clear hf g3 hj hs4 hbd hpr hlen j3 b3 hids hall hwi hxm
        gi_wp2
        with_reducible (refine And.intro (wfn _) (And.intro wdep ?_))
        refine (CallsIn.inRound lp (callsIn_wide.2 hwr)).mono ?_
        rintro e W4 ⟨rfl, hb4, hbl, hok⟩
        gi_wp2
        have k1 : Holds4 W4 (W.heap.size + 1) (wd N) := hok _ _ HS2.out (by simp) (fun c fz e => by injection e with _ h2; exact absurd h2 (by decide))
        have k2 := hok _ _ hk0 (by simp; omega) (fun c fz e => by cases e)
        have k3 := hok _ _ hk1 (by simp; omega) (fun c fz e => by cases e)
        have k4 : JN w M w.heap.size (.slice (some ⟨g, 0, none⟩) l.length cap) (.map mb) l W4 := ⟨(hbl.block _ (by omega)).trans HJ2.out.a, HJ2.out.r.below (hbl.mono (by omega)), HJ2.out.below.trans (hbl.mono (by omega))⟩
        refine ⟨⟨hbl.size, k1.trans HS2.out.symm, fun k h1 h2 => ?_⟩, k4, k1, ?_⟩
        · by_cases hk : k = w3.heap.size
          · subst hk; exact k2.trans hk0.symm
          · obtain rfl : k = w3.heap.size + 1 := by omega
            exact k3.trans hk1.symm
        · rw [HN.out, ← enc_same, byteCells_append, byteCells_encodeRune]
          exact Or.inr hb4
      case done =>
        rintro Wz ⟨hj, hs4, hbd⟩ hk0
        have hst := string_any W.heap.size W.heap.size _ Wz hbd (by have := lt_at hk0; omega)
        rw [txt_again] at hst
        have HX : Hid ((prR l N).1 = txt (sgs l (idsTo N 128))) := by show (prR l N).1 = _; rw [HP.out]
        generalize txt (sgs l (idsTo N 128)) = t at *
        have HJ2 : Hid (JN w M w.heap.size (.slice ad l.length cap) (.map mb) l Wz) := hj
        clear hbd hs4 hj j3 b3 hids hall hwi
        gi_wp2
        go_wp2_with (go_at_call 23; refine hst.mono ?_; rintro e W4 ⟨rfl, _, hbl, hok⟩)
        have k2 := hok _ _ hk0 (by simp; omega) (fun c fz e => by cases e)
        refine ⟨by simp, .inl ⟨_, _, rfl, run_takeDeferred k2, ?_⟩⟩
        refine ⟨.tuple #[.string (prR l N).1, .int .i64 (prR l N).2], ?_, rfl, below_taken _ (HJ2.out.below.trans (hbl.mono (by omega))) (by omega)⟩
        rw [HP.out]
        simp [results, Tryd.results7, go_sem]
  · have HP : Hid (prR l N = (⟨#[]⟩, 30)) := by show prR l N = _; rw [prR, if_neg hw1]
    rw [Bool.not_eq_true] at hw1
    rw [hw1]
    clear hw1
    go_wp2
    refine ⟨.tuple #[.string (prR l N).1, .int .i64 (prR l N).2], ?_, rfl, HJ.out.below⟩
    rw [HP.out]
    simp [results, Tryd.results7, go_sem]
theorem print_any {M : Nat} {v : Value} {l : List Int} (w : World) (h : Ros M w v l) (hM : M ≤ w.heap.size) (N : Nat) (hN : N < S128) (hT : Tab w) :
    Calls Tryd.prog 7 #[v, sv N] w fun e w' => e = .returned (.tuple #[.string (prR l N).1, .int .i64 (prR l N).2]) ∧ Below w.heap.size w w' := callsIn_wide.1 (print_in w h hM N hN hT)
end Go.Proofs.YtginkcjhfdoodabDoor
