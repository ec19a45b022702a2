import Derived.Test.YtmahamdmapbilaaGreatDoorJwJ21
import Derived.Test.YtmahamdmapbilaaGreatDoorJwJ14
import Derived.Test.YtmahamdmapbilaaGreatDoorJwJ24
import Derived.Test.YtmahamdmapbilaaGreatDoorJwJ3
import Derived.Test.YtmahamdmapbilaaGreatDoorJwJ7
import Derived.Test.YtmahamdmapbilaaGreatDoorJwJ17
import Derived.Test.YtmahamdmapbilaaGreatDoorJwJ10
set_option maxHeartbeats 40000000
set_option maxRecDepth 100000
set_option linter.unusedVariables false
namespace Go.Proofs.YtmahamdmapbilaaGreatDoor
open Go.RowKit Go.Shelf Go.Lib
attribute [local go_sem] Oper.semAt_some
theorem load_rosQ {W : World} {B : Nat} {u v : Value} (h : W.heap[B]? = some (.cells #[u, v] 25 (0, 0))) : (Instr.loadAt 25 (.pointer (some ⟨B, 0, none⟩))).run Tryz.prog W = .ok (.agg #[u, v]) W := by
 have c0 := zca h 0
 have c1 := zca h 1
 go_simp
theorem below_own {M : Nat} {X Y : World} {row : Option Nat} (hg : X.grownBy Y row) (hM : M ≤ X.heap.size) (hr : ∀ k, row = some k → M ≤ k) : Below M X Y :=
 ⟨hg.os, hg.tape, hg.output, hg.size, fun k hk => hg.block k (by omega) (fun e => by have := hr k e.symm; omega)⟩
theorem builder_own {T e : TypeId} {B b : Nat} {bs : List Value} {X Y : World} {row : Option Nat} (h : IsBuilderF T e B b bs X) (hg : X.grownBy Y row) (hr : ∀ r, row = some r → ∃ o : Obj, X.heap[r]? = some o ∧ o.isCells = false) : IsBuilderF T e B b bs Y := by
 have key : ∀ p, BuilderAtF T e B b p bs X → BuilderAtF T e B b p bs Y := by
  rintro p ⟨h1, v, h2, h3, h4⟩
  refine ⟨h1, v, (hg.block b (zla h2) (fun e' => ?_)).trans h2, h3.kept hg ?_, h4⟩
  · obtain ⟨o, h5, h6⟩ := hr b e'.symm
    rw [h2] at h5; cases h5; cases h6
  · cases hv : v.ownBlock with
    | none => exact .inl rfl
    | some g =>
     refine .inr (fun e' => ?_)
     obtain ⟨o, h5, h6⟩ := hr g e'.symm
     obtain ⟨c, fz, h7⟩ := ownsRowF_kind (e := e) (xs := bs) h3 g hv
     rw [h7] at h5; cases h5; cases h6
 exact h.elim (fun x => .inl (key _ x)) (fun x => .inr (key _ x))
structure JN (w : World) (M B : Nat) (v u : Value) (l : List Int) (W : World) : Prop where
 a : W.heap[B]? = some (.cells #[v, u] 25 (0, 0))
 r : Ros M W (.agg #[v, u]) l
 below : Below w.heap.size w W
theorem JN.carry {w : World} {M B : Nat} {v u : Value} {l : List Int} {W W' : World} (hM : M ≤ w.heap.size) (h : JN w M B v u l W) (hb : Below W.heap.size W W') : JN w M B v u l W' := by
 have h1 := zla h.a
 have h2 := h.below.size
 exact ⟨(hb.block _ h1).trans h.a, h.r.call (by omega) hb, h.below.trans (hb.mono (by omega))⟩
theorem jn_own {β : Type} {w : World} {M B n : Nat} {v u : Value} {l : List Int} (hM : M ≤ w.heap.size) (hn : w.heap.size ≤ n) (hB : B < n) : OwnFrom n (fun (_ : β) W => JN w M B v u l W) := by
 intro s X Y row h hg hr
 have h2 := h.below.size
 refine ⟨(hg.block _ (zla h.a) (fun e => by have := (hr B e.symm).1; omega)).trans h.a, h.r.below (below_own hg (by omega) (fun k e => by have := (hr k e).1; omega)), h.below.trans (below_own hg h2 (fun k e => by have := (hr k e).1; omega))⟩
theorem txt_sgs_snoc (l : List Int) (pre : List Nat) (x : Nat) : (txt (sgs l (pre ++ [x]))).data.toList = (txt (sgs l pre)).data.toList ++ (Utf8.encode (l.getD x 0)).data.toList := by
 rw [txt_data, txt_data, sgs, List.map_append, wr_append]
 simp [wr, sgs]
theorem print_in {M : Nat} {v : Value} {l : List Int} (w : World) (h : Ros M w v l) (hM : M ≤ w.heap.size) (N : Nat) (hN : N < S128) (hT : Tab w) :
   CallsIn Fence.wide 0 Tryz.prog 103 #[v, sv N] w fun e w' => e = .returned (.tuple #[.string (prR l N).1, .int .i64 (prR l N).2]) ∧ Below w.heap.size w w' := by
 obtain ⟨ad, cap, mb, rfl⟩ := h.form
 have hT0 := hT.lt
 have hsg := h.1
 have hls := hsg.short
 have hmx := mixO
 have hwi := within_any N hN l.length
 have hall := all_any N
 have hq := eqn4 N 0 hN (by decide)
 have e0 : sv 0 = .agg #[.int .u32 0, .int .u32 0, .int .u32 0, .int .u32 0] := by simp [sv, wd]
 rw [e0] at hq
 simp only [sv] at hq hall ⊢
 have j0 : JN w M w.heap.size (.slice ad l.length cap) (.map mb) l ((w.alloc (.cells #[.slice ad l.length cap, .map mb] 25)).alloc (.cells (cells4 (wd N)) 36)) := ⟨zoa (zna rfl), (h.alloc hM _).alloc (by simp; omega) _, ((Below.refl _ w).alloc (by simp) _).alloc (by simp) _⟩
 have s0 : Zh4 ((w.alloc (.cells #[.slice ad l.length cap, .map mb] 25)).alloc (.cells (cells4 (wd N)) 36)) (w.heap.size + 1) (wd N) := get_newQ (by simp)
 refine callsIn_of_wp_marks Tryz.func103 rfl trivial ?_ rfl
 simp only [Tryz.ntmps103, List.size_toArray, List.length_cons, List.length_nil, Nat.reduceAdd, Nat.reduceSub, Array.replicate_succ, Array.replicate_zero, List.push_toArray, List.append_toArray, List.nil_append, List.cons_append]
 refine (wpIn_wide (n := 0)).2 ?_
 go_wp2
 rename_i Q0 K0 hK
 refine wp_region_any hmx ?_
 refine zwp (fun i__ => ([(sv N), (.agg #[.slice ad l.length cap, .map mb]), (.int .i64 (l.length : Nat)), (.bool (wthB N (l.length : Nat))), (.bool (!wthB N (l.length : Nat)))] : List Value).getD i__ undef) (fun W => JN w M w.heap.size (.slice ad l.length cap) (.map mb) l W ∧ Zh4 W (w.heap.size + 1) (wd N)) (by kernel_rfl) ⟨j0.carry hM (Below.refl _ _).drew, s0.carry (Below.refl _ _).drew⟩ ?_ ?_
 · refine (sqc ?_ (sqc ?_ (sqc ?_ (sqc ?_ (sqc ?_ trivial)))))
   · exact zld rfl trivial _ _ _ rfl rfl (fun w hw => whole4 w _ N hw.2)
   · exact zld rfl trivial _ _ _ rfl rfl (fun w hw => load_rosQ hw.1.a)
   · exact zsc rfl trivial 20 _ _ [(.agg #[.slice ad l.length cap, .map mb])] rfl (by kernel_rfl) (enters_of Tryz.func20 (by kernel_rfl) rfl) (fun w hw => (size_any w hw.1.r).mono (by rintro e w' ⟨rfl, hb⟩; exact ⟨rfl, hw.1.carry hM hb, hw.2.carry hb⟩))
   · exact zsc rfl trivial 159 _ _ [(sv N), (.int .i64 (l.length : Nat))] rfl (by kernel_rfl) (enters_of Tryz.func159 (by kernel_rfl) rfl) (fun w hw => (hwi w).mono (by rintro e w' ⟨rfl, hb⟩; exact ⟨rfl, hw.1.carry hM hb, hw.2.carry hb⟩))
   · exact step_unOp rfl trivial _ _ _ _ rfl rfl (fun w hw => by go_simp)
 intro W hW
 first | refine hK _ _ ?_ | refine (‹∀ (a : Act) (w : World), Code.wp Tryz.prog _ _ a w → _›) _ _ ?_ | skip
 simp only [finL, List.getD_cons_zero, List.getD_cons_succ, Nat.zero_add, Nat.reduceAdd, List.setIfInBounds_toArray, List.set_cons_zero, List.set_cons_succ]
 clear hK j0 s0
 obtain ⟨hj, hset⟩ := hW
 obtain ⟨y0, y1, y2, y3, _⟩ := hset.facts
 have hsl := hset.lt
 have HJ : Hid (JN w M w.heap.size (.slice ad l.length cap) (.map mb) l W) := hj
 have HS : Hid (Zh4 W (w.heap.size + 1) (wd N)) := hset
 clear hj hset
 by_cases hw1 : wthB N (l.length : Nat) = true
 · rw [hw1]
   by_cases hz : N = 0
   · have HP : Hid (prR l N = (dash, 0)) := by show prR l N = _; rw [prR, if_pos hw1, if_pos hz]
     rw [decide_eq_true hz] at hq
     clear hz hw1
     go_wp2
     refine ⟨.tuple #[.string (prR l N).1, .int .i64 (prR l N).2], ?_, rfl, HJ.out.below⟩
     rw [HP.out]
     simp [results, Tryz.results103, go_sem, dash]
   · have HP : Hid (prR l N = (txt (sgs l (idsTo N 128)), 0)) := by show prR l N = _; rw [prR, if_pos hw1, if_neg hz]
     rw [decide_eq_false hz] at hq
     have hcl := cln_self (wth_lt100 hw1)
     rw [hcl] at hall
     have hids : ∀ x ∈ idsTo N 128, x < l.length := fun x hx => (wth_id hw1 (mem_idsTo.1 hx).2).1
     clear hz hw1 hcl
     go_wp2_with (go_at_call 160; refine (hall _).mono ?_; rintro e w3 ⟨rfl, hb3, hh3⟩; (try simp only [World.size_alloc] at hh3); (try simp only [World.size_alloc]))
     have hf3 : W.heap.size + 1 < w3.heap.size := by have := hh3.lt; simpa using this
     have j3 : JN w M w.heap.size (.slice ad l.length cap) (.map mb) l w3 := (HJ.out.carry hM ((Below.refl _ W).alloc (Nat.le_refl _) _)).carry hM hb3
     have b3 : IsBuilderF 227 5 W.heap.size W.heap.size (byteCells []) w3 := builder_own (IsBuilderF.of (fresh_isBuilder 227 5 W)) (grown_below hb3) (fun r e => by cases e)
     have hbw := j3.below.size
     refine (wpIn_wide (n := 0)).1 ?_
     refine wp_rangeF (kb := 0) (gf := 192) (lb := #[.pointer (some ⟨W.heap.size + 1, 0, none⟩)]) rfl (enters_of Tryz.func192 (by kernel_rfl) rfl)
      (all1_seq N (W.heap.size + 1) _ hh3) (by omega) (fun _ => rfl)
      (fun pre Wz => JN w M w.heap.size (.slice ad l.length cap) (.map mb) l Wz ∧ Zh4 Wz (W.heap.size + 1) (wd N) ∧ IsBuilderF 227 5 W.heap.size W.heap.size (byteCells (txt (sgs l pre)).data.toList) Wz)
      (fun _ _ _ => False)
      ((jn_own hM (by omega) (by omega)).and (((blk_ownQ _ (fun _ : List Nat => .cells (cells4 (wd N)) 36) (fun _ => rfl)).from _).and (fun s X Y row hs hg hr => builder_own hs hg (fun r e => (hr r e).2))))
      (fun _ _ _ _ _ hs _ _ => hs)
      ⟨j3, hh3, b3⟩ (fun _ Wz h => hT.keep h.1.below hT0)
      (fun x a' _ => a' = { tmps := #[.agg #[.slice ad l.length cap, .map mb], sv N, .pointer (some ⟨w.heap.size, 0, none⟩), .pointer (some ⟨w.heap.size + 1, 0, none⟩), .string ⟨#[]⟩, .int .i64 0, .pointer (some ⟨W.heap.size, 0, none⟩), .int .i64 ((x : Nat) : Int), sv N, .agg #[.slice ad l.length cap, .map mb], .int .i64 (l.length : Nat), .bool true, .bool false, sv N, .agg #[.int .u32 0, .int .u32 0, .int .u32 0, .int .u32 0], .bool false, sv N, .func (.func 192) #[] #[.pointer (some ⟨W.heap.size + 1, 0, none⟩)], .int .i64 ((x : Nat) : Int), undef, undef, undef, undef, undef, undef, undef], defers := [] })
      (fun _ _ _ _ _ _ hs _ _ => hs) ?assign ?body ?done ?stop
     case assign =>
      rintro lp pre x Wz K hi hsz hK
      gi_wp2
      exact hK _ _ (Kept.refl _ _ _ _) hi rfl
     case stop =>
      rintro c pre Wz _ h _
      exact h.elim
     case body =>
      rintro lp pre x a' Wz ⟨hj, hs4, hbd⟩ rfl hsz hpr hk0 ⟨lo, hk1⟩
      have hxm : x ∈ idsTo N 128 := hpr.subset (by simp)
      have hxl := hids x hxm
      have hpl : (pre ++ [x]).length ≤ 128 := Nat.le_trans hpr.length_le (by rw [idsTo_length]; exact cnt_le _)
      simp only [List.length_append, List.length_cons, List.length_nil] at hpl
      have hc := cls_letter (hsg.letter l[x] (List.getElem_mem hxl))
      obtain ⟨_, sl, mp, esl, ⟨ad', cap', rfl, hf⟩, _⟩ := hj.r
      simp at esl
      obtain ⟨⟨rfl, rfl⟩, rfl⟩ := esl
      obtain ⟨g, rfl, g1, g2, g3⟩ := hf (fun e => by subst e; simp at hxl)
      have gx := g3 x l[x] (List.getElem?_eq_getElem hxl)
      have hgl : g < Wz.heap.size := by have := hj.below.size; omega
      have ca := zca hj.a 0
      have hlen : (byteCells (txt (sgs l pre)).data.toList).length + 4 ≤ 140737488355328 := by
        rw [byteCells_length]
        have h1 := txt_size (sgs l pre)
        have h2 : (txt (sgs l pre)).data.toList.length = (txt (sgs l pre)).size := by simp
        have h3 : (sgs l pre).length = pre.length := by simp [sgs]
        omega
      have hwr := writeRune_any W.heap.size W.heap.size _ l[x] (by omega) (by omega) Wz hbd hlen (by omega)
      have HN : Hid ((txt (sgs l (pre ++ [x]))).data.toList = (txt (sgs l pre)).data.toList ++ (Utf8.encode l[x]).data.toList) := by
        show (txt (sgs l (pre ++ [x]))).data.toList = _
        rw [txt_sgs_snoc, List.getD_eq_getElem?_getD, List.getElem?_eq_getElem hxl]
        rfl
      have HJ2 : Hid (JN w M w.heap.size (.slice (some ⟨g, 0, none⟩) l.length cap) (.map mb) l Wz) := hj
      have HS2 : Hid (Zh4 Wz (W.heap.size + 1) (wd N)) := hs4
      have hxi : ((x : Nat) : Int) < (l.length : Int) := by omega
      clear hf g3 hj hs4 hbd hpr hlen j3 b3 hids hall hwi hxm
      gi_wp2
      with_reducible (refine And.intro (wfnQ _) (And.intro wdepQ ?_))
      refine (CallsIn.inRound lp (callsIn_wide.2 hwr)).mono ?_
      rintro e W4 ⟨rfl, hb4, hbl, hok⟩
      gi_wp2
      have k1 : Zh4 W4 (W.heap.size + 1) (wd N) := hok _ _ HS2.out (by simp) (fun c fz e => by injection e with _ h2; exact absurd h2 (by decide))
      have k2 := hok _ _ hk0 (by simp; omega) (fun c fz e => by cases e)
      have k3 := hok _ _ hk1 (by simp; omega) (fun c fz e => by cases e)
      have k4 : JN w M w.heap.size (.slice (some ⟨g, 0, none⟩) l.length cap) (.map mb) l W4 := ⟨(hbl.block _ (by omega)).trans HJ2.out.a, HJ2.out.r.below (hbl.mono (by omega)), HJ2.out.below.trans (hbl.mono (by omega))⟩
      refine ⟨⟨hbl.size, k1.trans HS2.out.symm, fun k h1 h2 => ?_⟩, k4, k1, ?_⟩
      · by_cases hk : k = w3.heap.size
        · subst hk; exact k2.trans hk0.symm
        · obtain rfl : k = w3.heap.size + 1 := by omega
          exact k3.trans hk1.symm
      · rw [HN.out, ← enc_same, byteCells_append, byteCells_encodeRune]
        exact Or.inr hb4
     case done =>
      rintro Wz ⟨hj, hs4, hbd⟩ hk0
      have hst := string_any W.heap.size W.heap.size _ Wz hbd (by have := zla hk0; omega)
      rw [txt_again] at hst
      have HX : Hid ((prR l N).1 = txt (sgs l (idsTo N 128))) := by show (prR l N).1 = _; rw [HP.out]
      generalize txt (sgs l (idsTo N 128)) = t at *
      have HJ2 : Hid (JN w M w.heap.size (.slice ad l.length cap) (.map mb) l Wz) := hj
      clear hbd hs4 hj j3 b3 hids hall hwi
      gi_wp2
      go_wp2_with (go_at_call 162; refine hst.mono ?_; rintro e W4 ⟨rfl, _, hbl, hok⟩)
      have k2 := hok _ _ hk0 (by simp; omega) (fun c fz e => by cases e)
      refine ⟨by simp, .inl ⟨_, _, rfl, run_takeDeferred k2, ?_⟩⟩
      refine ⟨.tuple #[.string (prR l N).1, .int .i64 (prR l N).2], ?_, rfl, below_taken _ (HJ2.out.below.trans (hbl.mono (by omega))) (by omega)⟩
      rw [HP.out]
      simp [results, Tryz.results103, go_sem]
 · have HP : Hid (prR l N = (⟨#[]⟩, 30)) := by show prR l N = _; rw [prR, if_neg hw1]
   rw [Bool.not_eq_true] at hw1
   rw [hw1]
   clear hw1
   go_wp2
   refine ⟨.tuple #[.string (prR l N).1, .int .i64 (prR l N).2], ?_, rfl, HJ.out.below⟩
   rw [HP.out]
   simp [results, Tryz.results103, go_sem]
theorem print_any {M : Nat} {v : Value} {l : List Int} (w : World) (h : Ros M w v l) (hM : M ≤ w.heap.size) (N : Nat) (hN : N < S128) (hT : Tab w) :
 Calls Tryz.prog 103 #[v, sv N] w fun e w' => e = .returned (.tuple #[.string (prR l N).1, .int .i64 (prR l N).2]) ∧ Below w.heap.size w w' := callsIn_wide.1 (print_in w h hM N hN hT)
end Go.Proofs.YtmahamdmapbilaaGreatDoor
namespace Go.Proofs.YtmahamdmapbilaaGreatDoor
open Go.RowKit Go.Shelf Go.Lib
theorem itoa2_any (n : Int) (h0 : -9223372036854775808 ≤ n) (h1 : n ≤ 9223372036854775807) (w : World) (hT : Pow w) : Calls Tryz.prog 102 #[.int .i64 n] w fun e w' => e = .returned (.string ⟨(Lib.itoa n).toArray⟩) ∧ Below w.heap.size w w' :=
 (Any.strconv_Itoa lays171 n h0 h1 w hT).mono (by rintro e w' ⟨rfl, k, os, rfl⟩; exact ⟨rfl, Lib.below_grow _ _ (Nat.le_refl _) k os⟩)
def tlT (L : List Int) (kd : Nat) (fr rd : Int) (N : Nat) (ns : List N3t) : ByteArray := if flt kd (L.length : Int) fr rd N ns = 0 then txt (pcR (noteP L kd fr rd.toNat N ns)) else ⟨#[]⟩
def TlO (L : List Int) (kd : Nat) (fr rd : Int) (N : Nat) (ns : List N3t) (w : World) (e : Ending) (w' : World) : Prop := e = .returned (.tuple #[.string (tlT L kd fr rd N ns), .int .i64 (flt kd (L.length : Int) fr rd N ns)]) ∧ Below w.heap.size w w'
theorem join_two (x y : ByteArray) (r : List ByteArray) : (jnB (x :: y :: r)).data.toList = x.data.toList ++ (32 :: (jnB (y :: r)).data.toList) := by
 unfold jnB
 rw [List.map_cons, List.map_cons, Lib.join_cons, Lib.join_cons, Lib.joinTail, List.map_cons, List.flatten_cons, Lib.joinTail]
 try simp
theorem join_last (x : ByteArray) : (jnB [x]).data.toList = x.data.toList := by
 unfold jnB
 rw [List.map_cons, List.map_nil, Lib.join_one]
theorem wr_wd (b : ByteArray) (h : ∀ x ∈ b.data.toList, x.toNat < 128) : wr (wordP b).2 = b.data.toList := wr_asc _ h
theorem wr_bl : wr [32] = [32] := by kernel_rfl
theorem it_dg {rd : Int} (h : 0 ≤ rd) : Lib.itoa rd = wr (dgR rd.toNat) := by
 have e : wr (dgR rd.toNat) = decDigits rd.toNat := wr_asc _ (fun b hb => by have := (dec_spec _).1 b hb; unfold dgt at this; omega)
 rw [e]
 unfold Lib.itoa
 rw [if_neg (by omega)]
theorem told_q (L : List Int) (fr : Nat) (rd : Int) (h : 0 ≤ rd) (N : Nat) (ns : List N3t) : jnB ([⟨#[113, 117, 101, 114, 121]⟩, txt [L.getD fr 0]] ++ [⟨(Lib.itoa rd).toArray⟩] ++ [nwT L ns]) = txt (pcR (noteP L 1 (fr : Int) rd.toNat N ns)) := by
 apply ByteArray.ext
 apply Array.toList_inj.1
 show (jnB [_, _, _, _]).data.toList = _
 rw [join_two, join_two, join_two, join_last, txt_data]
 have e : noteP L 1 (fr : Int) rd.toNat N ns = wordP ⟨#[113, 117, 101, 114, 121]⟩ :: blP :: sgP (L.getD fr 0) :: blP :: nuP rd.toNat :: blP :: newsP L ns := by unfold noteP; rw [if_pos rfl, Int.toNat_natCast]
 rw [e]
 have e2 : pcR (wordP ⟨#[113, 117, 101, 114, 121]⟩ :: blP :: sgP (L.getD fr 0) :: blP :: nuP rd.toNat :: blP :: newsP L ns) = (wordP ⟨#[113, 117, 101, 114, 121]⟩).2 ++ ([32] ++ ([L.getD fr 0] ++ ([32] ++ (dgR rd.toNat ++ ([32] ++ pcR (newsP L ns)))))) := rfl
 rw [e2, txt_data, wr_append, wr_append, wr_append, wr_append, wr_append, wr_append, wr_wd _ (by decide), wr_bl, ← it_dg h]
 unfold nwT
 simp only [txt_data]
 simp
theorem told_u (L : List Int) (fr : Nat) (rd : Int) (N : Nat) (ns : List N3t) : jnB ([⟨#[114, 117, 109, 111, 114]⟩, txt [L.getD fr 0]] ++ [] ++ [nwT L ns]) = txt (pcR (noteP L 3 (fr : Int) rd.toNat N ns)) := by
 apply ByteArray.ext
 apply Array.toList_inj.1
 show (jnB [_, _, _]).data.toList = _
 rw [join_two, join_two, join_last, txt_data]
 have e : noteP L 3 (fr : Int) rd.toNat N ns = wordP ⟨#[114, 117, 109, 111, 114]⟩ :: blP :: sgP (L.getD fr 0) :: blP :: newsP L ns := by unfold noteP; rw [if_neg (by decide), if_neg (by decide), Int.toNat_natCast]
 rw [e]
 have e2 : pcR (wordP ⟨#[114, 117, 109, 111, 114]⟩ :: blP :: sgP (L.getD fr 0) :: blP :: newsP L ns) = (wordP ⟨#[114, 117, 109, 111, 114]⟩).2 ++ ([32] ++ ([L.getD fr 0] ++ ([32] ++ pcR (newsP L ns)))) := rfl
 rw [e2, txt_data, wr_append, wr_append, wr_append, wr_append, wr_wd _ (by decide), wr_bl]
 unfold nwT
 simp only [txt_data]
 simp
theorem set_txt {L : List Int} {N : Nat} (hw : wthB N L.length = true) : (prR L N).1 = txt (setP L N).2 := by
 unfold setP prR
 rw [if_pos hw]
 by_cases hz : N = 0
 · rw [if_pos hz, if_pos hz]; kernel_rfl
 · rw [if_neg hz, if_neg hz]
theorem told_p (L : List Int) (fr : Nat) (rd : Int) (h : 0 ≤ rd) (N : Nat) (hw : wthB N L.length = true) (ns : List N3t) : jnB ([⟨#[114, 101, 112, 108, 121]⟩, txt [L.getD fr 0]] ++ [⟨(Lib.itoa rd).toArray⟩, (prR L N).1] ++ [nwT L ns]) = txt (pcR (noteP L 2 (fr : Int) rd.toNat N ns)) := by
 apply ByteArray.ext
 apply Array.toList_inj.1
 show (jnB [_, _, _, _, _]).data.toList = _
 rw [join_two, join_two, join_two, join_two, join_last, txt_data, set_txt hw]
 have e : noteP L 2 (fr : Int) rd.toNat N ns = wordP ⟨#[114, 101, 112, 108, 121]⟩ :: blP :: sgP (L.getD fr 0) :: blP :: nuP rd.toNat :: blP :: setP L N :: blP :: newsP L ns := by unfold noteP; rw [if_neg (by decide), if_pos rfl, Int.toNat_natCast]
 rw [e]
 have e2 : pcR (wordP ⟨#[114, 101, 112, 108, 121]⟩ :: blP :: sgP (L.getD fr 0) :: blP :: nuP rd.toNat :: blP :: setP L N :: blP :: newsP L ns) = (wordP ⟨#[114, 101, 112, 108, 121]⟩).2 ++ ([32] ++ ([L.getD fr 0] ++ ([32] ++ (dgR rd.toNat ++ ([32] ++ ((setP L N).2 ++ ([32] ++ pcR (newsP L ns)))))))) := rfl
 rw [e2, txt_data, txt_data, wr_append, wr_append, wr_append, wr_append, wr_append, wr_append, wr_append, wr_append, wr_wd _ (by decide), wr_bl, ← it_dg h]
 unfold nwT
 simp only [txt_data]
 simp
theorem ris_v {L : List Int} : ∀ (ns : List N3t) (a : Int), ris (L.length : Int) a ns = true → ∀ x ∈ ns, vN L x
 | [], _, _, x, hx => by cases hx
 | y :: ns, a, h, x, hx => by
  unfold ris at h
  simp only [Bool.and_eq_true, decide_eq_true_eq] at h
  rcases List.mem_cons.1 hx with e | hx
  · rw [e]; exact h.1
  · exact ris_v ns _ h.2.2 x hx
theorem ris_r {L : List Int} : ∀ (ns : List N3t) (a : Int), ris (L.length : Int) a ns = true → ∀ k (x y : N3t), ns[k]? = some x → ns[k + 1]? = some y → x.1 < y.1
 | [], _, _, k, x, y, hx, _ => by simp at hx
 | z :: ns, a, h, 0, x, y, hx, hy => by
  unfold ris at h
  simp only [Bool.and_eq_true, decide_eq_true_eq] at h
  simp at hx hy
  subst hx
  cases ns with
  | nil => simp at hy
  | cons u ns =>
   have h2 := h.2.2
   unfold ris at h2
   simp only [Bool.and_eq_true, decide_eq_true_eq] at h2
   simp at hy
   subst hy
   exact h2.2.1
 | z :: ns, a, h, k + 1, x, y, hx, hy => by
  unfold ris at h
  simp only [Bool.and_eq_true, decide_eq_true_eq] at h
  simp at hx hy
  exact ris_r ns _ h.2.2 k x y hx hy
theorem nsV_of {L : List Int} {ns : List N3t} {a : Int} (h : ris (L.length : Int) a ns = true) (hn : ns.length ≤ 1000) : NsV L ns := ⟨ris_v ns a h, ris_r ns a h, hn⟩
theorem ntm_q {w : World} (n fr rd : Int) (ad : Option Addr) (cap : Nat) (ns : List N3t) (h : RdN w ad ns) (hl : ns.length ≤ 1000) : NtM w 92 (.agg #[.int .i64 fr, .int .i64 rd, .slice ad ns.length cap]) 282 285 284 n 1 fr rd 0 ns :=
 ⟨fun a w => cmQ_Bytes _ _ w, fun w => naQ _ w, fun w => cmQ_Sender _ w, fun w => cmQ_Notices _ w, fun V hb => qbytes_any n fr rd ad cap ns V (h.carry hb) (by omega), fun V => senderQ_any fr rd ad ns.length cap V, fun V hb => noticesQ_any fr rd ad cap ns V (h.carry hb) (by omega)⟩
theorem ntm_u {w : World} (n fr rd : Int) (hrd : rd = 0) (ad : Option Addr) (cap : Nat) (ns : List N3t) (h : RdN w ad ns) (hl : ns.length ≤ 1000) : NtM w 90 (.agg #[.int .i64 fr, .slice ad ns.length cap]) 265 268 267 n 3 fr rd 0 ns := by
 subst hrd
 exact ⟨fun a w => cmU_Bytes _ _ w, fun w => naU _ w, fun w => cmU_Sender _ w, fun w => cmU_Notices _ w, fun V hb => ubytes_any n fr ad cap ns V (h.carry hb) (by omega), fun V => senderU_any fr ad ns.length cap V, fun V hb => noticesU_any fr ad cap ns V (h.carry hb) (by omega)⟩
theorem ntm_p {w : World} (n fr rd : Int) (N : Nat) (hN : N < S128) (ad : Option Addr) (cap : Nat) (ns : List N3t) (h : RdN w ad ns) (hl : ns.length ≤ 1000) : NtM w 95 (.agg #[.int .i64 fr, .int .i64 rd, .int .u32 (wd N 0 : Nat), .int .u32 (wd N 1 : Nat), .int .u32 (wd N 2 : Nat), .int .u32 (wd N 3 : Nat), .slice ad ns.length cap]) 287 290 289 n 2 fr rd N ns :=
 ⟨fun a w => cmP_Bytes _ _ w, fun w => naP _ w, fun w => cmP_Sender _ w, fun w => cmP_Notices _ w, fun V hb => pbytes_any n fr rd N hN ad cap ns V (h.carry hb) (by omega), fun V => senderP_any fr rd _ _ _ _ ad ns.length cap V, fun V hb => noticesP_any fr rd _ _ _ _ ad cap ns V (h.carry hb) (by omega)⟩
theorem line_any {M : Nat} {sl mp : Value} {L : List Int} {w : World} (hR : Ros M w (.agg #[sl, mp]) L) (hM : M ≤ w.heap.size) (hP : Pow w) {T : TypeId} {X : Value} {FB FS FN : FuncId} {kd : Nat} {fr rd : Int} {N : Nat} {ns : List N3t} (hX : NtM w T X FB FS FN (L.length : Int) kd fr rd N ns) (hn1 : ns.length ≤ 1000) (first : ByteArray) (xs : List ByteArray) (adb : Option Addr) (cb : Nat) (hxs : RdX w adb xs) (hx2 : xs.length ≤ 2) (hx0 : xs = [] → adb = none ∧ cb = 0) (htx : ∀ f : Nat, fr = f → (kd = 3 ∨ 0 ≤ rd) → wthB N L.length = true → jnB ([first, txt [L.getD f 0]] ++ xs ++ [nwT L ns]) = txt (pcR (noteP L kd fr rd.toNat N ns))) (hrd : kd = 3 → rd = 0) : Calls Tryz.prog 101 #[.agg #[sl, mp], .iface T X, .string first, .slice adb xs.length cb] w (TlO L kd fr rd N ns w) := by
 by_cases hf : flt kd (L.length : Int) fr rd N ns = 0
 · obtain ⟨h1, h2, h3, h4, h5⟩ := flt_0 hf
   obtain ⟨f, rfl⟩ := Int.eq_ofNat_of_zero_le h2.1
   have hV := nsV_of h5 hn1
   have hr0 : kd = 3 ∨ 0 ≤ rd := by rcases h3 with h | h; exact .inl h; exact .inr (by omega)
   have ht := htx f rfl hr0 h4
   have hrb : rd.toNat ≤ 1099511627775 := by
    rcases h3 with h | h
    · rw [hrd h]; decide
    · omega
   have hs := note_short (kd := kd) (fr := (f : Int)) (N := N) hrb hV.v hn1
   refine (line_ok hR hM hP hX hf (by omega) hV.v hn1 first xs adb cb hxs hx2 hx0 (by rw [ht]; omega)).mono ?_
   rintro e w' ⟨rfl, hb⟩
   refine ⟨?_, hb⟩
   unfold tlT
   rw [ht, if_pos hf, hf]
 · refine (line_no hR hM hX hf first (.slice adb xs.length cb)).mono ?_
   rintro e w' ⟨rfl, hb⟩
   refine ⟨?_, hb⟩
   unfold tlT
   rw [if_neg hf]
theorem TlO.form {L : List Int} {kd : Nat} {fr rd : Int} {N : Nat} {ns : List N3t} {W : World} {e : Ending} {w' : World} {TT : ByteArray} {E : Int} (hT : tlT L kd fr rd N ns = TT) (hE : flt kd (L.length : Int) fr rd N ns = E) (h : TlO L kd fr rd N ns W e w') : e = .returned (.tuple #[.string TT, .int .i64 E]) ∧ Below W.heap.size W w' := by
 obtain ⟨h1, h2⟩ := h
 rw [hT, hE] at h1
 exact ⟨h1, h2⟩
structure JQy (w : World) (sl mp : Value) (T : TypeId) (C : Array Value) (B : Array Value) (g : Nat) (d : Bool) (V : World) : Prop where
 be : Below w.heap.size w V
 bx : V.heap[w.heap.size]? = some (.cells #[sl, mp] 25 (0, 0))
 bq : V.heap[w.heap.size + 1]? = some (.cells C T (0, 0))
 bd : d = true → V.heap[g]? = some (.cells B 9 (0, 0))
theorem JQy.carry {w : World} {sl mp : Value} {T : TypeId} {C B : Array Value} {g : Nat} {d : Bool} {V U : World} (h : JQy w sl mp T C B g d V) (hb : Below V.heap.size V U) : JQy w sl mp T C B g d U := ⟨bel3 h.be hb, (hb.block _ (zla h.bx)).trans h.bx, (hb.block _ (zla h.bq)).trans h.bq, fun e => (hb.block _ (zla (h.bd e))).trans (h.bd e)⟩
theorem stepG_buildS2 {G : Type} {P : Program} {md : Region.Mode} {ops : Array Oper} {Q : Exit → Act → World → Prop} {X0 : Array Value} {val : G → Nat → Value} {J : G → (Nat → Bool) → World → Prop} {i : Nat} {o : Oper} (hi : ops[i]? = some o) (hg : o.guard = none) (t : TypeId) (x y : Operand) (v u : G → Value) (ho : o.op = .buildSlice t 2 #[(0, x), (1, y)]) (hx : ∀ g, rdo md ops X0 (val g) i o x = some (v g)) (hy : ∀ g, rdo md ops X0 (val g) i o y = some (u g))
  (h : ∀ g d w, J g d w → d i = false → (∀ j, bindsOn md o j = true → d j = true) → (∀ j oj, ops[j]? = some oj → d j = true → ∀ k, bindsOn md oj k = true → d k = true) → ∃ g' w', (Instr.buildSlice t 2 #[(0, v g), (1, u g)]).run P w = .ok (val g' i) w' ∧ (∀ j, d j = true → val g' j = val g j) ∧ J g' (fun j => if j = i then true else d j) w') : StepG P md ops Q X0 val J i o := by
 intro g d a w hJ hun hdep hcl hS
 have hS' : Seen md ops X0 (val g) i o a := hS
 obtain ⟨g', w', h1, h2, h3⟩ := h g d w hJ hun hdep hcl
 unfold wpOp
 rw [hi]
 simp only [Region.wanted, hg, if_true]
 refine .inl ?_
 unfold Oper.wp execOp
 simp only [ho, List.map_toArray, List.map_cons, List.map_nil, hS'.eval (hx g), hS'.eval (hy g), Sem.run_bind, h1, Result.andThen_ok, Sem.run_pure, Oper.upon_value]
 exact ⟨g', h2, rfl, h3⟩
theorem mkI_Q (v : Value) (w : World) : (Instr.makeInterface 92 v).run Tryz.prog w = .ok (.iface 92 v) w := by go_simp
theorem load_bq {W : World} {b : Nat} {fr rd : Int} {ad : Option Addr} {n cap : Nat} (h : W.heap[b]? = some (.cells #[.int .i64 fr, .int .i64 rd, .slice ad n cap] 92 (0, 0))) : (Instr.loadAt 92 (.pointer (some ⟨b, 0, none⟩))).run Tryz.prog W = .ok (.agg #[.int .i64 fr, .int .i64 rd, .slice ad n cap]) W ∧ (Instr.loadAt 3 (.pointer (some ⟨b, 1, none⟩))).run Tryz.prog W = .ok (.int .i64 rd) W := by
 have c0 : W.cell? ⟨b, 0, none⟩ = some (.int .i64 fr) := (zca h 0).trans rfl
 have c1 : W.cell? ⟨b, 1, none⟩ = some (.int .i64 rd) := (zca h 1).trans rfl
 have c2 : W.cell? ⟨b, 2, none⟩ = some (.slice ad n cap) := (zca h 2).trans rfl
 constructor
 · go_simp
 · go_simp
theorem field_bq (W : World) (b : Nat) : (Instr.fieldAt 92 (.pointer (some ⟨b, 0, none⟩)) 1).run Tryz.prog W = .ok (.pointer (some ⟨b, 1, none⟩)) W := by go_simp
theorem load_bp {W : World} {b : Nat} {fr rd : Int} {N : Nat} {ad : Option Addr} {n cap : Nat} (h : W.heap[b]? = some (.cells #[.int .i64 fr, .int .i64 rd, .int .u32 (wd N 0 : Nat), .int .u32 (wd N 1 : Nat), .int .u32 (wd N 2 : Nat), .int .u32 (wd N 3 : Nat), .slice ad n cap] 95 (0, 0))) : (Instr.loadAt 95 (.pointer (some ⟨b, 0, none⟩))).run Tryz.prog W = .ok (.agg #[.int .i64 fr, .int .i64 rd, .int .u32 (wd N 0 : Nat), .int .u32 (wd N 1 : Nat), .int .u32 (wd N 2 : Nat), .int .u32 (wd N 3 : Nat), .slice ad n cap]) W ∧ (Instr.loadAt 3 (.pointer (some ⟨b, 1, none⟩))).run Tryz.prog W = .ok (.int .i64 rd) W := by
 have c0 : W.cell? ⟨b, 0, none⟩ = some (.int .i64 fr) := (zca h 0).trans rfl
 have c1 : W.cell? ⟨b, 1, none⟩ = some (.int .i64 rd) := (zca h 1).trans rfl
 have c2 : W.cell? ⟨b, 2, none⟩ = some (.int .u32 (wd N 0 : Nat)) := (zca h 2).trans rfl
 have c3 : W.cell? ⟨b, 3, none⟩ = some (.int .u32 (wd N 1 : Nat)) := (zca h 3).trans rfl
 have c4 : W.cell? ⟨b, 4, none⟩ = some (.int .u32 (wd N 2 : Nat)) := (zca h 4).trans rfl
 have c5 : W.cell? ⟨b, 5, none⟩ = some (.int .u32 (wd N 3 : Nat)) := (zca h 5).trans rfl
 have c6 : W.cell? ⟨b, 6, none⟩ = some (.slice ad n cap) := (zca h 6).trans rfl
 constructor
 · go_simp
 · go_simp
theorem field_bp (W : World) (b : Nat) : (Instr.fieldAt 95 (.pointer (some ⟨b, 0, none⟩)) 1).run Tryz.prog W = .ok (.pointer (some ⟨b, 1, none⟩)) W := by go_simp
theorem rdx_one {W : World} {g : Nat} {a : ByteArray} (h : W.heap[g]? = some (.cells #[.string a] 9 (0, 0))) : RdX W (some ⟨g, 0, none⟩) [a] := fun _ => ⟨g, 0, rfl, zla h, fun j x hj => by
 cases j with
 | zero => simp at hj; subst hj; exact (zca h 0).trans rfl
 | succ j => simp at hj⟩
theorem rdx_two {W : World} {g : Nat} {a b : ByteArray} (h : W.heap[g]? = some (.cells #[.string a, .string b] 9 (0, 0))) : RdX W (some ⟨g, 0, none⟩) [a, b] := fun _ => ⟨g, 0, rfl, zla h, fun j x hj => by
 match j, hj with
 | 0, hj => simp at hj; subst hj; exact (zca h 0).trans rfl
 | 1, hj => simp at hj; subst hj; exact (zca h 1).trans rfl
 | j + 2, hj => simp at hj⟩
theorem tquery_any {M : Nat} {sl mp : Value} {L : List Int} {w : World} (hR : Ros M w (.agg #[sl, mp]) L) (hM : M ≤ w.heap.size) (hP : Pow w) (fr rd : Int) (h0 : -9223372036854775808 ≤ rd) (h1 : rd ≤ 9223372036854775807) (ad : Option Addr) (cap : Nat) (ns : List N3t) (h : RdN w ad ns) (hl : ns.length ≤ 1000) : Calls Tryz.prog 25 #[.agg #[sl, mp], .agg #[.int .i64 fr, .int .i64 rd, .slice ad ns.length cap]] w (TlO L 1 fr rd 0 ns w) := by
 have hmx := mixO
 obtain ⟨TT, hTT⟩ : ∃ TT, tlT L 1 fr rd 0 ns = TT := ⟨_, rfl⟩
 obtain ⟨E, hE⟩ : ∃ E, flt 1 (L.length : Int) fr rd 0 ns = E := ⟨_, rfl⟩
 obtain ⟨W1, hW1⟩ : ∃ W1, w.alloc (.cells #[sl, mp] 25) = W1 := ⟨_, rfl⟩
 have hb1 : Below w.heap.size w W1 := by rw [← hW1]; exact al1t _ _
 have z1 : W1.heap.size = w.heap.size + 1 := by rw [← hW1]; simp
 have r1 : W1.heap[w.heap.size]? = some (.cells #[sl, mp] 25 (0, 0)) := by rw [← hW1]; exact zna rfl
 obtain ⟨W2, hW2⟩ : ∃ W2, W1.alloc (.cells #[.int .i64 fr, .int .i64 rd, .slice ad ns.length cap] 92) = W2 := ⟨_, rfl⟩
 have hb2 : Below W1.heap.size W1 W2 := by rw [← hW2]; exact al1t _ _
 have r2 : W2.heap[w.heap.size + 1]? = some (.cells #[.int .i64 fr, .int .i64 rd, .slice ad ns.length cap] 92 (0, 0)) := by rw [← hW2]; exact zna z1.symm
 have hb02 := bel3 hb1 hb2
 have r12 := (hb2.block _ (zla r1)).trans r1
 obtain ⟨it, hit⟩ : ∃ it, (⟨(Lib.itoa rd).toArray⟩ : ByteArray) = it := ⟨_, rfl⟩
 have HIT : Hid (∀ V, Below w.heap.size w V → Calls Tryz.prog 102 #[.int .i64 rd] V fun e w' => e = .returned (.string it) ∧ Below V.heap.size V w') := fun V hV => by
  rw [← hit]
  exact itoa2_any rd h0 h1 V (hP.carry hV)
 have HLN : Hid (∀ V g, Below w.heap.size w V → V.heap[g]? = some (.cells #[.string it] 9 (0, 0)) → Calls Tryz.prog 101 #[.agg #[sl, mp], .iface 92 (.agg #[.int .i64 fr, .int .i64 rd, .slice ad ns.length cap]), .string ⟨#[113, 117, 101, 114, 121]⟩, .slice (some ⟨g, 0, none⟩) 1 1] V fun e w' => e = .returned (.tuple #[.string TT, .int .i64 E]) ∧ Below V.heap.size V w') := fun V g hV hg =>
  (line_any (hR.below (hV.mono hM)) (Nat.le_trans hM hV.size) (hP.carry hV) (ntm_q (L.length : Int) fr rd ad cap ns (h.carry hV) hl) hl ⟨#[113, 117, 101, 114, 121]⟩ [it] (some ⟨g, 0, none⟩) 1 (rdx_one hg) (by simp) (fun e => by cases e) (fun f e hr hw => by
   subst e
   rw [← hit]
   exact told_q L f rd (by rcases hr with h | h; exact absurd h (by decide); exact h) 0 ns) (fun e => by cases e)).mono (fun _ _ q => q.form hTT hE)
 have HF : Hid (∀ V : World, Below w.heap.size w V → TlO L 1 fr rd 0 ns w (.returned (.tuple #[.string TT, .int .i64 E])) V) := fun V hV => ⟨by rw [hTT, hE], hV⟩
 have hJ : Hid (JQy w sl mp 92 #[.int .i64 fr, .int .i64 rd, .slice ad ns.length cap] #[.string it] 0 false W2) := ⟨hb02, r12, r2, fun e => by cases e⟩
 obtain ⟨n, hn⟩ : ∃ n, ns.length = n := ⟨_, rfl⟩
 rw [hn] at hW2 HLN hJ ⊢
 clear hR hP h hTT hE hit r1 r2 r12 hb1 hb2 hn hl
 have q1 : W1.heap.size = w.heap.size + 1 := z1
 go_enter Tryz.func25, Tryz.ntmps25
 go_wp2
 rename_i hK
 refine wp_region_any hmx ?_
 refine zwt (G := (Nat)) (fun g i__ => ([(.agg #[sl, mp]), (.agg #[.int .i64 fr, .int .i64 rd, .slice ad n cap]), (.iface 92 (.agg #[.int .i64 fr, .int .i64 rd, .slice ad n cap])), (.pointer (some ⟨w.heap.size + 1, 1, none⟩)), (.int .i64 rd), (.string it), (.slice (some ⟨g, 0, none⟩) 1 1), (.tuple #[.string TT, .int .i64 E]), (.string TT), (.int .i64 E), (.string TT), (.int .i64 E)] : List Value).getD i__ undef) (fun g d V => JQy w sl mp 92 #[.int .i64 fr, .int .i64 rd, .slice ad n cap] #[.string it] g (d 6) V) (by kernel_rfl) (0) (hJ.out.carry (Below.refl _ _).drew) ?step20 ?fin20
 case step20 =>
  intro i o ho
  have hi : i < 12 := getElem?_lt ho
  match i, hi, ho with
  | 0, _, ho => cases ho; exact zgo fun g d hdep => zld rfl trivial _ _ _ rfl rfl (fun v hw => load_ros3 hw.bx)
  | 1, _, ho => cases ho; exact zgo fun g d hdep => zld rfl trivial _ _ _ rfl rfl (fun v hw => (load_bq hw.bq).1)
  | 2, _, ho => cases ho; exact zgo (fun g d hdep => step_mkI rfl trivial _ _ _ rfl (by kernel_rfl) (fun v hw => mkI_Q _ v))
  | 3, _, ho => cases ho; exact zgo fun g d hdep => zfa rfl trivial _ _ _ _ rfl rfl (fun v hw => field_bq v _)
  | 4, _, ho => cases ho; exact zgo fun g d hdep => zld rfl trivial _ _ _ rfl rfl (fun v hw => (load_bq hw.bq).2)
  | 5, _, ho => cases ho; exact zgo fun g d hdep => zsc rfl trivial 102 _ _ [(.int .i64 rd)] rfl (by kernel_rfl) (enters_of Tryz.func102 (by kernel_rfl) rfl) (fun V hw => (HIT.out V hw.be).mono (by rintro e w' ⟨rfl, h⟩; exact ⟨rfl, hw.carry h⟩))
  | 6, _, ho => cases ho; exact stepG_buildS rfl rfl _ _ (fun g => .string it) rfl (fun g => by kernel_rfl) (fun g d V hJ hun hdep hcl => by refine ⟨V.heap.size, _, bsS1 V it, (fun j hj => match j, hj with | 6, hj => (by rw [hj] at hun; cases hun) | 7, hj => absurd ((hcl 7 _ rfl hj 6 (by kernel_rfl))) (by rw [hun]; simp) | 0, _ => rfl | 1, _ => rfl | 2, _ => rfl | 3, _ => rfl | 4, _ => rfl | 5, _ => rfl | 8, _ => rfl | 9, _ => rfl | 10, _ => rfl | 11, _ => rfl | _ + 12, _ => rfl), ?_⟩; have h := hJ.carry (al1t V (.cells #[.string it] 9)); exact ⟨h.be, h.bx, h.bq, fun _ => zna rfl⟩)
  | 7, _, ho => cases ho; exact stepG_call rfl (fun _ => trivial) 101 _ _ (fun g => [.agg #[sl, mp], .iface 92 (.agg #[.int .i64 fr, .int .i64 rd, .slice ad n cap]), .string ⟨#[113, 117, 101, 114, 121]⟩, .slice (some ⟨g, 0, none⟩) 1 1]) rfl (fun g => by kernel_rfl) (enters_of Tryz.func101 (by kernel_rfl) rfl) (fun g d V hJ hun hdep hcl => (HLN.out V g hJ.be (hJ.bd (hdep 6 (by kernel_rfl)))).mono (by rintro e w' ⟨rfl, h⟩; exact ⟨g, rfl, (fun _ _ => rfl), hJ.carry h⟩))
  | 8, _, ho => cases ho; exact zgo fun g d hdep => step_extract rfl trivial _ _ _ rfl rfl (fun v hw => rfl)
  | 9, _, ho => cases ho; exact zgo fun g d hdep => step_extract rfl trivial _ _ _ rfl rfl (fun v hw => rfl)
  | 10, _, ho => cases ho; exact zgo fun g d hdep => zas rfl trivial _ rfl (by kernel_rfl) (fun _ h => h)
  | 11, _, ho => cases ho; exact zgo fun g d hdep => zas rfl trivial _ rfl (by kernel_rfl) (fun _ h => h)
 intro g d W hall hW
 first | refine hK _ _ ?_ | refine (‹∀ (a : Act) (w : World), Code.wp Tryz.prog _ _ a w → _›) _ _ ?_ | skip
 simp only [finL, List.getD_cons_zero, List.getD_cons_succ, Nat.zero_add, Nat.reduceAdd, List.setIfInBounds_toArray, List.set_cons_zero, List.set_cons_succ]
 have hbe := hW.be
 clear hW hall hK hJ
 go_wp2
 go_ret2
 exact HF.out _ hbe
theorem trumor_any {M : Nat} {sl mp : Value} {L : List Int} {w : World} (hR : Ros M w (.agg #[sl, mp]) L) (hM : M ≤ w.heap.size) (hP : Pow w) (fr : Int) (ad : Option Addr) (cap : Nat) (ns : List N3t) (h : RdN w ad ns) (hl : ns.length ≤ 1000) : Calls Tryz.prog 24 #[.agg #[sl, mp], .agg #[.int .i64 fr, .slice ad ns.length cap]] w (TlO L 3 fr 0 0 ns w) := by
 have hmx := mixO
 obtain ⟨TT, hTT⟩ : ∃ TT, tlT L 3 fr 0 0 ns = TT := ⟨_, rfl⟩
 obtain ⟨E, hE⟩ : ∃ E, flt 3 (L.length : Int) fr 0 0 ns = E := ⟨_, rfl⟩
 obtain ⟨W1, hW1⟩ : ∃ W1, w.alloc (.cells #[sl, mp] 25) = W1 := ⟨_, rfl⟩
 have hb1 : Below w.heap.size w W1 := by rw [← hW1]; exact al1t _ _
 have z1 : W1.heap.size = w.heap.size + 1 := by rw [← hW1]; simp
 have r1 : W1.heap[w.heap.size]? = some (.cells #[sl, mp] 25 (0, 0)) := by rw [← hW1]; exact zna rfl
 obtain ⟨W2, hW2⟩ : ∃ W2, W1.alloc (.cells #[.int .i64 fr, .slice ad ns.length cap] 90) = W2 := ⟨_, rfl⟩
 have hb2 : Below W1.heap.size W1 W2 := by rw [← hW2]; exact al1t _ _
 have r2 : W2.heap[w.heap.size + 1]? = some (.cells #[.int .i64 fr, .slice ad ns.length cap] 90 (0, 0)) := by rw [← hW2]; exact zna z1.symm
 have hb02 := bel3 hb1 hb2
 have r12 := (hb2.block _ (zla r1)).trans r1
 have HLN : Hid (∀ V, Below w.heap.size w V → Calls Tryz.prog 101 #[.agg #[sl, mp], .iface 90 (.agg #[.int .i64 fr, .slice ad ns.length cap]), .string ⟨#[114, 117, 109, 111, 114]⟩, .slice none 0 0] V fun e w' => e = .returned (.tuple #[.string TT, .int .i64 E]) ∧ Below V.heap.size V w') := fun V hV =>
  (line_any (hR.below (hV.mono hM)) (Nat.le_trans hM hV.size) (hP.carry hV) (ntm_u (L.length : Int) fr 0 rfl ad cap ns (h.carry hV) hl) hl ⟨#[114, 117, 109, 111, 114]⟩ [] none 0 (fun e => absurd rfl e) (by simp) (fun _ => ⟨rfl, rfl⟩) (fun f e hr hw => by
   subst e
   exact told_u L f 0 0 ns) (fun _ => rfl)).mono (fun _ _ q => q.form hTT hE)
 have HF : Hid (∀ V : World, Below w.heap.size w V → TlO L 3 fr 0 0 ns w (.returned (.tuple #[.string TT, .int .i64 E])) V) := fun V hV => ⟨by rw [hTT, hE], hV⟩
 have c0 : W2.cell? ⟨w.heap.size, 0, none⟩ = some sl := (zca r12 0).trans rfl
 have c1 : W2.cell? ⟨w.heap.size, 1, none⟩ = some mp := (zca r12 1).trans rfl
 have d0 : W2.cell? ⟨w.heap.size + 1, 0, none⟩ = some (.int .i64 fr) := (zca r2 0).trans rfl
 have d1 : W2.cell? ⟨w.heap.size + 1, 1, none⟩ = some (.slice ad ns.length cap) := (zca r2 1).trans rfl
 clear hR hP h hTT hE r1 r2 r12 hb1 hb2 hl
 have q1 : W1.heap.size = w.heap.size + 1 := z1
 go_enter Tryz.func24, Tryz.ntmps24
 go_wp2_with (go_at_call 101; (with_reducible refine (HLN.out _ hb02).mono ?_); rintro e u ⟨rfl, hu⟩)
 go_ret2
 exact HF.out _ (bel3 hb02 hu)
theorem treply_any {M : Nat} {sl mp : Value} {L : List Int} {w : World} (hR : Ros M w (.agg #[sl, mp]) L) (hM : M ≤ w.heap.size) (hP : Pow w) (hT : Tab w) (fr rd : Int) (h0 : -9223372036854775808 ≤ rd) (h1 : rd ≤ 9223372036854775807) (N : Nat) (hN : N < S128) (ad : Option Addr) (cap : Nat) (ns : List N3t) (h : RdN w ad ns) (hl : ns.length ≤ 1000) : Calls Tryz.prog 26 #[.agg #[sl, mp], .agg #[.int .i64 fr, .int .i64 rd, .int .u32 (wd N 0 : Nat), .int .u32 (wd N 1 : Nat), .int .u32 (wd N 2 : Nat), .int .u32 (wd N 3 : Nat), .slice ad ns.length cap]] w (TlO L 2 fr rd N ns w) := by
 have hmx := mixO
 obtain ⟨TT, hTT⟩ : ∃ TT, tlT L 2 fr rd N ns = TT := ⟨_, rfl⟩
 obtain ⟨E, hE⟩ : ∃ E, flt 2 (L.length : Int) fr rd N ns = E := ⟨_, rfl⟩
 obtain ⟨W1, hW1⟩ : ∃ W1, w.alloc (.cells #[sl, mp] 25) = W1 := ⟨_, rfl⟩
 have hb1 : Below w.heap.size w W1 := by rw [← hW1]; exact al1t _ _
 have z1 : W1.heap.size = w.heap.size + 1 := by rw [← hW1]; simp
 have r1 : W1.heap[w.heap.size]? = some (.cells #[sl, mp] 25 (0, 0)) := by rw [← hW1]; exact zna rfl
 obtain ⟨W2, hW2⟩ : ∃ W2, W1.alloc (.cells #[.int .i64 fr, .int .i64 rd, .int .u32 (wd N 0 : Nat), .int .u32 (wd N 1 : Nat), .int .u32 (wd N 2 : Nat), .int .u32 (wd N 3 : Nat), .slice ad ns.length cap] 95) = W2 := ⟨_, rfl⟩
 have hb2 : Below W1.heap.size W1 W2 := by rw [← hW2]; exact al1t _ _
 have r2 : W2.heap[w.heap.size + 1]? = some (.cells #[.int .i64 fr, .int .i64 rd, .int .u32 (wd N 0 : Nat), .int .u32 (wd N 1 : Nat), .int .u32 (wd N 2 : Nat), .int .u32 (wd N 3 : Nat), .slice ad ns.length cap] 95 (0, 0)) := by rw [← hW2]; exact zna z1.symm
 have hb02 := bel3 hb1 hb2
 have r12 := (hb2.block _ (zla r1)).trans r1
 obtain ⟨it, hit⟩ : ∃ it, (⟨(Lib.itoa rd).toArray⟩ : ByteArray) = it := ⟨_, rfl⟩
 obtain ⟨ht, hht⟩ : ∃ ht, (prR L N).1 = ht := ⟨_, rfl⟩
 obtain ⟨he, hhe⟩ : ∃ he, (prR L N).2 = he := ⟨_, rfl⟩
 have HIT : Hid (∀ V, Below w.heap.size w V → Calls Tryz.prog 102 #[.int .i64 rd] V fun e w' => e = .returned (.string it) ∧ Below V.heap.size V w') := fun V hV => by
  rw [← hit]
  exact itoa2_any rd h0 h1 V (hP.carry hV)
 have HPR := print_any W2 (hR.below (hb02.mono hM)) (Nat.le_trans hM hb02.size) N hN (hT.carry hb02)
 rw [hht, hhe] at HPR
 unfold sv at HPR
 have HLN : Hid (∀ V g, Below w.heap.size w V → V.heap[g]? = some (.cells #[.string it, .string ht] 9 (0, 0)) → Calls Tryz.prog 101 #[.agg #[sl, mp], .iface 95 (.agg #[.int .i64 fr, .int .i64 rd, .int .u32 (wd N 0 : Nat), .int .u32 (wd N 1 : Nat), .int .u32 (wd N 2 : Nat), .int .u32 (wd N 3 : Nat), .slice ad ns.length cap]), .string ⟨#[114, 101, 112, 108, 121]⟩, .slice (some ⟨g, 0, none⟩) 2 2] V fun e w' => e = .returned (.tuple #[.string TT, .int .i64 E]) ∧ Below V.heap.size V w') := fun V g hV hg =>
  (line_any (hR.below (hV.mono hM)) (Nat.le_trans hM hV.size) (hP.carry hV) (ntm_p (L.length : Int) fr rd N hN ad cap ns (h.carry hV) hl) hl ⟨#[114, 101, 112, 108, 121]⟩ [it, ht] (some ⟨g, 0, none⟩) 2 (rdx_two hg) (by simp) (fun e => by cases e) (fun f e hr hw => by
   subst e
   rw [← hit, ← hht]
   exact told_p L f rd (by rcases hr with h | h; exact absurd h (by decide); exact h) N hw ns) (fun e => by cases e)).mono (fun _ _ q => q.form hTT hE)
 have HF : Hid (∀ V : World, Below w.heap.size w V → TlO L 2 fr rd N ns w (.returned (.tuple #[.string TT, .int .i64 E])) V) := fun V hV => ⟨by rw [hTT, hE], hV⟩
 have hJ : Hid (JQy w sl mp 95 #[.int .i64 fr, .int .i64 rd, .int .u32 (wd N 0 : Nat), .int .u32 (wd N 1 : Nat), .int .u32 (wd N 2 : Nat), .int .u32 (wd N 3 : Nat), .slice ad ns.length cap] #[.string it, .string ht] 0 false W2) := ⟨hb02, r12, r2, fun e => by cases e⟩
 obtain ⟨n, hn⟩ : ∃ n, ns.length = n := ⟨_, rfl⟩
 rw [hn] at hW2 HLN hJ r2 ⊢
 have c0 : W2.cell? ⟨w.heap.size, 0, none⟩ = some sl := (zca r12 0).trans rfl
 have c1 : W2.cell? ⟨w.heap.size, 1, none⟩ = some mp := (zca r12 1).trans rfl
 have d2 : W2.cell? ⟨w.heap.size + 1, 2, none⟩ = some (.int .u32 (wd N 0 : Nat)) := (zca r2 2).trans rfl
 have d3 : W2.cell? ⟨w.heap.size + 1, 3, none⟩ = some (.int .u32 (wd N 1 : Nat)) := (zca r2 3).trans rfl
 have d4 : W2.cell? ⟨w.heap.size + 1, 4, none⟩ = some (.int .u32 (wd N 2 : Nat)) := (zca r2 4).trans rfl
 have d5 : W2.cell? ⟨w.heap.size + 1, 5, none⟩ = some (.int .u32 (wd N 3 : Nat)) := (zca r2 5).trans rfl
 clear hR hP hT h hTT hE hit hht hhe r1 r2 r12 hb1 hb2 hn hl
 have q1 : W1.heap.size = w.heap.size + 1 := z1
 go_enter Tryz.func26, Tryz.ntmps26
 go_wp2_with (go_at_call 103; (with_reducible refine HPR.mono ?_); rintro e u ⟨rfl, hu⟩)
 have hJ2 : Hid (JQy w sl mp 95 #[.int .i64 fr, .int .i64 rd, .int .u32 (wd N 0 : Nat), .int .u32 (wd N 1 : Nat), .int .u32 (wd N 2 : Nat), .int .u32 (wd N 3 : Nat), .slice ad n cap] #[.string it, .string ht] 0 false u) := hJ.out.carry hu
 rename_i hK
 refine wp_region_any hmx ?_
 refine zwt (G := (Nat)) (fun g i__ => ([(.agg #[sl, mp]), (.agg #[.int .i64 fr, .int .i64 rd, .int .u32 (wd N 0 : Nat), .int .u32 (wd N 1 : Nat), .int .u32 (wd N 2 : Nat), .int .u32 (wd N 3 : Nat), .slice ad n cap]), (.iface 95 (.agg #[.int .i64 fr, .int .i64 rd, .int .u32 (wd N 0 : Nat), .int .u32 (wd N 1 : Nat), .int .u32 (wd N 2 : Nat), .int .u32 (wd N 3 : Nat), .slice ad n cap])), (.pointer (some ⟨w.heap.size + 1, 1, none⟩)), (.int .i64 rd), (.string it), (.string ht), (.slice (some ⟨g, 0, none⟩) 2 2), (.tuple #[.string TT, .int .i64 E]), (.string TT), (.int .i64 E), (.string TT), (.int .i64 E)] : List Value).getD i__ undef) (fun g d V => JQy w sl mp 95 #[.int .i64 fr, .int .i64 rd, .int .u32 (wd N 0 : Nat), .int .u32 (wd N 1 : Nat), .int .u32 (wd N 2 : Nat), .int .u32 (wd N 3 : Nat), .slice ad n cap] #[.string it, .string ht] g (d 7) V) (by kernel_rfl) (0) (hJ2.out.carry (Below.refl _ _).drew) ?step21 ?fin21
 case step21 =>
  intro i o ho
  have hi : i < 13 := getElem?_lt ho
  match i, hi, ho with
  | 0, _, ho => cases ho; exact zgo fun g d hdep => zld rfl trivial _ _ _ rfl rfl (fun v hw => load_ros3 hw.bx)
  | 1, _, ho => cases ho; exact zgo fun g d hdep => zld rfl trivial _ _ _ rfl rfl (fun v hw => (load_bp hw.bq).1)
  | 2, _, ho => cases ho; exact zgo (fun g d hdep => step_mkI rfl trivial _ _ _ rfl (by kernel_rfl) (fun v hw => mkI_P _ v))
  | 3, _, ho => cases ho; exact zgo fun g d hdep => zfa rfl trivial _ _ _ _ rfl rfl (fun v hw => field_bp v _)
  | 4, _, ho => cases ho; exact zgo fun g d hdep => zld rfl trivial _ _ _ rfl rfl (fun v hw => (load_bp hw.bq).2)
  | 5, _, ho => cases ho; exact zgo fun g d hdep => zsc rfl trivial 102 _ _ [(.int .i64 rd)] rfl (by kernel_rfl) (enters_of Tryz.func102 (by kernel_rfl) rfl) (fun V hw => (HIT.out V hw.be).mono (by rintro e w' ⟨rfl, h⟩; exact ⟨rfl, hw.carry h⟩))
  | 6, _, ho => cases ho; exact zgo fun g d hdep => zmv rfl trivial _ rfl (by kernel_rfl)
  | 7, _, ho => cases ho; exact stepG_buildS2 rfl rfl _ _ _ (fun g => .string it) (fun g => .string ht) rfl (fun g => by kernel_rfl) (fun g => by kernel_rfl) (fun g d V hJ hun hdep hcl => by refine ⟨V.heap.size, _, bsS2 V it ht, (fun j hj => match j, hj with | 7, hj => (by rw [hj] at hun; cases hun) | 8, hj => absurd ((hcl 8 _ rfl hj 7 (by kernel_rfl))) (by rw [hun]; simp) | 0, _ => rfl | 1, _ => rfl | 2, _ => rfl | 3, _ => rfl | 4, _ => rfl | 5, _ => rfl | 6, _ => rfl | 9, _ => rfl | 10, _ => rfl | 11, _ => rfl | 12, _ => rfl | _ + 13, _ => rfl), ?_⟩; have h := hJ.carry (al1t V (.cells #[.string it, .string ht] 9)); exact ⟨h.be, h.bx, h.bq, fun _ => zna rfl⟩)
  | 8, _, ho => cases ho; exact stepG_call rfl (fun _ => trivial) 101 _ _ (fun g => [.agg #[sl, mp], .iface 95 (.agg #[.int .i64 fr, .int .i64 rd, .int .u32 (wd N 0 : Nat), .int .u32 (wd N 1 : Nat), .int .u32 (wd N 2 : Nat), .int .u32 (wd N 3 : Nat), .slice ad n cap]), .string ⟨#[114, 101, 112, 108, 121]⟩, .slice (some ⟨g, 0, none⟩) 2 2]) rfl (fun g => by kernel_rfl) (enters_of Tryz.func101 (by kernel_rfl) rfl) (fun g d V hJ hun hdep hcl => (HLN.out V g hJ.be (hJ.bd (hdep 7 (by kernel_rfl)))).mono (by rintro e w' ⟨rfl, h⟩; exact ⟨g, rfl, (fun _ _ => rfl), hJ.carry h⟩))
  | 9, _, ho => cases ho; exact zgo fun g d hdep => step_extract rfl trivial _ _ _ rfl rfl (fun v hw => rfl)
  | 10, _, ho => cases ho; exact zgo fun g d hdep => step_extract rfl trivial _ _ _ rfl rfl (fun v hw => rfl)
  | 11, _, ho => cases ho; exact zgo fun g d hdep => zas rfl trivial _ rfl (by kernel_rfl) (fun _ h => h)
  | 12, _, ho => cases ho; exact zgo fun g d hdep => zas rfl trivial _ rfl (by kernel_rfl) (fun _ h => h)
 intro g d W hall hW
 first | refine hK _ _ ?_ | refine (‹∀ (a : Act) (w : World), Code.wp Tryz.prog _ _ a w → _›) _ _ ?_ | skip
 simp only [finL, List.getD_cons_zero, List.getD_cons_succ, Nat.zero_add, Nat.reduceAdd, List.setIfInBounds_toArray, List.set_cons_zero, List.set_cons_succ]
 have hbe := hW.be
 clear hW hall hK hJ hJ2
 go_wp2
 go_ret2
 exact HF.out _ hbe
end Go.Proofs.YtmahamdmapbilaaGreatDoor
namespace Go.Proofs.YtmahamdmapbilaaGreatDoor
open Go.RowKit Go.Shelf
theorem idx_n (gb off n cap i : Nat) (h : i < n) (W : World) : (Instr.indexAt 37 (.slice (some ⟨gb, off, none⟩) n cap) (.int .i64 (i : Int))).run Tryz.prog W = .ok (.pointer (some ⟨gb, off + i * 3, none⟩)) W := by
 have h1 : (i : Int) < (n : Int) := by omega
 have h2 : 0 ≤ (i : Int) := by omega
 go_simp
theorem load_at {W : World} {b off : Nat} {l : List (Int × Int × Int)} (h : NtsAt W b off l) {k : Nat} {o t q : Int} (hx : l[k]? = some (o, t, q)) : (Instr.loadAt 124 (.pointer (some ⟨b, off + k * 3, none⟩))).run Tryz.prog W = .ok (nt o t q) W := by
 obtain ⟨c0, c1, c2⟩ := h k _ hx
 unfold nt
 go_simp
theorem un_notQ {P : Program} (a : Bool) (w : World) : (Op.unary .not (.bool a)).run P w = .ok (.bool (!a)) w := by
 cases a <;> simp [go_sem]
structure JI (w : World) (b off : Nat) (l : List (Int × Int × Int)) (c of : Nat) (m : List (Int × Int × Int)) (W : World) : Prop where
 lt : b < W.heap.size
 at' : NtsAt W b off l
 lt2 : c < W.heap.size
 at2 : NtsAt W c of m
 below : Below w.heap.size w W
theorem NtsAt.carry {W W' : World} {b off : Nat} {l : List (Int × Int × Int)} (h : NtsAt W b off l) (hl : b < W.heap.size) (hb : Below W.heap.size W W') : NtsAt W' b off l := fun k x hk => by
 obtain ⟨c0, c1, c2⟩ := h k x hk
 exact ⟨(hb.cell (p := ⟨b, _, none⟩) hl).trans c0, (hb.cell (p := ⟨b, _, none⟩) hl).trans c1, (hb.cell (p := ⟨b, _, none⟩) hl).trans c2⟩
theorem JI.carry {w : World} {b off c of : Nat} {l m : List (Int × Int × Int)} {W W' : World} (h : JI w b off l c of m W) (hb : Below W.heap.size W W') : JI w b off l c of m W' :=
 ⟨Nat.lt_of_lt_of_le h.lt hb.size, h.at'.carry h.lt hb, Nat.lt_of_lt_of_le h.lt2 hb.size, h.at2.carry h.lt2 hb, bel2 h.below hb⟩
theorem same_any (ad ad2 : Option Addr) (cap cap2 : Nat) (l : List (Int × Int × Int)) (w : World) (h : RdN w ad l) (h2 : RdN w ad2 l) (hl : l.length ≤ 6000000000000) : Calls Tryz.prog 32 #[.slice ad l.length cap, .slice ad2 l.length cap2] w fun e w' => e = .returned (.bool true) ∧ Below w.heap.size w w' := by
 have hmx := mixO
 go_enter Tryz.func32, Tryz.ntmps32
 go_wp2
 go_loopw [5] (fun i wz => ∃ (k : Nat), i = .int .i64 k ∧ k ≤ l.length ∧ Below w.heap.size w wz) (fun i _ => l.length - vnatR i)
 case atStart => exact ⟨0, rfl, Nat.zero_le _, Below.refl _ _⟩
 case round =>
  obtain ⟨k, rfl, hk, hbw⟩ := hrel
  by_cases hkl : k < l.length
  · have hne : l ≠ [] := fun e => by subst e; simp at hkl
    obtain ⟨b, off, e1, hbl, hat⟩ := h.carry hbw hne
    obtain ⟨c, of, e2, hcl, hat2⟩ := h2.carry hbw hne
    subst e1 e2
    have hj : JI w b off l c of l wr := ⟨hbl, hat, hcl, hat2, hbw⟩
    obtain ⟨⟨o, t, q⟩, hx⟩ : ∃ x, l[k]? = some x := ⟨_, List.getElem?_eq_getElem hkl⟩
    have hki : (k : Int) < (l.length : Int) := by omega
    clear hat hat2
    go_wp2
    rename_i Q0 K0 hK
    refine wp_region_any hmx ?_
    refine zwp (fun i__ => ([(.slice (some ⟨b, off, none⟩) l.length cap), (.int .i64 (k : Int)), (.pointer (some ⟨b, off + k * 3, none⟩)), (nt o t q), (.slice (some ⟨c, of, none⟩) l.length cap2), (.int .i64 (k : Int)), (.pointer (some ⟨c, of + k * 3, none⟩)), (nt o t q), (.bool true), (.bool false)] : List Value).getD i__ undef) (fun W => JI w b off l c of l W) (by kernel_rfl) (hj.carry (Below.refl _ _).drew) ?_ ?_
    · refine (sqc ?_ (sqc ?_ (sqc ?_ (sqc ?_ (sqc ?_ (sqc ?_ (sqc ?_ (sqc ?_ (sqc ?_ (sqc ?_ trivial))))))))))
      · exact zmv rfl trivial _ rfl (by kernel_rfl)
      · exact zmv rfl trivial _ rfl (by kernel_rfl)
      · exact zia rfl trivial _ _ _ _ _ rfl rfl rfl (fun w hw => idx_n b off l.length cap k hkl w)
      · exact zld rfl trivial _ _ _ rfl rfl (fun w hw => load_at hw.at' hx)
      · exact zmv rfl trivial _ rfl (by kernel_rfl)
      · exact zmv rfl trivial _ rfl (by kernel_rfl)
      · exact zia rfl trivial _ _ _ _ _ rfl rfl rfl (fun w hw => idx_n c of l.length cap2 k hkl w)
      · exact zld rfl trivial _ _ _ rfl rfl (fun w hw => load_at hw.at2 hx)
      · exact zbo rfl trivial _ _ _ _ _ _ _ rfl rfl rfl (fun w hw => (bin_eqn _ _ _ _ _ _).trans (by simp))
      · exact step_unOp rfl trivial _ _ _ _ rfl rfl (fun w hw => un_notQ _ w)
    intro W hW
    first | refine hK _ _ ?_ | refine (‹∀ (a : Act) (w : World), Code.wp Tryz.prog _ _ a w → _›) _ _ ?_ | skip
    simp only [finL, List.getD_cons_zero, List.getD_cons_succ, Nat.zero_add, Nat.reduceAdd, List.setIfInBounds_toArray, List.set_cons_zero, List.set_cons_succ]
    clear hK
    go_wp2
    go_roundw
    case rel => exact ⟨k + 1, by simp, by omega, hW.below⟩
    case measure => simp [vnatR]; omega
  · have hkk : k = l.length := by omega
    subst hkk
    go_wp2
    go_ret
    exact ⟨rfl, hbw⟩
end Go.Proofs.YtmahamdmapbilaaGreatDoor
