import Derived.Test.YtmahamdmapbilaaGreatDoorJwJ10
import Derived.Test.YtmahamdmapbilaaGreatDoorProg
import Derived.Test.YtmahamdmapbilaaGreatDoorJwJ0
import Derived.Shelf.Abstract
import Derived.Shelf.RegionOpen
import Derived.WalkKit
import Derived.WalkSpells
import Derived.OwnWalkIn
import Derived.TacticsInMore
import Derived.LoopNIn
import Derived.LoopIn
import Derived.Lib.OthersKept
import Derived.Test.YtmahamdmapbilaaGreatDoorJwJ1
set_option maxHeartbeats 40000000
set_option maxRecDepth 100000
set_option linter.unusedVariables false
namespace Go.Proofs.YtmahamdmapbilaaGreatDoor
open Go.RowKit Go.Shelf
theorem isSign_any (k l c : Int) (t : ByteArray) (ht : t.size ≤ maxLen) (w : World) : Calls Tryz.prog 179 #[tkV k t l c] w fun e w' => e = .returned (.bool (k == 2 && ((starts t).length : Int) == 1)) ∧ Below w.heap.size w w' := by
 have hc := count_any t ht
 unfold tkV
 obtain ⟨n, hn⟩ : ∃ n, (starts t).length = n := ⟨_, rfl⟩
 rw [hn] at hc ⊢
 have hb0 := al1t w (.cells #[.int .i64 k, .string t, .int .i64 l, .int .i64 c] 48)
 clear hn
 cases hk : (k == 2) with
 | true =>
  go_enter Tryz.func179, Tryz.ntmps179
  go_wp2_with (go_at_call 31; (with_reducible refine (hc _).mono ?_); rintro e u1 ⟨rfl, hb1⟩)
  go_ret
  exact ⟨by simp, hb0.trans (hb1.mono hb0.size)⟩
 | false =>
  go_enter Tryz.func179, Tryz.ntmps179
  go_wp2
  go_ret
  exact ⟨by simp, hb0⟩
theorem isSignOr_any (k l c : Int) (t : ByteArray) (ht : t.size ≤ maxLen) (w : World) : Calls Tryz.prog 182 #[tkV k t l c] w fun e w' => e = .returned (.bool ((k == 2 && ((starts t).length : Int) == 1) || (k == 5 && t.toList == [93]))) ∧ Below w.heap.size w w' := by
 have h1 := isSign_any k l c t ht
 have h2 := isNewsEnd_any k l c t
 obtain ⟨p, hp⟩ : ∃ p, (k == 2 && ((starts t).length : Int) == 1) = p := ⟨_, rfl⟩
 obtain ⟨q, hq⟩ : ∃ q, (k == 5 && t.toList == [93]) = q := ⟨_, rfl⟩
 rw [hp] at h1 ⊢
 rw [hq] at h2 ⊢
 clear hp hq
 unfold tkV at h1 h2 ⊢
 have hb0 := al1t w (.cells #[.int .i64 k, .string t, .int .i64 l, .int .i64 c] 48)
 cases p with
 | true =>
  go_enter Tryz.func182, Tryz.ntmps182
  go_wp2_with (go_at_call 179; (with_reducible refine (h1 _).mono ?_); rintro e u1 ⟨rfl, hb1⟩)
  go_ret
  exact ⟨rfl, hb0.trans (hb1.mono hb0.size)⟩
 | false =>
  obtain ⟨w1, hw1⟩ : ∃ w1, w.alloc (.cells #[.int .i64 k, .string t, .int .i64 l, .int .i64 c] 48) = w1 := ⟨_, rfl⟩
  have hr1 : w1.heap[w.heap.size]? = some (.cells #[.int .i64 k, .string t, .int .i64 l, .int .i64 c] 48 (0, 0)) := by rw [← hw1]; exact zna rfl
  rw [hw1] at hb0
  have a0 : w1.cell? ⟨w.heap.size, 0, none⟩ = some (.int .i64 k) := (zca hr1 0).trans rfl
  have a1 : w1.cell? ⟨w.heap.size, 1, none⟩ = some (.string t) := (zca hr1 1).trans rfl
  have a2 : w1.cell? ⟨w.heap.size, 2, none⟩ = some (.int .i64 l) := (zca hr1 2).trans rfl
  have a3 : w1.cell? ⟨w.heap.size, 3, none⟩ = some (.int .i64 c) := (zca hr1 3).trans rfl
  go_enter Tryz.func182, Tryz.ntmps182
  go_wp2_with (first | (go_at_call 183; (with_reducible refine (h2 _).mono ?_); rintro e u2 ⟨rfl, hb2⟩) | (go_at_call 179; (with_reducible refine (h1 _).mono ?_); rintro e u1 ⟨rfl, hb1⟩; have hr2 := (hb1.block _ (zla hr1)).trans hr1; have b0 : u1.cell? ⟨w.heap.size, 0, none⟩ = some (.int .i64 k) := (zca hr2 0).trans rfl; have b1 : u1.cell? ⟨w.heap.size, 1, none⟩ = some (.string t) := (zca hr2 1).trans rfl; have b2 : u1.cell? ⟨w.heap.size, 2, none⟩ = some (.int .i64 l) := (zca hr2 2).trans rfl; have b3 : u1.cell? ⟨w.heap.size, 3, none⟩ = some (.int .i64 c) := (zca hr2 3).trans rfl))
  go_ret
  have hb01 := hb0.trans (hb1.mono hb0.size)
  exact ⟨rfl, hb01.trans (hb2.mono hb01.size)⟩
attribute [local go_sem] Oper.semAt_some
theorem runeLen_any (s : ByteArray) (p : Nat) (h : looseB s p = false) (w : World) :
  Calls Tryz.prog 248 #[.int .i32 (rn s p)] w fun e w' => e = .returned (.int .i64 (wdt s p)) ∧ w' = w := by
 have hw := wdt_eq s p h
 generalize rn s p = r at *
 generalize wdt s p = k at *
 clear h
 go_enter Tryz.func248, Tryz.ntmps248
 rcases hw with ⟨h1, rfl⟩ | ⟨h1, h2, rfl⟩ | ⟨h1, h2, h3 | h3, rfl⟩ | ⟨h1, h2, rfl⟩
 all_goals
  go_wp2
  go_ret
  exact ⟨rfl, rfl⟩
def chV (s : ByteArray) (p : Nat) : Value := .agg #[.int .i32 (rn s p), .int .i64 p, .int .i64 (wdt s p), .bool (looseB s p)]
theorem charAt_any (s : ByteArray) (p : Nat) (hp : p < s.size) (hs : s.size ≤ maxLen) (w : World) :
  Calls Tryz.prog 243 #[.string s, .int .i64 p, .int .i32 (rn s p)] w fun e w' => e = .returned (chV s p) ∧ Below w.heap.size w w' := by
 cases hL : looseB s p with
 | true =>
  have h1 : wdt s p = 1 := by simp [looseB] at hL; exact hL.2
  go_enter Tryz.func243, Tryz.ntmps243
  go_wp2_with (go_at_call 170; refine (looseAt_any s p hp hs _).mono ?_; rintro e w' ⟨rfl, rfl⟩; rw [hL])
  exact bodyPost_ret (v := .agg #[.int .i32 (rn s p), .int .i64 p, .int .i64 1, .bool true]) (by simp [results, Tryz.results243, go_sem]) rfl ⟨by rw [chV, h1, hL]; rfl, (Below.refl _ _).alloc (Nat.le_refl _) _⟩
 | false =>
  go_enter Tryz.func243, Tryz.ntmps243
  go_wp2_with (first | (go_at_call 170; refine (looseAt_any s p hp hs _).mono ?_; rintro e w' ⟨rfl, rfl⟩; rw [hL]) | (go_at_call 248; refine (runeLen_any s p hL _).mono ?_; rintro e w' ⟨rfl, rfl⟩))
  exact bodyPost_ret (v := .agg #[.int .i32 (rn s p), .int .i64 p, .int .i64 (wdt s p), .bool false]) (by simp [results, Tryz.results243, go_sem]) rfl ⟨by rw [chV, hL], (Below.refl _ _).alloc (Nat.le_refl _) _⟩
end Go.Proofs.YtmahamdmapbilaaGreatDoor
namespace Go.Proofs.YtmahamdmapbilaaGreatDoor
open Go.RowKit
theorem wp_range {α : Type} {P : Program} {n kb : Nat} {g : Operand} {ps : Array Tmp} {assign body : Code} {Q : Exit → Act → World → Prop} {a : Act} {w : World}
   {gf : Nat} {lb : Array Value} (hg : a.eval g = .func (.func gf) #[] lb) (eg : ∀ args w, (callFunc gf args).run P w = .ok (.enter gf args) w)
   {encs : α → Array Value} {bx m : Nat} {xs : List α} (hseq : SeqM P gf lb encs bx m xs w) (hbx : bx < w.heap.size) (hps : ∀ x, (encs x).size = ps.size)
   (I : List α → World → Prop) (Ix : Code → List α → World → Prop) (hI : OwnFrom w.heap.size I) (hIx : ∀ c, OwnFrom w.heap.size (Ix c)) (h0 : I [] w)
   (Ax : α → Act → World → Prop) (hAx : ∀ x a', OwnFrom w.heap.size (fun (_ : Unit) W => Ax x a' W))
   (hassign : ∀ (l : Nat) (pre : List α) (x : α) (W : World) (K : Act → World → Prop), I pre W → w.heap.size + (m + 2) ≤ W.heap.size →
     (∀ a' W', Kept bx w.heap.size (m + 2) W W' → I pre W' → Ax x a' W' → K a' W') →
     assign.wpIn (Fence.wide.inRound l) kb P (Exit.then K (fun _ _ _ => False)) { tmps := (ps.zip (encs x)).foldl (fun t (p, v) => t.setIfInBounds p v) a.tmps, defers := [] } W)
   (hbody : ∀ (l : Nat) (pre : List α) (x : α) (a' : Act) (W : World), I pre W → Ax x a' W → w.heap.size + (m + 2) ≤ W.heap.size → pre ++ [x] <+: xs →
     body.wpIn (Fence.wide.inRound l) kb P (postM bx w.heap.size (m + 2) I Ix (pre ++ [x]) W) a' W)
   (hdone : ∀ (W : World), I xs W → W.heap[w.heap.size]? = some (.deferred (some [])) → Q .normal { a with defers := { target := .collected w.heap.size, args := #[] } :: a.defers } W)
   (hstop : ∀ (c : Code) (pre : List α) (W : World), pre <+: xs → Ix c pre W → W.heap[w.heap.size]? = some (.deferred (some [])) →
     c.wpIn Fence.wide n P Q { a with defers := { target := .collected w.heap.size, args := #[] } :: a.defers } W) :
   (Code.rangeFunc g ps assign body).wpIn Fence.wide n P Q a w := by
 refine wpIn_rangeFunc ?_
 intro fn hfn
 obtain ⟨rec, hrec⟩ : ∃ rec : LoopState → Option Code → Loop, rec = fun st pe => { state := st, pending := pe, fn, tmps := a.tmps, params := ps, assign, body, defers := w.heap.size } := ⟨_, rfl⟩
 obtain ⟨W1, hW1⟩ : ∃ W1, (w.alloc (.deferred (some []))).alloc (.loop (rec .ready none)) = W1 := ⟨_, rfl⟩
 have hz1 : W1.heap.size = w.heap.size + 2 := by rw [← hW1]; simp
 have hL1 : W1.heap[w.heap.size + 1]? = some (.loop (rec .ready none)) := by
   rw [← hW1]; have := World.alloc_heap_new (w.alloc (.deferred (some []))) (.loop (rec .ready none)); rwa [World.size_alloc] at this
 have hK1 : W1.heap[w.heap.size]? = some (.deferred (some [])) := by
   rw [← hW1]; exact (Below.heap_alloc _ _ _ (by simp)).trans (World.alloc_heap_new w _)
 have hI1 : I [] W1 := by rw [← hW1]; exact hI.alloc _ (hI.alloc _ h0)
 have hb1 : Below w.heap.size w W1 := by rw [← hW1]; exact ((Below.refl _ w).alloc (Nat.le_refl _) _).alloc (by simp) _
 refine ⟨w.heap.size + 1, [{ target := .collected w.heap.size, args := #[] }], W1, { target := .fn (.func gf) lb, args := #[.func (.yield (w.heap.size + 1)) #[] #[]] }, W1, gf,
   #[.func (.yield (w.heap.size + 1)) #[] #[]] ++ lb, W1, ?_, ?_, ?_, ?_, (fun h => by cases h), ?_⟩
 · rw [← hW1, hrec]; exact run_enterLoop_outer _ _ _ _ _
 · simp only [resolve, hg]
   simp [go_sem]
 · intro f' _; trivial
 · simp [invoke, go_sem, eg]
 · have fresh : ∀ {A : World} {row : Option Nat}, (∀ r, row = some r → W1.heap.size ≤ r ∧ ∃ o : Obj, A.heap[r]? = some o ∧ o.isCells = false) → (∀ r, row = some r → w.heap.size ≤ r ∧ ∃ o : Obj, A.heap[r]? = some o ∧ o.isCells = false) :=
     fun hr r e => ⟨by have := (hr r e).1; omega, (hr r e).2⟩
   have stays : ∀ {A B : World} {row : Option Nat} {k : Nat} {o : Obj}, A.grownBy B row → (∀ r, row = some r → W1.heap.size ≤ r ∧ ∃ o : Obj, A.heap[r]? = some o ∧ o.isCells = false) → A.heap[k]? = some o → k < w.heap.size + 2 → B.heap[k]? = some o :=
     fun hg' hr hk hlt => (hg'.block _ (Array.getElem?_eq_some_iff.1 hk).1 (fun e => by have := (hr _ e.symm).1; omega)).trans hk
   refine calls_any ((hseq (w.heap.size + 1)
     (fun pre W => I pre W ∧ W.heap[w.heap.size + 1]? = some (.loop (rec .ready none)) ∧ W.heap[w.heap.size]? = some (.deferred (some [])))
     (fun pre W => ∃ c, Ix c pre W ∧ W.heap[w.heap.size + 1]? = some (.loop (rec .done (some c))) ∧ W.heap[w.heap.size]? = some (.deferred (some [])))
     W1 hb1
     (fun s A B row hs hg' hr => ⟨hI s A B row hs.1 hg' (fresh hr), stays hg' hr hs.2.1 (by omega), stays hg' hr hs.2.2 (by omega)⟩)
     (fun s A B row hs hg' hr => by
       obtain ⟨c, hc, hl, hk⟩ := hs
       exact ⟨c, hIx c s A B row hc hg' (fresh hr), stays hg' hr hl (by omega), stays hg' hr hk (by omega)⟩)
     ?_ ⟨hI1, hL1, hK1⟩).mono ?_)
   · rintro pre x W ⟨hi, hl, hk⟩ hsz hlen
     have hy := run_yield (P := P) (args := encs x) hl (by rw [hrec]; exact hps x)
     rw [hrec] at hy
     refine yield_any (n := kb) ⟨fn, _, assign, body, hy, roundIn_of_wpIn hfn (hassign _ pre x W _ hi (by omega) ?_)⟩
     clear hy
     intro a' Wa hka hia hax
     have hla := (hka.rng (w.heap.size + 1) (by omega) (by omega)).trans hl
     have hda := (hka.rng w.heap.size (by omega) (by omega)).trans hk
     have hza : w.heap.size + (m + 2) ≤ Wa.heap.size := by have := hka.size; omega
     refine ⟨_, run_beginRound hla (by rw [hrec]), ?_⟩
     have hl2 : (Wa.putObj (w.heap.size + 1) (.loop { rec .ready none with state := .busy })).heap[w.heap.size + 1]? = some (.loop { rec .ready none with state := .busy }) := World.putObj_heap_same (by omega)
     have hk2 : (Wa.putObj (w.heap.size + 1) (.loop { rec .ready none with state := .busy })).heap[w.heap.size]? = some (.deferred (some [])) := (World.putObj_heap_other (by omega)).trans hda
     have hp2 : Kept bx W1.heap.size m Wa (Wa.putObj (w.heap.size + 1) (.loop { rec .ready none with state := .busy })) := Kept.putObj _ (by omega) (by omega)
     refine wpIn_mono (hbody _ pre x a' _ (hI.putObj _ hia (by omega) hla rfl) ((hAx x a').putObj (s := ()) _ hax (by omega) hla rfl) (by simpa using hza) hlen) ?_
     have fin : ∀ (jump : Option Code) (W3 : World), Kept bx w.heap.size (m + 2) (Wa.putObj (w.heap.size + 1) (.loop { rec .ready none with state := .busy })) W3 →
        (Instr.endRound (w.heap.size + 1) jump).run P W3 = .ok (.bool jump.isNone) (W3.putObj (w.heap.size + 1) (.loop (rec (if jump.isNone then .ready else .done) jump))) ∧
        W3.heap[w.heap.size + 1]? = some (.loop { rec .ready none with state := .busy }) ∧
        (W3.putObj (w.heap.size + 1) (.loop (rec (if jump.isNone then .ready else .done) jump))).heap[w.heap.size + 1]? = some (.loop (rec (if jump.isNone then .ready else .done) jump)) ∧
        (W3.putObj (w.heap.size + 1) (.loop (rec (if jump.isNone then .ready else .done) jump))).heap[w.heap.size]? = some (.deferred (some [])) ∧
        Kept bx W1.heap.size m W (W3.putObj (w.heap.size + 1) (.loop (rec (if jump.isNone then .ready else .done) jump))) := fun jump W3 hk3 => by
       have hl3 := (hk3.rng (w.heap.size + 1) (by omega) (by omega)).trans hl2
       have hrun := run_endRound (P := P) jump hl3
       rw [hrec] at hrun
       refine ⟨by rw [hrec]; exact hrun, hl3, World.putObj_heap_same (Array.getElem?_eq_some_iff.1 hl3).1, (World.putObj_heap_other (by omega)).trans ((hk3.rng w.heap.size (by omega) (by omega)).trans hk2), ?_⟩
       exact (((hka.less (by omega) (by omega)).trans hp2).trans (hk3.less (by omega) (by omega))).trans (Kept.putObj _ (by omega) (by omega))
     rintro e a3 W3 hp
     cases e with
     | normal =>
       obtain ⟨hk3, hi3⟩ := hp
       obtain ⟨hr, hl3, hl4, hk4, hq⟩ := fin none W3 hk3
       exact ⟨_, _, hr, hq, .inl ⟨rfl, hI.putObj _ hi3 (by omega) hl3 rfl, hl4, hk4⟩⟩
     | ret =>
       obtain ⟨hk3, hi3⟩ := hp
       obtain ⟨hr, hl3, hl4, hk4, hq⟩ := fin (some .ret) W3 hk3
       exact ⟨_, _, hr, hq, .inr ⟨rfl, .ret, (hIx _).putObj _ hi3 (by omega) hl3 rfl, hl4, hk4⟩⟩
     | exit id =>
       obtain ⟨hk3, hi3⟩ := hp
       obtain ⟨hr, hl3, hl4, hk4, hq⟩ := fin (some (.exit id)) W3 hk3
       exact ⟨_, _, hr, hq, .inr ⟨rfl, .exit id, (hIx _).putObj _ hi3 (by omega) hl3 rfl, hl4, hk4⟩⟩
     | goto t =>
       obtain ⟨hk3, hi3⟩ := hp
       obtain ⟨hr, hl3, hl4, hk4, hq⟩ := fin (some (.goto t)) W3 hk3
       exact ⟨_, _, hr, hq, .inr ⟨rfl, .goto t, (hIx _).putObj _ hi3 (by omega) hl3 rfl, hl4, hk4⟩⟩
     | panic ch => exact hp.elim
     | outgrown => exact hp.elim
   · rintro e W2 ⟨⟨v, rfl⟩, (⟨hi, hl, hk⟩ | ⟨pre, hpre, c, hi, hl, hk⟩)⟩
     · exact ⟨none, _, by have := run_endLoop (P := P) hl (by rw [hrec]; simp); rw [hrec] at this; exact this, hdone _ (hI.putObj _ hi (by omega) hl rfl) ((World.putObj_heap_other (by omega)).trans hk)⟩
     · exact ⟨some c, _, by have := run_endLoop (P := P) hl (by rw [hrec]; simp); rw [hrec] at this; exact this, hstop c pre _ hpre ((hIx c).putObj _ hi (by omega) hl rfl) ((World.putObj_heap_other (by omega)).trans hk)⟩
end Go.Proofs.YtmahamdmapbilaaGreatDoor
namespace Go.Proofs.YtmahamdmapbilaaGreatDoor
open Go.RowKit Go.Shelf
attribute [local go_sem] Oper.semAt_some
theorem round_in {F : Fence} {n : Nat} {P : Program} {l : Nat} {f : FuncId} {tmps : Array Value} {assign body : Code} {w : World} {R : Ending → World → Prop} (l2 : Nat) (h : RoundIn F n P l f tmps assign body w R) : RoundIn (F.inRound l2) n P l f tmps assign body w R := h
theorem ownFrom_le {β : Type} {B B' : Nat} {I : β → World → Prop} (h : OwnFrom B I) (hle : B ≤ B') : OwnFrom B' I := fun s W W' row hs hg hr => h s W W' row hs hg (fun r e => ⟨Nat.le_trans hle (hr r e).1, (hr r e).2⟩)
def atV (s : ByteArray) (p : Nat) : Array Value := #[.int .i64 p, .int .i32 (rn s p)]
theorem gall1_seq (s : ByteArray) (bx : Nat) (w : World) (hbx : Boxed w bx 9 (.string s)) :
  SeqM Tryz.prog 247 #[.pointer (some ⟨bx, 0, none⟩)] (atV s) bx 1 (starts s) w := by
 intro l J Jx W hW hJ hJx hY h0
 have hbW : Boxed W bx 9 (.string s) := (hW.block bx hbx.lt).trans hbx
 have hc := hbW.cell
 refine callsIn_of_wp Tryz.func247 rfl trivial ?_ rfl
 simp only [Tryz.ntmps247, List.size_toArray, List.length_cons, List.length_nil, Nat.reduceAdd, Nat.reduceSub, Array.replicate_succ, Array.replicate_zero, List.push_toArray, List.append_toArray, List.nil_append, List.cons_append]
 gi_wp2
 gi_loopw [] (fun wr => ∃ (pos fuel : Nat) (pre : List Nat), starts s = pre ++ startsFrom s fuel pos ∧ s.size ≤ pos + fuel ∧ J pre wr ∧ wr.heap[W.heap.size]? = some (.stringIter s pos)) (fun wr => s.size - wr.iterPos W.heap.size)
 case atStart =>
  exact ⟨0, s.size, [], rfl, by omega, hJ.alloc _ h0, World.iter_heap W s 0⟩
 case round =>
  obtain ⟨pos, fuel, pre, hst, hfu, hj, hit⟩ := hrel
  by_cases hp : pos < s.size
  · have hnx : ∀ ty, (Instr.next (.pointer (some ⟨W.heap.size, 0, none⟩)) true ty).run Tryz.prog wr = .ok (.tuple #[.bool true, .int .i64 pos, .int .i32 (rn s pos)]) (wr.iterAt W.heap.size s (pos + wdt s pos)) := fun ty => Lib.run_next_any_at wr W.heap.size s pos ty hit hp
    have hit2 := Lib.iterAt_heap wr W.heap.size s pos (pos + wdt s pos) hit
    have hj2 : J pre (wr.iterAt W.heap.size s (pos + wdt s pos)) := hJ.putObj _ hj (Nat.le_refl _) hit rfl
    have hsz : W.heap.size + 1 ≤ (wr.iterAt W.heap.size s (pos + wdt s pos)).heap.size := (Array.getElem?_eq_some_iff.1 hit2).1
    have hpr : pre ++ [pos] <+: starts s := by
      obtain ⟨f, rfl⟩ : ∃ f, fuel = f + 1 := ⟨fuel - 1, by omega⟩
      rw [startsFrom_step s f pos hp] at hst
      exact ⟨startsFrom s f (pos + wdt s pos), by rw [hst]; simp⟩
    obtain ⟨fn, tmps, assign, body, hy, hR⟩ := hY pre pos _ hj2 hsz hpr
    have hy' : (Instr.yield l #[.int .i64 pos, .int .i32 (rn s pos)]).run Tryz.prog (wr.iterAt W.heap.size s (pos + wdt s pos)) = .ok (.round l fn tmps assign body) (wr.iterAt W.heap.size s (pos + wdt s pos)) := hy
    clear hy
    gi_wp2
    refine ⟨rfl, hR.mono ?_⟩
    rintro e W3 ⟨hkp, (⟨rfl, hj3⟩ | ⟨rfl, hjx⟩)⟩
    · have hit3 := (hkp.rng W.heap.size (Nat.le_refl _) (by omega)).trans hit2
      gi_wp2
      go_roundw
      case rel =>
       obtain ⟨f, rfl⟩ : ∃ f, fuel = f + 1 := ⟨fuel - 1, by omega⟩
       have := wdt_pos s pos
       rw [startsFrom_step s f pos hp] at hst
       exact ⟨pos + wdt s pos, f, pre ++ [pos], by rw [hst]; simp, by omega, hj3, hit3⟩
      case measure =>
       have := wdt_pos s pos
       simp only [World.iterPos, hit3, hit]
       omega
    · gi_wp2
      refine bodyPost_ret (results_none rfl _ _ _) rfl ?_
      exact ⟨⟨_, rfl⟩, .inr ⟨_, hpr, hjx⟩⟩
  · have hnx : ∀ ty, (Instr.next (.pointer (some ⟨W.heap.size, 0, none⟩)) true ty).run Tryz.prog wr = .ok (.tuple #[.bool false]) wr := fun ty => Lib.run_next_end_at wr W.heap.size s pos ty hit hp
    gi_wp2
    go_end0
    rw [startsFrom_end s fuel pos hp, List.append_nil] at hst
    exact ⟨⟨_, rfl⟩, .inl (by rw [hst]; exact hj)⟩
theorem gall_any (s : ByteArray) (w : World) :
  Calls Tryz.prog 242 #[.string s] w fun e w' => e = .returned (.func (.func 247) #[] #[.pointer (some ⟨w.heap.size, 0, none⟩)]) ∧ w' = w.alloc (.cells #[.string s] 9) := by
 go_enter Tryz.func242, Tryz.ntmps242
 go_wp2
 go_ret
 exact ⟨rfl, rfl⟩
theorem each_any (s : ByteArray) (w : World) :
  Calls Tryz.prog 226 #[.string s] w fun e w' => e = .returned (.func (.func 241) #[] #[.pointer (some ⟨w.heap.size, 0, none⟩)]) ∧ w' = w.alloc (.cells #[.string s] 9) := by
 go_enter Tryz.func226, Tryz.ntmps226
 go_wp2
 go_ret
 exact ⟨rfl, rfl⟩
structure Drawn (W W' : World) : Prop where
 os : W'.os = W.os
 tape : W'.tape = W.tape
 output : W'.output = W.output
 heap : W'.heap = W.heap
theorem Drawn.below {W W' W'' : World} (h : Drawn W W') (hb : Below W'.heap.size W' W'') : Below W.heap.size W W'' :=
 ⟨hb.os.trans h.os, hb.tape.trans h.tape, hb.output.trans h.output, by have := hb.size; rw [h.heap] at this; exact this, fun k hk => by have := hb.block k (by rw [h.heap]; exact hk); rw [h.heap] at this; exact this⟩
def Rnd (J Jx : List Nat → World → Prop) (bx B : Nat) (Wc : World) (pre : List Nat) (x : Nat) (b : Bool) (W' : World) : Prop :=
 Kept bx B 5 Wc W' ∧ (b = true → J (pre ++ [x]) W') ∧ (b = false → Jx (pre ++ [x]) W')
theorem round1 {s : ByteArray} {l bx B : Nat} {ty ts : TypeId} {J Jx : List Nat → World → Prop} (hJ : OwnFrom B J) (hs : s.size ≤ maxLen)
   (hY : ∀ (pre : List Nat) (x : Nat) (W1 : World), J pre W1 → B + 5 ≤ W1.heap.size → pre ++ [x] <+: starts s → YieldAt Fence.wide 0 Tryz.prog l #[chV s x] W1 fun e W' =>
    Kept bx B 5 W1 W' ∧ ((e = .returned (.bool true) ∧ J (pre ++ [x]) W') ∨ (e = .returned (.bool false) ∧ Jx (pre ++ [x]) W')))
   {pre : List Nat} {x : Nat} {Wc : World} (hj : J pre Wc) (hby : Boxed Wc B ty (.func (.yield l) #[] #[])) (hbs : Boxed Wc bx ts (.string s)) (hx : x < s.size) (hsz : B + 5 ≤ Wc.heap.size) (hpr : pre ++ [x] <+: starts s)
   (Wd : World) (hd : Drawn Wc Wd) :
   Calls Tryz.prog 243 #[.string s, .int .i64 x, .int .i32 (rn s x)] Wd fun e w1 => e = .returned (chV s x) ∧ w1.cell? ⟨B, 0, none⟩ = some (.func (.yield l) #[] #[]) ∧
    ∃ fn tmps assign body, (Instr.yield l #[chV s x]).run Tryz.prog w1 = .ok (.round l fn tmps assign body) w1 ∧ RoundIn Fence.wide 0 Tryz.prog l fn tmps assign body w1 fun e W' =>
     ∃ b, e = .returned (.bool b) ∧ Rnd J Jx bx B Wc pre x b W' := by
 refine (charAt_any s x hx hs Wd).mono ?_
 rintro e w1 ⟨rfl, hb⟩
 have hb1 := hd.below hb
 have hj1 := own_below hJ hj hb1
 obtain ⟨fn, tmps, assign, body, hy, hR⟩ := hY pre x w1 hj1 (by have := hb1.size; omega) hpr
 refine ⟨rfl, Boxed.cell ((hb1.block _ hby.lt).trans hby), fn, tmps, assign, body, hy, hR.mono ?_⟩
 rintro e W' ⟨hk, (⟨rfl, h⟩ | ⟨rfl, h⟩)⟩
 · exact ⟨true, rfl, (Kept.below hb1 hbs.lt hsz).trans hk, fun _ => h, (fun h => by cases h)⟩
 · exact ⟨false, rfl, (Kept.below hb1 hbs.lt hsz).trans hk, (fun h => by cases h), fun _ => h⟩
end Go.Proofs.YtmahamdmapbilaaGreatDoor
namespace Go.Proofs.YtmahamdmapbilaaGreatDoor
open Go.RowKit Go.Shelf
attribute [local go_sem] Oper.semAt_some
theorem each1_seq (s : ByteArray) (hs : s.size ≤ maxLen) (bx : Nat) (w : World) (hbx : Boxed w bx 9 (.string s)) :
  SeqM Tryz.prog 241 #[.pointer (some ⟨bx, 0, none⟩)] (fun p => #[chV s p]) bx 5 (starts s) w := by
 intro l J Jx W hW hJ hJx hY h0
 have hbW : Boxed W bx 9 (.string s) := (hW.block bx hbx.lt).trans hbx
 have hc := hbW.cell
 have hlt := hbW.lt
 have hc1 := (hbW.alloc (.cells #[.func (.yield l) #[] #[]] 308)).cell
 refine callsIn_of_wp_marks Tryz.func241 rfl trivial ?_ rfl
 simp only [Tryz.ntmps241, List.size_toArray, List.length_cons, List.length_nil, Nat.reduceAdd, Nat.reduceSub, Array.replicate_succ, Array.replicate_zero, List.push_toArray, List.append_toArray, List.nil_append, List.cons_append]
 gi_wp2_with (refine ⟨trivial, rfl, ?_⟩; gi_at_call 242; refine (callsIn_wide.2 (gall_any s _)).mono ?_; rintro e w' ⟨rfl, rfl⟩)
 have hbY := Boxed.new W 308 (.func (.yield l) #[] #[])
 have hbA := Boxed.new (W.alloc (.cells #[.func (.yield l) #[] #[]] 308)) 9 (.string s)
 rw [World.size_alloc] at hbA
 have hI0 := hJ.alloc (.cells #[.string s] 9) (hJ.alloc (.cells #[.func (.yield l) #[] #[]] 308) h0)
 refine wp_range (kb := 0) (gf := 247) (lb := #[.pointer (some ⟨W.heap.size + 1, 0, none⟩)]) rfl (enters_of Tryz.func247 (by kernel_rfl) rfl)
  (gall1_seq s (W.heap.size + 1) _ hbA) (by simp) (fun _ => rfl)
  (fun pre Wc => J pre Wc ∧ Boxed Wc W.heap.size 308 (.func (.yield l) #[] #[]) ∧ Boxed Wc bx 9 (.string s))
  (fun c pre Wc => c = .ret ∧ Jx pre Wc)
  ((ownFrom_le hJ (by simp; omega)).and (OwnFrom.and ((boxed_own _ _ _).from _) ((boxed_own _ _ _).from _)))
  (fun c => OwnFrom.and (ownFrom_pure _ (fun _ => c = .ret)) (ownFrom_le hJx (by simp; omega)))
  ⟨hI0, hbY.alloc _, (hbW.alloc _).alloc _⟩
  (fun x a' _ => a' = { tmps := #[.func (.yield l) #[] #[], .pointer (some ⟨bx, 0, none⟩), .pointer (some ⟨W.heap.size, 0, none⟩), .int .i64 x, .int .i32 (rn s x), .string s, .func (.func 247) #[] #[.pointer (some ⟨W.heap.size + 1, 0, none⟩)], .int .i64 x, .int .i32 (rn s x), undef, undef, undef, undef, undef, undef, undef], defers := [] })
  (fun _ _ _ _ _ _ hs _ _ => hs) ?assign ?body ?done ?stop
 case assign =>
  rintro l2 pre x Wc K hi hsz hK
  simp only [atV]
  gi_wp2
  exact hK _ _ (Kept.refl _ _ _ _) hi rfl
 case body =>
  rintro l2 pre x a' Wc ⟨hj, hby, hbs⟩ rfl hsz hpr
  have hx : x < s.size := starts_lt s x (hpr.subset (by simp))
  have hsz' : W.heap.size + 5 ≤ Wc.heap.size := by simp at hsz; omega
  have HR := CallsIn.inRound l2 ((callsIn_wide (n := 0)).2 (round1 hJ hs hY hj hby hbs hx hsz' hpr Wc.drew ⟨rfl, rfl, rfl, rfl⟩))
  have hcy := hby.cell
  have hcs := hbs.cell
  have hmx := mixO
  have fin : ∀ b W', Rnd J Jx bx W.heap.size Wc pre x b W' → Kept bx W.heap.size 5 Wc W' ∧ (b = true → J (pre ++ [x]) W') ∧ (b = false → Jx (pre ++ [x]) W') := fun _ _ h => h
  generalize Rnd J Jx bx W.heap.size Wc pre x = R at HR fin
  gi_wp2
  refine wpIn_mono (Q := fun e a W' => e = .normal ∧ ∃ b : Bool, a = { tmps := #[.func (.yield l) #[] #[], .pointer (some ⟨bx, 0, none⟩), .pointer (some ⟨W.heap.size, 0, none⟩), .int .i64 x, .int .i32 (rn s x), .string s, .func (.func 247) #[] #[.pointer (some ⟨W.heap.size + 1, 0, none⟩)], .int .i64 x, .int .i32 (rn s x), .func (.yield l) #[] #[], .string s, .int .i64 x, .int .i32 (rn s x), chV s x, .bool b, .bool (!b)], defers := [] } ∧ R b W') ?_ ?_
  · rename_i Q1 K1 hK1
    clear hK1 K1 fin hY hJ hJx hW h0 hbW hc hlt hc1 hbY hbA hI0 hj hby hbs hx hsz hpr hsz' hs hbx
    clear Q1
    gi_region_with_o (first
    | (with_reducible (refine And.intro wdep ?_); refine RoundIn.mono (round_in l2 hR) ?_; clear hR; rintro e W3 ⟨b, rfl, hjb⟩)
    | (with_reducible (refine And.intro (wfn _) (And.intro wdep ?_)); gi_at_call 243; refine HR.mono ?_; clear HR; rintro e w1 ⟨rfl, hcy1, fn, tmps, assign, body, hyy, hR⟩))
    all_goals exact ⟨rfl, b, rfl, hjb⟩
  · rintro e a1 W3 ⟨rfl, b, rfl, hR⟩
    obtain ⟨hkp, hj1, hj2⟩ := fin b W3 hR
    have hk3 : Kept (W.heap.size + 1) (W.heap.size + 1 + 1) 3 Wc W3 := ⟨hkp.size, hkp.rng _ (by omega) (by omega), fun k h1 h2 => hkp.rng k (by omega) (by omega)⟩
    cases b
    · have hjf := hj2 rfl
      clear hj1 hj2
      gi_wp2
      exact ⟨by first | exact hk3 | simpa using hk3, rfl, hjf⟩
    · have hjt := hj1 rfl
      clear hj1 hj2
      gi_wp2
      exact ⟨by first | exact hk3 | simpa using hk3, hjt, (hkp.rng _ (Nat.le_refl _) (by omega)).trans hby, hkp.box.trans hbs⟩
 case done =>
  rintro Wc ⟨hj, _, _⟩ hK
  gi_wp2
  refine ⟨by simp, .inl ⟨_, _, rfl, run_takeDeferred hK, ?_⟩⟩
  exact ⟨_, results_none rfl _ _ _, ⟨_, rfl⟩, .inl (hJ.putObj _ hj (by simp; omega) hK rfl)⟩
 case stop =>
  rintro c pre Wc hpr ⟨rfl, hjx⟩ hK
  gi_wp2
  refine ⟨by simp, .inl ⟨_, _, rfl, run_takeDeferred hK, ?_⟩⟩
  exact ⟨_, results_none rfl _ _ _, ⟨_, rfl⟩, .inr ⟨pre, hpr, hJx.putObj _ hjx (by simp; omega) hK rfl⟩⟩
end Go.Proofs.YtmahamdmapbilaaGreatDoor
