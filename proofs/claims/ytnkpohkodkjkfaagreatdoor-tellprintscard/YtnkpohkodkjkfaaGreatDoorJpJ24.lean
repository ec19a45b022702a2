/- tell's other tests of a word. -/
import Derived.Test.YtnkpohkodkjkfaaGreatDoorJpJ23
import Derived.Test.YtnkpohkodkjkfaaGreatDoorProg
import Derived.Test.YtnkpohkodkjkfaaGreatDoorJpJ1
import Derived.Test.YtnkpohkodkjkfaaGreatDoorJpJ0
import Derived.Shelf.Abstract
import Derived.Shelf.RegionOpen
import Derived.WalkKit
import Derived.WalkSpells
import Derived.OwnWalkIn
import Derived.TacticsInMore
import Derived.LoopNIn
import Derived.LoopIn
import Derived.Lib.OthersKept
import Derived.Test.YtnkpohkodkjkfaaGreatDoorJpJ2
set_option maxHeartbeats 40000000
set_option maxRecDepth 100000
set_option linter.unusedVariables false
namespace Go.Proofs.YtnkpohkodkjkfaaGreatDoor
open Go.RowKit Go.Shelf

theorem isSign_any (k l c : Int) (t : ByteArray) (ht : t.size ≤ maxLen) (w : World) : Calls Tryz.prog 103 #[tkV k t l c] w fun e w' => e = .returned (.bool (k == 2 && ((starts t).length : Int) == 1)) ∧ Below w.heap.size w w' := by
  have hc := count_any t ht
  unfold tkV
  obtain ⟨n, hn⟩ : ∃ n, (starts t).length = n := ⟨_, rfl⟩
  rw [hn] at hc ⊢
  have hb0 := al1t w (.cells #[.int .i64 k, .string t, .int .i64 l, .int .i64 c] 56)
  clear hn
  cases hk : (k == 2) with
  | true =>
    go_enter Tryz.func103, Tryz.ntmps103
    go_wp2_with (go_at_call 34; (with_reducible refine (hc _).mono ?_); rintro e u1 ⟨rfl, hb1⟩)
    go_ret
    exact ⟨by simp, hb0.trans (hb1.mono hb0.size)⟩
  | false =>
    go_enter Tryz.func103, Tryz.ntmps103
    go_wp2
    go_ret
    exact ⟨by simp, hb0⟩
theorem isSignOr_any (k l c : Int) (t : ByteArray) (ht : t.size ≤ maxLen) (w : World) : Calls Tryz.prog 106 #[tkV k t l c] w fun e w' => e = .returned (.bool ((k == 2 && ((starts t).length : Int) == 1) || (k == 5 && t.toList == [93]))) ∧ Below w.heap.size w w' := by
  have h1 := isSign_any k l c t ht
  have h2 := isNewsEnd_any k l c t
  obtain ⟨p, hp⟩ : ∃ p, (k == 2 && ((starts t).length : Int) == 1) = p := ⟨_, rfl⟩
  obtain ⟨q, hq⟩ : ∃ q, (k == 5 && t.toList == [93]) = q := ⟨_, rfl⟩
  rw [hp] at h1 ⊢
  rw [hq] at h2 ⊢
  clear hp hq
  unfold tkV at h1 h2 ⊢
  have hb0 := al1t w (.cells #[.int .i64 k, .string t, .int .i64 l, .int .i64 c] 56)
  cases p with
  | true =>
    go_enter Tryz.func106, Tryz.ntmps106
    go_wp2_with (go_at_call 103; (with_reducible refine (h1 _).mono ?_); rintro e u1 ⟨rfl, hb1⟩)
    go_ret
    exact ⟨rfl, hb0.trans (hb1.mono hb0.size)⟩
  | false =>
    obtain ⟨w1, hw1⟩ : ∃ w1, w.alloc (.cells #[.int .i64 k, .string t, .int .i64 l, .int .i64 c] 56) = w1 := ⟨_, rfl⟩
    have hr1 : w1.heap[w.heap.size]? = some (.cells #[.int .i64 k, .string t, .int .i64 l, .int .i64 c] 56 (0, 0)) := by rw [← hw1]; exact new_at rfl
    rw [hw1] at hb0
    have a0 : w1.cell? ⟨w.heap.size, 0, none⟩ = some (.int .i64 k) := (cell_at hr1 0).trans rfl
    have a1 : w1.cell? ⟨w.heap.size, 1, none⟩ = some (.string t) := (cell_at hr1 1).trans rfl
    have a2 : w1.cell? ⟨w.heap.size, 2, none⟩ = some (.int .i64 l) := (cell_at hr1 2).trans rfl
    have a3 : w1.cell? ⟨w.heap.size, 3, none⟩ = some (.int .i64 c) := (cell_at hr1 3).trans rfl
    go_enter Tryz.func106, Tryz.ntmps106
    go_wp2_with (first | (go_at_call 107; (with_reducible refine (h2 _).mono ?_); rintro e u2 ⟨rfl, hb2⟩) | (go_at_call 103; (with_reducible refine (h1 _).mono ?_); rintro e u1 ⟨rfl, hb1⟩; have hr2 := (hb1.block _ (lt_at hr1)).trans hr1; have b0 : u1.cell? ⟨w.heap.size, 0, none⟩ = some (.int .i64 k) := (cell_at hr2 0).trans rfl; have b1 : u1.cell? ⟨w.heap.size, 1, none⟩ = some (.string t) := (cell_at hr2 1).trans rfl; have b2 : u1.cell? ⟨w.heap.size, 2, none⟩ = some (.int .i64 l) := (cell_at hr2 2).trans rfl; have b3 : u1.cell? ⟨w.heap.size, 3, none⟩ = some (.int .i64 c) := (cell_at hr2 3).trans rfl))
    go_ret
    have hb01 := hb0.trans (hb1.mono hb0.size)
    exact ⟨rfl, hb01.trans (hb2.mono hb01.size)⟩
attribute [local go_sem] Oper.semAt_some

set_option maxHeartbeats 400000 in
theorem runeLen_any (s : ByteArray) (p : Nat) (h : looseB s p = false) (w : World) :
    Calls Tryz.prog 158 #[.int .i32 (rn s p)] w fun e w' => e = .returned (.int .i64 (wdt s p)) ∧ w' = w := by
  have hw := wdt_eq s p h
  generalize rn s p = r at *
  generalize wdt s p = k at *
  clear h
  go_enter Tryz.func158, Tryz.ntmps158
  rcases hw with ⟨h1, rfl⟩ | ⟨h1, h2, rfl⟩ | ⟨h1, h2, h3 | h3, rfl⟩ | ⟨h1, h2, rfl⟩
  all_goals
    go_wp2
    go_ret
    exact ⟨rfl, rfl⟩

/-- A character as the program has it. -/
def chV (s : ByteArray) (p : Nat) : Value := .agg #[.int .i32 (rn s p), .int .i64 p, .int .i64 (wdt s p), .bool (looseB s p)]

set_option maxHeartbeats 400000 in
theorem charAt_any (s : ByteArray) (p : Nat) (hp : p < s.size) (hs : s.size ≤ maxLen) (w : World) :
    Calls Tryz.prog 154 #[.string s, .int .i64 p, .int .i32 (rn s p)] w fun e w' => e = .returned (chV s p) ∧ Below w.heap.size w w' := by
  cases hL : looseB s p with
  | true =>
    have h1 : wdt s p = 1 := by simp [looseB] at hL; exact hL.2
    go_enter Tryz.func154, Tryz.ntmps154
    go_wp2_with (go_at_call 90; refine (looseAt_any s p hp hs _).mono ?_; rintro e w' ⟨rfl, rfl⟩; rw [hL])
    exact bodyPost_ret (v := .agg #[.int .i32 (rn s p), .int .i64 p, .int .i64 1, .bool true]) (by simp [results, Tryz.results154, go_sem]) rfl ⟨by rw [chV, h1, hL]; rfl, (Below.refl _ _).alloc (Nat.le_refl _) _⟩
  | false =>
    go_enter Tryz.func154, Tryz.ntmps154
    go_wp2_with (first | (go_at_call 90; refine (looseAt_any s p hp hs _).mono ?_; rintro e w' ⟨rfl, rfl⟩; rw [hL]) | (go_at_call 158; refine (runeLen_any s p hL _).mono ?_; rintro e w' ⟨rfl, rfl⟩))
    exact bodyPost_ret (v := .agg #[.int .i32 (rn s p), .int .i64 p, .int .i64 (wdt s p), .bool false]) (by simp [results, Tryz.results154, go_sem]) rfl ⟨by rw [chV, hL], (Below.refl _ _).alloc (Nat.le_refl _) _⟩
end Go.Proofs.YtnkpohkodkjkfaaGreatDoor
namespace Go.Proofs.YtnkpohkodkjkfaaGreatDoor
open Go.RowKit
theorem wp_range {α : Type} {P : Program} {n kb : Nat} {g : Operand} {ps : Array Tmp} {assign body : Code} {Q : Exit → Act → World → Prop} {a : Act} {w : World}
    {gf : Nat} {lb : Array Value} (hg : a.eval g = .func (.func gf) #[] lb) (eg : ∀ args w, (callFunc gf args).run P w = .ok (.enter gf args) w)
    {encs : α → Array Value} {bx m : Nat} {xs : List α} (hseq : SeqM P gf lb encs bx m xs w) (hbx : bx < w.heap.size) (hps : ∀ x, (encs x).size = ps.size)
    (I : List α → World → Prop) (Ix : Code → List α → World → Prop) (hI : OwnFrom w.heap.size I) (hIx : ∀ c, OwnFrom w.heap.size (Ix c)) (h0 : I [] w)
    (Ax : α → Act → World → Prop) (hAx : ∀ x a', OwnFrom w.heap.size (fun (_ : Unit) W => Ax x a' W))
    (hassign : ∀ (l : Nat) (pre : List α) (x : α) (W : World) (K : Act → World → Prop), I pre W → w.heap.size + (m + 2) ≤ W.heap.size →
      (∀ a' W', Kept bx w.heap.size (m + 2) W W' → I pre W' → Ax x a' W' → K a' W') →
      assign.wpIn (Fence.wide.inRound l) kb P (Exit.then K (fun _ _ _ => False)) { tmps := (ps.zip (encs x)).foldl (fun t (p, v) => t.setIfInBounds p v) a.tmps, defers := [] } W)
    (hbody : ∀ (l : Nat) (pre : List α) (x : α) (a' : Act) (W : World), I pre W → Ax x a' W → w.heap.size + (m + 2) ≤ W.heap.size → pre ++ [x] <+: xs →
      body.wpIn (Fence.wide.inRound l) kb P (postM bx w.heap.size (m + 2) I Ix (pre ++ [x]) W) a' W)
    (hdone : ∀ (W : World), I xs W → W.heap[w.heap.size]? = some (.deferred (some [])) → Q .normal { a with defers := { target := .collected w.heap.size, args := #[] } :: a.defers } W)
    (hstop : ∀ (c : Code) (pre : List α) (W : World), pre <+: xs → Ix c pre W → W.heap[w.heap.size]? = some (.deferred (some [])) →
      c.wpIn Fence.wide n P Q { a with defers := { target := .collected w.heap.size, args := #[] } :: a.defers } W) :
    (Code.rangeFunc g ps assign body).wpIn Fence.wide n P Q a w := by
  refine wpIn_rangeFunc ?_
  intro fn hfn
  obtain ⟨rec, hrec⟩ : ∃ rec : LoopState → Option Code → Loop, rec = fun st pe => { state := st, pending := pe, fn, tmps := a.tmps, params := ps, assign, body, defers := w.heap.size } := ⟨_, rfl⟩
  obtain ⟨W1, hW1⟩ : ∃ W1, (w.alloc (.deferred (some []))).alloc (.loop (rec .ready none)) = W1 := ⟨_, rfl⟩
  have hz1 : W1.heap.size = w.heap.size + 2 := by rw [← hW1]; simp
  have hL1 : W1.heap[w.heap.size + 1]? = some (.loop (rec .ready none)) := by
    rw [← hW1]; have := World.alloc_heap_new (w.alloc (.deferred (some []))) (.loop (rec .ready none)); rwa [World.size_alloc] at this
  have hK1 : W1.heap[w.heap.size]? = some (.deferred (some [])) := by
    rw [← hW1]; exact (Below.heap_alloc _ _ _ (by simp)).trans (World.alloc_heap_new w _)
  have hI1 : I [] W1 := by rw [← hW1]; exact hI.alloc _ (hI.alloc _ h0)
  have hb1 : Below w.heap.size w W1 := by rw [← hW1]; exact ((Below.refl _ w).alloc (Nat.le_refl _) _).alloc (by simp) _
  refine ⟨w.heap.size + 1, [{ target := .collected w.heap.size, args := #[] }], W1, { target := .fn (.func gf) lb, args := #[.func (.yield (w.heap.size + 1)) #[] #[]] }, W1, gf,
    #[.func (.yield (w.heap.size + 1)) #[] #[]] ++ lb, W1, ?_, ?_, ?_, ?_, (fun h => by cases h), ?_⟩
  · rw [← hW1, hrec]; exact run_enterLoop_outer _ _ _ _ _
  · simp only [resolve, hg]
    simp [go_sem]
  · intro f' _; trivial
  · simp [invoke, go_sem, eg]
  · have fresh : ∀ {A : World} {row : Option Nat}, (∀ r, row = some r → W1.heap.size ≤ r ∧ ∃ o : Obj, A.heap[r]? = some o ∧ o.isCells = false) → (∀ r, row = some r → w.heap.size ≤ r ∧ ∃ o : Obj, A.heap[r]? = some o ∧ o.isCells = false) :=
      fun hr r e => ⟨by have := (hr r e).1; omega, (hr r e).2⟩
    have stays : ∀ {A B : World} {row : Option Nat} {k : Nat} {o : Obj}, A.grownBy B row → (∀ r, row = some r → W1.heap.size ≤ r ∧ ∃ o : Obj, A.heap[r]? = some o ∧ o.isCells = false) → A.heap[k]? = some o → k < w.heap.size + 2 → B.heap[k]? = some o :=
      fun hg' hr hk hlt => (hg'.block _ (Array.getElem?_eq_some_iff.1 hk).1 (fun e => by have := (hr _ e.symm).1; omega)).trans hk
    refine calls_any ((hseq (w.heap.size + 1)
      (fun pre W => I pre W ∧ W.heap[w.heap.size + 1]? = some (.loop (rec .ready none)) ∧ W.heap[w.heap.size]? = some (.deferred (some [])))
      (fun pre W => ∃ c, Ix c pre W ∧ W.heap[w.heap.size + 1]? = some (.loop (rec .done (some c))) ∧ W.heap[w.heap.size]? = some (.deferred (some [])))
      W1 hb1
      (fun s A B row hs hg' hr => ⟨hI s A B row hs.1 hg' (fresh hr), stays hg' hr hs.2.1 (by omega), stays hg' hr hs.2.2 (by omega)⟩)
      (fun s A B row hs hg' hr => by
        obtain ⟨c, hc, hl, hk⟩ := hs
        exact ⟨c, hIx c s A B row hc hg' (fresh hr), stays hg' hr hl (by omega), stays hg' hr hk (by omega)⟩)
      ?_ ⟨hI1, hL1, hK1⟩).mono ?_)
    · rintro pre x W ⟨hi, hl, hk⟩ hsz hlen
      have hy := run_yield (P := P) (args := encs x) hl (by rw [hrec]; exact hps x)
      rw [hrec] at hy
      refine yield_any (n := kb) ⟨fn, _, assign, body, hy, roundIn_of_wpIn hfn (hassign _ pre x W _ hi (by omega) ?_)⟩
      clear hy
      intro a' Wa hka hia hax
      have hla := (hka.rng (w.heap.size + 1) (by omega) (by omega)).trans hl
      have hda := (hka.rng w.heap.size (by omega) (by omega)).trans hk
      have hza : w.heap.size + (m + 2) ≤ Wa.heap.size := by have := hka.size; omega
      refine ⟨_, run_beginRound hla (by rw [hrec]), ?_⟩
      have hl2 : (Wa.putObj (w.heap.size + 1) (.loop { rec .ready none with state := .busy })).heap[w.heap.size + 1]? = some (.loop { rec .ready none with state := .busy }) := World.putObj_heap_same (by omega)
      have hk2 : (Wa.putObj (w.heap.size + 1) (.loop { rec .ready none with state := .busy })).heap[w.heap.size]? = some (.deferred (some [])) := (World.putObj_heap_other (by omega)).trans hda
      have hp2 : Kept bx W1.heap.size m Wa (Wa.putObj (w.heap.size + 1) (.loop { rec .ready none with state := .busy })) := Kept.putObj _ (by omega) (by omega)
      refine wpIn_mono (hbody _ pre x a' _ (hI.putObj _ hia (by omega) hla rfl) ((hAx x a').putObj (s := ()) _ hax (by omega) hla rfl) (by simpa using hza) hlen) ?_
      have fin : ∀ (jump : Option Code) (W3 : World), Kept bx w.heap.size (m + 2) (Wa.putObj (w.heap.size + 1) (.loop { rec .ready none with state := .busy })) W3 →
          (Instr.endRound (w.heap.size + 1) jump).run P W3 = .ok (.bool jump.isNone) (W3.putObj (w.heap.size + 1) (.loop (rec (if jump.isNone then .ready else .done) jump))) ∧
          W3.heap[w.heap.size + 1]? = some (.loop { rec .ready none with state := .busy }) ∧
          (W3.putObj (w.heap.size + 1) (.loop (rec (if jump.isNone then .ready else .done) jump))).heap[w.heap.size + 1]? = some (.loop (rec (if jump.isNone then .ready else .done) jump)) ∧
          (W3.putObj (w.heap.size + 1) (.loop (rec (if jump.isNone then .ready else .done) jump))).heap[w.heap.size]? = some (.deferred (some [])) ∧
          Kept bx W1.heap.size m W (W3.putObj (w.heap.size + 1) (.loop (rec (if jump.isNone then .ready else .done) jump))) := fun jump W3 hk3 => by
        have hl3 := (hk3.rng (w.heap.size + 1) (by omega) (by omega)).trans hl2
        have hrun := run_endRound (P := P) jump hl3
        rw [hrec] at hrun
        refine ⟨by rw [hrec]; exact hrun, hl3, World.putObj_heap_same (Array.getElem?_eq_some_iff.1 hl3).1, (World.putObj_heap_other (by omega)).trans ((hk3.rng w.heap.size (by omega) (by omega)).trans hk2), ?_⟩
        exact (((hka.less (by omega) (by omega)).trans hp2).trans (hk3.less (by omega) (by omega))).trans (Kept.putObj _ (by omega) (by omega))
      rintro e a3 W3 hp
      cases e with
      | normal =>
        obtain ⟨hk3, hi3⟩ := hp
        obtain ⟨hr, hl3, hl4, hk4, hq⟩ := fin none W3 hk3
        exact ⟨_, _, hr, hq, .inl ⟨rfl, hI.putObj _ hi3 (by omega) hl3 rfl, hl4, hk4⟩⟩
      | ret =>
        obtain ⟨hk3, hi3⟩ := hp
        obtain ⟨hr, hl3, hl4, hk4, hq⟩ := fin (some .ret) W3 hk3
        exact ⟨_, _, hr, hq, .inr ⟨rfl, .ret, (hIx _).putObj _ hi3 (by omega) hl3 rfl, hl4, hk4⟩⟩
      | exit id =>
        obtain ⟨hk3, hi3⟩ := hp
        obtain ⟨hr, hl3, hl4, hk4, hq⟩ := fin (some (.exit id)) W3 hk3
        exact ⟨_, _, hr, hq, .inr ⟨rfl, .exit id, (hIx _).putObj _ hi3 (by omega) hl3 rfl, hl4, hk4⟩⟩
      | goto t =>
        obtain ⟨hk3, hi3⟩ := hp
        obtain ⟨hr, hl3, hl4, hk4, hq⟩ := fin (some (.goto t)) W3 hk3
        exact ⟨_, _, hr, hq, .inr ⟨rfl, .goto t, (hIx _).putObj _ hi3 (by omega) hl3 rfl, hl4, hk4⟩⟩
      | panic ch => exact hp.elim
      | outgrown => exact hp.elim
    · rintro e W2 ⟨⟨v, rfl⟩, (⟨hi, hl, hk⟩ | ⟨pre, hpre, c, hi, hl, hk⟩)⟩
      · exact ⟨none, _, by have := run_endLoop (P := P) hl (by rw [hrec]; simp); rw [hrec] at this; exact this, hdone _ (hI.putObj _ hi (by omega) hl rfl) ((World.putObj_heap_other (by omega)).trans hk)⟩
      · exact ⟨some c, _, by have := run_endLoop (P := P) hl (by rw [hrec]; simp); rw [hrec] at this; exact this, hstop c pre _ hpre ((hIx c).putObj _ hi (by omega) hl rfl) ((World.putObj_heap_other (by omega)).trans hk)⟩

end Go.Proofs.YtnkpohkodkjkfaaGreatDoor
