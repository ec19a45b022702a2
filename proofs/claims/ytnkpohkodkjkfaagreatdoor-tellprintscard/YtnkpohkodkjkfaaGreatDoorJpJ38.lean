/- The words of idset.All and of its function, as an iterator: at every set. -/
import Derived.Test.YtnkpohkodkjkfaaGreatDoorJpJ37
import Derived.Shelf.Abstract
import Derived.Shelf.RegionOpen
import Derived.WalkKit
import Derived.WalkSpells
import Derived.OwnWalkIn
import Derived.TacticsInMore
import Derived.LoopNIn
import Derived.LoopIn
import Derived.Lib.OthersKept
import Derived.Test.YtnkpohkodkjkfaaGreatDoorJpJ26
import Derived.Test.YtnkpohkodkjkfaaGreatDoorJpJ0
set_option maxHeartbeats 40000000
set_option maxRecDepth 100000
set_option linter.unusedVariables false
namespace Go.Proofs.YtnkpohkodkjkfaaGreatDoor
open Go.RowKit Go.Shelf Go.Lib
attribute [local go_sem] Oper.semAt_some

theorem wfnQ (k : Nat) : Fence.wide.fn k := trivial
theorem wdepQ : Fence.wide.depth = none := rfl
theorem ownFrom_leQ {β : Type} {B B' : Nat} {I : β → World → Prop} (h : OwnFrom B I) (hle : B ≤ B') : OwnFrom B' I := fun s W W' row hs hg hr => h s W W' row hs hg (fun r e => ⟨Nat.le_trans hle (hr r e).1, (hr r e).2⟩)
theorem blk_ownQ {β : Type} (B : Nat) (f : β → Obj) (hc : ∀ s, (f s).isCells = true) : Own (fun s W => W.heap[B]? = some (f s)) := fun s _ _ _ hs hg hrow => (grownBy_keeps_cells hg hrow hs (hc s)).trans hs

set_option maxHeartbeats 1000000 in
set_option maxRecDepth 100000 in
theorem all1_seq (M : Nat) (bx : Nat) (w : World) (hbx : Holds4 w bx (wd M)) :
    SeqE Tryz.prog Tab 98 #[.pointer (some ⟨bx, 0, none⟩)] (fun i : Nat => #[.int .i64 (i : Int)]) bx 0 (idsTo M 128) w := by
  intro l J Jx W hW hJ hJx hE hY h0
  have hmx : Tryz.prog.follows .mixedOrders = true := by kernel_rfl
  have hbW : Holds4 W bx (wd M) := (hW.block bx hbx.lt).trans hbx
  refine callsIn_of_wp Tryz.func98 rfl trivial ?_ rfl
  simp only [Tryz.ntmps98, List.size_toArray, List.length_cons, List.length_nil, Nat.reduceAdd, Nat.reduceSub, Array.replicate_succ, Array.replicate_zero, List.push_toArray, List.append_toArray, List.nil_append, List.cons_append]
  gi_wp2
  gi_loopw [5] (fun c wr => ∃ k : Nat, c = .int .i64 k ∧ k ≤ 4 ∧ Holds4 wr bx (wd M) ∧ J (idsTo M (32 * k)) wr ∧ W.heap.size ≤ wr.heap.size) (fun c _ => 4 - vnat c)
  case atStart => exact ⟨0, rfl, by omega, hbW, h0, Nat.le_refl _⟩
  case round =>
    obtain ⟨k, rfl, hk, hb, hj, hsz⟩ := hrel
    by_cases hk4 : k < 4
    · have hki : (k : Int) < 4 := by omega
      have hix := idx4 bx k hk4
      have hld := hb.cell k hk4
      gi_wp2
      gi_loopw [4] (fun c wz => ∃ x p : Nat, c = .int .u32 (x : Int) ∧ x < 4294967296 ∧ High x (wd M k) p ∧ p ≤ 32 ∧ Holds4 wz bx (wd M) ∧ J (idsTo M (32 * k + p)) wz ∧ W.heap.size ≤ wz.heap.size) (fun c _ => vnat c)
      case atStart => exact ⟨wd M k, 0, rfl, wd_lt M k, fun i => by simp, by omega, hb, hj, hsz⟩
      case round =>
        rename_i wz _ _
        obtain ⟨x, p, rfl, hx, hH, hp, hb2, hj2, hsz2⟩ := hrel
        by_cases h0x : x = 0
        · subst h0x
          have e : idsTo M (32 * (k + 1)) = idsTo M (32 * k + p) := by
            rw [show 32 * (k + 1) = 32 * k + p + (32 - p) by omega]
            refine idsTo_gap M _ _ (fun i h1 h2 => ?_)
            have h3 := hH (i - 32 * k)
            rw [testBit_wd, show 32 * k + (i - 32 * k) = i by omega] at h3
            simpa [show p ≤ i - 32 * k by omega, show i - 32 * k < 32 by omega] using h3.symm
          gi_wp2
          exact ⟨⟨k + 1, by simp, by omega, hb2, by rw [e]; exact hj2, hsz2⟩, by simp only [vnat]; omega⟩
        · obtain ⟨n1, n2, n3, n4⟩ := hH.next h0x hx
          have hc32 := (testBit_ctz x h0x hx).2.2.1
          have n5 : M.testBit (32 * k + ctz 32 x) = true := by rw [testBit_wd] at n2; simpa [hc32] using n2
          have e : idsTo M (32 * k + (ctz 32 x + 1)) = idsTo M (32 * k + p) ++ [32 * k + ctz 32 x] := by
            refine idsTo_next M (32 * k + p) (32 * k + ctz 32 x) (by omega) (fun i h1 h2 => ?_) n5
            have h3 := n3 (i - 32 * k) (by omega) (by omega)
            rw [testBit_wd, show 32 * k + (i - 32 * k) = i by omega] at h3
            simpa [show i - 32 * k < 32 by omega] using h3
          have hpr : idsTo M (32 * k + p) ++ [32 * k + ctz 32 x] <+: idsTo M 128 := by rw [← e]; exact idsTo_prefix M (by omega)
          have hxne : ((x : Int) != 0) = true := by simp; omega
          have hyl := hY _ _ _ hj2 (by omega) hpr
          have htz := tz_any x hx h0x _ (hE _ _ hj2)
          have hlt := and_pred_lt x h0x
          have hbits : bits BinOp.and IntKind.u32 (x : Int) ((x : Int) - 1) = ((x &&& (x - 1) : Nat) : Int) := by
            rw [show (x : Int) - 1 = ((x - 1 : Nat) : Int) by omega]
            exact u32_and_nat x (x - 1) hx (by omega)
          generalize ctz 32 x = c at *
          have hv : (k : Int) * 32 + (c : Int) = 32 * (k : Int) + (c : Int) := by omega
          obtain ⟨fn, tmps, assign, body, hy, hR⟩ := hyl
          rw [show ((32 * k + c : Nat) : Int) = (k : Int) * 32 + (c : Int) by omega] at hy
          clear hH hY hv
          gi_wp2_with (refine ⟨trivial, rfl, ?_⟩; gi_at_call 99; refine (callsIn_wide.2 htz).mono ?_; rintro e w' ⟨rfl, rfl⟩)
          refine ⟨rfl, hR.mono ?_⟩
          rintro e' W3 ⟨hkp, (⟨rfl, hj3⟩ | ⟨rfl, hjx⟩)⟩
          · have hb3 : Holds4 W3 bx (wd M) := hkp.box.trans hb2
            have hsz3 := hkp.size
            gi_wp2
            go_roundw
            case rel => exact ⟨x &&& (x - 1), c + 1, rfl, by omega, n4, by omega, hb3, by rw [e]; exact hj3, by omega⟩
            case measure => simp only [vnat]; omega
          · gi_wp2
            refine bodyPost_ret (results_none rfl _ _ _) rfl ?_
            exact ⟨⟨_, rfl⟩, .inr ⟨_, hpr, hjx⟩⟩
    · have hk5 : k = 4 := by omega
      subst hk5
      gi_wp2
      go_end0
      exact ⟨⟨_, rfl⟩, .inl hj⟩

/-- All(s): the function, over a new box that holds the clean set. -/
theorem all_any (N : Nat) (w : World) :
    Calls Tryz.prog 76 #[sv N] w fun e w' => e = .returned (.func (.func 98) #[] #[.pointer (some ⟨w.heap.size, 0, none⟩)]) ∧ Below w.heap.size w w' ∧ Holds4 w' w.heap.size (wd (cln N)) := by
  have hc := clean_any N
  generalize cln N = M at *
  simp only [sv] at hc ⊢
  go_enter Tryz.func76, Tryz.ntmps76
  go_wp2_with (go_at_call 97; refine (hc _).mono ?_; rintro e w1 ⟨rfl, hb⟩; have q : Hid (Holds4 w1 w.heap.size (wd N)) := (hb.block _ (by simp)).trans (get_newQ (by simp)); obtain ⟨y0, y1, y2, y3, z0, z1, z2, z3⟩ := q.out.facts; have hb2 : Below w.heap.size w w1 := ((Below.refl _ w).alloc (by simp) _).trans (hb.mono (by simp)))
  go_ret
  exact ⟨rfl, below4 hb2 (Nat.le_refl _) M, fin4 q.out M⟩
end Go.Proofs.YtnkpohkodkjkfaaGreatDoor
namespace Go.Proofs.YtnkpohkodkjkfaaGreatDoor
open Go.RowKit Go.Shelf Go.Lib

theorem Kept.setCellQ {bx B m : Nat} {W : World} {B' j : Nat} {v : Value} (h1 : B' ≠ bx) (h2 : B' < B ∨ B + m ≤ B') : Kept bx B m W (W.setCell ⟨B', j, none⟩ v) :=
  ⟨by simp [World.setCell], set_otherQ (Ne.symm h1), fun k h3 h4 => set_otherQ (by omega)⟩
/-- The list of deferred calls is taken: nothing else turns. -/
theorem below_taken {n : Nat} {w W : World} {k : Nat} (o : Obj) (h : Below n w W) (hk : n ≤ k) : Below n w (W.putObj k o) :=
  h.trans ⟨rfl, rfl, rfl, by simp, fun j hj => World.putObj_heap_other (by omega)⟩
end Go.Proofs.YtnkpohkodkjkfaaGreatDoor
namespace Go.Proofs.YtnkpohkodkjkfaaGreatDoor
open Go.RowKit

/-- The statement for .. := range g, in a plain frame. -/
theorem wp_rangeF {α : Type} {P : Program} {n kb : Nat} {g : Operand} {ps : Array Tmp} {assign body : Code} {Q : Exit → Act → World → Prop} {a : Act} {w : World}
    {gf : Nat} {lb : Array Value} (hg : a.eval g = .func (.func gf) #[] lb) (eg : ∀ args w, (callFunc gf args).run P w = .ok (.enter gf args) w)
    {encs : α → Array Value} {bx m : Nat} {xs : List α} {Ext : World → Prop} (hseq : SeqE P Ext gf lb encs bx m xs w) (hbx : bx < w.heap.size) (hps : ∀ x, (encs x).size = ps.size)
    (I : List α → World → Prop) (Ix : Code → List α → World → Prop) (hI : OwnFrom w.heap.size I) (hIx : ∀ c, OwnFrom w.heap.size (Ix c)) (h0 : I [] w) (hE : ∀ pre W, I pre W → Ext W)
    (Ax : α → Act → World → Prop) (hAx : ∀ x a', OwnFrom w.heap.size (fun (_ : Unit) W => Ax x a' W))
    (hassign : ∀ (l : Nat) (pre : List α) (x : α) (W : World) (K : Act → World → Prop), I pre W → w.heap.size + (m + 2) ≤ W.heap.size →
      (∀ a' W', Kept bx w.heap.size (m + 2) W W' → I pre W' → Ax x a' W' → K a' W') →
      assign.wpIn (Fence.wide.inRound l) kb P (Exit.then K (fun _ _ _ => False)) { tmps := (ps.zip (encs x)).foldl (fun t (p, v) => t.setIfInBounds p v) a.tmps, defers := [] } W)
    (hbody : ∀ (l : Nat) (pre : List α) (x : α) (a' : Act) (W : World), I pre W → Ax x a' W → w.heap.size + (m + 2) ≤ W.heap.size → pre ++ [x] <+: xs → W.heap[w.heap.size]? = some (.deferred (some [])) → (∃ o, W.heap[w.heap.size + 1]? = some (.loop o)) →
      body.wpIn (Fence.wide.inRound l) kb P (postM bx w.heap.size (m + 2) I Ix (pre ++ [x]) W) a' W)
    (hdone : ∀ (W : World), I xs W → W.heap[w.heap.size]? = some (.deferred (some [])) → Q .normal { a with defers := { target := .collected w.heap.size, args := #[] } :: a.defers } W)
    (hstop : ∀ (c : Code) (pre : List α) (W : World), pre <+: xs → Ix c pre W → W.heap[w.heap.size]? = some (.deferred (some [])) →
      c.wpIn Fence.wide n P Q { a with defers := { target := .collected w.heap.size, args := #[] } :: a.defers } W) :
    (Code.rangeFunc g ps assign body).wpIn Fence.wide n P Q a w := by
  refine wpIn_rangeFunc ?_
  intro fn hfn
  obtain ⟨rec, hrec⟩ : ∃ rec : LoopState → Option Code → Loop, rec = fun st pe => { state := st, pending := pe, fn, tmps := a.tmps, params := ps, assign, body, defers := w.heap.size } := ⟨_, rfl⟩
  obtain ⟨W1, hW1⟩ : ∃ W1, (w.alloc (.deferred (some []))).alloc (.loop (rec .ready none)) = W1 := ⟨_, rfl⟩
  have hz1 : W1.heap.size = w.heap.size + 2 := by rw [← hW1]; simp
  have hL1 : W1.heap[w.heap.size + 1]? = some (.loop (rec .ready none)) := by
    rw [← hW1]; have := World.alloc_heap_new (w.alloc (.deferred (some []))) (.loop (rec .ready none)); rwa [World.size_alloc] at this
  have hK1 : W1.heap[w.heap.size]? = some (.deferred (some [])) := by
    rw [← hW1]; exact (Below.heap_alloc _ _ _ (by simp)).trans (World.alloc_heap_new w _)
  have hI1 : I [] W1 := by rw [← hW1]; exact hI.alloc _ (hI.alloc _ h0)
  have hb1 : Below w.heap.size w W1 := by rw [← hW1]; exact ((Below.refl _ w).alloc (Nat.le_refl _) _).alloc (by simp) _
  refine ⟨w.heap.size + 1, [{ target := .collected w.heap.size, args := #[] }], W1, { target := .fn (.func gf) lb, args := #[.func (.yield (w.heap.size + 1)) #[] #[]] }, W1, gf,
    #[.func (.yield (w.heap.size + 1)) #[] #[]] ++ lb, W1, ?_, ?_, ?_, ?_, (fun h => by cases h), ?_⟩
  · rw [← hW1, hrec]; exact run_enterLoop_outer _ _ _ _ _
  · simp only [resolve, hg]
    simp [go_sem]
  · intro f' _; trivial
  · simp [invoke, go_sem, eg]
  · have fresh : ∀ {A : World} {row : Option Nat}, (∀ r, row = some r → W1.heap.size ≤ r ∧ ∃ o : Obj, A.heap[r]? = some o ∧ o.isCells = false) → (∀ r, row = some r → w.heap.size ≤ r ∧ ∃ o : Obj, A.heap[r]? = some o ∧ o.isCells = false) :=
      fun hr r e => ⟨by have := (hr r e).1; omega, (hr r e).2⟩
    have stays : ∀ {A B : World} {row : Option Nat} {k : Nat} {o : Obj}, A.grownBy B row → (∀ r, row = some r → W1.heap.size ≤ r ∧ ∃ o : Obj, A.heap[r]? = some o ∧ o.isCells = false) → A.heap[k]? = some o → k < w.heap.size + 2 → B.heap[k]? = some o :=
      fun hg' hr hk hlt => (hg'.block _ (Array.getElem?_eq_some_iff.1 hk).1 (fun e => by have := (hr _ e.symm).1; omega)).trans hk
    refine calls_any ((hseq (w.heap.size + 1)
      (fun pre W => I pre W ∧ W.heap[w.heap.size + 1]? = some (.loop (rec .ready none)) ∧ W.heap[w.heap.size]? = some (.deferred (some [])))
      (fun pre W => ∃ c, Ix c pre W ∧ W.heap[w.heap.size + 1]? = some (.loop (rec .done (some c))) ∧ W.heap[w.heap.size]? = some (.deferred (some [])))
      W1 hb1
      (fun s A B row hs hg' hr => ⟨hI s A B row hs.1 hg' (fresh hr), stays hg' hr hs.2.1 (by omega), stays hg' hr hs.2.2 (by omega)⟩)
      (fun s A B row hs hg' hr => by
        obtain ⟨c, hc, hl, hk⟩ := hs
        exact ⟨c, hIx c s A B row hc hg' (fresh hr), stays hg' hr hl (by omega), stays hg' hr hk (by omega)⟩)
      (fun s A hs => hE s A hs.1) ?_ ⟨hI1, hL1, hK1⟩).mono ?_)
    · rintro pre x W ⟨hi, hl, hk⟩ hsz hlen
      have hy := run_yield (P := P) (args := encs x) hl (by rw [hrec]; exact hps x)
      rw [hrec] at hy
      refine yield_any (n := kb) ⟨fn, _, assign, body, hy, roundIn_of_wpIn hfn (hassign _ pre x W _ hi (by omega) ?_)⟩
      clear hy
      intro a' Wa hka hia hax
      have hla := (hka.rng (w.heap.size + 1) (by omega) (by omega)).trans hl
      have hda := (hka.rng w.heap.size (by omega) (by omega)).trans hk
      have hza : w.heap.size + (m + 2) ≤ Wa.heap.size := by have := hka.size; omega
      refine ⟨_, run_beginRound hla (by rw [hrec]), ?_⟩
      have hl2 : (Wa.putObj (w.heap.size + 1) (.loop { rec .ready none with state := .busy })).heap[w.heap.size + 1]? = some (.loop { rec .ready none with state := .busy }) := World.putObj_heap_same (by omega)
      have hk2 : (Wa.putObj (w.heap.size + 1) (.loop { rec .ready none with state := .busy })).heap[w.heap.size]? = some (.deferred (some [])) := (World.putObj_heap_other (by omega)).trans hda
      have hp2 : Kept bx W1.heap.size m Wa (Wa.putObj (w.heap.size + 1) (.loop { rec .ready none with state := .busy })) := Kept.putObj _ (by omega) (by omega)
      refine wpIn_mono (hbody _ pre x a' _ (hI.putObj _ hia (by omega) hla rfl) ((hAx x a').putObj (s := ()) _ hax (by omega) hla rfl) (by simpa using hza) hlen hk2 ⟨_, hl2⟩) ?_
      have fin : ∀ (jump : Option Code) (W3 : World), Kept bx w.heap.size (m + 2) (Wa.putObj (w.heap.size + 1) (.loop { rec .ready none with state := .busy })) W3 →
          (Instr.endRound (w.heap.size + 1) jump).run P W3 = .ok (.bool jump.isNone) (W3.putObj (w.heap.size + 1) (.loop (rec (if jump.isNone then .ready else .done) jump))) ∧
          W3.heap[w.heap.size + 1]? = some (.loop { rec .ready none with state := .busy }) ∧
          (W3.putObj (w.heap.size + 1) (.loop (rec (if jump.isNone then .ready else .done) jump))).heap[w.heap.size + 1]? = some (.loop (rec (if jump.isNone then .ready else .done) jump)) ∧
          (W3.putObj (w.heap.size + 1) (.loop (rec (if jump.isNone then .ready else .done) jump))).heap[w.heap.size]? = some (.deferred (some [])) ∧
          Kept bx W1.heap.size m W (W3.putObj (w.heap.size + 1) (.loop (rec (if jump.isNone then .ready else .done) jump))) := fun jump W3 hk3 => by
        have hl3 := (hk3.rng (w.heap.size + 1) (by omega) (by omega)).trans hl2
        have hrun := run_endRound (P := P) jump hl3
        rw [hrec] at hrun
        refine ⟨by rw [hrec]; exact hrun, hl3, World.putObj_heap_same (Array.getElem?_eq_some_iff.1 hl3).1, (World.putObj_heap_other (by omega)).trans ((hk3.rng w.heap.size (by omega) (by omega)).trans hk2), ?_⟩
        exact (((hka.less (by omega) (by omega)).trans hp2).trans (hk3.less (by omega) (by omega))).trans (Kept.putObj _ (by omega) (by omega))
      rintro e a3 W3 hp
      cases e with
      | normal =>
        obtain ⟨hk3, hi3⟩ := hp
        obtain ⟨hr, hl3, hl4, hk4, hq⟩ := fin none W3 hk3
        exact ⟨_, _, hr, hq, .inl ⟨rfl, hI.putObj _ hi3 (by omega) hl3 rfl, hl4, hk4⟩⟩
      | ret =>
        obtain ⟨hk3, hi3⟩ := hp
        obtain ⟨hr, hl3, hl4, hk4, hq⟩ := fin (some .ret) W3 hk3
        exact ⟨_, _, hr, hq, .inr ⟨rfl, .ret, (hIx _).putObj _ hi3 (by omega) hl3 rfl, hl4, hk4⟩⟩
      | exit id =>
        obtain ⟨hk3, hi3⟩ := hp
        obtain ⟨hr, hl3, hl4, hk4, hq⟩ := fin (some (.exit id)) W3 hk3
        exact ⟨_, _, hr, hq, .inr ⟨rfl, .exit id, (hIx _).putObj _ hi3 (by omega) hl3 rfl, hl4, hk4⟩⟩
      | goto t =>
        obtain ⟨hk3, hi3⟩ := hp
        obtain ⟨hr, hl3, hl4, hk4, hq⟩ := fin (some (.goto t)) W3 hk3
        exact ⟨_, _, hr, hq, .inr ⟨rfl, .goto t, (hIx _).putObj _ hi3 (by omega) hl3 rfl, hl4, hk4⟩⟩
      | panic ch => exact hp.elim
      | outgrown => exact hp.elim
    · rintro e W2 ⟨⟨v, rfl⟩, (⟨hi, hl, hk⟩ | ⟨pre, hpre, c, hi, hl, hk⟩)⟩
      · exact ⟨none, _, by have := run_endLoop (P := P) hl (by rw [hrec]; simp); rw [hrec] at this; exact this, hdone _ (hI.putObj _ hi (by omega) hl rfl) ((World.putObj_heap_other (by omega)).trans hk)⟩
      · exact ⟨some c, _, by have := run_endLoop (P := P) hl (by rw [hrec]; simp); rw [hrec] at this; exact this, hstop c pre _ hpre ((hIx c).putObj _ hi (by omega) hl rfl) ((World.putObj_heap_other (by omega)).trans hk)⟩

end Go.Proofs.YtnkpohkodkjkfaaGreatDoor
