/- What strings.SplitSeq answers, and its function as an iterator: of a text without a line's end. -/
import Derived.Test.YtngjjcmoekeciaaGreatDoorJnJ7
import Derived.Test.YtngjjcmoekeciaaGreatDoorSeq
import Derived.Lib.IndexLaws
namespace Go.Proofs.YtngjjcmoekeciaaGreatDoor
open Go.RowKit Go.Shelf
attribute [local go_sem] Oper.semAt_some

theorem wfn (k : Nat) : Fence.wide.fn k := trivial
theorem wdep : Fence.wide.depth = none := rfl

theorem splitSeq_any (s : ByteArray) (w : World) :
    Calls Tryz.prog 72 #[.string s, .string ⟨#[10]⟩, .int .i64 0] w fun e w' => e = .returned (.func (.func 105) #[] #[.pointer (some ⟨w.heap.size + 1, 0, none⟩), .pointer (some ⟨w.heap.size, 0, none⟩), .pointer (some ⟨w.heap.size + 2, 0, none⟩)]) ∧ w' = ((w.alloc (.cells #[.string s] 9)).alloc (.cells #[.string ⟨#[10]⟩] 9)).alloc (.cells #[.int .i64 0] 3) := by
  go_enter Tryz.func72, Tryz.ntmps72
  go_wp2
  go_ret
  exact ⟨rfl, rfl⟩
theorem split_any (s : ByteArray) (w : World) :
    Calls Tryz.prog 14 #[.string s, .string ⟨#[10]⟩] w fun e w' => e = .returned (.func (.func 105) #[] #[.pointer (some ⟨w.heap.size + 1, 0, none⟩), .pointer (some ⟨w.heap.size, 0, none⟩), .pointer (some ⟨w.heap.size + 2, 0, none⟩)]) ∧ w' = ((w.alloc (.cells #[.string s] 9)).alloc (.cells #[.string ⟨#[10]⟩] 9)).alloc (.cells #[.int .i64 0] 3) := by
  go_enter Tryz.func14, Tryz.ntmps14
  go_wp2_with (go_at_call 72; refine (splitSeq_any s _).mono ?_; rintro e w9 ⟨rfl, rfl⟩)
  go_ret
  exact ⟨rfl, rfl⟩

set_option maxHeartbeats 1000000 in
theorem split1_seq (s : ByteArray) (hn : nlAt s = -1) (k : Nat) (w : World) (h1 : Boxed w k 9 (.string s)) (h2 : Boxed w (k + 1) 9 (.string ⟨#[10]⟩)) :
    SeqM Tryz.prog 105 #[.pointer (some ⟨k + 1, 0, none⟩), .pointer (some ⟨k, 0, none⟩), .pointer (some ⟨k + 2, 0, none⟩)] (fun t : ByteArray => #[.string t]) k 0 [s] w := by
  intro l J Jx W hW hJ hJx hY h0
  have b1 : Boxed W k 9 (.string s) := (hW.block k h1.lt).trans h1
  have b2 : Boxed W (k + 1) 9 (.string ⟨#[10]⟩) := (hW.block (k + 1) h2.lt).trans h2
  have c1 := b1.cell
  have c2 := b2.cell
  have hi := index_any s
  rw [hn] at hi
  refine callsIn_of_wp Tryz.func105 rfl trivial ?_ rfl
  simp only [Tryz.ntmps105, List.size_toArray, List.length_cons, List.length_nil, Nat.reduceAdd, Nat.reduceSub, Array.replicate_succ, Array.replicate_zero, List.push_toArray, List.append_toArray, List.nil_append, List.cons_append]
  gi_wp2
  gi_loopw [] (fun wr => wr = W) (fun _ => 0)
  case atStart => rfl
  case round =>
    subst hrel
    obtain ⟨fn, tmps, assign, body, hy, hR⟩ := hY [] s wr h0 (by omega) ⟨[], by simp⟩
    have hy' : (Instr.yield l #[.string s]).run Tryz.prog wr = .ok (.round l fn tmps assign body) wr := hy
    clear hy
    gi_wp2_with (with_reducible (refine And.intro (wfn _) (And.intro wdep ?_)); gi_at_call 107; refine (callsIn_wide.2 (hi _)).mono ?_; rintro e w' ⟨rfl, hw9⟩; rw [hw9])
    refine ⟨rfl, hR.mono ?_⟩
    rintro e W3 ⟨hkp, (⟨rfl, hj3⟩ | ⟨rfl, hjx⟩)⟩
    · gi_wp2
      go_end0
      exact ⟨⟨_, rfl⟩, .inl hj3⟩
    · gi_wp2
      go_end0
      exact ⟨⟨_, rfl⟩, .inr ⟨_, ⟨[], by simp⟩, hjx⟩⟩
end Go.Proofs.YtngjjcmoekeciaaGreatDoor
namespace Go.Proofs.YtngjjcmoekeciaaGreatDoor
open Go.RowKit
/-- The nb blocks from bx on and the m blocks from B on lie as they lay; no block has gone. -/
structure KeptW (bx nb B m : Nat) (W W' : World) : Prop where
  size : W.heap.size ≤ W'.heap.size
  box : ∀ k, bx ≤ k → k < bx + nb → W'.heap[k]? = W.heap[k]?
  rng : ∀ k, B ≤ k → k < B + m → W'.heap[k]? = W.heap[k]?
theorem KeptW.refl (bx nb B m : Nat) (W : World) : KeptW bx nb B m W W := ⟨Nat.le_refl _, fun _ _ _ => rfl, fun _ _ _ => rfl⟩
theorem KeptW.trans {bx nb B m : Nat} {X Y Z : World} (h : KeptW bx nb B m X Y) (k : KeptW bx nb B m Y Z) : KeptW bx nb B m X Z :=
  ⟨Nat.le_trans h.size k.size, fun i h1 h2 => (k.box i h1 h2).trans (h.box i h1 h2), fun i h1 h2 => (k.rng i h1 h2).trans (h.rng i h1 h2)⟩
theorem KeptW.putObj {bx nb B m : Nat} {W : World} {l : Nat} (o : Obj) (h1 : l < bx ∨ bx + nb ≤ l) (h2 : l < B ∨ B + m ≤ l) : KeptW bx nb B m W (W.putObj l o) :=
  ⟨by simp, fun k h3 h4 => World.putObj_heap_other (by omega), fun k h3 h4 => World.putObj_heap_other (by omega)⟩
theorem KeptW.less {bx nb B m B' m' : Nat} {W W' : World} (h : KeptW bx nb B m W W') (h1 : B ≤ B') (h2 : B' + m' ≤ B + m) : KeptW bx nb B' m' W W' :=
  ⟨h.size, h.box, fun k h3 h4 => h.rng k (by omega) (by omega)⟩
/-- The word of an iterator that gives xs, one by one: every round keeps block bx and the m blocks that the iterator lays first. -/
def SeqW {α : Type} (P : Program) (g : Nat) (lb : Array Value) (encs : α → Array Value) (bx nb m : Nat) (xs : List α) (w : World) : Prop :=
  ∀ (l : Nat) (J Jx : List α → World → Prop) (W : World), Below w.heap.size w W → OwnFrom W.heap.size J → OwnFrom W.heap.size Jx → (∀ pre W1 v, J pre W1 → bx < W.heap.size → J pre (W1.setCell ⟨bx, 0, none⟩ v)) →
    (∀ pre x W1, J pre W1 → W.heap.size + m ≤ W1.heap.size → pre ++ [x] <+: xs → YieldAt Fence.wide 0 P l (encs x) W1 fun e W' =>
      KeptW bx nb W.heap.size m W1 W' ∧ ((e = .returned (.bool true) ∧ J (pre ++ [x]) W') ∨ (e = .returned (.bool false) ∧ Jx (pre ++ [x]) W'))) →
    J [] W →
    CallsIn Fence.wide 0 P g (#[.func (.yield l) #[] #[]] ++ lb) W fun e W' => (∃ v, e = .returned v) ∧ (J xs W' ∨ ∃ pre, pre <+: xs ∧ Jx pre W')

/-- How the body of a round may be left. -/
def postW {α : Type} (bx nb B m : Nat) (I : List α → World → Prop) (Ix : Code → List α → World → Prop) (xs : List α) (W : World) : Exit → Act → World → Prop
  | .normal, _, W' => KeptW bx nb B m W W' ∧ I xs W'
  | .ret, _, W' => KeptW bx nb B m W W' ∧ Ix .ret xs W'
  | .exit id, _, W' => KeptW bx nb B m W W' ∧ Ix (.exit id) xs W'
  | .goto t, _, W' => KeptW bx nb B m W W' ∧ Ix (.goto t) xs W'
  | .panic _, _, _ => False
  | .outgrown, _, _ => False

/-- The statement for .. := range g, in a plain frame. -/
theorem wp_rangeW {α : Type} {P : Program} {n kb : Nat} {g : Operand} {ps : Array Tmp} {assign body : Code} {Q : Exit → Act → World → Prop} {a : Act} {w : World}
    {gf : Nat} {lb : Array Value} (hg : a.eval g = .func (.func gf) #[] lb) (eg : ∀ args w, (callFunc gf args).run P w = .ok (.enter gf args) w)
    {encs : α → Array Value} {bx nb m : Nat} {xs : List α} (hseq : SeqW P gf lb encs bx nb m xs w) (hbx : bx + nb ≤ w.heap.size) (hnb : 0 < nb) (hps : ∀ x, (encs x).size = ps.size)
    (I : List α → World → Prop) (Ix : Code → List α → World → Prop) (hI : OwnFrom w.heap.size I) (hIx : ∀ c, OwnFrom w.heap.size (Ix c)) (h0 : I [] w) (hIw : ∀ pre W v, I pre W → I pre (W.setCell ⟨bx, 0, none⟩ v))
    (Ax : α → Act → World → Prop) (hAx : ∀ x a', OwnFrom w.heap.size (fun (_ : Unit) W => Ax x a' W))
    (hassign : ∀ (l : Nat) (pre : List α) (x : α) (W : World) (K : Act → World → Prop), I pre W → w.heap.size + (m + 2) ≤ W.heap.size →
      (∀ a' W', KeptW bx nb w.heap.size (m + 2) W W' → I pre W' → Ax x a' W' → K a' W') →
      assign.wpIn (Fence.wide.inRound l) kb P (Exit.then K (fun _ _ _ => False)) { tmps := (ps.zip (encs x)).foldl (fun t (p, v) => t.setIfInBounds p v) a.tmps, defers := [] } W)
    (hbody : ∀ (l : Nat) (pre : List α) (x : α) (a' : Act) (W : World), I pre W → Ax x a' W → w.heap.size + (m + 2) ≤ W.heap.size → pre ++ [x] <+: xs →
      body.wpIn (Fence.wide.inRound l) kb P (postW bx nb w.heap.size (m + 2) I Ix (pre ++ [x]) W) a' W)
    (hdone : ∀ (W : World), I xs W → W.heap[w.heap.size]? = some (.deferred (some [])) → Q .normal { a with defers := { target := .collected w.heap.size, args := #[] } :: a.defers } W)
    (hstop : ∀ (c : Code) (pre : List α) (W : World), pre <+: xs → Ix c pre W → W.heap[w.heap.size]? = some (.deferred (some [])) →
      c.wpIn Fence.wide n P Q { a with defers := { target := .collected w.heap.size, args := #[] } :: a.defers } W) :
    (Code.rangeFunc g ps assign body).wpIn Fence.wide n P Q a w := by
  refine wpIn_rangeFunc ?_
  intro fn hfn
  obtain ⟨rec, hrec⟩ : ∃ rec : LoopState → Option Code → Loop, rec = fun st pe => { state := st, pending := pe, fn, tmps := a.tmps, params := ps, assign, body, defers := w.heap.size } := ⟨_, rfl⟩
  obtain ⟨W1, hW1⟩ : ∃ W1, (w.alloc (.deferred (some []))).alloc (.loop (rec .ready none)) = W1 := ⟨_, rfl⟩
  have hz1 : W1.heap.size = w.heap.size + 2 := by rw [← hW1]; simp
  have hL1 : W1.heap[w.heap.size + 1]? = some (.loop (rec .ready none)) := by
    rw [← hW1]; have := World.alloc_heap_new (w.alloc (.deferred (some []))) (.loop (rec .ready none)); rwa [World.size_alloc] at this
  have hK1 : W1.heap[w.heap.size]? = some (.deferred (some [])) := by
    rw [← hW1]; exact (Below.heap_alloc _ _ _ (by simp)).trans (World.alloc_heap_new w _)
  have hI1 : I [] W1 := by rw [← hW1]; exact hI.alloc _ (hI.alloc _ h0)
  have hb1 : Below w.heap.size w W1 := by rw [← hW1]; exact ((Below.refl _ w).alloc (Nat.le_refl _) _).alloc (by simp) _
  refine ⟨w.heap.size + 1, [{ target := .collected w.heap.size, args := #[] }], W1, { target := .fn (.func gf) lb, args := #[.func (.yield (w.heap.size + 1)) #[] #[]] }, W1, gf,
    #[.func (.yield (w.heap.size + 1)) #[] #[]] ++ lb, W1, ?_, ?_, ?_, ?_, (fun h => by cases h), ?_⟩
  · rw [← hW1, hrec]; exact run_enterLoop_outer _ _ _ _ _
  · simp only [resolve, hg]
    simp [go_sem]
  · intro f' _; trivial
  · simp [invoke, go_sem, eg]
  · have fresh : ∀ {A : World} {row : Option Nat}, (∀ r, row = some r → W1.heap.size ≤ r ∧ ∃ o : Obj, A.heap[r]? = some o ∧ o.isCells = false) → (∀ r, row = some r → w.heap.size ≤ r ∧ ∃ o : Obj, A.heap[r]? = some o ∧ o.isCells = false) :=
      fun hr r e => ⟨by have := (hr r e).1; omega, (hr r e).2⟩
    have stays : ∀ {A B : World} {row : Option Nat} {k : Nat} {o : Obj}, A.grownBy B row → (∀ r, row = some r → W1.heap.size ≤ r ∧ ∃ o : Obj, A.heap[r]? = some o ∧ o.isCells = false) → A.heap[k]? = some o → k < w.heap.size + 2 → B.heap[k]? = some o :=
      fun hg' hr hk hlt => (hg'.block _ (Array.getElem?_eq_some_iff.1 hk).1 (fun e => by have := (hr _ e.symm).1; omega)).trans hk
    refine calls_any ((hseq (w.heap.size + 1)
      (fun pre W => I pre W ∧ W.heap[w.heap.size + 1]? = some (.loop (rec .ready none)) ∧ W.heap[w.heap.size]? = some (.deferred (some [])))
      (fun pre W => ∃ c, Ix c pre W ∧ W.heap[w.heap.size + 1]? = some (.loop (rec .done (some c))) ∧ W.heap[w.heap.size]? = some (.deferred (some [])))
      W1 hb1
      (fun s A B row hs hg' hr => ⟨hI s A B row hs.1 hg' (fresh hr), stays hg' hr hs.2.1 (by omega), stays hg' hr hs.2.2 (by omega)⟩)
      (fun s A B row hs hg' hr => by
        obtain ⟨c, hc, hl, hk⟩ := hs
        exact ⟨c, hIx c s A B row hc hg' (fresh hr), stays hg' hr hl (by omega), stays hg' hr hk (by omega)⟩)
      (fun pre A v hs _ => ⟨hIw pre A v hs.1, (Below.heap_setCell _ _ _ _ (by simp; omega)).trans hs.2.1, (Below.heap_setCell _ _ _ _ (by simp; omega)).trans hs.2.2⟩)
      ?_ ⟨hI1, hL1, hK1⟩).mono ?_)
    · rintro pre x W ⟨hi, hl, hk⟩ hsz hlen
      have hy := run_yield (P := P) (args := encs x) hl (by rw [hrec]; exact hps x)
      rw [hrec] at hy
      refine yield_any (n := kb) ⟨fn, _, assign, body, hy, roundIn_of_wpIn hfn (hassign _ pre x W _ hi (by omega) ?_)⟩
      clear hy
      intro a' Wa hka hia hax
      have hla := (hka.rng (w.heap.size + 1) (by omega) (by omega)).trans hl
      have hda := (hka.rng w.heap.size (by omega) (by omega)).trans hk
      have hza : w.heap.size + (m + 2) ≤ Wa.heap.size := by have := hka.size; omega
      refine ⟨_, run_beginRound hla (by rw [hrec]), ?_⟩
      have hl2 : (Wa.putObj (w.heap.size + 1) (.loop { rec .ready none with state := .busy })).heap[w.heap.size + 1]? = some (.loop { rec .ready none with state := .busy }) := World.putObj_heap_same (by omega)
      have hk2 : (Wa.putObj (w.heap.size + 1) (.loop { rec .ready none with state := .busy })).heap[w.heap.size]? = some (.deferred (some [])) := (World.putObj_heap_other (by omega)).trans hda
      have hp2 : KeptW bx nb W1.heap.size m Wa (Wa.putObj (w.heap.size + 1) (.loop { rec .ready none with state := .busy })) := KeptW.putObj _ (by omega) (by omega)
      refine wpIn_mono (hbody _ pre x a' _ (hI.putObj _ hia (by omega) hla rfl) ((hAx x a').putObj (s := ()) _ hax (by omega) hla rfl) (by simpa using hza) hlen) ?_
      have fin : ∀ (jump : Option Code) (W3 : World), KeptW bx nb w.heap.size (m + 2) (Wa.putObj (w.heap.size + 1) (.loop { rec .ready none with state := .busy })) W3 →
          (Instr.endRound (w.heap.size + 1) jump).run P W3 = .ok (.bool jump.isNone) (W3.putObj (w.heap.size + 1) (.loop (rec (if jump.isNone then .ready else .done) jump))) ∧
          W3.heap[w.heap.size + 1]? = some (.loop { rec .ready none with state := .busy }) ∧
          (W3.putObj (w.heap.size + 1) (.loop (rec (if jump.isNone then .ready else .done) jump))).heap[w.heap.size + 1]? = some (.loop (rec (if jump.isNone then .ready else .done) jump)) ∧
          (W3.putObj (w.heap.size + 1) (.loop (rec (if jump.isNone then .ready else .done) jump))).heap[w.heap.size]? = some (.deferred (some [])) ∧
          KeptW bx nb W1.heap.size m W (W3.putObj (w.heap.size + 1) (.loop (rec (if jump.isNone then .ready else .done) jump))) := fun jump W3 hk3 => by
        have hl3 := (hk3.rng (w.heap.size + 1) (by omega) (by omega)).trans hl2
        have hrun := run_endRound (P := P) jump hl3
        rw [hrec] at hrun
        refine ⟨by rw [hrec]; exact hrun, hl3, World.putObj_heap_same (Array.getElem?_eq_some_iff.1 hl3).1, (World.putObj_heap_other (by omega)).trans ((hk3.rng w.heap.size (by omega) (by omega)).trans hk2), ?_⟩
        exact (((hka.less (by omega) (by omega)).trans hp2).trans (hk3.less (by omega) (by omega))).trans (KeptW.putObj _ (by omega) (by omega))
      rintro e a3 W3 hp
      cases e with
      | normal =>
        obtain ⟨hk3, hi3⟩ := hp
        obtain ⟨hr, hl3, hl4, hk4, hq⟩ := fin none W3 hk3
        exact ⟨_, _, hr, hq, .inl ⟨rfl, hI.putObj _ hi3 (by omega) hl3 rfl, hl4, hk4⟩⟩
      | ret =>
        obtain ⟨hk3, hi3⟩ := hp
        obtain ⟨hr, hl3, hl4, hk4, hq⟩ := fin (some .ret) W3 hk3
        exact ⟨_, _, hr, hq, .inr ⟨rfl, .ret, (hIx _).putObj _ hi3 (by omega) hl3 rfl, hl4, hk4⟩⟩
      | exit id =>
        obtain ⟨hk3, hi3⟩ := hp
        obtain ⟨hr, hl3, hl4, hk4, hq⟩ := fin (some (.exit id)) W3 hk3
        exact ⟨_, _, hr, hq, .inr ⟨rfl, .exit id, (hIx _).putObj _ hi3 (by omega) hl3 rfl, hl4, hk4⟩⟩
      | goto t =>
        obtain ⟨hk3, hi3⟩ := hp
        obtain ⟨hr, hl3, hl4, hk4, hq⟩ := fin (some (.goto t)) W3 hk3
        exact ⟨_, _, hr, hq, .inr ⟨rfl, .goto t, (hIx _).putObj _ hi3 (by omega) hl3 rfl, hl4, hk4⟩⟩
      | panic ch => exact hp.elim
      | outgrown => exact hp.elim
    · rintro e W2 ⟨⟨v, rfl⟩, (⟨hi, hl, hk⟩ | ⟨pre, hpre, c, hi, hl, hk⟩)⟩
      · exact ⟨none, _, by have := run_endLoop (P := P) hl (by rw [hrec]; simp); rw [hrec] at this; exact this, hdone _ (hI.putObj _ hi (by omega) hl rfl) ((World.putObj_heap_other (by omega)).trans hk)⟩
      · exact ⟨some c, _, by have := run_endLoop (P := P) hl (by rw [hrec]; simp); rw [hrec] at this; exact this, hstop c pre _ hpre ((hIx c).putObj _ hi (by omega) hl rfl) ((World.putObj_heap_other (by omega)).trans hk)⟩

end Go.Proofs.YtngjjcmoekeciaaGreatDoor
namespace Go.Proofs.YtngjjcmoekeciaaGreatDoor
open Go.RowKit Go.Shelf
attribute [local go_sem] Oper.semAt_some

/-- The lines of a text. -/
def linesAux : Nat → ByteArray → List ByteArray
  | 0, s => [s]
  | f + 1, s => if nlAt s < 0 then [s] else s.extract 0 (nlAt s).toNat :: linesAux f (s.extract ((nlAt s).toNat + 1) s.size)
def linesOf (s : ByteArray) : List ByteArray := linesAux s.size s
theorem nl_bounds (s : ByteArray) : -1 ≤ nlAt s ∧ nlAt s < s.size := by
  have h1 := Lib.indexByte_ge s.data.toList 10
  refine ⟨h1, ?_⟩
  by_cases h : nlAt s < 0
  · omega
  · obtain ⟨o, ho⟩ := Int.eq_ofNat_of_zero_le (show 0 ≤ nlAt s by omega)
    have h2 := (Lib.indexByte_some (o := o) ho).1
    have h3 := (List.getElem?_eq_some_iff.1 h2).1
    rw [ho]
    have : s.data.toList.length = s.size := by simp
    show ((o : Nat) : Int) < _
    omega
def strSz (k : Nat) (W : World) : Nat := match W.cell? ⟨k, 0, none⟩ with
  | some (.string t) => t.size
  | _ => 0
theorem strSz_of {k : Nat} {W : World} {t : ByteArray} (h : W.cell? ⟨k, 0, none⟩ = some (.string t)) : strSz k W = t.size := by unfold strSz; rw [h]
theorem lines_last {f : Nat} {s : ByteArray} (h : nlAt s < 0) : linesAux f s = [s] := by
  cases f with
  | zero => rfl
  | succ f => rw [linesAux, if_pos h]
theorem lines_more {f : Nat} {s : ByteArray} {n : Nat} (h : nlAt s = (n : Int)) : linesAux (f + 1) s = s.extract 0 n :: linesAux f (s.extract (n + 1) s.size) := by
  rw [linesAux, if_neg (by omega), h]
  rfl

set_option maxHeartbeats 2000000 in
theorem splitW_seq (s : ByteArray) (hs : s.size ≤ 65536) (k : Nat) (w : World) (h1 : Boxed w k 9 (.string s)) (h2 : Boxed w (k + 1) 9 (.string ⟨#[10]⟩)) (h3 : Boxed w (k + 2) 3 (.int .i64 0)) :
    SeqW Tryz.prog 105 #[.pointer (some ⟨k + 1, 0, none⟩), .pointer (some ⟨k, 0, none⟩), .pointer (some ⟨k + 2, 0, none⟩)] (fun t : ByteArray => #[.string t]) k 3 0 (linesOf s) w := by
  intro l J Jx W hW hJ hJx hJw hY h0
  have b1 : Boxed W k 9 (.string s) := (hW.block k h1.lt).trans h1
  have b2 : Boxed W (k + 1) 9 (.string ⟨#[10]⟩) := (hW.block (k + 1) h2.lt).trans h2
  have b3 : Boxed W (k + 2) 3 (.int .i64 0) := (hW.block (k + 2) h3.lt).trans h3
  have hkW := b1.lt
  have c1 := b1.cell
  have c2 := b2.cell
  refine callsIn_of_wp Tryz.func105 rfl trivial ?_ rfl
  simp only [Tryz.ntmps105, List.size_toArray, List.length_cons, List.length_nil, Nat.reduceAdd, Nat.reduceSub, Array.replicate_succ, Array.replicate_zero, List.push_toArray, List.append_toArray, List.nil_append, List.cons_append]
  gi_wp2
  clear c1 c2
  gi_loopw [] (fun wr => ∃ (pre : List ByteArray) (cur : ByteArray) (f : Nat), Hid (linesOf s = pre ++ linesAux f cur) ∧ cur.size ≤ f ∧ cur.size ≤ 65536 ∧ Boxed wr k 9 (.string cur) ∧ Boxed wr (k + 1) 9 (.string ⟨#[10]⟩) ∧ Boxed wr (k + 2) 3 (.int .i64 0) ∧ J pre wr ∧ W.heap.size ≤ wr.heap.size) (fun wr => strSz k wr)
  case atStart =>
    have h : Hid (linesOf s = [] ++ linesAux s.size s) := rfl
    exact ⟨[], s, s.size, h, by omega, hs, b1, b2, b3, h0, Nat.le_refl _⟩
  case round =>
    clear b1 b2 b3 h1 h2 h3 h0
    obtain ⟨pre, cur, f, hli, hf, hcs, b1, b2, b3, hj, hsz⟩ := hrel
    have c1 := b1.cell
    have c2 := b2.cell
    have c3 := b3.cell
    have f1 := b1.frozen
    obtain ⟨hn1, hn2⟩ := nl_bounds cur
    have hi := index_any cur
    by_cases hneg : nlAt cur < 0
    · have e1 : nlAt cur = -1 := by omega
      have hl2 : linesOf s = pre ++ [cur] := by rw [hli.out, lines_last hneg]
      rw [e1] at hi
      obtain ⟨fn, tmps, assign, body, hy, hR⟩ := hY pre cur wr hj (by omega) (by rw [hl2]; exact List.prefix_refl _)
      have hy' : (Instr.yield l #[.string cur]).run Tryz.prog wr = .ok (.round l fn tmps assign body) wr := hy
      clear hy hli hJw hY
      gi_wp2_with (with_reducible (refine And.intro (wfn _) (And.intro wdep ?_)); gi_at_call 107; refine (callsIn_wide.2 (hi _)).mono ?_; rintro e w' ⟨rfl, hw9⟩; rw [hw9])
      refine ⟨rfl, hR.mono ?_⟩
      rintro e W3 ⟨hkp, (⟨rfl, hj3⟩ | ⟨rfl, hjx⟩)⟩
      · gi_wp2
        go_end0
        exact ⟨⟨_, rfl⟩, .inl (by rw [hl2]; exact hj3)⟩
      · gi_wp2
        go_end0
        exact ⟨⟨_, rfl⟩, .inr ⟨_, by rw [hl2]; exact List.prefix_refl _, hjx⟩⟩
    · obtain ⟨n, hn⟩ := Int.eq_ofNat_of_zero_le (show 0 ≤ nlAt cur by omega)
      have hnl : n < cur.size := by omega
      obtain ⟨g, rfl⟩ : ∃ g, f = g + 1 := ⟨f - 1, by omega⟩
      have hl2 : linesOf s = (pre ++ [cur.extract 0 n]) ++ linesAux g (cur.extract (n + 1) cur.size) := by rw [hli.out, lines_more hn]; simp
      rw [hn] at hi
      obtain ⟨fn, tmps, assign, body, hy, hR⟩ := hY pre (cur.extract 0 n) wr hj (by omega) (by rw [hl2]; exact List.prefix_append _ _)
      have hy' : (Instr.yield l #[.string (cur.extract 0 n)]).run Tryz.prog wr = .ok (.round l fn tmps assign body) wr := hy
      have hi' : ∀ w, Calls Tryz.prog 107 #[.string cur, .string ⟨#[10]⟩] w fun e w' => e = .returned (.int .i64 (n : Int)) ∧ w' = w := hi
      have HL : Hid (linesOf s = (pre ++ [cur.extract 0 n]) ++ linesAux g (cur.extract (n + 1) cur.size)) := hl2
      have hpre : Hid (pre ++ [cur.extract 0 n] <+: linesOf s) := by show _ <+: _; rw [hl2]; exact List.prefix_append _ _
      clear hy hli hY hl2 hi hn hneg hn1 hn2
      gi_wp2_with (with_reducible (refine And.intro (wfn _) (And.intro wdep ?_)); gi_at_call 107; refine (callsIn_wide.2 (hi' _)).mono ?_; rintro e w' ⟨rfl, hw9⟩; rw [hw9])
      refine ⟨rfl, hR.mono ?_⟩
      rintro e W3 ⟨hkp, (⟨rfl, hj3⟩ | ⟨rfl, hjx⟩)⟩
      · have d1 : Boxed W3 k 9 (.string cur) := (hkp.box k (by omega) (by omega)).trans b1
        have d2 : Boxed W3 (k + 1) 9 (.string ⟨#[10]⟩) := (hkp.box (k + 1) (by omega) (by omega)).trans b2
        have d3 : Boxed W3 (k + 2) 3 (.int .i64 0) := (hkp.box (k + 2) (by omega) (by omega)).trans b3
        have q1 := d1.cell
        have q2 := d2.cell
        have q3 := d1.frozen
        have q4 := d1.lt
        have hz3 := hkp.size
        have hsz2 : (cur.extract (n + 1) cur.size).size = cur.size - (n + 1) := by rw [ByteArray.size_extract]; omega
        have hni : ((n : Int) + 1) ≤ (cur.size : Int) := by omega
        gi_wp2
        go_roundw
        case rel =>
          exact ⟨pre ++ [cur.extract 0 n], cur.extract (n + 1) cur.size, g, HL, by omega, by omega, d1.set _, d2.other (by omega) _, d3.other (by omega) _, hJw _ _ _ hj3 hkW, by simp [World.setCell]; omega⟩
        case measure =>
          rw [strSz_of (d1.set (.string (cur.extract (n + 1) cur.size))).cell, strSz_of c1]
          omega
      · gi_wp2
        refine bodyPost_ret (results_none rfl _ _ _) rfl ?_
        exact ⟨⟨_, rfl⟩, .inr ⟨_, hpre.out, hjx⟩⟩
end Go.Proofs.YtngjjcmoekeciaaGreatDoor
