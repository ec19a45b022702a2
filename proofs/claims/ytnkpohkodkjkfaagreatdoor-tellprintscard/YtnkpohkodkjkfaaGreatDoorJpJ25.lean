/- The words of glyph.All and of its function, as an iterator: at every text. -/
import Derived.Test.YtnkpohkodkjkfaaGreatDoorJpJ24
import Derived.Test.YtnkpohkodkjkfaaGreatDoorJpJ18
set_option maxHeartbeats 40000000
set_option maxRecDepth 100000
set_option linter.unusedVariables false
namespace Go.Proofs.YtnkpohkodkjkfaaGreatDoor
open Go.RowKit Go.Shelf
attribute [local go_sem] Oper.semAt_some

theorem round_in {F : Fence} {n : Nat} {P : Program} {l : Nat} {f : FuncId} {tmps : Array Value} {assign body : Code} {w : World} {R : Ending → World → Prop} (l2 : Nat) (h : RoundIn F n P l f tmps assign body w R) : RoundIn (F.inRound l2) n P l f tmps assign body w R := h
theorem ownFrom_le {β : Type} {B B' : Nat} {I : β → World → Prop} (h : OwnFrom B I) (hle : B ≤ B') : OwnFrom B' I := fun s W W' row hs hg hr => h s W W' row hs hg (fun r e => ⟨Nat.le_trans hle (hr r e).1, (hr r e).2⟩)

/-- What the function of All hands to yield. -/
def atV (s : ByteArray) (p : Nat) : Array Value := #[.int .i64 p, .int .i32 (rn s p)]

set_option maxHeartbeats 1000000 in
theorem gall1_seq (s : ByteArray) (bx : Nat) (w : World) (hbx : Boxed w bx 9 (.string s)) :
    SeqM Tryz.prog 157 #[.pointer (some ⟨bx, 0, none⟩)] (atV s) bx 1 (starts s) w := by
  intro l J Jx W hW hJ hJx hY h0
  have hbW : Boxed W bx 9 (.string s) := (hW.block bx hbx.lt).trans hbx
  have hc := hbW.cell
  refine callsIn_of_wp Tryz.func157 rfl trivial ?_ rfl
  simp only [Tryz.ntmps157, List.size_toArray, List.length_cons, List.length_nil, Nat.reduceAdd, Nat.reduceSub, Array.replicate_succ, Array.replicate_zero, List.push_toArray, List.append_toArray, List.nil_append, List.cons_append]
  gi_wp2
  gi_loopw [] (fun wr => ∃ (pos fuel : Nat) (pre : List Nat), starts s = pre ++ startsFrom s fuel pos ∧ s.size ≤ pos + fuel ∧ J pre wr ∧ wr.heap[W.heap.size]? = some (.stringIter s pos)) (fun wr => s.size - wr.iterPos W.heap.size)
  case atStart =>
    exact ⟨0, s.size, [], rfl, by omega, hJ.alloc _ h0, World.iter_heap W s 0⟩
  case round =>
    obtain ⟨pos, fuel, pre, hst, hfu, hj, hit⟩ := hrel
    by_cases hp : pos < s.size
    · have hnx : ∀ ty, (Instr.next (.pointer (some ⟨W.heap.size, 0, none⟩)) true ty).run Tryz.prog wr = .ok (.tuple #[.bool true, .int .i64 pos, .int .i32 (rn s pos)]) (wr.iterAt W.heap.size s (pos + wdt s pos)) := fun ty => Lib.run_next_any_at wr W.heap.size s pos ty hit hp
      have hit2 := Lib.iterAt_heap wr W.heap.size s pos (pos + wdt s pos) hit
      have hj2 : J pre (wr.iterAt W.heap.size s (pos + wdt s pos)) := hJ.putObj _ hj (Nat.le_refl _) hit rfl
      have hsz : W.heap.size + 1 ≤ (wr.iterAt W.heap.size s (pos + wdt s pos)).heap.size := (Array.getElem?_eq_some_iff.1 hit2).1
      have hpr : pre ++ [pos] <+: starts s := by
        obtain ⟨f, rfl⟩ : ∃ f, fuel = f + 1 := ⟨fuel - 1, by omega⟩
        rw [startsFrom_step s f pos hp] at hst
        exact ⟨startsFrom s f (pos + wdt s pos), by rw [hst]; simp⟩
      obtain ⟨fn, tmps, assign, body, hy, hR⟩ := hY pre pos _ hj2 hsz hpr
      have hy' : (Instr.yield l #[.int .i64 pos, .int .i32 (rn s pos)]).run Tryz.prog (wr.iterAt W.heap.size s (pos + wdt s pos)) = .ok (.round l fn tmps assign body) (wr.iterAt W.heap.size s (pos + wdt s pos)) := hy
      clear hy
      gi_wp2
      refine ⟨rfl, hR.mono ?_⟩
      rintro e W3 ⟨hkp, (⟨rfl, hj3⟩ | ⟨rfl, hjx⟩)⟩
      · have hit3 := (hkp.rng W.heap.size (Nat.le_refl _) (by omega)).trans hit2
        gi_wp2
        go_roundw
        case rel =>
          obtain ⟨f, rfl⟩ : ∃ f, fuel = f + 1 := ⟨fuel - 1, by omega⟩
          have := wdt_pos s pos
          rw [startsFrom_step s f pos hp] at hst
          exact ⟨pos + wdt s pos, f, pre ++ [pos], by rw [hst]; simp, by omega, hj3, hit3⟩
        case measure =>
          have := wdt_pos s pos
          simp only [World.iterPos, hit3, hit]
          omega
      · gi_wp2
        refine bodyPost_ret (results_none rfl _ _ _) rfl ?_
        exact ⟨⟨_, rfl⟩, .inr ⟨_, hpr, hjx⟩⟩
    · have hnx : ∀ ty, (Instr.next (.pointer (some ⟨W.heap.size, 0, none⟩)) true ty).run Tryz.prog wr = .ok (.tuple #[.bool false]) wr := fun ty => Lib.run_next_end_at wr W.heap.size s pos ty hit hp
      gi_wp2
      go_end0
      rw [startsFrom_end s fuel pos hp, List.append_nil] at hst
      exact ⟨⟨_, rfl⟩, .inl (by rw [hst]; exact hj)⟩

/-- All(s): the function, over a new box that holds s. -/
theorem gall_any (s : ByteArray) (w : World) :
    Calls Tryz.prog 153 #[.string s] w fun e w' => e = .returned (.func (.func 157) #[] #[.pointer (some ⟨w.heap.size, 0, none⟩)]) ∧ w' = w.alloc (.cells #[.string s] 9) := by
  go_enter Tryz.func153, Tryz.ntmps153
  go_wp2
  go_ret
  exact ⟨rfl, rfl⟩
theorem each_any (s : ByteArray) (w : World) :
    Calls Tryz.prog 144 #[.string s] w fun e w' => e = .returned (.func (.func 152) #[] #[.pointer (some ⟨w.heap.size, 0, none⟩)]) ∧ w' = w.alloc (.cells #[.string s] 9) := by
  go_enter Tryz.func144, Tryz.ntmps144
  go_wp2
  go_ret
  exact ⟨rfl, rfl⟩

/-- A world that has only drawn. -/
structure Drawn (W W' : World) : Prop where
  os : W'.os = W.os
  tape : W'.tape = W.tape
  output : W'.output = W.output
  heap : W'.heap = W.heap

theorem Drawn.below {W W' W'' : World} (h : Drawn W W') (hb : Below W'.heap.size W' W'') : Below W.heap.size W W'' :=
  ⟨hb.os.trans h.os, hb.tape.trans h.tape, hb.output.trans h.output, by have := hb.size; rw [h.heap] at this; exact this, fun k hk => by have := hb.block k (by rw [h.heap]; exact hk); rw [h.heap] at this; exact this⟩

/-- What a round of a loop over the function of each has done. -/
def Rnd (J Jx : List Nat → World → Prop) (bx B : Nat) (Wc : World) (pre : List Nat) (x : Nat) (b : Bool) (W' : World) : Prop :=
  Kept bx B 5 Wc W' ∧ (b = true → J (pre ++ [x]) W') ∧ (b = false → Jx (pre ++ [x]) W')

/-- What a round of the function of each does ahead of its yield: charAt; and what yield then is. -/
theorem round1 {s : ByteArray} {l bx B : Nat} {ty ts : TypeId} {J Jx : List Nat → World → Prop} (hJ : OwnFrom B J) (hs : s.size ≤ maxLen)
    (hY : ∀ (pre : List Nat) (x : Nat) (W1 : World), J pre W1 → B + 5 ≤ W1.heap.size → pre ++ [x] <+: starts s → YieldAt Fence.wide 0 Tryz.prog l #[chV s x] W1 fun e W' =>
      Kept bx B 5 W1 W' ∧ ((e = .returned (.bool true) ∧ J (pre ++ [x]) W') ∨ (e = .returned (.bool false) ∧ Jx (pre ++ [x]) W')))
    {pre : List Nat} {x : Nat} {Wc : World} (hj : J pre Wc) (hby : Boxed Wc B ty (.func (.yield l) #[] #[])) (hbs : Boxed Wc bx ts (.string s)) (hx : x < s.size) (hsz : B + 5 ≤ Wc.heap.size) (hpr : pre ++ [x] <+: starts s)
    (Wd : World) (hd : Drawn Wc Wd) :
    Calls Tryz.prog 154 #[.string s, .int .i64 x, .int .i32 (rn s x)] Wd fun e w1 => e = .returned (chV s x) ∧ w1.cell? ⟨B, 0, none⟩ = some (.func (.yield l) #[] #[]) ∧
      ∃ fn tmps assign body, (Instr.yield l #[chV s x]).run Tryz.prog w1 = .ok (.round l fn tmps assign body) w1 ∧ RoundIn Fence.wide 0 Tryz.prog l fn tmps assign body w1 fun e W' =>
        ∃ b, e = .returned (.bool b) ∧ Rnd J Jx bx B Wc pre x b W' := by
  refine (charAt_any s x hx hs Wd).mono ?_
  rintro e w1 ⟨rfl, hb⟩
  have hb1 := hd.below hb
  have hj1 := own_below hJ hj hb1
  obtain ⟨fn, tmps, assign, body, hy, hR⟩ := hY pre x w1 hj1 (by have := hb1.size; omega) hpr
  refine ⟨rfl, Boxed.cell ((hb1.block _ hby.lt).trans hby), fn, tmps, assign, body, hy, hR.mono ?_⟩
  rintro e W' ⟨hk, (⟨rfl, h⟩ | ⟨rfl, h⟩)⟩
  · exact ⟨true, rfl, (Kept.below hb1 hbs.lt hsz).trans hk, fun _ => h, (fun h => by cases h)⟩
  · exact ⟨false, rfl, (Kept.below hb1 hbs.lt hsz).trans hk, (fun h => by cases h), fun _ => h⟩

end Go.Proofs.YtnkpohkodkjkfaaGreatDoor
namespace Go.Proofs.YtnkpohkodkjkfaaGreatDoor
open Go.RowKit Go.Shelf
attribute [local go_sem] Oper.semAt_some

set_option maxHeartbeats 4000000 in
theorem each1_seq (s : ByteArray) (hs : s.size ≤ maxLen) (bx : Nat) (w : World) (hbx : Boxed w bx 9 (.string s)) :
    SeqM Tryz.prog 152 #[.pointer (some ⟨bx, 0, none⟩)] (fun p => #[chV s p]) bx 5 (starts s) w := by
  intro l J Jx W hW hJ hJx hY h0
  have hbW : Boxed W bx 9 (.string s) := (hW.block bx hbx.lt).trans hbx
  have hc := hbW.cell
  have hlt := hbW.lt
  have hc1 := (hbW.alloc (.cells #[.func (.yield l) #[] #[]] 214)).cell
  refine callsIn_of_wp_marks Tryz.func152 rfl trivial ?_ rfl
  simp only [Tryz.ntmps152, List.size_toArray, List.length_cons, List.length_nil, Nat.reduceAdd, Nat.reduceSub, Array.replicate_succ, Array.replicate_zero, List.push_toArray, List.append_toArray, List.nil_append, List.cons_append]
  gi_wp2_with (refine ⟨trivial, rfl, ?_⟩; gi_at_call 153; refine (callsIn_wide.2 (gall_any s _)).mono ?_; rintro e w' ⟨rfl, rfl⟩)
  have hbY := Boxed.new W 214 (.func (.yield l) #[] #[])
  have hbA := Boxed.new (W.alloc (.cells #[.func (.yield l) #[] #[]] 214)) 9 (.string s)
  rw [World.size_alloc] at hbA
  have hI0 := hJ.alloc (.cells #[.string s] 9) (hJ.alloc (.cells #[.func (.yield l) #[] #[]] 214) h0)
  refine wp_range (kb := 0) (gf := 157) (lb := #[.pointer (some ⟨W.heap.size + 1, 0, none⟩)]) rfl (enters_of Tryz.func157 (by kernel_rfl) rfl)
    (gall1_seq s (W.heap.size + 1) _ hbA) (by simp) (fun _ => rfl)
    (fun pre Wc => J pre Wc ∧ Boxed Wc W.heap.size 214 (.func (.yield l) #[] #[]) ∧ Boxed Wc bx 9 (.string s))
    (fun c pre Wc => c = .ret ∧ Jx pre Wc)
    ((ownFrom_le hJ (by simp; omega)).and (OwnFrom.and ((boxed_own _ _ _).from _) ((boxed_own _ _ _).from _)))
    (fun c => OwnFrom.and (ownFrom_pure _ (fun _ => c = .ret)) (ownFrom_le hJx (by simp; omega)))
    ⟨hI0, hbY.alloc _, (hbW.alloc _).alloc _⟩
    (fun x a' _ => a' = { tmps := #[.func (.yield l) #[] #[], .pointer (some ⟨bx, 0, none⟩), .pointer (some ⟨W.heap.size, 0, none⟩), .int .i64 x, .int .i32 (rn s x), .string s, .func (.func 157) #[] #[.pointer (some ⟨W.heap.size + 1, 0, none⟩)], .int .i64 x, .int .i32 (rn s x), undef, undef, undef, undef, undef, undef, undef], defers := [] })
    (fun _ _ _ _ _ _ hs _ _ => hs) ?assign ?body ?done ?stop
  case assign =>
    rintro l2 pre x Wc K hi hsz hK
    simp only [atV]
    gi_wp2
    exact hK _ _ (Kept.refl _ _ _ _) hi rfl
  case body =>
    rintro l2 pre x a' Wc ⟨hj, hby, hbs⟩ rfl hsz hpr
    have hx : x < s.size := starts_lt s x (hpr.subset (by simp))
    have hsz' : W.heap.size + 5 ≤ Wc.heap.size := by simp at hsz; omega
    have HR := CallsIn.inRound l2 ((callsIn_wide (n := 0)).2 (round1 hJ hs hY hj hby hbs hx hsz' hpr Wc.drew ⟨rfl, rfl, rfl, rfl⟩))
    have hcy := hby.cell
    have hcs := hbs.cell
    have hmx : Tryz.prog.follows .mixedOrders = true := by kernel_rfl
    have fin : ∀ b W', Rnd J Jx bx W.heap.size Wc pre x b W' → Kept bx W.heap.size 5 Wc W' ∧ (b = true → J (pre ++ [x]) W') ∧ (b = false → Jx (pre ++ [x]) W') := fun _ _ h => h
    generalize Rnd J Jx bx W.heap.size Wc pre x = R at HR fin
    gi_wp2
    refine wpIn_mono (Q := fun e a W' => e = .normal ∧ ∃ b : Bool, a = { tmps := #[.func (.yield l) #[] #[], .pointer (some ⟨bx, 0, none⟩), .pointer (some ⟨W.heap.size, 0, none⟩), .int .i64 x, .int .i32 (rn s x), .string s, .func (.func 157) #[] #[.pointer (some ⟨W.heap.size + 1, 0, none⟩)], .int .i64 x, .int .i32 (rn s x), .func (.yield l) #[] #[], .string s, .int .i64 x, .int .i32 (rn s x), chV s x, .bool b, .bool (!b)], defers := [] } ∧ R b W') ?_ ?_
    · rename_i Q1 K1 hK1
      clear hK1 K1 fin hY hJ hJx hW h0 hbW hc hlt hc1 hbY hbA hI0 hj hby hbs hx hsz hpr hsz' hs hbx
      clear Q1
      gi_region_with_o (first
      | (with_reducible (refine And.intro wdep ?_); refine RoundIn.mono (round_in l2 hR) ?_; clear hR; rintro e W3 ⟨b, rfl, hjb⟩)
      | (with_reducible (refine And.intro (wfn _) (And.intro wdep ?_)); gi_at_call 154; refine HR.mono ?_; clear HR; rintro e w1 ⟨rfl, hcy1, fn, tmps, assign, body, hyy, hR⟩))
      all_goals exact ⟨rfl, b, rfl, hjb⟩
    · rintro e a1 W3 ⟨rfl, b, rfl, hR⟩
      obtain ⟨hkp, hj1, hj2⟩ := fin b W3 hR
      have hk3 : Kept (W.heap.size + 1) (W.heap.size + 1 + 1) 3 Wc W3 := ⟨hkp.size, hkp.rng _ (by omega) (by omega), fun k h1 h2 => hkp.rng k (by omega) (by omega)⟩
      cases b
      · have hjf := hj2 rfl
        clear hj1 hj2
        gi_wp2
        exact ⟨by first | exact hk3 | simpa using hk3, rfl, hjf⟩
      · have hjt := hj1 rfl
        clear hj1 hj2
        gi_wp2
        exact ⟨by first | exact hk3 | simpa using hk3, hjt, (hkp.rng _ (Nat.le_refl _) (by omega)).trans hby, hkp.box.trans hbs⟩
  case done =>
    rintro Wc ⟨hj, _, _⟩ hK
    gi_wp2
    refine ⟨by simp, .inl ⟨_, _, rfl, run_takeDeferred hK, ?_⟩⟩
    exact ⟨_, results_none rfl _ _ _, ⟨_, rfl⟩, .inl (hJ.putObj _ hj (by simp; omega) hK rfl)⟩
  case stop =>
    rintro c pre Wc hpr ⟨rfl, hjx⟩ hK
    gi_wp2
    refine ⟨by simp, .inl ⟨_, _, rfl, run_takeDeferred hK, ?_⟩⟩
    exact ⟨_, results_none rfl _ _ _, ⟨_, rfl⟩, .inr ⟨pre, hpr, hJx.putObj _ hjx (by simp; omega) hK rfl⟩⟩
end Go.Proofs.YtnkpohkodkjkfaaGreatDoor
namespace Go.Proofs.YtnkpohkodkjkfaaGreatDoor
open Go.Lib

/-! the ids of a set, as a list -/
def idsTo (M n : Nat) : List Nat := (List.range n).filter M.testBit
theorem idsTo_succ (M n : Nat) : idsTo M (n + 1) = idsTo M n ++ (if M.testBit n then [n] else []) := by
  unfold idsTo
  rw [List.range_succ, List.filter_append]
  cases h : M.testBit n <;> simp [h]
theorem idsTo_gap (M n : Nat) : ∀ k, (∀ i, n ≤ i → i < n + k → M.testBit i = false) → idsTo M (n + k) = idsTo M n
  | 0, _ => rfl
  | k + 1, h => by
    rw [← Nat.add_assoc, idsTo_succ, h (n + k) (by omega) (by omega), idsTo_gap M n k (fun i h1 h2 => h i h1 (by omega))]
    simp
theorem idsTo_next (M n t : Nat) (hn : n ≤ t) (h : ∀ i, n ≤ i → i < t → M.testBit i = false) (ht : M.testBit t = true) : idsTo M (t + 1) = idsTo M n ++ [t] := by
  rw [idsTo_succ, ht]
  have := idsTo_gap M n (t - n) (fun i h1 h2 => h i h1 (by omega))
  rw [show n + (t - n) = t by omega] at this
  rw [this]; rfl
theorem idsTo_prefix (M : Nat) {n m : Nat} (h : n ≤ m) : idsTo M n <+: idsTo M m := by
  obtain ⟨k, rfl⟩ : ∃ k, m = n + k := ⟨m - n, by omega⟩
  induction k with
  | zero => exact List.prefix_rfl
  | succ k ih => rw [← Nat.add_assoc, idsTo_succ]; exact (ih (by omega)).trans (List.prefix_append _ _)
theorem idsTo_length (M : Nat) : ∀ n, (idsTo M n).length = popAux n M
  | 0 => rfl
  | n + 1 => by rw [idsTo_succ, List.length_append, idsTo_length M n, popAux_succ']; cases M.testBit n <;> rfl
theorem mem_idsTo {M n i : Nat} : i ∈ idsTo M n ↔ i < n ∧ M.testBit i = true := by simp [idsTo]
/-- A word of which the lowest p bits are struck. -/
def High (x y p : Nat) : Prop := ∀ i, x.testBit i = (decide (p ≤ i) && y.testBit i)
theorem testBit_ctz (x : Nat) (h0 : x ≠ 0) (h : x < 4294967296) : x.testBit (ctz 32 x) = true ∧ (∀ i, i < ctz 32 x → x.testBit i = false) ∧ ctz 32 x < 32 ∧ (x &&& (x - 1)).testBit (ctz 32 x) = false ∧ (∀ i, ctz 32 x < i → (x &&& (x - 1)).testBit i = x.testBit i) := by
  have hz : ctz 32 x = ctzFrom 32 x := by simp [ctz, h0]
  obtain ⟨m, hm, hk⟩ := ctzFrom_spec 32 x (by omega) h
  rw [← hz] at hm hk
  generalize ctz 32 x = k at *
  have h1 : x - 1 = 2 ^ k * (2 * m) + (2 ^ k - 1) := by
    have := Nat.one_le_two_pow (n := k)
    rw [hm, Nat.mul_add]; omega
  have b1 : ∀ i, x.testBit i = (decide (k ≤ i) && (2 * m + 1).testBit (i - k)) := fun i => by rw [hm, Nat.mul_comm, Nat.testBit_mul_two_pow]
  have b2 : ∀ i, k ≤ i → (x - 1).testBit i = (2 * m).testBit (i - k) := fun i hi => by
    have e : (x - 1) / 2 ^ k = 2 * m := by
      rw [h1, Nat.mul_add_div (Nat.two_pow_pos k), Nat.div_eq_of_lt (by have := Nat.two_pow_pos k; omega)]; rfl
    rw [← e, Nat.testBit_div_two_pow]
    congr 1; omega
  refine ⟨by rw [b1]; simp [Nat.testBit_zero], fun i hi => by rw [b1]; simp; omega, hk, ?_, fun i hi => ?_⟩
  · rw [Nat.testBit_and, b2 k (Nat.le_refl _)]
    simp [Nat.testBit_zero]
  · rw [Nat.testBit_and, b2 i (by omega), b1]
    obtain ⟨d, hd⟩ : ∃ d, i - k = d + 1 := ⟨i - k - 1, by omega⟩
    rw [hd, Nat.testBit_succ, Nat.testBit_succ]
    have e1 : (2 * m + 1) / 2 = m := by omega
    have e2 : (2 * m) / 2 = m := by omega
    rw [e1, e2]
    cases m.testBit d <;> simp
theorem High.next {x y p : Nat} (h : High x y p) (h0 : x ≠ 0) (hx : x < 4294967296) : p ≤ ctz 32 x ∧ y.testBit (ctz 32 x) = true ∧ (∀ i, p ≤ i → i < ctz 32 x → y.testBit i = false) ∧ High (x &&& (x - 1)) y (ctz 32 x + 1) := by
  obtain ⟨c1, c2, c3, c4, c5⟩ := testBit_ctz x h0 hx
  generalize ctz 32 x = k at *
  have a1 := h k
  rw [c1] at a1
  simp only [Bool.true_eq, Bool.and_eq_true, decide_eq_true_eq] at a1
  refine ⟨a1.1, a1.2, fun i h1 h2 => ?_, fun i => ?_⟩
  · have := h i
    rw [c2 i h2] at this
    simpa [h1] using this.symm
  · by_cases e : k + 1 ≤ i
    · rw [c5 i (by omega), h i]
      simp [show p ≤ i by omega, e]
    · simp only [e, decide_false, Bool.false_and]
      by_cases e2 : i = k
      · rw [e2]; exact c4
      · rw [Nat.testBit_and, c2 i (by omega)]; rfl
theorem and_pred_lt (x : Nat) (h : x ≠ 0) : x &&& (x - 1) < x := Nat.lt_of_le_of_lt Nat.and_le_right (by omega)
def intsV (l : List Nat) : List Value := l.map fun x : Nat => .int .i64 (x : Int)
end Go.Proofs.YtnkpohkodkjkfaaGreatDoor
