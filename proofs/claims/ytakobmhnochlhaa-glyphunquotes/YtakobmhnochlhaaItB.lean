/- The words of glyph.All and of its function, as an iterator: at every text. -/
import Derived.Test.YtakobmhnochlhaaItA
namespace Go.Proofs.Ytakobmhnochlhaa
open Go.RowKit Go.Shelf
attribute [local go_sem] Oper.semAt_some

theorem wfn (k : Nat) : Fence.wide.fn k := trivial
theorem wdep : Fence.wide.depth = none := rfl
theorem round_in {F : Fence} {n : Nat} {P : Program} {l : Nat} {f : FuncId} {tmps : Array Value} {assign body : Code} {w : World} {R : Ending → World → Prop} (l2 : Nat) (h : RoundIn F n P l f tmps assign body w R) : RoundIn (F.inRound l2) n P l f tmps assign body w R := h
theorem ownFrom_le {β : Type} {B B' : Nat} {I : β → World → Prop} (h : OwnFrom B I) (hle : B ≤ B') : OwnFrom B' I := fun s W W' row hs hg hr => h s W W' row hs hg (fun r e => ⟨Nat.le_trans hle (hr r e).1, (hr r e).2⟩)

/-- What the function of All hands to yield. -/
def atV (s : ByteArray) (p : Nat) : Array Value := #[.int .i64 p, .int .i32 (rn s p)]

set_option maxHeartbeats 1000000 in
theorem all1_seq (s : ByteArray) (bx : Nat) (w : World) (hbx : Boxed w bx 9 (.string s)) :
    SeqM Try.prog 35 #[.pointer (some ⟨bx, 0, none⟩)] (atV s) bx 1 (starts s) w := by
  intro l J Jx W hW hJ hJx hY h0
  have hbW : Boxed W bx 9 (.string s) := (hW.block bx hbx.lt).trans hbx
  have hc := hbW.cell
  refine callsIn_of_wp Try.func35 rfl trivial ?_ rfl
  simp only [Try.ntmps35, List.size_toArray, List.length_cons, List.length_nil, Nat.reduceAdd, Nat.reduceSub, Array.replicate_succ, Array.replicate_zero, List.push_toArray, List.append_toArray, List.nil_append, List.cons_append]
  gi_wp2
  gi_loopw [] (fun wr => ∃ (pos fuel : Nat) (pre : List Nat), starts s = pre ++ startsFrom s fuel pos ∧ s.size ≤ pos + fuel ∧ J pre wr ∧ wr.heap[W.heap.size]? = some (.stringIter s pos)) (fun wr => s.size - wr.iterPos W.heap.size)
  case atStart =>
    exact ⟨0, s.size, [], rfl, by omega, hJ.alloc _ h0, World.iter_heap W s 0⟩
  case round =>
    obtain ⟨pos, fuel, pre, hst, hfu, hj, hit⟩ := hrel
    by_cases hp : pos < s.size
    · have hnx : ∀ ty, (Instr.next (.pointer (some ⟨W.heap.size, 0, none⟩)) true ty).run Try.prog wr = .ok (.tuple #[.bool true, .int .i64 pos, .int .i32 (rn s pos)]) (wr.iterAt W.heap.size s (pos + wd s pos)) := fun ty => Lib.run_next_any_at wr W.heap.size s pos ty hit hp
      have hit2 := Lib.iterAt_heap wr W.heap.size s pos (pos + wd s pos) hit
      have hj2 : J pre (wr.iterAt W.heap.size s (pos + wd s pos)) := hJ.putObj _ hj (Nat.le_refl _) hit rfl
      have hsz : W.heap.size + 1 ≤ (wr.iterAt W.heap.size s (pos + wd s pos)).heap.size := (Array.getElem?_eq_some_iff.1 hit2).1
      have hpr : pre ++ [pos] <+: starts s := by
        obtain ⟨f, rfl⟩ : ∃ f, fuel = f + 1 := ⟨fuel - 1, by omega⟩
        rw [startsFrom_step s f pos hp] at hst
        exact ⟨startsFrom s f (pos + wd s pos), by rw [hst]; simp⟩
      obtain ⟨fn, tmps, assign, body, hy, hR⟩ := hY pre pos _ hj2 hsz hpr
      have hy' : (Instr.yield l #[.int .i64 pos, .int .i32 (rn s pos)]).run Try.prog (wr.iterAt W.heap.size s (pos + wd s pos)) = .ok (.round l fn tmps assign body) (wr.iterAt W.heap.size s (pos + wd s pos)) := hy
      clear hy
      gi_wp2
      refine ⟨rfl, hR.mono ?_⟩
      rintro e W3 ⟨hkp, (⟨rfl, hj3⟩ | ⟨rfl, hjx⟩)⟩
      · have hit3 := (hkp.rng W.heap.size (Nat.le_refl _) (by omega)).trans hit2
        gi_wp2
        go_roundw
        case rel =>
          obtain ⟨f, rfl⟩ : ∃ f, fuel = f + 1 := ⟨fuel - 1, by omega⟩
          have := wd_pos s pos
          rw [startsFrom_step s f pos hp] at hst
          exact ⟨pos + wd s pos, f, pre ++ [pos], by rw [hst]; simp, by omega, hj3, hit3⟩
        case measure =>
          have := wd_pos s pos
          simp only [World.iterPos, hit3, hit]
          omega
      · gi_wp2
        refine bodyPost_ret (results_none rfl _ _ _) rfl ?_
        exact ⟨⟨_, rfl⟩, .inr ⟨_, hpr, hjx⟩⟩
    · have hnx : ∀ ty, (Instr.next (.pointer (some ⟨W.heap.size, 0, none⟩)) true ty).run Try.prog wr = .ok (.tuple #[.bool false]) wr := fun ty => Lib.run_next_end_at wr W.heap.size s pos ty hit hp
      gi_wp2
      go_end0
      rw [startsFrom_end s fuel pos hp, List.append_nil] at hst
      exact ⟨⟨_, rfl⟩, .inl (by rw [hst]; exact hj)⟩

/-- All(s): the function, over a new box that holds s. -/
theorem all_any (s : ByteArray) (w : World) :
    Calls Try.prog 31 #[.string s] w fun e w' => e = .returned (.func (.func 35) #[] #[.pointer (some ⟨w.heap.size, 0, none⟩)]) ∧ w' = w.alloc (.cells #[.string s] 9) := by
  go_enter Try.func31, Try.ntmps31
  go_wp2
  go_ret
  exact ⟨rfl, rfl⟩
theorem each_any (s : ByteArray) (w : World) :
    Calls Try.prog 20 #[.string s] w fun e w' => e = .returned (.func (.func 30) #[] #[.pointer (some ⟨w.heap.size, 0, none⟩)]) ∧ w' = w.alloc (.cells #[.string s] 9) := by
  go_enter Try.func20, Try.ntmps20
  go_wp2
  go_ret
  exact ⟨rfl, rfl⟩

/-- A world that has only drawn. -/
structure Drawn (W W' : World) : Prop where
  os : W'.os = W.os
  tape : W'.tape = W.tape
  output : W'.output = W.output
  heap : W'.heap = W.heap

theorem Drawn.below {W W' W'' : World} (h : Drawn W W') (hb : Below W'.heap.size W' W'') : Below W.heap.size W W'' :=
  ⟨hb.os.trans h.os, hb.tape.trans h.tape, hb.output.trans h.output, by have := hb.size; rw [h.heap] at this; exact this, fun k hk => by have := hb.block k (by rw [h.heap]; exact hk); rw [h.heap] at this; exact this⟩

/-- What a round of a loop over the function of each has done. -/
def Rnd (J Jx : List Nat → World → Prop) (bx B : Nat) (Wc : World) (pre : List Nat) (x : Nat) (b : Bool) (W' : World) : Prop :=
  Kept bx B 5 Wc W' ∧ (b = true → J (pre ++ [x]) W') ∧ (b = false → Jx (pre ++ [x]) W')

/-- What a round of the function of each does ahead of its yield: charAt; and what yield then is. -/
theorem round1 {s : ByteArray} {l bx B : Nat} {ty ts : TypeId} {J Jx : List Nat → World → Prop} (hJ : OwnFrom B J) (hs : s.size ≤ maxLen)
    (hY : ∀ (pre : List Nat) (x : Nat) (W1 : World), J pre W1 → B + 5 ≤ W1.heap.size → pre ++ [x] <+: starts s → YieldAt Fence.wide 0 Try.prog l #[chV s x] W1 fun e W' =>
      Kept bx B 5 W1 W' ∧ ((e = .returned (.bool true) ∧ J (pre ++ [x]) W') ∨ (e = .returned (.bool false) ∧ Jx (pre ++ [x]) W')))
    {pre : List Nat} {x : Nat} {Wc : World} (hj : J pre Wc) (hby : Boxed Wc B ty (.func (.yield l) #[] #[])) (hbs : Boxed Wc bx ts (.string s)) (hx : x < s.size) (hsz : B + 5 ≤ Wc.heap.size) (hpr : pre ++ [x] <+: starts s)
    (Wd : World) (hd : Drawn Wc Wd) :
    Calls Try.prog 32 #[.string s, .int .i64 x, .int .i32 (rn s x)] Wd fun e w1 => e = .returned (chV s x) ∧ w1.cell? ⟨B, 0, none⟩ = some (.func (.yield l) #[] #[]) ∧
      ∃ fn tmps assign body, (Instr.yield l #[chV s x]).run Try.prog w1 = .ok (.round l fn tmps assign body) w1 ∧ RoundIn Fence.wide 0 Try.prog l fn tmps assign body w1 fun e W' =>
        ∃ b, e = .returned (.bool b) ∧ Rnd J Jx bx B Wc pre x b W' := by
  refine (charAt_any s x hx hs Wd).mono ?_
  rintro e w1 ⟨rfl, hb⟩
  have hb1 := hd.below hb
  have hj1 := own_below hJ hj hb1
  obtain ⟨fn, tmps, assign, body, hy, hR⟩ := hY pre x w1 hj1 (by have := hb1.size; omega) hpr
  refine ⟨rfl, Boxed.cell ((hb1.block _ hby.lt).trans hby), fn, tmps, assign, body, hy, hR.mono ?_⟩
  rintro e W' ⟨hk, (⟨rfl, h⟩ | ⟨rfl, h⟩)⟩
  · exact ⟨true, rfl, (Kept.below hb1 hbs.lt hsz).trans hk, fun _ => h, (fun h => by cases h)⟩
  · exact ⟨false, rfl, (Kept.below hb1 hbs.lt hsz).trans hk, (fun h => by cases h), fun _ => h⟩

end Go.Proofs.Ytakobmhnochlhaa
