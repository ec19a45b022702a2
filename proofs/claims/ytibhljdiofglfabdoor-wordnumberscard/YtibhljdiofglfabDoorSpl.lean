/- What strings.SplitSeq answers, and its function as an iterator: of a text without a line's end. -/
import Derived.Test.YtibhljdiofglfabDoorIdx
import Derived.Test.YtibhljdiofglfabDoorSeq
namespace Go.Proofs.YtibhljdiofglfabDoor
open Go.RowKit Go.Shelf
attribute [local go_sem] Oper.semAt_some

theorem wfn (k : Nat) : Fence.wide.fn k := trivial
theorem wdep : Fence.wide.depth = none := rfl

theorem splitSeq_any (s : ByteArray) (w : World) :
    Calls Tryd.prog 24 #[.string s, .string ⟨#[10]⟩, .int .i64 0] w fun e w' => e = .returned (.func (.func 28) #[] #[.pointer (some ⟨w.heap.size + 1, 0, none⟩), .pointer (some ⟨w.heap.size, 0, none⟩), .pointer (some ⟨w.heap.size + 2, 0, none⟩)]) ∧ w' = ((w.alloc (.cells #[.string s] 9)).alloc (.cells #[.string ⟨#[10]⟩] 9)).alloc (.cells #[.int .i64 0] 3) := by
  go_enter Tryd.func24, Tryd.ntmps24
  go_wp2
  go_ret
  exact ⟨rfl, rfl⟩
theorem split_any (s : ByteArray) (w : World) :
    Calls Tryd.prog 18 #[.string s, .string ⟨#[10]⟩] w fun e w' => e = .returned (.func (.func 28) #[] #[.pointer (some ⟨w.heap.size + 1, 0, none⟩), .pointer (some ⟨w.heap.size, 0, none⟩), .pointer (some ⟨w.heap.size + 2, 0, none⟩)]) ∧ w' = ((w.alloc (.cells #[.string s] 9)).alloc (.cells #[.string ⟨#[10]⟩] 9)).alloc (.cells #[.int .i64 0] 3) := by
  go_enter Tryd.func18, Tryd.ntmps18
  go_wp2_with (go_at_call 24; refine (splitSeq_any s _).mono ?_; rintro e w9 ⟨rfl, rfl⟩)
  go_ret
  exact ⟨rfl, rfl⟩

set_option maxHeartbeats 1000000 in
theorem split1_seq (s : ByteArray) (hn : nlAt s = -1) (k : Nat) (w : World) (h1 : Boxed w k 9 (.string s)) (h2 : Boxed w (k + 1) 9 (.string ⟨#[10]⟩)) :
    SeqM Tryd.prog 28 #[.pointer (some ⟨k + 1, 0, none⟩), .pointer (some ⟨k, 0, none⟩), .pointer (some ⟨k + 2, 0, none⟩)] (fun t : ByteArray => #[.string t]) k 0 [s] w := by
  intro l J Jx W hW hJ hJx hY h0
  have b1 : Boxed W k 9 (.string s) := (hW.block k h1.lt).trans h1
  have b2 : Boxed W (k + 1) 9 (.string ⟨#[10]⟩) := (hW.block (k + 1) h2.lt).trans h2
  have c1 := b1.cell
  have c2 := b2.cell
  have hi := index_any s
  rw [hn] at hi
  refine callsIn_of_wp Tryd.func28 rfl trivial ?_ rfl
  simp only [Tryd.ntmps28, List.size_toArray, List.length_cons, List.length_nil, Nat.reduceAdd, Nat.reduceSub, Array.replicate_succ, Array.replicate_zero, List.push_toArray, List.append_toArray, List.nil_append, List.cons_append]
  gi_wp2
  gi_loopw [] (fun wr => wr = W) (fun _ => 0)
  case atStart => rfl
  case round =>
    subst hrel
    obtain ⟨fn, tmps, assign, body, hy, hR⟩ := hY [] s wr h0 (by omega) ⟨[], by simp⟩
    have hy' : (Instr.yield l #[.string s]).run Tryd.prog wr = .ok (.round l fn tmps assign body) wr := hy
    clear hy
    gi_wp2_with (with_reducible (refine And.intro (wfn _) (And.intro wdep ?_)); gi_at_call 30; refine (callsIn_wide.2 (hi _)).mono ?_; rintro e w' ⟨rfl, hw9⟩; rw [hw9])
    refine ⟨rfl, hR.mono ?_⟩
    rintro e W3 ⟨hkp, (⟨rfl, hj3⟩ | ⟨rfl, hjx⟩)⟩
    · gi_wp2
      go_end0
      exact ⟨⟨_, rfl⟩, .inl hj3⟩
    · gi_wp2
      go_end0
      exact ⟨⟨_, rfl⟩, .inr ⟨_, ⟨[], by simp⟩, hjx⟩⟩
end Go.Proofs.YtibhljdiofglfabDoor
