/- The function of strings.SplitSeq as an iterator over the lines of a text: at every text of at most 2^16 bytes. -/
import Derived.Test.YtibhljdiofglfabDoorSpl
import Derived.Test.YtibhljdiofglfabDoorSqw
import Derived.Lib.IndexLaws
namespace Go.Proofs.YtibhljdiofglfabDoor
open Go.RowKit Go.Shelf
attribute [local go_sem] Oper.semAt_some

/-- The lines of a text. -/
def linesAux : Nat → ByteArray → List ByteArray
  | 0, s => [s]
  | f + 1, s => if nlAt s < 0 then [s] else s.extract 0 (nlAt s).toNat :: linesAux f (s.extract ((nlAt s).toNat + 1) s.size)
def linesOf (s : ByteArray) : List ByteArray := linesAux s.size s
theorem nl_bounds (s : ByteArray) : -1 ≤ nlAt s ∧ nlAt s < s.size := by
  have h1 := Lib.indexByte_ge s.data.toList 10
  refine ⟨h1, ?_⟩
  by_cases h : nlAt s < 0
  · omega
  · obtain ⟨o, ho⟩ := Int.eq_ofNat_of_zero_le (show 0 ≤ nlAt s by omega)
    have h2 := (Lib.indexByte_some (o := o) ho).1
    have h3 := (List.getElem?_eq_some_iff.1 h2).1
    rw [ho]
    have : s.data.toList.length = s.size := by simp
    show ((o : Nat) : Int) < _
    omega
def strSz (k : Nat) (W : World) : Nat := match W.cell? ⟨k, 0, none⟩ with
  | some (.string t) => t.size
  | _ => 0
theorem strSz_of {k : Nat} {W : World} {t : ByteArray} (h : W.cell? ⟨k, 0, none⟩ = some (.string t)) : strSz k W = t.size := by unfold strSz; rw [h]
theorem lines_last {f : Nat} {s : ByteArray} (h : nlAt s < 0) : linesAux f s = [s] := by
  cases f with
  | zero => rfl
  | succ f => rw [linesAux, if_pos h]
theorem lines_more {f : Nat} {s : ByteArray} {n : Nat} (h : nlAt s = (n : Int)) : linesAux (f + 1) s = s.extract 0 n :: linesAux f (s.extract (n + 1) s.size) := by
  rw [linesAux, if_neg (by omega), h]
  rfl

set_option maxHeartbeats 2000000 in
theorem splitW_seq (s : ByteArray) (hs : s.size ≤ 65536) (k : Nat) (w : World) (h1 : Boxed w k 9 (.string s)) (h2 : Boxed w (k + 1) 9 (.string ⟨#[10]⟩)) (h3 : Boxed w (k + 2) 3 (.int .i64 0)) :
    SeqW Tryd.prog 28 #[.pointer (some ⟨k + 1, 0, none⟩), .pointer (some ⟨k, 0, none⟩), .pointer (some ⟨k + 2, 0, none⟩)] (fun t : ByteArray => #[.string t]) k 3 0 (linesOf s) w := by
  intro l J Jx W hW hJ hJx hJw hY h0
  have b1 : Boxed W k 9 (.string s) := (hW.block k h1.lt).trans h1
  have b2 : Boxed W (k + 1) 9 (.string ⟨#[10]⟩) := (hW.block (k + 1) h2.lt).trans h2
  have b3 : Boxed W (k + 2) 3 (.int .i64 0) := (hW.block (k + 2) h3.lt).trans h3
  have hkW := b1.lt
  have c1 := b1.cell
  have c2 := b2.cell
  refine callsIn_of_wp Tryd.func28 rfl trivial ?_ rfl
  simp only [Tryd.ntmps28, List.size_toArray, List.length_cons, List.length_nil, Nat.reduceAdd, Nat.reduceSub, Array.replicate_succ, Array.replicate_zero, List.push_toArray, List.append_toArray, List.nil_append, List.cons_append]
  gi_wp2
  clear c1 c2
  gi_loopw [] (fun wr => ∃ (pre : List ByteArray) (cur : ByteArray) (f : Nat), Hid (linesOf s = pre ++ linesAux f cur) ∧ cur.size ≤ f ∧ cur.size ≤ 65536 ∧ Boxed wr k 9 (.string cur) ∧ Boxed wr (k + 1) 9 (.string ⟨#[10]⟩) ∧ Boxed wr (k + 2) 3 (.int .i64 0) ∧ J pre wr ∧ W.heap.size ≤ wr.heap.size) (fun wr => strSz k wr)
  case atStart =>
    have h : Hid (linesOf s = [] ++ linesAux s.size s) := rfl
    exact ⟨[], s, s.size, h, by omega, hs, b1, b2, b3, h0, Nat.le_refl _⟩
  case round =>
    clear b1 b2 b3 h1 h2 h3 h0
    obtain ⟨pre, cur, f, hli, hf, hcs, b1, b2, b3, hj, hsz⟩ := hrel
    have c1 := b1.cell
    have c2 := b2.cell
    have c3 := b3.cell
    have f1 := b1.frozen
    obtain ⟨hn1, hn2⟩ := nl_bounds cur
    have hi := index_any cur
    by_cases hneg : nlAt cur < 0
    · have e1 : nlAt cur = -1 := by omega
      have hl2 : linesOf s = pre ++ [cur] := by rw [hli.out, lines_last hneg]
      rw [e1] at hi
      obtain ⟨fn, tmps, assign, body, hy, hR⟩ := hY pre cur wr hj (by omega) (by rw [hl2]; exact List.prefix_refl _)
      have hy' : (Instr.yield l #[.string cur]).run Tryd.prog wr = .ok (.round l fn tmps assign body) wr := hy
      clear hy hli hJw hY
      gi_wp2_with (with_reducible (refine And.intro (wfn _) (And.intro wdep ?_)); gi_at_call 30; refine (callsIn_wide.2 (hi _)).mono ?_; rintro e w' ⟨rfl, hw9⟩; rw [hw9])
      refine ⟨rfl, hR.mono ?_⟩
      rintro e W3 ⟨hkp, (⟨rfl, hj3⟩ | ⟨rfl, hjx⟩)⟩
      · gi_wp2
        go_end0
        exact ⟨⟨_, rfl⟩, .inl (by rw [hl2]; exact hj3)⟩
      · gi_wp2
        go_end0
        exact ⟨⟨_, rfl⟩, .inr ⟨_, by rw [hl2]; exact List.prefix_refl _, hjx⟩⟩
    · obtain ⟨n, hn⟩ := Int.eq_ofNat_of_zero_le (show 0 ≤ nlAt cur by omega)
      have hnl : n < cur.size := by omega
      obtain ⟨g, rfl⟩ : ∃ g, f = g + 1 := ⟨f - 1, by omega⟩
      have hl2 : linesOf s = (pre ++ [cur.extract 0 n]) ++ linesAux g (cur.extract (n + 1) cur.size) := by rw [hli.out, lines_more hn]; simp
      rw [hn] at hi
      obtain ⟨fn, tmps, assign, body, hy, hR⟩ := hY pre (cur.extract 0 n) wr hj (by omega) (by rw [hl2]; exact List.prefix_append _ _)
      have hy' : (Instr.yield l #[.string (cur.extract 0 n)]).run Tryd.prog wr = .ok (.round l fn tmps assign body) wr := hy
      have hi' : ∀ w, Calls Tryd.prog 30 #[.string cur, .string ⟨#[10]⟩] w fun e w' => e = .returned (.int .i64 (n : Int)) ∧ w' = w := hi
      have HL : Hid (linesOf s = (pre ++ [cur.extract 0 n]) ++ linesAux g (cur.extract (n + 1) cur.size)) := hl2
      have hpre : Hid (pre ++ [cur.extract 0 n] <+: linesOf s) := by show _ <+: _; rw [hl2]; exact List.prefix_append _ _
      clear hy hli hY hl2 hi hn hneg hn1 hn2
      gi_wp2_with (with_reducible (refine And.intro (wfn _) (And.intro wdep ?_)); gi_at_call 30; refine (callsIn_wide.2 (hi' _)).mono ?_; rintro e w' ⟨rfl, hw9⟩; rw [hw9])
      refine ⟨rfl, hR.mono ?_⟩
      rintro e W3 ⟨hkp, (⟨rfl, hj3⟩ | ⟨rfl, hjx⟩)⟩
      · have d1 : Boxed W3 k 9 (.string cur) := (hkp.box k (by omega) (by omega)).trans b1
        have d2 : Boxed W3 (k + 1) 9 (.string ⟨#[10]⟩) := (hkp.box (k + 1) (by omega) (by omega)).trans b2
        have d3 : Boxed W3 (k + 2) 3 (.int .i64 0) := (hkp.box (k + 2) (by omega) (by omega)).trans b3
        have q1 := d1.cell
        have q2 := d2.cell
        have q3 := d1.frozen
        have q4 := d1.lt
        have hz3 := hkp.size
        have hsz2 : (cur.extract (n + 1) cur.size).size = cur.size - (n + 1) := by rw [ByteArray.size_extract]; omega
        have hni : ((n : Int) + 1) ≤ (cur.size : Int) := by omega
        gi_wp2
        go_roundw
        case rel =>
          exact ⟨pre ++ [cur.extract 0 n], cur.extract (n + 1) cur.size, g, HL, by omega, by omega, d1.set _, d2.other (by omega) _, d3.other (by omega) _, hJw _ _ _ hj3 hkW, by simp [World.setCell]; omega⟩
        case measure =>
          rw [strSz_of (d1.set (.string (cur.extract (n + 1) cur.size))).cell, strSz_of c1]
          omega
      · gi_wp2
        refine bodyPost_ret (results_none rfl _ _ _) rfl ?_
        exact ⟨⟨_, rfl⟩, .inr ⟨_, hpre.out, hjx⟩⟩
end Go.Proofs.YtibhljdiofglfabDoor
