/- audit.Doubts: what it answers. -/
import Derived.Test.YtgnhainfcfcodaaGreatAva
import Derived.Test.YtgnhainfcfcodaaGreatNtc
import Derived.Test.YtgnhainfcfcodaaGreatKpNotices
namespace Go.Proofs.YtgnhainfcfcodaaGreat
open Go.RowKit Go.Shelf Go.Lib
attribute [local go_sem] Oper.semAt_some

/-- An event that begins a suspicion. -/
abbrev dC (n : Nat) (x : Ev) : Prop := x.k = 4 ∧ (0 ≤ x.nd ∧ x.nd < (n : Int)) ∧ (0 ≤ x.of ∧ x.of < (n : Int)) ∧ 0 ≤ x.ta ∧ x.ta ≤ 1048576
/-- The greatest tag at which o is suspected. -/
def bS (n o : Nat) (b : Int) (x : Ev) : Int := if dC n x ∧ x.of = (o : Int) ∧ b < x.ta then x.ta else b
def bT (n o : Nat) (l : List Ev) : Int := l.foldl (bS n o) (-1)
theorem bS_yes {n o : Nat} {b : Int} {x : Ev} (h : dC n x) (ho : x.of = (o : Int)) (hb : b < x.ta) : bS n o b x = x.ta := if_pos ⟨h, ho, hb⟩
theorem bS_no {n o : Nat} {b : Int} {x : Ev} (h : ¬ (dC n x ∧ x.of = (o : Int) ∧ b < x.ta)) : bS n o b x = b := if_neg h
theorem bT_succ {n o j : Nat} {l : List Ev} {x : Ev} (h : l[j]? = some x) : bT n o (l.take (j + 1)) = bS n o (bT n o (l.take j)) x := by
  unfold bT
  obtain ⟨hj, rfl⟩ := List.getElem?_eq_some_iff.1 h
  rw [← List.take_append_getElem hj, List.foldl_append]
  rfl
theorem bT_ok (n o : Nat) (l : List Ev) : ∀ j, j ≤ l.length → -1 ≤ bT n o (l.take j) ∧ bT n o (l.take j) ≤ 1048576
  | 0, _ => by simp [bT]
  | j + 1, h => by
    have ih := bT_ok n o l j (by omega)
    obtain ⟨x, hx⟩ : ∃ x, l[j]? = some x := ⟨_, List.getElem?_eq_getElem (by omega)⟩
    rw [bT_succ hx]
    by_cases hc : dC n x ∧ x.of = (o : Int) ∧ bT n o (l.take j) < x.ta
    · rw [bS_yes hc.1 hc.2.1 hc.2.2]
      have := hc.1.2.2.2
      omega
    · rw [bS_no hc]
      exact ih
/-- What stands of a node. -/
def gN (o : Nat) (b : Int) : Int × Int × Int := if b < 0 then (0, 0, 0) else ((o : Int), b, 2)
def gT (n : Nat) (l : List Ev) (j : Nat) : List (Int × Int × Int) := (List.range n).map fun o => gN o (bT n o (l.take j))
theorem gT_len (n : Nat) (l : List Ev) (j : Nat) : (gT n l j).length = n := by simp [gT]
theorem gT_get {n o : Nat} (l : List Ev) (j : Nat) (h : o < n) : (gT n l j)[o]? = some (gN o (bT n o (l.take j))) := by
  unfold gT
  rw [List.getElem?_map, List.getElem?_range h]
  rfl
theorem gT_zero (n : Nat) (l : List Ev) : gT n l 0 = List.replicate n (0, 0, 0) := by
  unfold gT
  refine List.ext_getElem? fun i => ?_
  by_cases h : i < n
  · rw [List.getElem?_map, List.getElem?_range h, List.getElem?_replicate, if_pos h]
    simp [bT, gN]
  · rw [List.getElem?_eq_none (by simp; omega), List.getElem?_eq_none (by simp; omega)]
theorem gT_no {n j : Nat} {l : List Ev} {x : Ev} (h : l[j]? = some x) (hc : ¬ dC n x) : gT n l (j + 1) = gT n l j := by
  unfold gT
  refine List.map_congr_left fun o _ => ?_
  rw [bT_succ h, bS_no (fun q => hc q.1)]
theorem gT_less {n j o : Nat} {l : List Ev} {x : Ev} (h : l[j]? = some x) (ho : x.of = (o : Int)) (hb : ¬ bT n o (l.take j) < x.ta) : gT n l (j + 1) = gT n l j := by
  unfold gT
  refine List.map_congr_left fun p _ => ?_
  rw [bT_succ h, bS_no (fun q => hb (by
    have : p = o := by
      have := q.2.1
      omega
    rw [← this]
    exact q.2.2))]
theorem gT_put {n j o : Nat} {l : List Ev} {x : Ev} (h : l[j]? = some x) (hc : dC n x) (ho : x.of = (o : Int)) (hb : bT n o (l.take j) < x.ta) : gT n l (j + 1) = (gT n l j).set o ((o : Int), x.ta, 2) := by
  have hn : o < n := by
    have := hc.2.2.1
    omega
  refine List.ext_getElem? fun p => ?_
  by_cases hp : p < n
  · rw [gT_get l (j + 1) hp]
    by_cases e : o = p
    · subst e
      rw [List.getElem?_set_self (by rw [gT_len]; exact hn), bT_succ h, bS_yes hc ho hb]
      unfold gN
      rw [if_neg (by have := hc.2.2.2; omega)]
    · rw [List.getElem?_set_ne e, gT_get l j hp, bT_succ h, bS_no (fun q => e (by have := q.2.1; omega))]
  · rw [List.getElem?_eq_none (by rw [gT_len]; omega), List.getElem?_eq_none (by rw [List.length_set, gT_len]; omega)]
/-- The doubts. -/
def dbO (n : Nat) (l : List Ev) (m : Nat) : List (Int × Int × Int) := (List.range m).filterMap fun o => if bT n o l < 0 then none else some ((o : Int), bT n o l, 2)
theorem dbO_no {n m : Nat} {l : List Ev} (h : bT n m l < 0) : dbO n l (m + 1) = dbO n l m := by
  unfold dbO
  rw [List.range_succ, List.filterMap_append]
  simp [h]
theorem dbO_yes {n m : Nat} {l : List Ev} (h : ¬ bT n m l < 0) : dbO n l (m + 1) = dbO n l m ++ [((m : Int), bT n m l, 2)] := by
  unfold dbO
  rw [List.range_succ, List.filterMap_append]
  simp [h]
theorem dbO_len (n : Nat) (l : List Ev) : ∀ m, (dbO n l m).length ≤ m
  | 0 => by simp [dbO]
  | m + 1 => by
    have := dbO_len n l m
    by_cases h : bT n m l < 0
    · rw [dbO_no h]; omega
    · rw [dbO_yes h, List.length_append]; simp; omega
theorem made3K (N : Nat) : madeCells (Value.agg #[.int .i64 0, .int .i64 0, .int .i64 0]).cells (N * 3) = (Kel.fc Kel.cNotices (List.replicate N (0, 0, 0))).toArray := by
  have hz : (Value.agg #[.int .i64 0, .int .i64 0, .int .i64 0]).cells = #[.int .i64 0, .int .i64 0, .int .i64 0] := rfl
  have hsz : (Kel.fc Kel.cNotices (List.replicate N (0, 0, 0))).length = N * 3 := by rw [Kel.fc_len Kel.hsNotices, List.length_replicate]
  refine Array.ext_getElem? fun j => ?_
  by_cases hj : j < N * 3
  · have e1 : (Kel.fc Kel.cNotices (List.replicate N (0, 0, 0))).toArray[j]? = some (.int .i64 0) := by
      rw [List.getElem?_toArray]
      have := Kel.fc_get Kel.hsNotices (List.replicate N ((0, 0, 0) : Int × Int × Int)) (j / 3) (0, 0, 0) (by rw [List.getElem?_replicate, if_pos (by omega)]) (j % 3) (Nat.mod_lt _ (by decide))
      rw [show j / 3 * 3 + j % 3 = j by omega] at this
      rw [this]
      have h3 : j % 3 < 3 := Nat.mod_lt _ (by decide)
      match j % 3, h3 with
      | 0, _ => rfl
      | 1, _ => rfl
      | 2, _ => rfl
    rw [e1, Array.getElem?_eq_getElem (by rw [size_madeCells]; exact hj)]
    simp only [madeCells, hz, Array.getElem_map, Array.getElem_range]
    have h3 : j % 3 < 3 := Nat.mod_lt _ (by decide)
    simp only [List.size_toArray, List.length_cons, List.length_nil]
    match j % 3, h3 with
    | 0, _ => rfl
    | 1, _ => rfl
    | 2, _ => rfl
  · rw [Array.getElem?_eq_none (by rw [size_madeCells]; omega), Array.getElem?_eq_none (by simp [hsz]; omega)]
theorem mk_ntcs (N : Nat) (hN : N ≤ 100) (W : World) : (Instr.makeSlice 29 (.int .i64 (N : Int)) (.int .i64 (N : Int))).run Tryz.prog W = .ok (.slice (some ⟨W.heap.size, 0, none⟩) N N) (W.alloc (.cells (Kel.fc Kel.cNotices (List.replicate N (0, 0, 0))).toArray 63)) := by
  obtain ⟨ic, hic, hz0, hz1, hz2⟩ := Kel.info_parts (t := 63) (z := some (.agg #[.int .i64 0, .int .i64 0, .int .i64 0])) (s := 3) (b := 24) (by kernel_rfl)
  have h := run_make (P := Tryz.prog) W 29 63 ic _ Tryz.underlying29 hic hz0 .i64 .i64 (N : Int) (N : Int) (by omega) (by omega) (by rw [hz2]; omega) (by omega)
  rw [hz1, Int.toNat_natCast, made3K] at h
  simpa using h
theorem ntcs_own (N : Nat) (hN : N ≤ 100) (W : World) : (W.alloc (.cells (Kel.fc Kel.cNotices (List.replicate N (0, 0, 0))).toArray 63)).ownsRow W.heap.size 63 3 (.slice (some ⟨W.heap.size, 0, none⟩) N N) N (Kel.fc Kel.cNotices (List.replicate N (0, 0, 0))) := by
  have hsz : (Kel.fc Kel.cNotices (List.replicate N (0, 0, 0))).length = N * 3 := by rw [Kel.fc_len Kel.hsNotices, List.length_replicate]
  exact ⟨hsz, .inr ⟨W.heap.size, N, _, rfl, Nat.le_refl _, new_at rfl, Nat.le_refl _, by unfold maxLen; omega, by simp [hsz], by rw [List.take_of_length_le (by simp [hsz])]⟩⟩
/-- A box with a notice. -/
theorem box_nt (W : World) (a b c : Int) (U : World) (hU : W.alloc (.cells #[.int .i64 0, .int .i64 0, .int .i64 0] 63) = U) : NB (U.setRow W.heap.size #[.int .i64 a, .int .i64 b, .int .i64 c]) W.heap.size a b c ∧ Below W.heap.size W (U.setRow W.heap.size #[.int .i64 a, .int .i64 b, .int .i64 c]) ∧ U.heap[W.heap.size]? = some (.cells #[.int .i64 0, .int .i64 0, .int .i64 0] 63 (0, 0)) := by
  subst hU
  have h := al1' W (.cells #[.int .i64 0, .int .i64 0, .int .i64 0] 63)
  refine ⟨setRow_heap _ _ _ _ _ _ (new_at rfl), ⟨h.os, h.tape, h.output, by simp [World.setRow], fun k hk => (Go.setRow_other _ _ _ _ (by omega)).trans (h.block k hk)⟩, new_at rfl⟩
theorem info_nt3 : (Tryz.prog.info? 63).map (·.size) = some 3 := by kernel_rfl
theorem ntc_all (a b c : Int) : (#[Value.int .i64 a, .int .i64 b, .int .i64 c] : Array Value).all (·.oneCell') = true := by simp [Value.oneCell']
set_option maxHeartbeats 1000000 in
theorem vld_any (N : Nat) (h1 : 1 ≤ N) (h100 : N ≤ 100) (o t : Int) (w : World) : Calls Tryz.prog 19 #[.int .i64 (N : Int), .agg #[.int .i64 o, .int .i64 t, .int .i64 2]] w fun e w' => e = .returned (.bool (decide ((0 ≤ o ∧ o < (N : Int)) ∧ 0 ≤ t ∧ t ≤ 1048576))) ∧ Below w.heap.size w w' := by
  have hr := rank_any o t 2
  unfold nt at hr
  have n1 : (1 : Int) ≤ (N : Int) := by omega
  have n2 : (N : Int) ≤ 100 := by omega
  by_cases ho : 0 ≤ o
  case neg =>
    have ho' : ¬ 0 ≤ o := ho
    rw [decide_eq_false (fun q => ho q.1.1)]
    go_enter Tryz.func19, Tryz.ntmps19
    go_wp2
    go_ret
    exact ⟨rfl, (Below.refl _ w).alloc (Nat.le_refl _) _⟩
  by_cases ho2 : o < (N : Int)
  case neg =>
    rw [decide_eq_false (fun q => ho2 q.1.2)]
    go_enter Tryz.func19, Tryz.ntmps19
    go_wp2
    go_ret
    exact ⟨rfl, (Below.refl _ w).alloc (Nat.le_refl _) _⟩
  by_cases ht : t < 0 ∨ 1048576 < t
  · rw [rk_lo ht] at hr
    rw [decide_eq_false (fun q => by omega)]
    go_enter Tryz.func19, Tryz.ntmps19
    go_wp2_with (go_at_call 20; (with_reducible refine (hr _).mono ?_); rintro e u ⟨rfl, hb⟩)
    go_ret
    exact ⟨rfl, (al1' w (.cells #[.int .i64 o, .int .i64 t, .int .i64 2] 63)).trans (hb.mono (al1' w _).size)⟩
  · rw [rk_s ht] at hr
    rw [decide_eq_true (show (0 ≤ o ∧ o < (N : Int)) ∧ 0 ≤ t ∧ t ≤ 1048576 by omega)]
    obtain ⟨r, hrr⟩ : ∃ r, 2 * t + 1 = r := ⟨_, rfl⟩
    rw [hrr] at hr
    have hr1 : (r != -1) = true := by
      simp
      omega
    clear hrr
    go_enter Tryz.func19, Tryz.ntmps19
    go_wp2_with (go_at_call 20; (with_reducible refine (hr _).mono ?_); rintro e u ⟨rfl, hb⟩)
    go_ret
    exact ⟨rfl, (al1' w (.cells #[.int .i64 o, .int .i64 t, .int .i64 2] 63)).trans (hb.mono (al1' w _).size)⟩
end Go.Proofs.YtgnhainfcfcodaaGreat
