/- What Boots leave on a disk that nothing but they have written, whatever the power does: mathematics. -/
import Derived.Test.YtklnfbanfgdgcaaGreatDoorJnJ11
import Derived.Laws.EntriesVeiled
import Derived.Test.YtklnfbanfgdgcaaGreatDoorJnJ0
set_option maxHeartbeats 40000000
set_option maxRecDepth 100000
set_option linter.unusedVariables false
namespace Go.Proofs.YtklnfbanfgdgcaaGreatDoor
open Go.RowKit Go.Shelf Go.Lib

/-- What lies on a disk behind n Saves that were done, the last one of r; others were cut off. -/
structure Ss (l : List Nat) (n : Nat) (r : Rec) : Prop where
  len : l.length = 256
  byt : Byt l
  new : 1 ≤ n → say (slt l ((n + 1) % 2)) = some (r, (n : Int))
  nil : n = 0 → say (slt l 1) = none ∧ ((slt l 1).drop 36).take 8 = numB 0 8
  old : ∀ x, say (slt l (n % 2)) = some x → x.2 < (n : Int)
  seq : ∃ m : Nat, m ≤ n ∧ ((slt l (n % 2)).drop 36).take 8 = numB m 8
theorem Ss.zero (r : Rec) : Ss d0.l 0 r := ⟨d0_len, byt_zero 256, fun h => absurd h (by omega), fun _ => ⟨say_zero.2, by kernel_rfl⟩, fun x hx => (by rw [show say (slt d0.l (0 % 2)) = none from say_zero.1] at hx; cases hx), ⟨0, Nat.le_refl _, by kernel_rfl⟩⟩
theorem Ss.nw {l : List Nat} {n : Nat} {r : Rec} (h : Ss l n r) : nw l = if n = 0 then none else some ((r, (n : Int)), (n + 1) % 2) := by
  split
  · rename_i e
    subst e
    have h0 : say (slt l 0) = none := by
      cases hs : say (slt l 0) with
      | none => rfl
      | some x =>
        have h1 := h.old x hs
        have h2 := (say_some hs).1.2.1
        exfalso
        have h3 : x.2 < (0 : Int) := h1
        omega
    show nwo (say (slt l 0)) (say (slt l 1)) = none
    rw [h0, (h.nil rfl).1]
    rfl
  · exact nw_of (h.new (by omega)) h.old
theorem Ss.step {l : List Nat} {n : Nat} {r r' : Rec} (h : Ss l n r) (hm : May r') (hn : n ≤ 1000000) : Ss (put2 l (n % 2) (slB r' ((n : Int) + 1))) (n + 1) r' := by
  have hq : n % 2 < 2 := Nat.mod_lt _ (by omega)
  have hl := slB_len r' ((n : Int) + 1)
  have hne : (n + 1) % 2 ≠ n % 2 := by omega
  have hfit : Fit r' ((n : Int) + 1) := ⟨hm, by omega, by omega⟩
  refine ⟨put2_len h.len hl hq, putS_byt (putS_byt h.byt ((slB_byt _ _).take 32)) ((slB_byt _ _).drop 32), fun _ => ?_, fun e => by omega, fun x hx => ?_, ?_⟩
  · rw [show (n + 1 + 1) % 2 = n % 2 by omega, slt_put h.len hl hq, say_sl hfit]
    rfl
  · rw [slt_put_ne h.len hl hq hne] at hx
    rcases Nat.eq_zero_or_pos n with e | e
    · subst e
      rw [show say (slt l ((0 + 1) % 2)) = none from (h.nil rfl).1] at hx
      cases hx
    · rw [h.new e] at hx
      cases hx
      show (n : Int) < ((n + 1 : Nat) : Int)
      omega
  · rw [slt_put_ne h.len hl hq hne]
    rcases Nat.eq_zero_or_pos n with e | e
    · subst e
      exact ⟨0, by omega, (h.nil rfl).2⟩
    · exact ⟨n, by omega, (say_seq (h.new e)).2⟩
/-- A Save that was cut off behind its first sector. -/
theorem Ss.torn {l : List Nat} {n : Nat} {r r' : Rec} (h : Ss l n r) (hn : n ≤ 1000000) : Ss (putS l (2 * (n % 2)) ((slB r' ((n : Int) + 1)).take 32)) n r := by
  have hq : n % 2 < 2 := Nat.mod_lt _ (by omega)
  have hl := slB_len r' ((n : Int) + 1)
  have hne : (n + 1) % 2 ≠ n % 2 := by omega
  obtain ⟨m, hm, hs⟩ := h.seq
  have ho := slt_torn_ne h.len hl hq hne
  have ht : say (slt (putS l (2 * (n % 2)) ((slB r' ((n : Int) + 1)).take 32)) (n % 2)) = none := by
    rw [slt_torn h.len hl hq]
    exact say_torn ⟨by omega, by omega⟩ hs (by omega) (by omega)
  refine ⟨put1_len h.len hl hq, putS_byt h.byt ((slB_byt _ _).take 32), fun e => (by rw [ho]; exact h.new e), fun e => ?_, fun x hx => (by rw [ht] at hx; cases hx), m, hm, ?_⟩
  · subst e
    have h0 : slt (putS l (2 * (0 % 2)) ((slB r' (((0 : Nat) : Int) + 1)).take 32)) 1 = slt l 1 := ho
    rw [h0]
    exact h.nil rfl
  · rw [slt_torn h.len hl hq, List.drop_append, List.drop_of_length_le (by rw [(half_len hl).1]; omega), List.nil_append, (half_len hl).1, List.drop_drop]
    exact hs
theorem Ss.nt {d : Dst} {n : Nat} {r : Rec} (h : Ss d.l n r) (ho : d.off = false) : nwTZ d = if n = 0 then ⟨rec0, 0, 0, 40⟩ else ⟨r, (n : Int), ((n + 1) % 2 : Nat), 0⟩ := by
  rw [nwTZ, if_neg (by rw [ho]; decide), h.nw]
  split <;> rfl
theorem Ss.dsv {d : Dst} {n : Nat} {r r' : Rec} (h : Ss d.l n r) (ho : d.off = false) (hm : May r') (hn : n ≤ 1000000) : dSv d r' = dW2 d (n % 2) (slB r' ((n : Int) + 1)) := by
  rw [dSv, if_neg (fun q => q hm), if_neg (by rw [ho]; decide), h.nt ho]
  split
  · rename_i e
    subst e
    rw [if_neg (by decide), if_neg (by decide)]
    rfl
  · dsimp only
    rw [if_neg (by omega), if_pos rfl]
    congr 1
    omega
/-- A Save on such a disk: done, or the power is gone and all is told as ahead of it. -/
theorem Ss.save {d : Dst} {n : Nat} {r r' : Rec} (h : Ss d.l n r) (ho : d.off = false) (hf : Fz d) (hm : May r') (hn : n ≤ 1000000) : ((dSv d r').1 = 0 ∧ (dSv d r').2.off = false ∧ (dSv d r').2.writes = d.writes + 2 ∧ Fz (dSv d r').2 ∧ Ss (dSv d r').2.l (n + 1) r') ∨ ((dSv d r').1 = 100 ∧ (dSv d r').2.off = true ∧ d.fused = true ∧ d.writes ≤ (dSv d r').2.writes ∧ (dSv d r').2.writes ≤ d.writes + 1 ∧ Fz (dSv d r').2 ∧ Ss (dSv d r').2.l n r) := by
  rw [h.dsv ho hm hn]
  have hq : n % 2 < 2 := Nat.mod_lt _ (by omega)
  have hl := slB_len r' ((n : Int) + 1)
  by_cases hb : d.fused = true
  case neg =>
    rw [dW2_ok ho hq hl (fun e => absurd e hb)]
    refine .inl ⟨rfl, rfl, rfl, fun e => absurd e hb, h.step hm hn⟩
  have hz := hf hb
  rcases Int.lt_or_le d.fuse 1 with a | a
  · have e0 : d.fuse = 0 := by omega
    rw [dW2_cut0 ho hq hl hb e0]
    exact .inr ⟨rfl, rfl, hb, Int.le_refl _, by show d.writes ≤ d.writes + 1; omega, fun e => (by cases e), h⟩
  rcases Int.lt_or_le d.fuse 2 with a' | a'
  · have e1 : d.fuse = 1 := by omega
    rw [dW2_cut1 ho hq hl hb e1]
    exact .inr ⟨rfl, rfl, hb, by show d.writes ≤ d.writes + 1; omega, Int.le_refl _, fun e => (by cases e), h.torn hn⟩
  · rw [dW2_ok ho hq hl (fun _ => a')]
    refine .inl ⟨rfl, rfl, rfl, fun _ => ?_, h.step hm hn⟩
    dsimp only
    rw [if_pos hb]
    omega

/-- What a Boot has: the durable record, the round, the tag. -/
structure Bo where
  r : Rec
  ro : Int
  ta : Int
def btC (b : Bo) (P : Option Addr) : Array Value := #[.int .i64 b.r.li, .int .i64 b.r.ro, .int .i64 b.r.ta, .pointer P, .int .i64 b.ro, .int .i64 b.ta]
/-- A Boot lies at q; its disk's pointer is P. -/
def Bt (W : World) (q : Nat) (P : Option Addr) (b : Bo) : Prop := W.heap[q]? = some (.cells (btC b P) 177 (0, 0))
theorem Bt.carry {W V : World} {q : Nat} {P : Option Addr} {b : Bo} (h : Bt W q P b) (hb : Below W.heap.size W V) : Bt V q P b := (hb.block _ (lt_at h)).trans h
/-- Beyond a round, beyond a tag. -/
def bR (x : Int) : Int := if 1099511627775 < x + 16 then 1099511627775 else x + 16
def bT (x : Int) : Int := if 1048576 < x + 4 then 1048576 else x + 4
set_option maxHeartbeats 1000000 in
set_option maxRecDepth 100000 in
theorem rounds_any (x : Int) (h1 : -9223372036854775808 ≤ x) (h2 : x ≤ 9223372036854775791) (W : World) : Calls Tryz.prog 113 #[.int .i64 x] W fun e w' => e = .returned (.int .i64 (bR x)) ∧ w' = W := by
  have hw := i64_idZ (x + 16) (by omega) (by omega)
  by_cases h : 1099511627775 < x + 16
  · rw [bR, if_pos h]
    go_enter Tryz.func113, Tryz.ntmps113
    go_wp2
    all_goals (go_ret; first | exact ⟨rfl, rfl⟩ | omega)
  · rw [bR, if_neg h]
    go_enter Tryz.func113, Tryz.ntmps113
    go_wp2
    all_goals (go_ret; first | exact ⟨rfl, rfl⟩ | omega)
set_option maxHeartbeats 1000000 in
set_option maxRecDepth 100000 in
theorem tags_any (x : Int) (h1 : -9223372036854775808 ≤ x) (h2 : x ≤ 9223372036854775791) (W : World) : Calls Tryz.prog 114 #[.int .i64 x] W fun e w' => e = .returned (.int .i64 (bT x)) ∧ w' = W := by
  have hw := i64_idZ (x + 4) (by omega) (by omega)
  by_cases h : 1048576 < x + 4
  · rw [bT, if_pos h]
    go_enter Tryz.func114, Tryz.ntmps114
    go_wp2
    all_goals (go_ret; first | exact ⟨rfl, rfl⟩ | omega)
  · rw [bT, if_neg h]
    go_enter Tryz.func114, Tryz.ntmps114
    go_wp2
    all_goals (go_ret; first | exact ⟨rfl, rfl⟩ | omega)
section
variable {W : World} {q p : Nat} {P : Option Addr} {b : Bo} {d : Dst}
set_option maxHeartbeats 1000000 in
set_option maxRecDepth 100000 in
theorem ready_anyZ (h : Bt W q (some ⟨p, 0, none⟩) b) (hd : Dk W p d) : Calls Tryz.prog 115 #[.pointer (some ⟨q, 0, none⟩)] W fun e w' => e = .returned (.int .i64 (if d.off then 100 else 0)) ∧ w' = W := by
  have c := cell_at h 3
  have ho := on_any hd
  unfold btC at c
  simp at c
  cases hf : d.off
  all_goals
    rw [hf] at ho
    simp only [Bool.not_false, Bool.not_true] at ho
    go_enter Tryz.func115, Tryz.ntmps115
    go_wp2_with (go_at_call 15; (with_reducible refine ho.mono ?_); rintro e u ⟨rfl, hu⟩; obtain rfl := hu.symm)
    go_ret
    exact ⟨rfl, rfl⟩
set_option maxHeartbeats 1000000 in
set_option maxRecDepth 100000 in
theorem btag_any (h : Bt W q P b) : Calls Tryz.prog 27 #[.pointer (some ⟨q, 0, none⟩)] W fun e w' => e = .returned (.int .i64 b.ta) ∧ w' = W := by
  have c := cell_at h 5
  unfold btC at c
  simp at c
  go_enter Tryz.func27, Tryz.ntmps27
  go_wp2
  go_ret
  exact ⟨rfl, rfl⟩
set_option maxHeartbeats 1000000 in
set_option maxRecDepth 100000 in
theorem durable_any (h : Bt W q P b) : Calls Tryz.prog 176 #[.pointer (some ⟨q, 0, none⟩)] W fun e w' => e = .returned (rV b.r) ∧ Below W.heap.size W w' := by
  obtain ⟨w1, hw1⟩ : ∃ w1, W.alloc (.cells #[.int .i64 0, .int .i64 0, .int .i64 0] 23) = w1 := ⟨_, rfl⟩
  have hb1 : Below W.heap.size W w1 := by rw [← hw1]; exact al1'Z _ _
  have hg1 : w1.heap[W.heap.size]? = some (.cells #[.int .i64 0, .int .i64 0, .int .i64 0] 23 (0, 0)) := by rw [← hw1]; exact new_at rfl
  have h1 := h.carry hb1
  have c0 := cell_at h1 0
  have c1 := cell_at h1 1
  have c2 := cell_at h1 2
  unfold btC at c0 c1 c2
  simp at c0 c1 c2
  go_enter Tryz.func176, Tryz.ntmps176
  go_wp2_with (refine wpList_store_row rfl 23 (.tmp 2) (.tmp 10) rfl W.heap.size #[.int .i64 b.r.li, .int .i64 b.r.ro, .int .i64 b.r.ta] rfl rfl 23 _ hg1 infoR rfl (by simp [Value.oneCell']) ?_; obtain ⟨v, hv⟩ : ∃ v, w1.setRow W.heap.size #[.int .i64 b.r.li, .int .i64 b.r.ro, .int .i64 b.r.ta] = v := ⟨_, rfl⟩; have HV : Hid (v.heap[W.heap.size]? = some (.cells #[.int .i64 b.r.li, .int .i64 b.r.ro, .int .i64 b.r.ta] 23 (0, 0))) := (by rw [← hv]; exact setRow_heap _ _ _ _ _ _ hg1); have HB : Hid (Below W.heap.size W v) := (by rw [← hv]; exact below_setRow hb1 (Nat.le_refl _) _); rw [hv])
  (try simp only [Exit.inBlock, Exit.then])
  refine bodyPost_ret (results_cell_row rfl _ _ W.heap.size _ _ (0, 0) _ rfl HV.out undR rfl infoR) rfl ?_
  exact ⟨rfl, HB.out⟩
theorem field_R0 (x y z : Int) (w : World) : (Instr.field 23 (.agg #[.int .i64 x, .int .i64 y, .int .i64 z]) 0).run Tryz.prog w = .ok (.int .i64 x) w := by kernel_rfl
end
end Go.Proofs.YtklnfbanfgdgcaaGreatDoor
namespace Go.Proofs.YtklnfbanfgdgcaaGreatDoor
open Go.RowKit
/-- A call whose answer is found out on the way. -/
theorem stepG_call {G : Type} {P : Program} {md : Region.Mode} {ops : Array Oper} {Q : Exit → Act → World → Prop} {X0 : Array Value} {val : G → Nat → Value} {J : G → (Nat → Bool) → World → Prop} {i : Nat} {o : Oper}
    (hi : ops[i]? = some o) (hg : ∀ g, GOk md ops X0 (val g) i o) (f : FuncId) (xs : Array Operand) (ts : Array TypeId) (vs : G → List Value) (ho : o.op = .call { callee := .value (.func f), args := xs, argTypes := ts })
    (hx : ∀ g, xs.toList.map (rdo md ops X0 (val g) i o) = (vs g).map some) (hen : ∀ args w, (callFunc f args).run P w = .ok (.enter f args) w)
    (hc : ∀ g d w, J g d w → d i = false → (∀ j, bindsOn md o j = true → d j = true) → (∀ j oj, ops[j]? = some oj → d j = true → ∀ k, bindsOn md oj k = true → d k = true) → Calls P f (vs g).toArray w fun e w' => ∃ g', e = .returned (val g' i) ∧ (∀ j, d j = true → val g' j = val g j) ∧ J g' (fun j => if j = i then true else d j) w') : StepG P md ops Q X0 val J i o := by
  intro g d a w hJ hun hdep hcl hS
  unfold wpOp
  rw [hi]
  have hS' : Seen md ops X0 (val g) i o a := hS
  simp only [wanted_of hS' (hg g), if_true]
  refine .inl ?_
  unfold Oper.wp execOp
  have e : xs.map a.eval = (vs g).toArray := by
    apply Array.toList_inj.1
    rw [Array.toList_map]
    exact hS'.evals _ _ (hx g)
  have e2 : a.eval (.func f) = .func (.func f) #[] #[] := rfl
  simp only [ho, resolve, e, e2, Deferred.ofValue, Sem.run_bind, Sem.run_pure, Result.andThen_ok, invoke, Array.empty_append, Array.append_empty, hen, Oper.upon_enter]
  refine (hc g d w hJ hun hdep hcl).mono ?_
  rintro e' w' ⟨g', rfl, h1, h2⟩
  exact ⟨g', h1, rfl, h2⟩
end Go.Proofs.YtklnfbanfgdgcaaGreatDoor
namespace Go.Proofs.YtklnfbanfgdgcaaGreatDoor
open Go.RowKit Go.Shelf Go.Lib

theorem stepG_struct3 {G : Type} {P : Program} {md : Region.Mode} {ops : Array Oper} {Q : Exit → Act → World → Prop} {X0 : Array Value} {val : G → Nat → Value} {J : G → (Nat → Bool) → World → Prop} {i : Nat} {o : Oper} (hi : ops[i]? = some o) (hg : o.guard = none) (t : TypeId) (x0 x1 x2 : Operand) (v0 v1 v2 : G → Value) (ho : o.op = .build t #[(0, x0), (1, x1), (2, x2)]) (hx : ∀ g, rdo md ops X0 (val g) i o x0 = some (v0 g) ∧ rdo md ops X0 (val g) i o x1 = some (v1 g) ∧ rdo md ops X0 (val g) i o x2 = some (v2 g))
    (h : ∀ g d w, J g d w → d i = false → (Instr.build t #[(0, v0 g), (1, v1 g), (2, v2 g)]).run P w = .ok (val g i) w ∧ J g (fun j => if j = i then true else d j) w) : StepG P md ops Q X0 val J i o := by
  intro g d a w hJ hun hdep hcl hS
  have hS' : Seen md ops X0 (val g) i o a := hS
  obtain ⟨h1, h3⟩ := h g d w hJ hun
  obtain ⟨q0, q1, q2⟩ := hx g
  unfold wpOp
  rw [hi]
  simp only [Region.wanted, hg, if_true]
  refine .inl ?_
  unfold Oper.wp execOp
  simp only [ho, List.map_toArray, List.map_cons, List.map_nil, hS'.eval q0, hS'.eval q1, hS'.eval q2, Sem.run_bind, h1, Result.andThen_ok, Sem.run_pure, Oper.upon_value]
  exact ⟨g, fun _ _ => rfl, rfl, h3⟩
theorem build_R (a b c : Int) (w : World) : (Instr.build 23 #[(0, .int .i64 a), (1, .int .i64 b), (2, .int .i64 c)]).run Tryz.prog w = .ok (.agg #[.int .i64 a, .int .i64 b, .int .i64 c]) w := by kernel_rfl
/-- A record in a box, the result's cells behind it. -/
def JO (w : World) (A C : Array Value) (V : World) : Prop := V.heap[w.heap.size]? = some (.cells A 23 (0, 0)) ∧ V.heap[w.heap.size + 1]? = some (.cells C 23 (0, 0)) ∧ Below w.heap.size w V
section
variable {w V V' : World} {A C : Array Value}
theorem JO.drew (h : JO w A C V) : JO w A C V.drew := ⟨h.1, h.2.1, h.2.2.drew⟩
theorem JO.put (h : JO w A C V) (D : Array Value) : JO w A D (V.setRow (w.heap.size + 1) D) := ⟨(setRow_other _ _ _ _ (by omega)).trans h.1, setRow_heap _ _ _ _ _ _ h.2.1, below_setRow h.2.2 (by omega) _⟩
theorem JO.set (h : JO w A C V) (k : Nat) (x : Value) : JO w (A.setIfInBounds k x) C (V.setCell ⟨w.heap.size, k, none⟩ x) :=
  ⟨heap_setCell_same _ _ _ _ _ _ h.1, (Below.heap_setCell _ _ _ _ (show w.heap.size + 1 ≠ w.heap.size by omega)).trans h.2.1, h.2.2.setCell (p := ⟨w.heap.size, k, none⟩) (Nat.le_refl _) _⟩
end
theorem field_R (W : World) (B : Nat) : (Instr.fieldAt 23 (.pointer (some ⟨B, 0, none⟩)) 0).run Tryz.prog W = .ok (.pointer (some ⟨B, 0, none⟩)) W ∧ (Instr.fieldAt 23 (.pointer (some ⟨B, 0, none⟩)) 1).run Tryz.prog W = .ok (.pointer (some ⟨B, 1, none⟩)) W ∧ (Instr.fieldAt 23 (.pointer (some ⟨B, 0, none⟩)) 2).run Tryz.prog W = .ok (.pointer (some ⟨B, 2, none⟩)) W := by
  refine ⟨?_, ?_, ?_⟩ <;> go_simp
def z3A : Array Value := #[.int .i64 0, .int .i64 0, .int .i64 0]
/-- The record of the next life. -/
def nxL (r : Rec) : Rec := ⟨r.li + 1, bR r.ro, bT r.ta⟩
set_option maxHeartbeats 4000000 in
set_option maxRecDepth 100000 in
theorem open1_any (r : Rec) (hr : 0 ≤ r.li ∧ r.li ≤ 1073741824 ∧ 0 ≤ r.ro ∧ r.ro ≤ 1099511627775 ∧ 0 ≤ r.ta ∧ r.ta ≤ 1048576) (w : World) : Calls Tryz.prog 112 #[rV r] w fun e w' => e = .returned (rV (nxL r)) ∧ Below w.heap.size w w' := by
  have hmx : Tryz.prog.follows .mixedOrders = true := by kernel_rfl
  obtain ⟨a, b, c⟩ := r
  unfold rV nxL
  dsimp only at hr ⊢
  have hw := i64_idZ (a + 1) (by omega) (by omega)
  obtain ⟨w2, hw2⟩ : ∃ w2, (w.alloc (.cells #[.int .i64 a, .int .i64 b, .int .i64 c] 23)).alloc (.cells #[.int .i64 0, .int .i64 0, .int .i64 0] 23) = w2 := ⟨_, rfl⟩
  have hj : JO w #[.int .i64 a, .int .i64 b, .int .i64 c] z3A w2 := by rw [← hw2]; exact ⟨old_at (new_at rfl), new_at (by simp), bel2Z (al1'Z _ _) (al1'Z _ _)⟩
  go_enter Tryz.func112, Tryz.ntmps112
  go_wp2
  rename_i hK
  refine wp_region_any hmx ?_
  refine wpAny_tabG (G := Unit) (fun g i__ => ([(.pointer (some ⟨w.heap.size, 0, none⟩)), (.int .i64 a), (.int .i64 (a + 1)), (.pointer (some ⟨w.heap.size, 1, none⟩)), (.int .i64 b), (.int .i64 (bR b)), (.pointer (some ⟨w.heap.size, 2, none⟩)), (.int .i64 c), (.int .i64 (bT c)), (.agg #[.int .i64 (a + 1), .int .i64 (bR b), .int .i64 (bT c)]), undef] : List Value).getD i__ undef) (fun g d V => JO w #[.int .i64 a, .int .i64 b, .int .i64 c] (if d 10 = true then #[.int .i64 (a + 1), .int .i64 (bR b), .int .i64 (bT c)] else z3A) V) (by kernel_rfl) (()) (show JO w _ z3A _ from hj.drew) ?step3 ?fin3
  case step3 =>
    intro i o ho
    have hi : i < 11 := getElem?_lt ho
    match i, hi, ho with
    | 0, _, ho =>
      cases ho
      refine stepG_of (fun g d hdep => ?_)
      exact step_fieldAddr rfl trivial _ _ _ _ rfl rfl (fun v hw => (field_R v _).1)
    | 1, _, ho =>
      cases ho
      refine stepG_of (fun g d hdep => ?_)
      exact step_load rfl trivial _ _ _ rfl rfl (fun v hw => load_i64Z (by rw [cell_at hw.1]; rfl))
    | 2, _, ho =>
      cases ho
      refine stepG_of (fun g d hdep => ?_)
      exact step_binOp rfl trivial _ _ _ _ _ _ _ rfl rfl rfl (fun v hw2 => bin_add64 _ _ _ hw)
    | 3, _, ho =>
      cases ho
      refine stepG_of (fun g d hdep => ?_)
      exact step_fieldAddr rfl trivial _ _ _ _ rfl rfl (fun v hw => (field_R v _).2.1)
    | 4, _, ho =>
      cases ho
      refine stepG_of (fun g d hdep => ?_)
      exact step_load rfl trivial _ _ _ rfl rfl (fun v hw => load_i64Z (by rw [cell_at hw.1]; rfl))
    | 5, _, ho =>
      cases ho
      refine stepG_of (fun g d hdep => ?_)
      exact step_call rfl trivial 113 _ _ [(.int .i64 b)] rfl (by kernel_rfl) (enters_of Tryz.func113 (by kernel_rfl) rfl) (fun v hw => (rounds_any b (by omega) (by omega) v).mono (by rintro e w' ⟨rfl, rfl⟩; exact ⟨rfl, hw⟩))
    | 6, _, ho =>
      cases ho
      refine stepG_of (fun g d hdep => ?_)
      exact step_fieldAddr rfl trivial _ _ _ _ rfl rfl (fun v hw => (field_R v _).2.2)
    | 7, _, ho =>
      cases ho
      refine stepG_of (fun g d hdep => ?_)
      exact step_load rfl trivial _ _ _ rfl rfl (fun v hw => load_i64Z (by rw [cell_at hw.1]; rfl))
    | 8, _, ho =>
      cases ho
      refine stepG_of (fun g d hdep => ?_)
      exact step_call rfl trivial 114 _ _ [(.int .i64 c)] rfl (by kernel_rfl) (enters_of Tryz.func114 (by kernel_rfl) rfl) (fun v hw => (tags_any c (by omega) (by omega) v).mono (by rintro e w' ⟨rfl, rfl⟩; exact ⟨rfl, hw⟩))
    | 9, _, ho =>
      cases ho
      exact stepG_struct3 rfl rfl _ _ _ _ (fun g => .int .i64 (a + 1)) (fun g => .int .i64 (bR b)) (fun g => .int .i64 (bT c)) rfl (fun g => ⟨rfl, rfl, rfl⟩) (fun g d V hJ hun => ⟨build_R _ _ _ V, hJ⟩)
    | 10, _, ho =>
      cases ho
      refine stepG_of (fun g d hdep => ?_)
      exact step_store rfl trivial rfl _ _ _ _ _ rfl rfl rfl (fun v hw => ⟨_, store_rec hw.2.1 (by split <;> rfl), hw.put _⟩)
  intro g d W hall hW
  first | refine hK _ _ ?_ | refine (‹∀ (a : Act) (w : World), Code.wp Tryz.prog _ _ a w → _›) _ _ ?_ | skip
  simp only [finL, List.getD_cons_zero, List.getD_cons_succ, Nat.zero_add, Nat.reduceAdd, List.setIfInBounds_toArray, List.set_cons_zero, List.set_cons_succ]
  rw [if_pos (hall 10 (by decide))] at hW
  clear hK
  go_wp2
  (try simp only [Exit.inBlock, Exit.then])
  refine bodyPost_ret (results_cell_row rfl _ _ (w.heap.size + 1) _ _ (0, 0) _ rfl hW.2.1 undR rfl infoR) rfl ?_
  exact ⟨rfl, hW.2.2⟩
set_option maxHeartbeats 4000000 in
set_option maxRecDepth 100000 in
theorem next1_any (r : Rec) {bx q : Nat} {P : Option Addr} {b : Bo} {w : World} (hx : w.heap[bx]? = some (.cells #[.pointer (some ⟨q, 0, none⟩)] 104 (0, 0))) (h : Bt w q P b) (hr : 0 ≤ b.ro ∧ b.ro ≤ 1099511627775) : Calls Tryz.prog 116 #[rV r, .pointer (some ⟨bx, 0, none⟩)] w fun e w' => e = .returned (rV ⟨r.li, bR b.ro, r.ta⟩) ∧ Below w.heap.size w w' := by
  obtain ⟨x, y, z⟩ := r
  unfold rV
  dsimp only
  obtain ⟨w2, hw2⟩ : ∃ w2, (w.alloc (.cells #[.int .i64 x, .int .i64 y, .int .i64 z] 23)).alloc (.cells #[.int .i64 0, .int .i64 0, .int .i64 0] 23) = w2 := ⟨_, rfl⟩
  have hj : JO w #[.int .i64 x, .int .i64 y, .int .i64 z] z3A w2 := by rw [← hw2]; exact ⟨old_at (new_at rfl), new_at (by simp), bel2Z (al1'Z _ _) (al1'Z _ _)⟩
  have cx := cell_at ((hj.2.2.block _ (lt_at hx)).trans hx) 0
  have cq := cell_at (h.carry hj.2.2) 4
  unfold btC at cq
  simp at cx cq
  have hro := rounds_any b.ro (by omega) (by omega) w2
  have c1 : w2.cell? ⟨w.heap.size, 1, none⟩ = some (.int .i64 y) := by rw [cell_at hj.1]; rfl
  have t1 := thaw_at hj.1 1
  obtain ⟨w3, hw3⟩ : ∃ w3, w2.setCell ⟨w.heap.size, 1, none⟩ (.int .i64 (bR b.ro)) = w3 := ⟨_, rfl⟩
  have hj3 : JO w #[.int .i64 x, .int .i64 (bR b.ro), .int .i64 z] z3A w3 := by
    have := hj.set 1 (.int .i64 (bR b.ro))
    rw [hw3] at this
    exact this
  obtain ⟨R, hR⟩ : ∃ R, bR b.ro = R := ⟨_, rfl⟩
  rw [hR] at hro hw3 hj3 ⊢
  clear hR
  go_enter Tryz.func116, Tryz.ntmps116
  go_wp2_with (first | (go_at_call 113; (with_reducible refine hro.mono ?_); rintro e u ⟨rfl, hu⟩; obtain rfl := hu.symm) | (refine wpList_load_row rfl 23 (.tmp 2) rfl w.heap.size rfl 23 _ (0, 0) _ hj3.1 undR rfl infoR ?_) | (refine wpList_store_row rfl 23 (.tmp 3) (.tmp 10) rfl (w.heap.size + 1) #[.int .i64 x, .int .i64 R, .int .i64 z] rfl rfl 23 _ hj3.2.1 infoR rfl (by simp [Value.oneCell']) ?_; obtain ⟨v, hv⟩ : ∃ v, w3.setRow (w.heap.size + 1) #[.int .i64 x, .int .i64 R, .int .i64 z] = v := ⟨_, rfl⟩; have HJ : Hid (JO w #[.int .i64 x, .int .i64 R, .int .i64 z] #[.int .i64 x, .int .i64 R, .int .i64 z] v) := (by rw [← hv]; exact hj3.put _); rw [hv]))
  (try simp only [Exit.inBlock, Exit.then])
  refine bodyPost_ret (results_cell_row rfl _ _ (w.heap.size + 1) _ _ (0, 0) _ rfl HJ.out.2.1 undR rfl infoR) rfl ?_
  exact ⟨rfl, HJ.out.2.2⟩
end Go.Proofs.YtklnfbanfgdgcaaGreatDoor
