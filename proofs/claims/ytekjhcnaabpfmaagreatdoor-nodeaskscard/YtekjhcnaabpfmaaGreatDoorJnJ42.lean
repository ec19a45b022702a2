import Derived.Test.YtekjhcnaabpfmaaGreatDoorJnJ41
import Derived.Test.YtekjhcnaabpfmaaGreatDoorJnJ38
set_option maxHeartbeats 40000000
set_option maxRecDepth 100000
set_option linter.unusedVariables false
namespace Go.Proofs.YtekjhcnaabpfmaaGreatDoor
open Go.RowKit Go.Shelf Go.Lib
attribute [local go_sem] Oper.semAt_some
theorem field_sg (W : World) (B : Nat) : (Instr.fieldAt 42 (.pointer (some ⟨B, 0, none⟩)) 7).run Tryz.prog W = .ok (.pointer (some ⟨B, 16, none⟩)) W ∧ (Instr.fieldAt 42 (.pointer (some ⟨B, 0, none⟩)) 4).run Tryz.prog W = .ok (.pointer (some ⟨B, 4, none⟩)) W := ⟨by kernel_rfl, by kernel_rfl⟩
theorem load_nl0 {W : World} {B o n c : Nat} {a : Option Addr} (h : W.cell? ⟨B, o, none⟩ = some (.slice a n c)) : (Instr.loadAt 36 (.pointer (some ⟨B, o, none⟩))).run Tryz.prog W = .ok (.slice a n c) W := by go_simp
theorem RdN.nts {W : World} {g : Nat} {l : List N3} (h : RdN W (some ⟨g, 0, none⟩) l) (hl : l ≠ []) : g < W.heap.size ∧ NtsAt W g 0 l := by
 obtain ⟨b, off, e, h1, h2⟩ := h hl
 obtain ⟨rfl, rfl⟩ : g = b ∧ 0 = off := by simpa using e
 exact ⟨h1, h2⟩
section
variable {W V : World} {base x B : Nat} {A : NA} {s : Ns}
end
end Go.Proofs.YtekjhcnaabpfmaaGreatDoor
namespace Go.Proofs.YtekjhcnaabpfmaaGreatDoor
open Go.RowKit Go.Shelf Go.Lib
attribute [local go_sem] Oper.semAt_some
theorem askTo_all (s : Nat) (L : List Nat) : ∀ n : Nat, (askTo n s L).length = (if s < n then n - 1 else n) ∧ ∀ k, k < (askTo n s L).length → (askTo n s L)[k]? = some (((if k < s then k else k + 1 : Nat) : Int), L)
 | 0 => by
  have e : askTo 0 s L = [] := rfl
  rw [e]
  exact ⟨by simp, fun k hk => by simp at hk⟩
 | n + 1 => by
  obtain ⟨h1, h2⟩ := askTo_all s L n
  rw [askTo_succ]
  by_cases hs : n = s
  · rw [if_pos hs]
    refine ⟨?_, h2⟩
    rw [h1]
    split <;> split <;> omega
  · rw [if_neg hs]
    have hl : (askTo n s L ++ [((n : Int), L)]).length = (askTo n s L).length + 1 := by simp
    refine ⟨?_, fun k hk => ?_⟩
    · rw [hl, h1]
      split <;> split <;> omega
    · rw [hl] at hk
      by_cases hkl : k < (askTo n s L).length
      · rw [List.getElem?_append_left hkl]
        exact h2 k hkl
      · obtain rfl : k = (askTo n s L).length := by omega
        rw [List.getElem?_append_right (Nat.le_refl _), Nat.sub_self]
        simp only [List.getElem?_cons_zero, Option.some.injEq, Prod.mk.injEq, and_true]
        rw [h1]
        split
        · rename_i h3
          rw [if_neg (by omega)]
          omega
        · rename_i h3
          rw [if_pos (by omega)]
theorem askTo_len {n s : Nat} (h : s < n) (L : List Nat) : (askTo n s L).length = n - 1 := by rw [(askTo_all s L n).1, if_pos h]
section
variable {w W V : World} {base x b : Nat} {A A' : NA} {s : Ns} {m : Nat}
theorem dPoll_E (s : Ns) : (dPoll s).2.2 = 0 ∨ (dPoll s).2.2 = 170 := by unfold dPoll; split; exact .inl rfl; exact .inr rfl
theorem poll_out (h : Nd w base x A s) (hv : Nv m s) (hm : m ≤ 400) (hEn : Env w) (hbs : 2 < base) :
  Calls Tryz.prog 20 #[.pointer (some ⟨x, 0, none⟩)] w fun r w' => ∃ a c l A' S2, r = .returned (.tuple #[.slice a (s.n - 1) c, .int .i64 (dPoll s).2.2]) ∧ Hid (Outs w' w.heap.size (.slice a (s.n - 1) c) l ∧ Outs.say l = askTo s.n s.s (dAskB S2)) ∧ Hid (Nv (m + 1) S2) ∧ Hid (S2.n = s.n ∧ S2.s = s.s) ∧ Hid (Nd w' base x A' S2) ∧ Mv x A A' w w' := by
 refine (poll_any h hv (by omega) hEn hbs).mono ?_
 rintro r w' ⟨v, l, A', rfl, ho, hs, hn, hM⟩
 have hp := hv.poll (by omega)
 obtain ⟨q1, q2, q3⟩ : (dPoll s).1.n = s.n ∧ (dPoll s).1.s = s.s ∧ (dPoll s).2.1 = askTo s.n s.s (dAskB (dPoll s).1) := by
  unfold dPoll
  split
  · obtain ⟨_, _, _, _, c1, c2, c3, c4, c5, c6⟩ := hv.close (by omega)
    exact ⟨c5, c6, rfl⟩
  · exact ⟨rfl, rfl, rfl⟩
 have hln : l.length = s.n - 1 := by
  have := congrArg List.length (hs.trans q3)
  rw [askTo_len hv.sn] at this
  unfold Outs.say at this
  simpa using this
 obtain ⟨a, c, rfl⟩ : ∃ a c, v = .slice a (s.n - 1) c := by
  rcases own_form ho.row with ⟨e1, e2⟩ | ⟨g, c, e1, _⟩
  · exact ⟨none, 0, by rw [e1, ← hln, e2]⟩
  · exact ⟨_, c, by rw [e1, hln]⟩
 exact ⟨a, c, l, A', (dPoll s).1, rfl, ⟨ho, hs.trans q3⟩, hp, ⟨q1, q2⟩, hn, hM⟩
theorem Outs.get {v : Value} {l : List OE} {L : List (Int × List Nat)} (h : Outs W b v l ∧ Outs.say l = L) {k : Nat} {t : Int} {D : List Nat} (hk : L[k]? = some (t, D)) : ∃ g c a c2, v = .slice (some ⟨g, 0, none⟩) L.length c ∧ W.cell? ⟨g, k * 2, none⟩ = some (.int .i64 t) ∧ W.cell? ⟨g, k * 2 + 1, none⟩ = some (.slice a D.length c2) ∧ RdBW W a D ∧ D.length ≤ c2 ∧ g < W.heap.size := by
 obtain ⟨ho, rfl⟩ := h
 have hlen : (Outs.say l).length = l.length := by unfold Outs.say; simp
 obtain ⟨o, hx, hy⟩ : ∃ o, l[k]? = some o ∧ (o.to, o.L) = (t, D) := by
   unfold Outs.say at hk
   rw [List.getElem?_map] at hk
   cases hq : l[k]? with
   | none => rw [hq] at hk; simp at hk
   | some o => rw [hq] at hk; exact ⟨o, rfl, by simpa using hk⟩
 obtain ⟨rfl, rfl⟩ : o.to = t ∧ o.L = D := by simpa using hy
 have hkl : k < l.length := (List.getElem?_eq_some_iff.1 hx).1
 rw [hlen]
 rcases own_form ho.row with ⟨_, e⟩ | ⟨g, c, rfl, _, hgl, _⟩
 · omega
 obtain ⟨c0, c1⟩ := ho.at hx
 have hd := ho.dat o (List.mem_of_getElem? hx)
 obtain ⟨ad, cp, e1, hr⟩ := RdBW.own hd
 simp only [Value.slice.injEq] at e1
 obtain ⟨rfl, _, rfl⟩ := e1
 refine ⟨g, c, _, _, rfl, c0, c1, hr, ?_, hgl⟩
 rcases own_form hd with ⟨e, e2⟩ | ⟨g2, c2, e, _, _, h3, _⟩
 · omega
 · simp only [Value.slice.injEq] at e
   omega
end
theorem dAskB_byt (s : Ns) : BytW (dAskB s) := by
 unfold dAskB fb7
 split
 · exact byt7_byt _ _ _ _ _ _
 · intro x hx; cases hx
def nwc (l : List N3) (j : Nat) : Nat := ((l.take j).filter pNew).length
theorem nwc_zero (l : List N3) : nwc l 0 = 0 := by simp [nwc]
theorem nwc_all {l : List N3} {j : Nat} (h : l.length ≤ j) : nwc l j = (l.filter pNew).length := by unfold nwc; rw [List.take_of_length_le h]
theorem nwc_succ {l : List N3} {j : Nat} {x : N3} (h : l[j]? = some x) : nwc l (j + 1) = nwc l j + (if pNew x = true then 1 else 0) := by
 unfold nwc
 rw [List.take_add_one, h]
 simp only [Option.toList, List.filter_append, List.length_append]
 congr 1
 by_cases hp : pNew x = true
 · simp [hp]
 · simp [hp]
theorem nwc_get {l : List N3} {j : Nat} {x : N3} (h : l[j]? = some x) (hp : pNew x = true) : (l.filter pNew)[nwc l j]? = some x := by
 have e : l = l.take j ++ l.drop j := (List.take_append_drop j l).symm
 have hj : j < l.length := (List.getElem?_eq_some_iff.1 h).1
 have e2 : l.drop j = x :: l.drop (j + 1) := by
  rw [List.drop_eq_getElem_cons hj]
  congr 1
  exact (List.getElem?_eq_some_iff.1 h).2
 have e3 : l.filter pNew = (l.take j).filter pNew ++ x :: (l.drop (j + 1)).filter pNew := by
  conv => lhs; rw [e, List.filter_append, e2, List.filter_cons, if_pos hp]
 rw [e3]
 unfold nwc
 rw [List.getElem?_append_right (Nat.le_refl _), Nat.sub_self]
 rfl
theorem nwc_le (l : List N3) (j : Nat) : nwc l j ≤ j := by
 unfold nwc
 exact Nat.le_trans (List.length_filter_le _ _) (by rw [List.length_take]; omega)
theorem pNew_no {o t q : Int} (h : t = 0 ∧ q = 1) : pNew (o, t, q) = false := by obtain ⟨rfl, rfl⟩ := h; simp [pNew]
theorem pNew_yes {o t q : Int} (h : ¬ (t = 0 ∧ q = 1)) : pNew (o, t, q) = true := by simp [pNew]; omega
theorem bin_geqF {P : Program} {t : TypeId} {x y : Operand} {w : World} {k : IntKind} {a b : Int} (h : a < b) : binRun P .geq t x y (.int k a) (.int k b) w = .ok (.bool false) w := by simp [binRun, go_sem]; omega
theorem fld_q (W : World) (B : Nat) : (Instr.fieldAt 71 (.pointer (some ⟨B, 0, none⟩)) 2).run Tryz.prog W = .ok (.pointer (some ⟨B, 2, none⟩)) W := by kernel_rfl
theorem neqn_f {x y : Operand} {w : World} (o t k : Int) : binRun Tryz.prog .neq 65 x y (nt o t k) (nt o t k) w = .ok (.bool false) w := (bin_neqn _ _ _ _ _ _).trans (by simp)
theorem eqn_t {x y : Operand} {w : World} {o t k : Int} (h : t = 0 ∧ k = 1) : binRun Tryz.prog .eql 65 x y (nt o t k) (nt o 0 1) w = .ok (.bool true) w := (bin_eqn _ _ _ _ _ _).trans (by rw [decide_eq_true ⟨rfl, h⟩])
theorem eqn_f {x y : Operand} {w : World} {o t k : Int} (h : ¬ (t = 0 ∧ k = 1)) : binRun Tryz.prog .eql 65 x y (nt o t k) (nt o 0 1) w = .ok (.bool false) w := (bin_eqn _ _ _ _ _ _).trans (by rw [decide_eq_false (fun e => h e.2)])
theorem sg_c {W : World} {B : Nat} {li ro ta : Int} {su he re : Nat} {v : Value} (h : W.heap[B]? = some (.cells (sgA li ro ta su he re v) 42 (0, 0))) : W.cell? ⟨B, 2, none⟩ = some (.int .i64 ro) ∧ W.cell? ⟨B, 16, none⟩ = some v := ⟨(zca h 2).trans rfl, (zca h 16).trans rfl⟩
end Go.Proofs.YtekjhcnaabpfmaaGreatDoor
