import Derived.Test.YtekjhcnaabpfmaaGreatDoorJnJ39
import Derived.Test.YtekjhcnaabpfmaaGreatDoorJnJ32
import Derived.Test.YtekjhcnaabpfmaaGreatDoorJnJ34
set_option maxHeartbeats 40000000
set_option maxRecDepth 100000
set_option linter.unusedVariables false
namespace Go.Proofs.YtekjhcnaabpfmaaGreatDoor
open Go.RowKit Go.Shelf Go.Lib
theorem nopen_bad {n f s : Int} (h : ¬ ((1 ≤ n ∧ n ≤ 100 ∧ 0 ≤ f ∧ f < n) ∧ 0 ≤ s ∧ s < n)) (a : Option Addr) : ∃ E : Int, (E != 0) = true ∧ ∀ w, Calls Tryz.prog 6 #[.int .i64 n, .int .i64 f, .int .i64 s, .pointer a] w fun r w' => r = .returned (.tuple #[.pointer none, .int .i64 E]) ∧ w' = w := by
 by_cases h1 : n < 1
 · refine ⟨1, rfl, fun w => ?_⟩
   have i1 : n < 1 := h1
   clear h
   go_enter Tryz.func6, Tryz.ntmps6
   go_wp2
   go_ret2
   exact ⟨rfl, rfl⟩
 by_cases h2 : n > 100
 · refine ⟨1, rfl, fun w => ?_⟩
   clear h
   go_enter Tryz.func6, Tryz.ntmps6
   go_wp2
   go_ret2
   exact ⟨rfl, rfl⟩
 by_cases h3 : f < 0
 · refine ⟨1, rfl, fun w => ?_⟩
   clear h
   go_enter Tryz.func6, Tryz.ntmps6
   go_wp2
   go_ret2
   exact ⟨rfl, rfl⟩
 by_cases h4 : f ≥ n
 · refine ⟨1, rfl, fun w => ?_⟩
   clear h
   go_enter Tryz.func6, Tryz.ntmps6
   go_wp2
   go_ret2
   exact ⟨rfl, rfl⟩
 by_cases h5 : s < 0
 · refine ⟨30, rfl, fun w => ?_⟩
   clear h
   go_enter Tryz.func6, Tryz.ntmps6
   go_wp2
   go_ret2
   exact ⟨rfl, rfl⟩
 by_cases h6 : s ≥ n
 · refine ⟨30, rfl, fun w => ?_⟩
   clear h
   go_enter Tryz.func6, Tryz.ntmps6
   go_wp2
   go_ret2
   exact ⟨rfl, rfl⟩
 exact absurd ⟨⟨by omega, by omega, by omega, by omega⟩, by omega, by omega⟩ h
section
variable {s s' : Ns} {m : Nat} {o : OpN} {E : Int}
structure Rnd (s s' : Ns) (o : OpN) (E : Int) : Prop where
 has : hasB s'.t.reps (s.s : Int) = true
 cn : ¬ (((cnt (cln s'.t.reps) : Nat) : Int) > (s.n : Int) - (s.f : Int))
 oth : o.k ≠ 1 → s'.t.ro = s.t.ro ∧ s'.H = s.H ∧ decide (cln (dif s.t.reps s'.t.reps) = 0) = true
 wt : o.k = 1 → ((cnt (cln s.t.reps) : Nat) : Int) < (s.n : Int) - (s.f : Int) → E = 170 ∧ s'.t.ro = s.t.ro ∧ s'.H = s.H ∧ s'.t.reps = s.t.reps
 go : o.k = 1 → ¬ (((cnt (cln s.t.reps) : Nat) : Int) < (s.n : Int) - (s.f : Int)) → E = 0 ∧ s'.t.ro = s.t.ro + 1 ∧ s'.H = s.t.reps ∧ s'.t.reps = 2 ^ s.s
theorem dCl_f (s : Ns) : (dCl s).f = s.f := by
 have := (stDb_keep (dDoubts (dCl2 (dCl1 s))) (dCl2 (dCl1 s))).2.1
 exact this
theorem Nv.rdy (h : Nv m s) : rdy s.t = decide (¬ ((cnt (cln s.t.reps) : Nat) : Int) < (s.n : Int) - (s.f : Int)) := by
 have a1 := h.tv.len
 have a2 := h.td
 have a3 := h.rc
 have a4 := h.fn
 rw [cln_id h.tv.reps]
 unfold Go.Proofs.YtekjhcnaabpfmaaGreatDoor.rdy
 rw [a3, a2] at a1
 rw [a3, a2]
 by_cases q : ((cnt s.t.reps : Nat) : Int) < (s.n : Int) - (s.f : Int)
 · rw [decide_eq_false (by omega), decide_eq_false (by omega)]
 · rw [decide_eq_true (by omega), decide_eq_true (by omega)]
theorem dif_sub {A B : Nat} (h : ∀ i, A.testBit i = true → B.testBit i = true) : cln (dif A B) = 0 := by
 have : dif A B = 0 := by
  apply Nat.eq_of_testBit_eq
  intro i
  unfold dif
  have := h i
  cases h1 : A.testBit i <;> cases h2 : B.testBit i <;> simp_all
 rw [this]; rfl
theorem DoR.rnd (h : DoR s o s' E) (hv : Nv m s) (hm : m ≤ 500) : Nv (m + 1) s' ∧ s'.n = s.n ∧ s'.f = s.f ∧ s'.s = s.s ∧ Rnd s s' o E := by
 have main : Nv (m + 1) s' → s'.n = s.n → s'.f = s.f → s'.s = s.s → hasB s'.t.reps (s.s : Int) = true ∧ ¬ (((cnt (cln s'.t.reps) : Nat) : Int) > (s.n : Int) - (s.f : Int)) := by
   intro h1 h2 h3 h4
   have a1 := h1.rs
   have a2 := h1.rc
   have a3 := h1.tv.len
   have a4 := h1.td
   have a5 := h1.sn
   have a6 := h1.n2
   rw [h4] at a1
   rw [cln_id h1.tv.reps]
   refine ⟨?_, by rw [a2, a4, h2, h3] at a3; omega⟩
   unfold hasB
   rw [decide_eq_true (by omega), Int.toNat_natCast, a1]; rfl
 rcases h with ⟨k1, rfl, rfl⟩ | ⟨k1, rfl | ⟨bs, hby, rfl⟩⟩
 · have hr := hv.rdy
   by_cases q : ((cnt (cln s.t.reps) : Nat) : Int) < (s.n : Int) - (s.f : Int)
   · rw [decide_eq_false (by omega)] at hr
     have e : dPoll s = (dAsk s, askTo s.n s.s (dAskB s), 170) := by unfold dPoll; rw [if_neg (by rw [hr]; decide)]
     have hv1 := hv.poll (m := m) hm
     rw [e] at hv1 ⊢
     obtain ⟨m1, m2⟩ := main (by rw [e]; exact hv1) (by rw [e]; rfl) (by rw [e]; rfl) (by rw [e]; rfl)
     rw [e] at m1 m2
     exact ⟨hv1, rfl, rfl, rfl, m1, m2, fun x => absurd k1 x, fun _ _ => ⟨rfl, rfl, rfl, rfl⟩, fun _ x => absurd q x⟩
   · rw [decide_eq_true q] at hr
     have e : dPoll s = (dAsk (dCl s), askTo s.n s.s (dAskB (dCl s)), 0) := by unfold dPoll; rw [if_pos hr]
     have hv1 := hv.poll (m := m) hm
     obtain ⟨_, _, _, _, c1, c2, c3, _, c5, c6⟩ := hv.close (by omega)
     obtain ⟨m1, m2⟩ := main hv1 (by rw [e]; exact c5) (by rw [e]; exact dCl_f s) (by rw [e]; exact c6)
     rw [e] at hv1 m1 m2 ⊢
     exact ⟨hv1, c5, dCl_f s, c6, m1, m2, fun x => absurd k1 x, fun _ x => absurd x q, fun _ _ => ⟨rfl, c1, c2, c3⟩⟩
 · obtain ⟨m1, m2⟩ := main hv.mono rfl rfl rfl
   exact ⟨hv.mono, rfl, rfl, rfl, m1, m2, fun _ => ⟨rfl, rfl, decide_eq_true (dif_sub fun _ h => h)⟩, fun x => absurd x k1, fun x => absurd x k1⟩
 · obtain ⟨c1, c2, c3, c4, _, c6, c7, c8⟩ := hv.hear hm bs hby
   obtain ⟨m1, m2⟩ := main c1 c6 c8 c7
   exact ⟨c1, c6, c8, c7, m1, m2, fun _ => ⟨c2, c3, decide_eq_true (dif_sub c4)⟩, fun x => absurd x k1, fun x => absurd x k1⟩
end
def sgA (li ro ta : Int) (su he re : Nat) (v : Value) : Array Value := #[.bool true, .int .i64 li, .int .i64 ro, .int .i64 ta, .int .u32 (wd su 0 : Nat), .int .u32 (wd su 1 : Nat), .int .u32 (wd su 2 : Nat), .int .u32 (wd su 3 : Nat), .int .u32 (wd he 0 : Nat), .int .u32 (wd he 1 : Nat), .int .u32 (wd he 2 : Nat), .int .u32 (wd he 3 : Nat), .int .u32 (wd re 0 : Nat), .int .u32 (wd re 1 : Nat), .int .u32 (wd re 2 : Nat), .int .u32 (wd re 3 : Nat), v]
section
variable {w W V : World} {base x b : Nat} {A : NA} {s : Ns} {m : Nat} {ro : Int} {he re : Nat}
theorem eqA {A : Nat} (hA : A < S128) (w : World) : (Op.equalIn 10000 35 (.agg #[.int .u32 (wd A 0 : Nat), .int .u32 (wd A 1 : Nat), .int .u32 (wd A 2 : Nat), .int .u32 (wd A 3 : Nat)]) (.agg #[.int .u32 (wd A 0 : Nat), .int .u32 (wd A 1 : Nat), .int .u32 (wd A 2 : Nat), .int .u32 (wd A 3 : Nat)])).run Tryz.prog w = .ok true w := by
 have := eqn4 A A hA hA w
 rw [decide_eq_true rfl] at this
 exact this
theorem RdW.op {ad : Option Addr} {l : List OpN} (h : RdW W ad l) {k : Nat} {o : OpN} (hk : l[k]? = some o) : OpOk W o := by
 obtain ⟨_, _, _, _, _, h⟩ := h k o hk
 exact h
theorem lgt_at {l : List OpN} (h : lgt l = true) {k : Nat} {o : OpN} (hk : l[k]? = some o) : o.nl.length ≤ 300 ∧ l.length ≤ 80 := by
 unfold lgt at h
 simp only [Bool.and_eq_true, decide_eq_true_eq] at h
 have := List.all_eq_true.1 h.2 o (List.mem_of_getElem? hk)
 unfold lgt1 at this
 simp only [Bool.and_eq_true, decide_eq_true_eq] at this
 exact ⟨this.2, h.1⟩
end
attribute [local go_sem] Oper.semAt_some
section
variable {w : World} {base x : Nat} {A : NA} {s : Ns}
end
end Go.Proofs.YtekjhcnaabpfmaaGreatDoor
