/- audit.laws: the laws by kinds; an event's law. -/
import Derived.Test.YtgnhainfcfcodaaGreatAuh
import Derived.Maps.Own
namespace Go.Proofs.YtgnhainfcfcodaaGreat
open Go.RowKit Go.Shelf Go.Lib
attribute [local go_sem] Oper.semAt_some

def ES (p : Nat) : Array MapEntry := #[⟨.int .i64 1, .func (.func 97) #[.pointer (some ⟨p, 0, none⟩)] #[], 0⟩, ⟨.int .i64 2, .func (.func 98) #[.pointer (some ⟨p, 0, none⟩)] #[], 1⟩, ⟨.int .i64 3, .func (.func 99) #[.pointer (some ⟨p, 0, none⟩)] #[], 2⟩, ⟨.int .i64 4, .func (.func 100) #[.pointer (some ⟨p, 0, none⟩)] #[], 3⟩, ⟨.int .i64 5, .func (.func 101) #[.pointer (some ⟨p, 0, none⟩)] #[], 4⟩, ⟨.int .i64 6, .func (.func 102) #[.pointer (some ⟨p, 0, none⟩)] #[], 5⟩]
def lwV (p : Nat) (k : Int) : Value := if k = 1 then .func (.func 97) #[.pointer (some ⟨p, 0, none⟩)] #[] else if k = 2 then .func (.func 98) #[.pointer (some ⟨p, 0, none⟩)] #[] else if k = 3 then .func (.func 99) #[.pointer (some ⟨p, 0, none⟩)] #[] else if k = 4 then .func (.func 100) #[.pointer (some ⟨p, 0, none⟩)] #[] else if k = 5 then .func (.func 101) #[.pointer (some ⟨p, 0, none⟩)] #[] else if k = 6 then .func (.func 102) #[.pointer (some ⟨p, 0, none⟩)] #[] else .nilFunc
theorem keyI : Maps.Keyed Tryz.prog 3 := Maps.int_keyed Tryz.underlying3
theorem keyO {j : Int} (hw : (Lit.int .i64 j).wf = true) : keyOf Tryz.prog 3 (.int .i64 j) = some (.int .i64 j) := Maps.keyOf_int_mk Tryz.underlying3 hw
theorem ins_new {V : World} {M : Nat} {es : Array MapEntry} {c : Nat} {k : Int} (v : Value) (hb : V.heap[M]? = some (.map es c)) (hk : (Lit.int .i64 k).wf = true) (hes : ∀ e ∈ es.toList, ∃ j : Int, e.key = .int .i64 j ∧ (Lit.int .i64 j).wf = true ∧ j ≠ k) :
    ∃ V', (Instr.mapUpdate 139 (.map (some M)) (.int .i64 k) v).run Tryz.prog V = .ok () V' ∧ V'.heap[M]? = some (.map (es.push ⟨.int .i64 k, v, c⟩) (c + 1)) ∧ (∀ n, n ≤ M → Below n V V') := by
  rcases keyI.find V (keyO hk) es.toList (fun e he => by obtain ⟨j, h1, h2, _⟩ := hes e he; exact ⟨_, by rw [h1]; exact keyO h2⟩) with ⟨h1, _⟩ | ⟨j, e0, _, h2, h3⟩
  · refine ⟨ChangeMaps.setBlock V M (.map (es.push ⟨.int .i64 k, v, c⟩) (c + 1)), ?_, ChangeMaps.heap_setBlock_same hb _, fun n hn => ?_⟩
    · simp [Instr.mapUpdate, run_underlying Tryz.underlying139, MapKept.run_getObj_map hb, keyI.check V false (keyO hk), h1, MapKept.run_setObj_map _ hb, Result.andThen, ChangeMaps.setBlock]
    · exact ⟨rfl, rfl, rfl, by simp [ChangeMaps.setBlock], fun i hi => ChangeMaps.heap_setBlock_other hb _ (by omega)⟩
  · obtain ⟨j', q1, _, q3⟩ := hes e0 (List.mem_of_getElem? h2)
    rw [q1] at h3
    simp at h3
    exact absurd h3 q3
theorem look_ES {V : World} {M p : Nat} (hb : V.heap[M]? = some (.map (ES p) 6)) {k : Int} (hk : (Lit.int .i64 k).wf = true) : (Instr.lookup 139 (.map (some M)) (.int .i64 k) false).run Tryz.prog V = .ok (lwV p k) V := by
  have hz : (zeroValue 142).run Tryz.prog V = .ok .nilFunc V := by kernel_rfl
  rcases keyI.find V (keyO hk) (ES p).toList (fun e he => by
    simp only [ES, List.mem_cons, List.not_mem_nil, or_false] at he
    rcases he with rfl | rfl | rfl | rfl | rfl | rfl <;> exact ⟨_, keyO (by decide)⟩) with ⟨h1, h2⟩ | ⟨j, e0, h1, h2, h3⟩
  · have hv : lwV p k = .nilFunc := by
      simp only [ES, List.mem_cons, List.not_mem_nil, or_false, forall_eq_or_imp, forall_eq] at h2
      simp at h2
      unfold lwV
      simp [show ¬ k = 1 by omega, show ¬ k = 2 by omega, show ¬ k = 3 by omega, show ¬ k = 4 by omega, show ¬ k = 5 by omega, show ¬ k = 6 by omega]
    simp [Instr.lookup, run_underlying Tryz.underlying139, MapKept.run_getObj_map hb, keyI.check V _ (keyO hk), h1, hz, Result.andThen, hv]
  · have hm := List.mem_of_getElem? h2
    have hv : lwV p k = e0.val := by
      simp only [ES, List.mem_cons, List.not_mem_nil, or_false] at hm
      rcases hm with rfl | rfl | rfl | rfl | rfl | rfl <;> simp at h3 <;> subst h3 <;> rfl
    simp [Instr.lookup, run_underlying Tryz.underlying139, MapKept.run_getObj_map hb, keyI.check V _ (keyO hk), h1, Result.andThen, hv]
theorem hmf : ∀ (fn : Fn) (first cap : Array Value) (w : World), (Instr.makeFunc fn first cap).run Tryz.prog w = .ok (.func fn first cap) w := fun _ _ _ _ => rfl
set_option maxHeartbeats 4000000 in
set_option maxRecDepth 100000 in
theorem laws_any (p : Nat) (w : World) : Calls Tryz.prog 94 #[.pointer (some ⟨p, 0, none⟩)] w fun e V => e = .returned (.map (some w.heap.size)) ∧ V.heap[w.heap.size]? = some (.map (ES p) 6) ∧ Below w.heap.size w V := by
  have hmf := hmf
  have hmm := @run_makeMap Tryz.prog
  have b0 := al1' w (.map #[] 0)
  have g0 : (w.alloc (.map #[] 0)).heap[w.heap.size]? = some (.map #[] 0) := new_at rfl
  obtain ⟨V1, r1, g1, q1⟩ := ins_new (k := 1) (.func (.func 97) #[.pointer (some ⟨p, 0, none⟩)] #[]) g0 (by decide) (by first | (simp; done) | (simp; decide))
  have b1 := b0.trans (q1 w.heap.size (Nat.le_refl _))
  obtain ⟨V2, r2, g2, q2⟩ := ins_new (k := 2) (.func (.func 98) #[.pointer (some ⟨p, 0, none⟩)] #[]) g1 (by decide) (by first | (simp; done) | (simp; decide))
  have b2 := b1.trans (q2 w.heap.size (Nat.le_refl _))
  obtain ⟨V3, r3, g3, q3⟩ := ins_new (k := 3) (.func (.func 99) #[.pointer (some ⟨p, 0, none⟩)] #[]) g2 (by decide) (by first | (simp; done) | (simp; decide))
  have b3 := b2.trans (q3 w.heap.size (Nat.le_refl _))
  obtain ⟨V4, r4, g4, q4⟩ := ins_new (k := 4) (.func (.func 100) #[.pointer (some ⟨p, 0, none⟩)] #[]) g3 (by decide) (by first | (simp; done) | (simp; decide))
  have b4 := b3.trans (q4 w.heap.size (Nat.le_refl _))
  obtain ⟨V5, r5, g5, q5⟩ := ins_new (k := 5) (.func (.func 101) #[.pointer (some ⟨p, 0, none⟩)] #[]) g4 (by decide) (by first | (simp; done) | (simp; decide))
  have b5 := b4.trans (q5 w.heap.size (Nat.le_refl _))
  obtain ⟨V6, r6, g6, q6⟩ := ins_new (k := 6) (.func (.func 102) #[.pointer (some ⟨p, 0, none⟩)] #[]) g5 (by decide) (by first | (simp; done) | (simp; decide))
  have b6 := b5.trans (q6 w.heap.size (Nat.le_refl _))
  clear g0 g1 g2 g3 g4 g5 q1 q2 q3 q4 q5 q6 b0 b1 b2 b3 b4 b5
  go_enter Tryz.func94, Tryz.ntmps94
  go_wp2
  go_ret
  exact ⟨rfl, g6, b6⟩
def lawR (need : Int) (s : Hs) (x : Ev) (m : Nat) (u : Nod) : Option Hs := if x.k = 1 then law1 s x m u else if x.k = 2 then law2 s x m u else if x.k = 3 then law3 need s x u else if x.k = 4 then law4 s x else if x.k = 5 then law5 s x m u else law6 s x m u
/-- What an event turns. -/
def evt (need : Int) (s : Hs) (x : Ev) : Option Hs := if decide (1 ≤ x.k ∧ x.k ≤ 6) then evtF s x (lawR need s x) else none
theorem event_any {w : World} {p b : Nat} {need pl : Int} {s : Hs} (h : He w p b need pl s) (x : Ev) (hhe : x.he < S128) (hun : x.un < S128) : Calls Tryz.prog 95 #[.pointer (some ⟨p, 0, none⟩), evV x, lwV p x.k] w (Lw p b need pl w (evt need s x)) := by
  by_cases h1 : x.k = 1
  case pos =>
    have e1 : lwV p x.k = .func (.func 97) #[.pointer (some ⟨p, 0, none⟩)] #[] := by rw [h1]; rfl
    have e2 : evt need s x = evtF s x (lawR need s x) := by unfold evt; rw [if_pos (by rw [h1]; decide)]
    rw [e1, e2]
    exact event_fn h x hhe hun _ (lawR need s x) (by simp) (fun u hu hx V hV => by
      have e3 : lawR need s x x.nd.toNat u = law1 s x x.nd.toNat u := by unfold lawR; simp [h1]
      rw [e3]
      exact begin_any hV hu hx)
  by_cases h2 : x.k = 2
  case pos =>
    have e1 : lwV p x.k = .func (.func 98) #[.pointer (some ⟨p, 0, none⟩)] #[] := by rw [h2]; rfl
    have e2 : evt need s x = evtF s x (lawR need s x) := by unfold evt; rw [if_pos (by rw [h2]; decide)]
    rw [e1, e2]
    exact event_fn h x hhe hun _ (lawR need s x) (by simp) (fun u hu hx V hV => by
      have e3 : lawR need s x x.nd.toNat u = law2 s x x.nd.toNat u := by unfold lawR; simp [h2]
      rw [e3]
      exact ask_any hV hu hx)
  by_cases h3 : x.k = 3
  case pos =>
    have e1 : lwV p x.k = .func (.func 99) #[.pointer (some ⟨p, 0, none⟩)] #[] := by rw [h3]; rfl
    have e2 : evt need s x = evtF s x (lawR need s x) := by unfold evt; rw [if_pos (by rw [h3]; decide)]
    rw [e1, e2]
    exact event_fn h x hhe hun _ (lawR need s x) (by simp) (fun u hu hx V hV => by
      have e3 : lawR need s x x.nd.toNat u = law3 need s x u := by unfold lawR; simp [h3]
      rw [e3]
      exact close_any hV hu hx hhe hun)
  by_cases h4 : x.k = 4
  case pos =>
    have e1 : lwV p x.k = .func (.func 100) #[.pointer (some ⟨p, 0, none⟩)] #[] := by rw [h4]; rfl
    have e2 : evt need s x = evtF s x (lawR need s x) := by unfold evt; rw [if_pos (by rw [h4]; decide)]
    rw [e1, e2]
    exact event_fn h x hhe hun _ (lawR need s x) (by simp) (fun u hu hx V hV => by
      have e3 : lawR need s x x.nd.toNat u = law4 s x := by unfold lawR; simp [h4]
      rw [e3]
      exact doubt_any hV hu hx)
  by_cases h5 : x.k = 5
  case pos =>
    have e1 : lwV p x.k = .func (.func 101) #[.pointer (some ⟨p, 0, none⟩)] #[] := by rw [h5]; rfl
    have e2 : evt need s x = evtF s x (lawR need s x) := by unfold evt; rw [if_pos (by rw [h5]; decide)]
    rw [e1, e2]
    exact event_fn h x hhe hun _ (lawR need s x) (by simp) (fun u hu hx V hV => by
      have e3 : lawR need s x x.nd.toNat u = law5 s x x.nd.toNat u := by unfold lawR; simp [h5]
      rw [e3]
      exact defend_any hV hu hx)
  by_cases h6 : x.k = 6
  case pos =>
    have e1 : lwV p x.k = .func (.func 102) #[.pointer (some ⟨p, 0, none⟩)] #[] := by rw [h6]; rfl
    have e2 : evt need s x = evtF s x (lawR need s x) := by unfold evt; rw [if_pos (by rw [h6]; decide)]
    rw [e1, e2]
    exact event_fn h x hhe hun _ (lawR need s x) (by simp) (fun u hu hx V hV => by
      have e3 : lawR need s x x.nd.toNat u = law6 s x x.nd.toNat u := by unfold lawR; simp [h6]
      rw [e3]
      exact down_any hV hu hx)
  have e1 : lwV p x.k = .nilFunc := by unfold lwV; simp [h1, h2, h3, h4, h5, h6]
  have e2 : evt need s x = none := by unfold evt; rw [if_neg (by simp; omega)]
  rw [e1, e2]
  exact event_nil h x
end Go.Proofs.YtgnhainfcfcodaaGreat
