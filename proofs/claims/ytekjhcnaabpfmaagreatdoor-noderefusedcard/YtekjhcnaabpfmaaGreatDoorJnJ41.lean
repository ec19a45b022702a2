import Derived.Test.YtekjhcnaabpfmaaGreatDoorJnJ40
set_option maxHeartbeats 40000000
set_option maxRecDepth 100000
set_option linter.unusedVariables false
namespace Go.Proofs.YtekjhcnaabpfmaaGreatDoor
open Go.RowKit Go.Shelf Go.Lib
section
variable {s s' : Ns} {m : Nat} {o : OpN} {E : Int}
end
section
variable {w W V : World} {base x b : Nat} {A A' : NA} {s : Ns} {m : Nat}
theorem RdN.mvN {g : Nat} {l : List N3} (h : RdN W (some ⟨g, 0, none⟩) l) (hg : ¬ nown x A g) (m : Mv x A A' W V) : RdN V (some ⟨g, 0, none⟩) l := h.mvY m (fun q e => by obtain rfl := Option.some.inj e; exact hg)
end
section
variable {w W V : World} {base x b : Nat} {A A' : NA} {s : Ns} {m : Nat}
theorem sight_ex {li ro ta : Int} {su he re n : Nat} (h : Nd w base x A s) (hv : Nv m s) (h1 : s.b.r.li = li) (h2 : s.t.ro = ro) (h3 : s.b.ta = ta) (h4 : sus s.l = su) (h5 : s.H = he) (h6 : s.t.reps = re) (hn : s.n = n) :
   Calls Tryz.prog 11 #[.pointer (some ⟨x, 0, none⟩)] w fun r w' => ∃ g c, r = .returned (.agg (sgA li ro ta su he re (.slice (some ⟨g, 0, none⟩) n c))) ∧ RdN w' (some ⟨g, 0, none⟩) s.l ∧ w.heap.size ≤ g ∧ g < w'.heap.size ∧ Below w.heap.size w w' := by
 have k1 := hv.len
 have k2 := hv.n1
 have k3 := hv.n2
 refine (sight_any h (by omega) (by omega) hv.bok).mono ?_
 rintro r w' ⟨a, c, rfl, hrow, hb⟩
 have hrd := RdN.ofRow hrow
 rcases own_form hrow with ⟨_, e2⟩ | ⟨g, c', e1, g1, g2, _⟩
 · omega
 · obtain ⟨rfl, _⟩ : a = some ⟨g, 0, none⟩ ∧ c = c' := by simpa using e1
   subst h1 h2 h3 h4 h5 h6 hn
   rw [k1]
   exact ⟨g, c, rfl, hrd, g1, g2, hb⟩
theorem hear_no (h : Nd w base x A s) (hv : Nv m s) (hm : m ≤ 500) (hEn : Env w) (hbs : 2 < base) {ad : Option Addr} {cap : Nat} {bs : List Nat} (hr : RdBW w ad bs) (hby : BytW bs) (hc : bs.length ≤ cap) {E : Int} (he : dHear s bs = (s, [], E)) :
   Calls Tryz.prog 14 #[.pointer (some ⟨x, 0, none⟩), .slice ad bs.length cap] w fun r w' => ∃ a c A', r = .returned (.tuple #[.slice a 0 c, .int .i64 E]) ∧ Nd w' base x A' s ∧ Mv x A A' w w' := by
 have := hear_any h hv hm hEn hbs hr hby hc
 rw [he] at this
 refine this.mono ?_
 rintro r w' ⟨v, l, A', rfl, ho, hs, hn, hm⟩
 obtain rfl : l = [] := by simpa [Outs.say] using hs
 rcases own_form ho.row with ⟨rfl, _⟩ | ⟨g, cap, rfl, _⟩
 · exact ⟨none, 0, A', rfl, hn, hm⟩
 · exact ⟨_, cap, A', rfl, hn, hm⟩
theorem hear_yes (h : Nd w base x A s) (hv : Nv m s) (hm : m ≤ 500) (hEn : Env w) (hbs : 2 < base) {ad : Option Addr} {cap : Nat} {bs : List Nat} (hr : RdBW w ad bs) (hby : BytW bs) (hc : bs.length ≤ cap) (he : (dHear s bs).2.2 = 0) :
  Calls Tryz.prog 14 #[.pointer (some ⟨x, 0, none⟩), .slice ad bs.length cap] w fun r w' => ∃ v A', r = .returned (.tuple #[v, .int .i64 0]) ∧ Mv x A A' w w' := by
 refine (hear_any h hv hm hEn hbs hr hby hc).mono ?_
 rintro r w' ⟨v, l, A', rfl, ho, hs, hn, hm⟩
 rw [he]
 exact ⟨v, A', rfl, hm⟩
theorem dHear_err {bs : List Nat} {er : Int} (h : dec (s.n : Int) bs = .error er) : dHear s bs = (s, [], er) := by unfold dHear; rw [h]
theorem dHear_self {bs : List Nat} {kd fr rd N : Nat} {l : List N3} (h : dec (s.n : Int) bs = .ok (kd, fr, rd, N, l)) (hf : (fr : Int) = (s.s : Int)) : dHear s bs = (s, [], 72) := by unfold dHear; rw [h]; exact if_pos hf
theorem dHear_zero {bs : List Nat} {kd fr rd N : Nat} {l : List N3} (h : dec (s.n : Int) bs = .ok (kd, fr, rd, N, l)) (hf : ¬ (fr : Int) = (s.s : Int)) : (dHear s bs).2.2 = 0 := by
 unfold dHear
 rw [h]
 dsimp only
 rw [if_neg hf]
 split
 · rfl
 · split <;> rfl
theorem load_sg {W : World} {B : Nat} {li ro ta : Int} {su he re : Nat} {v : Value} (hv : ∃ a n c, v = .slice a n c) (h : W.heap[B]? = some (.cells (sgA li ro ta su he re v) 42 (0, 0))) : (Instr.loadAt 42 (.pointer (some ⟨B, 0, none⟩))).run Tryz.prog W = .ok (.agg (sgA li ro ta su he re v)) W := by
 obtain ⟨a, n, c, rfl⟩ := hv
 have c0 := zca h 0
 have c1 := zca h 1
 have c2 := zca h 2
 have c3 := zca h 3
 have c4 := zca h 4
 have c5 := zca h 5
 have c6 := zca h 6
 have c7 := zca h 7
 have c8 := zca h 8
 have c9 := zca h 9
 have c10 := zca h 10
 have c11 := zca h 11
 have c12 := zca h 12
 have c13 := zca h 13
 have c14 := zca h 14
 have c15 := zca h 15
 have c16 := zca h 16
 unfold sgA at c0 c1 c2 c3 c4 c5 c6 c7 c8 c9 c10 c11 c12 c13 c14 c15 c16
 simp at c0 c1 c2 c3 c4 c5 c6 c7 c8 c9 c10 c11 c12 c13 c14 c15 c16
 unfold sgA
 go_simp
theorem bin_selfR {P : Program} {t : TypeId} {x y : Operand} {w : World} (k : IntKind) (a : Int) : binRun P .eql t x y (.int k a) (.int k a) w = .ok (.bool true) w := by simp [binRun, go_sem]
structure Jrf (U : World) (L : List N3) (E : List Ev) (g : Nat × Nat × Option Addr × Nat) (d14 d20 : Bool) (V : World) : Prop where
 be : Below U.heap.size U V
 rd : d14 = true → RdN V (some ⟨g.1, 0, none⟩) L
 pa : d20 = true → V.ownsRow U.heap.size 90 15 (.slice g.2.2.1 E.length g.2.2.2) E.length (ecs E)
theorem Jrf.carry {U : World} {L : List N3} {E : List Ev} {g : Nat × Nat × Option Addr × Nat} {d14 d20 : Bool} {V V' : World} (h : Jrf U L E g d14 d20 V) (hb : Below V.heap.size V V') : Jrf U L E g d14 d20 V' := ⟨bel2 h.be hb, fun e => (h.rd e).carry hb, fun e => zrb (h.pa e) hb⟩
theorem Mv.row {base' n size : Nat} {e : TypeId} {v : Value} {xs : List Value} (mv : Mv x A A' W V) (h : Nd W base x A s) (hr : W.ownsRow base' e size v n xs) (hn : ∀ k, nown x A k → k < base') : V.ownsRow base' e size v n xs := row_moved hr (fun k hk => mv.block k (row_lt2 hr k hk).2 (fun e2 => by have h1 := hn k e2; have h2 := (row_lt2 hr k hk).1; omega))
end
end Go.Proofs.YtekjhcnaabpfmaaGreatDoor
