/- A notice that is laid in a new box while a region draws its order; books that are joined. -/
import Derived.Test.YtpphmfmfenifgaaBkx
namespace Go.Proofs.Ytpphmfmfenifgaa
open Go.RowKit Go.Shelf Go.Lib

theorem ext2_0 (a b : Value) (W : World) : (Instr.extract (.tuple #[a, b]) 0).run Try.prog W = .ok a W := rfl
theorem ext2_1 (a b : Value) (W : World) : (Instr.extract (.tuple #[a, b]) 1).run Try.prog W = .ok b W := rfl
theorem bin_neqk {P : Program} {t : TypeId} {x y : Operand} {w : World} (k : IntKind) (a b : Int) : binRun P .neq t x y (.int k a) (.int k b) w = .ok (.bool (a != b)) w := by simp [binRun, go_sem]
theorem run_allocN (w : World) : (Instr.alloc 32 true (.tuple #[])).run Try.prog w = .ok (.pointer (some ⟨w.heap.size, 0, none⟩)) (w.alloc (.cells #[.int .i64 0, .int .i64 0, .int .i64 0] 32)) := by go_simp
theorem stepG_newN {G : Type} {md : Region.Mode} {ops : Array Oper} {Q : Exit → Act → World → Prop} {X0 : Array Value} {val : G → Nat → Value} {J : G → (Nat → Bool) → World → Prop} {i : Nat} {o : Oper} (hi : ops[i]? = some o) (hg : o.guard = none) (ho : o.op = .alloc 32)
    (h : ∀ g d W, J g d W → d i = false → (∀ j oj, ops[j]? = some oj → d j = true → ∀ k, bindsOn md oj k = true → d k = true) → ∃ g', (∀ j, d j = true → val g' j = val g j) ∧ val g' i = .pointer (some ⟨W.heap.size, 0, none⟩) ∧ J g' (fun j => if j = i then true else d j) (W.alloc (.cells #[.int .i64 0, .int .i64 0, .int .i64 0] 32))) : StepG Try.prog md ops Q X0 val J i o := by
  intro g d a W hJ hun _ hcl _
  obtain ⟨g', h1, h2, h3⟩ := h g d W hJ hun hcl
  unfold wpOp
  rw [hi]
  simp only [Region.wanted, hg, if_true]
  refine .inl ?_
  unfold Oper.wp execOp
  simp only [ho, Sem.run_bind, run_allocN, Result.andThen_ok, Sem.run_pure, Oper.upon_value]
  exact ⟨g', h1, by rw [h2], h3⟩
/-- While a notice is laid in a new box. -/
structure JN (Z : World) (o t k : Int) (g : Nat) (x y : Bool) (W : World) : Prop where
  below : Below Z.heap.size Z W
  box : x = true → Z.heap.size ≤ g ∧ NB W g (if y = true then o else 0) (if y = true then t else 0) (if y = true then k else 0)
theorem JN.carry {Z W V : World} {o t k : Int} {g : Nat} {x y : Bool} (h : JN Z o t k g x y W) (hb : Below W.heap.size W V) : JN Z o t k g x y V := ⟨bel2 h.below hb, fun e => ⟨(h.box e).1, (h.box e).2.carry hb⟩⟩
theorem JN.new {Z W : World} {o t k : Int} {g : Nat} {x y : Bool} (h : JN Z o t k g x y W) (hy : y = false) : JN Z o t k W.heap.size true y (W.alloc (.cells #[.int .i64 0, .int .i64 0, .int .i64 0] 32)) := by
  subst hy
  exact ⟨h.below.alloc h.below.size _, fun _ => ⟨h.below.size, NB.new _ _ _ _⟩⟩
theorem JN.store {Z W : World} {o t k : Int} {g : Nat} {y : Bool} (h : JN Z o t k g true y W) : (Instr.storeAt 32 (.pointer (some ⟨g, 0, none⟩)) (nt o t k)).run Try.prog W = .ok () (W3 W g o t k) ∧ JN Z o t k g true true (W3 W g o t k) :=
  ⟨store_nt (h.box rfl).2 o t k, below3 h.below (h.box rfl).1 _ _ _, fun _ => ⟨(h.box rfl).1, by simpa using (h.box rfl).2.set o t k⟩⟩
theorem mx_rk (t k t' k' : Int) : rk (mxt t k t' k') (mxk t k t' k') = max (rk t k) (rk t' k') := by
  unfold mxt mxk
  by_cases h : rk t k < rk t' k'
  · simp only [if_pos h]; omega
  · simp only [if_neg h]; omega
theorem fold_upr_le (n i : Nat) (R : Int) : ∀ (m : List N3) (r : Int), (∀ x ∈ m, i = x.1.toNat → rkx x ≤ R) → r ≤ R → m.foldl (upr n i) r ≤ R
  | [], _, _, h => h
  | x :: m, r, hm, h => by
    refine fold_upr_le n i R m (upr n i r x) (fun y hy => hm y (by simp [hy])) ?_
    unfold upr
    split
    · next hc => have := hm x (by simp) hc.2; omega
    · exact h
theorem join_rk {a b : List N3} (ha : Bok a) (hb : Bok b) (hl : a.length = b.length) (h1 : 1 ≤ a.length) (h2 : a.length ≤ 100) (i : Nat) (hi : i < a.length) : rkl (mrg a b) i = max (rkl a i) (rkl b i) := by
  have hv : b.all (vlx a.length) = true := by rw [hl]; exact (own_list hb (by omega) (by omega)).1
  rw [mrg_rk ha hv]
  obtain ⟨y, hy⟩ : ∃ y, b[i]? = some y := ⟨_, List.getElem?_eq_getElem (by omega)⟩
  have hyi := (hb i y hy).1
  rw [rkl_some hy]
  have g1 := fold_upr_ge a.length i b (rkl a i)
  have g2 := fold_upr_mem a.length b (rkl a i) y (List.mem_of_getElem? hy) (List.all_eq_true.1 hv y (List.mem_of_getElem? hy))
  rw [show y.1.toNat = i by omega] at g2
  have g3 := fold_upr_le a.length i (max (rkl a i) (rkx y)) b (rkl a i) (fun x hx e => by
    obtain ⟨j, hj⟩ := List.mem_iff_getElem?.1 hx
    have := (hb j x hj).1
    obtain rfl : j = i := by omega
    rw [hy] at hj
    obtain rfl := Option.some.inj hj
    omega) (by omega)
  omega
theorem join_same {a b : List N3} (ha : Bok a) (hb : Bok b) (hl : a.length = b.length) (h1 : 1 ≤ a.length) (h2 : a.length ≤ 100) : mrg a b = mrg b a := by
  refine bok_ext (mrg_bok ha b) (mrg_bok hb a) ((mrg_len ha b).trans (hl.trans (mrg_len hb a).symm)) (fun i hi => ?_)
  rw [mrg_len ha b] at hi
  rw [join_rk ha hb hl h1 h2 i hi, join_rk hb ha hl.symm (by omega) (by omega) i (by omega)]
  omega
/-- Of each node the greater one. -/
theorem join_at {a b : List N3} (ha : Bok a) (hb : Bok b) (hl : a.length = b.length) (h1 : 1 ≤ a.length) (h2 : a.length ≤ 100) {i : Nat} {x y : N3} (hx : a[i]? = some x) (hy : b[i]? = some y) : rv x.1 x.2.1 x.2.2 y.1 y.2.1 y.2.2 = true ∧ (mrg a b)[i]? = some (x.1, mxt x.2.1 x.2.2 y.2.1 y.2.2, mxk x.2.1 x.2.2 y.2.1 y.2.2) := by
  have hi := (List.getElem?_eq_some_iff.1 hx).1
  obtain ⟨x0, x1⟩ := ha i x hx
  obtain ⟨y0, y1⟩ := hb i y hy
  refine ⟨decide_eq_true ⟨by omega, x1, y1⟩, ?_⟩
  obtain ⟨z, hz⟩ : ∃ z, (mrg a b)[i]? = some z := ⟨_, List.getElem?_eq_getElem (by rw [mrg_len ha b]; exact hi)⟩
  obtain ⟨z0, z1⟩ := mrg_bok ha b i z hz
  have hr := join_rk ha hb hl h1 h2 i hi
  rw [rkl_some hz, rkl_some hx, rkl_some hy] at hr
  unfold rkx at hr z1
  rw [← mx_rk] at hr
  have := rk_inj hr z1
  rw [hz]
  exact congrArg some (Prod.ext (z0.trans x0.symm) (Prod.ext this.1 this.2))
end Go.Proofs.Ytpphmfmfenifgaa
