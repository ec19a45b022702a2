/- A region that draws its order and ends with a call that panics. For every program. -/
import Derived.Test.YtnomeinppdnhfaaGreatRgs
import Derived.Test.YtnomeinppdnhfaaGreatWrc
import Derived.Test.YtnomeinppdnhfaaGreatOwn
import Derived.Test.YtnomeinppdnhfaaGreatRgn
import Derived.Test.YtnomeinppdnhfaaGreatRgf
import Derived.WalkLawsBesides
namespace Go.Proofs.YtnomeinppdnhfaaGreat
open Go.RowKit

/-- The law. G: what is found out on the way (where a block was laid). -/
theorem wpAny_tabD {P : Program} {md : Region.Mode} {ops : Array Oper} {Q : Exit → Act → World → Prop} {G : Type} (val : G → Nat → Value) (J : G → (Nat → Bool) → World → Prop)
    {X0 : Array Value} {df : List Deferred} (hok : tabOk md ops X0.size = true)
    (hend : ∀ g d w, (∀ j, j < ops.size → d j = true) → J g d w → Q .normal { tmps := finL (val g) ops.toList 0 X0, defers := df } w)
    (hstep : ∀ i o, ops[i]? = some o → ∀ g d a w, J g d w → a.defers = df → d i = false → (∀ j, bindsOn md o j = true → d j = true) → (∀ j oj, ops[j]? = some oj → d j = true → ∀ k, bindsOn md oj k = true → d k = true) → (∀ s v, rdv md ops X0 (val g) i o s = some v → a.tmps.getD s undef = v) →
      wpOp P ops Q i (fun a' w' => ∃ g', (∀ j, d j = true → val g' j = val g j) ∧ a' = a.put o.dst (val g' i) ∧ J g' (fun j => if j = i then true else d j) w') a w)
    (g : G) {w : World} (hJ : J g (fun _ => false) w) : wpAny P md ops Q ops.size (Array.replicate ops.size false) { tmps := X0, defers := df } w := by
  have key : ∀ k (listed : Array Bool) (a : Act) (w : World) (g : G), falses listed.toList = k → TabSt md ops X0 df (val g) listed a → J g (fun j => listed.getD j false) w → wpAny P md ops Q k listed a w := by
    intro k
    induction k with
    | zero =>
      intro listed a w g hk hS hJ
      have hall : ∀ j, j < ops.size → listed.getD j false = true := fun j hj => by
        have := falses_zero listed.toList j hk (by simpa [hS.size] using hj)
        simpa [Array.getD_eq_getD_getElem?] using this
      have hr : Region.ready md ops listed = [] := by
        apply List.eq_nil_iff_forall_not_mem.2
        intro j hj
        obtain ⟨h1, o, ho, _⟩ := mem_ready.1 hj
        have h2 := hall j (getElem?_lt ho)
        have h3 : j < listed.size := by rw [hS.size]; exact getElem?_lt ho
        simp [Array.getD, h3] at h1 h2
        rw [h1] at h2; cases h2
      refine ⟨hr, ?_⟩
      rw [tab_end hS hok hall]
      exact hend g _ w hall hJ
    | succ k ih =>
      intro listed a w g hk hS hJ
      have hun : ∀ i, Region.ready md ops listed = [] → i < ops.size → listed.getD i false = true := by
        intro i hn
        induction i using Nat.strongRecOn with
        | ind i ihi =>
          intro hi
          cases hl : listed.getD i false with
          | true => rfl
          | false =>
            have hlt : i < listed.size := by rw [hS.size]; exact hi
            obtain ⟨o, ho⟩ : ∃ o, ops[i]? = some o := ⟨_, Array.getElem?_eq_getElem hi⟩
            have hc := List.all_eq_true.1 hok i (List.mem_range.2 hi)
            rw [ho] at hc
            simp only [Bool.and_eq_true] at hc
            have hmem : i ∈ Region.ready md ops listed := mem_ready.2 ⟨by simp [Array.getD, hlt] at hl ⊢; exact hl, o, ho, fun e he hb => by
              have := List.all_eq_true.1 hc.1 e (by simpa using he)
              simp only [hb, Bool.not_true, Bool.false_or, decide_eq_true_eq] at this
              exact ihi e.on this (by omega)⟩
            rw [hn] at hmem; cases hmem
      refine ⟨fun hn => ?_, fun i hi => ?_⟩
      · have hall := hun
        rw [tab_end hS hok (fun j hj => hun j hn hj)]
        exact hend g _ w (fun j hj => hun j hn hj) hJ
      · obtain ⟨h1, o, ho, hr⟩ := mem_ready.1 hi
        have hlt : i < listed.size := by rw [hS.size]; exact getElem?_lt ho
        have h1' : listed.getD i false = false := by simp [Array.getD, hlt] at h1 ⊢; exact h1
        refine wpOp_mono (fun a' w' hq => ?_) (hstep i o ho g _ a w hJ hS.dfs h1' (fun j hj => ?_) (fun j oj hoj hd k hk => ?_) (fun s v hv => hS.reads ho h1' hr s v hv))
        · obtain ⟨g', hv, rfl, hJ'⟩ := hq
          refine ih (listed.setIfInBounds i true) _ w' g' ?_ (hS.put hok ho hr hv h1') ?_
          · have := falses_set listed.toList i (by simpa [Array.getD_eq_getD_getElem?, hlt] using h1)
            simp only [Array.toList_setIfInBounds]
            omega
          · have e : (fun j => (listed.setIfInBounds i true).getD j false) = (fun j => if j = i then true else listed.getD j false) := by
              funext j
              rw [getD_set]
              by_cases e : i = j
              · subst e; simp [hlt]
              · rw [if_neg (fun c => e c.1), if_neg (fun c => e c.symm)]
            rw [e]; exact hJ'
        · obtain ⟨e, he, hb, rfl⟩ := bindsOn_iff.1 hj
          exact hr e he hb
        · obtain ⟨e, he, hb, rfl⟩ := bindsOn_iff.1 hk
          exact hS.closed j oj hoj hd e he hb
  refine key _ _ _ _ g (by simp [falses_replicate]) ⟨by simp, rfl, rfl, ?_, ?_, fun _ _ => rfl⟩ ?_
  · intro j oj _ h
    simp [Array.getD] at h
  · intro j s _ h
    simp [Array.getD] at h
  · have e : (fun j => (Array.replicate ops.size false).getD j false) = (fun _ => false) := by funext j; simp [Array.getD]
    rw [e]; exact hJ


/-- All but the last one turn nothing; the last one leaves by a panic. -/
theorem wpAny_dies {P : Program} {md : Region.Mode} {ops : Array Oper} {Q : Exit → Act → World → Prop} (m : Nat) (val : Nat → Value) (J : World → Prop)
    {X0 : Array Value} {df : List Deferred} (hm : ops.size = m + 1) (hok : tabOk md ops X0.size = true) {w : World} (hJ : J w)
    (hsteps : stepsFrom (fun i o => StepAt P md ops Q X0 val J J i o) (ops.toList.take m) 0)
    (hlast : ∀ o, ops[m]? = some o → ∀ a w, J w → a.defers = df → Seen md ops X0 val m o a → wpOp P ops Q m (fun _ _ => False) a w) : wpAny P md ops Q ops.size (Array.replicate ops.size false) { tmps := X0, defers := df } w := by
  refine wpAny_tabD (G := Unit) (fun _ => val) (fun _ d w => d m = false ∧ J w) hok (fun _ d w hall h => ?_) (fun i o ho _ d a w h hd hun hdep hcl hrd => ?_) () ⟨rfl, hJ⟩
  · have := hall m (by omega)
    rw [h.1] at this
    cases this
  · have hil := getElem?_lt ho
    by_cases him : i < m
    · have hst := stepsFrom_at _ 0 hsteps i o (by rw [getElem?_take _ _ _ him]; simpa using ho)
      rw [Nat.zero_add] at hst
      refine wpOp_mono (fun a' w' hq => ?_) (hst a w h.2 hrd)
      obtain ⟨rfl, hJ'⟩ := hq
      refine ⟨(), fun _ _ => rfl, rfl, ?_, hJ'⟩
      show (if m = i then true else d m) = false
      rw [if_neg (by omega)]
      exact h.1
    · have e : i = m := by omega
      subst e
      exact wpOp_mono (fun a' w' hq => hq.elim) (hlast o ho a w h.2 hd hrd)
theorem call_dies {P : Program} {md : Region.Mode} {ops : Array Oper} {Q : Exit → Act → World → Prop} {X0 : Array Value} {val : Nat → Value} {J J2 : World → Prop} {i : Nat} {o : Oper} {df : List Deferred} {K : Act → World → Prop} (hi : ops[i]? = some o) (hg : GOk md ops X0 val i o) (f : FuncId) (xs : Array Operand) (ts : Array TypeId) (vs : List Value) (ho : o.op = .call { callee := .value (.func f), args := xs, argTypes := ts })
    (hx : xs.toList.map (rdo md ops X0 val i o) = vs.map some) (hen : ∀ args w, (callFunc f args).run P w = .ok (.enter f args) w) (ch : List PanicEntry) (hc : ∀ w, J w → Calls P f vs.toArray w fun e w' => e = .panicked ch ∧ J2 w') (hQ : ∀ a w, a.defers = df → J2 w → Q (.panic ch) a w) :
    ∀ a w, J w → a.defers = df → Seen md ops X0 val i o a → wpOp P ops Q i K a w := by
  intro a w hJ hd hS
  unfold wpOp
  rw [hi]
  simp only [wanted_of hS hg, if_true]
  refine .inl ?_
  unfold Oper.wp execOp
  have e : xs.map a.eval = vs.toArray := by
    apply Array.toList_inj.1
    rw [Array.toList_map]
    exact hS.evals _ _ hx
  have e2 : a.eval (.func f) = .func (.func f) #[] #[] := rfl
  simp only [ho, resolve, e, e2, Deferred.ofValue, Sem.run_bind, Sem.run_pure, Result.andThen_ok, invoke, Array.empty_append, Array.append_empty, hen, Oper.upon_enter]
  refine (hc w hJ).mono ?_
  rintro e' w' ⟨rfl, hJ'⟩
  exact hQ _ _ hd hJ'
end Go.Proofs.YtnomeinppdnhfaaGreat
namespace Go.Proofs.YtnomeinppdnhfaaGreat
open Go.RowKit Go.Shelf

/-- The panic with which the reading is given up. -/
def rfu (e : Int) : List PanicEntry := [{ v := .iface 82 (.int .i64 e), recovered := false }]
theorem refuse_yes (e : Int) (w : World) : Calls Tryz.prog 81 #[.bool true, .int .i64 e] w fun en w' => en = .panicked (rfu e) ∧ w' = w := by
  go_enter Tryz.func81, Tryz.ntmps81
  go_wp2
  exact ⟨rfl, rfl, rfl⟩
theorem refuse_no (e : Int) (w : World) : Calls Tryz.prog 81 #[.bool false, .int .i64 e] w fun en w' => en = .returned (.tuple #[]) ∧ w' = w := by
  go_enter Tryz.func81, Tryz.ntmps81
  go_wp2
  go_end0
  exact ⟨rfl, rfl⟩
/-- A reader of these bytes, so many of them read. -/
structure Rdr (W : World) (p : Nat) (ad : Option Addr) (cap : Nat) (bs : List Nat) (i : Nat) : Prop where
  box : W.heap[p]? = some (.cells #[.slice ad bs.length cap, .int .i64 (i : Int)] 86 (0, 0))
  rd : bs ≠ [] → ∃ b off, ad = some ⟨b, off, none⟩ ∧ b < p ∧ BAt W b off bs
  le : i ≤ bs.length
  byt : Byt bs
  ln : bs.length ≤ 1024
  cp : bs.length ≤ cap
/-- Only the block p may have turned. -/
def Kb (p : Nat) (W W' : World) : Prop := Below p W W' ∧ ∀ b, b ≠ p → b < W.heap.size → W'.heap[b]? = W.heap[b]?
theorem Kb.refl (p : Nat) (W : World) : Kb p W W := ⟨Below.refl _ _, fun _ _ _ => rfl⟩
theorem Kb.trans {p : Nat} {a b c : World} (h : Kb p a b) (k : Kb p b c) : Kb p a c := ⟨h.1.trans k.1, fun x h1 h2 => (k.2 x h1 (Nat.lt_of_lt_of_le h2 h.1.size)).trans (h.2 x h1 h2)⟩
theorem Kb.below {p : Nat} {W W' : World} (h : Below W.heap.size W W') (hp : p ≤ W.heap.size) : Kb p W W' := ⟨h.mono hp, fun x _ h2 => h.block x h2⟩
theorem Rdr.lt {W : World} {p : Nat} {ad : Option Addr} {cap : Nat} {bs : List Nat} {i : Nat} (h : Rdr W p ad cap bs i) : p < W.heap.size := lt_at h.box
theorem Rdr.carry {W W' : World} {p : Nat} {ad : Option Addr} {cap : Nat} {bs : List Nat} {i : Nat} (h : Rdr W p ad cap bs i) (hb : Below W.heap.size W W') : Rdr W' p ad cap bs i := by
  refine ⟨(hb.block _ h.lt).trans h.box, fun hne => ?_, h.le, h.byt, h.ln, h.cp⟩
  obtain ⟨b, off, h1, h2, h3⟩ := h.rd hne
  exact ⟨b, off, h1, h2, h3.carry (hb.block b (Nat.lt_trans h2 h.lt))⟩
theorem Rdr.all {W : World} {p : Nat} {ad : Option Addr} {cap : Nat} {bs : List Nat} {i : Nat} (h : Rdr W p ad cap bs i) : (Instr.loadAt 46 (.pointer (some ⟨p, 0, none⟩))).run Tryz.prog W = .ok (.slice ad bs.length cap) W := by
  have c0 := cell_at h.box 0
  simp at c0
  go_simp
theorem Rdr.at {W : World} {p : Nat} {ad : Option Addr} {cap : Nat} {bs : List Nat} {i : Nat} (h : Rdr W p ad cap bs i) : (Instr.loadAt 3 (.pointer (some ⟨p, 1, none⟩))).run Tryz.prog W = .ok (.int .i64 (i : Int)) W := by
  have c0 := cell_at h.box 1
  simp at c0
  go_simp
theorem bi_lenB (t : TypeId) (bs : Array Bool) (a : Option Addr) (n c : Nat) (w : World) : (builtin .len #[46] t bs #[.slice a n c]).run Tryz.prog w = .ok (.value (.int .i64 (n : Int))) w := by
  show ((do pure (.value (← Builtin.len_ #[46] t #[.slice a n c]))) : Sem Next).run Tryz.prog w = _
  go_simp
theorem rfield0 (p : Nat) (W : World) : (Instr.fieldAt 86 (.pointer (some ⟨p, 0, none⟩)) 0).run Tryz.prog W = .ok (.pointer (some ⟨p, 0, none⟩)) W := by go_simp
theorem rfield1 (p : Nat) (W : World) : (Instr.fieldAt 86 (.pointer (some ⟨p, 0, none⟩)) 1).run Tryz.prog W = .ok (.pointer (some ⟨p, 1, none⟩)) W := by go_simp
set_option maxHeartbeats 1000000 in
set_option maxRecDepth 100000 in
theorem take_no {w : World} {p : Nat} {ad : Option Addr} {cap : Nat} {bs : List Nat} {i : Nat} (h : Rdr w p ad cap bs i) (m : Nat) (hm : bs.length < i + m) : Calls Tryz.prog 87 #[.pointer (some ⟨p, 0, none⟩), .int .i64 (m : Int)] w fun e w' => e = .panicked (rfu 76) ∧ Below w.heap.size w w' := by
  have hmx : Tryz.prog.follows .mixedOrders = true := by kernel_rfl
  have hle := h.le
  have hln := h.ln
  have hlt : decide (((bs.length : Int) - (i : Int)) < (m : Int)) = true := decide_eq_true (by omega)
  go_enter Tryz.func87, Tryz.ntmps87
  go_wp2
  refine wp_region_any hmx ?_
  refine wpAny_dies 12 (fun i__ => ([(.pointer (some ⟨p, 0, none⟩)), (.pointer (some ⟨p, 0, none⟩)), (.pointer (some ⟨p, 0, none⟩)), (.slice ad bs.length cap), (.int .i64 (bs.length : Int)), (.pointer (some ⟨p, 0, none⟩)), (.pointer (some ⟨p, 0, none⟩)), (.pointer (some ⟨p, 1, none⟩)), (.int .i64 (i : Int)), (.int .i64 ((bs.length : Int) - (i : Int))), (.int .i64 (m : Int)), (.bool true), undef] : List Value).getD i__ undef) (fun V => Rdr V p ad cap bs i ∧ Below w.heap.size w V) rfl (by kernel_rfl) ⟨h.carry (Below.refl _ _).drew, (Below.refl _ _).drew⟩ ?_ ?_
  · refine (stepsFrom_cons ?_ (stepsFrom_cons ?_ (stepsFrom_cons ?_ (stepsFrom_cons ?_ (stepsFrom_cons ?_ (stepsFrom_cons ?_ (stepsFrom_cons ?_ (stepsFrom_cons ?_ (stepsFrom_cons ?_ (stepsFrom_cons ?_ (stepsFrom_cons ?_ (stepsFrom_cons ?_ trivial))))))))))))
    · exact step_move rfl trivial _ rfl (by kernel_rfl)
    · exact step_nilCheck rfl trivial _ _ _ rfl rfl rfl
    · exact step_fieldAddr rfl trivial _ _ _ _ rfl rfl (fun w hw => rfield0 p w)
    · exact step_load rfl trivial _ _ _ rfl rfl (fun w hw => hw.1.all)
    · exact step_bi rfl trivial _ _ _ [(.slice ad bs.length cap)] rfl (by kernel_rfl) (fun cs w hw => bi_lenB _ cs _ _ _ w)
    · exact step_move rfl trivial _ rfl (by kernel_rfl)
    · exact step_nilCheck rfl trivial _ _ _ rfl rfl rfl
    · exact step_fieldAddr rfl trivial _ _ _ _ rfl rfl (fun w hw => rfield1 p w)
    · exact step_load rfl trivial _ _ _ rfl rfl (fun w hw => hw.1.at)
    · exact step_binOp rfl trivial _ _ _ _ _ _ _ rfl rfl rfl (fun w hw => bin_sub64 _ _ _ (by rw [IntKind.wrap_i64]; omega))
    · exact step_move rfl trivial _ rfl (by kernel_rfl)
    · exact step_binOp rfl trivial _ _ _ _ _ _ _ rfl rfl rfl (fun w hw => by rw [← hlt]; exact bin_lss _ _ _)
  · intro o ho
    cases ho
    exact call_dies rfl trivial 81 _ _ [(.bool true), (Go.Value.int Go.IntKind.i64 76)] rfl (by kernel_rfl) (enters_of Tryz.func81 (by kernel_rfl) rfl) (rfu 76) (J2 := fun V => Below w.heap.size w V) (fun w hw => (refuse_yes 76 w).mono (by rintro e w' ⟨rfl, rfl⟩; exact ⟨rfl, hw.2⟩)) (fun a w hd hb => ⟨hd, rfl, hb⟩)
theorem Rdr.put {W : World} {p : Nat} {ad : Option Addr} {cap : Nat} {bs : List Nat} {i : Nat} (h : Rdr W p ad cap bs i) (k : Nat) (hk : k ≤ bs.length) : Rdr (W.setCell ⟨p, 1, none⟩ (.int .i64 (k : Int))) p ad cap bs k := by
  refine ⟨?_, fun hne => ?_, hk, h.byt, h.ln, h.cp⟩
  · have := set_get 1 (.int .i64 (k : Int)) h.box
    simpa using this
  · obtain ⟨b, off, h1, h2, h3⟩ := h.rd hne
    exact ⟨b, off, h1, h2, h3.carry (Below.heap_setCell _ _ _ _ (Nat.ne_of_lt h2))⟩
theorem Kb.put (p j : Nat) (W : World) (v : Value) : Kb p W (W.setCell ⟨p, j, none⟩ v) := ⟨Below.setCell (p := ⟨p, j, none⟩) (Below.refl p W) (Nat.le_refl p) v, fun _ h1 _ => Below.heap_setCell _ _ _ _ h1⟩
theorem slice_at (b off len cap lo hi : Nat) (h1 : lo < hi) (h2 : hi ≤ cap) (W : World) : (Instr.sliceAt 46 (.slice (some ⟨b, off, none⟩) len cap) (some (.int .i64 (lo : Int))) (some (.int .i64 (hi : Int))) none).run Tryz.prog W = .ok (.slice (some ⟨b, off + lo, none⟩) (hi - lo) (cap - lo)) W := by
  have q1 : (lo : Int) ≤ (hi : Int) := by omega
  have q2 : (hi : Int) ≤ (cap : Int) := by omega
  go_simp
  omega
set_option maxHeartbeats 2000000 in
set_option maxRecDepth 100000 in
theorem take_ok {w : World} {p : Nat} {ad : Option Addr} {cap : Nat} {bs : List Nat} {i : Nat} (h : Rdr w p ad cap bs i) (m : Nat) (hm0 : 0 < m) (hm : i + m ≤ bs.length) : Calls Tryz.prog 87 #[.pointer (some ⟨p, 0, none⟩), .int .i64 (m : Int)] w fun e w' => ∃ a c, e = .returned (.slice a m c) ∧ m ≤ c ∧ RdB w' a ((bs.drop i).take m) ∧ Rdr w' p ad cap bs (i + m) ∧ Kb p w w' := by
  have hmx : Tryz.prog.follows .mixedOrders = true := by kernel_rfl
  have hle := h.le
  have hln := h.ln
  have hcp := h.cp
  obtain ⟨b, off, rfl, hbp, hat⟩ := h.rd (fun e => by subst e; simp at hm; omega)
  have hlt : decide (((bs.length : Int) - (i : Int)) < (m : Int)) = false := decide_eq_false (by omega)
  go_enter Tryz.func87, Tryz.ntmps87
  go_wp2
  refine wp_region_any hmx ?_
  refine wpAny_pure (fun i__ => ([(.pointer (some ⟨p, 0, none⟩)), (.pointer (some ⟨p, 0, none⟩)), (.pointer (some ⟨p, 0, none⟩)), (.slice (some ⟨b, off, none⟩) bs.length cap), (.int .i64 (bs.length : Int)), (.pointer (some ⟨p, 0, none⟩)), (.pointer (some ⟨p, 0, none⟩)), (.pointer (some ⟨p, 1, none⟩)), (.int .i64 (i : Int)), (.int .i64 ((bs.length : Int) - (i : Int))), (.int .i64 (m : Int)), (.bool false), (.tuple #[])] : List Value).getD i__ undef) (fun V => Rdr V p (some ⟨b, off, none⟩) cap bs i ∧ Below w.heap.size w V) (by kernel_rfl) ⟨h.carry (Below.refl _ _).drew, (Below.refl _ _).drew⟩ ?_ ?_
  · refine (stepsFrom_cons ?_ (stepsFrom_cons ?_ (stepsFrom_cons ?_ (stepsFrom_cons ?_ (stepsFrom_cons ?_ (stepsFrom_cons ?_ (stepsFrom_cons ?_ (stepsFrom_cons ?_ (stepsFrom_cons ?_ (stepsFrom_cons ?_ (stepsFrom_cons ?_ (stepsFrom_cons ?_ (stepsFrom_cons ?_ trivial)))))))))))))
    · exact step_move rfl trivial _ rfl (by kernel_rfl)
    · exact step_nilCheck rfl trivial _ _ _ rfl rfl rfl
    · exact step_fieldAddr rfl trivial _ _ _ _ rfl rfl (fun w hw => rfield0 p w)
    · exact step_load rfl trivial _ _ _ rfl rfl (fun w hw => hw.1.all)
    · exact step_bi rfl trivial _ _ _ [(.slice (some ⟨b, off, none⟩) bs.length cap)] rfl (by kernel_rfl) (fun cs w hw => bi_lenB _ cs _ _ _ w)
    · exact step_move rfl trivial _ rfl (by kernel_rfl)
    · exact step_nilCheck rfl trivial _ _ _ rfl rfl rfl
    · exact step_fieldAddr rfl trivial _ _ _ _ rfl rfl (fun w hw => rfield1 p w)
    · exact step_load rfl trivial _ _ _ rfl rfl (fun w hw => hw.1.at)
    · exact step_binOp rfl trivial _ _ _ _ _ _ _ rfl rfl rfl (fun w hw => bin_sub64 _ _ _ (by rw [IntKind.wrap_i64]; omega))
    · exact step_move rfl trivial _ rfl (by kernel_rfl)
    · exact step_binOp rfl trivial _ _ _ _ _ _ _ rfl rfl rfl (fun w hw => by rw [← hlt]; exact bin_lss _ _ _)
    · exact step_call rfl trivial 81 _ _ [(.bool false), (Go.Value.int Go.IntKind.i64 76)] rfl (by kernel_rfl) (enters_of Tryz.func81 (by kernel_rfl) rfl) (fun w hw => (refuse_no 76 w).mono (by rintro e w' ⟨rfl, rfl⟩; exact ⟨rfl, hw⟩))
  intro W hW
  first | refine hK _ _ ?_ | refine (‹∀ (a : Act) (w : World), Code.wp Tryz.prog _ _ a w → _›) _ _ ?_ | skip
  simp only [finL, List.getD_cons_zero, List.getD_cons_succ, Nat.zero_add, Nat.reduceAdd, List.setIfInBounds_toArray, List.set_cons_zero, List.set_cons_succ]
  obtain ⟨hW1, hb1⟩ := hW
  have hk1 : Kb p w W := Kb.below hb1 (Nat.le_of_lt h.lt)
  have c1 := cell_at hW1.box 1
  have z1 := thaw_at hW1.box 1
  simp at c1
  clear hb1
  have hadd : (i : Int) + (m : Int) = ((i + m : Nat) : Int) := by omega
  have hP := hW1.put (i + m) hm
  have hK2 := hk1.trans (Kb.put p 1 W (.int .i64 ((i + m : Nat) : Int)))
  obtain ⟨q, hq⟩ : ∃ q, q = i + m := ⟨_, rfl⟩
  rw [← hq] at hadd hP hK2
  have HQ : Hid (q = i + m) := hq
  clear hq
  go_wp2
  have hq := HQ.out
  obtain ⟨V, hV⟩ : ∃ V, W.setCell ⟨p, 1, none⟩ (.int .i64 (q : Int)) = V := ⟨_, rfl⟩
  rw [hV] at hP hK2
  rw [hV]
  clear hV c1 z1 hW1 hk1
  refine wp_region_any hmx ?_
  refine wpAny_pure (fun i__ => ([(.pointer (some ⟨p, 0, none⟩)), (.pointer (some ⟨p, 0, none⟩)), (.pointer (some ⟨p, 0, none⟩)), (.slice (some ⟨b, off, none⟩) bs.length cap), (.pointer (some ⟨p, 0, none⟩)), (.pointer (some ⟨p, 0, none⟩)), (.pointer (some ⟨p, 1, none⟩)), (.int .i64 (q : Int)), (.int .i64 (m : Int)), (.int .i64 (i : Int)), (.pointer (some ⟨p, 0, none⟩)), (.pointer (some ⟨p, 0, none⟩)), (.pointer (some ⟨p, 1, none⟩)), (.int .i64 (q : Int)), (.slice (some ⟨b, off + i, none⟩) m (cap - i)), (.slice (some ⟨b, off + i, none⟩) m (cap - i))] : List Value).getD i__ undef) (fun U => Rdr U p (some ⟨b, off, none⟩) cap bs q ∧ Below V.heap.size V U) (by kernel_rfl) ⟨hP.carry (Below.refl _ _).drew, (Below.refl _ _).drew⟩ ?_ ?_
  · refine (stepsFrom_cons ?_ (stepsFrom_cons ?_ (stepsFrom_cons ?_ (stepsFrom_cons ?_ (stepsFrom_cons ?_ (stepsFrom_cons ?_ (stepsFrom_cons ?_ (stepsFrom_cons ?_ (stepsFrom_cons ?_ (stepsFrom_cons ?_ (stepsFrom_cons ?_ (stepsFrom_cons ?_ (stepsFrom_cons ?_ (stepsFrom_cons ?_ (stepsFrom_cons ?_ (stepsFrom_cons ?_ trivial))))))))))))))))
    · exact step_move rfl trivial _ rfl (by kernel_rfl)
    · exact step_nilCheck rfl trivial _ _ _ rfl rfl rfl
    · exact step_fieldAddr rfl trivial _ _ _ _ rfl rfl (fun w hw => rfield0 p w)
    · exact step_load rfl trivial _ _ _ rfl rfl (fun w hw => hw.1.all)
    · exact step_move rfl trivial _ rfl (by kernel_rfl)
    · exact step_nilCheck rfl trivial _ _ _ rfl rfl rfl
    · exact step_fieldAddr rfl trivial _ _ _ _ rfl rfl (fun w hw => rfield1 p w)
    · exact step_load rfl trivial _ _ _ rfl rfl (fun w hw => hw.1.at)
    · exact step_move rfl trivial _ rfl (by kernel_rfl)
    · exact step_binOp rfl trivial _ _ _ _ _ _ _ rfl rfl rfl (fun w hw => bin_sub64 _ _ _ (by rw [IntKind.wrap_i64]; omega))
    · exact step_move rfl trivial _ rfl (by kernel_rfl)
    · exact step_nilCheck rfl trivial _ _ _ rfl rfl rfl
    · exact step_fieldAddr rfl trivial _ _ _ _ rfl rfl (fun w hw => rfield1 p w)
    · exact step_load rfl trivial _ _ _ rfl rfl (fun w hw => hw.1.at)
    · exact step_slice rfl trivial _ _ _ _ _ (some (.int .i64 (i : Int))) (some (.int .i64 (q : Int))) rfl rfl rfl rfl (fun w hw => (slice_at b off bs.length cap i q (by omega) (by omega) w).trans (by rw [show q - i = m by omega]; rfl))
    · exact step_assign rfl trivial _ rfl (by kernel_rfl) (fun _ h => h)
  intro W hW
  first | refine hK _ _ ?_ | refine (‹∀ (a : Act) (w : World), Code.wp Tryz.prog _ _ a w → _›) _ _ ?_ | skip
  simp only [finL, List.getD_cons_zero, List.getD_cons_succ, Nat.zero_add, Nat.reduceAdd, List.setIfInBounds_toArray, List.set_cons_zero, List.set_cons_succ]
  obtain ⟨hU, hbU⟩ := hW
  go_wp2
  go_ret
  subst hq
  refine ⟨_, _, rfl, by omega, fun _ => ⟨b, off + i, rfl, Nat.lt_trans hbp hU.lt, ?_⟩, hU, hK2.trans (Kb.below hbU (Nat.le_of_lt hP.lt))⟩
  obtain ⟨b', off', e, _, hat'⟩ := hU.rd (fun e => by subst e; simp at hm; omega)
  cases e
  exact hat'.sub i m
-- the number of the next bytes
set_option maxHeartbeats 1000000 in
theorem number_no {w : World} {p : Nat} {ad : Option Addr} {cap : Nat} {bs : List Nat} {i : Nat} (h : Rdr w p ad cap bs i) (m : Nat) (hm : bs.length < i + m) : Calls Tryz.prog 82 #[.pointer (some ⟨p, 0, none⟩), .int .i64 (m : Int)] w fun e w' => e = .panicked (rfu 76) ∧ Below w.heap.size w w' := by
  have ht := take_no h m hm
  go_enter Tryz.func82, Tryz.ntmps82
  go_wp2_with (go_at_call 87; (with_reducible refine ht.mono ?_); rintro e w' ⟨rfl, hb⟩)
  exact ⟨rfl, rfl, hb⟩
theorem sub_len {bs : List Nat} {i m : Nat} (h : i + m ≤ bs.length) : ((bs.drop i).take m).length = m := by rw [List.length_take, List.length_drop]; omega
set_option maxHeartbeats 1000000 in
theorem number_ok {w : World} {p : Nat} {ad : Option Addr} {cap : Nat} {bs : List Nat} {i : Nat} (h : Rdr w p ad cap bs i) (m : Nat) (hm0 : 0 < m) (hm7 : m ≤ 7) (hm : i + m ≤ bs.length) : Calls Tryz.prog 82 #[.pointer (some ⟨p, 0, none⟩), .int .i64 (m : Int)] w fun e w' => e = .returned (.int .i64 (valB 0 ((bs.drop i).take m) : Nat)) ∧ Rdr w' p ad cap bs (i + m) ∧ Kb p w w' := by
  have ht := take_ok h m hm0 hm
  have hnu : ∀ a c W, RdB W a ((bs.drop i).take m) → Calls Tryz.prog 116 #[.slice a m c] W fun e w' => e = .returned (.int .i64 (valB 0 ((bs.drop i).take m) : Nat)) ∧ w' = W := fun a c W hr => by
    have := numberOf_any a c ((bs.drop i).take m) W hr ((h.byt.drop _).take _) (by rw [sub_len hm]; exact hm7)
    rw [sub_len hm] at this
    exact this
  generalize valB 0 ((bs.drop i).take m) = X at *
  go_enter Tryz.func82, Tryz.ntmps82
  go_wp2_with (first | (go_at_call 87; (with_reducible refine ht.mono ?_); rintro e w' ⟨a, c, rfl, hc, hr, hR, hk⟩) | (go_at_call 116; (with_reducible refine (hnu _ _ _ hr).mono ?_); rintro e w2 ⟨rfl, hu⟩; rw [hu]; clear hu w2))
  go_ret
  exact ⟨rfl, hR, hk⟩
end Go.Proofs.YtnomeinppdnhfaaGreat
namespace Go.Proofs.YtnomeinppdnhfaaGreat
open Go.RowKit Go.Shelf

theorem wd_shift (k x j : Nat) (hx : x < 256) : wd (2 ^ (8 * k) * x) j = if j = k / 4 then x * 2 ^ (8 * (k % 4)) else 0 := by
  have hx8 : ∀ t, 8 ≤ t → x.testBit t = false := fun t ht => Nat.testBit_lt_two_pow (Nat.lt_of_lt_of_le hx (by simpa using Nat.pow_le_pow_right (show 0 < 2 by decide) ht))
  apply Nat.eq_of_testBit_eq
  intro i
  rw [testBit_wd, Nat.testBit_two_pow_mul]
  by_cases hj : j = k / 4
  · rw [if_pos hj, Nat.mul_comm x, Nat.testBit_two_pow_mul]
    by_cases hi : i < 32
    · by_cases h8 : 8 * (k % 4) ≤ i
      · have q1 : 8 * k ≤ 32 * j + i := by omega
        have q2 : 32 * j + i - 8 * k = i - 8 * (k % 4) := by omega
        simp [hi, h8, q1, q2]
      · have q1 : ¬ 8 * k ≤ 32 * j + i := by omega
        simp [h8, q1]
    · have := hx8 (i - 8 * (k % 4)) (by omega)
      simp [hi, this]
  · rw [if_neg hj, Nat.zero_testBit]
    by_cases hi : i < 32
    · by_cases q1 : 8 * k ≤ 32 * j + i
      · have := hx8 (32 * j + i - 8 * k) (by omega)
        simp [this]
      · simp [q1]
    · simp [hi]
theorem wd_put (M k x j : Nat) (hM : M < 2 ^ (8 * k)) (hx : x < 256) : wd (M + 2 ^ (8 * k) * x) j = if j = k / 4 then wd M (k / 4) ||| (x * 2 ^ (8 * (k % 4))) else wd M j := by
  rw [Nat.add_comm, Nat.two_pow_add_eq_or_of_lt hM, wd_or, wd_shift k x j hx]
  by_cases hj : j = k / 4
  · rw [if_pos hj, if_pos hj, hj, Nat.or_comm]
  · rw [if_neg hj, if_neg hj, Nat.zero_or]
theorem bin_shlx {P : Program} {t : TypeId} {x y : Operand} {w : World} (k : IntKind) (a n : Nat) (hn : n < 32) (ha : a * 2 ^ n < 4294967296) : binRun P .shl t x y (.int .u32 (a : Int)) (.int k (n : Int)) w = .ok (.int .u32 ((a * 2 ^ n : Nat) : Int)) w := by
  have h := shift_shl .u32 k (a : Int) (n : Int) (by omega) (by simp [IntKind.bits]; omega)
  have h3 : IntKind.u32.wrap ((a : Int) * 2 ^ (n : Int).toNat) = ((a * 2 ^ n : Nat) : Int) := by
    have e : (2 : Int) ^ n = ((2 ^ n : Nat) : Int) := by simp
    rw [Int.toNat_natCast, e, IntKind.wrap_u32', ← Int.natCast_mul]
    generalize a * 2 ^ n = z at *
    omega
  simp only [binRun, eqGuard_shl, binOp_shl, h, h3]
  simp
set_option maxHeartbeats 1000000 in
set_option maxRecDepth 100000 in
theorem setOf_any (ad : Option Addr) (cap : Nat) (l : List Nat) (w : World) (h : RdB w ad l) (hb : Byt l) (hl : l.length ≤ 16) : Calls Tryz.prog 86 #[.slice ad l.length cap] w fun e w' => e = .returned (sv (vlS l)) ∧ Below w.heap.size w w' := by
  have hmx : Tryz.prog.follows .mixedOrders = true := by kernel_rfl
  go_enter Tryz.func86, Tryz.ntmps86
  go_wp2
  go_loopw [8] (fun c wz => ∃ k : Nat, c = .int .i64 k ∧ k ≤ l.length ∧ Holds4 wz (w.heap.size + 1) (wd (vlS (l.take k))) ∧ Holds4 wz w.heap.size (fun _ => 0) ∧ Below w.heap.size w wz) (fun c _ => l.length - vnatW c)
  case atStart =>
    refine ⟨0, rfl, by omega, ?_, get_old (get_new rfl), ((Below.refl _ w).alloc (by simp) _).alloc (by simp) _⟩
    exact Holds4.congr (c := fun _ => 0) (get_new (by simp)) (fun j _ => by simp [vlS, wd])
  case round =>
    obtain ⟨k, rfl, hk, h1, h2, hbw⟩ := hrel
    have hz : w.heap.size + 1 < wr.heap.size := h1.lt
    by_cases hkl : k < l.length
    · have hki : (k : Int) < (l.length : Int) := by omega
      obtain ⟨g, off, rfl, hgl, hat⟩ := h (fun e => by subst e; simp at hkl)
      obtain ⟨x, hx⟩ := get_lt hkl
      have c0 := (hbw.cell (p := ⟨g, off + k, none⟩) hgl).trans (hat k x hx)
      have hx8 := byt_get8 hb hx
      obtain ⟨q, hq⟩ : ∃ q, k / 4 = q := ⟨_, rfl⟩
      obtain ⟨r, hr⟩ : ∃ r, k % 4 = r := ⟨_, rfl⟩
      have hq4 : q < 4 := by omega
      have hM := vlS_lt _ (hb.take k)
      rw [List.length_take, Nat.min_eq_left hk] at hM
      have hnew : vlS (l.take (k + 1)) = vlS (l.take k) + 2 ^ (8 * k) * x := by
        rw [List.take_add_one, hx, Option.toList_some, vlS_snoc, List.length_take, Nat.min_eq_left hk]
      have hput := fun j => wd_put (vlS (l.take k)) k x j hM hx8
      rw [← hnew, hq, hr] at hput
      have hsh : x * 2 ^ (8 * r) < 4294967296 := by
        have := Nat.pow_le_pow_right (n := 2) (by decide) (show 8 * r ≤ 24 by omega)
        have := Nat.mul_le_mul (show x ≤ 255 by omega) this
        omega
      have HPUT : Hid (∀ j, wd (vlS (l.take (k + 1))) j = if j = q then wd (vlS (l.take k)) q ||| (x * 2 ^ (8 * r)) else wd (vlS (l.take k)) j) := hput
      clear hnew hput hM
      generalize vlS (l.take k) = M at *
      obtain ⟨M2, hM2⟩ : ∃ M2, vlS (l.take (k + 1)) = M2 := ⟨_, rfl⟩
      rw [hM2] at HPUT
      have HM2 : Hid (vlS (l.take (k + 1)) = M2) := hM2
      clear hM2
      go_wp2
      refine wp_region_any hmx ?_
      refine wpAny_last 12 (fun i__ => ([(.int .i64 (k : Int)), (.int .i64 (q : Int)), (.pointer (some ⟨w.heap.size + 1, q, none⟩)), (.int .u32 ((wd M q : Nat) : Int)), (.int .u8 (x : Int)), (.int .u32 (x : Int)), (.int .i64 (k : Int)), (.int .i64 (r : Int)), (.int .i64 ((8 * r : Nat) : Int)), (.int .u32 ((x * 2 ^ (8 * r) : Nat) : Int)), (.int .u32 ((wd M q ||| x * 2 ^ (8 * r) : Nat) : Int)), (.pointer (some ⟨w.heap.size + 1, q, none⟩)), undef] : List Value).getD i__ undef) (fun W => Holds4 W (w.heap.size + 1) (wd M) ∧ Holds4 W w.heap.size (fun _ => 0) ∧ Below w.heap.size w W) (fun W => Holds4 W (w.heap.size + 1) (wd M2) ∧ Holds4 W w.heap.size (fun _ => 0) ∧ Below w.heap.size w W) rfl (by kernel_rfl) (by kernel_rfl) ⟨h1.carry (Below.refl _ _).drew, h2.carry (Below.refl _ _).drew, hbw.drew⟩ ?_ ?_  ?_
      · refine (stepsFrom_cons ?_ (stepsFrom_cons ?_ (stepsFrom_cons ?_ (stepsFrom_cons ?_ (stepsFrom_cons ?_ (stepsFrom_cons ?_ (stepsFrom_cons ?_ (stepsFrom_cons ?_ (stepsFrom_cons ?_ (stepsFrom_cons ?_ (stepsFrom_cons ?_ (stepsFrom_cons ?_ trivial))))))))))))
        · exact step_move rfl trivial _ rfl (by kernel_rfl)
        · exact step_binOp rfl trivial _ _ _ _ _ _ _ rfl rfl rfl (fun w hw => by rw [← hq]; exact bin_quo64 k 4 (by omega) (by decide))
        · exact step_indexAddr rfl trivial _ _ _ _ _ rfl rfl rfl (fun w hw => idx4 _ q hq4 w)
        · exact step_load rfl trivial _ _ _ rfl rfl (fun w hw => load4 w _ q _ hw.1 hq4)
        · exact step_move rfl trivial _ rfl (by kernel_rfl)
        · exact step_convert rfl trivial _ _ _ _ rfl rfl (fun w hw => conv_int .u32 _ (by rw [Tryz.underlying5]; rfl) Tryz.underlying39 (by rw [IntKind.wrap_u32']; omega) w)
        · exact step_move rfl trivial _ rfl (by kernel_rfl)
        · exact step_binOp rfl trivial _ _ _ _ _ _ _ rfl rfl rfl (fun w hw => by rw [← hr]; exact bin_rem64 k 4 (by decide))
        · exact step_binOp rfl trivial _ _ _ _ _ _ _ rfl rfl rfl (fun w hw => bin_mul64 _ _ _ (by rw [IntKind.wrap_i64]; omega))
        · exact step_binOp rfl trivial _ _ _ _ _ _ _ rfl rfl rfl (fun w hw => bin_shlx _ x (8 * r) (by omega) hsh)
        · exact step_binOp rfl trivial _ _ _ _ _ _ _ rfl rfl rfl (fun w hw => bin_or32 _ _ (wd_lt _ _) hsh)
        · exact step_indexAddr rfl trivial _ _ _ _ _ rfl rfl rfl (fun w hw => idx4 _ q hq4 w)
      · intro o ho
        cases ho
        exact step_store rfl trivial rfl _ _ _ _ _ rfl rfl rfl (fun w' hw => by obtain ⟨w2, e1, e2, e3, e4⟩ := store4 w' _ q _ _ hw.1 hq4; exact ⟨w2, e1, e2.congr (fun j hj => (HPUT.out j).symm), (e4 _ (by omega)).trans hw.2.1, hw.2.2.trans (e3 _ (Nat.le_succ _))⟩)
      intro W hW
      first | refine hK _ _ ?_ | refine (‹∀ (a : Act) (w : World), Code.wp Tryz.prog _ _ a w → _›) _ _ ?_ | skip
      simp only [finL, List.getD_cons_zero, List.getD_cons_succ, Nat.zero_add, Nat.reduceAdd, List.setIfInBounds_toArray, List.set_cons_zero, List.set_cons_succ]
      obtain ⟨h1', h2', hb'⟩ := hW
      go_wp2
      go_roundw
      case rel => exact ⟨k + 1, by simp, by omega, HM2.out ▸ h1', h2', hb'⟩
      case measure => simp [vnatW]; omega
    · have hkk : k = l.length := by omega
      subst hkk
      rw [List.take_length] at h1
      obtain ⟨M, hM⟩ : ∃ M, vlS l = M := ⟨_, rfl⟩
      rw [hM] at h1
      have HM : Hid (vlS l = M) := hM
      clear hM
      have hki : ¬ ((l.length : Int) < (l.length : Int)) := by omega
      have x0 := h1.cell 0 (by decide)
      have x1 := h1.cell 1 (by decide)
      have x2 := h1.cell 2 (by decide)
      have x3 := h1.cell 3 (by decide)
      obtain ⟨y0, y1, y2, y3, z0, z1, z2, z3⟩ := h2.facts
      have H2 : Hid (Holds4 wr w.heap.size (fun _ => 0)) := h2
      clear h1 h2
      go_wp2
      exact ret4 rfl rfl rfl (fin4 H2.out _) ⟨by rw [HM.out], below4 hbw (Nat.le_refl _) _⟩
end Go.Proofs.YtnomeinppdnhfaaGreat
