/- A region that draws its order, walked by a table of values: each operation is run once. For every program. -/
import Derived.WalkKit
import Derived.WalkSpells
namespace Go.Proofs.YtngjjcmoekeciaaGreatDoor
open Go.RowKit

def bindsOn (md : Region.Mode) (o : Oper) (j : Nat) : Bool := o.after.toList.any fun e => Region.binds md e && (e.on == j)
def dstAt (ops : Array Oper) (j : Nat) : Option Nat := match ops[j]? with | some o => o.dst | none => none
def waitsAt (md : Region.Mode) (ops : Array Oper) (j i : Nat) : Bool := match ops[j]? with | some o => bindsOn md o i | none => false
/-- What the slot s holds when the operation i, which is o, comes up. -/
def rdv (md : Region.Mode) (ops : Array Oper) (X0 : Array Value) (val : Nat → Value) (i : Nat) (o : Oper) (s : Nat) : Option Value :=
  match (List.range ops.size).find? (fun j => bindsOn md o j && (dstAt ops j == some s)) with
  | some j => some (val j)
  | none => if (List.range ops.size).all (fun j => dstAt ops j != some s || (j == i || waitsAt md ops j i)) then some (X0.getD s undef) else none
def finL (val : Nat → Value) : List Oper → Nat → Array Value → Array Value
  | [], _, X => X
  | o :: r, i, X => finL val r (i + 1) (match o.dst with | some s => X.setIfInBounds s (val i) | none => X)
/-- Each waits for earlier ones alone; no two write one slot; the slots are there. -/
def tabOk (md : Region.Mode) (ops : Array Oper) (n : Nat) : Bool :=
  (List.range ops.size).all fun i => (match ops[i]? with | some o => o.after.toList.all (fun e => !Region.binds md e || decide (e.on < i)) | none => true) &&
    (match dstAt ops i with | some s => decide (s < n) && (List.range ops.size).all (fun j => j == i || dstAt ops j != some s) | none => true)

structure TabSt (md : Region.Mode) (ops : Array Oper) (X0 : Array Value) (df : List Deferred) (val : Nat → Value) (listed : Array Bool) (a : Act) : Prop where
  size : listed.size = ops.size
  width : a.tmps.size = X0.size
  dfs : a.defers = df
  closed : ∀ j oj, ops[j]? = some oj → listed.getD j false = true → ∀ e ∈ oj.after, Region.binds md e = true → listed.getD e.on false = true
  done : ∀ j s, dstAt ops j = some s → listed.getD j false = true → a.tmps.getD s undef = val j
  old : ∀ s, (∀ j, dstAt ops j = some s → listed.getD j false = false) → a.tmps.getD s undef = X0.getD s undef

theorem bindsOn_iff {md : Region.Mode} {o : Oper} {j : Nat} : bindsOn md o j = true ↔ ∃ e ∈ o.after, Region.binds md e = true ∧ e.on = j := by
  constructor
  · intro h
    obtain ⟨e, he, hb⟩ := List.any_eq_true.1 h
    simp only [Bool.and_eq_true, beq_iff_eq] at hb
    exact ⟨e, Array.mem_toList_iff.1 he, hb.1, hb.2⟩
  · rintro ⟨e, he, hb, rfl⟩
    exact List.any_eq_true.2 ⟨e, Array.mem_toList_iff.2 he, by simp [hb]⟩
theorem dstAt_lt {ops : Array Oper} {j s : Nat} (h : dstAt ops j = some s) : ∃ o, ops[j]? = some o ∧ o.dst = some s := by
  unfold dstAt at h
  split at h
  · rename_i o ho; exact ⟨o, ho, h⟩
  · cases h
theorem getElem?_lt {α : Type} {xs : Array α} {j : Nat} {x : α} (h : xs[j]? = some x) : j < xs.size := (Array.getElem?_eq_some_iff.1 h).1
theorem TabSt.reads {md : Region.Mode} {ops : Array Oper} {X0 : Array Value} {df : List Deferred} {val : Nat → Value} {listed : Array Bool} {a : Act} (h : TabSt md ops X0 df val listed a)
    {i : Nat} {o : Oper} (_hi : ops[i]? = some o) (hun : listed.getD i false = false) (hr : ∀ e ∈ o.after, Region.binds md e = true → listed.getD e.on false = true)
    (s : Nat) (v : Value) (hv : rdv md ops X0 val i o s = some v) : a.tmps.getD s undef = v := by
  unfold rdv at hv
  split at hv
  · rename_i j hj
    have h1 := List.find?_some hj
    simp only [Bool.and_eq_true, beq_iff_eq] at h1
    obtain ⟨e, he, hb, rfl⟩ := bindsOn_iff.1 h1.1
    cases hv
    exact h.done _ s h1.2 (hr e he hb)
  · split at hv
    · rename_i hall
      cases hv
      refine h.old s (fun j hj => ?_)
      obtain ⟨oj, hoj, hd⟩ := dstAt_lt hj
      have := List.all_eq_true.1 hall j (List.mem_range.2 (getElem?_lt hoj))
      simp only [hj, bne_self_eq_false, Bool.false_or, Bool.or_eq_true, beq_iff_eq] at this
      rcases this with rfl | hw
      · exact hun
      · cases hl : listed.getD j false with
        | false => rfl
        | true =>
          unfold waitsAt at hw
          rw [hoj] at hw
          obtain ⟨e, he, hb, rfl⟩ := bindsOn_iff.1 hw
          rw [h.closed j oj hoj hl e he hb] at hun
          cases hun
    · cases hv
theorem getD_set {α : Type} (xs : Array α) (i j : Nat) (v d : α) : (xs.setIfInBounds i v).getD j d = if i = j ∧ i < xs.size then v else xs.getD j d := by
  simp only [Array.getD_eq_getD_getElem?, Array.getElem?_setIfInBounds]
  by_cases h : i = j
  · subst h
    by_cases h2 : i < xs.size
    · simp [h2]
    · simp [h2]
  · simp [h]
theorem TabSt.put {md : Region.Mode} {ops : Array Oper} {X0 : Array Value} {df : List Deferred} {val val' : Nat → Value} {listed : Array Bool} {a : Act} (h : TabSt md ops X0 df val listed a)
    (hok : tabOk md ops X0.size = true) {i : Nat} {o : Oper} (hi : ops[i]? = some o) (hr : ∀ e ∈ o.after, Region.binds md e = true → listed.getD e.on false = true)
    (hv : ∀ j, listed.getD j false = true → val' j = val j) (hun : listed.getD i false = false) :
    TabSt md ops X0 df val' (listed.setIfInBounds i true) (a.put o.dst (val' i)) := by
  have hil := getElem?_lt hi
  have hk := List.all_eq_true.1 hok i (List.mem_range.2 hil)
  rw [hi] at hk
  simp only [Bool.and_eq_true] at hk
  have hdi : dstAt ops i = o.dst := by unfold dstAt; rw [hi]
  have hd2 : ∀ s, o.dst = some s → s < X0.size ∧ ∀ j, dstAt ops j = some s → j = i := by
    intro s hs
    have h2 := hk.2
    rw [hdi, hs] at h2
    simp only [Bool.and_eq_true, decide_eq_true_eq] at h2
    refine ⟨h2.1, fun j hj => ?_⟩
    obtain ⟨oj, hoj, _⟩ := dstAt_lt hj
    have := List.all_eq_true.1 h2.2 j (List.mem_range.2 (getElem?_lt hoj))
    simpa [hj] using this
  have hL : ∀ j, (listed.setIfInBounds i true).getD j false = true → j = i ∨ listed.getD j false = true := by
    intro j hj
    rw [getD_set] at hj
    by_cases e : i = j
    · exact .inl e.symm
    · rw [if_neg (fun c => e c.1)] at hj; exact .inr hj
  have hL2 : ∀ j, listed.getD j false = true → (listed.setIfInBounds i true).getD j false = true := by
    intro j hj
    rw [getD_set]
    split
    · rfl
    · exact hj
  have hLi : (listed.setIfInBounds i true).getD i false = true := by rw [getD_set, if_pos ⟨rfl, by rw [h.size]; exact hil⟩]
  have hP : ∀ s, (a.put o.dst (val' i)).tmps.getD s undef = if o.dst = some s then val' i else a.tmps.getD s undef := by
    intro s
    cases hd : o.dst with
    | none => simp [Act.put]
    | some t =>
      simp only [Act.put, getD_set, Option.some.injEq]
      by_cases e : t = s
      · subst e; rw [if_pos ⟨rfl, by rw [h.width]; exact (hd2 t hd).1⟩, if_pos rfl]
      · rw [if_neg (fun c => e c.1), if_neg e]
  refine ⟨by simp [h.size], ?_, ?_, ?_, ?_, ?_⟩
  · cases hd : o.dst <;> simp [Act.put, h.width]
  · cases hd : o.dst <;> simp [Act.put, h.dfs]
  · intro j oj hoj hj e he hb
    rcases hL j hj with rfl | hj
    · rw [hi] at hoj; cases hoj; exact hL2 _ (hr e he hb)
    · exact hL2 _ (h.closed j oj hoj hj e he hb)
  · intro j s hs hj
    rw [hP]
    split
    · rename_i hd
      rw [(hd2 s hd).2 j hs]
    · rename_i hd
      rcases hL j hj with rfl | hj
      · rw [hdi] at hs; exact absurd hs hd
      · rw [hv j hj]; exact h.done j s hs hj
  · intro s hs
    rw [hP, if_neg]
    · refine h.old s (fun j hj => ?_)
      cases hl : listed.getD j false with
      | false => rfl
      | true => have := hs j hj; rw [hL2 j hl] at this; cases this
    · intro hd
      have := hs i (by rw [hdi, hd])
      rw [hLi] at this
      cases this
theorem finL_size (val : Nat → Value) : ∀ (l : List Oper) (i : Nat) (X : Array Value), (finL val l i X).size = X.size
  | [], _, X => rfl
  | o :: r, i, X => by
    rw [finL, finL_size val r]
    cases o.dst <;> simp
theorem finL_old (val : Nat → Value) (s : Nat) : ∀ (l : List Oper) (i : Nat) (X : Array Value), (∀ o ∈ l, o.dst ≠ some s) → (finL val l i X).getD s undef = X.getD s undef
  | [], _, X, _ => rfl
  | o :: r, i, X, h => by
    rw [finL, finL_old val s r (i + 1) _ (fun o' ho' => h o' (List.mem_cons_of_mem _ ho'))]
    have := h o (List.mem_cons_self ..)
    cases hd : o.dst with
    | none => rfl
    | some t =>
      simp only [getD_set]
      rw [if_neg (fun c => this (by rw [hd, c.1]))]
theorem finL_at (val : Nat → Value) (s : Nat) : ∀ (l : List Oper) (i j : Nat) (X : Array Value) (o : Oper), l[j]? = some o → o.dst = some s → s < X.size → (∀ k o', l[k]? = some o' → o'.dst = some s → k = j) → (finL val l i X).getD s undef = val (i + j)
  | [], _, j, X, o, h, _, _, _ => by simp at h
  | o1 :: r, i, 0, X, o, h, hd, hs, hu => by
    simp at h
    subst h
    rw [finL, finL_old val s r]
    · simp only [hd, getD_set]
      rw [if_pos ⟨trivial, hs⟩, Nat.add_zero]
    · intro o' ho' hd'
      obtain ⟨k, hk, rfl⟩ := List.getElem_of_mem ho'
      have := hu (k + 1) _ (by simp [List.getElem?_eq_getElem hk]) hd'
      omega
  | o1 :: r, i, j + 1, X, o, h, hd, hs, hu => by
    rw [finL, finL_at val s r (i + 1) j _ o (by simpa using h) hd (by cases o1.dst <;> simpa using hs)]
    · congr 1; omega
    · intro k o' hk hd'
      have := hu (k + 1) o' (by simpa using hk) hd'
      omega
theorem tab_end {md : Region.Mode} {ops : Array Oper} {X0 : Array Value} {df : List Deferred} {val : Nat → Value} {listed : Array Bool} {a : Act} (h : TabSt md ops X0 df val listed a)
    (hok : tabOk md ops X0.size = true) (hall : ∀ j, j < ops.size → listed.getD j false = true) : a = { tmps := finL val ops.toList 0 X0, defers := df } := by
  obtain ⟨t, d⟩ := a
  have e1 : d = df := h.dfs
  have e2 : t = finL val ops.toList 0 X0 := by
    have hw : t.size = X0.size := h.width
    apply Array.ext
    · rw [finL_size, hw]
    · intro s h1 h2
      have q : ∀ (Y : Array Value) (hY : s < Y.size), Y[s] = Y.getD s undef := fun Y hY => by simp [Array.getD, hY]
      rw [q t h1, q _ h2]
      by_cases hx : ∃ j, dstAt ops j = some s
      · obtain ⟨j, hj⟩ := hx
        obtain ⟨o, ho, hd⟩ := dstAt_lt hj
        rw [h.done j s hj (hall j (getElem?_lt ho))]
        have := finL_at val s ops.toList 0 j X0 o (by simpa using ho) hd (by omega) ?_
        · rw [this, Nat.zero_add]
        · intro k o' hk hd'
          have hk' : ops[k]? = some o' := by simpa using hk
          have hc := List.all_eq_true.1 hok j (List.mem_range.2 (getElem?_lt ho))
          simp only [Bool.and_eq_true, hj, decide_eq_true_eq] at hc
          have := List.all_eq_true.1 hc.2.2 k (List.mem_range.2 (getElem?_lt hk'))
          have hdk : dstAt ops k = some s := by unfold dstAt; rw [hk']; exact hd'
          simpa [hdk] using this
      · rw [finL_old val s ops.toList 0 X0 (fun o ho hd => ?_)]
        · exact h.old s (fun j hj => absurd ⟨j, hj⟩ hx)
        · obtain ⟨k, hk, rfl⟩ := List.getElem_of_mem ho
          refine hx ⟨k, ?_⟩
          unfold dstAt
          have : ops[k]? = some ops.toList[k] := by rw [Array.getElem?_eq_some_iff]; exact ⟨by simpa using hk, by simp⟩
          rw [this]; exact hd
  rw [e1, e2]

def falses : List Bool → Nat
  | [] => 0
  | b :: r => (if b then 0 else 1) + falses r
theorem falses_replicate : ∀ n, falses (List.replicate n false) = n
  | 0 => rfl
  | n + 1 => by rw [List.replicate_succ, falses, falses_replicate n]; simp; omega
theorem falses_set : ∀ (l : List Bool) (i : Nat), l.getD i true = false → falses (l.set i true) + 1 = falses l
  | [], _, h => by simp at h
  | b :: r, 0, h => by simp at h; subst h; simp [falses]; omega
  | b :: r, i + 1, h => by simp only [List.set_cons_succ, falses]; have := falses_set r i (by simpa using h); omega
theorem falses_zero : ∀ (l : List Bool) (i : Nat), falses l = 0 → i < l.length → l.getD i false = true
  | [], _, _, h => by simp at h
  | b :: r, 0, h, _ => by cases b <;> simp [falses] at h ⊢
  | b :: r, i + 1, h, hl => by
    have : falses r = 0 := by rw [falses] at h; omega
    simpa using falses_zero r i this (by simpa using hl)

/-- The law. G: what is found out on the way (where a block was laid). -/
theorem wpAny_tab {P : Program} {md : Region.Mode} {ops : Array Oper} {Q : Exit → Act → World → Prop} {G : Type} (val : G → Nat → Value) (J : G → (Nat → Bool) → World → Prop)
    {X0 : Array Value} {df : List Deferred} (hok : tabOk md ops X0.size = true)
    (hend : ∀ g d w, (∀ j, j < ops.size → d j = true) → J g d w → Q .normal { tmps := finL (val g) ops.toList 0 X0, defers := df } w)
    (hstep : ∀ i o, ops[i]? = some o → ∀ g d a w, J g d w → d i = false → (∀ j, bindsOn md o j = true → d j = true) → (∀ j oj, ops[j]? = some oj → d j = true → ∀ k, bindsOn md oj k = true → d k = true) → (∀ s v, rdv md ops X0 (val g) i o s = some v → a.tmps.getD s undef = v) →
      wpOp P ops Q i (fun a' w' => ∃ g', (∀ j, d j = true → val g' j = val g j) ∧ a' = a.put o.dst (val g' i) ∧ J g' (fun j => if j = i then true else d j) w') a w)
    (g : G) {w : World} (hJ : J g (fun _ => false) w) : wpAny P md ops Q ops.size (Array.replicate ops.size false) { tmps := X0, defers := df } w := by
  have key : ∀ k (listed : Array Bool) (a : Act) (w : World) (g : G), falses listed.toList = k → TabSt md ops X0 df (val g) listed a → J g (fun j => listed.getD j false) w → wpAny P md ops Q k listed a w := by
    intro k
    induction k with
    | zero =>
      intro listed a w g hk hS hJ
      have hall : ∀ j, j < ops.size → listed.getD j false = true := fun j hj => by
        have := falses_zero listed.toList j hk (by simpa [hS.size] using hj)
        simpa [Array.getD_eq_getD_getElem?] using this
      have hr : Region.ready md ops listed = [] := by
        apply List.eq_nil_iff_forall_not_mem.2
        intro j hj
        obtain ⟨h1, o, ho, _⟩ := mem_ready.1 hj
        have h2 := hall j (getElem?_lt ho)
        have h3 : j < listed.size := by rw [hS.size]; exact getElem?_lt ho
        simp [Array.getD, h3] at h1 h2
        rw [h1] at h2; cases h2
      refine ⟨hr, ?_⟩
      rw [tab_end hS hok hall]
      exact hend g _ w hall hJ
    | succ k ih =>
      intro listed a w g hk hS hJ
      have hun : ∀ i, Region.ready md ops listed = [] → i < ops.size → listed.getD i false = true := by
        intro i hn
        induction i using Nat.strongRecOn with
        | ind i ihi =>
          intro hi
          cases hl : listed.getD i false with
          | true => rfl
          | false =>
            have hlt : i < listed.size := by rw [hS.size]; exact hi
            obtain ⟨o, ho⟩ : ∃ o, ops[i]? = some o := ⟨_, Array.getElem?_eq_getElem hi⟩
            have hc := List.all_eq_true.1 hok i (List.mem_range.2 hi)
            rw [ho] at hc
            simp only [Bool.and_eq_true] at hc
            have hmem : i ∈ Region.ready md ops listed := mem_ready.2 ⟨by simp [Array.getD, hlt] at hl ⊢; exact hl, o, ho, fun e he hb => by
              have := List.all_eq_true.1 hc.1 e (by simpa using he)
              simp only [hb, Bool.not_true, Bool.false_or, decide_eq_true_eq] at this
              exact ihi e.on this (by omega)⟩
            rw [hn] at hmem; cases hmem
      refine ⟨fun hn => ?_, fun i hi => ?_⟩
      · have hall := hun
        rw [tab_end hS hok (fun j hj => hun j hn hj)]
        exact hend g _ w (fun j hj => hun j hn hj) hJ
      · obtain ⟨h1, o, ho, hr⟩ := mem_ready.1 hi
        have hlt : i < listed.size := by rw [hS.size]; exact getElem?_lt ho
        have h1' : listed.getD i false = false := by simp [Array.getD, hlt] at h1 ⊢; exact h1
        refine wpOp_mono (fun a' w' hq => ?_) (hstep i o ho g _ a w hJ h1' (fun j hj => ?_) (fun j oj hoj hd k hk => ?_) (fun s v hv => hS.reads ho h1' hr s v hv))
        · obtain ⟨g', hv, rfl, hJ'⟩ := hq
          refine ih (listed.setIfInBounds i true) _ w' g' ?_ (hS.put hok ho hr hv h1') ?_
          · have := falses_set listed.toList i (by simpa [Array.getD_eq_getD_getElem?, hlt] using h1)
            simp only [Array.toList_setIfInBounds]
            omega
          · have e : (fun j => (listed.setIfInBounds i true).getD j false) = (fun j => if j = i then true else listed.getD j false) := by
              funext j
              rw [getD_set]
              by_cases e : i = j
              · subst e; simp [hlt]
              · rw [if_neg (fun c => e c.1), if_neg (fun c => e c.symm)]
            rw [e]; exact hJ'
        · obtain ⟨e, he, hb, rfl⟩ := bindsOn_iff.1 hj
          exact hr e he hb
        · obtain ⟨e, he, hb, rfl⟩ := bindsOn_iff.1 hk
          exact hS.closed j oj hoj hd e he hb
  refine key _ _ _ _ g (by simp [falses_replicate]) ⟨by simp, rfl, rfl, ?_, ?_, fun _ _ => rfl⟩ ?_
  · intro j oj _ h
    simp [Array.getD] at h
  · intro j s _ h
    simp [Array.getD] at h
  · have e : (fun j => (Array.replicate ops.size false).getD j false) = (fun _ => false) := by funext j; simp [Array.getD]
    rw [e]; exact hJ

/-- What an operand is when the operation i, which is o, comes up. -/
def rdo (md : Region.Mode) (ops : Array Oper) (X0 : Array Value) (val : Nat → Value) (i : Nat) (o : Oper) (x : Operand) : Option Value :=
  match x with
  | .tmp s => rdv md ops X0 val i o s
  | .const v => some v
  | .global g => some (.pointer (some ⟨g, 0, none⟩))
  | .func f => some (.func (.func f) #[] #[])
def Seen (md : Region.Mode) (ops : Array Oper) (X0 : Array Value) (val : Nat → Value) (i : Nat) (o : Oper) (a : Act) : Prop := ∀ s v, rdv md ops X0 val i o s = some v → a.tmps.getD s undef = v
theorem Seen.eval {md : Region.Mode} {ops : Array Oper} {X0 : Array Value} {val : Nat → Value} {i : Nat} {o : Oper} {a : Act} (h : Seen md ops X0 val i o a) {x : Operand} {v : Value} (hx : rdo md ops X0 val i o x = some v) : a.eval x = v := by
  cases x with
  | tmp s => exact h s v hx
  | const c => cases hx; rfl
  | global g => cases hx; rfl
  | func f => cases hx; rfl
theorem Seen.evals {md : Region.Mode} {ops : Array Oper} {X0 : Array Value} {val : Nat → Value} {i : Nat} {o : Oper} {a : Act} (h : Seen md ops X0 val i o a) : ∀ (xs : List Operand) (vs : List Value), xs.map (rdo md ops X0 val i o) = vs.map some → xs.map a.eval = vs
  | [], [], _ => rfl
  | [], _ :: _, h2 => by simp at h2
  | _ :: _, [], h2 => by simp at h2
  | x :: xs, v :: vs, h2 => by
    simp only [List.map_cons, List.cons.injEq] at h2 ⊢
    exact ⟨h.eval h2.1, h.evals xs vs h2.2⟩
def StepAt (P : Program) (md : Region.Mode) (ops : Array Oper) (Q : Exit → Act → World → Prop) (X0 : Array Value) (val : Nat → Value) (J J' : World → Prop) (i : Nat) (o : Oper) : Prop :=
  ∀ a w, J w → Seen md ops X0 val i o a → wpOp P ops Q i (fun a' w' => a' = a.put o.dst (val i) ∧ J' w') a w
def stepsFrom (S : Nat → Oper → Prop) : List Oper → Nat → Prop
  | [], _ => True
  | o :: r, i => S i o ∧ stepsFrom S r (i + 1)
theorem stepsFrom_at {S : Nat → Oper → Prop} : ∀ (l : List Oper) (k : Nat), stepsFrom S l k → ∀ (i : Nat) (o : Oper), l[i]? = some o → S (k + i) o
  | [], _, _, i, o, h => by simp at h
  | o1 :: r, k, h, 0, o, ho => by simp at ho; subst ho; exact h.1
  | o1 :: r, k, h, i + 1, o, ho => by
    have := stepsFrom_at r (k + 1) h.2 i o (by simpa using ho)
    rw [show k + (i + 1) = k + 1 + i by omega]; exact this
/-- i waits for j, by up to f others. -/
def reachAt (md : Region.Mode) (ops : Array Oper) : Nat → Nat → Nat → Bool
  | 0, _, _ => false
  | f + 1, i, j => waitsAt md ops i j || (List.range i).any (fun k => waitsAt md ops i k && reachAt md ops f k j)
theorem waits_of {md : Region.Mode} {ops : Array Oper} {i j : Nat} (h : waitsAt md ops i j = true) : ∃ o, ops[i]? = some o ∧ bindsOn md o j = true := by
  unfold waitsAt at h
  split at h
  · rename_i o ho; exact ⟨o, ho, h⟩
  · cases h
theorem reach_done {md : Region.Mode} {ops : Array Oper} {d : Nat → Bool} (hcl : ∀ j oj, ops[j]? = some oj → d j = true → ∀ k, bindsOn md oj k = true → d k = true) : ∀ (f i j : Nat), d i = true → reachAt md ops f i j = true → d j = true
  | 0, _, _, _, h => by cases h
  | f + 1, i, j, hi, h => by
    rw [reachAt, Bool.or_eq_true] at h
    rcases h with h | h
    · obtain ⟨o, ho, hb⟩ := waits_of h
      exact hcl i o ho hi j hb
    · obtain ⟨k, _, hk⟩ := List.any_eq_true.1 h
      rw [Bool.and_eq_true] at hk
      obtain ⟨o, ho, hb⟩ := waits_of hk.1
      exact reach_done hcl f k j (hcl i o ho hi k hb) hk.2
theorem reach_next {md : Region.Mode} {ops : Array Oper} {d : Nat → Bool} (hcl : ∀ j oj, ops[j]? = some oj → d j = true → ∀ k, bindsOn md oj k = true → d k = true) {i : Nat} {o : Oper} (ho : ops[i]? = some o) (hdep : ∀ k, bindsOn md o k = true → d k = true) : ∀ (f j : Nat), reachAt md ops f i j = true → d j = true
  | 0, _, h => by cases h
  | f + 1, j, h => by
    rw [reachAt, Bool.or_eq_true] at h
    rcases h with h | h
    · obtain ⟨o', ho', hb⟩ := waits_of h
      rw [ho] at ho'; cases ho'
      exact hdep j hb
    · obtain ⟨k, _, hk⟩ := List.any_eq_true.1 h
      rw [Bool.and_eq_true] at hk
      obtain ⟨o', ho', hb⟩ := waits_of hk.1
      rw [ho] at ho'; cases ho'
      exact reach_done hcl f k j (hdep k hb) hk.2
/-- From m on each waits for all ahead of it. -/
def tailOk (md : Region.Mode) (ops : Array Oper) (m : Nat) : Bool := (List.range ops.size).all fun i => decide (i < m) || (List.range i).all fun j => reachAt md ops 3 i j
/-- A region whose first m operations change nothing that J m speaks of; the others come in their order. -/
theorem wpAny_seq {P : Program} {md : Region.Mode} {ops : Array Oper} {Q : Exit → Act → World → Prop} (m : Nat) (val : Nat → Value) (J : Nat → World → Prop)
    {X0 : Array Value} {df : List Deferred} (hm : m ≤ ops.size) (hok : tabOk md ops X0.size = true) (htl : tailOk md ops m = true)
    (hsteps : stepsFrom (fun i o => StepAt P md ops Q X0 val (J (if i < m then m else i)) (J (if i < m then m else i + 1)) i o) ops.toList 0)
    (hend : ∀ w, J ops.size w → Q .normal { tmps := finL val ops.toList 0 X0, defers := df } w)
    {w : World} (hJ : J m w) : wpAny P md ops Q ops.size (Array.replicate ops.size false) { tmps := X0, defers := df } w := by
  refine wpAny_tab (G := Unit) (fun _ => val) (fun _ d w => ∃ k, m ≤ k ∧ k ≤ ops.size ∧ (∀ i, m ≤ i → i < ops.size → (d i = true ↔ i < k)) ∧ J k w) hok ?_ ?_ () ⟨m, Nat.le_refl _, hm, fun i h1 _ => ⟨(fun h => by cases h), (fun h => by omega)⟩, hJ⟩
  · rintro _ d w hall ⟨k, h1, h2, h3, h4⟩
    have : k = ops.size := by
      rcases Nat.lt_or_ge k ops.size with h | h
      · have := (h3 k h1 h).1 (hall k h); omega
      · omega
    subst this
    exact hend w h4
  · rintro i o ho _ d a w ⟨k, h1, h2, h3, h4⟩ hun hdep hcl hS
    have hst := stepsFrom_at ops.toList 0 hsteps i o (by simpa using ho)
    rw [Nat.zero_add] at hst
    have hil := getElem?_lt ho
    have hwait : ∀ i', i' < ops.size → m ≤ i' → ∀ j, j < i' → reachAt md ops 3 i' j = true := by
      intro i' hi' hmi j hj
      have := List.all_eq_true.1 htl i' (List.mem_range.2 hi')
      simp only [Bool.or_eq_true, decide_eq_true_eq] at this
      rcases this with h | h
      · omega
      · exact List.all_eq_true.1 h j (List.mem_range.2 hj)
    by_cases him : i < m
    · have hkm : k = m := by
        rcases Nat.lt_or_ge m k with h | h
        · exfalso
          have hm2 : m < ops.size := by omega
          have hdm := (h3 m (Nat.le_refl _) hm2).2 h
          have := reach_done hcl 3 m i hdm (hwait m hm2 (Nat.le_refl _) i him)
          rw [this] at hun; cases hun
        · omega
      subst hkm
      simp only [him, if_true] at hst
      refine wpOp_mono (fun a' w' hq => ⟨(), fun _ _ => rfl, hq.1, k, Nat.le_refl _, h2, fun j hj1 hj2 => ?_, hq.2⟩) (hst a w h4 hS)
      have : ¬ j = i := by omega
      simp only [this, if_false]
      exact h3 j hj1 hj2
    · have hki : k = i := by
        have h5 : ¬ i < k := fun h => by rw [(h3 i (by omega) hil).2 h] at hun; cases hun
        rcases Nat.lt_or_ge k i with h | h
        · exfalso
          have := reach_next hcl ho hdep 3 k (hwait i hil (by omega) k h)
          have := (h3 k h1 (by omega)).1 this
          omega
        · omega
      subst hki
      simp only [him, if_false] at hst
      refine wpOp_mono (fun a' w' hq => ⟨(), fun _ _ => rfl, hq.1, k + 1, by omega, by omega, fun j hj1 hj2 => ?_, hq.2⟩) (hst a w h4 hS)
      by_cases e : j = k
      · subst e; simp
      · simp only [e, if_false]
        rw [h3 j hj1 hj2]; omega

theorem stepsFrom_cons {S : Nat → Oper → Prop} {o : Oper} {r : List Oper} {i : Nat} (h : S i o) (h2 : stepsFrom S r (i + 1)) : stepsFrom S (o :: r) i := ⟨h, h2⟩
theorem stepsFrom_mk {S : Nat → Oper → Prop} : ∀ (l : List Oper) (k : Nat), (∀ (i : Nat) (o : Oper), l[i]? = some o → S (k + i) o) → stepsFrom S l k
  | [], _, _ => trivial
  | o :: r, k, h => ⟨by simpa using h 0 o rfl, stepsFrom_mk r (k + 1) (fun i o' ho => by have := h (i + 1) o' (by simpa using ho); rw [show k + (i + 1) = k + 1 + i by omega] at this; exact this)⟩
theorem getElem?_take {α : Type} (l : List α) (m i : Nat) (h : i < m) : (l.take m)[i]? = l[i]? := by
  rw [List.getElem?_take]; simp [h]
/-- Nothing is changed. -/
theorem wpAny_pure {P : Program} {md : Region.Mode} {ops : Array Oper} {Q : Exit → Act → World → Prop} (val : Nat → Value) (J : World → Prop)
    {X0 : Array Value} {df : List Deferred} (hok : tabOk md ops X0.size = true)
    {w : World} (hJ : J w)
    (hsteps : stepsFrom (fun i o => StepAt P md ops Q X0 val J J i o) ops.toList 0)
    (hend : ∀ w, J w → Q .normal { tmps := finL val ops.toList 0 X0, defers := df } w) : wpAny P md ops Q ops.size (Array.replicate ops.size false) { tmps := X0, defers := df } w := by
  refine wpAny_seq ops.size val (fun _ => J) (Nat.le_refl _) hok ?_ hsteps hend hJ
  refine List.all_eq_true.2 (fun i hi => ?_)
  simp [List.mem_range.1 hi]
/-- The last one changes what is told. -/
theorem wpAny_last {P : Program} {md : Region.Mode} {ops : Array Oper} {Q : Exit → Act → World → Prop} (m : Nat) (val : Nat → Value) (J J' : World → Prop)
    {X0 : Array Value} {df : List Deferred} (hm : ops.size = m + 1) (hok : tabOk md ops X0.size = true) (htl : tailOk md ops m = true)
    {w : World} (hJ : J w)
    (hsteps : stepsFrom (fun i o => StepAt P md ops Q X0 val J J i o) (ops.toList.take m) 0)
    (hlast : ∀ o, ops[m]? = some o → StepAt P md ops Q X0 val J J' m o)
    (hend : ∀ w, J' w → Q .normal { tmps := finL val ops.toList 0 X0, defers := df } w) : wpAny P md ops Q ops.size (Array.replicate ops.size false) { tmps := X0, defers := df } w := by
  refine wpAny_seq m val (fun k => if k ≤ m then J else J') (by omega) hok htl (stepsFrom_mk _ _ (fun i o ho => ?_)) (fun w h => hend w ?_) (by simpa using hJ)
  · rw [Nat.zero_add]
    have hi : ops[i]? = some o := by simpa using ho
    have hil := getElem?_lt hi
    by_cases h : i < m
    · have := stepsFrom_at _ 0 hsteps i o (by rw [getElem?_take _ _ _ h]; exact ho)
      rw [Nat.zero_add] at this
      simpa [h] using this
    · have e : i = m := by omega
      subst e
      have q1 : ¬ i + 1 ≤ i := by omega
      simpa [q1] using hlast o hi
  · have : ¬ m + 1 ≤ m := by omega
    simpa [hm, this] using h
/-- The last two change what is told. -/
theorem wpAny_last2 {P : Program} {md : Region.Mode} {ops : Array Oper} {Q : Exit → Act → World → Prop} (m : Nat) (val : Nat → Value) (J J' J'' : World → Prop)
    {X0 : Array Value} {df : List Deferred} (hm : ops.size = m + 2) (hok : tabOk md ops X0.size = true) (htl : tailOk md ops m = true)
    {w : World} (hJ : J w)
    (hsteps : stepsFrom (fun i o => StepAt P md ops Q X0 val J J i o) (ops.toList.take m) 0)
    (hlast : ∀ o, ops[m]? = some o → StepAt P md ops Q X0 val J J' m o)
    (hlast2 : ∀ o, ops[m + 1]? = some o → StepAt P md ops Q X0 val J' J'' (m + 1) o)
    (hend : ∀ w, J'' w → Q .normal { tmps := finL val ops.toList 0 X0, defers := df } w) : wpAny P md ops Q ops.size (Array.replicate ops.size false) { tmps := X0, defers := df } w := by
  refine wpAny_seq m val (fun k => if k ≤ m then J else if k ≤ m + 1 then J' else J'') (by omega) hok htl (stepsFrom_mk _ _ (fun i o ho => ?_)) (fun w h => hend w ?_) (by simpa using hJ)
  · rw [Nat.zero_add]
    have hi : ops[i]? = some o := by simpa using ho
    have hil := getElem?_lt hi
    by_cases h : i < m
    · have := stepsFrom_at _ 0 hsteps i o (by rw [getElem?_take _ _ _ h]; exact ho)
      rw [Nat.zero_add] at this
      simpa [h] using this
    · by_cases e : i = m
      · subst e
        have q1 : ¬ i + 1 ≤ i := by omega
        simpa [q1] using hlast o hi
      · have e : i = m + 1 := by omega
        subst e
        have q1 : ¬ m + 1 ≤ m := by omega
        have q2 : ¬ m + 1 < m := by omega
        have q3 : ¬ m + 1 + 1 ≤ m := by omega
        have q4 : ¬ m + 1 + 1 ≤ m + 1 := by omega
        simpa [q1, q2, q3, q4] using hlast2 o hi
  · have q3 : ¬ m + 2 ≤ m := by omega
    have q4 : ¬ m + 2 ≤ m + 1 := by omega
    simpa [hm, q3, q4] using h

/-! the operations -/
def GOk (md : Region.Mode) (ops : Array Oper) (X0 : Array Value) (val : Nat → Value) (i : Nat) (o : Oper) : Prop :=
  match o.guard with
  | none => True
  | some (j, b) => ∃ s, dstAt ops j = some s ∧ rdv md ops X0 val i o s = some (.bool b)
theorem wanted_of {md : Region.Mode} {ops : Array Oper} {X0 : Array Value} {val : Nat → Value} {i : Nat} {o : Oper} {a : Act} (h : Seen md ops X0 val i o a) (hg : GOk md ops X0 val i o) : Region.wanted o (yielded ops a.tmps) = true := by
  unfold GOk at hg
  unfold Region.wanted
  split at hg
  · rename_i e; rw [e]
  · rename_i j b e
    obtain ⟨s, hs, hv⟩ := hg
    obtain ⟨oj, hoj, hd⟩ := dstAt_lt hs
    have := h s _ hv
    have h2 : a.tmps[s]? = some (.bool b) := by
      rw [Array.getD_eq_getD_getElem?] at this
      cases hx : a.tmps[s]? with
      | none => rw [hx] at this; cases this
      | some y => rw [hx] at this; simpa using this
    simp [e, yielded, hoj, hd, h2]
section
variable {P : Program} {md : Region.Mode} {ops : Array Oper} {Q : Exit → Act → World → Prop} {X0 : Array Value} {val : Nat → Value} {J J' : World → Prop} {i : Nat} {o : Oper}
theorem step_of (hi : ops[i]? = some o) (hg : GOk md ops X0 val i o) (h : ∀ a w, J w → Seen md ops X0 val i o a → o.wp P a w (fun a' w' => a' = a.put o.dst (val i) ∧ J' w') Q) : StepAt P md ops Q X0 val J J' i o := by
  intro a w hJ hS
  unfold wpOp
  rw [hi]
  simp only [wanted_of hS hg, if_true]
  exact .inl (h a w hJ hS)
/-- An operation that is not wanted. -/
theorem step_skip (hi : ops[i]? = some o) (j : Nat) (b : Bool) (s : Nat) (v : Value) (hg : o.guard = some (j, b)) (hs : dstAt ops j = some s) (hv : rdv md ops X0 val i o s = some v) (hne : v ≠ .bool b) (hu : val i = undef) : StepAt P md ops Q X0 val J J i o := by
  intro a w hJ hS
  unfold wpOp
  rw [hi]
  have h1 := hS s v hv
  obtain ⟨oj, hoj, hd⟩ := dstAt_lt hs
  have h2 : Region.wanted o (yielded ops a.tmps) = false := by
    unfold Region.wanted
    simp only [hg, yielded, hoj, Option.bind_some, hd]
    rw [Array.getD_eq_getD_getElem?] at h1
    cases hx : a.tmps[s]? with
    | none => simp
    | some y =>
      rw [hx] at h1
      simp only [Option.getD_some] at h1
      subst h1
      cases y <;> simp at hne ⊢
      exact hne
  simp only [h2, Bool.false_eq_true, if_false]
  exact ⟨by rw [hu], hJ⟩
theorem step_move (hi : ops[i]? = some o) (hg : GOk md ops X0 val i o) (x : Operand) (ho : o.op = .move x) (hx : rdo md ops X0 val i o x = some (val i)) : StepAt P md ops Q X0 val J J i o :=
  step_of hi hg fun a w hJ hS => by
    unfold Oper.wp execOp
    simp only [ho, hS.eval hx]
    exact ⟨rfl, hJ⟩
theorem step_assign (hi : ops[i]? = some o) (hg : GOk md ops X0 val i o) (x : Operand) (ho : o.op = .assign x) (hx : rdo md ops X0 val i o x = some (val i)) (hJ' : ∀ w, J w → J' w) : StepAt P md ops Q X0 val J J' i o :=
  step_of hi hg fun a w hJ hS => by
    unfold Oper.wp execOp
    simp only [ho, hS.eval hx]
    exact ⟨rfl, hJ' w hJ⟩
theorem step_pick (hi : ops[i]? = some o) (hg : GOk md ops X0 val i o) (c x y : Operand) (b : Bool) (ho : o.op = .pick c x y) (hc : rdo md ops X0 val i o c = some (.bool b)) (hx : rdo md ops X0 val i o (if b then x else y) = some (val i)) : StepAt P md ops Q X0 val J J i o :=
  step_of hi hg fun a w hJ hS => by
    unfold Oper.wp execOp
    simp only [ho, hS.eval hc, asBool]
    cases b
    · have := hS.eval hx
      simp only [Bool.false_eq_true, if_false] at this
      simp [Sem.run_pure, this, Oper.upon_value, hJ]
    · have := hS.eval hx
      simp only [if_true] at this
      simp [Sem.run_pure, this, Oper.upon_value, hJ]
theorem step_load (hi : ops[i]? = some o) (hg : GOk md ops X0 val i o) (t : TypeId) (x : Operand) (p : Value) (ho : o.op = .load t x) (hx : rdo md ops X0 val i o x = some p) (hr : ∀ w, J w → (Instr.loadAt t p).run P w = .ok (val i) w) : StepAt P md ops Q X0 val J J i o :=
  step_of hi hg fun a w hJ hS => by
    unfold Oper.wp execOp
    simp only [ho, hS.eval hx, Sem.run_bind, hr w hJ, Result.andThen_ok, Sem.run_pure, Oper.upon_value]
    exact ⟨trivial, hJ⟩
theorem step_indexAddr (hi : ops[i]? = some o) (hg : GOk md ops X0 val i o) (t : TypeId) (x y : Operand) (p q : Value) (ho : o.op = .indexAddr t x y) (hx : rdo md ops X0 val i o x = some p) (hy : rdo md ops X0 val i o y = some q) (hr : ∀ w, J w → (Instr.indexAt t p q).run P w = .ok (val i) w) : StepAt P md ops Q X0 val J J i o :=
  step_of hi hg fun a w hJ hS => by
    unfold Oper.wp execOp
    simp only [ho, hS.eval hx, hS.eval hy, Sem.run_bind, hr w hJ, Result.andThen_ok, Sem.run_pure, Oper.upon_value]
    exact ⟨trivial, hJ⟩
theorem step_index (hi : ops[i]? = some o) (hg : GOk md ops X0 val i o) (t : TypeId) (x y : Operand) (p q : Value) (ho : o.op = .index t x y) (hx : rdo md ops X0 val i o x = some p) (hy : rdo md ops X0 val i o y = some q) (hr : ∀ w, J w → (Instr.index t p q).run P w = .ok (val i) w) : StepAt P md ops Q X0 val J J i o :=
  step_of hi hg fun a w hJ hS => by
    unfold Oper.wp execOp
    simp only [ho, hS.eval hx, hS.eval hy, Sem.run_bind, hr w hJ, Result.andThen_ok, Sem.run_pure, Oper.upon_value]
    exact ⟨trivial, hJ⟩
theorem step_convert (hi : ops[i]? = some o) (hg : GOk md ops X0 val i o) (s t : TypeId) (x : Operand) (p : Value) (ho : o.op = .convert s t x) (hx : rdo md ops X0 val i o x = some p) (hr : ∀ w, J w → (convert s t p).run P w = .ok (val i) w) : StepAt P md ops Q X0 val J J i o :=
  step_of hi hg fun a w hJ hS => by
    unfold Oper.wp execOp
    simp only [ho, hS.eval hx, Sem.run_bind, hr w hJ, Result.andThen_ok, Sem.run_pure, Oper.upon_value]
    exact ⟨trivial, hJ⟩
theorem step_unOp (hi : ops[i]? = some o) (hg : GOk md ops X0 val i o) (u : UnOp) (t : TypeId) (x : Operand) (p : Value) (ho : o.op = .unOp u t x) (hx : rdo md ops X0 val i o x = some p) (hr : ∀ w, J w → (Op.unary u p).run P w = .ok (val i) w) : StepAt P md ops Q X0 val J J i o :=
  step_of hi hg fun a w hJ hS => by
    unfold Oper.wp execOp
    simp only [ho, hS.eval hx, Sem.run_bind, hr w hJ, Result.andThen_ok, Sem.run_pure, Oper.upon_value]
    exact ⟨trivial, hJ⟩
/-- A test or a sum: the guard ahead of it and the operation itself. -/
def binRun (P : Program) (b : BinOp) (t : TypeId) (x y : Operand) (p q : Value) (w : World) : Result Value := (do eqGuard b t x y p q; binOp b t p q : Sem Value).run P w
theorem step_binOp (hi : ops[i]? = some o) (hg : GOk md ops X0 val i o) (b : BinOp) (t u : TypeId) (x y : Operand) (p q : Value) (ho : o.op = .binOp b t x y u) (hx : rdo md ops X0 val i o x = some p) (hy : rdo md ops X0 val i o y = some q) (hr : ∀ w, J w → binRun P b t x y p q w = .ok (val i) w) : StepAt P md ops Q X0 val J J i o :=
  step_of hi hg fun a w hJ hS => by
    unfold Oper.wp execOp
    have h := hr w hJ
    unfold binRun at h
    simp only [ho, hS.eval hx, hS.eval hy]
    rw [Sem.run_bind, h]
    simp only [Result.andThen_ok, Sem.run_pure, Oper.upon_value]
    exact ⟨trivial, hJ⟩
theorem step_call (hi : ops[i]? = some o) (hg : GOk md ops X0 val i o) (f : FuncId) (xs : Array Operand) (ts : Array TypeId) (vs : List Value) (ho : o.op = .call { callee := .value (.func f), args := xs, argTypes := ts })
    (hx : xs.toList.map (rdo md ops X0 val i o) = vs.map some) (hen : ∀ args w, (callFunc f args).run P w = .ok (.enter f args) w) (hc : ∀ w, J w → Calls P f vs.toArray w fun e w' => e = .returned (val i) ∧ J' w') : StepAt P md ops Q X0 val J J' i o :=
  step_of hi hg fun a w hJ hS => by
    unfold Oper.wp execOp
    have e : xs.map a.eval = vs.toArray := by
      apply Array.toList_inj.1
      rw [Array.toList_map]
      exact hS.evals _ _ hx
    have e2 : a.eval (.func f) = .func (.func f) #[] #[] := rfl
    simp only [ho, resolve, e, e2, Deferred.ofValue, Sem.run_bind, Sem.run_pure, Result.andThen_ok, invoke, Array.empty_append, Array.append_empty, hen, Oper.upon_enter]
    refine (hc w hJ).mono ?_
    rintro e' w' ⟨rfl, hJ'⟩
    exact ⟨rfl, hJ'⟩
theorem step_store (hi : ops[i]? = some o) (hg : GOk md ops X0 val i o) (hd : o.dst = none) (t : TypeId) (x y : Operand) (p q : Value) (ho : o.op = .store t x y) (hx : rdo md ops X0 val i o x = some p) (hy : rdo md ops X0 val i o y = some q) (hr : ∀ w, J w → ∃ w', (Instr.storeAt t p q).run P w = .ok () w' ∧ J' w') : StepAt P md ops Q X0 val J J' i o :=
  step_of hi hg fun a w hJ hS => by
    unfold Oper.wp execOp
    obtain ⟨w', h1, h2⟩ := hr w hJ
    simp only [ho, hS.eval hx, hS.eval hy, Sem.run_bind, h1, Result.andThen_ok, Sem.run_pure, Oper.upon_skip]
    exact ⟨by rw [hd]; rfl, h2⟩
end
end Go.Proofs.YtngjjcmoekeciaaGreatDoor
