/- The words of a text, line by line: plain mathematics. -/
import Derived.Test.YtngjjcmoekeciaaGreatDoorJnJ8
import Derived.Test.YtngjjcmoekeciaaGreatDoorJnJ9
import Derived.Test.YtngjjcmoekeciaaGreatDoorReg
import Derived.OrdersIn
import Derived.RangeFuncCalls
import Derived.OwnWalkIn
import Derived.Test.YtngjjcmoekeciaaGreatDoorRgs
namespace Go.Proofs.YtngjjcmoekeciaaGreatDoor
open Go.RowKit Go.Shelf

/-- How many words a line gives, its end with it; and their cells. -/
def lineN (x : ByteArray) : Nat := if (cutR x).1.length = 0 then 0 else (cutR x).1.length + 1
def lineT (ln : Nat) (x : ByteArray) : List Value := if (cutR x).1.length = 0 then [] else flatT ln (cutR x).1 ++ tokC 1 ⟨#[10]⟩ ln (((starts x).length + 1 : Nat) : Int)
def kkL : List ByteArray → Nat
  | [] => 0
  | x :: t => lineN x + kkL t
def xxL : Nat → List ByteArray → List Value
  | _, [] => []
  | n, x :: t => lineT (n + 1) x ++ xxL (n + 1) t
theorem kkL_snoc (x : ByteArray) : ∀ l : List ByteArray, kkL (l ++ [x]) = kkL l + lineN x
  | [] => by simp [kkL]
  | y :: l => by rw [List.cons_append, kkL, kkL_snoc x l, kkL]; omega
theorem xxL_snoc (x : ByteArray) : ∀ (n : Nat) (l : List ByteArray), xxL n (l ++ [x]) = xxL n l ++ lineT (n + l.length + 1) x
  | n, [] => by simp [xxL]
  | n, y :: l => by
    rw [List.cons_append, xxL, xxL_snoc x (n + 1) l, xxL, List.append_assoc, List.length_cons]
    congr 3
    omega
theorem cutAt_len (s : ByteArray) : ∀ (f p nx col : Nat) (acc : List Tok), (cutAt s f p nx col acc).1.length ≤ acc.length + f
  | 0, _, _, _, acc => by simp [cutAt]
  | f + 1, p, nx, col, acc => by
    by_cases h : p < s.size
    · by_cases hn : p < nx
      · rw [cut_skip s f p nx col acc h hn]
        have := cutAt_len s f (p + wd s p) nx (col + 1) acc
        omega
      · rw [cut_step s f p nx col acc h hn]
        cases hst : stepR s p with
        | gap => have := cutAt_len s f (p + wd s p) nx (col + 1) acc; dsimp only; omega
        | stop => dsimp only; omega
        | bad e off => dsimp only; omega
        | word k sz =>
          have := cutAt_len s f (p + wd s p) (p + sz) (col + 1) (acc ++ [(k, s.extract p (p + sz), col + 1)])
          simp at this
          dsimp only
          omega
    · rw [cut_end s f p nx col acc h]
      dsimp only
      omega
theorem cutR_len (x : ByteArray) : (cutR x).1.length ≤ x.size + 1 := by
  have := cutAt_len x (x.size + 1) 0 0 0 []
  simpa [cutR] using this
theorem kkL_le : ∀ l : List ByteArray, kkL l ≤ 2 * (l.map (fun x => x.size + 1)).sum
  | [] => by simp [kkL]
  | x :: l => by
    have := kkL_le l
    have h := cutR_len x
    have : lineN x ≤ x.size + 2 := by unfold lineN; split <;> omega
    rw [kkL, List.map_cons, List.sum_cons]
    omega
theorem lines_sum : ∀ (f : Nat) (s : ByteArray), s.size ≤ f → ((linesAux f s).map (fun x => x.size + 1)).sum = s.size + 1
  | 0, s, h => by simp [linesAux]
  | f + 1, s, h => by
    by_cases hn : nlAt s < 0
    · rw [lines_last hn]; simp
    · obtain ⟨n, e⟩ := Int.eq_ofNat_of_zero_le (show 0 ≤ nlAt s by omega)
      have hb := nl_bounds s
      have e1 : (s.extract 0 n).size = n := by rw [ByteArray.size_extract]; omega
      have e2 : (s.extract (n + 1) s.size).size = s.size - (n + 1) := by rw [ByteArray.size_extract]; omega
      rw [lines_more e, List.map_cons, List.sum_cons, lines_sum f _ (by omega), e1, e2]
      omega
theorem sum_prefix : ∀ {a b : List ByteArray}, a <+: b → (a.map (fun x => x.size + 1)).sum ≤ (b.map (fun x => x.size + 1)).sum := by
  rintro a b ⟨c, rfl⟩
  rw [List.map_append, List.sum_append]
  omega
theorem kk_pre {s : ByteArray} {pre : List ByteArray} (h : pre <+: linesOf s) : kkL pre ≤ 2 * (s.size + 1) := by
  have h1 := kkL_le pre
  have h2 := sum_prefix h
  have h3 := lines_sum s.size s (Nat.le_refl _)
  unfold linesOf at h2
  omega
theorem line_size {s : ByteArray} {pre : List ByteArray} {x : ByteArray} (h : pre ++ [x] <+: linesOf s) : x.size ≤ s.size ∧ pre.length ≤ s.size := by
  have h2 := sum_prefix h
  have h3 := lines_sum s.size s (Nat.le_refl _)
  unfold linesOf at h2
  rw [List.map_append, List.sum_append, List.map_cons, List.map_nil, List.sum_cons, List.sum_nil, h3] at h2
  have h4 : pre.length ≤ (pre.map (fun x => x.size + 1)).sum := by
    clear h h2 h3
    induction pre with
    | nil => simp
    | cons y t ih => rw [List.map_cons, List.sum_cons, List.length_cons]; omega
  omega
/-- The first line that is wrong, of these: how many are ahead of it, its error, its column. -/
def badL : List ByteArray → Option (Nat × Nat × Nat)
  | [] => none
  | x :: t => if (cutR x).2.1 ≠ 0 then some (0, (cutR x).2.1, (cutR x).2.2) else (badL t).map (fun r => (r.1 + 1, r.2))
theorem badL_snoc (x : ByteArray) : ∀ l : List ByteArray, badL l = none → badL (l ++ [x]) = if (cutR x).2.1 ≠ 0 then some (l.length, (cutR x).2.1, (cutR x).2.2) else none
  | [], _ => by simp [badL]
  | y :: l, h => by
    rw [badL] at h
    by_cases hy : (cutR y).2.1 ≠ 0
    · rw [if_pos hy] at h; cases h
    · rw [if_neg hy] at h
      have h2 : badL l = none := by simpa using h
      rw [List.cons_append, badL, if_neg hy, badL_snoc x l h2]
      split <;> simp
theorem badL_prefix : ∀ {a b : List ByteArray} {r : Nat × Nat × Nat}, a <+: b → badL a = some r → badL b = some r := by
  rintro a b r ⟨c, rfl⟩
  induction a generalizing r with
  | nil => intro h; cases h
  | cons y t ih =>
    intro h
    rw [badL] at h
    rw [List.cons_append, badL]
    by_cases hy : (cutR y).2.1 ≠ 0
    · rw [if_pos hy] at h ⊢; exact h
    · rw [if_neg hy] at h ⊢
      cases hb : badL t with
      | none => rw [hb] at h; cases h
      | some q =>
        rw [ih hb]
        rw [hb] at h
        exact h
end Go.Proofs.YtngjjcmoekeciaaGreatDoor
namespace Go.Proofs.YtngjjcmoekeciaaGreatDoor
open Go.RowKit

def StepAtI (F : Fence) (n : Nat) (P : Program) (md : Region.Mode) (ops : Array Oper) (Q : Exit → Act → World → Prop) (X0 : Array Value) (val : Nat → Value) (J J' : World → Prop) (i : Nat) (o : Oper) : Prop :=
  ∀ a w, J w → Seen md ops X0 val i o a → wpOpIn F n P ops Q i (fun a' w' => a' = a.put o.dst (val i) ∧ J' w') a w
theorem wpAnyIn_tab {F : Fence} {n : Nat} {P : Program} {md : Region.Mode} {ops : Array Oper} {Q : Exit → Act → World → Prop} {G : Type} (val : G → Nat → Value) (J : G → (Nat → Bool) → World → Prop)
    {X0 : Array Value} {df : List Deferred} (hok : tabOk md ops X0.size = true)
    (hend : ∀ g d w, (∀ j, j < ops.size → d j = true) → J g d w → Q .normal { tmps := finL (val g) ops.toList 0 X0, defers := df } w)
    (hstep : ∀ i o, ops[i]? = some o → ∀ g d a w, J g d w → d i = false → (∀ j, bindsOn md o j = true → d j = true) → (∀ j oj, ops[j]? = some oj → d j = true → ∀ k, bindsOn md oj k = true → d k = true) → (∀ s v, rdv md ops X0 (val g) i o s = some v → a.tmps.getD s undef = v) →
      wpOpIn F n P ops Q i (fun a' w' => ∃ g', (∀ j, d j = true → val g' j = val g j) ∧ a' = a.put o.dst (val g' i) ∧ J g' (fun j => if j = i then true else d j) w') a w)
    (g : G) {w : World} (hJ : J g (fun _ => false) w) : wpAnyIn F n P md ops Q ops.size (Array.replicate ops.size false) { tmps := X0, defers := df } w := by
  have key : ∀ k (listed : Array Bool) (a : Act) (w : World) (g : G), falses listed.toList = k → TabSt md ops X0 df (val g) listed a → J g (fun j => listed.getD j false) w → wpAnyIn F n P md ops Q k listed a w := by
    intro k
    induction k with
    | zero =>
      intro listed a w g hk hS hJ
      have hall : ∀ j, j < ops.size → listed.getD j false = true := fun j hj => by
        have := falses_zero listed.toList j hk (by simpa [hS.size] using hj)
        simpa [Array.getD_eq_getD_getElem?] using this
      have hr : Region.ready md ops listed = [] := by
        apply List.eq_nil_iff_forall_not_mem.2
        intro j hj
        obtain ⟨h1, o, ho, _⟩ := mem_ready.1 hj
        have h2 := hall j (getElem?_lt ho)
        have h3 : j < listed.size := by rw [hS.size]; exact getElem?_lt ho
        simp [Array.getD, h3] at h1 h2
        rw [h1] at h2; cases h2
      refine ⟨hr, ?_⟩
      rw [tab_end hS hok hall]
      exact hend g _ w hall hJ
    | succ k ih =>
      intro listed a w g hk hS hJ
      have hun : ∀ i, Region.ready md ops listed = [] → i < ops.size → listed.getD i false = true := by
        intro i hn
        induction i using Nat.strongRecOn with
        | ind i ihi =>
          intro hi
          cases hl : listed.getD i false with
          | true => rfl
          | false =>
            have hlt : i < listed.size := by rw [hS.size]; exact hi
            obtain ⟨o, ho⟩ : ∃ o, ops[i]? = some o := ⟨_, Array.getElem?_eq_getElem hi⟩
            have hc := List.all_eq_true.1 hok i (List.mem_range.2 hi)
            rw [ho] at hc
            simp only [Bool.and_eq_true] at hc
            have hmem : i ∈ Region.ready md ops listed := mem_ready.2 ⟨by simp [Array.getD, hlt] at hl ⊢; exact hl, o, ho, fun e he hb => by
              have := List.all_eq_true.1 hc.1 e (by simpa using he)
              simp only [hb, Bool.not_true, Bool.false_or, decide_eq_true_eq] at this
              exact ihi e.on this (by omega)⟩
            rw [hn] at hmem; cases hmem
      refine ⟨fun hn => ?_, fun i hi => ?_⟩
      · have hall := hun
        rw [tab_end hS hok (fun j hj => hun j hn hj)]
        exact hend g _ w (fun j hj => hun j hn hj) hJ
      · obtain ⟨h1, o, ho, hr⟩ := mem_ready.1 hi
        have hlt : i < listed.size := by rw [hS.size]; exact getElem?_lt ho
        have h1' : listed.getD i false = false := by simp [Array.getD, hlt] at h1 ⊢; exact h1
        refine wpOpIn_mono (fun a' w' hq => ?_) (hstep i o ho g _ a w hJ h1' (fun j hj => ?_) (fun j oj hoj hd k hk => ?_) (fun s v hv => hS.reads ho h1' hr s v hv))
        · obtain ⟨g', hv, rfl, hJ'⟩ := hq
          refine ih (listed.setIfInBounds i true) _ w' g' ?_ (hS.put hok ho hr hv h1') ?_
          · have := falses_set listed.toList i (by simpa [Array.getD_eq_getD_getElem?, hlt] using h1)
            simp only [Array.toList_setIfInBounds]
            omega
          · have e : (fun j => (listed.setIfInBounds i true).getD j false) = (fun j => if j = i then true else listed.getD j false) := by
              funext j
              rw [getD_set]
              by_cases e : i = j
              · subst e; simp [hlt]
              · rw [if_neg (fun c => e c.1), if_neg (fun c => e c.symm)]
            rw [e]; exact hJ'
        · obtain ⟨e, he, hb, rfl⟩ := bindsOn_iff.1 hj
          exact hr e he hb
        · obtain ⟨e, he, hb, rfl⟩ := bindsOn_iff.1 hk
          exact hS.closed j oj hoj hd e he hb
  refine key _ _ _ _ g (by simp [falses_replicate]) ⟨by simp, rfl, rfl, ?_, ?_, fun _ _ => rfl⟩ ?_
  · intro j oj _ h
    simp [Array.getD] at h
  · intro j s _ h
    simp [Array.getD] at h
  · have e : (fun j => (Array.replicate ops.size false).getD j false) = (fun _ => false) := by funext j; simp [Array.getD]
    rw [e]; exact hJ

theorem wpAnyIn_seq {F : Fence} {n : Nat} {P : Program} {md : Region.Mode} {ops : Array Oper} {Q : Exit → Act → World → Prop} (m : Nat) (val : Nat → Value) (J : Nat → World → Prop)
    {X0 : Array Value} {df : List Deferred} (hm : m ≤ ops.size) (hok : tabOk md ops X0.size = true) (htl : tailOk md ops m = true)
    (hsteps : stepsFrom (fun i o => StepAtI F n P md ops Q X0 val (J (if i < m then m else i)) (J (if i < m then m else i + 1)) i o) ops.toList 0)
    (hend : ∀ w, J ops.size w → Q .normal { tmps := finL val ops.toList 0 X0, defers := df } w)
    {w : World} (hJ : J m w) : wpAnyIn F n P md ops Q ops.size (Array.replicate ops.size false) { tmps := X0, defers := df } w := by
  refine wpAnyIn_tab (G := Unit) (fun _ => val) (fun _ d w => ∃ k, m ≤ k ∧ k ≤ ops.size ∧ (∀ i, m ≤ i → i < ops.size → (d i = true ↔ i < k)) ∧ J k w) hok ?_ ?_ () ⟨m, Nat.le_refl _, hm, fun i h1 _ => ⟨(fun h => by cases h), (fun h => by omega)⟩, hJ⟩
  · rintro _ d w hall ⟨k, h1, h2, h3, h4⟩
    have : k = ops.size := by
      rcases Nat.lt_or_ge k ops.size with h | h
      · have := (h3 k h1 h).1 (hall k h); omega
      · omega
    subst this
    exact hend w h4
  · rintro i o ho _ d a w ⟨k, h1, h2, h3, h4⟩ hun hdep hcl hS
    have hst := stepsFrom_at ops.toList 0 hsteps i o (by simpa using ho)
    rw [Nat.zero_add] at hst
    have hil := getElem?_lt ho
    have hwait : ∀ i', i' < ops.size → m ≤ i' → ∀ j, j < i' → reachAt md ops 3 i' j = true := by
      intro i' hi' hmi j hj
      have := List.all_eq_true.1 htl i' (List.mem_range.2 hi')
      simp only [Bool.or_eq_true, decide_eq_true_eq] at this
      rcases this with h | h
      · omega
      · exact List.all_eq_true.1 h j (List.mem_range.2 hj)
    by_cases him : i < m
    · have hkm : k = m := by
        rcases Nat.lt_or_ge m k with h | h
        · exfalso
          have hm2 : m < ops.size := by omega
          have hdm := (h3 m (Nat.le_refl _) hm2).2 h
          have := reach_done hcl 3 m i hdm (hwait m hm2 (Nat.le_refl _) i him)
          rw [this] at hun; cases hun
        · omega
      subst hkm
      simp only [him, if_true] at hst
      refine wpOpIn_mono (fun a' w' hq => ⟨(), fun _ _ => rfl, hq.1, k, Nat.le_refl _, h2, fun j hj1 hj2 => ?_, hq.2⟩) (hst a w h4 hS)
      have : ¬ j = i := by omega
      simp only [this, if_false]
      exact h3 j hj1 hj2
    · have hki : k = i := by
        have h5 : ¬ i < k := fun h => by rw [(h3 i (by omega) hil).2 h] at hun; cases hun
        rcases Nat.lt_or_ge k i with h | h
        · exfalso
          have := reach_next hcl ho hdep 3 k (hwait i hil (by omega) k h)
          have := (h3 k h1 (by omega)).1 this
          omega
        · omega
      subst hki
      simp only [him, if_false] at hst
      refine wpOpIn_mono (fun a' w' hq => ⟨(), fun _ _ => rfl, hq.1, k + 1, by omega, by omega, fun j hj1 hj2 => ?_, hq.2⟩) (hst a w h4 hS)
      by_cases e : j = k
      · subst e; simp
      · simp only [e, if_false]
        rw [h3 j hj1 hj2]; omega

theorem wpAnyIn_pure {F : Fence} {n : Nat} {P : Program} {md : Region.Mode} {ops : Array Oper} {Q : Exit → Act → World → Prop} (val : Nat → Value) (J : World → Prop)
    {X0 : Array Value} {df : List Deferred} (hok : tabOk md ops X0.size = true)
    {w : World} (hJ : J w)
    (hsteps : stepsFrom (fun i o => StepAtI F n P md ops Q X0 val J J i o) ops.toList 0)
    (hend : ∀ w, J w → Q .normal { tmps := finL val ops.toList 0 X0, defers := df } w) : wpAnyIn F n P md ops Q ops.size (Array.replicate ops.size false) { tmps := X0, defers := df } w := by
  refine wpAnyIn_seq ops.size val (fun _ => J) (Nat.le_refl _) hok ?_ hsteps hend hJ
  refine List.all_eq_true.2 (fun i hi => ?_)
  simp [List.mem_range.1 hi]
theorem wpAnyIn_last {F : Fence} {n : Nat} {P : Program} {md : Region.Mode} {ops : Array Oper} {Q : Exit → Act → World → Prop} (m : Nat) (val : Nat → Value) (J J' : World → Prop)
    {X0 : Array Value} {df : List Deferred} (hm : ops.size = m + 1) (hok : tabOk md ops X0.size = true) (htl : tailOk md ops m = true)
    {w : World} (hJ : J w)
    (hsteps : stepsFrom (fun i o => StepAtI F n P md ops Q X0 val J J i o) (ops.toList.take m) 0)
    (hlast : ∀ o, ops[m]? = some o → StepAtI F n P md ops Q X0 val J J' m o)
    (hend : ∀ w, J' w → Q .normal { tmps := finL val ops.toList 0 X0, defers := df } w) : wpAnyIn F n P md ops Q ops.size (Array.replicate ops.size false) { tmps := X0, defers := df } w := by
  refine wpAnyIn_seq m val (fun k => if k ≤ m then J else J') (by omega) hok htl (stepsFrom_mk _ _ (fun i o ho => ?_)) (fun w h => hend w ?_) (by simpa using hJ)
  · rw [Nat.zero_add]
    have hi : ops[i]? = some o := by simpa using ho
    have hil := getElem?_lt hi
    by_cases h : i < m
    · have := stepsFrom_at _ 0 hsteps i o (by rw [getElem?_take _ _ _ h]; exact ho)
      rw [Nat.zero_add] at this
      simpa [h] using this
    · have e : i = m := by omega
      subst e
      have q1 : ¬ i + 1 ≤ i := by omega
      simpa [q1] using hlast o hi
  · have : ¬ m + 1 ≤ m := by omega
    simpa [hm, this] using h
theorem wpAnyIn_last2 {F : Fence} {n : Nat} {P : Program} {md : Region.Mode} {ops : Array Oper} {Q : Exit → Act → World → Prop} (m : Nat) (val : Nat → Value) (J J' J'' : World → Prop)
    {X0 : Array Value} {df : List Deferred} (hm : ops.size = m + 2) (hok : tabOk md ops X0.size = true) (htl : tailOk md ops m = true)
    {w : World} (hJ : J w)
    (hsteps : stepsFrom (fun i o => StepAtI F n P md ops Q X0 val J J i o) (ops.toList.take m) 0)
    (hlast : ∀ o, ops[m]? = some o → StepAtI F n P md ops Q X0 val J J' m o)
    (hlast2 : ∀ o, ops[m + 1]? = some o → StepAtI F n P md ops Q X0 val J' J'' (m + 1) o)
    (hend : ∀ w, J'' w → Q .normal { tmps := finL val ops.toList 0 X0, defers := df } w) : wpAnyIn F n P md ops Q ops.size (Array.replicate ops.size false) { tmps := X0, defers := df } w := by
  refine wpAnyIn_seq m val (fun k => if k ≤ m then J else if k ≤ m + 1 then J' else J'') (by omega) hok htl (stepsFrom_mk _ _ (fun i o ho => ?_)) (fun w h => hend w ?_) (by simpa using hJ)
  · rw [Nat.zero_add]
    have hi : ops[i]? = some o := by simpa using ho
    have hil := getElem?_lt hi
    by_cases h : i < m
    · have := stepsFrom_at _ 0 hsteps i o (by rw [getElem?_take _ _ _ h]; exact ho)
      rw [Nat.zero_add] at this
      simpa [h] using this
    · by_cases e : i = m
      · subst e
        have q1 : ¬ i + 1 ≤ i := by omega
        simpa [q1] using hlast o hi
      · have e : i = m + 1 := by omega
        subst e
        have q1 : ¬ m + 1 ≤ m := by omega
        have q2 : ¬ m + 1 < m := by omega
        have q3 : ¬ m + 1 + 1 ≤ m := by omega
        have q4 : ¬ m + 1 + 1 ≤ m + 1 := by omega
        simpa [q1, q2, q3, q4] using hlast2 o hi
  · have q3 : ¬ m + 2 ≤ m := by omega
    have q4 : ¬ m + 2 ≤ m + 1 := by omega
    simpa [hm, q3, q4] using h


/-- A fence that bars nothing, in a round or not. -/
structure WideF (F : Fence) : Prop where
  fn : ∀ f, F.fn f
  depth : F.depth = none
  calls : ∀ {n : Nat} {P : Program} {f : FuncId} {args : Array Value} {w : World} {R : Ending → World → Prop}, Calls P f args w R → CallsIn F n P f args w R
  rows : ∀ {n : Nat} {P : Program} {row : String} {args : Array Value} {w : World} {R : Value → World → Prop}, Rows P row args w R → RowsIn F n P row args w R
theorem rowsIn_of {n : Nat} {P : Program} {row : String} {args : Array Value} {w : World} {R : Value → World → Prop} (h : Rows P row args w R) : RowsIn Fence.wide n P row args w R :=
  fun c cs _ => let ⟨v, w', r, s⟩ := h c cs; ⟨v, w', r, stepsIn_wide.2 s⟩
theorem wideF_wide : WideF Fence.wide := ⟨fun _ => trivial, rfl, fun h => callsIn_wide.2 h, rowsIn_of⟩
theorem wideF_round (l : Nat) : WideF (Fence.wide.inRound l) := ⟨fun _ => trivial, rfl, fun h => CallsIn.inRound l (callsIn_wide.2 h), fun h => (rowsIn_of h : RowsIn Fence.wide _ _ _ _ _ _)⟩
section
variable {F : Fence} {n : Nat} {P : Program} {md : Region.Mode} {ops : Array Oper} {Q : Exit → Act → World → Prop} {X0 : Array Value} {val : Nat → Value} {J J' : World → Prop} {i : Nat} {o : Oper}
theorem wf_room (hF : WideF F) : F.depth.isSome = true → 1 ≤ n := fun h => by rw [hF.depth] at h; cases h
theorem uponJ_of (hF : WideF F) {a : Act} {next : Act → World → Prop} {r : Result Next} (h : o.upon P a next Q r) : o.uponIn F n P a next Q r := by
  cases r with
  | ok x w =>
    cases x with
    | enter f args => exact ⟨wf_room hF, hF.calls h⟩
    | row row args => exact ⟨wf_room hF, hF.rows h⟩
    | value v => exact h
    | skip => exact h
    | defer d => exact h
    | round l f t b c => exact h.elim
    | _ => exact h
  | halt x w => cases x <;> exact h
theorem stepJ_of (hF : WideF F) (hi : ops[i]? = some o) (hg : GOk md ops X0 val i o) (hnd : ∀ c, o.op ≠ .defer c) (h : ∀ a w, J w → Seen md ops X0 val i o a → o.wp P a w (fun a' w' => a' = a.put o.dst (val i) ∧ J' w') Q) : StepAtI F n P md ops Q X0 val J J' i o := by
  intro a w hJ hS
  unfold wpOpIn
  rw [hi]
  simp only [wanted_of hS hg, if_true]
  refine ⟨fun f _ => hF.fn f, ?_⟩
  rw [Oper.semAt_plain F _ _ hnd]
  exact uponJ_of hF (h a w hJ hS)
theorem stepJ_skip (hF : WideF F) (hi : ops[i]? = some o) (j : Nat) (b : Bool) (s : Nat) (v : Value) (hg : o.guard = some (j, b)) (hs : dstAt ops j = some s) (hv : rdv md ops X0 val i o s = some v) (hne : v ≠ .bool b) (hu : val i = undef) : StepAtI F n P md ops Q X0 val J J i o := by
  intro a w hJ hS
  unfold wpOpIn
  rw [hi]
  have h1 := hS s v hv
  obtain ⟨oj, hoj, hd⟩ := dstAt_lt hs
  have h2 : Region.wanted o (yielded ops a.tmps) = false := by
    unfold Region.wanted
    simp only [hg, yielded, hoj, Option.bind_some, hd]
    rw [Array.getD_eq_getD_getElem?] at h1
    cases hx : a.tmps[s]? with
    | none => simp
    | some y =>
      rw [hx] at h1
      simp only [Option.getD_some] at h1
      subst h1
      cases y <;> simp at hne ⊢
      exact hne
  simp only [h2, Bool.false_eq_true, if_false]
  exact ⟨fun f _ => hF.fn f, by rw [hu], hJ⟩
theorem stepJ_move (hF : WideF F) (hi : ops[i]? = some o) (hg : GOk md ops X0 val i o) (x : Operand) (ho : o.op = .move x) (hx : rdo md ops X0 val i o x = some (val i)) : StepAtI F n P md ops Q X0 val J J i o :=
  stepJ_of hF hi hg (fun c hc => by rw [ho] at hc; cases hc) fun a w hJ hS => by
    unfold Oper.wp execOp
    simp only [ho, hS.eval hx]
    exact ⟨rfl, hJ⟩
theorem stepJ_assign (hF : WideF F) (hi : ops[i]? = some o) (hg : GOk md ops X0 val i o) (x : Operand) (ho : o.op = .assign x) (hx : rdo md ops X0 val i o x = some (val i)) (hJ' : ∀ w, J w → J' w) : StepAtI F n P md ops Q X0 val J J' i o :=
  stepJ_of hF hi hg (fun c hc => by rw [ho] at hc; cases hc) fun a w hJ hS => by
    unfold Oper.wp execOp
    simp only [ho, hS.eval hx]
    exact ⟨rfl, hJ' w hJ⟩
theorem stepJ_pick (hF : WideF F) (hi : ops[i]? = some o) (hg : GOk md ops X0 val i o) (c x y : Operand) (b : Bool) (ho : o.op = .pick c x y) (hc : rdo md ops X0 val i o c = some (.bool b)) (hx : rdo md ops X0 val i o (if b then x else y) = some (val i)) : StepAtI F n P md ops Q X0 val J J i o :=
  stepJ_of hF hi hg (fun c hc => by rw [ho] at hc; cases hc) fun a w hJ hS => by
    unfold Oper.wp execOp
    simp only [ho, hS.eval hc, asBool]
    cases b
    · have := hS.eval hx
      simp only [Bool.false_eq_true, if_false] at this
      simp [Sem.run_pure, this, Oper.upon_value, hJ]
    · have := hS.eval hx
      simp only [if_true] at this
      simp [Sem.run_pure, this, Oper.upon_value, hJ]
theorem stepJ_load (hF : WideF F) (hi : ops[i]? = some o) (hg : GOk md ops X0 val i o) (t : TypeId) (x : Operand) (p : Value) (ho : o.op = .load t x) (hx : rdo md ops X0 val i o x = some p) (hr : ∀ w, J w → (Instr.loadAt t p).run P w = .ok (val i) w) : StepAtI F n P md ops Q X0 val J J i o :=
  stepJ_of hF hi hg (fun c hc => by rw [ho] at hc; cases hc) fun a w hJ hS => by
    unfold Oper.wp execOp
    simp only [ho, hS.eval hx, Sem.run_bind, hr w hJ, Result.andThen_ok, Sem.run_pure, Oper.upon_value]
    exact ⟨trivial, hJ⟩
theorem stepJ_indexAddr (hF : WideF F) (hi : ops[i]? = some o) (hg : GOk md ops X0 val i o) (t : TypeId) (x y : Operand) (p q : Value) (ho : o.op = .indexAddr t x y) (hx : rdo md ops X0 val i o x = some p) (hy : rdo md ops X0 val i o y = some q) (hr : ∀ w, J w → (Instr.indexAt t p q).run P w = .ok (val i) w) : StepAtI F n P md ops Q X0 val J J i o :=
  stepJ_of hF hi hg (fun c hc => by rw [ho] at hc; cases hc) fun a w hJ hS => by
    unfold Oper.wp execOp
    simp only [ho, hS.eval hx, hS.eval hy, Sem.run_bind, hr w hJ, Result.andThen_ok, Sem.run_pure, Oper.upon_value]
    exact ⟨trivial, hJ⟩
theorem stepJ_index (hF : WideF F) (hi : ops[i]? = some o) (hg : GOk md ops X0 val i o) (t : TypeId) (x y : Operand) (p q : Value) (ho : o.op = .index t x y) (hx : rdo md ops X0 val i o x = some p) (hy : rdo md ops X0 val i o y = some q) (hr : ∀ w, J w → (Instr.index t p q).run P w = .ok (val i) w) : StepAtI F n P md ops Q X0 val J J i o :=
  stepJ_of hF hi hg (fun c hc => by rw [ho] at hc; cases hc) fun a w hJ hS => by
    unfold Oper.wp execOp
    simp only [ho, hS.eval hx, hS.eval hy, Sem.run_bind, hr w hJ, Result.andThen_ok, Sem.run_pure, Oper.upon_value]
    exact ⟨trivial, hJ⟩
theorem stepJ_convert (hF : WideF F) (hi : ops[i]? = some o) (hg : GOk md ops X0 val i o) (s t : TypeId) (x : Operand) (p : Value) (ho : o.op = .convert s t x) (hx : rdo md ops X0 val i o x = some p) (hr : ∀ w, J w → (convert s t p).run P w = .ok (val i) w) : StepAtI F n P md ops Q X0 val J J i o :=
  stepJ_of hF hi hg (fun c hc => by rw [ho] at hc; cases hc) fun a w hJ hS => by
    unfold Oper.wp execOp
    simp only [ho, hS.eval hx, Sem.run_bind, hr w hJ, Result.andThen_ok, Sem.run_pure, Oper.upon_value]
    exact ⟨trivial, hJ⟩
theorem stepJ_unOp (hF : WideF F) (hi : ops[i]? = some o) (hg : GOk md ops X0 val i o) (u : UnOp) (t : TypeId) (x : Operand) (p : Value) (ho : o.op = .unOp u t x) (hx : rdo md ops X0 val i o x = some p) (hr : ∀ w, J w → (Op.unary u p).run P w = .ok (val i) w) : StepAtI F n P md ops Q X0 val J J i o :=
  stepJ_of hF hi hg (fun c hc => by rw [ho] at hc; cases hc) fun a w hJ hS => by
    unfold Oper.wp execOp
    simp only [ho, hS.eval hx, Sem.run_bind, hr w hJ, Result.andThen_ok, Sem.run_pure, Oper.upon_value]
    exact ⟨trivial, hJ⟩
theorem stepJ_binOp (hF : WideF F) (hi : ops[i]? = some o) (hg : GOk md ops X0 val i o) (b : BinOp) (t u : TypeId) (x y : Operand) (p q : Value) (ho : o.op = .binOp b t x y u) (hx : rdo md ops X0 val i o x = some p) (hy : rdo md ops X0 val i o y = some q) (hr : ∀ w, J w → binRun P b t x y p q w = .ok (val i) w) : StepAtI F n P md ops Q X0 val J J i o :=
  stepJ_of hF hi hg (fun c hc => by rw [ho] at hc; cases hc) fun a w hJ hS => by
    unfold Oper.wp execOp
    have h := hr w hJ
    unfold binRun at h
    simp only [ho, hS.eval hx, hS.eval hy]
    rw [Sem.run_bind, h]
    simp only [Result.andThen_ok, Sem.run_pure, Oper.upon_value]
    exact ⟨trivial, hJ⟩
theorem stepJ_call (hF : WideF F) (hi : ops[i]? = some o) (hg : GOk md ops X0 val i o) (f : FuncId) (xs : Array Operand) (ts : Array TypeId) (vs : List Value) (ho : o.op = .call { callee := .value (.func f), args := xs, argTypes := ts })
    (hx : xs.toList.map (rdo md ops X0 val i o) = vs.map some) (hen : ∀ args w, (callFunc f args).run P w = .ok (.enter f args) w) (hc : ∀ w, J w → Calls P f vs.toArray w fun e w' => e = .returned (val i) ∧ J' w') : StepAtI F n P md ops Q X0 val J J' i o :=
  stepJ_of hF hi hg (fun c hc => by rw [ho] at hc; cases hc) fun a w hJ hS => by
    unfold Oper.wp execOp
    have e : xs.map a.eval = vs.toArray := by
      apply Array.toList_inj.1
      rw [Array.toList_map]
      exact hS.evals _ _ hx
    have e2 : a.eval (.func f) = .func (.func f) #[] #[] := rfl
    simp only [ho, resolve, e, e2, Deferred.ofValue, Sem.run_bind, Sem.run_pure, Result.andThen_ok, invoke, Array.empty_append, Array.append_empty, hen, Oper.upon_enter]
    refine (hc w hJ).mono ?_
    rintro e' w' ⟨rfl, hJ'⟩
    exact ⟨rfl, hJ'⟩
theorem stepJ_store (hF : WideF F) (hi : ops[i]? = some o) (hg : GOk md ops X0 val i o) (hd : o.dst = none) (t : TypeId) (x y : Operand) (p q : Value) (ho : o.op = .store t x y) (hx : rdo md ops X0 val i o x = some p) (hy : rdo md ops X0 val i o y = some q) (hr : ∀ w, J w → ∃ w', (Instr.storeAt t p q).run P w = .ok () w' ∧ J' w') : StepAtI F n P md ops Q X0 val J J' i o :=
  stepJ_of hF hi hg (fun c hc => by rw [ho] at hc; cases hc) fun a w hJ hS => by
    unfold Oper.wp execOp
    obtain ⟨w', h1, h2⟩ := hr w hJ
    simp only [ho, hS.eval hx, hS.eval hy, Sem.run_bind, h1, Result.andThen_ok, Sem.run_pure, Oper.upon_skip]
    exact ⟨by rw [hd]; rfl, h2⟩
theorem stepJ_box (hF : WideF F) (hi : ops[i]? = some o) (hg : GOk md ops X0 val i o) (t : TypeId) (x : Operand) (p : Value) (ho : o.op = .box t x) (hx : rdo md ops X0 val i o x = some p) (hr : ∀ w, J w → ∃ w', (Instr.box t p).run P w = .ok (val i) w' ∧ J' w') : StepAtI F n P md ops Q X0 val J J' i o :=
  stepJ_of hF hi hg (fun c hc => by rw [ho] at hc; cases hc) fun a w hJ hS => by
    unfold Oper.wp execOp
    obtain ⟨w', h1, h2⟩ := hr w hJ
    simp only [ho, hS.eval hx, Sem.run_bind, h1, Result.andThen_ok, Sem.run_pure, Oper.upon_value]
    exact ⟨trivial, h2⟩
theorem stepJ_new (hF : WideF F) (hi : ops[i]? = some o) (hg : GOk md ops X0 val i o) (t : TypeId) (ho : o.op = .alloc t) (hr : ∀ w, J w → ∃ w', (Instr.alloc t true (.tuple #[])).run P w = .ok (val i) w' ∧ J' w') : StepAtI F n P md ops Q X0 val J J' i o :=
  stepJ_of hF hi hg (fun c hc => by rw [ho] at hc; cases hc) fun a w hJ hS => by
    unfold Oper.wp execOp
    obtain ⟨w', h1, h2⟩ := hr w hJ
    simp only [ho, Sem.run_bind, h1, Result.andThen_ok, Sem.run_pure, Oper.upon_value]
    exact ⟨trivial, h2⟩
/-- A function value that is the loop's own yield. -/
theorem stepJ_yield (hF : WideF F) (hi : ops[i]? = some o) (hg : GOk md ops X0 val i o) (l : Nat) (x : Operand) (xs : Array Operand) (ts : Array TypeId) (vs : List Value) (ho : o.op = .call { callee := .value x, args := xs, argTypes := ts })
    (hv : rdo md ops X0 val i o x = some (.func (.yield l) #[] #[])) (hx : xs.toList.map (rdo md ops X0 val i o) = vs.map some)
    (hc : ∀ w, J w → YieldAt F (n - 1) P l vs.toArray w fun e w' => e = .returned (val i) ∧ J' w') : StepAtI F n P md ops Q X0 val J J' i o := by
  intro a w hJ hS
  unfold wpOpIn
  rw [hi]
  simp only [wanted_of hS hg, if_true]
  refine ⟨fun f _ => hF.fn f, ?_⟩
  rw [Oper.semAt_plain F _ _ (fun c hc => by rw [ho] at hc; cases hc)]
  have e : xs.map a.eval = vs.toArray := by
    apply Array.toList_inj.1
    rw [Array.toList_map]
    exact hS.evals _ _ hx
  obtain ⟨fn, tmps, assign, body, hy, hR⟩ := hc w hJ
  unfold execOp
  simp only [ho, resolve, e, hS.eval hv, Deferred.ofValue, Sem.run_bind, Sem.run_pure, Result.andThen_ok, invoke, Array.empty_append, hy, Oper.uponIn_round]
  refine ⟨wf_room hF, hR.mono ?_⟩
  rintro e' w' ⟨rfl, hJ'⟩
  exact ⟨rfl, hJ'⟩
end
end Go.Proofs.YtngjjcmoekeciaaGreatDoor
namespace Go.Proofs.YtngjjcmoekeciaaGreatDoor
open Go.RowKit

def StepGI {G : Type} (F : Fence) (n : Nat) (P : Program) (md : Region.Mode) (ops : Array Oper) (Q : Exit → Act → World → Prop) (X0 : Array Value) (val : G → Nat → Value) (J : G → (Nat → Bool) → World → Prop) (i : Nat) (o : Oper) : Prop :=
  ∀ g d a w, J g d w → d i = false → (∀ j, bindsOn md o j = true → d j = true) → (∀ j oj, ops[j]? = some oj → d j = true → ∀ k, bindsOn md oj k = true → d k = true) → (∀ s v, rdv md ops X0 (val g) i o s = some v → a.tmps.getD s undef = v) →
      wpOpIn F n P ops Q i (fun a' w' => ∃ g', (∀ j, d j = true → val g' j = val g j) ∧ a' = a.put o.dst (val g' i) ∧ J g' (fun j => if j = i then true else d j) w') a w
section
variable {G : Type} {F : Fence} {n : Nat} {P : Program} {md : Region.Mode} {ops : Array Oper} {Q : Exit → Act → World → Prop} {X0 : Array Value} {val : G → Nat → Value} {J : G → (Nat → Bool) → World → Prop} {i : Nat} {o : Oper}
theorem wpAnyIn_tabG (val : G → Nat → Value) (J : G → (Nat → Bool) → World → Prop)
    {X0 : Array Value} {df : List Deferred} (hok : tabOk md ops X0.size = true) (g : G) {w : World} (hJ : J g (fun _ => false) w)
    (hstep : ∀ i o, ops[i]? = some o → StepGI F n P md ops Q X0 val J i o)
    (hend : ∀ g d w, (∀ j, j < ops.size → d j = true) → J g d w → Q .normal { tmps := finL (val g) ops.toList 0 X0, defers := df } w) :
    wpAnyIn F n P md ops Q ops.size (Array.replicate ops.size false) { tmps := X0, defers := df } w :=
  wpAnyIn_tab val J hok hend (fun i o ho g d a w => hstep i o ho g d a w) g hJ
theorem stepGI_at (h : ∀ g d, d i = false → (∀ j, bindsOn md o j = true → d j = true) → (∀ j oj, ops[j]? = some oj → d j = true → ∀ k, bindsOn md oj k = true → d k = true) → ∀ a w, J g d w → Seen md ops X0 (val g) i o a → wpOpIn F n P ops Q i (fun a' w' => ∃ g', (∀ j, d j = true → val g' j = val g j) ∧ a' = a.put o.dst (val g' i) ∧ J g' (fun j => if j = i then true else d j) w') a w) : StepGI F n P md ops Q X0 val J i o :=
  fun g d a w hJ hun hdep hcl hS => h g d hun hdep hcl a w hJ hS
theorem stepGI_of (h : ∀ g d, d i = false → (∀ j, bindsOn md o j = true → d j = true) → StepAtI F n P md ops Q X0 (val g) (J g d) (J g (fun j => if j = i then true else d j)) i o) : StepGI F n P md ops Q X0 val J i o := by
  intro g d a w hJ hun hdep _ hS
  exact wpOpIn_mono (fun a' w' hq => ⟨g, fun _ _ => rfl, hq.1, hq.2⟩) (h g d hun hdep a w hJ hS)
theorem stepGI_wp (hF : WideF F) (hi : ops[i]? = some o) (hg : o.guard = none) (hnd : ∀ c, o.op ≠ .defer c)
    (h : ∀ g d a w, J g d w → d i = false → (∀ j, bindsOn md o j = true → d j = true) → (∀ j oj, ops[j]? = some oj → d j = true → ∀ k, bindsOn md oj k = true → d k = true) → Seen md ops X0 (val g) i o a → o.wp P a w (fun a' w' => ∃ g', (∀ j, d j = true → val g' j = val g j) ∧ a' = a.put o.dst (val g' i) ∧ J g' (fun j => if j = i then true else d j) w') Q) : StepGI F n P md ops Q X0 val J i o := by
  intro g d a w hJ hun hdep hcl hS
  have hS' : Seen md ops X0 (val g) i o a := hS
  have h1 := h g d a w hJ hun hdep hcl hS'
  unfold wpOpIn
  rw [hi]
  simp only [Region.wanted, hg, if_true]
  refine ⟨fun f _ => hF.fn f, ?_⟩
  rw [Oper.semAt_plain F _ _ hnd]
  exact uponJ_of hF h1
theorem stepGI_build (hF : WideF F) (hi : ops[i]? = some o) (hg : o.guard = none) (t : TypeId) (x : Operand) (v : Value) (ho : o.op = .buildSlice t 1 #[(0, x)]) (hx : ∀ g, rdo md ops X0 (val g) i o x = some v)
    (h : ∀ g d w, J g d w → d i = false → (∀ j oj, ops[j]? = some oj → d j = true → ∀ k, bindsOn md oj k = true → d k = true) → ∃ g' w', (Instr.buildSlice t 1 #[(0, v)]).run P w = .ok (val g' i) w' ∧ (∀ j, d j = true → val g' j = val g j) ∧ J g' (fun j => if j = i then true else d j) w') : StepGI F n P md ops Q X0 val J i o := by
  refine stepGI_wp hF hi hg (fun c e => by rw [ho] at e; cases e) ?_
  intro g d a w hJ hun hdep hcl hS
  obtain ⟨g', w', h1, h2, h3⟩ := h g d w hJ hun hcl
  unfold Oper.wp execOp
  simp only [ho, List.map_toArray, List.map_cons, List.map_nil, hS.eval (hx g), Sem.run_bind, h1, Result.andThen_ok, Sem.run_pure, Oper.upon_value]
  exact ⟨g', h2, rfl, h3⟩
theorem stepGI_append (hF : WideF F) (hi : ops[i]? = some o) (hg : o.guard = none) (t : TypeId) (x y : Operand) (vx vy : G → Value) (ho : o.op = .call { callee := .builtin .append, args := #[x, y], argTypes := #[t, t] }) (hx : ∀ g, rdo md ops X0 (val g) i o x = some (vx g)) (hy : ∀ g, rdo md ops X0 (val g) i o y = some (vy g))
    (h : ∀ g d w, J g d w → d i = false → (∀ j, bindsOn md o j = true → d j = true) → (∀ j oj, ops[j]? = some oj → d j = true → ∀ k, bindsOn md oj k = true → d k = true) → ∃ g' w', (Builtin.append_ #[t, t] o.type #[vx g, vy g]).run P w = .ok (val g' i) w' ∧ (∀ j, d j = true → val g' j = val g j) ∧ J g' (fun j => if j = i then true else d j) w') : StepGI F n P md ops Q X0 val J i o := by
  refine stepGI_wp hF hi hg (fun c e => by rw [ho] at e; cases e) ?_
  intro g d a w hJ hun hdep hcl hS
  obtain ⟨g', w', h1, h2, h3⟩ := h g d w hJ hun hdep hcl
  unfold Oper.wp execOp
  simp only [ho, resolve, invoke, builtin, List.map_toArray, List.map_cons, List.map_nil, hS.eval (hx g), hS.eval (hy g), Sem.run_bind, h1, Result.andThen_ok, Sem.run_pure, Oper.upon_value]
  exact ⟨g', h2, rfl, h3⟩
/-- A struct that is made of four parts. -/
theorem stepGI_struct4 (hF : WideF F) (hi : ops[i]? = some o) (hg : o.guard = none) (t : TypeId) (x0 x1 x2 x3 : Operand) (v0 v1 v2 v3 : Value) (ho : o.op = .build t #[(0, x0), (1, x1), (2, x2), (3, x3)]) (hx : ∀ g, rdo md ops X0 (val g) i o x0 = some v0 ∧ rdo md ops X0 (val g) i o x1 = some v1 ∧ rdo md ops X0 (val g) i o x2 = some v2 ∧ rdo md ops X0 (val g) i o x3 = some v3)
    (h : ∀ g d w, J g d w → d i = false → (Instr.build t #[(0, v0), (1, v1), (2, v2), (3, v3)]).run P w = .ok (val g i) w ∧ J g (fun j => if j = i then true else d j) w) : StepGI F n P md ops Q X0 val J i o := by
  refine stepGI_wp hF hi hg (fun c e => by rw [ho] at e; cases e) ?_
  intro g d a w hJ hun hdep hcl hS
  obtain ⟨h1, h3⟩ := h g d w hJ hun
  obtain ⟨e0, e1, e2, e3⟩ := hx g
  unfold Oper.wp execOp
  simp only [ho, List.map_toArray, List.map_cons, List.map_nil, hS.eval e0, hS.eval e1, hS.eval e2, hS.eval e3, Sem.run_bind, h1, Result.andThen_ok, Sem.run_pure, Oper.upon_value]
  exact ⟨g, fun _ _ => rfl, rfl, h3⟩
end
end Go.Proofs.YtngjjcmoekeciaaGreatDoor
