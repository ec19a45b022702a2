import Derived.Test.YtmahamdmapbilaaGreatDoorJwJ5
import Derived.Test.YtmahamdmapbilaaGreatDoorJwJ19
set_option maxHeartbeats 40000000
set_option maxRecDepth 100000
set_option linter.unusedVariables false
namespace Go.Proofs.YtmahamdmapbilaaGreatDoor
open Go.RowKit
theorem wpAny_tabD {P : Program} {md : Region.Mode} {ops : Array Oper} {Q : Exit → Act → World → Prop} {G : Type} (val : G → Nat → Value) (J : G → (Nat → Bool) → World → Prop)
   {X0 : Array Value} {df : List Deferred} (hok : tabOk md ops X0.size = true)
   (hend : ∀ g d w, (∀ j, j < ops.size → d j = true) → J g d w → Q .normal { tmps := finL (val g) ops.toList 0 X0, defers := df } w)
   (hstep : ∀ i o, ops[i]? = some o → ∀ g d a w, J g d w → a.defers = df → d i = false → (∀ j, bindsOn md o j = true → d j = true) → (∀ j oj, ops[j]? = some oj → d j = true → ∀ k, bindsOn md oj k = true → d k = true) → (∀ s v, rdv md ops X0 (val g) i o s = some v → a.tmps.getD s undef = v) →
    wpOp P ops Q i (fun a' w' => ∃ g', (∀ j, d j = true → val g' j = val g j) ∧ a' = a.put o.dst (val g' i) ∧ J g' (fun j => if j = i then true else d j) w') a w)
   (g : G) {w : World} (hJ : J g (fun _ => false) w) : wpAny P md ops Q ops.size (Array.replicate ops.size false) { tmps := X0, defers := df } w := by
 have key : ∀ k (listed : Array Bool) (a : Act) (w : World) (g : G), falses listed.toList = k → TabSt md ops X0 df (val g) listed a → J g (fun j => listed.getD j false) w → wpAny P md ops Q k listed a w := by
   intro k
   induction k with
   | zero =>
    intro listed a w g hk hS hJ
    have hall : ∀ j, j < ops.size → listed.getD j false = true := fun j hj => by
      have := falses_zero listed.toList j hk (by simpa [hS.size] using hj)
      simpa [Array.getD_eq_getD_getElem?] using this
    have hr : Region.ready md ops listed = [] := by
      apply List.eq_nil_iff_forall_not_mem.2
      intro j hj
      obtain ⟨h1, o, ho, _⟩ := mem_ready.1 hj
      have h2 := hall j (getElem?_lt ho)
      have h3 : j < listed.size := by rw [hS.size]; exact getElem?_lt ho
      simp [Array.getD, h3] at h1 h2
      rw [h1] at h2; cases h2
    refine ⟨hr, ?_⟩
    rw [tab_end hS hok hall]
    exact hend g _ w hall hJ
   | succ k ih =>
    intro listed a w g hk hS hJ
    have hun : ∀ i, Region.ready md ops listed = [] → i < ops.size → listed.getD i false = true := by
      intro i hn
      induction i using Nat.strongRecOn with
      | ind i ihi =>
        intro hi
        cases hl : listed.getD i false with
        | true => rfl
        | false =>
          have hlt : i < listed.size := by rw [hS.size]; exact hi
          obtain ⟨o, ho⟩ : ∃ o, ops[i]? = some o := ⟨_, Array.getElem?_eq_getElem hi⟩
          have hc := List.all_eq_true.1 hok i (List.mem_range.2 hi)
          rw [ho] at hc
          simp only [Bool.and_eq_true] at hc
          have hmem : i ∈ Region.ready md ops listed := mem_ready.2 ⟨by simp [Array.getD, hlt] at hl ⊢; exact hl, o, ho, fun e he hb => by
           have := List.all_eq_true.1 hc.1 e (by simpa using he)
           simp only [hb, Bool.not_true, Bool.false_or, decide_eq_true_eq] at this
           exact ihi e.on this (by omega)⟩
          rw [hn] at hmem; cases hmem
    refine ⟨fun hn => ?_, fun i hi => ?_⟩
    · have hall := hun
      rw [tab_end hS hok (fun j hj => hun j hn hj)]
      exact hend g _ w (fun j hj => hun j hn hj) hJ
    · obtain ⟨h1, o, ho, hr⟩ := mem_ready.1 hi
      have hlt : i < listed.size := by rw [hS.size]; exact getElem?_lt ho
      have h1' : listed.getD i false = false := by simp [Array.getD, hlt] at h1 ⊢; exact h1
      refine wpOp_mono (fun a' w' hq => ?_) (hstep i o ho g _ a w hJ hS.dfs h1' (fun j hj => ?_) (fun j oj hoj hd k hk => ?_) (fun s v hv => hS.reads ho h1' hr s v hv))
      · obtain ⟨g', hv, rfl, hJ'⟩ := hq
        refine ih (listed.setIfInBounds i true) _ w' g' ?_ (hS.put hok ho hr hv h1') ?_
        · have := falses_set listed.toList i (by simpa [Array.getD_eq_getD_getElem?, hlt] using h1)
          simp only [Array.toList_setIfInBounds]
          omega
        · have e : (fun j => (listed.setIfInBounds i true).getD j false) = (fun j => if j = i then true else listed.getD j false) := by
           funext j
           rw [getD_set]
           by_cases e : i = j
           · subst e; simp [hlt]
           · rw [if_neg (fun c => e c.1), if_neg (fun c => e c.symm)]
          rw [e]; exact hJ'
      · obtain ⟨e, he, hb, rfl⟩ := bindsOn_iff.1 hj
        exact hr e he hb
      · obtain ⟨e, he, hb, rfl⟩ := bindsOn_iff.1 hk
        exact hS.closed j oj hoj hd e he hb
 refine key _ _ _ _ g (by simp [falses_replicate]) ⟨by simp, rfl, rfl, ?_, ?_, fun _ _ => rfl⟩ ?_
 · intro j oj _ h
   simp [Array.getD] at h
 · intro j s _ h
   simp [Array.getD] at h
 · have e : (fun j => (Array.replicate ops.size false).getD j false) = (fun _ => false) := by funext j; simp [Array.getD]
   rw [e]; exact hJ
end Go.Proofs.YtmahamdmapbilaaGreatDoor
namespace Go.Proofs.YtmahamdmapbilaaGreatDoor
open Go.RowKit Go.Shelf Go.Lib
def waitsDOk (md : Region.Mode) (ops : Array Oper) (m : Nat) (ws : List Nat) : Bool := ws.all fun i => decide (m < i) && (m :: ws).any fun k => decide (k < i) && (match ops[i]? with | some o => bindsOn md o k | none => false)
theorem waitsD_of {md : Region.Mode} {ops : Array Oper} {m : Nat} {ws : List Nat} (h : waitsDOk md ops m ws = true) {i : Nat} {o : Oper} (hi : i ∈ ws) (ho : ops[i]? = some o) : ∃ k, (k = m ∨ k ∈ ws) ∧ k < i ∧ bindsOn md o k = true := by
 have h1 := List.all_eq_true.1 h i hi
 rw [ho] at h1
 rw [Bool.and_eq_true] at h1
 obtain ⟨k, hk, h3⟩ := List.any_eq_true.1 h1.2
 simp only [Bool.and_eq_true, decide_eq_true_eq] at h3
 exact ⟨k, by simpa using hk, h3.1, h3.2⟩
theorem waitsD_all {md : Region.Mode} {ops : Array Oper} {m : Nat} {ws : List Nat} (h : waitsDOk md ops m ws = true) {d : Nat → Bool} (hcl : ∀ j oj, ops[j]? = some oj → d j = true → ∀ k, bindsOn md oj k = true → d k = true) : ∀ (i : Nat) (o : Oper), ops[i]? = some o → (i = m ∨ i ∈ ws) → d i = true → d m = true := by
 intro i
 induction i using Nat.strongRecOn with
 | ind i ih =>
  intro o ho hmi hd
  rcases hmi with e | e
  · rw [← e]; exact hd
  · obtain ⟨k, h1, h2, h3⟩ := waitsD_of h e ho
    have h4 : k < ops.size := Nat.lt_trans h2 (getElem?_lt ho)
    exact ih k h2 _ (Array.getElem?_eq_getElem h4) h1 (hcl i o ho hd k h3)
theorem wpAny_diesG {P : Program} {md : Region.Mode} {ops : Array Oper} {Q : Exit → Act → World → Prop} {G : Type} (m : Nat) (ws : List Nat) (val : G → Nat → Value) (J : G → (Nat → Bool) → World → Prop)
   {X0 : Array Value} {df : List Deferred} (hm : m < ops.size) (hok : tabOk md ops X0.size = true) (hw : waitsDOk md ops m ws = true) (g : G) {w : World} (hJ : J g (fun _ => false) w)
   (hsteps : ∀ i o, ops[i]? = some o → (i = m ∨ i ∈ ws) ∨ StepG P md ops Q X0 val J i o)
   (hlast : ∀ o, ops[m]? = some o → ∀ g d a w, J g d w → a.defers = df → d m = false → (∀ j, bindsOn md o j = true → d j = true) → (∀ j oj, ops[j]? = some oj → d j = true → ∀ k, bindsOn md oj k = true → d k = true) → Seen md ops X0 (val g) m o a → wpOp P ops Q m (fun _ _ => False) a w) : wpAny P md ops Q ops.size (Array.replicate ops.size false) { tmps := X0, defers := df } w := by
 refine wpAny_tabD val (fun g d w => d m = false ∧ J g d w) hok (fun _ d w hall h => ?_) (fun i o ho g d a w h hd hun hdep hcl hrd => ?_) g ⟨rfl, hJ⟩
 · have := hall m hm
   rw [h.1] at this
   cases this
 · by_cases e : i = m
   · subst e
     exact wpOp_mono (fun a' w' hq => hq.elim) (hlast o ho g d a w h.2 hd hun hdep hcl hrd)
   · rcases hsteps i o ho with hs | hs
     · obtain ⟨k, h1, h2, h3⟩ := waitsD_of hw (hs.resolve_left e) ho
       have h4 : k < ops.size := Nat.lt_trans h2 (getElem?_lt ho)
       have h5 := waitsD_all hw hcl k _ (Array.getElem?_eq_getElem h4) h1 (hdep k h3)
       rw [h.1] at h5
       cases h5
     · refine wpOp_mono (fun a' w' hq => ?_) (hs g d a w h.2 hun hdep hcl hrd)
       obtain ⟨g', h1, h2, h3⟩ := hq
       refine ⟨g', h1, h2, ?_, h3⟩
       show (if m = i then true else d m) = false
       rw [if_neg (fun q => e q.symm)]
       exact h.1
theorem dieG_call {G : Type} {P : Program} {md : Region.Mode} {ops : Array Oper} {Q : Exit → Act → World → Prop} {X0 : Array Value} {val : G → Nat → Value} {J : G → (Nat → Bool) → World → Prop} {J2 : World → Prop} {i : Nat} {o : Oper} {df : List Deferred} {K : Act → World → Prop} (hi : ops[i]? = some o) (hg : ∀ g, GOk md ops X0 (val g) i o) (f : FuncId) (xs : Array Operand) (ts : Array TypeId) (vs : G → List Value) (ho : o.op = .call { callee := .value (.func f), args := xs, argTypes := ts })
  (hx : ∀ g, xs.toList.map (rdo md ops X0 (val g) i o) = (vs g).map some) (hen : ∀ args w, (callFunc f args).run P w = .ok (.enter f args) w) (ch : List PanicEntry) (hc : ∀ g d w, J g d w → d i = false → (∀ j, bindsOn md o j = true → d j = true) → (∀ j oj, ops[j]? = some oj → d j = true → ∀ k, bindsOn md oj k = true → d k = true) → Calls P f (vs g).toArray w fun e w' => e = .panicked ch ∧ J2 w') (hQ : ∀ g a w, a.defers = df → Seen md ops X0 (val g) i o a → J2 w → Q (.panic ch) a w) :
  ∀ g d a w, J g d w → a.defers = df → d i = false → (∀ j, bindsOn md o j = true → d j = true) → (∀ j oj, ops[j]? = some oj → d j = true → ∀ k, bindsOn md oj k = true → d k = true) → Seen md ops X0 (val g) i o a → wpOp P ops Q i K a w := by
 intro g d a w hJ hd hun hdep hcl hS
 unfold wpOp
 rw [hi]
 simp only [wanted_of hS (hg g), if_true]
 refine .inl ?_
 unfold Oper.wp execOp
 have e : xs.map a.eval = (vs g).toArray := by
  apply Array.toList_inj.1
  rw [Array.toList_map]
  exact hS.evals _ _ (hx g)
 have e2 : a.eval (.func f) = .func (.func f) #[] #[] := rfl
 simp only [ho, resolve, e, e2, Deferred.ofValue, Sem.run_bind, Sem.run_pure, Result.andThen_ok, invoke, Array.empty_append, Array.append_empty, hen, Oper.upon_enter]
 refine (hc g d w hJ hun hdep hcl).mono ?_
 rintro e' w' ⟨rfl, hJ'⟩
 exact hQ g _ _ hd hS hJ'
theorem dieG_callv {G : Type} {P : Program} {md : Region.Mode} {ops : Array Oper} {Q : Exit → Act → World → Prop} {X0 : Array Value} {val : G → Nat → Value} {J : G → (Nat → Bool) → World → Prop} {J2 : World → Prop} {i : Nat} {o : Oper} {df : List Deferred} {K : Act → World → Prop} (hi : ops[i]? = some o) (hg : ∀ g, GOk md ops X0 (val g) i o) (f : FuncId) (x : Operand) (xs : Array Operand) (ts : Array TypeId) (cap : Array Value) (vs : G → List Value) (ho : o.op = .call { callee := .value x, args := xs, argTypes := ts })
  (hx0 : ∀ g, rdo md ops X0 (val g) i o x = some (.func (.func f) #[] cap)) (hx : ∀ g, xs.toList.map (rdo md ops X0 (val g) i o) = (vs g).map some) (hen : ∀ args w, (callFunc f args).run P w = .ok (.enter f args) w) (ch : List PanicEntry) (hc : ∀ g d w, J g d w → d i = false → (∀ j, bindsOn md o j = true → d j = true) → (∀ j oj, ops[j]? = some oj → d j = true → ∀ k, bindsOn md oj k = true → d k = true) → Calls P f ((vs g).toArray ++ cap) w fun e w' => e = .panicked ch ∧ J2 w') (hQ : ∀ g a w, a.defers = df → Seen md ops X0 (val g) i o a → J2 w → Q (.panic ch) a w) :
  ∀ g d a w, J g d w → a.defers = df → d i = false → (∀ j, bindsOn md o j = true → d j = true) → (∀ j oj, ops[j]? = some oj → d j = true → ∀ k, bindsOn md oj k = true → d k = true) → Seen md ops X0 (val g) i o a → wpOp P ops Q i K a w := by
 intro g d a w hJ hd hun hdep hcl hS
 unfold wpOp
 rw [hi]
 simp only [wanted_of hS (hg g), if_true]
 refine .inl ?_
 unfold Oper.wp execOp
 have e : xs.map a.eval = (vs g).toArray := by
  apply Array.toList_inj.1
  rw [Array.toList_map]
  exact hS.evals _ _ (hx g)
 have e2 : a.eval x = .func (.func f) #[] cap := hS.eval (hx0 g)
 simp only [ho, resolve, e, e2, Deferred.ofValue, Sem.run_bind, Sem.run_pure, Result.andThen_ok, invoke, Array.empty_append, hen, Oper.upon_enter]
 refine (hc g d w hJ hun hdep hcl).mono ?_
 rintro e' w' ⟨rfl, hJ'⟩
 exact hQ g _ _ hd hS hJ'
def Dy (nb : Nat) (w : World) (er c : Int) (e : Ending) (w' : World) : Prop := e = .panicked (rfT er c) ∧ Ob nb w w'
theorem takeT_no (f : FuncId) (fc : Array Value) (hen : ∀ args w, (callFunc f args).run Tryz.prog w = .ok (.enter f args) w) {nb wb : Nat} {l : List Tk4} {i : Nat} {w : World} (h : Tk nb wb l i w) (hi : i ≤ l.length) (x : Tk4) (hx : hereT l i = x) (hl : l.length ≤ 1000000) (hf : ∀ V, Ob nb w V → Calls Tryz.prog f (#[tk4 x] ++ fc) V fun e w' => e = .returned (.bool false) ∧ Below V.heap.size V w') : Calls Tryz.prog 93 #[.func (.func f) #[] fc, .pointer (some ⟨nb, 0, none⟩), .pointer (some ⟨wb, 0, none⟩)] w (Dy nb w 80 x.2.2.2) := by
 unfold Dy
 have hmx := mixO
 have HX : Hid (∀ V, Ob nb w V → Calls Tryz.prog f (#[tk4 x] ++ fc) V fun e w' => e = .returned (.bool false) ∧ Below V.heap.size V w') := hf
 have HEN : Hid (∀ args w, (callFunc f args).run Tryz.prog w = .ok (.enter f args) w) := hen
 obtain ⟨ad, cap, hw1, hw2, hw3⟩ := h.wd
 have hnw : nb ≠ wb := fun e => by
   have := h.nx
   rw [e, hw1] at this
   simp only [Option.some.injEq, Obj.cells.injEq] at this
   exact absurd this.2.1 (by decide)
 have hnl := zla h.nx
 have hwl := zla hw1
 have HW0 : Hid (w.heap[wb]? = some (.cells #[.slice ad l.length cap] 44 (0, 0))) := hw1
 have HRK : Hid (RdK w ad l) := hw2
 obtain ⟨W1, hW1⟩ : ∃ W1, w.alloc (.cells #[.int .i64 0, .string ⟨#[]⟩, .int .i64 0, .int .i64 0] 48) = W1 := ⟨_, rfl⟩
 have hb1 : Below w.heap.size w W1 := by rw [← hW1]; exact al1t _ _
 have hs1 : W1.heap.size = w.heap.size + 1 := by rw [← hW1]; simp
 have hr1 : W1.heap[w.heap.size]? = some (.cells #[.int .i64 0, .string ⟨#[]⟩, .int .i64 0, .int .i64 0] 48 (0, 0)) := by rw [← hW1]; exact zna rfl
 obtain ⟨W2, hW2⟩ : ∃ W2, W1.alloc (.cells #[.int .i64 0, .string ⟨#[]⟩, .int .i64 0, .int .i64 1] 48) = W2 := ⟨_, rfl⟩
 have hb2 : Below W1.heap.size W1 W2 := by rw [← hW2]; exact al1t _ _
 have hr5 : W2.heap[W1.heap.size]? = some (.cells #[.int .i64 0, .string ⟨#[]⟩, .int .i64 0, .int .i64 1] 48 (0, 0)) := by rw [← hW2]; exact zna rfl
 have hb02 : Below w.heap.size w W2 := hb1.trans (hb2.mono (by omega))
 have hr4 := (hb2.block _ (zla hr1)).trans hr1
 have n2 := (hb02.block _ hnl).trans h.nx
 have d2 := (hb02.block _ hwl).trans hw1
 by_cases hil : i < l.length
 · obtain ⟨b, off, rfl, hb, hat⟩ := hw2 (fun e => by rw [e] at hil; simp at hil)
   have hbn := hw3 b off rfl
   have hx' : l[i]? = some x := by
    rw [← hx]
    unfold hereT
    rw [List.getElem?_eq_getElem hil]
    rfl
   have HAT : Hid (∀ (j : Nat) (v : Value), (tkC x)[j]? = some v → w.cell? ⟨b, off + i * 4 + j, none⟩ = some v) := hat i x hx'
   obtain ⟨n, hN⟩ : ∃ n, l.length = n := ⟨_, rfl⟩
   rw [hN] at hil hl hw1 d2
   obtain ⟨W3, hW3⟩ : ∃ W3, W2.setRow W1.heap.size (tkC x) = W3 := ⟨_, rfl⟩
   have o3 : ∀ q, q ≠ W1.heap.size → W3.heap[q]? = W2.heap[q]? := fun q hq => by rw [← hW3]; exact Go.setRow_other _ _ _ _ hq
   have r53 : W3.heap[W1.heap.size]? = some (.cells (tkC x) 48 (0, 0)) := by rw [← hW3]; exact setRow_heap _ _ _ _ _ _ hr5
   have s3 : W3.heap.size = W2.heap.size := by rw [← hW3]; simp [World.setRow]
   have n3 := (o3 nb (by omega)).trans n2
   obtain ⟨W4, hW4⟩ : ∃ W4, W3.setCell ⟨nb, 0, none⟩ (.int .i64 ((i : Int) + 1)) = W4 := ⟨_, rfl⟩
   have o4 : ∀ q, q ≠ nb → W4.heap[q]? = W3.heap[q]? := fun q hq => by rw [← hW4]; exact Below.heap_setCell _ _ _ _ hq
   have s4 : W4.heap.size = W3.heap.size := by rw [← hW4]; simp [World.setCell]
   have n4 : W4.heap[nb]? = some (.cells #[.int .i64 ((i : Int) + 1)] 3 (0, 0)) := by
    rw [← hW4]
    have := heap_setCell_same _ _ 0 _ _ (.int .i64 ((i : Int) + 1)) n3
    simpa using this
   have hs2 := hb2.size
   have hob : Ob nb w W4 := ⟨by rw [← hW4, ← hW3]; exact hb02.os, by rw [← hW4, ← hW3]; exact hb02.tape, by rw [← hW4, ← hW3]; exact hb02.output, by omega, fun q h1 h2 => (o4 q h2).trans ((o3 q (by omega)).trans (hb02.block q h1))⟩
   have hj4 : JK nb wb w.heap.size W1.heap.size l (i + 1) x w W4 := ⟨⟨by rw [n4]; simp, some ⟨b, off, none⟩, cap, (hob.block wb hwl (Ne.symm hnw)).trans (by rw [hN]; exact hw1), HRK.out.at hob.size (fun b' off' e h1 => by cases e; exact hob.block b h1 hbn), fun b' off' e => by cases e; exact hbn⟩, (o4 _ (by omega)).trans ((o3 _ (by omega)).trans hr4), (o4 _ (by omega)).trans r53, hob⟩
   have HJ4 : Hid (JK nb wb w.heap.size W1.heap.size l (i + 1) x w W4) := hj4
   have q1 : W2.cell? ⟨nb, 0, none⟩ = some (.int .i64 (i : Int)) := (zca n2 0).trans rfl
   have q2 : W2.cell? ⟨wb, 0, none⟩ = some (.slice (some ⟨b, off, none⟩) n cap) := (zca d2 0).trans rfl
   have q3 : W3.cell? ⟨nb, 0, none⟩ = some (.int .i64 (i : Int)) := (zca n3 0).trans rfl
   have z3 := zta n3 0
   have hii : (i : Int) < (n : Int) := by omega
   have hix := idx_tk b off n cap i hil
   have e0 : W2.cell? ⟨b, off + i * 4, none⟩ = some (.int .i64 x.1) := (hb02.cell (p := ⟨b, _, none⟩) hb).trans (HAT.out 0 _ rfl)
   have e1 : W2.cell? ⟨b, off + i * 4 + 1, none⟩ = some (.string x.2.1) := (hb02.cell (p := ⟨b, _, none⟩) hb).trans (HAT.out 1 _ rfl)
   have e2 : W2.cell? ⟨b, off + i * 4 + 2, none⟩ = some (.int .i64 x.2.2.1) := (hb02.cell (p := ⟨b, _, none⟩) hb).trans (HAT.out 2 _ rfl)
   have e3 : W2.cell? ⟨b, off + i * 4 + 3, none⟩ = some (.int .i64 x.2.2.2) := (hb02.cell (p := ⟨b, _, none⟩) hb).trans (HAT.out 3 _ rfl)
   clear hj4 hf hen hat hw2 hw3 hx h hr1 hb1 hb2 hb02 hob o3 o4 n4 n3 r53 hr4 hN d2 n2 hs1 s3 s4 hs2 hx' hi
   go_enter Tryz.func93, Tryz.ntmps93
   go_wp2_with (refine wpList_store_row rfl 48 (.tmp 5) (.tmp 14) rfl W1.heap.size (tkC x) rfl rfl 48 _ hr5 infoTk rfl (by simp [tkC, Value.oneCell']) ?_; rw [hW3])
   refine wp_region_any hmx ?_
   refine wpAny_diesG (G := (Unit)) 5 [] (fun g i__ => ([(.func (.func f) #[] fc), (tk4 x), (.bool false), (.bool true), (tk4 x), undef] : List Value).getD i__ undef) (fun _ d V => JK nb wb w.heap.size W1.heap.size l (i + 1) x w V) (by decide) (by kernel_rfl) (by kernel_rfl) (()) (HJ4.out.carry (Below.refl _ _).drew) ?step9 ?fin9
   case step9 =>
    intro i o ho
    have hi : i < 6 := getElem?_lt ho
    match i, hi, ho with
    | 0, _, ho =>
     cases ho
     refine .inr ?_
     refine zgo (fun g d hdep => ?_)
     exact zmv rfl trivial _ rfl (by kernel_rfl)
    | 1, _, ho =>
     cases ho
     refine .inr ?_
     refine zgo (fun g d hdep => ?_)
     exact zld rfl trivial _ _ _ rfl rfl (fun v hw => box_tk hw.r5)
    | 2, _, ho =>
     cases ho
     refine .inr ?_
     exact stepG_callv rfl (fun _ => trivial) f _ _ _ fc (fun _ => [tk4 x]) rfl (fun g => by kernel_rfl) (fun g => by kernel_rfl) HEN.out (fun g d V hJ hun hdep hcl => (HX.out V hJ.ob).mono (by rintro e w' ⟨rfl, hb'⟩; exact ⟨(), rfl, (fun _ _ => rfl), hJ.carry hb'⟩))
    | 3, _, ho =>
     cases ho
     refine .inr ?_
     refine zgo (fun g d hdep => ?_)
     exact step_unOp rfl trivial _ _ _ _ rfl rfl (fun v hw => un_notT false v)
    | 4, _, ho =>
     cases ho
     refine .inr ?_
     refine zgo (fun g d hdep => ?_)
     exact zld rfl trivial _ _ _ rfl rfl (fun v hw => box_tk hw.r5)
    | 5, _, ho => exact .inl (by simp)
   intro o ho
   cases ho
   exact dieG_call rfl (fun _ => trivial) 94 _ _ (fun _ => [.bool true, .int .i64 80, tk4 x]) rfl (fun g => by kernel_rfl) (enters_of Tryz.func94 (by kernel_rfl) rfl) (rfT 80 x.2.2.2) (J2 := fun V => Ob nb w V) (fun g d V hJ hun hdep hcl => (trefuse_yes 80 x.1 x.2.2.1 x.2.2.2 x.2.1 V).mono (by rintro e w' ⟨rfl, hb'⟩; exact ⟨rfl, hJ.ob.trans (Ob.of hb')⟩)) (fun g a w hd hS hb => ⟨hd, rfl, hb⟩)
 · have hil' : i = l.length := by omega
   subst hil'
   have hx0 : x = (0, ⟨#[]⟩, 0, 1) := by
    rw [← hx]
    unfold hereT
    rw [List.getElem?_eq_none (Nat.le_refl _)]
    rfl
   obtain ⟨n, hN⟩ : ∃ n, l.length = n := ⟨_, rfl⟩
   rw [hN] at hw1 h d2 n2
   have hci : tkC x = #[.int .i64 0, .string ⟨#[]⟩, .int .i64 0, .int .i64 1] := by rw [hx0]; rfl
   have hr5' : W2.heap[W1.heap.size]? = some (.cells (tkC x) 48 (0, 0)) := by rw [hci]; exact hr5
   have HJ4 : Hid (JK nb wb w.heap.size W1.heap.size l n x w W2) := ⟨h.carry hb02, hr4, hr5', Ob.of hb02⟩
   have q1 : W2.cell? ⟨nb, 0, none⟩ = some (.int .i64 (n : Int)) := (zca n2 0).trans rfl
   have q2 : W2.cell? ⟨wb, 0, none⟩ = some (.slice ad n cap) := (zca d2 0).trans rfl
   have hii : ¬ (n : Int) < (n : Int) := by omega
   have hs2 := hb2.size
   clear hf hen hw2 hw3 h hr1 hb1 hb2 hb02 hr4 d2 n2 hr5 hr5' hN hx0 hci hs1 hs2 hx hi hil
   go_enter Tryz.func93, Tryz.ntmps93
   go_wp2
   refine wp_region_any hmx ?_
   refine wpAny_diesG (G := (Unit)) 5 [] (fun g i__ => ([(.func (.func f) #[] fc), (tk4 x), (.bool false), (.bool true), (tk4 x), undef] : List Value).getD i__ undef) (fun _ d V => JK nb wb w.heap.size W1.heap.size l n x w V) (by decide) (by kernel_rfl) (by kernel_rfl) (()) (HJ4.out.carry (Below.refl _ _).drew) ?step10 ?fin10
   case step10 =>
    intro i o ho
    have hi : i < 6 := getElem?_lt ho
    match i, hi, ho with
    | 0, _, ho =>
     cases ho
     refine .inr ?_
     refine zgo (fun g d hdep => ?_)
     exact zmv rfl trivial _ rfl (by kernel_rfl)
    | 1, _, ho =>
     cases ho
     refine .inr ?_
     refine zgo (fun g d hdep => ?_)
     exact zld rfl trivial _ _ _ rfl rfl (fun v hw => box_tk hw.r5)
    | 2, _, ho =>
     cases ho
     refine .inr ?_
     exact stepG_callv rfl (fun _ => trivial) f _ _ _ fc (fun _ => [tk4 x]) rfl (fun g => by kernel_rfl) (fun g => by kernel_rfl) HEN.out (fun g d V hJ hun hdep hcl => (HX.out V hJ.ob).mono (by rintro e w' ⟨rfl, hb'⟩; exact ⟨(), rfl, (fun _ _ => rfl), hJ.carry hb'⟩))
    | 3, _, ho =>
     cases ho
     refine .inr ?_
     refine zgo (fun g d hdep => ?_)
     exact step_unOp rfl trivial _ _ _ _ rfl rfl (fun v hw => un_notT false v)
    | 4, _, ho =>
     cases ho
     refine .inr ?_
     refine zgo (fun g d hdep => ?_)
     exact zld rfl trivial _ _ _ rfl rfl (fun v hw => box_tk hw.r5)
    | 5, _, ho => exact .inl (by simp)
   intro o ho
   cases ho
   exact dieG_call rfl (fun _ => trivial) 94 _ _ (fun _ => [.bool true, .int .i64 80, tk4 x]) rfl (fun g => by kernel_rfl) (enters_of Tryz.func94 (by kernel_rfl) rfl) (rfT 80 x.2.2.2) (J2 := fun V => Ob nb w V) (fun g d V hJ hun hdep hcl => (trefuse_yes 80 x.1 x.2.2.1 x.2.2.2 x.2.1 V).mono (by rintro e w' ⟨rfl, hb'⟩; exact ⟨rfl, hJ.ob.trans (Ob.of hb')⟩)) (fun g a w hd hS hb => ⟨hd, rfl, hb⟩)
theorem tk_no {nb wb : Nat} {l : List Tk4} {i : Nat} {w : World} (f : FuncId) (hen : ∀ args w, (callFunc f args).run Tryz.prog w = .ok (.enter f args) w) (h : Tk nb wb l i w) (hi : i ≤ l.length) (hl : l.length ≤ 1000000) (b : Bool) (hf : ∀ V, Calls Tryz.prog f #[tkV (hereT l i).1 (hereT l i).2.1 (hereT l i).2.2.1 (hereT l i).2.2.2] V fun e w' => e = .returned (.bool b) ∧ Below V.heap.size V w') (hb : b = false) : Calls Tryz.prog 93 #[.func (.func f) #[] #[], .pointer (some ⟨nb, 0, none⟩), .pointer (some ⟨wb, 0, none⟩)] w (Dy nb w 80 (hereT l i).2.2.2) := by
 subst hb
 exact takeT_no f #[] hen h hi _ rfl hl (fun V _ => hf V)
theorem tid_no {M : Nat} {sl mp : Value} {l : List Int} {w : World} (h : Ros M w (.agg #[sl, mp]) l) (hM : M ≤ w.heap.size) (nb wb : Nat) (k ln c : Int) (t : ByteArray) (ht : t.size ≤ maxLen) (h0 : 0 < t.size) (hin : ¬ ((rn t 0 : Nat) : Int) ∈ l) : Calls Tryz.prog 178 #[.agg #[sl, mp, rdF nb wb], tkV k t ln c] w fun e w' => e = .panicked (rfT 41 c) ∧ Below w.heap.size w w' := by
 have hn := nth_any t ht 0
 rw [nth0 h0] at hn
 unfold chC at hn
 have hle := rn_le t 0
 have HID : Hid (∀ V, Below w.heap.size w V → Calls Tryz.prog 205 #[.agg #[sl, mp], .int .i32 ((rn t 0 : Nat) : Int)] V fun e w' => e = .returned (.tuple #[.int .i64 0, .int .i64 41]) ∧ Below V.heap.size V w') := fun V hV => by
  have := id_any V (h.below (hV.mono hM)) (Nat.le_trans hM hV.size) (c := ((rn t 0 : Nat) : Int)) (by omega) (by omega)
  rw [idV, if_neg hin] at this
  exact this
 clear h hin
 generalize wdt t 0 = wz at *
 generalize looseB t 0 = lz at *
 have hrf := trefuse_yes 41 k ln c t
 unfold tkV at hrf ⊢
 unfold rdF
 obtain ⟨w1, hw1⟩ : ∃ w1, w.alloc (.cells #[sl, mp, .func (.func 93) #[] #[.pointer (some ⟨nb, 0, none⟩), .pointer (some ⟨wb, 0, none⟩)]] 86) = w1 := ⟨_, rfl⟩
 have hb1 : Below w.heap.size w w1 := by rw [← hw1]; exact al1t _ _
 have hr1 : w1.heap[w.heap.size]? = some (.cells #[sl, mp, .func (.func 93) #[] #[.pointer (some ⟨nb, 0, none⟩), .pointer (some ⟨wb, 0, none⟩)]] 86 (0, 0)) := by rw [← hw1]; exact zna rfl
 obtain ⟨w2, hw2⟩ : ∃ w2, w1.alloc (.cells #[.int .i64 k, .string t, .int .i64 ln, .int .i64 c] 48) = w2 := ⟨_, rfl⟩
 have hb2 : Below w1.heap.size w1 w2 := by rw [← hw2]; exact al1t _ _
 have hr2 : w2.heap[w1.heap.size]? = some (.cells #[.int .i64 k, .string t, .int .i64 ln, .int .i64 c] 48 (0, 0)) := by rw [← hw2]; exact zna rfl
 have hr1' := (hb2.block _ (zla hr1)).trans hr1
 have hb02 := bel3 hb1 hb2
 have a1 : w2.cell? ⟨w1.heap.size, 1, none⟩ = some (.string t) := (zca hr2 1).trans rfl
 obtain ⟨r0, hrr⟩ : ∃ r0 : Int, ((rn t 0 : Nat) : Int) = r0 := ⟨_, rfl⟩
 rw [hrr] at hn HID
 clear hrr hle h0
 go_enter Tryz.func178, Tryz.ntmps178
 go_wp2_with (first
  | (go_at_call 94; (with_reducible refine (hrf _).mono ?_); rintro e u4 ⟨rfl, hb4⟩)
  | (go_at_call 205; (with_reducible refine (HID.out _ hB2).mono ?_); rintro e u3 ⟨rfl, hb3⟩; have g2 := (hb3.block _ (zla f2)).trans f2; have t0 : u3.cell? ⟨w1.heap.size, 0, none⟩ = some (.int .i64 k) := (zca g2 0).trans rfl; have t1 : u3.cell? ⟨w1.heap.size, 1, none⟩ = some (.string t) := (zca g2 1).trans rfl; have t2 : u3.cell? ⟨w1.heap.size, 2, none⟩ = some (.int .i64 ln) := (zca g2 2).trans rfl; have t3 : u3.cell? ⟨w1.heap.size, 3, none⟩ = some (.int .i64 c) := (zca g2 3).trans rfl)
  | (go_at_call 204; (with_reducible refine (hn _).mono ?_); rintro e u1 ⟨rfl, hbu⟩; obtain ⟨u2, hu2⟩ : ∃ u2, u1.alloc (.cells #[.int .i32 r0, .int .i64 0, .int .i64 wz, .bool lz] 197) = u2 := ⟨_, rfl⟩; have hbv : Below u1.heap.size u1 u2 := (by rw [← hu2]; exact al1t _ _); have hB2 := bel3 (bel3 hb02 hbu) hbv; have f1 := (hbv.block _ (Nat.lt_of_lt_of_le (zla hr1') hbu.size)).trans ((hbu.block _ (zla hr1')).trans hr1'); have f2 := (hbv.block _ (Nat.lt_of_lt_of_le (zla hr2) hbu.size)).trans ((hbu.block _ (zla hr2)).trans hr2); have p0 : u2.cell? ⟨w.heap.size, 0, none⟩ = some sl := (zca f1 0).trans rfl; have p1 : u2.cell? ⟨w.heap.size, 1, none⟩ = some mp := (zca f1 1).trans rfl; have f3 : u2.heap[u1.heap.size]? = some (.cells #[.int .i32 r0, .int .i64 0, .int .i64 wz, .bool lz] 197 (0, 0)) := (by rw [← hu2]; exact zna rfl); have p2 : u2.cell? ⟨u1.heap.size, 0, none⟩ = some (.int .i32 r0) := (zca f3 0).trans rfl))
 exact ⟨rfl, rfl, bel3 (bel3 hB2 hb3) hb4⟩
def SdO (nb wb : Nat) (l : List Tk4) (i : Nat) (w : World) (r : Except ErT Int) (e : Ending) (w' : World) : Prop := match r with
 | .error q => Dy nb w q.1 q.2 e w'
 | .ok fr => e = .returned (.int .i64 fr) ∧ Tk nb wb l (i + 1) w' ∧ Ob nb w w'
theorem sender_no {M : Nat} {sl mp : Value} {L : List Int} {nb wb : Nat} {l : List Tk4} {i : Nat} {w : World} (hE : En M L sl mp nb w) (hSh : Shw l) (h : Tk nb wb l i w) (hi : i ≤ l.length) (hl : l.length ≤ 1000000) (er c : Int) (hr : sgR L l i = .error (er, c)) : Calls Tryz.prog 151 #[.agg #[sl, mp, rdF nb wb]] w (Dy nb w er c) := by
 unfold Dy
 have hmx := mixO
 obtain ⟨W1, hW1⟩ : ∃ W1, w.alloc (.cells #[sl, mp, rdF nb wb] 86) = W1 := ⟨_, rfl⟩
 have hb1 : Below w.heap.size w W1 := by rw [← hW1]; exact al1t _ _
 have hr1 : W1.heap[w.heap.size]? = some (.cells #[sl, mp, rdF nb wb] 86 (0, 0)) := by rw [← hW1]; exact zna rfl
 have hj : Hid (JS nb wb w.heap.size l i sl mp w W1 false) := ⟨h.carry hb1, hr1, Ob.of hb1⟩
 have HR : Hid (∀ V, Ob nb w V → Ros M V (.agg #[sl, mp]) L) := hE.ros
 have hM := hE.le
 have hnb := zla h.nx
 by_cases h1 : oneS (hereT l i) = true
 · unfold sgR sgI at hr
   rw [if_pos h1] at hr
   obtain ⟨hk, hs⟩ := oneS_k h1
   have hin : ¬ ((rn (hereT l i).2.1 0 : Nat) : Int) ∈ L := fun e => by rw [if_pos e] at hr; cases hr
   rw [if_neg hin] at hr
   cases hr
   obtain ⟨x, hx⟩ : ∃ x, hereT l i = x := ⟨_, rfl⟩
   have hxs := hSh i
   rw [hx] at hk hs hin hxs ⊢
   have hxi := here_in hx (by omega)
   have ht : x.2.1.size ≤ maxLen := by unfold maxLen; omega
   have hp0 := pos_of_one hs
   have HT : Hid (∀ V, Ob nb w V → Calls Tryz.prog 178 #[.agg #[sl, mp, rdF nb wb], tk4 x] V fun e w' => e = .panicked (rfT 41 x.2.2.2) ∧ Below V.heap.size V w') := fun V hV => tid_no (HR.out V hV) (Nat.le_trans hM hV.size) nb wb x.1 x.2.2.1 x.2.2.2 x.2.1 ht hp0 hin
   have HX : Hid (∀ V, JS nb wb w.heap.size l i sl mp w V false → Calls Tryz.prog 93 #[.func (.func 179) #[] #[], .pointer (some ⟨nb, 0, none⟩), .pointer (some ⟨wb, 0, none⟩)] V fun e w' => e = .returned (tk4 x) ∧ JS nb wb w.heap.size l i sl mp w w' true) := fun V hV => (tk_sign hV.tk x hxi hl hk hs ht).mono (by
    rintro e w' ⟨rfl, h1, h2⟩
    exact ⟨rfl, h1, hV.rd.ob h2 (by omega), hV.ob.trans h2⟩)
   clear hE h hr1 hx hxi hin hb1 h1 hi hk hs
   unfold rdF at hW1 ⊢
   go_enter Tryz.func151, Tryz.ntmps151
   go_wp2
   refine wp_region_any hmx ?_
   refine wpAny_diesG (G := (Unit)) 4 [5] (fun g i__ => ([(.agg #[sl, mp, rdF nb wb]), (.pointer (some ⟨w.heap.size, 2, none⟩)), (rdF nb wb), (tk4 x), undef, undef] : List Value).getD i__ undef) (fun _ d V => JS nb wb w.heap.size l i sl mp w V (d 3)) (by decide) (by kernel_rfl) (by kernel_rfl) (()) (hj.out.carry (Below.refl _ _).drew) ?step11 ?fin11
   case step11 =>
    intro i o ho
    have hi : i < 6 := getElem?_lt ho
    match i, hi, ho with
    | 0, _, ho =>
     cases ho
     refine .inr ?_
     refine zgo (fun g d hdep => ?_)
     exact zld rfl trivial _ _ _ rfl rfl (fun v hw => load_rd hw.rd)
    | 1, _, ho =>
     cases ho
     refine .inr ?_
     refine zgo (fun g d hdep => ?_)
     exact zfa rfl trivial _ _ _ _ rfl rfl (fun v hw => field_rd v _)
    | 2, _, ho =>
     cases ho
     refine .inr ?_
     refine zgo (fun g d hdep => ?_)
     exact zld rfl trivial _ _ _ rfl rfl (fun v hw => load_tkr hw.rd)
    | 3, _, ho =>
     cases ho
     refine .inr ?_
     exact stepG_callv rfl (fun _ => trivial) 93 _ _ _ #[.pointer (some ⟨nb, 0, none⟩), .pointer (some ⟨wb, 0, none⟩)] (fun _ => [.func (.func 179) #[] #[]]) rfl (fun g => by kernel_rfl) (fun g => by kernel_rfl) (enters_of Tryz.func93 (by kernel_rfl) rfl) (fun g d V hJ hun hdep hcl => by rw [hun] at hJ; exact (HX.out V hJ).mono (by rintro e w' ⟨rfl, hb'⟩; exact ⟨(), rfl, (fun _ _ => rfl), hb'⟩))
    | 4, _, ho => exact .inl (by simp)
    | 5, _, ho => exact .inl (by simp)
   intro o ho
   cases ho
   exact dieG_call rfl (fun _ => trivial) 178 _ _ (fun _ => [.agg #[sl, mp, rdF nb wb], tk4 x]) rfl (fun g => by kernel_rfl) (enters_of Tryz.func178 (by kernel_rfl) rfl) (rfT 41 x.2.2.2) (J2 := fun V => Ob nb w V) (fun g d V hJ hun hdep hcl => (HT.out V hJ.ob).mono (by rintro e w' ⟨rfl, hb'⟩; exact ⟨rfl, hJ.ob.trans (Ob.of hb')⟩)) (fun g a w hd hS hb => ⟨hd, rfl, hb⟩)
 · unfold sgR at hr
   rw [if_neg h1] at hr
   cases hr
   have h1' : ((hereT l i).1 == 2 && ((starts (hereT l i).2.1).length : Int) == 1) = false := by
    unfold oneS at h1
    simpa using h1
   have HX : Hid (∀ V, JS nb wb w.heap.size l i sl mp w V false → Calls Tryz.prog 93 #[.func (.func 179) #[] #[], .pointer (some ⟨nb, 0, none⟩), .pointer (some ⟨wb, 0, none⟩)] V fun e w' => e = .panicked (rfT 80 (hereT l i).2.2.2) ∧ Ob nb w w') := fun V hV => (tk_no 179 (enters_of Tryz.func179 (by kernel_rfl) rfl) (show Tk nb wb l i V from hV.tk) hi hl _ (isSign_any _ _ _ _ (by have := hSh i; unfold maxLen; omega)) h1').mono (by
    rintro e w' ⟨rfl, h2⟩
    exact ⟨rfl, hV.ob.trans h2⟩)
   obtain ⟨C, hC⟩ : ∃ C, (hereT l i).2.2.2 = C := ⟨_, rfl⟩
   rw [hC] at HX ⊢
   clear hE h hr1 hb1 h1 h1' hi hC
   unfold rdF at hW1 ⊢
   go_enter Tryz.func151, Tryz.ntmps151
   go_wp2
   refine wp_region_any hmx ?_
   refine wpAny_diesG (G := (Unit)) 3 [4, 5] (fun g i__ => ([(.agg #[sl, mp, rdF nb wb]), (.pointer (some ⟨w.heap.size, 2, none⟩)), (rdF nb wb), undef, undef, undef] : List Value).getD i__ undef) (fun _ d V => JS nb wb w.heap.size l i sl mp w V (d 3)) (by decide) (by kernel_rfl) (by kernel_rfl) (()) (hj.out.carry (Below.refl _ _).drew) ?step12 ?fin12
   case step12 =>
    intro i o ho
    have hi : i < 6 := getElem?_lt ho
    match i, hi, ho with
    | 0, _, ho =>
     cases ho
     refine .inr ?_
     refine zgo (fun g d hdep => ?_)
     exact zld rfl trivial _ _ _ rfl rfl (fun v hw => load_rd hw.rd)
    | 1, _, ho =>
     cases ho
     refine .inr ?_
     refine zgo (fun g d hdep => ?_)
     exact zfa rfl trivial _ _ _ _ rfl rfl (fun v hw => field_rd v _)
    | 2, _, ho =>
     cases ho
     refine .inr ?_
     refine zgo (fun g d hdep => ?_)
     exact zld rfl trivial _ _ _ rfl rfl (fun v hw => load_tkr hw.rd)
    | 3, _, ho => exact .inl (by simp)
    | 4, _, ho => exact .inl (by simp)
    | 5, _, ho => exact .inl (by simp)
   intro o ho
   cases ho
   exact dieG_callv rfl (fun _ => trivial) 93 _ _ _ #[.pointer (some ⟨nb, 0, none⟩), .pointer (some ⟨wb, 0, none⟩)] (fun _ => [.func (.func 179) #[] #[]]) rfl (fun g => by kernel_rfl) (fun g => by kernel_rfl) (enters_of Tryz.func93 (by kernel_rfl) rfl) (rfT 80 C) (J2 := fun V => Ob nb w V) (fun g d V hJ hun hdep hcl => by rw [hun] at hJ; exact HX.out V hJ) (fun g a w hd hS hb => ⟨hd, rfl, hb⟩)
theorem sender_any {M : Nat} {sl mp : Value} {L : List Int} {nb wb : Nat} {l : List Tk4} {i : Nat} {w : World} (hE : En M L sl mp nb w) (hSh : Shw l) (h : Tk nb wb l i w) (hi : i ≤ l.length) (hl : l.length ≤ 1000000) : Calls Tryz.prog 151 #[.agg #[sl, mp, rdF nb wb]] w (SdO nb wb l i w (sgR L l i)) := by
 unfold SdO
 cases hr : sgR L l i with
 | error q => exact sender_no hE hSh h hi hl q.1 q.2 hr
 | ok fr => exact sender_at hE h hl (sgT_ok hSh hr)
theorem round_no {sl mp : Value} {nb wb : Nat} {l : List Tk4} {i : Nat} {w : World} (hSh : Shw l) (h : Tk nb wb l i w) (hi : i ≤ l.length) (hl : l.length ≤ 1000000) (er c : Int) (hr : rnR l i = .error (er, c)) : Calls Tryz.prog 152 #[.agg #[sl, mp, rdF nb wb]] w (Dy nb w er c) := by
 unfold Dy
 obtain ⟨W1, hW1⟩ : ∃ W1, w.alloc (.cells #[sl, mp, rdF nb wb] 86) = W1 := ⟨_, rfl⟩
 have hb1 : Below w.heap.size w W1 := by rw [← hW1]; exact al1t _ _
 have hr1 : W1.heap[w.heap.size]? = some (.cells #[sl, mp, rdF nb wb] 86 (0, 0)) := by rw [← hW1]; exact zna rfl
 have c2 : W1.cell? ⟨w.heap.size, 2, none⟩ = some (rdF nb wb) := (zca hr1 2).trans rfl
 have hnb := zla h.nx
 unfold rnR at hr
 by_cases h1 : (hereT l i).1 = 3
 · rw [if_pos h1] at hr
   obtain ⟨x, hx⟩ : ∃ x, hereT l i = x := ⟨_, rfl⟩
   have hxs := hSh i
   rw [hx] at hr h1 hxs
   have hxi := here_in hx (by omega)
   have ht : x.2.1.size ≤ maxLen := by unfold maxLen; omega
   unfold rnI at hr
   split at hr
   case isFalse => cases hr
   rename_i h2
   cases hr
   have HK := tk_of (w := W1) 180 (enters_of Tryz.func180 (by kernel_rfl) rfl) (h.carry hb1) x hxi hl _ (isNumber_any _ _ _ _) (by rw [h1]; rfl)
   have HN : ∀ w, Calls Tryz.prog 107 #[.string x.2.1] w fun e w' => ∃ er : Int, e = .returned (.tuple #[.int .i64 (((numR x.2.1).getD 0 : Nat) : Int), .int .i64 er]) ∧ Below w.heap.size w w' := fun V => (number_any x.2.1 ht V).mono (by
     rintro e w' ⟨rfl, q⟩
     cases hv : numR x.2.1 with
     | none => exact ⟨21, rfl, q⟩
     | some v => exact ⟨0, rfl, q⟩)
   have HF := trefuse_yes 73 x.1 x.2.2.1 x.2.2.2 x.2.1
   unfold tkV at HF
   generalize (numR x.2.1).getD 0 = v at *
   unfold rdF at c2 hW1 ⊢
   clear h hx hxi h1 hi
   unfold tkC at HK
   by_cases h3 : v < 1
   · have d1 : decide ((v : Int) < 1) = true := decide_eq_true (by omega)
     clear h2
     go_enter Tryz.func152, Tryz.ntmps152
     go_wp2_with (first
      | (go_at_call 94; (with_reducible refine (HF _).mono ?_); rintro e u5 ⟨rfl, hb5⟩)
      | (go_at_call 107; (with_reducible refine (HN _).mono ?_); rintro e u4 ⟨er4, rfl, hb4⟩; (have r4 := (hb4.block _ (zla hr3)).trans hr3); (have t0 : u4.cell? ⟨u.heap.size, 0, none⟩ = some (.int .i64 x.1) := (zca r4 0).trans rfl); (have t1 : u4.cell? ⟨u.heap.size, 1, none⟩ = some (.string x.2.1) := (zca r4 1).trans rfl); (have t2 : u4.cell? ⟨u.heap.size, 2, none⟩ = some (.int .i64 x.2.2.1) := (zca r4 2).trans rfl); (have t3 : u4.cell? ⟨u.heap.size, 3, none⟩ = some (.int .i64 x.2.2.2) := (zca r4 3).trans rfl))
      | (refine wpList_store_row rfl 48 (.tmp 3) (.tmp 8) rfl u.heap.size (tkC x) rfl rfl 48 _ hr2 infoTk rfl (by simp [tkC, Value.oneCell']) ?_; rw [hu3]; (have p1 : u3.cell? ⟨u.heap.size, 1, none⟩ = some (.string x.2.1) := (zca hr3 1).trans rfl))
      | (go_at_call 93; (with_reducible refine HK.mono ?_); rintro e u ⟨rfl, hT, hO⟩; obtain ⟨u2, u3, hu2, hu3, hr2, hr3, hb3, hs3⟩ := box_word u x))
     exact ⟨rfl, rfl, (Ob.of hb1).trans (hO.trans (Ob.of (bel3 (bel3 hb3 hb4) hb5)))⟩
   · have d1 : decide ((v : Int) < 1) = false := decide_eq_false (by omega)
     have d2 : decide (1099511627775 < (v : Int)) = true := decide_eq_true (by omega)
     clear h2 h3
     go_enter Tryz.func152, Tryz.ntmps152
     go_wp2_with (first
      | (go_at_call 94; (with_reducible refine (HF _).mono ?_); rintro e u5 ⟨rfl, hb5⟩)
      | (go_at_call 107; (with_reducible refine (HN _).mono ?_); rintro e u4 ⟨er4, rfl, hb4⟩; (have r4 := (hb4.block _ (zla hr3)).trans hr3); (have t0 : u4.cell? ⟨u.heap.size, 0, none⟩ = some (.int .i64 x.1) := (zca r4 0).trans rfl); (have t1 : u4.cell? ⟨u.heap.size, 1, none⟩ = some (.string x.2.1) := (zca r4 1).trans rfl); (have t2 : u4.cell? ⟨u.heap.size, 2, none⟩ = some (.int .i64 x.2.2.1) := (zca r4 2).trans rfl); (have t3 : u4.cell? ⟨u.heap.size, 3, none⟩ = some (.int .i64 x.2.2.2) := (zca r4 3).trans rfl))
      | (refine wpList_store_row rfl 48 (.tmp 3) (.tmp 8) rfl u.heap.size (tkC x) rfl rfl 48 _ hr2 infoTk rfl (by simp [tkC, Value.oneCell']) ?_; rw [hu3]; (have p1 : u3.cell? ⟨u.heap.size, 1, none⟩ = some (.string x.2.1) := (zca hr3 1).trans rfl))
      | (go_at_call 93; (with_reducible refine HK.mono ?_); rintro e u ⟨rfl, hT, hO⟩; obtain ⟨u2, u3, hu2, hu3, hr2, hr3, hb3, hs3⟩ := box_word u x))
     exact ⟨rfl, rfl, (Ob.of hb1).trans (hO.trans (Ob.of (bel3 (bel3 hb3 hb4) hb5)))⟩
 · rw [if_neg h1] at hr
   cases hr
   have HK := tk_no (w := W1) 180 (enters_of Tryz.func180 (by kernel_rfl) rfl) (h.carry hb1) hi hl _ (isNumber_any _ _ _ _) (by simpa using h1)
   unfold Dy at HK
   generalize (hereT l i).2.2.2 = C at *
   unfold rdF at c2 hW1 ⊢
   clear h h1 hi
   go_enter Tryz.func152, Tryz.ntmps152
   go_wp2_with (go_at_call 93; (with_reducible refine HK.mono ?_); rintro e u ⟨rfl, hO⟩)
   exact ⟨rfl, rfl, (Ob.of hb1).trans hO⟩
def RnO (nb wb : Nat) (l : List Tk4) (i : Nat) (w : World) (r : Except ErT Nat) (e : Ending) (w' : World) : Prop := match r with
 | .error q => Dy nb w q.1 q.2 e w'
 | .ok rd => e = .returned (.int .i64 (rd : Int)) ∧ Tk nb wb l (i + 1) w' ∧ Ob nb w w'
theorem round_all {sl mp : Value} {nb wb : Nat} {l : List Tk4} {i : Nat} {w : World} (hSh : Shw l) (h : Tk nb wb l i w) (hi : i ≤ l.length) (hl : l.length ≤ 1000000) : Calls Tryz.prog 152 #[.agg #[sl, mp, rdF nb wb]] w (RnO nb wb l i w (rnR l i)) := by
 unfold RnO
 cases hr : rnR l i with
 | error q => exact round_no hSh h hi hl q.1 q.2 hr
 | ok rd => exact round_at h hl (rndT_ok hSh hr)
theorem heard_no {M : Nat} {sl mp : Value} {L : List Int} {nb wb : Nat} {l : List Tk4} {i : Nat} {w : World} (hE : En M L sl mp nb w) (hSh : Shw l) (h : Tk nb wb l i w) (hi : i ≤ l.length) (hl : l.length ≤ 1000000) (er c : Int) (hr : hdR L l i = .error (er, c)) : Calls Tryz.prog 154 #[.agg #[sl, mp, rdF nb wb]] w (Dy nb w er c) := by
 unfold Dy
 obtain ⟨W1, hW1⟩ : ∃ W1, w.alloc (.cells #[sl, mp, rdF nb wb] 86) = W1 := ⟨_, rfl⟩
 have hb1 : Below w.heap.size w W1 := by rw [← hW1]; exact al1t _ _
 have hr1 : W1.heap[w.heap.size]? = some (.cells #[sl, mp, rdF nb wb] 86 (0, 0)) := by rw [← hW1]; exact zna rfl
 obtain ⟨W2, hW2⟩ : ∃ W2, W1.alloc (.cells #[.int .u32 0, .int .u32 0, .int .u32 0, .int .u32 0] 36) = W2 := ⟨_, rfl⟩
 have hb2 : Below W1.heap.size W1 W2 := by rw [← hW2]; exact al1t _ _
 have hr2' : W2.heap[W1.heap.size]? = some (.cells #[.int .u32 0, .int .u32 0, .int .u32 0, .int .u32 0] 36 (0, 0)) := by rw [← hW2]; exact zna rfl
 have hr1' := (hb2.block _ (zla hr1)).trans hr1
 have hb02 := bel3 hb1 hb2
 have hnb := zla h.nx
 have hs1 := hb1.size
 have hs2 := hb2.size
 have hl1 := zla hr1
 have hl2 := zla hr2'
 have c2 : W2.cell? ⟨w.heap.size, 2, none⟩ = some (rdF nb wb) := (zca hr1' 2).trans rfl
 unfold hdR at hr
 by_cases h1 : setKT (hereT l i) = true
 · rw [if_pos h1] at hr
   obtain ⟨x, hx⟩ : ∃ x, hereT l i = x := ⟨_, rfl⟩
   have hxs := hSh i
   rw [hx] at hr h1 hxs
   have hxi := here_in hx (setKT_k h1)
   have ht : x.2.1.size ≤ maxLen := by unfold maxLen; omega
   unfold hdI at hr
   split at hr
   · cases hr
   rename_i h2
   have hr' := hr
   cases hr'
   have HK := tk_of (w := W2) 185 (enters_of Tryz.func185 (by kernel_rfl) rfl) (h.carry hb02) x hxi hl _ (isSet_any _ _ _ _) h1
   have HP : Hid (∀ V, Ob nb w V → Calls Tryz.prog 186 #[.agg #[sl, mp], .string x.2.1] V fun e w' => e = .returned (psV (parseR L x.2.1)) ∧ Below V.heap.size V w') := fun V hV => parse_any V (hE.ros V hV) (Nat.le_trans hE.le hV.size) x.2.1 ht
   obtain ⟨⟨N, pl, er⟩, hN⟩ : ∃ r, parseR L x.2.1 = r := ⟨_, rfl⟩
   rw [hN] at HP h2 ⊢
   dsimp only at h2
   unfold psV at HP
   dsimp only at HP ⊢
   have hne : (er == 0) = false := by simpa using h2
   have hne2 : (er != 0) = true := by simpa using h2
   have HF : ∀ c, Calls Tryz.prog 94 #[.bool true, .int .i64 er, .agg #[.int .i64 x.1, .string x.2.1, .int .i64 x.2.2.1, .int .i64 x.2.2.2]] c fun en w' => en = .panicked (rfT er x.2.2.2) ∧ Below c.heap.size c w' := trefuse_yes er x.1 x.2.2.1 x.2.2.2 x.2.1
   have h0 : Hid (Tk nb wb l i w) := h
   unfold rdF at c2 hW1 ⊢
   clear h hx hxi hN hE h1 hr hi
   unfold tkC at HK
   unfold sv at HP
   go_enter Tryz.func154, Tryz.ntmps154
   go_wp2_with (first
     | (go_at_call 94; (with_reducible refine (HF _).mono ?_); rintro e u6 ⟨rfl, hb6⟩)
     | (go_at_call 186; (with_reducible refine (HP.out _ hO3).mono ?_); rintro e u4 ⟨rfl, hb4⟩; (have r4 := (hb4.block _ (zla hr3)).trans hr3); obtain ⟨u5, hu5⟩ : ∃ u5, u4.alloc (.cells #[.int .u32 (wd N 0 : Nat), .int .u32 (wd N 1 : Nat), .int .u32 (wd N 2 : Nat), .int .u32 (wd N 3 : Nat)] 36) = u5 := ⟨_, rfl⟩; (have hb5 : Below u4.heap.size u4 u5 := by rw [← hu5]; exact al1t _ _); (have r5 := (hb5.block _ (zla r4)).trans r4); (have t0 : u5.cell? ⟨u.heap.size, 0, none⟩ = some (.int .i64 x.1) := (zca r5 0).trans rfl); (have t1 : u5.cell? ⟨u.heap.size, 1, none⟩ = some (.string x.2.1) := (zca r5 1).trans rfl); (have t2 : u5.cell? ⟨u.heap.size, 2, none⟩ = some (.int .i64 x.2.2.1) := (zca r5 2).trans rfl); (have t3 : u5.cell? ⟨u.heap.size, 3, none⟩ = some (.int .i64 x.2.2.2) := (zca r5 3).trans rfl))
     | (refine wpList_store_row rfl 48 (.tmp 3) (.tmp 9) rfl u.heap.size (tkC x) rfl rfl 48 _ hr2 infoTk rfl (by simp [tkC, Value.oneCell']) ?_; rw [hu3]; (have p1 : u3.cell? ⟨u.heap.size, 1, none⟩ = some (.string x.2.1) := (zca hr3 1).trans rfl); (have hO3 : Ob nb w u3 := (Ob.of hb02).trans (hO.trans (Ob.of hb3))); (have rr := (hb3.block _ (by omega)).trans ((hO.block _ (by omega) (by omega)).trans hr1')); (have z0 : u3.cell? ⟨w.heap.size, 0, none⟩ = some sl := (zca rr 0).trans rfl); (have z1 : u3.cell? ⟨w.heap.size, 1, none⟩ = some mp := (zca rr 1).trans rfl))
     | (go_at_call 93; (with_reducible refine HK.mono ?_); rintro e u ⟨rfl, hT, hO⟩; (have hOs := hO.size); obtain ⟨u2, u3, hu2, hu3, hr2, hr3, hb3, hs3⟩ := box_word u x))
   exact ⟨rfl, rfl, hO3.trans (Ob.of (bel3 (bel3 hb4 hb5) hb6))⟩
 · rw [if_neg h1] at hr
   cases hr
   have HK := tk_no (w := W2) 185 (enters_of Tryz.func185 (by kernel_rfl) rfl) (h.carry hb02) hi hl _ (isSet_any _ _ _ _) (by unfold setKT at h1; simpa using h1)
   unfold Dy at HK
   generalize (hereT l i).2.2.2 = C at *
   unfold rdF at c2 hW1 ⊢
   clear h h1 hi hE
   go_enter Tryz.func154, Tryz.ntmps154
   go_wp2_with (go_at_call 93; (with_reducible refine HK.mono ?_); rintro e u ⟨rfl, hO⟩)
   exact ⟨rfl, rfl, (Ob.of hb02).trans hO⟩
def HdO (nb wb : Nat) (l : List Tk4) (i : Nat) (w : World) (r : Except ErT Nat) (e : Ending) (w' : World) : Prop := match r with
 | .error q => Dy nb w q.1 q.2 e w'
 | .ok N => e = .returned (sv N) ∧ Tk nb wb l (i + 1) w' ∧ Ob nb w w'
theorem psGo_pl (l : List Int) : ∀ (t : List Int) (N k : Nat), (psGo l N k t).2.2 = 0 → (psGo l N k t).2.1 = 0
 | [], _, _, _ => rfl
 | c :: t, N, k, h => by
  unfold psGo at h ⊢
  split
  · rename_i h1
    rw [if_pos h1] at h
    split
    · rename_i h2
      rw [if_pos h2] at h
      cases h
    · rename_i h2
      rw [if_neg h2] at h
      exact psGo_pl l t _ _ h
  · rename_i h1
    rw [if_neg h1] at h
    cases h
theorem parse_pl (L : List Int) (s : ByteArray) (h : (parseR L s).2.2 = 0) : (parseR L s).2.1 = 0 := by
 unfold parseR at h ⊢
 split
 · rfl
 rename_i h1
 rw [if_neg h1] at h
 split
 · rfl
 rename_i h2
 rw [if_neg h2] at h
 split
 · rfl
 rename_i h3
 rw [if_neg h3] at h
 exact psGo_pl L _ _ _ h
theorem heard_all {M : Nat} {sl mp : Value} {L : List Int} {nb wb : Nat} {l : List Tk4} {i : Nat} {w : World} (hE : En M L sl mp nb w) (hSh : Shw l) (h : Tk nb wb l i w) (hi : i ≤ l.length) (hl : l.length ≤ 1000000) : Calls Tryz.prog 154 #[.agg #[sl, mp, rdF nb wb]] w (HdO nb wb l i w (hdR L l i)) := by
 unfold HdO
 cases hr : hdR L l i with
 | error q => exact heard_no hE hSh h hi hl q.1 q.2 hr
 | ok N => exact heard_at hE h hl (hdT_ok hSh (parse_pl L) hr)
end Go.Proofs.YtmahamdmapbilaaGreatDoor
