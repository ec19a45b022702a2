/- Rows that a call owns: what turns them, and what does not. -/
import Derived.Test.YtklnfbanfgdgcaaGreatDoorJnJ5
import Derived.ProofKit
import Derived.OpenShut
import Derived.Laws.IdiomArrays
import Derived.Test.YtklnfbanfgdgcaaGreatDoorJnJ18
import Derived.Maps.AppendAt
import Derived.Maps.OwnIn
import Derived.OwnWalk
import Derived.RangeFuncBox
import Derived.RangeFuncNested
import Derived.Lib.SlBytesConst
set_option maxHeartbeats 40000000
set_option maxRecDepth 100000
set_option linter.unusedVariables false
namespace Go.Proofs.YtklnfbanfgdgcaaGreatDoor
open Go.RowKit Go.Shelf Go.Lib

theorem set_other {W : World} {B B' j : Nat} {v : Value} (h : B ≠ B') : (W.setCell ⟨B', j, none⟩ v).heap[B]? = W.heap[B]? := Below.heap_setCell _ _ _ _ h
theorem cell_of {W : World} {B : Nat} {cs : Array Value} {t : TypeId} {z : Nat × Nat} (h : W.heap[B]? = some (.cells cs t z)) (j : Nat) : W.cell? ⟨B, j, none⟩ = cs[j]? := by simp [World.cell?, h]
theorem ownsRow_block {w : World} {base : Nat} {e : TypeId} {size : Nat} {v : Value} {n : Nat} {xs : List Value} (h : w.ownsRow base e size v n xs) : ∀ g, v.ownBlock = some g → base ≤ g ∧ ∃ cur, w.heap[g]? = some (.cells cur e (0, 0)) := by
  intro g hg
  rcases h.2 with ⟨rfl, _⟩ | ⟨g', cap, cur, rfl, h4, h5, _⟩
  · cases hg
  · cases hg
    exact ⟨h4, cur, h5⟩
theorem ownsRow_base {w : World} {base base' : Nat} {e : TypeId} {size : Nat} {v : Value} {n : Nat} {xs : List Value} (h : w.ownsRow base e size v n xs) (hle : base' ≤ base) : w.ownsRow base' e size v n xs := by
  obtain ⟨h1, h2⟩ := h
  refine ⟨h1, ?_⟩
  rcases h2 with h2 | ⟨g, cap, cur, h3, h4, h5⟩
  · exact .inl h2
  · exact .inr ⟨g, cap, cur, h3, Nat.le_trans hle h4, h5⟩
theorem ownsRow_putObj {w : World} {base : Nat} {e : TypeId} {size : Nat} {v : Value} {n k : Nat} {xs : List Value} {o : Obj} (h : w.ownsRow base e size v n xs) (o' : Obj) (hk : w.heap[k]? = some o) (ho : o.isCells = false) : (w.putObj k o').ownsRow base e size v n xs := by
  obtain ⟨h1, h2⟩ := h
  refine ⟨h1, ?_⟩
  rcases h2 with h2 | ⟨g, cap, cur, h3, h4, h5, h6⟩
  · exact .inl h2
  · refine .inr ⟨g, cap, cur, h3, h4, (World.putObj_heap_other (fun e => ?_)).trans h5, h6⟩
    subst e
    rw [hk] at h5
    cases h5
    cases ho
theorem ownsRow_set {w : World} {base : Nat} {e : TypeId} {size : Nat} {v : Value} {n : Nat} {xs : List Value} {b j : Nat} (h : w.ownsRow base e size v n xs) (hb : ∀ g, v.ownBlock = some g → g ≠ b) (u : Value) : (w.setCell ⟨b, j, none⟩ u).ownsRow base e size v n xs := by
  obtain ⟨h1, h2⟩ := h
  refine ⟨h1, ?_⟩
  rcases h2 with h2 | ⟨g, cap, cur, h3, h4, h5, h6⟩
  · exact .inl h2
  · subst h3
    exact .inr ⟨g, cap, cur, rfl, h4, (set_other (hb g rfl)).trans h5, h6⟩
theorem ownsRow_succ {w : World} {base : Nat} {e : TypeId} {size : Nat} {v : Value} {n : Nat} {xs : List Value} (h : w.ownsRow base e size v (n + 1) xs) : ∃ g cap, v = .slice (some ⟨g, 0, none⟩) (n + 1) cap := by
  rcases h.2 with ⟨_, h⟩ | ⟨g, cap, cur, rfl, _⟩
  · omega
  · exact ⟨g, cap, rfl⟩
/-- A variable that holds a slice that the call owns, and what is said of the slice itself: whatever is no cells may turn. -/
theorem rowBoxP_own {β : Type} (n0 B : Nat) (t e : TypeId) (size : Nat) (k : β → Nat) (xs : β → List Value) (p : Value → Prop) : Own (fun s W => ∃ v, Boxed W B t v ∧ W.ownsRow n0 e size v (k s) (xs s) ∧ p v) := by
  rintro s X Y row ⟨v, hb, ho, hp⟩ hg hr
  refine ⟨v, boxed_own B t (fun _ : Unit => v) () X Y row hb hg hr, ho.kept hg ?_, hp⟩
  cases hv : v.ownBlock with
  | none => exact .inl rfl
  | some g =>
    refine .inr (fun e' => ?_)
    obtain ⟨o, h1, h2⟩ := hr g e'.symm
    obtain ⟨_, cur, h3⟩ := ownsRow_block ho g hv
    rw [h1] at h3
    cases h3
    cases h2
end Go.Proofs.YtklnfbanfgdgcaaGreatDoor
namespace Go.Proofs.YtklnfbanfgdgcaaGreatDoor
open Go.RowKit Go.Shelf

/-- A note's fields, as a value and as they lie. -/
def fcs (kd : Nat) (fr rd : Int) (N : Nat) (v : Value) : Array Value := #[.int .i64 (kd : Int), .int .i64 fr, .int .i64 rd, .int .u32 (wd N 0 : Nat), .int .u32 (wd N 1 : Nat), .int .u32 (wd N 2 : Nat), .int .u32 (wd N 3 : Nat), v]
def fv (kd : Nat) (fr rd : Int) (N : Nat) (v : Value) : Value := .agg (fcs kd fr rd N v)
def FB (W : World) (b kd : Nat) (fr rd : Int) (N : Nat) (v : Value) : Prop := W.heap[b]? = some (.cells (fcs kd fr rd N v) 347 (0, 0))
theorem FB.carry {W W' : World} {b kd : Nat} {fr rd : Int} {N : Nat} {v : Value} (h : FB W b kd fr rd N v) (e : W'.heap[b]? = W.heap[b]?) : FB W' b kd fr rd N v := e.trans h
theorem FB.below {W W' : World} {b kd B : Nat} {fr rd : Int} {N : Nat} {v : Value} (h : FB W b kd fr rd N v) (hb : Below B W W') (hB : b < B) : FB W' b kd fr rd N v := h.carry (hb.block b hB)
theorem FB.lt {W : World} {b kd : Nat} {fr rd : Int} {N : Nat} {v : Value} (h : FB W b kd fr rd N v) : b < W.heap.size := lt_at h
theorem FB.cells {W : World} {b kd : Nat} {fr rd : Int} {N : Nat} {v : Value} (h : FB W b kd fr rd N v) : W.cell? ⟨b, 0, none⟩ = some (.int .i64 (kd : Int)) ∧ W.cell? ⟨b, 1, none⟩ = some (.int .i64 fr) ∧ W.cell? ⟨b, 2, none⟩ = some (.int .i64 rd) ∧ W.cell? ⟨b, 3, none⟩ = some (.int .u32 (wd N 0 : Nat)) ∧ W.cell? ⟨b, 4, none⟩ = some (.int .u32 (wd N 1 : Nat)) ∧ W.cell? ⟨b, 5, none⟩ = some (.int .u32 (wd N 2 : Nat)) ∧ W.cell? ⟨b, 6, none⟩ = some (.int .u32 (wd N 3 : Nat)) ∧ W.cell? ⟨b, 7, none⟩ = some v :=
  ⟨cell_of h 0, cell_of h 1, cell_of h 2, cell_of h 3, cell_of h 4, cell_of h 5, cell_of h 6, cell_of h 7⟩
theorem al1'W (w : World) (o : Obj) : Below w.heap.size w (w.alloc o) := alloc_below w o
set_option maxHeartbeats 2000000 in
set_option maxRecDepth 100000 in
theorem fault_any (kd : Nat) (n fr rd : Int) (N : Nat) (hN : N < S128) (ad : Option Addr) (cap : Nat) (l : List (Int × Int × Int)) (w : World) (h : RdN w ad l) (hl : l.length ≤ 6000000000000) : Calls Tryz.prog 339 #[fv kd fr rd N (.slice ad l.length cap), .int .i64 n] w fun e w' => e = .returned (.int .i64 (flt kd n fr rd N l)) ∧ Below w.heap.size w w' := by
  have hsz := isSize_anyW n
  have hro := hasRound_any kd
  have hir := isRound_any rd
  have hwi := within_any N hN n
  have hri := rising_any n ad cap l
  simp only [fv, fcs, sv] at *
  have hF0 : FB (w.alloc (.cells #[.int .i64 (kd : Int), .int .i64 fr, .int .i64 rd, .int .u32 (wd N 0 : Nat), .int .u32 (wd N 1 : Nat), .int .u32 (wd N 2 : Nat), .int .u32 (wd N 3 : Nat), .slice ad l.length cap] 347)) w.heap.size kd fr rd N (.slice ad l.length cap) := get_new rfl
  obtain ⟨W0, hW0⟩ : ∃ W0, w.alloc (.cells #[.int .i64 (kd : Int), .int .i64 fr, .int .i64 rd, .int .u32 (wd N 0 : Nat), .int .u32 (wd N 1 : Nat), .int .u32 (wd N 2 : Nat), .int .u32 (wd N 3 : Nat), .slice ad l.length cap] 347) = W0 := ⟨_, rfl⟩
  have hbW : Below w.heap.size w W0 := hW0 ▸ al1'W w _
  rw [hW0] at hF0
  by_cases h1 : 1 ≤ n ∧ n ≤ 100
  case neg =>
    rw [show flt kd n fr rd N l = 1 from if_pos h1]
    rw [decide_eq_false h1] at hsz
    go_enter Tryz.func339, Tryz.ntmps339
    go_wp2_with (go_at_call 236; (with_reducible refine (hsz _).mono ?_); rintro e u1 ⟨rfl, rfl⟩)
    go_ret
    exact ⟨rfl, hbW⟩
  have e1 : flt kd n fr rd N l = if fr < 0 ∨ n ≤ fr then 72 else if kd ≠ 3 ∧ ¬ (1 ≤ rd ∧ rd ≤ 1099511627775) then 73 else if wthB N n = false then 74 else if ris n (-1) l = false then 75 else 0 := if_neg (fun q => q h1)
  rw [decide_eq_true h1] at hsz
  rw [e1]
  clear e1
  obtain ⟨c0, c1, c2, c3, c4, c5, c6, c7⟩ := hF0.cells
  by_cases h2 : fr < 0
  · rw [if_pos (.inl h2)]
    go_enter Tryz.func339, Tryz.ntmps339
    go_wp2_with (go_at_call 236; (with_reducible refine (hsz _).mono ?_); rintro e u1 ⟨rfl, rfl⟩)
    go_ret
    exact ⟨rfl, hbW⟩
  by_cases h3 : n ≤ fr
  · rw [if_pos (.inr h3)]
    go_enter Tryz.func339, Tryz.ntmps339
    go_wp2_with (go_at_call 236; (with_reducible refine (hsz _).mono ?_); rintro e u1 ⟨rfl, rfl⟩)
    go_ret
    exact ⟨rfl, hbW⟩
  rw [if_neg (by omega)]
  by_cases h4 : kd ≠ 3 ∧ ¬ (1 ≤ rd ∧ rd ≤ 1099511627775)
  · rw [if_pos h4]
    rw [decide_eq_true h4.1] at hro
    rw [decide_eq_false h4.2] at hir
    go_enter Tryz.func339, Tryz.ntmps339
    go_wp2_with (first | (go_at_call 236; (with_reducible refine (hsz _).mono ?_); rintro e u1 ⟨rfl, rfl⟩) | (go_at_call 276; (with_reducible refine (hro _).mono ?_); rintro e u1 ⟨rfl, rfl⟩) | (go_at_call 277; (with_reducible refine (hir _).mono ?_); rintro e u1 ⟨rfl, rfl⟩))
    go_ret
    exact ⟨rfl, hbW⟩
  rw [if_neg h4]
  have hwi' : ∀ W, Below w.heap.size w W → FB W w.heap.size kd fr rd N (.slice ad l.length cap) → Calls Tryz.prog 184 #[.agg #[.int .u32 (wd N 0 : Nat), .int .u32 (wd N 1 : Nat), .int .u32 (wd N 2 : Nat), .int .u32 (wd N 3 : Nat)], .int .i64 n] W fun e w' => e = .returned (.bool (wthB N n)) ∧ Below w.heap.size w w' ∧ w'.cell? ⟨w.heap.size, 7, none⟩ = some (.slice ad l.length cap) ∧ RdN w' ad l := fun W hW hF => (hwi W).mono (by
    rintro e w' ⟨rfl, hb⟩
    exact ⟨rfl, bel2 hW hb, (hF.below hb hF.lt).cells.2.2.2.2.2.2.2, h.carry (bel2 hW hb)⟩)
  have hwi2 := hwi' W0 hbW hF0
  by_cases h5 : wthB N n = false
  · rw [if_pos h5]
    rw [h5] at hwi2
    by_cases hk : kd = 3
    · rw [decide_eq_false (fun q : kd ≠ 3 => q hk)] at hro
      clear h4 hk
      go_enter Tryz.func339, Tryz.ntmps339
      go_wp2_with (first | (go_at_call 236; (with_reducible refine (hsz _).mono ?_); rintro e u1 ⟨rfl, rfl⟩) | (go_at_call 276; (with_reducible refine (hro _).mono ?_); rintro e u1 ⟨rfl, rfl⟩) | (go_at_call 184; (with_reducible refine hwi2.mono ?_); rintro e u2 ⟨rfl, hb2, d7, hl2⟩))
      go_ret
      exact ⟨rfl, hb2⟩
    · have hir2 : 1 ≤ rd ∧ rd ≤ 1099511627775 := Classical.byContradiction fun q => h4 ⟨hk, q⟩
      rw [decide_eq_true hir2] at hir
      rw [decide_eq_true hk] at hro
      go_enter Tryz.func339, Tryz.ntmps339
      go_wp2_with (first | (go_at_call 236; (with_reducible refine (hsz _).mono ?_); rintro e u1 ⟨rfl, rfl⟩) | (go_at_call 276; (with_reducible refine (hro _).mono ?_); rintro e u1 ⟨rfl, rfl⟩) | (go_at_call 277; (with_reducible refine (hir _).mono ?_); rintro e u1 ⟨rfl, rfl⟩) | (go_at_call 184; (with_reducible refine hwi2.mono ?_); rintro e u2 ⟨rfl, hb2, d7, hl2⟩))
      go_ret
      exact ⟨rfl, hb2⟩
  have h5t : wthB N n = true := by simpa using h5
  rw [if_neg h5]
  rw [h5t] at hwi2
  obtain ⟨B, hB⟩ : ∃ B, ris n (-1) l = B := ⟨_, rfl⟩
  rw [hB] at hri
  rw [hB]
  clear hB hwi hwi'
  by_cases hk : kd = 3
  · rw [decide_eq_false (fun q : kd ≠ 3 => q hk)] at hro
    clear h4 hk
    cases B
    all_goals
      go_enter Tryz.func339, Tryz.ntmps339
      go_wp2_with (first | (go_at_call 236; (with_reducible refine (hsz _).mono ?_); rintro e u1 ⟨rfl, rfl⟩) | (go_at_call 276; (with_reducible refine (hro _).mono ?_); rintro e u1 ⟨rfl, rfl⟩) | (go_at_call 184; (with_reducible refine hwi2.mono ?_); rintro e u2 ⟨rfl, hb2, d7, hl2⟩) | (go_at_call 342; (with_reducible refine (hri _ hl2 hl).mono ?_); rintro e u3 ⟨rfl, hb3⟩))
      go_ret
      exact ⟨rfl, bel2 hb2 hb3⟩
  · have hir2 : 1 ≤ rd ∧ rd ≤ 1099511627775 := Classical.byContradiction fun q => h4 ⟨hk, q⟩
    rw [decide_eq_true hir2] at hir
    rw [decide_eq_true hk] at hro
    cases B
    all_goals
      go_enter Tryz.func339, Tryz.ntmps339
      go_wp2_with (first | (go_at_call 236; (with_reducible refine (hsz _).mono ?_); rintro e u1 ⟨rfl, rfl⟩) | (go_at_call 276; (with_reducible refine (hro _).mono ?_); rintro e u1 ⟨rfl, rfl⟩) | (go_at_call 277; (with_reducible refine (hir _).mono ?_); rintro e u1 ⟨rfl, rfl⟩) | (go_at_call 184; (with_reducible refine hwi2.mono ?_); rintro e u2 ⟨rfl, hb2, d7, hl2⟩) | (go_at_call 342; (with_reducible refine (hri _ hl2 hl).mono ?_); rintro e u3 ⟨rfl, hb3⟩))
      go_ret
      exact ⟨rfl, bel2 hb2 hb3⟩

theorem vl_bounds {n : Int} {o t k : Int} (h : vl n o t k = true) : 0 ≤ o ∧ o < n ∧ 0 ≤ t ∧ t ≤ 1048576 ∧ 1 ≤ k ∧ k ≤ 2 := by
  have h := of_decide_eq_true h
  have hr := h.2.2.2.2
  unfold rk at hr
  refine ⟨h.2.2.1, h.2.2.2.1, ?_⟩
  split at hr
  · exact absurd rfl hr
  split at hr
  · omega
  split at hr
  · omega
  · exact absurd rfl hr
theorem ris_len (n : Int) : ∀ (l : List (Int × Int × Int)) (a : Int), -1 ≤ a → a < n → ris n a l = true → (l.length : Int) ≤ n - 1 - a
  | [], a, _, h2, _ => by simp; omega
  | x :: l, a, h1, h2, h => by
    simp only [ris, Bool.and_eq_true, decide_eq_true_eq] at h
    have hv := vl_bounds h.1
    have := ris_len n l x.1 (by omega) hv.2.1 h.2.2
    simp only [List.length_cons]
    omega
theorem ris_get {n : Int} : ∀ {l : List (Int × Int × Int)} {a : Int} {k : Nat} {x : Int × Int × Int}, ris n a l = true → l[k]? = some x → vl n x.1 x.2.1 x.2.2 = true
  | [], a, k, x, _, hk => by simp at hk
  | y :: l, a, 0, x, h, hk => by
    simp only [ris, Bool.and_eq_true] at h
    simp at hk
    subst hk
    exact h.1
  | y :: l, a, k + 1, x, h, hk => by
    simp only [ris, Bool.and_eq_true] at h
    exact ris_get h.2.2 (by simpa using hk)
set_option maxHeartbeats 2000000 in
set_option maxRecDepth 100000 in
theorem bytes_no (kd : Nat) (n fr rd : Int) (N : Nat) (hN : N < S128) (ad : Option Addr) (cap : Nat) (l : List (Int × Int × Int)) (w : World) (h : RdN w ad l) (hl : l.length ≤ 6000000000000) (hf : ¬ flt kd n fr rd N l = 0) : Calls Tryz.prog 337 #[fv kd fr rd N (.slice ad l.length cap), .int .i64 n] w fun e w' => e = .returned (.tuple #[.slice none 0 0, .int .i64 (flt kd n fr rd N l)]) ∧ Below w.heap.size w w' := by
  have hF0 : FB (w.alloc (.cells (fcs kd fr rd N (.slice ad l.length cap)) 347)) w.heap.size kd fr rd N (.slice ad l.length cap) := get_new rfl
  have hbW := al1'W w (.cells (fcs kd fr rd N (.slice ad l.length cap)) 347)
  have hfa := fault_any kd n fr rd N hN ad cap l _ (h.carry hbW) hl
  obtain ⟨c0, c1, c2, c3, c4, c5, c6, c7⟩ := hF0.cells
  generalize flt kd n fr rd N l = F at *
  simp only [fv, fcs] at *
  go_enter Tryz.func337, Tryz.ntmps337
  go_wp2_with (go_at_call 339; (with_reducible refine hfa.mono ?_); rintro e u1 ⟨rfl, hb1⟩)
  go_ret2
  exact ⟨rfl, bel2 hbW hb1⟩
theorem newsB_step (l : List (Int × Int × Int)) (k : Nat) (o t q : Int) (h : l[k]? = some (o, t, q)) : newsB (l.take (k + 1)) = newsB (l.take k) ++ [o.toNat % 256, q.toNat % 256] ++ numBW t.toNat 3 := by
  rw [List.take_add_one, h, Option.toList_some, newsB_app]
  simp [newsB]
theorem rowN_at (W : World) (cs : Array Value) (t : TypeId) {b : Nat} (h : b = W.heap.size) : ∀ j u, cs.toList[j]? = some u → (W.alloc (.cells cs t)).cell? ((⟨b, 0, none⟩ : Addr).add j) = some u := by
  subst h
  exact rowN W cs t
/-- What lies there while the form is made. -/
structure ST (w : World) (kd fr : Nat) (rd : Int) (N : Nat) (v b : Value) (C : List Nat) (u : World) : Prop where
  fb : FB u w.heap.size kd fr rd N v
  be : Below w.heap.size w u
  sz : w.heap.size + 1 ≤ u.heap.size
  ow : OwB u (w.heap.size + 1) b C
  ln : C.length ≤ 600
theorem ST.step {w : World} {kd fr : Nat} {rd : Int} {N : Nat} {v b : Value} {C : List Nat} {u u' : World} {b' : Value} {C' : List Nat} (h : ST w kd fr rd N v b C u) (hb : Below (w.heap.size + 1) u u') (ho : OwB u' (w.heap.size + 1) b' C') (hl : C'.length ≤ 600) : ST w kd fr rd N v b' C' u' :=
  ⟨h.fb.below hb (Nat.lt_succ_self _), h.be.trans (hb.mono (Nat.le_succ _)), Nat.le_trans h.sz hb.size, ho, hl⟩
theorem ST.app {w : World} {kd fr : Nat} {rd : Int} {N : Nat} {v b : Value} {C : List Nat} {u u' : World} {b' : Value} {o : Obj} (xs : List Nat) (h : ST w kd fr rd N v b C u) (hg : (u.alloc o).grownBy u' b.ownBlock) (ho : u'.ownsRow (w.heap.size + 1) 5 1 b' (C.length + xs.length) (cBW C ++ cBW xs)) (hl : (C ++ xs).length ≤ 600) : ST w kd fr rd N v b' (C ++ xs) u' := by
  refine h.step (((Below.refl _ u).alloc h.sz o).grown hg (by simp; have := h.sz; omega) (fun k e => own_block h.ow k e)) ?_ hl
  unfold OwB
  rw [cB_appW, List.length_append]
  exact ho
set_option maxHeartbeats 8000000 in
set_option maxRecDepth 100000 in
theorem bytes_ok (kd n fr : Nat) (rd : Int) (N : Nat) (hN : N < S128) (ad : Option Addr) (cap : Nat) (l : List (Int × Int × Int)) (w : World) (h : RdN w ad l) (hf : flt kd n fr rd N l = 0) : Calls Tryz.prog 337 #[fv kd fr rd N (.slice ad l.length cap), .int .i64 (n : Int)] w fun e w' => ∃ b, e = .returned (.tuple #[b, .int .i64 0]) ∧ OwB w' w.heap.size b (byt7 kd n fr rd.toNat N l) ∧ Below w.heap.size w w' := by
  obtain ⟨hn, hfr, hrd, hwt, hri⟩ := flt_0 hf
  have hlen := ris_len n l (-1) (by omega) (by omega) hri
  have hF0 : FB (w.alloc (.cells (fcs kd fr rd N (.slice ad l.length cap)) 347)) w.heap.size kd fr rd N (.slice ad l.length cap) := get_new rfl
  have hbW := al1'W w (.cells (fcs kd fr rd N (.slice ad l.length cap)) 347)
  have hfa := fault_any kd n fr rd N hN ad cap l _ (h.carry hbW) (by omega)
  rw [hf] at hfa
  clear hf
  obtain ⟨ic, hic, hz0, hz1, hz2⟩ := info_partsB
  obtain ⟨c0, c1, c2, c3, c4, c5, c6, c7⟩ := hF0.cells
  have hl100 : l.length ≤ 100 := by omega
  obtain ⟨K8, hK8⟩ : ∃ x, kd % 256 = x := ⟨_, rfl⟩
  have iK8 : (kd : Int) % 256 = (K8 : Int) := by omega
  have iN8 : (n : Int) % 256 = (n : Int) := by omega
  have iF8 : (fr : Int) % 256 = (fr : Int) := by omega
  have iL8 : (l.length : Int) % 256 = (l.length : Int) := by omega
  have hB1 := bs1
  have hB2 := bs2
  have hB3 := bs3
  have hro := hasRound_any kd
  have hhe := hasHeard_any kd
  have hads := addSet_any (w.heap.size + 1)
  simp only [sv] at hads
  have ha0 : ∀ u : World, w.heap.size + 1 ≤ u.heap.size → Calls Tryz.prog 340 #[.slice none 0 0, .int .i64 25971, .int .i64 2] u fun e w' => ∃ b', e = .returned b' ∧ OwB w' (w.heap.size + 1) b' [101, 115] ∧ Below (w.heap.size + 1) u w' := fun u hu => addNumber_any (w.heap.size + 1) (.slice none 0 0) [] 25971 2 u hu (owB_nil _ _) (by simp) (by omega)
  obtain ⟨P, HPl, HP⟩ : ∃ P : List Nat, P.length ≤ 30 ∧ Hid (frm kd n fr rd.toNat N l = P ++ newsB l ∧ P = [101, 115, K8, n, fr] ++ (rndB kd rd.toNat ++ (setB kd n N ++ [l.length]))) := by
    refine ⟨[101, 115, K8, n, fr] ++ (rndB kd rd.toNat ++ (setB kd n N ++ [l.length])), ?_, ?_, rfl⟩
    · have h1 := rndB_len kd rd.toNat
      have h2 := setB_len kd n N
      have h3 := hsz_le (n := n) (by omega)
      simp only [List.length_append, List.length_cons, List.length_nil]
      omega
    · rw [frm, hK8, Nat.mod_eq_of_lt (show n < 256 by omega), Nat.mod_eq_of_lt (show fr < 256 by omega), Nat.mod_eq_of_lt (show l.length < 256 by omega)]
      simp
  have HL : Hid (RdN w ad l) := h
  have HRI : Hid (ris n (-1) l = true) := hri
  have hnN : n ≤ 100 := by omega
  clear h hwt hri hK8
  simp only [fv, fcs] at *
  rcases (show kd = 3 ∨ kd = 2 ∨ (kd ≠ 3 ∧ kd ≠ 2) by omega) with hk | hk | ⟨hk, hk'⟩
  · rw [decide_eq_false (fun q : kd ≠ 3 => q hk)] at hro
    rw [decide_eq_false (by omega : ¬ kd = 2)] at hhe
    have HQ : Hid (P = [101, 115] ++ [K8, n, fr] ++ [l.length]) := by
      have := HP.out.2
      rw [rndB, if_pos hk, setB, if_neg (by omega)] at this
      show P = _
      simpa using this
    clear hrd hk
    go_enter Tryz.func337, Tryz.ntmps337
    go_wp2_with (first | (go_at_call 339; (with_reducible refine hfa.mono ?_); rintro e u1 ⟨rfl, hb1⟩; have hS1 : ST w kd fr rd N (.slice ad l.length cap) (.slice none 0 0) [] u1 := ⟨hF0.below hb1 (by simp), bel2 hbW hb1, Nat.le_trans (by simp) hb1.size, owB_nil _ _, by simp⟩) | (go_at_call 340; (with_reducible refine (ha0 _ hS1.sz).mono ?_); rintro e u2 ⟨b2, rfl, ho2, hb2⟩; have hS2 : ST w kd fr rd N (.slice ad l.length cap) b2 [101, 115] u2 := hS1.step hb2 ho2 (by simp); obtain ⟨d0, d1, d2, d3, d4, d5, d6, d7⟩ := hS2.fb.cells) | (at_builtin; refine wpList_append_own_at _ rfl _ _ 30 rfl (w.heap.size + 1) 5 ic _ 1 1 Tryz.underlying30 hic hz0 hz1 hz2 rfl (by decide) _ ([101, 115]).length (cBW ([101, 115])) rfl (World.ownsRow.alloc (OwB.out hS2.ow) _) ⟨u2.heap.size, 0, none⟩ 3 3 [_, _, _] rfl rfl (rowN _ #[_, _, _] _) (by simp [Value.oneCell']) (by have := hS2.ln; unfold maxLen; omega) (by have := hS2.ln; omega) (by have := hS2.sz; simp; omega) ?_; intro b' u3 hown' hgrow _ hob; have hS3 := ST.app [K8, n, fr] hS2 hgrow hown' (by simp); clear hown' hgrow hob; obtain ⟨d0, d1, d2, d3, d4, d5, d6, d7⟩ := hS3.fb.cells) | (go_at_call 276; (with_reducible refine (hro _).mono ?_); rintro e u ⟨rfl, hu⟩; rw [hu]; clear hu u) | (go_at_call 278; (with_reducible refine (hhe _).mono ?_); rintro e u ⟨rfl, hu⟩; rw [hu]; clear hu u) | (at_builtin; refine wpList_append_own_at _ rfl _ _ 30 rfl (w.heap.size + 1) 5 ic _ 1 1 Tryz.underlying30 hic hz0 hz1 hz2 rfl (by decide) _ ([101, 115] ++ [K8, n, fr]).length (cBW ([101, 115] ++ [K8, n, fr])) rfl (World.ownsRow.alloc (OwB.out hS3.ow) _) ⟨u3.heap.size, 0, none⟩ 1 1 [_] rfl rfl (rowN _ #[_] _) (by simp [Value.oneCell']) (by have := hS3.ln; unfold maxLen; omega) (by have := hS3.ln; omega) (by have := hS3.sz; simp; omega) ?_; intro b' u6 hown' hgrow _ hob; have hS6 := ST.app [l.length] hS3 hgrow hown' (by simp); clear hown' hgrow hob; obtain ⟨d0, d1, d2, d3, d4, d5, d6, d7⟩ := hS6.fb.cells))
    have hS7 : ST w kd fr rd N (.slice ad l.length cap) b' P u6 := HQ.out ▸ hS6
    clear hS6 hS3 hS2 hS1 HQ
    have hB2' := bs2
    go_loopw [7, 53] (fun b i wz => ∃ (k : Nat), i = .int .i64 k ∧ k ≤ l.length ∧ ST w kd fr rd N (.slice ad l.length cap) b (P ++ newsB (l.take k)) wz) (fun _ i _ => l.length - vnatW i)
    case atStart => exact ⟨0, rfl, Nat.zero_le _, by simpa [newsB] using hS7⟩
    case round =>
      obtain ⟨k, rfl, hk, hS⟩ := hrel
      clear hS7 d0 d1 d2 d3 d4 d5 d6 d7 hfa c0 c1 c2 c3 c4 c5 c6 c7 hF0 hbW hro hhe hads
      have hsw := hS.sz
      by_cases hkl : k < l.length
      · have hki : (k : Int) < (l.length : Int) := by omega
        obtain ⟨⟨o, t, q⟩, hx⟩ : ∃ x, l[k]? = some x := ⟨_, List.getElem?_eq_getElem hkl⟩
        obtain ⟨v1, v2, v3, v4, v5, v6⟩ := vl_bounds (ris_get HRI.out hx)
        dsimp only at v1 v2 v3 v4 v5 v6
        obtain ⟨o, rfl⟩ := Int.eq_ofNat_of_zero_le v1
        obtain ⟨t, rfl⟩ := Int.eq_ofNat_of_zero_le v3
        obtain ⟨q, rfl⟩ := Int.eq_ofNat_of_zero_le (show 0 ≤ q by omega)
        obtain ⟨g, off, rfl, hgl, hat⟩ := HL.out (fun e => by subst e; simp at hkl)
        obtain ⟨x0, x1, x2⟩ := hat k _ hx
        have y0 := (hS.be.cell (p := ⟨g, off + k * 3, none⟩) hgl).trans x0
        have y1 := (hS.be.cell (p := ⟨g, off + k * 3 + 1, none⟩) hgl).trans x1
        have y2 := (hS.be.cell (p := ⟨g, off + k * 3 + 2, none⟩) hgl).trans x2
        dsimp only at y0 y1 y2
        have io8 : (o : Int) % 256 = (o : Int) := by omega
        have iq8 : (q : Int) % 256 = (q : Int) := by omega
        have HX : Hid (newsB (l.take (k + 1)) = newsB (l.take k) ++ [o, q] ++ numBW t 3) := by
          have := newsB_step l k _ _ _ hx
          rw [Int.toNat_natCast, Int.toNat_natCast, Int.toNat_natCast, Nat.mod_eq_of_lt (show o < 256 by omega), Nat.mod_eq_of_lt (show q < 256 by omega)] at this
          exact this
        have hlk : (newsB (l.take k)).length ≤ 5 * k := by rw [newsB_len, List.length_take]; omega
        have hbx : NB (wr.alloc (.cells #[.int .i64 (o : Int), .int .i64 (t : Int), .int .i64 (q : Int)] 185)) wr.heap.size o t q := NB.new wr o t q
        obtain ⟨n0, n1, n2⟩ : _ ∧ _ ∧ _ := ⟨hbx.c0, hbx.c1, hbx.c2⟩
        have hSb := hS.step ((Below.refl _ wr).alloc hsw (.cells #[.int .i64 (o : Int), .int .i64 (t : Int), .int .i64 (q : Int)] 185)) (hS.ow.below (alloc_below _ _)) hS.ln
        have hne := own_lt hS.ow.out
        clear x0 x1 x2 hat hx v1 v2 v3 v4 v5 v6
        go_wp2_with (first | (at_builtin; refine wpList_append_own_at _ rfl _ _ 30 rfl (w.heap.size + 1) 5 ic _ 1 1 Tryz.underlying30 hic hz0 hz1 hz2 rfl (by decide) _ (P ++ newsB (l.take k)).length (cBW (P ++ newsB (l.take k))) rfl (World.ownsRow.alloc (OwB.out hSb.ow) _) ⟨wr.heap.size + 1, 0, none⟩ 2 2 [_, _] rfl rfl (rowN_at _ #[_, _] _ (by simp)) (by simp [Value.oneCell']) (by have := hSb.ln; unfold maxLen; omega) (by have := hSb.ln; omega) (by have := hSb.sz; simp; omega) ?_; intro b' u2 hown' hgrow _ hob; have hS2 := ST.app [o, q] hSb hgrow hown' (by simp; omega); have hbx2 : NB u2 wr.heap.size o t q := (hgrow.block _ (by simp; omega) (fun e => Nat.lt_irrefl _ (hne _ e.symm))).trans (old_at hbx); have m1 := hbx2.c1; clear hown' hgrow hob) | (go_at_call 340; refine (addNumber_any (w.heap.size + 1) _ _ t 3 _ hS2.sz hS2.ow (by have := hS2.ln; omega) (by omega)).mono ?_; rintro e u3 ⟨b3, rfl, ho3, hb3⟩; have hS3 := hS2.step hb3 ho3 (by simp [numB_lenW]; omega)))
        go_roundw
        case rel => exact ⟨k + 1, by simp, by omega, by rw [HX.out, ← List.append_assoc, ← List.append_assoc]; exact hS3⟩
        case measure => simp [vnatW]; omega
      · have hkk : k = l.length := by omega
        subst hkk
        rw [List.take_length, ← HP.out.1] at hS
        have hki : ¬ ((l.length : Int) < (l.length : Int)) := by omega
        obtain ⟨ad2, cap2, rfl, hrb⟩ := RdBW.own hS.ow.out
        have hsum := sum_any ad2 cap2 (frm kd n fr rd.toNat N l) wr hrb (frm_byt _ _ _ _ _ _) (by have := hS.ln; omega)
        have hadd := addNumber_any (w.heap.size + 1) _ _ (sumV (frm kd n fr rd.toNat N l)) 4 wr hS.sz hS.ow (by have := hS.ln; omega) (by omega)
        have HB : Hid (byt7 kd n fr rd.toNat N l = frm kd n fr rd.toNat N l ++ numBW (sumV (frm kd n fr rd.toNat N l)) 4) := rfl
        generalize sumV (frm kd n fr rd.toNat N l) = SV at *
        generalize frm kd n fr rd.toNat N l = FM at *
        have hbe := hS.be
        clear hS hrb HP
        go_wp2_with (first | (go_at_call 283; refine hsum.mono ?_; rintro e u ⟨rfl, hu⟩; rw [hu]; clear hu u) | (go_at_call 340; refine hadd.mono ?_; rintro e u3 ⟨b3, rfl, ho3, hb3⟩))
        go_ret2
        exact ⟨_, rfl, by rw [HB.out]; exact ownsRow_base ho3 (Nat.le_succ _), hbe.trans (hb3.mono (Nat.le_succ _))⟩
  · rw [decide_eq_true (by omega : kd ≠ 3)] at hro
    rw [decide_eq_true hk] at hhe
    have hr0 : 0 ≤ rd := by omega
    have har : ∀ (b : Value) (C : List Nat) (u : World), w.heap.size + 1 ≤ u.heap.size → OwB u (w.heap.size + 1) b C → C.length ≤ 100000 → Calls Tryz.prog 340 #[b, .int .i64 rd, .int .i64 5] u fun e w' => ∃ b', e = .returned b' ∧ OwB w' (w.heap.size + 1) b' (C ++ numBW rd.toNat 5) ∧ Below (w.heap.size + 1) u w' := fun b C u hb ho hl => by
      have := addNumber_any (w.heap.size + 1) b C rd.toNat 5 u hb ho hl (by omega)
      rw [Int.toNat_of_nonneg hr0] at this
      exact this
    have HQ : Hid (P = [101, 115] ++ [K8, n, fr] ++ numBW rd.toNat 5 ++ stB N 0 (hsz n) ++ [l.length]) := by
      have := HP.out.2
      rw [rndB, if_neg (by omega), setB, if_pos hk] at this
      show P = _
      simpa using this
    clear hrd hk hr0
    go_enter Tryz.func337, Tryz.ntmps337
    go_wp2_with (first | (go_at_call 339; (with_reducible refine hfa.mono ?_); rintro e u1 ⟨rfl, hb1⟩; have hS1 : ST w kd fr rd N (.slice ad l.length cap) (.slice none 0 0) [] u1 := ⟨hF0.below hb1 (by simp), bel2 hbW hb1, Nat.le_trans (by simp) hb1.size, owB_nil _ _, by simp⟩) | (go_at_call 340; (with_reducible refine (ha0 _ hS1.sz).mono ?_); rintro e u2 ⟨b2, rfl, ho2, hb2⟩; have hS2 : ST w kd fr rd N (.slice ad l.length cap) b2 [101, 115] u2 := hS1.step hb2 ho2 (by simp); obtain ⟨d0, d1, d2, d3, d4, d5, d6, d7⟩ := hS2.fb.cells) | (at_builtin; refine wpList_append_own_at _ rfl _ _ 30 rfl (w.heap.size + 1) 5 ic _ 1 1 Tryz.underlying30 hic hz0 hz1 hz2 rfl (by decide) _ ([101, 115]).length (cBW ([101, 115])) rfl (World.ownsRow.alloc (OwB.out hS2.ow) _) ⟨u2.heap.size, 0, none⟩ 3 3 [_, _, _] rfl rfl (rowN _ #[_, _, _] _) (by simp [Value.oneCell']) (by have := hS2.ln; unfold maxLen; omega) (by have := hS2.ln; omega) (by have := hS2.sz; simp; omega) ?_; intro b' u3 hown' hgrow _ hob; have hS3 := ST.app [K8, n, fr] hS2 hgrow hown' (by simp); clear hown' hgrow hob; obtain ⟨d0, d1, d2, d3, d4, d5, d6, d7⟩ := hS3.fb.cells) | (go_at_call 276; (with_reducible refine (hro _).mono ?_); rintro e u ⟨rfl, hu⟩; rw [hu]; clear hu u) | (go_at_call 278; (with_reducible refine (hhe _).mono ?_); rintro e u ⟨rfl, hu⟩; rw [hu]; clear hu u) | (go_at_call 340; (with_reducible refine (har _ ([101, 115] ++ [K8, n, fr]) _ hS3.sz hS3.ow (by simp)).mono ?_); rintro e u4 ⟨b4, rfl, ho4, hb4⟩; have hS4 : ST w kd fr rd N (.slice ad l.length cap) b4 ([101, 115] ++ [K8, n, fr] ++ numBW rd.toNat 5) u4 := hS3.step hb4 ho4 (by simp [numB_lenW]); obtain ⟨d0, d1, d2, d3, d4, d5, d6, d7⟩ := hS4.fb.cells) | (go_at_call 341; (with_reducible refine (hads _ ([101, 115] ++ [K8, n, fr] ++ numBW rd.toNat 5) N n _ hS4.sz hS4.ow (by simp [numB_lenW]) hnN).mono ?_); rintro e u5 ⟨b5, rfl, ho5, hb5⟩; have hS5 : ST w kd fr rd N (.slice ad l.length cap) b5 ([101, 115] ++ [K8, n, fr] ++ numBW rd.toNat 5 ++ stB N 0 (hsz n)) u5 := hS4.step hb5 ho5 (by have := hsz_le hnN; simp [numB_lenW, stB_len]; omega); obtain ⟨d0, d1, d2, d3, d4, d5, d6, d7⟩ := hS5.fb.cells) | (at_builtin; refine wpList_append_own_at _ rfl _ _ 30 rfl (w.heap.size + 1) 5 ic _ 1 1 Tryz.underlying30 hic hz0 hz1 hz2 rfl (by decide) _ ([101, 115] ++ [K8, n, fr] ++ numBW rd.toNat 5 ++ stB N 0 (hsz n)).length (cBW ([101, 115] ++ [K8, n, fr] ++ numBW rd.toNat 5 ++ stB N 0 (hsz n))) rfl (World.ownsRow.alloc (OwB.out hS5.ow) _) ⟨u5.heap.size, 0, none⟩ 1 1 [_] rfl rfl (rowN _ #[_] _) (by simp [Value.oneCell']) (by have := hS5.ln; unfold maxLen; omega) (by have := hS5.ln; omega) (by have := hS5.sz; simp; omega) ?_; intro b' u6 hown' hgrow _ hob; have hS6 := ST.app [l.length] hS5 hgrow hown' (by have := hsz_le hnN; simp [numB_lenW, stB_len]; omega); clear hown' hgrow hob; obtain ⟨d0, d1, d2, d3, d4, d5, d6, d7⟩ := hS6.fb.cells))
    have hS7 : ST w kd fr rd N (.slice ad l.length cap) b' P u6 := HQ.out ▸ hS6
    clear hS6 hS3 hS4 hS5 hS2 hS1 HQ
    have hB2' := bs2
    go_loopw [7, 53] (fun b i wz => ∃ (k : Nat), i = .int .i64 k ∧ k ≤ l.length ∧ ST w kd fr rd N (.slice ad l.length cap) b (P ++ newsB (l.take k)) wz) (fun _ i _ => l.length - vnatW i)
    case atStart => exact ⟨0, rfl, Nat.zero_le _, by simpa [newsB] using hS7⟩
    case round =>
      obtain ⟨k, rfl, hk, hS⟩ := hrel
      clear hS7 d0 d1 d2 d3 d4 d5 d6 d7 hfa c0 c1 c2 c3 c4 c5 c6 c7 hF0 hbW hro hhe hads
      have hsw := hS.sz
      by_cases hkl : k < l.length
      · have hki : (k : Int) < (l.length : Int) := by omega
        obtain ⟨⟨o, t, q⟩, hx⟩ : ∃ x, l[k]? = some x := ⟨_, List.getElem?_eq_getElem hkl⟩
        obtain ⟨v1, v2, v3, v4, v5, v6⟩ := vl_bounds (ris_get HRI.out hx)
        dsimp only at v1 v2 v3 v4 v5 v6
        obtain ⟨o, rfl⟩ := Int.eq_ofNat_of_zero_le v1
        obtain ⟨t, rfl⟩ := Int.eq_ofNat_of_zero_le v3
        obtain ⟨q, rfl⟩ := Int.eq_ofNat_of_zero_le (show 0 ≤ q by omega)
        obtain ⟨g, off, rfl, hgl, hat⟩ := HL.out (fun e => by subst e; simp at hkl)
        obtain ⟨x0, x1, x2⟩ := hat k _ hx
        have y0 := (hS.be.cell (p := ⟨g, off + k * 3, none⟩) hgl).trans x0
        have y1 := (hS.be.cell (p := ⟨g, off + k * 3 + 1, none⟩) hgl).trans x1
        have y2 := (hS.be.cell (p := ⟨g, off + k * 3 + 2, none⟩) hgl).trans x2
        dsimp only at y0 y1 y2
        have io8 : (o : Int) % 256 = (o : Int) := by omega
        have iq8 : (q : Int) % 256 = (q : Int) := by omega
        have HX : Hid (newsB (l.take (k + 1)) = newsB (l.take k) ++ [o, q] ++ numBW t 3) := by
          have := newsB_step l k _ _ _ hx
          rw [Int.toNat_natCast, Int.toNat_natCast, Int.toNat_natCast, Nat.mod_eq_of_lt (show o < 256 by omega), Nat.mod_eq_of_lt (show q < 256 by omega)] at this
          exact this
        have hlk : (newsB (l.take k)).length ≤ 5 * k := by rw [newsB_len, List.length_take]; omega
        have hbx : NB (wr.alloc (.cells #[.int .i64 (o : Int), .int .i64 (t : Int), .int .i64 (q : Int)] 185)) wr.heap.size o t q := NB.new wr o t q
        obtain ⟨n0, n1, n2⟩ : _ ∧ _ ∧ _ := ⟨hbx.c0, hbx.c1, hbx.c2⟩
        have hSb := hS.step ((Below.refl _ wr).alloc hsw (.cells #[.int .i64 (o : Int), .int .i64 (t : Int), .int .i64 (q : Int)] 185)) (hS.ow.below (alloc_below _ _)) hS.ln
        have hne := own_lt hS.ow.out
        clear x0 x1 x2 hat hx v1 v2 v3 v4 v5 v6
        go_wp2_with (first | (at_builtin; refine wpList_append_own_at _ rfl _ _ 30 rfl (w.heap.size + 1) 5 ic _ 1 1 Tryz.underlying30 hic hz0 hz1 hz2 rfl (by decide) _ (P ++ newsB (l.take k)).length (cBW (P ++ newsB (l.take k))) rfl (World.ownsRow.alloc (OwB.out hSb.ow) _) ⟨wr.heap.size + 1, 0, none⟩ 2 2 [_, _] rfl rfl (rowN_at _ #[_, _] _ (by simp)) (by simp [Value.oneCell']) (by have := hSb.ln; unfold maxLen; omega) (by have := hSb.ln; omega) (by have := hSb.sz; simp; omega) ?_; intro b' u2 hown' hgrow _ hob; have hS2 := ST.app [o, q] hSb hgrow hown' (by simp; omega); have hbx2 : NB u2 wr.heap.size o t q := (hgrow.block _ (by simp; omega) (fun e => Nat.lt_irrefl _ (hne _ e.symm))).trans (old_at hbx); have m1 := hbx2.c1; clear hown' hgrow hob) | (go_at_call 340; refine (addNumber_any (w.heap.size + 1) _ _ t 3 _ hS2.sz hS2.ow (by have := hS2.ln; omega) (by omega)).mono ?_; rintro e u3 ⟨b3, rfl, ho3, hb3⟩; have hS3 := hS2.step hb3 ho3 (by simp [numB_lenW]; omega)))
        go_roundw
        case rel => exact ⟨k + 1, by simp, by omega, by rw [HX.out, ← List.append_assoc, ← List.append_assoc]; exact hS3⟩
        case measure => simp [vnatW]; omega
      · have hkk : k = l.length := by omega
        subst hkk
        rw [List.take_length, ← HP.out.1] at hS
        have hki : ¬ ((l.length : Int) < (l.length : Int)) := by omega
        obtain ⟨ad2, cap2, rfl, hrb⟩ := RdBW.own hS.ow.out
        have hsum := sum_any ad2 cap2 (frm kd n fr rd.toNat N l) wr hrb (frm_byt _ _ _ _ _ _) (by have := hS.ln; omega)
        have hadd := addNumber_any (w.heap.size + 1) _ _ (sumV (frm kd n fr rd.toNat N l)) 4 wr hS.sz hS.ow (by have := hS.ln; omega) (by omega)
        have HB : Hid (byt7 kd n fr rd.toNat N l = frm kd n fr rd.toNat N l ++ numBW (sumV (frm kd n fr rd.toNat N l)) 4) := rfl
        generalize sumV (frm kd n fr rd.toNat N l) = SV at *
        generalize frm kd n fr rd.toNat N l = FM at *
        have hbe := hS.be
        clear hS hrb HP
        go_wp2_with (first | (go_at_call 283; refine hsum.mono ?_; rintro e u ⟨rfl, hu⟩; rw [hu]; clear hu u) | (go_at_call 340; refine hadd.mono ?_; rintro e u3 ⟨b3, rfl, ho3, hb3⟩))
        go_ret2
        exact ⟨_, rfl, by rw [HB.out]; exact ownsRow_base ho3 (Nat.le_succ _), hbe.trans (hb3.mono (Nat.le_succ _))⟩
  · rw [decide_eq_true hk] at hro
    rw [decide_eq_false hk'] at hhe
    have hr0 : 0 ≤ rd := by omega
    have har : ∀ (b : Value) (C : List Nat) (u : World), w.heap.size + 1 ≤ u.heap.size → OwB u (w.heap.size + 1) b C → C.length ≤ 100000 → Calls Tryz.prog 340 #[b, .int .i64 rd, .int .i64 5] u fun e w' => ∃ b', e = .returned b' ∧ OwB w' (w.heap.size + 1) b' (C ++ numBW rd.toNat 5) ∧ Below (w.heap.size + 1) u w' := fun b C u hb ho hl => by
      have := addNumber_any (w.heap.size + 1) b C rd.toNat 5 u hb ho hl (by omega)
      rw [Int.toNat_of_nonneg hr0] at this
      exact this
    have HQ : Hid (P = [101, 115] ++ [K8, n, fr] ++ numBW rd.toNat 5 ++ [l.length]) := by
      have := HP.out.2
      rw [rndB, if_neg hk, setB, if_neg hk'] at this
      show P = _
      simpa using this
    clear hrd hk hk' hr0
    go_enter Tryz.func337, Tryz.ntmps337
    go_wp2_with (first | (go_at_call 339; (with_reducible refine hfa.mono ?_); rintro e u1 ⟨rfl, hb1⟩; have hS1 : ST w kd fr rd N (.slice ad l.length cap) (.slice none 0 0) [] u1 := ⟨hF0.below hb1 (by simp), bel2 hbW hb1, Nat.le_trans (by simp) hb1.size, owB_nil _ _, by simp⟩) | (go_at_call 340; (with_reducible refine (ha0 _ hS1.sz).mono ?_); rintro e u2 ⟨b2, rfl, ho2, hb2⟩; have hS2 : ST w kd fr rd N (.slice ad l.length cap) b2 [101, 115] u2 := hS1.step hb2 ho2 (by simp); obtain ⟨d0, d1, d2, d3, d4, d5, d6, d7⟩ := hS2.fb.cells) | (at_builtin; refine wpList_append_own_at _ rfl _ _ 30 rfl (w.heap.size + 1) 5 ic _ 1 1 Tryz.underlying30 hic hz0 hz1 hz2 rfl (by decide) _ ([101, 115]).length (cBW ([101, 115])) rfl (World.ownsRow.alloc (OwB.out hS2.ow) _) ⟨u2.heap.size, 0, none⟩ 3 3 [_, _, _] rfl rfl (rowN _ #[_, _, _] _) (by simp [Value.oneCell']) (by have := hS2.ln; unfold maxLen; omega) (by have := hS2.ln; omega) (by have := hS2.sz; simp; omega) ?_; intro b' u3 hown' hgrow _ hob; have hS3 := ST.app [K8, n, fr] hS2 hgrow hown' (by simp); clear hown' hgrow hob; obtain ⟨d0, d1, d2, d3, d4, d5, d6, d7⟩ := hS3.fb.cells) | (go_at_call 276; (with_reducible refine (hro _).mono ?_); rintro e u ⟨rfl, hu⟩; rw [hu]; clear hu u) | (go_at_call 278; (with_reducible refine (hhe _).mono ?_); rintro e u ⟨rfl, hu⟩; rw [hu]; clear hu u) | (go_at_call 340; (with_reducible refine (har _ ([101, 115] ++ [K8, n, fr]) _ hS3.sz hS3.ow (by simp)).mono ?_); rintro e u4 ⟨b4, rfl, ho4, hb4⟩; have hS4 : ST w kd fr rd N (.slice ad l.length cap) b4 ([101, 115] ++ [K8, n, fr] ++ numBW rd.toNat 5) u4 := hS3.step hb4 ho4 (by simp [numB_lenW]); obtain ⟨d0, d1, d2, d3, d4, d5, d6, d7⟩ := hS4.fb.cells) | (at_builtin; refine wpList_append_own_at _ rfl _ _ 30 rfl (w.heap.size + 1) 5 ic _ 1 1 Tryz.underlying30 hic hz0 hz1 hz2 rfl (by decide) _ ([101, 115] ++ [K8, n, fr] ++ numBW rd.toNat 5).length (cBW ([101, 115] ++ [K8, n, fr] ++ numBW rd.toNat 5)) rfl (World.ownsRow.alloc (OwB.out hS4.ow) _) ⟨u4.heap.size, 0, none⟩ 1 1 [_] rfl rfl (rowN _ #[_] _) (by simp [Value.oneCell']) (by have := hS4.ln; unfold maxLen; omega) (by have := hS4.ln; omega) (by have := hS4.sz; simp; omega) ?_; intro b' u6 hown' hgrow _ hob; have hS6 := ST.app [l.length] hS4 hgrow hown' (by simp [numB_lenW]); clear hown' hgrow hob; obtain ⟨d0, d1, d2, d3, d4, d5, d6, d7⟩ := hS6.fb.cells))
    have hS7 : ST w kd fr rd N (.slice ad l.length cap) b' P u6 := HQ.out ▸ hS6
    clear hS6 hS3 hS4 hS2 hS1 HQ
    have hB2' := bs2
    go_loopw [7, 53] (fun b i wz => ∃ (k : Nat), i = .int .i64 k ∧ k ≤ l.length ∧ ST w kd fr rd N (.slice ad l.length cap) b (P ++ newsB (l.take k)) wz) (fun _ i _ => l.length - vnatW i)
    case atStart => exact ⟨0, rfl, Nat.zero_le _, by simpa [newsB] using hS7⟩
    case round =>
      obtain ⟨k, rfl, hk, hS⟩ := hrel
      clear hS7 d0 d1 d2 d3 d4 d5 d6 d7 hfa c0 c1 c2 c3 c4 c5 c6 c7 hF0 hbW hro hhe hads
      have hsw := hS.sz
      by_cases hkl : k < l.length
      · have hki : (k : Int) < (l.length : Int) := by omega
        obtain ⟨⟨o, t, q⟩, hx⟩ : ∃ x, l[k]? = some x := ⟨_, List.getElem?_eq_getElem hkl⟩
        obtain ⟨v1, v2, v3, v4, v5, v6⟩ := vl_bounds (ris_get HRI.out hx)
        dsimp only at v1 v2 v3 v4 v5 v6
        obtain ⟨o, rfl⟩ := Int.eq_ofNat_of_zero_le v1
        obtain ⟨t, rfl⟩ := Int.eq_ofNat_of_zero_le v3
        obtain ⟨q, rfl⟩ := Int.eq_ofNat_of_zero_le (show 0 ≤ q by omega)
        obtain ⟨g, off, rfl, hgl, hat⟩ := HL.out (fun e => by subst e; simp at hkl)
        obtain ⟨x0, x1, x2⟩ := hat k _ hx
        have y0 := (hS.be.cell (p := ⟨g, off + k * 3, none⟩) hgl).trans x0
        have y1 := (hS.be.cell (p := ⟨g, off + k * 3 + 1, none⟩) hgl).trans x1
        have y2 := (hS.be.cell (p := ⟨g, off + k * 3 + 2, none⟩) hgl).trans x2
        dsimp only at y0 y1 y2
        have io8 : (o : Int) % 256 = (o : Int) := by omega
        have iq8 : (q : Int) % 256 = (q : Int) := by omega
        have HX : Hid (newsB (l.take (k + 1)) = newsB (l.take k) ++ [o, q] ++ numBW t 3) := by
          have := newsB_step l k _ _ _ hx
          rw [Int.toNat_natCast, Int.toNat_natCast, Int.toNat_natCast, Nat.mod_eq_of_lt (show o < 256 by omega), Nat.mod_eq_of_lt (show q < 256 by omega)] at this
          exact this
        have hlk : (newsB (l.take k)).length ≤ 5 * k := by rw [newsB_len, List.length_take]; omega
        have hbx : NB (wr.alloc (.cells #[.int .i64 (o : Int), .int .i64 (t : Int), .int .i64 (q : Int)] 185)) wr.heap.size o t q := NB.new wr o t q
        obtain ⟨n0, n1, n2⟩ : _ ∧ _ ∧ _ := ⟨hbx.c0, hbx.c1, hbx.c2⟩
        have hSb := hS.step ((Below.refl _ wr).alloc hsw (.cells #[.int .i64 (o : Int), .int .i64 (t : Int), .int .i64 (q : Int)] 185)) (hS.ow.below (alloc_below _ _)) hS.ln
        have hne := own_lt hS.ow.out
        clear x0 x1 x2 hat hx v1 v2 v3 v4 v5 v6
        go_wp2_with (first | (at_builtin; refine wpList_append_own_at _ rfl _ _ 30 rfl (w.heap.size + 1) 5 ic _ 1 1 Tryz.underlying30 hic hz0 hz1 hz2 rfl (by decide) _ (P ++ newsB (l.take k)).length (cBW (P ++ newsB (l.take k))) rfl (World.ownsRow.alloc (OwB.out hSb.ow) _) ⟨wr.heap.size + 1, 0, none⟩ 2 2 [_, _] rfl rfl (rowN_at _ #[_, _] _ (by simp)) (by simp [Value.oneCell']) (by have := hSb.ln; unfold maxLen; omega) (by have := hSb.ln; omega) (by have := hSb.sz; simp; omega) ?_; intro b' u2 hown' hgrow _ hob; have hS2 := ST.app [o, q] hSb hgrow hown' (by simp; omega); have hbx2 : NB u2 wr.heap.size o t q := (hgrow.block _ (by simp; omega) (fun e => Nat.lt_irrefl _ (hne _ e.symm))).trans (old_at hbx); have m1 := hbx2.c1; clear hown' hgrow hob) | (go_at_call 340; refine (addNumber_any (w.heap.size + 1) _ _ t 3 _ hS2.sz hS2.ow (by have := hS2.ln; omega) (by omega)).mono ?_; rintro e u3 ⟨b3, rfl, ho3, hb3⟩; have hS3 := hS2.step hb3 ho3 (by simp [numB_lenW]; omega)))
        go_roundw
        case rel => exact ⟨k + 1, by simp, by omega, by rw [HX.out, ← List.append_assoc, ← List.append_assoc]; exact hS3⟩
        case measure => simp [vnatW]; omega
      · have hkk : k = l.length := by omega
        subst hkk
        rw [List.take_length, ← HP.out.1] at hS
        have hki : ¬ ((l.length : Int) < (l.length : Int)) := by omega
        obtain ⟨ad2, cap2, rfl, hrb⟩ := RdBW.own hS.ow.out
        have hsum := sum_any ad2 cap2 (frm kd n fr rd.toNat N l) wr hrb (frm_byt _ _ _ _ _ _) (by have := hS.ln; omega)
        have hadd := addNumber_any (w.heap.size + 1) _ _ (sumV (frm kd n fr rd.toNat N l)) 4 wr hS.sz hS.ow (by have := hS.ln; omega) (by omega)
        have HB : Hid (byt7 kd n fr rd.toNat N l = frm kd n fr rd.toNat N l ++ numBW (sumV (frm kd n fr rd.toNat N l)) 4) := rfl
        generalize sumV (frm kd n fr rd.toNat N l) = SV at *
        generalize frm kd n fr rd.toNat N l = FM at *
        have hbe := hS.be
        clear hS hrb HP
        go_wp2_with (first | (go_at_call 283; refine hsum.mono ?_; rintro e u ⟨rfl, hu⟩; rw [hu]; clear hu u) | (go_at_call 340; refine hadd.mono ?_; rintro e u3 ⟨b3, rfl, ho3, hb3⟩))
        go_ret2
        exact ⟨_, rfl, by rw [HB.out]; exact ownsRow_base ho3 (Nat.le_succ _), hbe.trans (hb3.mono (Nat.le_succ _))⟩

/-- The bytes of a note, or none. -/
def fb7 (kd : Nat) (n fr rd : Int) (N : Nat) (l : List (Int × Int × Int)) : List Nat := if flt kd n fr rd N l = 0 then byt7 kd n.toNat fr.toNat rd.toNat N l else []
/-- What Bytes answers. -/
def BO (kd : Nat) (n fr rd : Int) (N : Nat) (l : List (Int × Int × Int)) (w : World) (e : Ending) (w' : World) : Prop := ∃ b, e = .returned (.tuple #[b, .int .i64 (flt kd n fr rd N l)]) ∧ OwB w' w.heap.size b (fb7 kd n fr rd N l) ∧ Below w.heap.size w w'
theorem bytes_any (kd : Nat) (n fr rd : Int) (N : Nat) (hN : N < S128) (ad : Option Addr) (cap : Nat) (l : List (Int × Int × Int)) (w : World) (h : RdN w ad l) (hl : l.length ≤ 6000000000000) : Calls Tryz.prog 337 #[fv kd fr rd N (.slice ad l.length cap), .int .i64 n] w (BO kd n fr rd N l w) := by
  by_cases hf : flt kd n fr rd N l = 0
  · obtain ⟨hn, hfr, _⟩ := flt_0 hf
    obtain ⟨n, rfl⟩ := Int.eq_ofNat_of_zero_le (show 0 ≤ n by omega)
    obtain ⟨fr, rfl⟩ := Int.eq_ofNat_of_zero_le hfr.1
    refine (bytes_ok kd n fr rd N hN ad cap l w h hf).mono ?_
    rintro e w' ⟨b, rfl, h1, h2⟩
    refine ⟨b, by rw [hf], ?_, h2⟩
    rw [fb7, if_pos hf]
    exact h1
  · refine (bytes_no kd n fr rd N hN ad cap l w h hl hf).mono ?_
    rintro e w' ⟨rfl, h1⟩
    refine ⟨_, rfl, ?_, h1⟩
    rw [fb7, if_neg hf]
    exact owB_nil _ _
theorem wd_z (j : Nat) : wd 0 j = 0 := by simp [wd]
theorem s128_0 : 0 < S128 := by decide
theorem qb_own {w W w' : World} {kd : Nat} {n fr rd : Int} {N : Nat} {l : List (Int × Int × Int)} {e : Ending} (h : BO kd n fr rd N l W e w') (hb : Below w.heap.size w W) : BO kd n fr rd N l w e w' := by
  obtain ⟨b, h1, h2, h3⟩ := h
  exact ⟨b, h1, ownsRow_base h2 hb.size, bel2 hb h3⟩
set_option maxHeartbeats 1000000 in
set_option maxRecDepth 100000 in
theorem qbytes_any (n fr rd : Int) (ad : Option Addr) (cap : Nat) (l : List (Int × Int × Int)) (w : World) (h : RdN w ad l) (hl : l.length ≤ 6000000000000) : Calls Tryz.prog 333 #[.agg #[.int .i64 fr, .int .i64 rd, .slice ad l.length cap], .int .i64 n] w (BO 1 n fr rd 0 l w) := by
  have hb0 := al1'W w (.cells #[.int .i64 fr, .int .i64 rd, .slice ad l.length cap] 248)
  have hby := bytes_any 1 n fr rd 0 s128_0 ad cap l _ (h.carry hb0) hl
  have hby2 := hby.mono (fun e w' q => qb_own q hb0)
  simp only [fv, fcs, wd_z] at hby2
  clear hby
  go_enter Tryz.func333, Tryz.ntmps333
  go_wp2_with (go_at_call 337; refine hby2.mono ?_; rintro e w' ⟨b, rfl, h2, h3⟩)
  go_ret2
  exact ⟨b, rfl, h2, h3⟩
end Go.Proofs.YtklnfbanfgdgcaaGreatDoor
