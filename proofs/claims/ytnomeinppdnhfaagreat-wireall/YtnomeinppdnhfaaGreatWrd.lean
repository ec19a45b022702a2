/- wire.fields.fault and bytes: what they answer. -/
import Derived.Test.YtnomeinppdnhfaaGreatWrc
import Derived.Test.YtnomeinppdnhfaaGreatOwn
namespace Go.Proofs.YtnomeinppdnhfaaGreat
open Go.RowKit Go.Shelf

/-- A note's fields, as a value and as they lie. -/
def fcs (kd : Nat) (fr rd : Int) (N : Nat) (v : Value) : Array Value := #[.int .i64 (kd : Int), .int .i64 fr, .int .i64 rd, .int .u32 (wd N 0 : Nat), .int .u32 (wd N 1 : Nat), .int .u32 (wd N 2 : Nat), .int .u32 (wd N 3 : Nat), v]
def fv (kd : Nat) (fr rd : Int) (N : Nat) (v : Value) : Value := .agg (fcs kd fr rd N v)
def FB (W : World) (b kd : Nat) (fr rd : Int) (N : Nat) (v : Value) : Prop := W.heap[b]? = some (.cells (fcs kd fr rd N v) 88 (0, 0))
theorem FB.carry {W W' : World} {b kd : Nat} {fr rd : Int} {N : Nat} {v : Value} (h : FB W b kd fr rd N v) (e : W'.heap[b]? = W.heap[b]?) : FB W' b kd fr rd N v := e.trans h
theorem FB.below {W W' : World} {b kd B : Nat} {fr rd : Int} {N : Nat} {v : Value} (h : FB W b kd fr rd N v) (hb : Below B W W') (hB : b < B) : FB W' b kd fr rd N v := h.carry (hb.block b hB)
theorem FB.lt {W : World} {b kd : Nat} {fr rd : Int} {N : Nat} {v : Value} (h : FB W b kd fr rd N v) : b < W.heap.size := lt_at h
theorem FB.cells {W : World} {b kd : Nat} {fr rd : Int} {N : Nat} {v : Value} (h : FB W b kd fr rd N v) : W.cell? ⟨b, 0, none⟩ = some (.int .i64 (kd : Int)) ∧ W.cell? ⟨b, 1, none⟩ = some (.int .i64 fr) ∧ W.cell? ⟨b, 2, none⟩ = some (.int .i64 rd) ∧ W.cell? ⟨b, 3, none⟩ = some (.int .u32 (wd N 0 : Nat)) ∧ W.cell? ⟨b, 4, none⟩ = some (.int .u32 (wd N 1 : Nat)) ∧ W.cell? ⟨b, 5, none⟩ = some (.int .u32 (wd N 2 : Nat)) ∧ W.cell? ⟨b, 6, none⟩ = some (.int .u32 (wd N 3 : Nat)) ∧ W.cell? ⟨b, 7, none⟩ = some v :=
  ⟨cell_of h 0, cell_of h 1, cell_of h 2, cell_of h 3, cell_of h 4, cell_of h 5, cell_of h 6, cell_of h 7⟩
theorem al1' (w : World) (o : Obj) : Below w.heap.size w (w.alloc o) := alloc_below w o
set_option maxHeartbeats 2000000 in
set_option maxRecDepth 100000 in
theorem fault_any (kd : Nat) (n fr rd : Int) (N : Nat) (hN : N < S128) (ad : Option Addr) (cap : Nat) (l : List (Int × Int × Int)) (w : World) (h : RdN w ad l) (hl : l.length ≤ 6000000000000) : Calls Tryz.prog 113 #[fv kd fr rd N (.slice ad l.length cap), .int .i64 n] w fun e w' => e = .returned (.int .i64 (flt kd n fr rd N l)) ∧ Below w.heap.size w w' := by
  have hsz := isSize_any n
  have hro := hasRound_any kd
  have hir := isRound_any rd
  have hwi := within_any N hN n
  have hri := rising_any n ad cap l
  simp only [fv, fcs, sv] at *
  have hF0 : FB (w.alloc (.cells #[.int .i64 (kd : Int), .int .i64 fr, .int .i64 rd, .int .u32 (wd N 0 : Nat), .int .u32 (wd N 1 : Nat), .int .u32 (wd N 2 : Nat), .int .u32 (wd N 3 : Nat), .slice ad l.length cap] 88)) w.heap.size kd fr rd N (.slice ad l.length cap) := get_new rfl
  obtain ⟨W0, hW0⟩ : ∃ W0, w.alloc (.cells #[.int .i64 (kd : Int), .int .i64 fr, .int .i64 rd, .int .u32 (wd N 0 : Nat), .int .u32 (wd N 1 : Nat), .int .u32 (wd N 2 : Nat), .int .u32 (wd N 3 : Nat), .slice ad l.length cap] 88) = W0 := ⟨_, rfl⟩
  have hbW : Below w.heap.size w W0 := hW0 ▸ al1' w _
  rw [hW0] at hF0
  by_cases h1 : 1 ≤ n ∧ n ≤ 100
  case neg =>
    rw [show flt kd n fr rd N l = 1 from if_pos h1]
    rw [decide_eq_false h1] at hsz
    go_enter Tryz.func113, Tryz.ntmps113
    go_wp2_with (go_at_call 24; (with_reducible refine (hsz _).mono ?_); rintro e u1 ⟨rfl, rfl⟩)
    go_ret
    exact ⟨rfl, hbW⟩
  have e1 : flt kd n fr rd N l = if fr < 0 ∨ n ≤ fr then 72 else if kd ≠ 3 ∧ ¬ (1 ≤ rd ∧ rd ≤ 1099511627775) then 73 else if wthB N n = false then 74 else if ris n (-1) l = false then 75 else 0 := if_neg (fun q => q h1)
  rw [decide_eq_true h1] at hsz
  rw [e1]
  clear e1
  obtain ⟨c0, c1, c2, c3, c4, c5, c6, c7⟩ := hF0.cells
  by_cases h2 : fr < 0
  · rw [if_pos (.inl h2)]
    go_enter Tryz.func113, Tryz.ntmps113
    go_wp2_with (go_at_call 24; (with_reducible refine (hsz _).mono ?_); rintro e u1 ⟨rfl, rfl⟩)
    go_ret
    exact ⟨rfl, hbW⟩
  by_cases h3 : n ≤ fr
  · rw [if_pos (.inr h3)]
    go_enter Tryz.func113, Tryz.ntmps113
    go_wp2_with (go_at_call 24; (with_reducible refine (hsz _).mono ?_); rintro e u1 ⟨rfl, rfl⟩)
    go_ret
    exact ⟨rfl, hbW⟩
  rw [if_neg (by omega)]
  by_cases h4 : kd ≠ 3 ∧ ¬ (1 ≤ rd ∧ rd ≤ 1099511627775)
  · rw [if_pos h4]
    rw [decide_eq_true h4.1] at hro
    rw [decide_eq_false h4.2] at hir
    go_enter Tryz.func113, Tryz.ntmps113
    go_wp2_with (first | (go_at_call 24; (with_reducible refine (hsz _).mono ?_); rintro e u1 ⟨rfl, rfl⟩) | (go_at_call 83; (with_reducible refine (hro _).mono ?_); rintro e u1 ⟨rfl, rfl⟩) | (go_at_call 84; (with_reducible refine (hir _).mono ?_); rintro e u1 ⟨rfl, rfl⟩))
    go_ret
    exact ⟨rfl, hbW⟩
  rw [if_neg h4]
  have hwi' : ∀ W, Below w.heap.size w W → FB W w.heap.size kd fr rd N (.slice ad l.length cap) → Calls Tryz.prog 89 #[.agg #[.int .u32 (wd N 0 : Nat), .int .u32 (wd N 1 : Nat), .int .u32 (wd N 2 : Nat), .int .u32 (wd N 3 : Nat)], .int .i64 n] W fun e w' => e = .returned (.bool (wthB N n)) ∧ Below w.heap.size w w' ∧ w'.cell? ⟨w.heap.size, 7, none⟩ = some (.slice ad l.length cap) ∧ RdN w' ad l := fun W hW hF => (hwi W).mono (by
    rintro e w' ⟨rfl, hb⟩
    exact ⟨rfl, bel2 hW hb, (hF.below hb hF.lt).cells.2.2.2.2.2.2.2, h.carry (bel2 hW hb)⟩)
  have hwi2 := hwi' W0 hbW hF0
  by_cases h5 : wthB N n = false
  · rw [if_pos h5]
    rw [h5] at hwi2
    by_cases hk : kd = 3
    · rw [decide_eq_false (fun q : kd ≠ 3 => q hk)] at hro
      clear h4 hk
      go_enter Tryz.func113, Tryz.ntmps113
      go_wp2_with (first | (go_at_call 24; (with_reducible refine (hsz _).mono ?_); rintro e u1 ⟨rfl, rfl⟩) | (go_at_call 83; (with_reducible refine (hro _).mono ?_); rintro e u1 ⟨rfl, rfl⟩) | (go_at_call 89; (with_reducible refine hwi2.mono ?_); rintro e u2 ⟨rfl, hb2, d7, hl2⟩))
      go_ret
      exact ⟨rfl, hb2⟩
    · have hir2 : 1 ≤ rd ∧ rd ≤ 1099511627775 := Classical.byContradiction fun q => h4 ⟨hk, q⟩
      rw [decide_eq_true hir2] at hir
      rw [decide_eq_true hk] at hro
      go_enter Tryz.func113, Tryz.ntmps113
      go_wp2_with (first | (go_at_call 24; (with_reducible refine (hsz _).mono ?_); rintro e u1 ⟨rfl, rfl⟩) | (go_at_call 83; (with_reducible refine (hro _).mono ?_); rintro e u1 ⟨rfl, rfl⟩) | (go_at_call 84; (with_reducible refine (hir _).mono ?_); rintro e u1 ⟨rfl, rfl⟩) | (go_at_call 89; (with_reducible refine hwi2.mono ?_); rintro e u2 ⟨rfl, hb2, d7, hl2⟩))
      go_ret
      exact ⟨rfl, hb2⟩
  have h5t : wthB N n = true := by simpa using h5
  rw [if_neg h5]
  rw [h5t] at hwi2
  obtain ⟨B, hB⟩ : ∃ B, ris n (-1) l = B := ⟨_, rfl⟩
  rw [hB] at hri
  rw [hB]
  clear hB hwi hwi'
  by_cases hk : kd = 3
  · rw [decide_eq_false (fun q : kd ≠ 3 => q hk)] at hro
    clear h4 hk
    cases B
    all_goals
      go_enter Tryz.func113, Tryz.ntmps113
      go_wp2_with (first | (go_at_call 24; (with_reducible refine (hsz _).mono ?_); rintro e u1 ⟨rfl, rfl⟩) | (go_at_call 83; (with_reducible refine (hro _).mono ?_); rintro e u1 ⟨rfl, rfl⟩) | (go_at_call 89; (with_reducible refine hwi2.mono ?_); rintro e u2 ⟨rfl, hb2, d7, hl2⟩) | (go_at_call 119; (with_reducible refine (hri _ hl2 hl).mono ?_); rintro e u3 ⟨rfl, hb3⟩))
      go_ret
      exact ⟨rfl, bel2 hb2 hb3⟩
  · have hir2 : 1 ≤ rd ∧ rd ≤ 1099511627775 := Classical.byContradiction fun q => h4 ⟨hk, q⟩
    rw [decide_eq_true hir2] at hir
    rw [decide_eq_true hk] at hro
    cases B
    all_goals
      go_enter Tryz.func113, Tryz.ntmps113
      go_wp2_with (first | (go_at_call 24; (with_reducible refine (hsz _).mono ?_); rintro e u1 ⟨rfl, rfl⟩) | (go_at_call 83; (with_reducible refine (hro _).mono ?_); rintro e u1 ⟨rfl, rfl⟩) | (go_at_call 84; (with_reducible refine (hir _).mono ?_); rintro e u1 ⟨rfl, rfl⟩) | (go_at_call 89; (with_reducible refine hwi2.mono ?_); rintro e u2 ⟨rfl, hb2, d7, hl2⟩) | (go_at_call 119; (with_reducible refine (hri _ hl2 hl).mono ?_); rintro e u3 ⟨rfl, hb3⟩))
      go_ret
      exact ⟨rfl, bel2 hb2 hb3⟩
end Go.Proofs.YtnomeinppdnhfaaGreat
