/- infer's fold over sets, Union: what they answer. -/
import Derived.Test.YtgehmidalfajgabGreatDoorInferDoubtsJ8
import Derived.Test.YtgehmidalfajgabGreatDoorRgn
import Derived.Laws.AppendOwnNone
namespace Go.Proofs.YtgehmidalfajgabGreatDoor
open Go.RowKit Go.Shelf

/-- Sets put together, one behind the other. -/
def unis (H : Nat) (l : List Nat) : Nat := l.foldl (fun a b => cln (a ||| b)) H
theorem unis_nil (H : Nat) : unis H [] = H := rfl
theorem unis_cons (H x : Nat) (l : List Nat) : unis H (x :: l) = unis (cln (H ||| x)) l := rfl
theorem unis_append (H : Nat) (a b : List Nat) : unis H (a ++ b) = unis (unis H a) b := List.foldl_append
theorem unis_succ (H : Nat) (l : List Nat) (k x : Nat) (h : l[k]? = some x) : unis H (l.take (k + 1)) = cln (unis H (l.take k) ||| x) := by
  have e : l.take (k + 1) = l.take k ++ [x] := by rw [List.take_add_one, h]; rfl
  rw [e, unis_append]
  rfl
theorem unis_lt {H : Nat} (hH : H < S100) (l : List Nat) : unis H l < S100 := by
  induction l generalizing H with
  | nil => exact hH
  | cons x l ih => exact ih (cln_lt _)
theorem unis_bit {H : Nat} (hH : H < S100) (l : List Nat) (i : Nat) : (unis H l).testBit i = (H.testBit i || (decide (i < 100) && l.any (fun x => x.testBit i))) := by
  induction l generalizing H with
  | nil => simp [unis]
  | cons x l ih =>
    rw [unis_cons, ih (cln_lt _), testBit_cln]
    have h : H.testBit i = true → i < 100 := fun e => by
      rcases Nat.lt_or_ge i 100 with q | q
      · exact q
      · have hx : H < 2 ^ i := Nat.lt_of_lt_of_le (show H < 2 ^ 100 from hH) (Nat.pow_le_pow_right (by decide) q)
        rw [Nat.testBit_lt_two_pow hx] at e
        cases e
    rw [Nat.testBit_or, List.any_cons]
    cases h1 : H.testBit i <;> cases h2 : decide (i < 100) <;> simp_all
set_option maxHeartbeats 2000000 in
set_option maxRecDepth 100000 in
theorem fold_any (ad : Option Addr) (cap : Nat) (l : List Nat) (H : Nat) (w : World) (h : RdS w ad l) (hl : l.length ≤ 4611686018427387904) :
    Calls Tryz.prog 92 #[.slice ad l.length cap, sv H, .func (.func 93) #[] #[]] w fun e w' => e = .returned (sv (unis H l)) ∧ Below w.heap.size w w' := by
  obtain ⟨w1, hw1⟩ : ∃ w1, w.alloc (.cells #[.int .u32 (wd H 0 : Nat), .int .u32 (wd H 1 : Nat), .int .u32 (wd H 2 : Nat), .int .u32 (wd H 3 : Nat)] 25) = w1 := ⟨_, rfl⟩
  obtain ⟨w2, hw2⟩ : ∃ w2, w1.alloc (.cells #[.int .u32 0, .int .u32 0, .int .u32 0, .int .u32 0] 25) = w2 := ⟨_, rfl⟩
  have hb1 : Below w.heap.size w w1 := by rw [← hw1]; exact al1' _ _
  have hb2 : Below w.heap.size w w2 := by rw [← hw2]; exact bel2 hb1 (al1' _ _)
  have hs1 : w1.heap.size = w.heap.size + 1 := by rw [← hw1]; simp
  have hs2 : w2.heap.size = w.heap.size + 2 := by rw [← hw2]; simp [hs1]
  have g1 : Holds4 w2 w.heap.size (wd H) := by rw [← hw2]; exact old_at (by rw [← hw1]; exact new_at rfl)
  have g2 : Holds4 w2 (w.heap.size + 1) (fun _ => 0) := by rw [← hw2]; rw [← hs1]; exact new_at rfl
  have hu := union_any
  obtain ⟨R, hR⟩ : ∃ R, unis H l = R := ⟨_, rfl⟩
  rw [hR]
  simp only [sv] at hu ⊢
  go_enter Tryz.func92, Tryz.ntmps92
  go_wp2
  go_loopw [11] (fun c wz => ∃ k : Nat, c = .int .i64 k ∧ k ≤ l.length ∧ Holds4 wz w.heap.size (wd (unis H (l.take k))) ∧ Holds4 wz (w.heap.size + 1) (fun _ => 0) ∧ Below w.heap.size w wz) (fun c _ => l.length - vnat c)
  case atStart => exact ⟨0, rfl, Nat.zero_le _, g1, g2, hb2⟩
  case round =>
    obtain ⟨k, rfl, hk, q1, q2, hbw⟩ := hrel
    by_cases hkl : k < l.length
    · have hki : (k : Int) < (l.length : Int) := by omega
      have hne : l ≠ [] := fun e => by subst e; simp at hkl
      obtain ⟨b, off, rfl, hgl, hat⟩ := h hne
      obtain ⟨x, hx⟩ : ∃ x, l[k]? = some x := ⟨_, List.getElem?_eq_getElem hkl⟩
      have hix := idx_s b off l.length cap k hkl
      obtain ⟨c0, c1, c2, c3⟩ := (hat.carry (hbw.block _ hgl)) k x hx
      have hes := unis_succ H l k x hx
      generalize unis H (l.take k) = M at *
      obtain ⟨M2, hM2⟩ : ∃ M2, unis H (l.take (k + 1)) = M2 := ⟨_, rfl⟩
      have HM2 : Hid (unis H (l.take (k + 1)) = M2) := hM2
      rw [hM2] at hes
      clear hM2
      obtain ⟨w3, hw3⟩ : ∃ w3, wr.alloc (.cells #[.int .u32 0, .int .u32 0, .int .u32 0, .int .u32 0] 25) = w3 := ⟨_, rfl⟩
      have hz : (w.heap.size + 1) < wr.heap.size := q2.lt
      have g3 : Hid (Holds4 w3 wr.heap.size (fun _ => 0)) := by rw [← hw3]; exact new_at rfl
      have g4 : Hid (Holds4 w3 w.heap.size (wd M)) := by rw [← hw3]; exact old_at q1
      have g5 : Hid (Holds4 w3 (w.heap.size + 1) (fun _ => 0)) := by rw [← hw3]; exact old_at q2
      have hb3 : Hid (Below w.heap.size w w3) := by rw [← hw3]; exact hbw.trans ((al1' _ _).mono hbw.size)
      have hhu := hu M x
      rw [← hes] at hhu
      clear hes
      go_wp2_with (first
        | (refine wpList_store_row rfl 25 (.tmp 8) (.tmp 14) rfl wr.heap.size (cells4 (wd x)) rfl rfl 25 _ g3.out infoS rfl (by simp [cells4, Value.oneCell']) ?_; obtain ⟨w4, hw4⟩ : ∃ v, w3.setRow wr.heap.size (cells4 (wd x)) = v := ⟨_, rfl⟩; have k1 : Hid (Holds4 w4 wr.heap.size (wd x)) := (by rw [← hw4]; exact setRow_heap _ _ _ _ _ _ g3.out); have k2 : Hid (Holds4 w4 w.heap.size (wd M)) := (by rw [← hw4]; exact (setRow_other _ _ _ _ (by omega)).trans g4.out); have k3 : Hid (Holds4 w4 (w.heap.size + 1) (fun _ => 0)) := (by rw [← hw4]; exact (setRow_other _ _ _ _ (by omega)).trans g5.out); have k4 : Hid (Below w.heap.size w w4) := (by rw [← hw4]; exact below_row hb3.out (by omega) _); rw [hw4])
        | (refine wpList_load_row rfl 25 (.tmp 4) rfl w.heap.size rfl 25 _ (0, 0) _ k2.out Tryz.underlying25 rfl infoS ?_)
        | (refine wpList_load_row rfl 25 (.tmp 8) rfl wr.heap.size rfl 25 _ (0, 0) _ k1.out Tryz.underlying25 rfl infoS ?_)
        | (go_at_call 93; refine (hhu _).mono ?_; rintro e u ⟨rfl, hb⟩; have j2 := k2.out.carry hb; have j3 := k3.out.carry hb; have j4 := k4.out.trans (hb.mono k4.out.size))
        | (refine wpList_store_row rfl 25 (.tmp 4) (.tmp 18) rfl w.heap.size (cells4 (wd M2)) rfl rfl 25 _ j2 infoS rfl (by simp [cells4, Value.oneCell']) ?_))
      go_roundw
      case rel => exact ⟨k + 1, by simp, by omega, by rw [HM2.out]; exact setRow_heap _ _ _ _ _ _ j2, (setRow_other _ _ _ _ (by omega)).trans j3, below_row j4 (Nat.le_refl _) _⟩
      case measure => simp [vnat]; omega
    · have hkk : k = l.length := by omega
      subst hkk
      rw [List.take_length, hR] at q1
      have hki : ¬ ((l.length : Int) < (l.length : Int)) := by omega
      go_wp2_with (first
        | (refine wpList_load_row rfl 25 (.tmp 4) rfl w.heap.size rfl 25 _ (0, 0) _ q1 Tryz.underlying25 rfl infoS ?_)
        | (refine wpList_store_row rfl 25 (.tmp 6) (.tmp 20) rfl (w.heap.size + 1) (cells4 (wd R)) rfl rfl 25 _ q2 infoS rfl (by simp [cells4, Value.oneCell']) ?_; obtain ⟨w4, hw4⟩ : ∃ v, wr.setRow (w.heap.size + 1) (cells4 (wd R)) = v := ⟨_, rfl⟩; have g6 : Hid (Holds4 w4 (w.heap.size + 1) (wd R)) := (by rw [← hw4]; exact setRow_heap _ _ _ _ _ _ q2); have hb4 : Hid (Below w.heap.size w w4) := (by rw [← hw4]; exact below_row hbw (by omega) _); rw [hw4]))
      exact ret4 rfl rfl rfl g6.out ⟨rfl, hb4.out⟩
set_option maxHeartbeats 1000000 in
set_option maxRecDepth 100000 in
theorem iunion_any (ad : Option Addr) (cap : Nat) (l : List Nat) (w : World) (h : RdS w ad l) (hl : l.length ≤ 4611686018427387904) :
    Calls Tryz.prog 18 #[.slice ad l.length cap] w fun e w' => e = .returned (sv (unis 0 l)) ∧ Below w.heap.size w w' := by
  obtain ⟨w1, hw1⟩ : ∃ w1, w.alloc (.cells #[.int .u32 0, .int .u32 0, .int .u32 0, .int .u32 0] 25) = w1 := ⟨_, rfl⟩
  have hb1 : Below w.heap.size w w1 := by rw [← hw1]; exact al1' _ _
  have g1 : Hid (Holds4 w1 w.heap.size (fun _ => 0)) := by rw [← hw1]; exact new_at rfl
  have hf := fold_any ad cap l 0 w1 (h.carry hb1) hl
  have e0 : sv 0 = .agg #[.int .u32 0, .int .u32 0, .int .u32 0, .int .u32 0] := by kernel_rfl
  rw [e0] at hf
  generalize unis 0 l = M at *
  simp only [sv] at hf ⊢
  go_enter Tryz.func18, Tryz.ntmps18
  go_wp2_with (first
    | (go_at_call 92; (with_reducible refine hf.mono ?_); rintro e u ⟨rfl, hb⟩; have g2 := g1.out.carry hb; have hb2 := bel2 hb1 hb)
    | (refine wpList_store_row rfl 25 (.tmp 2) (.tmp 5) rfl w.heap.size (cells4 (wd M)) rfl rfl 25 _ g2 infoS rfl (by simp [cells4, Value.oneCell']) ?_; obtain ⟨w4, hw4⟩ : ∃ v, u.setRow w.heap.size (cells4 (wd M)) = v := ⟨_, rfl⟩; have g6 : Hid (Holds4 w4 w.heap.size (wd M)) := (by rw [← hw4]; exact setRow_heap _ _ _ _ _ _ g2); have hb4 : Hid (Below w.heap.size w w4) := (by rw [← hw4]; exact below_row hb2 (Nat.le_refl _) _); rw [hw4]))
  exact ret4 rfl rfl rfl g6.out ⟨rfl, hb4.out⟩
end Go.Proofs.YtgehmidalfajgabGreatDoor
namespace Go.Proofs.YtgehmidalfajgabGreatDoor
open Go.RowKit Go.Shelf

theorem load_i64 {W : World} {B o : Nat} {x : Int} (h : W.cell? ⟨B, o, none⟩ = some (.int .i64 x)) : (Instr.loadAt 3 (.pointer (some ⟨B, o, none⟩))).run Tryz.prog W = .ok (.int .i64 x) W := by go_simp
theorem load_tp {W : World} {B o q : Nat} (h : W.cell? ⟨B, o, none⟩ = some (.pointer (some ⟨q, 0, none⟩))) : (Instr.loadAt 60 (.pointer (some ⟨B, o, none⟩))).run Tryz.prog W = .ok (.pointer (some ⟨q, 0, none⟩)) W := by go_simp
theorem load_ts {W : World} {base q : Nat} {ad : Option Addr} {cap : Nat} {t : Tl} (h : Ta W base q ad cap t) : (Instr.loadAt 25 (.pointer (some ⟨q, 3, none⟩))).run Tryz.prog W = .ok (sv t.reps) W := by
  obtain ⟨_, _, _, c3, c4, c5, c6, _⟩ := h.cells
  unfold sv
  go_simp
theorem field_t0 (W : World) (q : Nat) : (Instr.fieldAt 114 (.pointer (some ⟨q, 0, none⟩)) 0).run Tryz.prog W = .ok (.pointer (some ⟨q, 0, none⟩)) W := by go_simp
theorem field_t2 (W : World) (q : Nat) : (Instr.fieldAt 114 (.pointer (some ⟨q, 0, none⟩)) 2).run Tryz.prog W = .ok (.pointer (some ⟨q, 2, none⟩)) W := by go_simp
theorem field_t3 (W : World) (q : Nat) : (Instr.fieldAt 114 (.pointer (some ⟨q, 0, none⟩)) 3).run Tryz.prog W = .ok (.pointer (some ⟨q, 3, none⟩)) W := by go_simp
theorem field_t4 (W : World) (q : Nat) : (Instr.fieldAt 114 (.pointer (some ⟨q, 0, none⟩)) 4).run Tryz.prog W = .ok (.pointer (some ⟨q, 7, none⟩)) W := by go_simp
theorem un_not (b : Bool) (W : World) : (Op.unary .not (.bool b)).run Tryz.prog W = .ok (.bool (!b)) W := by go_simp
theorem bin_ne64 {x y : Operand} (a b : Int) (w : World) : binRun Tryz.prog .neq 3 x y (.int .i64 a) (.int .i64 b) w = .ok (.bool (decide (a ≠ b))) w := by
  unfold binRun
  go_simp
  by_cases h : a = b <;> simp [h]
/-- The boxes that the fates look at. -/
structure Fx (W : World) (k q : Nat) (f r : Int) (N : Nat) : Prop where
  tb : W.heap[k]? = some (.cells #[.pointer (some ⟨q, 0, none⟩)] 60 (0, 0))
  fb : W.heap[k + 1]? = some (.cells #[.int .i64 f] 3 (0, 0))
  rb : W.heap[k + 1 + 1]? = some (.cells #[.int .i64 r] 3 (0, 0))
  hb : Holds4 W (k + 1 + 1 + 1) (wd N)
theorem Fx.carry {W V : World} {k q : Nat} {f r : Int} {N : Nat} (h : Fx W k q f r N) (hb : Below W.heap.size W V) : Fx V k q f r N :=
  ⟨(hb.block _ (lt_at h.tb)).trans h.tb, (hb.block _ (lt_at h.fb)).trans h.fb, (hb.block _ (lt_at h.rb)).trans h.rb, h.hb.carry hb⟩
def ftC (k q : Nat) : Array Value := #[.int .i64 5, .int .i64 0, .func (.func 131) #[] #[.pointer (some ⟨k + 1, 0, none⟩), .pointer (some ⟨k, 0, none⟩)],
  .int .i64 0, .int .i64 74, .func (.func 132) #[] #[.pointer (some ⟨k + 1 + 1 + 1, 0, none⟩), .pointer (some ⟨k, 0, none⟩)],
  .int .i64 2, .int .i64 0, .func (.func 133) #[] #[.pointer (some ⟨k + 1 + 1, 0, none⟩), .pointer (some ⟨k, 0, none⟩)],
  .int .i64 3, .int .i64 0, .func (.func 134) #[] #[.pointer (some ⟨k, 0, none⟩), .pointer (some ⟨k + 1, 0, none⟩)],
  .int .i64 4, .int .i64 0, .func (.func 88) #[.pointer (some ⟨q, 0, none⟩)] #[]]
set_option maxHeartbeats 4000000 in
set_option maxRecDepth 100000 in
theorem fates_any (q : Nat) (f r : Int) (N : Nat) (W : World) : Calls Tryz.prog 86 #[.pointer (some ⟨q, 0, none⟩), .int .i64 f, .int .i64 r, sv N] W fun e w' => ∃ k, e = .returned (.slice (some ⟨k + 1 + 1 + 1 + 1, 0, none⟩) 5 5) ∧ Fx w' k q f r N ∧ w'.heap[k + 1 + 1 + 1 + 1]? = some (.cells (ftC k q) 119 (0, 0)) ∧ Below W.heap.size W w' := by
  simp only [sv]
  go_enter Tryz.func86, Tryz.ntmps86
  go_wp2
  go_ret
  refine ⟨W.heap.size, rfl, ⟨?_, ?_, ?_, ?_⟩, ?_, ?_⟩
  · exact old_at (old_at (old_at (old_at (new_at rfl))))
  · exact old_at (old_at (old_at (new_at (by simp))))
  · exact old_at (old_at (new_at (by simp)))
  · exact old_at (new_at (by simp))
  · exact new_at (by simp)
  · exact bel2 (bel2 (bel2 (bel2 (al1' _ _) (al1' _ _)) (al1' _ _)) (al1' _ _)) (al1' _ _)
section
variable {w : World} {base q k : Nat} {ad : Option Addr} {cap : Nat} {t : Tl} {f r : Int} {N : Nat}
set_option maxHeartbeats 4000000 in
set_option maxRecDepth 100000 in
theorem fate1_any (h : Ta w base q ad cap t) (hx : Fx w k q f r N) : Calls Tryz.prog 131 #[.pointer (some ⟨k + 1, 0, none⟩), .pointer (some ⟨k, 0, none⟩)] w fun e w' => e = .returned (.bool (!isN f t.n)) ∧ Below w.heap.size w w' := by
  have hmx : Tryz.prog.follows .mixedOrders = true := by kernel_rfl
  go_enter Tryz.func131, Tryz.ntmps131
  go_wp2
  rename_i hK
  refine wp_region_any hmx ?_
  refine wpAny_pure (fun i__ => ([(.int .i64 f), (.pointer (some ⟨q, 0, none⟩)), (.pointer (some ⟨q, 0, none⟩)), (.pointer (some ⟨q, 0, none⟩)), (.int .i64 t.n), (.bool (isN f t.n)), (.bool (!isN f t.n)), (.bool (!isN f t.n))] : List Value).getD i__ undef) (fun V => Below w.heap.size w V) (by kernel_rfl) (Below.refl _ _).drew ?_ ?_
  · refine (stepsFrom_cons ?_ (stepsFrom_cons ?_ (stepsFrom_cons ?_ (stepsFrom_cons ?_ (stepsFrom_cons ?_ (stepsFrom_cons ?_ (stepsFrom_cons ?_ (stepsFrom_cons ?_ trivial))))))))
    · exact step_load rfl trivial _ _ _ rfl rfl (fun v hw => load_i64 (by rw [cell_at (hx.carry hw).fb]; rfl))
    · exact step_load rfl trivial _ _ _ rfl rfl (fun v hw => load_tp (by rw [cell_at (hx.carry hw).tb]; rfl))
    · exact step_nilCheck rfl trivial _ _ _ rfl rfl rfl
    · exact step_fieldAddr rfl trivial _ _ _ _ rfl rfl (fun v hw => field_t0 v _)
    · exact step_load rfl trivial _ _ _ rfl rfl (fun v hw => load_i64 (h.carry hw).cells.1)
    · exact step_call rfl trivial 83 _ _ [(.int .i64 f), (.int .i64 t.n)] rfl (by kernel_rfl) (enters_of Tryz.func83 (by kernel_rfl) rfl) (fun v hw => (isNode_any f t.n v).mono (by rintro e w' ⟨rfl, rfl⟩; exact ⟨rfl, hw⟩))
    · exact step_unOp rfl trivial _ _ _ _ rfl rfl (fun v hw => un_not _ v)
    · exact step_assign rfl trivial _ rfl (by kernel_rfl) (fun _ h => h)
  intro W hW
  first | refine hK _ _ ?_ | refine (‹∀ (a : Act) (w : World), Code.wp Tryz.prog _ _ a w → _›) _ _ ?_
  simp only [finL, List.getD_cons_zero, List.getD_cons_succ, Nat.zero_add, Nat.reduceAdd, List.setIfInBounds_toArray, List.set_cons_zero, List.set_cons_succ]
  clear hK
  go_wp2
  go_ret
  exact ⟨rfl, hW⟩
set_option maxHeartbeats 4000000 in
set_option maxRecDepth 100000 in
theorem fate2_any (h : Ta w base q ad cap t) (hx : Fx w k q f r N) (hN : N < S128) : Calls Tryz.prog 132 #[.pointer (some ⟨k + 1 + 1 + 1, 0, none⟩), .pointer (some ⟨k, 0, none⟩)] w fun e w' => e = .returned (.bool (!wthB N t.n)) ∧ Below w.heap.size w w' := by
  have hmx : Tryz.prog.follows .mixedOrders = true := by kernel_rfl
  go_enter Tryz.func132, Tryz.ntmps132
  go_wp2
  rename_i hK
  refine wp_region_any hmx ?_
  refine wpAny_pure (fun i__ => ([(sv N), (.pointer (some ⟨q, 0, none⟩)), (.pointer (some ⟨q, 0, none⟩)), (.pointer (some ⟨q, 0, none⟩)), (.int .i64 t.n), (.bool (wthB N t.n)), (.bool (!wthB N t.n)), (.bool (!wthB N t.n))] : List Value).getD i__ undef) (fun V => Below w.heap.size w V) (by kernel_rfl) (Below.refl _ _).drew ?_ ?_
  · refine (stepsFrom_cons ?_ (stepsFrom_cons ?_ (stepsFrom_cons ?_ (stepsFrom_cons ?_ (stepsFrom_cons ?_ (stepsFrom_cons ?_ (stepsFrom_cons ?_ (stepsFrom_cons ?_ trivial))))))))
    · exact step_load rfl trivial _ _ _ rfl rfl (fun v hw => whole4 v _ N (hx.carry hw).hb)
    · exact step_load rfl trivial _ _ _ rfl rfl (fun v hw => load_tp (by rw [cell_at (hx.carry hw).tb]; rfl))
    · exact step_nilCheck rfl trivial _ _ _ rfl rfl rfl
    · exact step_fieldAddr rfl trivial _ _ _ _ rfl rfl (fun v hw => field_t0 v _)
    · exact step_load rfl trivial _ _ _ rfl rfl (fun v hw => load_i64 (h.carry hw).cells.1)
    · exact step_call rfl trivial 84 _ _ [(sv N), (.int .i64 t.n)] rfl (by kernel_rfl) (enters_of Tryz.func84 (by kernel_rfl) rfl) (fun v hw => (within_any N hN t.n v).mono (by rintro e w' ⟨rfl, hb⟩; exact ⟨rfl, bel2 hw hb⟩))
    · exact step_unOp rfl trivial _ _ _ _ rfl rfl (fun v hw => un_not _ v)
    · exact step_assign rfl trivial _ rfl (by kernel_rfl) (fun _ h => h)
  intro W hW
  first | refine hK _ _ ?_ | refine (‹∀ (a : Act) (w : World), Code.wp Tryz.prog _ _ a w → _›) _ _ ?_
  simp only [finL, List.getD_cons_zero, List.getD_cons_succ, Nat.zero_add, Nat.reduceAdd, List.setIfInBounds_toArray, List.set_cons_zero, List.set_cons_succ]
  clear hK
  go_wp2
  go_ret
  exact ⟨rfl, hW⟩
set_option maxHeartbeats 4000000 in
set_option maxRecDepth 100000 in
theorem fate3_any (h : Ta w base q ad cap t) (hx : Fx w k q f r N) : Calls Tryz.prog 133 #[.pointer (some ⟨k + 1 + 1, 0, none⟩), .pointer (some ⟨k, 0, none⟩)] w fun e w' => e = .returned (.bool (decide (r ≠ t.ro))) ∧ Below w.heap.size w w' := by
  have hmx : Tryz.prog.follows .mixedOrders = true := by kernel_rfl
  go_enter Tryz.func133, Tryz.ntmps133
  go_wp2
  rename_i hK
  refine wp_region_any hmx ?_
  refine wpAny_pure (fun i__ => ([(.int .i64 r), (.pointer (some ⟨q, 0, none⟩)), (.pointer (some ⟨q, 0, none⟩)), (.pointer (some ⟨q, 2, none⟩)), (.int .i64 t.ro), (.bool (decide (r ≠ t.ro))), (.bool (decide (r ≠ t.ro)))] : List Value).getD i__ undef) (fun V => Below w.heap.size w V) (by kernel_rfl) (Below.refl _ _).drew ?_ ?_
  · refine (stepsFrom_cons ?_ (stepsFrom_cons ?_ (stepsFrom_cons ?_ (stepsFrom_cons ?_ (stepsFrom_cons ?_ (stepsFrom_cons ?_ (stepsFrom_cons ?_ trivial)))))))
    · exact step_load rfl trivial _ _ _ rfl rfl (fun v hw => load_i64 (by rw [cell_at (hx.carry hw).rb]; rfl))
    · exact step_load rfl trivial _ _ _ rfl rfl (fun v hw => load_tp (by rw [cell_at (hx.carry hw).tb]; rfl))
    · exact step_nilCheck rfl trivial _ _ _ rfl rfl rfl
    · exact step_fieldAddr rfl trivial _ _ _ _ rfl rfl (fun v hw => field_t2 v _)
    · exact step_load rfl trivial _ _ _ rfl rfl (fun v hw => load_i64 (h.carry hw).cells.2.2.1)
    · exact step_binOp rfl trivial _ _ _ _ _ _ _ rfl rfl rfl (fun v hw => bin_ne64 _ _ v)
    · exact step_assign rfl trivial _ rfl (by kernel_rfl) (fun _ h => h)
  intro W hW
  first | refine hK _ _ ?_ | refine (‹∀ (a : Act) (w : World), Code.wp Tryz.prog _ _ a w → _›) _ _ ?_
  simp only [finL, List.getD_cons_zero, List.getD_cons_succ, Nat.zero_add, Nat.reduceAdd, List.setIfInBounds_toArray, List.set_cons_zero, List.set_cons_succ]
  clear hK
  go_wp2
  go_ret
  exact ⟨rfl, hW⟩
set_option maxHeartbeats 4000000 in
set_option maxRecDepth 100000 in
theorem fate4_any (h : Ta w base q ad cap t) (hx : Fx w k q f r N) (hr : t.reps < S100) : Calls Tryz.prog 134 #[.pointer (some ⟨k, 0, none⟩), .pointer (some ⟨k + 1, 0, none⟩)] w fun e w' => e = .returned (.bool (decide (wthN t.reps f = t.reps))) ∧ Below w.heap.size w w' := by
  have hmx : Tryz.prog.follows .mixedOrders = true := by kernel_rfl
  go_enter Tryz.func134, Tryz.ntmps134
  go_wp2
  rename_i hK
  refine wp_region_any hmx ?_
  refine wpAny_pure (fun i__ => ([(.pointer (some ⟨q, 0, none⟩)), (.int .i64 f), (sv (wthN t.reps f)), (.pointer (some ⟨q, 0, none⟩)), (.pointer (some ⟨q, 0, none⟩)), (.pointer (some ⟨q, 3, none⟩)), (sv t.reps), (.bool (decide (wthN t.reps f = t.reps))), (.bool (decide (wthN t.reps f = t.reps)))] : List Value).getD i__ undef) (fun V => Below w.heap.size w V) (by kernel_rfl) (Below.refl _ _).drew ?_ ?_
  · refine (stepsFrom_cons ?_ (stepsFrom_cons ?_ (stepsFrom_cons ?_ (stepsFrom_cons ?_ (stepsFrom_cons ?_ (stepsFrom_cons ?_ (stepsFrom_cons ?_ (stepsFrom_cons ?_ (stepsFrom_cons ?_ trivial)))))))))
    · exact step_load rfl trivial _ _ _ rfl rfl (fun v hw => load_tp (by rw [cell_at (hx.carry hw).tb]; rfl))
    · exact step_load rfl trivial _ _ _ rfl rfl (fun v hw => load_i64 (by rw [cell_at (hx.carry hw).fb]; rfl))
    · exact step_call rfl trivial 130 _ _ [(.pointer (some ⟨q, 0, none⟩)), (.int .i64 f)] rfl (by kernel_rfl) (enters_of Tryz.func130 (by kernel_rfl) rfl) (fun v hw => (twith_any (h.carry hw) f).mono (by rintro e w' ⟨rfl, hb⟩; exact ⟨rfl, bel2 hw hb⟩))
    · exact step_load rfl trivial _ _ _ rfl rfl (fun v hw => load_tp (by rw [cell_at (hx.carry hw).tb]; rfl))
    · exact step_nilCheck rfl trivial _ _ _ rfl rfl rfl
    · exact step_fieldAddr rfl trivial _ _ _ _ rfl rfl (fun v hw => field_t3 v _)
    · exact step_load rfl trivial _ _ _ rfl rfl (fun v hw => load_ts (h.carry hw))
    · exact step_binOp rfl trivial _ _ _ _ _ _ _ rfl rfl rfl (fun v hw => eql4 _ _ _ _ (S100_S128 (wthN_lt _ _)) (S100_S128 hr) v)
    · exact step_assign rfl trivial _ rfl (by kernel_rfl) (fun _ h => h)
  intro W hW
  first | refine hK _ _ ?_ | refine (‹∀ (a : Act) (w : World), Code.wp Tryz.prog _ _ a w → _›) _ _ ?_
  simp only [finL, List.getD_cons_zero, List.getD_cons_succ, Nat.zero_add, Nat.reduceAdd, List.setIfInBounds_toArray, List.set_cons_zero, List.set_cons_succ]
  clear hK
  go_wp2
  go_ret
  exact ⟨rfl, hW⟩
end
end Go.Proofs.YtgehmidalfajgabGreatDoor
namespace Go.Proofs.YtgehmidalfajgabGreatDoor
open Go.RowKit Go.Shelf

theorem infoZ : (Tryz.prog.info? 25).map (fun i => (i.zero, i.size, i.bytes)) = some (some (.agg #[.int .u32 0, .int .u32 0, .int .u32 0, .int .u32 0]), 4, 16) := by kernel_rfl
theorem bs0S (W : World) : (Instr.buildSlice 112 0 #[]).run Tryz.prog W = .ok (.slice (some ⟨W.heap.size, 0, none⟩) 0 0) (W.alloc (.cells #[] 25)) := by go_simp
theorem nilS_no (a : Addr) (n c : Nat) (w : World) : (binOp .eql 112 (.slice (some a) n c) (.slice none 0 0)).run Tryz.prog w = .ok (.bool false) w := by kernel_rfl
theorem nilS_yes (n c : Nat) (w : World) : (binOp .eql 112 (.slice none n c) (.slice none 0 0)).run Tryz.prog w = .ok (.bool true) w := by kernel_rfl
theorem fs_src {W : World} {base g n c : Nat} {l : List Nat} (h : W.ownsRow base 25 4 (.slice (some ⟨g, 0, none⟩) n c) n (fs l)) : ∀ j u, (fs l)[j]? = some u → W.cell? ((⟨g, 0, none⟩ : Addr).add j) = some u := fun j u hj => by
  rw [add_pl, Nat.zero_add]
  have h1 := (List.getElem?_eq_some_iff.1 hj).1
  rw [h.1] at h1
  exact (h.cellAt j (by omega)).trans hj
set_option maxHeartbeats 1000000 in
set_option maxRecDepth 100000 in
theorem cloneS_any (ad : Option Addr) (cap base : Nat) (l : List Nat) (w : World) (h : w.ownsRow base 25 4 (.slice ad l.length cap) l.length (fs l)) (hl : l.length ≤ 100000) : Calls Tryz.prog 145 #[.slice ad l.length cap] w fun e w' => ∃ a c, e = .returned (.slice a l.length c) ∧ w'.ownsRow w.heap.size 25 4 (.slice a l.length c) l.length (fs l) ∧ Below w.heap.size w w' := by
  obtain ⟨ic, hic, hz0, hz1, hz2⟩ := info_parts infoZ
  have hb := bs0S
  have n1 := nilS_no
  have n2 := nilS_yes
  rcases own_form h with ⟨e1, e2⟩ | ⟨g, cap', e1, _⟩
  · simp only [Value.slice.injEq] at e1
    have hl0 : l = [] := List.length_eq_zero_iff.1 e2
    subst hl0
    obtain ⟨rfl, _, rfl⟩ := e1
    go_enter Tryz.func145, Tryz.ntmps145
    go_wp2
    go_ret
    exact ⟨none, 0, rfl, World.ownsRow_nil _ _ _ _, Below.refl _ _⟩
  · simp only [Value.slice.injEq] at e1
    obtain ⟨rfl, _, rfl⟩ := e1
    have hb0 := al1' w (.cells #[] 25)
    have hnews := fs_src (row_below h hb0)
    have hown := World.ownsRow_lit (base := w.heap.size) (e := 25) (size := 4) w #[] 0 (Nat.le_refl _) (by unfold maxLen; omega) (by simp)
    clear h
    go_enter Tryz.func145, Tryz.ntmps145
    go_wp2_with (at_builtin; refine wpList_append_own_at _ rfl _ _ 112 rfl w.heap.size 25 ic _ 4 16 Tryz.underlying112 hic hz0 hz1 hz2 rfl (by decide) _ 0 [] rfl hown ⟨g, 0, none⟩ l.length cap (fs l) rfl (by rw [fs_len]) hnews (fs_one l) (by unfold maxLen; omega) (by omega) (by simp) ?_; intro v u ho0 hgu hnn _; have hbu : Below w.heap.size w u := hb0.grown hgu (by simp) (fun q e => own_block hown q e); have ho : u.ownsRow w.heap.size 25 4 v l.length (fs l) := (by simpa using ho0))
    go_ret
    rcases own_form ho with ⟨e1, e2⟩ | ⟨g, c, e1, _⟩
    · exact ⟨none, 0, by rw [e1, e2]; rfl, by rw [e1, e2] at ho; rw [e2]; exact ho, hbu⟩
    · exact ⟨_, c, by rw [e1]; rfl, e1 ▸ ho, hbu⟩
section
variable {w W V : World} {base q : Nat} {ad : Option Addr} {cap : Nat} {t : Tl}
set_option maxHeartbeats 1000000 in
theorem heards_any (h : Ta W base q ad cap t) (hl : t.hs.length ≤ 100000) : Calls Tryz.prog 138 #[.pointer (some ⟨q, 0, none⟩)] W fun e w' => ∃ a c, e = .returned (.slice a t.hs.length c) ∧ w'.ownsRow W.heap.size 25 4 (.slice a t.hs.length c) t.hs.length (fs t.hs) ∧ Below W.heap.size W w' := by
  have hk := kept_any h
  have hc := cloneS_any ad cap base t.hs W h.row hl
  go_enter Tryz.func138, Tryz.ntmps138
  go_wp2_with (first | (go_at_call 144; (with_reducible refine hk.mono ?_); rintro e u ⟨rfl, hu⟩; obtain rfl := hu.symm) | (go_at_call 145; (with_reducible refine hc.mono ?_); rintro e u ⟨a, c, rfl, ho, hb⟩))
  go_ret
  exact ⟨a, c, rfl, ho, hb⟩
/-- While a reply is taken in, behind the others. -/
structure Jc (w0 : World) (base q hb : Nat) (ad : Option Addr) (cap : Nat) (t : Tl) (N : Nat) (g : Nat × Option Addr × Nat) (d6 d7 d10 : Bool) (V : World) : Prop where
  obj : V.heap[q]? = some (.cells (taC t (if d10 = true then .slice g.2.1 (t.hs.length + 1) g.2.2 else .slice ad t.hs.length cap)) 114 (0, 0))
  bx : Holds4 V hb (wd N)
  r0 : d7 = false → V.ownsRow base 25 4 (.slice ad t.hs.length cap) t.hs.length (fs t.hs)
  r1 : d7 = true → V.ownsRow base 25 4 (.slice g.2.1 (t.hs.length + 1) g.2.2) (t.hs.length + 1) (fs (t.hs ++ [N]))
  bl : d6 = true → d7 = false → Holds4 V g.1 (wd N) ∧ ob ad ≠ some g.1
  tn : Tn q (ob ad) (if d7 = true then ob g.2.1 else ob ad) w0 V
theorem bs1S (W : World) (N : Nat) : (Instr.buildSlice 112 1 #[(0, sv N)]).run Tryz.prog W = .ok (.slice (some ⟨W.heap.size, 0, none⟩) 1 1) (W.alloc (.cells (cells4 (wd N)) 25)) := by
  unfold sv cells4
  go_simp
theorem load_tl {W : World} {q : Nat} {ad : Option Addr} {n cap : Nat} {C : Array Value} {ty : TypeId} (h : W.heap[q]? = some (.cells C ty (0, 0))) (hc : C[7]? = some (.slice ad n cap)) : (Instr.loadAt 112 (.pointer (some ⟨q, 7, none⟩))).run Tryz.prog W = .ok (.slice ad n cap) W := by
  have c0 : W.cell? ⟨q, 7, none⟩ = some (.slice ad n cap) := (cell_at h 7).trans hc
  go_simp
theorem store_tl {W : World} {q : Nat} {ad : Option Addr} {n cap : Nat} {S : Value} (h : W.heap[q]? = some (.cells (taC t S) 114 (0, 0))) : (Instr.storeAt 112 (.pointer (some ⟨q, 7, none⟩)) (.slice ad n cap)).run Tryz.prog W = .ok () (W.setCell ⟨q, 7, none⟩ (.slice ad n cap)) ∧ (W.setCell ⟨q, 7, none⟩ (.slice ad n cap)).heap[q]? = some (.cells (taC t (.slice ad n cap)) 114 (0, 0)) := by
  have c0 : W.cell? ⟨q, 7, none⟩ = some S := (cell_at h 7).trans rfl
  have z0 := thaw_at h 7
  refine ⟨by go_simp, ?_⟩
  have := heap_setCell_same _ _ 7 _ _ (.slice ad n cap) h
  exact this.trans rfl
theorem taC_set (t : Tl) (S : Value) (M : Nat) : ((((taC t S).setIfInBounds 3 (.int .u32 (wd M 0 : Nat))).setIfInBounds 4 (.int .u32 (wd M 1 : Nat))).setIfInBounds 5 (.int .u32 (wd M 2 : Nat))).setIfInBounds 6 (.int .u32 (wd M 3 : Nat)) = taC { t with reps := M } S := rfl
theorem Tn.set {p : Nat} {g g' : Option Nat} {W V : World} (h : Tn p g g' W V) (j : Nat) (u : Value) : Tn p g g' W (V.setCell ⟨p, j, none⟩ u) :=
  ⟨h.os, h.tape, h.output, by simpa using h.size, fun k hk h1 h2 => (Below.heap_setCell _ _ _ _ h1).trans (h.block k hk h1 h2), h.own⟩
theorem Tn.alloc {p : Nat} {g g' : Option Nat} {W V : World} (h : Tn p g g' W V) (o : Obj) : Tn p g g' W (V.alloc o) := h.trans (Tn.of p g' (al1' _ _))
def setR (W : World) (q M : Nat) : World := (((W.setCell ⟨q, 3, none⟩ (.int .u32 (wd M 0 : Nat))).setCell ⟨q, 4, none⟩ (.int .u32 (wd M 1 : Nat))).setCell ⟨q, 5, none⟩ (.int .u32 (wd M 2 : Nat))).setCell ⟨q, 6, none⟩ (.int .u32 (wd M 3 : Nat))
/-- The repliers are put. -/
theorem Ta.putR (h : Ta W base q ad cap t) (M : Nat) : Ta (setR W q M) base q ad cap { t with reps := M } ∧ Tn q (ob ad) (ob ad) W (setR W q M) := by
  have h0 := heap_setCell_same _ _ 3 _ _ (.int .u32 (wd M 0 : Nat)) h.obj
  have h1 := heap_setCell_same _ _ 4 _ _ (.int .u32 (wd M 1 : Nat)) h0
  have h2 := heap_setCell_same _ _ 5 _ _ (.int .u32 (wd M 2 : Nat)) h1
  have h3 := heap_setCell_same _ _ 6 _ _ (.int .u32 (wd M 3 : Nat)) h2
  have hne : (Value.slice ad t.hs.length cap).ownBlock ≠ some q := by rw [ob_eq]; exact h.ne
  refine ⟨⟨h.qb, h3, row_other (row_other (row_other (row_other h.row hne _) hne _) hne _) hne _⟩, ?_⟩
  exact ((((Tn.of q (ob ad) (Below.refl _ W)).set 3 _).set 4 _).set 5 _).set 6 _
theorem Jc.start {hb N : Nat} (h : Ta W base q ad cap t) (hx : Holds4 W hb (wd N)) (ht : Tn q (ob ad) (ob ad) w W) : Jc w base q hb ad cap t N (0, none, 0) false false false W.drew :=
  ⟨h.obj, hx, fun _ => row_below h.row (Below.refl _ _).drew, fun e => (by cases e), fun e => (by cases e), ht.trans (Tn.of q _ (Below.refl _ _).drew)⟩
theorem Jc.build {hb N : Nat} {g : Nat × Option Addr × Nat} (h : Jc w base q hb ad cap t N g false false false V) : Jc w base q hb ad cap t N (V.heap.size, g.2) true false false (V.alloc (.cells (cells4 (wd N)) 25)) := by
  have ha := al1' V (.cells (cells4 (wd N)) 25)
  refine ⟨old_at h.obj, old_at h.bx, fun _ => row_below (h.r0 rfl) ha, fun e => by (cases e), fun _ _ => ⟨new_at rfl, fun e => ?_⟩, h.tn.alloc _⟩
  have := (row_lt2 (h.r0 rfl) V.heap.size (by rw [ob_eq]; exact e)).2
  omega
theorem Jc.app {hb N : Nat} {g : Nat × Option Addr × Nat} (h : Jc w base q hb ad cap t N g true false false V) (hb0 : base ≤ V.heap.size) (hl : t.hs.length ≤ 1000) (hhb : ob ad ≠ some hb) (ty : TypeId) : ∃ a c V', (Builtin.append_ #[112, 112] ty #[.slice ad t.hs.length cap, .slice (some ⟨g.1, 0, none⟩) 1 1]).run Tryz.prog V = .ok (.slice a (t.hs.length + 1) c) V' ∧ Jc w base q hb ad cap t N (g.1, a, c) true true false V' := by
  obtain ⟨ic, hic, hz0, hz1, hz2⟩ := info_parts infoZ
  obtain ⟨hg, hne⟩ := h.bl rfl rfl
  obtain ⟨v', V', hr, ho, hgr, hn, hown⟩ := run_append_own_at (P := Tryz.prog) V base 112 ty 25 ic _ 4 16 Tryz.underlying112 hic hz0 hz1 hz2 rfl (by decide) _ t.hs.length (fs t.hs) (h.r0 rfl) ⟨g.1, 0, none⟩ 1 1 (fs [N]) rfl (fun j u hj => by
    rw [add_pl, Nat.zero_add, cell_at hg]
    have e : (fs [N]) = (cells4 (wd N)).toList := rfl
    rw [e] at hj
    simpa using hj) (fs_one _) (by unfold maxLen; omega) (by omega) hb0
  rw [← fs_append] at ho
  rcases own_form ho with ⟨_, e2⟩ | ⟨g2, c, e1, _⟩
  · omega
  · subst e1
    rw [ob_eq] at hgr
    refine ⟨_, c, V', hr, (hgr.block q (lt_at h.obj) (fun e => ?_)).trans h.obj, (hgr.block hb h.bx.lt (fun e => hhb e.symm)).trans h.bx, fun e => (by cases e), fun _ => ho, fun _ e => (by cases e), ?_⟩
    · exact row_type (h.r0 rfl) h.obj (by decide) (by rw [ob_eq]; exact e.symm)
    · refine h.tn.trans ⟨hgr.os, hgr.tape, hgr.output, hgr.size, fun k hk _ h2 => hgr.block k hk h2, ?_⟩
      rcases hown with k | k
      · exact .inl ((ob_eq _ _ _).symm.trans (k.trans (ob_eq _ _ _)))
      · exact .inr fun b e => by
          have : some b = some V.heap.size := e.symm.trans ((ob_eq _ _ _).symm.trans k)
          cases this
          exact Nat.le_refl _
theorem Jc.store {hb N : Nat} {g : Nat × Option Addr × Nat} {d10 : Bool} (h : Jc w base q hb ad cap t N g true true d10 V) (hqb : hb ≠ q) : ∃ V', (Instr.storeAt 112 (.pointer (some ⟨q, 7, none⟩)) (.slice g.2.1 (t.hs.length + 1) g.2.2)).run Tryz.prog V = .ok () V' ∧ Jc w base q hb ad cap t N g true true true V' := by
  obtain ⟨h1, h2⟩ := store_tl (ad := g.2.1) (n := t.hs.length + 1) (cap := g.2.2) h.obj
  refine ⟨_, h1, h2, (Below.heap_setCell _ _ _ _ hqb).trans h.bx, fun e => (by cases e), fun _ => row_other (h.r1 rfl) (row_type (h.r1 rfl) h.obj (by decide)) _, fun _ e => (by cases e), h.tn.set 7 _⟩
set_option maxHeartbeats 4000000 in
set_option maxRecDepth 100000 in
theorem tcount_any (h : Ta W base q ad cap t) (hb0 : base ≤ W.heap.size) (hl : t.hs.length ≤ 1000) (id : Int) (N : Nat) : Calls Tryz.prog 85 #[.pointer (some ⟨q, 0, none⟩), .int .i64 id, sv N] W fun e w' => e = .returned (.tuple #[]) ∧ ∃ ad' cap', Ta w' base q ad' cap' (cntT t id N) ∧ Tn q (ob ad) (ob ad') W w' := by
  have hmx : Tryz.prog.follows .mixedOrders = true := by kernel_rfl
  obtain ⟨w1, hw1⟩ : ∃ w1, W.alloc (.cells #[.int .u32 (wd N 0 : Nat), .int .u32 (wd N 1 : Nat), .int .u32 (wd N 2 : Nat), .int .u32 (wd N 3 : Nat)] 25) = w1 := ⟨_, rfl⟩
  have hb1 : Below W.heap.size W w1 := by rw [← hw1]; exact al1' _ _
  have g1 : Holds4 w1 W.heap.size (wd N) := by rw [← hw1]; exact new_at rfl
  have hT1 := h.carry hb1
  have hwi := twith_any hT1 id
  generalize hM : wthN t.reps id = M at *
  simp only [sv] at hwi ⊢
  go_enter Tryz.func85, Tryz.ntmps85
  go_wp2_with (go_at_call 130; (with_reducible refine hwi.mono ?_); rintro e u ⟨rfl, hb⟩; have hT2 := hT1.carry hb; obtain ⟨_, _, _, c3, c4, c5, c6, _⟩ := hT2.cells; have z3 := thaw_at hT2.obj 3; have z4 := thaw_at hT2.obj 4; have z5 := thaw_at hT2.obj 5; have z6 := thaw_at hT2.obj 6)
  obtain ⟨hT3, hn3⟩ := hT2.putR M
  have hlt := h.lt
  have g3 : Holds4 (setR u q M) W.heap.size (wd N) := (hn3.block _ (g1.carry hb).lt (by omega) (fun e => by have := (row_lt2 h.row W.heap.size (by rw [ob_eq]; exact e.symm)).2; omega)).trans (g1.carry hb)
  have hn : Tn q (ob ad) (ob ad) W (setR u q M) := (Tn.of q _ (bel2 hb1 hb)).trans hn3
  have hhb : ob ad ≠ some W.heap.size := fun e => by have := (row_lt2 h.row W.heap.size (by rw [ob_eq]; exact e)).2; omega
  have hqb : W.heap.size ≠ q := by omega
  have hst := Jc.start hT3 g3 hn
  have eW : (((u.setCell ⟨q, 3, none⟩ (.int .u32 (wd M 0 : Nat))).setCell ⟨q, 4, none⟩ (.int .u32 (wd M 1 : Nat))).setCell ⟨q, 5, none⟩ (.int .u32 (wd M 2 : Nat))).setCell ⟨q, 6, none⟩ (.int .u32 (wd M 3 : Nat)) = setR u q M := rfl
  rw [eW]
  obtain ⟨t', ht'⟩ : ∃ t' : Tl, { t with reps := M } = t' := ⟨_, rfl⟩
  have hl' : t'.hs = t.hs := by rw [← ht']
  have hlen : t'.hs.length = t.hs.length := by rw [hl']
  rw [ht'] at hst
  have hl2 : t'.hs.length ≤ 1000 := by omega
  generalize setR u q M = w3 at *
  rename_i hK
  refine wp_region_any hmx ?_
  refine wpAny_tabG (G := (Nat × Option Addr × Nat)) (fun g i__ => ([(.pointer (some ⟨q, 0, none⟩)), (.pointer (some ⟨q, 0, none⟩)), (.pointer (some ⟨q, 0, none⟩)), (.pointer (some ⟨q, 7, none⟩)), (.slice ad t'.hs.length cap), (sv N), (.slice (some ⟨g.1, 0, none⟩) 1 1), (.slice g.2.1 (t'.hs.length + 1) g.2.2), (.pointer (some ⟨q, 0, none⟩)), (.pointer (some ⟨q, 7, none⟩)), undef] : List Value).getD i__ undef) (fun g d V => Jc W base q W.heap.size ad cap t' N g (d 6) (d 7) (d 10) V) (by kernel_rfl) ((0, none, 0)) hst ?step1 ?fin1
  case step1 =>
    intro i o ho
    have hi : i < 11 := getElem?_lt ho
    match i, hi, ho with
    | 0, _, ho =>
      cases ho
      refine stepG_of (fun g d hdep => ?_)
      exact step_move rfl trivial _ rfl (by kernel_rfl)
    | 1, _, ho =>
      cases ho
      refine stepG_of (fun g d hdep => ?_)
      exact step_move rfl trivial _ rfl (by kernel_rfl)
    | 2, _, ho =>
      cases ho
      refine stepG_of (fun g d hdep => ?_)
      exact step_nilCheck rfl trivial _ _ _ rfl rfl rfl
    | 3, _, ho =>
      cases ho
      refine stepG_of (fun g d hdep => ?_)
      exact step_fieldAddr rfl trivial _ _ _ _ rfl rfl (fun v hw => field_t4 v _)
    | 4, _, ho =>
      cases ho
      exact stepG_ofC (fun g d hun hdep hcl => step_load rfl trivial _ _ _ rfl rfl (fun v hw => load_tl (by have h10 : d 10 = false := (by cases h : d 10 with | false => rfl | true => exact absurd (hcl 10 _ rfl h 4 (by kernel_rfl)) (by rw [hun]; simp)); have := hw.obj; rw [h10] at this; exact this) rfl))
    | 5, _, ho =>
      cases ho
      refine stepG_of (fun g d hdep => ?_)
      exact step_load rfl trivial _ _ _ rfl rfl (fun v hw => whole4 v _ N hw.bx)
    | 6, _, ho =>
      cases ho
      exact stepG_buildG rfl rfl _ _ (fun g => sv N) rfl (fun g => by kernel_rfl) (fun g d V hJ hun hdep hcl => by have h7 : d 7 = false := (by cases h : d 7 with | false => rfl | true => exact absurd (hcl 7 _ rfl h 6 (by kernel_rfl)) (by rw [hun]; simp)); have h10 : d 10 = false := (by cases h : d 10 with | false => rfl | true => exact absurd (hcl 10 _ rfl h 6 (by kernel_rfl)) (by rw [hun]; simp)); have hJ' := hJ; rw [hun, h7, h10] at hJ'; refine ⟨(V.heap.size, g.2), _, bs1S V N, (fun j hj => match j, hj with | 6, hj => (by rw [hj] at hun; cases hun)  | 0, _ => rfl | 1, _ => rfl | 2, _ => rfl | 3, _ => rfl | 4, _ => rfl | 5, _ => rfl | 7, _ => rfl | 8, _ => rfl | 9, _ => rfl | 10, _ => rfl | _ + 11, _ => rfl), ?_⟩; show Jc W base q W.heap.size ad cap t' N _ true (d 7) (d 10) _; rw [h7, h10]; exact hJ'.build)
    | 7, _, ho =>
      cases ho
      exact stepG_append rfl rfl _ _ _ (fun _ => .slice ad t'.hs.length cap) (fun g => .slice (some ⟨g.1, 0, none⟩) 1 1) rfl (fun g => by kernel_rfl) (fun g => by kernel_rfl) (fun g d V hJ hun hdep hcl => by have h6 : d 6 = true := hdep 6 (by kernel_rfl); have h10 : d 10 = false := (by cases h : d 10 with | false => rfl | true => exact absurd (hcl 10 _ rfl h 7 (by kernel_rfl)) (by rw [hun]; simp)); have hJ' := hJ; rw [h6, hun, h10] at hJ'; obtain ⟨a, c, V', hr, hA⟩ := hJ'.app (Nat.le_trans hb0 hJ'.tn.size) hl2 hhb 112; refine ⟨(g.1, a, c), V', hr, (fun j hj => match j, hj with | 7, hj => (by rw [hj] at hun; cases hun)  | 0, _ => rfl | 1, _ => rfl | 2, _ => rfl | 3, _ => rfl | 4, _ => rfl | 5, _ => rfl | 6, _ => rfl | 8, _ => rfl | 9, _ => rfl | 10, _ => rfl | _ + 11, _ => rfl), ?_⟩; show Jc W base q W.heap.size ad cap t' N _ (d 6) true (d 10) V'; rw [h6, h10]; exact hA)
    | 8, _, ho =>
      cases ho
      refine stepG_of (fun g d hdep => ?_)
      exact step_nilCheck rfl trivial _ _ _ rfl rfl rfl
    | 9, _, ho =>
      cases ho
      refine stepG_of (fun g d hdep => ?_)
      exact step_fieldAddr rfl trivial _ _ _ _ rfl rfl (fun v hw => field_t4 v _)
    | 10, _, ho =>
      cases ho
      refine stepG_of (fun g d hdep => ?_)
      exact step_store rfl trivial rfl _ _ _ _ _ rfl rfl rfl (fun V hw => by have h6 : d 6 = true := hdep 6 (by kernel_rfl); have h7 : d 7 = true := hdep 7 (by kernel_rfl); have hw' := hw; rw [h6, h7] at hw'; obtain ⟨V', hr, hA⟩ := hw'.store hqb; refine ⟨V', hr, ?_⟩; show Jc W base q W.heap.size ad cap t' N _ (d 6) (d 7) true V'; rw [h6, h7]; exact hA)
  intro g d W hall hW
  first | refine hK _ _ ?_ | refine (‹∀ (a : Act) (w : World), Code.wp Tryz.prog _ _ a w → _›) _ _ ?_ | skip
  simp only [finL, List.getD_cons_zero, List.getD_cons_succ, Nat.zero_add, Nat.reduceAdd, List.setIfInBounds_toArray, List.set_cons_zero, List.set_cons_succ]
  rw [hall 6 (by decide), hall 7 (by decide), hall 10 (by decide)] at hW
  go_end0
  refine ⟨rfl, g.2.1, g.2.2, ⟨h.qb, ?_, ?_⟩, hW.tn⟩
  · have h1 := hW.obj
    rw [if_pos rfl, ← ht'] at h1
    refine h1.trans ?_
    simp [cntT, taC, hM]
  · have h1 := hW.r1 rfl
    rw [hl'] at h1
    simpa [cntT] using h1
end
end Go.Proofs.YtgehmidalfajgabGreatDoor
