/- Between the sets and what is handed in. -/
import Derived.Test.YtklnfbanfgdgcaaGreatDoorJnJ4
import Derived.ProofKit
import Derived.OpenShut
import Derived.Laws.IdiomArrays
import Derived.Test.YtklnfbanfgdgcaaGreatDoorJnJ0
set_option maxHeartbeats 40000000
set_option maxRecDepth 100000
set_option linter.unusedVariables false
namespace Go.Proofs.YtklnfbanfgdgcaaGreatDoor
open Go.RowKit

theorem Holds4.lt {w : World} {b : Nat} {c : Nat → Nat} (h : Holds4 w b c) : b < w.heap.size := (Array.getElem?_eq_some_iff.1 h).1
theorem alloc_below (w : World) (o : Obj) : Below w.heap.size w (w.alloc o) := (Below.refl _ w).alloc (Nat.le_refl _) o
end Go.Proofs.YtklnfbanfgdgcaaGreatDoor
namespace Go.Proofs.YtklnfbanfgdgcaaGreatDoor
open Go.RowKit Go.Shelf Go.Lib

def fullN (n : Nat) : Nat := 2 ^ n - 1
theorem testBit_full (n i : Nat) : (fullN n).testBit i = decide (i < n) := by rw [fullN, Nat.testBit_two_pow_sub_one]
theorem wd_full (n k : Nat) : wd (fullN n) k = lowN ((n : Int) - (k : Int) * 32) := by
  apply Nat.eq_of_testBit_eq; intro i
  rw [testBit_wd, testBit_full, lowN, Nat.testBit_two_pow_sub_one]
  by_cases h : i < 32
  · have e : (32 * k + i < n) = (i < (min (max ((n : Int) - (k : Int) * 32) 0) 32).toNat) := by simp; omega
    simp [h, e]
  · have e : ¬ (i < (min (max ((n : Int) - (k : Int) * 32) 0) 32).toNat) := by omega
    simp [h, e]
theorem mix_full (c : Nat → Nat) (k j : Nat) : (if j = k then c k else if j < k then c j else 0) = if j < k + 1 then c j else 0 := by
  by_cases q : j = k
  · subst q; simp
  · by_cases q2 : j < k
    · rw [if_neg q, if_pos q2, if_pos (by omega)]
    · rw [if_neg q, if_neg q2, if_neg (by omega)]
def fullV (n : Int) : Value := if 0 ≤ n ∧ n ≤ 100 then .tuple #[sv (fullN n.toNat), .int .i64 0] else .tuple #[sv 0, .int .i64 1]
set_option maxHeartbeats 1000000 in
set_option maxRecDepth 100000 in
theorem full_any (n : Int) (w : World) : Calls Tryz.prog 28 #[.int .i64 n] w fun e w' => e = .returned (fullV n) ∧ Below w.heap.size w w' := by
  by_cases h : 0 ≤ n ∧ n ≤ 100
  · obtain ⟨m, rfl⟩ := Int.eq_ofNat_of_zero_le h.1
    have h1 : ¬ (m : Int) < 0 := by omega
    have h2 : ¬ 100 < (m : Int) := by omega
    have hV : fullV (m : Int) = .tuple #[sv (fullN m), .int .i64 0] := by rw [fullV, if_pos h]; rfl
    rw [hV]
    go_enter Tryz.func28, Tryz.ntmps28
    go_wp2
    go_loopw [13] (fun c wz => ∃ k : Nat, c = .int .i64 k ∧ k ≤ 4 ∧ Holds4 wz (w.heap.size + 1) (fun j => if j < k then wd (fullN m) j else 0) ∧ Holds4 wz w.heap.size (fun _ => 0) ∧ Below w.heap.size w wz) (fun c _ => 4 - vnat c)
    case atStart => exact ⟨0, rfl, by omega, get_new (by simp), get_old (get_new (by simp)), ((Below.refl _ w).alloc (by simp) _).alloc (by simp) _⟩
    case round =>
      obtain ⟨k, rfl, hk, g1, g2, hb⟩ := hrel
      by_cases hk4 : k < 4
      · have hki : (k : Int) < 4 := by omega
        have hl := lowest_any ((m : Int) - (k : Int) * 32)
        rw [← wd_full] at hl
        have hc := g1.cell k hk4
        have hf := g1.frozen k
        have hix := idx4 (w.heap.size + 1) k hk4
        go_wp2_with (go_at_call 118; refine (hl _).mono ?_; rintro e w1 ⟨rfl, rfl⟩)
        go_roundw
        case rel => exact ⟨k + 1, by simp, by omega, (g1.set k _ hk4).congr (fun j _ => mix_full (wd (fullN m)) k j), (Below.heap_setCell _ _ _ _ (by simp)).trans g2, hb.setCell (p := ⟨w.heap.size + 1, k, none⟩) (by simp) _⟩
        case measure => simp only [vnat]; omega
      · have hk5 : k = 4 := by omega
        subst hk5
        have h1' : Holds4 wr (w.heap.size + 1) (wd (fullN m)) := g1.congr (fun j hj => by simp [hj])
        obtain ⟨x0, x1, x2, x3, _⟩ := h1'.facts
        obtain ⟨y0, y1, y2, y3, z0, z1, z2, z3⟩ := g2.facts
        have H2 : Hid (Holds4 wr w.heap.size (fun _ => 0)) := g2
        clear g1 h1' g2
        go_wp2
        exact ret4t rfl rfl rfl rfl (fin4 H2.out _) ⟨rfl, below4 hb (Nat.le_refl _) _⟩
  · have hV : fullV n = .tuple #[sv 0, .int .i64 1] := by rw [fullV, if_neg h]
    rw [hV]
    have g2 : Holds4 (w.alloc (.cells (cells4 (fun _ => 0)) 51)) w.heap.size (fun _ => 0) := get_new rfl
    have hb : Below w.heap.size w (w.alloc (.cells (cells4 (fun _ => 0)) 51)) := alloc_below w _
    by_cases h0 : n < 0
    · go_enter Tryz.func28, Tryz.ntmps28
      go_wp2
      exact ret4t rfl rfl rfl rfl (g2.congr (fun j _ => by simp [wd])) ⟨rfl, hb⟩
    · have h1 : 100 < n := by omega
      go_enter Tryz.func28, Tryz.ntmps28
      go_wp2
      exact ret4t rfl rfl rfl rfl (g2.congr (fun j _ => by simp [wd])) ⟨rfl, hb⟩
theorem wd_zero (j : Nat) : wd 0 j = 0 := by simp [wd]
def withV (N : Nat) (id : Int) : Value := if 0 ≤ id ∧ id < 100 then .tuple #[sv (cln N ||| 2 ^ id.toNat), .int .i64 0] else .tuple #[sv 0, .int .i64 30]
theorem pow_bit (i : Nat) : 2 ^ (i % 32) < 4294967296 := Nat.pow_lt_pow_right (a := 2) (n := 32) (by decide) (Nat.mod_lt _ (by decide))
set_option maxHeartbeats 1000000 in
set_option maxRecDepth 100000 in
theorem with_any (N : Nat) (id : Int) (w : World) : Calls Tryz.prog 178 #[sv N, .int .i64 id] w fun e w' => e = .returned (withV N id) ∧ Below w.heap.size w w' := by
  have hmx : Tryz.prog.follows .mixedOrders = true := by kernel_rfl
  have hc := clean_any N
  have hid := isId_any id
  by_cases h : 0 ≤ id ∧ id < 100
  · obtain ⟨i, rfl⟩ := Int.eq_ofNat_of_zero_le h.1
    have hi : i < 100 := by omega
    have hq : i / 32 < 4 := by omega
    simp only [h, and_self, decide_true] at hid
    have hV : withV N (i : Int) = .tuple #[sv (cln N ||| 2 ^ i), .int .i64 0] := by rw [withV, if_pos h]; rfl
    rw [hV]
    generalize cln N = M at *
    simp only [sv] at hc ⊢
    go_enter Tryz.func178, Tryz.ntmps178
    go_wp2_with (first | (go_at_call 223; refine (hid _).mono ?_; rintro e w1 ⟨rfl, rfl⟩) | (go_at_call 224; refine (hc _).mono ?_; rintro e w1 ⟨rfl, hb⟩; have q1 : Hid (Holds4 w1 w.heap.size (wd N)) := (hb.block _ (by simp; omega)).trans (get_old (get_new (by simp))); have q2 : Hid (Holds4 w1 (w.heap.size + 1) (fun _ => 0)) := (hb.block _ (by simp)).trans (get_new (by simp)); obtain ⟨y0, y1, y2, y3, z0, z1, z2, z3⟩ := q1.out.facts))
    clear hc hid
    rename_i Q0 K0 hK
    refine wp_region_any hmx ?_
    have hb2 : Below w.heap.size w w1 := (((Below.refl _ w).alloc (by simp) _).alloc (by simp) _).trans (hb.mono (by simp; omega))
    refine wpAny_last 8 (fun i__ => ([(.int .i64 (i : Int)), (.int .i64 ((i / 32 : Nat) : Int)), (.pointer (some ⟨w.heap.size, i / 32, none⟩)), (.int .u32 ((wd M (i / 32) : Nat) : Int)), (.int .i64 (i : Int)), (.int .u32 ((2 ^ (i % 32) : Nat) : Int)), (.int .u32 ((wd M (i / 32) ||| 2 ^ (i % 32) : Nat) : Int)), (.pointer (some ⟨w.heap.size, i / 32, none⟩)), undef] : List Value).getD i__ undef) (fun W => Holds4 W w.heap.size (wd M) ∧ Holds4 W (w.heap.size + 1) (fun _ => 0) ∧ Below w.heap.size w W) (fun W => Holds4 W w.heap.size (wd (M ||| 2 ^ i)) ∧ Holds4 W (w.heap.size + 1) (fun _ => 0) ∧ Below w.heap.size w W) rfl (by kernel_rfl) (by kernel_rfl) ⟨fin4 q1.out M, (hold4 (by omega)).trans q2.out, (below4 hb2 (Nat.le_refl _) M).drew⟩ ?_ ?_  ?_
    · refine (stepsFrom_cons ?_ (stepsFrom_cons ?_ (stepsFrom_cons ?_ (stepsFrom_cons ?_ (stepsFrom_cons ?_ (stepsFrom_cons ?_ (stepsFrom_cons ?_ (stepsFrom_cons ?_ trivial))))))))
      · exact step_move rfl trivial _ rfl (by kernel_rfl)
      · exact step_binOp rfl trivial _ _ _ _ _ _ _ rfl rfl rfl (fun w hw => bin_quo64 i 32 (by omega) (by omega))
      · exact step_indexAddr rfl trivial _ _ _ _ _ rfl rfl rfl (fun w hw => idx4 _ _ hq w)
      · exact step_load rfl trivial _ _ _ rfl rfl (fun w hw => load4 w _ _ _ hw.1 hq)
      · exact step_move rfl trivial _ rfl (by kernel_rfl)
      · exact step_call rfl trivial 225 _ _ [(.int .i64 (i : Int))] rfl (by kernel_rfl) (enters_of Tryz.func225 (by kernel_rfl) rfl) (fun w hw => (bit_any i (by omega) w).mono (by rintro e w' ⟨rfl, rfl⟩; exact ⟨rfl, hw⟩))
      · exact step_binOp rfl trivial _ _ _ _ _ _ _ rfl rfl rfl (fun w hw => bin_or32 _ _ (wd_lt _ _) (pow_bit i))
      · exact step_indexAddr rfl trivial _ _ _ _ _ rfl rfl rfl (fun w hw => idx4 _ _ hq w)
    · intro o ho
      cases ho
      exact step_store rfl trivial rfl _ _ _ _ _ rfl rfl rfl (fun w' hw => by obtain ⟨w2, e1, e2, e3, e4⟩ := store4 w' _ _ _ _ hw.1 hq; refine ⟨w2, e1, e2.congr (fun j hj => ?_), (e4 _ (by omega)).trans hw.2.1, hw.2.2.trans (e3 _ (Nat.le_refl _))⟩; rw [wd_bit]; split <;> simp_all)
    intro W hW
    first | refine hK _ _ ?_ | refine (‹∀ (a : Act) (w : World), Code.wp Tryz.prog _ _ a w → _›) _ _ ?_ | skip
    simp only [finL, List.getD_cons_zero, List.getD_cons_succ, Nat.zero_add, Nat.reduceAdd, List.setIfInBounds_toArray, List.set_cons_zero, List.set_cons_succ]
    obtain ⟨g1, g2, g3⟩ := hW
    obtain ⟨x0, x1, x2, x3, _⟩ := g1.facts
    obtain ⟨u0, u1, u2, u3, v0, v1, v2, v3⟩ := g2.facts
    have H2 : Hid (Holds4 W (w.heap.size + 1) (fun _ => 0)) := g2
    clear g1 g2 hK q1 q2 y0 y1 y2 y3 z0 z1 z2 z3 hb hb2
    go_wp2
    exact ret4t rfl rfl rfl rfl (fin4 H2.out _) ⟨rfl, below4 g3 (by omega) _⟩
  · simp only [h, decide_false] at hid
    have hV : withV N id = .tuple #[sv 0, .int .i64 30] := by rw [withV, if_neg h]
    rw [hV]
    have g2 : Holds4 ((w.alloc (.cells (cells4 (wd N)) 51)).alloc (.cells (cells4 (fun _ => 0)) 51)) (w.heap.size + 1) (fun _ => 0) := get_new (by simp)
    simp only [sv]
    clear hc
    go_enter Tryz.func178, Tryz.ntmps178
    go_wp2_with (go_at_call 223; refine (hid _).mono ?_; rintro e w1 ⟨rfl, rfl⟩)
    refine ret4t (M := 0) rfl rfl rfl rfl (g2.congr (fun j _ => by simp [wd])) ⟨?_, ((Below.refl _ w).alloc (by simp) _).alloc (by simp) _⟩
    rfl
def topW (n : Int) : Nat := (min (max n 0) 100).toNat
def wthB (N : Nat) (n : Int) : Bool := decide (N = N % 2 ^ topW n)
theorem topW_le (n : Int) : topW n ≤ 100 := by unfold topW; omega
theorem topW_lt (n : Int) (i : Nat) : i < topW n ↔ (i : Int) < n ∧ i < 100 := by unfold topW; omega
theorem bi_max {P : Program} (cs : Array Bool) (ts : Array TypeId) (t : TypeId) (x y : Int) (w : World) : (builtin .max ts t cs #[.int .i64 x, .int .i64 y]).run P w = .ok (.value (.int .i64 (max x y))) w := by
  show ((do pure (.value (← Builtin.max_ ts t #[.int .i64 x, .int .i64 y]))) : Sem Next).run P w = _
  rw [Sem.run_bind, run_max_int2]
  simp only [Result.andThen_ok, Sem.run_pure]
  by_cases h : y > x
  · rw [if_pos h, show max x y = y by omega]
  · rw [if_neg h, show max x y = x by omega]
theorem bi_min {P : Program} (cs : Array Bool) (ts : Array TypeId) (t : TypeId) (x y : Int) (w : World) : (builtin .min ts t cs #[.int .i64 x, .int .i64 y]).run P w = .ok (.value (.int .i64 (min x y))) w := by
  show ((do pure (.value (← Builtin.min_ ts t #[.int .i64 x, .int .i64 y]))) : Sem Next).run P w = _
  rw [Sem.run_bind, run_min_int2]
  simp only [Result.andThen_ok, Sem.run_pure]
  by_cases h : y < x
  · rw [if_pos h, show min x y = y by omega]
  · rw [if_neg h, show min x y = x by omega]
set_option maxHeartbeats 1000000 in
set_option maxRecDepth 100000 in
theorem within_any (N : Nat) (hN : N < S128) (n : Int) (w : World) : Calls Tryz.prog 184 #[sv N, .int .i64 n] w fun e w' => e = .returned (.bool (wthB N n)) ∧ Below w.heap.size w w' := by
  have hmx : Tryz.prog.follows .mixedOrders = true := by kernel_rfl
  have hbl := below_any N (topW n) (by have := topW_le n; omega)
  have hq : (topW n : Int) = min (max n 0) 100 := by unfold topW; omega
  have hlt : N % 2 ^ topW n < S128 := Nat.lt_of_le_of_lt (Nat.mod_le _ _) hN
  go_enter Tryz.func184, Tryz.ntmps184
  simp only [sv]
  go_wp2
  rename_i Q0 K0 hK
  refine wp_region_any hmx ?_
  refine wpAny_pure (fun i__ => ([(sv N), (sv N), (.int .i64 n), (.int .i64 (max n 0)), (.int .i64 (topW n : Nat)), (sv (N % 2 ^ topW n)), (.bool (wthB N n)), (.bool (wthB N n))] : List Value).getD i__ undef) (fun W => Holds4 W w.heap.size (wd N) ∧ Below w.heap.size w W) (by kernel_rfl) ⟨get_new (by simp), (alloc_below w _).drew⟩ ?_ ?_
  · refine (stepsFrom_cons ?_ (stepsFrom_cons ?_ (stepsFrom_cons ?_ (stepsFrom_cons ?_ (stepsFrom_cons ?_ (stepsFrom_cons ?_ (stepsFrom_cons ?_ (stepsFrom_cons ?_ trivial))))))))
    · exact step_load rfl trivial _ _ _ rfl rfl (fun w hw => whole4 w _ N hw.1)
    · exact step_load rfl trivial _ _ _ rfl rfl (fun w hw => whole4 w _ N hw.1)
    · exact step_move rfl trivial _ rfl (by kernel_rfl)
    · exact step_bi rfl trivial _ _ _ [(.int .i64 n), (Go.Value.int Go.IntKind.i64 0)] rfl (by kernel_rfl) (fun cs w hw => bi_max cs _ _ n 0 w)
    · exact step_bi rfl trivial _ _ _ [(.int .i64 (max n 0)), (Go.Value.int Go.IntKind.i64 100)] rfl (by kernel_rfl) (fun cs w hw => by rw [hq]; exact bi_min cs _ _ _ 100 w)
    · exact step_call rfl trivial 231 _ _ [(sv N), (.int .i64 (topW n : Nat))] rfl (by kernel_rfl) (enters_of Tryz.func231 (by kernel_rfl) rfl) (fun w hw => (hbl w).mono (by rintro e w' ⟨rfl, hb⟩; exact ⟨rfl, hw.1.carry hb, bcarry hw.2 (Nat.le_refl _) hb⟩))
    · exact step_binOp rfl trivial _ _ _ _ _ _ _ rfl rfl rfl (fun w hw => eql4 _ _ _ _ hN hlt w)
    · exact step_assign rfl trivial _ rfl (by kernel_rfl) (fun _ h => h)
  intro W hW
  first | refine hK _ _ ?_ | refine (‹∀ (a : Act) (w : World), Code.wp Tryz.prog _ _ a w → _›) _ _ ?_ | skip
  simp only [finL, List.getD_cons_zero, List.getD_cons_succ, Nat.zero_add, Nat.reduceAdd, List.setIfInBounds_toArray, List.set_cons_zero, List.set_cons_succ]
  go_wp2
  go_ret
  exact ⟨rfl, hW.2⟩
end Go.Proofs.YtklnfbanfgdgcaaGreatDoor
