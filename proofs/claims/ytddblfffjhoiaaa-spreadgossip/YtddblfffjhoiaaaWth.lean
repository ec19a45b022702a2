/- idset.Full, With, Without: what they answer, at every input. -/
import Derived.Test.YtddblfffjhoiaaaSla
namespace Go.Proofs.Ytddblfffjhoiaaa
open Go.RowKit Go.Shelf Go.Lib

def fullN (n : Nat) : Nat := 2 ^ n - 1
theorem testBit_full (n i : Nat) : (fullN n).testBit i = decide (i < n) := by rw [fullN, Nat.testBit_two_pow_sub_one]
theorem wd_full (n k : Nat) : wd (fullN n) k = lowN ((n : Int) - (k : Int) * 32) := by
  apply Nat.eq_of_testBit_eq; intro i
  rw [testBit_wd, testBit_full, lowN, Nat.testBit_two_pow_sub_one]
  by_cases h : i < 32
  · have e : (32 * k + i < n) = (i < (min (max ((n : Int) - (k : Int) * 32) 0) 32).toNat) := by simp; omega
    simp [h, e]
  · have e : ¬ (i < (min (max ((n : Int) - (k : Int) * 32) 0) 32).toNat) := by omega
    simp [h, e]
theorem mix_full (c : Nat → Nat) (k j : Nat) : (if j = k then c k else if j < k then c j else 0) = if j < k + 1 then c j else 0 := by
  by_cases q : j = k
  · subst q; simp
  · by_cases q2 : j < k
    · rw [if_neg q, if_pos q2, if_pos (by omega)]
    · rw [if_neg q, if_neg q2, if_neg (by omega)]
def fullV (n : Int) : Value := if 0 ≤ n ∧ n ≤ 100 then .tuple #[sv (fullN n.toNat), .int .i64 0] else .tuple #[sv 0, .int .i64 1]
theorem wd_zero (j : Nat) : wd 0 j = 0 := by simp [wd]
theorem wd_pow (i j : Nat) : wd (2 ^ i) j = if j = i / 32 then 2 ^ (i % 32) else 0 := by
  have := wd_bit 0 i j
  simpa [wd_zero] using this
theorem wd_less (N i j : Nat) : wd (dif N (2 ^ i)) j = if j = i / 32 then wd N j &&& (4294967295 - 2 ^ (i % 32)) else wd N j := by
  rw [wd_dif, wd_pow]
  split
  · rfl
  · rw [Nat.sub_zero, show (4294967295 : Nat) = 2 ^ 32 - 1 from rfl, Nat.and_two_pow_sub_one_eq_mod]
    exact Nat.mod_eq_of_lt (wd_lt N j)
def withV (N : Nat) (id : Int) : Value := if 0 ≤ id ∧ id < 100 then .tuple #[sv (cln N ||| 2 ^ id.toNat), .int .i64 0] else .tuple #[sv 0, .int .i64 30]
theorem pow_bit (i : Nat) : 2 ^ (i % 32) < 4294967296 := Nat.pow_lt_pow_right (a := 2) (n := 32) (by decide) (Nat.mod_lt _ (by decide))
set_option maxHeartbeats 1000000 in
set_option maxRecDepth 100000 in
theorem with_any (N : Nat) (id : Int) (w : World) : Calls Try.prog 44 #[sv N, .int .i64 id] w fun e w' => e = .returned (withV N id) ∧ Below w.heap.size w w' := by
  have hmx : Try.prog.follows .mixedOrders = true := by kernel_rfl
  have hc := clean_any N
  have hid := isId_any id
  by_cases h : 0 ≤ id ∧ id < 100
  · obtain ⟨i, rfl⟩ := Int.eq_ofNat_of_zero_le h.1
    have hi : i < 100 := by omega
    have hq : i / 32 < 4 := by omega
    simp only [h, and_self, decide_true] at hid
    have hV : withV N (i : Int) = .tuple #[sv (cln N ||| 2 ^ i), .int .i64 0] := by rw [withV, if_pos h]; rfl
    rw [hV]
    generalize cln N = M at *
    simp only [sv] at hc ⊢
    go_enter Try.func44, Try.ntmps44
    go_wp2_with (first | (go_at_call 56; refine (hid _).mono ?_; rintro e w1 ⟨rfl, rfl⟩) | (go_at_call 57; refine (hc _).mono ?_; rintro e w1 ⟨rfl, hb⟩; have q1 : Hid (Holds4 w1 w.heap.size (wd N)) := (hb.block _ (by simp; omega)).trans (get_old (get_new (by simp))); have q2 : Hid (Holds4 w1 (w.heap.size + 1) (fun _ => 0)) := (hb.block _ (by simp)).trans (get_new (by simp)); obtain ⟨y0, y1, y2, y3, z0, z1, z2, z3⟩ := q1.out.facts))
    clear hc hid
    rename_i Q0 K0 hK
    refine wp_region_any hmx ?_
    have hb2 : Below w.heap.size w w1 := (((Below.refl _ w).alloc (by simp) _).alloc (by simp) _).trans (hb.mono (by simp; omega))
    refine wpAny_last 8 (fun i__ => ([(.int .i64 (i : Int)), (.int .i64 ((i / 32 : Nat) : Int)), (.pointer (some ⟨w.heap.size, i / 32, none⟩)), (.int .u32 ((wd M (i / 32) : Nat) : Int)), (.int .i64 (i : Int)), (.int .u32 ((2 ^ (i % 32) : Nat) : Int)), (.int .u32 ((wd M (i / 32) ||| 2 ^ (i % 32) : Nat) : Int)), (.pointer (some ⟨w.heap.size, i / 32, none⟩)), undef] : List Value).getD i__ undef) (fun W => Holds4 W w.heap.size (wd M) ∧ Holds4 W (w.heap.size + 1) (fun _ => 0) ∧ Below w.heap.size w W) (fun W => Holds4 W w.heap.size (wd (M ||| 2 ^ i)) ∧ Holds4 W (w.heap.size + 1) (fun _ => 0) ∧ Below w.heap.size w W) rfl (by kernel_rfl) (by kernel_rfl) ⟨fin4 q1.out M, (hold4 (by omega)).trans q2.out, (below4 hb2 (Nat.le_refl _) M).drew⟩ ?_ ?_  ?_
    · refine (stepsFrom_cons ?_ (stepsFrom_cons ?_ (stepsFrom_cons ?_ (stepsFrom_cons ?_ (stepsFrom_cons ?_ (stepsFrom_cons ?_ (stepsFrom_cons ?_ (stepsFrom_cons ?_ trivial))))))))
      · exact step_move rfl trivial _ rfl (by kernel_rfl)
      · exact step_binOp rfl trivial _ _ _ _ _ _ _ rfl rfl rfl (fun w hw => bin_quo64 i 32 (by omega) (by omega))
      · exact step_indexAddr rfl trivial _ _ _ _ _ rfl rfl rfl (fun w hw => idx4 _ _ hq w)
      · exact step_load rfl trivial _ _ _ rfl rfl (fun w hw => load4 w _ _ _ hw.1 hq)
      · exact step_move rfl trivial _ rfl (by kernel_rfl)
      · exact step_call rfl trivial 58 _ _ [(.int .i64 (i : Int))] rfl (by kernel_rfl) (enters_of Try.func58 (by kernel_rfl) rfl) (fun w hw => (bit_any i (by omega) w).mono (by rintro e w' ⟨rfl, rfl⟩; exact ⟨rfl, hw⟩))
      · exact step_binOp rfl trivial _ _ _ _ _ _ _ rfl rfl rfl (fun w hw => bin_or32 _ _ (wd_lt _ _) (pow_bit i))
      · exact step_indexAddr rfl trivial _ _ _ _ _ rfl rfl rfl (fun w hw => idx4 _ _ hq w)
    · intro o ho
      cases ho
      exact step_store rfl trivial rfl _ _ _ _ _ rfl rfl rfl (fun w' hw => by obtain ⟨w2, e1, e2, e3, e4⟩ := store4 w' _ _ _ _ hw.1 hq; refine ⟨w2, e1, e2.congr (fun j hj => ?_), (e4 _ (by omega)).trans hw.2.1, hw.2.2.trans (e3 _ (Nat.le_refl _))⟩; rw [wd_bit]; split <;> simp_all)
    intro W hW
    first | refine hK _ _ ?_ | refine (‹∀ (a : Act) (w : World), Code.wp Try.prog _ _ a w → _›) _ _ ?_
    simp only [finL, List.getD_cons_zero, List.getD_cons_succ, Nat.zero_add, Nat.reduceAdd, List.setIfInBounds_toArray, List.set_cons_zero, List.set_cons_succ]
    obtain ⟨g1, g2, g3⟩ := hW
    obtain ⟨x0, x1, x2, x3, _⟩ := g1.facts
    obtain ⟨u0, u1, u2, u3, v0, v1, v2, v3⟩ := g2.facts
    have H2 : Hid (Holds4 W (w.heap.size + 1) (fun _ => 0)) := g2
    clear g1 g2 hK q1 q2 y0 y1 y2 y3 z0 z1 z2 z3 hb hb2
    go_wp2
    exact ret4t rfl rfl rfl rfl (fin4 H2.out _) ⟨rfl, below4 g3 (by omega) _⟩
  · simp only [h, decide_false] at hid
    have hV : withV N id = .tuple #[sv 0, .int .i64 30] := by rw [withV, if_neg h]
    rw [hV]
    have g2 : Holds4 ((w.alloc (.cells (cells4 (wd N)) 37)).alloc (.cells (cells4 (fun _ => 0)) 37)) (w.heap.size + 1) (fun _ => 0) := get_new (by simp)
    simp only [sv]
    clear hc
    go_enter Try.func44, Try.ntmps44
    go_wp2_with (go_at_call 56; refine (hid _).mono ?_; rintro e w1 ⟨rfl, rfl⟩)
    refine ret4t (M := 0) rfl rfl rfl rfl (g2.congr (fun j _ => by simp [wd])) ⟨?_, ((Below.refl _ w).alloc (by simp) _).alloc (by simp) _⟩
    rfl
end Go.Proofs.Ytddblfffjhoiaaa
