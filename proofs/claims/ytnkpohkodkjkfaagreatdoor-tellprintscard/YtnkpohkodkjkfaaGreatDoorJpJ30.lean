/- The cells of notices, one behind the other; rows that a call owns. -/
import Derived.Test.YtnkpohkodkjkfaaGreatDoorJpJ29
import Derived.Maps.AppendAt
import Derived.OwnWalk
import Derived.Laws.OwnMore
import Derived.Test.YtnkpohkodkjkfaaGreatDoorJpJ27
set_option maxHeartbeats 40000000
set_option maxRecDepth 100000
set_option linter.unusedVariables false
namespace Go.Proofs.YtnkpohkodkjkfaaGreatDoor
open Go.RowKit Go.Shelf

/-- The cells of notices. -/
def fl (l : List (Int × Int × Int)) : List Value := l.flatMap fun x => [.int .i64 x.1, .int .i64 x.2.1, .int .i64 x.2.2]
theorem fl_nil : fl [] = [] := rfl
theorem fl_cons (x : Int × Int × Int) (l : List (Int × Int × Int)) : fl (x :: l) = .int .i64 x.1 :: .int .i64 x.2.1 :: .int .i64 x.2.2 :: fl l := rfl
theorem fl_append (a b : List (Int × Int × Int)) : fl (a ++ b) = fl a ++ fl b := by simp [fl]
theorem fl_len : ∀ l : List (Int × Int × Int), (fl l).length = l.length * 3
  | [] => rfl
  | x :: l => by rw [fl_cons]; simp only [List.length_cons, fl_len l]; omega
theorem fl_get : ∀ (l : List (Int × Int × Int)) (k : Nat) (x : Int × Int × Int), l[k]? = some x → (fl l)[k * 3]? = some (.int .i64 x.1) ∧ (fl l)[k * 3 + 1]? = some (.int .i64 x.2.1) ∧ (fl l)[k * 3 + 2]? = some (.int .i64 x.2.2)
  | [], k, x, h => by simp at h
  | y :: l, 0, x, h => by
    simp at h
    subst h
    exact ⟨rfl, rfl, rfl⟩
  | y :: l, k + 1, x, h => by
    have ih := fl_get l k x (by simpa using h)
    rw [fl_cons, show (k + 1) * 3 = k * 3 + 3 by omega]
    exact ih
theorem fl_inv : ∀ (l : List (Int × Int × Int)) (j : Nat) (u : Value), (fl l)[j]? = some u → ∃ k x, l[k]? = some x ∧ ((j = k * 3 ∧ u = .int .i64 x.1) ∨ (j = k * 3 + 1 ∧ u = .int .i64 x.2.1) ∨ (j = k * 3 + 2 ∧ u = .int .i64 x.2.2))
  | [], j, u, h => by simp [fl_nil] at h
  | y :: l, 0, u, h => ⟨0, y, rfl, .inl ⟨rfl, (Option.some.inj h).symm⟩⟩
  | y :: l, 1, u, h => ⟨0, y, rfl, .inr (.inl ⟨rfl, (Option.some.inj h).symm⟩)⟩
  | y :: l, 2, u, h => ⟨0, y, rfl, .inr (.inr ⟨rfl, (Option.some.inj h).symm⟩)⟩
  | y :: l, j + 3, u, h => by
    obtain ⟨k, x, h1, h2⟩ := fl_inv l j u h
    refine ⟨k + 1, x, by simpa using h1, ?_⟩
    rcases h2 with ⟨e, f⟩ | ⟨e, f⟩ | ⟨e, f⟩
    · exact .inl ⟨by omega, f⟩
    · exact .inr (.inl ⟨by omega, f⟩)
    · exact .inr (.inr ⟨by omega, f⟩)
theorem fl_one (l : List (Int × Int × Int)) : ∀ u ∈ fl l, u.oneCell' = true := by
  intro u hu
  obtain ⟨j, hj⟩ := List.mem_iff_getElem?.1 hu
  obtain ⟨k, x, _, h⟩ := fl_inv l j u hj
  rcases h with ⟨_, rfl⟩ | ⟨_, rfl⟩ | ⟨_, rfl⟩ <;> rfl
theorem add_pl (b off j : Nat) : (⟨b, off, none⟩ : Addr).add j = ⟨b, off + j, none⟩ := by unfold Addr.add; split <;> simp_all
theorem nts_src {W : World} {b off : Nat} {l : List (Int × Int × Int)} (h : NtsAt W b off l) : ∀ j u, (fl l)[j]? = some u → W.cell? ((⟨b, off, none⟩ : Addr).add j) = some u := by
  intro j u hj
  rw [add_pl]
  obtain ⟨k, x, hx, e⟩ := fl_inv l j u hj
  obtain ⟨c0, c1, c2⟩ := h k x hx
  rcases e with ⟨rfl, rfl⟩ | ⟨rfl, rfl⟩ | ⟨rfl, rfl⟩
  · exact c0
  · exact c1
  · exact c2
theorem nts_own {W : World} {base g n cap : Nat} {l : List (Int × Int × Int)} (h : W.ownsRow base 99 3 (.slice (some ⟨g, 0, none⟩) n cap) n (fl l)) (hn : n = l.length) : NtsAt W g 0 l := by
  intro k x hk
  have hlt : k < l.length := (List.getElem?_eq_some_iff.1 hk).1
  obtain ⟨c0, c1, c2⟩ := fl_get l k x hk
  rw [Nat.zero_add]
  exact ⟨(h.cellAt _ (by omega)).trans c0, (h.cellAt _ (by omega)).trans c1, (h.cellAt _ (by omega)).trans c2⟩
theorem infoN : (Tryz.prog.info? 99).map (fun i => (i.zero, i.size, i.bytes)) = some (some (.agg #[.int .i64 0, .int .i64 0, .int .i64 0]), 3, 24) := by kernel_rfl
theorem info_partsN : ∃ i, Tryz.prog.info? 99 = some i ∧ i.zero = some (.agg #[.int .i64 0, .int .i64 0, .int .i64 0]) ∧ i.size = 3 ∧ i.bytes = 24 := by
  have h := infoN
  cases hi : Tryz.prog.info? 99 with
  | none => rw [hi] at h; cases h
  | some i =>
    rw [hi] at h
    simp only [Option.map_some, Option.some.injEq, Prod.mk.injEq] at h
    exact ⟨i, rfl, h.1, h.2.1, h.2.2⟩
theorem own_form {w : World} {base : Nat} {e : TypeId} {size : Nat} {v : Value} {n : Nat} {xs : List Value} (h : w.ownsRow base e size v n xs) : (v = .slice none 0 0 ∧ n = 0) ∨ ∃ g cap, v = .slice (some ⟨g, 0, none⟩) n cap ∧ base ≤ g ∧ g < w.heap.size ∧ n ≤ cap := by
  rcases h.2 with ⟨rfl, rfl⟩ | ⟨g, cap, cur, rfl, h4, h5, h6, _⟩
  · exact .inl ⟨rfl, rfl⟩
  · exact .inr ⟨g, cap, rfl, h4, lt_at h5, h6⟩
theorem own_block {w : World} {base : Nat} {e : TypeId} {size : Nat} {v : Value} {n : Nat} {xs : List Value} (h : w.ownsRow base e size v n xs) : ∀ g, v.ownBlock = some g → base ≤ g := by
  intro g hg
  rcases h.2 with ⟨rfl, _⟩ | ⟨g', cap, cur, rfl, h4, h5, _⟩
  · simp [Value.ownBlock] at hg
  · simp [Value.ownBlock] at hg
    omega
theorem rowN (W : World) (cs : Array Value) (t : TypeId) : ∀ j u, cs.toList[j]? = some u → (W.alloc (.cells cs t)).cell? ((⟨W.heap.size, 0, none⟩ : Addr).add j) = some u := by
  intro j u h
  have hg : (W.alloc (.cells cs t)).heap[W.heap.size]? = some (.cells cs t) := new_at rfl
  rw [add_pl, Nat.zero_add, cell_at hg j, ← h]
  simp
end Go.Proofs.YtnkpohkodkjkfaaGreatDoor
namespace Go.Proofs.YtnkpohkodkjkfaaGreatDoor
open Go.RowKit Go.Shelf Go.Lib
def topW (n : Int) : Nat := (min (max n 0) 100).toNat
def wthB (N : Nat) (n : Int) : Bool := decide (N = N % 2 ^ topW n)
theorem topW_le (n : Int) : topW n ≤ 100 := by unfold topW; omega
theorem topW_lt (n : Int) (i : Nat) : i < topW n ↔ (i : Int) < n ∧ i < 100 := by unfold topW; omega
theorem bi_max {P : Program} (cs : Array Bool) (ts : Array TypeId) (t : TypeId) (x y : Int) (w : World) : (builtin .max ts t cs #[.int .i64 x, .int .i64 y]).run P w = .ok (.value (.int .i64 (max x y))) w := by
  show ((do pure (.value (← Builtin.max_ ts t #[.int .i64 x, .int .i64 y]))) : Sem Next).run P w = _
  rw [Sem.run_bind, run_max_int2]
  simp only [Result.andThen_ok, Sem.run_pure]
  by_cases h : y > x
  · rw [if_pos h, show max x y = y by omega]
  · rw [if_neg h, show max x y = x by omega]
theorem bi_min {P : Program} (cs : Array Bool) (ts : Array TypeId) (t : TypeId) (x y : Int) (w : World) : (builtin .min ts t cs #[.int .i64 x, .int .i64 y]).run P w = .ok (.value (.int .i64 (min x y))) w := by
  show ((do pure (.value (← Builtin.min_ ts t #[.int .i64 x, .int .i64 y]))) : Sem Next).run P w = _
  rw [Sem.run_bind, run_min_int2]
  simp only [Result.andThen_ok, Sem.run_pure]
  by_cases h : y < x
  · rw [if_pos h, show min x y = y by omega]
  · rw [if_neg h, show min x y = x by omega]
set_option maxHeartbeats 1000000 in
set_option maxRecDepth 100000 in
theorem within_any (N : Nat) (hN : N < S128) (n : Int) (w : World) : Calls Tryz.prog 75 #[sv N, .int .i64 n] w fun e w' => e = .returned (.bool (wthB N n)) ∧ Below w.heap.size w w' := by
  have hmx : Tryz.prog.follows .mixedOrders = true := by kernel_rfl
  have hbl := below_any N (topW n) (by have := topW_le n; omega)
  have hq : (topW n : Int) = min (max n 0) 100 := by unfold topW; omega
  have hlt : N % 2 ^ topW n < S128 := Nat.lt_of_le_of_lt (Nat.mod_le _ _) hN
  go_enter Tryz.func75, Tryz.ntmps75
  simp only [sv]
  go_wp2
  rename_i Q0 K0 hK
  refine wp_region_any hmx ?_
  refine wpAny_pure (fun i__ => ([(sv N), (sv N), (.int .i64 n), (.int .i64 (max n 0)), (.int .i64 (topW n : Nat)), (sv (N % 2 ^ topW n)), (.bool (wthB N n)), (.bool (wthB N n))] : List Value).getD i__ undef) (fun W => Holds4 W w.heap.size (wd N) ∧ Below w.heap.size w W) (by kernel_rfl) ⟨get_newQ (by simp), (alloc_below w _).drew⟩ ?_ ?_
  · refine (stepsFrom_cons ?_ (stepsFrom_cons ?_ (stepsFrom_cons ?_ (stepsFrom_cons ?_ (stepsFrom_cons ?_ (stepsFrom_cons ?_ (stepsFrom_cons ?_ (stepsFrom_cons ?_ trivial))))))))
    · exact step_load rfl trivial _ _ _ rfl rfl (fun w hw => whole4 w _ N hw.1)
    · exact step_load rfl trivial _ _ _ rfl rfl (fun w hw => whole4 w _ N hw.1)
    · exact step_move rfl trivial _ rfl (by kernel_rfl)
    · exact step_bi rfl trivial _ _ _ [(.int .i64 n), (Go.Value.int Go.IntKind.i64 0)] rfl (by kernel_rfl) (fun cs w hw => bi_max cs _ _ n 0 w)
    · exact step_bi rfl trivial _ _ _ [(.int .i64 (max n 0)), (Go.Value.int Go.IntKind.i64 100)] rfl (by kernel_rfl) (fun cs w hw => by rw [hq]; exact bi_min cs _ _ _ 100 w)
    · exact step_call rfl trivial 96 _ _ [(sv N), (.int .i64 (topW n : Nat))] rfl (by kernel_rfl) (enters_of Tryz.func96 (by kernel_rfl) rfl) (fun w hw => (hbl w).mono (by rintro e w' ⟨rfl, hb⟩; exact ⟨rfl, hw.1.carry hb, bcarry hw.2 (Nat.le_refl _) hb⟩))
    · exact step_binOp rfl trivial _ _ _ _ _ _ _ rfl rfl rfl (fun w hw => eql4 _ _ _ _ hN hlt w)
    · exact step_assign rfl trivial _ rfl (by kernel_rfl) (fun _ h => h)
  intro W hW
  first | refine hK _ _ ?_ | refine (‹∀ (a : Act) (w : World), Code.wp Tryz.prog _ _ a w → _›) _ _ ?_ | skip
  simp only [finL, List.getD_cons_zero, List.getD_cons_succ, Nat.zero_add, Nat.reduceAdd, List.setIfInBounds_toArray, List.set_cons_zero, List.set_cons_succ]
  go_wp2
  go_ret
  exact ⟨rfl, hW.2⟩
end Go.Proofs.YtnkpohkodkjkfaaGreatDoor
namespace Go.Proofs.YtnkpohkodkjkfaaGreatDoor
open Go.RowKit

/-- All of them are bytes. -/
def Byt (l : List Nat) : Prop := ∀ x ∈ l, x < 256
theorem Byt.append {a b : List Nat} (h : Byt a) (k : Byt b) : Byt (a ++ b) := by
  intro x hx
  rcases List.mem_append.1 hx with q | q
  · exact h x q
  · exact k x q
theorem byt_nil : Byt [] := by intro x hx; cases hx
theorem byt_cons {x : Nat} {l : List Nat} (h : x < 256) (k : Byt l) : Byt (x :: l) := by
  intro y hy
  rcases List.mem_cons.1 hy with rfl | q
  · exact h
  · exact k y q
/-- The two halves of the sum, from there on. -/
def sumF : Nat → Nat → List Nat → Nat × Nat
  | p, q, [] => (p, q)
  | p, q, x :: l => sumF ((p + x) % 65521) ((q + (p + x) % 65521) % 65521) l
def sumV (l : List Nat) : Nat := (sumF 1 0 l).2 * 65536 + (sumF 1 0 l).1
theorem sumF_lt : ∀ (l : List Nat) (p q : Nat), p < 65521 → q < 65521 → (sumF p q l).1 < 65521 ∧ (sumF p q l).2 < 65521
  | [], p, q, h, k => ⟨h, k⟩
  | x :: l, p, q, h, k => sumF_lt l _ _ (Nat.mod_lt _ (by decide)) (Nat.mod_lt _ (by decide))
theorem sumF_drop (l : List Nat) (k p q x : Nat) (h : l[k]? = some x) : sumF p q (l.drop k) = sumF ((p + x) % 65521) ((q + (p + x) % 65521) % 65521) (l.drop (k + 1)) := by
  obtain ⟨hk, rfl⟩ := List.getElem?_eq_some_iff.1 h
  rw [List.drop_eq_getElem_cons hk]
  rfl
/-- A number in so many bytes, the highest first. -/
def numB (v : Nat) : Nat → List Nat
  | 0 => []
  | m + 1 => (v / 2 ^ (8 * m) % 256) :: numB v m
theorem numB_len (v : Nat) : ∀ m, (numB v m).length = m
  | 0 => rfl
  | m + 1 => by rw [numB, List.length_cons, numB_len v m]
theorem numB_byt (v : Nat) : ∀ m, Byt (numB v m)
  | 0 => byt_nil
  | m + 1 => byt_cons (Nat.mod_lt _ (by decide)) (numB_byt v m)
/-- What number bytes are, behind another one. -/
def valB : Nat → List Nat → Nat
  | v, [] => v
  | v, x :: l => valB (v * 256 + x) l
theorem valB_num (u : Nat) : ∀ (m v : Nat), valB v (numB u m) = v * 2 ^ (8 * m) + u % 2 ^ (8 * m)
  | 0, v => by rw [numB, valB, Nat.mul_zero, Nat.pow_zero, Nat.mod_one]; omega
  | m + 1, v => by
    rw [numB, valB, valB_num u m]
    have h1 : 2 ^ (8 * (m + 1)) = 256 * 2 ^ (8 * m) := by rw [Nat.mul_add, Nat.pow_add, Nat.mul_comm]
    have h2 : u % (2 ^ (8 * m) * 256) = u % 2 ^ (8 * m) + 2 ^ (8 * m) * (u / 2 ^ (8 * m) % 256) := Nat.mod_mul
    rw [h1, Nat.mul_comm 256, h2, Nat.add_mul, Nat.mul_assoc v 256, Nat.mul_comm 256 (2 ^ (8 * m)), Nat.mul_comm (u / 2 ^ (8 * m) % 256)]
    omega
/-- Bytes of a set, from one on, so many. -/
def stB (N : Nat) : Nat → Nat → List Nat
  | _, 0 => []
  | i, m + 1 => (N / 2 ^ (8 * i) % 256) :: stB N (i + 1) m
theorem stB_len (N : Nat) : ∀ (m i : Nat), (stB N i m).length = m
  | 0, i => rfl
  | m + 1, i => by rw [stB, List.length_cons, stB_len N m]
theorem stB_byt (N : Nat) : ∀ (m i : Nat), Byt (stB N i m)
  | 0, i => byt_nil
  | m + 1, i => byt_cons (Nat.mod_lt _ (by decide)) (stB_byt N m _)
/-- How many bytes a set of n nodes has. -/
def hsz (n : Nat) : Nat := (n + 7) / 8
/-- Notices as bytes. -/
def newsB : List (Int × Int × Int) → List Nat
  | [] => []
  | x :: l => x.1.toNat % 256 :: x.2.2.toNat % 256 :: (numB x.2.1.toNat 3 ++ newsB l)
theorem newsB_len : ∀ l, (newsB l).length = 5 * l.length
  | [] => rfl
  | x :: l => by
    rw [newsB, List.length_cons, List.length_cons, List.length_append, numB_len, newsB_len l, List.length_cons]
    omega
theorem newsB_byt : ∀ l, Byt (newsB l)
  | [] => byt_nil
  | x :: l => byt_cons (Nat.mod_lt _ (by decide)) (byt_cons (Nat.mod_lt _ (by decide)) ((numB_byt _ _).append (newsB_byt l)))
theorem newsB_app : ∀ a b, newsB (a ++ b) = newsB a ++ newsB b
  | [], b => rfl
  | x :: a, b => by simp [newsB, newsB_app a b]
/-- The round's bytes, the set's bytes. -/
def rndB (kd rd : Nat) : List Nat := if kd = 3 then [] else numB rd 5
def setB (kd n N : Nat) : List Nat := if kd = 2 then stB N 0 (hsz n) else []
/-- A note's form, but for its sum. -/
def frm (kd n fr rd N : Nat) (l : List (Int × Int × Int)) : List Nat :=
  [101, 115, kd % 256, n % 256, fr % 256] ++ (rndB kd rd ++ (setB kd n N ++ (l.length % 256 :: newsB l)))
def byt7 (kd n fr rd N : Nat) (l : List (Int × Int × Int)) : List Nat := frm kd n fr rd N l ++ numB (sumV (frm kd n fr rd N l)) 4
theorem rndB_len (kd rd : Nat) : (rndB kd rd).length ≤ 5 := by unfold rndB; split <;> simp [numB_len]
theorem rndB_byt (kd rd : Nat) : Byt (rndB kd rd) := by
  unfold rndB
  split
  · exact byt_nil
  · exact numB_byt _ _
theorem setB_len (kd n N : Nat) : (setB kd n N).length ≤ hsz n := by unfold setB; split <;> simp [stB_len]
theorem setB_byt (kd n N : Nat) : Byt (setB kd n N) := by
  unfold setB
  split
  · exact stB_byt _ _ _
  · exact byt_nil
theorem frm_byt (kd n fr rd N : Nat) (l : List (Int × Int × Int)) : Byt (frm kd n fr rd N l) :=
  Byt.append (byt_cons (by decide) (byt_cons (by decide) (byt_cons (Nat.mod_lt _ (by decide)) (byt_cons (Nat.mod_lt _ (by decide)) (byt_cons (Nat.mod_lt _ (by decide)) byt_nil))))) ((rndB_byt _ _).append ((setB_byt _ _ _).append (byt_cons (Nat.mod_lt _ (by decide)) (newsB_byt _))))
/-- Why n nodes can't have such a note. -/
def flt (kd : Nat) (n fr rd : Int) (N : Nat) (l : List (Int × Int × Int)) : Int :=
  if ¬ (1 ≤ n ∧ n ≤ 100) then 1
  else if fr < 0 ∨ n ≤ fr then 72
  else if kd ≠ 3 ∧ ¬ (1 ≤ rd ∧ rd ≤ 1099511627775) then 73
  else if wthB N n = false then 74
  else if ris n (-1) l = false then 75
  else 0
theorem flt_0 {kd : Nat} {n fr rd : Int} {N : Nat} {l : List (Int × Int × Int)} (h : flt kd n fr rd N l = 0) : (1 ≤ n ∧ n ≤ 100) ∧ (0 ≤ fr ∧ fr < n) ∧ (kd = 3 ∨ (1 ≤ rd ∧ rd ≤ 1099511627775)) ∧ wthB N n = true ∧ ris n (-1) l = true := by
  unfold flt at h
  split at h
  · cases h
  rename_i h1
  split at h
  · cases h
  rename_i h2
  split at h
  · cases h
  rename_i h3
  split at h
  · cases h
  rename_i h4
  split at h
  · cases h
  rename_i h5
  refine ⟨Classical.not_not.1 h1, by omega, ?_, by simpa using h4, by simpa using h5⟩
  by_cases hk : kd = 3
  · exact .inl hk
  · exact .inr (Classical.byContradiction fun q => h3 ⟨hk, q⟩)

end Go.Proofs.YtnkpohkodkjkfaaGreatDoor
