/- idset.Within: what it answers, at every input. -/
import Derived.Test.YtgehmidalfajgaaDoorInferNamedJ4
import Derived.Test.YtgehmidalfajgaaDoorYwa
namespace Go.Proofs.YtgehmidalfajgaaDoor
open Go.RowKit Go.Shelf Go.Lib
def topW (n : Int) : Nat := (min (max n 0) 100).toNat
def wthB (N : Nat) (n : Int) : Bool := decide (N = N % 2 ^ topW n)
theorem topW_le (n : Int) : topW n ≤ 100 := by unfold topW; omega
theorem topW_lt (n : Int) (i : Nat) : i < topW n ↔ (i : Int) < n ∧ i < 100 := by unfold topW; omega
theorem bi_max {P : Program} (cs : Array Bool) (ts : Array TypeId) (t : TypeId) (x y : Int) (w : World) : (builtin .max ts t cs #[.int .i64 x, .int .i64 y]).run P w = .ok (.value (.int .i64 (max x y))) w := by
  show ((do pure (.value (← Builtin.max_ ts t #[.int .i64 x, .int .i64 y]))) : Sem Next).run P w = _
  rw [Sem.run_bind, run_max_int2]
  simp only [Result.andThen_ok, Sem.run_pure]
  by_cases h : y > x
  · rw [if_pos h, show max x y = y by omega]
  · rw [if_neg h, show max x y = x by omega]
theorem bi_min {P : Program} (cs : Array Bool) (ts : Array TypeId) (t : TypeId) (x y : Int) (w : World) : (builtin .min ts t cs #[.int .i64 x, .int .i64 y]).run P w = .ok (.value (.int .i64 (min x y))) w := by
  show ((do pure (.value (← Builtin.min_ ts t #[.int .i64 x, .int .i64 y]))) : Sem Next).run P w = _
  rw [Sem.run_bind, run_min_int2]
  simp only [Result.andThen_ok, Sem.run_pure]
  by_cases h : y < x
  · rw [if_pos h, show min x y = y by omega]
  · rw [if_neg h, show min x y = x by omega]
set_option maxHeartbeats 1000000 in
set_option maxRecDepth 100000 in
theorem within_any (N : Nat) (hN : N < S128) (n : Int) (w : World) : Calls Tryd.prog 31 #[sv N, .int .i64 n] w fun e w' => e = .returned (.bool (wthB N n)) ∧ Below w.heap.size w w' := by
  have hmx : Tryd.prog.follows .mixedOrders = true := by kernel_rfl
  have hbl := below_any N (topW n) (by have := topW_le n; omega)
  have hq : (topW n : Int) = min (max n 0) 100 := by unfold topW; omega
  have hlt : N % 2 ^ topW n < S128 := Nat.lt_of_le_of_lt (Nat.mod_le _ _) hN
  go_enter Tryd.func31, Tryd.ntmps31
  simp only [sv]
  go_wp2
  rename_i Q0 K0 hK
  refine wp_region_any hmx ?_
  refine wpAny_pure (fun i__ => ([(sv N), (sv N), (.int .i64 n), (.int .i64 (max n 0)), (.int .i64 (topW n : Nat)), (sv (N % 2 ^ topW n)), (.bool (wthB N n)), (.bool (wthB N n))] : List Value).getD i__ undef) (fun W => Holds4 W w.heap.size (wd N) ∧ Below w.heap.size w W) (by kernel_rfl) ⟨get_new (by simp), (alloc_below w _).drew⟩ ?_ ?_
  · refine (stepsFrom_cons ?_ (stepsFrom_cons ?_ (stepsFrom_cons ?_ (stepsFrom_cons ?_ (stepsFrom_cons ?_ (stepsFrom_cons ?_ (stepsFrom_cons ?_ (stepsFrom_cons ?_ trivial))))))))
    · exact step_load rfl trivial _ _ _ rfl rfl (fun w hw => whole4 w _ N hw.1)
    · exact step_load rfl trivial _ _ _ rfl rfl (fun w hw => whole4 w _ N hw.1)
    · exact step_move rfl trivial _ rfl (by kernel_rfl)
    · exact step_bi rfl trivial _ _ _ [(.int .i64 n), (Go.Value.int Go.IntKind.i64 0)] rfl (by kernel_rfl) (fun cs w hw => bi_max cs _ _ n 0 w)
    · exact step_bi rfl trivial _ _ _ [(.int .i64 (max n 0)), (Go.Value.int Go.IntKind.i64 100)] rfl (by kernel_rfl) (fun cs w hw => by rw [hq]; exact bi_min cs _ _ _ 100 w)
    · exact step_call rfl trivial 56 _ _ [(sv N), (.int .i64 (topW n : Nat))] rfl (by kernel_rfl) (enters_of Tryd.func56 (by kernel_rfl) rfl) (fun w hw => (hbl w).mono (by rintro e w' ⟨rfl, hb⟩; exact ⟨rfl, hw.1.carry hb, bcarry hw.2 (Nat.le_refl _) hb⟩))
    · exact step_binOp rfl trivial _ _ _ _ _ _ _ rfl rfl rfl (fun w hw => eql4 _ _ _ _ hN hlt w)
    · exact step_assign rfl trivial _ rfl (by kernel_rfl) (fun _ h => h)
  intro W hW
  first | refine hK _ _ ?_ | refine (‹∀ (a : Act) (w : World), Code.wp Tryd.prog _ _ a w → _›) _ _ ?_
  simp only [finL, List.getD_cons_zero, List.getD_cons_succ, Nat.zero_add, Nat.reduceAdd, List.setIfInBounds_toArray, List.set_cons_zero, List.set_cons_succ]
  go_wp2
  go_ret
  exact ⟨rfl, hW.2⟩
end Go.Proofs.YtgehmidalfajgaaDoor
namespace Go.Proofs.YtgehmidalfajgaaDoor
open Go.RowKit Go.Shelf

structure Tl where
  n : Int
  need : Int
  ro : Int
  reps : Nat
  hs : List Nat
def isN (id n : Int) : Bool := decide (0 ≤ id ∧ id < n)
def rdy (t : Tl) : Bool := decide (0 < t.need ∧ (t.hs.length : Int) = t.need)
def wthN (N : Nat) (id : Int) : Nat := if 0 ≤ id ∧ id < 100 then cln N ||| 2 ^ id.toNat else 0
/-- Which fate befalls a reply first; 5: none. -/
def fate (t : Tl) (f r : Int) (N : Nat) : Nat := if isN f t.n = false then 0 else if wthB N t.n = false then 1 else if r ≠ t.ro then 2 else if wthN t.reps f = t.reps then 3 else if rdy t = true then 4 else 5
def cntT (t : Tl) (f : Int) (N : Nat) : Tl := ⟨t.n, t.need, t.ro, wthN t.reps f, t.hs ++ [N]⟩
def tk (t : Tl) (f r : Int) (N : Nat) : Tl := if fate t f r N = 5 then cntT t f N else t
/-- What becomes of a reply; the error. -/
def kd (i : Nat) : Int := match i with | 0 => 5 | 1 => 0 | 2 => 2 | 3 => 3 | 4 => 4 | _ => 1
def ke (i : Nat) : Int := match i with | 1 => 74 | _ => 0
theorem fate_lt (t : Tl) (f r : Int) (N : Nat) : fate t f r N ≤ 5 := by
  unfold fate
  repeat' split
  all_goals omega
/-- A tally that can be. -/
structure Tv (t : Tl) : Prop where
  n0 : 0 ≤ t.n
  n1 : t.n ≤ 100
  d0 : 0 ≤ t.need
  d1 : t.need ≤ t.n
  d2 : 0 < t.n → 0 < t.need
  len : (t.hs.length : Int) ≤ t.need
  reps : t.reps < S100
  each : ∀ N ∈ t.hs, N < S128
theorem pow_S100 {i : Nat} (h : i < 100) : 2 ^ i < S100 := by
  have := Nat.pow_lt_pow_right (a := 2) (by decide) h
  exact this
theorem or_S100 {a b : Nat} (h1 : a < S100) (h2 : b < S100) : a ||| b < S100 := Nat.or_lt_two_pow (n := 100) h1 h2
theorem cln_id {N : Nat} (h : N < S100) : cln N = N := Nat.mod_eq_of_lt h
theorem wthN_lt (N : Nat) (id : Int) : wthN N id < S100 := by
  unfold wthN
  split
  · next h => exact or_S100 (cln_lt _) (pow_S100 (by omega))
  · decide
theorem S100_S128 {N : Nat} (h : N < S100) : N < S128 := Nat.lt_trans h (by decide)
theorem Tv.count {t : Tl} (h : Tv t) {f r : Int} {N : Nat} (hN : N < S128) (hf : fate t f r N = 5) : Tv (cntT t f N) := by
  have h1 := h.len
  have h2 := h.d2
  have ⟨a, b⟩ : isN f t.n = true ∧ ¬ rdy t = true := by
    unfold fate at hf
    repeat' split at hf
    all_goals first | omega | simp_all
  simp only [isN, rdy, decide_eq_true_eq] at a b
  have hn := h.n0
  refine ⟨h.n0, h.n1, h.d0, h.d1, h.d2, ?_, wthN_lt _ _, fun M hM => ?_⟩
  · simp only [cntT, List.length_append, List.length_cons, List.length_nil]
    omega
  · rcases List.mem_append.1 hM with q | q
    · exact h.each M q
    · simp at q
      subst q
      exact hN
theorem Tv.tk {t : Tl} (h : Tv t) {f r : Int} {N : Nat} (hN : N < S128) : Tv (tk t f r N) := by
  unfold Go.Proofs.YtgehmidalfajgaaDoor.tk
  split
  · next hf => exact h.count hN hf
  · exact h
/-- The cells of sets. -/
def f4 (N : Nat) : List Value := [.int .u32 (wd N 0 : Nat), .int .u32 (wd N 1 : Nat), .int .u32 (wd N 2 : Nat), .int .u32 (wd N 3 : Nat)]
def fs (l : List Nat) : List Value := l.flatMap f4
theorem fs_cons (x : Nat) (l : List Nat) : fs (x :: l) = .int .u32 (wd x 0 : Nat) :: .int .u32 (wd x 1 : Nat) :: .int .u32 (wd x 2 : Nat) :: .int .u32 (wd x 3 : Nat) :: fs l := rfl
theorem fs_append (a b : List Nat) : fs (a ++ b) = fs a ++ fs b := by simp [fs]
theorem fs_len : ∀ l : List Nat, (fs l).length = l.length * 4
  | [] => rfl
  | x :: l => by rw [fs_cons]; simp only [List.length_cons, fs_len l]; omega
theorem fs_get : ∀ (l : List Nat) (k x : Nat), l[k]? = some x → (fs l)[k * 4]? = some (.int .u32 (wd x 0 : Nat)) ∧ (fs l)[k * 4 + 1]? = some (.int .u32 (wd x 1 : Nat)) ∧ (fs l)[k * 4 + 2]? = some (.int .u32 (wd x 2 : Nat)) ∧ (fs l)[k * 4 + 3]? = some (.int .u32 (wd x 3 : Nat))
  | [], k, x, h => by simp at h
  | y :: l, 0, x, h => by
    simp at h
    subst h
    exact ⟨rfl, rfl, rfl, rfl⟩
  | y :: l, k + 1, x, h => by
    have ih := fs_get l k x (by simpa using h)
    rw [fs_cons, show (k + 1) * 4 = k * 4 + 4 by omega]
    exact ih
theorem fs_one (l : List Nat) : ∀ u ∈ fs l, u.oneCell' = true := by
  intro u hu
  simp only [fs, List.mem_flatMap, f4] at hu
  obtain ⟨x, _, hx⟩ := hu
  simp at hx
  rcases hx with rfl | rfl | rfl | rfl <;> rfl
theorem sv_inj {A B : Nat} (hA : A < S128) (hB : B < S128) (h : sv A = sv B) : A = B := by
  simp only [sv, Value.agg.injEq, Array.mk.injEq, List.cons.injEq, Value.int.injEq, Int.natCast_inj, and_true, true_and] at h
  obtain ⟨h0, h1, h2, h3⟩ := h
  rw [wd_0, wd_0] at h0
  rw [wd_1, wd_1] at h1
  rw [wd_2, wd_2] at h2
  rw [wd_3, wd_3] at h3
  unfold S128 at hA hB
  omega
end Go.Proofs.YtgehmidalfajgaaDoor
namespace Go.Proofs.YtgehmidalfajgaaDoor
open Go.RowKit Go.Shelf

/-- These sets lie there. -/
def SsAt (W : World) (b off : Nat) (l : List Nat) : Prop := ∀ (k x : Nat), l[k]? = some x → W.cell? ⟨b, off + k * 4, none⟩ = some (.int .u32 (wd x 0 : Nat)) ∧ W.cell? ⟨b, off + k * 4 + 1, none⟩ = some (.int .u32 (wd x 1 : Nat)) ∧ W.cell? ⟨b, off + k * 4 + 2, none⟩ = some (.int .u32 (wd x 2 : Nat)) ∧ W.cell? ⟨b, off + k * 4 + 3, none⟩ = some (.int .u32 (wd x 3 : Nat))
def RdS (W : World) (ad : Option Addr) (l : List Nat) : Prop := l ≠ [] → ∃ b off, ad = some ⟨b, off, none⟩ ∧ b < W.heap.size ∧ SsAt W b off l
theorem SsAt.carry {W W' : World} {b off : Nat} {l : List Nat} (h : SsAt W b off l) (e : W'.heap[b]? = W.heap[b]?) : SsAt W' b off l := fun k x hk => by
  obtain ⟨c0, c1, c2, c3⟩ := h k x hk
  exact ⟨(World.cell?_of_block (a := ⟨b, _, none⟩) e).trans c0, (World.cell?_of_block (a := ⟨b, _, none⟩) e).trans c1, (World.cell?_of_block (a := ⟨b, _, none⟩) e).trans c2, (World.cell?_of_block (a := ⟨b, _, none⟩) e).trans c3⟩
theorem RdS.carry {W W' : World} {ad : Option Addr} {l : List Nat} (h : RdS W ad l) (hb : Below W.heap.size W W') : RdS W' ad l := fun hl => by
  obtain ⟨b, off, e, h1, h2⟩ := h hl
  exact ⟨b, off, e, Nat.lt_of_lt_of_le h1 hb.size, h2.carry (hb.block _ h1)⟩
theorem RdS.own {W : World} {base c : Nat} {ad : Option Addr} {l : List Nat} (h : W.ownsRow base 27 4 (.slice ad l.length c) l.length (fs l)) : RdS W ad l := fun hl => by
  rcases own_form h with ⟨_, e2⟩ | ⟨g, cap, e1, _, h3, _⟩
  · exact absurd (List.length_eq_zero_iff.1 e2) hl
  · simp only [Value.slice.injEq] at e1
    obtain ⟨rfl, _, rfl⟩ := e1
    refine ⟨g, 0, rfl, h3, fun k x hk => ?_⟩
    have hlt : k < l.length := (List.getElem?_eq_some_iff.1 hk).1
    obtain ⟨c0, c1, c2, c3⟩ := fs_get l k x hk
    rw [Nat.zero_add]
    exact ⟨(h.cellAt _ (by omega)).trans c0, (h.cellAt _ (by omega)).trans c1, (h.cellAt _ (by omega)).trans c2, (h.cellAt _ (by omega)).trans c3⟩
theorem idx_s (g off n cap k : Nat) (h : k < n) (w : World) : (Instr.indexAt 22 (.slice (some ⟨g, off, none⟩) n cap) (.int .i64 (k : Int))).run Tryd.prog w = .ok (.pointer (some ⟨g, off + k * 4, none⟩)) w := by
  have h1 : (k : Int) < (n : Int) := by omega
  go_simp
theorem load_s {W : World} {b off N : Nat} (c0 : W.cell? ⟨b, off, none⟩ = some (.int .u32 (wd N 0 : Nat))) (c1 : W.cell? ⟨b, off + 1, none⟩ = some (.int .u32 (wd N 1 : Nat))) (c2 : W.cell? ⟨b, off + 2, none⟩ = some (.int .u32 (wd N 2 : Nat))) (c3 : W.cell? ⟨b, off + 3, none⟩ = some (.int .u32 (wd N 3 : Nat))) : (Instr.loadAt 27 (.pointer (some ⟨b, off, none⟩))).run Tryd.prog W = .ok (sv N) W := by
  unfold sv
  go_simp
theorem load_sk {W : World} {b off : Nat} {l : List Nat} (h : SsAt W b off l) {k x : Nat} (hk : l[k]? = some x) : (Instr.loadAt 27 (.pointer (some ⟨b, off + k * 4, none⟩))).run Tryd.prog W = .ok (sv x) W := by
  obtain ⟨c0, c1, c2, c3⟩ := h k x hk
  exact load_s c0 c1 c2 c3
theorem ext2_0 (a b : Value) (w : World) : (Instr.extract (.tuple #[a, b]) 0).run Tryd.prog w = .ok a w := by kernel_rfl
theorem ext2_1 (a b : Value) (w : World) : (Instr.extract (.tuple #[a, b]) 1).run Tryd.prog w = .ok b w := by kernel_rfl
end Go.Proofs.YtgehmidalfajgaaDoor
