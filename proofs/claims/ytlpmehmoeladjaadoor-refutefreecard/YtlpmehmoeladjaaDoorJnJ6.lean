/- idset.Has, Of; alive: what they answer, at every input. -/
import Derived.Test.YtlpmehmoeladjaaDoorJnJ5
import Derived.Test.YtlpmehmoeladjaaDoorRows
import Derived.ProofKit
import Derived.OpenShut
import Derived.Laws.IdiomArrays
namespace Go.Proofs.YtlpmehmoeladjaaDoor
open Go.RowKit Go.Shelf Go.Lib

theorem and_bit (x i : Nat) : (x &&& 2 ^ i != 0) = x.testBit i := by
  cases h : x.testBit i with
  | true =>
    have : (x &&& 2 ^ i).testBit i = true := by rw [Nat.testBit_and, h, Nat.testBit_two_pow_self]; rfl
    have h2 : x &&& 2 ^ i ≠ 0 := fun e => by rw [e, Nat.zero_testBit] at this; cases this
    simpa using h2
  | false =>
    have : x &&& 2 ^ i = 0 := by
      apply Nat.eq_of_testBit_eq; intro j
      rw [Nat.testBit_and, Nat.testBit_two_pow, Nat.zero_testBit]
      by_cases e : i = j
      · subst e; rw [h]; rfl
      · simp [e]
    simp [this]
theorem bit_word (N i : Nat) : (wd N (i / 32)).testBit (i % 32) = N.testBit i := by
  rw [testBit_wd, Nat.div_add_mod]
  have := Nat.mod_lt i (show 32 > 0 by decide)
  simp [this]
theorem wd_bit (N i j : Nat) : wd (N ||| 2 ^ i) j = if j = i / 32 then wd N j ||| 2 ^ (i % 32) else wd N j := by
  apply Nat.eq_of_testBit_eq; intro b
  rw [testBit_wd, Nat.testBit_or, Nat.testBit_two_pow]
  split
  · rename_i h
    subst h
    rw [Nat.testBit_or, testBit_wd, Nat.testBit_two_pow]
    by_cases hb : b < 32
    · have e : (i = 32 * (i / 32) + b) = (i % 32 = b) := by simp; omega
      simp [hb, e]
    · have e : ¬ i % 32 = b := by omega
      simp [hb, e]
  · rename_i h
    rw [testBit_wd]
    by_cases hb : b < 32
    · have e : ¬ i = 32 * j + b := by omega
      simp [hb, e]
    · simp [hb]
theorem int_bne0 (a : Nat) : ((a : Int) != 0) = (a != 0) := by
  by_cases h : a = 0
  · subst h; rfl
  · have h2 : ¬ (a : Int) = 0 := by omega
    simp only [bne, beq_eq_false_iff_ne.2 h, beq_eq_false_iff_ne.2 h2]
def hasB (N : Nat) (id : Int) : Bool := decide (0 ≤ id ∧ id < 100) && N.testBit id.toNat
set_option maxHeartbeats 1000000 in
set_option maxRecDepth 100000 in
theorem has_any (N : Nat) (id : Int) (w : World) : Calls Tryd.prog 16 #[sv N, .int .i64 id] w fun e w' => e = .returned (.bool (hasB N id)) ∧ Below w.heap.size w w' := by
  have hmx : Tryd.prog.follows .mixedOrders = true := by kernel_rfl
  have hid := isId_any id
  go_enter Tryd.func16, Tryd.ntmps16
  simp only [sv]
  go_wp2
  rename_i Q0 K0 hK
  refine wp_region_any hmx ?_
  by_cases h : 0 ≤ id ∧ id < 100
  · obtain ⟨i, rfl⟩ := Int.eq_ofNat_of_zero_le h.1
    have hi : i < 100 := by omega
    have hq : i / 32 < 4 := by omega
    simp only [h, and_self, decide_true] at hid
    refine wpAny_pure (fun i__ => ([(.int .i64 (i : Int)), (.bool true), (.bool true), (.int .i64 (i : Int)), (.int .i64 ((i / 32 : Nat) : Int)), (.pointer (some ⟨w.heap.size, i / 32, none⟩)), (.int .u32 ((wd N (i / 32) : Nat) : Int)), (.int .i64 (i : Int)), (.int .u32 ((2 ^ (i % 32) : Nat) : Int)), (.int .u32 ((wd N (i / 32) &&& 2 ^ (i % 32) : Nat) : Int)), (.bool (N.testBit i)), (.bool (N.testBit i)), (.bool (N.testBit i))] : List Value).getD i__ undef) (fun W => Holds4 W w.heap.size (wd N) ∧ Below w.heap.size w W) (by kernel_rfl) ⟨get_new (by simp), ((Below.refl _ w).alloc (by simp) _).drew⟩ ?_ ?_
    · refine (stepsFrom_cons ?_ (stepsFrom_cons ?_ (stepsFrom_cons ?_ (stepsFrom_cons ?_ (stepsFrom_cons ?_ (stepsFrom_cons ?_ (stepsFrom_cons ?_ (stepsFrom_cons ?_ (stepsFrom_cons ?_ (stepsFrom_cons ?_ (stepsFrom_cons ?_ (stepsFrom_cons ?_ (stepsFrom_cons ?_ trivial)))))))))))))
      · exact step_move rfl trivial _ rfl (by kernel_rfl)
      · exact step_call rfl trivial 43 _ _ [(.int .i64 (i : Int))] rfl (by kernel_rfl) (enters_of Tryd.func43 (by kernel_rfl) rfl) (fun w hw => (hid w).mono (by rintro e w' ⟨rfl, rfl⟩; exact ⟨rfl, hw⟩))
      · exact step_move rfl trivial _ rfl (by kernel_rfl)
      · exact step_move rfl (by exact ⟨_, rfl, by kernel_rfl⟩) _ rfl (by kernel_rfl)
      · exact step_binOp rfl (by exact ⟨_, rfl, by kernel_rfl⟩) _ _ _ _ _ _ _ rfl rfl rfl (fun w hw => bin_quo64 i 32 (by omega) (by omega))
      · exact step_indexAddr rfl (by exact ⟨_, rfl, by kernel_rfl⟩) _ _ _ _ _ rfl rfl rfl (fun w hw => idx4 _ _ hq w)
      · exact step_load rfl (by exact ⟨_, rfl, by kernel_rfl⟩) _ _ _ rfl rfl (fun w hw => load4 w _ _ _ hw.1 hq)
      · exact step_move rfl (by exact ⟨_, rfl, by kernel_rfl⟩) _ rfl (by kernel_rfl)
      · exact step_call rfl (by exact ⟨_, rfl, by kernel_rfl⟩) 44 _ _ [(.int .i64 (i : Int))] rfl (by kernel_rfl) (enters_of Tryd.func44 (by kernel_rfl) rfl) (fun w hw => (bit_any i (by omega) w).mono (by rintro e w' ⟨rfl, rfl⟩; exact ⟨rfl, hw⟩))
      · exact step_binOp rfl (by exact ⟨_, rfl, by kernel_rfl⟩) _ _ _ _ _ _ _ rfl rfl rfl (fun w hw => bin_and32 _ _ (wd_lt _ _) (Nat.pow_lt_pow_right (a := 2) (n := 32) (by decide) (Nat.mod_lt _ (by decide))))
      · exact step_binOp rfl (by exact ⟨_, rfl, by kernel_rfl⟩) _ _ _ _ _ _ _ rfl rfl rfl (fun w hw => (bin_neq .u32 _ _).trans (by rw [← bit_word, ← and_bit, int_bne0]; rfl))
      · exact step_pick rfl trivial _ _ _ true rfl (by kernel_rfl) (by kernel_rfl)
      · exact step_assign rfl trivial _ rfl (by kernel_rfl) (fun _ h => h)
    intro W hW
    first | refine hK _ _ ?_ | refine (‹∀ (a : Act) (w : World), Code.wp Tryd.prog _ _ a w → _›) _ _ ?_
    simp only [finL, List.getD_cons_zero, List.getD_cons_succ, Nat.zero_add, Nat.reduceAdd, List.setIfInBounds_toArray, List.set_cons_zero, List.set_cons_succ]
    go_wp2
    go_ret
    exact ⟨ret_bool (by simp [hasB]; omega), hW.2⟩
  · simp only [h, decide_false] at hid
    refine wpAny_pure (fun i__ => ([(.int .i64 id), (.bool false), (.bool false), undef, undef, undef, undef, undef, undef, undef, undef, (.bool false), (.bool false)] : List Value).getD i__ undef) (fun W => Holds4 W w.heap.size (wd N) ∧ Below w.heap.size w W) (by kernel_rfl) ⟨get_new (by simp), ((Below.refl _ w).alloc (by simp) _).drew⟩ ?_ ?_
    · refine (stepsFrom_cons ?_ (stepsFrom_cons ?_ (stepsFrom_cons ?_ (stepsFrom_cons ?_ (stepsFrom_cons ?_ (stepsFrom_cons ?_ (stepsFrom_cons ?_ (stepsFrom_cons ?_ (stepsFrom_cons ?_ (stepsFrom_cons ?_ (stepsFrom_cons ?_ (stepsFrom_cons ?_ (stepsFrom_cons ?_ trivial)))))))))))))
      · exact step_move rfl trivial _ rfl (by kernel_rfl)
      · exact step_call rfl trivial 43 _ _ [(.int .i64 id)] rfl (by kernel_rfl) (enters_of Tryd.func43 (by kernel_rfl) rfl) (fun w hw => (hid w).mono (by rintro e w' ⟨rfl, rfl⟩; exact ⟨rfl, hw⟩))
      · exact step_move rfl trivial _ rfl (by kernel_rfl)
      · exact step_skip rfl 2 true 7 (.bool false) rfl rfl (by kernel_rfl) (by intro h; cases h) rfl
      · exact step_skip rfl 2 true 7 (.bool false) rfl rfl (by kernel_rfl) (by intro h; cases h) rfl
      · exact step_skip rfl 2 true 7 (.bool false) rfl rfl (by kernel_rfl) (by intro h; cases h) rfl
      · exact step_skip rfl 2 true 7 (.bool false) rfl rfl (by kernel_rfl) (by intro h; cases h) rfl
      · exact step_skip rfl 2 true 7 (.bool false) rfl rfl (by kernel_rfl) (by intro h; cases h) rfl
      · exact step_skip rfl 2 true 7 (.bool false) rfl rfl (by kernel_rfl) (by intro h; cases h) rfl
      · exact step_skip rfl 2 true 7 (.bool false) rfl rfl (by kernel_rfl) (by intro h; cases h) rfl
      · exact step_skip rfl 2 true 7 (.bool false) rfl rfl (by kernel_rfl) (by intro h; cases h) rfl
      · exact step_pick rfl trivial _ _ _ false rfl (by kernel_rfl) (by kernel_rfl)
      · exact step_assign rfl trivial _ rfl (by kernel_rfl) (fun _ h => h)
    intro W hW
    first | refine hK _ _ ?_ | refine (‹∀ (a : Act) (w : World), Code.wp Tryd.prog _ _ a w → _›) _ _ ?_
    simp only [finL, List.getD_cons_zero, List.getD_cons_succ, Nat.zero_add, Nat.reduceAdd, List.setIfInBounds_toArray, List.set_cons_zero, List.set_cons_succ]
    go_wp2
    go_ret
    exact ⟨ret_bool (by simp [hasB, h]), hW.2⟩

/-- The set of a list of ids; none: one of them is no id. -/
def ofN : List Int → Nat → Option Nat
  | [], N => some N
  | i :: r, N => if 0 ≤ i ∧ i < 100 then ofN r (N ||| 2 ^ i.toNat) else none
def ofV (o : Option Nat) : Value := match o with | some N => .tuple #[sv N, .int .i64 0] | none => .tuple #[sv 0, .int .i64 30]
/-- A slice of numbers lies in memory. -/
structure Ints (W : World) (a : Addr) (ids : List Int) : Prop where
  spot : a.spot = none
  cell : ∀ (k : Nat) (x : Int), ids[k]? = some x → W.cell? ⟨a.block, a.off + k, none⟩ = some (.int .i64 x)
  lt : a.block < W.heap.size
theorem Ints.keep {W W' : World} {a : Addr} {ids : List Int} (h : Ints W a ids) (hb : Below W.heap.size W W') : Ints W' a ids :=
  ⟨h.spot, fun k x hx => (hb.cell (p := ⟨a.block, a.off + k, none⟩) h.lt).trans (h.cell k x hx), Nat.lt_of_lt_of_le h.lt hb.size⟩
theorem ret4t {f : Func} {p q : Tmp} {R : Ending → World → Prop} {a : Act} {w : World} {b M : Nat} {x : Value} (hres : f.results = #[.cell p 35, .tmp q]) (hp : a.tmps.getD p undef = .pointer (some ⟨b, 0, none⟩)) (hq : a.tmps.getD q undef = x) (hd : a.defers = []) (h : Holds4 w b (wd M)) (hR : R (.returned (.tuple #[sv M, x])) w) : bodyPost Tryd.prog f R .ret a w := by
  refine bodyPost_ret (v := .tuple #[sv M, x]) ?_ hd hR
  have h1 := run_loadVar_row (P := Tryd.prog) w b 35 35 (cells4 (wd M)) (0, 0) _ h Tryd.underlying35 rfl (by kernel_rfl)
  have hp' : a.tmps[p]?.getD undef = .pointer (some ⟨b, 0, none⟩) := by simpa using hp
  have hq' : a.tmps[q]?.getD undef = x := by simpa using hq
  simp [results, hres, hp', hq', asAddr, h1]
  rfl
end Go.Proofs.YtlpmehmoeladjaaDoor
namespace Go.Proofs.YtlpmehmoeladjaaDoor
open Go.ChangeShapes Go.WideShapes Go.ChangeAt Go.RowKit

theorem cellsW : Tryd.prog.cellsOf 33 = 1 := by kernel_rfl
theorem cellsS : Tryd.prog.cellsOf 35 = 4 := by kernel_rfl
theorem list4 {α : Type} (l : List α) (h : (⟨l⟩ : Array α).size = 4) : ∃ a b c d, l = [a, b, c, d] := by
  match l, h with
  | [a, b, c, d], _ => exact ⟨a, b, c, d, rfl⟩
def setD (H : Type) (N : Nat) : DataW H := .agg [.lit (.int .u32 (wd N 0 : Nat)), .lit (.int .u32 (wd N 1 : Nat)), .lit (.int .u32 (wd N 2 : Nat)), .lit (.int .u32 (wd N 3 : Nat))]
theorem nat_of_u32 {x : Int} (h : (Lit.int .u32 x).wf = true) : ∃ n : Nat, x = (n : Int) ∧ n < 4294967296 := by
  have := bounds_u32 h
  exact ⟨x.toNat, by omega, by omega⟩
theorem wf_u32 (n : Nat) (h : n < 4294967296) : (Lit.int .u32 (n : Int)).wf = true := by
  simp [Lit.wf, IntKind.min, IntKind.max, IntKind.signed, IntKind.bits]
  omega
set_option maxRecDepth 100000 in
theorem open_set {H : Type} {enc : TypeId × Value → H} {W : World} {base : Nat} {v : Value} {d : DataW H} {p : List MemPlace} (hval : Value.okWide Tryd.prog W .any base 35 v)
    (h : DataW.Trod enc Tryd.prog W 0 (fun _ => true) true 35 v d p) : ∃ N, N < S128 ∧ v = sv N ∧ d = setD H N ∧ p = [] := by
  obtain ⟨cs, rfl, hsz, _⟩ : ∃ cs, v = .agg cs ∧ cs.size = Tryd.prog.cellsOf 35 ∧ Row.okWide Tryd.prog W .any base 35 cs := by
    simpa [Value.okWide, Tryd.underlying35] using hval
  rw [cellsS] at hsz
  obtain ⟨l⟩ := cs
  obtain ⟨c0, c1, c2, c3, rfl⟩ := list4 l hsz
  obtain ⟨fuel, hf⟩ := h
  obtain ⟨y0, y1, y2, y3, m, hx, hy0, hy1, hy2, hy3⟩ := trod_array4 Tryd.underlying35 cellsW hf
  obtain ⟨x0, e0, rfl, w0⟩ := DataW.trod_int Tryd.underlying33 hy0
  obtain ⟨x1, e1, rfl, w1⟩ := DataW.trod_int Tryd.underlying33 hy1
  obtain ⟨x2, e2, rfl, w2⟩ := DataW.trod_int Tryd.underlying33 hy2
  obtain ⟨x3, e3, rfl, w3⟩ := DataW.trod_int Tryd.underlying33 hy3
  simp at e0 e1 e2 e3
  subst e0 e1 e2 e3
  simp only [Prod.mk.injEq] at hx
  obtain ⟨rfl, rfl⟩ := hx
  obtain ⟨n0, rfl, b0⟩ := nat_of_u32 w0
  obtain ⟨n1, rfl, b1⟩ := nat_of_u32 w1
  obtain ⟨n2, rfl, b2⟩ := nat_of_u32 w2
  obtain ⟨n3, rfl, b3⟩ := nat_of_u32 w3
  refine ⟨joinW n0 n1 n2 n3, join_lt _ _ _ _ b0 b1 b2 b3, ?_, ?_, rfl⟩
  · rw [sv, wd_join0 _ _ _ _ b0, wd_join1 _ _ _ _ b0 b1, wd_join2 _ _ _ _ b0 b1 b2, wd_join3 _ _ _ _ b0 b1 b2 b3]
  · rw [setD, wd_join0 _ _ _ _ b0, wd_join1 _ _ _ _ b0 b1, wd_join2 _ _ _ _ b0 b1 b2, wd_join3 _ _ _ _ b0 b1 b2 b3]
theorem shut_set {H : Type} {enc : TypeId × Value → H} {W : World} {base : Nat} {sp : Nat → Bool} {held : Bool} (N : Nat) : DataW.Trod enc Tryd.prog W base sp held 35 (sv N) (setD H N) [] := by
  have w0 := wf_u32 _ (wd_lt N 0)
  have w1 := wf_u32 _ (wd_lt N 1)
  have w2 := wf_u32 _ (wd_lt N 2)
  have w3 := wf_u32 _ (wd_lt N 3)
  exact ⟨2, by simp [sv, setD, DataW.trod, Value.cells, Tryd.underlying35, Tryd.underlying33, cellsS, cellsW, w0, w1, w2, w3, show List.range 4 = [0, 1, 2, 3] from rfl]⟩
end Go.Proofs.YtlpmehmoeladjaaDoor
