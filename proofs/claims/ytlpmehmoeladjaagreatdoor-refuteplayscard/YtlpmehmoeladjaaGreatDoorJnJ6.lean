/- idset.Has, Of; alive: what they answer, at every input. -/
import Derived.Test.YtlpmehmoeladjaaGreatDoorJnJ5
import Derived.Test.YtlpmehmoeladjaaGreatDoorRows
import Derived.ProofKit
import Derived.OpenShut
import Derived.Laws.IdiomArrays
namespace Go.Proofs.YtlpmehmoeladjaaGreatDoor
open Go.RowKit Go.Shelf Go.Lib

theorem and_bit (x i : Nat) : (x &&& 2 ^ i != 0) = x.testBit i := by
  cases h : x.testBit i with
  | true =>
    have : (x &&& 2 ^ i).testBit i = true := by rw [Nat.testBit_and, h, Nat.testBit_two_pow_self]; rfl
    have h2 : x &&& 2 ^ i ≠ 0 := fun e => by rw [e, Nat.zero_testBit] at this; cases this
    simpa using h2
  | false =>
    have : x &&& 2 ^ i = 0 := by
      apply Nat.eq_of_testBit_eq; intro j
      rw [Nat.testBit_and, Nat.testBit_two_pow, Nat.zero_testBit]
      by_cases e : i = j
      · subst e; rw [h]; rfl
      · simp [e]
    simp [this]
theorem bit_word (N i : Nat) : (wd N (i / 32)).testBit (i % 32) = N.testBit i := by
  rw [testBit_wd, Nat.div_add_mod]
  have := Nat.mod_lt i (show 32 > 0 by decide)
  simp [this]
theorem wd_bit (N i j : Nat) : wd (N ||| 2 ^ i) j = if j = i / 32 then wd N j ||| 2 ^ (i % 32) else wd N j := by
  apply Nat.eq_of_testBit_eq; intro b
  rw [testBit_wd, Nat.testBit_or, Nat.testBit_two_pow]
  split
  · rename_i h
    subst h
    rw [Nat.testBit_or, testBit_wd, Nat.testBit_two_pow]
    by_cases hb : b < 32
    · have e : (i = 32 * (i / 32) + b) = (i % 32 = b) := by simp; omega
      simp [hb, e]
    · have e : ¬ i % 32 = b := by omega
      simp [hb, e]
  · rename_i h
    rw [testBit_wd]
    by_cases hb : b < 32
    · have e : ¬ i = 32 * j + b := by omega
      simp [hb, e]
    · simp [hb]
theorem int_bne0 (a : Nat) : ((a : Int) != 0) = (a != 0) := by
  by_cases h : a = 0
  · subst h; rfl
  · have h2 : ¬ (a : Int) = 0 := by omega
    simp only [bne, beq_eq_false_iff_ne.2 h, beq_eq_false_iff_ne.2 h2]
def hasB (N : Nat) (id : Int) : Bool := decide (0 ≤ id ∧ id < 100) && N.testBit id.toNat

/-- The set of a list of ids; none: one of them is no id. -/
def ofN : List Int → Nat → Option Nat
  | [], N => some N
  | i :: r, N => if 0 ≤ i ∧ i < 100 then ofN r (N ||| 2 ^ i.toNat) else none
def ofV (o : Option Nat) : Value := match o with | some N => .tuple #[sv N, .int .i64 0] | none => .tuple #[sv 0, .int .i64 30]
/-- A slice of numbers lies in memory. -/
structure Ints (W : World) (a : Addr) (ids : List Int) : Prop where
  spot : a.spot = none
  cell : ∀ (k : Nat) (x : Int), ids[k]? = some x → W.cell? ⟨a.block, a.off + k, none⟩ = some (.int .i64 x)
  lt : a.block < W.heap.size
theorem Ints.keep {W W' : World} {a : Addr} {ids : List Int} (h : Ints W a ids) (hb : Below W.heap.size W W') : Ints W' a ids :=
  ⟨h.spot, fun k x hx => (hb.cell (p := ⟨a.block, a.off + k, none⟩) h.lt).trans (h.cell k x hx), Nat.lt_of_lt_of_le h.lt hb.size⟩
theorem ret4t {f : Func} {p q : Tmp} {R : Ending → World → Prop} {a : Act} {w : World} {b M : Nat} {x : Value} (hres : f.results = #[.cell p 54, .tmp q]) (hp : a.tmps.getD p undef = .pointer (some ⟨b, 0, none⟩)) (hq : a.tmps.getD q undef = x) (hd : a.defers = []) (h : Holds4 w b (wd M)) (hR : R (.returned (.tuple #[sv M, x])) w) : bodyPost Tryz.prog f R .ret a w := by
  refine bodyPost_ret (v := .tuple #[sv M, x]) ?_ hd hR
  have h1 := run_loadVar_row (P := Tryz.prog) w b 54 54 (cells4 (wd M)) (0, 0) _ h Tryz.underlying54 rfl (by kernel_rfl)
  have hp' : a.tmps[p]?.getD undef = .pointer (some ⟨b, 0, none⟩) := by simpa using hp
  have hq' : a.tmps[q]?.getD undef = x := by simpa using hq
  simp [results, hres, hp', hq', asAddr, h1]
  rfl
end Go.Proofs.YtlpmehmoeladjaaGreatDoor
namespace Go.Proofs.YtlpmehmoeladjaaGreatDoor
open Go.ChangeShapes Go.WideShapes Go.ChangeAt Go.RowKit

theorem cellsW : Tryz.prog.cellsOf 52 = 1 := by kernel_rfl
theorem cellsS : Tryz.prog.cellsOf 54 = 4 := by kernel_rfl
theorem list4 {α : Type} (l : List α) (h : (⟨l⟩ : Array α).size = 4) : ∃ a b c d, l = [a, b, c, d] := by
  match l, h with
  | [a, b, c, d], _ => exact ⟨a, b, c, d, rfl⟩
def setD (H : Type) (N : Nat) : DataW H := .agg [.lit (.int .u32 (wd N 0 : Nat)), .lit (.int .u32 (wd N 1 : Nat)), .lit (.int .u32 (wd N 2 : Nat)), .lit (.int .u32 (wd N 3 : Nat))]
theorem nat_of_u32 {x : Int} (h : (Lit.int .u32 x).wf = true) : ∃ n : Nat, x = (n : Int) ∧ n < 4294967296 := by
  have := bounds_u32 h
  exact ⟨x.toNat, by omega, by omega⟩
theorem wf_u32 (n : Nat) (h : n < 4294967296) : (Lit.int .u32 (n : Int)).wf = true := by
  simp [Lit.wf, IntKind.min, IntKind.max, IntKind.signed, IntKind.bits]
  omega
set_option maxRecDepth 100000 in
theorem open_set {H : Type} {enc : TypeId × Value → H} {W : World} {base : Nat} {v : Value} {d : DataW H} {p : List MemPlace} (hval : Value.okWide Tryz.prog W .any base 54 v)
    (h : DataW.Trod enc Tryz.prog W 0 (fun _ => true) true 54 v d p) : ∃ N, N < S128 ∧ v = sv N ∧ d = setD H N ∧ p = [] := by
  obtain ⟨cs, rfl, hsz, _⟩ : ∃ cs, v = .agg cs ∧ cs.size = Tryz.prog.cellsOf 54 ∧ Row.okWide Tryz.prog W .any base 54 cs := by
    simpa [Value.okWide, Tryz.underlying54] using hval
  rw [cellsS] at hsz
  obtain ⟨l⟩ := cs
  obtain ⟨c0, c1, c2, c3, rfl⟩ := list4 l hsz
  obtain ⟨fuel, hf⟩ := h
  obtain ⟨y0, y1, y2, y3, m, hx, hy0, hy1, hy2, hy3⟩ := trod_array4 Tryz.underlying54 cellsW hf
  obtain ⟨x0, e0, rfl, w0⟩ := DataW.trod_int Tryz.underlying52 hy0
  obtain ⟨x1, e1, rfl, w1⟩ := DataW.trod_int Tryz.underlying52 hy1
  obtain ⟨x2, e2, rfl, w2⟩ := DataW.trod_int Tryz.underlying52 hy2
  obtain ⟨x3, e3, rfl, w3⟩ := DataW.trod_int Tryz.underlying52 hy3
  simp at e0 e1 e2 e3
  subst e0 e1 e2 e3
  simp only [Prod.mk.injEq] at hx
  obtain ⟨rfl, rfl⟩ := hx
  obtain ⟨n0, rfl, b0⟩ := nat_of_u32 w0
  obtain ⟨n1, rfl, b1⟩ := nat_of_u32 w1
  obtain ⟨n2, rfl, b2⟩ := nat_of_u32 w2
  obtain ⟨n3, rfl, b3⟩ := nat_of_u32 w3
  refine ⟨joinW n0 n1 n2 n3, join_lt _ _ _ _ b0 b1 b2 b3, ?_, ?_, rfl⟩
  · rw [sv, wd_join0 _ _ _ _ b0, wd_join1 _ _ _ _ b0 b1, wd_join2 _ _ _ _ b0 b1 b2, wd_join3 _ _ _ _ b0 b1 b2 b3]
  · rw [setD, wd_join0 _ _ _ _ b0, wd_join1 _ _ _ _ b0 b1, wd_join2 _ _ _ _ b0 b1 b2, wd_join3 _ _ _ _ b0 b1 b2 b3]
theorem shut_set {H : Type} {enc : TypeId × Value → H} {W : World} {base : Nat} {sp : Nat → Bool} {held : Bool} (N : Nat) : DataW.Trod enc Tryz.prog W base sp held 54 (sv N) (setD H N) [] := by
  have w0 := wf_u32 _ (wd_lt N 0)
  have w1 := wf_u32 _ (wd_lt N 1)
  have w2 := wf_u32 _ (wd_lt N 2)
  have w3 := wf_u32 _ (wd_lt N 3)
  exact ⟨2, by simp [sv, setD, DataW.trod, Value.cells, Tryz.underlying54, Tryz.underlying52, cellsS, cellsW, w0, w1, w2, w3, show List.range 4 = [0, 1, 2, 3] from rfl]⟩
end Go.Proofs.YtlpmehmoeladjaaGreatDoor
