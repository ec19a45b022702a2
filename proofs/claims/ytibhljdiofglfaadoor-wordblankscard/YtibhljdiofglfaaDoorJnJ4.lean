/- Runs of single operations on numbers, for every program: as the table of values asks them. -/
import Derived.Test.YtibhljdiofglfaaDoorReg
import Derived.Laws.BitsAll
import Derived.Laws.Shifts
import Derived.Test.YtibhljdiofglfaaDoorJnJ3
import Derived.Laws.CopyRow
import Derived.Laws.CopyOwn
import Derived.Test.YtibhljdiofglfaaDoorJnJ2
import Derived.Test.YtibhljdiofglfaaDoorScp
namespace Go.Proofs.YtibhljdiofglfaaDoor
open Go.RowKit
section
variable {P : Program} {t : TypeId} {x y : Operand} {w : World}
theorem bin_add64 (a b c : Int) (h : IntKind.i64.wrap (a + b) = c) : binRun P .add t x y (.int .i64 a) (.int .i64 b) w = .ok (.int .i64 c) w := by subst h; simp [binRun, go_sem, Op.intArith]
theorem bin_sub64 (a b c : Int) (h : IntKind.i64.wrap (a - b) = c) : binRun P .sub t x y (.int .i64 a) (.int .i64 b) w = .ok (.int .i64 c) w := by subst h; simp [binRun, go_sem, Op.intArith]
theorem bin_mul64 (a b c : Int) (h : IntKind.i64.wrap (a * b) = c) : binRun P .mul t x y (.int .i64 a) (.int .i64 b) w = .ok (.int .i64 c) w := by subst h; simp [binRun, go_sem, Op.intArith]
theorem bin_add8 (a b c : Int) (h : IntKind.u8.wrap (a + b) = c) : binRun P .add t x y (.int .u8 a) (.int .u8 b) w = .ok (.int .u8 c) w := by subst h; simp [binRun, go_sem, Op.intArith]
theorem bin_sub32 (a b c : Int) (h : IntKind.u32.wrap (a - b) = c) : binRun P .sub t x y (.int .u32 a) (.int .u32 b) w = .ok (.int .u32 c) w := by subst h; simp [binRun, go_sem, Op.intArith]
theorem bin_and32 (a b : Nat) (ha : a < 4294967296) (hb : b < 4294967296) : binRun P .and t x y (.int .u32 (a : Int)) (.int .u32 (b : Int)) w = .ok (.int .u32 ((a &&& b : Nat) : Int)) w := by
  rw [← u32_and_nat a b ha hb]; simp [binRun, go_sem]
theorem bin_or32 (a b : Nat) (ha : a < 4294967296) (hb : b < 4294967296) : binRun P .or t x y (.int .u32 (a : Int)) (.int .u32 (b : Int)) w = .ok (.int .u32 ((a ||| b : Nat) : Int)) w := by
  rw [← u32_or_nat a b ha hb]; simp [binRun, go_sem]
theorem bin_xor32 (a b : Nat) (ha : a < 4294967296) (hb : b < 4294967296) : binRun P .xor t x y (.int .u32 (a : Int)) (.int .u32 (b : Int)) w = .ok (.int .u32 ((a ^^^ b : Nat) : Int)) w := by
  rw [← u32_xor_nat a b ha hb]; simp [binRun, go_sem]
theorem bin_andNot32 (a b : Nat) (ha : a < 4294967296) (hb : b < 4294967296) : binRun P .andNot t x y (.int .u32 (a : Int)) (.int .u32 (b : Int)) w = .ok (.int .u32 ((a &&& (4294967295 - b) : Nat) : Int)) w := by
  rw [← u32_andNot_nat a b ha hb]; simp [binRun, go_sem]
theorem bin_shr32 (k : IntKind) (a n : Nat) (hn : n < 32) : binRun P .shr t x y (.int .u32 (a : Int)) (.int k (n : Int)) w = .ok (.int .u32 ((a / 2 ^ n : Nat) : Int)) w := by
  have h := shift_shr .u32 k (a : Int) (n : Int) (by omega) (by simp [IntKind.bits]; omega)
  simp only [binRun, eqGuard_shr, binOp_shr, h]
  simp
theorem bin_shl32 (k : IntKind) (n : Nat) (hn : n < 32) : binRun P .shl t x y (.int .u32 1) (.int k (n : Int)) w = .ok (.int .u32 ((2 ^ n : Nat) : Int)) w := by
  have h := shift_shl .u32 k 1 (n : Int) (by omega) (by simp [IntKind.bits]; omega)
  have h2 : 2 ^ n < 4294967296 := Nat.pow_lt_pow_right (a := 2) (n := 32) (by decide) hn
  have h3 : IntKind.u32.wrap (1 * 2 ^ (n : Int).toNat) = ((2 ^ n : Nat) : Int) := by
    have e : (2 : Int) ^ n = ((2 ^ n : Nat) : Int) := by simp
    rw [Int.toNat_natCast, e, IntKind.wrap_u32']
    generalize 2 ^ n = z at *
    omega
  simp only [binRun, eqGuard_shl, binOp_shl, h, h3]
  simp
theorem bin_quo64 (a b : Nat) (ha : a < 9223372036854775808) (hb : 0 < b) : binRun P .quo t x y (.int .i64 (a : Int)) (.int .i64 (b : Int)) w = .ok (.int .i64 ((a / b : Nat) : Int)) w := by
  have e : ¬ b = 0 := by omega
  have h3 : IntKind.i64.wrap ((a : Int) / (b : Int)) = (a : Int) / (b : Int) := by
    have h4 : (a : Int) / (b : Int) = ((a / b : Nat) : Int) := by simp
    have : a / b ≤ a := Nat.div_le_self _ _
    rw [h4, IntKind.wrap_i64]
    generalize a / b = z at *
    omega
  simp [binRun, go_sem, Op.intDiv, e, h3]
theorem bin_rem64 (a b : Nat) (hb : 0 < b) : binRun P .rem t x y (.int .i64 (a : Int)) (.int .i64 (b : Int)) w = .ok (.int .i64 ((a % b : Nat) : Int)) w := by
  have e : ¬ b = 0 := by omega
  have h4 : (a : Int).tmod (b : Int) = (a : Int) % (b : Int) := Int.tmod_eq_emod_of_nonneg (by omega)
  simp [binRun, go_sem, Op.intDiv, e, h4]
theorem bin_eql (k : IntKind) (a b : Int) : binRun P .eql t x y (.int k a) (.int k b) w = .ok (.bool (a == b)) w := by simp [binRun, go_sem]
theorem bin_neq (k : IntKind) (a b : Int) : binRun P .neq t x y (.int k a) (.int k b) w = .ok (.bool (a != b)) w := by simp [binRun, go_sem]
theorem bin_lss (k : IntKind) (a b : Int) : binRun P .lss t x y (.int k a) (.int k b) w = .ok (.bool (decide (a < b))) w := by simp [binRun, go_sem]
theorem bin_leq (k : IntKind) (a b : Int) : binRun P .leq t x y (.int k a) (.int k b) w = .ok (.bool (decide (a ≤ b))) w := by simp [binRun, go_sem]
theorem bin_gtr (k : IntKind) (a b : Int) : binRun P .gtr t x y (.int k a) (.int k b) w = .ok (.bool (decide (a > b))) w := by simp [binRun, go_sem]
theorem bin_geq (k : IntKind) (a b : Int) : binRun P .geq t x y (.int k a) (.int k b) w = .ok (.bool (decide (a ≥ b))) w := by simp [binRun, go_sem]
end
end Go.Proofs.YtibhljdiofglfaaDoor
namespace Go.Proofs.YtibhljdiofglfaaDoor
open Go.RowKit Go.Shelf

def vnatQ (v : Value) : Nat := match v with | .int _ n => n.toNat | _ => 0
abbrev Fq := Int × ByteArray × Int × Int
def tq (x : Fq) : Value := .agg #[.int .i64 x.1, .string x.2.1, .int .i64 x.2.2.1, .int .i64 x.2.2.2]
def cq1 (x : Fq) : List Value := [.int .i64 x.1, .string x.2.1, .int .i64 x.2.2.1, .int .i64 x.2.2.2]
def cq (l : List Fq) : List Value := l.flatMap cq1
theorem cq_cons (x : Fq) (l : List Fq) : cq (x :: l) = .int .i64 x.1 :: .string x.2.1 :: .int .i64 x.2.2.1 :: .int .i64 x.2.2.2 :: cq l := rfl
theorem cq_append (a b : List Fq) : cq (a ++ b) = cq a ++ cq b := by simp [cq]
theorem cq_len : ∀ l : List Fq, (cq l).length = l.length * 4
  | [] => rfl
  | x :: l => by rw [cq_cons]; simp only [List.length_cons, cq_len l]; omega
theorem cq_get : ∀ (l : List Fq) (k : Nat) (x : Fq), l[k]? = some x → (cq l)[k * 4]? = some (.int .i64 x.1) ∧ (cq l)[k * 4 + 1]? = some (.string x.2.1) ∧ (cq l)[k * 4 + 2]? = some (.int .i64 x.2.2.1) ∧ (cq l)[k * 4 + 3]? = some (.int .i64 x.2.2.2)
  | [], k, x, h => by simp at h
  | y :: l, 0, x, h => by
    simp at h
    subst h
    exact ⟨rfl, rfl, rfl, rfl⟩
  | y :: l, k + 1, x, h => by
    have ih := cq_get l k x (by simpa using h)
    rw [cq_cons, show (k + 1) * 4 = k * 4 + 4 by omega]
    exact ih
theorem cq_one (l : List Fq) : ∀ u ∈ cq l, u.oneCell' = true := by
  intro u hu
  simp only [cq, List.mem_flatMap, cq1] at hu
  obtain ⟨x, _, hx⟩ := hu
  simp at hx
  rcases hx with rfl | rfl | rfl | rfl <;> rfl
/-- From there on these words lie. -/
def TqAt (W : World) (b off : Nat) (l : List Fq) : Prop := ∀ k x, l[k]? = some x → W.cell? ⟨b, off + k * 4, none⟩ = some (.int .i64 x.1) ∧ W.cell? ⟨b, off + k * 4 + 1, none⟩ = some (.string x.2.1) ∧ W.cell? ⟨b, off + k * 4 + 2, none⟩ = some (.int .i64 x.2.2.1) ∧ W.cell? ⟨b, off + k * 4 + 3, none⟩ = some (.int .i64 x.2.2.2)
def RdQ (W : World) (ad : Option Addr) (l : List Fq) : Prop := l ≠ [] → ∃ b off, ad = some ⟨b, off, none⟩ ∧ b < W.heap.size ∧ TqAt W b off l
theorem TqAt.carry {W W' : World} {b off : Nat} {l : List Fq} (h : TqAt W b off l) (e : W'.heap[b]? = W.heap[b]?) : TqAt W' b off l := fun k x hk => by
  obtain ⟨c0, c1, c2, c3⟩ := h k x hk
  exact ⟨(World.cell?_of_block (a := ⟨b, _, none⟩) e).trans c0, (World.cell?_of_block (a := ⟨b, _, none⟩) e).trans c1, (World.cell?_of_block (a := ⟨b, _, none⟩) e).trans c2, (World.cell?_of_block (a := ⟨b, _, none⟩) e).trans c3⟩
theorem RdQ.carry {W W' : World} {ad : Option Addr} {l : List Fq} (h : RdQ W ad l) (hb : Below W.heap.size W W') : RdQ W' ad l := fun hl => by
  obtain ⟨b, off, e, h1, h2⟩ := h hl
  exact ⟨b, off, e, Nat.lt_of_lt_of_le h1 hb.size, h2.carry (hb.block _ h1)⟩
theorem TqAt.sub {W : World} {b off : Nat} {l : List Fq} (h : TqAt W b off l) (i n : Nat) : TqAt W b (off + i * 4) ((l.drop i).take n) := fun k x hk => by
  have h1 : l[i + k]? = some x := by
    rw [List.getElem?_take] at hk
    split at hk
    · simpa [List.getElem?_drop] using hk
    · cases hk
  have := h (i + k) x h1
  rw [show off + (i + k) * 4 = off + i * 4 + k * 4 by omega] at this
  exact this
theorem RdQ.own {W : World} {base c : Nat} {ad : Option Addr} {l : List Fq} (h : W.ownsRow base 32 4 (.slice ad l.length c) l.length (cq l)) : RdQ W ad l := fun hl => by
  rcases own_form h with ⟨_, e2⟩ | ⟨g, cap, e1, _, h3, _⟩
  · exact absurd (List.length_eq_zero_iff.1 e2) hl
  · simp only [Value.slice.injEq] at e1
    obtain ⟨rfl, _, rfl⟩ := e1
    refine ⟨g, 0, rfl, h3, fun k x hk => ?_⟩
    have hlt : k < l.length := (List.getElem?_eq_some_iff.1 hk).1
    obtain ⟨c0, c1, c2, c3⟩ := cq_get l k x hk
    rw [Nat.zero_add]
    exact ⟨(h.cellAt _ (by omega)).trans c0, (h.cellAt _ (by omega)).trans c1, (h.cellAt _ (by omega)).trans c2, (h.cellAt _ (by omega)).trans c3⟩
theorem idx_q (g off n cap k : Nat) (h : k < n) (w : World) : (Instr.indexAt 22 (.slice (some ⟨g, off, none⟩) n cap) (.int .i64 (k : Int))).run Tryd.prog w = .ok (.pointer (some ⟨g, off + k * 4, none⟩)) w := by
  have h1 : (k : Int) < (n : Int) := by omega
  go_simp
theorem load_q {W : World} {b off : Nat} {l : List Fq} (h : TqAt W b off l) {k : Nat} {x : Fq} (hk : l[k]? = some x) : (Instr.loadAt 32 (.pointer (some ⟨b, off + k * 4, none⟩))).run Tryd.prog W = .ok (tq x) W := by
  obtain ⟨c0, c1, c2, c3⟩ := h k x hk
  unfold tq
  go_simp
theorem un_notQ (b : Bool) (W : World) : (Op.unary .not (.bool b)).run Tryd.prog W = .ok (.bool (!b)) W := by go_simp
theorem eql_q {x y : Operand} (q : Fq) (w : World) : binRun Tryd.prog .eql 32 x y (tq q) (tq q) w = .ok (.bool true) w := by
  unfold binRun tq
  go_simp
set_option maxHeartbeats 1000000 in
set_option maxRecDepth 100000 in
theorem sameQ_yes (ad ad' : Option Addr) (cap cap' : Nat) (l : List Fq) (w : World) (h : RdQ w ad l) (h' : RdQ w ad' l) (hl : l.length ≤ 4611686018427387904) : Calls Tryd.prog 15 #[.slice ad l.length cap, .slice ad' l.length cap'] w fun e w' => e = .returned (.bool true) ∧ Below w.heap.size w w' := by
  have hmx : Tryd.prog.follows .mixedOrders = true := by kernel_rfl
  go_enter Tryd.func15, Tryd.ntmps15
  go_wp2
  go_loopw [5] (fun c wz => ∃ k : Nat, c = .int .i64 k ∧ k ≤ l.length ∧ Below w.heap.size w wz) (fun c _ => l.length - vnatQ c)
  case atStart => exact ⟨0, rfl, Nat.zero_le _, Below.refl _ _⟩
  case round =>
    obtain ⟨k, rfl, hk, hbw⟩ := hrel
    by_cases hkl : k < l.length
    · have hki : (k : Int) < (l.length : Int) := by omega
      have hne : l ≠ [] := fun e => by subst e; simp at hkl
      obtain ⟨b, off, rfl, hgl, hat⟩ := h hne
      obtain ⟨b', off', rfl, hgl', hat'⟩ := h' hne
      obtain ⟨x, hx⟩ : ∃ x, l[k]? = some x := ⟨_, List.getElem?_eq_getElem hkl⟩
      go_wp2
      refine wp_region_any hmx ?_
      refine wpAny_pure (fun i__ => ([(.slice (some ⟨b, off, none⟩) l.length cap), (.int .i64 (k : Int)), (.pointer (some ⟨b, off + k * 4, none⟩)), (tq x), (.slice (some ⟨b', off', none⟩) l.length cap'), (.int .i64 (k : Int)), (.pointer (some ⟨b', off' + k * 4, none⟩)), (tq x), (.bool true), (.bool false)] : List Value).getD i__ undef) (fun W => Below w.heap.size w W) (by kernel_rfl) hbw.drew ?_ ?_
      · refine (stepsFrom_cons ?_ (stepsFrom_cons ?_ (stepsFrom_cons ?_ (stepsFrom_cons ?_ (stepsFrom_cons ?_ (stepsFrom_cons ?_ (stepsFrom_cons ?_ (stepsFrom_cons ?_ (stepsFrom_cons ?_ (stepsFrom_cons ?_ trivial))))))))))
        · exact step_move rfl trivial _ rfl (by kernel_rfl)
        · exact step_move rfl trivial _ rfl (by kernel_rfl)
        · exact step_indexAddr rfl trivial _ _ _ _ _ rfl rfl rfl (fun w hw => idx_q b off _ _ k hkl w)
        · exact step_load rfl trivial _ _ _ rfl rfl (fun w hw => load_q (hat.carry (hw.block _ hgl)) hx)
        · exact step_move rfl trivial _ rfl (by kernel_rfl)
        · exact step_move rfl trivial _ rfl (by kernel_rfl)
        · exact step_indexAddr rfl trivial _ _ _ _ _ rfl rfl rfl (fun w hw => idx_q b' off' _ _ k hkl w)
        · exact step_load rfl trivial _ _ _ rfl rfl (fun w hw => load_q (hat'.carry (hw.block _ hgl')) hx)
        · exact step_binOp rfl trivial _ _ _ _ _ _ _ rfl rfl rfl (fun w hw => eql_q x w)
        · exact step_unOp rfl trivial _ _ _ _ rfl rfl (fun w hw => un_notQ true w)
      intro W hW
      first | refine hK _ _ ?_ | refine (‹∀ (a : Act) (w : World), Code.wp Tryd.prog _ _ a w → _›) _ _ ?_ | skip
      simp only [finL, List.getD_cons_zero, List.getD_cons_succ, Nat.zero_add, Nat.reduceAdd, List.setIfInBounds_toArray, List.set_cons_zero, List.set_cons_succ]
      go_wp2
      go_roundw
      case rel => exact ⟨k + 1, by simp, by omega, hW⟩
      case measure => simp [vnatQ]; omega
    · have hkk : k = l.length := by omega
      subst hkk
      have hki : ¬ ((l.length : Int) < (l.length : Int)) := by omega
      go_wp2
      go_ret
      exact ⟨rfl, hbw⟩
/-- A row of lists. -/
def RwQ (W : World) (x : List Value) (L : List (List Fq)) : Prop := x.length = L.length ∧ ∀ (i : Nat) (l : List Fq), L[i]? = some l → ∃ ad c, x[i]? = some (.slice ad l.length c) ∧ RdQ W ad l ∧ l.length ≤ 4611686018427387904
theorem RwQ.carry {W V : World} {x : List Value} {L : List (List Fq)} (h : RwQ W x L) (hb : Below W.heap.size W V) : RwQ V x L := ⟨h.1, fun i l hl => by
  obtain ⟨ad, c, h1, h2, h3⟩ := h.2 i l hl
  exact ⟨ad, c, h1, h2.carry hb, h3⟩⟩
/-- The lines: those that are done, and the one that goes on. -/
def lnF (s : List (List Fq) × List Fq) (x : Fq) : List (List Fq) × List Fq := if x.1 = 1 then (s.1 ++ [s.2], []) else (s.1, s.2 ++ [x])
def lns (l : List Fq) : List (List Fq) × List Fq := l.foldl lnF ([], [])
def outL (l : List Fq) : List (List Fq) := if (lns l).2 = [] then (lns l).1 else (lns l).1 ++ [(lns l).2]
theorem lns_succ (l : List Fq) (k : Nat) (x : Fq) (h : l[k]? = some x) : lns (l.take (k + 1)) = lnF (lns (l.take k)) x := by
  have e : l.take (k + 1) = l.take k ++ [x] := by rw [List.take_add_one, h]; rfl
  rw [e, lns, List.foldl_append]
  rfl
theorem lns_size (l : List Fq) : ∀ k, k ≤ l.length → (lns (l.take k)).2.length ≤ k ∧ (lns (l.take k)).1.length ≤ k ∧ (lns (l.take k)).2 = (l.take k).drop (k - (lns (l.take k)).2.length)
  | 0, _ => by simp [lns]
  | k + 1, hk => by
    obtain ⟨h1, h2, h3⟩ := lns_size l k (by omega)
    obtain ⟨x, hx⟩ : ∃ x, l[k]? = some x := ⟨_, List.getElem?_eq_getElem (by omega)⟩
    have hl : (l.take k).length = k := by simp; omega
    have e : l.take (k + 1) = l.take k ++ [x] := by rw [List.take_add_one, hx]; rfl
    rw [lns_succ l k x hx]
    unfold lnF
    split
    · refine ⟨by simp, by simp; omega, ?_⟩
      simp
    · refine ⟨by simp; omega, by simp; omega, ?_⟩
      simp only [List.length_append, List.length_cons, List.length_nil]
      rw [show k + 1 - ((lns (l.take k)).2.length + 1) = k - (lns (l.take k)).2.length by omega, e, List.drop_append_of_le_length (by omega), ← h3]
end Go.Proofs.YtibhljdiofglfaaDoor
namespace Go.Proofs.YtibhljdiofglfaaDoor
open Go.RowKit Go.Shelf

theorem fdq0 (W : World) (g k : Nat) : (Instr.fieldAt 32 (.pointer (some ⟨g, k, none⟩)) 0).run Tryd.prog W = .ok (.pointer (some ⟨g, k, none⟩)) W := by
  go_simp
theorem fdq1 (W : World) (g k : Nat) : (Instr.fieldAt 32 (.pointer (some ⟨g, k, none⟩)) 1).run Tryd.prog W = .ok (.pointer (some ⟨g, k + 1, none⟩)) W := by
  go_simp
theorem ldqi {W : World} {g k : Nat} {x : Int} (h : W.cell? ⟨g, k, none⟩ = some (.int .i64 x)) : (Instr.loadAt 3 (.pointer (some ⟨g, k, none⟩))).run Tryd.prog W = .ok (.int .i64 x) W := by
  go_simp
theorem ldqs {W : World} {g k : Nat} {x : ByteArray} (h : W.cell? ⟨g, k, none⟩ = some (.string x)) : (Instr.loadAt 9 (.pointer (some ⟨g, k, none⟩))).run Tryd.prog W = .ok (.string x) W := by
  go_simp
theorem neqQi {x y : Operand} {w : World} (a : Int) : binRun Tryd.prog .neq 3 x y (.int .i64 a) (.int .i64 a) w = .ok (.bool false) w := by simp [binRun, go_sem]
theorem neqQs {x y : Operand} {w : World} (a : ByteArray) : binRun Tryd.prog .neq 9 x y (.string a) (.string a) w = .ok (.bool false) w := by simp [binRun, go_sem]
theorem kt_at {l l' : List Fou} (h : l.map kt = l'.map kt) (k : Nat) (x : Fou) (hx : l[k]? = some x) : ∃ y : Fou, l'[k]? = some y ∧ y.1 = x.1 ∧ y.2.1 = x.2.1 := by
  have h1 : (l.map kt)[k]? = some (kt x) := by rw [List.getElem?_map, hx]; rfl
  rw [h, List.getElem?_map] at h1
  cases hy : l'[k]? with
  | none => rw [hy] at h1; cases h1
  | some y =>
    rw [hy] at h1
    have e : kt y = kt x := by simpa using h1
    unfold kt at e
    exact ⟨y, rfl, (Prod.mk.inj e).1, (Prod.mk.inj e).2⟩
set_option maxHeartbeats 1000000 in
set_option maxRecDepth 100000 in
theorem like_any (ad ad' : Option Addr) (cap cap' n : Nat) (l l' : List Fou) (w : World) (h : RdQ w ad l) (h' : RdQ w ad' l') (hn : l.length = n) (hk : l.map kt = l'.map kt) (hl : n ≤ 4611686018427387904) : Calls Tryd.prog 12 #[.slice ad n cap, .slice ad' n cap'] w fun e w' => e = .returned (.bool true) ∧ Below w.heap.size w w' := by
  have hmx : Tryd.prog.follows .mixedOrders = true := by kernel_rfl
  go_enter Tryd.func12, Tryd.ntmps12
  go_wp2
  go_loopw [5] (fun c wz => ∃ k : Nat, c = .int .i64 k ∧ k ≤ n ∧ Below w.heap.size w wz) (fun c _ => n - vnatQ c)
  case atStart => exact ⟨0, rfl, Nat.zero_le _, Below.refl _ _⟩
  case round =>
    obtain ⟨k, rfl, hkn, hbw⟩ := hrel
    by_cases hkl : k < n
    · have hki : (k : Int) < (n : Int) := by omega
      have hne : l ≠ [] := fun e => by subst e; simp at hn; omega
      obtain ⟨x, hx⟩ : ∃ x, l[k]? = some x := ⟨_, List.getElem?_eq_getElem (by omega)⟩
      obtain ⟨y, hy, y1, y2⟩ := kt_at hk k x hx
      have hne' : l' ≠ [] := fun e => by subst e; simp at hy
      obtain ⟨b, off, rfl, hgl, hat⟩ := h hne
      obtain ⟨b', off', rfl, hgl', hat'⟩ := h' hne'
      obtain ⟨c0, c1, _, _⟩ := hat k x hx
      obtain ⟨d0, d1, _, _⟩ := hat' k y hy
      rw [y1] at d0
      rw [y2] at d1
      obtain ⟨x0, x1, x2, x3⟩ := x
      dsimp only at c0 c1 d0 d1
      clear hx hy y1 y2
      go_wp2
      refine wp_region_any hmx ?_
      refine wpAny_pure (fun i__ => ([(.slice (some ⟨b, off, none⟩) n cap), (.int .i64 (k : Int)), (.pointer (some ⟨b, off + k * 4, none⟩)), (.pointer (some ⟨b, off + k * 4, none⟩)), (.int .i64 x0), (.slice (some ⟨b', off', none⟩) n cap'), (.int .i64 (k : Int)), (.pointer (some ⟨b', off' + k * 4, none⟩)), (.pointer (some ⟨b', off' + k * 4, none⟩)), (.int .i64 x0), (.bool false), (.bool false), (.slice (some ⟨b, off, none⟩) n cap), (.int .i64 (k : Int)), (.pointer (some ⟨b, off + k * 4, none⟩)), (.pointer (some ⟨b, off + k * 4 + 1, none⟩)), (.string x1), (.slice (some ⟨b', off', none⟩) n cap'), (.int .i64 (k : Int)), (.pointer (some ⟨b', off' + k * 4, none⟩)), (.pointer (some ⟨b', off' + k * 4 + 1, none⟩)), (.string x1), (.bool false), (.bool false)] : List Value).getD i__ undef) (fun W => Below w.heap.size w W) (by kernel_rfl) hbw.drew ?_ ?_
      · refine (stepsFrom_cons ?_ (stepsFrom_cons ?_ (stepsFrom_cons ?_ (stepsFrom_cons ?_ (stepsFrom_cons ?_ (stepsFrom_cons ?_ (stepsFrom_cons ?_ (stepsFrom_cons ?_ (stepsFrom_cons ?_ (stepsFrom_cons ?_ (stepsFrom_cons ?_ (stepsFrom_cons ?_ (stepsFrom_cons ?_ (stepsFrom_cons ?_ (stepsFrom_cons ?_ (stepsFrom_cons ?_ (stepsFrom_cons ?_ (stepsFrom_cons ?_ (stepsFrom_cons ?_ (stepsFrom_cons ?_ (stepsFrom_cons ?_ (stepsFrom_cons ?_ (stepsFrom_cons ?_ (stepsFrom_cons ?_ trivial))))))))))))))))))))))))
        · exact step_move rfl trivial _ rfl (by kernel_rfl)
        · exact step_move rfl trivial _ rfl (by kernel_rfl)
        · exact step_indexAddr rfl trivial _ _ _ _ _ rfl rfl rfl (fun w hw => idx_q b off _ _ k hkl w)
        · exact step_fieldAddr rfl trivial _ _ _ _ rfl rfl (fun w hw => fdq0 _ _ _)
        · exact step_load rfl trivial _ _ _ rfl rfl (fun w hw => ldqi ((World.cell?_of_block (a := ⟨b, _, none⟩) (hw.block _ hgl)).trans c0))
        · exact step_move rfl trivial _ rfl (by kernel_rfl)
        · exact step_move rfl trivial _ rfl (by kernel_rfl)
        · exact step_indexAddr rfl trivial _ _ _ _ _ rfl rfl rfl (fun w hw => idx_q b' off' _ _ k hkl w)
        · exact step_fieldAddr rfl trivial _ _ _ _ rfl rfl (fun w hw => fdq0 _ _ _)
        · exact step_load rfl trivial _ _ _ rfl rfl (fun w hw => ldqi ((World.cell?_of_block (a := ⟨b', _, none⟩) (hw.block _ hgl')).trans d0))
        · exact step_binOp rfl trivial _ _ _ _ _ _ _ rfl rfl rfl (fun w hw => neqQi _)
        · exact step_move rfl trivial _ rfl (by kernel_rfl)
        · exact step_move rfl (by exact ⟨_, rfl, by kernel_rfl⟩) _ rfl (by kernel_rfl)
        · exact step_move rfl (by exact ⟨_, rfl, by kernel_rfl⟩) _ rfl (by kernel_rfl)
        · exact step_indexAddr rfl (by exact ⟨_, rfl, by kernel_rfl⟩) _ _ _ _ _ rfl rfl rfl (fun w hw => idx_q b off _ _ k hkl w)
        · exact step_fieldAddr rfl (by exact ⟨_, rfl, by kernel_rfl⟩) _ _ _ _ rfl rfl (fun w hw => fdq1 _ _ _)
        · exact step_load rfl (by exact ⟨_, rfl, by kernel_rfl⟩) _ _ _ rfl rfl (fun w hw => ldqs ((World.cell?_of_block (a := ⟨b, _, none⟩) (hw.block _ hgl)).trans c1))
        · exact step_move rfl (by exact ⟨_, rfl, by kernel_rfl⟩) _ rfl (by kernel_rfl)
        · exact step_move rfl (by exact ⟨_, rfl, by kernel_rfl⟩) _ rfl (by kernel_rfl)
        · exact step_indexAddr rfl (by exact ⟨_, rfl, by kernel_rfl⟩) _ _ _ _ _ rfl rfl rfl (fun w hw => idx_q b' off' _ _ k hkl w)
        · exact step_fieldAddr rfl (by exact ⟨_, rfl, by kernel_rfl⟩) _ _ _ _ rfl rfl (fun w hw => fdq1 _ _ _)
        · exact step_load rfl (by exact ⟨_, rfl, by kernel_rfl⟩) _ _ _ rfl rfl (fun w hw => ldqs ((World.cell?_of_block (a := ⟨b', _, none⟩) (hw.block _ hgl')).trans d1))
        · exact step_binOp rfl (by exact ⟨_, rfl, by kernel_rfl⟩) _ _ _ _ _ _ _ rfl rfl rfl (fun w hw => neqQs _)
        · exact step_pick rfl trivial _ _ _ false rfl (by kernel_rfl) (by kernel_rfl)
      intro W hW
      first | refine hK _ _ ?_ | refine (‹∀ (a : Act) (w : World), Code.wp Tryd.prog _ _ a w → _›) _ _ ?_ | skip
      simp only [finL, List.getD_cons_zero, List.getD_cons_succ, Nat.zero_add, Nat.reduceAdd, List.setIfInBounds_toArray, List.set_cons_zero, List.set_cons_succ]
      go_wp2
      go_roundw
      case rel => exact ⟨k + 1, by simp, by omega, hW⟩
      case measure => simp [vnatQ]; omega
    · have hkk : k = n := by omega
      subst hkk
      have hki : ¬ ((k : Int) < (k : Int)) := by omega
      go_wp2
      go_ret
      exact ⟨rfl, hbw⟩
end Go.Proofs.YtibhljdiofglfaaDoor
namespace Go.Proofs.YtibhljdiofglfaaDoor
open Go.RowKit Go.Shelf
set_option maxHeartbeats 1000000 in
set_option maxRecDepth 100000 in
theorem scan_long (s : ByteArray) (hs : 65536 < s.size) (w : World) : Calls Tryd.prog 9 #[.string s] w fun e w' => e = .returned (.tuple #[.slice none 0 0, .int .i64 2, .int .i64 0, .int .i64 0]) ∧ Below w.heap.size w w' := by
  have hg : 65536 < (s.size : Int) := by omega
  go_enter Tryd.func9, Tryd.ntmps9
  go_wp2
  refine ⟨rfl, .tuple #[.slice none 0 0, .int .i64 2, .int .i64 0, .int .i64 0], by simp [results, Tryd.results9, go_sem], rfl, ?_⟩
  exact ((((Below.refl _ w).alloc (by simp) _).alloc (by simp) _).alloc (by simp; omega) _).alloc (by simp; omega) _
end Go.Proofs.YtibhljdiofglfaaDoor
