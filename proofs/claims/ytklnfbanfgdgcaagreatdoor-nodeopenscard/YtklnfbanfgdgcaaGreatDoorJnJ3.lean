/- Runs of single operations on numbers, for every program: as the table of values asks them. -/
import Derived.Test.YtklnfbanfgdgcaaGreatDoorJnJ0
import Derived.Laws.BitsAll
import Derived.Laws.Shifts
import Derived.Test.YtklnfbanfgdgcaaGreatDoorJnJ2
import Derived.Lib.Tables
import Derived.Deep.WholeRow
set_option maxHeartbeats 40000000
set_option maxRecDepth 100000
set_option linter.unusedVariables false
namespace Go.Proofs.YtklnfbanfgdgcaaGreatDoor
open Go.RowKit
section
variable {P : Program} {t : TypeId} {x y : Operand} {w : World}
theorem bin_add64 (a b c : Int) (h : IntKind.i64.wrap (a + b) = c) : binRun P .add t x y (.int .i64 a) (.int .i64 b) w = .ok (.int .i64 c) w := by subst h; simp [binRun, go_sem, Op.intArith]
theorem bin_sub64 (a b c : Int) (h : IntKind.i64.wrap (a - b) = c) : binRun P .sub t x y (.int .i64 a) (.int .i64 b) w = .ok (.int .i64 c) w := by subst h; simp [binRun, go_sem, Op.intArith]
theorem bin_mul64 (a b c : Int) (h : IntKind.i64.wrap (a * b) = c) : binRun P .mul t x y (.int .i64 a) (.int .i64 b) w = .ok (.int .i64 c) w := by subst h; simp [binRun, go_sem, Op.intArith]
theorem bin_and32 (a b : Nat) (ha : a < 4294967296) (hb : b < 4294967296) : binRun P .and t x y (.int .u32 (a : Int)) (.int .u32 (b : Int)) w = .ok (.int .u32 ((a &&& b : Nat) : Int)) w := by
  rw [← u32_and_nat a b ha hb]; simp [binRun, go_sem]
theorem bin_or32 (a b : Nat) (ha : a < 4294967296) (hb : b < 4294967296) : binRun P .or t x y (.int .u32 (a : Int)) (.int .u32 (b : Int)) w = .ok (.int .u32 ((a ||| b : Nat) : Int)) w := by
  rw [← u32_or_nat a b ha hb]; simp [binRun, go_sem]
theorem bin_shr32 (k : IntKind) (a n : Nat) (hn : n < 32) : binRun P .shr t x y (.int .u32 (a : Int)) (.int k (n : Int)) w = .ok (.int .u32 ((a / 2 ^ n : Nat) : Int)) w := by
  have h := shift_shr .u32 k (a : Int) (n : Int) (by omega) (by simp [IntKind.bits]; omega)
  simp only [binRun, eqGuard_shr, binOp_shr, h]
  simp
theorem bin_shl32 (k : IntKind) (n : Nat) (hn : n < 32) : binRun P .shl t x y (.int .u32 1) (.int k (n : Int)) w = .ok (.int .u32 ((2 ^ n : Nat) : Int)) w := by
  have h := shift_shl .u32 k 1 (n : Int) (by omega) (by simp [IntKind.bits]; omega)
  have h2 : 2 ^ n < 4294967296 := Nat.pow_lt_pow_right (a := 2) (n := 32) (by decide) hn
  have h3 : IntKind.u32.wrap (1 * 2 ^ (n : Int).toNat) = ((2 ^ n : Nat) : Int) := by
    have e : (2 : Int) ^ n = ((2 ^ n : Nat) : Int) := by simp
    rw [Int.toNat_natCast, e, IntKind.wrap_u32']
    generalize 2 ^ n = z at *
    omega
  simp only [binRun, eqGuard_shl, binOp_shl, h, h3]
  simp
theorem bin_quo64 (a b : Nat) (ha : a < 9223372036854775808) (hb : 0 < b) : binRun P .quo t x y (.int .i64 (a : Int)) (.int .i64 (b : Int)) w = .ok (.int .i64 ((a / b : Nat) : Int)) w := by
  have e : ¬ b = 0 := by omega
  have h3 : IntKind.i64.wrap ((a : Int) / (b : Int)) = (a : Int) / (b : Int) := by
    have h4 : (a : Int) / (b : Int) = ((a / b : Nat) : Int) := by simp
    have : a / b ≤ a := Nat.div_le_self _ _
    rw [h4, IntKind.wrap_i64]
    generalize a / b = z at *
    omega
  simp [binRun, go_sem, Op.intDiv, e, h3]
theorem bin_rem64 (a b : Nat) (hb : 0 < b) : binRun P .rem t x y (.int .i64 (a : Int)) (.int .i64 (b : Int)) w = .ok (.int .i64 ((a % b : Nat) : Int)) w := by
  have e : ¬ b = 0 := by omega
  have h4 : (a : Int).tmod (b : Int) = (a : Int) % (b : Int) := Int.tmod_eq_emod_of_nonneg (by omega)
  simp [binRun, go_sem, Op.intDiv, e, h4]
theorem bin_eql (k : IntKind) (a b : Int) : binRun P .eql t x y (.int k a) (.int k b) w = .ok (.bool (a == b)) w := by simp [binRun, go_sem]
end
end Go.Proofs.YtklnfbanfgdgcaaGreatDoor
namespace Go.Proofs.YtklnfbanfgdgcaaGreatDoor
open Go.RowKit Go.Shelf Go.Lib


def cells4 (c : Nat → Nat) : Array Value := #[.int .u32 (c 0 : Nat), .int .u32 (c 1 : Nat), .int .u32 (c 2 : Nat), .int .u32 (c 3 : Nat)]
theorem sv_cells (N : Nat) : sv N = .agg (cells4 (wd N)) := rfl
/-- The block b holds these four words. -/
def Holds4 (w : World) (b : Nat) (c : Nat → Nat) : Prop := w.heap[b]? = some (.cells (cells4 c) 51)
theorem cells4_get (c : Nat → Nat) (k : Nat) (h : k < 4) : (cells4 c)[k]? = some (.int .u32 (c k : Nat)) := by
  match k, h with
  | 0, _ => rfl
  | 1, _ => rfl
  | 2, _ => rfl
  | 3, _ => rfl
theorem cells4_set (c : Nat → Nat) (k v : Nat) (h : k < 4) : (cells4 c).setIfInBounds k (.int .u32 (v : Nat)) = cells4 (fun j => if j = k then v else c j) := by
  match k, h with
  | 0, _ => rfl
  | 1, _ => rfl
  | 2, _ => rfl
  | 3, _ => rfl
theorem Holds4.cell {w : World} {b : Nat} {c : Nat → Nat} (h : Holds4 w b c) (k : Nat) (hk : k < 4) : w.cell? ⟨b, k, none⟩ = some (.int .u32 (c k : Nat)) := by
  unfold Holds4 at h
  simp [World.cell?, h, cells4_get c k hk]
theorem idx4 (b k : Nat) (hk : k < 4) (w : World) : (Instr.indexAt 51 (.pointer (some ⟨b, 0, none⟩)) (.int .i64 (k : Int))).run Tryz.prog w = .ok (.pointer (some ⟨b, k, none⟩)) w := by
  have h1 : (k : Int) < 4 := by omega
  have h2 : 0 ≤ (k : Int) := by omega
  go_simp
theorem load4 (w : World) (b k : Nat) (c : Nat → Nat) (h : Holds4 w b c) (hk : k < 4) : (Instr.loadAt 49 (.pointer (some ⟨b, k, none⟩))).run Tryz.prog w = .ok (.int .u32 (c k : Nat)) w := by
  have := h.cell k hk
  go_simp
theorem Holds4.frozen {w : World} {b : Nat} {c : Nat → Nat} (h : Holds4 w b c) (k : Nat) : w.frozen? ⟨b, k, none⟩ = false := by
  unfold Holds4 at h
  simp [World.frozen?, h]
theorem Holds4.set {w : World} {b : Nat} {c : Nat → Nat} (h : Holds4 w b c) (k v : Nat) (hk : k < 4) : Holds4 (w.setCell ⟨b, k, none⟩ (.int .u32 (v : Int))) b (fun j => if j = k then v else c j) := by
  unfold Holds4 at *
  have hlt := (Array.getElem?_eq_some_iff.1 h).1
  rw [← cells4_set c k v hk]
  simp [World.setCell, h, Array.getElem?_modify]
theorem store4 (w : World) (b k v : Nat) (c : Nat → Nat) (h : Holds4 w b c) (hk : k < 4) : ∃ w', (Instr.storeAt 49 (.pointer (some ⟨b, k, none⟩)) (.int .u32 (v : Int))).run Tryz.prog w = .ok () w' ∧ Holds4 w' b (fun j => if j = k then v else c j) ∧ (∀ B, B ≤ b → Below B w w') ∧ (∀ B, B ≠ b → w'.heap[B]? = w.heap[B]?) := by
  have h1 := h.cell k hk
  have h2 := h.frozen k
  refine ⟨w.setCell ⟨b, k, none⟩ (.int .u32 (v : Int)), ?_, h.set k v hk, fun B hB => (Below.refl B w).setCell hB _, fun B hB => Below.heap_setCell _ _ _ _ hB⟩
  go_simp
theorem whole4 (w : World) (b : Nat) (N : Nat) (h : Holds4 w b (wd N)) : (Instr.loadAt 51 (.pointer (some ⟨b, 0, none⟩))).run Tryz.prog w = .ok (sv N) w := by
  have := run_loadVar_row (P := Tryz.prog) w b 51 51 (cells4 (wd N)) (0, 0) _ h Tryz.underlying51 rfl (by kernel_rfl)
  simp only [Instr.loadAt, Instr.sureAddr, Sem.run_bind, Sem.run_pure, Result.andThen_ok, this]
  rfl

theorem Holds4.congr {w : World} {b : Nat} {c c' : Nat → Nat} (h : Holds4 w b c) (e : ∀ j, j < 4 → c j = c' j) : Holds4 w b c' := by
  have : cells4 c = cells4 c' := by simp [cells4, e 0 (by decide), e 1 (by decide), e 2 (by decide), e 3 (by decide)]
  unfold Holds4 at *
  rw [h, this]
theorem Holds4.keep {w w' : World} {b B : Nat} {c : Nat → Nat} (h : Holds4 w b c) (hb : Below B w w') (hB : b < B) : Holds4 w' b c := (hb.block b hB).trans h
theorem get_old {w : World} {o o' : Obj} {k : Nat} (h : w.heap[k]? = some o') : (w.alloc o).heap[k]? = some o' := (Below.heap_alloc w o k (Array.getElem?_eq_some_iff.1 h).1).trans h
theorem get_new {w : World} {o : Obj} {k : Nat} (h : k = w.heap.size) : (w.alloc o).heap[k]? = some o := by subst h; exact heap_alloc_last w o
theorem lowN_wd (N n k : Nat) : wd (N % 2 ^ n) k = wd N k &&& lowN ((n : Int) - (k : Int) * 32) := by
  rw [wd_mod]
  unfold lowN
  congr 3
  omega

theorem mix_step (N n k j : Nat) : (if j = k then wd N k &&& lowN ((n : Int) - (k : Int) * 32) else if j < k then wd (N % 2 ^ n) j else wd N j) = if j < k + 1 then wd (N % 2 ^ n) j else wd N j := by
  by_cases q : j = k
  · subst q; simp [lowN_wd N n j]
  · by_cases q2 : j < k
    · rw [if_neg q, if_pos q2, if_pos (by omega)]
    · rw [if_neg q, if_neg q2, if_neg (by omega)]
/-- The four words of a number, laid one behind the other. -/
def set4 (w : World) (b M : Nat) : World := (((w.setCell ⟨b, 0, none⟩ (.int .u32 (wd M 0 : Nat))).setCell ⟨b, 1, none⟩ (.int .u32 (wd M 1 : Nat))).setCell ⟨b, 2, none⟩ (.int .u32 (wd M 2 : Nat))).setCell ⟨b, 3, none⟩ (.int .u32 (wd M 3 : Nat))
theorem fin4 {w : World} {b : Nat} {c : Nat → Nat} (h : Holds4 w b c) (M : Nat) : Holds4 (set4 w b M) b (wd M) := by
  refine ((((h.set 0 (wd M 0) (by decide)).set 1 (wd M 1) (by decide)).set 2 (wd M 2) (by decide)).set 3 (wd M 3) (by decide)).congr (fun j hj => ?_)
  match j, hj with
  | 0, _ => rfl
  | 1, _ => rfl
  | 2, _ => rfl
  | 3, _ => rfl
theorem below4 {w0 w : World} {B b : Nat} (hb : Below B w0 w) (hB : B ≤ b) (M : Nat) : Below B w0 (set4 w b M) := (((hb.setCell hB _).setCell hB _).setCell hB _).setCell hB _
theorem ret4 {f : Func} {p : Tmp} {R : Ending → World → Prop} {a : Act} {w : World} {b M : Nat} (hres : f.results = #[.cell p 51]) (hp : a.tmps.getD p undef = .pointer (some ⟨b, 0, none⟩)) (hd : a.defers = []) (h : Holds4 w b (wd M)) (hR : R (.returned (sv M)) w) : bodyPost Tryz.prog f R .ret a w :=
  bodyPost_ret (results_cell_row hres a.tmps w b _ _ (0, 0) _ hp h Tryz.underlying51 rfl (by kernel_rfl)) hd hR
def vnat (v : Value) : Nat := match v with | .int _ n => n.toNat | _ => 0
set_option maxHeartbeats 1000000 in
set_option maxRecDepth 100000 in
theorem below_any (N n : Nat) (hn : n ≤ 128) (w : World) : Calls Tryz.prog 231 #[sv N, .int .i64 (n : Int)] w fun e w' => e = .returned (sv (N % 2 ^ n)) ∧ Below w.heap.size w w' := by
  have hmx : Tryz.prog.follows .mixedOrders = true := by kernel_rfl
  simp only [sv]
  go_enter Tryz.func231, Tryz.ntmps231
  go_wp2
  go_loopw [6] (fun c wz => ∃ k : Nat, c = .int .i64 k ∧ k ≤ 4 ∧ Holds4 wz w.heap.size (fun j => if j < k then wd (N % 2 ^ n) j else wd N j) ∧ Holds4 wz (w.heap.size + 1) (fun _ => 0) ∧ Below w.heap.size w wz) (fun c _ => 4 - vnat c)
  case atStart =>
    refine ⟨0, rfl, by omega, ?_, ?_, ?_⟩
    · exact get_old (get_new (by simp))
    · exact get_new (by simp)
    · exact ((Below.refl _ w).alloc (by simp) _).alloc (by simp) _
  case round =>
    obtain ⟨k, rfl, hk, h1, h2, hb⟩ := hrel
    have hz : w.heap.size + 1 < wr.heap.size := (Array.getElem?_eq_some_iff.1 h2).1
    by_cases hk4 : k < 4
    · have hki : (k : Int) < 4 := by omega
      have hc : wd N k < 4294967296 := wd_lt N k
      have hl := lowN_lt ((n : Int) - (k : Int) * 32)
      go_wp2
      rename_i Q0 K0 hK
      refine wp_region_any hmx ?_
      refine wpAny_last 10 (fun i__ => ([(.int .i64 (k : Int)), (.pointer (some ⟨w.heap.size, k, none⟩)), (.int .u32 ((wd N k : Nat) : Int)), (.int .i64 (n : Int)), (.int .i64 (k : Int)), (.int .i64 ((k : Int) * 32)), (.int .i64 ((n : Int) - (k : Int) * 32)), (.int .u32 ((lowN ((n : Int) - (k : Int) * 32) : Nat) : Int)), (.int .u32 ((wd N k &&& lowN ((n : Int) - (k : Int) * 32) : Nat) : Int)), (.pointer (some ⟨w.heap.size, k, none⟩)), undef] : List Value).getD i__ undef) (fun W => Holds4 W w.heap.size (fun j => if j < k then wd (N % 2 ^ n) j else wd N j) ∧ Holds4 W (w.heap.size + 1) (fun _ => 0) ∧ Below w.heap.size w W) (fun W => Holds4 W w.heap.size (fun j => if j < k + 1 then wd (N % 2 ^ n) j else wd N j) ∧ Holds4 W (w.heap.size + 1) (fun _ => 0) ∧ Below w.heap.size w W) rfl (by kernel_rfl) (by kernel_rfl) ⟨h1, h2, hb.drew⟩ ?_ ?_  ?_
      · refine (stepsFrom_cons ?_ (stepsFrom_cons ?_ (stepsFrom_cons ?_ (stepsFrom_cons ?_ (stepsFrom_cons ?_ (stepsFrom_cons ?_ (stepsFrom_cons ?_ (stepsFrom_cons ?_ (stepsFrom_cons ?_ (stepsFrom_cons ?_ trivial))))))))))
        · exact step_move rfl trivial _ rfl (by kernel_rfl)
        · exact step_indexAddr rfl trivial _ _ _ _ _ rfl rfl rfl (fun w hw => idx4 _ k hk4 w)
        · exact step_load rfl trivial _ _ _ rfl rfl (fun w hw => by have := load4 w _ k _ hw.1 hk4; simpa using this)
        · exact step_move rfl trivial _ rfl (by kernel_rfl)
        · exact step_move rfl trivial _ rfl (by kernel_rfl)
        · exact step_binOp rfl trivial _ _ _ _ _ _ _ rfl rfl rfl (fun w hw => bin_mul64 _ _ _ (by rw [IntKind.wrap_i64]; omega))
        · exact step_binOp rfl trivial _ _ _ _ _ _ _ rfl rfl rfl (fun w hw => bin_sub64 _ _ _ (by rw [IntKind.wrap_i64]; omega))
        · exact step_call rfl trivial 118 _ _ [(.int .i64 ((n : Int) - (k : Int) * 32))] rfl (by kernel_rfl) (enters_of Tryz.func118 (by kernel_rfl) rfl) (fun w hw => (lowest_any _ w).mono (by rintro e w' ⟨rfl, rfl⟩; exact ⟨rfl, hw⟩))
        · exact step_binOp rfl trivial _ _ _ _ _ _ _ rfl rfl rfl (fun w hw => bin_and32 _ _ hc hl)
        · exact step_indexAddr rfl trivial _ _ _ _ _ rfl rfl rfl (fun w hw => idx4 _ k hk4 w)
      · intro o ho
        cases ho
        exact step_store rfl trivial rfl _ _ _ _ _ rfl rfl rfl (fun w' hw => by obtain ⟨w2, e1, e2, e3, e4⟩ := store4 w' _ k _ _ hw.1 hk4; refine ⟨w2, e1, e2.congr (fun j hj => ?_), (e4 _ (by omega)).trans hw.2.1, hw.2.2.trans (e3 _ (Nat.le_refl _))⟩; exact mix_step N n k j)
      intro W hW
      first | refine hK _ _ ?_ | refine (‹∀ (a : Act) (w : World), Code.wp Tryz.prog _ _ a w → _›) _ _ ?_ | skip
      simp only [finL, List.getD_cons_zero, List.getD_cons_succ, Nat.zero_add, Nat.reduceAdd, List.setIfInBounds_toArray, List.set_cons_zero, List.set_cons_succ]
      obtain ⟨g1, g2, g3⟩ := hW
      go_wp2
      go_roundw
      case rel => exact ⟨k + 1, by simp, by omega, g1, g2, g3⟩
      case measure => simp only [vnat]; omega
    · have hk5 : k = 4 := by omega
      subst hk5
      have h1' : Holds4 wr w.heap.size (wd (N % 2 ^ n)) := h1.congr (fun j hj => by simp [hj])
      have x0 := h1'.cell 0 (by decide)
      have x1 := h1'.cell 1 (by decide)
      have x2 := h1'.cell 2 (by decide)
      have x3 := h1'.cell 3 (by decide)
      have y0 := h2.cell 0 (by decide)
      have y1 := h2.cell 1 (by decide)
      have y2 := h2.cell 2 (by decide)
      have y3 := h2.cell 3 (by decide)
      have z0 := h2.frozen 0
      have z1 := h2.frozen 1
      have z2 := h2.frozen 2
      have z3 := h2.frozen 3
      have H2 : Hid (Holds4 wr (w.heap.size + 1) (fun _ => 0)) := h2
      clear h1 h1' h2
      go_wp2
      exact ret4 rfl rfl rfl (fin4 H2.out _) ⟨rfl, below4 hb (Nat.le_succ _) _⟩

theorem Holds4.facts {w : World} {b : Nat} {c : Nat → Nat} (h : Holds4 w b c) :
    w.cell? ⟨b, 0, none⟩ = some (.int .u32 (c 0 : Nat)) ∧ w.cell? ⟨b, 1, none⟩ = some (.int .u32 (c 1 : Nat)) ∧ w.cell? ⟨b, 2, none⟩ = some (.int .u32 (c 2 : Nat)) ∧ w.cell? ⟨b, 3, none⟩ = some (.int .u32 (c 3 : Nat)) ∧
    w.frozen? ⟨b, 0, none⟩ = false ∧ w.frozen? ⟨b, 1, none⟩ = false ∧ w.frozen? ⟨b, 2, none⟩ = false ∧ w.frozen? ⟨b, 3, none⟩ = false :=
  ⟨h.cell 0 (by decide), h.cell 1 (by decide), h.cell 2 (by decide), h.cell 3 (by decide), h.frozen 0, h.frozen 1, h.frozen 2, h.frozen 3⟩
set_option maxHeartbeats 1000000 in
theorem clean_any (N : Nat) (w : World) : Calls Tryz.prog 224 #[sv N] w fun e w' => e = .returned (sv (cln N)) ∧ Below w.heap.size w w' := by
  have hc : ∀ w, Calls Tryz.prog 231 #[sv N, .int .i64 100] w fun e w' => e = .returned (sv (cln N)) ∧ Below w.heap.size w w' := below_any N 100 (by decide)
  simp only [sv] at hc ⊢
  generalize cln N = M at *
  go_enter Tryz.func224, Tryz.ntmps224
  go_wp2_with (go_at_call 231; refine (hc _).mono ?_; rintro e w' ⟨rfl, hb⟩; have q : Hid (Holds4 w' (w.heap.size + 1) (fun _ => 0)) := (hb.block _ (by simp)).trans (get_new (by simp)); obtain ⟨y0, y1, y2, y3, z0, z1, z2, z3⟩ := q.out.facts; have hb2 : Below w.heap.size w w' := (((Below.refl _ w).alloc (by simp) _).alloc (by simp) _).trans (hb.mono (by simp; omega)))
  exact ret4 rfl rfl rfl (fin4 q.out _) ⟨rfl, below4 hb2 (Nat.le_succ _) _⟩
end Go.Proofs.YtklnfbanfgdgcaaGreatDoor
