/- idset.below and Clean: what they answer, at every input. -/
import Derived.Test.YtnkpohkodkjkfaaGreatDoorJpJ19
set_option maxHeartbeats 40000000
set_option maxRecDepth 100000
set_option linter.unusedVariables false
namespace Go.Proofs.YtnkpohkodkjkfaaGreatDoor
open Go.RowKit Go.Shelf Go.Lib

theorem Holds4.congr {w : World} {b : Nat} {c c' : Nat → Nat} (h : Holds4 w b c) (e : ∀ j, j < 4 → c j = c' j) : Holds4 w b c' := by
  have : cells4 c = cells4 c' := by simp [cells4, e 0 (by decide), e 1 (by decide), e 2 (by decide), e 3 (by decide)]
  unfold Holds4 at *
  rw [h, this]
theorem Holds4.keep {w w' : World} {b B : Nat} {c : Nat → Nat} (h : Holds4 w b c) (hb : Below B w w') (hB : b < B) : Holds4 w' b c := (hb.block b hB).trans h
theorem get_oldQ {w : World} {o o' : Obj} {k : Nat} (h : w.heap[k]? = some o') : (w.alloc o).heap[k]? = some o' := (Below.heap_alloc w o k (Array.getElem?_eq_some_iff.1 h).1).trans h
theorem get_newQ {w : World} {o : Obj} {k : Nat} (h : k = w.heap.size) : (w.alloc o).heap[k]? = some o := by subst h; exact heap_alloc_last w o
theorem lowN_wd (N n k : Nat) : wd (N % 2 ^ n) k = wd N k &&& lowN ((n : Int) - (k : Int) * 32) := by
  rw [wd_mod]
  unfold lowN
  congr 3
  omega

theorem mix_step (N n k j : Nat) : (if j = k then wd N k &&& lowN ((n : Int) - (k : Int) * 32) else if j < k then wd (N % 2 ^ n) j else wd N j) = if j < k + 1 then wd (N % 2 ^ n) j else wd N j := by
  by_cases q : j = k
  · subst q; simp [lowN_wd N n j]
  · by_cases q2 : j < k
    · rw [if_neg q, if_pos q2, if_pos (by omega)]
    · rw [if_neg q, if_neg q2, if_neg (by omega)]
/-- The four words of a number, laid one behind the other. -/
def set4 (w : World) (b M : Nat) : World := (((w.setCell ⟨b, 0, none⟩ (.int .u32 (wd M 0 : Nat))).setCell ⟨b, 1, none⟩ (.int .u32 (wd M 1 : Nat))).setCell ⟨b, 2, none⟩ (.int .u32 (wd M 2 : Nat))).setCell ⟨b, 3, none⟩ (.int .u32 (wd M 3 : Nat))
theorem fin4 {w : World} {b : Nat} {c : Nat → Nat} (h : Holds4 w b c) (M : Nat) : Holds4 (set4 w b M) b (wd M) := by
  refine ((((h.set 0 (wd M 0) (by decide)).set 1 (wd M 1) (by decide)).set 2 (wd M 2) (by decide)).set 3 (wd M 3) (by decide)).congr (fun j hj => ?_)
  match j, hj with
  | 0, _ => rfl
  | 1, _ => rfl
  | 2, _ => rfl
  | 3, _ => rfl
theorem below4 {w0 w : World} {B b : Nat} (hb : Below B w0 w) (hB : B ≤ b) (M : Nat) : Below B w0 (set4 w b M) := (((hb.setCell hB _).setCell hB _).setCell hB _).setCell hB _
theorem ret4 {f : Func} {p : Tmp} {R : Ending → World → Prop} {a : Act} {w : World} {b M : Nat} (hres : f.results = #[.cell p 24]) (hp : a.tmps.getD p undef = .pointer (some ⟨b, 0, none⟩)) (hd : a.defers = []) (h : Holds4 w b (wd M)) (hR : R (.returned (sv M)) w) : bodyPost Tryz.prog f R .ret a w :=
  bodyPost_ret (results_cell_row hres a.tmps w b _ _ (0, 0) _ hp h Tryz.underlying24 rfl (by kernel_rfl)) hd hR
def vnat (v : Value) : Nat := match v with | .int _ n => n.toNat | _ => 0
set_option maxHeartbeats 1000000 in
set_option maxRecDepth 100000 in
theorem below_any (N n : Nat) (hn : n ≤ 128) (w : World) : Calls Tryz.prog 96 #[sv N, .int .i64 (n : Int)] w fun e w' => e = .returned (sv (N % 2 ^ n)) ∧ Below w.heap.size w w' := by
  have hmx : Tryz.prog.follows .mixedOrders = true := by kernel_rfl
  simp only [sv]
  go_enter Tryz.func96, Tryz.ntmps96
  go_wp2
  go_loopw [6] (fun c wz => ∃ k : Nat, c = .int .i64 k ∧ k ≤ 4 ∧ Holds4 wz w.heap.size (fun j => if j < k then wd (N % 2 ^ n) j else wd N j) ∧ Holds4 wz (w.heap.size + 1) (fun _ => 0) ∧ Below w.heap.size w wz) (fun c _ => 4 - vnat c)
  case atStart =>
    refine ⟨0, rfl, by omega, ?_, ?_, ?_⟩
    · exact get_oldQ (get_newQ (by simp))
    · exact get_newQ (by simp)
    · exact ((Below.refl _ w).alloc (by simp) _).alloc (by simp) _
  case round =>
    obtain ⟨k, rfl, hk, h1, h2, hb⟩ := hrel
    have hz : w.heap.size + 1 < wr.heap.size := (Array.getElem?_eq_some_iff.1 h2).1
    by_cases hk4 : k < 4
    · have hki : (k : Int) < 4 := by omega
      have hc : wd N k < 4294967296 := wd_lt N k
      have hl := lowN_lt ((n : Int) - (k : Int) * 32)
      go_wp2
      rename_i Q0 K0 hK
      refine wp_region_any hmx ?_
      refine wpAny_last 10 (fun i__ => ([(.int .i64 (k : Int)), (.pointer (some ⟨w.heap.size, k, none⟩)), (.int .u32 ((wd N k : Nat) : Int)), (.int .i64 (n : Int)), (.int .i64 (k : Int)), (.int .i64 ((k : Int) * 32)), (.int .i64 ((n : Int) - (k : Int) * 32)), (.int .u32 ((lowN ((n : Int) - (k : Int) * 32) : Nat) : Int)), (.int .u32 ((wd N k &&& lowN ((n : Int) - (k : Int) * 32) : Nat) : Int)), (.pointer (some ⟨w.heap.size, k, none⟩)), undef] : List Value).getD i__ undef) (fun W => Holds4 W w.heap.size (fun j => if j < k then wd (N % 2 ^ n) j else wd N j) ∧ Holds4 W (w.heap.size + 1) (fun _ => 0) ∧ Below w.heap.size w W) (fun W => Holds4 W w.heap.size (fun j => if j < k + 1 then wd (N % 2 ^ n) j else wd N j) ∧ Holds4 W (w.heap.size + 1) (fun _ => 0) ∧ Below w.heap.size w W) rfl (by kernel_rfl) (by kernel_rfl) ⟨h1, h2, hb.drew⟩ ?_ ?_  ?_
      · refine (stepsFrom_cons ?_ (stepsFrom_cons ?_ (stepsFrom_cons ?_ (stepsFrom_cons ?_ (stepsFrom_cons ?_ (stepsFrom_cons ?_ (stepsFrom_cons ?_ (stepsFrom_cons ?_ (stepsFrom_cons ?_ (stepsFrom_cons ?_ trivial))))))))))
        · exact step_move rfl trivial _ rfl (by kernel_rfl)
        · exact step_indexAddr rfl trivial _ _ _ _ _ rfl rfl rfl (fun w hw => idx4 _ k hk4 w)
        · exact step_load rfl trivial _ _ _ rfl rfl (fun w hw => by have := load4 w _ k _ hw.1 hk4; simpa using this)
        · exact step_move rfl trivial _ rfl (by kernel_rfl)
        · exact step_move rfl trivial _ rfl (by kernel_rfl)
        · exact step_binOp rfl trivial _ _ _ _ _ _ _ rfl rfl rfl (fun w hw => bin_mul64 _ _ _ (by rw [IntKind.wrap_i64]; omega))
        · exact step_binOp rfl trivial _ _ _ _ _ _ _ rfl rfl rfl (fun w hw => bin_sub64 _ _ _ (by rw [IntKind.wrap_i64]; omega))
        · exact step_call rfl trivial 124 _ _ [(.int .i64 ((n : Int) - (k : Int) * 32))] rfl (by kernel_rfl) (enters_of Tryz.func124 (by kernel_rfl) rfl) (fun w hw => (lowest_any _ w).mono (by rintro e w' ⟨rfl, rfl⟩; exact ⟨rfl, hw⟩))
        · exact step_binOp rfl trivial _ _ _ _ _ _ _ rfl rfl rfl (fun w hw => bin_and32 _ _ hc hl)
        · exact step_indexAddr rfl trivial _ _ _ _ _ rfl rfl rfl (fun w hw => idx4 _ k hk4 w)
      · intro o ho
        cases ho
        exact step_store rfl trivial rfl _ _ _ _ _ rfl rfl rfl (fun w' hw => by obtain ⟨w2, e1, e2, e3, e4⟩ := store4 w' _ k _ _ hw.1 hk4; refine ⟨w2, e1, e2.congr (fun j hj => ?_), (e4 _ (by omega)).trans hw.2.1, hw.2.2.trans (e3 _ (Nat.le_refl _))⟩; exact mix_step N n k j)
      intro W hW
      first | refine hK _ _ ?_ | refine (‹∀ (a : Act) (w : World), Code.wp Tryz.prog _ _ a w → _›) _ _ ?_ | skip
      simp only [finL, List.getD_cons_zero, List.getD_cons_succ, Nat.zero_add, Nat.reduceAdd, List.setIfInBounds_toArray, List.set_cons_zero, List.set_cons_succ]
      obtain ⟨g1, g2, g3⟩ := hW
      go_wp2
      go_roundw
      case rel => exact ⟨k + 1, by simp, by omega, g1, g2, g3⟩
      case measure => simp only [vnat]; omega
    · have hk5 : k = 4 := by omega
      subst hk5
      have h1' : Holds4 wr w.heap.size (wd (N % 2 ^ n)) := h1.congr (fun j hj => by simp [hj])
      have x0 := h1'.cell 0 (by decide)
      have x1 := h1'.cell 1 (by decide)
      have x2 := h1'.cell 2 (by decide)
      have x3 := h1'.cell 3 (by decide)
      have y0 := h2.cell 0 (by decide)
      have y1 := h2.cell 1 (by decide)
      have y2 := h2.cell 2 (by decide)
      have y3 := h2.cell 3 (by decide)
      have z0 := h2.frozen 0
      have z1 := h2.frozen 1
      have z2 := h2.frozen 2
      have z3 := h2.frozen 3
      have H2 : Hid (Holds4 wr (w.heap.size + 1) (fun _ => 0)) := h2
      clear h1 h1' h2
      go_wp2
      exact ret4 rfl rfl rfl (fin4 H2.out _) ⟨rfl, below4 hb (Nat.le_succ _) _⟩

theorem Holds4.facts {w : World} {b : Nat} {c : Nat → Nat} (h : Holds4 w b c) :
    w.cell? ⟨b, 0, none⟩ = some (.int .u32 (c 0 : Nat)) ∧ w.cell? ⟨b, 1, none⟩ = some (.int .u32 (c 1 : Nat)) ∧ w.cell? ⟨b, 2, none⟩ = some (.int .u32 (c 2 : Nat)) ∧ w.cell? ⟨b, 3, none⟩ = some (.int .u32 (c 3 : Nat)) ∧
    w.frozen? ⟨b, 0, none⟩ = false ∧ w.frozen? ⟨b, 1, none⟩ = false ∧ w.frozen? ⟨b, 2, none⟩ = false ∧ w.frozen? ⟨b, 3, none⟩ = false :=
  ⟨h.cell 0 (by decide), h.cell 1 (by decide), h.cell 2 (by decide), h.cell 3 (by decide), h.frozen 0, h.frozen 1, h.frozen 2, h.frozen 3⟩
set_option maxHeartbeats 1000000 in
theorem clean_any (N : Nat) (w : World) : Calls Tryz.prog 97 #[sv N] w fun e w' => e = .returned (sv (cln N)) ∧ Below w.heap.size w w' := by
  have hc : ∀ w, Calls Tryz.prog 96 #[sv N, .int .i64 100] w fun e w' => e = .returned (sv (cln N)) ∧ Below w.heap.size w w' := below_any N 100 (by decide)
  simp only [sv] at hc ⊢
  generalize cln N = M at *
  go_enter Tryz.func97, Tryz.ntmps97
  go_wp2_with (go_at_call 96; refine (hc _).mono ?_; rintro e w' ⟨rfl, hb⟩; have q : Hid (Holds4 w' (w.heap.size + 1) (fun _ => 0)) := (hb.block _ (by simp)).trans (get_newQ (by simp)); obtain ⟨y0, y1, y2, y3, z0, z1, z2, z3⟩ := q.out.facts; have hb2 : Below w.heap.size w w' := (((Below.refl _ w).alloc (by simp) _).alloc (by simp) _).trans (hb.mono (by simp; omega)))
  exact ret4 rfl rfl rfl (fin4 q.out _) ⟨rfl, below4 hb2 (Nat.le_succ _) _⟩


theorem Holds4.carry {w w' : World} {b : Nat} {c : Nat → Nat} (h : Holds4 w b c) (hb : Below w.heap.size w w') : Holds4 w' b c := h.keep hb (Array.getElem?_eq_some_iff.1 h).1
theorem bcarry {w0 w w' : World} {B : Nat} (h : Below B w0 w) (hB : B ≤ w0.heap.size) (hb : Below w.heap.size w w') : Below B w0 w' := h.trans (hb.mono (Nat.le_trans hB h.size))
theorem eqStep (A B j : Nat) (hj : j < 4) (is : List Nat) (w : World) : (Op.eqItems 9999 22 1 (cells4 (wd A)) (cells4 (wd B)) (j :: is)).run Tryz.prog w = if wd A j = wd B j then (Op.eqItems 9999 22 1 (cells4 (wd A)) (cells4 (wd B)) is).run Tryz.prog w else .ok false w := by
  have he : Tryz.prog.plainKey 22 = true := by kernel_rfl
  have p1 := run_part_plain (P := Tryz.prog) w he (off := j * 1) (by rw [Nat.mul_one]; exact cells4_get (wd A) j hj)
  have p2 := run_part_plain (P := Tryz.prog) w he (off := j * 1) (by rw [Nat.mul_one]; exact cells4_get (wd B) j hj)
  have p3 := run_equalIn_int (P := Tryz.prog) w 9998 22 .u32 .u32 (wd A j : Int) (wd B j : Int) Tryz.underlying22
  rw [Op.eqItems]
  simp only [Sem.run_bind, p1, p2, Result.andThen_ok]
  rw [p3]
  simp only [Result.andThen_ok]
  by_cases h : wd A j = wd B j
  · simp [h]
  · have h2 : ((wd A j : Int) == (wd B j : Int)) = false := by simp; omega
    simp [h, h2]
theorem eqn4 (A B : Nat) (hA : A < S128) (hB : B < S128) (w : World) : (Op.equalIn 10000 24 (sv A) (sv B)).run Tryz.prog w = .ok (decide (A = B)) w := by
  have hi : (Tryz.prog.info? 22).isSome = true := by kernel_rfl
  obtain ⟨i, hi⟩ := Option.isSome_iff_exists.1 hi
  have hc : Tryz.prog.cellsOf 22 = 1 := by kernel_rfl
  rw [sv_cells, sv_cells, run_equalIn_array w 9999 _ _ Tryz.underlying24 hi, hc, show List.range 4 = [0, 1, 2, 3] from rfl]
  rw [eqStep A B 0 (by decide), eqStep A B 1 (by decide), eqStep A B 2 (by decide), eqStep A B 3 (by decide)]
  by_cases e : A = B
  · subst e; simp [Op.eqItems]
  · have hn : ¬ (wd A 0 = wd B 0 ∧ wd A 1 = wd B 1 ∧ wd A 2 = wd B 2 ∧ wd A 3 = wd B 3) := fun h => e (ext_wd hA hB h.1 h.2.1 h.2.2.1 h.2.2.2)
    simp only [e, decide_false]
    by_cases h0 : wd A 0 = wd B 0
    · by_cases h1 : wd A 1 = wd B 1
      · by_cases h2 : wd A 2 = wd B 2
        · by_cases h3 : wd A 3 = wd B 3
          · exact absurd ⟨h0, h1, h2, h3⟩ hn
          · simp [h0, h1, h2, h3]
        · simp [h0, h1, h2]
      · simp [h0, h1]
    · simp [h0]
theorem eql4 (x y : Operand) (A B : Nat) (hA : A < S128) (hB : B < S128) (w : World) : binRun Tryz.prog .eql 24 x y (sv A) (sv B) w = .ok (.bool (decide (A = B))) w := by
  have h := eqn4 A B hA hB w
  unfold sv at h
  unfold binRun sv
  go_simp
end Go.Proofs.YtnkpohkodkjkfaaGreatDoor
