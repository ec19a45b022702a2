import Derived.Test.YtmahamdmapbilaaGreatDoorProg
import Derived.Test.YtmahamdmapbilaaGreatDoorJwJ7
import Derived.Test.YtmahamdmapbilaaGreatDoorJwJ5
import Derived.Shelf.Abstract
import Derived.Laws.BitsAll
import Derived.Laws.Shifts
import Derived.Lib.Tables
import Derived.Deep.WholeRow
set_option maxHeartbeats 40000000
set_option maxRecDepth 100000
set_option linter.unusedVariables false
namespace Go.Proofs.YtmahamdmapbilaaGreatDoor
open Go.RowKit Go.Shelf Go.Lib
attribute [local go_sem] Oper.semAt_some
theorem ret_int {k : IntKind} {a b : Int} (h : a = b) : Ending.returned (.int k a) = .returned (.int k b) := by rw [h]
theorem ret_bool {a b : Bool} (h : a = b) : Ending.returned (.bool a) = .returned (.bool b) := by rw [h]
def lowN (k : Int) : Nat := 2 ^ (min (max k 0) 32).toNat - 1
theorem two_pow_int (n : Nat) : (2 : Int) ^ n = ((2 ^ n : Nat) : Int) := by simp
theorem pow_le32 (n : Nat) (h : n ≤ 32) : 1 ≤ 2 ^ n ∧ 2 ^ n ≤ 4294967296 := ⟨Nat.one_le_two_pow, Nat.pow_le_pow_right (n := 2) (j := 32) (by decide) h⟩
theorem lowN_lt (k : Int) : lowN k < 4294967296 := by
 unfold lowN
 have := pow_le32 (min (max k 0) 32).toNat (by omega)
 omega
theorem lowest_any (k : Int) (w : World) : Calls Tryz.prog 217 #[.int .i64 k] w fun e w' => e = .returned (.int .u32 (lowN k : Nat)) ∧ w' = w := by
  go_enter Tryz.func217, Tryz.ntmps217
  go_wp2
  all_goals
    go_ret
    refine ⟨ret_int ?_, rfl⟩
    unfold lowN
    first
    | (rw [show (min (max k 0) 32) = 32 by omega]; rfl)
    | (rw [show (min (max k 0) 32) = 0 by omega]; rfl)
    | (rw [show (min (max k 0) 32) = k by omega, two_pow_int]
       have := pow_le32 k.toNat (by omega)
       generalize 2 ^ k.toNat = z at *
       omega)
    | (have hn : (min (max k 0) 32).toNat ≤ 32 := by omega
       generalize (min (max k 0) 32).toNat = n at *
       rw [two_pow_int]
       have := pow_le32 n hn
       generalize 2 ^ n = z at *
       omega)
theorem bit_any (k : Nat) (h : k < 128) (w : World) : Calls Tryz.prog 245 #[.int .i64 (k : Int)] w fun e w' => e = .returned (.int .u32 ((2 ^ (k % 32) : Nat) : Int)) ∧ w' = w := by
 go_enter Tryz.func245, Tryz.ntmps245
 go_wp2
 go_ret
 refine ⟨ret_int ?_, rfl⟩
 have h1 := pow_le32 (k % 32) (by omega)
 have h2 : 2 ^ (k % 32) ≤ 2 ^ 31 := Nat.pow_le_pow_right (by decide) (by omega)
 simp only [two_pow_int]
 generalize 2 ^ (k % 32) = z at *
 omega
theorem isId_any (k : Int) (w : World) : Calls Tryz.prog 244 #[.int .i64 k] w fun e w' => e = .returned (.bool (decide (0 ≤ k ∧ k < 100))) ∧ w' = w := by
  go_enter Tryz.func244, Tryz.ntmps244
  go_wp2
  all_goals
    go_ret
    refine ⟨ret_bool ?_, rfl⟩
    first
    | (have h : 0 ≤ k := by omega
       simp [h])
    | (have h : ¬ 0 ≤ k := by omega
       simp [h])
end Go.Proofs.YtmahamdmapbilaaGreatDoor
namespace Go.Proofs.YtmahamdmapbilaaGreatDoor
open Go.RowKit Go.Shelf Go.Lib
def cells4 (c : Nat → Nat) : Array Value := #[.int .u32 (c 0 : Nat), .int .u32 (c 1 : Nat), .int .u32 (c 2 : Nat), .int .u32 (c 3 : Nat)]
theorem sv_cells (N : Nat) : sv N = .agg (cells4 (wd N)) := rfl
def Zh4 (w : World) (b : Nat) (c : Nat → Nat) : Prop := w.heap[b]? = some (.cells (cells4 c) 36)
theorem cells4_get (c : Nat → Nat) (k : Nat) (h : k < 4) : (cells4 c)[k]? = some (.int .u32 (c k : Nat)) := by
 match k, h with
 | 0, _ => rfl
 | 1, _ => rfl
 | 2, _ => rfl
 | 3, _ => rfl
theorem cells4_set (c : Nat → Nat) (k v : Nat) (h : k < 4) : (cells4 c).setIfInBounds k (.int .u32 (v : Nat)) = cells4 (fun j => if j = k then v else c j) := by
 match k, h with
 | 0, _ => rfl
 | 1, _ => rfl
 | 2, _ => rfl
 | 3, _ => rfl
theorem Zh4.cell {w : World} {b : Nat} {c : Nat → Nat} (h : Zh4 w b c) (k : Nat) (hk : k < 4) : w.cell? ⟨b, k, none⟩ = some (.int .u32 (c k : Nat)) := by
 unfold Zh4 at h
 simp [World.cell?, h, cells4_get c k hk]
theorem idx4 (b k : Nat) (hk : k < 4) (w : World) : (Instr.indexAt 36 (.pointer (some ⟨b, 0, none⟩)) (.int .i64 (k : Int))).run Tryz.prog w = .ok (.pointer (some ⟨b, k, none⟩)) w := by
 have h1 : (k : Int) < 4 := by omega
 have h2 : 0 ≤ (k : Int) := by omega
 go_simp
theorem load4 (w : World) (b k : Nat) (c : Nat → Nat) (h : Zh4 w b c) (hk : k < 4) : (Instr.loadAt 34 (.pointer (some ⟨b, k, none⟩))).run Tryz.prog w = .ok (.int .u32 (c k : Nat)) w := by
 have := h.cell k hk
 go_simp
theorem Zh4.frozen {w : World} {b : Nat} {c : Nat → Nat} (h : Zh4 w b c) (k : Nat) : w.frozen? ⟨b, k, none⟩ = false := by
 unfold Zh4 at h
 simp [World.frozen?, h]
theorem Zh4.set {w : World} {b : Nat} {c : Nat → Nat} (h : Zh4 w b c) (k v : Nat) (hk : k < 4) : Zh4 (w.setCell ⟨b, k, none⟩ (.int .u32 (v : Int))) b (fun j => if j = k then v else c j) := by
 unfold Zh4 at *
 have hlt := (Array.getElem?_eq_some_iff.1 h).1
 rw [← cells4_set c k v hk]
 simp [World.setCell, h, Array.getElem?_modify]
theorem store4 (w : World) (b k v : Nat) (c : Nat → Nat) (h : Zh4 w b c) (hk : k < 4) : ∃ w', (Instr.storeAt 34 (.pointer (some ⟨b, k, none⟩)) (.int .u32 (v : Int))).run Tryz.prog w = .ok () w' ∧ Zh4 w' b (fun j => if j = k then v else c j) ∧ (∀ B, B ≤ b → Below B w w') ∧ (∀ B, B ≠ b → w'.heap[B]? = w.heap[B]?) := by
 have h1 := h.cell k hk
 have h2 := h.frozen k
 refine ⟨w.setCell ⟨b, k, none⟩ (.int .u32 (v : Int)), ?_, h.set k v hk, fun B hB => (Below.refl B w).setCell hB _, fun B hB => Below.heap_setCell _ _ _ _ hB⟩
 go_simp
theorem whole4 (w : World) (b : Nat) (N : Nat) (h : Zh4 w b (wd N)) : (Instr.loadAt 36 (.pointer (some ⟨b, 0, none⟩))).run Tryz.prog w = .ok (sv N) w := by
 have := run_loadVar_row (P := Tryz.prog) w b 36 36 (cells4 (wd N)) (0, 0) _ h Tryz.underlying36 rfl (by kernel_rfl)
 simp only [Instr.loadAt, Instr.sureAddr, Sem.run_bind, Sem.run_pure, Result.andThen_ok, this]
 rfl
theorem Zh4.congr {w : World} {b : Nat} {c c' : Nat → Nat} (h : Zh4 w b c) (e : ∀ j, j < 4 → c j = c' j) : Zh4 w b c' := by
 have : cells4 c = cells4 c' := by simp [cells4, e 0 (by decide), e 1 (by decide), e 2 (by decide), e 3 (by decide)]
 unfold Zh4 at *
 rw [h, this]
theorem Zh4.keep {w w' : World} {b B : Nat} {c : Nat → Nat} (h : Zh4 w b c) (hb : Below B w w') (hB : b < B) : Zh4 w' b c := (hb.block b hB).trans h
theorem get_oldQ {w : World} {o o' : Obj} {k : Nat} (h : w.heap[k]? = some o') : (w.alloc o).heap[k]? = some o' := (Below.heap_alloc w o k (Array.getElem?_eq_some_iff.1 h).1).trans h
theorem get_newQ {w : World} {o : Obj} {k : Nat} (h : k = w.heap.size) : (w.alloc o).heap[k]? = some o := by subst h; exact heap_alloc_last w o
theorem lowN_wd (N n k : Nat) : wd (N % 2 ^ n) k = wd N k &&& lowN ((n : Int) - (k : Int) * 32) := by
 rw [wd_mod]
 unfold lowN
 congr 3
 omega
theorem mix_step (N n k j : Nat) : (if j = k then wd N k &&& lowN ((n : Int) - (k : Int) * 32) else if j < k then wd (N % 2 ^ n) j else wd N j) = if j < k + 1 then wd (N % 2 ^ n) j else wd N j := by
 by_cases q : j = k
 · subst q; simp [lowN_wd N n j]
 · by_cases q2 : j < k
   · rw [if_neg q, if_pos q2, if_pos (by omega)]
   · rw [if_neg q, if_neg q2, if_neg (by omega)]
def set4 (w : World) (b M : Nat) : World := (((w.setCell ⟨b, 0, none⟩ (.int .u32 (wd M 0 : Nat))).setCell ⟨b, 1, none⟩ (.int .u32 (wd M 1 : Nat))).setCell ⟨b, 2, none⟩ (.int .u32 (wd M 2 : Nat))).setCell ⟨b, 3, none⟩ (.int .u32 (wd M 3 : Nat))
theorem fin4 {w : World} {b : Nat} {c : Nat → Nat} (h : Zh4 w b c) (M : Nat) : Zh4 (set4 w b M) b (wd M) := by
 refine ((((h.set 0 (wd M 0) (by decide)).set 1 (wd M 1) (by decide)).set 2 (wd M 2) (by decide)).set 3 (wd M 3) (by decide)).congr (fun j hj => ?_)
 match j, hj with
 | 0, _ => rfl
 | 1, _ => rfl
 | 2, _ => rfl
 | 3, _ => rfl
theorem below4 {w0 w : World} {B b : Nat} (hb : Below B w0 w) (hB : B ≤ b) (M : Nat) : Below B w0 (set4 w b M) := (((hb.setCell hB _).setCell hB _).setCell hB _).setCell hB _
theorem ret4 {f : Func} {p : Tmp} {R : Ending → World → Prop} {a : Act} {w : World} {b M : Nat} (hres : f.results = #[.cell p 36]) (hp : a.tmps.getD p undef = .pointer (some ⟨b, 0, none⟩)) (hd : a.defers = []) (h : Zh4 w b (wd M)) (hR : R (.returned (sv M)) w) : bodyPost Tryz.prog f R .ret a w :=
 bodyPost_ret (results_cell_row hres a.tmps w b _ _ (0, 0) _ hp h Tryz.underlying36 rfl (by kernel_rfl)) hd hR
def vnat (v : Value) : Nat := match v with | .int _ n => n.toNat | _ => 0
theorem below_any (N n : Nat) (hn : n ≤ 128) (w : World) : Calls Tryz.prog 190 #[sv N, .int .i64 (n : Int)] w fun e w' => e = .returned (sv (N % 2 ^ n)) ∧ Below w.heap.size w w' := by
 have hmx := mixO
 simp only [sv]
 go_enter Tryz.func190, Tryz.ntmps190
 go_wp2
 go_loopw [6] (fun c wz => ∃ k : Nat, c = .int .i64 k ∧ k ≤ 4 ∧ Zh4 wz w.heap.size (fun j => if j < k then wd (N % 2 ^ n) j else wd N j) ∧ Zh4 wz (w.heap.size + 1) (fun _ => 0) ∧ Below w.heap.size w wz) (fun c _ => 4 - vnat c)
 case atStart =>
  refine ⟨0, rfl, by omega, ?_, ?_, ?_⟩
  · exact get_oldQ (get_newQ (by simp))
  · exact get_newQ (by simp)
  · exact ((Below.refl _ w).alloc (by simp) _).alloc (by simp) _
 case round =>
  obtain ⟨k, rfl, hk, h1, h2, hb⟩ := hrel
  have hz : w.heap.size + 1 < wr.heap.size := (Array.getElem?_eq_some_iff.1 h2).1
  by_cases hk4 : k < 4
  · have hki : (k : Int) < 4 := by omega
    have hc : wd N k < 4294967296 := wd_lt N k
    have hl := lowN_lt ((n : Int) - (k : Int) * 32)
    go_wp2
    rename_i Q0 K0 hK
    refine wp_region_any hmx ?_
    refine zwl 10 (fun i__ => ([(.int .i64 (k : Int)), (.pointer (some ⟨w.heap.size, k, none⟩)), (.int .u32 ((wd N k : Nat) : Int)), (.int .i64 (n : Int)), (.int .i64 (k : Int)), (.int .i64 ((k : Int) * 32)), (.int .i64 ((n : Int) - (k : Int) * 32)), (.int .u32 ((lowN ((n : Int) - (k : Int) * 32) : Nat) : Int)), (.int .u32 ((wd N k &&& lowN ((n : Int) - (k : Int) * 32) : Nat) : Int)), (.pointer (some ⟨w.heap.size, k, none⟩)), undef] : List Value).getD i__ undef) (fun W => Zh4 W w.heap.size (fun j => if j < k then wd (N % 2 ^ n) j else wd N j) ∧ Zh4 W (w.heap.size + 1) (fun _ => 0) ∧ Below w.heap.size w W) (fun W => Zh4 W w.heap.size (fun j => if j < k + 1 then wd (N % 2 ^ n) j else wd N j) ∧ Zh4 W (w.heap.size + 1) (fun _ => 0) ∧ Below w.heap.size w W) rfl (by kernel_rfl) (by kernel_rfl) ⟨h1, h2, hb.drew⟩ ?_ ?_  ?_
    · refine (sqc ?_ (sqc ?_ (sqc ?_ (sqc ?_ (sqc ?_ (sqc ?_ (sqc ?_ (sqc ?_ (sqc ?_ (sqc ?_ trivial))))))))))
      · exact zmv rfl trivial _ rfl (by kernel_rfl)
      · exact zia rfl trivial _ _ _ _ _ rfl rfl rfl (fun w hw => idx4 _ k hk4 w)
      · exact zld rfl trivial _ _ _ rfl rfl (fun w hw => by have := load4 w _ k _ hw.1 hk4; simpa using this)
      · exact zmv rfl trivial _ rfl (by kernel_rfl)
      · exact zmv rfl trivial _ rfl (by kernel_rfl)
      · exact zbo rfl trivial _ _ _ _ _ _ _ rfl rfl rfl (fun w hw => bin_mul64 _ _ _ (by rw [IntKind.wrap_i64]; omega))
      · exact zbo rfl trivial _ _ _ _ _ _ _ rfl rfl rfl (fun w hw => bin_sub64 _ _ _ (by rw [IntKind.wrap_i64]; omega))
      · exact zsc rfl trivial 217 _ _ [(.int .i64 ((n : Int) - (k : Int) * 32))] rfl (by kernel_rfl) (enters_of Tryz.func217 (by kernel_rfl) rfl) (fun w hw => (lowest_any _ w).mono (by rintro e w' ⟨rfl, rfl⟩; exact ⟨rfl, hw⟩))
      · exact zbo rfl trivial _ _ _ _ _ _ _ rfl rfl rfl (fun w hw => bin_and32 _ _ hc hl)
      · exact zia rfl trivial _ _ _ _ _ rfl rfl rfl (fun w hw => idx4 _ k hk4 w)
    · intro o ho
      cases ho
      exact step_store rfl trivial rfl _ _ _ _ _ rfl rfl rfl (fun w' hw => by obtain ⟨w2, e1, e2, e3, e4⟩ := store4 w' _ k _ _ hw.1 hk4; refine ⟨w2, e1, e2.congr (fun j hj => ?_), (e4 _ (by omega)).trans hw.2.1, hw.2.2.trans (e3 _ (Nat.le_refl _))⟩; exact mix_step N n k j)
    intro W hW
    first | refine hK _ _ ?_ | refine (‹∀ (a : Act) (w : World), Code.wp Tryz.prog _ _ a w → _›) _ _ ?_ | skip
    simp only [finL, List.getD_cons_zero, List.getD_cons_succ, Nat.zero_add, Nat.reduceAdd, List.setIfInBounds_toArray, List.set_cons_zero, List.set_cons_succ]
    obtain ⟨g1, g2, g3⟩ := hW
    go_wp2
    go_roundw
    case rel => exact ⟨k + 1, by simp, by omega, g1, g2, g3⟩
    case measure => simp only [vnat]; omega
  · have hk5 : k = 4 := by omega
    subst hk5
    have h1' : Zh4 wr w.heap.size (wd (N % 2 ^ n)) := h1.congr (fun j hj => by simp [hj])
    have x0 := h1'.cell 0 (by decide)
    have x1 := h1'.cell 1 (by decide)
    have x2 := h1'.cell 2 (by decide)
    have x3 := h1'.cell 3 (by decide)
    have y0 := h2.cell 0 (by decide)
    have y1 := h2.cell 1 (by decide)
    have y2 := h2.cell 2 (by decide)
    have y3 := h2.cell 3 (by decide)
    have z0 := h2.frozen 0
    have z1 := h2.frozen 1
    have z2 := h2.frozen 2
    have z3 := h2.frozen 3
    have H2 : Hid (Zh4 wr (w.heap.size + 1) (fun _ => 0)) := h2
    clear h1 h1' h2
    go_wp2
    exact ret4 rfl rfl rfl (fin4 H2.out _) ⟨rfl, below4 hb (Nat.le_succ _) _⟩
theorem Zh4.facts {w : World} {b : Nat} {c : Nat → Nat} (h : Zh4 w b c) :
  w.cell? ⟨b, 0, none⟩ = some (.int .u32 (c 0 : Nat)) ∧ w.cell? ⟨b, 1, none⟩ = some (.int .u32 (c 1 : Nat)) ∧ w.cell? ⟨b, 2, none⟩ = some (.int .u32 (c 2 : Nat)) ∧ w.cell? ⟨b, 3, none⟩ = some (.int .u32 (c 3 : Nat)) ∧
  w.frozen? ⟨b, 0, none⟩ = false ∧ w.frozen? ⟨b, 1, none⟩ = false ∧ w.frozen? ⟨b, 2, none⟩ = false ∧ w.frozen? ⟨b, 3, none⟩ = false :=
 ⟨h.cell 0 (by decide), h.cell 1 (by decide), h.cell 2 (by decide), h.cell 3 (by decide), h.frozen 0, h.frozen 1, h.frozen 2, h.frozen 3⟩
theorem clean_any (N : Nat) (w : World) : Calls Tryz.prog 191 #[sv N] w fun e w' => e = .returned (sv (cln N)) ∧ Below w.heap.size w w' := by
 have hc : ∀ w, Calls Tryz.prog 190 #[sv N, .int .i64 100] w fun e w' => e = .returned (sv (cln N)) ∧ Below w.heap.size w w' := below_any N 100 (by decide)
 simp only [sv] at hc ⊢
 generalize cln N = M at *
 go_enter Tryz.func191, Tryz.ntmps191
 go_wp2_with (go_at_call 190; refine (hc _).mono ?_; rintro e w' ⟨rfl, hb⟩; have q : Hid (Zh4 w' (w.heap.size + 1) (fun _ => 0)) := (hb.block _ (by simp)).trans (get_newQ (by simp)); obtain ⟨y0, y1, y2, y3, z0, z1, z2, z3⟩ := q.out.facts; have hb2 : Below w.heap.size w w' := (((Below.refl _ w).alloc (by simp) _).alloc (by simp) _).trans (hb.mono (by simp; omega)))
 exact ret4 rfl rfl rfl (fin4 q.out _) ⟨rfl, below4 hb2 (Nat.le_succ _) _⟩
end Go.Proofs.YtmahamdmapbilaaGreatDoor
