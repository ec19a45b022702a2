import Derived.Test.YtifcnnonnocmmaaJnJ0
import Derived.Laws.BitsAll
import Derived.Laws.Shifts
import Derived.Lib.Tables
import Derived.Deep.WholeRow
set_option maxHeartbeats 40000000
set_option maxRecDepth 100000
set_option linter.unusedVariables false
namespace Go.Proofs.Ytifcnnonnocmmaa
open Go.RowKit
section
variable {P : Program} {t : TypeId} {x y : Operand} {w : World}
theorem bin_sub64 (a b c : Int) (h : IntKind.i64.wrap (a - b) = c) : binRun P .sub t x y (.int .i64 a) (.int .i64 b) w = .ok (.int .i64 c) w := by subst h; simp [binRun, go_sem, Op.intArith]
theorem bin_mul64 (a b c : Int) (h : IntKind.i64.wrap (a * b) = c) : binRun P .mul t x y (.int .i64 a) (.int .i64 b) w = .ok (.int .i64 c) w := by subst h; simp [binRun, go_sem, Op.intArith]
theorem bin_add8 (a b c : Int) (h : IntKind.u8.wrap (a + b) = c) : binRun P .add t x y (.int .u8 a) (.int .u8 b) w = .ok (.int .u8 c) w := by subst h; simp [binRun, go_sem, Op.intArith]
theorem bin_and32 (a b : Nat) (ha : a < 4294967296) (hb : b < 4294967296) : binRun P .and t x y (.int .u32 (a : Int)) (.int .u32 (b : Int)) w = .ok (.int .u32 ((a &&& b : Nat) : Int)) w := by
 rw [← u32_and_nat a b ha hb]; simp [binRun, go_sem]
theorem bin_or32 (a b : Nat) (ha : a < 4294967296) (hb : b < 4294967296) : binRun P .or t x y (.int .u32 (a : Int)) (.int .u32 (b : Int)) w = .ok (.int .u32 ((a ||| b : Nat) : Int)) w := by
 rw [← u32_or_nat a b ha hb]; simp [binRun, go_sem]
theorem bin_andNot32 (a b : Nat) (ha : a < 4294967296) (hb : b < 4294967296) : binRun P .andNot t x y (.int .u32 (a : Int)) (.int .u32 (b : Int)) w = .ok (.int .u32 ((a &&& (4294967295 - b) : Nat) : Int)) w := by
 rw [← u32_andNot_nat a b ha hb]; simp [binRun, go_sem]
theorem bin_shr32 (k : IntKind) (a n : Nat) (hn : n < 32) : binRun P .shr t x y (.int .u32 (a : Int)) (.int k (n : Int)) w = .ok (.int .u32 ((a / 2 ^ n : Nat) : Int)) w := by
 have h := shift_shr .u32 k (a : Int) (n : Int) (by omega) (by simp [IntKind.bits]; omega)
 simp only [binRun, eqGuard_shr, binOp_shr, h]
 simp
theorem bin_shl32 (k : IntKind) (n : Nat) (hn : n < 32) : binRun P .shl t x y (.int .u32 1) (.int k (n : Int)) w = .ok (.int .u32 ((2 ^ n : Nat) : Int)) w := by
 have h := shift_shl .u32 k 1 (n : Int) (by omega) (by simp [IntKind.bits]; omega)
 have h2 : 2 ^ n < 4294967296 := Nat.pow_lt_pow_right (a := 2) (n := 32) (by decide) hn
 have h3 : IntKind.u32.wrap (1 * 2 ^ (n : Int).toNat) = ((2 ^ n : Nat) : Int) := by
  have e : (2 : Int) ^ n = ((2 ^ n : Nat) : Int) := by simp
  rw [Int.toNat_natCast, e, IntKind.wrap_u32']
  generalize 2 ^ n = z at *
  omega
 simp only [binRun, eqGuard_shl, binOp_shl, h, h3]
 simp
theorem bin_quo64 (a b : Nat) (ha : a < 9223372036854775808) (hb : 0 < b) : binRun P .quo t x y (.int .i64 (a : Int)) (.int .i64 (b : Int)) w = .ok (.int .i64 ((a / b : Nat) : Int)) w := by
 have e : ¬ b = 0 := by omega
 have h3 : IntKind.i64.wrap ((a : Int) / (b : Int)) = (a : Int) / (b : Int) := by
  have h4 : (a : Int) / (b : Int) = ((a / b : Nat) : Int) := by simp
  have : a / b ≤ a := Nat.div_le_self _ _
  rw [h4, IntKind.wrap_i64]
  generalize a / b = z at *
  omega
 simp [binRun, go_sem, Op.intDiv, e, h3]
theorem bin_rem64 (a b : Nat) (hb : 0 < b) : binRun P .rem t x y (.int .i64 (a : Int)) (.int .i64 (b : Int)) w = .ok (.int .i64 ((a % b : Nat) : Int)) w := by
 have e : ¬ b = 0 := by omega
 have h4 : (a : Int).tmod (b : Int) = (a : Int) % (b : Int) := Int.tmod_eq_emod_of_nonneg (by omega)
 simp [binRun, go_sem, Op.intDiv, e, h4]
theorem bin_eql (k : IntKind) (a b : Int) : binRun P .eql t x y (.int k a) (.int k b) w = .ok (.bool (a == b)) w := by simp [binRun, go_sem]
theorem bin_neq (k : IntKind) (a b : Int) : binRun P .neq t x y (.int k a) (.int k b) w = .ok (.bool (a != b)) w := by simp [binRun, go_sem]
theorem bin_lss (k : IntKind) (a b : Int) : binRun P .lss t x y (.int k a) (.int k b) w = .ok (.bool (decide (a < b))) w := by simp [binRun, go_sem]
theorem bin_leq (k : IntKind) (a b : Int) : binRun P .leq t x y (.int k a) (.int k b) w = .ok (.bool (decide (a ≤ b))) w := by simp [binRun, go_sem]
theorem bin_gtr (k : IntKind) (a b : Int) : binRun P .gtr t x y (.int k a) (.int k b) w = .ok (.bool (decide (a > b))) w := by simp [binRun, go_sem]
theorem bin_geq (k : IntKind) (a b : Int) : binRun P .geq t x y (.int k a) (.int k b) w = .ok (.bool (decide (a ≥ b))) w := by simp [binRun, go_sem]
end
end Go.Proofs.Ytifcnnonnocmmaa
namespace Go.Proofs.Ytifcnnonnocmmaa
open Go.RowKit Go.Shelf Go.Lib
theorem pop8_small (n : Nat) (h : n < 256) : pop8 (n : Int) = (popAux 8 n : Nat) := by
 have := pop8_eq ⟨n, h⟩
 rw [this]
 unfold onesCount
 rw [show (64 : Nat) = 8 + 56 from rfl, popAux_add, Nat.div_eq_of_lt (by simpa using h), popAux_zero]
 rfl
theorem pop_bytes (x : Nat) : popAux 32 x = popAux 8 (x / 2 ^ 24) + popAux 8 (x / 2 ^ 16 &&& 255) + popAux 8 (x / 2 ^ 8 &&& 255) + popAux 8 (x &&& 255) := by
 have m (y : Nat) : popAux 8 (y &&& 255) = popAux 8 y := by rw [Nat.and_two_pow_sub_one_eq_mod y 8]; exact popAux_mod 8 y
 rw [m, m, m, show (32 : Nat) = 8 + (8 + (8 + 8)) from rfl, popAux_add, popAux_add, popAux_add, Nat.div_div_eq_div_mul, Nat.div_div_eq_div_mul]
 simp only [Nat.reducePow, Nat.reduceMul]
 omega
theorem mask_lt (x : Nat) : x &&& 255 < 256 := by rw [Nat.and_two_pow_sub_one_eq_mod x 8]; exact Nat.mod_lt _ (by decide)
theorem idx_pop {P : Program} {t : TypeId} (s : ByteArray) (hs : s = pop8tab) (n : Nat) (h : n < 256) (ht : P.underlying t = some .string) (w : World) : (Instr.index t (.string s) (.int .u32 (n : Int))).run P w = .ok (.int .u8 ((popAux 8 n : Nat) : Int)) w := by
 rw [hs, run_index_pop8tab w t .u32 (n : Int) ht (by omega) (by omega), pop8_small n h]
theorem conv_int {P : Program} {src dst : TypeId} {k : IntKind} {n : Int} (k' : IntKind) (m : Int) (hs : (P.underlying src).isSome = true) (hd : P.underlying dst = some (.int k')) (hm : k'.wrap n = m) (w : World) : (convert src dst (.int k n)).run P w = .ok (.int k' m) w := by
 have e : P.intKind dst = k' := by simp [Program.intKind, hd]
 rw [run_convert_int w src dst k n hs (by rw [e]; exact hd), e, hm]
theorem ones_any (x : Nat) (hx : x < 4294967296) (w : World) : Calls Try.prog 42 #[.int .u32 (x : Int)] w fun e w' => e = .returned (.int .i64 (popAux 32 x : Nat)) ∧ w' = w.drew := by
 have hmx : Try.prog.follows .mixedOrders = true := by kernel_rfl
 have a3 : x / 2 ^ 24 < 256 := by omega
 have b1 : x / 2 ^ 16 < 4294967296 := by omega
 have b2 : x / 2 ^ 8 < 4294967296 := by omega
 have m1 := mask_lt (x / 2 ^ 16)
 have m2 := mask_lt (x / 2 ^ 8)
 have m3 := mask_lt x
 have e1 := popAux_le 8 (x / 2 ^ 24)
 have e2 := popAux_le 8 (x / 2 ^ 16 &&& 255)
 have e3 := popAux_le 8 (x / 2 ^ 8 &&& 255)
 have e4 := popAux_le 8 (x &&& 255)
 go_enter Try.func42, Try.ntmps42
 go_wp2
 rename_i Q0 K0 hK
 refine wp_region_any hmx ?_
 refine zwp (fun i__ => ([(.int .u32 (x : Int)), (.int .u32 ((x / 2 ^ 24 : Nat) : Int)), (.int .u8 ((popAux 8 (x / 2 ^ 24) : Nat) : Int)), (.int .u32 (x : Int)), (.int .u32 ((x / 2 ^ 16 : Nat) : Int)), (.int .u32 ((x / 2 ^ 16 &&& 255 : Nat) : Int)), (.int .u8 ((popAux 8 (x / 2 ^ 16 &&& 255) : Nat) : Int)), (.int .u8 ((popAux 8 (x / 2 ^ 24) + popAux 8 (x / 2 ^ 16 &&& 255) : Nat) : Int)), (.int .u32 (x : Int)), (.int .u32 ((x / 2 ^ 8 : Nat) : Int)), (.int .u32 ((x / 2 ^ 8 &&& 255 : Nat) : Int)), (.int .u8 ((popAux 8 (x / 2 ^ 8 &&& 255) : Nat) : Int)), (.int .u8 ((popAux 8 (x / 2 ^ 24) + popAux 8 (x / 2 ^ 16 &&& 255) + popAux 8 (x / 2 ^ 8 &&& 255) : Nat) : Int)), (.int .u32 (x : Int)), (.int .u32 ((x &&& 255 : Nat) : Int)), (.int .u8 ((popAux 8 (x &&& 255) : Nat) : Int)), (.int .u8 ((popAux 8 (x / 2 ^ 24) + popAux 8 (x / 2 ^ 16 &&& 255) + popAux 8 (x / 2 ^ 8 &&& 255) + popAux 8 (x &&& 255) : Nat) : Int)), (.int .i64 ((popAux 8 (x / 2 ^ 24) + popAux 8 (x / 2 ^ 16 &&& 255) + popAux 8 (x / 2 ^ 8 &&& 255) + popAux 8 (x &&& 255) : Nat) : Int)), (.int .i64 ((popAux 8 (x / 2 ^ 24) + popAux 8 (x / 2 ^ 16 &&& 255) + popAux 8 (x / 2 ^ 8 &&& 255) + popAux 8 (x &&& 255) : Nat) : Int))] : List Value).getD i__ undef) (fun W => W = w.drew) (by kernel_rfl) rfl ?_ ?_
 · refine (sqc ?_ (sqc ?_ (sqc ?_ (sqc ?_ (sqc ?_ (sqc ?_ (sqc ?_ (sqc ?_ (sqc ?_ (sqc ?_ (sqc ?_ (sqc ?_ (sqc ?_ (sqc ?_ (sqc ?_ (sqc ?_ (sqc ?_ (sqc ?_ (sqc ?_ trivial)))))))))))))))))))
   · exact zmv rfl trivial _ rfl (by kernel_rfl)
   · exact zbo rfl trivial _ _ _ _ _ _ _ rfl rfl rfl (fun w hw => bin_shr32 .u64 x 24 (by omega))
   · exact step_index rfl trivial _ _ _ _ _ rfl rfl rfl (fun w hw => idx_pop _ (by decide +kernel) _ a3 Try.underlying9 w)
   · exact zmv rfl trivial _ rfl (by kernel_rfl)
   · exact zbo rfl trivial _ _ _ _ _ _ _ rfl rfl rfl (fun w hw => bin_shr32 .u64 x 16 (by omega))
   · exact zbo rfl trivial _ _ _ _ _ _ _ rfl rfl rfl (fun w hw => bin_and32 (x / 2 ^ 16) 255 b1 (by omega))
   · exact step_index rfl trivial _ _ _ _ _ rfl rfl rfl (fun w hw => idx_pop _ (by decide +kernel) _ m1 Try.underlying9 w)
   · exact zbo rfl trivial _ _ _ _ _ _ _ rfl rfl rfl (fun w hw => bin_add8 _ _ _ (by rw [IntKind.wrap_u8']; omega))
   · exact zmv rfl trivial _ rfl (by kernel_rfl)
   · exact zbo rfl trivial _ _ _ _ _ _ _ rfl rfl rfl (fun w hw => bin_shr32 .u64 x 8 (by omega))
   · exact zbo rfl trivial _ _ _ _ _ _ _ rfl rfl rfl (fun w hw => bin_and32 (x / 2 ^ 8) 255 b2 (by omega))
   · exact step_index rfl trivial _ _ _ _ _ rfl rfl rfl (fun w hw => idx_pop _ (by decide +kernel) _ m2 Try.underlying9 w)
   · exact zbo rfl trivial _ _ _ _ _ _ _ rfl rfl rfl (fun w hw => bin_add8 _ _ _ (by rw [IntKind.wrap_u8']; omega))
   · exact zmv rfl trivial _ rfl (by kernel_rfl)
   · exact zbo rfl trivial _ _ _ _ _ _ _ rfl rfl rfl (fun w hw => bin_and32 x 255 hx (by omega))
   · exact step_index rfl trivial _ _ _ _ _ rfl rfl rfl (fun w hw => idx_pop _ (by decide +kernel) _ m3 Try.underlying9 w)
   · exact zbo rfl trivial _ _ _ _ _ _ _ rfl rfl rfl (fun w hw => bin_add8 _ _ _ (by rw [IntKind.wrap_u8']; omega))
   · exact step_convert rfl trivial _ _ _ _ rfl rfl (fun w hw => conv_int .i64 _ (by rw [Try.underlying5]; rfl) Try.underlying3 (by rw [IntKind.wrap_i64]; omega) w)
   · exact zas rfl trivial _ rfl (by kernel_rfl) (fun _ h => h)
 intro W hW
 first | refine hK _ _ ?_ | refine (‹∀ (a : Act) (w : World), Code.wp Try.prog _ _ a w → _›) _ _ ?_
 simp only [finL, List.getD_cons_zero, List.getD_cons_succ, Nat.zero_add, Nat.reduceAdd, List.setIfInBounds_toArray, List.set_cons_zero, List.set_cons_succ]
 go_wp2
 go_ret
 exact ⟨ret_int (by rw [pop_bytes]), hW⟩
def cells4 (c : Nat → Nat) : Array Value := #[.int .u32 (c 0 : Nat), .int .u32 (c 1 : Nat), .int .u32 (c 2 : Nat), .int .u32 (c 3 : Nat)]
theorem sv_cells (N : Nat) : sv N = .agg (cells4 (wd N)) := rfl
def Zh4 (w : World) (b : Nat) (c : Nat → Nat) : Prop := w.heap[b]? = some (.cells (cells4 c) 32)
theorem cells4_get (c : Nat → Nat) (k : Nat) (h : k < 4) : (cells4 c)[k]? = some (.int .u32 (c k : Nat)) := by
 match k, h with
 | 0, _ => rfl
 | 1, _ => rfl
 | 2, _ => rfl
 | 3, _ => rfl
theorem cells4_set (c : Nat → Nat) (k v : Nat) (h : k < 4) : (cells4 c).setIfInBounds k (.int .u32 (v : Nat)) = cells4 (fun j => if j = k then v else c j) := by
 match k, h with
 | 0, _ => rfl
 | 1, _ => rfl
 | 2, _ => rfl
 | 3, _ => rfl
theorem Zh4.cell {w : World} {b : Nat} {c : Nat → Nat} (h : Zh4 w b c) (k : Nat) (hk : k < 4) : w.cell? ⟨b, k, none⟩ = some (.int .u32 (c k : Nat)) := by
 unfold Zh4 at h
 simp [World.cell?, h, cells4_get c k hk]
theorem idx4 (b k : Nat) (hk : k < 4) (w : World) : (Instr.indexAt 32 (.pointer (some ⟨b, 0, none⟩)) (.int .i64 (k : Int))).run Try.prog w = .ok (.pointer (some ⟨b, k, none⟩)) w := by
 have h1 : (k : Int) < 4 := by omega
 have h2 : 0 ≤ (k : Int) := by omega
 go_simp
theorem load4 (w : World) (b k : Nat) (c : Nat → Nat) (h : Zh4 w b c) (hk : k < 4) : (Instr.loadAt 30 (.pointer (some ⟨b, k, none⟩))).run Try.prog w = .ok (.int .u32 (c k : Nat)) w := by
 have := h.cell k hk
 go_simp
theorem Zh4.frozen {w : World} {b : Nat} {c : Nat → Nat} (h : Zh4 w b c) (k : Nat) : w.frozen? ⟨b, k, none⟩ = false := by
 unfold Zh4 at h
 simp [World.frozen?, h]
theorem Zh4.set {w : World} {b : Nat} {c : Nat → Nat} (h : Zh4 w b c) (k v : Nat) (hk : k < 4) : Zh4 (w.setCell ⟨b, k, none⟩ (.int .u32 (v : Int))) b (fun j => if j = k then v else c j) := by
 unfold Zh4 at *
 have hlt := (Array.getElem?_eq_some_iff.1 h).1
 rw [← cells4_set c k v hk]
 simp [World.setCell, h, Array.getElem?_modify]
theorem store4 (w : World) (b k v : Nat) (c : Nat → Nat) (h : Zh4 w b c) (hk : k < 4) : ∃ w', (Instr.storeAt 30 (.pointer (some ⟨b, k, none⟩)) (.int .u32 (v : Int))).run Try.prog w = .ok () w' ∧ Zh4 w' b (fun j => if j = k then v else c j) ∧ (∀ B, B ≤ b → Below B w w') ∧ (∀ B, B ≠ b → w'.heap[B]? = w.heap[B]?) := by
 have h1 := h.cell k hk
 have h2 := h.frozen k
 refine ⟨w.setCell ⟨b, k, none⟩ (.int .u32 (v : Int)), ?_, h.set k v hk, fun B hB => (Below.refl B w).setCell hB _, fun B hB => Below.heap_setCell _ _ _ _ hB⟩
 go_simp
theorem whole4 (w : World) (b : Nat) (N : Nat) (h : Zh4 w b (wd N)) : (Instr.loadAt 32 (.pointer (some ⟨b, 0, none⟩))).run Try.prog w = .ok (sv N) w := by
 have := run_loadVar_row (P := Try.prog) w b 32 32 (cells4 (wd N)) (0, 0) _ h Try.underlying32 rfl (by kernel_rfl)
 simp only [Instr.loadAt, Instr.sureAddr, Sem.run_bind, Sem.run_pure, Result.andThen_ok, this]
 rfl
end Go.Proofs.Ytifcnnonnocmmaa
