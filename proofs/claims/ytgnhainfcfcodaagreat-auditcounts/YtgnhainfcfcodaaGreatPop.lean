/- math/bits.OnesCount32: what it answers, at every input. -/
import Derived.Test.YtgnhainfcfcodaaGreatIda
import Derived.Test.YtgnhainfcfcodaaGreatBin
import Derived.Lib.Tables
namespace Go.Proofs.YtgnhainfcfcodaaGreat
open Go.RowKit Go.Shelf Go.Lib

theorem pop8_small (n : Nat) (h : n < 256) : pop8 (n : Int) = (popAux 8 n : Nat) := by
  have := pop8_eq ⟨n, h⟩
  rw [this]
  unfold onesCount
  rw [show (64 : Nat) = 8 + 56 from rfl, popAux_add, Nat.div_eq_of_lt (by simpa using h), popAux_zero]
  rfl
theorem pop_bytes (x : Nat) : popAux 32 x = popAux 8 (x / 2 ^ 24) + popAux 8 (x / 2 ^ 16 &&& 255) + popAux 8 (x / 2 ^ 8 &&& 255) + popAux 8 (x &&& 255) := by
  have m (y : Nat) : popAux 8 (y &&& 255) = popAux 8 y := by rw [Nat.and_two_pow_sub_one_eq_mod y 8]; exact popAux_mod 8 y
  rw [m, m, m, show (32 : Nat) = 8 + (8 + (8 + 8)) from rfl, popAux_add, popAux_add, popAux_add, Nat.div_div_eq_div_mul, Nat.div_div_eq_div_mul]
  simp only [Nat.reducePow, Nat.reduceMul]
  omega
theorem mask_lt (x : Nat) : x &&& 255 < 256 := by rw [Nat.and_two_pow_sub_one_eq_mod x 8]; exact Nat.mod_lt _ (by decide)
theorem idx_pop {P : Program} {t : TypeId} (s : ByteArray) (hs : s = pop8tab) (n : Nat) (h : n < 256) (ht : P.underlying t = some .string) (w : World) : (Instr.index t (.string s) (.int .u32 (n : Int))).run P w = .ok (.int .u8 ((popAux 8 n : Nat) : Int)) w := by
  rw [hs, run_index_pop8tab w t .u32 (n : Int) ht (by omega) (by omega), pop8_small n h]
theorem conv_int {P : Program} {src dst : TypeId} {k : IntKind} {n : Int} (k' : IntKind) (m : Int) (hs : (P.underlying src).isSome = true) (hd : P.underlying dst = some (.int k')) (hm : k'.wrap n = m) (w : World) : (convert src dst (.int k n)).run P w = .ok (.int k' m) w := by
  have e : P.intKind dst = k' := by simp [Program.intKind, hd]
  rw [run_convert_int w src dst k n hs (by rw [e]; exact hd), e, hm]

set_option maxHeartbeats 1000000 in
set_option maxRecDepth 100000 in
theorem ones_any (x : Nat) (hx : x < 4294967296) (w : World) : Calls Tryz.prog 112 #[.int .u32 (x : Int)] w fun e w' => e = .returned (.int .i64 (popAux 32 x : Nat)) ∧ w' = w.drew := by
  have hmx : Tryz.prog.follows .mixedOrders = true := by kernel_rfl
  have a3 : x / 2 ^ 24 < 256 := by omega
  have b1 : x / 2 ^ 16 < 4294967296 := by omega
  have b2 : x / 2 ^ 8 < 4294967296 := by omega
  have m1 := mask_lt (x / 2 ^ 16)
  have m2 := mask_lt (x / 2 ^ 8)
  have m3 := mask_lt x
  have e1 := popAux_le 8 (x / 2 ^ 24)
  have e2 := popAux_le 8 (x / 2 ^ 16 &&& 255)
  have e3 := popAux_le 8 (x / 2 ^ 8 &&& 255)
  have e4 := popAux_le 8 (x &&& 255)
  go_enter Tryz.func112, Tryz.ntmps112
  go_wp2
  rename_i Q0 K0 hK
  refine wp_region_any hmx ?_
  refine wpAny_pure (fun i__ => ([(.int .u32 (x : Int)), (.int .u32 ((x / 2 ^ 24 : Nat) : Int)), (.int .u8 ((popAux 8 (x / 2 ^ 24) : Nat) : Int)), (.int .u32 (x : Int)), (.int .u32 ((x / 2 ^ 16 : Nat) : Int)), (.int .u32 ((x / 2 ^ 16 &&& 255 : Nat) : Int)), (.int .u8 ((popAux 8 (x / 2 ^ 16 &&& 255) : Nat) : Int)), (.int .u8 ((popAux 8 (x / 2 ^ 24) + popAux 8 (x / 2 ^ 16 &&& 255) : Nat) : Int)), (.int .u32 (x : Int)), (.int .u32 ((x / 2 ^ 8 : Nat) : Int)), (.int .u32 ((x / 2 ^ 8 &&& 255 : Nat) : Int)), (.int .u8 ((popAux 8 (x / 2 ^ 8 &&& 255) : Nat) : Int)), (.int .u8 ((popAux 8 (x / 2 ^ 24) + popAux 8 (x / 2 ^ 16 &&& 255) + popAux 8 (x / 2 ^ 8 &&& 255) : Nat) : Int)), (.int .u32 (x : Int)), (.int .u32 ((x &&& 255 : Nat) : Int)), (.int .u8 ((popAux 8 (x &&& 255) : Nat) : Int)), (.int .u8 ((popAux 8 (x / 2 ^ 24) + popAux 8 (x / 2 ^ 16 &&& 255) + popAux 8 (x / 2 ^ 8 &&& 255) + popAux 8 (x &&& 255) : Nat) : Int)), (.int .i64 ((popAux 8 (x / 2 ^ 24) + popAux 8 (x / 2 ^ 16 &&& 255) + popAux 8 (x / 2 ^ 8 &&& 255) + popAux 8 (x &&& 255) : Nat) : Int)), (.int .i64 ((popAux 8 (x / 2 ^ 24) + popAux 8 (x / 2 ^ 16 &&& 255) + popAux 8 (x / 2 ^ 8 &&& 255) + popAux 8 (x &&& 255) : Nat) : Int))] : List Value).getD i__ undef) (fun W => W = w.drew) (by kernel_rfl) rfl ?_ ?_
  · refine (stepsFrom_cons ?_ (stepsFrom_cons ?_ (stepsFrom_cons ?_ (stepsFrom_cons ?_ (stepsFrom_cons ?_ (stepsFrom_cons ?_ (stepsFrom_cons ?_ (stepsFrom_cons ?_ (stepsFrom_cons ?_ (stepsFrom_cons ?_ (stepsFrom_cons ?_ (stepsFrom_cons ?_ (stepsFrom_cons ?_ (stepsFrom_cons ?_ (stepsFrom_cons ?_ (stepsFrom_cons ?_ (stepsFrom_cons ?_ (stepsFrom_cons ?_ (stepsFrom_cons ?_ trivial)))))))))))))))))))
    · exact step_move rfl trivial _ rfl (by kernel_rfl)
    · exact step_binOp rfl trivial _ _ _ _ _ _ _ rfl rfl rfl (fun w hw => bin_shr32 .u64 x 24 (by omega))
    · exact step_index rfl trivial _ _ _ _ _ rfl rfl rfl (fun w hw => idx_pop _ (by decide +kernel) _ a3 Tryz.underlying9 w)
    · exact step_move rfl trivial _ rfl (by kernel_rfl)
    · exact step_binOp rfl trivial _ _ _ _ _ _ _ rfl rfl rfl (fun w hw => bin_shr32 .u64 x 16 (by omega))
    · exact step_binOp rfl trivial _ _ _ _ _ _ _ rfl rfl rfl (fun w hw => bin_and32 (x / 2 ^ 16) 255 b1 (by omega))
    · exact step_index rfl trivial _ _ _ _ _ rfl rfl rfl (fun w hw => idx_pop _ (by decide +kernel) _ m1 Tryz.underlying9 w)
    · exact step_binOp rfl trivial _ _ _ _ _ _ _ rfl rfl rfl (fun w hw => bin_add8 _ _ _ (by rw [IntKind.wrap_u8']; omega))
    · exact step_move rfl trivial _ rfl (by kernel_rfl)
    · exact step_binOp rfl trivial _ _ _ _ _ _ _ rfl rfl rfl (fun w hw => bin_shr32 .u64 x 8 (by omega))
    · exact step_binOp rfl trivial _ _ _ _ _ _ _ rfl rfl rfl (fun w hw => bin_and32 (x / 2 ^ 8) 255 b2 (by omega))
    · exact step_index rfl trivial _ _ _ _ _ rfl rfl rfl (fun w hw => idx_pop _ (by decide +kernel) _ m2 Tryz.underlying9 w)
    · exact step_binOp rfl trivial _ _ _ _ _ _ _ rfl rfl rfl (fun w hw => bin_add8 _ _ _ (by rw [IntKind.wrap_u8']; omega))
    · exact step_move rfl trivial _ rfl (by kernel_rfl)
    · exact step_binOp rfl trivial _ _ _ _ _ _ _ rfl rfl rfl (fun w hw => bin_and32 x 255 hx (by omega))
    · exact step_index rfl trivial _ _ _ _ _ rfl rfl rfl (fun w hw => idx_pop _ (by decide +kernel) _ m3 Tryz.underlying9 w)
    · exact step_binOp rfl trivial _ _ _ _ _ _ _ rfl rfl rfl (fun w hw => bin_add8 _ _ _ (by rw [IntKind.wrap_u8']; omega))
    · exact step_convert rfl trivial _ _ _ _ rfl rfl (fun w hw => conv_int .i64 _ (by rw [Tryz.underlying5]; rfl) Tryz.underlying3 (by rw [IntKind.wrap_i64]; omega) w)
    · exact step_assign rfl trivial _ rfl (by kernel_rfl) (fun _ h => h)
  intro W hW
  first | refine hK _ _ ?_ | refine (‹∀ (a : Act) (w : World), Code.wp Tryz.prog _ _ a w → _›) _ _ ?_ | skip
  simp only [finL, List.getD_cons_zero, List.getD_cons_succ, Nat.zero_add, Nat.reduceAdd, List.setIfInBounds_toArray, List.set_cons_zero, List.set_cons_succ]
  go_wp2
  go_ret
  exact ⟨ret_int (by rw [pop_bytes]), hW⟩
end Go.Proofs.YtgnhainfcfcodaaGreat
