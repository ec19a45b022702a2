/- math/bits.OnesCount32: what it answers, at every input. -/
import Derived.Test.YtnomeinppdnhfaaGreatIda
import Derived.Test.YtnomeinppdnhfaaGreatBin
import Derived.Lib.Tables
namespace Go.Proofs.YtnomeinppdnhfaaGreat
open Go.RowKit Go.Shelf Go.Lib

theorem pop8_small (n : Nat) (h : n < 256) : pop8 (n : Int) = (popAux 8 n : Nat) := by
  have := pop8_eq ⟨n, h⟩
  rw [this]
  unfold onesCount
  rw [show (64 : Nat) = 8 + 56 from rfl, popAux_add, Nat.div_eq_of_lt (by simpa using h), popAux_zero]
  rfl
theorem pop_bytes (x : Nat) : popAux 32 x = popAux 8 (x / 2 ^ 24) + popAux 8 (x / 2 ^ 16 &&& 255) + popAux 8 (x / 2 ^ 8 &&& 255) + popAux 8 (x &&& 255) := by
  have m (y : Nat) : popAux 8 (y &&& 255) = popAux 8 y := by rw [Nat.and_two_pow_sub_one_eq_mod y 8]; exact popAux_mod 8 y
  rw [m, m, m, show (32 : Nat) = 8 + (8 + (8 + 8)) from rfl, popAux_add, popAux_add, popAux_add, Nat.div_div_eq_div_mul, Nat.div_div_eq_div_mul]
  simp only [Nat.reducePow, Nat.reduceMul]
  omega
theorem mask_lt (x : Nat) : x &&& 255 < 256 := by rw [Nat.and_two_pow_sub_one_eq_mod x 8]; exact Nat.mod_lt _ (by decide)
theorem idx_pop {P : Program} {t : TypeId} (s : ByteArray) (hs : s = pop8tab) (n : Nat) (h : n < 256) (ht : P.underlying t = some .string) (w : World) : (Instr.index t (.string s) (.int .u32 (n : Int))).run P w = .ok (.int .u8 ((popAux 8 n : Nat) : Int)) w := by
  rw [hs, run_index_pop8tab w t .u32 (n : Int) ht (by omega) (by omega), pop8_small n h]
theorem conv_int {P : Program} {src dst : TypeId} {k : IntKind} {n : Int} (k' : IntKind) (m : Int) (hs : (P.underlying src).isSome = true) (hd : P.underlying dst = some (.int k')) (hm : k'.wrap n = m) (w : World) : (convert src dst (.int k n)).run P w = .ok (.int k' m) w := by
  have e : P.intKind dst = k' := by simp [Program.intKind, hd]
  rw [run_convert_int w src dst k n hs (by rw [e]; exact hd), e, hm]

end Go.Proofs.YtnomeinppdnhfaaGreat
