/- wire.setOf: what it answers. -/
import Derived.Test.YtndogopllcpiiaaWrg
namespace Go.Proofs.Ytndogopllcpiiaa
open Go.RowKit Go.Shelf

theorem wd_shift (k x j : Nat) (hx : x < 256) : wd (2 ^ (8 * k) * x) j = if j = k / 4 then x * 2 ^ (8 * (k % 4)) else 0 := by
  have hx8 : ∀ t, 8 ≤ t → x.testBit t = false := fun t ht => Nat.testBit_lt_two_pow (Nat.lt_of_lt_of_le hx (by simpa using Nat.pow_le_pow_right (show 0 < 2 by decide) ht))
  apply Nat.eq_of_testBit_eq
  intro i
  rw [testBit_wd, Nat.testBit_two_pow_mul]
  by_cases hj : j = k / 4
  · rw [if_pos hj, Nat.mul_comm x, Nat.testBit_two_pow_mul]
    by_cases hi : i < 32
    · by_cases h8 : 8 * (k % 4) ≤ i
      · have q1 : 8 * k ≤ 32 * j + i := by omega
        have q2 : 32 * j + i - 8 * k = i - 8 * (k % 4) := by omega
        simp [hi, h8, q1, q2]
      · have q1 : ¬ 8 * k ≤ 32 * j + i := by omega
        simp [h8, q1]
    · have := hx8 (i - 8 * (k % 4)) (by omega)
      simp [hi, this]
  · rw [if_neg hj, Nat.zero_testBit]
    by_cases hi : i < 32
    · by_cases q1 : 8 * k ≤ 32 * j + i
      · have := hx8 (32 * j + i - 8 * k) (by omega)
        simp [this]
      · simp [q1]
    · simp [hi]
theorem wd_put (M k x j : Nat) (hM : M < 2 ^ (8 * k)) (hx : x < 256) : wd (M + 2 ^ (8 * k) * x) j = if j = k / 4 then wd M (k / 4) ||| (x * 2 ^ (8 * (k % 4))) else wd M j := by
  rw [Nat.add_comm, Nat.two_pow_add_eq_or_of_lt hM, wd_or, wd_shift k x j hx]
  by_cases hj : j = k / 4
  · rw [if_pos hj, if_pos hj, hj, Nat.or_comm]
  · rw [if_neg hj, if_neg hj, Nat.zero_or]
theorem bin_shlx {P : Program} {t : TypeId} {x y : Operand} {w : World} (k : IntKind) (a n : Nat) (hn : n < 32) (ha : a * 2 ^ n < 4294967296) : binRun P .shl t x y (.int .u32 (a : Int)) (.int k (n : Int)) w = .ok (.int .u32 ((a * 2 ^ n : Nat) : Int)) w := by
  have h := shift_shl .u32 k (a : Int) (n : Int) (by omega) (by simp [IntKind.bits]; omega)
  have h3 : IntKind.u32.wrap ((a : Int) * 2 ^ (n : Int).toNat) = ((a * 2 ^ n : Nat) : Int) := by
    have e : (2 : Int) ^ n = ((2 ^ n : Nat) : Int) := by simp
    rw [Int.toNat_natCast, e, IntKind.wrap_u32', ← Int.natCast_mul]
    generalize a * 2 ^ n = z at *
    omega
  simp only [binRun, eqGuard_shl, binOp_shl, h, h3]
  simp
set_option maxHeartbeats 1000000 in
set_option maxRecDepth 100000 in
theorem setOf_any (ad : Option Addr) (cap : Nat) (l : List Nat) (w : World) (h : RdB w ad l) (hb : Byt l) (hl : l.length ≤ 16) : Calls Try.prog 60 #[.slice ad l.length cap] w fun e w' => e = .returned (sv (vlS l)) ∧ Below w.heap.size w w' := by
  have hmx : Try.prog.follows .mixedOrders = true := by kernel_rfl
  go_enter Try.func60, Try.ntmps60
  go_wp2
  go_loopw [8] (fun c wz => ∃ k : Nat, c = .int .i64 k ∧ k ≤ l.length ∧ Holds4 wz (w.heap.size + 1) (wd (vlS (l.take k))) ∧ Holds4 wz w.heap.size (fun _ => 0) ∧ Below w.heap.size w wz) (fun c _ => l.length - vnatW c)
  case atStart =>
    refine ⟨0, rfl, by omega, ?_, get_old (get_new rfl), ((Below.refl _ w).alloc (by simp) _).alloc (by simp) _⟩
    exact Holds4.congr (c := fun _ => 0) (get_new (by simp)) (fun j _ => by simp [vlS, wd])
  case round =>
    obtain ⟨k, rfl, hk, h1, h2, hbw⟩ := hrel
    have hz : w.heap.size + 1 < wr.heap.size := h1.lt
    by_cases hkl : k < l.length
    · have hki : (k : Int) < (l.length : Int) := by omega
      obtain ⟨g, off, rfl, hgl, hat⟩ := h (fun e => by subst e; simp at hkl)
      obtain ⟨x, hx⟩ := get_lt hkl
      have c0 := (hbw.cell (p := ⟨g, off + k, none⟩) hgl).trans (hat k x hx)
      have hx8 := byt_get8 hb hx
      obtain ⟨q, hq⟩ : ∃ q, k / 4 = q := ⟨_, rfl⟩
      obtain ⟨r, hr⟩ : ∃ r, k % 4 = r := ⟨_, rfl⟩
      have hq4 : q < 4 := by omega
      have hM := vlS_lt _ (hb.take k)
      rw [List.length_take, Nat.min_eq_left hk] at hM
      have hnew : vlS (l.take (k + 1)) = vlS (l.take k) + 2 ^ (8 * k) * x := by
        rw [List.take_add_one, hx, Option.toList_some, vlS_snoc, List.length_take, Nat.min_eq_left hk]
      have hput := fun j => wd_put (vlS (l.take k)) k x j hM hx8
      rw [← hnew, hq, hr] at hput
      have hsh : x * 2 ^ (8 * r) < 4294967296 := by
        have := Nat.pow_le_pow_right (n := 2) (by decide) (show 8 * r ≤ 24 by omega)
        have := Nat.mul_le_mul (show x ≤ 255 by omega) this
        omega
      have HPUT : Hid (∀ j, wd (vlS (l.take (k + 1))) j = if j = q then wd (vlS (l.take k)) q ||| (x * 2 ^ (8 * r)) else wd (vlS (l.take k)) j) := hput
      clear hnew hput hM
      generalize vlS (l.take k) = M at *
      obtain ⟨M2, hM2⟩ : ∃ M2, vlS (l.take (k + 1)) = M2 := ⟨_, rfl⟩
      rw [hM2] at HPUT
      have HM2 : Hid (vlS (l.take (k + 1)) = M2) := hM2
      clear hM2
      go_wp2
      refine wp_region_any hmx ?_
      refine wpAny_last 12 (fun i__ => ([(.int .i64 (k : Int)), (.int .i64 (q : Int)), (.pointer (some ⟨w.heap.size + 1, q, none⟩)), (.int .u32 ((wd M q : Nat) : Int)), (.int .u8 (x : Int)), (.int .u32 (x : Int)), (.int .i64 (k : Int)), (.int .i64 (r : Int)), (.int .i64 ((8 * r : Nat) : Int)), (.int .u32 ((x * 2 ^ (8 * r) : Nat) : Int)), (.int .u32 ((wd M q ||| x * 2 ^ (8 * r) : Nat) : Int)), (.pointer (some ⟨w.heap.size + 1, q, none⟩)), undef] : List Value).getD i__ undef) (fun W => Holds4 W (w.heap.size + 1) (wd M) ∧ Holds4 W w.heap.size (fun _ => 0) ∧ Below w.heap.size w W) (fun W => Holds4 W (w.heap.size + 1) (wd M2) ∧ Holds4 W w.heap.size (fun _ => 0) ∧ Below w.heap.size w W) rfl (by kernel_rfl) (by kernel_rfl) ⟨h1.carry (Below.refl _ _).drew, h2.carry (Below.refl _ _).drew, hbw.drew⟩ ?_ ?_  ?_
      · refine (stepsFrom_cons ?_ (stepsFrom_cons ?_ (stepsFrom_cons ?_ (stepsFrom_cons ?_ (stepsFrom_cons ?_ (stepsFrom_cons ?_ (stepsFrom_cons ?_ (stepsFrom_cons ?_ (stepsFrom_cons ?_ (stepsFrom_cons ?_ (stepsFrom_cons ?_ (stepsFrom_cons ?_ trivial))))))))))))
        · exact step_move rfl trivial _ rfl (by kernel_rfl)
        · exact step_binOp rfl trivial _ _ _ _ _ _ _ rfl rfl rfl (fun w hw => by rw [← hq]; exact bin_quo64 k 4 (by omega) (by decide))
        · exact step_indexAddr rfl trivial _ _ _ _ _ rfl rfl rfl (fun w hw => idx4 _ q hq4 w)
        · exact step_load rfl trivial _ _ _ rfl rfl (fun w hw => load4 w _ q _ hw.1 hq4)
        · exact step_move rfl trivial _ rfl (by kernel_rfl)
        · exact step_convert rfl trivial _ _ _ _ rfl rfl (fun w hw => conv_int .u32 _ (by rw [Try.underlying5]; rfl) Try.underlying36 (by rw [IntKind.wrap_u32']; omega) w)
        · exact step_move rfl trivial _ rfl (by kernel_rfl)
        · exact step_binOp rfl trivial _ _ _ _ _ _ _ rfl rfl rfl (fun w hw => by rw [← hr]; exact bin_rem64 k 4 (by decide))
        · exact step_binOp rfl trivial _ _ _ _ _ _ _ rfl rfl rfl (fun w hw => bin_mul64 _ _ _ (by rw [IntKind.wrap_i64]; omega))
        · exact step_binOp rfl trivial _ _ _ _ _ _ _ rfl rfl rfl (fun w hw => bin_shlx _ x (8 * r) (by omega) hsh)
        · exact step_binOp rfl trivial _ _ _ _ _ _ _ rfl rfl rfl (fun w hw => bin_or32 _ _ (wd_lt _ _) hsh)
        · exact step_indexAddr rfl trivial _ _ _ _ _ rfl rfl rfl (fun w hw => idx4 _ q hq4 w)
      · intro o ho
        cases ho
        exact step_store rfl trivial rfl _ _ _ _ _ rfl rfl rfl (fun w' hw => by obtain ⟨w2, e1, e2, e3, e4⟩ := store4 w' _ q _ _ hw.1 hq4; exact ⟨w2, e1, e2.congr (fun j hj => (HPUT.out j).symm), (e4 _ (by omega)).trans hw.2.1, hw.2.2.trans (e3 _ (Nat.le_succ _))⟩)
      intro W hW
      first | refine hK _ _ ?_ | refine (‹∀ (a : Act) (w : World), Code.wp Try.prog _ _ a w → _›) _ _ ?_
      simp only [finL, List.getD_cons_zero, List.getD_cons_succ, Nat.zero_add, Nat.reduceAdd, List.setIfInBounds_toArray, List.set_cons_zero, List.set_cons_succ]
      obtain ⟨h1', h2', hb'⟩ := hW
      go_wp2
      go_roundw
      case rel => exact ⟨k + 1, by simp, by omega, HM2.out ▸ h1', h2', hb'⟩
      case measure => simp [vnatW]; omega
    · have hkk : k = l.length := by omega
      subst hkk
      rw [List.take_length] at h1
      obtain ⟨M, hM⟩ : ∃ M, vlS l = M := ⟨_, rfl⟩
      rw [hM] at h1
      have HM : Hid (vlS l = M) := hM
      clear hM
      have hki : ¬ ((l.length : Int) < (l.length : Int)) := by omega
      have x0 := h1.cell 0 (by decide)
      have x1 := h1.cell 1 (by decide)
      have x2 := h1.cell 2 (by decide)
      have x3 := h1.cell 3 (by decide)
      obtain ⟨y0, y1, y2, y3, z0, z1, z2, z3⟩ := h2.facts
      have H2 : Hid (Holds4 wr w.heap.size (fun _ => 0)) := h2
      clear h1 h2
      go_wp2
      exact ret4 rfl rfl rfl (fin4 H2.out _) ⟨by rw [HM.out], below4 hbw (Nat.le_refl _) _⟩
end Go.Proofs.Ytndogopllcpiiaa
