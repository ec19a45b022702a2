/- disk's part, blow, Write: what they answer. -/
import Derived.Test.YtjleggnkacmbbaaDkc
namespace Go.Proofs.Ytjleggnkacmbbaa
open Go.RowKit Go.Shelf

set_option maxHeartbeats 1000000 in
set_option maxRecDepth 100000 in
theorem part_any (b off cap s : Nat) (w : World) (hs : s < 8) (hc : 256 ≤ cap) : Calls Try.prog 46 #[.slice (some ⟨b, off, none⟩) 256 cap, .int .i64 (s : Int)] w fun e w' => e = .returned (.slice (some ⟨b, off + 32 * s, none⟩) 32 32) ∧ w' = w := by
  have h1 : (32 : Int) ≤ (cap : Int) := by omega
  have h2 : (64 : Int) ≤ (cap : Int) := by omega
  have h3 : (96 : Int) ≤ (cap : Int) := by omega
  have h4 : (128 : Int) ≤ (cap : Int) := by omega
  have h5 : (160 : Int) ≤ (cap : Int) := by omega
  have h6 : (192 : Int) ≤ (cap : Int) := by omega
  have h7 : (224 : Int) ≤ (cap : Int) := by omega
  have h8 : (256 : Int) ≤ (cap : Int) := by omega
  clear hc
  have hq : s = 0 ∨ s = 1 ∨ s = 2 ∨ s = 3 ∨ s = 4 ∨ s = 5 ∨ s = 6 ∨ s = 7 := by omega
  rcases hq with rfl | rfl | rfl | rfl | rfl | rfl | rfl | rfl
  all_goals
    go_enter Try.func46, Try.ntmps46
    go_wp2
    go_ret
    exact ⟨rfl, rfl⟩
section
variable {W : World} {p : Nat} {d : Dst}
set_option maxHeartbeats 1000000 in
theorem blow_any (h : Dk W p d) : Calls Try.prog 70 #[.pointer (some ⟨p, 0, none⟩)] W fun e w' => e = .returned (.tuple #[]) ∧ Dk w' p (dFuse { d with off := true } (-1)) ∧ Tp p W w' := by
  have hc := cut_any h
  go_enter Try.func70, Try.ntmps70
  go_wp2_with (first | (go_at_call 53; (with_reducible refine hc.mono ?_); rintro e u1 ⟨rfl, h1, t1⟩; have hf := fuse_any h1 (-1)) | (go_at_call 20; (with_reducible refine hf.mono ?_); rintro e u2 ⟨rfl, h2, t2⟩))
  go_end0
  exact ⟨rfl, h2, t1.trans t2⟩
/-- What the fuse may be. -/
def Fz (d : Dst) : Prop := d.fused = true → 0 ≤ d.fuse ∧ d.fuse ≤ 9223372036854775807
/-- A write: what it answers, and the disk behind it. -/
def dWr (d : Dst) (s : Int) (x : List Nat) : Int × Dst :=
  if d.off = true then (100, d) else if ¬ (0 ≤ s ∧ s < 8) then (101, d) else if x.length ≠ 32 then (102, d) else if left d = 0 then (100, dFuse { d with off := true } (-1))
  else (0, { dBurn { d with l := putS d.l s.toNat x } with writes := d.writes + 1 })
theorem dWr_off {d : Dst} (s : Int) (x : List Nat) (h : d.off = true) : dWr d s x = (100, d) := by unfold dWr; rw [if_pos h]
theorem dWr_sec {d : Dst} {s : Int} (x : List Nat) (h : d.off = false) (hs : ¬ (0 ≤ s ∧ s < 8)) : dWr d s x = (101, d) := by unfold dWr; rw [if_neg (by rw [h]; decide), if_pos hs]
theorem dWr_len {d : Dst} {s : Int} {x : List Nat} (h : d.off = false) (hs : 0 ≤ s ∧ s < 8) (hx : ¬ x.length = 32) : dWr d s x = (102, d) := by unfold dWr; rw [if_neg (by rw [h]; decide), if_neg (fun q => q hs), if_pos hx]
theorem dWr_blow {d : Dst} {s : Int} {x : List Nat} (h : d.off = false) (hs : 0 ≤ s ∧ s < 8) (hx : x.length = 32) (hl : left d = 0) : dWr d s x = (100, dFuse { d with off := true } (-1)) := by unfold dWr; rw [if_neg (by rw [h]; decide), if_neg (fun q => q hs), if_neg (fun q => q hx), if_pos hl]
theorem dWr_ok {d : Dst} {s : Int} {x : List Nat} (h : d.off = false) (hs : 0 ≤ s ∧ s < 8) (hx : x.length = 32) (hl : ¬ left d = 0) : dWr d s x = (0, { dBurn { d with l := putS d.l s.toNat x } with writes := d.writes + 1 }) := by unfold dWr; rw [if_neg (by rw [h]; decide), if_neg (fun q => q hs), if_neg (fun q => q hx), if_neg hl]
theorem field_d0 (W : World) (B : Nat) : (Instr.fieldAt 51 (.pointer (some ⟨B, 0, none⟩)) 0).run Try.prog W = .ok (.pointer (some ⟨B, 0, none⟩)) W := by go_simp
theorem idx_s (B s : Nat) (hs : s < 8) (W : World) : (Instr.indexAt 49 (.pointer (some ⟨B, 0, none⟩)) (.int .i64 (s : Int))).run Try.prog W = .ok (.pointer (some ⟨B, 32 * s, none⟩)) W := by
  have h1 : (s : Int) < 8 := by omega
  rw [Nat.mul_comm]
  go_simp
set_option maxHeartbeats 2000000 in
set_option maxRecDepth 100000 in
theorem write_any (h : Dk W p d) (s : Int) (ad : Option Addr) (cap : Nat) (x : List Nat) (hx : RdB W ad x) (hb : Byt x) (hf : Fz d) (hw0 : 0 ≤ d.writes) (hw : d.writes ≤ 4611686018427387904) : Calls Try.prog 65 #[.pointer (some ⟨p, 0, none⟩), .int .i64 s, .slice ad x.length cap] W fun e w' => e = .returned (.int .i64 (dWr d s x).1) ∧ Dk w' p (dWr d s x).2 ∧ Tp p W w' := by
  have ho := on_any h
  have hth := there_any s W
  have hle := left_any h
  have hbl := blow_any h
  cases hof : d.off with
  | true =>
    have e : dWr d s x = (100, d) := dWr_off s x hof
    rw [e]
    rw [hof] at ho
    clear hth hle hbl
    go_enter Try.func65, Try.ntmps65
    go_wp2_with (go_at_call 38; (with_reducible refine ho.mono ?_); rintro e u1 ⟨rfl, rfl⟩)
    go_ret
    exact ⟨rfl, h, Tp.of _ (Below.refl _ _)⟩
  | false =>
  rw [hof] at ho
  by_cases hs : 0 ≤ s ∧ s < 8
  case neg =>
    have e : dWr d s x = (101, d) := dWr_sec x hof hs
    rw [e]
    rw [decide_eq_false hs] at hth
    clear hle hbl
    go_enter Try.func65, Try.ntmps65
    go_wp2_with (first | (go_at_call 38; (with_reducible refine ho.mono ?_); rintro e u1 ⟨rfl, rfl⟩) | (go_at_call 68; (with_reducible refine hth.mono ?_); rintro e u1 ⟨rfl, rfl⟩))
    go_ret
    exact ⟨rfl, h, Tp.of _ (Below.refl _ _)⟩
  rw [decide_eq_true hs] at hth
  by_cases hxl : x.length = 32
  case neg =>
    have e : dWr d s x = (102, d) := dWr_len hof hs hxl
    rw [e]
    clear hle hbl
    have hxi : ¬ ((x.length : Int) = 32) := by omega
    go_enter Try.func65, Try.ntmps65
    go_wp2_with (first | (go_at_call 38; (with_reducible refine ho.mono ?_); rintro e u1 ⟨rfl, rfl⟩) | (go_at_call 68; (with_reducible refine hth.mono ?_); rintro e u1 ⟨rfl, rfl⟩))
    go_ret
    exact ⟨rfl, h, Tp.of _ (Below.refl _ _)⟩
  by_cases hl0 : left d = 0
  case pos =>
    have e : dWr d s x = (100, dFuse { d with off := true } (-1)) := dWr_blow hof hs hxl hl0
    rw [e, hxl]
    rw [hl0] at hle
    go_enter Try.func65, Try.ntmps65
    go_wp2_with (first | (go_at_call 38; (with_reducible refine ho.mono ?_); rintro e u1 ⟨rfl, rfl⟩) | (go_at_call 68; (with_reducible refine hth.mono ?_); rintro e u1 ⟨rfl, rfl⟩) | (go_at_call 69; (with_reducible refine hle.mono ?_); rintro e u1 ⟨rfl, rfl⟩) | (go_at_call 70; (with_reducible refine hbl.mono ?_); rintro e u2 ⟨rfl, h2, t2⟩))
    go_ret
    exact ⟨rfl, h2, t2⟩
  obtain ⟨k, rfl⟩ := Int.eq_ofNat_of_zero_le hs.1
  have hk8 : k < 8 := by omega
  have e : dWr d (k : Int) x = (0, { dBurn { d with l := putS d.l k x } with writes := d.writes + 1 }) := dWr_ok hof hs hxl hl0
  rw [e, hxl]
  have hfi := filled_any ad cap x
  have hmx : Try.prog.follows .mixedOrders = true := by kernel_rfl
  clear hbl
  obtain ⟨L, hL⟩ : ∃ L, left d = L := ⟨_, rfl⟩
  rw [hL] at hle hl0
  have HL : Hid (left d = L) := hL
  have HX : Hid (x.length = 32) := hxl
  clear hL e hxl hs
  go_enter Try.func65, Try.ntmps65
  go_wp2_with (first | (go_at_call 38; (with_reducible refine ho.mono ?_); rintro e u1 ⟨rfl, rfl⟩) | (go_at_call 68; (with_reducible refine hth.mono ?_); rintro e u1 ⟨rfl, rfl⟩) | (go_at_call 69; (with_reducible refine hle.mono ?_); rintro e u1 ⟨rfl, rfl⟩))
  rename_i Q0 K0 hK
  refine wp_region_any hmx ?_
  refine wpAny_last 7 (fun i__ => ([(.pointer (some ⟨p, 0, none⟩)), (.int .i64 (k : Int)), (.slice ad 32 cap), (.agg (cB x).toArray), (.pointer (some ⟨p, 0, none⟩)), (.pointer (some ⟨p, 0, none⟩)), (.pointer (some ⟨p, 32 * k, none⟩)), undef] : List Value).getD i__ undef) (fun V => Dk V p d ∧ Below u1.heap.size u1 V) (fun V => Dk V p { d with l := putS d.l k x } ∧ Tp p u1 V) rfl (by kernel_rfl) (by kernel_rfl) ⟨h.carry (Below.refl _ _).drew, (Below.refl _ _).drew⟩ ?_ ?_  ?_
  · refine (stepsFrom_cons ?_ (stepsFrom_cons ?_ (stepsFrom_cons ?_ (stepsFrom_cons ?_ (stepsFrom_cons ?_ (stepsFrom_cons ?_ (stepsFrom_cons ?_ trivial)))))))
    · exact step_move rfl trivial _ rfl (by kernel_rfl)
    · exact step_move rfl trivial _ rfl (by kernel_rfl)
    · exact step_move rfl trivial _ rfl (by kernel_rfl)
    · exact step_call rfl trivial 45 _ _ [(.slice ad 32 cap)] rfl (by kernel_rfl) (enters_of Try.func45 (by kernel_rfl) rfl) (fun v hw => (hfi v (hx.carry hw.2) HX.out).mono (by rintro e w' ⟨rfl, hb'⟩; exact ⟨rfl, hw.1.carry hb', bel2 hw.2 hb'⟩))
    · exact step_nilCheck rfl trivial _ _ _ rfl rfl rfl
    · exact step_fieldAddr rfl trivial _ _ _ _ rfl rfl (fun v hw => field_d0 v _)
    · exact step_indexAddr rfl trivial _ _ _ _ _ rfl rfl rfl (fun v hw => idx_s p k hk8 v)
  · intro o ho
    cases ho
    exact step_store rfl trivial rfl _ _ _ _ _ rfl rfl rfl (fun v hw => by obtain ⟨v', a1, a2, a3⟩ := hw.1.put k x HX.out hb hk8; exact ⟨v', a1, a2, (Tp.of p hw.2).trans a3⟩)
  intro W hW
  first | refine hK _ _ ?_ | refine (‹∀ (a : Act) (w : World), Code.wp Try.prog _ _ a w → _›) _ _ ?_
  simp only [finL, List.getD_cons_zero, List.getD_cons_succ, Nat.zero_add, Nat.reduceAdd, List.setIfInBounds_toArray, List.set_cons_zero, List.set_cons_succ]
  obtain ⟨hD, hT⟩ := hW
  have hbu := burn_any hD (fun q => by have h1 := hf q; have h2 : d.fuse ≠ 0 := (fun z => hl0 (by rw [← HL.out, left, if_pos q]; exact z)); dsimp only; omega)
  have hwi : IntKind.i64.wrap (d.writes + 1) = d.writes + 1 := i64_id _ (by omega) (by omega)
  clear hK
  go_wp2_with (go_at_call 71; (with_reducible refine hbu.mono ?_); rintro e u2 ⟨rfl, h2, t2⟩; have c3 := h2.c3; have z3 := h2.thaw 259; dsimp only [dBurn] at c3)
  go_ret
  exact ⟨rfl, h2.s3 (d.writes + 1), (hT.trans t2).trans (Tp.set _ _ _ _)⟩
end
end Go.Proofs.Ytjleggnkacmbbaa
