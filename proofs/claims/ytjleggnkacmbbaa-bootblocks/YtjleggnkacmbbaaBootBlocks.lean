/- BootBlocks: at every number: rounds come one by one, and just each RoundBlock-th one costs two writes; no condition. -/
import Derived.Test.YtjleggnkacmbbaaRows
import Derived.WalkKit
import Derived.ProofKit
import Derived.OpenShut
import Derived.Test.YtjleggnkacmbbaaBth
namespace Go.Proofs.Ytjleggnkacmbbaa
open Go.ChangeShapes Go.WideShapes Go.ChangeAt Go.RowKit
set_option linter.unusedVariables false


theorem own : ownKnob Try.prog.godebug = none := by kernel_rfl
open Go.Shelf
/-- Behind m rounds of the first life. -/
def Bl (d : Dst) (m : Nat) (b : Bo) : Prop := (∃ n, n ≤ m + 1 ∧ Lv d n b) ∧ b.ro = (m : Int) ∧ b.ta = 0 ∧ b.r.ta = 4 ∧ b.r.ro = 16 + 16 * (((m - 1) / 16 : Nat) : Int) ∧ d.off = false ∧ d.fused = false ∧ d.writes = 2 + 2 * (((m - 1) / 16 : Nat) : Int)
theorem bl_save {d : Dst} {n : Nat} {r r' : Rec} (h : Ss d.l n r) (ho : d.off = false) (hf : d.fused = false) (hm : May r') (hn : n ≤ 1000000) : dSv d r' = (0, ⟨put2 d.l (n % 2) (slB r' ((n : Int) + 1)), false, false, d.fuse, d.writes + 2⟩) := by
  rw [h.dsv ho hm hn, dW2_ok ho (Nat.mod_lt _ (by omega)) (slB_len _ _) (fun e => by rw [hf] at e; cases e), hf]
  rfl
theorem Bl.step {d : Dst} {m : Nat} {b : Bo} (h : Bl d m b) (hm : m ≤ 1000) : Bl (dNx d b).d (m + 1) (dNx d b).b ∧ (dNx d b).x = (m : Int) + 1 ∧ (dNx d b).e = 0 := by
  obtain ⟨⟨n, hn, hv⟩, h1, h2, h3, h4, h5, h6, h7⟩ := h
  obtain ⟨n', g1, g2, g3, _⟩ := hv.next (by omega)
  have hdef : dNx d b = if b.ro = b.r.ro then (if (dSv d (rNx b)).1 = 0 then ⟨b.ro + 1, 0, (dSv d (rNx b)).2, ⟨rNx b, b.ro + 1, b.ta⟩⟩ else ⟨0, (dSv d (rNx b)).1, (dSv d (rNx b)).2, b⟩) else ⟨b.ro + 1, 0, d, ⟨b.r, b.ro + 1, b.ta⟩⟩ := by
    rw [dNx, if_neg (by rw [h5]; decide), if_neg (by omega)]
  by_cases he : b.ro = b.r.ro
  · have hb := bR_ge (x := b.ro) (by omega)
    obtain ⟨⟨m1, m2⟩, ⟨m3, m4⟩, m5, m6⟩ := hv.may
    have hmay : May (rNx b) := ⟨⟨m1, m2⟩, ⟨by show 0 ≤ bR b.ro; omega, hb.2⟩, m5, m6⟩
    have hs := bl_save hv.ss h5 h6 hmay (by omega)
    rw [hdef, if_pos he, hs] at g3 ⊢
    rw [if_pos rfl] at g3 ⊢
    dsimp only at g3 ⊢
    have hR : bR b.ro = b.ro + 16 := by rw [bR, if_neg (by omega)]
    refine ⟨⟨⟨n', by omega, g3⟩, by dsimp only; omega, h2, h3, ?_, rfl, rfl, ?_⟩, by rw [h1], rfl⟩
    · show bR b.ro = _
      rw [hR]
      omega
    · dsimp only
      omega
  · rw [hdef, if_neg he] at g3 ⊢
    dsimp only at g3 ⊢
    have hro := hv.ro
    refine ⟨⟨⟨n', by omega, g3⟩, by dsimp only; omega, h2, h3, ?_, h5, h6, ?_⟩, by rw [h1], rfl⟩
    · dsimp only
      omega
    · omega
set_option maxHeartbeats 8000000 in
set_option maxRecDepth 100000 in
theorem walk (a0 : Int) (w0 : (Lit.int .i64 a0).wf = true) (w : World) :
    Calls Try.prog 6 #[.int .i64 a0] w fun e w' => e = .returned (.bool true) ∧ Below w.heap.size w w' := by
  have hal := alive_any
  have hr2 : ∀ (x y z : Int) (w : World), (Instr.field 36 (.agg #[.int .i64 x, .int .i64 y, .int .i64 z]) 2).run Try.prog w = .ok (.int .i64 z) w := fun x y z w => by kernel_rfl
  by_cases hneg : a0 < 0
  case pos =>
    go_enter Try.func6, Try.ntmps6
    go_wp2_with (go_at_call 9; (with_reducible refine (hal _).mono ?_); rintro e uv ⟨rfl, hbv⟩)
    go_ret
    exact ⟨rfl, hbv⟩
  by_cases hbig : 400 < a0
  case pos =>
    go_enter Try.func6, Try.ntmps6
    go_wp2_with (go_at_call 9; (with_reducible refine (hal _).mono ?_); rintro e uv ⟨rfl, hbv⟩)
    go_ret
    exact ⟨rfl, hbv⟩
  obtain ⟨N, rfl⟩ := Int.eq_ofNat_of_zero_le (show 0 ≤ a0 by omega)
  have hN : N ≤ 400 := by omega
  have hnew := dnew_any w
  obtain ⟨o1, o2, o3, o4, o5, o6⟩ := op0
  have hop : ∀ V, Dk V w.heap.size d0 → Calls Try.prog 12 #[.pointer (some ⟨w.heap.size, 0, none⟩)] V fun e w' => ∃ q, e = .returned (.tuple #[.pointer (some ⟨q, 0, none⟩), .int .i64 0]) ∧ V.heap.size ≤ q ∧ Bt w' q (some ⟨w.heap.size, 0, none⟩) ⟨⟨1, 16, 4⟩, 0, 0⟩ ∧ Dk w' w.heap.size (dOp d0).d ∧ Tp w.heap.size V w' := fun V hV =>
    (open_any hV (fun e => by cases e) (by decide) (by decide)).mono (by
      rintro e w' ⟨h1, _, h3, h4⟩
      obtain ⟨q, rfl, hq, hb⟩ := h1 o1
      rw [o2] at hb
      exact ⟨q, rfl, hq, hb, h3, h4⟩)
  have hbl : Bl (dOp d0).d 0 ⟨⟨1, 16, 4⟩, 0, 0⟩ := ⟨⟨1, by omega, o5⟩, rfl, rfl, rfl, rfl, o4, o6, by rw [o3]; rfl⟩
  obtain ⟨D, hDe⟩ : ∃ D, (dOp d0).d = D := ⟨_, rfl⟩
  rw [hDe] at hop hbl
  clear hDe o1 o2 o3 o4 o5 o6
  go_enter Try.func6, Try.ntmps6
  go_wp2_with (first | (go_at_call 11; (with_reducible refine hnew.mono ?_); rintro e u1 ⟨rfl, h1, hlt, hu1⟩; have ha := hop _ h1) | (go_at_call 12; (with_reducible refine ha.mono ?_); rintro e u2 ⟨q, rfl, hq, hB2, hD2, hT2⟩; have hbw := hu1.trans (hT2.below (Nat.le_refl _) hu1.size); have hqq : w.heap.size ≤ q := (by have := hu1.size; omega)))
  go_loopw [6] (fun i wz => ∃ (z : Int) (m : Nat) (b : Bo) (d : Dst), i = .int .i64 z ∧ Hid (z = (m : Int) + 1) ∧ m ≤ N ∧ Bl d m b ∧ Dk wz w.heap.size d ∧ Bt wz q (some ⟨w.heap.size, 0, none⟩) b ∧ Below w.heap.size w wz) (fun i _ => N + 1 - vnat i)
  case atStart => exact ⟨1, 0, _, D, rfl, rfl, by omega, hbl, hD2, hB2, hbw⟩
  case round =>
    obtain ⟨z, m, b, d, rfl, HZ, hm, hl, hD, hB, hbw⟩ := hrel
    obtain ⟨hL, _⟩ := hl.1
    obtain ⟨_, hv⟩ := hl.1
    have hz := HZ.out
    by_cases hmN : m < N
    case neg =>
      have hzi : ¬ z ≤ (N : Int) := by omega
      have e1 := hl.2.2.1
      have e2 := hl.2.2.2.1
      have hdu := fun V (h : Below wr.heap.size wr V) => durable_any (hB.carry h)
      have htg := fun V (h : Below wr.heap.size wr V) => btag_any (hB.carry h)
      unfold rV at hdu
      rw [e1] at htg
      rw [e2] at hdu
      clear hz
      go_wp2_with (first | (go_at_call 9; (with_reducible refine (hal _).mono ?_); rintro e uv ⟨rfl, hbv⟩; have hd1 := hdu _ hbv) | (go_at_call 15; (with_reducible refine hd1.mono ?_); rintro e uw ⟨rfl, hbw2⟩; have ht1 := htg _ (bel2 hbv hbw2)) | (go_at_call 16; (with_reducible refine ht1.mono ?_); rintro e ux ⟨rfl, hbx⟩; obtain rfl := hbx.symm))
      go_ret
      exact ⟨rfl, hbw.trans ((bel2 hbv hbw2).mono hbw.size)⟩
    have hzi : z ≤ (N : Int) := by omega
    obtain ⟨n, hn, hv⟩ := hl.1
    have hw7 := hl.2.2.2.2.2.2.2
    have hnx := next_any hB hD hv.ok hv.fz (by omega) (by omega)
    obtain ⟨s1, s2, s3⟩ := hl.step (by omega)
    obtain ⟨d1, hd1e⟩ : ∃ d1, (dNx d b).d = d1 := ⟨_, rfl⟩
    obtain ⟨b1, hb1e⟩ : ∃ b1, (dNx d b).b = b1 := ⟨_, rfl⟩
    rw [s2, s3, ← hz, hd1e, hb1e] at hnx
    rw [hd1e, hb1e] at s1
    clear hd1e hb1e
    obtain ⟨t, ht⟩ : ∃ t, (m + 1 - 1) / 16 = t := ⟨_, rfl⟩
    have hwr : ∀ V, Dk V w.heap.size d1 → Calls Try.prog 14 #[.pointer (some ⟨w.heap.size, 0, none⟩)] V fun e w' => e = .returned (.int .i64 (2 + 2 * (t : Int))) ∧ w' = V := fun V hV => by
      have := writes_any hV
      rw [s1.2.2.2.2.2.2.2, ht] at this
      exact this
    have k1 : IntKind.i64.wrap (z - 1) = (m : Int) := by rw [hz]; exact (i64_id _ (by omega) (by omega)).trans (by omega)
    have k2 : (m : Int).tdiv 16 = (t : Int) := by rw [Int.tdiv_eq_ediv_of_nonneg (by omega)]; omega
    have k2b : IntKind.i64.wrap (t : Int) = (t : Int) := i64_id _ (by omega) (by omega)
    have k3 : IntKind.i64.wrap (2 * (t : Int)) = 2 * (t : Int) := i64_id _ (by omega) (by omega)
    have k4 : IntKind.i64.wrap (2 + 2 * (t : Int)) = 2 + 2 * (t : Int) := i64_id _ (by omega) (by omega)
    have k5 : IntKind.i64.wrap (z + 1) = z + 1 := i64_id _ (by omega) (by omega)
    clear hz
    go_wp2_with (first | (go_at_call 13; (with_reducible refine hnx.mono ?_); rintro e v1 ⟨rfl, hD3, hB3, hT3⟩; have hb3 := hbw.trans (hT3.below (Nat.le_refl _) hqq hbw.size); have hw1 := hwr _ hD3) | (go_at_call 14; (with_reducible refine hw1.mono ?_); rintro e v2 ⟨rfl, hu2⟩; obtain rfl := hu2.symm))
    go_roundw
    case rel => exact ⟨z + 1, m + 1, b1, d1, rfl, by show z + 1 = _; have := HZ.out; omega, by omega, s1, hD3, hB3, hb3⟩
    case measure => have := HZ.out; simp [vnat]; omega

set_option maxRecDepth 100000 in
theorem lifted (os : Os) (started : os.Started) (H : Type) (enc : TypeId × Value → H) :
    ReturnsInHanded {} Try.checked os 6 .any (Rows.bootBlocksSpec.pre6 enc Try.prog Try.f6 Rows.bootBlocksRow.domain false) (Rows.bootBlocksSpec.post enc Try.prog Try.f6 false true false false) := by
  refine returnsInHanded_of_change (C := Try.checked) own started (by kernel_rfl) Try.func6
    (ChangeSpec.witness6 (enc := enc) (C := Try.checked) false ⟨#[], #[.int .i64 0], []⟩ 8 (by kernel_rfl) (by kernel_rfl) (by kernel_rfl) (by kernel_rfl)) ?_
  intro W base args ds gs before hval0 hW hcnd _
  have hval : ∀ (j : Nat) t v, Try.f6.params[j]? = some t → args[j]? = some v → Value.okWide Try.prog W .any base t v := hval0
  have hW' := hW
  obtain ⟨p, q, hA0, hV, rfl, hfz, hnd⟩ := hW
  have hA : DataW.TrodAll enc Try.prog W 0 (fun _ => true) true Try.f6.params.toList args.toList ds p := hA0
  rw [Try.params6] at hA hval
  obtain ⟨v0, vs0, d0, ds0, p0, q0, hargs, rfl, rfl, h0, r0⟩ := trodAll_cons hA
  obtain ⟨rfl, rfl, rfl⟩ := trodAll_nil r0
  obtain rfl : args = #[v0] := by cases args; simp_all
  obtain ⟨rfl, rfl⟩ := trodVars_none hV
  obtain ⟨a0, rfl, rfl, rfl, w0⟩ := open_int Try.underlying3 (hval 0 3 v0 rfl rfl) h0
  clear hA0 hval0
  simp only [List.append_nil] at hW'
  refine (walk a0 w0 W).mono fun e W' ⟨he, hg⟩ => ?_
  subst he
  exact ⟨_, rfl, _, _, _, [], _, [], hW', (trodAll_cons_mk (shut_bool Try.underlying4 _) trodAll_mk0), (trodAll_cons_mk (shut_int Try.underlying3 w0) trodAll_mk0), rfl, hg.frame _, fun h => by cases h⟩

theorem over : Rows.bootBlocksRow.holds Try.pinned (OpenSpec.ofChange Rows.bootBlocksSpec) :=
  OpenClaim.holds_of_wide 6 Try.f6 rfl rfl rfl rfl rfl rfl rfl ⟨rfl, rfl, rfl, rfl, rfl⟩ rfl rfl rfl rfl rfl (by kernel_rfl) Try.func6 (by kernel_rfl)
    (of_decide_eq_true (by kernel_rfl)) (by unfold Func.isWrapper; first | (rw [if_pos (by decide +kernel)]; kernel_rfl) | (rw [if_neg (by decide +kernel)]; exact ⟨rfl, rfl⟩))
    (fun os started H enc _ => lifted os started H enc)

theorem proved : Rows.BootBlocksSaid :=
  over
#print axioms proved
end Go.Proofs.Ytjleggnkacmbbaa
