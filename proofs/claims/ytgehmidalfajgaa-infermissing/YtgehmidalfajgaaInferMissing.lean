/- InferMissing (promises P1401, P1402): of every round, whatever replies came, Known and Missing answer what the document's answer. For every input; nothing is asked of it. -/
import Derived.Test.YtgehmidalfajgaaRows
import Derived.WalkKit
import Derived.ProofKit
import Derived.OpenShut
import Derived.Test.YtgehmidalfajgaaInf
import Derived.Test.YtgehmidalfajgaaTyo
namespace Go.Proofs.Ytgehmidalfajgaa
open Go.ChangeShapes Go.WideShapes Go.ChangeAt Go.RowKit
set_option linter.unusedVariables false

theorem laidOut : laidOutB Try.prog = true := by kernel_rfl
theorem own : ownKnob Try.prog.godebug = none := by kernel_rfl
set_option maxHeartbeats 32000000 in
set_option maxRecDepth 100000 in
theorem walk (w : World) (a0 : Int) (w0 : (Lit.int .i64 a0).wf = true) (a1 : Int) (w1 : (Lit.int .i64 a1).wf = true) (a2 : Int) (w2 : (Lit.int .i64 a2).wf = true) (a3 : Int) (w3 : (Lit.int .i64 a3).wf = true) (N4 : Nat) (hN4 : N4 < S128) (ad5 : Option Addr) (cap5 : Nat) (l5 : List Rp) (w5 : RdP w w.heap.size ad5 l5) (hc5 : l5.length ≤ cap5) (hm5 : cap5 ≤ maxLen) (a6 : Int) (w6 : (Lit.int .i64 a6).wf = true) :
    Calls Try.prog 5 #[.int .i64 a0, .int .i64 a1, .int .i64 a2, .int .i64 a3, sv N4, .slice ad5 l5.length cap5, .int .i64 a6] w fun e w' => e = .returned (.bool true) ∧ Below w.heap.size w w' := by
  have hmx : Try.prog.follows .mixedOrders = true := by kernel_rfl
  obtain ⟨w1, hw1⟩ : ∃ w1, w.alloc (.cells #[.int .u32 (wd N4 0 : Nat), .int .u32 (wd N4 1 : Nat), .int .u32 (wd N4 2 : Nat), .int .u32 (wd N4 3 : Nat)] 24) = w1 := ⟨_, rfl⟩
  have hb1 : Below w.heap.size w w1 := by rw [← hw1]; exact al1' _ _
  have G1 : Hid (Holds4 w1 w.heap.size (wd N4)) := by rw [← hw1]; exact new_at rfl
  obtain ⟨y0, y1, y2, y3, _⟩ := G1.out.facts
  by_cases hlong : 300 < (l5.length : Int)
  case pos =>
    have hal := alive_any w1
    simp only [sv]
    go_enter Try.func5, Try.ntmps5
    go_wp2_with (go_at_call 7; (with_reducible refine hal.mono ?_); rintro e u2 ⟨rfl, hu2⟩)
    go_ret
    exact ⟨rfl, bel2 hb1 hu2⟩
  by_cases hE : nwE a0 a1 a2 a3 N4 = 0
  case neg =>
    have hn := new_no a0 a1 a2 a3 N4 hN4 hE w1
    have hr := rNew_no a0 a1 a2 a3 N4 hN4 hE
    obtain ⟨E, hEE⟩ : ∃ E, nwE a0 a1 a2 a3 N4 = E := ⟨_, rfl⟩
    rw [hEE] at hn hE
    simp only [hEE] at hr
    clear hEE
    have HE : (E == 0) = false := by simpa using hE
    simp only [sv] at hn hr ⊢
    go_enter Try.func5, Try.ntmps5
    go_wp2_with (first
      | (go_at_call 6; (with_reducible refine hn.mono ?_); rintro e u ⟨rfl, hu⟩; have G2 : Hid (Holds4 u w.heap.size (wd N4)) := G1.out.carry hu; obtain ⟨x0, x1, x2, x3, _⟩ := G2.out.facts)
      | (go_at_call 19; (with_reducible refine (hr u).mono ?_); rintro e u2 ⟨rfl, hu2⟩)
      | (refine wpList_store_row rfl 49 (.tmp 17) (.tmp 44) rfl u2.heap.size z5 rfl rfl 49 _ (new_at rfl) infoRf rfl (by simp [z5, Value.oneCell']) ?_; obtain ⟨v, hv⟩ : ∃ v, (u2.alloc (.cells #[.int .i64 0, .int .i64 0, .int .i64 0, .slice none 0 0, .slice none 0 0] 49)).setRow u2.heap.size z5 = v := ⟨_, rfl⟩; have HB : Hid (Below u2.heap.size u2 v) := (by rw [← hv]; exact below_row (al1' _ _) (Nat.le_refl _) _); have HO : Hid (v.heap[u2.heap.size]? = some (.cells z5 49 (0, 0))) := (by rw [← hv]; exact setRow_heap _ _ _ _ _ _ (new_at rfl)); rw [hv]))
    obtain ⟨p, hp⟩ : ∃ p, u2.heap.size = p := ⟨_, rfl⟩
    rw [hp] at HO ⊢
    have hB0 : Below w.heap.size w v := bel2 (bel2 (bel2 hb1 hu) hu2) HB.out
    clear hn hr y0 y1 y2 y3 x0 x1 x2 x3 hv HB hp
    go_loopw [19] (fun c wz => ∃ k : Nat, c = .int .i64 k ∧ k ≤ l5.length ∧ wz.heap[p]? = some (.cells z5 49 (0, 0)) ∧ Below w.heap.size w wz) (fun c _ => l5.length - vnat c)
    case atStart => exact ⟨0, rfl, Nat.zero_le _, HO.out, hB0⟩
    case round =>
      obtain ⟨k, rfl, hk, ho0, hbw⟩ := hrel
      by_cases hkl : k < l5.length
      · have hki : (k : Int) < (l5.length : Int) := by omega
        obtain ⟨o, ho⟩ : ∃ o, l5[k]? = some o := ⟨_, List.getElem?_eq_getElem hkl⟩
        obtain ⟨b, off, rfl, hbB, hAt, _, _, hN⟩ := w5 k o ho
        have hat : ∀ V, Below wr.heap.size wr V → RpAt V b (off + k * 6) o := fun V hV => (hAt.carry hbw hbB).carry hV (Nat.lt_of_lt_of_le hbB hbw.size)
        go_wp2
        refine wp_region_any hmx ?_
        refine wpAny_pure (fun i__ => ([(.pointer none), (.slice (some ⟨b, off, none⟩) l5.length cap5), (.int .i64 (k : Int)), (.pointer (some ⟨b, off + k * 6, none⟩)), (.pointer (some ⟨b, off + k * 6, none⟩)), (.int .i64 o.f), (.slice (some ⟨b, off, none⟩) l5.length cap5), (.int .i64 (k : Int)), (.pointer (some ⟨b, off + k * 6, none⟩)), (.pointer (some ⟨b, off + k * 6 + 1, none⟩)), (.int .i64 o.r), (.slice (some ⟨b, off, none⟩) l5.length cap5), (.int .i64 (k : Int)), (.pointer (some ⟨b, off + k * 6, none⟩)), (.pointer (some ⟨b, off + k * 6 + 2, none⟩)), (sv o.N), (.tuple #[.int .i64 0, .int .i64 1])] : List Value).getD i__ undef) (fun V => Below wr.heap.size wr V) (by kernel_rfl) (Below.refl _ _).drew ?_ ?_
        · refine (stepsFrom_cons ?_ (stepsFrom_cons ?_ (stepsFrom_cons ?_ (stepsFrom_cons ?_ (stepsFrom_cons ?_ (stepsFrom_cons ?_ (stepsFrom_cons ?_ (stepsFrom_cons ?_ (stepsFrom_cons ?_ (stepsFrom_cons ?_ (stepsFrom_cons ?_ (stepsFrom_cons ?_ (stepsFrom_cons ?_ (stepsFrom_cons ?_ (stepsFrom_cons ?_ (stepsFrom_cons ?_ (stepsFrom_cons ?_ trivial)))))))))))))))))
          · exact step_move rfl trivial _ rfl (by kernel_rfl)
          · exact step_move rfl trivial _ rfl (by kernel_rfl)
          · exact step_move rfl trivial _ rfl (by kernel_rfl)
          · exact step_indexAddr rfl trivial _ _ _ _ _ rfl rfl rfl (fun v hw => idx_rp b off _ _ k hkl v)
          · exact step_fieldAddr rfl trivial _ _ _ _ rfl rfl (fun v hw => field_rp0 v _ _)
          · exact step_load rfl trivial _ _ _ rfl rfl (fun v hw => (hat v hw).f0)
          · exact step_move rfl trivial _ rfl (by kernel_rfl)
          · exact step_move rfl trivial _ rfl (by kernel_rfl)
          · exact step_indexAddr rfl trivial _ _ _ _ _ rfl rfl rfl (fun v hw => idx_rp b off _ _ k hkl v)
          · exact step_fieldAddr rfl trivial _ _ _ _ rfl rfl (fun v hw => field_rp1 v _ _)
          · exact step_load rfl trivial _ _ _ rfl rfl (fun v hw => (hat v hw).f1)
          · exact step_move rfl trivial _ rfl (by kernel_rfl)
          · exact step_move rfl trivial _ rfl (by kernel_rfl)
          · exact step_indexAddr rfl trivial _ _ _ _ _ rfl rfl rfl (fun v hw => idx_rp b off _ _ k hkl v)
          · exact step_fieldAddr rfl trivial _ _ _ _ rfl rfl (fun v hw => field_rp2 v _ _)
          · exact step_load rfl trivial _ _ _ rfl rfl (fun v hw => (hat v hw).f2)
          · exact step_call rfl trivial 10 _ _ [(.pointer none), (.int .i64 o.f), (.int .i64 o.r), (sv o.N)] rfl (by kernel_rfl) (enters_of Try.func10 (by kernel_rfl) rfl) (fun v hw => (take_nil o.f o.r o.N v).mono (by rintro e w2 ⟨rfl, hb2⟩; exact ⟨rfl, bel2 hw hb2⟩))
        intro W hW
        first | refine hK _ _ ?_ | refine (‹∀ (a : Act) (w : World), Code.wp Try.prog _ _ a w → _›) _ _ ?_
        simp only [finL, List.getD_cons_zero, List.getD_cons_succ, Nat.zero_add, Nat.reduceAdd, List.setIfInBounds_toArray, List.set_cons_zero, List.set_cons_succ]
        have ho1 := (hW.block _ (lt_at ho0)).trans ho0
        go_wp2
        go_roundw
        case rel => exact ⟨k + 1, by simp, by omega, ho1, bel2 hbw hW⟩
        case measure => simp [vnat]; omega
      · have hkk : k = l5.length := by omega
        subst hkk
        have hki : ¬ ((l5.length : Int) < (l5.length : Int)) := by omega
        have hpt : Pt wr (.pointer none) false 0 := ⟨fun V _ => ready_nil V, fun V _ => known_nil V⟩
        have hobj : ∀ V, Below wr.heap.size wr V → V.heap[p]? = some (.cells z5 49 (0, 0)) := fun V hV => (hV.block _ (lt_at ho0)).trans ho0
        obtain ⟨r, hr⟩ : ∃ r, false = r := ⟨_, rfl⟩
        obtain ⟨K, hK0⟩ : ∃ K, 0 = K := ⟨_, rfl⟩
        have hrm : ∀ V, Below wr.heap.size wr V → Calls Try.prog 21 #[.int .i64 a6, .agg z5] V fun e w' => e = .returned (.tuple #[sv (msN a6 r K), .int .i64 (msE a6 r)]) ∧ Below V.heap.size V w' := fun V _ => by
          rw [← hr, ← hK0]
          exact rMissing_any a6 _ _ _ _ _ (Pr.zero (new_at rfl))
        have hrk : ∀ V, Below wr.heap.size wr V → Calls Try.prog 22 #[.pointer (some ⟨p, 0, none⟩)] V fun e w' => e = .returned (sv K) ∧ Below V.heap.size V w' := fun V hV => by
          rw [← hK0]
          exact (Pr.zero (hobj V hV)).kw V (Below.refl _ _)
        have hkw : ∀ V, Below wr.heap.size wr V → Calls Try.prog 13 #[.pointer none] V fun e w' => e = .returned (sv K) ∧ Below V.heap.size V w' := fun V hV => by
          rw [← hK0]
          exact hpt.kw V hV
        have hms := missing_any a6 hpt
        rw [hr, hK0] at hms
        have hKl : K < S128 := by rw [← hK0]; decide
        clear hr hK0
        obtain ⟨MS, hMS⟩ : ∃ MS, msN a6 r K = MS := ⟨_, rfl⟩
        obtain ⟨ME, hME⟩ : ∃ ME, msE a6 r = ME := ⟨_, rfl⟩
        have hMl : MS < S128 := by rw [← hMS]; exact S100_S128 (msN_lt _ _ _)
        rw [hMS, hME] at hms
        simp only [hMS, hME] at hrm
        clear hMS hME
        have hq1 := eqn4 MS MS hMl hMl
        have hq2 := eqn4 K K hKl hKl
        simp only [sv] at hms hrm hkw hrk hq1 hq2
        go_wp2_with (first
          | (go_at_call 11; (with_reducible refine hms.mono ?_); rintro e v ⟨rfl, hv⟩; obtain ⟨v3, hv3⟩ : ∃ u3, v.alloc (.cells #[.int .u32 0, .int .u32 0, .int .u32 0, .int .u32 0] 24) = u3 := ⟨_, rfl⟩; have k1 : Hid (Holds4 v3 v.heap.size (fun _ => 0)) := (by rw [← hv3]; exact new_at rfl); have k3 : Hid (Below wr.heap.size wr v3) := (by rw [← hv3]; exact bel2 hv (al1' _ _)))
          | (refine wpList_store_row rfl 24 (.tmp 20) (.tmp 94) rfl v.heap.size (cells4 (wd MS)) rfl rfl 24 _ k1.out infoS rfl (by simp [cells4, Value.oneCell']) ?_; obtain ⟨v4, hv4⟩ : ∃ x, v3.setRow v.heap.size (cells4 (wd MS)) = x := ⟨_, rfl⟩; have j1 : Hid (Holds4 v4 v.heap.size (wd MS)) := (by rw [← hv4]; exact setRow_heap _ _ _ _ _ _ k1.out); have j3 : Hid (Below wr.heap.size wr v4) := (by rw [← hv4]; exact below_row k3.out hv.size _); rw [hv4])
          | (refine wpList_load_row rfl 49 (.tmp 17) rfl p rfl 49 _ (0, 0) _ (hobj _ j3.out) undRf rfl infoRf ?_)
          | (go_at_call 21; refine (hrm _ j3.out).mono ?_; rintro e v5 ⟨rfl, hv5⟩; obtain ⟨v6, hv6⟩ : ∃ u3, v5.alloc (.cells #[.int .u32 0, .int .u32 0, .int .u32 0, .int .u32 0] 24) = u3 := ⟨_, rfl⟩; have q1 : Hid (Holds4 v6 v5.heap.size (fun _ => 0)) := (by rw [← hv6]; exact new_at rfl); have q2 : Hid (Holds4 v6 v.heap.size (wd MS)) := (by rw [← hv6]; exact old_at (j1.out.carry hv5)); have q3 : Hid (Below wr.heap.size wr v6) := (by rw [← hv6]; exact bel2 (bel2 j3.out hv5) (al1' _ _)); have q4 : v.heap.size < v5.heap.size := Nat.lt_of_lt_of_le j1.out.lt hv5.size; have q5 : wr.heap.size ≤ v.heap.size := hv.size)
          | (refine wpList_store_row rfl 24 (.tmp 22) (.tmp 100) rfl v5.heap.size (cells4 (wd MS)) rfl rfl 24 _ q1.out infoS rfl (by simp [cells4, Value.oneCell']) ?_; obtain ⟨v7, hv7⟩ : ∃ x, v6.setRow v5.heap.size (cells4 (wd MS)) = x := ⟨_, rfl⟩; have r1 : Hid (Holds4 v7 v5.heap.size (wd MS)) := (by rw [← hv7]; exact setRow_heap _ _ _ _ _ _ q1.out); have r2 : Hid (Holds4 v7 v.heap.size (wd MS)) := (by rw [← hv7]; exact hold_row q2.out (by omega) _); have r3 : Hid (Below wr.heap.size wr v7) := (by rw [← hv7]; exact below_row q3.out (by omega) _); rw [hv7])
          | (go_at_call 7; refine (alive_any _).mono ?_; rintro e v8 ⟨rfl, hv8⟩; have r4 := bel2 r3.out hv8)
          | (go_at_call 13; refine (hkw _ r4).mono ?_; rintro e v9 ⟨rfl, hv9⟩; have r5 := bel2 r4 hv9)
          | (go_at_call 22; refine (hrk _ r5).mono ?_; rintro e v10 ⟨rfl, hv10⟩; have r6 := bel2 r5 hv10; have t1 := ((r2.out.carry hv8).carry hv9).carry hv10; have t2 := ((r1.out.carry hv8).carry hv9).carry hv10; obtain ⟨y0, y1, y2, y3, _⟩ := t1.facts; obtain ⟨x0, x1, x2, x3, _⟩ := t2.facts))
        go_ret
        exact ⟨rfl, bel2 hbw r6⟩
  have hn := new_ok a0 a1 a2 a3 N4 hN4 hE w1
  have hr := rNew_ok a0 a1 a2 a3 N4 hN4 hE
  have hv0 := Tv.new hN4 hE
  have hc0 := Cw.new hE
  obtain ⟨t0, ht0⟩ : ∃ t0, nwT a0 a1 a2 a3 N4 = t0 := ⟨_, rfl⟩
  have ht0n : t0.n = a0 ∧ t0.n - t0.need = a1 ∧ t0.ro = a3 ∧ t0.hs = [N4] := by rw [← ht0]; refine ⟨rfl, ?_, rfl, rfl⟩; simp only [nwT, cntT, tl0]; omega
  rw [ht0] at hn hv0 hc0
  have hl300 : l5.length ≤ 300 := by omega
  have hS : ∀ o ∈ l5, o.N < S128 := fun o ho => by
    obtain ⟨n, hn⟩ := List.mem_iff_getElem?.1 ho
    obtain ⟨_, _, _, _, _, _, _, h⟩ := w5 n o hn
    exact h
  have hSk : ∀ k, Tv (run t0 (l5.take k)) := fun k => hv0.run _ (fun o ho => hS o (List.mem_of_mem_take ho))
  simp only [sv] at hn hr ⊢
  go_enter Try.func5, Try.ntmps5
  go_wp2_with (first
    | (go_at_call 6; (with_reducible refine hn.mono ?_); rintro e u ⟨q, ad, cap, rfl, hT, hu⟩; have G2 : Hid (Holds4 u w.heap.size (wd N4)) := G1.out.carry hu; obtain ⟨x0, x1, x2, x3, _⟩ := G2.out.facts)
    | (go_at_call 19; (with_reducible refine (hr u).mono ?_); rintro e u2 ⟨k1, k2, rfl, hi2, hs2, hu2⟩)
    | (refine wpList_store_row rfl 49 (.tmp 17) (.tmp 44) rfl u2.heap.size (rfC a0 a1 a3 (.slice (some ⟨k1, 0, none⟩) 1 1) (.slice (some ⟨k2, 0, none⟩) 1 1)) rfl rfl 49 _ (new_at rfl) infoRf rfl (by simp [rfC, Value.oneCell']) ?_; obtain ⟨v, hv⟩ : ∃ v, (u2.alloc (.cells #[.int .i64 0, .int .i64 0, .int .i64 0, .slice none 0 0, .slice none 0 0] 49)).setRow u2.heap.size (rfC a0 a1 a3 (.slice (some ⟨k1, 0, none⟩) 1 1) (.slice (some ⟨k2, 0, none⟩) 1 1)) = v := ⟨_, rfl⟩; have HB : Hid (Below u2.heap.size u2 v) := (by rw [← hv]; exact below_row (al1' _ _) (Nat.le_refl _) _); have HO : Hid (v.heap[u2.heap.size]? = some (.cells (rfC a0 a1 a3 (.slice (some ⟨k1, 0, none⟩) 1 1) (.slice (some ⟨k2, 0, none⟩) 1 1)) 49 (0, 0))) := (by rw [← hv]; exact setRow_heap _ _ _ _ _ _ (new_at rfl)); rw [hv]))
  obtain ⟨p, hp⟩ : ∃ p, u2.heap.size = p := ⟨_, rfl⟩
  obtain ⟨B, hB⟩ : ∃ B, w1.heap.size = B := ⟨_, rfl⟩
  obtain ⟨base, hbase⟩ : ∃ base, u.heap.size = base := ⟨_, rfl⟩
  have hwB : w.heap.size ≤ B := by rw [← hB]; exact hb1.size
  have hbu := bel2 hb1 hu
  have hwb : w.heap.size ≤ base := by rw [← hbase]; exact hbu.size
  have hP0 : Pl w B q base p (run t0 (l5.take 0)) v := by
    obtain ⟨e1, e2, e3, e4⟩ := ht0n
    rw [hB] at hT
    rw [hbase] at hi2 hs2
    have hT2 := (hT.carry hu2).carry HB.out
    refine ⟨ad, cap, some ⟨k1, 0, none⟩, 1, some ⟨k2, 0, none⟩, 1, [a2], hT2, ⟨by rw [← hp, ← hbase]; exact hu2.size, ?_, ?_, ?_, ?_, ?_⟩, hc0, fun b e e2 => ?_, bel2 (bel2 hbu hu2) HB.out⟩
    · show v.heap[p]? = some (.cells (rfC t0.n (t0.n - t0.need) t0.ro (.slice _ t0.hs.length 1) (.slice _ t0.hs.length 1)) 49 (0, 0))
      rw [e1] at e2 ⊢
      rw [e2, e3, e4, ← hp]
      exact HO.out
    · show v.ownsRow base 3 1 (.slice _ t0.hs.length 1) t0.hs.length (inV [a2])
      rw [e4]
      exact row_below hi2 HB.out
    · show v.ownsRow base 24 4 (.slice _ t0.hs.length 1) t0.hs.length (fs t0.hs)
      rw [e4]
      exact row_below hs2 HB.out
    · show [a2].length = t0.hs.length
      rw [e4]
      rfl
    · show 0 < t0.hs.length
      rw [e4]
      simp
    · have h1 := (row_lt2 hT.row b (by rw [ob_eq]; exact e)).2
      have h2 := (row_lt2 hs2 b (by rw [ob_eq]; exact e2)).1
      omega
  rw [hp]
  clear hn hr y0 y1 y2 y3 x0 x1 x2 x3 hT hu hu2 hi2 hs2 HB HO G2
  go_loopw [19] (fun c wz => ∃ k : Nat, c = .int .i64 k ∧ k ≤ l5.length ∧ Pl w B q base p (run t0 (l5.take k)) wz) (fun c _ => l5.length - vnat c)
  case atStart => exact ⟨0, rfl, Nat.zero_le _, hP0⟩
  case round =>
    obtain ⟨k, rfl, hk, hPl⟩ := hrel
    obtain ⟨t, htt⟩ : ∃ t, run t0 (l5.take k) = t := ⟨_, rfl⟩
    have hvt : Tv t := by rw [← htt]; exact hSk k
    rw [htt] at hPl
    by_cases hkl : k < l5.length
    · have hki : (k : Int) < (l5.length : Int) := by omega
      obtain ⟨ad, cap, ah, ch, az, cs, wh, hT, hR, hcw, hap, hbw⟩ := hPl
      obtain ⟨o, ho⟩ : ∃ o, l5[k]? = some o := ⟨_, List.getElem?_eq_getElem hkl⟩
      obtain ⟨b, off, rfl, hbB, hAt, _, _, hN⟩ := w5 k o ho
      have hat : ∀ V, Jt wr B q ad cap t o false V → RpAt V b (off + k * 6) o := fun V hV => (hAt.carry hbw hbB).carry (show Below wr.heap.size wr V from hV) (Nat.lt_of_lt_of_le hbB hbw.size)
      have hBw : B ≤ wr.heap.size := Nat.le_trans hT.qb (Nat.le_of_lt hT.lt)
      obtain ⟨KD, hKD⟩ : ∃ z, kd (fto t o) = z := ⟨_, rfl⟩
      obtain ⟨KE, hKE⟩ : ∃ z, ke (fto t o) = z := ⟨_, rfl⟩
      have hgo : ∀ V, Jt wr B q ad cap t o false V → Calls Try.prog 10 #[.pointer (some ⟨q, 0, none⟩), .int .i64 o.f, .int .i64 o.r, sv o.N] V fun e w' => e = .returned (.tuple #[.int .i64 KD, .int .i64 KE]) ∧ Jt wr B q ad cap t o true w' := fun V hV => by
        rw [← hKD, ← hKE]
        exact hV.go hT hvt hBw hN
      go_wp2
      refine wp_region_any hmx ?_
      refine wpAny_tabG (G := Unit) (fun g i__ => ([(.pointer (some ⟨q, 0, none⟩)), (.slice (some ⟨b, off, none⟩) l5.length cap5), (.int .i64 (k : Int)), (.pointer (some ⟨b, off + k * 6, none⟩)), (.pointer (some ⟨b, off + k * 6, none⟩)), (.int .i64 o.f), (.slice (some ⟨b, off, none⟩) l5.length cap5), (.int .i64 (k : Int)), (.pointer (some ⟨b, off + k * 6, none⟩)), (.pointer (some ⟨b, off + k * 6 + 1, none⟩)), (.int .i64 o.r), (.slice (some ⟨b, off, none⟩) l5.length cap5), (.int .i64 (k : Int)), (.pointer (some ⟨b, off + k * 6, none⟩)), (.pointer (some ⟨b, off + k * 6 + 2, none⟩)), (sv o.N), (.tuple #[.int .i64 KD, .int .i64 KE])] : List Value).getD i__ undef) (fun g d V => Jt wr B q ad cap t o (d 16) V) (by kernel_rfl) (()) (show Jt wr B q ad cap _ o false _ from (Below.refl _ _).drew) ?step1 ?fin1
      case step1 =>
        intro i o ho
        have hi : i < 17 := getElem?_lt ho
        match i, hi, ho with
        | 0, _, ho =>
          cases ho
          refine stepG_ofC (fun g d hun hdep hcl => ?_)
          exact step_move rfl trivial _ rfl (by kernel_rfl)
        | 1, _, ho =>
          cases ho
          refine stepG_ofC (fun g d hun hdep hcl => ?_)
          exact step_move rfl trivial _ rfl (by kernel_rfl)
        | 2, _, ho =>
          cases ho
          refine stepG_ofC (fun g d hun hdep hcl => ?_)
          exact step_move rfl trivial _ rfl (by kernel_rfl)
        | 3, _, ho =>
          cases ho
          refine stepG_ofC (fun g d hun hdep hcl => ?_)
          exact step_indexAddr rfl trivial _ _ _ _ _ rfl rfl rfl (fun v hw => idx_rp b off _ _ k hkl v)
        | 4, _, ho =>
          cases ho
          refine stepG_ofC (fun g d hun hdep hcl => ?_)
          exact step_fieldAddr rfl trivial _ _ _ _ rfl rfl (fun v hw => field_rp0 v _ _)
        | 5, _, ho =>
          cases ho
          refine stepG_ofC (fun g d hun hdep hcl => ?_)
          exact step_load rfl trivial _ _ _ rfl rfl (fun v hw => by have h16 : d 16 = false := (by cases h : d 16 with | false => rfl | true => exact absurd (hcl 16 _ rfl h 5 (by kernel_rfl)) (by rw [hun]; simp)); have hw' := hw; rw [h16] at hw'; exact (hat v hw').f0)
        | 6, _, ho =>
          cases ho
          refine stepG_ofC (fun g d hun hdep hcl => ?_)
          exact step_move rfl trivial _ rfl (by kernel_rfl)
        | 7, _, ho =>
          cases ho
          refine stepG_ofC (fun g d hun hdep hcl => ?_)
          exact step_move rfl trivial _ rfl (by kernel_rfl)
        | 8, _, ho =>
          cases ho
          refine stepG_ofC (fun g d hun hdep hcl => ?_)
          exact step_indexAddr rfl trivial _ _ _ _ _ rfl rfl rfl (fun v hw => idx_rp b off _ _ k hkl v)
        | 9, _, ho =>
          cases ho
          refine stepG_ofC (fun g d hun hdep hcl => ?_)
          exact step_fieldAddr rfl trivial _ _ _ _ rfl rfl (fun v hw => field_rp1 v _ _)
        | 10, _, ho =>
          cases ho
          refine stepG_ofC (fun g d hun hdep hcl => ?_)
          exact step_load rfl trivial _ _ _ rfl rfl (fun v hw => by have h16 : d 16 = false := (by cases h : d 16 with | false => rfl | true => exact absurd (hcl 16 _ rfl h 10 (by kernel_rfl)) (by rw [hun]; simp)); have hw' := hw; rw [h16] at hw'; exact (hat v hw').f1)
        | 11, _, ho =>
          cases ho
          refine stepG_ofC (fun g d hun hdep hcl => ?_)
          exact step_move rfl trivial _ rfl (by kernel_rfl)
        | 12, _, ho =>
          cases ho
          refine stepG_ofC (fun g d hun hdep hcl => ?_)
          exact step_move rfl trivial _ rfl (by kernel_rfl)
        | 13, _, ho =>
          cases ho
          refine stepG_ofC (fun g d hun hdep hcl => ?_)
          exact step_indexAddr rfl trivial _ _ _ _ _ rfl rfl rfl (fun v hw => idx_rp b off _ _ k hkl v)
        | 14, _, ho =>
          cases ho
          refine stepG_ofC (fun g d hun hdep hcl => ?_)
          exact step_fieldAddr rfl trivial _ _ _ _ rfl rfl (fun v hw => field_rp2 v _ _)
        | 15, _, ho =>
          cases ho
          refine stepG_ofC (fun g d hun hdep hcl => ?_)
          exact step_load rfl trivial _ _ _ rfl rfl (fun v hw => by have h16 : d 16 = false := (by cases h : d 16 with | false => rfl | true => exact absurd (hcl 16 _ rfl h 15 (by kernel_rfl)) (by rw [hun]; simp)); have hw' := hw; rw [h16] at hw'; exact (hat v hw').f2)
        | 16, _, ho =>
          cases ho
          refine stepG_ofC (fun g d hun hdep hcl => ?_)
          exact step_call rfl trivial 10 _ _ [(.pointer (some ⟨q, 0, none⟩)), (.int .i64 o.f), (.int .i64 o.r), (sv o.N)] rfl (by kernel_rfl) (enters_of Try.func10 (by kernel_rfl) rfl) (fun v hw => by have hw' := hw; rw [hun] at hw'; exact hgo v hw')
      intro g d W hall hW
      first | refine hK _ _ ?_ | refine (‹∀ (a : Act) (w : World), Code.wp Try.prog _ _ a w → _›) _ _ ?_ | skip
      simp only [finL, List.getD_cons_zero, List.getD_cons_succ, Nat.zero_add, Nat.reduceAdd, List.setIfInBounds_toArray, List.set_cons_zero, List.set_cons_succ]
      rw [hall 16 (by decide)] at hW
      obtain ⟨ad', cap', hT', hn', _⟩ := hW
      have hB' : Below w.heap.size w W := hbw.trans ((hT.below hn').mono hwB)
      obtain ⟨hR', hap'⟩ := tn_rf hT hn' hR hap
      clear hall hn' hgo hat hR hap hT
      have hatR : ∀ V, Kt W base p az t o wh false V → RpAt V b (off + k * 6) o := fun V hV => (hAt.carry hB' hbB).carry (show Below W.heap.size W V from hV) (Nat.lt_of_lt_of_le hbB hB'.size)
      have hbsW : base ≤ W.heap.size := Nat.le_trans hR'.pb (Nat.le_of_lt hR'.lt)
      have hgoR : ∀ V, Kt W base p az t o wh false V → Calls Try.prog 20 #[.pointer (some ⟨p, 0, none⟩), .int .i64 o.f, .int .i64 o.r, sv o.N] V fun e w' => e = .returned (.tuple #[.int .i64 KD, .int .i64 KE]) ∧ Kt W base p az t o wh true w' := fun V hV => by
        rw [← hKD, ← hKE]
        exact hV.go hR' hcw hvt hbsW hN
      have hTp : ∀ V ad' cap', Ta W B q ad' cap' (tko t o) → Tp p W V → Ta V B q ad' cap' (tko t o) := fun V ad' cap' h1 h2 => h1.tp hR'.obj h2
      have hbl : ∀ V, Tp p W V → Below w.heap.size w V := fun V h2 => hB'.trans (h2.below (Nat.le_trans hwb hR'.pb) hB'.size)
      have hsz : ∀ b, ob ad' = some b → b < W.heap.size := fun b e => (row_lt2 hT'.row b (by rw [ob_eq]; exact e)).2
      go_wp2
      refine wp_region_any hmx ?_
      refine wpAny_tabG (G := Unit) (fun g i__ => ([(.slice (some ⟨b, off, none⟩) l5.length cap5), (.int .i64 (k : Int)), (.pointer (some ⟨b, off + k * 6, none⟩)), (.pointer (some ⟨b, off + k * 6, none⟩)), (.int .i64 o.f), (.slice (some ⟨b, off, none⟩) l5.length cap5), (.int .i64 (k : Int)), (.pointer (some ⟨b, off + k * 6, none⟩)), (.pointer (some ⟨b, off + k * 6 + 1, none⟩)), (.int .i64 o.r), (.slice (some ⟨b, off, none⟩) l5.length cap5), (.int .i64 (k : Int)), (.pointer (some ⟨b, off + k * 6, none⟩)), (.pointer (some ⟨b, off + k * 6 + 2, none⟩)), (sv o.N), (.tuple #[.int .i64 KD, .int .i64 KE])] : List Value).getD i__ undef) (fun g d V => Kt W base p az t o wh (d 15) V) (by kernel_rfl) (()) (show Kt W base p az t o wh false _ from (Below.refl _ _).drew) ?step2 ?fin2
      case step2 =>
        intro i o ho
        have hi : i < 16 := getElem?_lt ho
        match i, hi, ho with
        | 0, _, ho =>
          cases ho
          refine stepG_ofC (fun g d hun hdep hcl => ?_)
          exact step_move rfl trivial _ rfl (by kernel_rfl)
        | 1, _, ho =>
          cases ho
          refine stepG_ofC (fun g d hun hdep hcl => ?_)
          exact step_move rfl trivial _ rfl (by kernel_rfl)
        | 2, _, ho =>
          cases ho
          refine stepG_ofC (fun g d hun hdep hcl => ?_)
          exact step_indexAddr rfl trivial _ _ _ _ _ rfl rfl rfl (fun v hw => idx_rp b off _ _ k hkl v)
        | 3, _, ho =>
          cases ho
          refine stepG_ofC (fun g d hun hdep hcl => ?_)
          exact step_fieldAddr rfl trivial _ _ _ _ rfl rfl (fun v hw => field_rp0 v _ _)
        | 4, _, ho =>
          cases ho
          refine stepG_ofC (fun g d hun hdep hcl => ?_)
          exact step_load rfl trivial _ _ _ rfl rfl (fun v hw => by have h15 : d 15 = false := (by cases h : d 15 with | false => rfl | true => exact absurd (hcl 15 _ rfl h 4 (by kernel_rfl)) (by rw [hun]; simp)); have hw' := hw; rw [h15] at hw'; exact (hatR v hw').f0)
        | 5, _, ho =>
          cases ho
          refine stepG_ofC (fun g d hun hdep hcl => ?_)
          exact step_move rfl trivial _ rfl (by kernel_rfl)
        | 6, _, ho =>
          cases ho
          refine stepG_ofC (fun g d hun hdep hcl => ?_)
          exact step_move rfl trivial _ rfl (by kernel_rfl)
        | 7, _, ho =>
          cases ho
          refine stepG_ofC (fun g d hun hdep hcl => ?_)
          exact step_indexAddr rfl trivial _ _ _ _ _ rfl rfl rfl (fun v hw => idx_rp b off _ _ k hkl v)
        | 8, _, ho =>
          cases ho
          refine stepG_ofC (fun g d hun hdep hcl => ?_)
          exact step_fieldAddr rfl trivial _ _ _ _ rfl rfl (fun v hw => field_rp1 v _ _)
        | 9, _, ho =>
          cases ho
          refine stepG_ofC (fun g d hun hdep hcl => ?_)
          exact step_load rfl trivial _ _ _ rfl rfl (fun v hw => by have h15 : d 15 = false := (by cases h : d 15 with | false => rfl | true => exact absurd (hcl 15 _ rfl h 9 (by kernel_rfl)) (by rw [hun]; simp)); have hw' := hw; rw [h15] at hw'; exact (hatR v hw').f1)
        | 10, _, ho =>
          cases ho
          refine stepG_ofC (fun g d hun hdep hcl => ?_)
          exact step_move rfl trivial _ rfl (by kernel_rfl)
        | 11, _, ho =>
          cases ho
          refine stepG_ofC (fun g d hun hdep hcl => ?_)
          exact step_move rfl trivial _ rfl (by kernel_rfl)
        | 12, _, ho =>
          cases ho
          refine stepG_ofC (fun g d hun hdep hcl => ?_)
          exact step_indexAddr rfl trivial _ _ _ _ _ rfl rfl rfl (fun v hw => idx_rp b off _ _ k hkl v)
        | 13, _, ho =>
          cases ho
          refine stepG_ofC (fun g d hun hdep hcl => ?_)
          exact step_fieldAddr rfl trivial _ _ _ _ rfl rfl (fun v hw => field_rp2 v _ _)
        | 14, _, ho =>
          cases ho
          refine stepG_ofC (fun g d hun hdep hcl => ?_)
          exact step_load rfl trivial _ _ _ rfl rfl (fun v hw => by have h15 : d 15 = false := (by cases h : d 15 with | false => rfl | true => exact absurd (hcl 15 _ rfl h 14 (by kernel_rfl)) (by rw [hun]; simp)); have hw' := hw; rw [h15] at hw'; exact (hatR v hw').f2)
        | 15, _, ho =>
          cases ho
          refine stepG_ofC (fun g d hun hdep hcl => ?_)
          exact step_call rfl trivial 20 _ _ [(.pointer (some ⟨p, 0, none⟩)), (.int .i64 o.f), (.int .i64 o.r), (sv o.N)] rfl (by kernel_rfl) (enters_of Try.func20 (by kernel_rfl) rfl) (fun v hw => by have hw' := hw; rw [hun] at hw'; exact hgoR v hw')
      intro g d W hall hW
      first | refine hK _ _ ?_ | refine (‹∀ (a : Act) (w : World), Code.wp Try.prog _ _ a w → _›) _ _ ?_ | skip
      simp only [finL, List.getD_cons_zero, List.getD_cons_succ, Nat.zero_add, Nat.reduceAdd, List.setIfInBounds_toArray, List.set_cons_zero, List.set_cons_succ]
      rw [hall 15 (by decide)] at hW
      obtain ⟨ah2, ch2, az2, cs2, wh2, hR2, hc2, hp2, hz2, _⟩ := hW
      have HP : Hid (Pl w B q base p (tko t o) W) := ⟨ad', cap', ah2, ch2, az2, cs2, wh2, hTp _ _ _ hT' hp2, hR2, hc2, fun b e e2 => by
        rcases hz2 with q | q
        · rw [q] at e2
          exact hap' b e e2
        · have := q b e2
          have := hsz b e
          omega, hbl _ hp2⟩
      clear hall hp2 hR2 hz2 hT' hR' hgoR hatR hTp hbl hsz hc2
      go_wp2
      go_roundw
      case rel => exact ⟨k + 1, by simp, by omega, by rw [run_succ t0 l5 k o ho, htt]; exact HP.out⟩
      case measure => simp [vnat]; omega
    · have hkk : k = l5.length := by omega
      subst hkk
      have hki : ¬ ((l5.length : Int) < (l5.length : Int)) := by omega
      obtain ⟨ad, cap, ah, ch, az, cs, wh, hT, hR, hcw, hap, hbw⟩ := hPl
      have hlen : t.hs.length ≤ 100 := by have := hvt.len; have := hvt.d1; have := hvt.n1; omega
      have hpt := Pt.of hT (by omega)
      have hbs : base ≤ wr.heap.size := Nat.le_trans hR.pb (Nat.le_of_lt hR.lt)
      obtain ⟨C3, hC3⟩ : ∃ C, Value.slice ah t.hs.length ch = C := ⟨_, rfl⟩
      obtain ⟨C4, hC4⟩ : ∃ C, Value.slice az t.hs.length cs = C := ⟨_, rfl⟩
      have hobj : ∀ V, Below wr.heap.size wr V → V.heap[p]? = some (.cells #[.int .i64 t.n, .int .i64 (t.n - t.need), .int .i64 t.ro, C3, C4] 49 (0, 0)) := fun V hV => by
        rw [← hC3, ← hC4]
        exact (hV.block _ (lt_at hR.obj)).trans hR.obj
      obtain ⟨r, hr⟩ : ∃ r, rdy t = r := ⟨_, rfl⟩
      obtain ⟨K, hK0⟩ : ∃ K, kn t = K := ⟨_, rfl⟩
      have hrm : ∀ V, Below wr.heap.size wr V → Calls Try.prog 21 #[.int .i64 a6, .agg #[.int .i64 t.n, .int .i64 (t.n - t.need), .int .i64 t.ro, C3, C4]] V fun e w' => e = .returned (.tuple #[sv (msN a6 r K), .int .i64 (msE a6 r)]) ∧ Below V.heap.size V w' := fun V hV => by
        rw [← hr, ← hK0, ← hC3, ← hC4]
        exact rMissing_any a6 _ _ _ _ _ (Pr.of ((hR.carry hV).box (Nat.le_trans hbs hV.size)) hcw hvt)
      have hrk : ∀ V, Below wr.heap.size wr V → Calls Try.prog 22 #[.pointer (some ⟨p, 0, none⟩)] V fun e w' => e = .returned (sv K) ∧ Below V.heap.size V w' := fun V hV => by
        rw [← hK0]
        exact rKnown_any (hR.carry hV) hcw hvt
      have hkw : ∀ V, Below wr.heap.size wr V → Calls Try.prog 13 #[.pointer (some ⟨q, 0, none⟩)] V fun e w' => e = .returned (sv K) ∧ Below V.heap.size V w' := fun V hV => by
        rw [← hK0]
        exact hpt.kw V hV
      have hms := missing_any a6 hpt
      rw [hr, hK0] at hms
      have hKl : K < S128 := by rw [← hK0]; exact S100_S128 (kn_lt hvt)
      clear hr hK0 hC3 hC4
      obtain ⟨MS, hMS⟩ : ∃ MS, msN a6 r K = MS := ⟨_, rfl⟩
      obtain ⟨ME, hME⟩ : ∃ ME, msE a6 r = ME := ⟨_, rfl⟩
      have hMl : MS < S128 := by rw [← hMS]; exact S100_S128 (msN_lt _ _ _)
      rw [hMS, hME] at hms
      simp only [hMS, hME] at hrm
      clear hMS hME
      have hq1 := eqn4 MS MS hMl hMl
      have hq2 := eqn4 K K hKl hKl
      simp only [sv] at hms hrm hkw hrk hq1 hq2
      go_wp2_with (first
        | (go_at_call 11; (with_reducible refine hms.mono ?_); rintro e v ⟨rfl, hv⟩; obtain ⟨v3, hv3⟩ : ∃ u3, v.alloc (.cells #[.int .u32 0, .int .u32 0, .int .u32 0, .int .u32 0] 24) = u3 := ⟨_, rfl⟩; have k1 : Hid (Holds4 v3 v.heap.size (fun _ => 0)) := (by rw [← hv3]; exact new_at rfl); have k3 : Hid (Below wr.heap.size wr v3) := (by rw [← hv3]; exact bel2 hv (al1' _ _)))
        | (refine wpList_store_row rfl 24 (.tmp 20) (.tmp 94) rfl v.heap.size (cells4 (wd MS)) rfl rfl 24 _ k1.out infoS rfl (by simp [cells4, Value.oneCell']) ?_; obtain ⟨v4, hv4⟩ : ∃ x, v3.setRow v.heap.size (cells4 (wd MS)) = x := ⟨_, rfl⟩; have j1 : Hid (Holds4 v4 v.heap.size (wd MS)) := (by rw [← hv4]; exact setRow_heap _ _ _ _ _ _ k1.out); have j3 : Hid (Below wr.heap.size wr v4) := (by rw [← hv4]; exact below_row k3.out hv.size _); rw [hv4])
        | (refine wpList_load_row rfl 49 (.tmp 17) rfl p rfl 49 _ (0, 0) _ (hobj _ j3.out) undRf rfl infoRf ?_)
        | (go_at_call 21; refine (hrm _ j3.out).mono ?_; rintro e v5 ⟨rfl, hv5⟩; obtain ⟨v6, hv6⟩ : ∃ u3, v5.alloc (.cells #[.int .u32 0, .int .u32 0, .int .u32 0, .int .u32 0] 24) = u3 := ⟨_, rfl⟩; have q1 : Hid (Holds4 v6 v5.heap.size (fun _ => 0)) := (by rw [← hv6]; exact new_at rfl); have q2 : Hid (Holds4 v6 v.heap.size (wd MS)) := (by rw [← hv6]; exact old_at (j1.out.carry hv5)); have q3 : Hid (Below wr.heap.size wr v6) := (by rw [← hv6]; exact bel2 (bel2 j3.out hv5) (al1' _ _)); have q4 : v.heap.size < v5.heap.size := Nat.lt_of_lt_of_le j1.out.lt hv5.size; have q5 : wr.heap.size ≤ v.heap.size := hv.size)
        | (refine wpList_store_row rfl 24 (.tmp 22) (.tmp 100) rfl v5.heap.size (cells4 (wd MS)) rfl rfl 24 _ q1.out infoS rfl (by simp [cells4, Value.oneCell']) ?_; obtain ⟨v7, hv7⟩ : ∃ x, v6.setRow v5.heap.size (cells4 (wd MS)) = x := ⟨_, rfl⟩; have r1 : Hid (Holds4 v7 v5.heap.size (wd MS)) := (by rw [← hv7]; exact setRow_heap _ _ _ _ _ _ q1.out); have r2 : Hid (Holds4 v7 v.heap.size (wd MS)) := (by rw [← hv7]; exact hold_row q2.out (by omega) _); have r3 : Hid (Below wr.heap.size wr v7) := (by rw [← hv7]; exact below_row q3.out (by omega) _); rw [hv7])
        | (go_at_call 7; refine (alive_any _).mono ?_; rintro e v8 ⟨rfl, hv8⟩; have r4 := bel2 r3.out hv8)
        | (go_at_call 13; refine (hkw _ r4).mono ?_; rintro e v9 ⟨rfl, hv9⟩; have r5 := bel2 r4 hv9)
        | (go_at_call 22; refine (hrk _ r5).mono ?_; rintro e v10 ⟨rfl, hv10⟩; have r6 := bel2 r5 hv10; have t1 := ((r2.out.carry hv8).carry hv9).carry hv10; have t2 := ((r1.out.carry hv8).carry hv9).carry hv10; obtain ⟨y0, y1, y2, y3, _⟩ := t1.facts; obtain ⟨x0, x1, x2, x3, _⟩ := t2.facts))
      go_ret
      exact ⟨rfl, bel2 hbw r6⟩

set_option maxRecDepth 100000 in
theorem lifted (os : Os) (started : os.Started) (H : Type) (enc : TypeId × Value → H) :
    ReturnsInHanded {} Try.checked os 5 .any (Rows.inferMissingSpec.pre6 enc Try.prog Try.f5 Rows.inferMissingRow.domain false) (Rows.inferMissingSpec.post enc Try.prog Try.f5 false true false false) := by
  refine returnsInHanded_of_change (C := Try.checked) own started (by kernel_rfl) Try.func5
    (ChangeSpec.witness6 (enc := enc) (C := Try.checked) false ⟨#[], #[.int .i64 0, .int .i64 0, .int .i64 0, .int .i64 0, .agg #[.int .u32 0, .int .u32 0, .int .u32 0, .int .u32 0], .slice none 0 0, .int .i64 0], []⟩ 8 (by kernel_rfl) (by kernel_rfl) (by kernel_rfl) (by kernel_rfl)) ?_
  intro W base args ds gs before hval0 hW hcnd _
  have hval : ∀ (j : Nat) t v, Try.f5.params[j]? = some t → args[j]? = some v → Value.okWide Try.prog W .any base t v := hval0
  have hW' := hW
  obtain ⟨p, q, hA0, hV, rfl, hfz, hnd⟩ := hW
  have hA : DataW.TrodAll enc Try.prog W 0 (fun _ => true) true Try.f5.params.toList args.toList ds p := hA0
  rw [Try.params5] at hA hval
  obtain ⟨v0, vs0, d0, ds0, p0, q0, hargs, rfl, rfl, h0, r0⟩ := trodAll_cons hA
  obtain ⟨v1, vs1, d1, ds1, p1, q1, rfl, rfl, rfl, h1, r1⟩ := trodAll_cons r0
  obtain ⟨v2, vs2, d2, ds2, p2, q2, rfl, rfl, rfl, h2, r2⟩ := trodAll_cons r1
  obtain ⟨v3, vs3, d3, ds3, p3, q3, rfl, rfl, rfl, h3, r3⟩ := trodAll_cons r2
  obtain ⟨v4, vs4, d4, ds4, p4, q4, rfl, rfl, rfl, h4, r4⟩ := trodAll_cons r3
  obtain ⟨v5, vs5, d5, ds5, p5, q5, rfl, rfl, rfl, h5, r5⟩ := trodAll_cons r4
  obtain ⟨v6, vs6, d6, ds6, p6, q6, rfl, rfl, rfl, h6, r6⟩ := trodAll_cons r5
  obtain ⟨rfl, rfl, rfl⟩ := trodAll_nil r6
  obtain rfl : args = #[v0, v1, v2, v3, v4, v5, v6] := by cases args; simp_all
  obtain ⟨rfl, rfl⟩ := trodVars_none hV
  obtain ⟨a0, rfl, rfl, rfl, w0⟩ := open_int Try.underlying3 (hval 0 3 v0 rfl rfl) h0
  obtain ⟨a1, rfl, rfl, rfl, w1⟩ := open_int Try.underlying3 (hval 1 3 v1 rfl rfl) h1
  obtain ⟨a2, rfl, rfl, rfl, w2⟩ := open_int Try.underlying3 (hval 2 3 v2 rfl rfl) h2
  obtain ⟨a3, rfl, rfl, rfl, w3⟩ := open_int Try.underlying3 (hval 3 3 v3 rfl rfl) h3
  obtain ⟨N4, hN4, rfl, rfl, rfl⟩ := open_set (hval 4 24 v4 rfl rfl) h4
  have k5 := h5
  have lt5 : ∀ x ∈ p5, x.block < W.heap.size := by obtain ⟨m, hm⟩ := k5; exact DataW.trod_lt m _ _ _ hm
  obtain ⟨ad5, cap5, l5, rfl, w5, hc5, hm5⟩ := open_reps (hval 5 25 v5 rfl rfl) h5
  obtain ⟨a6, rfl, rfl, rfl, w6⟩ := open_int Try.underlying3 (hval 6 3 v6 rfl rfl) h6
  clear hA0 hval0
  refine (walk W a0 w0 a1 w1 a2 w2 a3 w3 N4 hN4 ad5 cap5 l5 w5 hc5 hm5 a6 w6).mono fun e W' ⟨he, hg⟩ => ?_
  subst he
  exact ⟨_, rfl, _, _, _, [], _, [], hW', (trodAll_cons_mk (shut_bool Try.underlying4 _) trodAll_mk0), (trodAll_cons_mk (shut_int Try.underlying3 w0) (trodAll_cons_mk (shut_int Try.underlying3 w1) (trodAll_cons_mk (shut_int Try.underlying3 w2) (trodAll_cons_mk (shut_int Try.underlying3 w3) (trodAll_cons_mk (shut_set N4) (trodAll_cons_mk (Below.trod laidOut (by kernel_rfl) (of_decide_eq_true (by kernel_rfl)) k5 hg lt5) (trodAll_cons_mk (shut_int Try.underlying3 w6) trodAll_mk0))))))), rfl, hg.frame _, fun h => by cases h⟩

theorem over : Rows.inferMissingRow.holds Try.pinned (OpenSpec.ofChange Rows.inferMissingSpec) :=
  OpenClaim.holds_of_wide 5 Try.f5 rfl rfl rfl rfl rfl rfl rfl ⟨rfl, rfl, rfl, rfl, rfl⟩ rfl rfl rfl rfl rfl (by kernel_rfl) Try.func5 (by kernel_rfl)
    (of_decide_eq_true (by kernel_rfl)) (by unfold Func.isWrapper; first | (rw [if_pos (by decide +kernel)]; kernel_rfl) | (rw [if_neg (by decide +kernel)]; exact ⟨rfl, rfl⟩))
    (fun os started H enc _ => lifted os started H enc)

theorem proved : Rows.InferMissingSaid :=
  over
#print axioms proved
end Go.Proofs.Ytgehmidalfajgaa
