/- SlotCut: at every list of records and every number: the records are saved one behind the other, and the power fails behind so many writes: what is loaded then is the last one that was saved, or the one that was being saved; no condition. -/
import Derived.Test.YtnkdfpbgdimaoaaRows
import Derived.WalkKit
import Derived.ProofKit
import Derived.OpenShut
import Derived.Test.YtnkdfpbgdimaoaaLtl
namespace Go.Proofs.Ytnkdfpbgdimaoaa
open Go.ChangeShapes Go.WideShapes Go.ChangeAt Go.RowKit
set_option linter.unusedVariables false

theorem laidOut : laidOutB Try.prog = true := by kernel_rfl
theorem own : ownKnob Try.prog.godebug = none := by kernel_rfl
open Go.Shelf
theorem bounds_i64 {a : Int} (h : (Lit.int .i64 a).wf = true) : -9223372036854775808 ≤ a ∧ a ≤ 9223372036854775807 := by
  simp only [Lit.wf, Bool.and_eq_true, decide_eq_true_eq] at h
  have h1 : IntKind.i64.min = -9223372036854775808 := rfl
  have h2 : IntKind.i64.max = 9223372036854775807 := rfl
  omega
/-- A record in a block of its own. -/
def RecB (W : World) (g : Nat) (x : Rec) : Prop := W.heap[g]? = some (.cells #[.int .i64 x.li, .int .i64 x.ro, .int .i64 x.ta] 23 (0, 0))
theorem RecB.carry {W W' : World} {g : Nat} {x : Rec} (h : RecB W g x) (hb : Below W.heap.size W W') : RecB W' g x := (hb.block _ (lt_at h)).trans h
theorem Dk.row {W : World} {p g : Nat} {d : Dst} (h : Dk W p d) (hn : p ≠ g) (cs : Array Value) : Dk (W.setRow g cs) p d := ⟨(setRow_other _ _ _ _ hn).trans h.obj, h.len, h.byt⟩
/-- What is told once the power is back. -/
def tl (n : Nat) (r : Rec) : Option ((Rec × Int) × Nat) := if n = 0 then none else some ((r, (n : Int)), (n + 1) % 2)
/-- While records are saved: behind n of them, the last of r; c: the power has failed. -/
structure Ct (k : Nat) (d : Dst) (n : Nat) (r : Rec) (c : Bool) : Prop where
  nw : nw d.l = tl n r
  go : c = false → Sv d.l n r ∧ d.off = false ∧ d.fused = true ∧ d.fuse = (k : Int) - 2 * (n : Int) ∧ 2 * n ≤ k ∧ d.writes = 2 * (n : Int)
theorem Ct.fz {k : Nat} {d : Dst} {n : Nat} {r : Rec} (h : Ct k d n r false) (hk : (k : Int) ≤ 9223372036854775807) : Fz d := fun _ => by
  obtain ⟨_, _, _, h4, h5, _⟩ := h.go rfl
  rw [h4]
  omega
theorem Ct.start (k : Nat) : Ct k (dFuse d0 (k : Int)) 0 rec0 false := by
  have e : (dFuse d0 (k : Int)).fuse = (k : Int) := by show (if (0 : Int) ≤ (k : Int) then (k : Int) else 0) = _; rw [if_pos (by omega)]
  have e2 : (dFuse d0 (k : Int)).fused = true := by show decide ((0 : Int) ≤ (k : Int)) = true; exact decide_eq_true (by omega)
  exact ⟨(Sv.zero rec0).nw, fun _ => ⟨Sv.zero rec0, rfl, e2, by rw [e]; omega, by omega, rfl⟩⟩
theorem Ct.ok {k : Nat} {d : Dst} {n : Nat} {r x : Rec} (h : Ct k d n r false) (hm : May x) (hn : n ≤ 100) (hk : 2 * n + 2 ≤ k) : ∃ d2, dSv d x = (0, d2) ∧ Ct k d2 (n + 1) x false := by
  obtain ⟨h1, h2, h3, h4, h5, h6⟩ := h.go rfl
  have hs := h1.step hm (show n ≤ 1000 by omega)
  refine ⟨_, (h1.save h2 hm (by omega)).trans (dW2_ok h2 (by omega) (slB_len _ _) (fun _ => by omega)), hs.nw, fun _ => ⟨hs, rfl, h3, ?_, by omega, ?_⟩⟩
  · show (if d.fused = true then d.fuse - 2 else d.fuse) = _
    rw [if_pos h3]
    omega
  · show d.writes + 2 = _
    omega
theorem Ct.cut {k : Nat} {d : Dst} {n : Nat} {r x : Rec} (h : Ct k d n r false) (hm : May x) (hn : n ≤ 100) (hk : k < 2 * n + 2) : ∃ d2, dSv d x = (100, d2) ∧ Ct k d2 n r true := by
  obtain ⟨h1, h2, h3, h4, h5, h6⟩ := h.go rfl
  by_cases e : k = 2 * n
  · exact ⟨_, (h1.save h2 hm (by omega)).trans (dW2_cut0 h2 (by omega) (slB_len _ _) h3 (by omega)), h.nw, fun q => by cases q⟩
  · exact ⟨_, (h1.save h2 hm (by omega)).trans (dW2_cut1 h2 (by omega) (slB_len _ _) h3 (by omega)), (h1.torn (by omega)).trans h.nw, fun q => by cases q⟩
theorem Ct.told {k : Nat} {d : Dst} {n : Nat} {r : Rec} {c : Bool} (h : Ct k d n r c) : nwT { d with off := false } = ntO (tl n r) := by
  rw [nwT, if_neg (by show ¬ (false = true); decide)]
  show ntO (Go.Proofs.Ytnkdfpbgdimaoaa.nw d.l) = _
  rw [h.nw]
set_option maxHeartbeats 16000000 in
set_option maxRecDepth 100000 in
theorem walk (w : World) (ad0 : Option Addr) (cap0 : Nat) (l0 : List Rec) (w0 : RdR w ad0 l0) (hc0 : ad0 = none → cap0 = 0) (a1 : Int) (w1 : (Lit.int .i64 a1).wf = true) :
    Calls Try.prog 4 #[.slice ad0 l0.length cap0, .int .i64 a1] w fun e w' => e = .returned (.bool true) ∧ Below w.heap.size w w' := by
  have hal := alive_any
  by_cases h40 : 40 < l0.length
  · have h40i : (40 : Int) < (l0.length : Int) := by omega
    go_enter Try.func4, Try.ntmps4
    go_wp2_with (go_at_call 8; (with_reducible refine (hal _).mono ?_); rintro e uv ⟨rfl, hbv⟩)
    go_ret
    exact ⟨rfl, hbv⟩
  have h40i : ¬ (40 : Int) < (l0.length : Int) := by omega
  have hl40 : l0.length ≤ 40 := by omega
  by_cases hk0 : a1 < 0
  · go_enter Try.func4, Try.ntmps4
    go_wp2_with (go_at_call 8; (with_reducible refine (hal _).mono ?_); rintro e uv ⟨rfl, hbv⟩)
    go_ret
    exact ⟨rfl, hbv⟩
  have hkm : a1 ≤ 9223372036854775807 := (bounds_i64 w1).2
  obtain ⟨k, rfl⟩ := Int.eq_ofNat_of_zero_le (show 0 ≤ a1 by omega)
  clear w1
  have hne := dnew_any w
  go_enter Try.func4, Try.ntmps4
  go_wp2_with (first | (go_at_call 11; (with_reducible refine hne.mono ?_); rintro e u0 ⟨rfl, hD0, hlt0, hB0⟩; have hfu := fuse_any hD0 (k : Int)) | (go_at_call 12; (with_reducible refine hfu.mono ?_); rintro e u1 ⟨rfl, hD1, ht1⟩; have hB1 : Below w.heap.size w u1 := hB0.trans (ht1.below (Nat.le_refl _) hB0.size)))
  go_loopw [8, 9, 10] (fun so ct i wz => ∃ (m n : Nat) (d : Dst) (r la tr : Rec) (c : Bool), so = .bool (decide (1 ≤ n)) ∧ ct = .bool c ∧ i = .int .i64 (m : Int) ∧ m ≤ l0.length ∧ n ≤ m ∧ Dk wz w.heap.size d ∧ Ct k d n r c ∧ RecB wz u1.heap.size la ∧ RecB wz (u1.heap.size + 1) tr ∧ (1 ≤ n → la = r) ∧ Below w.heap.size w wz) (fun _ _ i _ => l0.length - vnat i)
  case atStart => exact ⟨0, 0, _, rec0, rec0, rec0, false, rfl, rfl, rfl, Nat.zero_le _, Nat.le_refl _, hD1.carry (bel2 (al1' _ _) (al1' _ _)), Ct.start k, old_at (new_at rfl), new_at (by simp), fun q => absurd q (by omega), hB1.trans ((bel2 (al1' _ _) (al1' _ _)).mono hB1.size)⟩
  case round =>
    obtain ⟨m, n, d, r, la, tr, c, rfl, rfl, rfl, hm, hnm, hD, hC, hla, htr, hlr, hB⟩ := hrel
    by_cases hml : m < l0.length ∧ c = false
    · obtain ⟨hml, rfl⟩ := hml
      have hmi : (m : Int) < (l0.length : Int) := by omega
      obtain ⟨b, off, rfl, hbl, hat⟩ := w0 (fun e => by subst e; simp at hml)
      obtain ⟨x, hx⟩ : ∃ x, l0[m]? = some x := ⟨_, List.getElem?_eq_getElem hml⟩
      have HX : Hid (l0[m]? = some x) := hx
      clear hx
      have hfz := hC.fz hkm
      have hwr : d.writes = 2 * (n : Int) := (hC.go rfl).2.2.2.2.2
      have hsv := save_any hD x hfz (by omega) (by omega)
      unfold rV at hsv
      obtain ⟨c0, c1, c2⟩ := (hat.carry hB hbl) m x HX.out
      have HC : Hid (Ct k d n r false) := hC
      have HLR : Hid (1 ≤ n → la = r) := hlr
      clear hC hlr
      obtain ⟨so, hso⟩ : ∃ so, decide (1 ≤ n) = so := ⟨_, rfl⟩
      have HSO : Hid (decide (1 ≤ n) = so) := hso
      rw [hso]
      clear hso
      by_cases hmay : May x
      case neg =>
        rw [dSv_no hmay] at hsv
        go_wp2_with (go_at_call 13; (with_reducible refine hsv.mono ?_); rintro e u2 ⟨rfl, hD2, ht2⟩; clear hsv; have hB2 : Below w.heap.size w u2 := hB.trans (ht2.below (Nat.le_refl _) hB.size); have hla2 : RecB u2 u1.heap.size la := (ht2.block _ (lt_at hla) (by have := hD1.lt; omega)).trans hla; have htr2 : RecB u2 (u1.heap.size + 1) tr := (ht2.block _ (lt_at htr) (by have := hD1.lt; omega)).trans htr; obtain ⟨k0, k1, k2⟩ := (hat.carry hB2 hbl) m x HX.out)
        go_roundw
        case rel => exact ⟨m + 1, n, d, r, la, tr, false, by rw [HSO.out], rfl, by simp, by omega, by omega, hD2, HC.out, hla2, htr2, HLR.out, hB2⟩
        case measure => simp [vnat]; omega
      by_cases hk2 : 2 * n + 2 ≤ k
      · obtain ⟨d2, hs2, hC2⟩ := HC.out.ok hmay (by omega) hk2
        rw [hs2] at hsv
        have HC2 : Hid (Ct k d2 (n + 1) x false) := hC2
        clear hC2 hs2
        go_wp2_with (first | (go_at_call 13; (with_reducible refine hsv.mono ?_); rintro e u2 ⟨rfl, hD2, ht2⟩; clear hsv; have hB2 : Below w.heap.size w u2 := hB.trans (ht2.below (Nat.le_refl _) hB.size); have hla2 : RecB u2 u1.heap.size la := (ht2.block _ (lt_at hla) (by have := hD1.lt; omega)).trans hla; have htr2 : RecB u2 (u1.heap.size + 1) tr := (ht2.block _ (lt_at htr) (by have := hD1.lt; omega)).trans htr; obtain ⟨k0, k1, k2⟩ := (hat.carry hB2 hbl) m x HX.out) | (refine wpList_store_row rfl 23 (.tmp 6) (.tmp 49) rfl (u1.heap.size) #[.int .i64 x.li, .int .i64 x.ro, .int .i64 x.ta] rfl rfl 23 _ hla2 infoR rfl (by simp [Value.oneCell']) ?_; obtain ⟨u3, hu3⟩ : ∃ u3, u2.setRow (u1.heap.size) #[.int .i64 x.li, .int .i64 x.ro, .int .i64 x.ta] = u3 := ⟨_, rfl⟩; have hB3 : Below w.heap.size w u3 := (by rw [← hu3]; exact below_setRow hB2 (by have := hD1.lt; omega) _); have hD3 : Dk u3 w.heap.size d2 := (by rw [← hu3]; exact hD2.row (by have := hD1.lt; omega) _); have hnew : RecB u3 (u1.heap.size) x := (by rw [← hu3]; exact setRow_heap _ _ _ _ _ _ hla2); have hold : RecB u3 (u1.heap.size + 1) tr := (by rw [← hu3]; exact (setRow_other _ _ _ _ (by omega)).trans htr2); rw [hu3]))
        go_roundw
        case rel => exact ⟨m + 1, n + 1, d2, x, x, tr, false, by rw [decide_eq_true (by omega)], rfl, by simp, by omega, by omega, hD3, HC2.out, hnew, hold, fun _ => rfl, hB3⟩
        case measure => simp [vnat]; omega
      · obtain ⟨d2, hs2, hC2⟩ := HC.out.cut hmay (by omega) (by omega)
        rw [hs2] at hsv
        have HC2 : Hid (Ct k d2 n r true) := hC2
        clear hC2 hs2
        go_wp2_with (first | (go_at_call 13; (with_reducible refine hsv.mono ?_); rintro e u2 ⟨rfl, hD2, ht2⟩; clear hsv; have hB2 : Below w.heap.size w u2 := hB.trans (ht2.below (Nat.le_refl _) hB.size); have hla2 : RecB u2 u1.heap.size la := (ht2.block _ (lt_at hla) (by have := hD1.lt; omega)).trans hla; have htr2 : RecB u2 (u1.heap.size + 1) tr := (ht2.block _ (lt_at htr) (by have := hD1.lt; omega)).trans htr; obtain ⟨k0, k1, k2⟩ := (hat.carry hB2 hbl) m x HX.out) | (refine wpList_store_row rfl 23 (.tmp 7) (.tmp 55) rfl (u1.heap.size + 1) #[.int .i64 x.li, .int .i64 x.ro, .int .i64 x.ta] rfl rfl 23 _ htr2 infoR rfl (by simp [Value.oneCell']) ?_; obtain ⟨u3, hu3⟩ : ∃ u3, u2.setRow (u1.heap.size + 1) #[.int .i64 x.li, .int .i64 x.ro, .int .i64 x.ta] = u3 := ⟨_, rfl⟩; have hB3 : Below w.heap.size w u3 := (by rw [← hu3]; exact below_setRow hB2 (by have := hD1.lt; omega) _); have hD3 : Dk u3 w.heap.size d2 := (by rw [← hu3]; exact hD2.row (by have := hD1.lt; omega) _); have hnew : RecB u3 (u1.heap.size + 1) x := (by rw [← hu3]; exact setRow_heap _ _ _ _ _ _ htr2); have hold : RecB u3 u1.heap.size la := (by rw [← hu3]; exact (setRow_other _ _ _ _ (by omega)).trans hla2); rw [hu3]))
        go_roundw
        case rel => exact ⟨m + 1, n, d2, r, la, x, true, by rw [HSO.out], rfl, by simp, by omega, by omega, hD3, HC2.out, hold, hnew, HLR.out, hB3⟩
        case measure => simp [vnat]; omega
    · have hend : (c = false ∧ ¬ (m : Int) < (l0.length : Int)) ∨ (c = true ∧ (m : Int) < (l0.length : Int)) ∨ (c = true ∧ ¬ (m : Int) < (l0.length : Int)) := by
        cases c with
        | false => exact .inl ⟨rfl, fun q => hml ⟨by omega, rfl⟩⟩
        | true =>
          by_cases q : (m : Int) < (l0.length : Int)
          · exact .inr (.inl ⟨rfl, q⟩)
          · exact .inr (.inr ⟨rfl, q⟩)
      have hrs := restore_any hD
      have htl := hC.told
      rcases Nat.eq_zero_or_pos n with hn0 | hn1
      · subst hn0
        rw [show tl 0 r = none from rfl] at htl
        clear hC hlr hml
        rcases hend with ⟨rfl, he⟩ | ⟨rfl, he⟩ | ⟨rfl, he⟩
        all_goals
          go_wp2_with (first | (go_at_call 14; (with_reducible refine hrs.mono ?_); rintro e u4 ⟨rfl, hD4, ht4⟩; have hB4 : Below w.heap.size w u4 := hB.trans (ht4.below (Nat.le_refl _) hB.size); have hla4 : RecB u4 u1.heap.size la := (ht4.block _ (lt_at hla) (by have := hD1.lt; omega)).trans hla; have hld := load_any hD4; rw [htl] at hld; unfold ldV rV ntO at hld; dsimp only at hld) | (go_at_call 15; (with_reducible refine hld.mono ?_); rintro e u5 ⟨rfl, hb5⟩; have hB5 := hB4.trans (hb5.mono hB4.size)) | (go_at_call 8; (with_reducible refine (hal _).mono ?_); rintro e uv ⟨rfl, hbv⟩; have HB : Hid (Below w.heap.size w uv) := hB5.trans ((bel2 (al1' _ _) hbv).mono hB5.size)))
          go_ret
          exact ⟨rfl, HB.out⟩
      · obtain rfl : la = r := hlr hn1
        rw [show tl n la = some ((la, (n : Int)), (n + 1) % 2) from if_neg (by omega)] at htl
        rw [decide_eq_true (show 1 ≤ n from hn1)]
        clear hC hlr hml
        rcases hend with ⟨rfl, he⟩ | ⟨rfl, he⟩ | ⟨rfl, he⟩
        all_goals
          go_wp2_with (first | (go_at_call 14; (with_reducible refine hrs.mono ?_); rintro e u4 ⟨rfl, hD4, ht4⟩; have hB4 : Below w.heap.size w u4 := hB.trans (ht4.below (Nat.le_refl _) hB.size); have hla4 : RecB u4 u1.heap.size la := (ht4.block _ (lt_at hla) (by have := hD1.lt; omega)).trans hla; have hld := load_any hD4; rw [htl] at hld; unfold ldV rV ntO at hld; dsimp only at hld) | (go_at_call 15; (with_reducible refine hld.mono ?_); rintro e u5 ⟨rfl, hb5⟩; have hB5 := hB4.trans (hb5.mono hB4.size); have hla5 := hla4.carry hb5; obtain ⟨u6, hu6⟩ : ∃ u6, u5.alloc (.cells #[.int .i64 la.li, .int .i64 la.ro, .int .i64 la.ta] 23) = u6 := ⟨_, rfl⟩; have hb6 : Below u5.heap.size u5 u6 := (by rw [← hu6]; exact al1' _ _); have hla6 := hla5.carry hb6; have hn6 : RecB u6 u5.heap.size la := (by rw [← hu6]; exact new_at rfl); have hB6 := hB5.trans (hb6.mono hB5.size)) | (go_at_call 8; (with_reducible refine (hal _).mono ?_); rintro e uv ⟨rfl, hbv⟩; have hla7 := hla6.carry hbv; have hn7 := hn6.carry hbv; have q0 := cell_at hla7 0; have q1 := cell_at hla7 1; have q2 := cell_at hla7 2; have p0 := cell_at hn7 0; have p1 := cell_at hn7 1; have p2 := cell_at hn7 2; have HB : Hid (Below w.heap.size w uv) := hB6.trans (hbv.mono hB6.size)))
          go_ret
          exact ⟨rfl, HB.out⟩

set_option maxRecDepth 100000 in
theorem lifted (os : Os) (started : os.Started) (H : Type) (enc : TypeId × Value → H) :
    ReturnsInHanded {} Try.checked os 4 .any (Rows.slotCutSpec.pre6 enc Try.prog Try.f4 Rows.slotCutRow.domain false) (Rows.slotCutSpec.post enc Try.prog Try.f4 false true false false) := by
  refine returnsInHanded_of_change (C := Try.checked) own started (by kernel_rfl) Try.func4
    (ChangeSpec.witness6 (enc := enc) (C := Try.checked) false ⟨#[], #[.slice none 0 0, .int .i64 0], []⟩ 8 (by kernel_rfl) (by kernel_rfl) (by kernel_rfl) (by kernel_rfl)) ?_
  intro W base args ds gs before hval0 hW hcnd _
  have hval : ∀ (j : Nat) t v, Try.f4.params[j]? = some t → args[j]? = some v → Value.okWide Try.prog W .any base t v := hval0
  have hW' := hW
  obtain ⟨p, q, hA0, hV, rfl, hfz, hnd⟩ := hW
  have hA : DataW.TrodAll enc Try.prog W 0 (fun _ => true) true Try.f4.params.toList args.toList ds p := hA0
  rw [Try.params4] at hA hval
  obtain ⟨v0, vs0, d0, ds0, p0, q0, hargs, rfl, rfl, h0, r0⟩ := trodAll_cons hA
  obtain ⟨v1, vs1, d1, ds1, p1, q1, rfl, rfl, rfl, h1, r1⟩ := trodAll_cons r0
  obtain ⟨rfl, rfl, rfl⟩ := trodAll_nil r1
  obtain rfl : args = #[v0, v1] := by cases args; simp_all
  obtain ⟨rfl, rfl⟩ := trodVars_none hV
  have k0 := h0
  have lt0 : ∀ x ∈ p0, x.block < W.heap.size := by obtain ⟨m, hm⟩ := k0; exact DataW.trod_lt m _ _ _ hm
  obtain ⟨ad0, cap0, l0, rfl, w0, hc0, hd0⟩ := open_recs (hval 0 33 v0 rfl rfl) h0
  obtain ⟨a1, rfl, rfl, rfl, w1⟩ := open_int Try.underlying3 (hval 1 3 v1 rfl rfl) h1
  clear hA0 hval0
  refine (walk W ad0 cap0 l0 w0 hc0 a1 w1).mono fun e W' ⟨he, hg⟩ => ?_
  subst he
  exact ⟨_, rfl, _, _, _, [], _, [], hW', (trodAll_cons_mk (shut_bool Try.underlying4 _) trodAll_mk0), (trodAll_cons_mk (Below.trod laidOut (by kernel_rfl) (of_decide_eq_true (by kernel_rfl)) k0 hg lt0) (trodAll_cons_mk (shut_int Try.underlying3 w1) trodAll_mk0)), rfl, hg.frame _, fun h => by cases h⟩

theorem over : Rows.slotCutRow.holds Try.pinned (OpenSpec.ofChange Rows.slotCutSpec) :=
  OpenClaim.holds_of_wide 4 Try.f4 rfl rfl rfl rfl rfl rfl rfl ⟨rfl, rfl, rfl, rfl, rfl⟩ rfl rfl rfl rfl rfl (by kernel_rfl) Try.func4 (by kernel_rfl)
    (of_decide_eq_true (by kernel_rfl)) (by unfold Func.isWrapper; first | (rw [if_pos (by decide +kernel)]; kernel_rfl) | (rw [if_neg (by decide +kernel)]; exact ⟨rfl, rfl⟩))
    (fun os started H enc _ => lifted os started H enc)

theorem proved : Rows.SlotCutSaid :=
  over
#print axioms proved
end Go.Proofs.Ytnkdfpbgdimaoaa
