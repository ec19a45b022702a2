/- The document's Ids, Count, Subset, Order, Least, Nth, Has, With, Without: what they answer, at every input. -/
import Derived.Test.YtnkpohkodkjkfaaGreatDoorJpJ45
import Derived.Test.YtnkpohkodkjkfaaGreatDoorJpJ26
import Derived.Test.YtnkpohkodkjkfaaGreatDoorJpJ27
import Derived.Test.YtnkpohkodkjkfaaGreatDoorJpJ44
import Derived.Test.YtnkpohkodkjkfaaGreatDoorJpJ32
import Derived.Test.YtnkpohkodkjkfaaGreatDoorJpJ22
import Derived.Test.YtnkpohkodkjkfaaGreatDoorJpJ14
import Derived.Test.YtnkpohkodkjkfaaGreatDoorJpJ36
import Derived.Test.YtnkpohkodkjkfaaGreatDoorJpJ40
import Derived.Test.YtnkpohkodkjkfaaGreatDoorJpJ41
import Derived.Laws.CopyOwn
import Derived.Deep.OwnRows
set_option maxHeartbeats 40000000
set_option maxRecDepth 100000
set_option linter.unusedVariables false
namespace Go.Proofs.YtnkpohkodkjkfaaGreatDoor
open Go.RowKit Go.Shelf Go.Lib

set_option maxHeartbeats 1000000 in
set_option maxRecDepth 100000 in
theorem rIds_any (N : Nat) (w : World) : Calls Tryz.prog 68 #[sv N] w fun e w' => ∃ v, e = .returned v ∧ w'.ownsRow w.heap.size 3 1 v (idsTo N 100).length (intsV (idsTo N 100)) ∧ Below w.heap.size w w' := by
  obtain ⟨ic, hic, hz0, hz1, hz2⟩ := info_parts infoInt
  have hz := zeroB
  have hr := row_any N
  have hlen : ∀ k, (idsTo N k).length ≤ k := fun k => by rw [idsTo_length]; exact popAux_le k N
  simp only [sv] at hr ⊢
  go_enter Tryz.func68, Tryz.ntmps68
  go_wp2_with (first | (go_at_call 92; refine (hr _).mono ?_; rintro e w1 ⟨rfl, hb1⟩) | (refine wpList_store_row rfl 157 _ _ rfl w1.heap.size (bC N.testBit) rfl rfl _ _ (get_newQ rfl) (by rw [bC_size]; exact sizeB) (by rw [bC_size, bC_size]) (bC_one _) ?_; simp only [World.setRow_alloc_new]))
  have hs1 := hb1.size
  simp only [World.size_alloc] at hs1
  have b1 : Below w.heap.size w w1 := ((Below.refl _ w).alloc (by simp) _).trans (hb1.mono (by simp))
  clear hz hr
  go_loopw [5, 4] (fun c v wz => ∃ k : Nat, c = .int .i64 k ∧ k ≤ 100 ∧ HoldsB wz w1.heap.size N.testBit ∧ wz.ownsRow (w1.heap.size + 1) 3 1 v (idsTo N k).length (intsV (idsTo N k)) ∧ Below w.heap.size w wz) (fun c _ _ => 100 - vnat c)
  case atStart => exact ⟨0, rfl, by omega, get_newQ rfl, World.ownsRow_nil _ _ _ _, b1.alloc (by omega) _⟩
  case round =>
    obtain ⟨k, rfl, hk, h1, hown, hb⟩ := hrel
    by_cases hk4 : k < 100
    · have hki : (k : Int) < 100 := by omega
      have hc1 := h1.cell k hk4
      have hlt := h1.lt
      have hle := hlen k
      have hsucc := idsTo_succ N k
      cases hp : N.testBit k
      · rw [hp] at hc1 hsucc
        go_wp2
        go_roundw
        case rel => exact ⟨k + 1, by simp, by omega, h1, by rw [hsucc]; simpa using hown, hb⟩
        case measure => simp only [vnat]; omega
      · rw [hp] at hc1 hsucc
        have hsu : Hid (idsTo N (k + 1) = idsTo N k ++ [k]) := hsucc
        clear hsucc
        go_wp2_with (at_builtin; refine wpList_append_own _ rfl _ _ 58 rfl (w1.heap.size + 1) 3 ic _ 1 8 Tryz.underlying58 hic hz0 hz1 hz2 rfl (by decide) _ _ _ rfl (hown.alloc _) ⟨wr.heap.size, 0, none⟩ 1 1 [.int .i64 (k : Nat)] rfl rfl (one_new _ _ _) (by simp [Value.oneCell']) (by unfold maxLen; omega) (by omega) (by simp; omega) ?_; intro v' w2 hown' hgrow _)
        have hne := ownsRow_blockQ hown
        go_roundw
        case rel =>
          refine ⟨k + 1, by simp, by omega, ?_, ?_, ?_⟩
          · exact (hgrow.block _ (by simp; omega) (fun e => by have := (hne _ e.symm).1; omega)).trans (get_oldQ h1)
          · rw [hsu.out]
            have e1 : (idsTo N k ++ [k]).length = (idsTo N k).length + 1 := by simp
            have e2 : intsV (idsTo N k ++ [k]) = intsV (idsTo N k) ++ [.int .i64 (k : Nat)] := by simp [intsV]
            rw [e1, e2]
            exact hown'
          · exact (hb.alloc (by omega) _).grown hgrow (by simp; omega) (fun g hg => by have := (hne g hg).1; omega)
        case measure => simp only [vnat]; omega
    · have hk5 : k = 100 := by omega
      subst hk5
      go_wp2
      go_ret
      exact ⟨_, rfl, ownsRow_baseQ hown (by omega), hb⟩

theorem idxvB (p : Nat → Bool) (k : Nat) (hk : k < 100) (w : World) : (Instr.index 157 (.agg (bC p)) (.int .i64 (k : Int))).run Tryz.prog w = .ok (.bool (p k)) w := by
  have h2 : 0 ≤ (k : Int) := by omega
  have he : Tryz.prog.plainKey 4 = true := by kernel_rfl
  have hi : (Tryz.prog.info? 4).isSome = true := by kernel_rfl
  obtain ⟨i, hi⟩ := Option.isSome_iff_exists.1 hi
  have hc : Tryz.prog.cellsOf 4 = 1 := by kernel_rfl
  have p1 := run_part_plain (P := Tryz.prog) w he (off := k * 1) (by rw [Nat.mul_one]; exact bC_get p k hk)
  simp only [Instr.index, asIntOf, Sem.run_bind, Sem.run_pure, Result.andThen_ok, run_underlying Tryz.underlying157]
  have h3 : (0 : Int) ≤ (k : Int) ∧ (k : Int) < ((100 : Nat) : Int) := ⟨h2, by omega⟩
  rw [if_pos h3]
  simp only [Sem.run_bind, run_sizeOf w hi, Result.andThen_ok, hc, Int.toNat_natCast]
  exact p1
set_option maxHeartbeats 1000000 in
set_option maxRecDepth 100000 in
theorem rHas_any (N : Nat) (id : Int) (w : World) : Calls Tryz.prog 65 #[sv N, .int .i64 id] w fun e w' => e = .returned (.bool (hasB N id)) ∧ Below w.heap.size w w' := by
  have hr := row_any N
  simp only [sv] at hr ⊢
  by_cases h : 0 ≤ id ∧ id < 100
  · obtain ⟨i, rfl⟩ := Int.eq_ofNat_of_zero_le h.1
    have hi : i < 100 := by omega
    have t1 : (i : Int) ≥ 0 := by omega
    have t3 : (i : Int) < 100 := by omega
    have hix := idxvB N.testBit i hi
    have hV : hasB N (i : Int) = N.testBit i := by simp [hasB, h]
    rw [hV]
    go_enter Tryz.func65, Tryz.ntmps65
    go_wp2_with (go_at_call 92; refine (hr _).mono ?_; rintro e w1 ⟨rfl, hb1⟩)
    go_ret
    exact ⟨rfl, bcarry (alloc_below w _) (Nat.le_refl _) hb1⟩
  · have hV : hasB N id = false := by simp [hasB, h]
    rw [hV]
    by_cases t1 : id ≥ 0
    · have t2 : ¬ id < 100 := by omega
      go_enter Tryz.func65, Tryz.ntmps65
      go_wp2
      go_ret
      exact ⟨rfl, alloc_below w _⟩
    · go_enter Tryz.func65, Tryz.ntmps65
      go_wp2
      go_ret
      exact ⟨rfl, alloc_below w _⟩

theorem load_nums {W : World} {B : Nat} {ad : Option Addr} {n cap : Nat} (h : W.heap[B]? = some (.cells #[.slice ad n cap] 60 (0, 0))) : (Instr.loadAt 58 (.pointer (some ⟨B, 0, none⟩))).run Tryz.prog W = .ok (.slice ad n cap) W := by
  have c0 := cell_at h 0
  go_simp
theorem field_rosR (W : World) (B : Nat) : (Instr.fieldAt 60 (.pointer (some ⟨B, 0, none⟩)) 0).run Tryz.prog W = .ok (.pointer (some ⟨B, 0, none⟩)) W := by
  go_simp
theorem ix_nums (W : World) (g n cap k : Nat) (hk : k < n) : (Instr.indexAt 58 (.slice (some ⟨g, 0, none⟩) n cap) (.int .i64 (k : Int))).run Tryz.prog W = .ok (.pointer (some ⟨g, k, none⟩)) W := by
  have h0 : (0 : Int) ≤ (k : Int) := by omega
  have h1 : (k : Int) < (n : Int) := by omega
  go_simp
theorem load_num {W : World} {g k : Nat} {x : Int} (h : W.cell? ⟨g, k, none⟩ = some (.int .i64 x)) : (Instr.loadAt 3 (.pointer (some ⟨g, k, none⟩))).run Tryz.prog W = .ok (.int .i64 x) W := by
  go_simp
/-- What lies there as a set is told. -/
structure JO (w : World) (M : Nat) (ad : Option Addr) (cap : Nat) (vi : Value) (l ids : List Int) (C : Nat) (W : World) : Prop where
  a : W.heap[w.heap.size]? = some (.cells #[.slice ad l.length cap] 60 (0, 0))
  r : RosR M W (.agg #[.slice ad l.length cap]) l
  i : RdI C W vi ids
  below : Below w.heap.size w W
theorem JO.keep {w : World} {M : Nat} {ad : Option Addr} {cap : Nat} {vi : Value} {l ids : List Int} {C : Nat} {W W' : World} (hM : M ≤ w.heap.size) (hC : w.heap.size < C) (h : JO w M ad cap vi l ids C W) (hb : Below C W W') : JO w M ad cap vi l ids C W' :=
  ⟨(hb.block _ hC).trans h.a, h.r.below (hb.mono (by omega)), h.i.below hb, h.below.trans (hb.mono (by omega))⟩
structure JWp (w : World) (M : Nat) (ad : Option Addr) (cap : Nat) (vi : Value) (l ids : List Int) (C : Nat) (v : Value) (L E : List UInt8) (g : Value) (d : Bool) (W : World) : Prop where
  o : JO w M ad cap vi l ids C W
  n : d = false → W.ownsRow C 5 1 v L.length (byteCells L) ∧ C ≤ W.heap.size
  y : d = true → W.ownsRow C 5 1 g (L ++ E).length (byteCells (L ++ E)) ∧ C ≤ W.heap.size
theorem ids_same {N : Nat} (h : N < S100) : idsTo N 100 = idsTo N 128 := by
  have e : S100 = 2 ^ 100 := by decide
  rw [e] at h
  exact (idsTo_gap N 100 28 (fun i h1 _ => Nat.testBit_lt_two_pow (Nat.lt_of_lt_of_le h (Nat.pow_le_pow_right (by decide) h1)))).symm
theorem sgs_take (l : List Int) (ids : List Nat) (k : Nat) (hk : k < ids.length) : sgs l (ids.take (k + 1)) = sgs l (ids.take k) ++ [l.getD ids[k] 0] := by
  rw [List.take_add_one, List.getElem?_eq_getElem hk, sgs, List.map_append]
  rfl
def toI (ids : List Nat) : List Int := ids.map (fun i : Nat => (i : Int))
theorem toI_length (ids : List Nat) : (toI ids).length = ids.length := by simp [toI]
theorem intsV_nums (ids : List Nat) : intsV ids = numsV (toI ids) := by simp [intsV, numsV, toI]

set_option maxHeartbeats 4000000 in
set_option maxRecDepth 100000 in
theorem rPrint_any {M : Nat} {v : Value} {l : List Int} (w : World) (h : RosR M w v l) (hM : M ≤ w.heap.size) (N : Nat) (hN : N < S128) :
    Calls Tryz.prog 41 #[v, sv N] w fun e w' => e = .returned (.tuple #[.string (prR l N).1, .int .i64 (prR l N).2]) ∧ Below w.heap.size w w' := by
  obtain ⟨ad, cap, rfl⟩ := h.form
  have hsg := h.1
  have hls := hsg.short
  have hmx : Tryz.prog.follows .mixedOrders = true := by kernel_rfl
  have hwi := rWithin_any N hN l.length
  have hid := rIds_any N
  by_cases hw1 : wthB N (l.length : Nat) = true
  · rw [hw1] at hwi
    rw [ids_same (wth_lt100 hw1)] at hid
    have hids : ∀ x ∈ idsTo N 128, x < l.length := fun x hx => (wth_id hw1 (mem_idsTo.1 hx).2).1
    have hil : (idsTo N 128).length ≤ 128 := Nat.le_trans (List.length_filter_le _ _) (by simp)
    by_cases hz : N = 0
    · have HP : Hid (prR l N = (dash, 0)) := by show prR l N = _; rw [prR, if_pos hw1, if_pos hz]
      have e0 : idsTo N 128 = [] := by rw [hz]; rfl
      rw [e0] at hid
      clear hz hw1 e0 hids hil
      simp only [sv] at hwi hid ⊢
      go_enter Tryz.func41, Tryz.ntmps41
      go_wp2_with (first | (go_at_call 62; refine (hwi _).mono ?_; rintro e u1 ⟨rfl, hb1⟩; have q1 : Holds4 u1 (w.heap.size + 1) (wd N) := (hb1.block _ (by simp)).trans (get_newQ (by simp)); have q1l := q1.lt; obtain ⟨y0, y1, y2, y3, _⟩ := q1.facts; clear q1) | (go_at_call 68; refine (hid _).mono ?_; rintro e u2 ⟨vi, rfl, hown, hb2⟩; obtain ⟨ai, ci, rfl, _⟩ := row_form hown))
      go_ret2
      rw [HP.out]
      exact ⟨rfl, bcarry (bcarry (((Below.refl _ w).alloc (by simp) _).alloc (by simp) _) (Nat.le_refl _) hb1) (Nat.le_refl _) hb2⟩
    · have HP : Hid (prR l N = (txt (sgs l (idsTo N 128)), 0)) := by show prR l N = _; rw [prR, if_pos hw1, if_neg hz]
      have hne : 0 < (idsTo N 128).length := by
        refine Nat.pos_of_ne_zero (fun e => hz ?_)
        apply Nat.eq_of_testBit_eq
        intro j
        rw [Nat.zero_testBit]
        cases hj : N.testBit j with
        | false => rfl
        | true =>
          have hm : j ∈ idsTo N 128 := mem_idsTo.2 ⟨by have := (wth_id hw1 hj).2; omega, hj⟩
          rw [List.length_eq_zero_iff.1 e] at hm
          cases hm
      clear hz hw1
      generalize idsTo N 128 = ids at *
      have hni : ¬ (ids.length : Int) = 0 := by omega
      have hnz : ids.length ≠ 0 := by omega
      simp only [sv] at hwi hid ⊢
      go_enter Tryz.func41, Tryz.ntmps41
      go_wp2_with (first | (go_at_call 62; refine (hwi _).mono ?_; rintro e u1 ⟨rfl, hb1⟩; have q1 : Holds4 u1 (w.heap.size + 1) (wd N) := (hb1.block _ (by simp)).trans (get_newQ (by simp)); have q1l := q1.lt; obtain ⟨y0, y1, y2, y3, _⟩ := q1.facts; clear q1) | (go_at_call 68; refine (hid _).mono ?_; rintro e u2 ⟨vi, rfl, hown, hb2⟩; obtain ⟨ai, ci, rfl, _⟩ := row_form hown))
      have hb02 : Below w.heap.size w u2 := bcarry (bcarry (((Below.refl _ w).alloc (by simp) _).alloc (by simp) _) (Nat.le_refl _) hb1) (Nat.le_refl _) hb2
      have hz2 := hb2.size
      have hlt2 : w.heap.size + 1 < u2.heap.size := by omega
      have j0 : JO w M ad cap (.slice ai ids.length ci) l (toI ids) u2.heap.size u2 := by
        refine ⟨(hb2.block _ (by omega)).trans ((hb1.block _ (by simp; omega)).trans (old_at (new_at rfl))), h.below (hb02.mono hM), ?_, hb02⟩
        exact RdI.of (l := toI ids) (by rw [← intsV_nums, toI_length]; exact hown)
      rw [intsV_nums] at hown
      clear hown hb1 hb2 hwi hid y0 y1 y2 y3
      go_loopw [7, 8] (fun b c wz => ∃ (k : Nat) (L : List UInt8), c = .int .i64 k ∧ k ≤ ids.length ∧ Hid ((txt (sgs l (ids.take k))).data.toList = L) ∧ L.length ≤ 4 * k ∧ wz.ownsRow u2.heap.size 5 1 b L.length (byteCells L) ∧ u2.heap.size ≤ wz.heap.size ∧ JO w M ad cap (.slice ai ids.length ci) l (toI ids) u2.heap.size wz) (fun _ c _ => ids.length - (Go.RowKit.intOf c).toNat)
      case atStart =>
        have h0 : Hid ((txt (sgs l (ids.take 0))).data.toList = []) := rfl
        exact ⟨0, [], rfl, by omega, h0, by simp, ⟨rfl, .inl ⟨rfl, rfl⟩⟩, Nat.le_refl _, j0⟩
      case round =>
        obtain ⟨k, L, rfl, hk, HL, hLl, hrow, hsz, hj⟩ := hrel
        obtain ⟨ab, cb, rfl, _⟩ := row_form hrow
        by_cases hkl : k < ids.length
        · have hki : (k : Int) < (ids.length : Int) := by omega
          have hxl := hids ids[k] (List.getElem_mem hkl)
          have hc := cls_letter (hsg.letter l[ids[k]] (List.getElem_mem hxl))
          have HN : Hid ((txt (sgs l (ids.take (k + 1)))).data.toList = L ++ (Utf8.encode l[ids[k]]).data.toList) := by
            show (txt (sgs l (ids.take (k + 1)))).data.toList = _
            rw [sgs_take l ids k hkl, txt_snoc, HL.out, List.getD_eq_getElem?_getD, List.getElem?_eq_getElem hxl]
            rfl
          have hel : (Utf8.encode l[ids[k]]).data.toList.length ≤ 4 := by rw [enc_len]; exact (clen_pos _).2
          obtain ⟨_, _, ei, hfi⟩ := hj.i
          simp [toI_length] at ei
          obtain ⟨rfl, rfl⟩ := ei
          obtain ⟨gi, rfl, gi1, gi2, gi3⟩ := hfi (fun e => by have e2 := congrArg List.length e; rw [toI_length] at e2; simp at e2; rw [e2] at hkl; simp at hkl)
          obtain ⟨_, sl, er, ⟨_, _, rfl, hfr⟩⟩ := hj.r
          simp at er
          obtain ⟨rfl, rfl⟩ := er
          obtain ⟨gr, rfl, gr1, gr2, gr3⟩ := hfr (fun e => by subst e; simp at hxl)
          have hic : ∀ W, JO w M (some ⟨gr, 0, none⟩) cap (.slice (some ⟨gi, 0, none⟩) ids.length ci) l (toI ids) u2.heap.size W → W.cell? ⟨gi, k, none⟩ = some (.int .i64 ((ids[k] : Nat) : Int)) := by
            intro W hW
            obtain ⟨_, _, ei, hfi⟩ := hW.i
            simp [toI_length] at ei
            obtain ⟨rfl, rfl⟩ := ei
            obtain ⟨g', e', _, _, g3⟩ := hfi (fun e => by have e2 := congrArg List.length e; rw [toI_length] at e2; simp at e2; rw [e2] at hkl; simp at hkl)
            cases e'
            exact g3 k _ (by simp [toI, hkl])
          have hrc : ∀ W, JO w M (some ⟨gr, 0, none⟩) cap (.slice (some ⟨gi, 0, none⟩) ids.length ci) l (toI ids) u2.heap.size W → W.cell? ⟨gr, ids[k], none⟩ = some (.int .i64 l[ids[k]]) := by
            intro W hW
            obtain ⟨_, sl, er, ⟨_, _, rfl, hfr⟩⟩ := hW.r
            simp at er
            obtain ⟨rfl, rfl⟩ := er
            obtain ⟨g', e', _, _, g3⟩ := hfr (fun e => by subst e; simp at hxl)
            cases e'
            exact g3 ids[k] _ (List.getElem?_eq_getElem hxl)
          have hput := refPut_any u2.heap.size (.slice ab L.length cb) L l[ids[k]] hc
          generalize l[ids[k]] = c at *
          generalize ids[k] = x at *
          generalize (Utf8.encode c).data.toList = E at *
          clear hfi hfr gi3 gr3
          go_wp2
          rename_i Q1 K1 hK
          refine wp_region_any hmx ?_
          refine wpAny_tabG (G := (Value)) (fun g i__ => ([(.slice ab L.length cb), (.pointer (some ⟨w.heap.size, 0, none⟩)), (.slice (some ⟨gr, 0, none⟩) l.length cap), (.slice (some ⟨gi, 0, none⟩) ids.length ci), (.int .i64 (k : Int)), (.pointer (some ⟨gi, k, none⟩)), (.int .i64 (x : Int)), (.pointer (some ⟨gr, x, none⟩)), (.int .i64 c), g, g] : List Value).getD i__ undef) (fun g d W => JWp w M (some ⟨gr, 0, none⟩) cap (.slice (some ⟨gi, 0, none⟩) ids.length ci) l (toI ids) u2.heap.size (.slice ab L.length cb) L E g (d 9) W) (by kernel_rfl) (undef) ⟨hj.keep hM (by omega) (Below.refl _ _).drew, (fun _ => ⟨hrow, hsz⟩), (fun e => by cases e)⟩ ?step1 ?fin1
          case step1 =>
            intro i o ho
            have hi : i < 11 := getElem?_lt ho
            match i, hi, ho with
            | 0, _, ho =>
              cases ho
              refine stepG_of (fun g d hdep => ?_)
              exact step_move rfl trivial _ rfl (by kernel_rfl)
            | 1, _, ho =>
              cases ho
              refine stepG_of (fun g d hdep => ?_)
              exact step_fieldAddr rfl trivial _ _ _ _ rfl rfl (fun w hw => field_rosR w _)
            | 2, _, ho =>
              cases ho
              refine stepG_of (fun g d hdep => ?_)
              exact step_load rfl trivial _ _ _ rfl rfl (fun w hw => load_nums hw.o.a)
            | 3, _, ho =>
              cases ho
              refine stepG_of (fun g d hdep => ?_)
              exact step_move rfl trivial _ rfl (by kernel_rfl)
            | 4, _, ho =>
              cases ho
              refine stepG_of (fun g d hdep => ?_)
              exact step_move rfl trivial _ rfl (by kernel_rfl)
            | 5, _, ho =>
              cases ho
              refine stepG_of (fun g d hdep => ?_)
              exact step_indexAddr rfl trivial _ _ _ _ _ rfl rfl rfl (fun w hw => ix_nums w _ _ _ _ hkl)
            | 6, _, ho =>
              cases ho
              refine stepG_of (fun g d hdep => ?_)
              exact step_load rfl trivial _ _ _ rfl rfl (fun w hw => load_num (hic w hw.o))
            | 7, _, ho =>
              cases ho
              refine stepG_of (fun g d hdep => ?_)
              exact step_indexAddr rfl trivial _ _ _ _ _ rfl rfl rfl (fun w hw => ix_nums w _ _ _ _ hxl)
            | 8, _, ho =>
              cases ho
              refine stepG_of (fun g d hdep => ?_)
              exact step_load rfl trivial _ _ _ rfl rfl (fun w hw => load_num (hrc w hw.o))
            | 9, _, ho =>
              cases ho
              exact stepG_call rfl (fun g => trivial) 67 _ _ (fun _ => [.slice ab L.length cb, .int .i64 c]) rfl (fun g => by kernel_rfl) (enters_of Tryz.func67 (by kernel_rfl) rfl) (fun g d w hJ hun _ hcl => (hput w (hJ.n hun).2 (by omega) (hJ.n hun).1).mono (by rintro e w' ⟨v', rfl, hr1, hb1, hs1⟩; refine ⟨v', rfl, ?_, hJ.o.keep hM (by omega) hb1, (fun e => by cases e), fun _ => ⟨hr1, Nat.le_trans (hJ.n hun).2 hs1⟩⟩; exact (fun j hj => match j, hj with | 9, hj => (by rw [hj] at hun; cases hun) | 10, hj => absurd ((hcl 10 _ rfl hj 9 (by kernel_rfl))) (by rw [hun]; simp) | 0, _ => rfl | 1, _ => rfl | 2, _ => rfl | 3, _ => rfl | 4, _ => rfl | 5, _ => rfl | 6, _ => rfl | 7, _ => rfl | 8, _ => rfl | _ + 11, _ => rfl)))
            | 10, _, ho =>
              cases ho
              refine stepG_of (fun g d hdep => ?_)
              exact step_assign rfl trivial _ rfl (by kernel_rfl) (fun _ h => h)
          intro g d W hall hW
          first | refine hK _ _ ?_ | refine (‹∀ (a : Act) (w : World), Code.wp Tryz.prog _ _ a w → _›) _ _ ?_ | skip
          simp only [finL, List.getD_cons_zero, List.getD_cons_succ, Nat.zero_add, Nat.reduceAdd, List.setIfInBounds_toArray, List.set_cons_zero, List.set_cons_succ]
          rw [hall 9 (by decide)] at hW
          obtain ⟨gv, e1⟩ : ∃ gv, gv = g := ⟨_, rfl⟩
          subst e1
          obtain ⟨Wt, e2⟩ : ∃ Wt, Wt = W := ⟨_, rfl⟩
          subst e2
          obtain ⟨hrow2, hsz2⟩ := hW.y rfl
          have HO : Hid (JO w M (some ⟨gr, 0, none⟩) cap (.slice (some ⟨gi, 0, none⟩) ids.length ci) l (toI ids) u2.heap.size Wt) := hW.o
          clear hK hall hW hic hrc hput hj hrow j0
          go_wp2
          go_roundw
          case rel =>
            exact ⟨k + 1, L ++ E, by simp, by omega, HN, by simp; omega, hrow2, hsz2, HO.out⟩
          case measure => simp [Go.RowKit.intOf]; omega
        · have hkk : k = ids.length := by omega
          subst hkk
          have hki : ¬ (ids.length : Int) < (ids.length : Int) := by omega
          have hcv := conv_own hrow rfl
          have HX : Hid ((⟨L.toArray⟩ : ByteArray) = txt (sgs l ids)) := by
            show (⟨L.toArray⟩ : ByteArray) = txt (sgs l ids)
            rw [← HL.out, List.take_length]
          have HO : Hid (Below w.heap.size w wr) := hj.below
          clear hj j0 hrow
          go_wp2
          go_ret2
          rw [HX.out, HP.out]
          exact ⟨rfl, HO.out⟩
  · have HP : Hid (prR l N = (⟨#[]⟩, 30)) := by show prR l N = _; rw [prR, if_neg hw1]
    rw [Bool.not_eq_true] at hw1
    rw [hw1] at hwi
    clear hw1 hid
    simp only [sv] at hwi ⊢
    go_enter Tryz.func41, Tryz.ntmps41
    go_wp2_with (go_at_call 62; refine (hwi _).mono ?_; rintro e u1 ⟨rfl, hb1⟩)
    go_ret2
    rw [HP.out]
    exact ⟨rfl, bcarry (((Below.refl _ w).alloc (by simp) _).alloc (by simp) _) (Nat.le_refl _) hb1⟩
end Go.Proofs.YtnkpohkodkjkfaaGreatDoor
namespace Go.Proofs.YtnkpohkodkjkfaaGreatDoor
open Go.RowKit Go.Shelf

def RB (W : World) (b : Nat) (k f r : Int) (N : Nat) (v : Value) : Prop := W.heap[b]? = some (.cells #[.int .i64 k, .int .i64 f, .int .i64 r, .int .u32 (wd N 0 : Nat), .int .u32 (wd N 1 : Nat), .int .u32 (wd N 2 : Nat), .int .u32 (wd N 3 : Nat), v] 27 (0, 0))
theorem RB.cells {W : World} {b : Nat} {k f r : Int} {N : Nat} {v : Value} (h : RB W b k f r N v) : W.cell? ⟨b, 0, none⟩ = some (.int .i64 k) ∧ W.cell? ⟨b, 1, none⟩ = some (.int .i64 f) ∧ W.cell? ⟨b, 2, none⟩ = some (.int .i64 r) ∧ W.cell? ⟨b, 3, none⟩ = some (.int .u32 (wd N 0 : Nat)) ∧ W.cell? ⟨b, 4, none⟩ = some (.int .u32 (wd N 1 : Nat)) ∧ W.cell? ⟨b, 5, none⟩ = some (.int .u32 (wd N 2 : Nat)) ∧ W.cell? ⟨b, 6, none⟩ = some (.int .u32 (wd N 3 : Nat)) ∧ W.cell? ⟨b, 7, none⟩ = some v :=
  ⟨cell_at h 0, cell_at h 1, cell_at h 2, cell_at h 3, cell_at h 4, cell_at h 5, cell_at h 6, cell_at h 7⟩
theorem RB.below {W W' : World} {b : Nat} {k f r : Int} {N : Nat} {v : Value} (h : RB W b k f r N v) (hb : Below W.heap.size W W') : RB W' b k f r N v := (hb.block b (lt_at h)).trans h
set_option maxHeartbeats 1000000 in
set_option maxRecDepth 100000 in
theorem rSum_any (ad : Option Addr) (cap : Nat) (l : List Nat) (w : World) (h : RdB w ad l) (hb : Byt l) (hl : l.length ≤ 140737488355328) : Calls Tryz.prog 66 #[.slice ad l.length cap] w fun e w' => e = .returned (.int .i64 (sumV l : Nat)) ∧ w' = w := by
  obtain ⟨R, hR⟩ : ∃ R, sumF 1 0 l = R := ⟨_, rfl⟩
  have hlt := sumF_lt l 1 0 (by decide) (by decide)
  rw [sumV, hR]
  rw [hR] at hlt
  have HR : Hid (sumF 1 0 (l.drop 0) = R) := hR
  clear hR
  go_enter Tryz.func66, Tryz.ntmps66
  go_wp2
  go_loopw [3, 4, 5] (fun p q i wz => ∃ (k a b : Nat), p = .int .i64 a ∧ q = .int .i64 b ∧ i = .int .i64 k ∧ k ≤ l.length ∧ a < 65521 ∧ b < 65521 ∧ Hid (sumF a b (l.drop k) = R) ∧ wz = w) (fun _ _ i _ => l.length - vnatW i)
  case atStart => exact ⟨0, 1, 0, rfl, rfl, rfl, Nat.zero_le _, by decide, by decide, HR, rfl⟩
  case round =>
    obtain ⟨k, a, b, rfl, rfl, rfl, hk, ha, hbb, HK, rfl⟩ := hrel
    by_cases hkl : k < l.length
    · obtain ⟨g, off, e1, hbl, hat⟩ := h (fun e => by subst e; simp at hkl)
      subst e1
      obtain ⟨x, hx⟩ := get_lt hkl
      have c0 := hat k _ hx
      have hx8 := byt_get8 hb hx
      have HS := sumF_drop l k a b x hx
      rw [HK.out] at HS
      have HS2 : Hid (R = sumF ((a + x) % 65521) ((b + (a + x) % 65521) % 65521) (l.drop (k + 1))) := HS
      clear HS HK HR
      have hki : (k : Int) < (l.length : Int) := by omega
      go_wp2
      go_roundw
      case rel => exact ⟨k + 1, (a + x) % 65521, (b + (a + x) % 65521) % 65521, by simp, by simp, by simp, by omega, Nat.mod_lt _ (by decide), Nat.mod_lt _ (by decide), HS2.out.symm, trivial⟩
      case measure => simp [vnatW]; omega
    · have hkk : k = l.length := by omega
      subst hkk
      have hki : ¬ ((l.length : Int) < (l.length : Int)) := by omega
      have HE : Hid (R = (a, b)) := by have := HK.out; rw [List.drop_length] at this; exact this.symm
      clear HK HR h hb
      go_wp2
      go_ret
      rw [HE.out]
      exact ⟨by simp, rfl⟩
end Go.Proofs.YtnkpohkodkjkfaaGreatDoor
