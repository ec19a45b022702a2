/- SetQuorums: n - f nodes and f + 1 nodes of n have one in common, at every n, f and all sets; under the row's own word that math/bits.deBruijn32tab is laid as its text says. -/
import Derived.Test.YtahlehgibcdfeaaDoorRows
import Derived.WalkKit
import Derived.ProofKit
import Derived.OpenShut
import Derived.Stop.Joined
import Derived.Lay
import Derived.SevenTiedAt
import Derived.SizedLaws
import Derived.LaidMore
import Derived.Test.YtahlehgibcdfeaaDoorTie
import Derived.Test.YtahlehgibcdfeaaDoorCards
import Derived.Test.YtahlehgibcdfeaaDoorLst
import Derived.Test.YtahlehgibcdfeaaDoorWth
import Derived.Test.YtahlehgibcdfeaaDoorTabl
namespace Go.Proofs.YtahlehgibcdfeaaDoor
open Go.ChangeShapes Go.WideShapes Go.ChangeAt Go.RowKit
set_option linter.unusedVariables false


theorem own : ownKnob Tryd.prog.godebug = none := by kernel_rfl
open Go.Lib (popAux)
theorem cnt_below (X n : Nat) (hn : n ≤ 128) (h : ∀ i, X.testBit i = true → i < n) : cnt X ≤ n := by
  have e : cnt X = popAux n X + popAux (128 - n) (X / 2 ^ n) := by rw [cnt, ← popAux_add]; congr 1; omega
  have z : popAux (128 - n) (X / 2 ^ n) = popAux (128 - n) 0 := popAux_congr _ _ _ (fun i _ => by
    rw [Nat.testBit_div_two_pow, Nat.zero_testBit]
    cases hb : X.testBit (i + n) with
    | false => rfl
    | true => have := h _ hb; omega)
  rw [e, z, popAux_zero]
  exact popAux_le n X
theorem least_nonneg (M : Nat) (h : 1 ≤ cnt M) : 0 ≤ leastZ M := by
  have hl : (idsTo M 128).length = cnt M := idsTo_length M 128
  unfold leastZ headZ
  split
  · rename_i e; rw [e] at hl; simp at hl; omega
  · omega
theorem common (A B n f : Nat) (hn : n ≤ 100) (h1 : n ≤ cnt (cln (cln (A &&& fullN n))) + f) (h2 : f + 1 ≤ cnt (cln (cln (B &&& fullN n)))) : 0 ≤ leastZ (cln (cln (cln (A &&& fullN n) &&& cln (B &&& fullN n)))) := by
  rw [cln_cln] at h1 h2 ⊢
  apply least_nonneg
  have e := cnt_or_and (cln (A &&& fullN n)) (cln (B &&& fullN n))
  have b : cnt (cln (A &&& fullN n) ||| cln (B &&& fullN n)) ≤ n := by
    refine cnt_below _ n (by omega) (fun i hi => ?_)
    rw [Nat.testBit_or, testBit_cln, testBit_cln, Nat.testBit_and, Nat.testBit_and, testBit_full] at hi
    cases hd : decide (i < n) with
    | true => simpa using hd
    | false => rw [hd] at hi; simp at hi
  have c : cln (cln (A &&& fullN n) &&& cln (B &&& fullN n)) = cln (A &&& fullN n) &&& cln (B &&& fullN n) := by
    apply Nat.eq_of_testBit_eq; intro i
    simp only [testBit_cln, Nat.testBit_and]
    cases decide (i < 100) <;> simp
  rw [c]
  omega
/-- What lies where, while the two sets are made. -/
structure JQ (w : World) (A B F U M : Nat) (o : Nat) (g : Nat × Nat) (x6 x7 x8 x9 : Bool) (W : World) : Prop where
  a : Holds4 W w.heap.size (wd A)
  b : Holds4 W (w.heap.size + 1) (wd B)
  c : Holds4 W o (wd F)
  ho : w.heap.size + 2 ≤ o
  below : Below w.heap.size w W
  u : x6 = true → o + 1 ≤ g.1 ∧ Holds4 W g.1 (if x8 = true then wd U else fun _ => 0)
  m : x7 = true → o + 1 ≤ g.2 ∧ Holds4 W g.2 (if x9 = true then wd M else fun _ => 0)
  ne : x6 = true → x7 = true → g.1 ≠ g.2
theorem JQ.carry {w : World} {A B F U M o : Nat} {g : Nat × Nat} {x6 x7 x8 x9 : Bool} {W W' : World} (h : JQ w A B F U M o g x6 x7 x8 x9 W) (hb : Below W.heap.size W W') : JQ w A B F U M o g x6 x7 x8 x9 W' :=
  ⟨h.a.carry hb, h.b.carry hb, h.c.carry hb, h.ho, bcarry h.below (Nat.le_refl _) hb, fun e => ⟨(h.u e).1, (h.u e).2.carry hb⟩, fun e => ⟨(h.m e).1, (h.m e).2.carry hb⟩, h.ne⟩
set_option maxHeartbeats 4000000 in
set_option maxRecDepth 100000 in
theorem walk (a0 : Int) (w0 : (Lit.int .i64 a0).wf = true) (a1 : Int) (w1 : (Lit.int .i64 a1).wf = true) (N2 : Nat) (hN2 : N2 < S128) (N3 : Nat) (hN3 : N3 < S128) (w : World) (hL : laidMetH Tryd.prog Rows.setQuorumsRow.laid w) :
    Calls Tryd.prog 4 #[.int .i64 a0, .int .i64 a1, sv N2, sv N3] w fun e w' => e = .returned (.bool true) ∧ Below w.heap.size w w' := by
  have hT : Tab w := tab_of hL
  have hmx : Tryd.prog.follows .mixedOrders = true := by kernel_rfl
  have hal := alive_any
  by_cases hr : 1 ≤ a0 ∧ a0 ≤ 100 ∧ 0 ≤ a1 ∧ a1 < a0
  · obtain ⟨n, rfl⟩ := Int.eq_ofNat_of_zero_le (show 0 ≤ a0 by omega)
    obtain ⟨f, rfl⟩ := Int.eq_ofNat_of_zero_le hr.2.2.1
    obtain ⟨r1, r2, _, r4⟩ := hr
    have hf := full_any (n : Int)
    have hV : fullV (n : Int) = .tuple #[sv (fullN n), .int .i64 0] := by rw [fullV, if_pos ⟨by omega, r2⟩]; rfl
    rw [hV] at hf
    have t1 : ¬ (n : Int) < 1 := by omega
    have t2 : ¬ 100 < (n : Int) := by omega
    have t3 : ¬ (f : Int) < 0 := by omega
    have t4 : ¬ (f : Int) ≥ (n : Int) := by omega
    have t4' : ¬ (n : Int) ≤ (f : Int) := by omega
    go_enter Tryd.func4, Tryd.ntmps4
    simp only [sv] at hf ⊢
    go_wp2_with (go_at_call 15; refine (hf _).mono ?_; rintro e w1 ⟨rfl, hb1⟩)
    rename_i Q0 K0 hK
    have hs1 := hb1.size
    simp only [World.size_alloc] at hs1
    refine wp_region_any hmx ?_
    refine wpAny_tabG (G := Nat × Nat) (fun g i__ => ([sv N2, sv (fullN n), sv (cln (N2 &&& fullN n)), sv N3, sv (fullN n), sv (cln (N3 &&& fullN n)), .pointer (some ⟨g.1, 0, none⟩), .pointer (some ⟨g.2, 0, none⟩), undef, undef] : List Value).getD i__ undef)
      (fun g d W => JQ w N2 N3 (fullN n) (cln (N2 &&& fullN n)) (cln (N3 &&& fullN n)) w1.heap.size g (d 6) (d 7) (d 8) (d 9) W) (by kernel_rfl) (0, 0)
      ⟨get_old ((hb1.block _ (by simp; omega)).trans (get_old (get_new (by simp)))), get_old ((hb1.block _ (by simp)).trans (get_new (by simp))), get_new rfl, by omega, (((((Below.refl _ w).alloc (by simp) _).alloc (by simp) _).trans (hb1.mono (by simp; omega))).alloc (by omega) _).drew, (fun e => by cases e), (fun e => by cases e), (fun e => by cases e)⟩ ?step ?fin
    case step =>
      intro i o ho
      have hi : i < 10 := getElem?_lt ho
      match i, hi, ho with
      | 0, _, ho =>
        cases ho
        refine stepG_of (fun g d _ => ?_)
        exact step_load rfl trivial _ _ _ rfl rfl (fun w hw => whole4 w _ N2 hw.a)
      | 1, _, ho =>
        cases ho
        refine stepG_of (fun g d _ => ?_)
        exact step_load rfl trivial _ _ _ rfl rfl (fun w hw => whole4 w _ (fullN n) hw.c)
      | 2, _, ho =>
        cases ho
        refine stepG_of (fun g d _ => ?_)
        exact step_call rfl trivial 16 _ _ [sv N2, sv (fullN n)] rfl (by kernel_rfl) (enters_of Tryd.func16 (by kernel_rfl) rfl) (fun w hw => (meet_any N2 (fullN n) w).mono (by rintro e w' ⟨rfl, hb⟩; exact ⟨rfl, hw.carry hb⟩))
      | 3, _, ho =>
        cases ho
        refine stepG_of (fun g d _ => ?_)
        exact step_load rfl trivial _ _ _ rfl rfl (fun w hw => whole4 w _ N3 hw.b)
      | 4, _, ho =>
        cases ho
        refine stepG_of (fun g d _ => ?_)
        exact step_load rfl trivial _ _ _ rfl rfl (fun w hw => whole4 w _ (fullN n) hw.c)
      | 5, _, ho =>
        cases ho
        refine stepG_of (fun g d _ => ?_)
        exact step_call rfl trivial 16 _ _ [sv N3, sv (fullN n)] rfl (by kernel_rfl) (enters_of Tryd.func16 (by kernel_rfl) rfl) (fun w hw => (meet_any N3 (fullN n) w).mono (by rintro e w' ⟨rfl, hb⟩; exact ⟨rfl, hw.carry hb⟩))
      | 6, _, ho =>
        cases ho
        intro g d a W hJ hun hdep hcl hS
        have h8 : d 8 = false := by
          cases h : d 8 with
          | false => rfl
          | true => rw [hcl 8 _ rfl h 6 (by kernel_rfl)] at hun; cases hun
        refine step_alloc rfl rfl rfl ⟨(W.heap.size, g.2), ?_, rfl, ?_⟩
        · intro j hj
          match j with
          | 6 => rw [hj] at hun; cases hun
          | 0 => rfl
          | 1 => rfl
          | 2 => rfl
          | 3 => rfl
          | 4 => rfl
          | 5 => rfl
          | 7 => rfl
          | 8 => rfl
          | 9 => rfl
          | j + 10 => rfl
        · have hc := hJ.carry (alloc_below W (.cells (cells4 (fun _ => 0)) 24))
          have hl := hJ.c.lt
          have hho := hJ.ho
          refine ⟨hc.a, hc.b, hc.c, hc.ho, hc.below, fun _ => ⟨?_, ?_⟩, hc.m, fun _ h7 => ?_⟩
          · show w1.heap.size + 1 ≤ W.heap.size; omega
          · have : (if (8 : Nat) = 6 then true else d 8) = false := by simp [h8]
            simp only [this]
            exact get_new rfl
          · have := (hJ.m h7).2.lt
            show W.heap.size ≠ g.2
            omega
      | 7, _, ho =>
        cases ho
        intro g d a W hJ hun hdep hcl hS
        have h9 : d 9 = false := by
          cases h : d 9 with
          | false => rfl
          | true => rw [hcl 9 _ rfl h 7 (by kernel_rfl)] at hun; cases hun
        refine step_alloc rfl rfl rfl ⟨(g.1, W.heap.size), ?_, rfl, ?_⟩
        · intro j hj
          match j with
          | 7 => rw [hj] at hun; cases hun
          | 0 => rfl
          | 1 => rfl
          | 2 => rfl
          | 3 => rfl
          | 4 => rfl
          | 5 => rfl
          | 6 => rfl
          | 8 => rfl
          | 9 => rfl
          | j + 10 => rfl
        · have hc := hJ.carry (alloc_below W (.cells (cells4 (fun _ => 0)) 24))
          have hl := hJ.c.lt
          have hho := hJ.ho
          refine ⟨hc.a, hc.b, hc.c, hc.ho, hc.below, hc.u, fun _ => ⟨?_, ?_⟩, fun h6 _ => ?_⟩
          · show w1.heap.size + 1 ≤ W.heap.size; omega
          · have : (if (9 : Nat) = 7 then true else d 9) = false := by simp [h9]
            simp only [this]
            exact get_new rfl
          · have := (hJ.u h6).2.lt
            show g.1 ≠ W.heap.size
            omega
      | 8, _, ho =>
        cases ho
        refine stepG_of (fun g d hdep => ?_)
        have h6 : d 6 = true := hdep 6 (by kernel_rfl)
        refine step_store rfl trivial rfl _ _ _ _ _ rfl rfl rfl (fun w' hw => ⟨_, wstore4 w' _ _ (cln (N2 &&& fullN n)) (hw.u h6).2, ?_⟩)
        have hu := hw.u h6
        have hho := hw.ho
        refine ⟨(hold4 (by omega)).trans hw.a, (hold4 (by omega)).trans hw.b, (hold4 (by omega)).trans hw.c, hw.ho, below4 hw.below (by omega) _, fun _ => ⟨hu.1, fin4 hu.2 _⟩, fun h7 => ⟨(hw.m h7).1, (hold4 (hw.ne h6 h7).symm).trans (hw.m h7).2⟩, hw.ne⟩
      | 9, _, ho =>
        cases ho
        refine stepG_of (fun g d hdep => ?_)
        have h7 : d 7 = true := hdep 7 (by kernel_rfl)
        refine step_store rfl trivial rfl _ _ _ _ _ rfl rfl rfl (fun w' hw => ⟨_, wstore4 w' _ _ (cln (N3 &&& fullN n)) (hw.m h7).2, ?_⟩)
        have hm := hw.m h7
        have hho := hw.ho
        refine ⟨(hold4 (by omega)).trans hw.a, (hold4 (by omega)).trans hw.b, (hold4 (by omega)).trans hw.c, hw.ho, below4 hw.below (by omega) _, fun h6 => ⟨(hw.u h6).1, (hold4 (hw.ne h6 h7)).trans (hw.u h6).2⟩, fun _ => ⟨hm.1, fin4 hm.2 _⟩, hw.ne⟩
    case fin =>
      intro g d W hall hJ
      rw [hall 6 (by decide), hall 7 (by decide), hall 8 (by decide), hall 9 (by decide)] at hJ
      obtain ⟨ha, hb, hc, hho, hbel, hu, hm, hne⟩ := hJ
      obtain ⟨hu1, hu2⟩ := hu rfl
      obtain ⟨hm1, hm2⟩ := hm rfl
      simp only [if_true] at hu2 hm2
      obtain ⟨gu, gm⟩ := g
      refine hK _ _ ?_
      simp only [finL, List.getD_cons_zero, List.getD_cons_succ, Nat.zero_add, Nat.reduceAdd, List.setIfInBounds_toArray, List.set_cons_zero, List.set_cons_succ]
      clear hK hf hb1 hs1 t1 t2 t3 t4 t4' hV ha hb hc hne hu hm
      have hc1 := count_any (cln (N2 &&& fullN n))
      have hc2 := count_any (cln (N3 &&& fullN n))
      have hme := meet_any (cln (N2 &&& fullN n)) (cln (N3 &&& fullN n))
      have hle := least_any (cln (cln (N2 &&& fullN n) &&& cln (N3 &&& fullN n)))
      have b1 := cnt_le (cln (cln (N2 &&& fullN n)))
      have b2 := cnt_le (cln (cln (N3 &&& fullN n)))
      have hcom := common N2 N3 n f (by omega)
      generalize cnt (cln (cln (N2 &&& fullN n))) = c1 at *
      generalize cnt (cln (cln (N3 &&& fullN n))) = c2 at *
      generalize leastZ (cln (cln (cln (N2 &&& fullN n) &&& cln (N3 &&& fullN n)))) = lz at *
      generalize cln (cln (N2 &&& fullN n) &&& cln (N3 &&& fullN n)) = QR at *
      generalize cln (N2 &&& fullN n) = Q1 at *
      generalize cln (N3 &&& fullN n) = Q2 at *
      simp only [sv] at hc1 hc2 hme hle ⊢
      have HU : Hid (Holds4 W gu (wd Q1)) := hu2
      have HM : Hid (Holds4 W gm (wd Q2)) := hm2
      obtain ⟨x0, x1, x2, x3, _⟩ := hu2.facts
      clear hu2 hm2
      by_cases k1 : (c1 : Int) < (n : Int) - (f : Int)
      · clear hc2 hme hle hcom
        go_wp2_with (first | (go_at_call 6; refine (hc1 _).mono ?_; rintro e w2 ⟨rfl, hb2⟩) | (go_at_call 8; refine (hal _).mono ?_; rintro e w3 ⟨rfl, hb3⟩))
        go_ret
        exact ⟨rfl, bcarry (bcarry hbel (Nat.le_refl _) hb2) (Nat.le_refl _) hb3⟩
      · by_cases k2 : (c2 : Int) < (f : Int) + 1
        · clear hme hle hcom
          go_wp2_with (first | (go_at_call 6; first | (refine (hc1 _).mono ?_; rintro e w2 ⟨rfl, hb2⟩; have hm2 := HM.out.carry hb2; obtain ⟨y0, y1, y2, y3, _⟩ := hm2.facts; clear hc1 hm2) | (refine (hc2 _).mono ?_; rintro e w2' ⟨rfl, hb2'⟩)) | (go_at_call 8; refine (hal _).mono ?_; rintro e w3 ⟨rfl, hb3⟩))
          go_ret
          exact ⟨rfl, bcarry (bcarry (bcarry hbel (Nat.le_refl _) hb2) (Nat.le_refl _) hb2') (Nat.le_refl _) hb3⟩
        · have hlz : 0 ≤ lz := hcom (by omega) (by omega)
          clear hcom
          go_wp2_with (first | (go_at_call 6; first | (refine (hc1 _).mono ?_; rintro e w2 ⟨rfl, hb2⟩; have hm2 := HM.out.carry hb2; obtain ⟨y0, y1, y2, y3, _⟩ := hm2.facts; clear hc1 hm2) | (refine (hc2 _).mono ?_; rintro e w2' ⟨rfl, hb2'⟩)) | (go_at_call 8; refine (hal _).mono ?_; rintro e w3 ⟨rfl, hb3⟩; have hu3 := ((HU.out.carry hb2).carry hb2').carry hb3; have hm3 := ((HM.out.carry hb2).carry hb2').carry hb3; obtain ⟨u0, u1, u2, u3, _⟩ := hu3.facts; obtain ⟨m0, m1, m2, m3, _⟩ := hm3.facts; clear hu3 hm3) | (go_at_call 16; refine (hme _).mono ?_; rintro e w4 ⟨rfl, hb4⟩) | (go_at_call 10; refine (hle _ (hT.keep (bcarry (bcarry (bcarry (bcarry hbel (Nat.le_refl _) hb2) (Nat.le_refl _) hb2') (Nat.le_refl _) hb3) (Nat.le_refl _) hb4) hT.lt)).mono ?_; rintro e w5 ⟨rfl, hb5⟩))
          go_ret
          exact ⟨rfl, bcarry (bcarry (bcarry (bcarry (bcarry hbel (Nat.le_refl _) hb2) (Nat.le_refl _) hb2') (Nat.le_refl _) hb3) (Nat.le_refl _) hb4) (Nat.le_refl _) hb5⟩
  · have b0 : Below w.heap.size w ((w.alloc (.cells (cells4 (wd N2)) 24)).alloc (.cells (cells4 (wd N3)) 24)) := ((Below.refl _ w).alloc (by simp) _).alloc (by simp) _
    go_enter Tryd.func4, Tryd.ntmps4
    simp only [sv]
    by_cases t1 : a0 < 1
    · go_wp2_with (go_at_call 8; refine (hal _).mono ?_; rintro e w3 ⟨rfl, hb3⟩)
      go_ret
      exact ⟨rfl, bcarry b0 (Nat.le_refl _) hb3⟩
    · by_cases t2 : 100 < a0
      · go_wp2_with (go_at_call 8; refine (hal _).mono ?_; rintro e w3 ⟨rfl, hb3⟩)
        go_ret
        exact ⟨rfl, bcarry b0 (Nat.le_refl _) hb3⟩
      · by_cases t3 : a1 < 0
        · go_wp2_with (go_at_call 8; refine (hal _).mono ?_; rintro e w3 ⟨rfl, hb3⟩)
          go_ret
          exact ⟨rfl, bcarry b0 (Nat.le_refl _) hb3⟩
        · have t4 : a0 ≤ a1 := by omega
          go_wp2_with (go_at_call 8; refine (hal _).mono ?_; rintro e w3 ⟨rfl, hb3⟩)
          go_ret
          exact ⟨rfl, bcarry b0 (Nat.le_refl _) hb3⟩

set_option maxRecDepth 100000 in
theorem lifted (os : Os) (started : os.Started) (H : Type) (enc : TypeId × Value → H) :
    ReturnsInHanded {} Tryd.checked os 4 .any (fun w args => (Rows.setQuorumsSpec.pre enc Tryd.prog Tryd.f4 [] false w args ∧ laidMetH Tryd.prog Rows.setQuorumsRow.laid w) ∧ sizedMet enc Tryd.prog Tryd.f4 (OpenSpec.ofChange Rows.setQuorumsSpec) false w args)
      (Rows.setQuorumsSpec.post enc Tryd.prog Tryd.f4 false true false false) := by
  refine returnsInHanded_of_change_and (C := Tryd.checked) (X := fun w _ => laidMetH Tryd.prog Rows.setQuorumsRow.laid w) (fun _ _ _ hh h => h.of_heap hh) own started (by kernel_rfl) Tryd.func4
    (ChangeSpec.witness_shaped (enc := enc) (C := Tryd.checked) (os := os) (X := fun w _ => laidMetH Tryd.prog Rows.setQuorumsRow.laid w) false (World.laidAll Tryd.prog os Rows.setQuorumsRow.laid) #[.int .i64 0, .int .i64 0, .agg #[.int .u32 0, .int .u32 0, .int .u32 0, .int .u32 0], .agg #[.int .u32 0, .int .u32 0, .int .u32 0, .int .u32 0]] 8 (World.laidAll_os _ _ _)
      (World.shaped_of_ZipB (by kernel_rfl) (by kernel_rfl)) (by kernel_rfl) (by kernel_rfl) (by kernel_rfl)
      (by rw [MakeChecks.laidMetH_plain _ _ _ (by kernel_rfl)]; exact laidMet_laidAll _ (by kernel_rfl) (by kernel_rfl))) ?_
  intro W base args ds gs before hval0 hW _ _ hL hsz
  have hval : ∀ (j : Nat) t v, Tryd.f4.params[j]? = some t → args[j]? = some v → Value.okWide Tryd.prog W .any base t v := hval0
  have hW' := hW
  obtain ⟨p, q, hA0, hV, rfl, hfz, hnd⟩ := hW
  have hA : DataW.TrodAll enc Tryd.prog W 0 (fun _ => true) true Tryd.f4.params.toList args.toList ds p := hA0
  rw [Tryd.params4] at hA hval
  obtain ⟨v0, vs0, d0, ds0, p0, q0, hargs, rfl, rfl, h0, r0⟩ := trodAll_cons hA
  obtain ⟨v1, vs1, d1, ds1, p1, q1, rfl, rfl, rfl, h1, r1⟩ := trodAll_cons r0
  obtain ⟨v2, vs2, d2, ds2, p2, q2, rfl, rfl, rfl, h2, r2⟩ := trodAll_cons r1
  obtain ⟨v3, vs3, d3, ds3, p3, q3, rfl, rfl, rfl, h3, r3⟩ := trodAll_cons r2
  obtain ⟨rfl, rfl, rfl⟩ := trodAll_nil r3
  obtain rfl : args = #[v0, v1, v2, v3] := by cases args; simp_all
  obtain ⟨rfl, rfl⟩ := trodVars_none hV
  obtain ⟨a0, rfl, rfl, rfl, w0⟩ := open_int Tryd.underlying3 (hval 0 3 v0 rfl rfl) h0
  obtain ⟨a1, rfl, rfl, rfl, w1⟩ := open_int Tryd.underlying3 (hval 1 3 v1 rfl rfl) h1
  obtain ⟨N2, hN2, rfl, rfl, rfl⟩ := open_set (hval 2 24 v2 rfl rfl) h2
  obtain ⟨N3, hN3, rfl, rfl, rfl⟩ := open_set (hval 3 24 v3 rfl rfl) h3
  clear hA0 hval0
  simp only [List.append_nil] at hW'
  refine (walk a0 w0 a1 w1 N2 hN2 N3 hN3 W hL).mono fun e W' ⟨he, hg⟩ => ?_
  subst he
  exact ⟨_, rfl, _, _, _, [], _, [], hW', (trodAll_cons_mk (shut_bool Tryd.underlying4 _) trodAll_mk0), (trodAll_cons_mk (shut_int Tryd.underlying3 w0) (trodAll_cons_mk (shut_int Tryd.underlying3 w1) (trodAll_cons_mk (shut_set N2) (trodAll_cons_mk (shut_set N3) trodAll_mk0)))), rfl, hg.frame _, fun h => by cases h⟩

theorem over : Rows.setQuorumsRow.holds Tryd.pinned (OpenSpec.ofChange Rows.setQuorumsSpec) :=
  OpenClaim.holds_of_wide 4 Tryd.f4 rfl rfl rfl rfl rfl rfl rfl ⟨rfl, rfl, rfl, rfl, rfl⟩ rfl rfl rfl rfl rfl (by kernel_rfl) Tryd.func4 (by kernel_rfl)
    (of_decide_eq_true (by kernel_rfl)) (by unfold Func.isWrapper; first | (rw [if_pos (by decide +kernel)]; kernel_rfl) | (rw [if_neg (by decide +kernel)]; exact ⟨rfl, rfl⟩))
    (fun os started H enc _ => lifted os started H enc)

theorem row_proved : Rows.SetQuorumsSaid :=
  over
theorem proved : Rows.SetQuorumsCardSaid :=
  Claim7.holds_tied_plain_at .later [] [.data] true (true, "ab9dd63586333e244ff8d78e7670b4c950c826a4a67afdc2dfd72f7e9f534053") false
    row_proved (fun _ h => by cases h) (by kernel_rfl) (fun _ h => by cases h) setQuorums_row_tie rfl ⟨rfl, rfl⟩ (by kernel_rfl) rfl
    (fun f fn hf hfn => by
      obtain rfl : f = 4 := Option.some.inj ((show Tryd.prog.funcNamed "earshot/earshotlaw3.SetQuorums" = some 4 by kernel_rfl).symm.trans hf) |>.symm
      obtain rfl : fn = Tryd.f4 := (Option.some.inj (Tryd.func4.symm.trans hfn)).symm
      exact ⟨by kernel_rfl, fun j t ht => by
        rw [Tryd.params4] at ht
        rcases j with _ | j
        · have e : t = 3 := by simpa using ht.symm
          subst e
          exact (show Tryd.prog.wantsStandIn 3 = false by kernel_rfl)
        rcases j with _ | j
        · have e : t = 3 := by simpa using ht.symm
          subst e
          exact (show Tryd.prog.wantsStandIn 3 = false by kernel_rfl)
        rcases j with _ | j
        · have e : t = 24 := by simpa using ht.symm
          subst e
          exact (show Tryd.prog.wantsStandIn 24 = false by kernel_rfl)
        rcases j with _ | j
        · have e : t = 24 := by simpa using ht.symm
          subst e
          exact (show Tryd.prog.wantsStandIn 24 = false by kernel_rfl)
        simp at ht⟩)
    (by kernel_rfl)
#print axioms proved
end Go.Proofs.YtahlehgibcdfeaaDoor
