/- BookTwice: at every n, self, tag and list of notices: what is taken twice is taken once, what a book tells of itself turns nothing; no condition. -/
import Derived.Test.YtpphmfmfenifgaaRows
import Derived.WalkKit
import Derived.ProofKit
import Derived.OpenShut
import Derived.Test.YtpphmfmfenifgaaBkx
import Derived.Test.YtpphmfmfenifgaaOpm
namespace Go.Proofs.Ytpphmfmfenifgaa
open Go.ChangeShapes Go.WideShapes Go.ChangeAt Go.RowKit
set_option linter.unusedVariables false

theorem laidOut : laidOutB Try.prog = true := by kernel_rfl
theorem own : ownKnob Try.prog.godebug = none := by kernel_rfl
open Go.Shelf
set_option maxHeartbeats 8000000 in
set_option maxRecDepth 100000 in
theorem walk (w : World) (a0 : Int) (w0 : (Lit.int .i64 a0).wf = true) (a1 : Int) (w1 : (Lit.int .i64 a1).wf = true) (a2 : Int) (w2 : (Lit.int .i64 a2).wf = true) (ad3 : Option Addr) (cap3 : Nat) (l3 : List (Int × Int × Int)) (w3 : RdN w ad3 l3) (hc3 : ad3 = none → cap3 = 0) (hq3 : l3.length ≤ cap3) :
    Calls Try.prog 4 #[.int .i64 a0, .int .i64 a1, .int .i64 a2, .slice ad3 l3.length cap3] w fun e w' => e = .returned (.bool true) ∧ Below w.heap.size w w' := by
  have hal := balive_any
  have hnw := new_any a0 a1 a2
  have hl3 := fun W => light_any W ad3 l3.length cap3
  have hbw : Below w.heap.size w w := Below.refl _ _
  by_cases hok : ¬ (a0 < 1 ∨ 100 < a0) ∧ ¬ (a1 < 0 ∨ a0 ≤ a1) ∧ ¬ (a2 < 0 ∨ 1048576 < a2)
  · obtain ⟨h1, h2, h3⟩ := hok
    obtain ⟨N, rfl⟩ : ∃ N : Nat, a0 = (N : Int) := ⟨a0.toNat, by omega⟩
    obtain ⟨s, rfl⟩ : ∃ s : Nat, a1 = (s : Int) := ⟨a1.toNat, by omega⟩
    have HOK : Hid (∀ (W V : World) (e : Ending), NewV (N : Int) (s : Int) a2 W e V → ∃ p g, e = .returned (.tuple #[.pointer (some ⟨p, 0, none⟩), .int .i64 0]) ∧ W.heap.size ≤ p ∧ W.heap.size ≤ g ∧ Bk V p g (bk0 N s a2)) := fun W V e hV => by simpa using hV.ok h1 h2 h3
    have HB0 : Hid (Bok (bk0 N s a2)) := bk0_bok (by omega) (by omega)
    have HL0 : Hid ((bk0 N s a2).length = N ∧ 1 ≤ N ∧ N ≤ 100) := ⟨bk0_len _ _ _, by omega, by omega⟩
    clear h1 h2 h3
    generalize bk0 N s a2 = L0 at HOK HB0 HL0
    have hS0 := Bks.nil w
    have HW3 : Hid (RdN w ad3 l3) := w3
    clear w3
    by_cases h300 : l3.length ≤ 300
    · rw [decide_eq_true h300] at hl3
      have HT : Hid (mrs (mrg L0 l3) l3 = 0 ∧ mrg (mrg L0 l3) l3 = mrg L0 l3) := twice HB0.out l3
      have HB1 : Hid (Bok (mrg L0 l3)) := mrg_bok HB0.out l3
      have HL1 : Hid ((mrg L0 l3).length = N) := (mrg_len HB0.out l3).trans HL0.out.1
      have HO : Hid ((mrg L0 l3).all (vlx (mrg L0 l3).length) = true ∧ ∀ x ∈ mrg L0 l3, bat (mrg L0 l3) x = false) := own_list HB1.out (by rw [HL1.out]; exact HL0.out.2.1) (by rw [HL1.out]; exact HL0.out.2.2)
      have HA : Hid (l3.all (vlx N) = true → ∀ x ∈ l3, bat (mrg L0 l3) x = false) := fun h => bat_after HB0.out (by rw [HL0.out.1]; exact h)
      have HM : Hid (∀ (W : World) (p g : Nat), Bk W p g L0 → RdN W ad3 l3 → (l3 ≠ [] → ∀ a, ad3 = some a → a.block ≠ g) → Calls Try.prog 12 #[.pointer (some ⟨p, 0, none⟩), .slice ad3 l3.length cap3] W fun e w' => (∃ (N : Nat) (E : Int), e = .returned (.tuple #[.agg #[.int .u32 (wd N 0 : Nat), .int .u32 (wd N 1 : Nat), .int .u32 (wd N 2 : Nat), .int .u32 (wd N 3 : Nat)], .int .i64 E])) ∧ Bk w' p g (mrg L0 l3) ∧ W.grownBy w' (some g)) := fun W p g hk hr hne => merge_some hk ad3 cap3 l3 hr hne (by omega)
      generalize mrg L0 l3 = L1 at HT HB1 HL1 HO HA HM
      have HTW : Hid (∀ (W : World) (p g : Nat), Bk W p g L1 → Calls Try.prog 14 #[.pointer (some ⟨p, 0, none⟩)] W fun e w' => ∃ p' g', e = .returned (.pointer (some ⟨p', 0, none⟩)) ∧ W.heap.size ≤ p' ∧ W.heap.size ≤ g' ∧ Bk w' p' g' L1 ∧ Below W.heap.size W w') := fun W p g hk => twin_any hk (by rw [HL1.out]; exact HL0.out.2.1) (by rw [HL1.out]; exact HL0.out.2.2)
      have HLI : Hid (∀ (W : World) (p g : Nat), Bk W p g L1 → Calls Try.prog 15 #[.pointer (some ⟨p, 0, none⟩)] W fun e w' => ∃ ad cap, e = .returned (.slice ad N cap) ∧ RdN w' ad L1 ∧ (∀ a, ad = some a → W.heap.size ≤ a.block) ∧ Below W.heap.size W w') := fun W p g hk => (blist_any hk (by rw [HL1.out]; exact HL0.out.2.1) (by rw [HL1.out]; exact HL0.out.2.2)).mono (by
        rintro e w' ⟨v, rfl, hm, hb⟩
        rw [filter_all] at hm
        obtain ⟨ad, cap, rfl, hr, ha⟩ := hm.rd
        exact ⟨ad, cap, by rw [HL1.out], hr, ha, hb⟩)
      have HM3 : Hid (∀ (W : World) (p g : Nat) (ad : Option Addr) (cap : Nat), Bk W p g L1 → RdN W ad L1 → (∀ a, ad = some a → a.block ≠ g) → Calls Try.prog 12 #[.pointer (some ⟨p, 0, none⟩), .slice ad N cap] W fun e w' => e = .returned (.tuple #[.agg #[.int .u32 0, .int .u32 0, .int .u32 0, .int .u32 0], .int .i64 0]) ∧ Bk w' p g L1 ∧ W.grownBy w' (some g)) := by
        intro W p g ad cap hk hr hne
        have := merge_any hk ad cap L1 hr (fun _ => hne) (by rw [HL1.out]; have := HL0.out.2.2; omega)
        rw [(still HO.out.2).1, (still HO.out.2).2, if_pos HO.out.1, sv_zero, HL1.out] at this
        exact this
      have HSA : Hid (∀ (W : World) (p g p2 g2 : Nat), Bk W p g L1 → Bk W p2 g2 L1 → Calls Try.prog 13 #[.pointer (some ⟨p, 0, none⟩), .pointer (some ⟨p2, 0, none⟩)] W fun e w' => e = .returned (.bool true) ∧ Below W.heap.size W w') := by
        intro W p g p2 g2 hk hk2
        have := bsame_any hk hk2 (by rw [HL1.out]; have := HL0.out.2.2; omega)
        rw [decide_eq_true rfl] at this
        exact this
      have HCN : Hid (∀ W, Calls Try.prog 16 #[.agg #[.int .u32 0, .int .u32 0, .int .u32 0, .int .u32 0]] W fun e w' => e = .returned (.int .i64 0) ∧ Below W.heap.size W w') := by
        intro W
        have := count_any 0 W
        rw [sv_zero] at this
        exact this
      have HM2 : Hid (∀ (W : World) (p g : Nat), Bk W p g L1 → RdN W ad3 l3 → (l3 ≠ [] → ∀ a, ad3 = some a → a.block ≠ g) → Calls Try.prog 12 #[.pointer (some ⟨p, 0, none⟩), .slice ad3 l3.length cap3] W fun e w' => e = .returned (.tuple #[.agg #[.int .u32 0, .int .u32 0, .int .u32 0, .int .u32 0], .int .i64 (if l3.all (vlx N) = true then 0 else 50)]) ∧ Bk w' p g L1 ∧ W.grownBy w' (some g)) := by
        intro W p g hk hr hne
        have := merge_any hk ad3 cap3 l3 hr hne (by omega)
        rw [HT.out.1, HT.out.2, sv_zero, HL1.out] at this
        exact this
      by_cases hall : l3.all (vlx N) = true
      · skip
        go_enter Try.func4, Try.ntmps4
        go_wp2_with (first | (go_at_call 8; (with_reducible refine (hnw _).mono ?_); rintro e u1 hV; obtain ⟨pb, gb, rfl, hp, hg, hk⟩ := HOK.out _ _ _ hV; have hS1 : Bks w [(pb, gb, L0)] u1 := hS0.add hV.1 hk hp hg; clear hS0 hV hp hg hk; have k1 := HM.out u1 pb gb (hS1.get 0 rfl) (HW3.out.carry hS1.below) (HW3.out.ne (hS1.base 0 rfl))) | (go_at_call 9; (with_reducible refine (hl3 _).mono ?_); rintro e u ⟨rfl, rfl⟩) | (go_at_call 12; first | (have hz := hS1; (with_reducible refine k1.mono ?_); rintro e v1 ⟨⟨MS, ME, rfl⟩, hk, hg⟩; have hS2 : Bks w [(pb, gb, L1)] v1 := hS1.turn 0 rfl hk hg; clear hS1 hz k1 hk hg; have k2 := HTW.out v1 pb gb (hS2.get 0 rfl)) | (have hz := hS3; (with_reducible refine k3.mono ?_); rintro e v3 ⟨rfl, hk, hg⟩; have hS4 : Bks w [(pb, gb, L1), (pt, gt, L1)] v3 := hS3.turn 0 rfl hk hg; clear hS3 hz k3 hk hg; have hS5 := hS4.carry (al1 v3 (.cells #[.int .u32 0, .int .u32 0, .int .u32 0, .int .u32 0] 35)); have k4 := HLI.out _ pb gb (hS5.get 0 rfl)) | (have hz := hS6; (with_reducible refine k5.mono ?_); rintro e v5 ⟨rfl, hk, hg⟩; have hS7 : Bks w [(pb, gb, L1), (pt, gt, L1)] v5 := hS6.turn 0 rfl hk hg; have hs5 := hs4.turn (hS6.get 0 rfl) hg; clear hS6 hz k5 hk hg hs4)) | (go_at_call 14; (with_reducible refine k2.mono ?_); rintro e v2 ⟨pt, gt, rfl, hp, hg, hk, hb⟩; have hS3 : Bks w [(pb, gb, L1), (pt, gt, L1)] v2 := hS2.add hb hk hp hg; clear hS2 hp hg hk hb k2; have k3 := HM2.out v2 pb gb (hS3.get 0 rfl) (HW3.out.carry hS3.below) (HW3.out.ne (hS3.base 0 rfl)); rw [if_pos hall] at k3) | (go_at_call 15; (with_reducible refine k4.mono ?_); rintro e v4 ⟨ad, cap, rfl, hrd, hab, hb⟩; have hs4 : Holds4 v4 v3.heap.size (wd 0) := Holds4.congr (c := fun _ => 0) ((hb.block _ (by simp)).trans (new_at rfl)) (fun j _ => (wd_zero j).symm); have hS6 := hS5.carry hb; have k5 := HM3.out v4 pb gb ad cap (hS6.get 0 rfl) hrd (fun a ha => by have h1 := hab a ha; have h2 := (hS5.get 0 rfl).glt; omega); clear k4 hS5 hS4 hb))
        have hj : JT w [(pb, gb, L1), (pt, gt, L1)] v3.heap.size v5.heap.size (v5.alloc (.cells #[.int .u32 0, .int .u32 0, .int .u32 0, .int .u32 0] 35)) := ⟨hS7.carry (al1 _ _), hs5.carry (al1 _ _), Holds4.congr (c := fun _ => 0) (new_at rfl) (fun j _ => (wd_zero j).symm)⟩
        obtain ⟨bs, hbs⟩ : ∃ bs, v3.heap.size = bs := ⟨_, rfl⟩
        obtain ⟨bt, hbt⟩ : ∃ bt, v5.heap.size = bt := ⟨_, rfl⟩
        rw [hbs, hbt] at hj ⊢
        clear hS7 hs5 HOK HM HTW HM2 HM3 HLI hnw hl3
        go_loopw [16] (fun i wz => ∃ (j : Nat), i = .int .i64 j ∧ j ≤ l3.length ∧ JT w [(pb, gb, L1), (pt, gt, L1)] bs bt wz) (fun i _ => l3.length - vnatR i)
        case atStart => exact ⟨0, rfl, Nat.zero_le _, hj⟩
        case round =>
          obtain ⟨j, rfl, hjl, hJ⟩ := hrel
          clear hj
          by_cases hjn : j < l3.length
          · have hji : (j : Int) < (l3.length : Int) := by omega
            obtain ⟨⟨o, t, q⟩, hx⟩ : ∃ x, l3[j]? = some x := ⟨_, List.getElem?_eq_getElem hjn⟩
            obtain ⟨b, off, e1, hbl, hat⟩ := HW3.out.carry hJ.books.below (fun e => by rw [e] at hjn; simp at hjn)
            subst e1
            obtain ⟨c0, c1, c2⟩ := hat j _ hx
            dsimp only at c0 c1 c2
            have hbt0 := HA.out hall (o, t, q) (List.mem_of_getElem? hx)
            have k1 := take_any (hJ.books.get 0 rfl) o t q
            have hd : tkb L1 (o, t, q) = false := by unfold tkb; rw [hbt0, Bool.and_false]
            have hd2 : tke L1 (o, t, q) = L1 := by
              unfold tke
              split
              · exact if_neg (by rw [hbt0]; decide)
              · rfl
            rw [hd, hd2] at k1
            generalize (if vlx L1.length (o, t, q) = true then (0 : Int) else 50) = E at k1
            unfold nt at k1
            clear hx hat hbt0 hd hd2
            go_wp2_with (go_at_call 11; (with_reducible refine k1.mono ?_); rintro e z1 ⟨rfl, hk1, hg1⟩)
            have hE : JT w [(pb, gb, L1), (pt, gt, L1)] bs bt z1 := hJ.turn 0 rfl hk1 hg1
            go_roundw
            case rel => exact ⟨j + 1, by simp, by omega, hE⟩
            case measure => simp [vnatR]; omega
          · obtain ⟨x0, x1, x2, x3, _, _, _, _⟩ := hJ.one.facts
            obtain ⟨y0, y1, y2, y3, _, _, _, _⟩ := hJ.two.facts
            rw [wd_zero] at x0 x1 x2 x3 y0 y1 y2 y3
            have hji : ¬ (j : Int) < (l3.length : Int) := by omega
            go_wp2_with (first | (go_at_call 10; (with_reducible refine (hal _).mono ?_); rintro e z1 ⟨rfl, hb1⟩; have hJ1 := hJ.carry hb1; obtain ⟨p0, p1, p2, p3, _, _, _, _⟩ := hJ1.one.facts; rw [wd_zero] at p0 p1 p2 p3; have k1 := HCN.out z1) | (go_at_call 16; first | (have hz := p0; (with_reducible refine k1.mono ?_); rintro e z2 ⟨rfl, hb2⟩; have hJ2 := hJ1.carry hb2; clear p0 hz; obtain ⟨q0, q1, q2, q3, _, _, _, _⟩ := hJ2.two.facts; rw [wd_zero] at q0 q1 q2 q3; have k2 := HCN.out z2) | (have hz := q0; (with_reducible refine k2.mono ?_); rintro e z3 ⟨rfl, hb3⟩; have hJ3 := hJ2.carry hb3; have k3 := HSA.out z3 pb gb pt gt (hJ3.books.get 0 rfl) (hJ3.books.get 1 rfl))) | (go_at_call 13; (with_reducible refine k3.mono ?_); rintro e z4 ⟨rfl, hb4⟩))
            go_ret
            exact ⟨rfl, bel2 hJ3.books.below hb4⟩
      · skip
        go_enter Try.func4, Try.ntmps4
        go_wp2_with (first | (go_at_call 8; (with_reducible refine (hnw _).mono ?_); rintro e u1 hV; obtain ⟨pb, gb, rfl, hp, hg, hk⟩ := HOK.out _ _ _ hV; have hS1 : Bks w [(pb, gb, L0)] u1 := hS0.add hV.1 hk hp hg; clear hS0 hV hp hg hk; have k1 := HM.out u1 pb gb (hS1.get 0 rfl) (HW3.out.carry hS1.below) (HW3.out.ne (hS1.base 0 rfl))) | (go_at_call 9; (with_reducible refine (hl3 _).mono ?_); rintro e u ⟨rfl, rfl⟩) | (go_at_call 12; first | (have hz := hS1; (with_reducible refine k1.mono ?_); rintro e v1 ⟨⟨MS, ME, rfl⟩, hk, hg⟩; have hS2 : Bks w [(pb, gb, L1)] v1 := hS1.turn 0 rfl hk hg; clear hS1 hz k1 hk hg; have k2 := HTW.out v1 pb gb (hS2.get 0 rfl)) | (have hz := hS3; (with_reducible refine k3.mono ?_); rintro e v3 ⟨rfl, hk, hg⟩; have hS4 : Bks w [(pb, gb, L1), (pt, gt, L1)] v3 := hS3.turn 0 rfl hk hg; clear hS3 hz k3 hk hg; have hS5 := hS4.carry (al1 v3 (.cells #[.int .u32 0, .int .u32 0, .int .u32 0, .int .u32 0] 35)); have k4 := HLI.out _ pb gb (hS5.get 0 rfl)) | (have hz := hS6; (with_reducible refine k5.mono ?_); rintro e v5 ⟨rfl, hk, hg⟩; have hS7 : Bks w [(pb, gb, L1), (pt, gt, L1)] v5 := hS6.turn 0 rfl hk hg; have hs5 := hs4.turn (hS6.get 0 rfl) hg; clear hS6 hz k5 hk hg hs4)) | (go_at_call 14; (with_reducible refine k2.mono ?_); rintro e v2 ⟨pt, gt, rfl, hp, hg, hk, hb⟩; have hS3 : Bks w [(pb, gb, L1), (pt, gt, L1)] v2 := hS2.add hb hk hp hg; clear hS2 hp hg hk hb k2; have k3 := HM2.out v2 pb gb (hS3.get 0 rfl) (HW3.out.carry hS3.below) (HW3.out.ne (hS3.base 0 rfl)); rw [if_neg hall] at k3) | (go_at_call 15; (with_reducible refine k4.mono ?_); rintro e v4 ⟨ad, cap, rfl, hrd, hab, hb⟩; have hs4 : Holds4 v4 v3.heap.size (wd 0) := Holds4.congr (c := fun _ => 0) ((hb.block _ (by simp)).trans (new_at rfl)) (fun j _ => (wd_zero j).symm); have hS6 := hS5.carry hb; have k5 := HM3.out v4 pb gb ad cap (hS6.get 0 rfl) hrd (fun a ha => by have h1 := hab a ha; have h2 := (hS5.get 0 rfl).glt; omega); clear k4 hS5 hS4 hb))
        have hj : JT w [(pb, gb, L1), (pt, gt, L1)] v3.heap.size v5.heap.size (v5.alloc (.cells #[.int .u32 0, .int .u32 0, .int .u32 0, .int .u32 0] 35)) := ⟨hS7.carry (al1 _ _), hs5.carry (al1 _ _), Holds4.congr (c := fun _ => 0) (new_at rfl) (fun j _ => (wd_zero j).symm)⟩
        obtain ⟨bs, hbs⟩ : ∃ bs, v3.heap.size = bs := ⟨_, rfl⟩
        obtain ⟨bt, hbt⟩ : ∃ bt, v5.heap.size = bt := ⟨_, rfl⟩
        rw [hbs, hbt] at hj ⊢
        clear hS7 hs5 HOK HM HTW HM2 HM3 HLI hnw hl3
        go_loopw [16] (fun i wz => ∃ (j : Nat), i = .int .i64 j ∧ j ≤ l3.length ∧ JT w [(pb, gb, (l3.take j).foldl tke L1), (pt, gt, L1)] bs bt wz) (fun i _ => l3.length - vnatR i)
        case atStart => exact ⟨0, rfl, Nat.zero_le _, hj⟩
        case round =>
          obtain ⟨j, rfl, hjl, hJ⟩ := hrel
          clear hj
          by_cases hjn : j < l3.length
          · have hji : (j : Int) < (l3.length : Int) := by omega
            obtain ⟨⟨o, t, q⟩, hx⟩ : ∃ x, l3[j]? = some x := ⟨_, List.getElem?_eq_getElem hjn⟩
            obtain ⟨b, off, e1, hbl, hat⟩ := HW3.out.carry hJ.books.below (fun e => by rw [e] at hjn; simp at hjn)
            subst e1
            obtain ⟨c0, c1, c2⟩ := hat j _ hx
            dsimp only at c0 c1 c2
            have k1 := take_some (hJ.books.get 0 rfl) o t q
            have HST : Hid ((l3.take (j + 1)).foldl tke L1 = tke ((l3.take j).foldl tke L1) (o, t, q)) := by
              show _ = _
              rw [List.take_add_one, hx]
              simp
            generalize (l3.take j).foldl tke L1 = A at *
            unfold nt at k1
            clear hx hat
            go_wp2_with (go_at_call 11; (with_reducible refine k1.mono ?_); rintro e z1 ⟨⟨B1, E1, rfl⟩, hk1, hg1⟩; have hE : JT w [(pb, gb, (l3.take (j + 1)).foldl tke L1), (pt, gt, L1)] bs bt z1 := (by rw [HST.out]; exact hJ.turn 0 rfl hk1 hg1); cases B1)
            · go_roundw
              case rel => exact ⟨j + 1, by simp, by omega, hE⟩
              case measure => simp [vnatR]; omega
            go_roundw
            case rel => exact ⟨j + 1, by simp, by omega, hE⟩
            case measure => simp [vnatR]; omega
          · obtain ⟨x0, x1, x2, x3, _, _, _, _⟩ := hJ.one.facts
            obtain ⟨y0, y1, y2, y3, _, _, _, _⟩ := hJ.two.facts
            rw [wd_zero] at x0 x1 x2 x3 y0 y1 y2 y3
            have hji : ¬ (j : Int) < (l3.length : Int) := by omega
            have hq0 : ∀ W, (Op.equalIn 10000 35 (.agg #[.int .u32 0, .int .u32 0, .int .u32 0, .int .u32 0]) (.agg #[.int .u32 0, .int .u32 0, .int .u32 0, .int .u32 0])).run Try.prog W = .ok true W := fun W => by
              have := eqn4 0 0 (by decide) (by decide) W
              rw [sv_zero] at this
              simpa using this
            go_wp2_with (go_at_call 10; (with_reducible refine (hal _).mono ?_); rintro e z1 ⟨rfl, hb1⟩; have hJ1 := hJ.carry hb1; obtain ⟨p0, p1, p2, p3, _, _, _, _⟩ := hJ1.one.facts; rw [wd_zero] at p0 p1 p2 p3)
            go_ret
            exact ⟨rfl, hJ1.books.below⟩
    · rw [decide_eq_false h300] at hl3
      go_enter Try.func4, Try.ntmps4
      go_wp2_with (first | (go_at_call 8; (with_reducible refine (hnw _).mono ?_); rintro e u hV; obtain ⟨p, g, rfl, hp, hg, hk⟩ := HOK.out _ _ _ hV; have hbw := bel2 hbw hV.1; clear hV hp hg hk) | (go_at_call 9; (with_reducible refine (hl3 _).mono ?_); rintro e u ⟨rfl, rfl⟩) | (go_at_call 10; (with_reducible refine (hal _).mono ?_); rintro e u ⟨rfl, hb⟩; have hbw := bel2 hbw hb))
      go_ret
      exact ⟨rfl, hbw⟩
  · clear w3 hc3 hq3
    go_enter Try.func4, Try.ntmps4
    go_wp2_with (first | (go_at_call 8; (with_reducible refine (hnw _).mono ?_); rintro e u hV; obtain ⟨E, hE, rfl⟩ := hV.bad hok; have hbw := bel2 hbw hV.1; clear hV) | (go_at_call 10; (with_reducible refine (hal _).mono ?_); rintro e u ⟨rfl, hb⟩; have hbw := bel2 hbw hb))
    go_ret
    exact ⟨rfl, hbw⟩

set_option maxRecDepth 100000 in
theorem lifted (os : Os) (started : os.Started) (H : Type) (enc : TypeId × Value → H) :
    ReturnsInHanded {} Try.checked os 4 .any (Rows.bookTwiceSpec.pre6 enc Try.prog Try.f4 Rows.bookTwiceRow.domain false) (Rows.bookTwiceSpec.post enc Try.prog Try.f4 false true false false) := by
  refine returnsInHanded_of_change (C := Try.checked) own started (by kernel_rfl) Try.func4
    (ChangeSpec.witness6 (enc := enc) (C := Try.checked) false ⟨#[], #[.int .i64 0, .int .i64 0, .int .i64 0, .slice none 0 0], []⟩ 8 (by kernel_rfl) (by kernel_rfl) (by kernel_rfl) (by kernel_rfl)) ?_
  intro W base args ds gs before hval0 hW hcnd _
  have hval : ∀ (j : Nat) t v, Try.f4.params[j]? = some t → args[j]? = some v → Value.okWide Try.prog W .any base t v := hval0
  have hW' := hW
  obtain ⟨p, q, hA0, hV, rfl, hfz, hnd⟩ := hW
  have hA : DataW.TrodAll enc Try.prog W 0 (fun _ => true) true Try.f4.params.toList args.toList ds p := hA0
  rw [Try.params4] at hA hval
  obtain ⟨v0, vs0, d0, ds0, p0, q0, hargs, rfl, rfl, h0, r0⟩ := trodAll_cons hA
  obtain ⟨v1, vs1, d1, ds1, p1, q1, rfl, rfl, rfl, h1, r1⟩ := trodAll_cons r0
  obtain ⟨v2, vs2, d2, ds2, p2, q2, rfl, rfl, rfl, h2, r2⟩ := trodAll_cons r1
  obtain ⟨v3, vs3, d3, ds3, p3, q3, rfl, rfl, rfl, h3, r3⟩ := trodAll_cons r2
  obtain ⟨rfl, rfl, rfl⟩ := trodAll_nil r3
  obtain rfl : args = #[v0, v1, v2, v3] := by cases args; simp_all
  obtain ⟨rfl, rfl⟩ := trodVars_none hV
  obtain ⟨a0, rfl, rfl, rfl, w0⟩ := open_int Try.underlying3 (hval 0 3 v0 rfl rfl) h0
  obtain ⟨a1, rfl, rfl, rfl, w1⟩ := open_int Try.underlying3 (hval 1 3 v1 rfl rfl) h1
  obtain ⟨a2, rfl, rfl, rfl, w2⟩ := open_int Try.underlying3 (hval 2 3 v2 rfl rfl) h2
  have k3 := h3
  have lt3 : ∀ x ∈ p3, x.block < W.heap.size := by obtain ⟨m, hm⟩ := k3; exact DataW.trod_lt m _ _ _ hm
  obtain ⟨ad3, cap3, l3, rfl, w3, hc3, hq3, hd3⟩ := open_nts (hval 3 22 v3 rfl rfl) h3
  clear hA0 hval0
  refine (walk W a0 w0 a1 w1 a2 w2 ad3 cap3 l3 w3 hc3 hq3).mono fun e W' ⟨he, hg⟩ => ?_
  subst he
  exact ⟨_, rfl, _, _, _, [], _, [], hW', (trodAll_cons_mk (shut_bool Try.underlying4 _) trodAll_mk0), (trodAll_cons_mk (shut_int Try.underlying3 w0) (trodAll_cons_mk (shut_int Try.underlying3 w1) (trodAll_cons_mk (shut_int Try.underlying3 w2) (trodAll_cons_mk (Below.trod laidOut (by kernel_rfl) (of_decide_eq_true (by kernel_rfl)) k3 hg lt3) trodAll_mk0)))), rfl, hg.frame _, fun h => by cases h⟩

theorem over : Rows.bookTwiceRow.holds Try.pinned (OpenSpec.ofChange Rows.bookTwiceSpec) :=
  OpenClaim.holds_of_wide 4 Try.f4 rfl rfl rfl rfl rfl rfl rfl ⟨rfl, rfl, rfl, rfl, rfl⟩ rfl rfl rfl rfl rfl (by kernel_rfl) Try.func4 (by kernel_rfl)
    (of_decide_eq_true (by kernel_rfl)) (by unfold Func.isWrapper; first | (rw [if_pos (by decide +kernel)]; kernel_rfl) | (rw [if_neg (by decide +kernel)]; exact ⟨rfl, rfl⟩))
    (fun os started H enc _ => lifted os started H enc)

theorem proved : Rows.BookTwiceSaid :=
  over
#print axioms proved
end Go.Proofs.Ytpphmfmfenifgaa
