/- BookJoin: at every n, self and two lists of notices: books that hear each other's lists come to one, which has of each node the greater notice; no condition. -/
import Derived.Test.YtpphmfmfenifgaaRows
import Derived.WalkKit
import Derived.ProofKit
import Derived.OpenShut
import Derived.Test.YtpphmfmfenifgaaBkj
import Derived.Test.YtpphmfmfenifgaaOpm
namespace Go.Proofs.Ytpphmfmfenifgaa
open Go.ChangeShapes Go.WideShapes Go.ChangeAt Go.RowKit
set_option linter.unusedVariables false

theorem laidOut : laidOutB Try.prog = true := by kernel_rfl
theorem own : ownKnob Try.prog.godebug = none := by kernel_rfl
open Go.Shelf
set_option maxHeartbeats 8000000 in
set_option maxRecDepth 100000 in
theorem walk (w : World) (a0 : Int) (w0 : (Lit.int .i64 a0).wf = true) (a1 : Int) (w1 : (Lit.int .i64 a1).wf = true) (ad2 : Option Addr) (cap2 : Nat) (l2 : List (Int × Int × Int)) (w2 : RdN w ad2 l2) (hc2 : ad2 = none → cap2 = 0) (hq2 : l2.length ≤ cap2) (ad3 : Option Addr) (cap3 : Nat) (l3 : List (Int × Int × Int)) (w3 : RdN w ad3 l3) (hc3 : ad3 = none → cap3 = 0) (hq3 : l3.length ≤ cap3) :
    Calls Try.prog 6 #[.int .i64 a0, .int .i64 a1, .slice ad2 l2.length cap2, .slice ad3 l3.length cap3] w fun e w' => e = .returned (.bool true) ∧ Below w.heap.size w w' := by
  have hmx : Try.prog.follows .mixedOrders = true := by kernel_rfl
  have hal := balive_any
  have hnw := new_any a0 a1 0
  have hli2 := fun W => light_any W ad2 l2.length cap2
  have hli3 := fun W => light_any W ad3 l3.length cap3
  have hbw : Below w.heap.size w w := Below.refl _ _
  by_cases hok : ¬ (a0 < 1 ∨ 100 < a0) ∧ ¬ (a1 < 0 ∨ a0 ≤ a1)
  · obtain ⟨h1, h2⟩ := hok
    obtain ⟨N, rfl⟩ : ∃ N : Nat, a0 = (N : Int) := ⟨a0.toNat, by omega⟩
    obtain ⟨s, rfl⟩ : ∃ s : Nat, a1 = (s : Int) := ⟨a1.toNat, by omega⟩
    have HOK : Hid (∀ (W V : World) (e : Ending), NewV (N : Int) (s : Int) 0 W e V → ∃ p g, e = .returned (.tuple #[.pointer (some ⟨p, 0, none⟩), .int .i64 0]) ∧ W.heap.size ≤ p ∧ W.heap.size ≤ g ∧ Bk V p g (bk0 N s 0)) := fun W V e hV => by simpa using hV.ok h1 h2 (by decide)
    have HB0 : Hid (Bok (bk0 N s 0)) := bk0_bok (by decide) (by decide)
    have HL0 : Hid ((bk0 N s 0).length = N ∧ 1 ≤ N ∧ N ≤ 100) := ⟨bk0_len _ _ _, by omega, by omega⟩
    clear h1 h2
    generalize bk0 N s 0 = L0 at HOK HB0 HL0
    have hS0 := Bks.nil w
    have HW2 : Hid (RdN w ad2 l2) := w2
    have HW3 : Hid (RdN w ad3 l3) := w3
    clear w2 w3
    by_cases h300 : l2.length ≤ 300
    · rw [decide_eq_true h300] at hli2
      by_cases h301 : l3.length ≤ 300
      · rw [decide_eq_true h301] at hli3
        have HBA : Hid (Bok (mrg L0 l2)) := mrg_bok HB0.out l2
        have HLA : Hid ((mrg L0 l2).length = N) := (mrg_len HB0.out l2).trans HL0.out.1
        have HBB : Hid (Bok (mrg L0 l3)) := mrg_bok HB0.out l3
        have HLB : Hid ((mrg L0 l3).length = N) := (mrg_len HB0.out l3).trans HL0.out.1
        have HMA : Hid (∀ (W : World) (p g : Nat), Bk W p g L0 → RdN W ad2 l2 → (l2 ≠ [] → ∀ a, ad2 = some a → a.block ≠ g) → Calls Try.prog 12 #[.pointer (some ⟨p, 0, none⟩), .slice ad2 l2.length cap2] W fun e w' => (∃ (N : Nat) (E : Int), e = .returned (.tuple #[.agg #[.int .u32 (wd N 0 : Nat), .int .u32 (wd N 1 : Nat), .int .u32 (wd N 2 : Nat), .int .u32 (wd N 3 : Nat)], .int .i64 E])) ∧ Bk w' p g (mrg L0 l2) ∧ W.grownBy w' (some g)) := fun W p g hk hr hne => merge_some hk ad2 cap2 l2 hr hne (by omega)
        have HMB : Hid (∀ (W : World) (p g : Nat), Bk W p g L0 → RdN W ad3 l3 → (l3 ≠ [] → ∀ a, ad3 = some a → a.block ≠ g) → Calls Try.prog 12 #[.pointer (some ⟨p, 0, none⟩), .slice ad3 l3.length cap3] W fun e w' => (∃ (N : Nat) (E : Int), e = .returned (.tuple #[.agg #[.int .u32 (wd N 0 : Nat), .int .u32 (wd N 1 : Nat), .int .u32 (wd N 2 : Nat), .int .u32 (wd N 3 : Nat)], .int .i64 E])) ∧ Bk w' p g (mrg L0 l3) ∧ W.grownBy w' (some g)) := fun W p g hk hr hne => merge_some hk ad3 cap3 l3 hr hne (by omega)
        generalize mrg L0 l2 = A1 at HBA HLA HMA
        generalize mrg L0 l3 = B1 at HBB HLB HMB
        have HLI : Hid (∀ (L : List N3), L.length = N → ∀ (W : World) (p g : Nat), Bk W p g L → Calls Try.prog 15 #[.pointer (some ⟨p, 0, none⟩)] W fun e w' => ∃ ad cap, e = .returned (.slice ad N cap) ∧ RdN w' ad L ∧ (∀ a, ad = some a → W.heap.size ≤ a.block) ∧ Below W.heap.size W w') := fun L hL W p g hk => (blist_any hk (by rw [hL]; exact HL0.out.2.1) (by rw [hL]; exact HL0.out.2.2)).mono (by
          rintro e w' ⟨v, rfl, hm, hb⟩
          rw [filter_all] at hm
          obtain ⟨ad, cap, rfl, hr, ha⟩ := hm.rd
          exact ⟨ad, cap, by rw [hL], hr, ha, hb⟩)
        have HM2 : Hid (∀ (L M : List N3), M.length = N → ∀ (W : World) (p g : Nat) (ad : Option Addr) (cap : Nat), Bk W p g L → RdN W ad M → (∀ a, ad = some a → a.block ≠ g) → Calls Try.prog 12 #[.pointer (some ⟨p, 0, none⟩), .slice ad N cap] W fun e w' => (∃ (N : Nat) (E : Int), e = .returned (.tuple #[.agg #[.int .u32 (wd N 0 : Nat), .int .u32 (wd N 1 : Nat), .int .u32 (wd N 2 : Nat), .int .u32 (wd N 3 : Nat)], .int .i64 E])) ∧ Bk w' p g (mrg L M) ∧ W.grownBy w' (some g)) := by
          intro L M hM W p g ad cap hk hr hne
          have := merge_some hk ad cap M hr (fun _ => hne) (by rw [hM]; have := HL0.out.2.2; omega)
          rwa [hM] at this
        have HJ : Hid (mrg B1 A1 = mrg A1 B1 ∧ (mrg A1 B1).length = N ∧ ∀ (i : Nat) (x y : N3), A1[i]? = some x → B1[i]? = some y → rv x.1 x.2.1 x.2.2 y.1 y.2.1 y.2.2 = true ∧ (mrg A1 B1)[i]? = some (x.1, mxt x.2.1 x.2.2 y.2.1 y.2.2, mxk x.2.1 x.2.2 y.2.1 y.2.2)) := by
          have e1 : A1.length = B1.length := HLA.out.trans HLB.out.symm
          have e2 : 1 ≤ A1.length := by rw [HLA.out]; exact HL0.out.2.1
          have e3 : A1.length ≤ 100 := by rw [HLA.out]; exact HL0.out.2.2
          exact ⟨(join_same HBA.out HBB.out e1 e2 e3).symm, (mrg_len HBA.out B1).trans HLA.out, fun i x y hx hy => join_at HBA.out HBB.out e1 e2 e3 hx hy⟩
        have HMX : Hid (∀ (W : World) (p g : Nat) (ad : Option Addr) (cap : Nat), Bk W p g A1 → RdN W ad B1 → (∀ a, ad = some a → a.block ≠ g) → Calls Try.prog 12 #[.pointer (some ⟨p, 0, none⟩), .slice ad N cap] W fun e w' => (∃ (N : Nat) (E : Int), e = .returned (.tuple #[.agg #[.int .u32 (wd N 0 : Nat), .int .u32 (wd N 1 : Nat), .int .u32 (wd N 2 : Nat), .int .u32 (wd N 3 : Nat)], .int .i64 E])) ∧ Bk w' p g (mrg A1 B1) ∧ W.grownBy w' (some g)) := HM2.out A1 B1 HLB.out
        have HMY : Hid (∀ (W : World) (p g : Nat) (ad : Option Addr) (cap : Nat), Bk W p g B1 → RdN W ad A1 → (∀ a, ad = some a → a.block ≠ g) → Calls Try.prog 12 #[.pointer (some ⟨p, 0, none⟩), .slice ad N cap] W fun e w' => (∃ (N : Nat) (E : Int), e = .returned (.tuple #[.agg #[.int .u32 (wd N 0 : Nat), .int .u32 (wd N 1 : Nat), .int .u32 (wd N 2 : Nat), .int .u32 (wd N 3 : Nat)], .int .i64 E])) ∧ Bk w' p g (mrg A1 B1) ∧ W.grownBy w' (some g)) := by
          have := HM2.out B1 A1 HLA.out
          rw [HJ.out.1] at this
          exact this
        clear HM2
        generalize mrg A1 B1 = Z at HJ HMX HMY
        have HSA : Hid (∀ (W : World) (p g p2 g2 : Nat), Bk W p g Z → Bk W p2 g2 Z → Calls Try.prog 13 #[.pointer (some ⟨p, 0, none⟩), .pointer (some ⟨p2, 0, none⟩)] W fun e w' => e = .returned (.bool true) ∧ Below W.heap.size W w') := by
          intro W p g p2 g2 hk hk2
          have := bsame_any hk hk2 (by rw [HJ.out.2.1]; have := HL0.out.2.2; omega)
          rw [decide_eq_true rfl] at this
          exact this
        go_enter Try.func6, Try.ntmps6
        go_wp2_with (first | (go_at_call 8; first | (have hz := hS0; (with_reducible refine (hnw _).mono ?_); rintro e u1 hV; obtain ⟨pa, ga, rfl, hp, hg, hk⟩ := HOK.out _ _ _ hV; have hS1 : Bks w [(pa, ga, L0)] u1 := hS0.add hV.1 hk hp hg; clear hS0 hz hV hp hg hk) | (have hz := hS1; (with_reducible refine (hnw _).mono ?_); rintro e u2 hV; obtain ⟨pb, gb, rfl, hp, hg, hk⟩ := HOK.out _ _ _ hV; have hS2 : Bks w [(pa, ga, L0), (pb, gb, L0)] u2 := hS1.add hV.1 hk hp hg; clear hS1 hz hV hp hg hk; have k1 := HMA.out u2 pa ga (hS2.get 0 rfl) (HW2.out.carry hS2.below) (HW2.out.ne (hS2.base 0 rfl)))) | (go_at_call 9; first | ((with_reducible refine (hli2 _).mono ?_); rintro e u ⟨rfl, rfl⟩) | ((with_reducible refine (hli3 _).mono ?_); rintro e u ⟨rfl, rfl⟩)) | (go_at_call 12; first | (have hz := hS2; (with_reducible refine k1.mono ?_); rintro e v1 ⟨⟨MS, ME, rfl⟩, hk, hg⟩; have hS3 : Bks w [(pa, ga, A1), (pb, gb, L0)] v1 := hS2.turn 0 rfl hk hg; clear hS2 hz k1 hk hg; have k2 := HMB.out v1 pb gb (hS3.get 1 rfl) (HW3.out.carry hS3.below) (HW3.out.ne (hS3.base 1 rfl))) | (have hz := hS3; (with_reducible refine k2.mono ?_); rintro e v2 ⟨⟨MS, ME, rfl⟩, hk, hg⟩; have hS4 : Bks w [(pa, ga, A1), (pb, gb, B1)] v2 := hS3.turn 1 rfl hk hg; clear hS3 hz k2 hk hg; have k3 := HLI.out A1 HLA.out v2 pa ga (hS4.get 0 rfl); have hga := (hS4.get 0 rfl).glt; have hgb := (hS4.get 1 rfl).glt) | (have hz := hS6; (with_reducible refine k5.mono ?_); rintro e v5 ⟨⟨MS, ME, rfl⟩, hk, hg⟩; have hS7 : Bks w [(pa, ga, Z), (pb, gb, B1)] v5 := hS6.turn 0 rfl hk hg; have hrx5 := hrx4.turn hg (fun _ a ha => (by have := hax a ha; omega)); have hry5 := hry.turn hg (fun _ a ha => (by have := hay a ha; have := hb3.size; omega)); clear hS6 hz k5 hk hg; have k6 := HMY.out v5 pb gb adx capx (hS7.get 1 rfl) hrx5 (fun a ha => (by have := hax a ha; omega))) | (have hz := hS7; (with_reducible refine k6.mono ?_); rintro e v6 ⟨⟨MS, ME, rfl⟩, hk, hg⟩; have hS8 : Bks w [(pa, ga, Z), (pb, gb, Z)] v6 := hS7.turn 1 rfl hk hg; have hrx6 := hrx5.turn hg (fun _ a ha => (by have := hax a ha; omega)); have hry6 := hry5.turn hg (fun _ a ha => (by have := hay a ha; have := hb3.size; omega)); clear hS7 hz k6 hk hg; have k7 := HLI.out Z HJ.out.2.1 v6 pa ga (hS8.get 0 rfl))) | (go_at_call 15; first | (have hz := hS4; (with_reducible refine k3.mono ?_); rintro e v3 ⟨adx, capx, rfl, hrx, hax, hb3⟩; have hS5 := hS4.carry hb3; clear hS4 hz k3; have k4 := HLI.out B1 HLB.out v3 pb gb (hS5.get 1 rfl)) | (have hz := hS5; (with_reducible refine k4.mono ?_); rintro e v4 ⟨ady, capy, rfl, hry, hay, hb4⟩; have hS6 := hS5.carry hb4; have hrx4 := hrx.carry hb4; clear hS5 hz k4; have k5 := HMX.out v4 pa ga ady capy (hS6.get 0 rfl) hry (fun a ha => (by have := hay a ha; have := hb3.size; omega))) | (have hz := hS8; (with_reducible refine k7.mono ?_); rintro e v7 ⟨adz, capz, rfl, hrz, haz, hb7⟩; have hS9 := hS8.carry hb7; have hrx7 := hrx6.carry hb7; have hry7 := hry6.carry hb7; clear hS8 hz k7; have k8 := HSA.out v7 pa ga pb gb (hS9.get 0 rfl) (hS9.get 1 rfl))) | (go_at_call 13; (with_reducible refine k8.mono ?_); rintro e v8 ⟨rfl, hb8⟩; have hrx8 := hrx7.carry hb8; have hry8 := hry7.carry hb8; have hrz8 := hrz.carry hb8; have hbw8 := bel2 hS9.below hb8))
        have HNE : Hid (∀ L : List N3, L.length = N → L ≠ []) := fun L hL e => by
          have := HL0.out.2.1
          rw [e] at hL
          simp at hL
          omega
        obtain ⟨bx, ox, rfl, hbx, hxat⟩ := hrx8 (HNE.out A1 HLA.out)
        obtain ⟨by', oy, rfl, hby, hyat⟩ := hry8 (HNE.out B1 HLB.out)
        obtain ⟨bz, oz, rfl, hbz, hzat⟩ := hrz8 (HNE.out Z HJ.out.2.1)
        have HX : Hid (NtsAt v8 bx ox A1) := hxat
        have HY : Hid (NtsAt v8 by' oy B1) := hyat
        have HZ : Hid (NtsAt v8 bz oz Z) := hzat
        clear hxat hyat hzat hS9 hrx hrx4 hrx5 hrx6 hrx7 hry hry5 hry6 hry7 hrz hax hay haz hb3 hb4 hb7 hb8 k8 HLI HMA HMB HMX HMY HSA HOK hnw hli2 hli3 hga hgb
        go_loopw [16] (fun i wz => ∃ (j : Nat), i = .int .i64 j ∧ j ≤ N ∧ Below v8.heap.size v8 wz) (fun i _ => N - vnatR i)
        case atStart => exact ⟨0, rfl, Nat.zero_le _, Below.refl _ _⟩
        case round =>
          obtain ⟨j, rfl, hjl, hbr⟩ := hrel
          by_cases hjn : j < N
          · have hji : (j : Int) < (N : Int) := by omega
            have hN100 : N ≤ 100 := HL0.out.2.2
            obtain ⟨⟨o, t, q⟩, hx⟩ : ∃ x, A1[j]? = some x := ⟨_, List.getElem?_eq_getElem (by rw [HLA.out]; exact hjn)⟩
            obtain ⟨⟨o', t', q'⟩, hy⟩ : ∃ y, B1[j]? = some y := ⟨_, List.getElem?_eq_getElem (by rw [HLB.out]; exact hjn)⟩
            obtain ⟨hrv, hz⟩ := HJ.out.2.2 j _ _ hx hy
            dsimp only at hrv hz
            have hM := max_any o t q o' t' q'
            rw [mxV, if_pos hrv] at hM
            generalize mxt t q t' q' = mt at hM hz
            generalize mxk t q t' q' = mk at hM hz
            have hxr := NtsAt.carry HX.out hbx hbr
            have hyr := NtsAt.carry HY.out hby hbr
            have hzr := NtsAt.carry HZ.out hbz hbr
            have hbx' := Nat.lt_of_lt_of_le hbx hbr.size
            have hby' := Nat.lt_of_lt_of_le hby hbr.size
            have hbz' := Nat.lt_of_lt_of_le hbz hbr.size
            have HXR : Hid (NtsAt wr bx ox A1) := hxr
            have HYR : Hid (NtsAt wr by' oy B1) := hyr
            have HZR : Hid (NtsAt wr bz oz Z) := hzr
            have hx' : Hid (A1[j]? = some (o, t, q)) := hx
            have hy' : Hid (B1[j]? = some (o', t', q')) := hy
            have hz' : Hid (Z[j]? = some (o, mt, mk)) := hz
            clear hxr hyr hzr hx hy hz hrv
            go_wp2
            rename_i Q0 K0 hK
            refine wp_region_any hmx ?_
            refine wpAny_tabG (G := (Nat)) (fun g i__ => ([(.slice (some ⟨bx, ox, none⟩) N capx), (.int .i64 (j : Int)), (.pointer (some ⟨bx, ox + j * 3, none⟩)), (nt o t q), (.slice (some ⟨by', oy, none⟩) N capy), (.int .i64 (j : Int)), (.pointer (some ⟨by', oy + j * 3, none⟩)), (nt o' t' q'), (.tuple #[nt o mt mk, .int .i64 0]), (.tuple #[nt o mt mk, .int .i64 0]), (nt o mt mk), (.int .i64 0), (.pointer (some ⟨g, 0, none⟩)), undef, (.int .i64 0)] : List Value).getD i__ undef) (fun g d W' => JN wr o mt mk g (d 12) (d 13) W') (by kernel_rfl) (0) ⟨(Below.refl _ _).drew, fun e => by cases e⟩ ?step1 ?fin1
            case step1 =>
              intro i o ho
              have hi : i < 15 := getElem?_lt ho
              match i, hi, ho with
              | 0, _, ho =>
                cases ho
                refine stepG_of (fun g d hdep => ?_)
                exact step_move rfl trivial _ rfl (by kernel_rfl)
              | 1, _, ho =>
                cases ho
                refine stepG_of (fun g d hdep => ?_)
                exact step_move rfl trivial _ rfl (by kernel_rfl)
              | 2, _, ho =>
                cases ho
                refine stepG_of (fun g d hdep => ?_)
                exact step_indexAddr rfl trivial _ _ _ _ _ rfl rfl rfl (fun w hw => idx_n bx ox _ _ j hjn w)
              | 3, _, ho =>
                cases ho
                refine stepG_of (fun g d hdep => ?_)
                exact step_load rfl trivial _ _ _ rfl rfl (fun w hw => load_at (HXR.out.carry hbx' hw.below) hx'.out)
              | 4, _, ho =>
                cases ho
                refine stepG_of (fun g d hdep => ?_)
                exact step_move rfl trivial _ rfl (by kernel_rfl)
              | 5, _, ho =>
                cases ho
                refine stepG_of (fun g d hdep => ?_)
                exact step_move rfl trivial _ rfl (by kernel_rfl)
              | 6, _, ho =>
                cases ho
                refine stepG_of (fun g d hdep => ?_)
                exact step_indexAddr rfl trivial _ _ _ _ _ rfl rfl rfl (fun w hw => idx_n by' oy _ _ j hjn w)
              | 7, _, ho =>
                cases ho
                refine stepG_of (fun g d hdep => ?_)
                exact step_load rfl trivial _ _ _ rfl rfl (fun w hw => load_at (HYR.out.carry hby' hw.below) hy'.out)
              | 8, _, ho =>
                cases ho
                refine stepG_of (fun g d hdep => ?_)
                exact step_call rfl trivial 19 _ _ [(nt o t q), (nt o' t' q')] rfl (by kernel_rfl) (enters_of Try.func19 (by kernel_rfl) rfl) (fun w hw => (hM w).mono (by rintro e w' ⟨rfl, hb⟩; exact ⟨rfl, hw.carry hb⟩))
              | 9, _, ho =>
                cases ho
                refine stepG_of (fun g d hdep => ?_)
                exact step_move rfl trivial _ rfl (by kernel_rfl)
              | 10, _, ho =>
                cases ho
                refine stepG_of (fun g d hdep => ?_)
                exact step_extract rfl trivial _ _ _ rfl rfl (fun w hw => ext2_0 _ _ w)
              | 11, _, ho =>
                cases ho
                refine stepG_of (fun g d hdep => ?_)
                exact step_extract rfl trivial _ _ _ rfl rfl (fun w hw => ext2_1 _ _ w)
              | 12, _, ho =>
                cases ho
                exact stepG_newN rfl rfl rfl (fun g d W' hJ hun hcl => ⟨W'.heap.size, (fun j hj => match j, hj with | 12, hj => (by rw [hj] at hun; cases hun)  | 0, _ => rfl | 1, _ => rfl | 2, _ => rfl | 3, _ => rfl | 4, _ => rfl | 5, _ => rfl | 6, _ => rfl | 7, _ => rfl | 8, _ => rfl | 9, _ => rfl | 10, _ => rfl | 11, _ => rfl | 13, _ => rfl | 14, _ => rfl | _ + 15, _ => rfl), rfl, hJ.new (by cases h : d 13 with | false => rfl | true => exact absurd (hcl 13 _ rfl h 12 (by kernel_rfl)) (by rw [hun]; simp))⟩)
              | 13, _, ho =>
                cases ho
                refine stepG_of (fun g d hdep => ?_)
                exact step_store rfl trivial rfl _ _ _ _ _ rfl rfl rfl (fun w' hw => by have h12 := hdep 12 (by kernel_rfl); rw [h12] at hw; exact ⟨_, hw.store.1, by show JN wr o mt mk g (d 12) true _; rw [h12]; exact hw.store.2⟩)
              | 14, _, ho =>
                cases ho
                refine stepG_of (fun g d hdep => ?_)
                exact step_assign rfl trivial _ rfl (by kernel_rfl) (fun _ h => h)
            intro g d W hall hW
            first | refine hK _ _ ?_ | refine (‹∀ (a : Act) (w : World), Code.wp Try.prog _ _ a w → _›) _ _ ?_ | skip
            simp only [finL, List.getD_cons_zero, List.getD_cons_succ, Nat.zero_add, Nat.reduceAdd, List.setIfInBounds_toArray, List.set_cons_zero, List.set_cons_succ]
            rw [hall 12 (by decide), hall 13 (by decide)] at hW
            clear hK hall
            have hbW := hW.below
            have hnW : NB W g o mt mk := by simpa using (hW.box rfl).2
            go_wp2
            rename_i Q1 K1 hK
            refine wp_region_any hmx ?_
            refine wpAny_pure (fun i__ => ([(.int .i64 0), (.bool false), (.bool false), (nt o mt mk), (.slice (some ⟨bz, oz, none⟩) N capz), (.int .i64 (j : Int)), (.pointer (some ⟨bz, oz + j * 3, none⟩)), (nt o mt mk), (.bool false), (.bool false)] : List Value).getD i__ undef) (fun V => NB V g o mt mk ∧ Below wr.heap.size wr V) (by kernel_rfl) ⟨hnW.carry (Below.refl _ _).drew, hbW.drew⟩ ?_ ?_
            · refine (stepsFrom_cons ?_ (stepsFrom_cons ?_ (stepsFrom_cons ?_ (stepsFrom_cons ?_ (stepsFrom_cons ?_ (stepsFrom_cons ?_ (stepsFrom_cons ?_ (stepsFrom_cons ?_ (stepsFrom_cons ?_ (stepsFrom_cons ?_ trivial))))))))))
              · exact step_move rfl trivial _ rfl (by kernel_rfl)
              · exact step_binOp rfl trivial _ _ _ _ _ _ _ rfl rfl rfl (fun w hw => bin_neq .i64 0 0)
              · exact step_move rfl trivial _ rfl (by kernel_rfl)
              · exact step_load rfl (by exact ⟨_, rfl, by kernel_rfl⟩) _ _ _ rfl rfl (fun w hw => load_nt hw.1)
              · exact step_move rfl (by exact ⟨_, rfl, by kernel_rfl⟩) _ rfl (by kernel_rfl)
              · exact step_move rfl (by exact ⟨_, rfl, by kernel_rfl⟩) _ rfl (by kernel_rfl)
              · exact step_indexAddr rfl (by exact ⟨_, rfl, by kernel_rfl⟩) _ _ _ _ _ rfl rfl rfl (fun w hw => idx_n bz oz _ _ j hjn w)
              · exact step_load rfl (by exact ⟨_, rfl, by kernel_rfl⟩) _ _ _ rfl rfl (fun w hw => load_at (HZR.out.carry hbz' hw.2) hz'.out)
              · exact step_binOp rfl (by exact ⟨_, rfl, by kernel_rfl⟩) _ _ _ _ _ _ _ rfl rfl rfl (fun w hw => (bin_neqn _ _ _ _ _ _).trans (by simp))
              · exact step_pick rfl trivial _ _ _ false rfl (by kernel_rfl) (by kernel_rfl)
            intro W hW
            first | refine hK _ _ ?_ | refine (‹∀ (a : Act) (w : World), Code.wp Try.prog _ _ a w → _›) _ _ ?_
            simp only [finL, List.getD_cons_zero, List.getD_cons_succ, Nat.zero_add, Nat.reduceAdd, List.setIfInBounds_toArray, List.set_cons_zero, List.set_cons_succ]
            clear hK
            go_wp2
            go_roundw
            case rel => exact ⟨j + 1, by simp, by omega, bel2 hbr hW.2⟩
            case measure => simp [vnatR]; omega
          · have hji : ¬ (j : Int) < (N : Int) := by omega
            go_wp2_with (go_at_call 10; (with_reducible refine (hal _).mono ?_); rintro e z1 ⟨rfl, hb1⟩)
            go_ret
            exact ⟨rfl, bel2 (bel2 hbw8 hbr) hb1⟩
      · rw [decide_eq_false h301] at hli3
        go_enter Try.func6, Try.ntmps6
        go_wp2_with (first | (go_at_call 8; (with_reducible refine (hnw _).mono ?_); rintro e u hV; obtain ⟨p, g, rfl, hp, hg, hk⟩ := HOK.out _ _ _ hV; have hbw := bel2 hbw hV.1; clear hV hp hg hk) | (go_at_call 9; first | ((with_reducible refine (hli2 _).mono ?_); rintro e u ⟨rfl, rfl⟩) | ((with_reducible refine (hli3 _).mono ?_); rintro e u ⟨rfl, rfl⟩)) | (go_at_call 10; (with_reducible refine (hal _).mono ?_); rintro e u ⟨rfl, hb⟩; have hbw := bel2 hbw hb))
        go_ret
        exact ⟨rfl, hbw⟩
    · rw [decide_eq_false h300] at hli2
      go_enter Try.func6, Try.ntmps6
      go_wp2_with (first | (go_at_call 8; (with_reducible refine (hnw _).mono ?_); rintro e u hV; obtain ⟨p, g, rfl, hp, hg, hk⟩ := HOK.out _ _ _ hV; have hbw := bel2 hbw hV.1; clear hV hp hg hk) | (go_at_call 9; (with_reducible refine (hli2 _).mono ?_); rintro e u ⟨rfl, rfl⟩) | (go_at_call 10; (with_reducible refine (hal _).mono ?_); rintro e u ⟨rfl, hb⟩; have hbw := bel2 hbw hb))
      go_ret
      exact ⟨rfl, hbw⟩
  · clear w2 w3 hc2 hc3 hq2 hq3
    have hbad : ¬ (¬ (a0 < 1 ∨ 100 < a0) ∧ ¬ (a1 < 0 ∨ a0 ≤ a1) ∧ ¬ ((0 : Int) < 0 ∨ 1048576 < (0 : Int))) := fun h => hok ⟨h.1, h.2.1⟩
    go_enter Try.func6, Try.ntmps6
    go_wp2_with (first | (go_at_call 8; (with_reducible refine (hnw _).mono ?_); rintro e u hV; obtain ⟨E, hE, rfl⟩ := hV.bad hbad; have hbw := bel2 hbw hV.1; clear hV) | (go_at_call 10; (with_reducible refine (hal _).mono ?_); rintro e u ⟨rfl, hb⟩; have hbw := bel2 hbw hb))
    go_ret
    exact ⟨rfl, hbw⟩

set_option maxRecDepth 100000 in
theorem lifted (os : Os) (started : os.Started) (H : Type) (enc : TypeId × Value → H) :
    ReturnsInHanded {} Try.checked os 6 .any (Rows.bookJoinSpec.pre6 enc Try.prog Try.f6 Rows.bookJoinRow.domain false) (Rows.bookJoinSpec.post enc Try.prog Try.f6 false true false false) := by
  refine returnsInHanded_of_change (C := Try.checked) own started (by kernel_rfl) Try.func6
    (ChangeSpec.witness6 (enc := enc) (C := Try.checked) false ⟨#[], #[.int .i64 0, .int .i64 0, .slice none 0 0, .slice none 0 0], []⟩ 8 (by kernel_rfl) (by kernel_rfl) (by kernel_rfl) (by kernel_rfl)) ?_
  intro W base args ds gs before hval0 hW hcnd _
  have hval : ∀ (j : Nat) t v, Try.f6.params[j]? = some t → args[j]? = some v → Value.okWide Try.prog W .any base t v := hval0
  have hW' := hW
  obtain ⟨p, q, hA0, hV, rfl, hfz, hnd⟩ := hW
  have hA : DataW.TrodAll enc Try.prog W 0 (fun _ => true) true Try.f6.params.toList args.toList ds p := hA0
  rw [Try.params6] at hA hval
  obtain ⟨v0, vs0, d0, ds0, p0, q0, hargs, rfl, rfl, h0, r0⟩ := trodAll_cons hA
  obtain ⟨v1, vs1, d1, ds1, p1, q1, rfl, rfl, rfl, h1, r1⟩ := trodAll_cons r0
  obtain ⟨v2, vs2, d2, ds2, p2, q2, rfl, rfl, rfl, h2, r2⟩ := trodAll_cons r1
  obtain ⟨v3, vs3, d3, ds3, p3, q3, rfl, rfl, rfl, h3, r3⟩ := trodAll_cons r2
  obtain ⟨rfl, rfl, rfl⟩ := trodAll_nil r3
  obtain rfl : args = #[v0, v1, v2, v3] := by cases args; simp_all
  obtain ⟨rfl, rfl⟩ := trodVars_none hV
  obtain ⟨a0, rfl, rfl, rfl, w0⟩ := open_int Try.underlying3 (hval 0 3 v0 rfl rfl) h0
  obtain ⟨a1, rfl, rfl, rfl, w1⟩ := open_int Try.underlying3 (hval 1 3 v1 rfl rfl) h1
  have k2 := h2
  have lt2 : ∀ x ∈ p2, x.block < W.heap.size := by obtain ⟨m, hm⟩ := k2; exact DataW.trod_lt m _ _ _ hm
  obtain ⟨ad2, cap2, l2, rfl, w2, hc2, hq2, hd2⟩ := open_nts (hval 2 22 v2 rfl rfl) h2
  have k3 := h3
  have lt3 : ∀ x ∈ p3, x.block < W.heap.size := by obtain ⟨m, hm⟩ := k3; exact DataW.trod_lt m _ _ _ hm
  obtain ⟨ad3, cap3, l3, rfl, w3, hc3, hq3, hd3⟩ := open_nts (hval 3 22 v3 rfl rfl) h3
  clear hA0 hval0
  refine (walk W a0 w0 a1 w1 ad2 cap2 l2 w2 hc2 hq2 ad3 cap3 l3 w3 hc3 hq3).mono fun e W' ⟨he, hg⟩ => ?_
  subst he
  exact ⟨_, rfl, _, _, _, [], _, [], hW', (trodAll_cons_mk (shut_bool Try.underlying4 _) trodAll_mk0), (trodAll_cons_mk (shut_int Try.underlying3 w0) (trodAll_cons_mk (shut_int Try.underlying3 w1) (trodAll_cons_mk (Below.trod laidOut (by kernel_rfl) (of_decide_eq_true (by kernel_rfl)) k2 hg lt2) (trodAll_cons_mk (Below.trod laidOut (by kernel_rfl) (of_decide_eq_true (by kernel_rfl)) k3 hg lt3) trodAll_mk0)))), rfl, hg.frame _, fun h => by cases h⟩

theorem over : Rows.bookJoinRow.holds Try.pinned (OpenSpec.ofChange Rows.bookJoinSpec) :=
  OpenClaim.holds_of_wide 6 Try.f6 rfl rfl rfl rfl rfl rfl rfl ⟨rfl, rfl, rfl, rfl, rfl⟩ rfl rfl rfl rfl rfl (by kernel_rfl) Try.func6 (by kernel_rfl)
    (of_decide_eq_true (by kernel_rfl)) (by unfold Func.isWrapper; first | (rw [if_pos (by decide +kernel)]; kernel_rfl) | (rw [if_neg (by decide +kernel)]; exact ⟨rfl, rfl⟩))
    (fun os started H enc _ => lifted os started H enc)

theorem proved : Rows.BookJoinSaid :=
  over
#print axioms proved
end Go.Proofs.Ytpphmfmfenifgaa
