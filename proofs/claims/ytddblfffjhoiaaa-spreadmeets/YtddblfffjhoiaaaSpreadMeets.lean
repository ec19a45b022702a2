/- SpreadMeets (promise P1603): a book that absorbs what is above it has all that is in Level of both, but for mistakes of itself; what is above it then are such alone. For every input; nothing is asked of it. -/
import Derived.Test.YtddblfffjhoiaaaRows
import Derived.WalkKit
import Derived.ProofKit
import Derived.OpenShut
import Derived.Test.YtddblfffjhoiaaaJnJ4
import Derived.Test.YtddblfffjhoiaaaJnJ3
namespace Go.Proofs.Ytddblfffjhoiaaa
open Go.ChangeShapes Go.WideShapes Go.ChangeAt Go.RowKit
set_option linter.unusedVariables false

theorem laidOut : laidOutB Try.prog = true := by kernel_rfl
theorem own : ownKnob Try.prog.godebug = none := by kernel_rfl
open Go.Shelf
set_option maxHeartbeats 16000000 in
set_option maxRecDepth 100000 in
theorem walk (w : World) (a0 : Int) (w0 : (Lit.int .i64 a0).wf = true) (a1 : Int) (w1 : (Lit.int .i64 a1).wf = true) (ad2 : Option Addr) (cap2 : Nat) (l2 : List (Int × Int × Int)) (w2 : RdN w ad2 l2) (hc2 : ad2 = none → cap2 = 0) (hq2 : l2.length ≤ cap2) (ad3 : Option Addr) (cap3 : Nat) (l3 : List (Int × Int × Int)) (w3 : RdN w ad3 l3) (hc3 : ad3 = none → cap3 = 0) (hq3 : l3.length ≤ cap3) :
    Calls Try.prog 3 #[.int .i64 a0, .int .i64 a1, .slice ad2 l2.length cap2, .slice ad3 l3.length cap3] w fun e w' => e = .returned (.bool true) ∧ Below w.heap.size w w' := by
  have hal := alive_any
  have hl2 := fun W => light_any W ad2 l2.length cap2
  have hl3 := fun W => light_any W ad3 l3.length cap3
  have hbw : Below w.heap.size w w := Below.refl _ _
  have HW2 : Hid (RdN w ad2 l2) := w2
  have HW3 : Hid (RdN w ad3 l3) := w3
  clear w2 w3
  by_cases hok : 1 ≤ a0 ∧ a0 ≤ 100 ∧ 0 ≤ a1 ∧ a1 < a0 ∧ l2.length ≤ 300 ∧ l3.length ≤ 300
  case neg =>
    go_enter Try.func3, Try.ntmps3
    go_wp2_with (first | (go_at_call 8; (with_reducible refine (hal _).mono ?_); rintro e u ⟨rfl, hb⟩) | (go_at_call 7; first | ((with_reducible refine (hl2 _).mono ?_); rintro e u ⟨rfl, hu⟩; obtain rfl := hu.symm) | ((with_reducible refine (hl3 _).mono ?_); rintro e u ⟨rfl, hu⟩; obtain rfl := hu.symm)))
    all_goals first | (go_ret; exact ⟨rfl, hb⟩) | (exfalso; first | omega | (simp at *; omega))
  obtain ⟨h1, h2, h3, h4, h5, h6⟩ := hok
  obtain ⟨N, rfl⟩ : ∃ N : Nat, a0 = (N : Int) := ⟨a0.toNat, by omega⟩
  obtain ⟨s, rfl⟩ : ∃ s : Nat, a1 = (s : Int) := ⟨a1.toNat, by omega⟩
  rw [decide_eq_true h5] at hl2
  rw [decide_eq_true h6] at hl3
  have hN0 : 0 < N := by omega
  obtain ⟨s', hs'⟩ : ∃ s', (s + 1) % N = s' := ⟨_, rfl⟩
  have hs'N : s' < N := by rw [← hs']; exact Nat.mod_lt _ hN0
  have hwr : IntKind.i64.wrap ((s : Int) + 1) = ((s + 1 : Nat) : Int) := by
    rw [IntKind.wrap_i64]
    omega
  have HBA : Hid (Bok (mrg (bk0 N s 0) l2)) := mrg_bok (bk0_bok (by omega) (by omega)) _
  have HBB : Hid (Bok (mrg (bk0 N s' 0) l3)) := mrg_bok (bk0_bok (by omega) (by omega)) _
  have HLA : Hid ((mrg (bk0 N s 0) l2).length = N) := (mrg_len (bk0_bok (by omega) (by omega)) _).trans (bk0_len _ _ _)
  have HLB : Hid ((mrg (bk0 N s' 0) l3).length = N) := (mrg_len (bk0_bok (by omega) (by omega)) _).trans (bk0_len _ _ _)
  have HMA : Hid (∀ V, Below w.heap.size w V → Calls Try.prog 9 #[.int .i64 (N : Int), .int .i64 (s : Int), .slice ad2 l2.length cap2] V fun e w' => ∃ p g, e = .returned (.pointer (some ⟨p, 0, none⟩)) ∧ V.heap.size ≤ p ∧ V.heap.size ≤ g ∧ Bk w' p g (mrg (bk0 N s 0) l2) ∧ Below V.heap.size V w') := fun V hV => made_any N s (by omega) (by omega) (by omega) ad2 cap2 l2 (HW2.out.carry hV) (by omega)
  have HMB : Hid (∀ V, Below w.heap.size w V → Calls Try.prog 9 #[.int .i64 (N : Int), .int .i64 (s' : Int), .slice ad3 l3.length cap3] V fun e w' => ∃ p g, e = .returned (.pointer (some ⟨p, 0, none⟩)) ∧ V.heap.size ≤ p ∧ V.heap.size ≤ g ∧ Bk w' p g (mrg (bk0 N s' 0) l3) ∧ Below V.heap.size V w') := fun V hV => made_any N s' (by omega) (by omega) (by omega) ad3 cap3 l3 (HW3.out.carry hV) (by omega)
  generalize mrg (bk0 N s 0) l2 = A at HBA HLA HMA
  generalize mrg (bk0 N s' 0) l3 = B at HBB HLB HMB
  obtain ⟨M2, hM2⟩ : ∃ M, l2.length = M := ⟨_, rfl⟩
  obtain ⟨M3, hM3⟩ : ∃ M, l3.length = M := ⟨_, rfl⟩
  rw [hM2] at h5 hl2 HMA ⊢
  rw [hM3] at h6 hl3 HMB ⊢
  clear hM2 hM3 HW2 HW3
  have hAB : A.length = B.length := by rw [HLA.out, HLB.out]
  have hA1 : 1 ≤ A.length := by rw [HLA.out]; omega
  have hA2 : A.length ≤ 100 := by rw [HLA.out]; omega
  obtain ⟨hup, hmeet⟩ := meets HBA.out HBB.out hAB hA1 hA2 (s : Int)
  obtain ⟨hlE, hlN, hlP⟩ := lvl2 hAB
  have hrest := rest_one HBA.out HBB.out hAB hA1 hA2 (s : Int)
  obtain ⟨⟨o0, t0, k0⟩, hown⟩ : ∃ x, A[s]? = some x := ⟨_, List.getElem?_eq_getElem (by rw [HLA.out]; omega)⟩
  obtain rfl : o0 = (s : Int) := (HBA.out s _ hown).1
  have HPT : Hid (∀ j, j < N → ∃ x y, (abs A (s : Int) (abv B A))[j]? = some x ∧ (lvl [A, B])[j]? = some y ∧ (x = y ∨ ((j : Int) = (s : Int) ∧ x = ((s : Int), t0, k0) ∧ y.2.2 = 1))) := fun j hj => by
    obtain ⟨x, hx⟩ : ∃ x, A[j]? = some x := ⟨_, List.getElem?_eq_getElem (by rw [HLA.out]; omega)⟩
    obtain ⟨y, hy⟩ : ∃ y, B[j]? = some y := ⟨_, List.getElem?_eq_getElem (by rw [HLB.out]; omega)⟩
    refine ⟨_, _, hmeet j x y hx hy, hlP j x y hx hy, ?_⟩
    cases hb : btx y x with
    | false => exact .inl (by simp)
    | true =>
      cases hn : nm (s : Int) y with
      | true => exact .inl (by simp)
      | false =>
        refine .inr ?_
        simp [nm] at hn
        have hy1 := (HBB.out j y hy).1
        have hjs : j = s := by omega
        subst hjs
        rw [hown] at hx
        cases hx
        exact ⟨rfl, by simp, by simp; exact hn.2⟩
  have hbv : ∀ {V : World} {p0 g0 p1 g1 : Nat}, Bks w [(p0, g0, A), (p1, g1, B)] V → BVs (V.alloc (.cells #[.pointer (some ⟨p0, 0, none⟩), .pointer (some ⟨p1, 0, none⟩)] 25)) (some ⟨V.heap.size, 0, none⟩) [.pointer (some ⟨p0, 0, none⟩), .pointer (some ⟨p1, 0, none⟩)] [A, B] := fun h => bvs2 (h.get 0 rfl) (h.get 1 rfl) HBA.out HBB.out hAB hA1 hA2
  have HLV : Hid (∀ (V : World) (p0 g0 p1 g1 : Nat), Bks w [(p0, g0, A), (p1, g1, B)] V → Calls Try.prog 10 #[.slice (some ⟨V.heap.size, 0, none⟩) 2 2] (V.alloc (.cells #[.pointer (some ⟨p0, 0, none⟩), .pointer (some ⟨p1, 0, none⟩)] 25)) fun e w' => ∃ ad cap, e = .returned (.tuple #[.slice ad N cap, .int .i64 0]) ∧ RdN w' ad (lvl [A, B]) ∧ (∀ a, ad = some a → V.heap.size + 1 ≤ a.block) ∧ Below (V.heap.size + 1) (V.alloc (.cells #[.pointer (some ⟨p0, 0, none⟩), .pointer (some ⟨p1, 0, none⟩)] 25)) w') := fun V p0 g0 p1 g1 h => (level_any (some ⟨V.heap.size, 0, none⟩) 2 _ _ (hbv h) (by simp)).mono (by
    rintro e w' ⟨v, rfl, hm, hb⟩
    obtain ⟨ad, cap, rfl, hr, hn⟩ := hm.rd' (hlN.trans HLA.out)
    rw [hlE]
    exact ⟨ad, cap, rfl, hr, by simpa using hn, by simpa using hb⟩)
  have HAU : Hid (∀ (V : World) {p0 g0 p1 g1 : Nat}, Bks w [(p0, g0, A), (p1, g1, B)] V → Calls Try.prog 11 #[.pointer (some ⟨p1, 0, none⟩), .pointer (some ⟨p0, 0, none⟩)] V fun e w' => ∃ ad cap, e = .returned (.tuple #[.slice ad (abv B A).length cap, .int .i64 0]) ∧ RdN w' ad (abv B A) ∧ (∀ a, ad = some a → V.heap.size ≤ a.block) ∧ Below V.heap.size V w') := fun V {p0 g0 p1 g1} h => (above_any (bv_of (h.get 1 rfl) (by omega) (by omega) HBB.out) (bv_of (h.get 0 rfl) hA1 hA2 HBA.out)).mono (by
    rintro e w' ⟨v, rfl, hm, hb⟩
    obtain ⟨ad, cap, rfl, hr, hn⟩ := hm.rd
    rw [if_pos hAB.symm]
    exact ⟨ad, cap, rfl, hr, hn, hb⟩)
  have hA'b := abs_bok HBA.out (s : Int) (abv B A)
  have hA'l := abs_len HBA.out (s : Int) (abv B A)
  have HAR : Hid (∀ (V : World) {p0 g0 p1 g1 : Nat}, Bks w [(p0, g0, abs A (s : Int) (abv B A)), (p1, g1, B)] V → Calls Try.prog 11 #[.pointer (some ⟨p1, 0, none⟩), .pointer (some ⟨p0, 0, none⟩)] V fun e w' => ∃ ad cap, e = .returned (.tuple #[.slice ad (abv B (abs A (s : Int) (abv B A))).length cap, .int .i64 0]) ∧ RdN w' ad (abv B (abs A (s : Int) (abv B A))) ∧ (∀ a, ad = some a → V.heap.size ≤ a.block) ∧ Below V.heap.size V w') := fun V {p0 g0 p1 g1} h => (above_any (bv_of (h.get 1 rfl) (by omega) (by omega) HBB.out) (bv_of (h.get 0 rfl) (by omega) (by omega) hA'b)).mono (by
    rintro e w' ⟨v, rfl, hm, hb⟩
    obtain ⟨ad, cap, rfl, hr, hn⟩ := hm.rd
    rw [if_pos (by omega)]
    exact ⟨ad, cap, rfl, hr, hn, hb⟩)
  have hul : (abv B A).length ≤ 1000000 := by
    unfold abv
    rw [if_pos hAB.symm]
    exact Nat.le_trans (List.length_filter_le _ _) (by omega)
  have HAB : Hid (∀ (V : World) (ad : Option Addr) (cap : Nat) {p0 g0 p1 g1 : Nat}, Bks w [(p0, g0, A), (p1, g1, B)] V → RdN V ad (abv B A) → Calls Try.prog 13 #[.pointer (some ⟨p0, 0, none⟩), .int .i64 (s : Int), .slice ad (abv B A).length cap] V fun e w' => e = .returned (.tuple #[.agg #[.int .u32 (wd (abr A (s : Int) (abv B A)) 0 : Nat), .int .u32 (wd (abr A (s : Int) (abv B A)) 1 : Nat), .int .u32 (wd (abr A (s : Int) (abv B A)) 2 : Nat), .int .u32 (wd (abr A (s : Int) (abv B A)) 3 : Nat)], .int .i64 0]) ∧ Bk w' p0 g0 (abs A (s : Int) (abv B A)) ∧ V.grownBy w' (some g0)) := fun V ad cap {p0 g0 p1 g1} h hr => by
    have := absorb_any (h.get 0 rfl) (s : Int) ad cap (abv B A) hr hul
    rw [if_pos hup] at this
    exact this
  have HAT : Hid (∀ (V : World) (p g : Nat), Bk V p g A → Calls Try.prog 12 #[.pointer (some ⟨p, 0, none⟩), .int .i64 (s : Int)] V fun e w' => e = .returned (.tuple #[.agg #[.int .i64 (s : Int), .int .i64 t0, .int .i64 k0], .int .i64 0]) ∧ Below V.heap.size V w') := fun V p g h => by
    have := at_any h (s : Int)
    rw [atV_in hown] at this
    exact this
  clear hup hmeet hlE hlP hA'b hA'l hul hown hbv
  obtain ⟨A', hA'⟩ : ∃ L, abs A (s : Int) (abv B A) = L := ⟨_, rfl⟩
  obtain ⟨R, hR⟩ : ∃ R, abr A (s : Int) (abv B A) = R := ⟨_, rfl⟩
  rw [hA'] at HPT HAR HAB hrest
  rw [hR] at HAB
  clear hA' hR
  obtain ⟨rest, hrs⟩ : ∃ L, abv B A' = L := ⟨_, rfl⟩
  obtain ⟨up, hup⟩ : ∃ L, abv B A = L := ⟨_, rfl⟩
  obtain ⟨top, htop⟩ : ∃ L, lvl [A, B] = L := ⟨_, rfl⟩
  rw [hrs] at HAR hrest
  rw [hup] at HAU HAB
  rw [htop] at HPT HLV hlN
  clear hrs hup htop hAB hA1 hA2 hlN HBA HBB HLA HLB
  have HRE : Hid (rest = [] ∨ ∃ t, rest = [((s : Int), t, 1)]) := hrest
  clear hrest
  obtain ⟨MR, hMR⟩ : ∃ M, rest.length = M := ⟨_, rfl⟩
  have HMR : Hid (rest.length = MR) := hMR
  obtain ⟨MU, hMU⟩ : ∃ M, up.length = M := ⟨_, rfl⟩
  rw [hMR] at HAR
  rw [hMU] at HAU HAB
  clear hMR hMU
  go_enter Try.func3, Try.ntmps3
  go_wp2_with (go_at_call 7; first | ((with_reducible refine (hl2 _).mono ?_); rintro e u ⟨rfl, hu⟩; obtain rfl := hu.symm) | ((with_reducible refine (hl3 _).mono ?_); rintro e u ⟨rfl, hu⟩; obtain rfl := hu.symm))
  rename_i Q0 K0 hK
  have hmx : Try.prog.follows .mixedOrders = true := by kernel_rfl
  refine wp_region_any hmx ?_
  refine wpAny_tabG (G := ((Nat × Nat) × (Nat × Nat))) (fun g i__ => ([(.int .i64 (N : Int)), (.int .i64 (s : Int)), (.slice ad2 M2 cap2), (.pointer (some ⟨g.1.1, 0, none⟩)), (.int .i64 (N : Int)), (.int .i64 (s : Int)), (.int .i64 ((s + 1 : Nat) : Int)), (.int .i64 (N : Int)), (.int .i64 ((s' : Nat) : Int)), (.slice ad3 M3 cap3), (.pointer (some ⟨g.2.1, 0, none⟩)), (.pointer (some ⟨g.1.1, 0, none⟩)), (.pointer (some ⟨g.2.1, 0, none⟩))] : List Value).getD i__ undef) (fun g d V => JMt w A B g (d 3) (d 10) V) (by kernel_rfl) (((0, 0), (0, 0))) (by exact (Bks.nil w).carry (Below.refl _ _).drew) ?step1 ?fin1
  case step1 =>
    intro i o ho
    have hi : i < 13 := getElem?_lt ho
    match i, hi, ho with
    | 0, _, ho =>
      cases ho
      refine stepG_of (fun g d hdep => ?_)
      exact step_move rfl trivial _ rfl (by kernel_rfl)
    | 1, _, ho =>
      cases ho
      refine stepG_of (fun g d hdep => ?_)
      exact step_move rfl trivial _ rfl (by kernel_rfl)
    | 2, _, ho =>
      cases ho
      refine stepG_of (fun g d hdep => ?_)
      exact step_move rfl trivial _ rfl (by kernel_rfl)
    | 3, _, ho =>
      cases ho
      exact stepG_call rfl (fun g => trivial) 9 _ _ (fun _ => [.int .i64 (N : Int), .int .i64 (s : Int), .slice ad2 M2 cap2]) rfl (fun g => rfl) (enters_of Try.func9 (by kernel_rfl) rfl) (fun g d V hJ hun hdep hcl => by have h10 : d 10 = false := (by cases h : d 10 with | false => rfl | true => exact absurd (hcl 10 _ rfl h 3 (by kernel_rfl)) (by rw [hun]; simp)); have hJ' : JMt w A B g (d 3) (d 10) V := hJ; rw [hun] at hJ'; have hJ2 : Bks w [] V := hJ'; refine (HMA.out V hJ2.below).mono ?_; rintro e w' ⟨p, gg, rfl, hp, hg, hk, hb⟩; refine ⟨((p, gg), g.2), rfl, (fun j hj => match j, hj with | 3, hj => (by rw [hj] at hun; cases hun) | 11, hj => absurd ((hcl 11 _ rfl hj 3 (by kernel_rfl))) (by rw [hun]; simp) | 0, _ => rfl | 1, _ => rfl | 2, _ => rfl | 4, _ => rfl | 5, _ => rfl | 6, _ => rfl | 7, _ => rfl | 8, _ => rfl | 9, _ => rfl | 10, _ => rfl | 12, _ => rfl | _ + 13, _ => rfl), ?_⟩; show JMt w A B ((p, gg), g.2) true (d 10) w'; rw [h10]; exact hJ2.add hb hk hp hg)
    | 4, _, ho =>
      cases ho
      refine stepG_of (fun g d hdep => ?_)
      exact step_move rfl trivial _ rfl (by kernel_rfl)
    | 5, _, ho =>
      cases ho
      refine stepG_of (fun g d hdep => ?_)
      exact step_move rfl trivial _ rfl (by kernel_rfl)
    | 6, _, ho =>
      cases ho
      refine stepG_of (fun g d hdep => ?_)
      exact step_binOp rfl trivial _ _ _ _ _ _ _ rfl rfl rfl (fun w hw => bin_add64 _ _ _ hwr)
    | 7, _, ho =>
      cases ho
      refine stepG_of (fun g d hdep => ?_)
      exact step_move rfl trivial _ rfl (by kernel_rfl)
    | 8, _, ho =>
      cases ho
      refine stepG_of (fun g d hdep => ?_)
      exact step_binOp rfl trivial _ _ _ _ _ _ _ rfl rfl rfl (fun w hw => bin_remb _ _ _ hN0 hs')
    | 9, _, ho =>
      cases ho
      refine stepG_of (fun g d hdep => ?_)
      exact step_move rfl trivial _ rfl (by kernel_rfl)
    | 10, _, ho =>
      cases ho
      exact stepG_call rfl (fun g => trivial) 9 _ _ (fun _ => [.int .i64 (N : Int), .int .i64 (s' : Int), .slice ad3 M3 cap3]) rfl (fun g => rfl) (enters_of Try.func9 (by kernel_rfl) rfl) (fun g d V hJ hun hdep hcl => by have h3 : d 3 = true := hdep 3 (by kernel_rfl); have hJ' : JMt w A B g (d 3) (d 10) V := hJ; rw [hun, h3] at hJ'; have hJ2 : Bks w [(g.1.1, g.1.2, A)] V := hJ'; refine (HMB.out V hJ2.below).mono ?_; rintro e w' ⟨p, gg, rfl, hp, hg, hk, hb⟩; refine ⟨(g.1, (p, gg)), rfl, (fun j hj => match j, hj with | 10, hj => (by rw [hj] at hun; cases hun) | 12, hj => absurd ((hcl 12 _ rfl hj 10 (by kernel_rfl))) (by rw [hun]; simp) | 0, _ => rfl | 1, _ => rfl | 2, _ => rfl | 3, _ => rfl | 4, _ => rfl | 5, _ => rfl | 6, _ => rfl | 7, _ => rfl | 8, _ => rfl | 9, _ => rfl | 11, _ => rfl | _ + 13, _ => rfl), ?_⟩; show JMt w A B (g.1, (p, gg)) (d 3) true w'; rw [h3]; exact hJ2.add hb hk hp hg)
    | 11, _, ho =>
      cases ho
      refine stepG_of (fun g d hdep => ?_)
      exact step_assign rfl trivial _ rfl (by kernel_rfl) (fun _ h => h)
    | 12, _, ho =>
      cases ho
      refine stepG_of (fun g d hdep => ?_)
      exact step_assign rfl trivial _ rfl (by kernel_rfl) (fun _ h => h)
  intro g d W hall hW
  first | refine hK _ _ ?_ | refine (‹∀ (a : Act) (w : World), Code.wp Try.prog _ _ a w → _›) _ _ ?_ | skip
  simp only [finL, List.getD_cons_zero, List.getD_cons_succ, Nat.zero_add, Nat.reduceAdd, List.setIfInBounds_toArray, List.set_cons_zero, List.set_cons_succ]
  have hS : JMt w A B g (d 3) (d 10) W := hW
  rw [hall 3 (by decide), hall 10 (by decide)] at hS
  obtain ⟨⟨p0, g0⟩, ⟨p1, g1⟩⟩ := g
  have hS0 : Bks w [(p0, g0, A), (p1, g1, B)] W := hS
  obtain ⟨u1, hu1⟩ : ∃ u1, W.alloc (.cells #[.pointer (some ⟨p0, 0, none⟩), .pointer (some ⟨p1, 0, none⟩)] 25) = u1 := ⟨_, rfl⟩
  have hS1 : Bks w [(p0, g0, A), (p1, g1, B)] u1 := by rw [← hu1]; exact hS0.carry (al1 _ _)
  have st2 := HLV.out W p0 g0 p1 g1 hS0
  have hz1 : u1.heap.size = W.heap.size + 1 := by rw [← hu1]; simp
  have hgW : g0 < u1.heap.size := (hS1.get 0 rfl).glt
  rw [hu1, ← hz1] at st2
  clear hW hS hall hz1 hS0
  dsimp only
  go_wp2_with (first
    | (have m := st6; go_at_call 11; go_loud ((with_reducible refine st6.mono ?_); rintro e u6 ⟨adR, capR, rfl, hrR, hnR, hu6⟩; have Y6 := bel2 Y5 hu6; have hJ : JMl w p0 g0 A' u4.heap.size ((s : Int), t0, k0) adT adR top rest u6 := ⟨K5.carry hu6, n5.carry hu6, hrT5.carry hu6, hrR, Y6⟩; clear m st6))
    | (have m := st5; go_at_call 13; go_loud ((with_reducible refine st5.mono ?_); rintro e u5 ⟨rfl, hk5, hg5⟩; obtain ⟨x5, hx5⟩ : ∃ x5, u5.alloc (.cells #[.int .u32 (wd R 0 : Nat), .int .u32 (wd R 1 : Nat), .int .u32 (wd R 2 : Nat), .int .u32 (wd R 3 : Nat)] 37) = x5 := ⟨_, rfl⟩; have Bx5 : Below u5.heap.size u5 x5 := (by rw [← hx5]; exact al1 _ _); have gl := (hS4.get 0 rfl).glt; have K1 : Bks w [(p0, g0, A'), (p1, g1, B)] u5 := hS4.turn 0 rfl hk5 hg5; have K2 := K1.carry Bx5; have Y5 := K2.below; have K5 := K2.get 0 rfl; have hrT5 : RdN x5 adT top := (hrT4.turn hg5 (fun _ a e => (by have := hnT a e; omega))).carry Bx5; have n5 := NB.carry ((hg5.block _ Nx4.lt (by simp; omega)).trans Nx4) Bx5; have st6 := HAR.out x5 K2; clear m st5 K1))
    | (have m := st4; go_at_call 12; go_loud ((with_reducible refine st4.mono ?_); rintro e u4 ⟨rfl, hu4⟩; obtain ⟨x4, hx4⟩ : ∃ x4, u4.alloc (.cells #[.int .i64 (s : Int), .int .i64 t0, .int .i64 k0] 32) = x4 := ⟨_, rfl⟩; have Bx4 : Below u4.heap.size u4 x4 := (by rw [← hx4]; exact al1 _ _); have Nx4 : NB x4 u4.heap.size (s : Int) t0 k0 := (by rw [← hx4]; exact NB.new _ _ _ _); have hS4 := (hS3.carry hu4).carry Bx4; have hgl4 : g0 < u4.heap.size := ((hS3.carry hu4).get 0 rfl).glt; have hrT4 := (hrT3.carry hu4).carry Bx4; have st5 := HAB.out x4 adU capU hS4 ((hrU.carry hu4).carry Bx4); clear m st4))
    | (have m := st3; go_at_call 11; go_loud ((with_reducible refine st3.mono ?_); rintro e u3 ⟨adU, capU, rfl, hrU, hnU, hu3⟩; have hS3 := hS2.carry hu3; have hrT3 := hrT.carry hu3; have st4 := HAT.out u3 p0 g0 (hS3.get 0 rfl); clear m st3))
    | (have m := st2; go_at_call 10; go_loud ((with_reducible refine st2.mono ?_); rintro e u2 ⟨adT, capT, rfl, hrT, hnT, hu2⟩; have hS2 := hS1.carry hu2; have st3 := HAU.out u2 hS2; clear m st2)))
  obtain ⟨Bo, hBo⟩ : ∃ B, u4.heap.size = B := ⟨_, rfl⟩
  rw [hBo] at hJ ⊢
  go_loopw [21] (fun i wz => ∃ (j : Nat), i = .int .i64 j ∧ j ≤ N ∧ JMl w p0 g0 A' Bo ((s : Int), t0, k0) adT adR top rest wz) (fun i _ => N - vnatR i)
  case atStart => exact ⟨0, rfl, Nat.zero_le _, hJ⟩
  case round =>
    clear hJ
    obtain ⟨j, rfl, hjl, hj⟩ := hrel
    by_cases hjn : j < N
    · have hji : (j : Int) < (N : Int) := by omega
      obtain ⟨⟨xo, xt, xk⟩, ⟨yo, yt, yk⟩, hx, hy, hxy⟩ := HPT.out j hjn
      have ha := at_any hj.bk (j : Int)
      rw [atV_in hx] at ha
      have HY : Hid (top[j]? = some (yo, yt, yk)) := hy
      have HXY : Hid ((xo, xt, xk) = (yo, yt, yk) ∨ ((j : Int) = (s : Int) ∧ (xo, xt, xk) = ((s : Int), t0, k0) ∧ yk = 1)) := hxy
      unfold nt at ha
      dsimp only at ha
      clear hx hy hxy
      obtain ⟨gb, off, rfl, hgl, hnt⟩ := hj.top (fun e => by have := HY.out; rw [e] at this; simp at this)
      go_wp2_with (go_at_call 12; (with_reducible refine ha.mono ?_); rintro e v1 ⟨rfl, hv1⟩; obtain ⟨y1, hy1⟩ : ∃ y1, v1.alloc (.cells #[.int .i64 xo, .int .i64 xt, .int .i64 xk] 32) = y1 := ⟨_, rfl⟩; have By1 : Below v1.heap.size v1 y1 := (by rw [← hy1]; exact al1 _ _); have Ny1 : NB y1 v1.heap.size xo xt xk := (by rw [← hy1]; exact NB.new _ _ _ _))
      have hj1 := (hj.carry hv1).carry By1
      have hJ0 : JMl w p0 g0 A' Bo ((s : Int), t0, k0) (some ⟨gb, off, none⟩) adR top rest y1 ∧ NtsAt y1 gb off top ∧ NB y1 v1.heap.size xo xt xk := ⟨hj1, (hnt.carry hgl hv1).carry (Nat.lt_of_lt_of_le hgl hv1.size) By1, Ny1⟩
      have hgl1 : gb < y1.heap.size := Nat.lt_of_lt_of_le hgl (Nat.le_trans hv1.size By1.size)
      clear hnt hj1
      rename_i Q0 K0 hK
      have hmx : Try.prog.follows .mixedOrders = true := by kernel_rfl
      by_cases hq : (xo, xt, xk) = (yo, yt, yk)
      · have hqb : decide ((xo, xt, xk) = (yo, yt, yk)) = true := decide_eq_true hq
        clear hq
        refine wp_region_any hmx ?_
        refine wpAny_pure (fun i__ => ([(nt xo xt xk), (.slice (some ⟨gb, off, none⟩) N capT), (.int .i64 (j : Int)), (.pointer (some ⟨gb, off + j * 3, none⟩)), (nt yo yt yk), (.bool true), (.bool true), undef, undef, undef, undef, undef, undef, undef, undef, undef, undef, undef, undef, undef, undef, undef, undef, (.bool true)] : List Value).getD i__ undef) (fun V => JMl w p0 g0 A' Bo ((s : Int), t0, k0) (some ⟨gb, off, none⟩) adR top rest V ∧ NtsAt V gb off top ∧ NB V v1.heap.size xo xt xk) (by kernel_rfl) (by exact ⟨hJ0.1.carry (Below.refl _ _).drew, hJ0.2.1.carry hgl1 (Below.refl _ _).drew, hJ0.2.2.carry (Below.refl _ _).drew⟩) ?_ ?_
        · refine (stepsFrom_cons ?_ (stepsFrom_cons ?_ (stepsFrom_cons ?_ (stepsFrom_cons ?_ (stepsFrom_cons ?_ (stepsFrom_cons ?_ (stepsFrom_cons ?_ (stepsFrom_cons ?_ (stepsFrom_cons ?_ (stepsFrom_cons ?_ (stepsFrom_cons ?_ (stepsFrom_cons ?_ (stepsFrom_cons ?_ (stepsFrom_cons ?_ (stepsFrom_cons ?_ (stepsFrom_cons ?_ (stepsFrom_cons ?_ (stepsFrom_cons ?_ (stepsFrom_cons ?_ (stepsFrom_cons ?_ (stepsFrom_cons ?_ (stepsFrom_cons ?_ (stepsFrom_cons ?_ (stepsFrom_cons ?_ trivial))))))))))))))))))))))))
          · exact step_load rfl trivial _ _ _ rfl rfl (fun w hw => load_nt hw.2.2)
          · exact step_move rfl trivial _ rfl (by kernel_rfl)
          · exact step_move rfl trivial _ rfl (by kernel_rfl)
          · exact step_indexAddr rfl trivial _ _ _ _ _ rfl rfl rfl (fun w hw => idx_n gb off N capT j hjn w)
          · exact step_load rfl trivial _ _ _ rfl rfl (fun w hw => load_at hw.2.1 HY.out)
          · exact step_binOp rfl trivial _ _ _ _ _ _ _ rfl rfl rfl (fun w hw => bin_eqnb (xo, xt, xk) (yo, yt, yk) _ hqb)
          · exact step_move rfl trivial _ rfl (by kernel_rfl)
          · exact step_skip rfl 6 false 130 (.bool true) rfl rfl (by kernel_rfl) (by intro h; cases h) rfl
          · exact step_skip rfl 6 false 130 (.bool true) rfl rfl (by kernel_rfl) (by intro h; cases h) rfl
          · exact step_skip rfl 6 false 130 (.bool true) rfl rfl (by kernel_rfl) (by intro h; cases h) rfl
          · exact step_skip rfl 6 false 130 (.bool true) rfl rfl (by kernel_rfl) (by intro h; cases h) rfl
          · exact step_skip rfl 10 true 134 undef rfl rfl (by kernel_rfl) (by intro h; cases h) rfl
          · exact step_skip rfl 10 true 134 undef rfl rfl (by kernel_rfl) (by intro h; cases h) rfl
          · exact step_skip rfl 10 true 134 undef rfl rfl (by kernel_rfl) (by intro h; cases h) rfl
          · exact step_skip rfl 6 false 130 (.bool true) rfl rfl (by kernel_rfl) (by intro h; cases h) rfl
          · exact step_skip rfl 6 false 130 (.bool true) rfl rfl (by kernel_rfl) (by intro h; cases h) rfl
          · exact step_skip rfl 15 true 139 undef rfl rfl (by kernel_rfl) (by intro h; cases h) rfl
          · exact step_skip rfl 15 true 139 undef rfl rfl (by kernel_rfl) (by intro h; cases h) rfl
          · exact step_skip rfl 15 true 139 undef rfl rfl (by kernel_rfl) (by intro h; cases h) rfl
          · exact step_skip rfl 15 true 139 undef rfl rfl (by kernel_rfl) (by intro h; cases h) rfl
          · exact step_skip rfl 15 true 139 undef rfl rfl (by kernel_rfl) (by intro h; cases h) rfl
          · exact step_skip rfl 15 true 139 undef rfl rfl (by kernel_rfl) (by intro h; cases h) rfl
          · exact step_skip rfl 6 false 130 (.bool true) rfl rfl (by kernel_rfl) (by intro h; cases h) rfl
          · exact step_pick rfl trivial _ _ _ true rfl (by kernel_rfl) (by kernel_rfl)
        intro W hW
        first | refine hK _ _ ?_ | refine (‹∀ (a : Act) (w : World), Code.wp Try.prog _ _ a w → _›) _ _ ?_
        simp only [finL, List.getD_cons_zero, List.getD_cons_succ, Nat.zero_add, Nat.reduceAdd, List.setIfInBounds_toArray, List.set_cons_zero, List.set_cons_succ]
        go_wp2
        go_roundw
        case rel => exact ⟨j + 1, by simp, by omega, hW.1⟩
        case measure => simp [vnatR]; omega
      · obtain ⟨hs1, hs2, hs3⟩ := HXY.out.resolve_left hq
        have hqb : decide ((xo, xt, xk) = (yo, yt, yk)) = false := decide_eq_false hq
        have hjs : ((j : Int) == (s : Int)) = true := by simpa using hs1
        have hob : decide ((xo, xt, xk) = ((s : Int), t0, k0)) = true := decide_eq_true hs2
        subst hs3
        clear hq hs1 hs2
        refine wp_region_any hmx ?_
        refine wpAny_pure (fun i__ => ([(nt xo xt xk), (.slice (some ⟨gb, off, none⟩) N capT), (.int .i64 (j : Int)), (.pointer (some ⟨gb, off + j * 3, none⟩)), (nt yo yt 1), (.bool false), (.bool false), (.int .i64 (j : Int)), (.int .i64 (s : Int)), (.bool true), (.bool true), (nt xo xt xk), (nt (s : Int) t0 k0), (.bool true), (.bool true), (.bool true), (.slice (some ⟨gb, off, none⟩) N capT), (.int .i64 (j : Int)), (.pointer (some ⟨gb, off + j * 3, none⟩)), (.pointer (some ⟨gb, off + j * 3 + 2, none⟩)), (.int .i64 1), (.bool true), (.bool true), (.bool true)] : List Value).getD i__ undef) (fun V => JMl w p0 g0 A' Bo ((s : Int), t0, k0) (some ⟨gb, off, none⟩) adR top rest V ∧ NtsAt V gb off top ∧ NB V v1.heap.size xo xt xk) (by kernel_rfl) (by exact ⟨hJ0.1.carry (Below.refl _ _).drew, hJ0.2.1.carry hgl1 (Below.refl _ _).drew, hJ0.2.2.carry (Below.refl _ _).drew⟩) ?_ ?_
        · refine (stepsFrom_cons ?_ (stepsFrom_cons ?_ (stepsFrom_cons ?_ (stepsFrom_cons ?_ (stepsFrom_cons ?_ (stepsFrom_cons ?_ (stepsFrom_cons ?_ (stepsFrom_cons ?_ (stepsFrom_cons ?_ (stepsFrom_cons ?_ (stepsFrom_cons ?_ (stepsFrom_cons ?_ (stepsFrom_cons ?_ (stepsFrom_cons ?_ (stepsFrom_cons ?_ (stepsFrom_cons ?_ (stepsFrom_cons ?_ (stepsFrom_cons ?_ (stepsFrom_cons ?_ (stepsFrom_cons ?_ (stepsFrom_cons ?_ (stepsFrom_cons ?_ (stepsFrom_cons ?_ (stepsFrom_cons ?_ trivial))))))))))))))))))))))))
          · exact step_load rfl trivial _ _ _ rfl rfl (fun w hw => load_nt hw.2.2)
          · exact step_move rfl trivial _ rfl (by kernel_rfl)
          · exact step_move rfl trivial _ rfl (by kernel_rfl)
          · exact step_indexAddr rfl trivial _ _ _ _ _ rfl rfl rfl (fun w hw => idx_n gb off N capT j hjn w)
          · exact step_load rfl trivial _ _ _ rfl rfl (fun w hw => load_at hw.2.1 HY.out)
          · exact step_binOp rfl trivial _ _ _ _ _ _ _ rfl rfl rfl (fun w hw => bin_eqnb (xo, xt, xk) (yo, yt, 1) _ hqb)
          · exact step_move rfl trivial _ rfl (by kernel_rfl)
          · exact step_move rfl (by exact ⟨_, rfl, by kernel_rfl⟩) _ rfl (by kernel_rfl)
          · exact step_move rfl (by exact ⟨_, rfl, by kernel_rfl⟩) _ rfl (by kernel_rfl)
          · exact step_binOp rfl (by exact ⟨_, rfl, by kernel_rfl⟩) _ _ _ _ _ _ _ rfl rfl rfl (fun w hw => bin_eqb _ _ _ _ hjs)
          · exact step_move rfl (by exact ⟨_, rfl, by kernel_rfl⟩) _ rfl (by kernel_rfl)
          · exact step_load rfl (by exact ⟨_, rfl, by kernel_rfl⟩) _ _ _ rfl rfl (fun w hw => load_nt hw.2.2)
          · exact step_load rfl (by exact ⟨_, rfl, by kernel_rfl⟩) _ _ _ rfl rfl (fun w hw => load_nt hw.1.own)
          · exact step_binOp rfl (by exact ⟨_, rfl, by kernel_rfl⟩) _ _ _ _ _ _ _ rfl rfl rfl (fun w hw => bin_eqnb (xo, xt, xk) ((s : Int), t0, k0) _ hob)
          · exact step_pick rfl (by exact ⟨_, rfl, by kernel_rfl⟩) _ _ _ true rfl (by kernel_rfl) (by kernel_rfl)
          · exact step_move rfl (by exact ⟨_, rfl, by kernel_rfl⟩) _ rfl (by kernel_rfl)
          · exact step_move rfl (by exact ⟨_, rfl, by kernel_rfl⟩) _ rfl (by kernel_rfl)
          · exact step_move rfl (by exact ⟨_, rfl, by kernel_rfl⟩) _ rfl (by kernel_rfl)
          · exact step_indexAddr rfl (by exact ⟨_, rfl, by kernel_rfl⟩) _ _ _ _ _ rfl rfl rfl (fun w hw => idx_n gb off N capT j hjn w)
          · exact step_fieldAddr rfl (by exact ⟨_, rfl, by kernel_rfl⟩) _ _ _ _ rfl rfl (fun w hw => field_at2 w _ _)
          · exact step_load rfl (by exact ⟨_, rfl, by kernel_rfl⟩) _ _ _ rfl rfl (fun w hw => load_of2 (nts_idx hw.2.1 HY.out))
          · exact step_binOp rfl (by exact ⟨_, rfl, by kernel_rfl⟩) _ _ _ _ _ _ _ rfl rfl rfl (fun w hw => bin_eqb _ _ _ _ rfl)
          · exact step_pick rfl (by exact ⟨_, rfl, by kernel_rfl⟩) _ _ _ true rfl (by kernel_rfl) (by kernel_rfl)
          · exact step_pick rfl trivial _ _ _ false rfl (by kernel_rfl) (by kernel_rfl)
        intro W hW
        first | refine hK _ _ ?_ | refine (‹∀ (a : Act) (w : World), Code.wp Try.prog _ _ a w → _›) _ _ ?_
        simp only [finL, List.getD_cons_zero, List.getD_cons_succ, Nat.zero_add, Nat.reduceAdd, List.setIfInBounds_toArray, List.set_cons_zero, List.set_cons_succ]
        go_wp2
        go_roundw
        case rel => exact ⟨j + 1, by simp, by omega, hW.1⟩
        case measure => simp [vnatR]; omega
    · have hkk : j = N := by omega
      subst hkk
      have k0 := hal wr
      rcases HRE.out with hre | ⟨tr, hre⟩
      · have hMR : rest.length = 0 := by rw [hre]; rfl
        rw [hMR] at HMR
        obtain rfl : MR = 0 := HMR.out.symm
        go_wp2_with (go_at_call 8; (with_reducible refine k0.mono ?_); rintro e z1 ⟨rfl, hz1⟩)
        go_ret
        exact ⟨rfl, bel2 hj.be hz1⟩
      · have hMR : rest.length = 1 := by rw [hre]; rfl
        rw [hMR] at HMR
        obtain rfl : MR = 1 := HMR.out.symm
        obtain ⟨gb, off, rfl, hgl, hnt⟩ := hj.rest (fun e => by rw [e] at hMR; simp at hMR)
        have HC : Hid (∀ z1, Below wr.heap.size wr z1 → z1.cell? ⟨gb, off, none⟩ = some (.int .i64 (s : Int)) ∧ z1.cell? ⟨gb, off + 1, none⟩ = some (.int .i64 tr) ∧ z1.cell? ⟨gb, off + 2, none⟩ = some (.int .i64 1)) := fun z1 hz1 => by
          have := hnt.carry hgl hz1 0 ((s : Int), tr, 1) (by rw [hre]; rfl)
          simpa using this
        clear hre hMR hnt
        go_wp2_with (go_at_call 8; (with_reducible refine k0.mono ?_); rintro e z1 ⟨rfl, hz1⟩; obtain ⟨d0, d1, d2⟩ := HC.out z1 hz1)
        go_ret
        exact ⟨by simp, bel2 hj.be hz1⟩

set_option maxRecDepth 100000 in
theorem lifted (os : Os) (started : os.Started) (H : Type) (enc : TypeId × Value → H) :
    ReturnsInHanded {} Try.checked os 3 .any (Rows.spreadMeetsSpec.pre6 enc Try.prog Try.f3 Rows.spreadMeetsRow.domain false) (Rows.spreadMeetsSpec.post enc Try.prog Try.f3 false true false false) := by
  refine returnsInHanded_of_change (C := Try.checked) own started (by kernel_rfl) Try.func3
    (ChangeSpec.witness6 (enc := enc) (C := Try.checked) false ⟨#[], #[.int .i64 0, .int .i64 0, .slice none 0 0, .slice none 0 0], []⟩ 8 (by kernel_rfl) (by kernel_rfl) (by kernel_rfl) (by kernel_rfl)) ?_
  intro W base args ds gs before hval0 hW hcnd _
  have hval : ∀ (j : Nat) t v, Try.f3.params[j]? = some t → args[j]? = some v → Value.okWide Try.prog W .any base t v := hval0
  have hW' := hW
  obtain ⟨p, q, hA0, hV, rfl, hfz, hnd⟩ := hW
  have hA : DataW.TrodAll enc Try.prog W 0 (fun _ => true) true Try.f3.params.toList args.toList ds p := hA0
  rw [Try.params3] at hA hval
  obtain ⟨v0, vs0, d0, ds0, p0, q0, hargs, rfl, rfl, h0, r0⟩ := trodAll_cons hA
  obtain ⟨v1, vs1, d1, ds1, p1, q1, rfl, rfl, rfl, h1, r1⟩ := trodAll_cons r0
  obtain ⟨v2, vs2, d2, ds2, p2, q2, rfl, rfl, rfl, h2, r2⟩ := trodAll_cons r1
  obtain ⟨v3, vs3, d3, ds3, p3, q3, rfl, rfl, rfl, h3, r3⟩ := trodAll_cons r2
  obtain ⟨rfl, rfl, rfl⟩ := trodAll_nil r3
  obtain rfl : args = #[v0, v1, v2, v3] := by cases args; simp_all
  obtain ⟨rfl, rfl⟩ := trodVars_none hV
  obtain ⟨a0, rfl, rfl, rfl, w0⟩ := open_int Try.underlying3 (hval 0 3 v0 rfl rfl) h0
  obtain ⟨a1, rfl, rfl, rfl, w1⟩ := open_int Try.underlying3 (hval 1 3 v1 rfl rfl) h1
  have k2 := h2
  have lt2 : ∀ x ∈ p2, x.block < W.heap.size := by obtain ⟨m, hm⟩ := k2; exact DataW.trod_lt m _ _ _ hm
  obtain ⟨ad2, cap2, l2, rfl, w2, hc2, hq2, hd2⟩ := open_nts (hval 2 22 v2 rfl rfl) h2
  have k3 := h3
  have lt3 : ∀ x ∈ p3, x.block < W.heap.size := by obtain ⟨m, hm⟩ := k3; exact DataW.trod_lt m _ _ _ hm
  obtain ⟨ad3, cap3, l3, rfl, w3, hc3, hq3, hd3⟩ := open_nts (hval 3 22 v3 rfl rfl) h3
  clear hA0 hval0
  refine (walk W a0 w0 a1 w1 ad2 cap2 l2 w2 hc2 hq2 ad3 cap3 l3 w3 hc3 hq3).mono fun e W' ⟨he, hg⟩ => ?_
  subst he
  exact ⟨_, rfl, _, _, _, [], _, [], hW', (trodAll_cons_mk (shut_bool Try.underlying4 _) trodAll_mk0), (trodAll_cons_mk (shut_int Try.underlying3 w0) (trodAll_cons_mk (shut_int Try.underlying3 w1) (trodAll_cons_mk (Below.trod laidOut (by kernel_rfl) (of_decide_eq_true (by kernel_rfl)) k2 hg lt2) (trodAll_cons_mk (Below.trod laidOut (by kernel_rfl) (of_decide_eq_true (by kernel_rfl)) k3 hg lt3) trodAll_mk0)))), rfl, hg.frame _, fun h => by cases h⟩

theorem over : Rows.spreadMeetsRow.holds Try.pinned (OpenSpec.ofChange Rows.spreadMeetsSpec) :=
  OpenClaim.holds_of_wide 3 Try.f3 rfl rfl rfl rfl rfl rfl rfl ⟨rfl, rfl, rfl, rfl, rfl⟩ rfl rfl rfl rfl rfl (by kernel_rfl) Try.func3 (by kernel_rfl)
    (of_decide_eq_true (by kernel_rfl)) (by unfold Func.isWrapper; first | (rw [if_pos (by decide +kernel)]; kernel_rfl) | (rw [if_neg (by decide +kernel)]; exact ⟨rfl, rfl⟩))
    (fun os started H enc _ => lifted os started H enc)

theorem proved : Rows.SpreadMeetsSaid :=
  over
#print axioms proved
end Go.Proofs.Ytddblfffjhoiaaa
