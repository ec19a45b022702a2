/- BookShown: at every n, self, tag and list of notices: At, List, News, Suspects tell one thing; no condition. -/
import Derived.Test.YtpphmfmfenifgaaRows
import Derived.WalkKit
import Derived.ProofKit
import Derived.OpenShut
import Derived.Test.YtpphmfmfenifgaaBkj
import Derived.Test.YtpphmfmfenifgaaRnv
import Derived.Test.YtpphmfmfenifgaaWtn
import Derived.Test.YtpphmfmfenifgaaOpm
namespace Go.Proofs.Ytpphmfmfenifgaa
open Go.ChangeShapes Go.WideShapes Go.ChangeAt Go.RowKit
set_option linter.unusedVariables false

theorem laidOut : laidOutB Try.prog = true := by kernel_rfl
theorem own : ownKnob Try.prog.godebug = none := by kernel_rfl
open Go.Shelf
theorem bin_neqb {x y : Operand} {w : World} (a b : Bool) : binRun Try.prog .neq 4 x y (.bool a) (.bool b) w = .ok (.bool (a != b)) w := by
  unfold binRun
  cases a <;> cases b <;> go_simp
theorem bi_len (t : TypeId) (bs : Array Bool) (a : Option Addr) (n c : Nat) (w : World) : (builtin .len #[22] t bs #[.slice a n c]).run Try.prog w = .ok (.value (.int .i64 (n : Int))) w := by
  show ((do pure (.value (← Builtin.len_ #[22] t #[.slice a n c]))) : Sem Next).run Try.prog w = _
  go_simp
theorem bok_ris : ∀ (r : List N3) (k : Nat) (a : Int), a < (k : Int) → (∀ (i : Nat) (x : N3), r[i]? = some x → x.1 = ((k + i : Nat) : Int) ∧ rkx x ≠ -1) → ∀ n : Nat, k + r.length ≤ n → 1 ≤ n → n ≤ 100 → ris (n : Int) a r = true
  | [], _, _, _, _, _, _, _, _ => rfl
  | x :: r, k, a, ha, h, n, hn, h1, h2 => by
    obtain ⟨e0, e1⟩ := h 0 x rfl
    have hl : k + (r.length + 1) ≤ n := by simpa using hn
    have ih := bok_ris r (k + 1) x.1 (by omega) (fun i y hy => by
      have := h (i + 1) y (by simpa using hy)
      refine ⟨by rw [this.1]; omega, this.2⟩) n (by omega) h1 h2
    unfold ris
    rw [ih, decide_eq_true (show a < x.1 by omega)]
    have : vl (n : Int) x.1 x.2.1 x.2.2 = true := vlx_iff.2 ⟨h1, h2, by omega, by omega, e1⟩
    rw [this]
    rfl
theorem bok_rising {l : List N3} (hb : Bok l) (h1 : 1 ≤ l.length) (h2 : l.length ≤ 100) : ris (l.length : Int) (-1) l = true :=
  bok_ris l 0 (-1) (by decide) (fun i x hx => by simpa using hb i x hx) l.length (by omega) h1 h2
theorem sus_within {l : List N3} (hb : Bok l) (h2 : l.length ≤ 100) : wthB (sus l) (l.length : Int) = true := by
  unfold wthB
  refine decide_eq_true ?_
  have ht : topW (l.length : Int) = l.length := by unfold topW; omega
  rw [ht]
  apply Nat.eq_of_testBit_eq
  intro i
  rw [Nat.testBit_mod_two_pow]
  by_cases hi : i < l.length
  · simp [hi]
  · rw [sus_hi hb (by omega)]
    simp
theorem sus_has {l : List N3} (hb : Bok l) (hl : l.length ≤ 100) {i : Nat} {o t k : Int} (hx : l[i]? = some (o, t, k)) : hasB (sus l) (i : Int) = (k == 2) := by
  have hi := (List.getElem?_eq_some_iff.1 hx).1
  unfold hasB
  rw [decide_eq_true (by omega), Bool.true_and, Int.toNat_natCast, sus_bit hb hx]
  by_cases h : k = 2
  · subst h; rfl
  · simp [h]
theorem whole_s {W : World} {b N : Nat} (h : Holds4 W b (wd N)) : (Instr.loadAt 35 (.pointer (some ⟨b, 0, none⟩))).run Try.prog W = .ok (sv N) W := whole4 W b N h
set_option maxHeartbeats 8000000 in
set_option maxRecDepth 100000 in
theorem walk (w : World) (a0 : Int) (w0 : (Lit.int .i64 a0).wf = true) (a1 : Int) (w1 : (Lit.int .i64 a1).wf = true) (a2 : Int) (w2 : (Lit.int .i64 a2).wf = true) (ad3 : Option Addr) (cap3 : Nat) (l3 : List (Int × Int × Int)) (w3 : RdN w ad3 l3) (hc3 : ad3 = none → cap3 = 0) (hq3 : l3.length ≤ cap3) :
    Calls Try.prog 7 #[.int .i64 a0, .int .i64 a1, .int .i64 a2, .slice ad3 l3.length cap3] w fun e w' => e = .returned (.bool true) ∧ Below w.heap.size w w' := by
  have hmx : Try.prog.follows .mixedOrders = true := by kernel_rfl
  have hal := balive_any
  have hnw := new_any a0 a1 a2
  have hl3 := fun W => light_any W ad3 l3.length cap3
  have hbw : Below w.heap.size w w := Below.refl _ _
  by_cases hok : ¬ (a0 < 1 ∨ 100 < a0) ∧ ¬ (a1 < 0 ∨ a0 ≤ a1) ∧ ¬ (a2 < 0 ∨ 1048576 < a2)
  · obtain ⟨h1, h2, h3⟩ := hok
    obtain ⟨N, rfl⟩ : ∃ N : Nat, a0 = (N : Int) := ⟨a0.toNat, by omega⟩
    obtain ⟨s, rfl⟩ : ∃ s : Nat, a1 = (s : Int) := ⟨a1.toNat, by omega⟩
    have HOK : Hid (∀ (W V : World) (e : Ending), NewV (N : Int) (s : Int) a2 W e V → ∃ p g, e = .returned (.tuple #[.pointer (some ⟨p, 0, none⟩), .int .i64 0]) ∧ W.heap.size ≤ p ∧ W.heap.size ≤ g ∧ Bk V p g (bk0 N s a2)) := fun W V e hV => by simpa using hV.ok h1 h2 h3
    have HB0 : Hid (Bok (bk0 N s a2)) := bk0_bok (by omega) (by omega)
    have HL0 : Hid ((bk0 N s a2).length = N ∧ 1 ≤ N ∧ N ≤ 100) := ⟨bk0_len _ _ _, by omega, by omega⟩
    clear h1 h2 h3
    generalize bk0 N s a2 = L0 at HOK HB0 HL0
    have hS0 := Bks.nil w
    have HW3 : Hid (RdN w ad3 l3) := w3
    clear w3
    by_cases h300 : l3.length ≤ 300
    · rw [decide_eq_true h300] at hl3
      have HB1 : Hid (Bok (mrg L0 l3)) := mrg_bok HB0.out l3
      have HL1 : Hid ((mrg L0 l3).length = N) := (mrg_len HB0.out l3).trans HL0.out.1
      have HM : Hid (∀ (W : World) (p g : Nat), Bk W p g L0 → RdN W ad3 l3 → (l3 ≠ [] → ∀ a, ad3 = some a → a.block ≠ g) → Calls Try.prog 12 #[.pointer (some ⟨p, 0, none⟩), .slice ad3 l3.length cap3] W fun e w' => (∃ (N : Nat) (E : Int), e = .returned (.tuple #[.agg #[.int .u32 (wd N 0 : Nat), .int .u32 (wd N 1 : Nat), .int .u32 (wd N 2 : Nat), .int .u32 (wd N 3 : Nat)], .int .i64 E])) ∧ Bk w' p g (mrg L0 l3) ∧ W.grownBy w' (some g)) := fun W p g hk hr hne => merge_some hk ad3 cap3 l3 hr hne (by omega)
      generalize mrg L0 l3 = L at HB1 HL1 HM
      have HP : Hid (0 < L.length ∧ L.length ≤ 100) := ⟨by rw [HL1.out]; exact HL0.out.2.1, by rw [HL1.out]; exact HL0.out.2.2⟩
      have HLI : Hid (∀ (W : World) (p g : Nat), Bk W p g L → Calls Try.prog 15 #[.pointer (some ⟨p, 0, none⟩)] W fun e w' => ∃ ad cap, e = .returned (.slice ad N cap) ∧ RdN w' ad L ∧ Below W.heap.size W w') := fun W p g hk => (blist_any hk HP.out.1 HP.out.2).mono (by
        rintro e w' ⟨v, rfl, hm, hb⟩
        rw [filter_all] at hm
        obtain ⟨ad, cap, rfl, hr, ha⟩ := hm.rd
        exact ⟨ad, cap, by rw [HL1.out], hr, hb⟩)
      obtain ⟨F, hF⟩ : ∃ F, L.filter pNew = F := ⟨_, rfl⟩
      have HF : Hid (L.filter pNew = F) := hF
      have HLN : Hid (∀ (W : World) (p g : Nat), Bk W p g L → Calls Try.prog 20 #[.pointer (some ⟨p, 0, none⟩)] W fun e w' => ∃ ad cap, e = .returned (.slice ad F.length cap) ∧ RdN w' ad F ∧ Below W.heap.size W w') := fun W p g hk => (bnews_any hk HP.out.1 HP.out.2).mono (by
        rintro e w' ⟨v, rfl, hm, hb⟩
        rw [HF.out] at hm
        obtain ⟨ad, cap, rfl, hr, ha⟩ := hm.rd
        exact ⟨ad, cap, rfl, hr, hb⟩)
      clear hF
      have HSU : Hid (∀ (W : World) (p g : Nat), Bk W p g L → Calls Try.prog 21 #[.pointer (some ⟨p, 0, none⟩)] W fun e w' => e = .returned (.agg #[.int .u32 (wd (sus L) 0 : Nat), .int .u32 (wd (sus L) 1 : Nat), .int .u32 (wd (sus L) 2 : Nat), .int .u32 (wd (sus L) 3 : Nat)]) ∧ Below W.heap.size W w') := fun W p g hk => sus_any hk HP.out.1 HP.out.2 HB1.out
      obtain ⟨S, hS⟩ : ∃ S, sus L = S := ⟨_, rfl⟩
      have HS : Hid (sus L = S) := hS
      rw [hS] at HSU
      clear hS
      go_enter Try.func7, Try.ntmps7
      go_wp2_with (first | (go_at_call 8; (with_reducible refine (hnw _).mono ?_); rintro e u1 hV; obtain ⟨pb, gb, rfl, hp, hg, hk⟩ := HOK.out _ _ _ hV; have hS1 : Bks w [(pb, gb, L0)] u1 := hS0.add hV.1 hk hp hg; clear hS0 hV hp hg hk; have k1 := HM.out u1 pb gb (hS1.get 0 rfl) (HW3.out.carry hS1.below) (HW3.out.ne (hS1.base 0 rfl))) | (go_at_call 9; (with_reducible refine (hl3 _).mono ?_); rintro e u ⟨rfl, rfl⟩) | (go_at_call 12; (with_reducible refine k1.mono ?_); rintro e v1 ⟨⟨MS, ME, rfl⟩, hk, hg⟩; have hS2 : Bks w [(pb, gb, L)] v1 := hS1.turn 0 rfl hk hg; clear hS1 k1 hk hg; have k2 := HLI.out v1 pb gb (hS2.get 0 rfl)) | (go_at_call 15; (with_reducible refine k2.mono ?_); rintro e v2 ⟨ada, capa, rfl, hra, hb2⟩; have hS3 := hS2.carry hb2; clear hS2 k2; have k3 := HLN.out v2 pb gb (hS3.get 0 rfl)) | (go_at_call 20; (with_reducible refine k3.mono ?_); rintro e v3 ⟨adn, capn, rfl, hrn, hb3⟩; have hS4 := hS3.carry hb3; have hra3 := hra.carry hb3; clear hS3 k3; have k4 := HSU.out v3 pb gb (hS4.get 0 rfl)) | (go_at_call 21; (with_reducible refine k4.mono ?_); rintro e v4 ⟨rfl, hb4⟩; have hS5 := hS4.carry hb4; have hra4 := hra3.carry hb4; have hrn4 := hrn.carry hb4; clear hS4 k4))
      obtain ⟨bs, hbs⟩ : ∃ bs, v4.heap.size = bs := ⟨_, rfl⟩
      obtain ⟨z0, hz0⟩ : ∃ z0, v4.alloc (.cells #[.int .u32 (wd S 0 : Nat), .int .u32 (wd S 1 : Nat), .int .u32 (wd S 2 : Nat), .int .u32 (wd S 3 : Nat)] 35) = z0 := ⟨_, rfl⟩
      have hb5 : Below v4.heap.size v4 z0 := by rw [← hz0]; exact al1 _ _
      have hsz : Holds4 z0 bs (wd S) := by rw [← hz0, ← hbs]; exact new_at rfl
      have hS6 := hS5.carry hb5
      have hraz := hra4.carry hb5
      have hrnz := hrn4.carry hb5
      rw [hz0, hbs]
      have hbz := hS6.below
      have HBK : Hid (Bk z0 pb gb L) := hS6.get 0 rfl
      have HSZ : Hid (Holds4 z0 bs (wd S)) := hsz
      have HRA : Hid (RdN z0 ada L) := hraz
      have HRN : Hid (RdN z0 adn F) := hrnz
      obtain ⟨ic, hic, hzz0, hzz1, hzz2⟩ := info_partsN
      have hlb : bs < z0.heap.size := hsz.lt
      clear hz0 hbs hb5 hsz hS5 hS6 hra hra3 hra4 hrn hrn4 hraz hrnz hb2 hb3 hb4 HLI HLN HSU HM HOK hnw hl3
      go_loopw [14, 15] (fun c i wz => ∃ (j : Nat), i = .int .i64 j ∧ j ≤ N ∧ wz.ownsRow z0.heap.size 32 3 c ((L.take j).filter pNew).length (fl ((L.take j).filter pNew)) ∧ Below z0.heap.size z0 wz) (fun _ i _ => N - vnatR i)
      case atStart => exact ⟨0, rfl, Nat.zero_le _, World.ownsRow_nil _ _ _ _, Below.refl _ _⟩
      case round =>
        obtain ⟨j, rfl, hjl, hrow, hbr⟩ := hrel
        have hsw := hbr.size
        have hN100 : N ≤ 100 := HL0.out.2.2
        by_cases hjn : j < N
        · have hji : (j : Int) < (N : Int) := by omega
          have hjge : ¬ (N : Int) ≤ (j : Int) := by omega
          obtain ⟨⟨o, t, q⟩, hx⟩ : ∃ x, L[j]? = some x := ⟨_, List.getElem?_eq_getElem (by rw [HL1.out]; exact hjn)⟩
          obtain rfl : o = (j : Int) := (HB1.out j _ hx).1
          have k1 := at_any (HBK.out.carry hbr) (j : Int)
          rw [atV_in hx] at k1
          have hHas : ∀ W, Calls Try.prog 18 #[sv S, .int .i64 (j : Int)] W fun e w' => e = .returned (.bool (q == 2)) ∧ Below W.heap.size W w' := fun W => by
            have := has_any S (j : Int) W
            rwa [← HS.out, sus_has HB1.out HP.out.2 hx, HS.out] at this
          have HHas : Hid (∀ W, Calls Try.prog 18 #[sv S, .int .i64 (j : Int)] W fun e w' => e = .returned (.bool (q == 2)) ∧ Below W.heap.size W w') := hHas
          have hfs : (L.take (j + 1)).filter pNew = if pNew ((j : Int), t, q) = true then (L.take j).filter pNew ++ [((j : Int), t, q)] else (L.take j).filter pNew := by
            rw [List.take_add_one, hx]
            exact filter_snoc pNew (L.take j) ((j : Int), t, q)
          have hfl : ((L.take j).filter pNew).length ≤ N := Nat.le_trans (List.length_filter_le _ _) (by simp; omega)
          obtain ⟨ba, oa, rfl, hba, haat⟩ := HRA.out (fun e => by rw [e] at hx; simp at hx)
          have HAR : Hid (NtsAt wr ba oa L) := haat.carry hba hbr
          have hba' := Nat.lt_of_lt_of_le hba hbr.size
          have HX : Hid (L[j]? = some ((j : Int), t, q)) := hx
          have HSW : Hid (Holds4 wr bs (wd S)) := HSZ.out.keep hbr hlb
          have HFS : Hid ((L.take (j + 1)).filter pNew = if pNew ((j : Int), t, q) = true then (L.take j).filter pNew ++ [((j : Int), t, q)] else (L.take j).filter pNew) := hfs
          have HROW : Hid (wr.ownsRow z0.heap.size 32 3 u14 ((L.take j).filter pNew).length (fl ((L.take j).filter pNew))) := hrow
          unfold nt at k1
          clear hHas hfs haat hx hrow
          go_wp2_with (go_at_call 22; (with_reducible refine k1.mono ?_); rintro e u1 ⟨rfl, hb1⟩)
          rename_i Q0 K0 hK
          have hn1 : NB (u1.alloc (.cells #[.int .i64 (j : Int), .int .i64 t, .int .i64 q] 32)) u1.heap.size (j : Int) t q := NB.new _ _ _ _
          have hbu : Below wr.heap.size wr (u1.alloc (.cells #[.int .i64 (j : Int), .int .i64 t, .int .i64 q] 32)) := hb1.alloc hb1.size _
          refine wp_region_any hmx ?_
          refine wpAny_pure (fun i__ => ([(.int .i64 0), (.bool false), (.bool false), (.int .i64 (j : Int)), (.slice (some ⟨ba, oa, none⟩) N capa), (.int .i64 (N : Int)), (.bool false), (.bool false), (.bool false), (.slice (some ⟨ba, oa, none⟩) N capa), (.int .i64 (j : Int)), (.pointer (some ⟨ba, oa + j * 3, none⟩)), (nt (j : Int) t q), (nt (j : Int) t q), (.bool false), (.bool false), (.bool false), (sv S), (.int .i64 (j : Int)), (.bool (q == 2)), (.pointer (some ⟨u1.heap.size, 2, none⟩)), (.int .i64 q), (.bool (q == 2)), (.bool false), (.bool false)] : List Value).getD i__ undef) (fun V => NB V u1.heap.size (j : Int) t q ∧ Below wr.heap.size wr V) (by kernel_rfl) ⟨hn1.carry (Below.refl _ _).drew, hbu.drew⟩ ?_ ?_
          · refine (stepsFrom_cons ?_ (stepsFrom_cons ?_ (stepsFrom_cons ?_ (stepsFrom_cons ?_ (stepsFrom_cons ?_ (stepsFrom_cons ?_ (stepsFrom_cons ?_ (stepsFrom_cons ?_ (stepsFrom_cons ?_ (stepsFrom_cons ?_ (stepsFrom_cons ?_ (stepsFrom_cons ?_ (stepsFrom_cons ?_ (stepsFrom_cons ?_ (stepsFrom_cons ?_ (stepsFrom_cons ?_ (stepsFrom_cons ?_ (stepsFrom_cons ?_ (stepsFrom_cons ?_ (stepsFrom_cons ?_ (stepsFrom_cons ?_ (stepsFrom_cons ?_ (stepsFrom_cons ?_ (stepsFrom_cons ?_ (stepsFrom_cons ?_ trivial)))))))))))))))))))))))))
            · exact step_move rfl trivial _ rfl (by kernel_rfl)
            · exact step_binOp rfl trivial _ _ _ _ _ _ _ rfl rfl rfl (fun w hw => bin_neq .i64 0 0)
            · exact step_move rfl trivial _ rfl (by kernel_rfl)
            · exact step_move rfl (by exact ⟨_, rfl, by kernel_rfl⟩) _ rfl (by kernel_rfl)
            · exact step_move rfl (by exact ⟨_, rfl, by kernel_rfl⟩) _ rfl (by kernel_rfl)
            · exact step_bi rfl (by exact ⟨_, rfl, by kernel_rfl⟩) _ _ _ [(.slice (some ⟨ba, oa, none⟩) N capa)] rfl (by kernel_rfl) (fun cs w hw => bi_len _ cs _ N capa w)
            · exact step_binOp rfl (by exact ⟨_, rfl, by kernel_rfl⟩) _ _ _ _ _ _ _ rfl rfl rfl (fun w hw => (bin_geq .i64 _ _).trans (by rw [decide_eq_false (show ¬ ((j : Int) ≥ (N : Int)) by omega)]; rfl))
            · exact step_pick rfl trivial _ _ _ false rfl (by kernel_rfl) (by kernel_rfl)
            · exact step_move rfl trivial _ rfl (by kernel_rfl)
            · exact step_move rfl (by exact ⟨_, rfl, by kernel_rfl⟩) _ rfl (by kernel_rfl)
            · exact step_move rfl (by exact ⟨_, rfl, by kernel_rfl⟩) _ rfl (by kernel_rfl)
            · exact step_indexAddr rfl (by exact ⟨_, rfl, by kernel_rfl⟩) _ _ _ _ _ rfl rfl rfl (fun w hw => idx_n ba oa _ _ j hjn w)
            · exact step_load rfl (by exact ⟨_, rfl, by kernel_rfl⟩) _ _ _ rfl rfl (fun w hw => load_at (HAR.out.carry hba' hw.2) HX.out)
            · exact step_load rfl (by exact ⟨_, rfl, by kernel_rfl⟩) _ _ _ rfl rfl (fun w hw => load_nt hw.1)
            · exact step_binOp rfl (by exact ⟨_, rfl, by kernel_rfl⟩) _ _ _ _ _ _ _ rfl rfl rfl (fun w hw => (bin_neqn _ _ _ _ _ _).trans (by simp))
            · exact step_pick rfl trivial _ _ _ false rfl (by kernel_rfl) (by kernel_rfl)
            · exact step_move rfl trivial _ rfl (by kernel_rfl)
            · exact step_load rfl (by exact ⟨_, rfl, by kernel_rfl⟩) _ _ _ rfl rfl (fun w hw => whole_s (HSW.out.carry hw.2))
            · exact step_move rfl (by exact ⟨_, rfl, by kernel_rfl⟩) _ rfl (by kernel_rfl)
            · exact step_call rfl (by exact ⟨_, rfl, by kernel_rfl⟩) 18 _ _ [(sv S), (.int .i64 (j : Int))] rfl (by kernel_rfl) (enters_of Try.func18 (by kernel_rfl) rfl) (fun w hw => (HHas.out w).mono (by rintro e w' ⟨rfl, hb⟩; exact ⟨rfl, hw.1.carry hb, bel2 hw.2 hb⟩))
            · exact step_fieldAddr rfl (by exact ⟨_, rfl, by kernel_rfl⟩) _ _ _ _ rfl rfl (fun w hw => field_n2 w _)
            · exact step_load rfl (by exact ⟨_, rfl, by kernel_rfl⟩) _ _ _ rfl rfl (fun w hw => load_n2 hw.1)
            · exact step_binOp rfl (by exact ⟨_, rfl, by kernel_rfl⟩) _ _ _ _ _ _ _ rfl rfl rfl (fun w hw => bin_eql .i64 q 2)
            · exact step_binOp rfl (by exact ⟨_, rfl, by kernel_rfl⟩) _ _ _ _ _ _ _ rfl rfl rfl (fun w hw => (bin_neqb _ _).trans (by simp))
            · exact step_pick rfl trivial _ _ _ false rfl (by kernel_rfl) (by kernel_rfl)
          intro W hW
          first | refine hK _ _ ?_ | refine (‹∀ (a : Act) (w : World), Code.wp Try.prog _ _ a w → _›) _ _ ?_
          simp only [finL, List.getD_cons_zero, List.getD_cons_succ, Nat.zero_add, Nat.reduceAdd, List.setIfInBounds_toArray, List.set_cons_zero, List.set_cons_succ]
          clear hK hn1 hbu hb1
          obtain ⟨hnW, hbW⟩ := hW
          go_wp2
          refine wp_region_any hmx ?_
          obtain ⟨Wa, hWa⟩ : ∃ Wa, W = Wa := ⟨_, rfl⟩
          rw [hWa] at hnW hbW ⊢
          refine wpAny_pure (fun i__ => ([(nt (j : Int) t q), (.int .i64 (j : Int)), (nt (j : Int) 0 1), (.bool (pNew ((j : Int), t, q)))] : List Value).getD i__ undef) (fun V => NB V u1.heap.size (j : Int) t q ∧ Below wr.heap.size wr V) (by kernel_rfl) ⟨hnW.carry (Below.refl _ _).drew, hbW.drew⟩ ?_ ?_
          · refine (stepsFrom_cons ?_ (stepsFrom_cons ?_ (stepsFrom_cons ?_ (stepsFrom_cons ?_ trivial))))
            · exact step_load rfl trivial _ _ _ rfl rfl (fun w hw => load_nt hw.1)
            · exact step_move rfl trivial _ rfl (by kernel_rfl)
            · exact step_call rfl trivial 23 _ _ [(.int .i64 (j : Int))] rfl (by kernel_rfl) (enters_of Try.func23 (by kernel_rfl) rfl) (fun w hw => (fresh_any (j : Int) w).mono (by rintro e w' ⟨rfl, hb⟩; exact ⟨rfl, hw.1.carry hb, bel2 hw.2 hb⟩))
            · exact step_binOp rfl trivial _ _ _ _ _ _ _ rfl rfl rfl (fun w hw => bin_neqn _ _ _ _ _ _)
          intro W hW
          first | refine hK _ _ ?_ | refine (‹∀ (a : Act) (w : World), Code.wp Try.prog _ _ a w → _›) _ _ ?_
          simp only [finL, List.getD_cons_zero, List.getD_cons_succ, Nat.zero_add, Nat.reduceAdd, List.setIfInBounds_toArray, List.set_cons_zero, List.set_cons_succ]
          obtain ⟨hn2, hb2⟩ := hW
          have hbz2 := bel2 hbr hb2
          cases hpn : pNew ((j : Int), t, q) with
          | false =>
            have HF2 := HFS.out
            rw [hpn, if_neg (by decide)] at HF2
            have HE : Hid (W.ownsRow z0.heap.size 32 3 u14 ((L.take (j + 1)).filter pNew).length (fl ((L.take (j + 1)).filter pNew))) := by
              show W.ownsRow _ _ _ _ _ _
              rw [HF2]
              exact row_below HROW.out hb2
            clear HF2
            go_wp2
            go_roundw
            case rel => exact ⟨j + 1, by simp, by omega, HE.out, hbz2⟩
            case measure => simp [vnatR]; omega
          | true =>
            have HF2 := HFS.out
            rw [hpn, if_pos rfl] at HF2
            have HF3 : Hid ((L.take (j + 1)).filter pNew = (L.take j).filter pNew ++ [((j : Int), t, q)]) := HF2
            have n0 := hn2.c0
            have n1 := hn2.c1
            have n2 := hn2.c2
            have hrow2 := row_below HROW.out hb2
            have hsz2 := hbz2.size
            clear HF2
            go_wp2_with (at_builtin; refine wpList_append_own _ rfl _ _ 22 rfl z0.heap.size 32 ic _ 3 24 Try.underlying22 hic hzz0 hzz1 hzz2 rfl (by decide) _ _ _ rfl (hrow2.alloc _) ⟨W.heap.size, 0, none⟩ 1 1 [_, _, _] rfl rfl (rowN _ #[_, _, _] _) (by simp [Value.oneCell']) (by unfold maxLen; omega) (by omega) (Nat.le_trans hsz2 (by simp)) ?_; intro v' w2 hown' hgrow _)
            have HE : Hid (w2.ownsRow z0.heap.size 32 3 v' ((L.take (j + 1)).filter pNew).length (fl ((L.take (j + 1)).filter pNew))) := by
              show w2.ownsRow _ _ _ _ _ _
              rw [HF3.out, fl_append, List.length_append]
              exact hown'
            go_roundw
            case rel => exact ⟨j + 1, by simp, by omega, HE.out, (hbz2.alloc hsz2 _).grown hgrow (Nat.le_trans hsz2 (by simp)) (fun q e => own_block hrow2 q e)⟩
            case measure => simp [vnatR]; omega
        · have hji : ¬ (j : Int) < (N : Int) := by omega
          obtain rfl : j = N := by omega
          have hm : Made z0 wr u14 F := by
            have e : (L.take j).filter pNew = F := by rw [List.take_of_length_le (by rw [HL1.out]; exact Nat.le_refl _)]; exact HF.out
            rw [e] at hrow
            exact hrow
          obtain ⟨adw, capw, rfl, hrw, _⟩ := hm.rd
          have HRW : Hid (RdN wr adw F) := hrw
          have HFL : Hid (F.length ≤ 6000000000000) := by
            show F.length ≤ _
            rw [← HF.out]
            have := List.length_filter_le pNew L
            have := HP.out.2
            omega
          have HC1 : Hid (∀ W, Below wr.heap.size wr W → Calls Try.prog 24 #[.slice adn F.length capn, .slice adw F.length capw] W fun e w' => e = .returned (.bool true) ∧ Below W.heap.size W w') := fun W hb => same_any adn adw capn capw F W (HRN.out.carry (bel2 hbr hb)) (HRW.out.carry hb) HFL.out
          have HC2 : Hid (∀ W, Below wr.heap.size wr W → Calls Try.prog 25 #[.int .i64 (j : Int), .slice ada j capa] W fun e w' => e = .returned (.bool true) ∧ Below W.heap.size W w') := fun W hb => by
            have := rising_any (L.length : Int) ada capa L W (HRA.out.carry (bel2 hbr hb)) (by have := HP.out.2; omega)
            rwa [bok_rising HB1.out HP.out.1 HP.out.2, HL1.out] at this
          have HC3 : Hid (∀ W, Calls Try.prog 26 #[.agg #[.int .u32 (wd S 0 : Nat), .int .u32 (wd S 1 : Nat), .int .u32 (wd S 2 : Nat), .int .u32 (wd S 3 : Nat)], .int .i64 (j : Int)] W fun e w' => e = .returned (.bool true) ∧ Below W.heap.size W w') := fun W => by
            have := within_any (sus L) (Nat.lt_trans (sus_lt HB1.out HP.out.2) (by decide)) (L.length : Int) W
            rwa [sus_within HB1.out HP.out.2, HL1.out, HS.out] at this
          have HSW : Hid (Holds4 wr bs (wd S)) := HSZ.out.keep hbr hlb
          clear hm hrow hrw
          go_wp2_with (first | (go_at_call 10; (with_reducible refine (hal _).mono ?_); rintro e y1 ⟨rfl, hb1⟩; have k1 := HC1.out y1 hb1) | (go_at_call 24; (with_reducible refine k1.mono ?_); rintro e y2 ⟨rfl, hb2⟩; have hbb := bel2 hb1 hb2; have k2 := HC2.out y2 hbb) | (go_at_call 25; (with_reducible refine k2.mono ?_); rintro e y3 ⟨rfl, hb3⟩; have hbc := bel2 hbb hb3; obtain ⟨x0, x1, x2, x3, _, _, _, _⟩ := (HSW.out.carry hbc).facts; have k3 := HC3.out y3) | (go_at_call 26; (with_reducible refine k3.mono ?_); rintro e y4 ⟨rfl, hb4⟩))
          go_ret
          exact ⟨rfl, bel2 (bel2 hbz (bel2 hbr hbc)) hb4⟩
    · rw [decide_eq_false h300] at hl3
      go_enter Try.func7, Try.ntmps7
      go_wp2_with (first | (go_at_call 8; (with_reducible refine (hnw _).mono ?_); rintro e u hV; obtain ⟨p, g, rfl, hp, hg, hk⟩ := HOK.out _ _ _ hV; have hbw := bel2 hbw hV.1; clear hV hp hg hk) | (go_at_call 9; (with_reducible refine (hl3 _).mono ?_); rintro e u ⟨rfl, rfl⟩) | (go_at_call 10; (with_reducible refine (hal _).mono ?_); rintro e u ⟨rfl, hb⟩; have hbw := bel2 hbw hb))
      go_ret
      exact ⟨rfl, hbw⟩
  · clear w3 hc3 hq3
    go_enter Try.func7, Try.ntmps7
    go_wp2_with (first | (go_at_call 8; (with_reducible refine (hnw _).mono ?_); rintro e u hV; obtain ⟨E, hE, rfl⟩ := hV.bad hok; have hbw := bel2 hbw hV.1; clear hV) | (go_at_call 10; (with_reducible refine (hal _).mono ?_); rintro e u ⟨rfl, hb⟩; have hbw := bel2 hbw hb))
    go_ret
    exact ⟨rfl, hbw⟩

set_option maxRecDepth 100000 in
theorem lifted (os : Os) (started : os.Started) (H : Type) (enc : TypeId × Value → H) :
    ReturnsInHanded {} Try.checked os 7 .any (Rows.bookShownSpec.pre6 enc Try.prog Try.f7 Rows.bookShownRow.domain false) (Rows.bookShownSpec.post enc Try.prog Try.f7 false true false false) := by
  refine returnsInHanded_of_change (C := Try.checked) own started (by kernel_rfl) Try.func7
    (ChangeSpec.witness6 (enc := enc) (C := Try.checked) false ⟨#[], #[.int .i64 0, .int .i64 0, .int .i64 0, .slice none 0 0], []⟩ 8 (by kernel_rfl) (by kernel_rfl) (by kernel_rfl) (by kernel_rfl)) ?_
  intro W base args ds gs before hval0 hW hcnd _
  have hval : ∀ (j : Nat) t v, Try.f7.params[j]? = some t → args[j]? = some v → Value.okWide Try.prog W .any base t v := hval0
  have hW' := hW
  obtain ⟨p, q, hA0, hV, rfl, hfz, hnd⟩ := hW
  have hA : DataW.TrodAll enc Try.prog W 0 (fun _ => true) true Try.f7.params.toList args.toList ds p := hA0
  rw [Try.params7] at hA hval
  obtain ⟨v0, vs0, d0, ds0, p0, q0, hargs, rfl, rfl, h0, r0⟩ := trodAll_cons hA
  obtain ⟨v1, vs1, d1, ds1, p1, q1, rfl, rfl, rfl, h1, r1⟩ := trodAll_cons r0
  obtain ⟨v2, vs2, d2, ds2, p2, q2, rfl, rfl, rfl, h2, r2⟩ := trodAll_cons r1
  obtain ⟨v3, vs3, d3, ds3, p3, q3, rfl, rfl, rfl, h3, r3⟩ := trodAll_cons r2
  obtain ⟨rfl, rfl, rfl⟩ := trodAll_nil r3
  obtain rfl : args = #[v0, v1, v2, v3] := by cases args; simp_all
  obtain ⟨rfl, rfl⟩ := trodVars_none hV
  obtain ⟨a0, rfl, rfl, rfl, w0⟩ := open_int Try.underlying3 (hval 0 3 v0 rfl rfl) h0
  obtain ⟨a1, rfl, rfl, rfl, w1⟩ := open_int Try.underlying3 (hval 1 3 v1 rfl rfl) h1
  obtain ⟨a2, rfl, rfl, rfl, w2⟩ := open_int Try.underlying3 (hval 2 3 v2 rfl rfl) h2
  have k3 := h3
  have lt3 : ∀ x ∈ p3, x.block < W.heap.size := by obtain ⟨m, hm⟩ := k3; exact DataW.trod_lt m _ _ _ hm
  obtain ⟨ad3, cap3, l3, rfl, w3, hc3, hq3, hd3⟩ := open_nts (hval 3 22 v3 rfl rfl) h3
  clear hA0 hval0
  refine (walk W a0 w0 a1 w1 a2 w2 ad3 cap3 l3 w3 hc3 hq3).mono fun e W' ⟨he, hg⟩ => ?_
  subst he
  exact ⟨_, rfl, _, _, _, [], _, [], hW', (trodAll_cons_mk (shut_bool Try.underlying4 _) trodAll_mk0), (trodAll_cons_mk (shut_int Try.underlying3 w0) (trodAll_cons_mk (shut_int Try.underlying3 w1) (trodAll_cons_mk (shut_int Try.underlying3 w2) (trodAll_cons_mk (Below.trod laidOut (by kernel_rfl) (of_decide_eq_true (by kernel_rfl)) k3 hg lt3) trodAll_mk0)))), rfl, hg.frame _, fun h => by cases h⟩

theorem over : Rows.bookShownRow.holds Try.pinned (OpenSpec.ofChange Rows.bookShownSpec) :=
  OpenClaim.holds_of_wide 7 Try.f7 rfl rfl rfl rfl rfl rfl rfl ⟨rfl, rfl, rfl, rfl, rfl⟩ rfl rfl rfl rfl rfl (by kernel_rfl) Try.func7 (by kernel_rfl)
    (of_decide_eq_true (by kernel_rfl)) (by unfold Func.isWrapper; first | (rw [if_pos (by decide +kernel)]; kernel_rfl) | (rw [if_neg (by decide +kernel)]; exact ⟨rfl, rfl⟩))
    (fun os started H enc _ => lifted os started H enc)

theorem proved : Rows.BookShownSaid :=
  over
#print axioms proved
end Go.Proofs.Ytpphmfmfenifgaa
