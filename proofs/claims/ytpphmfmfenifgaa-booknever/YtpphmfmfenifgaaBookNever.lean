/- BookNever: at every n, self, tag and lists of notices: no notice of a book ever falls, and none rises but where Merge says so; no condition. -/
import Derived.Test.YtpphmfmfenifgaaRows
import Derived.WalkKit
import Derived.ProofKit
import Derived.OpenShut
import Derived.Test.YtpphmfmfenifgaaBkj
import Derived.Test.YtpphmfmfenifgaaOpn3
namespace Go.Proofs.Ytpphmfmfenifgaa
open Go.ChangeShapes Go.WideShapes Go.ChangeAt Go.RowKit
set_option linter.unusedVariables false

theorem laidOut : laidOutB Try.prog = true := by kernel_rfl
theorem own : ownKnob Try.prog.godebug = none := by kernel_rfl
open Go.Shelf
theorem bin_neqb {x y : Operand} {w : World} (a b : Bool) : binRun Try.prog .neq 4 x y (.bool a) (.bool b) w = .ok (.bool (a != b)) w := by
  unfold binRun
  cases a <;> cases b <;> go_simp
theorem whole_s {W : World} {b N : Nat} (h : Holds4 W b (wd N)) : (Instr.loadAt 35 (.pointer (some ⟨b, 0, none⟩))).run Try.prog W = .ok (sv N) W := whole4 W b N h
theorem up_bt {L L' : List N3} (h : Bok L) (h' : Bok L') {k : Nat} {o t q o' t' q' : Int} (hx : L[k]? = some (o, t, q)) (hx' : L'[k]? = some (o', t', q')) : bt o' t' q' o t q = decide (rkl L k < rkl L' k) := by
  obtain ⟨e1, r1⟩ := h k _ hx
  obtain ⟨e2, r2⟩ := h' k _ hx'
  rw [rkl_some hx, rkl_some hx']
  unfold rkx at *
  dsimp only at *
  unfold bt
  exact decide_eq_decide.2 ⟨fun h => h.2.2.2, fun h => ⟨e2.trans e1.symm, r2, r1, h⟩⟩
theorem up_has {L : List N3} (h : Bok L) (m : List N3) {k : Nat} (hk : k < 100) : hasB (mrs L m) (k : Int) = decide (rkl L k < rkl (mrg L m) k) := by
  unfold hasB
  rw [decide_eq_true (by omega), Bool.true_and, Int.toNat_natCast, mrs_bit h]
theorem up_not {L : List N3} (h : Bok L) (m : List N3) {k : Nat} {x x' : N3} (hx : L[k]? = some x) (hx' : (mrg L m)[k]? = some x') (hn : decide (rkl L k < rkl (mrg L m) k) = false) : x' = x := by
  have h1 := of_decide_eq_false hn
  have h2 := mrg_ge h m k
  rw [rkl_some hx, rkl_some hx'] at h1 h2
  obtain ⟨e1, r1⟩ := h k _ hx
  obtain ⟨e2, r2⟩ := mrg_bok h m k _ hx'
  have := rk_inj (show rk x'.2.1 x'.2.2 = rk x.2.1 x.2.2 by unfold rkx at h1 h2; omega) r2
  exact Prod.ext (e2.trans e1.symm) (Prod.ext this.1 this.2)
set_option maxHeartbeats 8000000 in
set_option maxRecDepth 100000 in
theorem walk (w : World) (a0 : Int) (w0 : (Lit.int .i64 a0).wf = true) (a1 : Int) (w1 : (Lit.int .i64 a1).wf = true) (a2 : Int) (w2 : (Lit.int .i64 a2).wf = true) (ad3 : Option Addr) (cap3 : Nat) (l3 : List (List (Int × Int × Int))) (w3 : RdNN w ad3 l3) :
    Calls Try.prog 5 #[.int .i64 a0, .int .i64 a1, .int .i64 a2, .slice ad3 l3.length cap3] w fun e w' => e = .returned (.bool true) ∧ Below w.heap.size w w' := by
  have hmx : Try.prog.follows .mixedOrders = true := by kernel_rfl
  have hal := balive_any
  have hnw := new_any a0 a1 a2
  have hbw : Below w.heap.size w w := Below.refl _ _
  by_cases hok : ¬ (a0 < 1 ∨ 100 < a0) ∧ ¬ (a1 < 0 ∨ a0 ≤ a1) ∧ ¬ (a2 < 0 ∨ 1048576 < a2)
  · obtain ⟨h1, h2, h3⟩ := hok
    obtain ⟨N, rfl⟩ : ∃ N : Nat, a0 = (N : Int) := ⟨a0.toNat, by omega⟩
    obtain ⟨s, rfl⟩ : ∃ s : Nat, a1 = (s : Int) := ⟨a1.toNat, by omega⟩
    have HOK : Hid (∀ (W V : World) (e : Ending), NewV (N : Int) (s : Int) a2 W e V → ∃ p g, e = .returned (.tuple #[.pointer (some ⟨p, 0, none⟩), .int .i64 0]) ∧ W.heap.size ≤ p ∧ W.heap.size ≤ g ∧ Bk V p g (bk0 N s a2)) := fun W V e hV => by simpa using hV.ok h1 h2 h3
    have HB0 : Hid (Bok (bk0 N s a2)) := bk0_bok (by omega) (by omega)
    have HL0 : Hid ((bk0 N s a2).length = N ∧ 1 ≤ N ∧ N ≤ 100) := ⟨bk0_len _ _ _, by omega, by omega⟩
    clear h1 h2 h3
    generalize bk0 N s a2 = L0 at HOK HB0 HL0
    have hS0 := Bks.nil w
    have HW3 : Hid (RdNN w ad3 l3) := w3
    clear w3
    by_cases h40 : (l3.length : Int) > 40
    · go_enter Try.func5, Try.ntmps5
      go_wp2_with (first | (go_at_call 8; (with_reducible refine (hnw _).mono ?_); rintro e u hV; obtain ⟨p, g, rfl, hp, hg, hk⟩ := HOK.out _ _ _ hV; have hbw := bel2 hbw hV.1; clear hV hp hg hk) | (go_at_call 10; (with_reducible refine (hal _).mono ?_); rintro e u ⟨rfl, hb⟩; have hbw := bel2 hbw hb))
      go_ret
      exact ⟨rfl, hbw⟩
    · have h40' : ¬ 40 < (l3.length : Int) := by omega
      have HLI : Hid (∀ (L : List N3), L.length = N → ∀ (W : World) (p g : Nat), Bk W p g L → Calls Try.prog 15 #[.pointer (some ⟨p, 0, none⟩)] W fun e w' => ∃ ad cap, e = .returned (.slice ad N cap) ∧ RdN w' ad L ∧ (∀ a, ad = some a → W.heap.size ≤ a.block) ∧ Below W.heap.size W w') := fun L hL W p g hk => (blist_any hk (by rw [hL]; exact HL0.out.2.1) (by rw [hL]; exact HL0.out.2.2)).mono (by
        rintro e w' ⟨v, rfl, hm, hb⟩
        rw [filter_all] at hm
        obtain ⟨ad, cap, rfl, hr, ha⟩ := hm.rd
        exact ⟨ad, cap, by rw [hL], hr, ha, hb⟩)
      go_enter Try.func5, Try.ntmps5
      go_wp2_with (go_at_call 8; (with_reducible refine (hnw _).mono ?_); rintro e u1 hV; obtain ⟨pb, gb, rfl, hp, hg, hk⟩ := HOK.out _ _ _ hV; have hS1 : Bks w [(pb, gb, L0)] u1 := hS0.add hV.1 hk hp hg; clear hS0 hV hp hg hk)
      clear hnw HOK
      go_loopw [11] (fun i wz => ∃ (j : Nat) (L : List N3), i = .int .i64 j ∧ j ≤ l3.length ∧ Bok L ∧ L.length = N ∧ Bks w [(pb, gb, L)] wz) (fun i _ => l3.length - vnatR i)
      case atStart => exact ⟨0, L0, rfl, Nat.zero_le _, HB0.out, HL0.out.1, hS1⟩
      case round =>
        obtain ⟨j, L, rfl, hjl, hbo, hln, hS⟩ := hrel
        clear hS1
        have HBO : Hid (Bok L) := hbo
        have HLN : Hid (L.length = N) := hln
        clear hbo hln
        have hN100 : N ≤ 100 := HL0.out.2.2
        by_cases hjn : j < l3.length
        · have hji : (j : Int) < (l3.length : Int) := by omega
          obtain ⟨m, hm⟩ : ∃ m, l3[j]? = some m := ⟨_, List.getElem?_eq_getElem hjn⟩
          obtain ⟨b3, o3, e1, hb3, hat⟩ := HW3.out (fun e => by rw [e] at hjn; simp at hjn)
          subst e1
          obtain ⟨adm, capm, cm, hrm⟩ := hat j m hm
          have HRM : Hid (RdN w adm m) := hrm
          have cmr : wr.cell? ⟨b3, o3 + j, none⟩ = some (.slice adm m.length capm) := (hS.below.cell (p := ⟨b3, _, none⟩) hb3).trans cm
          have hli := fun W => light_any W adm m.length capm
          clear hat cm hrm hm
          by_cases h300 : m.length ≤ 300
          · rw [decide_eq_true h300] at hli
            have HMG : Hid (∀ (W : World), Bk W pb gb L → RdN W adm m → (m ≠ [] → ∀ a, adm = some a → a.block ≠ gb) → Calls Try.prog 12 #[.pointer (some ⟨pb, 0, none⟩), .slice adm m.length capm] W fun e w' => e = .returned (.tuple #[.agg #[.int .u32 (wd (mrs L m) 0 : Nat), .int .u32 (wd (mrs L m) 1 : Nat), .int .u32 (wd (mrs L m) 2 : Nat), .int .u32 (wd (mrs L m) 3 : Nat)], .int .i64 (if m.all (vlx L.length) = true then 0 else 50)]) ∧ Bk w' pb gb (mrg L m) ∧ W.grownBy w' (some gb)) := fun W hk hr hne => merge_any hk adm capm m hr hne (by omega)
            have HBM : Hid (Bok (mrg L m)) := mrg_bok HBO.out m
            have HLM : Hid ((mrg L m).length = N) := (mrg_len HBO.out m).trans HLN.out
            have HUP : Hid (∀ (k : Nat), k < N → ∃ o t q o' t' q' U, L[k]? = some (o, t, q) ∧ (mrg L m)[k]? = some (o', t', q') ∧ o' = (k : Int) ∧ bt o' t' q' o t q = U ∧ hasB (mrs L m) (k : Int) = U ∧ (U = false → (o', t', q') = (o, t, q))) := by
              intro k hk
              obtain ⟨⟨o, t, q⟩, hx⟩ : ∃ x, L[k]? = some x := ⟨_, List.getElem?_eq_getElem (by rw [HLN.out]; exact hk)⟩
              obtain ⟨⟨o', t', q'⟩, hx'⟩ : ∃ x, (mrg L m)[k]? = some x := ⟨_, List.getElem?_eq_getElem (by rw [HLM.out]; exact hk)⟩
              exact ⟨o, t, q, o', t', q', _, hx, hx', (HBM.out k _ hx').1, up_bt HBO.out HBM.out hx hx', up_has HBO.out m (by omega), fun e => up_not HBO.out m hx hx' e⟩
            have HIN : Hid (m.all (vlx L.length) = false → mrs L m = 0) := fun h => by unfold mrs; rw [if_neg (by rw [h]; decide)]
            generalize hSS : mrs L m = S at HMG HUP HIN
            generalize mrg L m = L' at HMG HBM HLM HUP
            clear hSS
            have HHAS : Hid (∀ k W, Calls Try.prog 18 #[sv S, .int .i64 ((k : Nat) : Int)] W fun e w' => e = .returned (.bool (hasB S (k : Int))) ∧ Below W.heap.size W w') := fun k W => has_any S (k : Int) W
            have k0 := HLI.out L HLN.out wr pb gb (hS.get 0 rfl)
            cases hall : m.all (vlx L.length) with
            | false =>
              rw [hall, if_neg (by decide)] at HMG
              obtain rfl : 0 = S := (HIN.out hall).symm
              have hbS := hS.below
              have HCN : Hid (∀ W, Calls Try.prog 16 #[.agg #[.int .u32 0, .int .u32 0, .int .u32 0, .int .u32 0]] W fun e w' => e = .returned (.int .i64 0) ∧ Below W.heap.size W w') := by
                intro W
                have := count_any 0 W
                rw [sv_zero] at this
                exact this
              rw [wd_zero, wd_zero, wd_zero, wd_zero] at HMG
              go_wp2_with (first | (go_at_call 9; (with_reducible refine (hli _).mono ?_); rintro e u ⟨rfl, rfl⟩) | (go_at_call 15; first | (have hz := hS; (with_reducible refine k0.mono ?_); rintro e v1 ⟨adx, capx, rfl, hrx, hax, hb1⟩; have hS2 := hS.carry hb1; have hgl := (hS.get 0 rfl).glt; clear hS hz k0; have k1 := HMG.out v1 (hS2.get 0 rfl) (HRM.out.carry hS2.below) (HRM.out.ne (hS2.base 0 rfl)); skip; have cm2 : v1.cell? ⟨b3, o3 + j, none⟩ = some (.slice adm m.length capm) := (hb1.cell (p := ⟨b3, _, none⟩) (Nat.lt_of_lt_of_le hb3 hbS.size)).trans cmr) | (have hz := hS4; (with_reducible refine k2.mono ?_); rintro e v3 ⟨ady, capy, rfl, hry, hay, hb3'⟩; have hS5 := hS4.carry hb3'; have hrx3 := hrx2.carry hb3'; have hs3 := hs2.carry hb3'; clear hS4 hz k2; have k3 := HCN.out v3; obtain ⟨y0, y1, y2, y3, _, _, _, _⟩ := hs3.facts; rw [wd_zero] at y0 y1 y2 y3)) | (go_at_call 12; (with_reducible refine k1.mono ?_); rintro e v2 ⟨rfl, hk2, hg2⟩; have hS3 : Bks w [(pb, gb, L')] v2 := hS2.turn 0 rfl hk2 hg2; have hrx1 := hrx.turn hg2 (fun _ a ha => (by have := hax a ha; omega)); clear hS2 k1 hk2 hg2; have hS4 := hS3.carry (al1 v2 (.cells #[.int .u32 0, .int .u32 0, .int .u32 0, .int .u32 0] 35)); have hrx2 := hrx1.carry (al1 v2 (.cells #[.int .u32 0, .int .u32 0, .int .u32 0, .int .u32 0] 35)); have hs2 : Holds4 (v2.alloc (.cells #[.int .u32 0, .int .u32 0, .int .u32 0, .int .u32 0] 35)) v2.heap.size (wd 0) := (Holds4.congr (c := fun _ => 0) (new_at rfl) (fun j _ => (wd_zero j).symm)); clear hS3; have k2 := HLI.out L' HLM.out _ pb gb (hS4.get 0 rfl)) | (go_at_call 16; (with_reducible refine k3.mono ?_); rintro e v4 ⟨rfl, hb4⟩; have hS6 := hS5.carry hb4; have hrx4 := hrx3.carry hb4; have hry4 := hry.carry hb4; have hs4 := hs3.carry hb4))
              obtain ⟨bs, hbs⟩ : ∃ bs, v2.heap.size = bs := ⟨_, rfl⟩
              rw [hbs] at hs3 ⊢
              obtain ⟨z0, hz0⟩ : ∃ z0, v4 = z0 := ⟨_, rfl⟩
              rw [hbs] at hs4
              rw [hz0] at hs4 hrx4 hry4 hS6 ⊢
              have hsz := hs4
              have hrxz := hrx4
              have hryz := hry4
              have hSz := hS6
              clear hs3 hs4 hrx3 hrx4 hry hry4 hS5 hS6 hz0 hrx hrx1 hrx2 hax hay hb1 hb3' hb4 hs2 hli hbS y0 y1 y2 y3 k3 HCN
              obtain ⟨bx, ox, rfl, hbx, hxat⟩ := hrxz (fun e => by have := HLN.out; have := HL0.out.2.1; rw [e] at *; simp at *; omega)
              obtain ⟨by', oy, rfl, hby, hyat⟩ := hryz (fun e => by have := HLM.out; have := HL0.out.2.1; rw [e] at *; simp at *; omega)
              have HX : Hid (NtsAt z0 bx ox L) := hxat
              have HY : Hid (NtsAt z0 by' oy L') := hyat
              have HZ : Hid (Holds4 z0 bs (wd 0)) := hsz
              have hlb : bs < z0.heap.size := hsz.lt
              have HSZ : Hid (Bks w [(pb, gb, L')] z0) := hSz
              have hbz := hSz.below
              clear hxat hyat hsz hSz
              go_loopw [16] (fun i wz => ∃ (k : Nat), i = .int .i64 k ∧ k ≤ N ∧ Below z0.heap.size z0 wz) (fun i _ => N - vnatR i)
              case atStart => exact ⟨0, rfl, Nat.zero_le _, Below.refl _ _⟩
              case round =>
                obtain ⟨k, rfl, hkl, hbr⟩ := hrel
                by_cases hkn : k < N
                · have hki : (k : Int) < (N : Int) := by omega
                  obtain ⟨o, t, q, o', t', q', U, hx, hy, ho, hU, hH, hF⟩ := HUP.out k hkn
                  subst ho
                  have hbe := beats_any (k : Int) t' q' o t q
                  rw [hU] at hbe
                  have HHA : Hid (∀ W, Calls Try.prog 18 #[sv 0, .int .i64 ((k : Nat) : Int)] W fun e w' => e = .returned (.bool U) ∧ Below W.heap.size W w') := fun W => by have := HHAS.out k W; rwa [hH] at this
                  have HXR : Hid (NtsAt wr bx ox L) := NtsAt.carry HX.out hbx hbr
                  have HYR : Hid (NtsAt wr by' oy L') := NtsAt.carry HY.out hby hbr
                  have HZR : Hid (Holds4 wr bs (wd 0)) := HZ.out.keep hbr hlb
                  have hbx' := Nat.lt_of_lt_of_le hbx hbr.size
                  have hby' := Nat.lt_of_lt_of_le hby hbr.size
                  have hx' : Hid (L[k]? = some (o, t, q)) := hx
                  have hy' : Hid (L'[k]? = some ((k : Int), t', q')) := hy
                  have HFF : Hid (U = false → ((k : Int), t', q') = (o, t, q)) := hF
                  clear hx hy hU hH hF
                  go_wp2
                  rename_i Q0 K0 hK
                  refine wp_region_any hmx ?_
                  refine wpAny_pure (fun i__ => ([(.slice (some ⟨by', oy, none⟩) N capy), (.int .i64 (k : Int)), (.pointer (some ⟨by', oy + k * 3, none⟩)), (nt (k : Int) t' q'), (.slice (some ⟨bx, ox, none⟩) N capx), (.int .i64 (k : Int)), (.pointer (some ⟨bx, ox + k * 3, none⟩)), (nt o t q), (.bool U), (.bool U)] : List Value).getD i__ undef) (fun V => Below wr.heap.size wr V) (by kernel_rfl) (Below.refl _ _).drew ?_ ?_
                  · refine (stepsFrom_cons ?_ (stepsFrom_cons ?_ (stepsFrom_cons ?_ (stepsFrom_cons ?_ (stepsFrom_cons ?_ (stepsFrom_cons ?_ (stepsFrom_cons ?_ (stepsFrom_cons ?_ (stepsFrom_cons ?_ (stepsFrom_cons ?_ trivial))))))))))
                    · exact step_move rfl trivial _ rfl (by kernel_rfl)
                    · exact step_move rfl trivial _ rfl (by kernel_rfl)
                    · exact step_indexAddr rfl trivial _ _ _ _ _ rfl rfl rfl (fun w hw => idx_n by' oy _ _ k hkn w)
                    · exact step_load rfl trivial _ _ _ rfl rfl (fun w hw => load_at (HYR.out.carry hby' hw) hy'.out)
                    · exact step_move rfl trivial _ rfl (by kernel_rfl)
                    · exact step_move rfl trivial _ rfl (by kernel_rfl)
                    · exact step_indexAddr rfl trivial _ _ _ _ _ rfl rfl rfl (fun w hw => idx_n bx ox _ _ k hkn w)
                    · exact step_load rfl trivial _ _ _ rfl rfl (fun w hw => load_at (HXR.out.carry hbx' hw) hx'.out)
                    · exact step_call rfl trivial 17 _ _ [(nt (k : Int) t' q'), (nt o t q)] rfl (by kernel_rfl) (enters_of Try.func17 (by kernel_rfl) rfl) (fun w hw => (hbe w).mono (by rintro e w' ⟨rfl, hb⟩; exact ⟨rfl, bel2 hw hb⟩))
                    · exact step_assign rfl trivial _ rfl (by kernel_rfl) (fun _ h => h)
                  intro W hW
                  first | refine hK _ _ ?_ | refine (‹∀ (a : Act) (w : World), Code.wp Try.prog _ _ a w → _›) _ _ ?_
                  simp only [finL, List.getD_cons_zero, List.getD_cons_succ, Nat.zero_add, Nat.reduceAdd, List.setIfInBounds_toArray, List.set_cons_zero, List.set_cons_succ]
                  clear hK hbe
                  obtain ⟨Wa, hWa⟩ : ∃ Wa, W = Wa := ⟨_, rfl⟩
                  rw [hWa] at hW ⊢
                  have hWb := hW
                  clear hWa hW
                  cases U with
                  | true =>
                    go_wp2
                    refine wp_region_any hmx ?_
                    refine wpAny_pure (fun i__ => ([(.slice (some ⟨by', oy, none⟩) N capy), (.int .i64 (k : Int)), (.pointer (some ⟨by', oy + k * 3, none⟩)), (.pointer (some ⟨by', oy + k * 3, none⟩)), (.int .i64 (k : Int)), (.int .i64 (k : Int)), (.bool false), (.bool false), (.bool true), (sv 0), (.int .i64 (k : Int)), (.bool true), (.bool false), (.bool false), (.bool false), (.bool true), (.bool false), (.bool false), undef, undef, undef, undef, undef, undef, undef, undef, undef, (.bool false), (.bool false)] : List Value).getD i__ undef) (fun V => Below wr.heap.size wr V) (by kernel_rfl) (hWb.drew) ?_ ?_
                    · refine (stepsFrom_cons ?_ (stepsFrom_cons ?_ (stepsFrom_cons ?_ (stepsFrom_cons ?_ (stepsFrom_cons ?_ (stepsFrom_cons ?_ (stepsFrom_cons ?_ (stepsFrom_cons ?_ (stepsFrom_cons ?_ (stepsFrom_cons ?_ (stepsFrom_cons ?_ (stepsFrom_cons ?_ (stepsFrom_cons ?_ (stepsFrom_cons ?_ (stepsFrom_cons ?_ (stepsFrom_cons ?_ (stepsFrom_cons ?_ (stepsFrom_cons ?_ (stepsFrom_cons ?_ (stepsFrom_cons ?_ (stepsFrom_cons ?_ (stepsFrom_cons ?_ (stepsFrom_cons ?_ (stepsFrom_cons ?_ (stepsFrom_cons ?_ (stepsFrom_cons ?_ (stepsFrom_cons ?_ (stepsFrom_cons ?_ (stepsFrom_cons ?_ trivial)))))))))))))))))))))))))))))
                      · exact step_move rfl trivial _ rfl (by kernel_rfl)
                      · exact step_move rfl trivial _ rfl (by kernel_rfl)
                      · exact step_indexAddr rfl trivial _ _ _ _ _ rfl rfl rfl (fun w hw => idx_n by' oy _ _ k hkn w)
                      · exact step_fieldAddr rfl trivial _ _ _ _ rfl rfl (fun w hw => field_at w _ _)
                      · exact step_load rfl trivial _ _ _ rfl rfl (fun w hw => load_of (HYR.out.carry hby' hw) hy'.out)
                      · exact step_move rfl trivial _ rfl (by kernel_rfl)
                      · exact step_binOp rfl trivial _ _ _ _ _ _ _ rfl rfl rfl (fun w hw => (bin_neq .i64 _ _).trans (by simp))
                      · exact step_move rfl trivial _ rfl (by kernel_rfl)
                      · exact step_move rfl (by exact ⟨_, rfl, by kernel_rfl⟩) _ rfl (by kernel_rfl)
                      · exact step_load rfl (by exact ⟨_, rfl, by kernel_rfl⟩) _ _ _ rfl rfl (fun w hw => whole_s (HZR.out.carry hw))
                      · exact step_move rfl (by exact ⟨_, rfl, by kernel_rfl⟩) _ rfl (by kernel_rfl)
                      · exact step_call rfl (by exact ⟨_, rfl, by kernel_rfl⟩) 18 _ _ [(sv 0), (.int .i64 (k : Int))] rfl (by kernel_rfl) (enters_of Try.func18 (by kernel_rfl) rfl) (fun w hw => (HHA.out w).mono (by rintro e w' ⟨rfl, hb⟩; exact ⟨rfl, bel2 hw hb⟩))
                      · exact step_binOp rfl (by exact ⟨_, rfl, by kernel_rfl⟩) _ _ _ _ _ _ _ rfl rfl rfl (fun w hw => (bin_neqb _ _).trans (by simp))
                      · exact step_pick rfl trivial _ _ _ false rfl (by kernel_rfl) (by kernel_rfl)
                      · exact step_move rfl trivial _ rfl (by kernel_rfl)
                      · exact step_move rfl (by exact ⟨_, rfl, by kernel_rfl⟩) _ rfl (by kernel_rfl)
                      · exact step_unOp rfl (by exact ⟨_, rfl, by kernel_rfl⟩) _ _ _ _ rfl rfl (fun w hw => un_not true w)
                      · exact step_move rfl (by exact ⟨_, rfl, by kernel_rfl⟩) _ rfl (by kernel_rfl)
                      · exact step_skip rfl 17 true 108 (.bool false) rfl rfl (by kernel_rfl) (by intro h; cases h) rfl
                      · exact step_skip rfl 17 true 108 (.bool false) rfl rfl (by kernel_rfl) (by intro h; cases h) rfl
                      · exact step_skip rfl 17 true 108 (.bool false) rfl rfl (by kernel_rfl) (by intro h; cases h) rfl
                      · exact step_skip rfl 17 true 108 (.bool false) rfl rfl (by kernel_rfl) (by intro h; cases h) rfl
                      · exact step_skip rfl 17 true 108 (.bool false) rfl rfl (by kernel_rfl) (by intro h; cases h) rfl
                      · exact step_skip rfl 17 true 108 (.bool false) rfl rfl (by kernel_rfl) (by intro h; cases h) rfl
                      · exact step_skip rfl 17 true 108 (.bool false) rfl rfl (by kernel_rfl) (by intro h; cases h) rfl
                      · exact step_skip rfl 17 true 108 (.bool false) rfl rfl (by kernel_rfl) (by intro h; cases h) rfl
                      · exact step_skip rfl 17 true 108 (.bool false) rfl rfl (by kernel_rfl) (by intro h; cases h) rfl
                      · exact step_pick rfl (by exact ⟨_, rfl, by kernel_rfl⟩) _ _ _ false rfl (by kernel_rfl) (by kernel_rfl)
                      · exact step_pick rfl trivial _ _ _ false rfl (by kernel_rfl) (by kernel_rfl)
                    intro W hW
                    first | refine hK _ _ ?_ | refine (‹∀ (a : Act) (w : World), Code.wp Try.prog _ _ a w → _›) _ _ ?_
                    simp only [finL, List.getD_cons_zero, List.getD_cons_succ, Nat.zero_add, Nat.reduceAdd, List.setIfInBounds_toArray, List.set_cons_zero, List.set_cons_succ]
                    go_wp2
                    go_roundw
                    case rel => exact ⟨k + 1, by simp, by omega, bel2 hbr hW⟩
                    case measure => simp [vnatR]; omega
                  | false =>
                    have HEQ : Hid (((k : Int), t', q') = (o, t, q)) := HFF.out rfl
                    go_wp2
                    refine wp_region_any hmx ?_
                    refine wpAny_pure (fun i__ => ([(.slice (some ⟨by', oy, none⟩) N capy), (.int .i64 (k : Int)), (.pointer (some ⟨by', oy + k * 3, none⟩)), (.pointer (some ⟨by', oy + k * 3, none⟩)), (.int .i64 (k : Int)), (.int .i64 (k : Int)), (.bool false), (.bool false), (.bool false), (sv 0), (.int .i64 (k : Int)), (.bool false), (.bool false), (.bool false), (.bool false), (.bool false), (.bool true), (.bool true), (.slice (some ⟨by', oy, none⟩) N capy), (.int .i64 (k : Int)), (.pointer (some ⟨by', oy + k * 3, none⟩)), (nt (k : Int) t' q'), (.slice (some ⟨bx, ox, none⟩) N capx), (.int .i64 (k : Int)), (.pointer (some ⟨bx, ox + k * 3, none⟩)), (nt o t q), (.bool false), (.bool false), (.bool false)] : List Value).getD i__ undef) (fun V => Below wr.heap.size wr V) (by kernel_rfl) (hWb.drew) ?_ ?_
                    · refine (stepsFrom_cons ?_ (stepsFrom_cons ?_ (stepsFrom_cons ?_ (stepsFrom_cons ?_ (stepsFrom_cons ?_ (stepsFrom_cons ?_ (stepsFrom_cons ?_ (stepsFrom_cons ?_ (stepsFrom_cons ?_ (stepsFrom_cons ?_ (stepsFrom_cons ?_ (stepsFrom_cons ?_ (stepsFrom_cons ?_ (stepsFrom_cons ?_ (stepsFrom_cons ?_ (stepsFrom_cons ?_ (stepsFrom_cons ?_ (stepsFrom_cons ?_ (stepsFrom_cons ?_ (stepsFrom_cons ?_ (stepsFrom_cons ?_ (stepsFrom_cons ?_ (stepsFrom_cons ?_ (stepsFrom_cons ?_ (stepsFrom_cons ?_ (stepsFrom_cons ?_ (stepsFrom_cons ?_ (stepsFrom_cons ?_ (stepsFrom_cons ?_ trivial)))))))))))))))))))))))))))))
                      · exact step_move rfl trivial _ rfl (by kernel_rfl)
                      · exact step_move rfl trivial _ rfl (by kernel_rfl)
                      · exact step_indexAddr rfl trivial _ _ _ _ _ rfl rfl rfl (fun w hw => idx_n by' oy _ _ k hkn w)
                      · exact step_fieldAddr rfl trivial _ _ _ _ rfl rfl (fun w hw => field_at w _ _)
                      · exact step_load rfl trivial _ _ _ rfl rfl (fun w hw => load_of (HYR.out.carry hby' hw) hy'.out)
                      · exact step_move rfl trivial _ rfl (by kernel_rfl)
                      · exact step_binOp rfl trivial _ _ _ _ _ _ _ rfl rfl rfl (fun w hw => (bin_neq .i64 _ _).trans (by simp))
                      · exact step_move rfl trivial _ rfl (by kernel_rfl)
                      · exact step_move rfl (by exact ⟨_, rfl, by kernel_rfl⟩) _ rfl (by kernel_rfl)
                      · exact step_load rfl (by exact ⟨_, rfl, by kernel_rfl⟩) _ _ _ rfl rfl (fun w hw => whole_s (HZR.out.carry hw))
                      · exact step_move rfl (by exact ⟨_, rfl, by kernel_rfl⟩) _ rfl (by kernel_rfl)
                      · exact step_call rfl (by exact ⟨_, rfl, by kernel_rfl⟩) 18 _ _ [(sv 0), (.int .i64 (k : Int))] rfl (by kernel_rfl) (enters_of Try.func18 (by kernel_rfl) rfl) (fun w hw => (HHA.out w).mono (by rintro e w' ⟨rfl, hb⟩; exact ⟨rfl, bel2 hw hb⟩))
                      · exact step_binOp rfl (by exact ⟨_, rfl, by kernel_rfl⟩) _ _ _ _ _ _ _ rfl rfl rfl (fun w hw => (bin_neqb _ _).trans (by simp))
                      · exact step_pick rfl trivial _ _ _ false rfl (by kernel_rfl) (by kernel_rfl)
                      · exact step_move rfl trivial _ rfl (by kernel_rfl)
                      · exact step_move rfl (by exact ⟨_, rfl, by kernel_rfl⟩) _ rfl (by kernel_rfl)
                      · exact step_unOp rfl (by exact ⟨_, rfl, by kernel_rfl⟩) _ _ _ _ rfl rfl (fun w hw => un_not false w)
                      · exact step_move rfl (by exact ⟨_, rfl, by kernel_rfl⟩) _ rfl (by kernel_rfl)
                      · exact step_move rfl (by exact ⟨_, rfl, by kernel_rfl⟩) _ rfl (by kernel_rfl)
                      · exact step_move rfl (by exact ⟨_, rfl, by kernel_rfl⟩) _ rfl (by kernel_rfl)
                      · exact step_indexAddr rfl (by exact ⟨_, rfl, by kernel_rfl⟩) _ _ _ _ _ rfl rfl rfl (fun w hw => idx_n by' oy _ _ k hkn w)
                      · exact step_load rfl (by exact ⟨_, rfl, by kernel_rfl⟩) _ _ _ rfl rfl (fun w hw => load_at (HYR.out.carry hby' hw) hy'.out)
                      · exact step_move rfl (by exact ⟨_, rfl, by kernel_rfl⟩) _ rfl (by kernel_rfl)
                      · exact step_move rfl (by exact ⟨_, rfl, by kernel_rfl⟩) _ rfl (by kernel_rfl)
                      · exact step_indexAddr rfl (by exact ⟨_, rfl, by kernel_rfl⟩) _ _ _ _ _ rfl rfl rfl (fun w hw => idx_n bx ox _ _ k hkn w)
                      · exact step_load rfl (by exact ⟨_, rfl, by kernel_rfl⟩) _ _ _ rfl rfl (fun w hw => load_at (HXR.out.carry hbx' hw) hx'.out)
                      · exact step_binOp rfl (by exact ⟨_, rfl, by kernel_rfl⟩) _ _ _ _ _ _ _ rfl rfl rfl (fun w hw => (bin_neqn _ _ _ _ _ _).trans (by rw [HEQ.out]; simp))
                      · exact step_pick rfl (by exact ⟨_, rfl, by kernel_rfl⟩) _ _ _ true rfl (by kernel_rfl) (by kernel_rfl)
                      · exact step_pick rfl trivial _ _ _ false rfl (by kernel_rfl) (by kernel_rfl)
                    intro W hW
                    first | refine hK _ _ ?_ | refine (‹∀ (a : Act) (w : World), Code.wp Try.prog _ _ a w → _›) _ _ ?_
                    simp only [finL, List.getD_cons_zero, List.getD_cons_succ, Nat.zero_add, Nat.reduceAdd, List.setIfInBounds_toArray, List.set_cons_zero, List.set_cons_succ]
                    go_wp2
                    go_roundw
                    case rel => exact ⟨k + 1, by simp, by omega, bel2 hbr hW⟩
                    case measure => simp [vnatR]; omega
                · have hki : ¬ (k : Int) < (N : Int) := by omega
                  go_wp2
                  have hEnd := HSZ.out.carry hbr
                  go_roundw
                  case rel => exact ⟨j + 1, L', by simp, by omega, HBM.out, HLM.out, hEnd⟩
                  case measure => simp [vnatR]; omega
            | true =>
              rw [hall, if_pos rfl] at HMG
              have hbS := hS.below
              go_wp2_with (first | (go_at_call 9; (with_reducible refine (hli _).mono ?_); rintro e u ⟨rfl, rfl⟩) | (go_at_call 15; first | (have hz := hS; (with_reducible refine k0.mono ?_); rintro e v1 ⟨adx, capx, rfl, hrx, hax, hb1⟩; have hS2 := hS.carry hb1; have hgl := (hS.get 0 rfl).glt; clear hS hz k0; have k1 := HMG.out v1 (hS2.get 0 rfl) (HRM.out.carry hS2.below) (HRM.out.ne (hS2.base 0 rfl)); skip; have cm2 : v1.cell? ⟨b3, o3 + j, none⟩ = some (.slice adm m.length capm) := (hb1.cell (p := ⟨b3, _, none⟩) (Nat.lt_of_lt_of_le hb3 hbS.size)).trans cmr) | (have hz := hS4; (with_reducible refine k2.mono ?_); rintro e v3 ⟨ady, capy, rfl, hry, hay, hb3'⟩; have hS5 := hS4.carry hb3'; have hrx3 := hrx2.carry hb3'; have hs3 := hs2.carry hb3'; clear hS4 hz k2)) | (go_at_call 12; (with_reducible refine k1.mono ?_); rintro e v2 ⟨rfl, hk2, hg2⟩; have hS3 : Bks w [(pb, gb, L')] v2 := hS2.turn 0 rfl hk2 hg2; have hrx1 := hrx.turn hg2 (fun _ a ha => (by have := hax a ha; omega)); clear hS2 k1 hk2 hg2; have hS4 := hS3.carry (al1 v2 (.cells #[.int .u32 (wd S 0 : Nat), .int .u32 (wd S 1 : Nat), .int .u32 (wd S 2 : Nat), .int .u32 (wd S 3 : Nat)] 35)); have hrx2 := hrx1.carry (al1 v2 (.cells #[.int .u32 (wd S 0 : Nat), .int .u32 (wd S 1 : Nat), .int .u32 (wd S 2 : Nat), .int .u32 (wd S 3 : Nat)] 35)); have hs2 : Holds4 (v2.alloc (.cells #[.int .u32 (wd S 0 : Nat), .int .u32 (wd S 1 : Nat), .int .u32 (wd S 2 : Nat), .int .u32 (wd S 3 : Nat)] 35)) v2.heap.size (wd S) := new_at rfl; clear hS3; have k2 := HLI.out L' HLM.out _ pb gb (hS4.get 0 rfl)))
              obtain ⟨bs, hbs⟩ : ∃ bs, v2.heap.size = bs := ⟨_, rfl⟩
              rw [hbs] at hs3 ⊢
              obtain ⟨z0, hz0⟩ : ∃ z0, v3 = z0 := ⟨_, rfl⟩
              rw [hz0] at hs3 hrx3 hry hS5 ⊢
              have hsz := hs3
              have hrxz := hrx3
              have hryz := hry
              have hSz := hS5
              clear hs3 hrx3 hry hS5 hz0 hrx hrx1 hrx2 hax hay hb1 hb3' hs2 hli hbS
              obtain ⟨bx, ox, rfl, hbx, hxat⟩ := hrxz (fun e => by have := HLN.out; have := HL0.out.2.1; rw [e] at *; simp at *; omega)
              obtain ⟨by', oy, rfl, hby, hyat⟩ := hryz (fun e => by have := HLM.out; have := HL0.out.2.1; rw [e] at *; simp at *; omega)
              have HX : Hid (NtsAt z0 bx ox L) := hxat
              have HY : Hid (NtsAt z0 by' oy L') := hyat
              have HZ : Hid (Holds4 z0 bs (wd S)) := hsz
              have hlb : bs < z0.heap.size := hsz.lt
              have HSZ : Hid (Bks w [(pb, gb, L')] z0) := hSz
              have hbz := hSz.below
              clear hxat hyat hsz hSz
              go_loopw [16] (fun i wz => ∃ (k : Nat), i = .int .i64 k ∧ k ≤ N ∧ Below z0.heap.size z0 wz) (fun i _ => N - vnatR i)
              case atStart => exact ⟨0, rfl, Nat.zero_le _, Below.refl _ _⟩
              case round =>
                obtain ⟨k, rfl, hkl, hbr⟩ := hrel
                by_cases hkn : k < N
                · have hki : (k : Int) < (N : Int) := by omega
                  obtain ⟨o, t, q, o', t', q', U, hx, hy, ho, hU, hH, hF⟩ := HUP.out k hkn
                  subst ho
                  have hbe := beats_any (k : Int) t' q' o t q
                  rw [hU] at hbe
                  have HHA : Hid (∀ W, Calls Try.prog 18 #[sv S, .int .i64 ((k : Nat) : Int)] W fun e w' => e = .returned (.bool U) ∧ Below W.heap.size W w') := fun W => by have := HHAS.out k W; rwa [hH] at this
                  have HXR : Hid (NtsAt wr bx ox L) := NtsAt.carry HX.out hbx hbr
                  have HYR : Hid (NtsAt wr by' oy L') := NtsAt.carry HY.out hby hbr
                  have HZR : Hid (Holds4 wr bs (wd S)) := HZ.out.keep hbr hlb
                  have hbx' := Nat.lt_of_lt_of_le hbx hbr.size
                  have hby' := Nat.lt_of_lt_of_le hby hbr.size
                  have hx' : Hid (L[k]? = some (o, t, q)) := hx
                  have hy' : Hid (L'[k]? = some ((k : Int), t', q')) := hy
                  have HFF : Hid (U = false → ((k : Int), t', q') = (o, t, q)) := hF
                  clear hx hy hU hH hF
                  go_wp2
                  rename_i Q0 K0 hK
                  refine wp_region_any hmx ?_
                  refine wpAny_pure (fun i__ => ([(.slice (some ⟨by', oy, none⟩) N capy), (.int .i64 (k : Int)), (.pointer (some ⟨by', oy + k * 3, none⟩)), (nt (k : Int) t' q'), (.slice (some ⟨bx, ox, none⟩) N capx), (.int .i64 (k : Int)), (.pointer (some ⟨bx, ox + k * 3, none⟩)), (nt o t q), (.bool U), (.bool U)] : List Value).getD i__ undef) (fun V => Below wr.heap.size wr V) (by kernel_rfl) (Below.refl _ _).drew ?_ ?_
                  · refine (stepsFrom_cons ?_ (stepsFrom_cons ?_ (stepsFrom_cons ?_ (stepsFrom_cons ?_ (stepsFrom_cons ?_ (stepsFrom_cons ?_ (stepsFrom_cons ?_ (stepsFrom_cons ?_ (stepsFrom_cons ?_ (stepsFrom_cons ?_ trivial))))))))))
                    · exact step_move rfl trivial _ rfl (by kernel_rfl)
                    · exact step_move rfl trivial _ rfl (by kernel_rfl)
                    · exact step_indexAddr rfl trivial _ _ _ _ _ rfl rfl rfl (fun w hw => idx_n by' oy _ _ k hkn w)
                    · exact step_load rfl trivial _ _ _ rfl rfl (fun w hw => load_at (HYR.out.carry hby' hw) hy'.out)
                    · exact step_move rfl trivial _ rfl (by kernel_rfl)
                    · exact step_move rfl trivial _ rfl (by kernel_rfl)
                    · exact step_indexAddr rfl trivial _ _ _ _ _ rfl rfl rfl (fun w hw => idx_n bx ox _ _ k hkn w)
                    · exact step_load rfl trivial _ _ _ rfl rfl (fun w hw => load_at (HXR.out.carry hbx' hw) hx'.out)
                    · exact step_call rfl trivial 17 _ _ [(nt (k : Int) t' q'), (nt o t q)] rfl (by kernel_rfl) (enters_of Try.func17 (by kernel_rfl) rfl) (fun w hw => (hbe w).mono (by rintro e w' ⟨rfl, hb⟩; exact ⟨rfl, bel2 hw hb⟩))
                    · exact step_assign rfl trivial _ rfl (by kernel_rfl) (fun _ h => h)
                  intro W hW
                  first | refine hK _ _ ?_ | refine (‹∀ (a : Act) (w : World), Code.wp Try.prog _ _ a w → _›) _ _ ?_
                  simp only [finL, List.getD_cons_zero, List.getD_cons_succ, Nat.zero_add, Nat.reduceAdd, List.setIfInBounds_toArray, List.set_cons_zero, List.set_cons_succ]
                  clear hK hbe
                  obtain ⟨Wa, hWa⟩ : ∃ Wa, W = Wa := ⟨_, rfl⟩
                  rw [hWa] at hW ⊢
                  have hWb := hW
                  clear hWa hW
                  cases U with
                  | true =>
                    go_wp2
                    refine wp_region_any hmx ?_
                    refine wpAny_pure (fun i__ => ([(.slice (some ⟨by', oy, none⟩) N capy), (.int .i64 (k : Int)), (.pointer (some ⟨by', oy + k * 3, none⟩)), (.pointer (some ⟨by', oy + k * 3, none⟩)), (.int .i64 (k : Int)), (.int .i64 (k : Int)), (.bool false), (.bool false), (.bool true), (sv S), (.int .i64 (k : Int)), (.bool true), (.bool false), (.bool false), (.bool false), (.bool true), (.bool false), (.bool false), undef, undef, undef, undef, undef, undef, undef, undef, undef, (.bool false), (.bool false)] : List Value).getD i__ undef) (fun V => Below wr.heap.size wr V) (by kernel_rfl) (hWb.drew) ?_ ?_
                    · refine (stepsFrom_cons ?_ (stepsFrom_cons ?_ (stepsFrom_cons ?_ (stepsFrom_cons ?_ (stepsFrom_cons ?_ (stepsFrom_cons ?_ (stepsFrom_cons ?_ (stepsFrom_cons ?_ (stepsFrom_cons ?_ (stepsFrom_cons ?_ (stepsFrom_cons ?_ (stepsFrom_cons ?_ (stepsFrom_cons ?_ (stepsFrom_cons ?_ (stepsFrom_cons ?_ (stepsFrom_cons ?_ (stepsFrom_cons ?_ (stepsFrom_cons ?_ (stepsFrom_cons ?_ (stepsFrom_cons ?_ (stepsFrom_cons ?_ (stepsFrom_cons ?_ (stepsFrom_cons ?_ (stepsFrom_cons ?_ (stepsFrom_cons ?_ (stepsFrom_cons ?_ (stepsFrom_cons ?_ (stepsFrom_cons ?_ (stepsFrom_cons ?_ trivial)))))))))))))))))))))))))))))
                      · exact step_move rfl trivial _ rfl (by kernel_rfl)
                      · exact step_move rfl trivial _ rfl (by kernel_rfl)
                      · exact step_indexAddr rfl trivial _ _ _ _ _ rfl rfl rfl (fun w hw => idx_n by' oy _ _ k hkn w)
                      · exact step_fieldAddr rfl trivial _ _ _ _ rfl rfl (fun w hw => field_at w _ _)
                      · exact step_load rfl trivial _ _ _ rfl rfl (fun w hw => load_of (HYR.out.carry hby' hw) hy'.out)
                      · exact step_move rfl trivial _ rfl (by kernel_rfl)
                      · exact step_binOp rfl trivial _ _ _ _ _ _ _ rfl rfl rfl (fun w hw => (bin_neq .i64 _ _).trans (by simp))
                      · exact step_move rfl trivial _ rfl (by kernel_rfl)
                      · exact step_move rfl (by exact ⟨_, rfl, by kernel_rfl⟩) _ rfl (by kernel_rfl)
                      · exact step_load rfl (by exact ⟨_, rfl, by kernel_rfl⟩) _ _ _ rfl rfl (fun w hw => whole_s (HZR.out.carry hw))
                      · exact step_move rfl (by exact ⟨_, rfl, by kernel_rfl⟩) _ rfl (by kernel_rfl)
                      · exact step_call rfl (by exact ⟨_, rfl, by kernel_rfl⟩) 18 _ _ [(sv S), (.int .i64 (k : Int))] rfl (by kernel_rfl) (enters_of Try.func18 (by kernel_rfl) rfl) (fun w hw => (HHA.out w).mono (by rintro e w' ⟨rfl, hb⟩; exact ⟨rfl, bel2 hw hb⟩))
                      · exact step_binOp rfl (by exact ⟨_, rfl, by kernel_rfl⟩) _ _ _ _ _ _ _ rfl rfl rfl (fun w hw => (bin_neqb _ _).trans (by simp))
                      · exact step_pick rfl trivial _ _ _ false rfl (by kernel_rfl) (by kernel_rfl)
                      · exact step_move rfl trivial _ rfl (by kernel_rfl)
                      · exact step_move rfl (by exact ⟨_, rfl, by kernel_rfl⟩) _ rfl (by kernel_rfl)
                      · exact step_unOp rfl (by exact ⟨_, rfl, by kernel_rfl⟩) _ _ _ _ rfl rfl (fun w hw => un_not true w)
                      · exact step_move rfl (by exact ⟨_, rfl, by kernel_rfl⟩) _ rfl (by kernel_rfl)
                      · exact step_skip rfl 17 true 108 (.bool false) rfl rfl (by kernel_rfl) (by intro h; cases h) rfl
                      · exact step_skip rfl 17 true 108 (.bool false) rfl rfl (by kernel_rfl) (by intro h; cases h) rfl
                      · exact step_skip rfl 17 true 108 (.bool false) rfl rfl (by kernel_rfl) (by intro h; cases h) rfl
                      · exact step_skip rfl 17 true 108 (.bool false) rfl rfl (by kernel_rfl) (by intro h; cases h) rfl
                      · exact step_skip rfl 17 true 108 (.bool false) rfl rfl (by kernel_rfl) (by intro h; cases h) rfl
                      · exact step_skip rfl 17 true 108 (.bool false) rfl rfl (by kernel_rfl) (by intro h; cases h) rfl
                      · exact step_skip rfl 17 true 108 (.bool false) rfl rfl (by kernel_rfl) (by intro h; cases h) rfl
                      · exact step_skip rfl 17 true 108 (.bool false) rfl rfl (by kernel_rfl) (by intro h; cases h) rfl
                      · exact step_skip rfl 17 true 108 (.bool false) rfl rfl (by kernel_rfl) (by intro h; cases h) rfl
                      · exact step_pick rfl (by exact ⟨_, rfl, by kernel_rfl⟩) _ _ _ false rfl (by kernel_rfl) (by kernel_rfl)
                      · exact step_pick rfl trivial _ _ _ false rfl (by kernel_rfl) (by kernel_rfl)
                    intro W hW
                    first | refine hK _ _ ?_ | refine (‹∀ (a : Act) (w : World), Code.wp Try.prog _ _ a w → _›) _ _ ?_
                    simp only [finL, List.getD_cons_zero, List.getD_cons_succ, Nat.zero_add, Nat.reduceAdd, List.setIfInBounds_toArray, List.set_cons_zero, List.set_cons_succ]
                    go_wp2
                    go_roundw
                    case rel => exact ⟨k + 1, by simp, by omega, bel2 hbr hW⟩
                    case measure => simp [vnatR]; omega
                  | false =>
                    have HEQ : Hid (((k : Int), t', q') = (o, t, q)) := HFF.out rfl
                    go_wp2
                    refine wp_region_any hmx ?_
                    refine wpAny_pure (fun i__ => ([(.slice (some ⟨by', oy, none⟩) N capy), (.int .i64 (k : Int)), (.pointer (some ⟨by', oy + k * 3, none⟩)), (.pointer (some ⟨by', oy + k * 3, none⟩)), (.int .i64 (k : Int)), (.int .i64 (k : Int)), (.bool false), (.bool false), (.bool false), (sv S), (.int .i64 (k : Int)), (.bool false), (.bool false), (.bool false), (.bool false), (.bool false), (.bool true), (.bool true), (.slice (some ⟨by', oy, none⟩) N capy), (.int .i64 (k : Int)), (.pointer (some ⟨by', oy + k * 3, none⟩)), (nt (k : Int) t' q'), (.slice (some ⟨bx, ox, none⟩) N capx), (.int .i64 (k : Int)), (.pointer (some ⟨bx, ox + k * 3, none⟩)), (nt o t q), (.bool false), (.bool false), (.bool false)] : List Value).getD i__ undef) (fun V => Below wr.heap.size wr V) (by kernel_rfl) (hWb.drew) ?_ ?_
                    · refine (stepsFrom_cons ?_ (stepsFrom_cons ?_ (stepsFrom_cons ?_ (stepsFrom_cons ?_ (stepsFrom_cons ?_ (stepsFrom_cons ?_ (stepsFrom_cons ?_ (stepsFrom_cons ?_ (stepsFrom_cons ?_ (stepsFrom_cons ?_ (stepsFrom_cons ?_ (stepsFrom_cons ?_ (stepsFrom_cons ?_ (stepsFrom_cons ?_ (stepsFrom_cons ?_ (stepsFrom_cons ?_ (stepsFrom_cons ?_ (stepsFrom_cons ?_ (stepsFrom_cons ?_ (stepsFrom_cons ?_ (stepsFrom_cons ?_ (stepsFrom_cons ?_ (stepsFrom_cons ?_ (stepsFrom_cons ?_ (stepsFrom_cons ?_ (stepsFrom_cons ?_ (stepsFrom_cons ?_ (stepsFrom_cons ?_ (stepsFrom_cons ?_ trivial)))))))))))))))))))))))))))))
                      · exact step_move rfl trivial _ rfl (by kernel_rfl)
                      · exact step_move rfl trivial _ rfl (by kernel_rfl)
                      · exact step_indexAddr rfl trivial _ _ _ _ _ rfl rfl rfl (fun w hw => idx_n by' oy _ _ k hkn w)
                      · exact step_fieldAddr rfl trivial _ _ _ _ rfl rfl (fun w hw => field_at w _ _)
                      · exact step_load rfl trivial _ _ _ rfl rfl (fun w hw => load_of (HYR.out.carry hby' hw) hy'.out)
                      · exact step_move rfl trivial _ rfl (by kernel_rfl)
                      · exact step_binOp rfl trivial _ _ _ _ _ _ _ rfl rfl rfl (fun w hw => (bin_neq .i64 _ _).trans (by simp))
                      · exact step_move rfl trivial _ rfl (by kernel_rfl)
                      · exact step_move rfl (by exact ⟨_, rfl, by kernel_rfl⟩) _ rfl (by kernel_rfl)
                      · exact step_load rfl (by exact ⟨_, rfl, by kernel_rfl⟩) _ _ _ rfl rfl (fun w hw => whole_s (HZR.out.carry hw))
                      · exact step_move rfl (by exact ⟨_, rfl, by kernel_rfl⟩) _ rfl (by kernel_rfl)
                      · exact step_call rfl (by exact ⟨_, rfl, by kernel_rfl⟩) 18 _ _ [(sv S), (.int .i64 (k : Int))] rfl (by kernel_rfl) (enters_of Try.func18 (by kernel_rfl) rfl) (fun w hw => (HHA.out w).mono (by rintro e w' ⟨rfl, hb⟩; exact ⟨rfl, bel2 hw hb⟩))
                      · exact step_binOp rfl (by exact ⟨_, rfl, by kernel_rfl⟩) _ _ _ _ _ _ _ rfl rfl rfl (fun w hw => (bin_neqb _ _).trans (by simp))
                      · exact step_pick rfl trivial _ _ _ false rfl (by kernel_rfl) (by kernel_rfl)
                      · exact step_move rfl trivial _ rfl (by kernel_rfl)
                      · exact step_move rfl (by exact ⟨_, rfl, by kernel_rfl⟩) _ rfl (by kernel_rfl)
                      · exact step_unOp rfl (by exact ⟨_, rfl, by kernel_rfl⟩) _ _ _ _ rfl rfl (fun w hw => un_not false w)
                      · exact step_move rfl (by exact ⟨_, rfl, by kernel_rfl⟩) _ rfl (by kernel_rfl)
                      · exact step_move rfl (by exact ⟨_, rfl, by kernel_rfl⟩) _ rfl (by kernel_rfl)
                      · exact step_move rfl (by exact ⟨_, rfl, by kernel_rfl⟩) _ rfl (by kernel_rfl)
                      · exact step_indexAddr rfl (by exact ⟨_, rfl, by kernel_rfl⟩) _ _ _ _ _ rfl rfl rfl (fun w hw => idx_n by' oy _ _ k hkn w)
                      · exact step_load rfl (by exact ⟨_, rfl, by kernel_rfl⟩) _ _ _ rfl rfl (fun w hw => load_at (HYR.out.carry hby' hw) hy'.out)
                      · exact step_move rfl (by exact ⟨_, rfl, by kernel_rfl⟩) _ rfl (by kernel_rfl)
                      · exact step_move rfl (by exact ⟨_, rfl, by kernel_rfl⟩) _ rfl (by kernel_rfl)
                      · exact step_indexAddr rfl (by exact ⟨_, rfl, by kernel_rfl⟩) _ _ _ _ _ rfl rfl rfl (fun w hw => idx_n bx ox _ _ k hkn w)
                      · exact step_load rfl (by exact ⟨_, rfl, by kernel_rfl⟩) _ _ _ rfl rfl (fun w hw => load_at (HXR.out.carry hbx' hw) hx'.out)
                      · exact step_binOp rfl (by exact ⟨_, rfl, by kernel_rfl⟩) _ _ _ _ _ _ _ rfl rfl rfl (fun w hw => (bin_neqn _ _ _ _ _ _).trans (by rw [HEQ.out]; simp))
                      · exact step_pick rfl (by exact ⟨_, rfl, by kernel_rfl⟩) _ _ _ true rfl (by kernel_rfl) (by kernel_rfl)
                      · exact step_pick rfl trivial _ _ _ false rfl (by kernel_rfl) (by kernel_rfl)
                    intro W hW
                    first | refine hK _ _ ?_ | refine (‹∀ (a : Act) (w : World), Code.wp Try.prog _ _ a w → _›) _ _ ?_
                    simp only [finL, List.getD_cons_zero, List.getD_cons_succ, Nat.zero_add, Nat.reduceAdd, List.setIfInBounds_toArray, List.set_cons_zero, List.set_cons_succ]
                    go_wp2
                    go_roundw
                    case rel => exact ⟨k + 1, by simp, by omega, bel2 hbr hW⟩
                    case measure => simp [vnatR]; omega
                · have hki : ¬ (k : Int) < (N : Int) := by omega
                  go_wp2
                  have hEnd := HSZ.out.carry hbr
                  go_roundw
                  case rel => exact ⟨j + 1, L', by simp, by omega, HBM.out, HLM.out, hEnd⟩
                  case measure => simp [vnatR]; omega
          · rw [decide_eq_false h300] at hli
            go_wp2_with (go_at_call 9; (with_reducible refine (hli _).mono ?_); rintro e u ⟨rfl, rfl⟩)
            go_ret
            exact ⟨rfl, hS.below⟩
        · have hji : ¬ (j : Int) < (l3.length : Int) := by omega
          go_wp2_with (go_at_call 10; (with_reducible refine (hal _).mono ?_); rintro e z1 ⟨rfl, hb1⟩)
          go_ret
          exact ⟨rfl, bel2 hS.below hb1⟩
  · clear w3
    go_enter Try.func5, Try.ntmps5
    go_wp2_with (first | (go_at_call 8; (with_reducible refine (hnw _).mono ?_); rintro e u hV; obtain ⟨E, hE, rfl⟩ := hV.bad hok; have hbw := bel2 hbw hV.1; clear hV) | (go_at_call 10; (with_reducible refine (hal _).mono ?_); rintro e u ⟨rfl, hb⟩; have hbw := bel2 hbw hb))
    go_ret
    exact ⟨rfl, hbw⟩

set_option maxRecDepth 100000 in
theorem lifted (os : Os) (started : os.Started) (H : Type) (enc : TypeId × Value → H) :
    ReturnsInHanded {} Try.checked os 5 .any (Rows.bookNeverSpec.pre6 enc Try.prog Try.f5 Rows.bookNeverRow.domain false) (Rows.bookNeverSpec.post enc Try.prog Try.f5 false true false false) := by
  refine returnsInHanded_of_change (C := Try.checked) own started (by kernel_rfl) Try.func5
    (ChangeSpec.witness6 (enc := enc) (C := Try.checked) false ⟨#[], #[.int .i64 0, .int .i64 0, .int .i64 0, .slice none 0 0], []⟩ 8 (by kernel_rfl) (by kernel_rfl) (by kernel_rfl) (by kernel_rfl)) ?_
  intro W base args ds gs before hval0 hW hcnd _
  have hval : ∀ (j : Nat) t v, Try.f5.params[j]? = some t → args[j]? = some v → Value.okWide Try.prog W .any base t v := hval0
  have hW' := hW
  obtain ⟨p, q, hA0, hV, rfl, hfz, hnd⟩ := hW
  have hA : DataW.TrodAll enc Try.prog W 0 (fun _ => true) true Try.f5.params.toList args.toList ds p := hA0
  rw [Try.params5] at hA hval
  obtain ⟨v0, vs0, d0, ds0, p0, q0, hargs, rfl, rfl, h0, r0⟩ := trodAll_cons hA
  obtain ⟨v1, vs1, d1, ds1, p1, q1, rfl, rfl, rfl, h1, r1⟩ := trodAll_cons r0
  obtain ⟨v2, vs2, d2, ds2, p2, q2, rfl, rfl, rfl, h2, r2⟩ := trodAll_cons r1
  obtain ⟨v3, vs3, d3, ds3, p3, q3, rfl, rfl, rfl, h3, r3⟩ := trodAll_cons r2
  obtain ⟨rfl, rfl, rfl⟩ := trodAll_nil r3
  obtain rfl : args = #[v0, v1, v2, v3] := by cases args; simp_all
  obtain ⟨rfl, rfl⟩ := trodVars_none hV
  obtain ⟨a0, rfl, rfl, rfl, w0⟩ := open_int Try.underlying3 (hval 0 3 v0 rfl rfl) h0
  obtain ⟨a1, rfl, rfl, rfl, w1⟩ := open_int Try.underlying3 (hval 1 3 v1 rfl rfl) h1
  obtain ⟨a2, rfl, rfl, rfl, w2⟩ := open_int Try.underlying3 (hval 2 3 v2 rfl rfl) h2
  have k3 := h3
  have lt3 : ∀ x ∈ p3, x.block < W.heap.size := by obtain ⟨m, hm⟩ := k3; exact DataW.trod_lt m _ _ _ hm
  obtain ⟨ad3, cap3, l3, rfl, w3⟩ := open_ntss (hval 3 44 v3 rfl rfl) h3
  clear hA0 hval0
  refine (walk W a0 w0 a1 w1 a2 w2 ad3 cap3 l3 w3).mono fun e W' ⟨he, hg⟩ => ?_
  subst he
  exact ⟨_, rfl, _, _, _, [], _, [], hW', (trodAll_cons_mk (shut_bool Try.underlying4 _) trodAll_mk0), (trodAll_cons_mk (shut_int Try.underlying3 w0) (trodAll_cons_mk (shut_int Try.underlying3 w1) (trodAll_cons_mk (shut_int Try.underlying3 w2) (trodAll_cons_mk (Below.trod laidOut (by kernel_rfl) (of_decide_eq_true (by kernel_rfl)) k3 hg lt3) trodAll_mk0)))), rfl, hg.frame _, fun h => by cases h⟩

theorem over : Rows.bookNeverRow.holds Try.pinned (OpenSpec.ofChange Rows.bookNeverSpec) :=
  OpenClaim.holds_of_wide 5 Try.f5 rfl rfl rfl rfl rfl rfl rfl ⟨rfl, rfl, rfl, rfl, rfl⟩ rfl rfl rfl rfl rfl (by kernel_rfl) Try.func5 (by kernel_rfl)
    (of_decide_eq_true (by kernel_rfl)) (by unfold Func.isWrapper; first | (rw [if_pos (by decide +kernel)]; kernel_rfl) | (rw [if_neg (by decide +kernel)]; exact ⟨rfl, rfl⟩))
    (fun os started H enc _ => lifted os started H enc)

theorem proved : Rows.BookNeverSaid :=
  over
#print axioms proved
end Go.Proofs.Ytpphmfmfenifgaa
