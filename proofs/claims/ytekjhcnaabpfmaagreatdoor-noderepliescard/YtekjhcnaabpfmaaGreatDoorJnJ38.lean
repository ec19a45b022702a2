import Derived.Test.YtekjhcnaabpfmaaGreatDoorJnJ37
import Derived.Test.YtekjhcnaabpfmaaGreatDoorJnJ36
set_option maxHeartbeats 40000000
set_option maxRecDepth 100000
set_option linter.unusedVariables false
namespace Go.Proofs.YtekjhcnaabpfmaaGreatDoor
open Go.RowKit Go.Shelf
theorem pre_bits {N i : Nat} : N % 2 ^ i + (if N.testBit i = true then 2 ^ i else 0) = N % 2 ^ (i + 1) := by
 rw [Nat.pow_succ, Nat.mod_mul, Nat.testBit_eq_decide_div_mod_eq]
 rcases Nat.mod_two_eq_zero_or_one (N / 2 ^ i) with h | h <;> simp [h]
theorem bo_err {kd : Nat} {n fr rd : Int} {N : Nat} {l : List (Int × Int × Int)} {w w' : World} {c : Int} (h : flt kd n fr rd N l = c) (hc : c ≠ 0) (hb : Below w.heap.size w w') : BO kd n fr rd N l w (.returned (.tuple #[.slice none 0 0, .int .i64 c])) w' := by
 refine ⟨_, by rw [h], ?_, hb⟩
 rw [fb7, if_neg (by rw [h]; exact hc)]
 exact owB_nil _ _
theorem rb3_no (n fr : Int) (ad : Option Addr) (cap : Nat) (l : List (Int × Int × Int)) (w : World) (h : RdN w ad l) (hl : l.length ≤ 6000000000000) (hf : ¬ flt 3 n fr 0 0 l = 0) : Calls Tryz.prog 17 #[.agg #[.int .i64 3, .int .i64 fr, .int .i64 0, .int .u32 (wd 0 0 : Nat), .int .u32 (wd 0 1 : Nat), .int .u32 (wd 0 2 : Nat), .int .u32 (wd 0 3 : Nat), .slice ad l.length cap], .int .i64 n] w (BO 3 n fr 0 0 l w) := by
 have hbW := al1'W w (.cells #[.int .i64 3, .int .i64 fr, .int .i64 0, .int .u32 (wd 0 0 : Nat), .int .u32 (wd 0 1 : Nat), .int .u32 (wd 0 2 : Nat), .int .u32 (wd 0 3 : Nat), .slice ad l.length cap] 38)
 have hRB : RBW (w.alloc (.cells #[.int .i64 3, .int .i64 fr, .int .i64 0, .int .u32 (wd 0 0 : Nat), .int .u32 (wd 0 1 : Nat), .int .u32 (wd 0 2 : Nat), .int .u32 (wd 0 3 : Nat), .slice ad l.length cap] 38)) w.heap.size 3 fr 0 0 (.slice ad l.length cap) := zna rfl
 have hrW := h.carry hbW
 obtain ⟨W0, hW0⟩ : ∃ W0, w.alloc (.cells #[.int .i64 3, .int .i64 fr, .int .i64 0, .int .u32 (wd 0 0 : Nat), .int .u32 (wd 0 1 : Nat), .int .u32 (wd 0 2 : Nat), .int .u32 (wd 0 3 : Nat), .slice ad l.length cap] 38) = W0 := ⟨_, rfl⟩
 rw [hW0] at hbW hRB hrW
 obtain ⟨d0, d1, d2, d3, d4, d5, d6, d7⟩ := hRB.cells
 by_cases g1 : n < 1
 · have HF : Hid (flt 3 n fr 0 0 l = 1) := if_pos (by omega)
   clear hf
   go_enter Tryz.func17, Tryz.ntmps17
   go_wp2
   go_ret2
   exact bo_err HF.out (by decide) hbW
 by_cases g2 : 100 < n
 · have HF : Hid (flt 3 n fr 0 0 l = 1) := if_pos (by omega)
   clear hf
   go_enter Tryz.func17, Tryz.ntmps17
   go_wp2
   go_ret2
   exact bo_err HF.out (by decide) hbW
 by_cases g3 : fr < 0
 · have HF : Hid (flt 3 n fr 0 0 l = 72) := (if_neg (by omega)).trans (if_pos (by omega))
   clear hf
   go_enter Tryz.func17, Tryz.ntmps17
   go_wp2
   go_ret2
   exact bo_err HF.out (by decide) hbW
 by_cases g4 : n ≤ fr
 · have HF : Hid (flt 3 n fr 0 0 l = 72) := (if_neg (by omega)).trans (if_pos (by omega))
   clear hf
   go_enter Tryz.func17, Tryz.ntmps17
   go_wp2
   go_ret2
   exact bo_err HF.out (by decide) hbW
 have hri := fun W (hW : RdN W ad l) => rRising_any n ad cap l W hW hl
 have g8 : ris n (-1) l = false := by
   by_cases q : ris n (-1) l = false
   · exact q
   · exact absurd ((if_neg (by omega)).trans ((if_neg (by omega)).trans ((if_neg (by simp)).trans ((if_neg (by simp [wthB])).trans (if_neg q))))) hf
 have HF : Hid (flt 3 n fr 0 0 l = 75) := (if_neg (by omega)).trans ((if_neg (by omega)).trans ((if_neg (by simp)).trans ((if_neg (by simp [wthB])).trans (if_pos g8))))
 rw [g8] at hri
 clear hf
 go_enter Tryz.func17, Tryz.ntmps17
 go_wp2_with (first | (go_at_call 45; (with_reducible refine (hri _ hrW).mono ?_); rintro e u1 ⟨rfl, hb1⟩; have hbU1 := bel2 hbW hb1))
 go_ret2
 exact bo_err HF.out (by decide) hbU1
theorem rb3_ok (n fr : Nat) (ad : Option Addr) (cap : Nat) (l : List (Int × Int × Int)) (w : World) (h : RdN w ad l) (hf : flt 3 n fr 0 0 l = 0) : Calls Tryz.prog 17 #[.agg #[.int .i64 3, .int .i64 fr, .int .i64 0, .int .u32 (wd 0 0 : Nat), .int .u32 (wd 0 1 : Nat), .int .u32 (wd 0 2 : Nat), .int .u32 (wd 0 3 : Nat), .slice ad l.length cap], .int .i64 (n : Int)] w fun e w' => ∃ b, e = .returned (.tuple #[b, .int .i64 0]) ∧ OwB w' w.heap.size b (byt7 3 n fr 0 0 l) ∧ Below w.heap.size w w' := by
 have hmx := mixO
 obtain ⟨hn, hfr, hrd, hwt, hri⟩ := flt_0 hf
 have hlen := ris_len n l (-1) (by omega) (by omega) hri
 have hbW := al1'W w (.cells #[.int .i64 3, .int .i64 fr, .int .i64 0, .int .u32 (wd 0 0 : Nat), .int .u32 (wd 0 1 : Nat), .int .u32 (wd 0 2 : Nat), .int .u32 (wd 0 3 : Nat), .slice ad l.length cap] 38)
 have hRB : RBW (w.alloc (.cells #[.int .i64 3, .int .i64 fr, .int .i64 0, .int .u32 (wd 0 0 : Nat), .int .u32 (wd 0 1 : Nat), .int .u32 (wd 0 2 : Nat), .int .u32 (wd 0 3 : Nat), .slice ad l.length cap] 38)) w.heap.size 3 fr 0 0 (.slice ad l.length cap) := zna rfl
 have hrW := h.carry hbW
 obtain ⟨W0, hW0⟩ : ∃ W0, w.alloc (.cells #[.int .i64 3, .int .i64 fr, .int .i64 0, .int .u32 (wd 0 0 : Nat), .int .u32 (wd 0 1 : Nat), .int .u32 (wd 0 2 : Nat), .int .u32 (wd 0 3 : Nat), .slice ad l.length cap] 38) = W0 := ⟨_, rfl⟩
 rw [hW0] at hbW hRB hrW
 obtain ⟨d0, d1, d2, d3, d4, d5, d6, d7⟩ := hRB.cells
 have hriC := fun W (hW : RdN W ad l) => rRising_any n ad cap l W hW (by omega)
 rw [hri] at hriC
 obtain ⟨ic, hic, hz0, hz1, hz2⟩ := info_partsB
 have hl100 : l.length ≤ 100 := by omega
 have g1 : ¬ (n : Int) < 1 := by omega
 have g2 : ¬ (100 : Int) < (n : Int) := by omega
 have g3 : ¬ (fr : Int) < 0 := by omega
 have g4 : ¬ (n : Int) ≤ (fr : Int) := by omega
 have iN8 : (n : Int) % 256 = (n : Int) := by omega
 have iF8 : (fr : Int) % 256 = (fr : Int) := by omega
 have iL8 : (l.length : Int) % 256 = (l.length : Int) := by omega
 have hB1 := bs1
 have hB2 := bs2
 have hB5 := bs5
 obtain ⟨P, HPl, HP, HQ⟩ : ∃ P : List Nat, P.length ≤ 30 ∧ Hid (frm 3 n fr 0 0 l = P ++ newsB l) ∧ Hid (P = [101, 115, 3, n, fr] ++ [l.length]) := by
  refine ⟨[101, 115, 3, n, fr] ++ [l.length], ?_, ?_, rfl⟩
  · simp
  · show frm 3 n fr 0 0 l = _
    rw [frm, Nat.mod_eq_of_lt (show n < 256 by omega), Nat.mod_eq_of_lt (show fr < 256 by omega), Nat.mod_eq_of_lt (show l.length < 256 by omega)]
    simp [rndB, setB]
 have HL : Hid (RdN w ad l) := h
 have HRI : Hid (ris n (-1) l = true) := hri
 have h13 : l.length + 3 ≤ 103 := by omega
 clear h hwt hri hf hrd
 go_enter Tryz.func17, Tryz.ntmps17
 go_wp2_with (first | (go_at_call 45; (with_reducible refine (hriC _ hrW).mono ?_); rintro e u1 ⟨rfl, hb1⟩; have hbU1 := bel2 hbW hb1; have hRB1 := hRB.below hb1; have hS1 : SR w 3 fr 0 0 (.slice ad l.length cap) (.slice (some ⟨u1.heap.size, 0, none⟩) 5 5) [101, 115, 3, n, fr] (u1.alloc (.cells #[.int .u8 101, .int .u8 115, .int .u8 3, .int .u8 (n : Int), .int .u8 (fr : Int)] 5)) := ⟨hRB1.below (al1'W u1 _), bel2 hbU1 (al1'W u1 _), (by have := zla hRB1; simp; omega), World.ownsRow_lit (base := w.heap.size + 1) (e := 5) (size := 1) u1 #[.int .u8 101, .int .u8 115, .int .u8 3, .int .u8 (n : Int), .int .u8 (fr : Int)] 5 (zla hRB1) (by decide) (by simp), (by simp)⟩; clear d0 d1 d2 d3 d4 d5 d6 d7; obtain ⟨d0, d1, d2, d3, d4, d5, d6, d7⟩ := hRB1.cells; obtain ⟨f0, f1, f2, f3, f4, f5, f6, f7⟩ := hS1.rb.cells) | (at_builtin; refine wpList_append_own_at _ rfl _ _ 23 rfl (w.heap.size + 1) 5 ic _ 1 1 Tryz.underlying23 hic hz0 hz1 hz2 rfl (by decide) _ ([101, 115, 3, n, fr]).length (cBW ([101, 115, 3, n, fr])) rfl (World.ownsRow.alloc (OwB.out hS1.ow) _) ⟨u1.heap.size + 1, 0, none⟩ 1 1 [_] rfl rfl (rowN_at _ #[_] _ (by simp)) (by simp [Value.oneCell']) (by have := hS1.ln; unfold maxLen; omega) (by have := hS1.ln; omega) (by have := hS1.sz; first | (simp; omega) | (simp at this ⊢; omega)) ?_; intro b' z6 hown' hgrow _ hob; have hS6 := SR.app [l.length] hS1 hgrow hown' (by simp); clear hown' hgrow hob; obtain ⟨d0, d1, d2, d3, d4, d5, d6, d7⟩ := hS6.rb.cells))
 have hS7 : SR w 3 fr 0 0 (.slice ad l.length cap) b' P z6 := HQ.out ▸ hS6
 clear hS6 hS1 HQ hRB hbW hrW hriC
 go_loopw [6, 10] (fun b i wz => ∃ (k : Nat), i = .int .i64 k ∧ k ≤ l.length ∧ SR w 3 fr 0 0 (.slice ad l.length cap) b (P ++ newsB (l.take k)) wz) (fun _ i _ => l.length - vnatW i)
 case atStart => exact ⟨0, rfl, Nat.zero_le _, by simpa [newsB] using hS7⟩
 case round =>
  obtain ⟨k, rfl, hk, hS⟩ := hrel
  clear hS7 d0 d1 d2 d3 d4 d5 d6 d7
  obtain ⟨d0, d1, d2, d3, d4, d5, d6, d7⟩ := hS.rb.cells
  have hsw := hS.sz
  by_cases hkl : k < l.length
  · have hki : (k : Int) < (l.length : Int) := by omega
    obtain ⟨⟨o, t, q⟩, hx⟩ : ∃ x, l[k]? = some x := ⟨_, List.getElem?_eq_getElem hkl⟩
    obtain ⟨v1, v2, v3, v4, v5, v6⟩ := vl_bounds (ris_get HRI.out hx)
    dsimp only at v1 v2 v3 v4 v5 v6
    obtain ⟨o, rfl⟩ := Int.eq_ofNat_of_zero_le v1
    obtain ⟨t, rfl⟩ := Int.eq_ofNat_of_zero_le v3
    obtain ⟨q, rfl⟩ := Int.eq_ofNat_of_zero_le (show 0 ≤ q by omega)
    obtain ⟨g', off, rfl, hgl, hat⟩ := HL.out (fun e => by subst e; simp at hkl)
    have ho256 : o < 256 := by omega
    have hq256 : q < 256 := by omega
    have HX : Hid (newsB (l.take (k + 1)) = newsB (l.take k) ++ [o, q] ++ numBW t 3) := by
     have := newsB_step l k _ _ _ hx
     rw [Int.toNat_natCast, Int.toNat_natCast, Int.toNat_natCast, Nat.mod_eq_of_lt (show o < 256 by omega), Nat.mod_eq_of_lt (show q < 256 by omega)] at this
     exact this
    have hlk : (newsB (l.take k)).length ≤ 5 * k := by rw [newsB_len, List.length_take]; omega
    go_wp2
    refine wp_region_any hmx ?_
    refine zwt (G := (Nat × Value)) (fun g i__ => ([u6, (.pointer (some ⟨w.heap.size, 7, none⟩)), (.slice (some ⟨g', off, none⟩) l.length cap), (.int .i64 (k : Int)), (.pointer (some ⟨g', off + k * 3, none⟩)), (.pointer (some ⟨g', off + k * 3, none⟩)), (.int .i64 (o : Int)), (.int .u8 (o : Int)), (.pointer (some ⟨w.heap.size, 7, none⟩)), (.slice (some ⟨g', off, none⟩) l.length cap), (.int .i64 (k : Int)), (.pointer (some ⟨g', off + k * 3, none⟩)), (.pointer (some ⟨g', off + k * 3 + 2, none⟩)), (.int .i64 (q : Int)), (.int .u8 (q : Int)), (.slice (some ⟨g.1, 0, none⟩) 2 2), g.2, g.2] : List Value).getD i__ undef) (fun g d W => JQW w 3 fr 0 0 (.slice (some ⟨g', off, none⟩) l.length cap) u6 (P ++ newsB (l.take k)) o q g' off l g (d 15) (d 16) W) (by kernel_rfl) ((0, undef)) (show JQW w 3 fr 0 0 (.slice (some ⟨g', off, none⟩) l.length cap) u6 (P ++ newsB (l.take k)) o q g' off l (0, undef) false false _ from ⟨hS.rb.below (Below.refl _ _).drew, hS.be.trans (Below.refl _ _).drew, hS.sz, hat.carry hgl (hS.be.trans (Below.refl _ _).drew), hS.ow.out, fun e => by cases e⟩) ?step5 ?fin5
    case step5 =>
     intro i o ho
     have hi : i < 18 := getElem?_lt ho
     match i, hi, ho with
     | 0, _, ho => cases ho; exact zgo fun g d hdep => zmv rfl trivial _ rfl (by kernel_rfl)
     | 1, _, ho => cases ho; exact zgo fun g d hdep => zfa rfl trivial _ _ _ _ rfl rfl (fun w hw => field_rbW _ w)
     | 2, _, ho => cases ho; exact zgo fun g d hdep => zld rfl trivial _ _ _ rfl rfl (fun w hw => load_rbW hw.rb)
     | 3, _, ho => cases ho; exact zgo fun g d hdep => zmv rfl trivial _ rfl (by kernel_rfl)
     | 4, _, ho => cases ho; exact zgo fun g d hdep => zia rfl trivial _ _ _ _ _ rfl rfl rfl (fun w hw => idx_n g' off l.length cap k hkl w)
     | 5, _, ho => cases ho; exact zgo fun g d hdep => zfa rfl trivial _ _ _ _ rfl rfl (fun w hw => field_at w _ _)
     | 6, _, ho => cases ho; exact zgo fun g d hdep => zld rfl trivial _ _ _ rfl rfl (fun w hw => load_of hw.nt hx)
     | 7, _, ho => cases ho; exact zgo fun g d hdep => step_convert rfl trivial _ _ _ _ rfl rfl (fun w hw => conv8 o ho256 w)
     | 8, _, ho => cases ho; exact zgo fun g d hdep => zfa rfl trivial _ _ _ _ rfl rfl (fun w hw => field_rbW _ w)
     | 9, _, ho => cases ho; exact zgo fun g d hdep => zld rfl trivial _ _ _ rfl rfl (fun w hw => load_rbW hw.rb)
     | 10, _, ho => cases ho; exact zgo fun g d hdep => zmv rfl trivial _ rfl (by kernel_rfl)
     | 11, _, ho => cases ho; exact zgo fun g d hdep => zia rfl trivial _ _ _ _ _ rfl rfl rfl (fun w hw => idx_n g' off l.length cap k hkl w)
     | 12, _, ho => cases ho; exact zgo fun g d hdep => zfa rfl trivial _ _ _ _ rfl rfl (fun w hw => field_nt2 _ _ w)
     | 13, _, ho => cases ho; exact zgo fun g d hdep => zld rfl trivial _ _ _ rfl rfl (fun w hw => load_kd hw.nt hx)
     | 14, _, ho => cases ho; exact zgo fun g d hdep => step_convert rfl trivial _ _ _ _ rfl rfl (fun w hw => conv8 q hq256 w)
     | 15, _, ho => cases ho; exact stepG_build2 rfl rfl _ _ _ (.int .u8 (o : Int)) (.int .u8 (q : Int)) rfl (fun g => by kernel_rfl) (fun g => by kernel_rfl) (fun g d W hJ hun hcl => by have h16 : d 16 = false := (by cases h : d 16 with | false => rfl | true => exact absurd (hcl 16 _ rfl h 15 (by kernel_rfl)) (by rw [hun]; simp)); have hJ' := hJ; rw [hun, h16] at hJ'; refine ⟨(W.heap.size, g.2), _, bs2 _ _ _, (fun j hj => match j, hj with | 15, hj => (by rw [hj] at hun; cases hun)  | 0, _ => rfl | 1, _ => rfl | 2, _ => rfl | 3, _ => rfl | 4, _ => rfl | 5, _ => rfl | 6, _ => rfl | 7, _ => rfl | 8, _ => rfl | 9, _ => rfl | 10, _ => rfl | 11, _ => rfl | 12, _ => rfl | 13, _ => rfl | 14, _ => rfl | 16, _ => rfl | 17, _ => rfl | _ + 18, _ => rfl), ?_⟩; show JQW w 3 fr 0 0 (.slice (some ⟨g', off, none⟩) l.length cap) _ _ o q g' off l _ true (d 16) _; rw [h16]; exact hJ'.build hgl)
     | 16, _, ho => cases ho; exact stepG_appendW rfl rfl _ _ _ (fun _ => u6) (fun g => .slice (some ⟨g.1, 0, none⟩) 2 2) rfl (fun g => by kernel_rfl) (fun g => by kernel_rfl) (fun g d W hJ hun hdep hcl => by have h15 : d 15 = true := hdep 15 (by kernel_rfl); have hJ' := hJ; rw [h15, hun] at hJ'; obtain ⟨v', W', hr, hA⟩ := hJ'.app hgl 23 (by have := hS.ln; simpa using this); refine ⟨(g.1, v'), W', hr, (fun j hj => match j, hj with | 16, hj => (by rw [hj] at hun; cases hun) | 17, hj => absurd ((hcl 17 _ rfl hj 16 (by kernel_rfl))) (by rw [hun]; simp) | 0, _ => rfl | 1, _ => rfl | 2, _ => rfl | 3, _ => rfl | 4, _ => rfl | 5, _ => rfl | 6, _ => rfl | 7, _ => rfl | 8, _ => rfl | 9, _ => rfl | 10, _ => rfl | 11, _ => rfl | 12, _ => rfl | 13, _ => rfl | 14, _ => rfl | 15, _ => rfl | _ + 18, _ => rfl), ?_⟩; show JQW w 3 fr 0 0 (.slice (some ⟨g', off, none⟩) l.length cap) _ _ o q g' off l _ (d 15) true _; rw [h15]; exact hA)
     | 17, _, ho => cases ho; exact zgo fun g d hdep => zas rfl trivial _ rfl (by kernel_rfl) (fun _ h => h)
    intro g d W hall hW
    first | refine hK _ _ ?_ | refine (‹∀ (a : Act) (w : World), Code.wp Tryz.prog _ _ a w → _›) _ _ ?_ | skip
    simp only [finL, List.getD_cons_zero, List.getD_cons_succ, Nat.zero_add, Nat.reduceAdd, List.setIfInBounds_toArray, List.set_cons_zero, List.set_cons_succ]
    rw [hall 15 (by decide), hall 16 (by decide)] at hW
    have hS2 : SR w 3 fr 0 0 (.slice (some ⟨g', off, none⟩) l.length cap) g.2 (P ++ newsB (l.take k) ++ [o, q]) W := ⟨hW.rb, hW.be, hW.sz, (by unfold OwB; rw [cB_appW, List.length_append]; exact hW.ow), (by simp; omega)⟩
    have hnt := hW.nt
    clear hW hall d0 d1 d2 d3 d4 d5 d6 d7
    obtain ⟨d0, d1, d2, d3, d4, d5, d6, d7⟩ := hS2.rb.cells
    obtain ⟨x0, x1, x2⟩ := hnt k _ hx
    dsimp only at x0 x1 x2
    clear hat hx hnt v1 v2 v3 v4 v5 v6
    go_wp2_with (go_at_call 46; refine (rnumber_any (w.heap.size + 1) _ _ t 3 _ hS2.sz hS2.ow (by have := hS2.ln; omega) (by omega)).mono ?_; rintro e u3 ⟨b3, rfl, ho3, hb3⟩; have hS3 := hS2.step hb3 ho3 (by simp [znl]; omega))
    go_roundw
    case rel => exact ⟨k + 1, by simp, by omega, by rw [HX.out, ← List.append_assoc, ← List.append_assoc]; exact hS3⟩
    case measure => simp [vnatW]; omega
  · have hkk : k = l.length := by omega
    subst hkk
    rw [List.take_length, ← HP.out] at hS
    have hki : ¬ ((l.length : Int) < (l.length : Int)) := by omega
    obtain ⟨ad2, cap2, rfl, hrb⟩ := RdBW.own hS.ow.out
    have hsum := rSum_any ad2 cap2 (frm 3 n fr 0 0 l) wr hrb (frm_byt _ _ _ _ _ _) (by have := hS.ln; omega)
    have hadd := rnumber_any (w.heap.size + 1) _ _ (sumV (frm 3 n fr 0 0 l)) 4 wr hS.sz hS.ow (by have := hS.ln; omega) (by omega)
    have HB : Hid (byt7 3 n fr 0 0 l = frm 3 n fr 0 0 l ++ numBW (sumV (frm 3 n fr 0 0 l)) 4) := rfl
    generalize sumV (frm 3 n fr 0 0 l) = SV at *
    generalize frm 3 n fr 0 0 l = FM at *
    have hbe := hS.be
    clear hS hrb HP
    go_wp2_with (first | (go_at_call 48; refine hsum.mono ?_; rintro e u ⟨rfl, hu⟩; rw [hu]; clear hu u) | (go_at_call 46; refine hadd.mono ?_; rintro e u3 ⟨b3, rfl, ho3, hb3⟩))
    go_ret2
    exact ⟨_, rfl, by rw [HB.out]; exact ownsRow_base ho3 (Nat.le_succ _), hbe.trans (hb3.mono (Nat.le_succ _))⟩
theorem rb1_no (n fr rd : Int) (ad : Option Addr) (cap : Nat) (l : List (Int × Int × Int)) (w : World) (h : RdN w ad l) (hl : l.length ≤ 6000000000000) (hf : ¬ flt 1 n fr rd 0 l = 0) : Calls Tryz.prog 17 #[.agg #[.int .i64 1, .int .i64 fr, .int .i64 rd, .int .u32 (wd 0 0 : Nat), .int .u32 (wd 0 1 : Nat), .int .u32 (wd 0 2 : Nat), .int .u32 (wd 0 3 : Nat), .slice ad l.length cap], .int .i64 n] w (BO 1 n fr rd 0 l w) := by
 have hbW := al1'W w (.cells #[.int .i64 1, .int .i64 fr, .int .i64 rd, .int .u32 (wd 0 0 : Nat), .int .u32 (wd 0 1 : Nat), .int .u32 (wd 0 2 : Nat), .int .u32 (wd 0 3 : Nat), .slice ad l.length cap] 38)
 have hRB : RBW (w.alloc (.cells #[.int .i64 1, .int .i64 fr, .int .i64 rd, .int .u32 (wd 0 0 : Nat), .int .u32 (wd 0 1 : Nat), .int .u32 (wd 0 2 : Nat), .int .u32 (wd 0 3 : Nat), .slice ad l.length cap] 38)) w.heap.size 1 fr rd 0 (.slice ad l.length cap) := zna rfl
 have hrW := h.carry hbW
 obtain ⟨W0, hW0⟩ : ∃ W0, w.alloc (.cells #[.int .i64 1, .int .i64 fr, .int .i64 rd, .int .u32 (wd 0 0 : Nat), .int .u32 (wd 0 1 : Nat), .int .u32 (wd 0 2 : Nat), .int .u32 (wd 0 3 : Nat), .slice ad l.length cap] 38) = W0 := ⟨_, rfl⟩
 rw [hW0] at hbW hRB hrW
 obtain ⟨d0, d1, d2, d3, d4, d5, d6, d7⟩ := hRB.cells
 by_cases g1 : n < 1
 · have HF : Hid (flt 1 n fr rd 0 l = 1) := if_pos (by omega)
   clear hf
   go_enter Tryz.func17, Tryz.ntmps17
   go_wp2
   go_ret2
   exact bo_err HF.out (by decide) hbW
 by_cases g2 : 100 < n
 · have HF : Hid (flt 1 n fr rd 0 l = 1) := if_pos (by omega)
   clear hf
   go_enter Tryz.func17, Tryz.ntmps17
   go_wp2
   go_ret2
   exact bo_err HF.out (by decide) hbW
 by_cases g3 : fr < 0
 · have HF : Hid (flt 1 n fr rd 0 l = 72) := (if_neg (by omega)).trans (if_pos (by omega))
   clear hf
   go_enter Tryz.func17, Tryz.ntmps17
   go_wp2
   go_ret2
   exact bo_err HF.out (by decide) hbW
 by_cases g4 : n ≤ fr
 · have HF : Hid (flt 1 n fr rd 0 l = 72) := (if_neg (by omega)).trans (if_pos (by omega))
   clear hf
   go_enter Tryz.func17, Tryz.ntmps17
   go_wp2
   go_ret2
   exact bo_err HF.out (by decide) hbW
 by_cases g5 : rd < 1
 · have HF : Hid (flt 1 n fr rd 0 l = 73) := (if_neg (by omega)).trans ((if_neg (by omega)).trans (if_pos ⟨by decide, by omega⟩))
   clear hf
   go_enter Tryz.func17, Tryz.ntmps17
   go_wp2
   go_ret2
   exact bo_err HF.out (by decide) hbW
 by_cases g6 : 1099511627775 < rd
 · have HF : Hid (flt 1 n fr rd 0 l = 73) := (if_neg (by omega)).trans ((if_neg (by omega)).trans (if_pos ⟨by decide, by omega⟩))
   clear hf
   go_enter Tryz.func17, Tryz.ntmps17
   go_wp2
   go_ret2
   exact bo_err HF.out (by decide) hbW
 have hri := fun W (hW : RdN W ad l) => rRising_any n ad cap l W hW hl
 have g8 : ris n (-1) l = false := by
   by_cases q : ris n (-1) l = false
   · exact q
   · exact absurd ((if_neg (by omega)).trans ((if_neg (by omega)).trans ((if_neg (by omega)).trans ((if_neg (by simp [wthB])).trans (if_neg q))))) hf
 have HF : Hid (flt 1 n fr rd 0 l = 75) := (if_neg (by omega)).trans ((if_neg (by omega)).trans ((if_neg (by omega)).trans ((if_neg (by simp [wthB])).trans (if_pos g8))))
 rw [g8] at hri
 clear hf
 go_enter Tryz.func17, Tryz.ntmps17
 go_wp2_with (first | (go_at_call 45; (with_reducible refine (hri _ hrW).mono ?_); rintro e u1 ⟨rfl, hb1⟩; have hbU1 := bel2 hbW hb1))
 go_ret2
 exact bo_err HF.out (by decide) hbU1
theorem rb1_ok (n fr : Nat) (rd : Int) (ad : Option Addr) (cap : Nat) (l : List (Int × Int × Int)) (w : World) (h : RdN w ad l) (hf : flt 1 n fr rd 0 l = 0) : Calls Tryz.prog 17 #[.agg #[.int .i64 1, .int .i64 fr, .int .i64 rd, .int .u32 (wd 0 0 : Nat), .int .u32 (wd 0 1 : Nat), .int .u32 (wd 0 2 : Nat), .int .u32 (wd 0 3 : Nat), .slice ad l.length cap], .int .i64 (n : Int)] w fun e w' => ∃ b, e = .returned (.tuple #[b, .int .i64 0]) ∧ OwB w' w.heap.size b (byt7 1 n fr rd.toNat 0 l) ∧ Below w.heap.size w w' := by
 have hmx := mixO
 obtain ⟨hn, hfr, hrd, hwt, hri⟩ := flt_0 hf
 have hlen := ris_len n l (-1) (by omega) (by omega) hri
 have hbW := al1'W w (.cells #[.int .i64 1, .int .i64 fr, .int .i64 rd, .int .u32 (wd 0 0 : Nat), .int .u32 (wd 0 1 : Nat), .int .u32 (wd 0 2 : Nat), .int .u32 (wd 0 3 : Nat), .slice ad l.length cap] 38)
 have hRB : RBW (w.alloc (.cells #[.int .i64 1, .int .i64 fr, .int .i64 rd, .int .u32 (wd 0 0 : Nat), .int .u32 (wd 0 1 : Nat), .int .u32 (wd 0 2 : Nat), .int .u32 (wd 0 3 : Nat), .slice ad l.length cap] 38)) w.heap.size 1 fr rd 0 (.slice ad l.length cap) := zna rfl
 have hrW := h.carry hbW
 obtain ⟨W0, hW0⟩ : ∃ W0, w.alloc (.cells #[.int .i64 1, .int .i64 fr, .int .i64 rd, .int .u32 (wd 0 0 : Nat), .int .u32 (wd 0 1 : Nat), .int .u32 (wd 0 2 : Nat), .int .u32 (wd 0 3 : Nat), .slice ad l.length cap] 38) = W0 := ⟨_, rfl⟩
 rw [hW0] at hbW hRB hrW
 obtain ⟨d0, d1, d2, d3, d4, d5, d6, d7⟩ := hRB.cells
 have hriC := fun W (hW : RdN W ad l) => rRising_any n ad cap l W hW (by omega)
 rw [hri] at hriC
 have hr0 : 0 ≤ rd := by omega
 have har : ∀ (b : Value) (C : List Nat) (u : World), w.heap.size + 1 ≤ u.heap.size → OwB u (w.heap.size + 1) b C → C.length ≤ 100000 → Calls Tryz.prog 46 #[b, .int .i64 rd, .int .i64 5] u fun e w' => ∃ b', e = .returned b' ∧ OwB w' (w.heap.size + 1) b' (C ++ numBW rd.toNat 5) ∧ Below (w.heap.size + 1) u w' := fun b C u hb ho hl => by
  have := rnumber_any (w.heap.size + 1) b C rd.toNat 5 u hb ho hl (by omega)
  rw [Int.toNat_of_nonneg hr0] at this
  exact this
 have g5 : ¬ rd < 1 := by omega
 have g6 : ¬ 1099511627775 < rd := by omega
 obtain ⟨ic, hic, hz0, hz1, hz2⟩ := info_partsB
 have hl100 : l.length ≤ 100 := by omega
 have g1 : ¬ (n : Int) < 1 := by omega
 have g2 : ¬ (100 : Int) < (n : Int) := by omega
 have g3 : ¬ (fr : Int) < 0 := by omega
 have g4 : ¬ (n : Int) ≤ (fr : Int) := by omega
 have iN8 : (n : Int) % 256 = (n : Int) := by omega
 have iF8 : (fr : Int) % 256 = (fr : Int) := by omega
 have iL8 : (l.length : Int) % 256 = (l.length : Int) := by omega
 have hB1 := bs1
 have hB2 := bs2
 have hB5 := bs5
 obtain ⟨P, HPl, HP, HQ⟩ : ∃ P : List Nat, P.length ≤ 30 ∧ Hid (frm 1 n fr rd.toNat 0 l = P ++ newsB l) ∧ Hid (P = [101, 115, 1, n, fr] ++ numBW rd.toNat 5 ++ [l.length]) := by
  refine ⟨[101, 115, 1, n, fr] ++ numBW rd.toNat 5 ++ [l.length], ?_, ?_, rfl⟩
  · simp [znl]
  · show frm 1 n fr rd.toNat 0 l = _
    rw [frm, Nat.mod_eq_of_lt (show n < 256 by omega), Nat.mod_eq_of_lt (show fr < 256 by omega), Nat.mod_eq_of_lt (show l.length < 256 by omega)]
    simp [rndB, setB]
 have HL : Hid (RdN w ad l) := h
 have HRI : Hid (ris n (-1) l = true) := hri
 have h13 : l.length + 3 ≤ 103 := by omega
 clear h hwt hri hf hrd hr0
 go_enter Tryz.func17, Tryz.ntmps17
 go_wp2_with (first | (go_at_call 45; (with_reducible refine (hriC _ hrW).mono ?_); rintro e u1 ⟨rfl, hb1⟩; have hbU1 := bel2 hbW hb1; have hRB1 := hRB.below hb1; have hS1 : SR w 1 fr rd 0 (.slice ad l.length cap) (.slice (some ⟨u1.heap.size, 0, none⟩) 5 5) [101, 115, 1, n, fr] (u1.alloc (.cells #[.int .u8 101, .int .u8 115, .int .u8 1, .int .u8 (n : Int), .int .u8 (fr : Int)] 5)) := ⟨hRB1.below (al1'W u1 _), bel2 hbU1 (al1'W u1 _), (by have := zla hRB1; simp; omega), World.ownsRow_lit (base := w.heap.size + 1) (e := 5) (size := 1) u1 #[.int .u8 101, .int .u8 115, .int .u8 1, .int .u8 (n : Int), .int .u8 (fr : Int)] 5 (zla hRB1) (by decide) (by simp), (by simp)⟩; clear d0 d1 d2 d3 d4 d5 d6 d7; obtain ⟨d0, d1, d2, d3, d4, d5, d6, d7⟩ := hRB1.cells; obtain ⟨f0, f1, f2, f3, f4, f5, f6, f7⟩ := hS1.rb.cells) | (go_at_call 46; (with_reducible refine (har _ ([101, 115, 1, n, fr]) _ hS1.sz hS1.ow (by simp)).mono ?_); rintro e u4 ⟨b4, rfl, ho4, hb4⟩; have hS4 : SR w 1 fr rd 0 (.slice ad l.length cap) b4 ([101, 115, 1, n, fr] ++ numBW rd.toNat 5) u4 := hS1.step hb4 ho4 (by simp [znl]); clear d0 d1 d2 d3 d4 d5 d6 d7; obtain ⟨d0, d1, d2, d3, d4, d5, d6, d7⟩ := hS4.rb.cells) | (at_builtin; refine wpList_append_own_at _ rfl _ _ 23 rfl (w.heap.size + 1) 5 ic _ 1 1 Tryz.underlying23 hic hz0 hz1 hz2 rfl (by decide) _ ([101, 115, 1, n, fr] ++ numBW rd.toNat 5).length (cBW ([101, 115, 1, n, fr] ++ numBW rd.toNat 5)) rfl (World.ownsRow.alloc (OwB.out hS4.ow) _) ⟨u4.heap.size, 0, none⟩ 1 1 [_] rfl rfl (rowN _ #[_] _) (by simp [Value.oneCell']) (by have := hS4.ln; unfold maxLen; omega) (by have := hS4.ln; omega) (by have := hS4.sz; first | (simp; omega) | (simp at this ⊢; omega)) ?_; intro b' z6 hown' hgrow _ hob; have hS6 := SR.app [l.length] hS4 hgrow hown' (by simp [znl]); clear hown' hgrow hob; obtain ⟨d0, d1, d2, d3, d4, d5, d6, d7⟩ := hS6.rb.cells))
 have hS7 : SR w 1 fr rd 0 (.slice ad l.length cap) b' P z6 := HQ.out ▸ hS6
 clear hS6 hS1 HQ hRB hbW hrW hriC hS4 har
 go_loopw [6, 10] (fun b i wz => ∃ (k : Nat), i = .int .i64 k ∧ k ≤ l.length ∧ SR w 1 fr rd 0 (.slice ad l.length cap) b (P ++ newsB (l.take k)) wz) (fun _ i _ => l.length - vnatW i)
 case atStart => exact ⟨0, rfl, Nat.zero_le _, by simpa [newsB] using hS7⟩
 case round =>
  obtain ⟨k, rfl, hk, hS⟩ := hrel
  clear hS7 d0 d1 d2 d3 d4 d5 d6 d7
  obtain ⟨d0, d1, d2, d3, d4, d5, d6, d7⟩ := hS.rb.cells
  have hsw := hS.sz
  by_cases hkl : k < l.length
  · have hki : (k : Int) < (l.length : Int) := by omega
    obtain ⟨⟨o, t, q⟩, hx⟩ : ∃ x, l[k]? = some x := ⟨_, List.getElem?_eq_getElem hkl⟩
    obtain ⟨v1, v2, v3, v4, v5, v6⟩ := vl_bounds (ris_get HRI.out hx)
    dsimp only at v1 v2 v3 v4 v5 v6
    obtain ⟨o, rfl⟩ := Int.eq_ofNat_of_zero_le v1
    obtain ⟨t, rfl⟩ := Int.eq_ofNat_of_zero_le v3
    obtain ⟨q, rfl⟩ := Int.eq_ofNat_of_zero_le (show 0 ≤ q by omega)
    obtain ⟨g', off, rfl, hgl, hat⟩ := HL.out (fun e => by subst e; simp at hkl)
    have ho256 : o < 256 := by omega
    have hq256 : q < 256 := by omega
    have HX : Hid (newsB (l.take (k + 1)) = newsB (l.take k) ++ [o, q] ++ numBW t 3) := by
     have := newsB_step l k _ _ _ hx
     rw [Int.toNat_natCast, Int.toNat_natCast, Int.toNat_natCast, Nat.mod_eq_of_lt (show o < 256 by omega), Nat.mod_eq_of_lt (show q < 256 by omega)] at this
     exact this
    have hlk : (newsB (l.take k)).length ≤ 5 * k := by rw [newsB_len, List.length_take]; omega
    go_wp2
    refine wp_region_any hmx ?_
    refine zwt (G := (Nat × Value)) (fun g i__ => ([u6, (.pointer (some ⟨w.heap.size, 7, none⟩)), (.slice (some ⟨g', off, none⟩) l.length cap), (.int .i64 (k : Int)), (.pointer (some ⟨g', off + k * 3, none⟩)), (.pointer (some ⟨g', off + k * 3, none⟩)), (.int .i64 (o : Int)), (.int .u8 (o : Int)), (.pointer (some ⟨w.heap.size, 7, none⟩)), (.slice (some ⟨g', off, none⟩) l.length cap), (.int .i64 (k : Int)), (.pointer (some ⟨g', off + k * 3, none⟩)), (.pointer (some ⟨g', off + k * 3 + 2, none⟩)), (.int .i64 (q : Int)), (.int .u8 (q : Int)), (.slice (some ⟨g.1, 0, none⟩) 2 2), g.2, g.2] : List Value).getD i__ undef) (fun g d W => JQW w 1 fr rd 0 (.slice (some ⟨g', off, none⟩) l.length cap) u6 (P ++ newsB (l.take k)) o q g' off l g (d 15) (d 16) W) (by kernel_rfl) ((0, undef)) (show JQW w 1 fr rd 0 (.slice (some ⟨g', off, none⟩) l.length cap) u6 (P ++ newsB (l.take k)) o q g' off l (0, undef) false false _ from ⟨hS.rb.below (Below.refl _ _).drew, hS.be.trans (Below.refl _ _).drew, hS.sz, hat.carry hgl (hS.be.trans (Below.refl _ _).drew), hS.ow.out, fun e => by cases e⟩) ?step6 ?fin6
    case step6 =>
     intro i o ho
     have hi : i < 18 := getElem?_lt ho
     match i, hi, ho with
     | 0, _, ho => cases ho; exact zgo fun g d hdep => zmv rfl trivial _ rfl (by kernel_rfl)
     | 1, _, ho => cases ho; exact zgo fun g d hdep => zfa rfl trivial _ _ _ _ rfl rfl (fun w hw => field_rbW _ w)
     | 2, _, ho => cases ho; exact zgo fun g d hdep => zld rfl trivial _ _ _ rfl rfl (fun w hw => load_rbW hw.rb)
     | 3, _, ho => cases ho; exact zgo fun g d hdep => zmv rfl trivial _ rfl (by kernel_rfl)
     | 4, _, ho => cases ho; exact zgo fun g d hdep => zia rfl trivial _ _ _ _ _ rfl rfl rfl (fun w hw => idx_n g' off l.length cap k hkl w)
     | 5, _, ho => cases ho; exact zgo fun g d hdep => zfa rfl trivial _ _ _ _ rfl rfl (fun w hw => field_at w _ _)
     | 6, _, ho => cases ho; exact zgo fun g d hdep => zld rfl trivial _ _ _ rfl rfl (fun w hw => load_of hw.nt hx)
     | 7, _, ho => cases ho; exact zgo fun g d hdep => step_convert rfl trivial _ _ _ _ rfl rfl (fun w hw => conv8 o ho256 w)
     | 8, _, ho => cases ho; exact zgo fun g d hdep => zfa rfl trivial _ _ _ _ rfl rfl (fun w hw => field_rbW _ w)
     | 9, _, ho => cases ho; exact zgo fun g d hdep => zld rfl trivial _ _ _ rfl rfl (fun w hw => load_rbW hw.rb)
     | 10, _, ho => cases ho; exact zgo fun g d hdep => zmv rfl trivial _ rfl (by kernel_rfl)
     | 11, _, ho => cases ho; exact zgo fun g d hdep => zia rfl trivial _ _ _ _ _ rfl rfl rfl (fun w hw => idx_n g' off l.length cap k hkl w)
     | 12, _, ho => cases ho; exact zgo fun g d hdep => zfa rfl trivial _ _ _ _ rfl rfl (fun w hw => field_nt2 _ _ w)
     | 13, _, ho => cases ho; exact zgo fun g d hdep => zld rfl trivial _ _ _ rfl rfl (fun w hw => load_kd hw.nt hx)
     | 14, _, ho => cases ho; exact zgo fun g d hdep => step_convert rfl trivial _ _ _ _ rfl rfl (fun w hw => conv8 q hq256 w)
     | 15, _, ho => cases ho; exact stepG_build2 rfl rfl _ _ _ (.int .u8 (o : Int)) (.int .u8 (q : Int)) rfl (fun g => by kernel_rfl) (fun g => by kernel_rfl) (fun g d W hJ hun hcl => by have h16 : d 16 = false := (by cases h : d 16 with | false => rfl | true => exact absurd (hcl 16 _ rfl h 15 (by kernel_rfl)) (by rw [hun]; simp)); have hJ' := hJ; rw [hun, h16] at hJ'; refine ⟨(W.heap.size, g.2), _, bs2 _ _ _, (fun j hj => match j, hj with | 15, hj => (by rw [hj] at hun; cases hun)  | 0, _ => rfl | 1, _ => rfl | 2, _ => rfl | 3, _ => rfl | 4, _ => rfl | 5, _ => rfl | 6, _ => rfl | 7, _ => rfl | 8, _ => rfl | 9, _ => rfl | 10, _ => rfl | 11, _ => rfl | 12, _ => rfl | 13, _ => rfl | 14, _ => rfl | 16, _ => rfl | 17, _ => rfl | _ + 18, _ => rfl), ?_⟩; show JQW w 1 fr rd 0 (.slice (some ⟨g', off, none⟩) l.length cap) _ _ o q g' off l _ true (d 16) _; rw [h16]; exact hJ'.build hgl)
     | 16, _, ho => cases ho; exact stepG_appendW rfl rfl _ _ _ (fun _ => u6) (fun g => .slice (some ⟨g.1, 0, none⟩) 2 2) rfl (fun g => by kernel_rfl) (fun g => by kernel_rfl) (fun g d W hJ hun hdep hcl => by have h15 : d 15 = true := hdep 15 (by kernel_rfl); have hJ' := hJ; rw [h15, hun] at hJ'; obtain ⟨v', W', hr, hA⟩ := hJ'.app hgl 23 (by have := hS.ln; simpa using this); refine ⟨(g.1, v'), W', hr, (fun j hj => match j, hj with | 16, hj => (by rw [hj] at hun; cases hun) | 17, hj => absurd ((hcl 17 _ rfl hj 16 (by kernel_rfl))) (by rw [hun]; simp) | 0, _ => rfl | 1, _ => rfl | 2, _ => rfl | 3, _ => rfl | 4, _ => rfl | 5, _ => rfl | 6, _ => rfl | 7, _ => rfl | 8, _ => rfl | 9, _ => rfl | 10, _ => rfl | 11, _ => rfl | 12, _ => rfl | 13, _ => rfl | 14, _ => rfl | 15, _ => rfl | _ + 18, _ => rfl), ?_⟩; show JQW w 1 fr rd 0 (.slice (some ⟨g', off, none⟩) l.length cap) _ _ o q g' off l _ (d 15) true _; rw [h15]; exact hA)
     | 17, _, ho => cases ho; exact zgo fun g d hdep => zas rfl trivial _ rfl (by kernel_rfl) (fun _ h => h)
    intro g d W hall hW
    first | refine hK _ _ ?_ | refine (‹∀ (a : Act) (w : World), Code.wp Tryz.prog _ _ a w → _›) _ _ ?_ | skip
    simp only [finL, List.getD_cons_zero, List.getD_cons_succ, Nat.zero_add, Nat.reduceAdd, List.setIfInBounds_toArray, List.set_cons_zero, List.set_cons_succ]
    rw [hall 15 (by decide), hall 16 (by decide)] at hW
    have hS2 : SR w 1 fr rd 0 (.slice (some ⟨g', off, none⟩) l.length cap) g.2 (P ++ newsB (l.take k) ++ [o, q]) W := ⟨hW.rb, hW.be, hW.sz, (by unfold OwB; rw [cB_appW, List.length_append]; exact hW.ow), (by simp; omega)⟩
    have hnt := hW.nt
    clear hW hall d0 d1 d2 d3 d4 d5 d6 d7
    obtain ⟨d0, d1, d2, d3, d4, d5, d6, d7⟩ := hS2.rb.cells
    obtain ⟨x0, x1, x2⟩ := hnt k _ hx
    dsimp only at x0 x1 x2
    clear hat hx hnt v1 v2 v3 v4 v5 v6
    go_wp2_with (go_at_call 46; refine (rnumber_any (w.heap.size + 1) _ _ t 3 _ hS2.sz hS2.ow (by have := hS2.ln; omega) (by omega)).mono ?_; rintro e u3 ⟨b3, rfl, ho3, hb3⟩; have hS3 := hS2.step hb3 ho3 (by simp [znl]; omega))
    go_roundw
    case rel => exact ⟨k + 1, by simp, by omega, by rw [HX.out, ← List.append_assoc, ← List.append_assoc]; exact hS3⟩
    case measure => simp [vnatW]; omega
  · have hkk : k = l.length := by omega
    subst hkk
    rw [List.take_length, ← HP.out] at hS
    have hki : ¬ ((l.length : Int) < (l.length : Int)) := by omega
    obtain ⟨ad2, cap2, rfl, hrb⟩ := RdBW.own hS.ow.out
    have hsum := rSum_any ad2 cap2 (frm 1 n fr rd.toNat 0 l) wr hrb (frm_byt _ _ _ _ _ _) (by have := hS.ln; omega)
    have hadd := rnumber_any (w.heap.size + 1) _ _ (sumV (frm 1 n fr rd.toNat 0 l)) 4 wr hS.sz hS.ow (by have := hS.ln; omega) (by omega)
    have HB : Hid (byt7 1 n fr rd.toNat 0 l = frm 1 n fr rd.toNat 0 l ++ numBW (sumV (frm 1 n fr rd.toNat 0 l)) 4) := rfl
    generalize sumV (frm 1 n fr rd.toNat 0 l) = SV at *
    generalize frm 1 n fr rd.toNat 0 l = FM at *
    have hbe := hS.be
    clear hS hrb HP
    go_wp2_with (first | (go_at_call 48; refine hsum.mono ?_; rintro e u ⟨rfl, hu⟩; rw [hu]; clear hu u) | (go_at_call 46; refine hadd.mono ?_; rintro e u3 ⟨b3, rfl, ho3, hb3⟩))
    go_ret2
    exact ⟨_, rfl, by rw [HB.out]; exact ownsRow_base ho3 (Nat.le_succ _), hbe.trans (hb3.mono (Nat.le_succ _))⟩
theorem rb2_no (n fr rd : Int) (N : Nat) (hN : N < S128) (ad : Option Addr) (cap : Nat) (l : List (Int × Int × Int)) (w : World) (h : RdN w ad l) (hl : l.length ≤ 6000000000000) (hf : ¬ flt 2 n fr rd N l = 0) : Calls Tryz.prog 17 #[.agg #[.int .i64 2, .int .i64 fr, .int .i64 rd, .int .u32 (wd N 0 : Nat), .int .u32 (wd N 1 : Nat), .int .u32 (wd N 2 : Nat), .int .u32 (wd N 3 : Nat), .slice ad l.length cap], .int .i64 n] w (BO 2 n fr rd N l w) := by
 have hbW := al1'W w (.cells #[.int .i64 2, .int .i64 fr, .int .i64 rd, .int .u32 (wd N 0 : Nat), .int .u32 (wd N 1 : Nat), .int .u32 (wd N 2 : Nat), .int .u32 (wd N 3 : Nat), .slice ad l.length cap] 38)
 have hRB : RBW (w.alloc (.cells #[.int .i64 2, .int .i64 fr, .int .i64 rd, .int .u32 (wd N 0 : Nat), .int .u32 (wd N 1 : Nat), .int .u32 (wd N 2 : Nat), .int .u32 (wd N 3 : Nat), .slice ad l.length cap] 38)) w.heap.size 2 fr rd N (.slice ad l.length cap) := zna rfl
 have hrW := h.carry hbW
 obtain ⟨W0, hW0⟩ : ∃ W0, w.alloc (.cells #[.int .i64 2, .int .i64 fr, .int .i64 rd, .int .u32 (wd N 0 : Nat), .int .u32 (wd N 1 : Nat), .int .u32 (wd N 2 : Nat), .int .u32 (wd N 3 : Nat), .slice ad l.length cap] 38) = W0 := ⟨_, rfl⟩
 rw [hW0] at hbW hRB hrW
 obtain ⟨d0, d1, d2, d3, d4, d5, d6, d7⟩ := hRB.cells
 by_cases g1 : n < 1
 · have HF : Hid (flt 2 n fr rd N l = 1) := if_pos (by omega)
   clear hf
   go_enter Tryz.func17, Tryz.ntmps17
   go_wp2
   go_ret2
   exact bo_err HF.out (by decide) hbW
 by_cases g2 : 100 < n
 · have HF : Hid (flt 2 n fr rd N l = 1) := if_pos (by omega)
   clear hf
   go_enter Tryz.func17, Tryz.ntmps17
   go_wp2
   go_ret2
   exact bo_err HF.out (by decide) hbW
 by_cases g3 : fr < 0
 · have HF : Hid (flt 2 n fr rd N l = 72) := (if_neg (by omega)).trans (if_pos (by omega))
   clear hf
   go_enter Tryz.func17, Tryz.ntmps17
   go_wp2
   go_ret2
   exact bo_err HF.out (by decide) hbW
 by_cases g4 : n ≤ fr
 · have HF : Hid (flt 2 n fr rd N l = 72) := (if_neg (by omega)).trans (if_pos (by omega))
   clear hf
   go_enter Tryz.func17, Tryz.ntmps17
   go_wp2
   go_ret2
   exact bo_err HF.out (by decide) hbW
 by_cases g5 : rd < 1
 · have HF : Hid (flt 2 n fr rd N l = 73) := (if_neg (by omega)).trans ((if_neg (by omega)).trans (if_pos ⟨by decide, by omega⟩))
   clear hf
   go_enter Tryz.func17, Tryz.ntmps17
   go_wp2
   go_ret2
   exact bo_err HF.out (by decide) hbW
 by_cases g6 : 1099511627775 < rd
 · have HF : Hid (flt 2 n fr rd N l = 73) := (if_neg (by omega)).trans ((if_neg (by omega)).trans (if_pos ⟨by decide, by omega⟩))
   clear hf
   go_enter Tryz.func17, Tryz.ntmps17
   go_wp2
   go_ret2
   exact bo_err HF.out (by decide) hbW
 have hwi := rWithin_any N hN n
 simp only [sv] at hwi
 by_cases g7 : wthB N n = false
 · have HF : Hid (flt 2 n fr rd N l = 74) := (if_neg (by omega)).trans ((if_neg (by omega)).trans ((if_neg (by omega)).trans (if_pos g7)))
   rw [g7] at hwi
   clear hf
   go_enter Tryz.func17, Tryz.ntmps17
   go_wp2_with (go_at_call 44; (with_reducible refine (hwi _).mono ?_); rintro e u0 ⟨rfl, hb0⟩; have hbU0 := bel2 hbW hb0; have hRB0 := hRB.below hb0; have hr0 := hrW.carry hb0; clear d0 d1 d2 d3 d4 d5 d6 d7; obtain ⟨d0, d1, d2, d3, d4, d5, d6, d7⟩ := hRB0.cells)
   go_ret2
   exact bo_err HF.out (by decide) hbU0
 have g7t : wthB N n = true := by simpa using g7
 rw [g7t] at hwi
 have hri := fun W (hW : RdN W ad l) => rRising_any n ad cap l W hW hl
 have g8 : ris n (-1) l = false := by
   by_cases q : ris n (-1) l = false
   · exact q
   · exact absurd ((if_neg (by omega)).trans ((if_neg (by omega)).trans ((if_neg (by omega)).trans ((if_neg (by rw [g7t]; simp)).trans (if_neg q))))) hf
 have HF : Hid (flt 2 n fr rd N l = 75) := (if_neg (by omega)).trans ((if_neg (by omega)).trans ((if_neg (by omega)).trans ((if_neg (by rw [g7t]; simp)).trans (if_pos g8))))
 rw [g8] at hri
 clear hf
 go_enter Tryz.func17, Tryz.ntmps17
 go_wp2_with (first | (go_at_call 44; (with_reducible refine (hwi _).mono ?_); rintro e u0 ⟨rfl, hb0⟩; have hbU0 := bel2 hbW hb0; have hRB0 := hRB.below hb0; have hr0 := hrW.carry hb0; clear d0 d1 d2 d3 d4 d5 d6 d7; obtain ⟨d0, d1, d2, d3, d4, d5, d6, d7⟩ := hRB0.cells) | (go_at_call 45; (with_reducible refine (hri _ hr0).mono ?_); rintro e u1 ⟨rfl, hb1⟩; have hbU1 := bel2 hbU0 hb1))
 go_ret2
 exact bo_err HF.out (by decide) hbU1
theorem rb2_ok (n fr : Nat) (rd : Int) (N : Nat) (hN : N < S128) (ad : Option Addr) (cap : Nat) (l : List (Int × Int × Int)) (w : World) (h : RdN w ad l) (hf : flt 2 n fr rd N l = 0) : Calls Tryz.prog 17 #[.agg #[.int .i64 2, .int .i64 fr, .int .i64 rd, .int .u32 (wd N 0 : Nat), .int .u32 (wd N 1 : Nat), .int .u32 (wd N 2 : Nat), .int .u32 (wd N 3 : Nat), .slice ad l.length cap], .int .i64 (n : Int)] w fun e w' => ∃ b, e = .returned (.tuple #[b, .int .i64 0]) ∧ OwB w' w.heap.size b (byt7 2 n fr rd.toNat N l) ∧ Below w.heap.size w w' := by
 have hmx := mixO
 obtain ⟨hn, hfr, hrd, hwt, hri⟩ := flt_0 hf
 have hlen := ris_len n l (-1) (by omega) (by omega) hri
 have hbW := al1'W w (.cells #[.int .i64 2, .int .i64 fr, .int .i64 rd, .int .u32 (wd N 0 : Nat), .int .u32 (wd N 1 : Nat), .int .u32 (wd N 2 : Nat), .int .u32 (wd N 3 : Nat), .slice ad l.length cap] 38)
 have hRB : RBW (w.alloc (.cells #[.int .i64 2, .int .i64 fr, .int .i64 rd, .int .u32 (wd N 0 : Nat), .int .u32 (wd N 1 : Nat), .int .u32 (wd N 2 : Nat), .int .u32 (wd N 3 : Nat), .slice ad l.length cap] 38)) w.heap.size 2 fr rd N (.slice ad l.length cap) := zna rfl
 have hrW := h.carry hbW
 obtain ⟨W0, hW0⟩ : ∃ W0, w.alloc (.cells #[.int .i64 2, .int .i64 fr, .int .i64 rd, .int .u32 (wd N 0 : Nat), .int .u32 (wd N 1 : Nat), .int .u32 (wd N 2 : Nat), .int .u32 (wd N 3 : Nat), .slice ad l.length cap] 38) = W0 := ⟨_, rfl⟩
 rw [hW0] at hbW hRB hrW
 obtain ⟨d0, d1, d2, d3, d4, d5, d6, d7⟩ := hRB.cells
 have hriC := fun W (hW : RdN W ad l) => rRising_any n ad cap l W hW (by omega)
 rw [hri] at hriC
 have hwi := rWithin_any N hN n
 rw [hwt] at hwi
 simp only [sv] at hwi
 have hNn : N < 2 ^ n := wth_mod (by omega) hwt
 have hhs : ∀ (k i : Nat) (W : World), Calls Tryz.prog 47 #[.agg #[.int .u32 (wd N 0 : Nat), .int .u32 (wd N 1 : Nat), .int .u32 (wd N 2 : Nat), .int .u32 (wd N 3 : Nat)], .int .i64 (8 * (k : Int) + (i : Int))] W fun e w' => e = .returned (.bool (N.testBit (8 * k + i))) ∧ Below W.heap.size W w' := fun k i W => by
  have := rHas_any N (8 * (k : Int) + (i : Int)) W
  have e : hasB N (8 * (k : Int) + (i : Int)) = N.testBit (8 * k + i) := by
    unfold hasB
    rw [show (8 * (k : Int) + (i : Int)).toNat = 8 * k + i by omega]
    by_cases hk : 8 * k + i < 100
    · rw [decide_eq_true (show 0 ≤ 8 * (k : Int) + (i : Int) ∧ 8 * (k : Int) + (i : Int) < 100 by omega), Bool.true_and]
    · rw [decide_eq_false (show ¬ (0 ≤ 8 * (k : Int) + (i : Int) ∧ 8 * (k : Int) + (i : Int) < 100) by omega), Bool.false_and]
      exact (Nat.testBit_lt_two_pow (Nat.lt_of_lt_of_le hNn (Nat.pow_le_pow_right (by decide) (by omega)))).symm
  rw [e] at this
  simpa only [sv] using this
 obtain ⟨m, hm⟩ : ∃ m, hsz n = m := ⟨_, rfl⟩
 have hmi : ((n : Int) + 7) / 8 = (m : Int) := by unfold hsz at hm; omega
 have hm13 : m ≤ 13 := hm ▸ hsz_le (by omega)
 have hr0 : 0 ≤ rd := by omega
 have har : ∀ (b : Value) (C : List Nat) (u : World), w.heap.size + 1 ≤ u.heap.size → OwB u (w.heap.size + 1) b C → C.length ≤ 100000 → Calls Tryz.prog 46 #[b, .int .i64 rd, .int .i64 5] u fun e w' => ∃ b', e = .returned b' ∧ OwB w' (w.heap.size + 1) b' (C ++ numBW rd.toNat 5) ∧ Below (w.heap.size + 1) u w' := fun b C u hb ho hl => by
  have := rnumber_any (w.heap.size + 1) b C rd.toNat 5 u hb ho hl (by omega)
  rw [Int.toNat_of_nonneg hr0] at this
  exact this
 have g5 : ¬ rd < 1 := by omega
 have g6 : ¬ 1099511627775 < rd := by omega
 obtain ⟨ic, hic, hz0, hz1, hz2⟩ := info_partsB
 have hl100 : l.length ≤ 100 := by omega
 have g1 : ¬ (n : Int) < 1 := by omega
 have g2 : ¬ (100 : Int) < (n : Int) := by omega
 have g3 : ¬ (fr : Int) < 0 := by omega
 have g4 : ¬ (n : Int) ≤ (fr : Int) := by omega
 have iN8 : (n : Int) % 256 = (n : Int) := by omega
 have iF8 : (fr : Int) % 256 = (fr : Int) := by omega
 have iL8 : (l.length : Int) % 256 = (l.length : Int) := by omega
 have hB1 := bs1
 have hB2 := bs2
 have hB5 := bs5
 obtain ⟨P, HPl, HP, HQ⟩ : ∃ P : List Nat, P.length ≤ 30 ∧ Hid (frm 2 n fr rd.toNat N l = P ++ newsB l) ∧ Hid (P = [101, 115, 2, n, fr] ++ numBW rd.toNat 5 ++ stB N 0 m ++ [l.length]) := by
  refine ⟨[101, 115, 2, n, fr] ++ numBW rd.toNat 5 ++ stB N 0 m ++ [l.length], ?_, ?_, rfl⟩
  · simp [znl, stB_len]; omega
  · show frm 2 n fr rd.toNat N l = _
    rw [frm, Nat.mod_eq_of_lt (show n < 256 by omega), Nat.mod_eq_of_lt (show fr < 256 by omega), Nat.mod_eq_of_lt (show l.length < 256 by omega)]
    simp [rndB, setB, hm]
 have HL : Hid (RdN w ad l) := h
 have HRI : Hid (ris n (-1) l = true) := hri
 have h13 : l.length + 3 ≤ 103 := by omega
 clear h hwt hri hf hrd hr0 hm hNn
 go_enter Tryz.func17, Tryz.ntmps17
 go_wp2_with (first | (go_at_call 44; (with_reducible refine (hwi _).mono ?_); rintro e u0 ⟨rfl, hb0⟩; have hbU0 := bel2 hbW hb0; have hRB0 := hRB.below hb0; have hr0 := hrW.carry hb0; clear d0 d1 d2 d3 d4 d5 d6 d7; obtain ⟨d0, d1, d2, d3, d4, d5, d6, d7⟩ := hRB0.cells) | (go_at_call 45; (with_reducible refine (hriC _ hr0).mono ?_); rintro e u1 ⟨rfl, hb1⟩; have hbU1 := bel2 hbU0 hb1; have hRB1 := hRB0.below hb1; have hS1 : SR w 2 fr rd N (.slice ad l.length cap) (.slice (some ⟨u1.heap.size, 0, none⟩) 5 5) [101, 115, 2, n, fr] (u1.alloc (.cells #[.int .u8 101, .int .u8 115, .int .u8 2, .int .u8 (n : Int), .int .u8 (fr : Int)] 5)) := ⟨hRB1.below (al1'W u1 _), bel2 hbU1 (al1'W u1 _), (by have := zla hRB1; simp; omega), World.ownsRow_lit (base := w.heap.size + 1) (e := 5) (size := 1) u1 #[.int .u8 101, .int .u8 115, .int .u8 2, .int .u8 (n : Int), .int .u8 (fr : Int)] 5 (zla hRB1) (by decide) (by simp), (by simp)⟩; clear d0 d1 d2 d3 d4 d5 d6 d7; obtain ⟨d0, d1, d2, d3, d4, d5, d6, d7⟩ := hRB1.cells; obtain ⟨f0, f1, f2, f3, f4, f5, f6, f7⟩ := hS1.rb.cells) | (go_at_call 46; (with_reducible refine (har _ ([101, 115, 2, n, fr]) _ hS1.sz hS1.ow (by simp)).mono ?_); rintro e u4 ⟨b4, rfl, ho4, hb4⟩; have hS4 : SR w 2 fr rd N (.slice ad l.length cap) b4 ([101, 115, 2, n, fr] ++ numBW rd.toNat 5) u4 := hS1.step hb4 ho4 (by simp [znl]); clear d0 d1 d2 d3 d4 d5 d6 d7; obtain ⟨d0, d1, d2, d3, d4, d5, d6, d7⟩ := hS4.rb.cells))
 obtain ⟨C0, hC0, HC0⟩ : ∃ C0 : List Nat, C0.length = 10 ∧ Hid (C0 = [101, 115, 2, n, fr] ++ numBW rd.toNat 5) := ⟨_, by simp [znl], rfl⟩
 have hS5 : SR w 2 fr rd N (.slice ad l.length cap) b4 C0 u4 := HC0.out ▸ hS4
 clear hS4 hS1 hRB hbW hrW hriC hwi har hRB0 hr0 hRB1 d0 d1 d2 d3 d4 d5 d6 d7
 go_loopw [6, 7] (fun b i wz => ∃ (k : Nat) (C : List Nat), i = .int .i64 k ∧ k ≤ m ∧ Hid (C.length = 10 + k) ∧ Hid (C ++ stB N k (m - k) = C0 ++ stB N 0 m) ∧ SR w 2 fr rd N (.slice ad l.length cap) b C wz) (fun _ i _ => m - vnatW i)
 case atStart => exact ⟨0, C0, rfl, Nat.zero_le _, hC0, rfl, hS5⟩
 case round =>
  obtain ⟨k, C, rfl, hk, HCL, HC, hS⟩ := hrel
  have hsw := hS.sz
  obtain ⟨d0, d1, d2, d3, d4, d5, d6, d7⟩ := hS.rb.cells
  by_cases hkl : k < m
  · have hki : (k : Int) < (m : Int) := by omega
    go_wp2
    go_loopw [8, 9] (fun v i wz => ∃ (x j : Nat), v = .int .i64 x ∧ i = .int .i64 j ∧ j ≤ 8 ∧ x < 256 ∧ Hid (x = N / 2 ^ (8 * k) % 2 ^ j) ∧ SR w 2 fr rd N (.slice ad l.length cap) u6 C wz) (fun _ i _ => 8 - vnatW i)
    case atStart => exact ⟨0, 0, rfl, rfl, by omega, by omega, (by show 0 = _; rw [Nat.pow_zero, Nat.mod_one]), hS⟩
    case round =>
      obtain ⟨x, j, rfl, rfl, hj, hx, HX, hSi⟩ := hrel
      clear hmi
      clear d0 d1 d2 d3 d4 d5 d6 d7
      obtain ⟨d0, d1, d2, d3, d4, d5, d6, d7⟩ := hSi.rb.cells
      by_cases hjl : j < 8
      · have hji : (j : Int) < 8 := by omega
        have hc := hhs k j
        have hpb := pre_bits (N := N / 2 ^ (8 * k)) (i := j)
        rw [← HX.out, Nat.testBit_div_two_pow, Nat.add_comm j (8 * k)] at hpb
        have hlt : N / 2 ^ (8 * k) % 2 ^ (j + 1) < 256 := Nat.lt_of_lt_of_le (Nat.mod_lt _ (Nat.two_pow_pos _)) (Nat.pow_le_pow_right (n := 2) (by decide) (show j + 1 ≤ 8 by omega))
        cases hb : N.testBit (8 * k + j) with
        | false =>
         rw [hb] at hc hpb
         have HX2 : Hid (x = N / 2 ^ (8 * k) % 2 ^ (j + 1)) := (by show x = _; simpa using hpb)
         clear hpb hlt HX hb
         go_wp2_with (go_at_call 47; (with_reducible refine (hc _).mono ?_); rintro e ui ⟨rfl, hbi⟩; have hSu := hSi.below hbi)
         go_roundw
         case rel => exact ⟨x, j + 1, rfl, by simp, by omega, hx, HX2, hSu⟩
         case measure => simp [vnatW]; omega
        | true =>
         rw [hb] at hc hpb
         obtain ⟨p, hp⟩ : ∃ p, 2 ^ j = p := ⟨_, rfl⟩
         rw [if_pos rfl, hp] at hpb
         have hpi : (2 : Int) ^ j = (p : Int) := by rw [← hp]; simp
         have hp256 : p ≤ 256 := by rw [← hp]; exact Nat.pow_le_pow_right (n := 2) (by decide) (show j ≤ 8 by omega)
         have hxp : x + p < 256 := by omega
         have HX2 : Hid (x + p = N / 2 ^ (8 * k) % 2 ^ (j + 1)) := hpb
         clear hpb hlt HX hb hp
         go_wp2_with (go_at_call 47; (with_reducible refine (hc _).mono ?_); rintro e ui ⟨rfl, hbi⟩; have hSu := hSi.below hbi)
         go_roundw
         case rel => exact ⟨x + p, j + 1, by simp, by simp, by omega, hxp, HX2, hSu⟩
         case measure => simp [vnatW]; omega
      · have hj8 : j = 8 := by omega
        subst hj8
        have HE : Hid (x = N / 2 ^ (8 * k) % 256) := HX
        obtain ⟨j, hj'⟩ : ∃ j, m - k = j + 1 := ⟨m - k - 1, by omega⟩
        have HN : Hid ((C ++ [x]) ++ stB N (k + 1) (m - (k + 1)) = C0 ++ stB N 0 m) := by
         show (C ++ [x]) ++ stB N (k + 1) (m - (k + 1)) = C0 ++ stB N 0 m
         rw [← HC.out, hj', stB, List.append_assoc, HE.out, show m - (k + 1) = j by omega]
         rfl
        have ix8 : (x : Int) % 256 = (x : Int) := by omega
        have HC2 : Hid (C.length = 10 + k) := HCL
        clear HX HE hj' HC HCL
        go_wp2_with (at_builtin; refine wpList_append_own_at _ rfl _ _ 23 rfl (w.heap.size + 1) 5 ic _ 1 1 Tryz.underlying23 hic hz0 hz1 hz2 rfl (by decide) _ (C).length (cBW (C)) rfl (World.ownsRow.alloc (OwB.out hSi.ow) _) ⟨wr.heap.size, 0, none⟩ 1 1 [_] rfl rfl (rowN _ #[_] _) (by simp [Value.oneCell']) (by have := hSi.ln; unfold maxLen; omega) (by have := hSi.ln; omega) (by have := hSi.sz; first | (simp; omega) | (simp at this ⊢; omega)) ?_; intro b' zx hown' hgrow _ hob; have hSx := SR.app [x] hSi hgrow hown' (by have := HC2.out; simp; omega); clear hown' hgrow hob)
        go_roundw
        case rel => exact ⟨k + 1, C ++ [x], by simp, by omega, (by show (C ++ [x]).length = 10 + (k + 1); have := HC2.out; simp; omega), HN, hSx⟩
        case measure => simp [vnatW]; omega
  · have hkk : k = m := by omega
    subst hkk
    have hki : ¬ ((k : Int) < (k : Int)) := by omega
    have HE : Hid (C = C0 ++ stB N 0 k) := by have := HC.out; rw [Nat.sub_self, stB, List.append_nil] at this; exact this
    have HCL' : Hid (C.length = 10 + k) := HCL
    clear HC HCL hS5
    go_wp2_with (at_builtin; refine wpList_append_own_at _ rfl _ _ 23 rfl (w.heap.size + 1) 5 ic _ 1 1 Tryz.underlying23 hic hz0 hz1 hz2 rfl (by decide) _ (C).length (cBW (C)) rfl (World.ownsRow.alloc (OwB.out hS.ow) _) ⟨wr.heap.size, 0, none⟩ 1 1 [_] rfl rfl (rowN _ #[_] _) (by simp [Value.oneCell']) (by have := hS.ln; unfold maxLen; omega) (by have := hS.ln; omega) (by have := hS.sz; first | (simp; omega) | (simp at this ⊢; omega)) ?_; intro b' z6 hown' hgrow _ hob; have hS6 := SR.app [l.length] hS hgrow hown' (by have := HCL'.out; simp; omega); clear hown' hgrow hob; obtain ⟨d0, d1, d2, d3, d4, d5, d6, d7⟩ := hS6.rb.cells)
    have hS7 : SR w 2 fr rd N (.slice ad l.length cap) b' P z6 := by
      have := hS6
      rw [HE.out, HC0.out] at this
      exact HQ.out ▸ this
    clear hS6 hS HQ
    go_loopw [6, 10] (fun b i wz => ∃ (k : Nat), i = .int .i64 k ∧ k ≤ l.length ∧ SR w 2 fr rd N (.slice ad l.length cap) b (P ++ newsB (l.take k)) wz) (fun _ i _ => l.length - vnatW i)
    case atStart => exact ⟨0, rfl, Nat.zero_le _, by simpa [newsB] using hS7⟩
    case round =>
      obtain ⟨k, rfl, hk, hS⟩ := hrel
      clear hS7 d0 d1 d2 d3 d4 d5 d6 d7
      obtain ⟨d0, d1, d2, d3, d4, d5, d6, d7⟩ := hS.rb.cells
      have hsw := hS.sz
      by_cases hkl : k < l.length
      · have hki : (k : Int) < (l.length : Int) := by omega
        obtain ⟨⟨o, t, q⟩, hx⟩ : ∃ x, l[k]? = some x := ⟨_, List.getElem?_eq_getElem hkl⟩
        obtain ⟨v1, v2, v3, v4, v5, v6⟩ := vl_bounds (ris_get HRI.out hx)
        dsimp only at v1 v2 v3 v4 v5 v6
        obtain ⟨o, rfl⟩ := Int.eq_ofNat_of_zero_le v1
        obtain ⟨t, rfl⟩ := Int.eq_ofNat_of_zero_le v3
        obtain ⟨q, rfl⟩ := Int.eq_ofNat_of_zero_le (show 0 ≤ q by omega)
        obtain ⟨g', off, rfl, hgl, hat⟩ := HL.out (fun e => by subst e; simp at hkl)
        have ho256 : o < 256 := by omega
        have hq256 : q < 256 := by omega
        have HX : Hid (newsB (l.take (k + 1)) = newsB (l.take k) ++ [o, q] ++ numBW t 3) := by
         have := newsB_step l k _ _ _ hx
         rw [Int.toNat_natCast, Int.toNat_natCast, Int.toNat_natCast, Nat.mod_eq_of_lt (show o < 256 by omega), Nat.mod_eq_of_lt (show q < 256 by omega)] at this
         exact this
        have hlk : (newsB (l.take k)).length ≤ 5 * k := by rw [newsB_len, List.length_take]; omega
        go_wp2
        refine wp_region_any hmx ?_
        refine zwt (G := (Nat × Value)) (fun g i__ => ([u6, (.pointer (some ⟨w.heap.size, 7, none⟩)), (.slice (some ⟨g', off, none⟩) l.length cap), (.int .i64 (k : Int)), (.pointer (some ⟨g', off + k * 3, none⟩)), (.pointer (some ⟨g', off + k * 3, none⟩)), (.int .i64 (o : Int)), (.int .u8 (o : Int)), (.pointer (some ⟨w.heap.size, 7, none⟩)), (.slice (some ⟨g', off, none⟩) l.length cap), (.int .i64 (k : Int)), (.pointer (some ⟨g', off + k * 3, none⟩)), (.pointer (some ⟨g', off + k * 3 + 2, none⟩)), (.int .i64 (q : Int)), (.int .u8 (q : Int)), (.slice (some ⟨g.1, 0, none⟩) 2 2), g.2, g.2] : List Value).getD i__ undef) (fun g d W => JQW w 2 fr rd N (.slice (some ⟨g', off, none⟩) l.length cap) u6 (P ++ newsB (l.take k)) o q g' off l g (d 15) (d 16) W) (by kernel_rfl) ((0, undef)) (show JQW w 2 fr rd N (.slice (some ⟨g', off, none⟩) l.length cap) u6 (P ++ newsB (l.take k)) o q g' off l (0, undef) false false _ from ⟨hS.rb.below (Below.refl _ _).drew, hS.be.trans (Below.refl _ _).drew, hS.sz, hat.carry hgl (hS.be.trans (Below.refl _ _).drew), hS.ow.out, fun e => by cases e⟩) ?step7 ?fin7
        case step7 =>
         intro i o ho
         have hi : i < 18 := getElem?_lt ho
         match i, hi, ho with
         | 0, _, ho => cases ho; exact zgo fun g d hdep => zmv rfl trivial _ rfl (by kernel_rfl)
         | 1, _, ho => cases ho; exact zgo fun g d hdep => zfa rfl trivial _ _ _ _ rfl rfl (fun w hw => field_rbW _ w)
         | 2, _, ho => cases ho; exact zgo fun g d hdep => zld rfl trivial _ _ _ rfl rfl (fun w hw => load_rbW hw.rb)
         | 3, _, ho => cases ho; exact zgo fun g d hdep => zmv rfl trivial _ rfl (by kernel_rfl)
         | 4, _, ho => cases ho; exact zgo fun g d hdep => zia rfl trivial _ _ _ _ _ rfl rfl rfl (fun w hw => idx_n g' off l.length cap k hkl w)
         | 5, _, ho => cases ho; exact zgo fun g d hdep => zfa rfl trivial _ _ _ _ rfl rfl (fun w hw => field_at w _ _)
         | 6, _, ho => cases ho; exact zgo fun g d hdep => zld rfl trivial _ _ _ rfl rfl (fun w hw => load_of hw.nt hx)
         | 7, _, ho => cases ho; exact zgo fun g d hdep => step_convert rfl trivial _ _ _ _ rfl rfl (fun w hw => conv8 o ho256 w)
         | 8, _, ho => cases ho; exact zgo fun g d hdep => zfa rfl trivial _ _ _ _ rfl rfl (fun w hw => field_rbW _ w)
         | 9, _, ho => cases ho; exact zgo fun g d hdep => zld rfl trivial _ _ _ rfl rfl (fun w hw => load_rbW hw.rb)
         | 10, _, ho => cases ho; exact zgo fun g d hdep => zmv rfl trivial _ rfl (by kernel_rfl)
         | 11, _, ho => cases ho; exact zgo fun g d hdep => zia rfl trivial _ _ _ _ _ rfl rfl rfl (fun w hw => idx_n g' off l.length cap k hkl w)
         | 12, _, ho => cases ho; exact zgo fun g d hdep => zfa rfl trivial _ _ _ _ rfl rfl (fun w hw => field_nt2 _ _ w)
         | 13, _, ho => cases ho; exact zgo fun g d hdep => zld rfl trivial _ _ _ rfl rfl (fun w hw => load_kd hw.nt hx)
         | 14, _, ho => cases ho; exact zgo fun g d hdep => step_convert rfl trivial _ _ _ _ rfl rfl (fun w hw => conv8 q hq256 w)
         | 15, _, ho => cases ho; exact stepG_build2 rfl rfl _ _ _ (.int .u8 (o : Int)) (.int .u8 (q : Int)) rfl (fun g => by kernel_rfl) (fun g => by kernel_rfl) (fun g d W hJ hun hcl => by have h16 : d 16 = false := (by cases h : d 16 with | false => rfl | true => exact absurd (hcl 16 _ rfl h 15 (by kernel_rfl)) (by rw [hun]; simp)); have hJ' := hJ; rw [hun, h16] at hJ'; refine ⟨(W.heap.size, g.2), _, bs2 _ _ _, (fun j hj => match j, hj with | 15, hj => (by rw [hj] at hun; cases hun)  | 0, _ => rfl | 1, _ => rfl | 2, _ => rfl | 3, _ => rfl | 4, _ => rfl | 5, _ => rfl | 6, _ => rfl | 7, _ => rfl | 8, _ => rfl | 9, _ => rfl | 10, _ => rfl | 11, _ => rfl | 12, _ => rfl | 13, _ => rfl | 14, _ => rfl | 16, _ => rfl | 17, _ => rfl | _ + 18, _ => rfl), ?_⟩; show JQW w 2 fr rd N (.slice (some ⟨g', off, none⟩) l.length cap) _ _ o q g' off l _ true (d 16) _; rw [h16]; exact hJ'.build hgl)
         | 16, _, ho => cases ho; exact stepG_appendW rfl rfl _ _ _ (fun _ => u6) (fun g => .slice (some ⟨g.1, 0, none⟩) 2 2) rfl (fun g => by kernel_rfl) (fun g => by kernel_rfl) (fun g d W hJ hun hdep hcl => by have h15 : d 15 = true := hdep 15 (by kernel_rfl); have hJ' := hJ; rw [h15, hun] at hJ'; obtain ⟨v', W', hr, hA⟩ := hJ'.app hgl 23 (by have := hS.ln; simpa using this); refine ⟨(g.1, v'), W', hr, (fun j hj => match j, hj with | 16, hj => (by rw [hj] at hun; cases hun) | 17, hj => absurd ((hcl 17 _ rfl hj 16 (by kernel_rfl))) (by rw [hun]; simp) | 0, _ => rfl | 1, _ => rfl | 2, _ => rfl | 3, _ => rfl | 4, _ => rfl | 5, _ => rfl | 6, _ => rfl | 7, _ => rfl | 8, _ => rfl | 9, _ => rfl | 10, _ => rfl | 11, _ => rfl | 12, _ => rfl | 13, _ => rfl | 14, _ => rfl | 15, _ => rfl | _ + 18, _ => rfl), ?_⟩; show JQW w 2 fr rd N (.slice (some ⟨g', off, none⟩) l.length cap) _ _ o q g' off l _ (d 15) true _; rw [h15]; exact hA)
         | 17, _, ho => cases ho; exact zgo fun g d hdep => zas rfl trivial _ rfl (by kernel_rfl) (fun _ h => h)
        intro g d W hall hW
        first | refine hK _ _ ?_ | refine (‹∀ (a : Act) (w : World), Code.wp Tryz.prog _ _ a w → _›) _ _ ?_ | skip
        simp only [finL, List.getD_cons_zero, List.getD_cons_succ, Nat.zero_add, Nat.reduceAdd, List.setIfInBounds_toArray, List.set_cons_zero, List.set_cons_succ]
        rw [hall 15 (by decide), hall 16 (by decide)] at hW
        have hS2 : SR w 2 fr rd N (.slice (some ⟨g', off, none⟩) l.length cap) g.2 (P ++ newsB (l.take k) ++ [o, q]) W := ⟨hW.rb, hW.be, hW.sz, (by unfold OwB; rw [cB_appW, List.length_append]; exact hW.ow), (by simp; omega)⟩
        have hnt := hW.nt
        clear hW hall d0 d1 d2 d3 d4 d5 d6 d7
        obtain ⟨d0, d1, d2, d3, d4, d5, d6, d7⟩ := hS2.rb.cells
        obtain ⟨x0, x1, x2⟩ := hnt k _ hx
        dsimp only at x0 x1 x2
        clear hat hx hnt v1 v2 v3 v4 v5 v6
        go_wp2_with (go_at_call 46; refine (rnumber_any (w.heap.size + 1) _ _ t 3 _ hS2.sz hS2.ow (by have := hS2.ln; omega) (by omega)).mono ?_; rintro e u3 ⟨b3, rfl, ho3, hb3⟩; have hS3 := hS2.step hb3 ho3 (by simp [znl]; omega))
        go_roundw
        case rel => exact ⟨k + 1, by simp, by omega, by rw [HX.out, ← List.append_assoc, ← List.append_assoc]; exact hS3⟩
        case measure => simp [vnatW]; omega
      · have hkk : k = l.length := by omega
        subst hkk
        rw [List.take_length, ← HP.out] at hS
        have hki : ¬ ((l.length : Int) < (l.length : Int)) := by omega
        obtain ⟨ad2, cap2, rfl, hrb⟩ := RdBW.own hS.ow.out
        have hsum := rSum_any ad2 cap2 (frm 2 n fr rd.toNat N l) wr hrb (frm_byt _ _ _ _ _ _) (by have := hS.ln; omega)
        have hadd := rnumber_any (w.heap.size + 1) _ _ (sumV (frm 2 n fr rd.toNat N l)) 4 wr hS.sz hS.ow (by have := hS.ln; omega) (by omega)
        have HB : Hid (byt7 2 n fr rd.toNat N l = frm 2 n fr rd.toNat N l ++ numBW (sumV (frm 2 n fr rd.toNat N l)) 4) := rfl
        generalize sumV (frm 2 n fr rd.toNat N l) = SV at *
        generalize frm 2 n fr rd.toNat N l = FM at *
        have hbe := hS.be
        clear hS hrb HP
        go_wp2_with (first | (go_at_call 48; refine hsum.mono ?_; rintro e u ⟨rfl, hu⟩; rw [hu]; clear hu u) | (go_at_call 46; refine hadd.mono ?_; rintro e u3 ⟨b3, rfl, ho3, hb3⟩))
        go_ret2
        exact ⟨_, rfl, by rw [HB.out]; exact ownsRow_base ho3 (Nat.le_succ _), hbe.trans (hb3.mono (Nat.le_succ _))⟩
theorem bo_good {kd n fr : Nat} {rd : Int} {N : Nat} {l : List (Int × Int × Int)} {w w' : World} {e : Ending} (hf : flt kd n fr rd N l = 0) (h : ∃ b, e = .returned (.tuple #[b, .int .i64 0]) ∧ OwB w' w.heap.size b (byt7 kd n fr rd.toNat N l) ∧ Below w.heap.size w w') : BO kd n fr rd N l w e w' := by
 obtain ⟨b, rfl, h1, h2⟩ := h
 refine ⟨b, by rw [hf], ?_, h2⟩
 rw [fb7, if_pos hf]
 exact h1
theorem rbytes_any (kd : Nat) (hk : 1 ≤ kd ∧ kd ≤ 3) (n fr r : Int) (N : Nat) (hN : N < S128) (h3 : kd = 3 → r = 0) (h2 : kd ≠ 2 → N = 0) (ad : Option Addr) (cap : Nat) (l : List (Int × Int × Int)) (w : World) (h : RdN w ad l) (hl : l.length ≤ 6000000000000) : Calls Tryz.prog 17 #[rnv kd fr r N (.slice ad l.length cap), .int .i64 n] w (BO kd n fr r N l w) := by
 unfold rnv
 by_cases hf : flt kd n fr r N l = 0
 · obtain ⟨hn, hfr, _⟩ := flt_0 hf
   obtain ⟨n, rfl⟩ := Int.eq_ofNat_of_zero_le (show 0 ≤ n by omega)
   obtain ⟨fr, rfl⟩ := Int.eq_ofNat_of_zero_le hfr.1
   rcases (show kd = 1 ∨ kd = 2 ∨ kd = 3 by omega) with rfl | rfl | rfl
   · obtain rfl : N = 0 := h2 (by decide)
     exact (rb1_ok n fr r ad cap l w h hf).mono (fun e w' q => bo_good hf q)
   · exact (rb2_ok n fr r N hN ad cap l w h hf).mono (fun e w' q => bo_good hf q)
   · obtain rfl : N = 0 := h2 (by decide)
     obtain rfl : r = 0 := h3 rfl
     exact (rb3_ok n fr ad cap l w h hf).mono (fun e w' q => bo_good hf q)
 · rcases (show kd = 1 ∨ kd = 2 ∨ kd = 3 by omega) with rfl | rfl | rfl
   · obtain rfl : N = 0 := h2 (by decide)
     exact rb1_no n fr r ad cap l w h hl hf
   · exact rb2_no n fr r N hN ad cap l w h hl hf
   · obtain rfl : N = 0 := h2 (by decide)
     obtain rfl : r = 0 := h3 rfl
     exact rb3_no n fr ad cap l w h hl hf
theorem rbk_no (kz : Int) (kb M : Nat) (hkl256 : kb < 256) (hk2 : (kz == 2) = false) (hk3 : (kz == 3) = false) (hkn : (kz != 3) = true) (hkb : kz % 256 = (kb : Int)) (n fr rd : Int) (ad : Option Addr) (cap : Nat) (l : List (Int × Int × Int)) (w : World) (h : RdN w ad l) (hl : l.length ≤ 6000000000000) (hf : ¬ flt 1 n fr rd 0 l = 0) : Calls Tryz.prog 17 #[.agg #[.int .i64 kz, .int .i64 fr, .int .i64 rd, .int .u32 (wd M 0 : Nat), .int .u32 (wd M 1 : Nat), .int .u32 (wd M 2 : Nat), .int .u32 (wd M 3 : Nat), .slice ad l.length cap], .int .i64 n] w (BO 1 n fr rd 0 l w) := by
 have hbW := al1'W w (.cells #[.int .i64 kz, .int .i64 fr, .int .i64 rd, .int .u32 (wd M 0 : Nat), .int .u32 (wd M 1 : Nat), .int .u32 (wd M 2 : Nat), .int .u32 (wd M 3 : Nat), .slice ad l.length cap] 38)
 have hRB : RBW (w.alloc (.cells #[.int .i64 kz, .int .i64 fr, .int .i64 rd, .int .u32 (wd M 0 : Nat), .int .u32 (wd M 1 : Nat), .int .u32 (wd M 2 : Nat), .int .u32 (wd M 3 : Nat), .slice ad l.length cap] 38)) w.heap.size kz fr rd M (.slice ad l.length cap) := zna rfl
 have hrW := h.carry hbW
 obtain ⟨W0, hW0⟩ : ∃ W0, w.alloc (.cells #[.int .i64 kz, .int .i64 fr, .int .i64 rd, .int .u32 (wd M 0 : Nat), .int .u32 (wd M 1 : Nat), .int .u32 (wd M 2 : Nat), .int .u32 (wd M 3 : Nat), .slice ad l.length cap] 38) = W0 := ⟨_, rfl⟩
 rw [hW0] at hbW hRB hrW
 obtain ⟨d0, d1, d2, d3, d4, d5, d6, d7⟩ := hRB.cells
 by_cases g1 : n < 1
 · have HF : Hid (flt 1 n fr rd 0 l = 1) := if_pos (by omega)
   clear hf
   go_enter Tryz.func17, Tryz.ntmps17
   go_wp2
   go_ret2
   exact bo_err HF.out (by decide) hbW
 by_cases g2 : 100 < n
 · have HF : Hid (flt 1 n fr rd 0 l = 1) := if_pos (by omega)
   clear hf
   go_enter Tryz.func17, Tryz.ntmps17
   go_wp2
   go_ret2
   exact bo_err HF.out (by decide) hbW
 by_cases g3 : fr < 0
 · have HF : Hid (flt 1 n fr rd 0 l = 72) := (if_neg (by omega)).trans (if_pos (by omega))
   clear hf
   go_enter Tryz.func17, Tryz.ntmps17
   go_wp2
   go_ret2
   exact bo_err HF.out (by decide) hbW
 by_cases g4 : n ≤ fr
 · have HF : Hid (flt 1 n fr rd 0 l = 72) := (if_neg (by omega)).trans (if_pos (by omega))
   clear hf
   go_enter Tryz.func17, Tryz.ntmps17
   go_wp2
   go_ret2
   exact bo_err HF.out (by decide) hbW
 by_cases g5 : rd < 1
 · have HF : Hid (flt 1 n fr rd 0 l = 73) := (if_neg (by omega)).trans ((if_neg (by omega)).trans (if_pos ⟨by decide, by omega⟩))
   clear hf
   go_enter Tryz.func17, Tryz.ntmps17
   go_wp2
   go_ret2
   exact bo_err HF.out (by decide) hbW
 by_cases g6 : 1099511627775 < rd
 · have HF : Hid (flt 1 n fr rd 0 l = 73) := (if_neg (by omega)).trans ((if_neg (by omega)).trans (if_pos ⟨by decide, by omega⟩))
   clear hf
   go_enter Tryz.func17, Tryz.ntmps17
   go_wp2
   go_ret2
   exact bo_err HF.out (by decide) hbW
 have hri := fun W (hW : RdN W ad l) => rRising_any n ad cap l W hW hl
 have g8 : ris n (-1) l = false := by
   by_cases q : ris n (-1) l = false
   · exact q
   · exact absurd ((if_neg (by omega)).trans ((if_neg (by omega)).trans ((if_neg (by omega)).trans ((if_neg (by simp [wthB])).trans (if_neg q))))) hf
 have HF : Hid (flt 1 n fr rd 0 l = 75) := (if_neg (by omega)).trans ((if_neg (by omega)).trans ((if_neg (by omega)).trans ((if_neg (by simp [wthB])).trans (if_pos g8))))
 rw [g8] at hri
 clear hf
 go_enter Tryz.func17, Tryz.ntmps17
 go_wp2_with (first | (go_at_call 45; (with_reducible refine (hri _ hrW).mono ?_); rintro e u1 ⟨rfl, hb1⟩; have hbU1 := bel2 hbW hb1))
 go_ret2
 exact bo_err HF.out (by decide) hbU1
theorem rbk_ok (kz : Int) (kb M : Nat) (hkl256 : kb < 256) (hk2 : (kz == 2) = false) (hk3 : (kz == 3) = false) (hkn : (kz != 3) = true) (hkb : kz % 256 = (kb : Int)) (n fr : Nat) (rd : Int) (ad : Option Addr) (cap : Nat) (l : List (Int × Int × Int)) (w : World) (h : RdN w ad l) (hf : flt 1 n fr rd 0 l = 0) : Calls Tryz.prog 17 #[.agg #[.int .i64 kz, .int .i64 fr, .int .i64 rd, .int .u32 (wd M 0 : Nat), .int .u32 (wd M 1 : Nat), .int .u32 (wd M 2 : Nat), .int .u32 (wd M 3 : Nat), .slice ad l.length cap], .int .i64 (n : Int)] w fun e w' => ∃ b, e = .returned (.tuple #[b, .int .i64 0]) ∧ OwB w' w.heap.size b (byt7 (kb + 256) n fr rd.toNat 0 l) ∧ Below w.heap.size w w' := by
 have hmx := mixO
 obtain ⟨hn, hfr, hrd, hwt, hri⟩ := flt_0 hf
 have hlen := ris_len n l (-1) (by omega) (by omega) hri
 have hbW := al1'W w (.cells #[.int .i64 kz, .int .i64 fr, .int .i64 rd, .int .u32 (wd M 0 : Nat), .int .u32 (wd M 1 : Nat), .int .u32 (wd M 2 : Nat), .int .u32 (wd M 3 : Nat), .slice ad l.length cap] 38)
 have hRB : RBW (w.alloc (.cells #[.int .i64 kz, .int .i64 fr, .int .i64 rd, .int .u32 (wd M 0 : Nat), .int .u32 (wd M 1 : Nat), .int .u32 (wd M 2 : Nat), .int .u32 (wd M 3 : Nat), .slice ad l.length cap] 38)) w.heap.size kz fr rd M (.slice ad l.length cap) := zna rfl
 have hrW := h.carry hbW
 obtain ⟨W0, hW0⟩ : ∃ W0, w.alloc (.cells #[.int .i64 kz, .int .i64 fr, .int .i64 rd, .int .u32 (wd M 0 : Nat), .int .u32 (wd M 1 : Nat), .int .u32 (wd M 2 : Nat), .int .u32 (wd M 3 : Nat), .slice ad l.length cap] 38) = W0 := ⟨_, rfl⟩
 rw [hW0] at hbW hRB hrW
 obtain ⟨d0, d1, d2, d3, d4, d5, d6, d7⟩ := hRB.cells
 have hriC := fun W (hW : RdN W ad l) => rRising_any n ad cap l W hW (by omega)
 rw [hri] at hriC
 have hr0 : 0 ≤ rd := by omega
 have har : ∀ (b : Value) (C : List Nat) (u : World), w.heap.size + 1 ≤ u.heap.size → OwB u (w.heap.size + 1) b C → C.length ≤ 100000 → Calls Tryz.prog 46 #[b, .int .i64 rd, .int .i64 5] u fun e w' => ∃ b', e = .returned b' ∧ OwB w' (w.heap.size + 1) b' (C ++ numBW rd.toNat 5) ∧ Below (w.heap.size + 1) u w' := fun b C u hb ho hl => by
  have := rnumber_any (w.heap.size + 1) b C rd.toNat 5 u hb ho hl (by omega)
  rw [Int.toNat_of_nonneg hr0] at this
  exact this
 have g5 : ¬ rd < 1 := by omega
 have g6 : ¬ 1099511627775 < rd := by omega
 obtain ⟨ic, hic, hz0, hz1, hz2⟩ := info_partsB
 have hl100 : l.length ≤ 100 := by omega
 have g1 : ¬ (n : Int) < 1 := by omega
 have g2 : ¬ (100 : Int) < (n : Int) := by omega
 have g3 : ¬ (fr : Int) < 0 := by omega
 have g4 : ¬ (n : Int) ≤ (fr : Int) := by omega
 have iN8 : (n : Int) % 256 = (n : Int) := by omega
 have iF8 : (fr : Int) % 256 = (fr : Int) := by omega
 have iL8 : (l.length : Int) % 256 = (l.length : Int) := by omega
 have hB1 := bs1
 have hB2 := bs2
 have hB5 := bs5
 obtain ⟨P, HPl, HP, HQ⟩ : ∃ P : List Nat, P.length ≤ 30 ∧ Hid (frm (kb + 256) n fr rd.toNat 0 l = P ++ newsB l) ∧ Hid (P = [101, 115, kb, n, fr] ++ numBW rd.toNat 5 ++ [l.length]) := by
  refine ⟨[101, 115, kb, n, fr] ++ numBW rd.toNat 5 ++ [l.length], ?_, ?_, rfl⟩
  · simp [znl]
  · show frm (kb + 256) n fr rd.toNat 0 l = _
    rw [frm, Nat.mod_eq_of_lt (show n < 256 by omega), Nat.mod_eq_of_lt (show fr < 256 by omega), Nat.mod_eq_of_lt (show l.length < 256 by omega)]
    simp [rndB, setB, Nat.mod_eq_of_lt hkl256, show ¬ kb + 256 = 3 by omega, show ¬ kb + 256 = 2 by omega]
 have HL : Hid (RdN w ad l) := h
 have HRI : Hid (ris n (-1) l = true) := hri
 have h13 : l.length + 3 ≤ 103 := by omega
 clear h hwt hri hf hrd hr0
 go_enter Tryz.func17, Tryz.ntmps17
 go_wp2_with (first | (go_at_call 45; (with_reducible refine (hriC _ hrW).mono ?_); rintro e u1 ⟨rfl, hb1⟩; have hbU1 := bel2 hbW hb1; have hRB1 := hRB.below hb1; have hS1 : SR w kz fr rd M (.slice ad l.length cap) (.slice (some ⟨u1.heap.size, 0, none⟩) 5 5) [101, 115, kb, n, fr] (u1.alloc (.cells #[.int .u8 101, .int .u8 115, .int .u8 (kb : Int), .int .u8 (n : Int), .int .u8 (fr : Int)] 5)) := ⟨hRB1.below (al1'W u1 _), bel2 hbU1 (al1'W u1 _), (by have := zla hRB1; simp; omega), World.ownsRow_lit (base := w.heap.size + 1) (e := 5) (size := 1) u1 #[.int .u8 101, .int .u8 115, .int .u8 (kb : Int), .int .u8 (n : Int), .int .u8 (fr : Int)] 5 (zla hRB1) (by decide) (by simp), (by simp)⟩; clear d0 d1 d2 d3 d4 d5 d6 d7; obtain ⟨d0, d1, d2, d3, d4, d5, d6, d7⟩ := hRB1.cells; obtain ⟨f0, f1, f2, f3, f4, f5, f6, f7⟩ := hS1.rb.cells) | (go_at_call 46; (with_reducible refine (har _ ([101, 115, kb, n, fr]) _ hS1.sz hS1.ow (by simp)).mono ?_); rintro e u4 ⟨b4, rfl, ho4, hb4⟩; have hS4 : SR w kz fr rd M (.slice ad l.length cap) b4 ([101, 115, kb, n, fr] ++ numBW rd.toNat 5) u4 := hS1.step hb4 ho4 (by simp [znl]); clear d0 d1 d2 d3 d4 d5 d6 d7; obtain ⟨d0, d1, d2, d3, d4, d5, d6, d7⟩ := hS4.rb.cells) | (at_builtin; refine wpList_append_own_at _ rfl _ _ 23 rfl (w.heap.size + 1) 5 ic _ 1 1 Tryz.underlying23 hic hz0 hz1 hz2 rfl (by decide) _ ([101, 115, kb, n, fr] ++ numBW rd.toNat 5).length (cBW ([101, 115, kb, n, fr] ++ numBW rd.toNat 5)) rfl (World.ownsRow.alloc (OwB.out hS4.ow) _) ⟨u4.heap.size, 0, none⟩ 1 1 [_] rfl rfl (rowN _ #[_] _) (by simp [Value.oneCell']) (by have := hS4.ln; unfold maxLen; omega) (by have := hS4.ln; omega) (by have := hS4.sz; first | (simp; omega) | (simp at this ⊢; omega)) ?_; intro b' z6 hown' hgrow _ hob; have hS6 := SR.app [l.length] hS4 hgrow hown' (by simp [znl]); clear hown' hgrow hob; obtain ⟨d0, d1, d2, d3, d4, d5, d6, d7⟩ := hS6.rb.cells))
 have hS7 : SR w kz fr rd M (.slice ad l.length cap) b' P z6 := HQ.out ▸ hS6
 clear hS6 hS1 HQ hRB hbW hrW hriC hS4 har
 go_loopw [6, 10] (fun b i wz => ∃ (k : Nat), i = .int .i64 k ∧ k ≤ l.length ∧ SR w kz fr rd M (.slice ad l.length cap) b (P ++ newsB (l.take k)) wz) (fun _ i _ => l.length - vnatW i)
 case atStart => exact ⟨0, rfl, Nat.zero_le _, by simpa [newsB] using hS7⟩
 case round =>
  obtain ⟨k, rfl, hk, hS⟩ := hrel
  clear hS7 d0 d1 d2 d3 d4 d5 d6 d7
  obtain ⟨d0, d1, d2, d3, d4, d5, d6, d7⟩ := hS.rb.cells
  have hsw := hS.sz
  by_cases hkl : k < l.length
  · have hki : (k : Int) < (l.length : Int) := by omega
    obtain ⟨⟨o, t, q⟩, hx⟩ : ∃ x, l[k]? = some x := ⟨_, List.getElem?_eq_getElem hkl⟩
    obtain ⟨v1, v2, v3, v4, v5, v6⟩ := vl_bounds (ris_get HRI.out hx)
    dsimp only at v1 v2 v3 v4 v5 v6
    obtain ⟨o, rfl⟩ := Int.eq_ofNat_of_zero_le v1
    obtain ⟨t, rfl⟩ := Int.eq_ofNat_of_zero_le v3
    obtain ⟨q, rfl⟩ := Int.eq_ofNat_of_zero_le (show 0 ≤ q by omega)
    obtain ⟨g', off, rfl, hgl, hat⟩ := HL.out (fun e => by subst e; simp at hkl)
    have ho256 : o < 256 := by omega
    have hq256 : q < 256 := by omega
    have HX : Hid (newsB (l.take (k + 1)) = newsB (l.take k) ++ [o, q] ++ numBW t 3) := by
     have := newsB_step l k _ _ _ hx
     rw [Int.toNat_natCast, Int.toNat_natCast, Int.toNat_natCast, Nat.mod_eq_of_lt (show o < 256 by omega), Nat.mod_eq_of_lt (show q < 256 by omega)] at this
     exact this
    have hlk : (newsB (l.take k)).length ≤ 5 * k := by rw [newsB_len, List.length_take]; omega
    go_wp2
    refine wp_region_any hmx ?_
    refine zwt (G := (Nat × Value)) (fun g i__ => ([u6, (.pointer (some ⟨w.heap.size, 7, none⟩)), (.slice (some ⟨g', off, none⟩) l.length cap), (.int .i64 (k : Int)), (.pointer (some ⟨g', off + k * 3, none⟩)), (.pointer (some ⟨g', off + k * 3, none⟩)), (.int .i64 (o : Int)), (.int .u8 (o : Int)), (.pointer (some ⟨w.heap.size, 7, none⟩)), (.slice (some ⟨g', off, none⟩) l.length cap), (.int .i64 (k : Int)), (.pointer (some ⟨g', off + k * 3, none⟩)), (.pointer (some ⟨g', off + k * 3 + 2, none⟩)), (.int .i64 (q : Int)), (.int .u8 (q : Int)), (.slice (some ⟨g.1, 0, none⟩) 2 2), g.2, g.2] : List Value).getD i__ undef) (fun g d W => JQW w kz fr rd M (.slice (some ⟨g', off, none⟩) l.length cap) u6 (P ++ newsB (l.take k)) o q g' off l g (d 15) (d 16) W) (by kernel_rfl) ((0, undef)) (show JQW w kz fr rd M (.slice (some ⟨g', off, none⟩) l.length cap) u6 (P ++ newsB (l.take k)) o q g' off l (0, undef) false false _ from ⟨hS.rb.below (Below.refl _ _).drew, hS.be.trans (Below.refl _ _).drew, hS.sz, hat.carry hgl (hS.be.trans (Below.refl _ _).drew), hS.ow.out, fun e => by cases e⟩) ?step26 ?fin26
    case step26 =>
     intro i o ho
     have hi : i < 18 := getElem?_lt ho
     match i, hi, ho with
     | 0, _, ho => cases ho; exact zgo fun g d hdep => zmv rfl trivial _ rfl (by kernel_rfl)
     | 1, _, ho => cases ho; exact zgo fun g d hdep => zfa rfl trivial _ _ _ _ rfl rfl (fun w hw => field_rbW _ w)
     | 2, _, ho => cases ho; exact zgo fun g d hdep => zld rfl trivial _ _ _ rfl rfl (fun w hw => load_rbW hw.rb)
     | 3, _, ho => cases ho; exact zgo fun g d hdep => zmv rfl trivial _ rfl (by kernel_rfl)
     | 4, _, ho => cases ho; exact zgo fun g d hdep => zia rfl trivial _ _ _ _ _ rfl rfl rfl (fun w hw => idx_n g' off l.length cap k hkl w)
     | 5, _, ho => cases ho; exact zgo fun g d hdep => zfa rfl trivial _ _ _ _ rfl rfl (fun w hw => field_at w _ _)
     | 6, _, ho => cases ho; exact zgo fun g d hdep => zld rfl trivial _ _ _ rfl rfl (fun w hw => load_of hw.nt hx)
     | 7, _, ho => cases ho; exact zgo fun g d hdep => step_convert rfl trivial _ _ _ _ rfl rfl (fun w hw => conv8 o ho256 w)
     | 8, _, ho => cases ho; exact zgo fun g d hdep => zfa rfl trivial _ _ _ _ rfl rfl (fun w hw => field_rbW _ w)
     | 9, _, ho => cases ho; exact zgo fun g d hdep => zld rfl trivial _ _ _ rfl rfl (fun w hw => load_rbW hw.rb)
     | 10, _, ho => cases ho; exact zgo fun g d hdep => zmv rfl trivial _ rfl (by kernel_rfl)
     | 11, _, ho => cases ho; exact zgo fun g d hdep => zia rfl trivial _ _ _ _ _ rfl rfl rfl (fun w hw => idx_n g' off l.length cap k hkl w)
     | 12, _, ho => cases ho; exact zgo fun g d hdep => zfa rfl trivial _ _ _ _ rfl rfl (fun w hw => field_nt2 _ _ w)
     | 13, _, ho => cases ho; exact zgo fun g d hdep => zld rfl trivial _ _ _ rfl rfl (fun w hw => load_kd hw.nt hx)
     | 14, _, ho => cases ho; exact zgo fun g d hdep => step_convert rfl trivial _ _ _ _ rfl rfl (fun w hw => conv8 q hq256 w)
     | 15, _, ho => cases ho; exact stepG_build2 rfl rfl _ _ _ (.int .u8 (o : Int)) (.int .u8 (q : Int)) rfl (fun g => by kernel_rfl) (fun g => by kernel_rfl) (fun g d W hJ hun hcl => by have h16 : d 16 = false := (by cases h : d 16 with | false => rfl | true => exact absurd (hcl 16 _ rfl h 15 (by kernel_rfl)) (by rw [hun]; simp)); have hJ' := hJ; rw [hun, h16] at hJ'; refine ⟨(W.heap.size, g.2), _, bs2 _ _ _, (fun j hj => match j, hj with | 15, hj => (by rw [hj] at hun; cases hun)  | 0, _ => rfl | 1, _ => rfl | 2, _ => rfl | 3, _ => rfl | 4, _ => rfl | 5, _ => rfl | 6, _ => rfl | 7, _ => rfl | 8, _ => rfl | 9, _ => rfl | 10, _ => rfl | 11, _ => rfl | 12, _ => rfl | 13, _ => rfl | 14, _ => rfl | 16, _ => rfl | 17, _ => rfl | _ + 18, _ => rfl), ?_⟩; show JQW w kz fr rd M (.slice (some ⟨g', off, none⟩) l.length cap) _ _ o q g' off l _ true (d 16) _; rw [h16]; exact hJ'.build hgl)
     | 16, _, ho => cases ho; exact stepG_appendW rfl rfl _ _ _ (fun _ => u6) (fun g => .slice (some ⟨g.1, 0, none⟩) 2 2) rfl (fun g => by kernel_rfl) (fun g => by kernel_rfl) (fun g d W hJ hun hdep hcl => by have h15 : d 15 = true := hdep 15 (by kernel_rfl); have hJ' := hJ; rw [h15, hun] at hJ'; obtain ⟨v', W', hr, hA⟩ := hJ'.app hgl 23 (by have := hS.ln; simpa using this); refine ⟨(g.1, v'), W', hr, (fun j hj => match j, hj with | 16, hj => (by rw [hj] at hun; cases hun) | 17, hj => absurd ((hcl 17 _ rfl hj 16 (by kernel_rfl))) (by rw [hun]; simp) | 0, _ => rfl | 1, _ => rfl | 2, _ => rfl | 3, _ => rfl | 4, _ => rfl | 5, _ => rfl | 6, _ => rfl | 7, _ => rfl | 8, _ => rfl | 9, _ => rfl | 10, _ => rfl | 11, _ => rfl | 12, _ => rfl | 13, _ => rfl | 14, _ => rfl | 15, _ => rfl | _ + 18, _ => rfl), ?_⟩; show JQW w kz fr rd M (.slice (some ⟨g', off, none⟩) l.length cap) _ _ o q g' off l _ (d 15) true _; rw [h15]; exact hA)
     | 17, _, ho => cases ho; exact zgo fun g d hdep => zas rfl trivial _ rfl (by kernel_rfl) (fun _ h => h)
    intro g d W hall hW
    first | refine hK _ _ ?_ | refine (‹∀ (a : Act) (w : World), Code.wp Tryz.prog _ _ a w → _›) _ _ ?_ | skip
    simp only [finL, List.getD_cons_zero, List.getD_cons_succ, Nat.zero_add, Nat.reduceAdd, List.setIfInBounds_toArray, List.set_cons_zero, List.set_cons_succ]
    rw [hall 15 (by decide), hall 16 (by decide)] at hW
    have hS2 : SR w kz fr rd M (.slice (some ⟨g', off, none⟩) l.length cap) g.2 (P ++ newsB (l.take k) ++ [o, q]) W := ⟨hW.rb, hW.be, hW.sz, (by unfold OwB; rw [cB_appW, List.length_append]; exact hW.ow), (by simp; omega)⟩
    have hnt := hW.nt
    clear hW hall d0 d1 d2 d3 d4 d5 d6 d7
    obtain ⟨d0, d1, d2, d3, d4, d5, d6, d7⟩ := hS2.rb.cells
    obtain ⟨x0, x1, x2⟩ := hnt k _ hx
    dsimp only at x0 x1 x2
    clear hat hx hnt v1 v2 v3 v4 v5 v6
    go_wp2_with (go_at_call 46; refine (rnumber_any (w.heap.size + 1) _ _ t 3 _ hS2.sz hS2.ow (by have := hS2.ln; omega) (by omega)).mono ?_; rintro e u3 ⟨b3, rfl, ho3, hb3⟩; have hS3 := hS2.step hb3 ho3 (by simp [znl]; omega))
    go_roundw
    case rel => exact ⟨k + 1, by simp, by omega, by rw [HX.out, ← List.append_assoc, ← List.append_assoc]; exact hS3⟩
    case measure => simp [vnatW]; omega
  · have hkk : k = l.length := by omega
    subst hkk
    rw [List.take_length, ← HP.out] at hS
    have hki : ¬ ((l.length : Int) < (l.length : Int)) := by omega
    obtain ⟨ad2, cap2, rfl, hrb⟩ := RdBW.own hS.ow.out
    have hsum := rSum_any ad2 cap2 (frm (kb + 256) n fr rd.toNat 0 l) wr hrb (frm_byt _ _ _ _ _ _) (by have := hS.ln; omega)
    have hadd := rnumber_any (w.heap.size + 1) _ _ (sumV (frm (kb + 256) n fr rd.toNat 0 l)) 4 wr hS.sz hS.ow (by have := hS.ln; omega) (by omega)
    have HB : Hid (byt7 (kb + 256) n fr rd.toNat 0 l = frm (kb + 256) n fr rd.toNat 0 l ++ numBW (sumV (frm (kb + 256) n fr rd.toNat 0 l)) 4) := rfl
    generalize sumV (frm (kb + 256) n fr rd.toNat 0 l) = SV at *
    generalize frm (kb + 256) n fr rd.toNat 0 l = FM at *
    have hbe := hS.be
    clear hS hrb HP
    go_wp2_with (first | (go_at_call 48; refine hsum.mono ?_; rintro e u ⟨rfl, hu⟩; rw [hu]; clear hu u) | (go_at_call 46; refine hadd.mono ?_; rintro e u3 ⟨b3, rfl, ho3, hb3⟩))
    go_ret2
    exact ⟨_, rfl, by rw [HB.out]; exact ownsRow_base ho3 (Nat.le_succ _), hbe.trans (hb3.mono (Nat.le_succ _))⟩
theorem rbu_no (rz : Int) (M : Nat) (n fr : Int) (ad : Option Addr) (cap : Nat) (l : List (Int × Int × Int)) (w : World) (h : RdN w ad l) (hl : l.length ≤ 6000000000000) (hf : ¬ flt 3 n fr 0 0 l = 0) : Calls Tryz.prog 17 #[.agg #[.int .i64 3, .int .i64 fr, .int .i64 rz, .int .u32 (wd M 0 : Nat), .int .u32 (wd M 1 : Nat), .int .u32 (wd M 2 : Nat), .int .u32 (wd M 3 : Nat), .slice ad l.length cap], .int .i64 n] w (BO 3 n fr 0 0 l w) := by
 have hbW := al1'W w (.cells #[.int .i64 3, .int .i64 fr, .int .i64 rz, .int .u32 (wd M 0 : Nat), .int .u32 (wd M 1 : Nat), .int .u32 (wd M 2 : Nat), .int .u32 (wd M 3 : Nat), .slice ad l.length cap] 38)
 have hRB : RBW (w.alloc (.cells #[.int .i64 3, .int .i64 fr, .int .i64 rz, .int .u32 (wd M 0 : Nat), .int .u32 (wd M 1 : Nat), .int .u32 (wd M 2 : Nat), .int .u32 (wd M 3 : Nat), .slice ad l.length cap] 38)) w.heap.size 3 fr rz M (.slice ad l.length cap) := zna rfl
 have hrW := h.carry hbW
 obtain ⟨W0, hW0⟩ : ∃ W0, w.alloc (.cells #[.int .i64 3, .int .i64 fr, .int .i64 rz, .int .u32 (wd M 0 : Nat), .int .u32 (wd M 1 : Nat), .int .u32 (wd M 2 : Nat), .int .u32 (wd M 3 : Nat), .slice ad l.length cap] 38) = W0 := ⟨_, rfl⟩
 rw [hW0] at hbW hRB hrW
 obtain ⟨d0, d1, d2, d3, d4, d5, d6, d7⟩ := hRB.cells
 by_cases g1 : n < 1
 · have HF : Hid (flt 3 n fr 0 0 l = 1) := if_pos (by omega)
   clear hf
   go_enter Tryz.func17, Tryz.ntmps17
   go_wp2
   go_ret2
   exact bo_err HF.out (by decide) hbW
 by_cases g2 : 100 < n
 · have HF : Hid (flt 3 n fr 0 0 l = 1) := if_pos (by omega)
   clear hf
   go_enter Tryz.func17, Tryz.ntmps17
   go_wp2
   go_ret2
   exact bo_err HF.out (by decide) hbW
 by_cases g3 : fr < 0
 · have HF : Hid (flt 3 n fr 0 0 l = 72) := (if_neg (by omega)).trans (if_pos (by omega))
   clear hf
   go_enter Tryz.func17, Tryz.ntmps17
   go_wp2
   go_ret2
   exact bo_err HF.out (by decide) hbW
 by_cases g4 : n ≤ fr
 · have HF : Hid (flt 3 n fr 0 0 l = 72) := (if_neg (by omega)).trans (if_pos (by omega))
   clear hf
   go_enter Tryz.func17, Tryz.ntmps17
   go_wp2
   go_ret2
   exact bo_err HF.out (by decide) hbW
 have hri := fun W (hW : RdN W ad l) => rRising_any n ad cap l W hW hl
 have g8 : ris n (-1) l = false := by
   by_cases q : ris n (-1) l = false
   · exact q
   · exact absurd ((if_neg (by omega)).trans ((if_neg (by omega)).trans ((if_neg (by simp)).trans ((if_neg (by simp [wthB])).trans (if_neg q))))) hf
 have HF : Hid (flt 3 n fr 0 0 l = 75) := (if_neg (by omega)).trans ((if_neg (by omega)).trans ((if_neg (by simp)).trans ((if_neg (by simp [wthB])).trans (if_pos g8))))
 rw [g8] at hri
 clear hf
 go_enter Tryz.func17, Tryz.ntmps17
 go_wp2_with (first | (go_at_call 45; (with_reducible refine (hri _ hrW).mono ?_); rintro e u1 ⟨rfl, hb1⟩; have hbU1 := bel2 hbW hb1))
 go_ret2
 exact bo_err HF.out (by decide) hbU1
theorem rbu_ok (rz : Int) (M : Nat) (n fr : Nat) (ad : Option Addr) (cap : Nat) (l : List (Int × Int × Int)) (w : World) (h : RdN w ad l) (hf : flt 3 n fr 0 0 l = 0) : Calls Tryz.prog 17 #[.agg #[.int .i64 3, .int .i64 fr, .int .i64 rz, .int .u32 (wd M 0 : Nat), .int .u32 (wd M 1 : Nat), .int .u32 (wd M 2 : Nat), .int .u32 (wd M 3 : Nat), .slice ad l.length cap], .int .i64 (n : Int)] w fun e w' => ∃ b, e = .returned (.tuple #[b, .int .i64 0]) ∧ OwB w' w.heap.size b (byt7 3 n fr 0 0 l) ∧ Below w.heap.size w w' := by
 have hmx := mixO
 obtain ⟨hn, hfr, hrd, hwt, hri⟩ := flt_0 hf
 have hlen := ris_len n l (-1) (by omega) (by omega) hri
 have hbW := al1'W w (.cells #[.int .i64 3, .int .i64 fr, .int .i64 rz, .int .u32 (wd M 0 : Nat), .int .u32 (wd M 1 : Nat), .int .u32 (wd M 2 : Nat), .int .u32 (wd M 3 : Nat), .slice ad l.length cap] 38)
 have hRB : RBW (w.alloc (.cells #[.int .i64 3, .int .i64 fr, .int .i64 rz, .int .u32 (wd M 0 : Nat), .int .u32 (wd M 1 : Nat), .int .u32 (wd M 2 : Nat), .int .u32 (wd M 3 : Nat), .slice ad l.length cap] 38)) w.heap.size 3 fr rz M (.slice ad l.length cap) := zna rfl
 have hrW := h.carry hbW
 obtain ⟨W0, hW0⟩ : ∃ W0, w.alloc (.cells #[.int .i64 3, .int .i64 fr, .int .i64 rz, .int .u32 (wd M 0 : Nat), .int .u32 (wd M 1 : Nat), .int .u32 (wd M 2 : Nat), .int .u32 (wd M 3 : Nat), .slice ad l.length cap] 38) = W0 := ⟨_, rfl⟩
 rw [hW0] at hbW hRB hrW
 obtain ⟨d0, d1, d2, d3, d4, d5, d6, d7⟩ := hRB.cells
 have hriC := fun W (hW : RdN W ad l) => rRising_any n ad cap l W hW (by omega)
 rw [hri] at hriC
 obtain ⟨ic, hic, hz0, hz1, hz2⟩ := info_partsB
 have hl100 : l.length ≤ 100 := by omega
 have g1 : ¬ (n : Int) < 1 := by omega
 have g2 : ¬ (100 : Int) < (n : Int) := by omega
 have g3 : ¬ (fr : Int) < 0 := by omega
 have g4 : ¬ (n : Int) ≤ (fr : Int) := by omega
 have iN8 : (n : Int) % 256 = (n : Int) := by omega
 have iF8 : (fr : Int) % 256 = (fr : Int) := by omega
 have iL8 : (l.length : Int) % 256 = (l.length : Int) := by omega
 have hB1 := bs1
 have hB2 := bs2
 have hB5 := bs5
 obtain ⟨P, HPl, HP, HQ⟩ : ∃ P : List Nat, P.length ≤ 30 ∧ Hid (frm 3 n fr 0 0 l = P ++ newsB l) ∧ Hid (P = [101, 115, 3, n, fr] ++ [l.length]) := by
  refine ⟨[101, 115, 3, n, fr] ++ [l.length], ?_, ?_, rfl⟩
  · simp
  · show frm 3 n fr 0 0 l = _
    rw [frm, Nat.mod_eq_of_lt (show n < 256 by omega), Nat.mod_eq_of_lt (show fr < 256 by omega), Nat.mod_eq_of_lt (show l.length < 256 by omega)]
    simp [rndB, setB]
 have HL : Hid (RdN w ad l) := h
 have HRI : Hid (ris n (-1) l = true) := hri
 have h13 : l.length + 3 ≤ 103 := by omega
 clear h hwt hri hf hrd
 go_enter Tryz.func17, Tryz.ntmps17
 go_wp2_with (first | (go_at_call 45; (with_reducible refine (hriC _ hrW).mono ?_); rintro e u1 ⟨rfl, hb1⟩; have hbU1 := bel2 hbW hb1; have hRB1 := hRB.below hb1; have hS1 : SR w 3 fr rz M (.slice ad l.length cap) (.slice (some ⟨u1.heap.size, 0, none⟩) 5 5) [101, 115, 3, n, fr] (u1.alloc (.cells #[.int .u8 101, .int .u8 115, .int .u8 3, .int .u8 (n : Int), .int .u8 (fr : Int)] 5)) := ⟨hRB1.below (al1'W u1 _), bel2 hbU1 (al1'W u1 _), (by have := zla hRB1; simp; omega), World.ownsRow_lit (base := w.heap.size + 1) (e := 5) (size := 1) u1 #[.int .u8 101, .int .u8 115, .int .u8 3, .int .u8 (n : Int), .int .u8 (fr : Int)] 5 (zla hRB1) (by decide) (by simp), (by simp)⟩; clear d0 d1 d2 d3 d4 d5 d6 d7; obtain ⟨d0, d1, d2, d3, d4, d5, d6, d7⟩ := hRB1.cells; obtain ⟨f0, f1, f2, f3, f4, f5, f6, f7⟩ := hS1.rb.cells) | (at_builtin; refine wpList_append_own_at _ rfl _ _ 23 rfl (w.heap.size + 1) 5 ic _ 1 1 Tryz.underlying23 hic hz0 hz1 hz2 rfl (by decide) _ ([101, 115, 3, n, fr]).length (cBW ([101, 115, 3, n, fr])) rfl (World.ownsRow.alloc (OwB.out hS1.ow) _) ⟨u1.heap.size + 1, 0, none⟩ 1 1 [_] rfl rfl (rowN_at _ #[_] _ (by simp)) (by simp [Value.oneCell']) (by have := hS1.ln; unfold maxLen; omega) (by have := hS1.ln; omega) (by have := hS1.sz; first | (simp; omega) | (simp at this ⊢; omega)) ?_; intro b' z6 hown' hgrow _ hob; have hS6 := SR.app [l.length] hS1 hgrow hown' (by simp); clear hown' hgrow hob; obtain ⟨d0, d1, d2, d3, d4, d5, d6, d7⟩ := hS6.rb.cells))
 have hS7 : SR w 3 fr rz M (.slice ad l.length cap) b' P z6 := HQ.out ▸ hS6
 clear hS6 hS1 HQ hRB hbW hrW hriC
 go_loopw [6, 10] (fun b i wz => ∃ (k : Nat), i = .int .i64 k ∧ k ≤ l.length ∧ SR w 3 fr rz M (.slice ad l.length cap) b (P ++ newsB (l.take k)) wz) (fun _ i _ => l.length - vnatW i)
 case atStart => exact ⟨0, rfl, Nat.zero_le _, by simpa [newsB] using hS7⟩
 case round =>
  obtain ⟨k, rfl, hk, hS⟩ := hrel
  clear hS7 d0 d1 d2 d3 d4 d5 d6 d7
  obtain ⟨d0, d1, d2, d3, d4, d5, d6, d7⟩ := hS.rb.cells
  have hsw := hS.sz
  by_cases hkl : k < l.length
  · have hki : (k : Int) < (l.length : Int) := by omega
    obtain ⟨⟨o, t, q⟩, hx⟩ : ∃ x, l[k]? = some x := ⟨_, List.getElem?_eq_getElem hkl⟩
    obtain ⟨v1, v2, v3, v4, v5, v6⟩ := vl_bounds (ris_get HRI.out hx)
    dsimp only at v1 v2 v3 v4 v5 v6
    obtain ⟨o, rfl⟩ := Int.eq_ofNat_of_zero_le v1
    obtain ⟨t, rfl⟩ := Int.eq_ofNat_of_zero_le v3
    obtain ⟨q, rfl⟩ := Int.eq_ofNat_of_zero_le (show 0 ≤ q by omega)
    obtain ⟨g', off, rfl, hgl, hat⟩ := HL.out (fun e => by subst e; simp at hkl)
    have ho256 : o < 256 := by omega
    have hq256 : q < 256 := by omega
    have HX : Hid (newsB (l.take (k + 1)) = newsB (l.take k) ++ [o, q] ++ numBW t 3) := by
     have := newsB_step l k _ _ _ hx
     rw [Int.toNat_natCast, Int.toNat_natCast, Int.toNat_natCast, Nat.mod_eq_of_lt (show o < 256 by omega), Nat.mod_eq_of_lt (show q < 256 by omega)] at this
     exact this
    have hlk : (newsB (l.take k)).length ≤ 5 * k := by rw [newsB_len, List.length_take]; omega
    go_wp2
    refine wp_region_any hmx ?_
    refine zwt (G := (Nat × Value)) (fun g i__ => ([u6, (.pointer (some ⟨w.heap.size, 7, none⟩)), (.slice (some ⟨g', off, none⟩) l.length cap), (.int .i64 (k : Int)), (.pointer (some ⟨g', off + k * 3, none⟩)), (.pointer (some ⟨g', off + k * 3, none⟩)), (.int .i64 (o : Int)), (.int .u8 (o : Int)), (.pointer (some ⟨w.heap.size, 7, none⟩)), (.slice (some ⟨g', off, none⟩) l.length cap), (.int .i64 (k : Int)), (.pointer (some ⟨g', off + k * 3, none⟩)), (.pointer (some ⟨g', off + k * 3 + 2, none⟩)), (.int .i64 (q : Int)), (.int .u8 (q : Int)), (.slice (some ⟨g.1, 0, none⟩) 2 2), g.2, g.2] : List Value).getD i__ undef) (fun g d W => JQW w 3 fr rz M (.slice (some ⟨g', off, none⟩) l.length cap) u6 (P ++ newsB (l.take k)) o q g' off l g (d 15) (d 16) W) (by kernel_rfl) ((0, undef)) (show JQW w 3 fr rz M (.slice (some ⟨g', off, none⟩) l.length cap) u6 (P ++ newsB (l.take k)) o q g' off l (0, undef) false false _ from ⟨hS.rb.below (Below.refl _ _).drew, hS.be.trans (Below.refl _ _).drew, hS.sz, hat.carry hgl (hS.be.trans (Below.refl _ _).drew), hS.ow.out, fun e => by cases e⟩) ?step27 ?fin27
    case step27 =>
     intro i o ho
     have hi : i < 18 := getElem?_lt ho
     match i, hi, ho with
     | 0, _, ho => cases ho; exact zgo fun g d hdep => zmv rfl trivial _ rfl (by kernel_rfl)
     | 1, _, ho => cases ho; exact zgo fun g d hdep => zfa rfl trivial _ _ _ _ rfl rfl (fun w hw => field_rbW _ w)
     | 2, _, ho => cases ho; exact zgo fun g d hdep => zld rfl trivial _ _ _ rfl rfl (fun w hw => load_rbW hw.rb)
     | 3, _, ho => cases ho; exact zgo fun g d hdep => zmv rfl trivial _ rfl (by kernel_rfl)
     | 4, _, ho => cases ho; exact zgo fun g d hdep => zia rfl trivial _ _ _ _ _ rfl rfl rfl (fun w hw => idx_n g' off l.length cap k hkl w)
     | 5, _, ho => cases ho; exact zgo fun g d hdep => zfa rfl trivial _ _ _ _ rfl rfl (fun w hw => field_at w _ _)
     | 6, _, ho => cases ho; exact zgo fun g d hdep => zld rfl trivial _ _ _ rfl rfl (fun w hw => load_of hw.nt hx)
     | 7, _, ho => cases ho; exact zgo fun g d hdep => step_convert rfl trivial _ _ _ _ rfl rfl (fun w hw => conv8 o ho256 w)
     | 8, _, ho => cases ho; exact zgo fun g d hdep => zfa rfl trivial _ _ _ _ rfl rfl (fun w hw => field_rbW _ w)
     | 9, _, ho => cases ho; exact zgo fun g d hdep => zld rfl trivial _ _ _ rfl rfl (fun w hw => load_rbW hw.rb)
     | 10, _, ho => cases ho; exact zgo fun g d hdep => zmv rfl trivial _ rfl (by kernel_rfl)
     | 11, _, ho => cases ho; exact zgo fun g d hdep => zia rfl trivial _ _ _ _ _ rfl rfl rfl (fun w hw => idx_n g' off l.length cap k hkl w)
     | 12, _, ho => cases ho; exact zgo fun g d hdep => zfa rfl trivial _ _ _ _ rfl rfl (fun w hw => field_nt2 _ _ w)
     | 13, _, ho => cases ho; exact zgo fun g d hdep => zld rfl trivial _ _ _ rfl rfl (fun w hw => load_kd hw.nt hx)
     | 14, _, ho => cases ho; exact zgo fun g d hdep => step_convert rfl trivial _ _ _ _ rfl rfl (fun w hw => conv8 q hq256 w)
     | 15, _, ho => cases ho; exact stepG_build2 rfl rfl _ _ _ (.int .u8 (o : Int)) (.int .u8 (q : Int)) rfl (fun g => by kernel_rfl) (fun g => by kernel_rfl) (fun g d W hJ hun hcl => by have h16 : d 16 = false := (by cases h : d 16 with | false => rfl | true => exact absurd (hcl 16 _ rfl h 15 (by kernel_rfl)) (by rw [hun]; simp)); have hJ' := hJ; rw [hun, h16] at hJ'; refine ⟨(W.heap.size, g.2), _, bs2 _ _ _, (fun j hj => match j, hj with | 15, hj => (by rw [hj] at hun; cases hun)  | 0, _ => rfl | 1, _ => rfl | 2, _ => rfl | 3, _ => rfl | 4, _ => rfl | 5, _ => rfl | 6, _ => rfl | 7, _ => rfl | 8, _ => rfl | 9, _ => rfl | 10, _ => rfl | 11, _ => rfl | 12, _ => rfl | 13, _ => rfl | 14, _ => rfl | 16, _ => rfl | 17, _ => rfl | _ + 18, _ => rfl), ?_⟩; show JQW w 3 fr rz M (.slice (some ⟨g', off, none⟩) l.length cap) _ _ o q g' off l _ true (d 16) _; rw [h16]; exact hJ'.build hgl)
     | 16, _, ho => cases ho; exact stepG_appendW rfl rfl _ _ _ (fun _ => u6) (fun g => .slice (some ⟨g.1, 0, none⟩) 2 2) rfl (fun g => by kernel_rfl) (fun g => by kernel_rfl) (fun g d W hJ hun hdep hcl => by have h15 : d 15 = true := hdep 15 (by kernel_rfl); have hJ' := hJ; rw [h15, hun] at hJ'; obtain ⟨v', W', hr, hA⟩ := hJ'.app hgl 23 (by have := hS.ln; simpa using this); refine ⟨(g.1, v'), W', hr, (fun j hj => match j, hj with | 16, hj => (by rw [hj] at hun; cases hun) | 17, hj => absurd ((hcl 17 _ rfl hj 16 (by kernel_rfl))) (by rw [hun]; simp) | 0, _ => rfl | 1, _ => rfl | 2, _ => rfl | 3, _ => rfl | 4, _ => rfl | 5, _ => rfl | 6, _ => rfl | 7, _ => rfl | 8, _ => rfl | 9, _ => rfl | 10, _ => rfl | 11, _ => rfl | 12, _ => rfl | 13, _ => rfl | 14, _ => rfl | 15, _ => rfl | _ + 18, _ => rfl), ?_⟩; show JQW w 3 fr rz M (.slice (some ⟨g', off, none⟩) l.length cap) _ _ o q g' off l _ (d 15) true _; rw [h15]; exact hA)
     | 17, _, ho => cases ho; exact zgo fun g d hdep => zas rfl trivial _ rfl (by kernel_rfl) (fun _ h => h)
    intro g d W hall hW
    first | refine hK _ _ ?_ | refine (‹∀ (a : Act) (w : World), Code.wp Tryz.prog _ _ a w → _›) _ _ ?_ | skip
    simp only [finL, List.getD_cons_zero, List.getD_cons_succ, Nat.zero_add, Nat.reduceAdd, List.setIfInBounds_toArray, List.set_cons_zero, List.set_cons_succ]
    rw [hall 15 (by decide), hall 16 (by decide)] at hW
    have hS2 : SR w 3 fr rz M (.slice (some ⟨g', off, none⟩) l.length cap) g.2 (P ++ newsB (l.take k) ++ [o, q]) W := ⟨hW.rb, hW.be, hW.sz, (by unfold OwB; rw [cB_appW, List.length_append]; exact hW.ow), (by simp; omega)⟩
    have hnt := hW.nt
    clear hW hall d0 d1 d2 d3 d4 d5 d6 d7
    obtain ⟨d0, d1, d2, d3, d4, d5, d6, d7⟩ := hS2.rb.cells
    obtain ⟨x0, x1, x2⟩ := hnt k _ hx
    dsimp only at x0 x1 x2
    clear hat hx hnt v1 v2 v3 v4 v5 v6
    go_wp2_with (go_at_call 46; refine (rnumber_any (w.heap.size + 1) _ _ t 3 _ hS2.sz hS2.ow (by have := hS2.ln; omega) (by omega)).mono ?_; rintro e u3 ⟨b3, rfl, ho3, hb3⟩; have hS3 := hS2.step hb3 ho3 (by simp [znl]; omega))
    go_roundw
    case rel => exact ⟨k + 1, by simp, by omega, by rw [HX.out, ← List.append_assoc, ← List.append_assoc]; exact hS3⟩
    case measure => simp [vnatW]; omega
  · have hkk : k = l.length := by omega
    subst hkk
    rw [List.take_length, ← HP.out] at hS
    have hki : ¬ ((l.length : Int) < (l.length : Int)) := by omega
    obtain ⟨ad2, cap2, rfl, hrb⟩ := RdBW.own hS.ow.out
    have hsum := rSum_any ad2 cap2 (frm 3 n fr 0 0 l) wr hrb (frm_byt _ _ _ _ _ _) (by have := hS.ln; omega)
    have hadd := rnumber_any (w.heap.size + 1) _ _ (sumV (frm 3 n fr 0 0 l)) 4 wr hS.sz hS.ow (by have := hS.ln; omega) (by omega)
    have HB : Hid (byt7 3 n fr 0 0 l = frm 3 n fr 0 0 l ++ numBW (sumV (frm 3 n fr 0 0 l)) 4) := rfl
    generalize sumV (frm 3 n fr 0 0 l) = SV at *
    generalize frm 3 n fr 0 0 l = FM at *
    have hbe := hS.be
    clear hS hrb HP
    go_wp2_with (first | (go_at_call 48; refine hsum.mono ?_; rintro e u ⟨rfl, hu⟩; rw [hu]; clear hu u) | (go_at_call 46; refine hadd.mono ?_; rintro e u3 ⟨b3, rfl, ho3, hb3⟩))
    go_ret2
    exact ⟨_, rfl, by rw [HB.out]; exact ownsRow_base ho3 (Nat.le_succ _), hbe.trans (hb3.mono (Nat.le_succ _))⟩
def BX (w : World) (r : Ending) (w' : World) : Prop := ∃ a n c E, r = .returned (.tuple #[.slice a n c, .int .i64 E]) ∧ (E = 0 → ∃ L, n = L.length ∧ w'.ownsRow w.heap.size 5 1 (.slice a n c) L.length (cBW L) ∧ BytW L ∧ 0 < L.length ∧ L.length ≤ 600) ∧ Below w.heap.size w w'
end Go.Proofs.YtekjhcnaabpfmaaGreatDoor
namespace Go.Proofs.YtekjhcnaabpfmaaGreatDoor
open Go.RowKit Go.Shelf Go.Lib
def dPoll (s : Ns) : Ns × List (Int × List Nat) × Int := if rdy s.t = true then (dAsk (dCl s), askTo s.n s.s (dAskB (dCl s)), 0) else (dAsk s, askTo s.n s.s (dAskB s), 170)
def dHear (s : Ns) (bs : List Nat) : Ns × List (Int × List Nat) × Int :=
 match dec (s.n : Int) bs with
 | .error er => (s, [], er)
 | .ok (kd, fr, rd, N, l) => if (fr : Int) = (s.s : Int) then (s, [], 72) else
  if kd = 1 then (dDe { s with l := abs s.l (s.s : Int) l }, [((fr : Int), dRepB (dDe { s with l := abs s.l (s.s : Int) l }) (rd : Int))], 0)
  else if kd = 2 then ({ dDe { s with l := abs s.l (s.s : Int) l } with t := tk (dDe { s with l := abs s.l (s.s : Int) l }).t (fr : Int) (rd : Int) N }, [], 0)
  else (dDe { s with l := abs s.l (s.s : Int) l }, [], 0)
section
variable {w W : World} {base x : Nat} {A : NA} {s : Ns} {m : Nat}
theorem poll_any (h : Nd w base x A s) (hv : Nv m s) (hm : m ≤ 500) (hEn : Env w) (hbs : 2 < base) :
   Calls Tryz.prog 20 #[.pointer (some ⟨x, 0, none⟩)] w (PlO w base x A (dPoll s).2.1 (dPoll s).2.2 (dPoll s).1) := by
 have h1 := hv.len
 have h2 := hv.n1
 have h3 := hv.n2
 have h4 := hv.ev
 unfold dPoll
 by_cases hr : rdy s.t = true
 · rw [if_pos hr]
   obtain ⟨e0, k0, ke, _⟩ := hv.close (by omega)
   obtain ⟨j, hj, ho⟩ := hv.on
   have h5 := hv.wr
   have h6 := hv.tv.len
   have h7 := hv.td
   exact poll_ok h hr hEn hbs ho.lv.ok ho.lv.fz h5.1 (by omega) e0 (by omega) (by omega) (pow_S128 h3 hv.rp) k0 (by omega) (by omega) (by omega) h3
 · rw [if_neg hr]
   exact poll_wait h (by simpa using hr) (by omega) (by omega) (by omega) h3
theorem Nv.poll (hv : Nv m s) (hm : m ≤ 500) : Nv (m + 1) (dPoll s).1 := by
 unfold dPoll
 split
 · exact (hv.close (by omega)).2.2.2.1
 · exact hv.ask
theorem hear_any (h : Nd w base x A s) (hv : Nv m s) (hm : m ≤ 500) (hEn : Env w) (hbs : 2 < base) {ad : Option Addr} {cap : Nat} {bs : List Nat} (hr : RdBW w ad bs) (hby : BytW bs) (hc : bs.length ≤ cap) :
  Calls Tryz.prog 14 #[.pointer (some ⟨x, 0, none⟩), .slice ad bs.length cap] w (PlO w base x A (dHear s bs).2.1 (dHear s bs).2.2 (dHear s bs).1) := by
 have h1 := hv.len
 have h2 := hv.n1
 have h3 := hv.n2
 have h4 := hv.ev
 have h5 := hv.wr
 obtain ⟨j, hj, ho⟩ := hv.on
 unfold dHear
 cases hd : dec (s.n : Int) bs with
 | error er =>
  refine (hear_err h hr hby hc hd).mono ?_
  rintro r w' ⟨rfl, hb⟩
  exact ⟨_, [], A, rfl, Outs.nil _ _, rfl, h.carry hb, Mv.of _ _ hb⟩
 | ok f =>
  obtain ⟨kd, fr, rd, N, l, rfl, hk, hf, h3', h2', hN, _⟩ := dec_inv hby hd
  obtain ⟨_, _, _, _, hri⟩ := flt_0 hf
  have hlen := ris_len (s.n : Int) l (-1) (by omega) (by omega) hri
  have hnl : l.length ≤ 1000000 := by omega
  dsimp only
  by_cases hfs : (fr : Int) = (s.s : Int)
  · rw [if_pos hfs]
    have key : Calls Tryz.prog 14 #[.pointer (some ⟨x, 0, none⟩), .slice ad bs.length cap] w fun r w' => r = .returned (.tuple #[.slice none 0 0, .int .i64 72]) ∧ Below w.heap.size w w' := by
      rcases (show kd = 1 ∨ kd = 2 ∨ kd = 3 by omega) with rfl | rfl | rfl
      · exact hearQ_self h hr hby hc hd hnl hfs
      · exact hearP_self h hr hby hc hd hnl hN hfs
      · exact hearU_self h hr hby hc hd hnl hfs
    refine key.mono ?_
    rintro r w' ⟨rfl, hb⟩
    exact ⟨_, [], A, rfl, Outs.nil _ _, rfl, h.carry hb, Mv.of _ _ hb⟩
  · rw [if_neg hfs]
    have he : (dDf (abs s.l (s.s : Int) l) (s.s : Int) s.d s.b).e = 0 := ((hv.absorb l).de (by omega)).1
    rcases (show kd = 1 ∨ kd = 2 ∨ kd = 3 by omega) with rfl | rfl | rfl
    · rw [if_pos rfl]
      refine (hearQ_ok h hr hby hc hd hnl hfs hEn hbs hv.bok (by omega) (by omega) ho.lv.fz h5.1 (by omega) (by omega) he (pow_S128 h3 hv.H)).mono ?_
      rintro r w' ⟨v, o, A', rfl, h1, h2, h3, h4⟩
      exact ⟨v, [o], A', rfl, h1, h2, h3, h4⟩
    · rw [if_neg (by decide), if_pos rfl]
      refine (hearP_ok h hr hby hc hd hnl hN hfs hEn hbs hv.bok (by omega) (by omega) ho.lv.fz h5.1 (by omega) (by omega) he hv.tv).mono ?_
      rintro r w' ⟨rfl, A', h1, h2⟩
      exact ⟨_, [], A', rfl, Outs.nil _ _, rfl, h1, h2⟩
    · rw [if_neg (by decide), if_neg (by decide)]
      refine (hearU_ok h hr hby hc hd hnl hfs hEn hbs hv.bok (by omega) (by omega) ho.lv.fz h5.1 (by omega) (by omega) he).mono ?_
      rintro r w' ⟨rfl, A', h1, h2⟩
      exact ⟨_, [], A', rfl, Outs.nil _ _, rfl, h1, h2⟩
theorem Nv.hear (hv : Nv m s) (hm : m ≤ 500) (bs : List Nat) (hby : BytW bs) : Nv (m + 1) (dHear s bs).1 ∧ (dHear s bs).1.t.ro = s.t.ro ∧ (dHear s bs).1.H = s.H ∧ (∀ i, s.t.reps.testBit i = true → (dHear s bs).1.t.reps.testBit i = true) ∧ s.b.ta ≤ (dHear s bs).1.b.ta ∧ (dHear s bs).1.n = s.n ∧ (dHear s bs).1.s = s.s ∧ (dHear s bs).1.f = s.f := by
 unfold dHear
 cases hd : dec (s.n : Int) bs with
 | error er => exact ⟨hv.mono, rfl, rfl, fun _ h => h, Int.le_refl _, rfl, rfl, rfl⟩
 | ok f =>
  obtain ⟨kd, fr, rd, N, l, rfl, hk, hf, h3', h2', hN, _⟩ := dec_inv hby hd
  dsimp only
  have h1 := hv.absorb l
  obtain ⟨_, h2, h3⟩ := h1.de (by omega)
  have e1 := dDe_t { s with l := abs s.l (s.s : Int) l }
  have e2 := dDe_H { s with l := abs s.l (s.s : Int) l }
  have e3 := dDe_n { s with l := abs s.l (s.s : Int) l }
  have e4 := dDe_s { s with l := abs s.l (s.s : Int) l }
  have e5 := dDe_f { s with l := abs s.l (s.s : Int) l }
  have g : Nv (m + 1) (dDe { s with l := abs s.l (s.s : Int) l }) ∧ (dDe { s with l := abs s.l (s.s : Int) l }).t.ro = s.t.ro ∧ (dDe { s with l := abs s.l (s.s : Int) l }).H = s.H ∧ (∀ i, s.t.reps.testBit i = true → (dDe { s with l := abs s.l (s.s : Int) l }).t.reps.testBit i = true) ∧ s.b.ta ≤ (dDe { s with l := abs s.l (s.s : Int) l }).b.ta ∧ (dDe { s with l := abs s.l (s.s : Int) l }).n = s.n ∧ (dDe { s with l := abs s.l (s.s : Int) l }).s = s.s ∧ (dDe { s with l := abs s.l (s.s : Int) l }).f = s.f :=
    ⟨h2, by rw [e1], e2, fun i hi => by rw [e1]; exact hi, h3, e3, e4, e5⟩
  split
  · exact ⟨hv.mono, rfl, rfl, fun _ h => h, Int.le_refl _, rfl, rfl, rfl⟩
  · split
    · exact g
    · split
      · obtain ⟨k1, k2, k3⟩ := h2.tak (fr : Int) (rd : Int) hN
        exact ⟨k1, k2.trans (by rw [e1]), e2, fun i hi => k3 i (by rw [e1]; exact hi), h3, e3, e4, e5⟩
      · exact g
end
theorem byt7_ok {kd n fr rd N : Nat} {l : List (Int × Int × Int)} (h1 : n ≤ 100) (h2 : l.length ≤ 100) : BytW (byt7 kd n fr rd N l) ∧ 0 < (byt7 kd n fr rd N l).length ∧ (byt7 kd n fr rd N l).length ≤ 600 := by
 have a := frm_len kd n fr rd N l
 have b := byt7_len kd n fr rd N l
 have c := hsz_le h1
 exact ⟨byt7_byt _ _ _ _ _ _, by omega, by omega⟩
theorem own_sl {W : World} {b : Nat} {v : Value} {L : List Nat} (h : OwB W b v L) : ∃ a c, v = .slice a L.length c := by
 rcases own_form h.out with ⟨e1, e2⟩ | ⟨g, c, e1, _⟩
 · exact ⟨none, 0, by rw [e1, e2]⟩
 · exact ⟨_, c, e1⟩
theorem BO.bx {kd : Nat} {n fr rd : Int} {N : Nat} {l : List (Int × Int × Int)} {w w' : World} {e : Ending} (h : BO kd n fr rd N l w e w') : BX w e w' := by
 obtain ⟨b, rfl, ho, hb⟩ := h
 obtain ⟨a, c, rfl⟩ := own_sl ho
 refine ⟨a, _, c, _, rfl, fun hf => ?_, hb⟩
 obtain ⟨h1, h2, _, _, h5⟩ := flt_0 hf
 have hlen := ris_len n l (-1) (by omega) (by omega) h5
 obtain ⟨k1, k2, k3⟩ := byt7_ok (kd := kd) (n := n.toNat) (fr := fr.toNat) (rd := rd.toNat) (N := N) (l := l) (by omega) (by omega)
 have e : fb7 kd n fr rd N l = byt7 kd n.toNat fr.toNat rd.toNat N l := by rw [fb7, if_pos hf]
 rw [e] at ho ⊢
 exact ⟨_, rfl, ho.out, k1, k2, k3⟩
theorem BX.of {kd n fr rd N : Nat} {l : List (Int × Int × Int)} {w w' : World} {e : Ending} (h1 : n ≤ 100) (h2 : l.length ≤ 100) (h : ∃ b, e = .returned (.tuple #[b, .int .i64 0]) ∧ OwB w' w.heap.size b (byt7 kd n fr rd N l) ∧ Below w.heap.size w w') : BX w e w' := by
 obtain ⟨b, rfl, ho, hb⟩ := h
 obtain ⟨k1, k2, k3⟩ := byt7_ok (kd := kd) (n := n) (fr := fr) (rd := rd) (N := N) (l := l) h1 h2
 obtain ⟨a, c, rfl⟩ := own_sl ho
 exact ⟨a, _, c, 0, rfl, fun _ => ⟨_, rfl, ho.out, k1, k2, k3⟩, hb⟩
theorem rbx_any (k fr r n : Int) (N : Nat) (hN : N < S128) (ad : Option Addr) (cap : Nat) (l : List (Int × Int × Int)) (w : World) (h : RdN w ad l) (hl : l.length ≤ 6000000000000) : Calls Tryz.prog 17 #[.agg #[.int .i64 k, .int .i64 fr, .int .i64 r, .int .u32 (wd N 0 : Nat), .int .u32 (wd N 1 : Nat), .int .u32 (wd N 2 : Nat), .int .u32 (wd N 3 : Nat), .slice ad l.length cap], .int .i64 n] w (BX w) := by
 by_cases k2 : k = 2
 · subst k2
   exact (rbytes_any 2 (by decide) n fr r N hN (fun e => by cases e) (fun e => absurd rfl e) ad cap l w h hl).mono fun _ _ h => h.bx
 by_cases k3 : k = 3
 · subst k3
   by_cases hf : flt 3 n fr 0 0 l = 0
   · obtain ⟨h1, h2, _, _, h5⟩ := flt_0 hf
     have hlen := ris_len n l (-1) (by omega) (by omega) h5
     obtain ⟨n', rfl⟩ := Int.eq_ofNat_of_zero_le (show 0 ≤ n by omega)
     obtain ⟨f', rfl⟩ := Int.eq_ofNat_of_zero_le h2.1
     exact (rbu_ok r N n' f' ad cap l w h hf).mono fun _ _ h => BX.of (by omega) (by omega) h
   · exact (rbu_no r N n fr ad cap l w h hl hf).mono fun _ _ h => h.bx
 have e2 : (k == 2) = false := beq_eq_false_iff_ne.2 k2
 have e3 : (k == 3) = false := beq_eq_false_iff_ne.2 k3
 have e4 : (k != 3) = true := by simpa using k3
 have hb : (k % 256).toNat < 256 := by omega
 have hb2 : k % 256 = ((k % 256).toNat : Int) := by omega
 by_cases hf : flt 1 n fr r 0 l = 0
 · obtain ⟨h1, h2, _, _, h5⟩ := flt_0 hf
   have hlen := ris_len n l (-1) (by omega) (by omega) h5
   obtain ⟨n', rfl⟩ := Int.eq_ofNat_of_zero_le (show 0 ≤ n by omega)
   obtain ⟨f', rfl⟩ := Int.eq_ofNat_of_zero_le h2.1
   exact (rbk_ok k _ N hb e2 e3 e4 hb2 n' f' r ad cap l w h hf).mono fun _ _ h => BX.of (by omega) (by omega) h
 · exact (rbk_no k _ N hb e2 e3 e4 hb2 n fr r ad cap l w h hl hf).mono fun _ _ h => h.bx
theorem ris_part (n : Int) (hn2 : n ≤ 100) (P : N3 → Bool) : ∀ (m : List N3) (k : Nat) (p : Int), (∀ (i : Nat) (x : N3), m[i]? = some x → x.1 = ((k + i : Nat) : Int) ∧ rkx x ≠ -1) → p < (k : Int) → ((k + m.length : Nat) : Int) ≤ n → ris n p (m.filter P) = true
 | [], k, p, _, _, _ => by simp [ris]
 | x :: m, k, p, h, hp, hn => by
  have h0 := h 0 x rfl
  have ht : ∀ (i : Nat) (y : N3), m[i]? = some y → y.1 = ((k + 1 + i : Nat) : Int) ∧ rkx y ≠ -1 := fun i y hy => by
    have := h (i + 1) y (by simpa using hy)
    rw [show k + 1 + i = k + (i + 1) by omega]
    exact this
  rw [List.length_cons] at hn
  rw [List.filter_cons]
  split
  · obtain ⟨o, t, q⟩ := x
    have e1 := h0.1
    have e2 := h0.2
    unfold rkx at e2
    dsimp only at e1 e2
    have := ris_part n hn2 P m (k + 1) o ht (by omega) (by omega)
    have hv : vl n o t q = true := by unfold vl; exact decide_eq_true ⟨by omega, hn2, by omega, by omega, e2⟩
    show (vl n o t q && (decide (p < o) && ris n o (m.filter P))) = true
    rw [hv, this, decide_eq_true (by omega)]
    rfl
  · exact ris_part n hn2 P m (k + 1) p ht (by omega) (by omega)
theorem ris_news {l : List N3} (hb : Bok l) {n : Nat} (hl : l.length = n) (hn : n ≤ 100) : ris (n : Int) (-1) (l.filter pNew) = true :=
 ris_part n (by omega) pNew l 0 (-1) (fun i x hx => by rw [Nat.zero_add]; exact hb i x hx) (by omega) (by omega)
section
variable {s : Ns} {m : Nat}
theorem flt_rep (hv : Nv m s) {rd : Int} (hr : 1 ≤ rd ∧ rd ≤ 1099511627775) : flt 2 (s.n : Int) (s.s : Int) rd s.H (s.l.filter pNew) = 0 := by
 have h1 := hv.n1
 have h2 := hv.n2
 have h3 := hv.sn
 unfold flt
 rw [if_neg (by omega), if_neg (by omega), if_neg (by omega), if_neg (by rw [wthB_of h2 hv.H]; simp), if_neg (by rw [ris_news hv.bok hv.len h2]; simp)]
theorem dec_rep (hv : Nv m s) {rd : Nat} (hr : 1 ≤ (rd : Int) ∧ (rd : Int) ≤ 1099511627775) : dec (s.n : Int) (dRepB s (rd : Int)) = .ok (2, s.s, rd, s.H, s.l.filter pNew) := by
 have hf := flt_rep hv hr
 unfold dRepB fb7
 rw [if_pos hf, Int.toNat_natCast, Int.toNat_natCast, Int.toNat_natCast]
 exact dec_of (by decide) hf (fun e => by cases e) (fun e => absurd rfl e)
end
end Go.Proofs.YtekjhcnaabpfmaaGreatDoor
