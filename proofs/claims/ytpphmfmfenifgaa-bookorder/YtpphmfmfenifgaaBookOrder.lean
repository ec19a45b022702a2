/- BookOrder: at every n, self, tag, list of notices and number: in whatever order notices are taken, one by one or merged, the book is the same; no condition. -/
import Derived.Test.YtpphmfmfenifgaaRows
import Derived.WalkKit
import Derived.ProofKit
import Derived.OpenShut
import Derived.Test.YtpphmfmfenifgaaBks
import Derived.Test.YtpphmfmfenifgaaOpm
namespace Go.Proofs.Ytpphmfmfenifgaa
open Go.ChangeShapes Go.WideShapes Go.ChangeAt Go.RowKit
set_option linter.unusedVariables false

theorem laidOut : laidOutB Try.prog = true := by kernel_rfl
theorem own : ownKnob Try.prog.godebug = none := by kernel_rfl
open Go.Shelf
theorem light_any (w : World) (ad : Option Addr) (n cap : Nat) : Calls Try.prog 9 #[.slice ad n cap] w fun e w' => e = .returned (.bool (decide (n ≤ 300))) ∧ w' = w := by
  by_cases h : n ≤ 300
  · have hi : (n : Int) ≤ 300 := by omega
    rw [decide_eq_true h]
    go_enter Try.func9, Try.ntmps9
    go_wp2
    go_ret
    exact ⟨rfl, rfl⟩
  · have hi : ¬ (n : Int) ≤ 300 := by omega
    rw [decide_eq_false h]
    go_enter Try.func9, Try.ntmps9
    go_wp2
    go_ret
    exact ⟨rfl, rfl⟩
def vnatS (v : Value) : Nat := match v with | .int _ n => (n + 1).toNat | _ => 0
/-- The one that stands k further on, round about. -/
def rot (l : List N3) (K j : Nat) : N3 := l.getD ((j + K) % l.length) (0, 0, 0)
theorem rot_all (l : List N3) (K : Nat) (hK : K < l.length) : ((List.range l.length).map (rot l K)).Perm l := by
  have e : (List.range l.length).map (rot l K) = l.drop K ++ l.take K := by
    apply List.ext_getElem?
    intro j
    by_cases hj : j < l.length
    · rw [List.getElem?_map, List.getElem?_range hj, Option.map_some]
      unfold rot
      by_cases h : j + K < l.length
      · rw [Nat.mod_eq_of_lt h, List.getElem?_append_left (by simp; omega), List.getElem?_drop, Nat.add_comm K j, List.getD_eq_getElem?_getD, List.getElem?_eq_getElem h]
        rfl
      · have e2 : (j + K) % l.length = j + K - l.length := by
          rw [Nat.mod_eq_sub_mod (by omega), Nat.mod_eq_of_lt (by omega)]
        have h3 : j - (l.drop K).length = j + K - l.length := by simp; omega
        rw [e2, List.getElem?_append_right (by simp; omega), h3, List.getElem?_take, if_pos (by omega), List.getD_eq_getElem?_getD, List.getElem?_eq_getElem (by omega)]
        rfl
    · rw [List.getElem?_eq_none (by simp; omega), List.getElem?_eq_none (by simp; omega)]
  rw [e]
  exact List.perm_append_comm.trans (by rw [List.take_append_drop])
theorem rot_get {l : List N3} {K j : Nat} (h : 0 < l.length) : l[(j + K) % l.length]? = some (rot l K j) := by
  have := Nat.mod_lt (j + K) h
  unfold rot
  rw [List.getD_eq_getElem?_getD, List.getElem?_eq_getElem this]
  rfl
set_option maxHeartbeats 8000000 in
set_option maxRecDepth 100000 in
theorem walk (w : World) (a0 : Int) (w0 : (Lit.int .i64 a0).wf = true) (a1 : Int) (w1 : (Lit.int .i64 a1).wf = true) (a2 : Int) (w2 : (Lit.int .i64 a2).wf = true) (ad3 : Option Addr) (cap3 : Nat) (l3 : List (Int × Int × Int)) (w3 : RdN w ad3 l3) (hc3 : ad3 = none → cap3 = 0) (hq3 : l3.length ≤ cap3) (a4 : Int) (w4 : (Lit.int .i64 a4).wf = true) :
    Calls Try.prog 3 #[.int .i64 a0, .int .i64 a1, .int .i64 a2, .slice ad3 l3.length cap3, .int .i64 a4] w fun e w' => e = .returned (.bool true) ∧ Below w.heap.size w w' := by
  have hal := balive_any
  have hnw := new_any a0 a1 a2
  have hli := light_any
  have hbw : Below w.heap.size w w := Below.refl _ _
  by_cases hok : ¬ (a0 < 1 ∨ 100 < a0) ∧ ¬ (a1 < 0 ∨ a0 ≤ a1) ∧ ¬ (a2 < 0 ∨ 1048576 < a2)
  · obtain ⟨h1, h2, h3⟩ := hok
    obtain ⟨N, rfl⟩ : ∃ N : Nat, a0 = (N : Int) := ⟨a0.toNat, by omega⟩
    obtain ⟨s, rfl⟩ : ∃ s : Nat, a1 = (s : Int) := ⟨a1.toNat, by omega⟩
    have HOK : Hid (∀ (W V : World) (e : Ending), NewV (N : Int) (s : Int) a2 W e V → ∃ p g, e = .returned (.tuple #[.pointer (some ⟨p, 0, none⟩), .int .i64 0]) ∧ W.heap.size ≤ p ∧ W.heap.size ≤ g ∧ Bk V p g (bk0 N s a2)) := fun W V e hV => by simpa using hV.ok h1 h2 h3
    have HB0 : Hid (Bok (bk0 N s a2)) := bk0_bok (by omega) (by omega)
    have HL0 : Hid ((bk0 N s a2).length = N ∧ N ≤ 100) := ⟨bk0_len _ _ _, by omega⟩
    clear h1 h2 h3
    generalize bk0 N s a2 = L0 at HOK HB0 HL0
    have hS0 := Bks.nil w
    obtain ⟨n, hn⟩ : ∃ n, l3.length = n := ⟨_, rfl⟩
    have HN : Hid (l3.length = n) := hn
    rw [hn] at hq3 ⊢
    clear hn
    have HW3 : Hid (RdN w ad3 l3) := w3
    clear w3
    have hl3 := fun W => hli W ad3 n cap3
    clear hli
    by_cases h300 : n ≤ 300
    · rw [decide_eq_true h300] at hl3
      by_cases hpos : 0 < n
      · have hne : ¬ (n : Int) = 0 := by omega
        have hne2 : ((n : Int) == 0) = false := by simpa using hne
        have hKK : ∃ K : Nat, K < n ∧ ((a4.tmod (n : Int) = (K : Int) ∧ ¬ a4.tmod (n : Int) < 0) ∨ (∃ z, a4.tmod (n : Int) = z ∧ z < 0 ∧ z + (n : Int) = (K : Int))) := by
          have hb1 := Int.tmod_lt_of_pos a4 (show (0 : Int) < (n : Int) by omega)
          have hb2 : -(n : Int) < a4.tmod (n : Int) := by
            have e1 := Int.natAbs_tmod a4 (n : Int)
            have e2 := Nat.mod_lt a4.natAbs hpos
            rw [Int.natAbs_natCast] at e1
            omega
          by_cases hneg : a4.tmod (n : Int) < 0
          · exact ⟨(a4.tmod (n : Int) + n).toNat, by omega, .inr ⟨_, rfl, hneg, by omega⟩⟩
          · exact ⟨(a4.tmod (n : Int)).toNat, by omega, .inl ⟨by omega, hneg⟩⟩
        obtain ⟨K, hK, htm⟩ := hKK
        rcases htm with ⟨htm, hneg⟩ | ⟨z, htm, hneg, hzn⟩
        · go_enter Try.func3, Try.ntmps3
          go_wp2_with (first | (go_at_call 8; first | (have hz := hS0; (with_reducible refine (hnw _).mono ?_); rintro e u1 hV; obtain ⟨pa, ga, rfl, hp, hg, hk⟩ := HOK.out _ _ _ hV; have hS1 := hS0.add hV.1 hk hp hg; clear hS0 hz hV hp hg hk) | (have hz := hS1; (with_reducible refine (hnw _).mono ?_); rintro e u2 hV; obtain ⟨pb, gb, rfl, hp, hg, hk⟩ := HOK.out _ _ _ hV; have hS2 := hS1.add hV.1 hk hp hg; clear hS1 hz hV hp hg hk) | (have hz := hS2; (with_reducible refine (hnw _).mono ?_); rintro e u3 hV; obtain ⟨pc, gc, rfl, hp, hg, hk⟩ := HOK.out _ _ _ hV; have hS3 := hS2.add hV.1 hk hp hg; clear hS2 hz hV hp hg hk)) | (go_at_call 9; (with_reducible refine (hl3 _).mono ?_); rintro e u ⟨rfl, rfl⟩))
          clear htm w4 hne hne2 hl3 hnw HOK
          go_loopw [18] (fun i wz => ∃ (j : Nat), i = .int .i64 j ∧ j ≤ n ∧ Bks w [(pa, ga, (l3.take j).foldl tke L0), (pb, gb, ((List.range j).map (rot l3 K)).foldl tke L0), (pc, gc, L0)] wz) (fun i _ => n - vnatR i)
          case atStart => exact ⟨0, rfl, Nat.zero_le _, hS3⟩
          case round =>
           obtain ⟨j, rfl, hj, hS⟩ := hrel
           clear hS3
           by_cases hjl : j < n
           · have hji : (j : Int) < (n : Int) := by omega
             have hjl1 : j < l3.length := by rw [HN.out]; exact hjl
             obtain ⟨⟨o, t, q⟩, hx⟩ : ∃ x, l3[j]? = some x := ⟨_, List.getElem?_eq_getElem hjl1⟩
             have hy0 : l3[(j + K) % l3.length]? = some (rot l3 K j) := rot_get (by omega)
             rw [HN.out] at hy0
             obtain ⟨i, hi⟩ : ∃ i, (j + K) % n = i := ⟨_, rfl⟩
             have hil : i < n := by rw [← hi]; exact Nat.mod_lt _ hpos
             have hii : (i : Int) < (n : Int) := by omega
             have hmod : ((j : Int) + (K : Int)).tmod (n : Int) = (i : Int) := by
               rw [← hi, ← Int.natCast_add, ← Int.ofNat_tmod]
             rw [hi] at hy0
             obtain ⟨⟨o', t', q'⟩, hy⟩ : ∃ y, rot l3 K j = y := ⟨_, rfl⟩
             rw [hy] at hy0
             have HST1 : Hid ((l3.take (j + 1)).foldl tke L0 = tke ((l3.take j).foldl tke L0) (o, t, q)) := by
               show _ = _
               rw [List.take_add_one, hx]
               simp
             have HST2 : Hid (((List.range (j + 1)).map (rot l3 K)).foldl tke L0 = tke (((List.range j).map (rot l3 K)).foldl tke L0) (o', t', q')) := by
               show _ = _
               rw [List.range_succ, List.map_append, List.foldl_append, ← hy]
               rfl
             obtain ⟨b, off, e1, hbl, hat⟩ := HW3.out.carry hS.below (fun e => by rw [e] at hjl1; simp at hjl1)
             subst e1
             obtain ⟨c0, c1, c2⟩ := hat j _ hx
             dsimp only at c0 c1 c2
             have HY : Hid (l3[i]? = some (o', t', q')) := hy0
             have HNE : Hid (l3 ≠ []) := (fun e => by rw [e] at hjl1; simp at hjl1)
             have k1 := take_some (hS.get 0 rfl) o t q
             generalize (l3.take j).foldl tke L0 = A at *
             generalize ((List.range j).map (rot l3 K)).foldl tke L0 = C at *
             unfold nt at k1
             clear hx hat hjl1 hy0 hy hi
             go_wp2_with (first | (go_at_call 11; first | ((with_reducible refine k1.mono ?_); rintro e v1 ⟨⟨B1, E1, rfl⟩, hk1, hg1⟩; have hT1 := hS.turn 0 rfl hk1 hg1; have hat2 := HW3.out.carry hT1.below HNE.out; obtain ⟨b2, off2, e2, hbl2, hat2⟩ := hat2; cases e2; obtain ⟨d0, d1, d2⟩ := hat2 i _ HY.out; dsimp only at d0 d1 d2; have k2 := take_some (hT1.get 1 rfl) o' t' q'; unfold nt at k2; clear k1 hat2) | ((with_reducible refine k2.mono ?_); rintro e v2 ⟨⟨B2, E2, rfl⟩, hk2, hg2⟩; have hT2 := hT1.turn 1 rfl hk2 hg2)))
             have hEnd : Bks w [(pa, ga, (l3.take (j + 1)).foldl tke L0), (pb, gb, ((List.range (j + 1)).map (rot l3 K)).foldl tke L0), (pc, gc, L0)] v2 := by
               rw [HST1.out, HST2.out]
               exact hT2
             go_roundw
             case rel => exact ⟨j + 1, by simp, by omega, hEnd⟩
             case measure => simp [vnatR]; omega
           · have hjj : j = n := by omega
             subst hjj
             have HFin : Hid (∀ C, ((l3.drop 0).reverse).foldl tke L0 = C → decide ((l3.take j).foldl tke L0 = ((List.range j).map (rot l3 K)).foldl tke L0) = true ∧ decide (((List.range j).map (rot l3 K)).foldl tke L0 = (l3.take j).foldl tke L0) = true ∧ decide ((l3.take j).foldl tke L0 = C) = true) := by
               intro C hC
               subst hC
               have e1 : (l3.take j).foldl tke L0 = ((List.range j).map (rot l3 K)).foldl tke L0 := by
                 rw [List.take_of_length_le (by rw [HN.out]; exact Nat.le_refl _)]
                 have := rot_all l3 K (by rw [HN.out]; exact hK)
                 rw [HN.out] at this
                 exact (fold_perm this HB0.out).symm
               have e2 : (l3.take j).foldl tke L0 = ((l3.drop 0).reverse).foldl tke L0 := by
                 rw [List.take_of_length_le (by rw [HN.out]; exact Nat.le_refl _), List.drop_zero]
                 exact (fold_perm (List.reverse_perm l3) HB0.out).symm
               exact ⟨decide_eq_true e1, decide_eq_true e1.symm, decide_eq_true e2⟩
             have HLA : Hid (((l3.take j).foldl tke L0).length ≤ 6000000000000 ∧ (((List.range j).map (rot l3 K)).foldl tke L0).length ≤ 6000000000000) := by
               have h1 := (fold_tke (l3.take j) HB0.out).2.1
               have h2 := (fold_tke ((List.range j).map (rot l3 K)) HB0.out).2.1
               have := HL0.out
               exact ⟨by omega, by omega⟩
             generalize (l3.take j).foldl tke L0 = A at *
             generalize ((List.range j).map (rot l3 K)).foldl tke L0 = D at *
             go_wp2
             go_loopw [19] (fun i wz => ∃ (m : Nat), i = .int .i64 ((m : Int) - 1) ∧ m ≤ j ∧ Bks w [(pa, ga, A), (pb, gb, D), (pc, gc, ((l3.drop m).reverse).foldl tke L0)] wz) (fun i _ => vnatS i)
             case atStart =>
               refine ⟨j, rfl, Nat.le_refl _, ?_⟩
               rw [List.drop_of_length_le (by rw [HN.out]; exact Nat.le_refl _)]
               exact hS
             case round =>
               obtain ⟨m, rfl, hm, hT⟩ := hrel
               clear hS
               cases m with
               | zero =>
                 obtain ⟨C, hC⟩ : ∃ C, ((l3.drop 0).reverse).foldl tke L0 = C := ⟨_, rfl⟩
                 obtain ⟨f1, f2, f3⟩ := HFin.out C hC
                 rw [hC] at hT
                 have HF1 : Hid (decide (A = D) = true) := f1
                 have HF2 : Hid (decide (D = A) = true) := f2
                 have HF3 : Hid (decide (A = C) = true) := f3
                 have HS1 : Hid (∀ W, Bks w [(pa, ga, A), (pb, gb, D), (pc, gc, C)] W → Calls Try.prog 13 #[.pointer (some ⟨pa, 0, none⟩), .pointer (some ⟨pb, 0, none⟩)] W fun e w' => e = .returned (.bool true) ∧ Below W.heap.size W w') := fun W h => by rw [← f1]; exact bsame_any (h.get 0 rfl) (h.get 1 rfl) HLA.out.1
                 have HS2 : Hid (∀ W, Bks w [(pa, ga, A), (pb, gb, D), (pc, gc, C)] W → Calls Try.prog 13 #[.pointer (some ⟨pb, 0, none⟩), .pointer (some ⟨pa, 0, none⟩)] W fun e w' => e = .returned (.bool true) ∧ Below W.heap.size W w') := fun W h => by rw [← f2]; exact bsame_any (h.get 1 rfl) (h.get 0 rfl) HLA.out.2
                 have HS3 : Hid (∀ W, Bks w [(pa, ga, A), (pb, gb, D), (pc, gc, C)] W → Calls Try.prog 13 #[.pointer (some ⟨pa, 0, none⟩), .pointer (some ⟨pc, 0, none⟩)] W fun e w' => e = .returned (.bool true) ∧ Below W.heap.size W w') := fun W h => by rw [← f3]; exact bsame_any (h.get 0 rfl) (h.get 2 rfl) HLA.out.1
                 clear f1 f2 f3 hC
                 go_wp2_with (first | (go_at_call 10; (with_reducible refine (hal _).mono ?_); rintro e v1 ⟨rfl, hb1⟩; have hT1 := hT.carry hb1; have k1 := HS1.out _ hT1) | (go_at_call 13; first | ((with_reducible refine k1.mono ?_); rintro e v2 ⟨rfl, hb2⟩; have hT2 := hT1.carry hb2; have k2 := HS2.out _ hT2; clear k1) | ((with_reducible refine k2.mono ?_); rintro e v3 ⟨rfl, hb3⟩; have hT3 := hT2.carry hb3; have k3 := HS3.out _ hT3; clear k2) | ((with_reducible refine k3.mono ?_); rintro e v4 ⟨rfl, hb4⟩; have hT4 := hT3.carry hb4)))
                 go_ret
                 exact ⟨rfl, hT4.below⟩
               | succ i =>
                 have e0 : (((i + 1 : Nat) : Int) - 1) = (i : Int) := by omega
                 rw [e0]
                 have hil : i < l3.length := by rw [HN.out]; omega
                 have hi0 : (0 : Int) ≤ (i : Int) := by omega
                 have hi1 : (i : Int) ≤ (i : Int) + 1 := by omega
                 have hi2 : (i : Int) + 1 ≤ (cap3 : Int) := by omega
                 obtain ⟨⟨o, t, q⟩, hx⟩ : ∃ x, l3[i]? = some x := ⟨_, List.getElem?_eq_getElem hil⟩
                 obtain ⟨b, off, e1, hbl, hat⟩ := HW3.out.carry hT.below (fun e => by rw [e] at hil; simp at hil)
                 subst e1
                 have hm1 : RdN wr (some ⟨b, off + i * 3, none⟩) [(o, t, q)] := fun _ => ⟨b, off + i * 3, rfl, hbl, fun k x hk => by
                   match k, hk with
                   | 0, hk =>
                     obtain rfl := Option.some.inj hk
                     have := hat i _ hx
                     simpa using this
                   | _ + 1, hk => simp at hk⟩
                 have hbw2 : b < w.heap.size := by
                   obtain ⟨b', off', e', h', _⟩ := HW3.out (fun e => by rw [e] at hil; simp at hil)
                   cases e'
                   exact h'
                 have k1 := merge_some (hT.get 2 rfl) _ (cap3 - i) [(o, t, q)] hm1 (fun _ a ha => by obtain rfl := Option.some.inj ha; have := hT.base 2 rfl; simp only; omega) (by simp)
                 rw [mrg_one] at k1
                 have HST : Hid (((l3.drop i).reverse).foldl tke L0 = tke (((l3.drop (i + 1)).reverse).foldl tke L0) (o, t, q)) := by
                   show _ = _
                   have hd : l3.drop i = (o, t, q) :: l3.drop (i + 1) := by
                     obtain ⟨hlt, he⟩ := List.getElem?_eq_some_iff.1 hx
                     rw [List.drop_eq_getElem_cons hlt, he]
                   rw [hd, List.reverse_cons, List.foldl_append]
                   rfl
                 have k2 : Calls Try.prog 12 #[.pointer (some ⟨pc, 0, none⟩), .slice (some ⟨b, off + i * 3, none⟩) 1 (cap3 - i)] wr _ := k1
                 clear k1 hm1 hat hx
                 go_wp2_with (go_at_call 12; (with_reducible refine k2.mono ?_); rintro e v1 ⟨⟨MS, ME, rfl⟩, hk1, hg1⟩)
                 have hEnd : Bks w [(pa, ga, A), (pb, gb, D), (pc, gc, ((l3.drop i).reverse).foldl tke L0)] v1 := by
                   rw [HST.out]
                   exact hT.turn 2 rfl hk1 hg1
                 go_roundw
                 case rel => exact ⟨i, by simp, by omega, hEnd⟩
                 case measure => simp [vnatS]
        · go_enter Try.func3, Try.ntmps3
          go_wp2_with (first | (go_at_call 8; first | (have hz := hS0; (with_reducible refine (hnw _).mono ?_); rintro e u1 hV; obtain ⟨pa, ga, rfl, hp, hg, hk⟩ := HOK.out _ _ _ hV; have hS1 := hS0.add hV.1 hk hp hg; clear hS0 hz hV hp hg hk) | (have hz := hS1; (with_reducible refine (hnw _).mono ?_); rintro e u2 hV; obtain ⟨pb, gb, rfl, hp, hg, hk⟩ := HOK.out _ _ _ hV; have hS2 := hS1.add hV.1 hk hp hg; clear hS1 hz hV hp hg hk) | (have hz := hS2; (with_reducible refine (hnw _).mono ?_); rintro e u3 hV; obtain ⟨pc, gc, rfl, hp, hg, hk⟩ := HOK.out _ _ _ hV; have hS3 := hS2.add hV.1 hk hp hg; clear hS2 hz hV hp hg hk)) | (go_at_call 9; (with_reducible refine (hl3 _).mono ?_); rintro e u ⟨rfl, rfl⟩))
          clear htm w4 hne hne2 hl3 hnw HOK
          go_loopw [18] (fun i wz => ∃ (j : Nat), i = .int .i64 j ∧ j ≤ n ∧ Bks w [(pa, ga, (l3.take j).foldl tke L0), (pb, gb, ((List.range j).map (rot l3 K)).foldl tke L0), (pc, gc, L0)] wz) (fun i _ => n - vnatR i)
          case atStart => exact ⟨0, rfl, Nat.zero_le _, hS3⟩
          case round =>
           obtain ⟨j, rfl, hj, hS⟩ := hrel
           clear hS3
           by_cases hjl : j < n
           · have hji : (j : Int) < (n : Int) := by omega
             have hjl1 : j < l3.length := by rw [HN.out]; exact hjl
             obtain ⟨⟨o, t, q⟩, hx⟩ : ∃ x, l3[j]? = some x := ⟨_, List.getElem?_eq_getElem hjl1⟩
             have hy0 : l3[(j + K) % l3.length]? = some (rot l3 K j) := rot_get (by omega)
             rw [HN.out] at hy0
             obtain ⟨i, hi⟩ : ∃ i, (j + K) % n = i := ⟨_, rfl⟩
             have hil : i < n := by rw [← hi]; exact Nat.mod_lt _ hpos
             have hii : (i : Int) < (n : Int) := by omega
             have hmod : ((j : Int) + (K : Int)).tmod (n : Int) = (i : Int) := by
               rw [← hi, ← Int.natCast_add, ← Int.ofNat_tmod]
             rw [hi] at hy0
             obtain ⟨⟨o', t', q'⟩, hy⟩ : ∃ y, rot l3 K j = y := ⟨_, rfl⟩
             rw [hy] at hy0
             have HST1 : Hid ((l3.take (j + 1)).foldl tke L0 = tke ((l3.take j).foldl tke L0) (o, t, q)) := by
               show _ = _
               rw [List.take_add_one, hx]
               simp
             have HST2 : Hid (((List.range (j + 1)).map (rot l3 K)).foldl tke L0 = tke (((List.range j).map (rot l3 K)).foldl tke L0) (o', t', q')) := by
               show _ = _
               rw [List.range_succ, List.map_append, List.foldl_append, ← hy]
               rfl
             obtain ⟨b, off, e1, hbl, hat⟩ := HW3.out.carry hS.below (fun e => by rw [e] at hjl1; simp at hjl1)
             subst e1
             obtain ⟨c0, c1, c2⟩ := hat j _ hx
             dsimp only at c0 c1 c2
             have HY : Hid (l3[i]? = some (o', t', q')) := hy0
             have HNE : Hid (l3 ≠ []) := (fun e => by rw [e] at hjl1; simp at hjl1)
             have k1 := take_some (hS.get 0 rfl) o t q
             generalize (l3.take j).foldl tke L0 = A at *
             generalize ((List.range j).map (rot l3 K)).foldl tke L0 = C at *
             unfold nt at k1
             clear hx hat hjl1 hy0 hy hi
             go_wp2_with (first | (go_at_call 11; first | ((with_reducible refine k1.mono ?_); rintro e v1 ⟨⟨B1, E1, rfl⟩, hk1, hg1⟩; have hT1 := hS.turn 0 rfl hk1 hg1; have hat2 := HW3.out.carry hT1.below HNE.out; obtain ⟨b2, off2, e2, hbl2, hat2⟩ := hat2; cases e2; obtain ⟨d0, d1, d2⟩ := hat2 i _ HY.out; dsimp only at d0 d1 d2; have k2 := take_some (hT1.get 1 rfl) o' t' q'; unfold nt at k2; clear k1 hat2) | ((with_reducible refine k2.mono ?_); rintro e v2 ⟨⟨B2, E2, rfl⟩, hk2, hg2⟩; have hT2 := hT1.turn 1 rfl hk2 hg2)))
             have hEnd : Bks w [(pa, ga, (l3.take (j + 1)).foldl tke L0), (pb, gb, ((List.range (j + 1)).map (rot l3 K)).foldl tke L0), (pc, gc, L0)] v2 := by
               rw [HST1.out, HST2.out]
               exact hT2
             go_roundw
             case rel => exact ⟨j + 1, by simp, by omega, hEnd⟩
             case measure => simp [vnatR]; omega
           · have hjj : j = n := by omega
             subst hjj
             have HFin : Hid (∀ C, ((l3.drop 0).reverse).foldl tke L0 = C → decide ((l3.take j).foldl tke L0 = ((List.range j).map (rot l3 K)).foldl tke L0) = true ∧ decide (((List.range j).map (rot l3 K)).foldl tke L0 = (l3.take j).foldl tke L0) = true ∧ decide ((l3.take j).foldl tke L0 = C) = true) := by
               intro C hC
               subst hC
               have e1 : (l3.take j).foldl tke L0 = ((List.range j).map (rot l3 K)).foldl tke L0 := by
                 rw [List.take_of_length_le (by rw [HN.out]; exact Nat.le_refl _)]
                 have := rot_all l3 K (by rw [HN.out]; exact hK)
                 rw [HN.out] at this
                 exact (fold_perm this HB0.out).symm
               have e2 : (l3.take j).foldl tke L0 = ((l3.drop 0).reverse).foldl tke L0 := by
                 rw [List.take_of_length_le (by rw [HN.out]; exact Nat.le_refl _), List.drop_zero]
                 exact (fold_perm (List.reverse_perm l3) HB0.out).symm
               exact ⟨decide_eq_true e1, decide_eq_true e1.symm, decide_eq_true e2⟩
             have HLA : Hid (((l3.take j).foldl tke L0).length ≤ 6000000000000 ∧ (((List.range j).map (rot l3 K)).foldl tke L0).length ≤ 6000000000000) := by
               have h1 := (fold_tke (l3.take j) HB0.out).2.1
               have h2 := (fold_tke ((List.range j).map (rot l3 K)) HB0.out).2.1
               have := HL0.out
               exact ⟨by omega, by omega⟩
             generalize (l3.take j).foldl tke L0 = A at *
             generalize ((List.range j).map (rot l3 K)).foldl tke L0 = D at *
             go_wp2
             go_loopw [19] (fun i wz => ∃ (m : Nat), i = .int .i64 ((m : Int) - 1) ∧ m ≤ j ∧ Bks w [(pa, ga, A), (pb, gb, D), (pc, gc, ((l3.drop m).reverse).foldl tke L0)] wz) (fun i _ => vnatS i)
             case atStart =>
               refine ⟨j, rfl, Nat.le_refl _, ?_⟩
               rw [List.drop_of_length_le (by rw [HN.out]; exact Nat.le_refl _)]
               exact hS
             case round =>
               obtain ⟨m, rfl, hm, hT⟩ := hrel
               clear hS
               cases m with
               | zero =>
                 obtain ⟨C, hC⟩ : ∃ C, ((l3.drop 0).reverse).foldl tke L0 = C := ⟨_, rfl⟩
                 obtain ⟨f1, f2, f3⟩ := HFin.out C hC
                 rw [hC] at hT
                 have HF1 : Hid (decide (A = D) = true) := f1
                 have HF2 : Hid (decide (D = A) = true) := f2
                 have HF3 : Hid (decide (A = C) = true) := f3
                 have HS1 : Hid (∀ W, Bks w [(pa, ga, A), (pb, gb, D), (pc, gc, C)] W → Calls Try.prog 13 #[.pointer (some ⟨pa, 0, none⟩), .pointer (some ⟨pb, 0, none⟩)] W fun e w' => e = .returned (.bool true) ∧ Below W.heap.size W w') := fun W h => by rw [← f1]; exact bsame_any (h.get 0 rfl) (h.get 1 rfl) HLA.out.1
                 have HS2 : Hid (∀ W, Bks w [(pa, ga, A), (pb, gb, D), (pc, gc, C)] W → Calls Try.prog 13 #[.pointer (some ⟨pb, 0, none⟩), .pointer (some ⟨pa, 0, none⟩)] W fun e w' => e = .returned (.bool true) ∧ Below W.heap.size W w') := fun W h => by rw [← f2]; exact bsame_any (h.get 1 rfl) (h.get 0 rfl) HLA.out.2
                 have HS3 : Hid (∀ W, Bks w [(pa, ga, A), (pb, gb, D), (pc, gc, C)] W → Calls Try.prog 13 #[.pointer (some ⟨pa, 0, none⟩), .pointer (some ⟨pc, 0, none⟩)] W fun e w' => e = .returned (.bool true) ∧ Below W.heap.size W w') := fun W h => by rw [← f3]; exact bsame_any (h.get 0 rfl) (h.get 2 rfl) HLA.out.1
                 clear f1 f2 f3 hC
                 go_wp2_with (first | (go_at_call 10; (with_reducible refine (hal _).mono ?_); rintro e v1 ⟨rfl, hb1⟩; have hT1 := hT.carry hb1; have k1 := HS1.out _ hT1) | (go_at_call 13; first | ((with_reducible refine k1.mono ?_); rintro e v2 ⟨rfl, hb2⟩; have hT2 := hT1.carry hb2; have k2 := HS2.out _ hT2; clear k1) | ((with_reducible refine k2.mono ?_); rintro e v3 ⟨rfl, hb3⟩; have hT3 := hT2.carry hb3; have k3 := HS3.out _ hT3; clear k2) | ((with_reducible refine k3.mono ?_); rintro e v4 ⟨rfl, hb4⟩; have hT4 := hT3.carry hb4)))
                 go_ret
                 exact ⟨rfl, hT4.below⟩
               | succ i =>
                 have e0 : (((i + 1 : Nat) : Int) - 1) = (i : Int) := by omega
                 rw [e0]
                 have hil : i < l3.length := by rw [HN.out]; omega
                 have hi0 : (0 : Int) ≤ (i : Int) := by omega
                 have hi1 : (i : Int) ≤ (i : Int) + 1 := by omega
                 have hi2 : (i : Int) + 1 ≤ (cap3 : Int) := by omega
                 obtain ⟨⟨o, t, q⟩, hx⟩ : ∃ x, l3[i]? = some x := ⟨_, List.getElem?_eq_getElem hil⟩
                 obtain ⟨b, off, e1, hbl, hat⟩ := HW3.out.carry hT.below (fun e => by rw [e] at hil; simp at hil)
                 subst e1
                 have hm1 : RdN wr (some ⟨b, off + i * 3, none⟩) [(o, t, q)] := fun _ => ⟨b, off + i * 3, rfl, hbl, fun k x hk => by
                   match k, hk with
                   | 0, hk =>
                     obtain rfl := Option.some.inj hk
                     have := hat i _ hx
                     simpa using this
                   | _ + 1, hk => simp at hk⟩
                 have hbw2 : b < w.heap.size := by
                   obtain ⟨b', off', e', h', _⟩ := HW3.out (fun e => by rw [e] at hil; simp at hil)
                   cases e'
                   exact h'
                 have k1 := merge_some (hT.get 2 rfl) _ (cap3 - i) [(o, t, q)] hm1 (fun _ a ha => by obtain rfl := Option.some.inj ha; have := hT.base 2 rfl; simp only; omega) (by simp)
                 rw [mrg_one] at k1
                 have HST : Hid (((l3.drop i).reverse).foldl tke L0 = tke (((l3.drop (i + 1)).reverse).foldl tke L0) (o, t, q)) := by
                   show _ = _
                   have hd : l3.drop i = (o, t, q) :: l3.drop (i + 1) := by
                     obtain ⟨hlt, he⟩ := List.getElem?_eq_some_iff.1 hx
                     rw [List.drop_eq_getElem_cons hlt, he]
                   rw [hd, List.reverse_cons, List.foldl_append]
                   rfl
                 have k2 : Calls Try.prog 12 #[.pointer (some ⟨pc, 0, none⟩), .slice (some ⟨b, off + i * 3, none⟩) 1 (cap3 - i)] wr _ := k1
                 clear k1 hm1 hat hx
                 go_wp2_with (go_at_call 12; (with_reducible refine k2.mono ?_); rintro e v1 ⟨⟨MS, ME, rfl⟩, hk1, hg1⟩)
                 have hEnd : Bks w [(pa, ga, A), (pb, gb, D), (pc, gc, ((l3.drop i).reverse).foldl tke L0)] v1 := by
                   rw [HST.out]
                   exact hT.turn 2 rfl hk1 hg1
                 go_roundw
                 case rel => exact ⟨i, by simp, by omega, hEnd⟩
                 case measure => simp [vnatS]
      · obtain rfl : n = 0 := by omega
        go_enter Try.func3, Try.ntmps3
        go_wp2_with (first | (go_at_call 8; (with_reducible refine (hnw _).mono ?_); rintro e u hV; obtain ⟨p, g, rfl, hp, hg, hk⟩ := HOK.out _ _ _ hV; have hbw := bel2 hbw hV.1; clear hV hp hg hk) | (go_at_call 9; (with_reducible refine (hl3 _).mono ?_); rintro e u ⟨rfl, rfl⟩) | (go_at_call 10; (with_reducible refine (hal _).mono ?_); rintro e u ⟨rfl, hb⟩; have hbw := bel2 hbw hb))
        go_ret
        exact ⟨rfl, hbw⟩
    · rw [decide_eq_false h300] at hl3
      go_enter Try.func3, Try.ntmps3
      go_wp2_with (first | (go_at_call 8; (with_reducible refine (hnw _).mono ?_); rintro e u hV; obtain ⟨p, g, rfl, hp, hg, hk⟩ := HOK.out _ _ _ hV; have hbw := bel2 hbw hV.1; clear hV hp hg hk) | (go_at_call 9; (with_reducible refine (hl3 _).mono ?_); rintro e u ⟨rfl, rfl⟩) | (go_at_call 10; (with_reducible refine (hal _).mono ?_); rintro e u ⟨rfl, hb⟩; have hbw := bel2 hbw hb))
      go_ret
      exact ⟨rfl, hbw⟩
  · clear w3 hc3 hq3 w4
    go_enter Try.func3, Try.ntmps3
    go_wp2_with (first | (go_at_call 8; (with_reducible refine (hnw _).mono ?_); rintro e u hV; obtain ⟨E, hE, rfl⟩ := hV.bad hok; have hbw := bel2 hbw hV.1; clear hV) | (go_at_call 10; (with_reducible refine (hal _).mono ?_); rintro e u ⟨rfl, hb⟩; have hbw := bel2 hbw hb))
    go_ret
    exact ⟨rfl, hbw⟩

set_option maxRecDepth 100000 in
theorem lifted (os : Os) (started : os.Started) (H : Type) (enc : TypeId × Value → H) :
    ReturnsInHanded {} Try.checked os 3 .any (Rows.bookOrderSpec.pre6 enc Try.prog Try.f3 Rows.bookOrderRow.domain false) (Rows.bookOrderSpec.post enc Try.prog Try.f3 false true false false) := by
  refine returnsInHanded_of_change (C := Try.checked) own started (by kernel_rfl) Try.func3
    (ChangeSpec.witness6 (enc := enc) (C := Try.checked) false ⟨#[], #[.int .i64 0, .int .i64 0, .int .i64 0, .slice none 0 0, .int .i64 0], []⟩ 8 (by kernel_rfl) (by kernel_rfl) (by kernel_rfl) (by kernel_rfl)) ?_
  intro W base args ds gs before hval0 hW hcnd _
  have hval : ∀ (j : Nat) t v, Try.f3.params[j]? = some t → args[j]? = some v → Value.okWide Try.prog W .any base t v := hval0
  have hW' := hW
  obtain ⟨p, q, hA0, hV, rfl, hfz, hnd⟩ := hW
  have hA : DataW.TrodAll enc Try.prog W 0 (fun _ => true) true Try.f3.params.toList args.toList ds p := hA0
  rw [Try.params3] at hA hval
  obtain ⟨v0, vs0, d0, ds0, p0, q0, hargs, rfl, rfl, h0, r0⟩ := trodAll_cons hA
  obtain ⟨v1, vs1, d1, ds1, p1, q1, rfl, rfl, rfl, h1, r1⟩ := trodAll_cons r0
  obtain ⟨v2, vs2, d2, ds2, p2, q2, rfl, rfl, rfl, h2, r2⟩ := trodAll_cons r1
  obtain ⟨v3, vs3, d3, ds3, p3, q3, rfl, rfl, rfl, h3, r3⟩ := trodAll_cons r2
  obtain ⟨v4, vs4, d4, ds4, p4, q4, rfl, rfl, rfl, h4, r4⟩ := trodAll_cons r3
  obtain ⟨rfl, rfl, rfl⟩ := trodAll_nil r4
  obtain rfl : args = #[v0, v1, v2, v3, v4] := by cases args; simp_all
  obtain ⟨rfl, rfl⟩ := trodVars_none hV
  obtain ⟨a0, rfl, rfl, rfl, w0⟩ := open_int Try.underlying3 (hval 0 3 v0 rfl rfl) h0
  obtain ⟨a1, rfl, rfl, rfl, w1⟩ := open_int Try.underlying3 (hval 1 3 v1 rfl rfl) h1
  obtain ⟨a2, rfl, rfl, rfl, w2⟩ := open_int Try.underlying3 (hval 2 3 v2 rfl rfl) h2
  have k3 := h3
  have lt3 : ∀ x ∈ p3, x.block < W.heap.size := by obtain ⟨m, hm⟩ := k3; exact DataW.trod_lt m _ _ _ hm
  obtain ⟨ad3, cap3, l3, rfl, w3, hc3, hq3, hd3⟩ := open_nts (hval 3 22 v3 rfl rfl) h3
  obtain ⟨a4, rfl, rfl, rfl, w4⟩ := open_int Try.underlying3 (hval 4 3 v4 rfl rfl) h4
  clear hA0 hval0
  refine (walk W a0 w0 a1 w1 a2 w2 ad3 cap3 l3 w3 hc3 hq3 a4 w4).mono fun e W' ⟨he, hg⟩ => ?_
  subst he
  exact ⟨_, rfl, _, _, _, [], _, [], hW', (trodAll_cons_mk (shut_bool Try.underlying4 _) trodAll_mk0), (trodAll_cons_mk (shut_int Try.underlying3 w0) (trodAll_cons_mk (shut_int Try.underlying3 w1) (trodAll_cons_mk (shut_int Try.underlying3 w2) (trodAll_cons_mk (Below.trod laidOut (by kernel_rfl) (of_decide_eq_true (by kernel_rfl)) k3 hg lt3) (trodAll_cons_mk (shut_int Try.underlying3 w4) trodAll_mk0))))), rfl, hg.frame _, fun h => by cases h⟩

theorem over : Rows.bookOrderRow.holds Try.pinned (OpenSpec.ofChange Rows.bookOrderSpec) :=
  OpenClaim.holds_of_wide 3 Try.f3 rfl rfl rfl rfl rfl rfl rfl ⟨rfl, rfl, rfl, rfl, rfl⟩ rfl rfl rfl rfl rfl (by kernel_rfl) Try.func3 (by kernel_rfl)
    (of_decide_eq_true (by kernel_rfl)) (by unfold Func.isWrapper; first | (rw [if_pos (by decide +kernel)]; kernel_rfl) | (rw [if_neg (by decide +kernel)]; exact ⟨rfl, rfl⟩))
    (fun os started H enc _ => lifted os started H enc)

theorem proved : Rows.BookOrderSaid :=
  over
#print axioms proved
end Go.Proofs.Ytpphmfmfenifgaa
