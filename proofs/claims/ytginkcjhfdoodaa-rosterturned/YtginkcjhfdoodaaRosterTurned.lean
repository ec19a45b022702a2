/- RosterTurned: at every two texts and every number: signs in any order are the same set. -/
import Derived.Test.YtginkcjhfdoodaaRows
import Derived.WalkKit
import Derived.ProofKit
import Derived.OpenShut
import Derived.ChangeMaps5
import Derived.Test.YtginkcjhfdoodaaRps
import Derived.Test.YtginkcjhfdoodaaTrm
import Derived.Test.YtginkcjhfdoodaaCvr
import Derived.Test.YtginkcjhfdoodaaJxs
import Derived.Test.YtginkcjhfdoodaaRgf
namespace Go.Proofs.Ytginkcjhfdoodaa
open Go.ChangeShapes Go.WideShapes Go.ChangeAt Go.RowKit Go.ChangeMaps
set_option linter.unusedVariables false


theorem own : ownKnob Try.prog.godebug = none := by kernel_rfl
open Go.Shelf Go.Lib
theorem load_ros {W : World} {B : Nat} {u v : Value} (h : W.heap[B]? = some (.cells #[u, v] 25 (0, 0))) : (Instr.loadAt 25 (.pointer (some ⟨B, 0, none⟩))).run Try.prog W = .ok (.agg #[u, v]) W := by
  have c0 := cell_at h 0
  have c1 := cell_at h 1
  go_simp
/-- What lies there as the text is turned. -/
structure JK (w : World) (B C D : Nat) (ad : Option Addr) (cap : Nat) (mb : Option Nat) (l cs : List Int) (N : Nat) (W : World) : Prop where
  a : W.heap[B]? = some (.cells #[.slice ad l.length cap, .map mb] 25 (0, 0))
  x : Holds4 W C (wd N)
  r : Ros B W (.agg #[.slice ad l.length cap, .map mb]) l
  s : D < W.heap.size ∧ ∀ j x, cs[j]? = some x → W.cell? ⟨D, j, none⟩ = some (.int .i32 x)
  below : Below w.heap.size w W
  le : w.heap.size ≤ B ∧ B < C ∧ C < D
theorem JK.keep {w : World} {B C D : Nat} {ad : Option Addr} {cap : Nat} {mb : Option Nat} {l cs : List Int} {N : Nat} {W W' : World} (h : JK w B C D ad cap mb l cs N W) {lo : Nat} (hlo : D < lo) (hb : Below lo W W') : JK w B C D ad cap mb l cs N W' := by
  have h3 := h.le
  exact ⟨(hb.block _ (by omega)).trans h.a, h.x.keep hb (by omega), h.r.below (hb.mono (by omega)), ⟨Nat.lt_of_lt_of_le h.s.1 hb.size, fun j x hj => (hb.cell (p := ⟨D, j, none⟩) hlo).trans (h.s.2 j x hj)⟩, h.below.trans (hb.mono (by omega)), h.le⟩
theorem JK.carry {w : World} {B C D : Nat} {ad : Option Addr} {cap : Nat} {mb : Option Nat} {l cs : List Int} {N : Nat} (W W' : World) (h : JK w B C D ad cap mb l cs N W) (hb : Below W.heap.size W W') : JK w B C D ad cap mb l cs N W' := h.keep h.s.1 hb
theorem cv_part {W : World} {D : Nat} {cs : List Int} (hs : ∀ j x, cs[j]? = some x → W.cell? ⟨D, j, none⟩ = some (.int .i32 x)) (o n c : Nat) (hn : o + n ≤ cs.length) : (convert 22 9 (.slice (some ⟨D, o, none⟩) n c)).run Try.prog W = .ok (.string (txt ((cs.drop o).take n))) W := by
  have h := run_convert_runes (P := Try.prog) W 22 9 21 ⟨D, o, none⟩ n c (cs.drop o) (by rw [List.length_drop]; omega) Try.underlying22 Try.underlying21 Try.underlying9 (fun j hj => by
    rw [List.length_drop] at hj
    have ha : (⟨D, o, none⟩ : Addr).add j = ⟨D, o + j, none⟩ := by unfold Addr.add; split <;> simp_all
    rw [ha, List.getD_eq_getElem?_getD, List.getElem?_drop, List.getElem?_eq_getElem (by omega)]
    exact hs (o + j) _ (List.getElem?_eq_getElem (by omega)))
  rw [runesBytes_txt] at h
  exact h
theorem cv_drop {W : World} {D : Nat} {cs : List Int} (hs : ∀ j x, cs[j]? = some x → W.cell? ⟨D, j, none⟩ = some (.int .i32 x)) (k c : Nat) (hk : k ≤ cs.length) : (convert 22 9 (.slice (some ⟨D, k, none⟩) (cs.length - k) c)).run Try.prog W = .ok (.string (txt (cs.drop k))) W := by
  have h := cv_part hs k (cs.length - k) c (by omega)
  rw [List.take_of_length_le (by rw [List.length_drop]; omega)] at h
  exact h
theorem cv_take {W : World} {D : Nat} {cs : List Int} (hs : ∀ j x, cs[j]? = some x → W.cell? ⟨D, j, none⟩ = some (.int .i32 x)) (k c : Nat) (hk : k ≤ cs.length) : (convert 22 9 (.slice (some ⟨D, 0, none⟩) k c)).run Try.prog W = .ok (.string (txt (cs.take k))) W := by
  have h := cv_part hs 0 k c (by omega)
  rw [List.drop_zero] at h
  exact h
theorem sl_lo (W : World) (D n c k : Nat) (hk : k < n) (hc : n ≤ c) : (Instr.sliceAt 22 (.slice (some ⟨D, 0, none⟩) n c) (some (.int .i64 (k : Int))) none none).run Try.prog W = .ok (.slice (some ⟨D, k, none⟩) (n - k) (c - k)) W := by
  have h0 : (0 : Int) ≤ (k : Int) := by omega
  have h1 : (k : Int) ≤ (n : Int) := by omega
  have h2 : (n : Int) ≤ (c : Int) := by omega
  have h3 : ¬ c = k := by omega
  go_simp
theorem sl_hi (W : World) (D n c k : Nat) (hk : k ≤ n) (hc : n ≤ c) : (Instr.sliceAt 22 (.slice (some ⟨D, 0, none⟩) n c) none (some (.int .i64 (k : Int))) none).run Try.prog W = .ok (.slice (some ⟨D, 0, none⟩) k c) W := by
  have h0 : (0 : Int) ≤ (k : Int) := by omega
  have h1 : (k : Int) ≤ (c : Int) := by omega
  go_simp
theorem txt_cat (a b : List Int) : txt a ++ txt b = txt (a ++ b) := by
  apply ByteArray.ext
  apply Array.toList_inj.1
  rw [txt_data, wr_append, ← txt_data a, ← txt_data b]
  simp
theorem bin_cat {t : TypeId} {x y : Operand} {w : World} (ht : Try.prog.underlying t = some .string) (a b : List Int) (h : (txt (a ++ b)).size ≤ 65536) : binRun Try.prog .add t x y (.string (txt a)) (.string (txt b)) w = .ok (.string (txt (a ++ b))) w := by
  unfold binRun
  have hc := txt_cat a b
  have hb : (txt a ++ txt b).size ≤ 140737488355328 := by rw [hc]; omega
  have hm : (txt a ++ txt b).size ≤ maxLen := by unfold maxLen; omega
  rw [← hc]
  generalize txt a = p at *
  generalize txt b = q at *
  rw [ByteArray.size_append] at hb hm
  go_simp
  omega
set_option maxHeartbeats 4000000 in
set_option maxRecDepth 100000 in
theorem walk (s0 : ByteArray) (w0 : s0.size ≤ maxLen) (s1 : ByteArray) (w1 : s1.size ≤ maxLen) (a2 : Int) (w2 : (Lit.int .i64 a2).wf = true) (w : World) :
    Calls Try.prog 3 #[.string s0, .string s1, .int .i64 a2] w fun e w' => e = .returned (.bool true) ∧ Below w.heap.size w w' := by
  have hmx : Try.prog.follows .mixedOrders = true := by kernel_rfl
  have hrd := read_any s0 w0
  have hal := alive_any
  unfold RdV at hrd
  have hsg := readR_signs s0
  generalize readR s0 = R at *
  obtain ⟨l, x, y⟩ := R
  dsimp only at hrd hsg
  have hlt := parseR_lt hsg s1
  have HP : Hid (∀ (M : Nat) (v : Value) (W : World), Ros M W v l → M ≤ W.heap.size → Calls Try.prog 8 #[v, .string s1] W fun e w' => e = .returned (psV (parseR l s1)) ∧ Below W.heap.size W w') := fun M v W h hM => parse_any W h hM s1 w1
  by_cases hC : s1 ≠ dash ∧ (parseR l s1).2.2 = 0
  · have hturn := parse_turned hsg hC.1 hC.2
    obtain ⟨_, hpos, hsz⟩ := hturn 0
    have HT : Hid (∀ k M v (W : World), Ros M W v l → M ≤ W.heap.size → Calls Try.prog 8 #[v, .string (txt ((charsOf s1).drop k ++ (charsOf s1).take k))] W fun e w' => e = .returned (psV (parseR l s1)) ∧ Below W.heap.size W w') := fun k M v W h hM => by
      have h1 := txt_size ((charsOf s1).drop k ++ (charsOf s1).take k)
      have h2 : ((charsOf s1).drop k ++ (charsOf s1).take k).length ≤ 65536 := by
        have := charsFrom_length s1 s1.size 0 (by omega)
        have e : charsFrom s1 s1.size 0 = charsOf s1 := rfl
        rw [e] at this
        simp
        omega
      have := parse_any W h hM (txt ((charsOf s1).drop k ++ (charsOf s1).take k)) (by unfold maxLen; omega)
      rw [(hturn k).1] at this
      exact this
    have HZ : Hid (∀ k, (txt ((charsOf s1).drop k ++ (charsOf s1).take k)).size ≤ 65536) := fun k => by
      have h1 : (parseR l s1).2.2 = 0 := hC.2
      rw [← (hturn k).1] at h1
      unfold parseR at h1
      by_cases h2 : 65536 < (txt ((charsOf s1).drop k ++ (charsOf s1).take k)).size
      · rw [if_pos h2] at h1; cases h1
      · omega
    have hcl : (charsOf s1).length ≤ 65536 := by
      have := charsFrom_length s1 s1.size 0 (by omega)
      have e : charsFrom s1 s1.size 0 = charsOf s1 := rfl
      rw [e] at this
      omega
    have hd := dash_ne hC.1
    have he := hC.2
    obtain ⟨capf, cf, hcv, hcap, hcell⟩ := conv_runes s1 hsz
    clear hC hturn
    generalize parseR l s1 = P at *
    obtain ⟨N, pa, pb⟩ := P
    dsimp only at hlt he
    subst he
    have hq := eqn4 N N (s100_128 hlt) (s100_128 hlt)
    rw [decide_eq_true rfl] at hq
    have hN := s100_128 hlt
    unfold psV at HP HT
    dsimp only at HP HT
    generalize charsOf s1 = cs at *
    simp only [sv] at HP hq
    obtain ⟨k, hk, hrem⟩ : ∃ k : Nat, k < cs.length ∧ (a2.tmod (cs.length : Int) = (k : Int) ∨ a2.tmod (cs.length : Int) = (k : Int) - (cs.length : Int) ∧ a2.tmod (cs.length : Int) < 0) := by
      have hb1 : a2.tmod (cs.length : Int) < (cs.length : Int) := Int.tmod_lt_of_pos a2 (by omega)
      have hb2 : -(cs.length : Int) < a2.tmod (cs.length : Int) := by
        have h3 := Int.tmod_lt_of_pos (-a2) (show 0 < (cs.length : Int) by omega)
        rw [Int.neg_tmod] at h3
        omega
      by_cases hs : a2.tmod (cs.length : Int) < 0
      · exact ⟨(a2.tmod (cs.length : Int) + (cs.length : Int)).toNat, by omega, .inr ⟨by omega, hs⟩⟩
      · exact ⟨(a2.tmod (cs.length : Int)).toNat, by omega, .inl (by omega)⟩
    have t0 : ¬ cs.length = 0 := by omega
    have t1 : ¬ (cs.length : Int) = 0 := by omega
    have t2 : ((cs.length : Int) == 0) = false := beq_eq_false_iff_ne.2 t1
    have t3 : cs ≠ [] := fun e => by subst e; simp at hpos
    rcases hrem with hrem | ⟨hrem, hneg⟩
    · skip
      have t4 : ¬ (k : Int) < 0 := by omega
      go_enter Try.func3, Try.ntmps3
      go_wp2_with (first | (go_at_call 7; refine (hrd _).mono ?_; rintro e u1 ⟨⟨v, rfl, hv⟩, hb1⟩; obtain ⟨ad, cap, mb, rfl⟩ := hv.form; have hz1 := hb1.size; have hv1 := hv.alloc (Nat.le_refl _) (.cells #[.slice ad l.length cap, .map mb] 25)) | (go_at_call 8; refine (HP.out _ _ _ hv1 (by simp)).mono ?_; rintro e u2 ⟨rfl, hb2⟩; have hz2 : u1.heap.size + 1 ≤ u2.heap.size := (by simpa using hb2.size)))
      have hcc := hcap (u2.alloc (.cells (cells4 (wd N)) 31))
      have hcel := hcell (u2.alloc (.cells (cells4 (wd N)) 31))
      have hj0 : JK w u1.heap.size u2.heap.size (u2.heap.size + 1) ad cap mb l cs N ((u2.alloc (.cells (cells4 (wd N)) 31)).drew.alloc (.cells (cf (u2.alloc (.cells (cells4 (wd N)) 31))) 21)) := by
        have hn : ((u2.alloc (.cells (cells4 (wd N)) 31)).drew.alloc (.cells (cf (u2.alloc (.cells (cells4 (wd N)) 31))) 21)).heap[u2.heap.size + 1]? = some (.cells (cf (u2.alloc (.cells (cells4 (wd N)) 31))) 21 (0, 0)) := new_at (by show u2.heap.size + 1 = (u2.alloc _).heap.size; simp)
        have hb3 : Below u2.heap.size u2 ((u2.alloc (.cells (cells4 (wd N)) 31)).drew.alloc (.cells (cf (u2.alloc (.cells (cells4 (wd N)) 31))) 21)) := ((Below.refl _ u2).alloc (Nat.le_refl _) _).drew.alloc (by show u2.heap.size ≤ (u2.alloc _).heap.size; simp) _
        refine ⟨(hb3.block _ (by omega)).trans ((hb2.block _ (by simp)).trans (new_at rfl)), ?_, (hv1.call (by simp) hb2).below (hb3.mono (by omega)), ⟨lt_at hn, fun j x hj => (cell_at hn j).trans (hcel j x hj)⟩, (((hb1.alloc hz1 _).trans (hb2.mono (by simp; omega))).trans (hb3.mono (by omega))), hz1, by omega, by omega⟩
        exact old_at (w := (u2.alloc (.cells (cells4 (wd N)) 31)).drew) (new_at (w := u2) rfl)
      rename_i Q0 K0 hK
      refine wp_region_any hmx ?_
      refine wpAny_tabG (G := (Nat)) (fun g i__ => ([(.agg #[.slice ad l.length cap, .map mb]), (.slice (some ⟨u2.heap.size + 1, 0, none⟩) cs.length (capf (u2.alloc (.cells (cells4 (wd N)) 31)))), (.int .i64 (k : Int)), (.slice (some ⟨u2.heap.size + 1, k, none⟩) (cs.length - k) (capf (u2.alloc (.cells (cells4 (wd N)) 31)) - k)), (.string (txt (cs.drop k))), (.slice (some ⟨u2.heap.size + 1, 0, none⟩) cs.length (capf (u2.alloc (.cells (cells4 (wd N)) 31)))), (.int .i64 (k : Int)), (.slice (some ⟨u2.heap.size + 1, 0, none⟩) k (capf (u2.alloc (.cells (cells4 (wd N)) 31)))), (.string (txt (cs.take k))), (.string (txt (cs.drop k ++ cs.take k))), (.tuple #[sv N, .int .i64 pa, .int .i64 0]), (.tuple #[sv N, .int .i64 pa, .int .i64 0]), (sv N), (.int .i64 pa), (.int .i64 0), (.pointer (some ⟨g, 0, none⟩)), undef, (.int .i64 pa), (.int .i64 0)] : List Value).getD i__ undef) (fun g d W' => JX (JK w u1.heap.size u2.heap.size (u2.heap.size + 1) ad cap mb l cs N) N (u2.heap.size + 2) g (d 15) (d 16) W') (by kernel_rfl) (0) ⟨hj0.carry _ _ (Below.refl _ _).drew, by have := hj0.s.1; exact this, (fun e => by cases e)⟩ ?step1 ?fin1
      case step1 =>
        intro i o ho
        have hi : i < 19 := getElem?_lt ho
        match i, hi, ho with
        | 0, _, ho =>
          cases ho
          refine stepG_of (fun g d hdep => ?_)
          exact step_load rfl trivial _ _ _ rfl rfl (fun w hw => load_ros hw.p.a)
        | 1, _, ho =>
          cases ho
          refine stepG_of (fun g d hdep => ?_)
          exact step_move rfl trivial _ rfl (by kernel_rfl)
        | 2, _, ho =>
          cases ho
          refine stepG_of (fun g d hdep => ?_)
          exact step_move rfl trivial _ rfl (by kernel_rfl)
        | 3, _, ho =>
          cases ho
          refine stepG_of (fun g d hdep => ?_)
          exact step_slice rfl trivial _ _ _ _ _ (some (.int .i64 (k : Int))) none rfl rfl rfl rfl (fun w hw => sl_lo w _ _ _ _ hk hcc)
        | 4, _, ho =>
          cases ho
          refine stepG_of (fun g d hdep => ?_)
          exact step_convert rfl trivial _ _ _ _ rfl rfl (fun w hw => cv_drop hw.p.s.2 k _ (by omega))
        | 5, _, ho =>
          cases ho
          refine stepG_of (fun g d hdep => ?_)
          exact step_move rfl trivial _ rfl (by kernel_rfl)
        | 6, _, ho =>
          cases ho
          refine stepG_of (fun g d hdep => ?_)
          exact step_move rfl trivial _ rfl (by kernel_rfl)
        | 7, _, ho =>
          cases ho
          refine stepG_of (fun g d hdep => ?_)
          exact step_slice rfl trivial _ _ _ _ _ none (some (.int .i64 (k : Int))) rfl rfl rfl rfl (fun w hw => sl_hi w _ _ _ _ (by omega) hcc)
        | 8, _, ho =>
          cases ho
          refine stepG_of (fun g d hdep => ?_)
          exact step_convert rfl trivial _ _ _ _ rfl rfl (fun w hw => cv_take hw.p.s.2 k _ (by omega))
        | 9, _, ho =>
          cases ho
          refine stepG_of (fun g d hdep => ?_)
          exact step_binOp rfl trivial _ _ _ _ _ _ _ rfl rfl rfl (fun w hw => bin_cat Try.underlying9 _ _ (HZ.out k))
        | 10, _, ho =>
          cases ho
          refine stepG_of (fun g d hdep => ?_)
          exact step_call rfl trivial 8 _ _ [(.agg #[.slice ad l.length cap, .map mb]), (.string (txt (cs.drop k ++ cs.take k)))] rfl (by kernel_rfl) (enters_of Try.func8 (by kernel_rfl) rfl) (fun w hw => (HT.out k _ _ w hw.p.r (Nat.le_of_lt (lt_at hw.p.a))).mono (by rintro e w' ⟨rfl, hb⟩; exact ⟨rfl, hw.carry JK.carry hb⟩))
        | 11, _, ho =>
          cases ho
          refine stepG_of (fun g d hdep => ?_)
          exact step_move rfl trivial _ rfl (by kernel_rfl)
        | 12, _, ho =>
          cases ho
          refine stepG_of (fun g d hdep => ?_)
          exact step_extract rfl trivial _ _ _ rfl rfl (fun w hw => ext3_0 _ _ _ w)
        | 13, _, ho =>
          cases ho
          refine stepG_of (fun g d hdep => ?_)
          exact step_extract rfl trivial _ _ _ rfl rfl (fun w hw => ext3_1 _ _ _ w)
        | 14, _, ho =>
          cases ho
          refine stepG_of (fun g d hdep => ?_)
          exact step_extract rfl trivial _ _ _ rfl rfl (fun w hw => ext3_2 _ _ _ w)
        | 15, _, ho =>
          cases ho
          exact stepG_new rfl rfl rfl (fun g d W' hJ hun hcl => ⟨W'.heap.size, (fun j hj => match j, hj with | 15, hj => (by rw [hj] at hun; cases hun)  | 0, _ => rfl | 1, _ => rfl | 2, _ => rfl | 3, _ => rfl | 4, _ => rfl | 5, _ => rfl | 6, _ => rfl | 7, _ => rfl | 8, _ => rfl | 9, _ => rfl | 10, _ => rfl | 11, _ => rfl | 12, _ => rfl | 13, _ => rfl | 14, _ => rfl | 16, _ => rfl | 17, _ => rfl | 18, _ => rfl | _ + 19, _ => rfl), rfl, JX.new JK.carry hJ (by show d 16 = false; cases h : d 16 with | false => rfl | true => exact absurd (hcl 16 _ rfl h 15 (by kernel_rfl)) (by rw [hun]; simp))⟩)
        | 16, _, ho =>
          cases ho
          refine stepG_of (fun g d hdep => ?_)
          exact step_store rfl trivial rfl _ _ _ _ _ rfl rfl rfl (fun w' hw => ⟨_, wstore4 w' _ _ N (hw.t (hdep 15 (by kernel_rfl))).2, by have h6 := hdep 15 (by kernel_rfl); rw [h6] at hw; have := JX.store (fun W2 h2 hl2 => h2.keep (by omega) ((below_set4 W2 g N).mono hl2)) hw; simpa [h6] using this⟩)
        | 17, _, ho =>
          cases ho
          refine stepG_of (fun g d hdep => ?_)
          exact step_assign rfl trivial _ rfl (by kernel_rfl) (fun _ h => h)
        | 18, _, ho =>
          cases ho
          refine stepG_of (fun g d hdep => ?_)
          exact step_assign rfl trivial _ rfl (by kernel_rfl) (fun _ h => h)
      intro g d W hall hW
      first | refine hK _ _ ?_ | refine (‹∀ (a : Act) (w : World), Code.wp Try.prog _ _ a w → _›) _ _ ?_
      simp only [finL, List.getD_cons_zero, List.getD_cons_succ, Nat.zero_add, Nat.reduceAdd, List.setIfInBounds_toArray, List.set_cons_zero, List.set_cons_succ]
      obtain ⟨gt, e1⟩ : ∃ gt, gt = g := ⟨_, rfl⟩
      subst e1
      obtain ⟨Wt, e2⟩ : ∃ Wt, Wt = W := ⟨_, rfl⟩
      subst e2
      rw [hall 15 (by decide), hall 16 (by decide)] at hW
      clear hK hall
      obtain ⟨hD2, hlt2, ht2⟩ := hW
      obtain ⟨hg2, hT2⟩ := ht2 rfl
      simp only [if_true] at hT2
      have HD : Hid (JK w u1.heap.size u2.heap.size (u2.heap.size + 1) ad cap mb l cs N Wt) := hD2
      have HG : Hid (Holds4 Wt gt (wd N)) := hT2
      clear ht2 hD2 hT2 hj0 hcel hcell
      go_wp2_with (go_at_call 9; refine (hal _).mono ?_; rintro e u5 ⟨rfl, hb5⟩; have m7 := HD.out.x.carry hb5; have n7 := HG.out.carry hb5; obtain ⟨k0, k1, k2, k3, _⟩ := m7.facts; obtain ⟨o0, o1, o2, o3, _⟩ := n7.facts; have hm7 := m7.lt; have hn7 := n7.lt; clear m7 n7)
      go_ret
      exact ⟨rfl, bcarry HD.out.below (Nat.le_refl _) hb5⟩
    · skip
      have t4 : (k : Int) - (cs.length : Int) < 0 := by omega
      have t5 : (k : Int) - (cs.length : Int) + (cs.length : Int) = (k : Int) := by omega
      go_enter Try.func3, Try.ntmps3
      go_wp2_with (first | (go_at_call 7; refine (hrd _).mono ?_; rintro e u1 ⟨⟨v, rfl, hv⟩, hb1⟩; obtain ⟨ad, cap, mb, rfl⟩ := hv.form; have hz1 := hb1.size; have hv1 := hv.alloc (Nat.le_refl _) (.cells #[.slice ad l.length cap, .map mb] 25)) | (go_at_call 8; refine (HP.out _ _ _ hv1 (by simp)).mono ?_; rintro e u2 ⟨rfl, hb2⟩; have hz2 : u1.heap.size + 1 ≤ u2.heap.size := (by simpa using hb2.size)))
      have hcc := hcap (u2.alloc (.cells (cells4 (wd N)) 31))
      have hcel := hcell (u2.alloc (.cells (cells4 (wd N)) 31))
      have hj0 : JK w u1.heap.size u2.heap.size (u2.heap.size + 1) ad cap mb l cs N ((u2.alloc (.cells (cells4 (wd N)) 31)).drew.alloc (.cells (cf (u2.alloc (.cells (cells4 (wd N)) 31))) 21)) := by
        have hn : ((u2.alloc (.cells (cells4 (wd N)) 31)).drew.alloc (.cells (cf (u2.alloc (.cells (cells4 (wd N)) 31))) 21)).heap[u2.heap.size + 1]? = some (.cells (cf (u2.alloc (.cells (cells4 (wd N)) 31))) 21 (0, 0)) := new_at (by show u2.heap.size + 1 = (u2.alloc _).heap.size; simp)
        have hb3 : Below u2.heap.size u2 ((u2.alloc (.cells (cells4 (wd N)) 31)).drew.alloc (.cells (cf (u2.alloc (.cells (cells4 (wd N)) 31))) 21)) := ((Below.refl _ u2).alloc (Nat.le_refl _) _).drew.alloc (by show u2.heap.size ≤ (u2.alloc _).heap.size; simp) _
        refine ⟨(hb3.block _ (by omega)).trans ((hb2.block _ (by simp)).trans (new_at rfl)), ?_, (hv1.call (by simp) hb2).below (hb3.mono (by omega)), ⟨lt_at hn, fun j x hj => (cell_at hn j).trans (hcel j x hj)⟩, (((hb1.alloc hz1 _).trans (hb2.mono (by simp; omega))).trans (hb3.mono (by omega))), hz1, by omega, by omega⟩
        exact old_at (w := (u2.alloc (.cells (cells4 (wd N)) 31)).drew) (new_at (w := u2) rfl)
      rename_i Q0 K0 hK
      refine wp_region_any hmx ?_
      refine wpAny_tabG (G := (Nat)) (fun g i__ => ([(.agg #[.slice ad l.length cap, .map mb]), (.slice (some ⟨u2.heap.size + 1, 0, none⟩) cs.length (capf (u2.alloc (.cells (cells4 (wd N)) 31)))), (.int .i64 (k : Int)), (.slice (some ⟨u2.heap.size + 1, k, none⟩) (cs.length - k) (capf (u2.alloc (.cells (cells4 (wd N)) 31)) - k)), (.string (txt (cs.drop k))), (.slice (some ⟨u2.heap.size + 1, 0, none⟩) cs.length (capf (u2.alloc (.cells (cells4 (wd N)) 31)))), (.int .i64 (k : Int)), (.slice (some ⟨u2.heap.size + 1, 0, none⟩) k (capf (u2.alloc (.cells (cells4 (wd N)) 31)))), (.string (txt (cs.take k))), (.string (txt (cs.drop k ++ cs.take k))), (.tuple #[sv N, .int .i64 pa, .int .i64 0]), (.tuple #[sv N, .int .i64 pa, .int .i64 0]), (sv N), (.int .i64 pa), (.int .i64 0), (.pointer (some ⟨g, 0, none⟩)), undef, (.int .i64 pa), (.int .i64 0)] : List Value).getD i__ undef) (fun g d W' => JX (JK w u1.heap.size u2.heap.size (u2.heap.size + 1) ad cap mb l cs N) N (u2.heap.size + 2) g (d 15) (d 16) W') (by kernel_rfl) (0) ⟨hj0.carry _ _ (Below.refl _ _).drew, by have := hj0.s.1; exact this, (fun e => by cases e)⟩ ?step2 ?fin2
      case step2 =>
        intro i o ho
        have hi : i < 19 := getElem?_lt ho
        match i, hi, ho with
        | 0, _, ho =>
          cases ho
          refine stepG_of (fun g d hdep => ?_)
          exact step_load rfl trivial _ _ _ rfl rfl (fun w hw => load_ros hw.p.a)
        | 1, _, ho =>
          cases ho
          refine stepG_of (fun g d hdep => ?_)
          exact step_move rfl trivial _ rfl (by kernel_rfl)
        | 2, _, ho =>
          cases ho
          refine stepG_of (fun g d hdep => ?_)
          exact step_move rfl trivial _ rfl (by kernel_rfl)
        | 3, _, ho =>
          cases ho
          refine stepG_of (fun g d hdep => ?_)
          exact step_slice rfl trivial _ _ _ _ _ (some (.int .i64 (k : Int))) none rfl rfl rfl rfl (fun w hw => sl_lo w _ _ _ _ hk hcc)
        | 4, _, ho =>
          cases ho
          refine stepG_of (fun g d hdep => ?_)
          exact step_convert rfl trivial _ _ _ _ rfl rfl (fun w hw => cv_drop hw.p.s.2 k _ (by omega))
        | 5, _, ho =>
          cases ho
          refine stepG_of (fun g d hdep => ?_)
          exact step_move rfl trivial _ rfl (by kernel_rfl)
        | 6, _, ho =>
          cases ho
          refine stepG_of (fun g d hdep => ?_)
          exact step_move rfl trivial _ rfl (by kernel_rfl)
        | 7, _, ho =>
          cases ho
          refine stepG_of (fun g d hdep => ?_)
          exact step_slice rfl trivial _ _ _ _ _ none (some (.int .i64 (k : Int))) rfl rfl rfl rfl (fun w hw => sl_hi w _ _ _ _ (by omega) hcc)
        | 8, _, ho =>
          cases ho
          refine stepG_of (fun g d hdep => ?_)
          exact step_convert rfl trivial _ _ _ _ rfl rfl (fun w hw => cv_take hw.p.s.2 k _ (by omega))
        | 9, _, ho =>
          cases ho
          refine stepG_of (fun g d hdep => ?_)
          exact step_binOp rfl trivial _ _ _ _ _ _ _ rfl rfl rfl (fun w hw => bin_cat Try.underlying9 _ _ (HZ.out k))
        | 10, _, ho =>
          cases ho
          refine stepG_of (fun g d hdep => ?_)
          exact step_call rfl trivial 8 _ _ [(.agg #[.slice ad l.length cap, .map mb]), (.string (txt (cs.drop k ++ cs.take k)))] rfl (by kernel_rfl) (enters_of Try.func8 (by kernel_rfl) rfl) (fun w hw => (HT.out k _ _ w hw.p.r (Nat.le_of_lt (lt_at hw.p.a))).mono (by rintro e w' ⟨rfl, hb⟩; exact ⟨rfl, hw.carry JK.carry hb⟩))
        | 11, _, ho =>
          cases ho
          refine stepG_of (fun g d hdep => ?_)
          exact step_move rfl trivial _ rfl (by kernel_rfl)
        | 12, _, ho =>
          cases ho
          refine stepG_of (fun g d hdep => ?_)
          exact step_extract rfl trivial _ _ _ rfl rfl (fun w hw => ext3_0 _ _ _ w)
        | 13, _, ho =>
          cases ho
          refine stepG_of (fun g d hdep => ?_)
          exact step_extract rfl trivial _ _ _ rfl rfl (fun w hw => ext3_1 _ _ _ w)
        | 14, _, ho =>
          cases ho
          refine stepG_of (fun g d hdep => ?_)
          exact step_extract rfl trivial _ _ _ rfl rfl (fun w hw => ext3_2 _ _ _ w)
        | 15, _, ho =>
          cases ho
          exact stepG_new rfl rfl rfl (fun g d W' hJ hun hcl => ⟨W'.heap.size, (fun j hj => match j, hj with | 15, hj => (by rw [hj] at hun; cases hun)  | 0, _ => rfl | 1, _ => rfl | 2, _ => rfl | 3, _ => rfl | 4, _ => rfl | 5, _ => rfl | 6, _ => rfl | 7, _ => rfl | 8, _ => rfl | 9, _ => rfl | 10, _ => rfl | 11, _ => rfl | 12, _ => rfl | 13, _ => rfl | 14, _ => rfl | 16, _ => rfl | 17, _ => rfl | 18, _ => rfl | _ + 19, _ => rfl), rfl, JX.new JK.carry hJ (by show d 16 = false; cases h : d 16 with | false => rfl | true => exact absurd (hcl 16 _ rfl h 15 (by kernel_rfl)) (by rw [hun]; simp))⟩)
        | 16, _, ho =>
          cases ho
          refine stepG_of (fun g d hdep => ?_)
          exact step_store rfl trivial rfl _ _ _ _ _ rfl rfl rfl (fun w' hw => ⟨_, wstore4 w' _ _ N (hw.t (hdep 15 (by kernel_rfl))).2, by have h6 := hdep 15 (by kernel_rfl); rw [h6] at hw; have := JX.store (fun W2 h2 hl2 => h2.keep (by omega) ((below_set4 W2 g N).mono hl2)) hw; simpa [h6] using this⟩)
        | 17, _, ho =>
          cases ho
          refine stepG_of (fun g d hdep => ?_)
          exact step_assign rfl trivial _ rfl (by kernel_rfl) (fun _ h => h)
        | 18, _, ho =>
          cases ho
          refine stepG_of (fun g d hdep => ?_)
          exact step_assign rfl trivial _ rfl (by kernel_rfl) (fun _ h => h)
      intro g d W hall hW
      first | refine hK _ _ ?_ | refine (‹∀ (a : Act) (w : World), Code.wp Try.prog _ _ a w → _›) _ _ ?_
      simp only [finL, List.getD_cons_zero, List.getD_cons_succ, Nat.zero_add, Nat.reduceAdd, List.setIfInBounds_toArray, List.set_cons_zero, List.set_cons_succ]
      obtain ⟨gt, e1⟩ : ∃ gt, gt = g := ⟨_, rfl⟩
      subst e1
      obtain ⟨Wt, e2⟩ : ∃ Wt, Wt = W := ⟨_, rfl⟩
      subst e2
      rw [hall 15 (by decide), hall 16 (by decide)] at hW
      clear hK hall
      obtain ⟨hD2, hlt2, ht2⟩ := hW
      obtain ⟨hg2, hT2⟩ := ht2 rfl
      simp only [if_true] at hT2
      have HD : Hid (JK w u1.heap.size u2.heap.size (u2.heap.size + 1) ad cap mb l cs N Wt) := hD2
      have HG : Hid (Holds4 Wt gt (wd N)) := hT2
      clear ht2 hD2 hT2 hj0 hcel hcell
      go_wp2_with (go_at_call 9; refine (hal _).mono ?_; rintro e u5 ⟨rfl, hb5⟩; have m7 := HD.out.x.carry hb5; have n7 := HG.out.carry hb5; obtain ⟨k0, k1, k2, k3, _⟩ := m7.facts; obtain ⟨o0, o1, o2, o3, _⟩ := n7.facts; have hm7 := m7.lt; have hn7 := n7.lt; clear m7 n7)
      go_ret
      exact ⟨rfl, bcarry HD.out.below (Nat.le_refl _) hb5⟩
  · have hd : (s1.toList == [45]) = true ∨ (parseR l s1).2.2 ≠ 0 := by
      by_cases h1 : s1 = dash
      · left; rw [h1, Lib.toList_data]; rfl
      · right; exact fun e => hC ⟨h1, e⟩
    clear hC
    generalize parseR l s1 = P at *
    obtain ⟨N, pa, pb⟩ := P
    dsimp only at hd
    unfold psV at HP
    dsimp only at HP
    simp only [sv] at HP
    by_cases hb : pb = 0
    · have hd2 : (s1.toList == [45]) = true := by
        rcases hd with h | h
        · exact h
        · exact absurd hb h
      subst hb
      clear hd
      go_enter Try.func3, Try.ntmps3
      go_wp2_with (first | (go_at_call 7; refine (hrd _).mono ?_; rintro e u1 ⟨⟨v, rfl, hv⟩, hb1⟩; obtain ⟨ad, cap, mb, rfl⟩ := hv.form; have hz1 := hb1.size; have hv1 := hv.alloc (Nat.le_refl _) (.cells #[.slice ad l.length cap, .map mb] 25)) | (go_at_call 8; refine (HP.out _ _ _ hv1 (by simp)).mono ?_; rintro e u2 ⟨rfl, hb2⟩; have hz2 : u1.heap.size + 1 ≤ u2.heap.size := (by simpa using hb2.size)) | (go_at_call 9; refine (hal _).mono ?_; rintro e u5 ⟨rfl, hb5⟩))
      go_ret
      exact ⟨rfl, bcarry (((hb1.alloc hz1 _).trans (hb2.mono (by simp; omega))).alloc (by omega) _) (Nat.le_refl _) hb5⟩
    · have hb2 : (pb == 0) = false := beq_eq_false_iff_ne.2 hb
      clear hd
      go_enter Try.func3, Try.ntmps3
      go_wp2_with (first | (go_at_call 7; refine (hrd _).mono ?_; rintro e u1 ⟨⟨v, rfl, hv⟩, hb1⟩; obtain ⟨ad, cap, mb, rfl⟩ := hv.form; have hz1 := hb1.size; have hv1 := hv.alloc (Nat.le_refl _) (.cells #[.slice ad l.length cap, .map mb] 25)) | (go_at_call 8; refine (HP.out _ _ _ hv1 (by simp)).mono ?_; rintro e u2 ⟨rfl, hb2⟩; have hz2 : u1.heap.size + 1 ≤ u2.heap.size := (by simpa using hb2.size)) | (go_at_call 9; refine (hal _).mono ?_; rintro e u5 ⟨rfl, hb5⟩))
      go_ret
      exact ⟨rfl, bcarry (((hb1.alloc hz1 _).trans (hb2.mono (by simp; omega))).alloc (by omega) _) (Nat.le_refl _) hb5⟩

set_option maxRecDepth 100000 in
theorem lifted (os : Os) (started : os.Started) (H : Type) (enc : TypeId × Value → H) :
    ReturnsInHanded {} Try.checked os 3 .any (Rows.rosterTurnedSpec.pre6 enc Try.prog Try.f3 Rows.rosterTurnedRow.domain false) (Rows.rosterTurnedSpec.post enc Try.prog Try.f3 false true false false) := by
  refine returnsInHanded_of_change (C := Try.checked) own started (by kernel_rfl) Try.func3
    (ChangeSpec.witness6 (enc := enc) (C := Try.checked) false ⟨#[], #[.string ByteArray.empty, .string ByteArray.empty, .int .i64 0], []⟩ 8 (by kernel_rfl) (by kernel_rfl) (by kernel_rfl) (by kernel_rfl)) ?_
  intro W base args ds gs before hval0 hW hcnd _
  have hval : ∀ (j : Nat) t v, Try.f3.params[j]? = some t → args[j]? = some v → Value.okWide Try.prog W .any base t v := hval0
  have hW' := hW
  obtain ⟨p, q, hA0, hV, rfl, hfz, hnd⟩ := hW
  have hA : DataW.TrodAll enc Try.prog W 0 (fun _ => true) true Try.f3.params.toList args.toList ds p := hA0
  rw [Try.params3] at hA hval
  obtain ⟨v0, vs0, d0, ds0, p0, q0, hargs, rfl, rfl, h0, r0⟩ := trodAll_cons hA
  obtain ⟨v1, vs1, d1, ds1, p1, q1, rfl, rfl, rfl, h1, r1⟩ := trodAll_cons r0
  obtain ⟨v2, vs2, d2, ds2, p2, q2, rfl, rfl, rfl, h2, r2⟩ := trodAll_cons r1
  obtain ⟨rfl, rfl, rfl⟩ := trodAll_nil r2
  obtain rfl : args = #[v0, v1, v2] := by cases args; simp_all
  obtain ⟨rfl, rfl⟩ := trodVars_none hV
  obtain ⟨s0, rfl, rfl, rfl, w0⟩ := open_string Try.underlying9 (hval 0 9 v0 rfl rfl) h0
  obtain ⟨s1, rfl, rfl, rfl, w1⟩ := open_string Try.underlying9 (hval 1 9 v1 rfl rfl) h1
  obtain ⟨a2, rfl, rfl, rfl, w2⟩ := open_int Try.underlying3 (hval 2 3 v2 rfl rfl) h2
  clear hA0 hval0
  simp only [List.append_nil] at hW'
  refine (walk s0 w0 s1 w1 a2 w2 W).mono fun e W' ⟨he, hg⟩ => ?_
  subst he
  exact ⟨_, rfl, _, _, _, [], _, [], hW', (trodAll_cons_mk (shut_bool Try.underlying4 _) trodAll_mk0), (trodAll_cons_mk (shut_string Try.underlying9 w0) (trodAll_cons_mk (shut_string Try.underlying9 w1) (trodAll_cons_mk (shut_int Try.underlying3 w2) trodAll_mk0))), rfl, hg.frame _, fun h => by cases h⟩

theorem over : Rows.rosterTurnedRow.holds Try.pinned (OpenSpec.ofChange Rows.rosterTurnedSpec) :=
  OpenClaim.holds_of_wide 3 Try.f3 rfl rfl rfl rfl rfl rfl rfl ⟨rfl, rfl, rfl, rfl, rfl⟩ rfl rfl rfl rfl rfl (by kernel_rfl) Try.func3 (by kernel_rfl)
    (of_decide_eq_true (by kernel_rfl)) (by unfold Func.isWrapper; first | (rw [if_pos (by decide +kernel)]; kernel_rfl) | (rw [if_neg (by decide +kernel)]; exact ⟨rfl, rfl⟩))
    (fun os started H enc _ => lifted os started H enc)

theorem proved : Rows.RosterTurnedSaid :=
  over
#print axioms proved
end Go.Proofs.Ytginkcjhfdoodaa
