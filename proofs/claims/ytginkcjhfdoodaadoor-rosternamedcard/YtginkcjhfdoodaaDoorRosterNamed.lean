/- RosterNamed: at every two texts and set: with the signs of another roster of the same size a set is told by other signs, and read as the same set. -/
import Derived.Test.YtginkcjhfdoodaaDoorRows
import Derived.WalkKit
import Derived.ProofKit
import Derived.OpenShut
import Derived.ChangeMaps5
import Derived.Stop.Joined
import Derived.Lay
import Derived.SevenTiedAt
import Derived.SizedLaws
import Derived.LaidMore
import Derived.Test.YtginkcjhfdoodaaDoorTie
import Derived.Test.YtginkcjhfdoodaaDoorCards
import Derived.Test.YtginkcjhfdoodaaDoorRpn
import Derived.Test.YtginkcjhfdoodaaDoorPrn
import Derived.Test.YtginkcjhfdoodaaDoorCvr
import Derived.Test.YtginkcjhfdoodaaDoorTabl
namespace Go.Proofs.YtginkcjhfdoodaaDoor
open Go.ChangeShapes Go.WideShapes Go.ChangeAt Go.RowKit Go.ChangeMaps
set_option linter.unusedVariables false


theorem own : ownKnob Tryd.prog.godebug = none := by kernel_rfl
open Go.Shelf Go.Lib
/-- What lies there as both rosters are asked. -/
structure JM (w : World) (B C : Nat) (ad ar : Option Addr) (cap cr : Nat) (mb mr : Option Nat) (l m : List Int) (N : Nat) (W : World) : Prop where
  a : W.heap[B]? = some (.cells #[.slice ad l.length cap, .map mb] 28 (0, 0))
  b : W.heap[C]? = some (.cells #[.slice ar m.length cr, .map mr] 28 (0, 0))
  x : Holds4 W w.heap.size (wd N)
  r : Ros B W (.agg #[.slice ad l.length cap, .map mb]) l
  s : Ros C W (.agg #[.slice ar m.length cr, .map mr]) m
  below : Below w.heap.size w W
  le : w.heap.size < B ∧ B < C
theorem JM.carry {w : World} {B C : Nat} {ad ar : Option Addr} {cap cr : Nat} {mb mr : Option Nat} {l m : List Int} {N : Nat} {W W' : World} (h : JM w B C ad ar cap cr mb mr l m N W) (hb : Below W.heap.size W W') : JM w B C ad ar cap cr mb mr l m N W' := by
  have h1 := lt_at h.a
  have h2 := lt_at h.b
  have h3 := h.le
  exact ⟨(hb.block _ h1).trans h.a, (hb.block _ h2).trans h.b, h.x.carry hb, h.r.call (by omega) hb, h.s.call (by omega) hb, h.below.trans (hb.mono (by omega)), h.le⟩
theorem bin_neq0 {P : Program} {t : TypeId} {x y : Operand} {w : World} (k : IntKind) (a b : Int) : binRun P .neq t x y (.int k a) (.int k b) w = .ok (.bool (!(a == b))) w := by simp [binRun, go_sem]; rfl
set_option maxHeartbeats 8000000 in
set_option maxRecDepth 100000 in
theorem walk (s0 : ByteArray) (w0 : s0.size ≤ maxLen) (s1 : ByteArray) (w1 : s1.size ≤ maxLen) (N2 : Nat) (hN2 : N2 < S128) (w : World) (hL : laidMetH Tryd.prog Rows.rosterNamedRow.laid w) :
    Calls Tryd.prog 4 #[.string s0, .string s1, sv N2] w fun e w' => e = .returned (.bool true) ∧ Below w.heap.size w w' := by
  have hT : Tab w := tab_of hL
  have hT0 := hT.lt
  have hmx : Tryd.prog.follows .mixedOrders = true := by kernel_rfl
  have hrd := read_any s0 w0
  have hrr := read_any s1 w1
  have hal := alive_any
  unfold RdV at hrd hrr
  have hsg := readR_signs s0
  have hsr := readR_signs s1
  generalize readR s0 = R at *
  obtain ⟨l, x, y⟩ := R
  generalize readR s1 = R at *
  obtain ⟨m, xr, yr⟩ := R
  dsimp only at hrd hrr hsg hsr
  simp only [sv]
  go_enter Tryd.func4, Tryd.ntmps4
  go_wp2_with (first | (go_at_call 5; have hzz := hz1; refine (hrr _).mono ?_; clear hzz; rintro e u2 ⟨⟨v, rfl, hr⟩, hb2⟩; have hz2 : u1.heap.size + 1 ≤ u2.heap.size := (by simpa using hb2.size); obtain ⟨ar, cr, mr, rfl⟩ := hr.form; have hj : Hid (JM w u1.heap.size u2.heap.size ad ar cap cr mb mr l m N2 (u2.alloc (.cells #[.slice ar m.length cr, .map mr] 28))) := ⟨old_at ((hb2.block _ (by simp)).trans (new_at rfl)), new_at rfl, get_old (H1.out.carry hb2), (hv1.call (by simp) hb2).alloc (by omega) _, hr.alloc (Nat.le_refl _) _, (B1.out.trans (hb2.mono (by simp; omega))).alloc (by omega) _, hz1, by omega⟩) | (go_at_call 5; refine (hrd _).mono ?_; rintro e u1 ⟨⟨v, rfl, hv⟩, hb1⟩; obtain ⟨ad, cap, mb, rfl⟩ := hv.form; have hz1 : w.heap.size + 1 ≤ u1.heap.size := (by simpa using hb1.size); have q1 : Holds4 u1 w.heap.size (wd N2) := (hb1.block _ (by simp)).trans (get_new rfl); have B1 : Hid (Below w.heap.size w (u1.alloc (.cells #[.slice ad l.length cap, .map mb] 28))) := (((Below.refl _ w).alloc (Nat.le_refl _) _).trans (hb1.mono (by simp))).alloc (by omega) _; have H1 : Hid (Holds4 (u1.alloc (.cells #[.slice ad l.length cap, .map mb] 28)) w.heap.size (wd N2)) := get_old q1; have hv1 := hv.alloc (Nat.le_refl _) (.cells #[.slice ad l.length cap, .map mb] 28); clear q1))
  rename_i Q0 K0 hK
  refine wp_region_any hmx ?_
  by_cases h1 : y = 0
  · by_cases h2 : yr = 0
    · by_cases h3 : l.length = m.length
      · have hsame := print_named h3 N2
        refine wpAny_pure (fun i__ => ([(.int .i64 y), (.bool false), (.bool false), (.int .i64 yr), (.bool false), (.bool false), (.bool false), (.agg #[.slice ad l.length cap, .map mb]), (.int .i64 (l.length : Nat)), (.agg #[.slice ar m.length cr, .map mr]), (.int .i64 (m.length : Nat)), (.bool false), (.bool false)] : List Value).getD i__ undef) (fun W => JM w u1.heap.size u2.heap.size ad ar cap cr mb mr l m N2 W) (by kernel_rfl) (hj.out.carry (Below.refl _ _).drew) ?_ ?_
        · refine (stepsFrom_cons ?_ (stepsFrom_cons ?_ (stepsFrom_cons ?_ (stepsFrom_cons ?_ (stepsFrom_cons ?_ (stepsFrom_cons ?_ (stepsFrom_cons ?_ (stepsFrom_cons ?_ (stepsFrom_cons ?_ (stepsFrom_cons ?_ (stepsFrom_cons ?_ (stepsFrom_cons ?_ (stepsFrom_cons ?_ trivial)))))))))))))
          · exact step_move rfl trivial _ rfl (by kernel_rfl)
          · exact step_binOp rfl trivial _ _ _ _ _ _ _ rfl rfl rfl (fun w hw => (bin_neq0 .i64 _ _).trans (by simp [h1]))
          · exact step_move rfl trivial _ rfl (by kernel_rfl)
          · exact step_move rfl (by exact ⟨_, rfl, by kernel_rfl⟩) _ rfl (by kernel_rfl)
          · exact step_binOp rfl (by exact ⟨_, rfl, by kernel_rfl⟩) _ _ _ _ _ _ _ rfl rfl rfl (fun w hw => (bin_neq0 .i64 _ _).trans (by simp [h2]))
          · exact step_pick rfl trivial _ _ _ false rfl (by kernel_rfl) (by kernel_rfl)
          · exact step_move rfl trivial _ rfl (by kernel_rfl)
          · exact step_load rfl (by exact ⟨_, rfl, by kernel_rfl⟩) _ _ _ rfl rfl (fun w hw => load_ros hw.a)
          · exact step_call rfl (by exact ⟨_, rfl, by kernel_rfl⟩) 9 _ _ [(.agg #[.slice ad l.length cap, .map mb])] rfl (by kernel_rfl) (enters_of Tryd.func9 (by kernel_rfl) rfl) (fun w hw => (size_any w hw.r).mono (by rintro e w' ⟨rfl, hb⟩; exact ⟨rfl, hw.carry hb⟩))
          · exact step_load rfl (by exact ⟨_, rfl, by kernel_rfl⟩) _ _ _ rfl rfl (fun w hw => load_ros hw.b)
          · exact step_call rfl (by exact ⟨_, rfl, by kernel_rfl⟩) 9 _ _ [(.agg #[.slice ar m.length cr, .map mr])] rfl (by kernel_rfl) (enters_of Tryd.func9 (by kernel_rfl) rfl) (fun w hw => (size_any w hw.s).mono (by rintro e w' ⟨rfl, hb⟩; exact ⟨rfl, hw.carry hb⟩))
          · exact step_binOp rfl (by exact ⟨_, rfl, by kernel_rfl⟩) _ _ _ _ _ _ _ rfl rfl rfl (fun w hw => (bin_neq0 .i64 _ _).trans (by simp [h3]))
          · exact step_pick rfl trivial _ _ _ false rfl (by kernel_rfl) (by kernel_rfl)
        intro W hW
        first | refine hK _ _ ?_ | refine (‹∀ (a : Act) (w : World), Code.wp Tryd.prog _ _ a w → _›) _ _ ?_
        simp only [finL, List.getD_cons_zero, List.getD_cons_succ, Nat.zero_add, Nat.reduceAdd, List.setIfInBounds_toArray, List.set_cons_zero, List.set_cons_succ]
        clear hK h3
        have HJ : Hid (JM w u1.heap.size u2.heap.size ad ar cap cr mb mr l m N2 W) := hW
        clear hj hW hv hv1 hb1 hb2 hr
        have q1 := HJ.out.x
        have q1l := q1.lt
        have c0 := cell_at HJ.out.a 0
        have c1 := cell_at HJ.out.a 1
        have hu1 := lt_at HJ.out.a
        have hu2 := lt_at HJ.out.b
        obtain ⟨y0, y1, y2, y3, _⟩ := q1.facts
        have hle := HJ.out.le
        clear q1
        have HP : Hid (∀ (M : Nat) (v : Value) (W : World), Ros M W v l → M ≤ W.heap.size → Tab W → Calls Tryd.prog 6 #[v, sv N2] W fun e w' => e = .returned (.tuple #[.string (prR l N2).1, .int .i64 (prR l N2).2]) ∧ Below W.heap.size W w') := fun M v W h hM hT => print_any W h hM N2 hN2 hT
        have HR : Hid (∀ (M : Nat) (v : Value) (W : World), Ros M W v m → M ≤ W.heap.size → Tab W → Calls Tryd.prog 6 #[v, sv N2] W fun e w' => e = .returned (.tuple #[.string (prR m N2).1, .int .i64 (prR m N2).2]) ∧ Below W.heap.size W w') := fun M v W h hM hT => print_any W h hM N2 hN2 hT
        by_cases he : (prR l N2).2 = 0
        · obtain ⟨p1, p2, p3⟩ := parse_print hsg he
          have he2 := hsame.symm.trans he
          obtain ⟨r1, r2, r3⟩ := parse_print hsr he2
          have n1 := print_count hsg he
          have n2 := print_count hsr he2
          obtain ⟨capf, cf, hcv, _⟩ := conv_runes (prR l N2).1 p2
          obtain ⟨capg, cg, hcw, _⟩ := conv_runes (prR m N2).1 r2
          rw [n1] at hcv
          rw [n2] at hcw
          generalize (if N2 = 0 then 1 else (idsTo N2 128).length) = cnt0 at *
          rw [he] at HP
          rw [he2] at HR
          have HQ : Hid (∀ (M : Nat) (v : Value) (W : World), Ros M W v l → M ≤ W.heap.size → Calls Tryd.prog 8 #[v, .string (prR l N2).1] W fun e w' => e = .returned (psV (N2, 0, 0)) ∧ Below W.heap.size W w') := fun M v W h hM => by
            have := parse_any W h hM (prR l N2).1 (by unfold maxLen; omega)
            rw [p1] at this
            exact this
          have HV : Hid (∀ (M : Nat) (v : Value) (W : World), Ros M W v m → M ≤ W.heap.size → Calls Tryd.prog 8 #[v, .string (prR m N2).1] W fun e w' => e = .returned (psV (N2, 0, 0)) ∧ Below W.heap.size W w') := fun M v W h hM => by
            have := parse_any W h hM (prR m N2).1 (by unfold maxLen; omega)
            rw [r1] at this
            exact this
          unfold psV at HQ HV
          have hq := eqn4 N2 N2 hN2 hN2
          rw [decide_eq_true rfl] at hq
          clear p1 p2 p3 r1 r2 r3 n1 n2 he he2 hsame
          generalize (prR l N2).1 = t at *
          generalize (prR m N2).1 = tr at *
          simp only [sv] at HP HR HQ HV hq
          go_wp2_with (first | (go_at_call 6; refine (HR.out _ _ _ J3.out.s (by omega) (hT.keep J3.out.below hT0)).mono ?_; rintro e u4 ⟨rfl, hb4⟩; have J4 : Hid (JM w u1.heap.size u2.heap.size ad ar cap cr mb mr l m N2 u4) := J3.out.carry hb4; have g0 := cell_at J4.out.a 0; have g1 := cell_at J4.out.a 1; have hu4 := lt_at J4.out.b; have hu4' := lt_at J4.out.a) | (go_at_call 6; refine (HP.out _ _ _ HJ.out.r (by omega) (hT.keep HJ.out.below hT0)).mono ?_; rintro e u3 ⟨rfl, hb3⟩; have J3 : Hid (JM w u1.heap.size u2.heap.size ad ar cap cr mb mr l m N2 u3) := HJ.out.carry hb3; have q3 := J3.out.x; have q3l := q3.lt; obtain ⟨e0, e1, e2, e3, _⟩ := q3.facts; have f0 := cell_at J3.out.b 0; have f1 := cell_at J3.out.b 1; have hu3 := lt_at J3.out.b; clear q3) | (go_at_call 8; refine (HV.out _ _ _ J5.out.s (by simp; omega)).mono ?_; rintro e u6 ⟨rfl, hb6⟩; have J6 : Hid (JM w u1.heap.size u2.heap.size ad ar cap cr mb mr l m N2 (u6.alloc (.cells (cells4 (wd N2)) 24))) := (J5.out.carry hb6).carry ((Below.refl _ _).alloc (Nat.le_refl _) _); have K6 : Hid (Holds4 (u6.alloc (.cells (cells4 (wd N2)) 24)) u5.heap.size (wd N2)) := get_old (K5.out.carry hb6); have L6 : Hid (Holds4 (u6.alloc (.cells (cells4 (wd N2)) 24)) u6.heap.size (wd N2)) := get_new rfl) | (go_at_call 8; refine (HQ.out _ _ _ J4.out.r (by omega)).mono ?_; rintro e u5 ⟨rfl, hb5⟩; have J5 : Hid (JM w u1.heap.size u2.heap.size ad ar cap cr mb mr l m N2 (u5.alloc (.cells (cells4 (wd N2)) 24))) := (J4.out.carry hb5).carry ((Below.refl _ _).alloc (Nat.le_refl _) _); have J5' := J4.out.carry hb5; have i0 := cell_at J5'.b 0; have i1 := cell_at J5'.b 1; have hu5 := lt_at J5'.b; have K5 : Hid (Holds4 (u5.alloc (.cells (cells4 (wd N2)) 24)) u5.heap.size (wd N2)) := get_new rfl; clear J5') | (go_at_call 7; refine (hal _).mono ?_; rintro e u7 ⟨rfl, hb7⟩; have J7 : Hid (JM w u1.heap.size u2.heap.size ad ar cap cr mb mr l m N2 u7) := J6.out.carry hb7; have m7 := K6.out.carry hb7; have n7 := L6.out.carry hb7; obtain ⟨k0, k1, k2, k3, _⟩ := m7.facts; obtain ⟨o0, o1, o2, o3, _⟩ := n7.facts; have hm7 := m7.lt; have hn7 := n7.lt; clear m7 n7))
          go_ret
          refine ⟨rfl, ?_⟩
          exact (J7.out.below.drew.alloc (by simp; have := J7.out.below.size; omega) _).drew.alloc (by simp; have := J7.out.below.size; omega) _
        · have e1 := print_bad he
          have e2 := print_bad (l := m) (N := N2) (by rw [← hsame]; exact he)
          rw [e1] at HP
          rw [e2] at HR
          clear e1 e2 he hsame
          simp only [sv] at HP HR
          go_wp2_with (first | (go_at_call 6; refine (HR.out _ _ _ J3.out.s (by omega) (hT.keep J3.out.below hT0)).mono ?_; rintro e u4 ⟨rfl, hb4⟩; have J4 : Hid (JM w u1.heap.size u2.heap.size ad ar cap cr mb mr l m N2 u4) := J3.out.carry hb4; have g0 := cell_at J4.out.a 0; have g1 := cell_at J4.out.a 1; have hu4 := lt_at J4.out.b; have hu4' := lt_at J4.out.a) | (go_at_call 6; refine (HP.out _ _ _ HJ.out.r (by omega) (hT.keep HJ.out.below hT0)).mono ?_; rintro e u3 ⟨rfl, hb3⟩; have J3 : Hid (JM w u1.heap.size u2.heap.size ad ar cap cr mb mr l m N2 u3) := HJ.out.carry hb3; have q3 := J3.out.x; have q3l := q3.lt; obtain ⟨e0, e1, e2, e3, _⟩ := q3.facts; have f0 := cell_at J3.out.b 0; have f1 := cell_at J3.out.b 1; have hu3 := lt_at J3.out.b; clear q3) | (go_at_call 7; refine (hal _).mono ?_; rintro e u5 ⟨rfl, hb5⟩))
          go_ret
          exact ⟨rfl, (J4.out.carry hb5).below⟩
      · skip
        refine wpAny_pure (fun i__ => ([(.int .i64 y), (.bool false), (.bool false), (.int .i64 yr), (.bool false), (.bool false), (.bool false), (.agg #[.slice ad l.length cap, .map mb]), (.int .i64 (l.length : Nat)), (.agg #[.slice ar m.length cr, .map mr]), (.int .i64 (m.length : Nat)), (.bool true), (.bool true)] : List Value).getD i__ undef) (fun W => JM w u1.heap.size u2.heap.size ad ar cap cr mb mr l m N2 W) (by kernel_rfl) (hj.out.carry (Below.refl _ _).drew) ?_ ?_
        · refine (stepsFrom_cons ?_ (stepsFrom_cons ?_ (stepsFrom_cons ?_ (stepsFrom_cons ?_ (stepsFrom_cons ?_ (stepsFrom_cons ?_ (stepsFrom_cons ?_ (stepsFrom_cons ?_ (stepsFrom_cons ?_ (stepsFrom_cons ?_ (stepsFrom_cons ?_ (stepsFrom_cons ?_ (stepsFrom_cons ?_ trivial)))))))))))))
          · exact step_move rfl trivial _ rfl (by kernel_rfl)
          · exact step_binOp rfl trivial _ _ _ _ _ _ _ rfl rfl rfl (fun w hw => (bin_neq0 .i64 _ _).trans (by simp [h1]))
          · exact step_move rfl trivial _ rfl (by kernel_rfl)
          · exact step_move rfl (by exact ⟨_, rfl, by kernel_rfl⟩) _ rfl (by kernel_rfl)
          · exact step_binOp rfl (by exact ⟨_, rfl, by kernel_rfl⟩) _ _ _ _ _ _ _ rfl rfl rfl (fun w hw => (bin_neq0 .i64 _ _).trans (by simp [h2]))
          · exact step_pick rfl trivial _ _ _ false rfl (by kernel_rfl) (by kernel_rfl)
          · exact step_move rfl trivial _ rfl (by kernel_rfl)
          · exact step_load rfl (by exact ⟨_, rfl, by kernel_rfl⟩) _ _ _ rfl rfl (fun w hw => load_ros hw.a)
          · exact step_call rfl (by exact ⟨_, rfl, by kernel_rfl⟩) 9 _ _ [(.agg #[.slice ad l.length cap, .map mb])] rfl (by kernel_rfl) (enters_of Tryd.func9 (by kernel_rfl) rfl) (fun w hw => (size_any w hw.r).mono (by rintro e w' ⟨rfl, hb⟩; exact ⟨rfl, hw.carry hb⟩))
          · exact step_load rfl (by exact ⟨_, rfl, by kernel_rfl⟩) _ _ _ rfl rfl (fun w hw => load_ros hw.b)
          · exact step_call rfl (by exact ⟨_, rfl, by kernel_rfl⟩) 9 _ _ [(.agg #[.slice ar m.length cr, .map mr])] rfl (by kernel_rfl) (enters_of Tryd.func9 (by kernel_rfl) rfl) (fun w hw => (size_any w hw.s).mono (by rintro e w' ⟨rfl, hb⟩; exact ⟨rfl, hw.carry hb⟩))
          · exact step_binOp rfl (by exact ⟨_, rfl, by kernel_rfl⟩) _ _ _ _ _ _ _ rfl rfl rfl (fun w hw => (bin_neq0 .i64 _ _).trans (by simp; omega))
          · exact step_pick rfl trivial _ _ _ false rfl (by kernel_rfl) (by kernel_rfl)
        intro W hW
        first | refine hK _ _ ?_ | refine (‹∀ (a : Act) (w : World), Code.wp Tryd.prog _ _ a w → _›) _ _ ?_
        simp only [finL, List.getD_cons_zero, List.getD_cons_succ, Nat.zero_add, Nat.reduceAdd, List.setIfInBounds_toArray, List.set_cons_zero, List.set_cons_succ]
        clear hK
        go_wp2_with (go_at_call 7; refine (hal _).mono ?_; rintro e u5 ⟨rfl, hb5⟩)
        go_ret
        exact ⟨rfl, (hW.carry hb5).below⟩
    · skip
      refine wpAny_pure (fun i__ => ([(.int .i64 y), (.bool false), (.bool false), (.int .i64 yr), (.bool true), (.bool true), (.bool true), undef, undef, undef, undef, undef, (Go.Value.bool Bool.true)] : List Value).getD i__ undef) (fun W => JM w u1.heap.size u2.heap.size ad ar cap cr mb mr l m N2 W) (by kernel_rfl) (hj.out.carry (Below.refl _ _).drew) ?_ ?_
      · refine (stepsFrom_cons ?_ (stepsFrom_cons ?_ (stepsFrom_cons ?_ (stepsFrom_cons ?_ (stepsFrom_cons ?_ (stepsFrom_cons ?_ (stepsFrom_cons ?_ (stepsFrom_cons ?_ (stepsFrom_cons ?_ (stepsFrom_cons ?_ (stepsFrom_cons ?_ (stepsFrom_cons ?_ (stepsFrom_cons ?_ trivial)))))))))))))
        · exact step_move rfl trivial _ rfl (by kernel_rfl)
        · exact step_binOp rfl trivial _ _ _ _ _ _ _ rfl rfl rfl (fun w hw => (bin_neq0 .i64 _ _).trans (by simp [h1]))
        · exact step_move rfl trivial _ rfl (by kernel_rfl)
        · exact step_move rfl (by exact ⟨_, rfl, by kernel_rfl⟩) _ rfl (by kernel_rfl)
        · exact step_binOp rfl (by exact ⟨_, rfl, by kernel_rfl⟩) _ _ _ _ _ _ _ rfl rfl rfl (fun w hw => (bin_neq0 .i64 _ _).trans (by simp [h2]))
        · exact step_pick rfl trivial _ _ _ false rfl (by kernel_rfl) (by kernel_rfl)
        · exact step_move rfl trivial _ rfl (by kernel_rfl)
        · exact step_skip rfl 6 false 41 (.bool true) rfl rfl (by kernel_rfl) (by intro h; cases h) rfl
        · exact step_skip rfl 6 false 41 (.bool true) rfl rfl (by kernel_rfl) (by intro h; cases h) rfl
        · exact step_skip rfl 6 false 41 (.bool true) rfl rfl (by kernel_rfl) (by intro h; cases h) rfl
        · exact step_skip rfl 6 false 41 (.bool true) rfl rfl (by kernel_rfl) (by intro h; cases h) rfl
        · exact step_skip rfl 6 false 41 (.bool true) rfl rfl (by kernel_rfl) (by intro h; cases h) rfl
        · exact step_pick rfl trivial _ _ _ true rfl (by kernel_rfl) (by kernel_rfl)
      intro W hW
      first | refine hK _ _ ?_ | refine (‹∀ (a : Act) (w : World), Code.wp Tryd.prog _ _ a w → _›) _ _ ?_
      simp only [finL, List.getD_cons_zero, List.getD_cons_succ, Nat.zero_add, Nat.reduceAdd, List.setIfInBounds_toArray, List.set_cons_zero, List.set_cons_succ]
      clear hK
      go_wp2_with (go_at_call 7; refine (hal _).mono ?_; rintro e u5 ⟨rfl, hb5⟩)
      go_ret
      exact ⟨rfl, (hW.carry hb5).below⟩
  · skip
    refine wpAny_pure (fun i__ => ([(.int .i64 y), (.bool true), (.bool true), undef, undef, (Go.Value.bool Bool.true), (Go.Value.bool Bool.true), undef, undef, undef, undef, undef, (Go.Value.bool Bool.true)] : List Value).getD i__ undef) (fun W => JM w u1.heap.size u2.heap.size ad ar cap cr mb mr l m N2 W) (by kernel_rfl) (hj.out.carry (Below.refl _ _).drew) ?_ ?_
    · refine (stepsFrom_cons ?_ (stepsFrom_cons ?_ (stepsFrom_cons ?_ (stepsFrom_cons ?_ (stepsFrom_cons ?_ (stepsFrom_cons ?_ (stepsFrom_cons ?_ (stepsFrom_cons ?_ (stepsFrom_cons ?_ (stepsFrom_cons ?_ (stepsFrom_cons ?_ (stepsFrom_cons ?_ (stepsFrom_cons ?_ trivial)))))))))))))
      · exact step_move rfl trivial _ rfl (by kernel_rfl)
      · exact step_binOp rfl trivial _ _ _ _ _ _ _ rfl rfl rfl (fun w hw => (bin_neq0 .i64 _ _).trans (by simp [h1]))
      · exact step_move rfl trivial _ rfl (by kernel_rfl)
      · exact step_skip rfl 2 false 37 (.bool true) rfl rfl (by kernel_rfl) (by intro h; cases h) rfl
      · exact step_skip rfl 2 false 37 (.bool true) rfl rfl (by kernel_rfl) (by intro h; cases h) rfl
      · exact step_pick rfl trivial _ _ _ true rfl (by kernel_rfl) (by kernel_rfl)
      · exact step_move rfl trivial _ rfl (by kernel_rfl)
      · exact step_skip rfl 6 false 41 (Go.Value.bool Bool.true) rfl rfl (by kernel_rfl) (by intro h; cases h) rfl
      · exact step_skip rfl 6 false 41 (Go.Value.bool Bool.true) rfl rfl (by kernel_rfl) (by intro h; cases h) rfl
      · exact step_skip rfl 6 false 41 (Go.Value.bool Bool.true) rfl rfl (by kernel_rfl) (by intro h; cases h) rfl
      · exact step_skip rfl 6 false 41 (Go.Value.bool Bool.true) rfl rfl (by kernel_rfl) (by intro h; cases h) rfl
      · exact step_skip rfl 6 false 41 (Go.Value.bool Bool.true) rfl rfl (by kernel_rfl) (by intro h; cases h) rfl
      · exact step_pick rfl trivial _ _ _ true rfl (by kernel_rfl) (by kernel_rfl)
    intro W hW
    first | refine hK _ _ ?_ | refine (‹∀ (a : Act) (w : World), Code.wp Tryd.prog _ _ a w → _›) _ _ ?_
    simp only [finL, List.getD_cons_zero, List.getD_cons_succ, Nat.zero_add, Nat.reduceAdd, List.setIfInBounds_toArray, List.set_cons_zero, List.set_cons_succ]
    clear hK
    go_wp2_with (go_at_call 7; refine (hal _).mono ?_; rintro e u5 ⟨rfl, hb5⟩)
    go_ret
    exact ⟨rfl, (hW.carry hb5).below⟩

set_option maxRecDepth 100000 in
theorem lifted (os : Os) (started : os.Started) (H : Type) (enc : TypeId × Value → H) :
    ReturnsInHanded {} Tryd.checked os 4 .any (fun w args => (Rows.rosterNamedSpec.pre enc Tryd.prog Tryd.f4 [] false w args ∧ laidMetH Tryd.prog Rows.rosterNamedRow.laid w) ∧ sizedMet enc Tryd.prog Tryd.f4 (OpenSpec.ofChange Rows.rosterNamedSpec) false w args)
      (Rows.rosterNamedSpec.post enc Tryd.prog Tryd.f4 false true false false) := by
  refine returnsInHanded_of_change_and (C := Tryd.checked) (X := fun w _ => laidMetH Tryd.prog Rows.rosterNamedRow.laid w) (fun _ _ _ hh h => h.of_heap hh) own started (by kernel_rfl) Tryd.func4
    (ChangeSpec.witness_shaped (enc := enc) (C := Tryd.checked) (os := os) (X := fun w _ => laidMetH Tryd.prog Rows.rosterNamedRow.laid w) false (World.laidAll Tryd.prog os Rows.rosterNamedRow.laid) #[.string ByteArray.empty, .string ByteArray.empty, .agg #[.int .u32 0, .int .u32 0, .int .u32 0, .int .u32 0]] 8 (World.laidAll_os _ _ _)
      (World.shaped_of_ZipB (by kernel_rfl) (by kernel_rfl)) (by kernel_rfl) (by kernel_rfl) (by kernel_rfl)
      (by rw [MakeChecks.laidMetH_plain _ _ _ (by kernel_rfl)]; exact laidMet_laidAll _ (by kernel_rfl) (by kernel_rfl))) ?_
  intro W base args ds gs before hval0 hW _ _ hL hsz
  have hval : ∀ (j : Nat) t v, Tryd.f4.params[j]? = some t → args[j]? = some v → Value.okWide Tryd.prog W .any base t v := hval0
  have hW' := hW
  obtain ⟨p, q, hA0, hV, rfl, hfz, hnd⟩ := hW
  have hA : DataW.TrodAll enc Tryd.prog W 0 (fun _ => true) true Tryd.f4.params.toList args.toList ds p := hA0
  rw [Tryd.params4] at hA hval
  obtain ⟨v0, vs0, d0, ds0, p0, q0, hargs, rfl, rfl, h0, r0⟩ := trodAll_cons hA
  obtain ⟨v1, vs1, d1, ds1, p1, q1, rfl, rfl, rfl, h1, r1⟩ := trodAll_cons r0
  obtain ⟨v2, vs2, d2, ds2, p2, q2, rfl, rfl, rfl, h2, r2⟩ := trodAll_cons r1
  obtain ⟨rfl, rfl, rfl⟩ := trodAll_nil r2
  obtain rfl : args = #[v0, v1, v2] := by cases args; simp_all
  obtain ⟨rfl, rfl⟩ := trodVars_none hV
  obtain ⟨s0, rfl, rfl, rfl, w0⟩ := open_string Tryd.underlying9 (hval 0 9 v0 rfl rfl) h0
  obtain ⟨s1, rfl, rfl, rfl, w1⟩ := open_string Tryd.underlying9 (hval 1 9 v1 rfl rfl) h1
  obtain ⟨N2, hN2, rfl, rfl, rfl⟩ := open_set (hval 2 24 v2 rfl rfl) h2
  clear hA0 hval0
  simp only [List.append_nil] at hW'
  refine (walk s0 w0 s1 w1 N2 hN2 W hL).mono fun e W' ⟨he, hg⟩ => ?_
  subst he
  exact ⟨_, rfl, _, _, _, [], _, [], hW', (trodAll_cons_mk (shut_bool Tryd.underlying4 _) trodAll_mk0), (trodAll_cons_mk (shut_string Tryd.underlying9 w0) (trodAll_cons_mk (shut_string Tryd.underlying9 w1) (trodAll_cons_mk (shut_set N2) trodAll_mk0))), rfl, hg.frame _, fun h => by cases h⟩

theorem over : Rows.rosterNamedRow.holds Tryd.pinned (OpenSpec.ofChange Rows.rosterNamedSpec) :=
  OpenClaim.holds_of_wide 4 Tryd.f4 rfl rfl rfl rfl rfl rfl rfl ⟨rfl, rfl, rfl, rfl, rfl⟩ rfl rfl rfl rfl rfl (by kernel_rfl) Tryd.func4 (by kernel_rfl)
    (of_decide_eq_true (by kernel_rfl)) (by unfold Func.isWrapper; first | (rw [if_pos (by decide +kernel)]; kernel_rfl) | (rw [if_neg (by decide +kernel)]; exact ⟨rfl, rfl⟩))
    (fun os started H enc _ => lifted os started H enc)

theorem row_proved : Rows.RosterNamedSaid :=
  over
theorem proved : Rows.RosterNamedCardSaid :=
  Claim7.holds_tied_plain_at .later [] [.data] true (true, "75a1b1b8db9abb964bd5fd9d7e8503ea95bea0fb1d0348a53e55711e99b8828c") false
    row_proved (fun _ h => by cases h) (by kernel_rfl) (fun _ h => by cases h) rosterNamed_row_tie rfl ⟨rfl, rfl⟩ (by kernel_rfl) rfl
    (fun f fn hf hfn => by
      obtain rfl : f = 4 := Option.some.inj ((show Tryd.prog.funcNamed "earshot/earshotlaw4.RosterNamed" = some 4 by kernel_rfl).symm.trans hf) |>.symm
      obtain rfl : fn = Tryd.f4 := (Option.some.inj (Tryd.func4.symm.trans hfn)).symm
      exact ⟨by kernel_rfl, fun j t ht => by
        rw [Tryd.params4] at ht
        rcases j with _ | j
        · have e : t = 9 := by simpa using ht.symm
          subst e
          exact (show Tryd.prog.wantsStandIn 9 = false by kernel_rfl)
        rcases j with _ | j
        · have e : t = 9 := by simpa using ht.symm
          subst e
          exact (show Tryd.prog.wantsStandIn 9 = false by kernel_rfl)
        rcases j with _ | j
        · have e : t = 24 := by simpa using ht.symm
          subst e
          exact (show Tryd.prog.wantsStandIn 24 = false by kernel_rfl)
        simp at ht⟩)
    (by kernel_rfl)
#print axioms proved
end Go.Proofs.YtginkcjhfdoodaaDoor
