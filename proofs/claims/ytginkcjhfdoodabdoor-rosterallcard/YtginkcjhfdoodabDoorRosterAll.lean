/- RosterAll: at every two lists of texts: several rosters in turns: what one is asked turns no other one. -/
import Derived.Test.YtginkcjhfdoodabDoorRows
import Derived.WalkKit
import Derived.ProofKit
import Derived.OpenShut
import Derived.Stop.Joined
import Derived.Lay
import Derived.SevenTiedAt
import Derived.SizedLaws
import Derived.LaidMore
import Derived.Test.YtginkcjhfdoodabDoorTie
import Derived.Test.YtginkcjhfdoodabDoorCards
import Derived.Test.YtginkcjhfdoodabDoorAlz
import Derived.Test.YtginkcjhfdoodabDoorRpr
import Derived.Test.YtginkcjhfdoodabDoorRpn
import Derived.Test.YtginkcjhfdoodabDoorRpq
import Derived.Test.YtginkcjhfdoodabDoorTabl
namespace Go.Proofs.YtginkcjhfdoodabDoor
open Go.ChangeShapes Go.WideShapes Go.ChangeAt Go.RowKit
set_option linter.unusedVariables false

theorem laidOut : laidOutB Tryd.prog = true := by kernel_rfl
theorem own : ownKnob Tryd.prog.godebug = none := by kernel_rfl
open Go.Shelf Go.Lib
theorem load_rosR {W : World} {B : Nat} {u : Value} (h : W.heap[B]? = some (.cells #[u] 34 (0, 0))) : (Instr.loadAt 34 (.pointer (some ⟨B, 0, none⟩))).run Tryd.prog W = .ok (.agg #[u]) W := by
  have c0 := cell_at h 0
  go_simp
theorem ix_ros (W : World) (g n cap k : Nat) (hk : k < n) : (Instr.indexAt 43 (.slice (some ⟨g, 0, none⟩) n cap) (.int .i64 (k : Int))).run Tryd.prog W = .ok (.pointer (some ⟨g, 2 * k, none⟩)) W := by
  have h0 : (0 : Int) ≤ (k : Int) := by omega
  have h1 : (k : Int) < (n : Int) := by omega
  have h2 : k * 2 = 2 * k := by omega
  go_simp
theorem ix_rosR (W : World) (g n cap k : Nat) (hk : k < n) : (Instr.indexAt 44 (.slice (some ⟨g, 0, none⟩) n cap) (.int .i64 (k : Int))).run Tryd.prog W = .ok (.pointer (some ⟨g, k, none⟩)) W := by
  have h0 : (0 : Int) ≤ (k : Int) := by omega
  have h1 : (k : Int) < (n : Int) := by omega
  go_simp
theorem ix_str (W : World) (b o n cap k : Nat) (hk : k < n) : (Instr.indexAt 42 (.slice (some ⟨b, o, none⟩) n cap) (.int .i64 (k : Int))).run Tryd.prog W = .ok (.pointer (some ⟨b, o + k, none⟩)) W := by
  have h0 : (0 : Int) ≤ (k : Int) := by omega
  have h1 : (k : Int) < (n : Int) := by omega
  go_simp
theorem load_str {W : World} {b o : Nat} {s : ByteArray} (h : W.cell? ⟨b, o, none⟩ = some (.string s)) : (Instr.loadAt 9 (.pointer (some ⟨b, o, none⟩))).run Tryd.prog W = .ok (.string s) W := by
  go_simp
theorem load_ros2 {W : World} {g k : Nat} {u v : Value} (h0 : W.cell? ⟨g, k, none⟩ = some u) (h1 : W.cell? ⟨g, k + 1, none⟩ = some v) : (Instr.loadAt 28 (.pointer (some ⟨g, k, none⟩))).run Tryd.prog W = .ok (.agg #[u, v]) W := by
  go_simp
theorem load_rosR2 {W : World} {g k : Nat} {u : Value} (h0 : W.cell? ⟨g, k, none⟩ = some u) : (Instr.loadAt 34 (.pointer (some ⟨g, k, none⟩))).run Tryd.prog W = .ok (.agg #[u]) W := by
  go_simp
theorem ext2_0 (a b : Value) (W : World) : (Instr.extract (.tuple #[a, b]) 0).run Tryd.prog W = .ok a W := rfl
theorem ext2_1 (a b : Value) (W : World) : (Instr.extract (.tuple #[a, b]) 1).run Tryd.prog W = .ok b W := rfl
theorem bin_neqi {P : Program} {t : TypeId} {x y : Operand} {w : World} (k : IntKind) (a : Int) : binRun P .neq t x y (.int k a) (.int k a) w = .ok (.bool false) w := by simp [binRun, go_sem]
theorem bin_neqs {P : Program} {t : TypeId} {x y : Operand} {w : World} (a : ByteArray) : binRun P .neq t x y (.string a) (.string a) w = .ok (.bool false) w := by simp [binRun, go_sem]
/-- Both lists of rosters. -/
structure R2 (C : Nat) (ls : List (List Int)) (x5 x6 : Value) (k : Nat) (ps : List (Value × Value)) (qs : List Value) (W : World) : Prop where
  r5 : W.ownsRow C 28 2 x5 k (flatP ps)
  r6 : W.ownsRow C 34 1 x6 k qs
  o : All2 ls ps qs W
  ap : ∀ b, x5.ownBlock = some b → x6.ownBlock ≠ some b
  h5 : ps = [] → x5 = .slice none 0 0
  h6 : qs = [] → x6 = .slice none 0 0
  lp : ps.length = k
  lq : qs.length = k
theorem All2.snoc {ls : List (List Int)} {ps : List (Value × Value)} {qs : List Value} {W : World} {k : Nat} {p : Value × Value} {q : Value} {l : List Int} (h : All2 ls ps qs W) (hl : ls[k]? = some l) (lp : ps.length = k) (lq : qs.length = k) (hp : Ros W.heap.size W (.agg #[p.1, p.2]) l) (hq : RosR W.heap.size W (.agg #[q]) l) : All2 ls (ps ++ [p]) (qs ++ [q]) W := by
  refine ⟨fun j p' hj => ?_, fun j q' hj => ?_⟩
  · by_cases e : j < ps.length
    · rw [List.getElem?_append_left e] at hj; exact h.a j p' hj
    · have e2 : j = k := by have := (List.getElem?_eq_some_iff.1 hj).1; simp at this; omega
      subst e2
      rw [List.getElem?_append_right (by omega), lp] at hj
      simp at hj
      subst hj
      exact ⟨l, hl, hp⟩
  · by_cases e : j < qs.length
    · rw [List.getElem?_append_left e] at hj; exact h.b j q' hj
    · have e2 : j = k := by have := (List.getElem?_eq_some_iff.1 hj).1; simp at this; omega
      subst e2
      rw [List.getElem?_append_right (by omega), lq] at hj
      simp at hj
      subst hj
      exact ⟨l, hl, hq⟩
set_option maxHeartbeats 8000000 in
set_option maxRecDepth 100000 in
theorem all_walk (w : World) (ad0 : Option Addr) (cap0 : Nat) (ts : List ByteArray) (w0 : ts ≠ [] → ∃ a, ad0 = some a ∧ Strs w a ts) (hl0 : ts.length ≤ maxLen) (hs0 : ∀ s ∈ ts, s.size ≤ maxLen) (ad1 : Option Addr) (cap1 : Nat) (ss : List ByteArray) (w1 : ss ≠ [] → ∃ a, ad1 = some a ∧ Strs w a ss) (hl1 : ss.length ≤ maxLen) (hs1 : ∀ s ∈ ss, s.size ≤ maxLen) (hT : Tab w) :
    Calls Tryd.prog 4 #[.slice ad0 ts.length cap0, .slice ad1 ss.length cap1] w fun e w' => e = .returned (.bool true) ∧ Below w.heap.size w w' := by
  have hT0 := hT.lt
  have hmx : Tryd.prog.follows .mixedOrders = true := by kernel_rfl
  have hal := alive_any
  unfold maxLen at hl0 hl1
  by_cases h20 : ts.length ≤ 20 ∧ ss.length ≤ 20
  · have t1 : ¬ (20 : Int) < (ts.length : Int) := by omega
    have t2 : ¬ (20 : Int) < (ss.length : Int) := by omega
    obtain ⟨h2a, h2b⟩ := h20
    go_enter Tryd.func4, Tryd.ntmps4
    go_wp2_with (go_at_call 9; refine (hal _).mono ?_; rintro e u0 ⟨rfl, hb0⟩)
    go_loopw [5, 6, 7] (fun x5 x6 c wz => ∃ (k : Nat) (ps : List (Value × Value)) (qs : List Value), c = .int .i64 k ∧ k ≤ ts.length ∧ R2 w.heap.size (ts.map (fun t => (readR t).1)) x5 x6 k ps qs wz ∧ Below w.heap.size w wz) (fun _ _ c _ => ts.length - (RowKit.intOf c).toNat)
    case atStart =>
      exact ⟨0, [], [], rfl, by omega, ⟨⟨rfl, .inl ⟨rfl, rfl⟩⟩, ⟨rfl, .inl ⟨rfl, rfl⟩⟩, ⟨(fun j p h => by simp at h), (fun j q h => by simp at h)⟩, (fun b h => by cases h), fun _ => rfl, fun _ => rfl, rfl, rfl⟩, hb0⟩
    case round =>
      obtain ⟨k, ps, qs, rfl, hk, hR, hbw⟩ := hrel
      obtain ⟨a5, c5, rfl, hf5⟩ := row_form hR.r5
      obtain ⟨a6, c6, rfl, hf6⟩ := row_form hR.r6
      have hbz := hbw.size
      by_cases hkl : k < ts.length
      · obtain ⟨a, rfl, hst⟩ := w0 (fun e => by subst e; simp at hkl)
        obtain ⟨ab, ao, asp⟩ := a
        obtain rfl : asp = none := hst.spot
        have hcl0 := hst.cell k ts[k] (List.getElem?_eq_getElem hkl)
        have hablt := hst.lt
        dsimp only at hcl0 hablt
        have hcl := (hbw.cell (p := ⟨ab, ao + k, none⟩) hablt).trans hcl0
        have hrd := read_any ts[k] (hs0 _ (List.getElem_mem hkl))
        have hrr := rRead_any ts[k] (hs0 _ (List.getElem_mem hkl))
        have hls : (ts.map (fun t => (readR t).1))[k]? = some (readR ts[k]).1 := by simp [hkl]
        generalize ts.map (fun t => (readR t).1) = ls at *
        unfold RdV at hrd
        unfold RdR at hrr
        generalize readR ts[k] = R at *
        obtain ⟨l, x, y⟩ := R
        dsimp only at hrd hrr hls
        generalize ts[k] = t at *
        have hki : (k : Int) < (ts.length : Int) := by omega
        have habz : ab < wr.heap.size := by omega
        go_wp2_with (first | (go_at_call 5; refine (hrd _).mono ?_; rintro e u1 ⟨⟨v, rfl, hv⟩, hb1⟩; obtain ⟨ad, cap, mb, rfl⟩ := hv.form; have hz1 := hb1.size; have hv1 := hv.alloc (Nat.le_refl _) (.cells #[.slice ad l.length cap, .map mb] 28); have hcl1 := (hb1.cell (p := ⟨ab, ao + k, none⟩) (by omega)).trans hcl; have hab1 : ab < u1.heap.size := (by omega)) | (go_at_call 6; refine (hrr _).mono ?_; rintro e u2 ⟨⟨v, rfl, hr⟩, hb2⟩; obtain ⟨ar, cr, rfl⟩ := hr.form; have hz2 : u1.heap.size + 1 ≤ u2.heap.size := (by simpa using hb2.size)))
        have ja : JA w w.heap.size k ls ps qs (.slice ad l.length cap, .map mb) (.slice ar l.length cr) l (.slice a5 k c5) (.slice a6 k c6) u1.heap.size u2.heap.size (0, 0, undef, undef) false false false false (u2.alloc (.cells #[.slice ar l.length cr] 34)) := by
          have bA : Below wr.heap.size wr (u2.alloc (.cells #[.slice ar l.length cr] 34)) := ((hb1.alloc hz1 _).trans (hb2.mono (by simp; omega))).alloc (by omega) _
          refine ⟨hR.o.below bA, ((hv1.call (by simp) hb2).alloc (by omega) _).mono (by simp; omega), (hr.alloc (Nat.le_refl _) _).mono (by simp), old_at ((hb2.block _ (by simp)).trans (new_at rfl)), new_at rfl, row_kept' hR.r5 bA, row_kept' hR.r6 bA, fun b hb => ?_, fun b hb => ?_, (fun e => by cases e), (fun e => by cases e), hbw.trans (bA.mono hbz), Nat.le_trans hbz bA.size⟩
          · have := (row_lt hR.r5 b hb).2
            exact ⟨by omega, by omega, (fun e => by cases e), (fun e => by cases e), hR.ap b hb⟩
          · have := (row_lt hR.r6 b hb).2
            exact ⟨by omega, by omega, (fun e => by cases e), (fun e => by cases e)⟩
        have h05 := hR.h5
        have h06 := hR.h6
        have hk20 : k ≤ 20 := by omega
        rename_i Q1 K1 hK
        refine wp_region_any hmx ?_
        refine wpAny_tabG (G := (Nat × Nat × Value × Value)) (fun g i__ => ([(.slice a5 k c5), (.agg #[.slice ad l.length cap, .map mb]), (.slice (some ⟨g.1, 0, none⟩) 1 1), g.2.2.1, (.slice a6 k c6), (.agg #[.slice ar l.length cr]), (.slice (some ⟨g.2.1, 0, none⟩) 1 1), g.2.2.2, g.2.2.1, g.2.2.2] : List Value).getD i__ undef) (fun g d W => JA w w.heap.size k ls ps qs (.slice ad l.length cap, .map mb) (.slice ar l.length cr) l (.slice a5 k c5) (.slice a6 k c6) u1.heap.size u2.heap.size g (d 2) (d 3) (d 6) (d 7) W) (by kernel_rfl) (0, 0, undef, undef) (ja.carry (Below.refl _ _).drew) ?step1 ?fin1
        case step1 =>
          intro i o ho
          have hi : i < 10 := getElem?_lt ho
          match i, hi, ho with
          | 0, _, ho =>
            cases ho
            refine stepG_of (fun g d hdep => ?_)
            exact step_move rfl trivial _ rfl (by kernel_rfl)
          | 1, _, ho =>
            cases ho
            refine stepG_of (fun g d hdep => ?_)
            exact step_load rfl trivial _ _ _ rfl rfl (fun w hw => load_ros hw.v1)
          | 2, _, ho =>
            cases ho
            exact stepG_build rfl rfl _ _ (.agg #[.slice ad l.length cap, .map mb]) rfl (fun g => by kernel_rfl) (fun g d W hJ hun hcl => ⟨(W.heap.size, g.2), _, bs_ros _ _ _, (fun j hj => match j, hj with | 2, hj => (by rw [hj] at hun; cases hun)  | 0, _ => rfl | 1, _ => rfl | 3, _ => rfl | 4, _ => rfl | 5, _ => rfl | 6, _ => rfl | 7, _ => rfl | 8, _ => rfl | 9, _ => rfl | _ + 10, _ => rfl), hJ.build1⟩)
          | 3, _, ho =>
            cases ho
            exact stepG_append rfl rfl _ _ _ (fun _ => .slice a5 k c5) (fun g => .slice (some ⟨g.1, 0, none⟩) 1 1) rfl (fun g => by kernel_rfl) (fun g => by kernel_rfl) (fun g d W hJ hun hdep hcl => by have h2 : d 2 = true := hdep 2 (by kernel_rfl); have hJ' := hJ; rw [h2, hun] at hJ'; obtain ⟨v', W', hr, hA⟩ := hJ'.app1 h05 hk20 _; refine ⟨(g.1, g.2.1, v', g.2.2.2), W', hr, (fun j hj => match j, hj with | 3, hj => (by rw [hj] at hun; cases hun) | 8, hj => absurd (hcl 8 _ rfl hj 3 (by kernel_rfl)) (by rw [hun]; simp) | 0, _ => rfl | 1, _ => rfl | 2, _ => rfl | 4, _ => rfl | 5, _ => rfl | 6, _ => rfl | 7, _ => rfl | 9, _ => rfl | _ + 10, _ => rfl), ?_⟩; show JA w _ k ls ps qs _ _ l _ _ _ _ _ (d 2) true (d 6) (d 7) W'; rw [h2]; exact hA)
          | 4, _, ho =>
            cases ho
            refine stepG_of (fun g d hdep => ?_)
            exact step_move rfl trivial _ rfl (by kernel_rfl)
          | 5, _, ho =>
            cases ho
            refine stepG_of (fun g d hdep => ?_)
            exact step_load rfl trivial _ _ _ rfl rfl (fun w hw => load_rosR hw.v2)
          | 6, _, ho =>
            cases ho
            exact stepG_build rfl rfl _ _ (.agg #[.slice ar l.length cr]) rfl (fun g => by kernel_rfl) (fun g d W hJ hun hcl => ⟨(g.1, W.heap.size, g.2.2), _, bs_rosR _ _, (fun j hj => match j, hj with | 6, hj => (by rw [hj] at hun; cases hun)  | 0, _ => rfl | 1, _ => rfl | 2, _ => rfl | 3, _ => rfl | 4, _ => rfl | 5, _ => rfl | 7, _ => rfl | 8, _ => rfl | 9, _ => rfl | _ + 10, _ => rfl), hJ.build2⟩)
          | 7, _, ho =>
            cases ho
            exact stepG_append rfl rfl _ _ _ (fun _ => .slice a6 k c6) (fun g => .slice (some ⟨g.2.1, 0, none⟩) 1 1) rfl (fun g => by kernel_rfl) (fun g => by kernel_rfl) (fun g d W hJ hun hdep hcl => by have h2 : d 6 = true := hdep 6 (by kernel_rfl); have hJ' := hJ; rw [h2, hun] at hJ'; obtain ⟨v', W', hr, hA⟩ := hJ'.app2 h06 hk20 _; refine ⟨(g.1, g.2.1, g.2.2.1, v'), W', hr, (fun j hj => match j, hj with | 7, hj => (by rw [hj] at hun; cases hun) | 9, hj => absurd (hcl 9 _ rfl hj 7 (by kernel_rfl)) (by rw [hun]; simp) | 0, _ => rfl | 1, _ => rfl | 2, _ => rfl | 3, _ => rfl | 4, _ => rfl | 5, _ => rfl | 6, _ => rfl | 8, _ => rfl | _ + 10, _ => rfl), ?_⟩; show JA w _ k ls ps qs _ _ l _ _ _ _ _ (d 2) (d 3) (d 6) true W'; rw [h2]; exact hA)
          | 8, _, ho =>
            cases ho
            refine stepG_of (fun g d hdep => ?_)
            exact step_assign rfl trivial _ rfl (by kernel_rfl) (fun _ h => h)
          | 9, _, ho =>
            cases ho
            refine stepG_of (fun g d hdep => ?_)
            exact step_assign rfl trivial _ rfl (by kernel_rfl) (fun _ h => h)
        intro g d W hall hW
        first | refine hK _ _ ?_ | refine (‹∀ (a : Act) (w : World), Code.wp Tryd.prog _ _ a w → _›) _ _ ?_
        simp only [finL, List.getD_cons_zero, List.getD_cons_succ, Nat.zero_add, Nat.reduceAdd, List.setIfInBounds_toArray, List.set_cons_zero, List.set_cons_succ]
        rw [hall 2 (by decide), hall 3 (by decide), hall 6 (by decide), hall 7 (by decide)] at hW
        obtain ⟨g1, g2, x5, x6⟩ := g
        obtain ⟨Wt, e2⟩ : ∃ Wt, Wt = W := ⟨_, rfl⟩
        subst e2
        have hR2 : R2 w.heap.size ls x5 x6 (k + 1) (ps ++ [(.slice ad l.length cap, .map mb)]) (qs ++ [.slice ar l.length cr]) Wt := by
          refine ⟨?_, hW.r6, hW.o.snoc hls hR.lp hR.lq hW.rp hW.rq, fun b hb => (hW.n5 b hb).2.2.2.2, (fun e => by simp at e), (fun e => by simp at e), by simp [hR.lp], by simp [hR.lq]⟩
          rw [flatP_append]
          exact hW.r5
        have HR2 : Hid (R2 w.heap.size ls x5 x6 (k + 1) (ps ++ [(.slice ad l.length cap, .map mb)]) (qs ++ [.slice ar l.length cr]) Wt) := hR2
        have hbl := hW.bl
        clear hK hall hW ja hR hR2
        go_wp2
        go_roundw
        case rel =>
          exact ⟨k + 1, _, _, by simp, by omega, HR2.out, hbl⟩
        case measure => simp [RowKit.intOf]; omega
      · have hkk : k = ts.length := by omega
        subst hkk
        have hki : ¬ (ts.length : Int) < (ts.length : Int) := by omega
        go_wp2
        obtain ⟨Wl, eWl⟩ : ∃ Wl, Wl = wr := ⟨_, rfl⟩
        subst eWl
        have HR : Hid (R2 w.heap.size (ts.map (fun t => (readR t).1)) (.slice a5 ts.length c5) (.slice a6 ts.length c6) ts.length ps qs Wl) := hR
        have HF5 : Hid _ := hf5
        have HF6 : Hid _ := hf6
        clear hR hf5 hf6 hb0
        go_loopw [14] (fun c wz => ∃ kk : Nat, c = .int .i64 kk ∧ kk ≤ ss.length ∧ Below Wl.heap.size Wl wz) (fun c _ => ss.length - (RowKit.intOf c).toNat)
        case atStart => exact ⟨0, rfl, by omega, Below.refl _ _⟩
        case round =>
          obtain ⟨kk, rfl, hkk, hX⟩ := hrel
          by_cases hkl2 : kk < ss.length
          · obtain ⟨a, rfl, hst⟩ := w1 (fun e => by subst e; simp at hkl2)
            obtain ⟨sb, so, asp⟩ := a
            obtain rfl : asp = none := hst.spot
            have hsc := hst.cell kk ss[kk] (List.getElem?_eq_getElem hkl2)
            have hsl := hst.lt
            dsimp only at hsc hsl
            have hss := hs1 _ (List.getElem_mem hkl2)
            generalize ss[kk] = s at *
            have hki2 : (kk : Int) < (ss.length : Int) := by omega
            go_wp2
            go_loopw [15] (fun c wz => ∃ ii : Nat, c = .int .i64 ii ∧ ii ≤ ts.length ∧ Below Wl.heap.size Wl wz) (fun c _ => ts.length - (RowKit.intOf c).toNat)
            case atStart => exact ⟨0, rfl, by omega, hX⟩
            case round =>
              clear hX
              obtain ⟨ii, rfl, hii, hX⟩ := hrel
              by_cases hil : ii < ts.length
              · have hii2 : (ii : Int) < (ts.length : Int) := by omega
                obtain ⟨g5, rfl, _, hg5, hc5, f5⟩ := HF5.out (by omega)
                obtain ⟨g6, rfl, _, hg6, hc6, f6⟩ := HF6.out (by omega)
                have hpl : ii < ps.length := by rw [HR.out.lp]; exact hil
                have hql : ii < qs.length := by rw [HR.out.lq]; exact hil
                obtain ⟨l, e1, hros⟩ := HR.out.o.a ii ps[ii] (List.getElem?_eq_getElem hpl)
                obtain ⟨l', e2, hrosR⟩ := HR.out.o.b ii qs[ii] (List.getElem?_eq_getElem hql)
                obtain rfl : l = l' := by rw [e1] at e2; exact Option.some.inj e2
                have hfp := flatP_at ps ii ps[ii] (List.getElem?_eq_getElem hpl)
                have ca := f5 _ _ hfp.1
                have cb := f5 _ _ hfp.2
                have cc := f6 ii qs[ii] (List.getElem?_eq_getElem hql)
                generalize ps[ii] = p at *
                generalize qs[ii] = q at *
                obtain ⟨p1, p2⟩ := p
                dsimp only at ca cb hros
                have hsg := hros.1
                have hN := parseR_lt hsg s
                have A1 : Hid (∀ W : World, Below Wl.heap.size Wl W → Calls Tryd.prog 10 #[.agg #[p1, p2], .string s] W fun e w' => e = .returned (psV (parseR l s)) ∧ Below W.heap.size W w') := fun W h => parse_any W (hros.below h) h.size s hss
                have A2 : Hid (∀ W : World, Below Wl.heap.size Wl W → Calls Tryd.prog 11 #[.agg #[q], .string s] W fun e w' => e = .returned (psV (parseR l s)) ∧ Below W.heap.size W w') := fun W h => rParse_any W (hrosR.below h) h.size s hss
                generalize parseR l s = P at *
                obtain ⟨N, pa, pb⟩ := P
                dsimp only at hN
                unfold psV at A1 A2
                dsimp only at A1 A2
                have hN8 := s100_128 hN
                have A3 : Hid (∀ W : World, Below Wl.heap.size Wl W → Calls Tryd.prog 7 #[.agg #[p1, p2], sv N] W fun e w' => e = .returned (.tuple #[.string (prR l N).1, .int .i64 (prR l N).2]) ∧ Below W.heap.size W w') := fun W h => print_any W (hros.below h) h.size N hN8 (hT.keep (hbw.trans (h.mono hbz)) hT0)
                have A4 : Hid (∀ W : World, Below Wl.heap.size Wl W → Calls Tryd.prog 8 #[.agg #[q], sv N] W fun e w' => e = .returned (.tuple #[.string (prR l N).1, .int .i64 (prR l N).2]) ∧ Below W.heap.size W w') := fun W h => rPrint_any W (hrosR.below h) h.size N hN8
                generalize prR l N = T at *
                obtain ⟨tx, te⟩ := T
                dsimp only at A3 A4
                have A5 : Hid (∀ W : World, Below Wl.heap.size Wl W → Calls Tryd.prog 12 #[.agg #[p1, p2]] W fun e w' => e = .returned (.string (txt l)) ∧ Below W.heap.size W w') := fun W h => text_any W (hros.below h) h.size
                have A6 : Hid (∀ W : World, Below Wl.heap.size Wl W → Calls Tryd.prog 13 #[.agg #[q]] W fun e w' => e = .returned (.string (txt l)) ∧ Below W.heap.size W w') := fun W h => rText_any W (hrosR.below h) h.size
                have B1 : Hid (∀ W : World, Below Wl.heap.size Wl W → W.cell? ⟨g5, 2 * ii, none⟩ = some p1 ∧ W.cell? ⟨g5, 2 * ii + 1, none⟩ = some p2) := fun W h => ⟨(h.cell (p := ⟨g5, 2 * ii, none⟩) hg5).trans ca, (h.cell (p := ⟨g5, 2 * ii + 1, none⟩) hg5).trans cb⟩
                have B2 : Hid (∀ W : World, Below Wl.heap.size Wl W → W.cell? ⟨g6, ii, none⟩ = some q) := fun W h => (h.cell (p := ⟨g6, ii, none⟩) hg6).trans cc
                have B3 : Hid (∀ W : World, Below Wl.heap.size Wl W → W.cell? ⟨sb, so + kk, none⟩ = some (.string s)) := fun W h => (h.cell (p := ⟨sb, so + kk, none⟩) (Nat.lt_of_lt_of_le hsl hbz)).trans ((hbw.cell (p := ⟨sb, so + kk, none⟩) hsl).trans hsc)
                clear ca cb cc hfp f5 f6 hros hrosR e1 hsc HF5 HF6
                have hXc : ∀ W W' : World, Below Wl.heap.size Wl W → Below W.heap.size W W' → Below Wl.heap.size Wl W' := fun W W' h hb => h.trans (hb.mono h.size)
                have HX : Hid (Below Wl.heap.size Wl wr) := hX
                have HXc : Hid (∀ W W' : World, Below Wl.heap.size Wl W → Below W.heap.size W W' → Below Wl.heap.size Wl W') := hXc
                clear hX hXc
                go_wp2
                rename_i Q1 K1 hK
                refine wp_region_any hmx ?_
                refine wpAny_tabG (G := (Nat)) (fun g i__ => ([(.slice (some ⟨g5, 0, none⟩) ts.length c5), (.int .i64 (ii : Int)), (.pointer (some ⟨g5, 2 * ii, none⟩)), (.agg #[p1, p2]), (.slice (some ⟨sb, so, none⟩) ss.length cap1), (.int .i64 (kk : Int)), (.pointer (some ⟨sb, so + kk, none⟩)), (.string s), (.tuple #[sv N, .int .i64 pa, .int .i64 pb]), (.tuple #[sv N, .int .i64 pa, .int .i64 pb]), (sv N), (.int .i64 pa), (.int .i64 pb), (.pointer (some ⟨g, 0, none⟩)), undef, (.int .i64 pa), (.int .i64 pb)] : List Value).getD i__ undef) (fun g d W' => JX (fun W => Below Wl.heap.size Wl W) N Wl.heap.size g (d 13) (d 14) W') (by kernel_rfl) (0) ⟨HXc.out _ _ HX.out (Below.refl _ _).drew, HX.out.size, (fun e => by cases e)⟩ ?step2 ?fin2
                case step2 =>
                  intro i o ho
                  have hi : i < 17 := getElem?_lt ho
                  match i, hi, ho with
                  | 0, _, ho =>
                    cases ho
                    refine stepG_of (fun g d hdep => ?_)
                    exact step_move rfl trivial _ rfl (by kernel_rfl)
                  | 1, _, ho =>
                    cases ho
                    refine stepG_of (fun g d hdep => ?_)
                    exact step_move rfl trivial _ rfl (by kernel_rfl)
                  | 2, _, ho =>
                    cases ho
                    refine stepG_of (fun g d hdep => ?_)
                    exact step_indexAddr rfl trivial _ _ _ _ _ rfl rfl rfl (fun w hw => ix_ros w _ _ _ _ hil)
                  | 3, _, ho =>
                    cases ho
                    refine stepG_of (fun g d hdep => ?_)
                    exact step_load rfl trivial _ _ _ rfl rfl (fun w hw => load_ros2 (B1.out w hw.p).1 (B1.out w hw.p).2)
                  | 4, _, ho =>
                    cases ho
                    refine stepG_of (fun g d hdep => ?_)
                    exact step_move rfl trivial _ rfl (by kernel_rfl)
                  | 5, _, ho =>
                    cases ho
                    refine stepG_of (fun g d hdep => ?_)
                    exact step_move rfl trivial _ rfl (by kernel_rfl)
                  | 6, _, ho =>
                    cases ho
                    refine stepG_of (fun g d hdep => ?_)
                    exact step_indexAddr rfl trivial _ _ _ _ _ rfl rfl rfl (fun w hw => ix_str w _ _ _ _ _ hkl2)
                  | 7, _, ho =>
                    cases ho
                    refine stepG_of (fun g d hdep => ?_)
                    exact step_load rfl trivial _ _ _ rfl rfl (fun w hw => load_str (B3.out w hw.p))
                  | 8, _, ho =>
                    cases ho
                    refine stepG_of (fun g d hdep => ?_)
                    exact step_call rfl trivial 10 _ _ [(.agg #[p1, p2]), (.string s)] rfl (by kernel_rfl) (enters_of Tryd.func10 (by kernel_rfl) rfl) (fun w hw => (A1.out w hw.p).mono (by rintro e w' ⟨rfl, hb⟩; exact ⟨rfl, hw.carry HXc.out hb⟩))
                  | 9, _, ho =>
                    cases ho
                    refine stepG_of (fun g d hdep => ?_)
                    exact step_move rfl trivial _ rfl (by kernel_rfl)
                  | 10, _, ho =>
                    cases ho
                    refine stepG_of (fun g d hdep => ?_)
                    exact step_extract rfl trivial _ _ _ rfl rfl (fun w hw => ext3_0 _ _ _ w)
                  | 11, _, ho =>
                    cases ho
                    refine stepG_of (fun g d hdep => ?_)
                    exact step_extract rfl trivial _ _ _ rfl rfl (fun w hw => ext3_1 _ _ _ w)
                  | 12, _, ho =>
                    cases ho
                    refine stepG_of (fun g d hdep => ?_)
                    exact step_extract rfl trivial _ _ _ rfl rfl (fun w hw => ext3_2 _ _ _ w)
                  | 13, _, ho =>
                    cases ho
                    exact stepG_new rfl rfl rfl (fun g d W' hJ hun hcl => ⟨W'.heap.size, (fun j hj => match j, hj with | 13, hj => (by rw [hj] at hun; cases hun)  | 0, _ => rfl | 1, _ => rfl | 2, _ => rfl | 3, _ => rfl | 4, _ => rfl | 5, _ => rfl | 6, _ => rfl | 7, _ => rfl | 8, _ => rfl | 9, _ => rfl | 10, _ => rfl | 11, _ => rfl | 12, _ => rfl | 14, _ => rfl | 15, _ => rfl | 16, _ => rfl | _ + 17, _ => rfl), rfl, JX.new HXc.out hJ (by show d 14 = false; cases h : d 14 with | false => rfl | true => exact absurd (hcl 14 _ rfl h 13 (by kernel_rfl)) (by rw [hun]; simp))⟩)
                  | 14, _, ho =>
                    cases ho
                    refine stepG_of (fun g d hdep => ?_)
                    exact step_store rfl trivial rfl _ _ _ _ _ rfl rfl rfl (fun w' hw => ⟨_, wstore4 w' _ _ N (hw.t (hdep 13 (by kernel_rfl))).2, by have h6 := hdep 13 (by kernel_rfl); rw [h6] at hw; have := JX.store (fun W2 h2 hl2 => h2.trans ((below_set4 W2 g N).mono hl2)) hw; simpa [h6] using this⟩)
                  | 15, _, ho =>
                    cases ho
                    refine stepG_of (fun g d hdep => ?_)
                    exact step_assign rfl trivial _ rfl (by kernel_rfl) (fun _ h => h)
                  | 16, _, ho =>
                    cases ho
                    refine stepG_of (fun g d hdep => ?_)
                    exact step_assign rfl trivial _ rfl (by kernel_rfl) (fun _ h => h)
                intro g d W hall hW
                first | refine hK _ _ ?_ | refine (‹∀ (a : Act) (w : World), Code.wp Tryd.prog _ _ a w → _›) _ _ ?_
                simp only [finL, List.getD_cons_zero, List.getD_cons_succ, Nat.zero_add, Nat.reduceAdd, List.setIfInBounds_toArray, List.set_cons_zero, List.set_cons_succ]
                obtain ⟨ga, e1⟩ : ∃ ga, ga = g := ⟨_, rfl⟩
                subst e1
                obtain ⟨W1, e2⟩ : ∃ W1, W1 = W := ⟨_, rfl⟩
                subst e2
                rw [hall 13 (by decide), hall 14 (by decide)] at hW
                clear hK hall HX
                obtain ⟨hD1, hlt1, ht1⟩ := hW
                obtain ⟨hga, hTa⟩ := ht1 rfl
                simp only [if_true] at hTa
                have hgal := hTa.lt
                have H1 : Hid (Below Wl.heap.size Wl W1) := hD1
                have H2 : Hid (Holds4 W1 ga (wd N)) := hTa
                clear ht1 hD1 hTa
                go_wp2
                rename_i K2 hK
                refine wp_region_any hmx ?_
                refine wpAny_tabG (G := (Nat)) (fun g i__ => ([(.slice (some ⟨g6, 0, none⟩) ts.length c6), (.int .i64 (ii : Int)), (.pointer (some ⟨g6, ii, none⟩)), (.agg #[q]), (.slice (some ⟨sb, so, none⟩) ss.length cap1), (.int .i64 (kk : Int)), (.pointer (some ⟨sb, so + kk, none⟩)), (.string s), (.tuple #[sv N, .int .i64 pa, .int .i64 pb]), (.tuple #[sv N, .int .i64 pa, .int .i64 pb]), (sv N), (.int .i64 pa), (.int .i64 pb), (.pointer (some ⟨g, 0, none⟩)), undef, (.int .i64 pa), (.int .i64 pb)] : List Value).getD i__ undef) (fun g d W' => JX (fun W => Below Wl.heap.size Wl W ∧ Holds4 W ga (wd N)) N W1.heap.size g (d 13) (d 14) W') (by kernel_rfl) (0) ⟨⟨HXc.out _ _ H1.out (Below.refl _ _).drew, H2.out.carry (Below.refl _ _).drew⟩, Nat.le_refl _, (fun e => by cases e)⟩ ?step3 ?fin3
                case step3 =>
                  intro i o ho
                  have hi : i < 17 := getElem?_lt ho
                  match i, hi, ho with
                  | 0, _, ho =>
                    cases ho
                    refine stepG_of (fun g d hdep => ?_)
                    exact step_move rfl trivial _ rfl (by kernel_rfl)
                  | 1, _, ho =>
                    cases ho
                    refine stepG_of (fun g d hdep => ?_)
                    exact step_move rfl trivial _ rfl (by kernel_rfl)
                  | 2, _, ho =>
                    cases ho
                    refine stepG_of (fun g d hdep => ?_)
                    exact step_indexAddr rfl trivial _ _ _ _ _ rfl rfl rfl (fun w hw => ix_rosR w _ _ _ _ hil)
                  | 3, _, ho =>
                    cases ho
                    refine stepG_of (fun g d hdep => ?_)
                    exact step_load rfl trivial _ _ _ rfl rfl (fun w hw => load_rosR2 (B2.out w hw.p.1))
                  | 4, _, ho =>
                    cases ho
                    refine stepG_of (fun g d hdep => ?_)
                    exact step_move rfl trivial _ rfl (by kernel_rfl)
                  | 5, _, ho =>
                    cases ho
                    refine stepG_of (fun g d hdep => ?_)
                    exact step_move rfl trivial _ rfl (by kernel_rfl)
                  | 6, _, ho =>
                    cases ho
                    refine stepG_of (fun g d hdep => ?_)
                    exact step_indexAddr rfl trivial _ _ _ _ _ rfl rfl rfl (fun w hw => ix_str w _ _ _ _ _ hkl2)
                  | 7, _, ho =>
                    cases ho
                    refine stepG_of (fun g d hdep => ?_)
                    exact step_load rfl trivial _ _ _ rfl rfl (fun w hw => load_str (B3.out w hw.p.1))
                  | 8, _, ho =>
                    cases ho
                    refine stepG_of (fun g d hdep => ?_)
                    exact step_call rfl trivial 11 _ _ [(.agg #[q]), (.string s)] rfl (by kernel_rfl) (enters_of Tryd.func11 (by kernel_rfl) rfl) (fun w hw => (A2.out w hw.p.1).mono (by rintro e w' ⟨rfl, hb⟩; exact ⟨rfl, hw.carry (fun _ _ h hb2 => ⟨HXc.out _ _ h.1 hb2, h.2.carry hb2⟩) hb⟩))
                  | 9, _, ho =>
                    cases ho
                    refine stepG_of (fun g d hdep => ?_)
                    exact step_move rfl trivial _ rfl (by kernel_rfl)
                  | 10, _, ho =>
                    cases ho
                    refine stepG_of (fun g d hdep => ?_)
                    exact step_extract rfl trivial _ _ _ rfl rfl (fun w hw => ext3_0 _ _ _ w)
                  | 11, _, ho =>
                    cases ho
                    refine stepG_of (fun g d hdep => ?_)
                    exact step_extract rfl trivial _ _ _ rfl rfl (fun w hw => ext3_1 _ _ _ w)
                  | 12, _, ho =>
                    cases ho
                    refine stepG_of (fun g d hdep => ?_)
                    exact step_extract rfl trivial _ _ _ rfl rfl (fun w hw => ext3_2 _ _ _ w)
                  | 13, _, ho =>
                    cases ho
                    exact stepG_new rfl rfl rfl (fun g d W' hJ hun hcl => ⟨W'.heap.size, (fun j hj => match j, hj with | 13, hj => (by rw [hj] at hun; cases hun)  | 0, _ => rfl | 1, _ => rfl | 2, _ => rfl | 3, _ => rfl | 4, _ => rfl | 5, _ => rfl | 6, _ => rfl | 7, _ => rfl | 8, _ => rfl | 9, _ => rfl | 10, _ => rfl | 11, _ => rfl | 12, _ => rfl | 14, _ => rfl | 15, _ => rfl | 16, _ => rfl | _ + 17, _ => rfl), rfl, JX.new (fun _ _ h hb2 => ⟨HXc.out _ _ h.1 hb2, h.2.carry hb2⟩) hJ (by show d 14 = false; cases h : d 14 with | false => rfl | true => exact absurd (hcl 14 _ rfl h 13 (by kernel_rfl)) (by rw [hun]; simp))⟩)
                  | 14, _, ho =>
                    cases ho
                    refine stepG_of (fun g d hdep => ?_)
                    exact step_store rfl trivial rfl _ _ _ _ _ rfl rfl rfl (fun w' hw => ⟨_, wstore4 w' _ _ N (hw.t (hdep 13 (by kernel_rfl))).2, by have h6 := hdep 13 (by kernel_rfl); rw [h6] at hw; have := JX.store (fun W2 h2 hl2 => ⟨h2.1.trans ((below_set4 W2 g N).mono (by omega)), h2.2.keep (below_set4 W2 g N) (by omega)⟩) hw; simpa [h6] using this⟩)
                  | 15, _, ho =>
                    cases ho
                    refine stepG_of (fun g d hdep => ?_)
                    exact step_assign rfl trivial _ rfl (by kernel_rfl) (fun _ h => h)
                  | 16, _, ho =>
                    cases ho
                    refine stepG_of (fun g d hdep => ?_)
                    exact step_assign rfl trivial _ rfl (by kernel_rfl) (fun _ h => h)
                intro g d W hall hW
                first | refine hK _ _ ?_ | refine (‹∀ (a : Act) (w : World), Code.wp Tryd.prog _ _ a w → _›) _ _ ?_
                simp only [finL, List.getD_cons_zero, List.getD_cons_succ, Nat.zero_add, Nat.reduceAdd, List.setIfInBounds_toArray, List.set_cons_zero, List.set_cons_succ]
                obtain ⟨gb, e1⟩ : ∃ gb, gb = g := ⟨_, rfl⟩
                subst e1
                obtain ⟨W2, e2⟩ : ∃ W2, W2 = W := ⟨_, rfl⟩
                subst e2
                rw [hall 13 (by decide), hall 14 (by decide)] at hW
                clear hK hall H1 H2
                obtain ⟨⟨hD1, hTa⟩, hlt2, ht1⟩ := hW
                obtain ⟨hgb, hTb⟩ := ht1 rfl
                simp only [if_true] at hTb
                have hj : Hid (Below Wl.heap.size Wl W2 ∧ Holds4 W2 ga (wd N) ∧ Holds4 W2 gb (wd N)) := ⟨hD1, hTa, hTb⟩
                clear ht1 hD1 hTa hTb
                have HC : Hid (∀ W W' : World, (Below Wl.heap.size Wl W ∧ Holds4 W ga (wd N) ∧ Holds4 W gb (wd N)) → Below W.heap.size W W' → (Below Wl.heap.size Wl W' ∧ Holds4 W' ga (wd N) ∧ Holds4 W' gb (wd N))) := fun W W' h hb => ⟨HXc.out _ _ h.1 hb, h.2.1.carry hb, h.2.2.carry hb⟩
                go_wp2
                rename_i K3 hK
                refine wp_region_any hmx ?_
                refine wpAny_pure (fun i__ => ([(.slice (some ⟨g5, 0, none⟩) ts.length c5), (.int .i64 (ii : Int)), (.pointer (some ⟨g5, 2 * ii, none⟩)), (.agg #[p1, p2]), (sv N), (.tuple #[.string tx, .int .i64 te]), (.tuple #[.string tx, .int .i64 te]), (.string tx), (.int .i64 te), (.string tx), (.int .i64 te)] : List Value).getD i__ undef) (fun W => Below Wl.heap.size Wl W ∧ Holds4 W ga (wd N) ∧ Holds4 W gb (wd N)) (by kernel_rfl) (HC.out _ _ hj.out (Below.refl _ _).drew) ?_ ?_
                · refine (stepsFrom_cons ?_ (stepsFrom_cons ?_ (stepsFrom_cons ?_ (stepsFrom_cons ?_ (stepsFrom_cons ?_ (stepsFrom_cons ?_ (stepsFrom_cons ?_ (stepsFrom_cons ?_ (stepsFrom_cons ?_ (stepsFrom_cons ?_ (stepsFrom_cons ?_ trivial)))))))))))
                  · exact step_move rfl trivial _ rfl (by kernel_rfl)
                  · exact step_move rfl trivial _ rfl (by kernel_rfl)
                  · exact step_indexAddr rfl trivial _ _ _ _ _ rfl rfl rfl (fun w hw => ix_ros w _ _ _ _ hil)
                  · exact step_load rfl trivial _ _ _ rfl rfl (fun w hw => load_ros2 (B1.out w hw.1).1 (B1.out w hw.1).2)
                  · exact step_load rfl trivial _ _ _ rfl rfl (fun w hw => whole4 w _ N hw.2.1)
                  · exact step_call rfl trivial 7 _ _ [(.agg #[p1, p2]), (sv N)] rfl (by kernel_rfl) (enters_of Tryd.func7 (by kernel_rfl) rfl) (fun w hw => (A3.out w hw.1).mono (by rintro e w' ⟨rfl, hb⟩; exact ⟨rfl, HC.out _ _ hw hb⟩))
                  · exact step_move rfl trivial _ rfl (by kernel_rfl)
                  · exact step_extract rfl trivial _ _ _ rfl rfl (fun w hw => ext2_0 _ _ w)
                  · exact step_extract rfl trivial _ _ _ rfl rfl (fun w hw => ext2_1 _ _ w)
                  · exact step_assign rfl trivial _ rfl (by kernel_rfl) (fun _ h => h)
                  · exact step_assign rfl trivial _ rfl (by kernel_rfl) (fun _ h => h)
                intro W hW
                first | refine hK _ _ ?_ | refine (‹∀ (a : Act) (w : World), Code.wp Tryd.prog _ _ a w → _›) _ _ ?_
                simp only [finL, List.getD_cons_zero, List.getD_cons_succ, Nat.zero_add, Nat.reduceAdd, List.setIfInBounds_toArray, List.set_cons_zero, List.set_cons_succ]
                obtain ⟨W3, e2⟩ : ∃ W3, W3 = W := ⟨_, rfl⟩
                subst e2
                clear hK hj
                have hj : Hid (Below Wl.heap.size Wl W3 ∧ Holds4 W3 ga (wd N) ∧ Holds4 W3 gb (wd N)) := hW
                clear hW
                go_wp2
                rename_i K4 hK
                refine wp_region_any hmx ?_
                refine wpAny_pure (fun i__ => ([(.slice (some ⟨g6, 0, none⟩) ts.length c6), (.int .i64 (ii : Int)), (.pointer (some ⟨g6, ii, none⟩)), (.agg #[q]), (sv N), (.tuple #[.string tx, .int .i64 te]), (.tuple #[.string tx, .int .i64 te]), (.string tx), (.int .i64 te), (.string tx), (.int .i64 te)] : List Value).getD i__ undef) (fun W => Below Wl.heap.size Wl W ∧ Holds4 W ga (wd N) ∧ Holds4 W gb (wd N)) (by kernel_rfl) (HC.out _ _ hj.out (Below.refl _ _).drew) ?_ ?_
                · refine (stepsFrom_cons ?_ (stepsFrom_cons ?_ (stepsFrom_cons ?_ (stepsFrom_cons ?_ (stepsFrom_cons ?_ (stepsFrom_cons ?_ (stepsFrom_cons ?_ (stepsFrom_cons ?_ (stepsFrom_cons ?_ (stepsFrom_cons ?_ (stepsFrom_cons ?_ trivial)))))))))))
                  · exact step_move rfl trivial _ rfl (by kernel_rfl)
                  · exact step_move rfl trivial _ rfl (by kernel_rfl)
                  · exact step_indexAddr rfl trivial _ _ _ _ _ rfl rfl rfl (fun w hw => ix_rosR w _ _ _ _ hil)
                  · exact step_load rfl trivial _ _ _ rfl rfl (fun w hw => load_rosR2 (B2.out w hw.1))
                  · exact step_load rfl trivial _ _ _ rfl rfl (fun w hw => whole4 w _ N hw.2.2)
                  · exact step_call rfl trivial 8 _ _ [(.agg #[q]), (sv N)] rfl (by kernel_rfl) (enters_of Tryd.func8 (by kernel_rfl) rfl) (fun w hw => (A4.out w hw.1).mono (by rintro e w' ⟨rfl, hb⟩; exact ⟨rfl, HC.out _ _ hw hb⟩))
                  · exact step_move rfl trivial _ rfl (by kernel_rfl)
                  · exact step_extract rfl trivial _ _ _ rfl rfl (fun w hw => ext2_0 _ _ w)
                  · exact step_extract rfl trivial _ _ _ rfl rfl (fun w hw => ext2_1 _ _ w)
                  · exact step_assign rfl trivial _ rfl (by kernel_rfl) (fun _ h => h)
                  · exact step_assign rfl trivial _ rfl (by kernel_rfl) (fun _ h => h)
                intro W hW
                first | refine hK _ _ ?_ | refine (‹∀ (a : Act) (w : World), Code.wp Tryd.prog _ _ a w → _›) _ _ ?_
                simp only [finL, List.getD_cons_zero, List.getD_cons_succ, Nat.zero_add, Nat.reduceAdd, List.setIfInBounds_toArray, List.set_cons_zero, List.set_cons_succ]
                obtain ⟨W4, e2⟩ : ∃ W4, W4 = W := ⟨_, rfl⟩
                subst e2
                clear hK hj
                have hj : Hid (Below Wl.heap.size Wl W4 ∧ Holds4 W4 ga (wd N) ∧ Holds4 W4 gb (wd N)) := hW
                clear hW
                go_wp2
                rename_i K5 hK
                refine wp_region_any hmx ?_
                refine wpAny_pure (fun i__ => ([(sv N), (sv N), (.bool false), (.bool false), (.int .i64 pb), (.int .i64 pb), (.bool false), (.bool false), (.bool false), (.string tx), (.string tx), (.bool false), (.bool false), (.bool false), (.int .i64 te), (.int .i64 te), (.bool false), (.bool false), (.bool false), (.slice (some ⟨g5, 0, none⟩) ts.length c5), (.int .i64 (ii : Int)), (.pointer (some ⟨g5, 2 * ii, none⟩)), (.agg #[p1, p2]), (.string (txt l)), (.slice (some ⟨g6, 0, none⟩) ts.length c6), (.int .i64 (ii : Int)), (.pointer (some ⟨g6, ii, none⟩)), (.agg #[q]), (.string (txt l)), (.bool false), (.bool false)] : List Value).getD i__ undef) (fun W => Below Wl.heap.size Wl W ∧ Holds4 W ga (wd N) ∧ Holds4 W gb (wd N)) (by kernel_rfl) (HC.out _ _ hj.out (Below.refl _ _).drew) ?_ ?_
                · refine (stepsFrom_cons ?_ (stepsFrom_cons ?_ (stepsFrom_cons ?_ (stepsFrom_cons ?_ (stepsFrom_cons ?_ (stepsFrom_cons ?_ (stepsFrom_cons ?_ (stepsFrom_cons ?_ (stepsFrom_cons ?_ (stepsFrom_cons ?_ (stepsFrom_cons ?_ (stepsFrom_cons ?_ (stepsFrom_cons ?_ (stepsFrom_cons ?_ (stepsFrom_cons ?_ (stepsFrom_cons ?_ (stepsFrom_cons ?_ (stepsFrom_cons ?_ (stepsFrom_cons ?_ (stepsFrom_cons ?_ (stepsFrom_cons ?_ (stepsFrom_cons ?_ (stepsFrom_cons ?_ (stepsFrom_cons ?_ (stepsFrom_cons ?_ (stepsFrom_cons ?_ (stepsFrom_cons ?_ (stepsFrom_cons ?_ (stepsFrom_cons ?_ (stepsFrom_cons ?_ (stepsFrom_cons ?_ trivial)))))))))))))))))))))))))))))))
                  · exact step_load rfl trivial _ _ _ rfl rfl (fun w hw => whole4 w _ N hw.2.1)
                  · exact step_load rfl trivial _ _ _ rfl rfl (fun w hw => whole4 w _ N hw.2.2)
                  · exact step_binOp rfl trivial _ _ _ _ _ _ _ rfl rfl rfl (fun w hw => neqs rfl hN8 w)
                  · exact step_move rfl trivial _ rfl (by kernel_rfl)
                  · exact step_move rfl (by exact ⟨_, rfl, by kernel_rfl⟩) _ rfl (by kernel_rfl)
                  · exact step_move rfl (by exact ⟨_, rfl, by kernel_rfl⟩) _ rfl (by kernel_rfl)
                  · exact step_binOp rfl (by exact ⟨_, rfl, by kernel_rfl⟩) _ _ _ _ _ _ _ rfl rfl rfl (fun w hw => bin_neqi .i64 _)
                  · exact step_pick rfl trivial _ _ _ false rfl (by kernel_rfl) (by kernel_rfl)
                  · exact step_move rfl trivial _ rfl (by kernel_rfl)
                  · exact step_move rfl (by exact ⟨_, rfl, by kernel_rfl⟩) _ rfl (by kernel_rfl)
                  · exact step_move rfl (by exact ⟨_, rfl, by kernel_rfl⟩) _ rfl (by kernel_rfl)
                  · exact step_binOp rfl (by exact ⟨_, rfl, by kernel_rfl⟩) _ _ _ _ _ _ _ rfl rfl rfl (fun w hw => bin_neqs _)
                  · exact step_pick rfl trivial _ _ _ false rfl (by kernel_rfl) (by kernel_rfl)
                  · exact step_move rfl trivial _ rfl (by kernel_rfl)
                  · exact step_move rfl (by exact ⟨_, rfl, by kernel_rfl⟩) _ rfl (by kernel_rfl)
                  · exact step_move rfl (by exact ⟨_, rfl, by kernel_rfl⟩) _ rfl (by kernel_rfl)
                  · exact step_binOp rfl (by exact ⟨_, rfl, by kernel_rfl⟩) _ _ _ _ _ _ _ rfl rfl rfl (fun w hw => bin_neqi .i64 _)
                  · exact step_pick rfl trivial _ _ _ false rfl (by kernel_rfl) (by kernel_rfl)
                  · exact step_move rfl trivial _ rfl (by kernel_rfl)
                  · exact step_move rfl (by exact ⟨_, rfl, by kernel_rfl⟩) _ rfl (by kernel_rfl)
                  · exact step_move rfl (by exact ⟨_, rfl, by kernel_rfl⟩) _ rfl (by kernel_rfl)
                  · exact step_indexAddr rfl (by exact ⟨_, rfl, by kernel_rfl⟩) _ _ _ _ _ rfl rfl rfl (fun w hw => ix_ros w _ _ _ _ hil)
                  · exact step_load rfl (by exact ⟨_, rfl, by kernel_rfl⟩) _ _ _ rfl rfl (fun w hw => load_ros2 (B1.out w hw.1).1 (B1.out w hw.1).2)
                  · exact step_call rfl (by exact ⟨_, rfl, by kernel_rfl⟩) 12 _ _ [(.agg #[p1, p2])] rfl (by kernel_rfl) (enters_of Tryd.func12 (by kernel_rfl) rfl) (fun w hw => (A5.out w hw.1).mono (by rintro e w' ⟨rfl, hb⟩; exact ⟨rfl, HC.out _ _ hw hb⟩))
                  · exact step_move rfl (by exact ⟨_, rfl, by kernel_rfl⟩) _ rfl (by kernel_rfl)
                  · exact step_move rfl (by exact ⟨_, rfl, by kernel_rfl⟩) _ rfl (by kernel_rfl)
                  · exact step_indexAddr rfl (by exact ⟨_, rfl, by kernel_rfl⟩) _ _ _ _ _ rfl rfl rfl (fun w hw => ix_rosR w _ _ _ _ hil)
                  · exact step_load rfl (by exact ⟨_, rfl, by kernel_rfl⟩) _ _ _ rfl rfl (fun w hw => load_rosR2 (B2.out w hw.1))
                  · exact step_call rfl (by exact ⟨_, rfl, by kernel_rfl⟩) 13 _ _ [(.agg #[q])] rfl (by kernel_rfl) (enters_of Tryd.func13 (by kernel_rfl) rfl) (fun w hw => (A6.out w hw.1).mono (by rintro e w' ⟨rfl, hb⟩; exact ⟨rfl, HC.out _ _ hw hb⟩))
                  · exact step_binOp rfl (by exact ⟨_, rfl, by kernel_rfl⟩) _ _ _ _ _ _ _ rfl rfl rfl (fun w hw => bin_neqs _)
                  · exact step_pick rfl trivial _ _ _ false rfl (by kernel_rfl) (by kernel_rfl)
                intro W hW
                first | refine hK _ _ ?_ | refine (‹∀ (a : Act) (w : World), Code.wp Tryd.prog _ _ a w → _›) _ _ ?_
                simp only [finL, List.getD_cons_zero, List.getD_cons_succ, Nat.zero_add, Nat.reduceAdd, List.setIfInBounds_toArray, List.set_cons_zero, List.set_cons_succ]
                clear hK hj
                have hX5 := hW.1
                clear hW
                go_wp2
                go_roundw
                case rel => exact ⟨ii + 1, by simp, by omega, hX5⟩
                case measure => simp [RowKit.intOf]; omega
              · have hii2 : ¬ (ii : Int) < (ts.length : Int) := by omega
                go_wp2
                go_roundw
                case rel => exact ⟨kk + 1, by simp, by omega, hX⟩
                case measure => simp [RowKit.intOf]; omega
          · have hki2 : ¬ (kk : Int) < (ss.length : Int) := by omega
            go_wp2
            go_ret
            exact ⟨rfl, hbw.trans (hX.mono hbz)⟩
  · have t1 : (20 : Int) < (ts.length : Int) ∨ (20 : Int) < (ss.length : Int) := by omega
    by_cases t2 : (20 : Int) < (ts.length : Int)
    · clear t1 h20
      go_enter Tryd.func4, Tryd.ntmps4
      go_wp2_with (first | (go_at_call 9; have hbb := hb0; refine (hal _).mono ?_; rintro e u1 ⟨rfl, hb1⟩; clear hbb) | (go_at_call 9; refine (hal _).mono ?_; rintro e u0 ⟨rfl, hb0⟩))
      go_ret
      exact ⟨rfl, bcarry hb0 (Nat.le_refl _) hb1⟩
    · have t3 : (20 : Int) < (ss.length : Int) := by omega
      clear t1 h20
      go_enter Tryd.func4, Tryd.ntmps4
      go_wp2_with (first | (go_at_call 9; have hbb := hb0; refine (hal _).mono ?_; rintro e u1 ⟨rfl, hb1⟩; clear hbb) | (go_at_call 9; refine (hal _).mono ?_; rintro e u0 ⟨rfl, hb0⟩))
      go_ret
      exact ⟨rfl, bcarry hb0 (Nat.le_refl _) hb1⟩
theorem walk (w : World) (ad0 : Option Addr) (cap0 : Nat) (l0 : List ByteArray) (w0 : l0 ≠ [] → ∃ a, ad0 = some a ∧ Strs w a l0) (hl0 : l0.length ≤ maxLen) (hs0 : ∀ s ∈ l0, s.size ≤ maxLen) (ad1 : Option Addr) (cap1 : Nat) (l1 : List ByteArray) (w1 : l1 ≠ [] → ∃ a, ad1 = some a ∧ Strs w a l1) (hl1 : l1.length ≤ maxLen) (hs1 : ∀ s ∈ l1, s.size ≤ maxLen) (hL : laidMetH Tryd.prog Rows.rosterAllRow.laid w) :
    Calls Tryd.prog 4 #[.slice ad0 l0.length cap0, .slice ad1 l1.length cap1] w fun e w' => e = .returned (.bool true) ∧ Below w.heap.size w w' := by
  exact all_walk w ad0 cap0 l0 w0 hl0 hs0 ad1 cap1 l1 w1 hl1 hs1 (tab_of hL)

set_option maxRecDepth 100000 in
theorem lifted (os : Os) (started : os.Started) (H : Type) (enc : TypeId × Value → H) :
    ReturnsInHanded {} Tryd.checked os 4 .any (fun w args => (Rows.rosterAllSpec.pre enc Tryd.prog Tryd.f4 [] false w args ∧ laidMetH Tryd.prog Rows.rosterAllRow.laid w) ∧ sizedMet enc Tryd.prog Tryd.f4 (OpenSpec.ofChange Rows.rosterAllSpec) false w args)
      (Rows.rosterAllSpec.post enc Tryd.prog Tryd.f4 false true false false) := by
  refine returnsInHanded_of_change_and (C := Tryd.checked) (X := fun w _ => laidMetH Tryd.prog Rows.rosterAllRow.laid w) (fun _ _ _ hh h => h.of_heap hh) own started (by kernel_rfl) Tryd.func4
    (ChangeSpec.witness_shaped (enc := enc) (C := Tryd.checked) (os := os) (X := fun w _ => laidMetH Tryd.prog Rows.rosterAllRow.laid w) false (World.laidAll Tryd.prog os Rows.rosterAllRow.laid) #[.slice none 0 0, .slice none 0 0] 8 (World.laidAll_os _ _ _)
      (World.shaped_of_ZipB (by kernel_rfl) (by kernel_rfl)) (by kernel_rfl) (by kernel_rfl) (by kernel_rfl)
      (by rw [MakeChecks.laidMetH_plain _ _ _ (by kernel_rfl)]; exact laidMet_laidAll _ (by kernel_rfl) (by kernel_rfl))) ?_
  intro W base args ds gs before hval0 hW _ _ hL hsz
  have hval : ∀ (j : Nat) t v, Tryd.f4.params[j]? = some t → args[j]? = some v → Value.okWide Tryd.prog W .any base t v := hval0
  have hW' := hW
  obtain ⟨p, q, hA0, hV, rfl, hfz, hnd⟩ := hW
  have hA : DataW.TrodAll enc Tryd.prog W 0 (fun _ => true) true Tryd.f4.params.toList args.toList ds p := hA0
  rw [Tryd.params4] at hA hval
  obtain ⟨v0, vs0, d0, ds0, p0, q0, hargs, rfl, rfl, h0, r0⟩ := trodAll_cons hA
  obtain ⟨v1, vs1, d1, ds1, p1, q1, rfl, rfl, rfl, h1, r1⟩ := trodAll_cons r0
  obtain ⟨rfl, rfl, rfl⟩ := trodAll_nil r1
  obtain rfl : args = #[v0, v1] := by cases args; simp_all
  obtain ⟨rfl, rfl⟩ := trodVars_none hV
  have k0 := h0
  have lt0 : ∀ x ∈ p0, x.block < W.heap.size := by obtain ⟨m, hm⟩ := k0; exact DataW.trod_lt m _ _ _ hm
  obtain ⟨ad0, cap0, l0, rfl, w0, hl0, hs0⟩ := open_strs (hval 0 42 v0 rfl rfl) h0
  have k1 := h1
  have lt1 : ∀ x ∈ p1, x.block < W.heap.size := by obtain ⟨m, hm⟩ := k1; exact DataW.trod_lt m _ _ _ hm
  obtain ⟨ad1, cap1, l1, rfl, w1, hl1, hs1⟩ := open_strs (hval 1 42 v1 rfl rfl) h1
  clear hA0 hval0
  refine (walk W ad0 cap0 l0 w0 hl0 hs0 ad1 cap1 l1 w1 hl1 hs1 hL).mono fun e W' ⟨he, hg⟩ => ?_
  subst he
  exact ⟨_, rfl, _, _, _, [], _, [], hW', (trodAll_cons_mk (shut_bool Tryd.underlying4 _) trodAll_mk0), (trodAll_cons_mk (Below.trod laidOut (by kernel_rfl) (of_decide_eq_true (by kernel_rfl)) k0 hg lt0) (trodAll_cons_mk (Below.trod laidOut (by kernel_rfl) (of_decide_eq_true (by kernel_rfl)) k1 hg lt1) trodAll_mk0)), rfl, hg.frame _, fun h => by cases h⟩

theorem over : Rows.rosterAllRow.holds Tryd.pinned (OpenSpec.ofChange Rows.rosterAllSpec) :=
  OpenClaim.holds_of_wide 4 Tryd.f4 rfl rfl rfl rfl rfl rfl rfl ⟨rfl, rfl, rfl, rfl, rfl⟩ rfl rfl rfl rfl rfl (by kernel_rfl) Tryd.func4 (by kernel_rfl)
    (of_decide_eq_true (by kernel_rfl)) (by unfold Func.isWrapper; first | (rw [if_pos (by decide +kernel)]; kernel_rfl) | (rw [if_neg (by decide +kernel)]; exact ⟨rfl, rfl⟩))
    (fun os started H enc _ => lifted os started H enc)

theorem row_proved : Rows.RosterAllSaid :=
  over
theorem proved : Rows.RosterAllCardSaid :=
  Claim7.holds_tied_plain_at .later [] [.data] true (true, "7bd91b1182ac18a50a7a858511e38e0045d2ff291220155019981890f04e7769") false
    row_proved (fun _ h => by cases h) (by kernel_rfl) (fun _ h => by cases h) rosterAll_row_tie rfl ⟨rfl, rfl⟩ (by kernel_rfl) rfl
    (fun f fn hf hfn => by
      obtain rfl : f = 4 := Option.some.inj ((show Tryd.prog.funcNamed "earshot/earshotlaw4.RosterAll" = some 4 by kernel_rfl).symm.trans hf) |>.symm
      obtain rfl : fn = Tryd.f4 := (Option.some.inj (Tryd.func4.symm.trans hfn)).symm
      exact ⟨by kernel_rfl, fun j t ht => by
        rw [Tryd.params4] at ht
        rcases j with _ | j
        · have e : t = 42 := by simpa using ht.symm
          subst e
          exact (show Tryd.prog.wantsStandIn 42 = false by kernel_rfl)
        rcases j with _ | j
        · have e : t = 42 := by simpa using ht.symm
          subst e
          exact (show Tryd.prog.wantsStandIn 42 = false by kernel_rfl)
        simp at ht⟩)
    (by kernel_rfl)
#print axioms proved
end Go.Proofs.YtginkcjhfdoodabDoor
