/- SetGoes: All goes through the ids of every set, rising, as far as it is asked, and again; under the row's own word that math/bits.deBruijn32tab is laid as its text says. -/
import Derived.Test.YtahlehgibcdfeabDoorRows
import Derived.WalkKit
import Derived.ProofKit
import Derived.OpenShut
import Derived.Stop.Joined
import Derived.Lay
import Derived.SevenTiedAt
import Derived.SizedLaws
import Derived.LaidMore
import Derived.Test.YtahlehgibcdfeabDoorTie
import Derived.Test.YtahlehgibcdfeabDoorCards
import Derived.Test.YtahlehgibcdfeabDoorRfu
import Derived.Test.YtahlehgibcdfeabDoorIds
import Derived.Test.YtahlehgibcdfeabDoorTabl
import Derived.Test.YtahlehgibcdfeabDoorMrk
namespace Go.Proofs.YtahlehgibcdfeabDoor
open Go.ChangeShapes Go.WideShapes Go.ChangeAt Go.RowKit
set_option linter.unusedVariables false


theorem own : ownKnob Tryd.prog.godebug = none := by kernel_rfl
open Go.Lib (popAux)
attribute [local go_sem] Oper.semAt_some
theorem fn_nil (bx : Nat) (w : World) : (binOp .eql 39 (.func (.func 33) #[] #[.pointer (some ⟨bx, 0, none⟩)]) (.nilFunc)).run Tryd.prog w = .ok (.bool false) w := by kernel_rfl
/-- What lies where, while All is gone through. -/
structure JG (w : World) (M : Nat) (l : List Nat) (stop : Int) (v : Value) (b5 bx : Nat) (W : World) : Prop where
  st : W.heap[w.heap.size + 1]? = some (.cells #[.int .i64 stop] 3)
  r : W.heap[w.heap.size + 2]? = some (.cells #[.bool false] 4)
  i : W.heap[b5]? = some (.cells #[v] 35)
  l : RdL W v l
  b : Holds4 W bx (wd M)
  below : Below w.heap.size w W
theorem JG.carry {w : World} {M : Nat} {l : List Nat} {stop : Int} {v : Value} {b5 bx : Nat} {W W' : World} (h : JG w M l stop v b5 bx W) (hb : Below W.heap.size W W') : JG w M l stop v b5 bx W' :=
  ⟨(hb.block _ (Array.getElem?_eq_some_iff.1 h.st).1).trans h.st, (hb.block _ (Array.getElem?_eq_some_iff.1 h.r).1).trans h.r, (hb.block _ (Array.getElem?_eq_some_iff.1 h.i).1).trans h.i, h.l.carry hb, h.b.carry hb, bcarry h.below (Nat.le_refl _) hb⟩
theorem jg_own {w : World} {M : Nat} {l : List Nat} {stop : Int} {v : Value} {b5 bx B : Nat} (hB : w.heap.size ≤ B) {β : Type} : OwnFrom B (fun (_ : β) W => JG w M l stop v b5 bx W) := by
  intro s X Y row h hg hr
  have hr' : ∀ r, row = some r → ∃ o : Obj, X.heap[r]? = some o ∧ o.isCells = false := fun r e => (hr r e).2
  exact ⟨(grownBy_keeps_cells hg hr' h.st rfl).trans h.st, (grownBy_keeps_cells hg hr' h.r rfl).trans h.r, (grownBy_keeps_cells hg hr' h.i rfl).trans h.i, rdl_own v l () X Y row h.l hg hr', (grownBy_keeps_cells hg hr' h.b rfl).trans h.b, ownFrom_below (β := Unit) (Nat.le_refl _) hB () X Y row h.below hg hr⟩
theorem JG.set {w : World} {M : Nat} {l : List Nat} {stop : Int} {v : Value} {b5 bx : Nat} {W : World} {B : Nat} (h : JG w M l stop v b5 bx W) (u : Value) (h1 : B ≠ w.heap.size + 1) (h2 : B ≠ w.heap.size + 2) (h3 : B ≠ b5) (h4 : B ≠ bx) (h5 : ∀ g off n c, v = .slice (some ⟨g, off, none⟩) n c → B ≠ g) (h6 : w.heap.size ≤ B) : JG w M l stop v b5 bx (W.setCell ⟨B, 0, none⟩ u) := by
  refine ⟨(set_other h1.symm).trans h.st, (set_other h2.symm).trans h.r, (set_other h3.symm).trans h.i, ?_, (set_other h4.symm).trans h.b, h.below.setCell (p := ⟨B, 0, none⟩) h6 u⟩
  obtain ⟨ad, cap, rfl, hf⟩ := h.l
  refine ⟨ad, cap, rfl, fun j x hj => ?_⟩
  obtain ⟨g, off, rfl, q2, q3, q4⟩ := hf j x hj
  refine ⟨g, off, rfl, by simpa [World.setCell] using q2, q3, ?_⟩
  rw [World.cell?_of_block (w := W) (set_other (h5 g off _ _ rfl).symm)]
  exact q4
set_option maxHeartbeats 8000000 in
set_option maxRecDepth 100000 in
theorem goes_in (N0 : Nat) (a1 : Int) (w : World) (hT : Tab w) :
    CallsIn Fence.wide 0 Tryd.prog 4 #[sv N0, .int .i64 a1] w fun e w' => e = .returned (.bool true) ∧ Below w.heap.size w w' := by
  have hT0 := hT.lt
  have hal := alive_any
  have hri := rIds_any N0
  have hall := all_any N0
  have hcl := idsTo_cln N0
  have hlen : (idsTo N0 100).length ≤ 100 := by rw [idsTo_length]; exact popAux_le 100 N0
  generalize cln N0 = M at *
  rw [← hcl] at hri hlen
  clear hcl
  obtain ⟨l, hl⟩ : ∃ l, idsTo M 128 = l := ⟨_, rfl⟩
  rw [hl] at hri hlen
  have hfn := fn_nil
  simp only [sv] at hri hall ⊢
  refine callsIn_of_wp_marks Tryd.func4 rfl trivial ?_ rfl
  simp only [Tryd.ntmps4, List.size_toArray, List.length_cons, List.length_nil, Nat.reduceAdd, Nat.reduceSub, Array.replicate_succ, Array.replicate_zero, List.push_toArray, List.append_toArray, List.nil_append, List.cons_append]
  gi_wp2
  with_reducible (refine And.intro (wfn _) (And.intro wdep ?_))
  refine (callsIn_wide.2 (hri _)).mono ?_
  rintro e w1 ⟨v, rfl, hown, hb1⟩
  have q1 : Holds4 w1 w.heap.size (wd N0) := (hb1.block _ (by simp; omega)).trans (get_old (get_old (get_new (by simp))))
  have s1 : w1.heap[w.heap.size + 1]? = some (.cells #[.int .i64 a1] 3) := (hb1.block _ (by simp)).trans (get_old (get_new (by simp)))
  have r1 : w1.heap[w.heap.size + 2]? = some (.cells #[.bool false] 4) := (hb1.block _ (by simp)).trans (get_new (by simp))
  have b1 : Below w.heap.size w w1 := bcarry ((((Below.refl _ w).alloc (by simp) _).alloc (by simp) _).alloc (by simp; omega) _) (Nat.le_refl _) hb1
  have rl1 : RdL w1 v l := RdL.of hown
  have hvb : ∀ g off n c, v = .slice (some ⟨g, off, none⟩) n c → g < w1.heap.size := by
    intro g off n c e
    obtain ⟨ad, cap, hv, hf⟩ := ownsRow_form hown
    rcases hown.2 with ⟨h, _⟩ | ⟨g', cap', cur, h, h4, h5, _⟩
    · rw [e] at h; cases h
    · rw [e] at h; cases h; exact (Array.getElem?_eq_some_iff.1 h5).1
  have ls1 : w.heap.size + 2 < w1.heap.size := (Array.getElem?_eq_some_iff.1 r1).1
  have ls0 : w.heap.size < w1.heap.size := by omega
  obtain ⟨y0, y1, y2, y3, _⟩ := q1.facts
  obtain ⟨ad, cap, rfl, _⟩ := ownsRow_form hown
  clear hown hb1 hri
  gi_wp2
  with_reducible (refine And.intro (wfn _) (And.intro wdep ?_))
  refine (callsIn_wide.2 (hall _)).mono ?_
  rintro e w2 ⟨rfl, hb2, hh⟩
  have hbx : Holds4 w2 (w1.heap.size + 1) (wd M) := by simpa using hh
  have hJ2 : JG w M l a1 (.slice ad l.length cap) w1.heap.size (w1.heap.size + 1) w2 := ⟨(hb2.block _ (by simp; omega)).trans (get_old s1), (hb2.block _ (by simp; omega)).trans (get_old r1), (hb2.block _ (by simp)).trans (get_new rfl), (rl1.carry (alloc_below w1 _)).carry hb2, hbx, bcarry (b1.alloc (by omega) _) (Nat.le_refl _) hb2⟩
  clear q1 s1 r1 b1 rl1 y0 y1 y2 y3 hb2 hh hbx hall
  have hfn1 := hfn (w1.heap.size + 1)
  clear hfn
  gi_wp2
  with_reducible (refine And.intro (wfn _) (And.intro wdep ?_))
  refine (callsIn_wide.2 (hal _)).mono ?_
  rintro e w3 ⟨rfl, hb3⟩
  have hJ3 := hJ2.carry hb3
  clear hJ2 hb3 hfn1
  gi_wp2
  have hgap : ∀ g off n c, (.slice ad l.length cap : Value) = .slice (some ⟨g, off, none⟩) n c → g < w1.heap.size := hvb
  clear hvb
  refine wpIn_loop (fun a W => ∃ (k : Nat) (ks : List Nat) (u8 u9 u20 u21 u22 u23 u24 u25 u26 u27 u28 u29 u30 u31 u32 u33 u34 u35 u36 u37 u38 u39 u40 u41 u42 u43 u44 u45 u46 u47 u48 u49 u50 u51 : Value), k ≤ 2 ∧ a = { tmps := #[sv N0, .int .i64 a1, .pointer (some ⟨w.heap.size, 0, none⟩), .pointer (some ⟨w.heap.size + 1, 0, none⟩), .pointer (some ⟨w.heap.size + 1 + 1, 0, none⟩), .pointer (some ⟨w1.heap.size, 0, none⟩), .func (.func 33) #[] #[.pointer (some ⟨w1.heap.size + 1, 0, none⟩)], .int .i64 ((k : Nat) : Int), u8, u9, sv N0, .slice ad l.length cap, sv N0, .func (.func 33) #[] #[.pointer (some ⟨w1.heap.size + 1, 0, none⟩)], .func (.func 33) #[] #[.pointer (some ⟨w1.heap.size + 1, 0, none⟩)], .bool false, .bool false, .bool true, .bool false, .bool false, u20, u21, u22, u23, u24, u25, u26, u27, u28, u29, u30, u31, u32, u33, u34, u35, u36, u37, u38, u39, u40, u41, u42, u43, u44, u45, u46, u47, u48, u49, u50, u51, undef], defers := ks.map mark } ∧ Marks w.heap.size ks W ∧ JG w M l a1 (.slice ad l.length cap) w1.heap.size (w1.heap.size + 1) W) (fun a _ => 2 - vnat (a.tmps.getD 7 undef)) ?_ ?_
  · refine ⟨0, [], _, _, _, _, _, _, _, _, _, _, _, _, _, _, _, _, _, _, _, _, _, _, _, _, _, _, _, _, _, _, _, _, _, _, by omega, rfl, Marks.nil _ _, hJ3⟩
  · rintro a W ⟨k, ks, u8, u9, u20, u21, u22, u23, u24, u25, u26, u27, u28, u29, u30, u31, u32, u33, u34, u35, u36, u37, u38, u39, u40, u41, u42, u43, u44, u45, u46, u47, u48, u49, u50, u51, hk, rfl, hmk, hJ⟩
    by_cases hk2 : k < 2
    · have hki : (k : Int) < 2 := by omega
      have hsW : w1.heap.size + 1 < W.heap.size := hJ.b.lt
      gi_wp2
      obtain ⟨W1, hW1⟩ : ∃ W1, W.alloc (.cells #[.int .i64 0] 3) = W1 := ⟨_, rfl⟩
      have z1 : W1.heap.size = W.heap.size + 1 := by rw [← hW1]; simp
      have n1 : W1.heap[W.heap.size]? = some (.cells #[.int .i64 0] 3) := by rw [← hW1]; exact get_new rfl
      have j1 : JG w M l a1 (.slice ad l.length cap) w1.heap.size (w1.heap.size + 1) W1 := by rw [← hW1]; exact hJ.carry (alloc_below W _)
      have m1 : Marks w.heap.size ks W1 := by rw [← hW1]; exact hmk.carry (alloc_below W _)
      have hwz : w.heap.size ≤ W.heap.size := hJ.below.size
      have mlt : ∀ q ∈ ks, q < W.heap.size := hmk.lt
      rw [hW1]
      clear hW1 hJ hmk
      refine wp_rangeE (kb := 0) (gf := 33) (lb := #[.pointer (some ⟨w1.heap.size + 1, 0, none⟩)]) rfl (enters_of Tryd.func33 (by kernel_rfl) rfl)
        (all1_seq M (w1.heap.size + 1) _ j1.b) (by omega) (fun _ => rfl)
        (fun pre Wz => JG w M l a1 (.slice ad l.length cap) w1.heap.size (w1.heap.size + 1) Wz ∧ (Marks w.heap.size ks Wz ∧ Wz.heap[W.heap.size]? = some (.cells #[.int .i64 (pre.length : Nat)] 3)))
        (fun c pre Wz => JG w M l a1 (.slice ad l.length cap) w1.heap.size (w1.heap.size + 1) Wz ∧ (Marks w.heap.size ks Wz ∧ (Wz.heap[W.heap.size]? = some (.cells #[.int .i64 (pre.length : Nat)] 3) ∧ (c = .exit 2 ∧ (pre.length : Int) = a1))))
        ((jg_own (by omega)).and ((marks_own (fun q hq => by have := mlt q hq; omega)).and ((blk_own _ (fun pre : List Nat => .cells #[.int .i64 (pre.length : Nat)] 3) (fun _ => rfl)).from _)))
        (fun c => (jg_own (by omega)).and ((marks_own (fun q hq => by have := mlt q hq; omega)).and (((blk_own _ (fun pre : List Nat => .cells #[.int .i64 (pre.length : Nat)] 3) (fun _ => rfl)).from _).and (ownFrom_pure _ (fun pre : List Nat => c = .exit 2 ∧ (pre.length : Int) = a1)))))
        ⟨j1, m1, n1⟩ (fun _ Wz h => hT.keep h.1.below hT0)
        (fun x a' _ => a' = { tmps := #[sv N0, .int .i64 a1, .pointer (some ⟨w.heap.size, 0, none⟩), .pointer (some ⟨w.heap.size + 1, 0, none⟩), .pointer (some ⟨w.heap.size + 1 + 1, 0, none⟩), .pointer (some ⟨w1.heap.size, 0, none⟩), .func (.func 33) #[] #[.pointer (some ⟨w1.heap.size + 1, 0, none⟩)], .int .i64 ((k : Nat) : Int), .pointer (some ⟨W.heap.size, 0, none⟩), .int .i64 ((x : Nat) : Int), sv N0, .slice ad l.length cap, sv N0, .func (.func 33) #[] #[.pointer (some ⟨w1.heap.size + 1, 0, none⟩)], .func (.func 33) #[] #[.pointer (some ⟨w1.heap.size + 1, 0, none⟩)], .bool false, .bool false, .bool true, .bool false, .bool false, .int .i64 ((k : Nat) : Int), .bool true, u22, u23, .func (.func 33) #[] #[.pointer (some ⟨w1.heap.size + 1, 0, none⟩)], .int .i64 ((x : Nat) : Int), u26, u27, u28, u29, u30, u31, u32, u33, u34, u35, u36, u37, u38, u39, u40, u41, u42, u43, u44, u45, u46, u47, u48, u49, u50, u51, undef], defers := [] })
        (fun _ _ _ _ _ _ hs _ _ => hs) ?assign ?body ?done ?stop
      case assign =>
        rintro lp pre x Wz K hi hsz hK
        gi_wp2
        exact hK _ _ (Kept.refl _ _ _ _) hi rfl
      case body =>
        rintro lp pre x a' Wz ⟨hj, hm, hn⟩ rfl hsz hpr
        rw [hl] at hpr
        have hpl : (pre ++ [x]).length ≤ l.length := hpr.length_le
        simp only [List.length_append, List.length_cons, List.length_nil] at hpl
        have hx : l[pre.length]? = some x := by obtain ⟨r, hr⟩ := hpr; rw [← hr]; simp
        obtain ⟨ad', cap', hv, hf⟩ := hj.l
        obtain ⟨g, off, had, g1, g2, g3⟩ := hf pre.length x hx
        simp only [Value.slice.injEq, true_and] at hv
        obtain ⟨rfl, rfl⟩ := hv
        subst had
        have hne := hgap g off l.length cap rfl
        have cn : Wz.cell? ⟨W.heap.size, 0, none⟩ = some (.int .i64 (pre.length : Nat)) := cell_of hn 0
        have fn := frozen_of hn 0
        have c5 : Wz.cell? ⟨w1.heap.size, 0, none⟩ = some (.slice (some ⟨g, off, none⟩) l.length cap) := cell_of hj.i 0
        have cs : Wz.cell? ⟨w.heap.size + 1, 0, none⟩ = some (.int .i64 a1) := cell_of hj.st 0
        have t1 : ¬ (pre.length : Int) ≥ (l.length : Int) := by omega
        have t2 : ¬ (l.length : Int) ≤ (pre.length : Int) := by omega
        have t3 : (pre.length : Int) < (l.length : Int) := by omega
        have hj' : Hid (JG w M l a1 (.slice (some ⟨g, off, none⟩) l.length cap) w1.heap.size (w1.heap.size + 1) (Wz.setCell ⟨W.heap.size, 0, none⟩ (.int .i64 ((pre.length : Int) + 1)))) := hj.set _ (by omega) (by omega) (by omega) (by omega) (fun g' o' n' c' e => by cases e; omega) hwz
        have hm' : Hid (Marks w.heap.size ks (Wz.setCell ⟨W.heap.size, 0, none⟩ (.int .i64 ((pre.length : Int) + 1)))) := hm.set hn _
        have hn' : Hid ((Wz.setCell ⟨W.heap.size, 0, none⟩ (.int .i64 ((pre.length : Int) + 1))).heap[W.heap.size]? = some (.cells #[.int .i64 ((pre ++ [x]).length : Nat)] 3)) := by
          have := set_get 0 (.int .i64 ((pre.length : Int) + 1)) hn
          simpa [Hid] using this
        have hk' : Hid (Kept (w1.heap.size + 1) W1.heap.size (0 + 2) Wz (Wz.setCell ⟨W.heap.size, 0, none⟩ (.int .i64 ((pre.length : Int) + 1)))) := Kept.setCell (by omega) (by omega)
        have cs' : (Wz.setCell ⟨W.heap.size, 0, none⟩ (.int .i64 ((pre.length : Int) + 1))).cell? ⟨w.heap.size + 1, 0, none⟩ = some (.int .i64 a1) := cell_of hj'.out.st 0
        clear hf hm hn hpr hx hj hgap
        by_cases hst : (pre.length : Int) + 1 = a1
        · have t4 : ((pre.length : Int) + 1 == a1) = true := by simp [hst]
          have hj2 := hj'.out
          have hm2 := hm'.out
          have hn2 := hn'.out
          have hk2' := hk'.out
          rw [hst] at hj2 hm2 hn2 hk2'
          rw [z1] at hk2'
          have HA : Hid (JG w M l a1 (.slice (some ⟨g, off, none⟩) l.length cap) w1.heap.size (w1.heap.size + 1) (Wz.setCell ⟨W.heap.size, 0, none⟩ (.int .i64 a1))) := hj2
          clear hj2
          gi_wp2
          exact ⟨hk2', HA.out, hm2, hn2, rfl, by simpa using hst⟩
        · have t4 : ((pre.length : Int) + 1 == a1) = false := by simp [hst]
          have hk2' := hk'.out
          rw [z1] at hk2'
          gi_wp2
          exact ⟨hk2', hj'.out, hm'.out, hn'.out⟩
      case done =>
        rintro Wz ⟨hj, hm, hn⟩ hK
        rw [hl] at hn
        have cn : Wz.cell? ⟨W.heap.size, 0, none⟩ = some (.int .i64 (l.length : Nat)) := cell_of hn 0
        have c5 : Wz.cell? ⟨w1.heap.size, 0, none⟩ = some (.slice ad l.length cap) := cell_of hj.i 0
        have hj' : Hid (JG w M l a1 (.slice ad l.length cap) w1.heap.size (w1.heap.size + 1) Wz) := hj
        have hmm : Marks w.heap.size (W1.heap.size :: ks) Wz := hm.cons (by omega) (fun q hq => by have := mlt q hq; omega) hK
        clear hj hn hm hK
        gi_wp2
        refine ⟨⟨k + 1, W1.heap.size :: ks, _, _, _, _, _, _, _, _, _, _, _, _, _, _, _, _, _, _, _, _, _, _, _, _, _, _, _, _, _, _, _, _, _, _, by omega, rfl, hmm, hj'.out⟩, ?_⟩
        show 2 - vnat (.int .i64 ((k : Int) + 1)) < 2 - vnat (.int .i64 (k : Int))
        simp only [vnat]
        omega
      case stop =>
        rintro c pre Wz hpr ⟨hj, hm, hn, rfl, hst⟩ hK
        rw [hl] at hpr
        have hpl := hpr.length_le
        have cn : Wz.cell? ⟨W.heap.size, 0, none⟩ = some (.int .i64 (pre.length : Nat)) := cell_of hn 0
        have c5 : Wz.cell? ⟨w1.heap.size, 0, none⟩ = some (.slice ad l.length cap) := cell_of hj.i 0
        have cs : Wz.cell? ⟨w.heap.size + 1, 0, none⟩ = some (.int .i64 a1) := cell_of hj.st 0
        have hj' : Hid (JG w M l a1 (.slice ad l.length cap) w1.heap.size (w1.heap.size + 1) Wz) := hj
        have hmm : Marks w.heap.size (W1.heap.size :: ks) Wz := hm.cons (by omega) (fun q hq => by have := mlt q hq; omega) hK
        rw [hst] at cn
        clear hj hn hm hK
        by_cases hel : a1 = (l.length : Int)
        · have t5 : (a1 != (l.length : Int)) = false := by simp [hel]
          gi_wp2
          refine ⟨⟨k + 1, W1.heap.size :: ks, _, _, _, _, _, _, _, _, _, _, _, _, _, _, _, _, _, _, _, _, _, _, _, _, _, _, _, _, _, _, _, _, _, _, by omega, rfl, hmm, hj'.out⟩, ?_⟩
          show 2 - vnat (.int .i64 ((k : Int) + 1)) < 2 - vnat (.int .i64 (k : Int))
          simp only [vnat]
          omega
        · have t5 : (a1 != (l.length : Int)) = true := by simp [hel]
          have t6 : (a1 != a1) = false := by simp
          gi_wp2
          refine ⟨⟨k + 1, W1.heap.size :: ks, _, _, _, _, _, _, _, _, _, _, _, _, _, _, _, _, _, _, _, _, _, _, _, _, _, _, _, _, _, _, _, _, _, _, by omega, rfl, hmm, hj'.out⟩, ?_⟩
          show 2 - vnat (.int .i64 ((k : Int) + 1)) < 2 - vnat (.int .i64 (k : Int))
          simp only [vnat]
          omega
    · have hk5 : k = 2 := by omega
      subst hk5
      gi_wp2
      with_reducible (refine And.intro (wfn _) (And.intro wdep ?_))
      refine (callsIn_wide.2 (hal _)).mono ?_
      rintro e w4 ⟨rfl, hb4⟩
      have j4 := hJ.carry hb4
      have m4 := hmk.carry hb4
      have c4 : w4.cell? ⟨w.heap.size + 1 + 1, 0, none⟩ = some (.bool false) := cell_of j4.r 0
      have f4 := frozen_of j4.r 0
      have r4 := j4.r
      have m5 : Marks w.heap.size ks (w4.setCell ⟨w.heap.size + 1 + 1, 0, none⟩ (.bool true)) := m4.set r4 _
      have g5 : (w4.setCell ⟨w.heap.size + 1 + 1, 0, none⟩ (.bool true)).heap[w.heap.size + 2]? = some (.cells #[.bool true] 4) := set_get 0 (.bool true) r4
      have b5' : Below w.heap.size w (w4.setCell ⟨w.heap.size + 1 + 1, 0, none⟩ (.bool true)) := j4.below.setCell (p := ⟨w.heap.size + 1 + 1, 0, none⟩) (by simp; omega) _
      clear j4 m4 hJ hmk
      gi_wp2
      refine leaves_marks ks _ m5 ?_
      intro W' hbW hcW
      have g6 := hcW _ _ g5 rfl
      have c6 := cell_of g6 0
      exact ⟨.bool true, by simp [results, Tryd.results4, go_sem, c6], rfl, b5'.trans hbW⟩
theorem walk (N0 : Nat) (hN0 : N0 < S128) (a1 : Int) (w1 : (Lit.int .i64 a1).wf = true) (w : World) (hL : laidMetH Tryd.prog Rows.setGoesRow.laid w) :
    Calls Tryd.prog 4 #[sv N0, .int .i64 a1] w fun e w' => e = .returned (.bool true) ∧ Below w.heap.size w w' := by
  exact callsIn_wide.1 (goes_in N0 a1 w (tab_of hL))

set_option maxRecDepth 100000 in
theorem lifted (os : Os) (started : os.Started) (H : Type) (enc : TypeId × Value → H) :
    ReturnsInHanded {} Tryd.checked os 4 .any (fun w args => (Rows.setGoesSpec.pre enc Tryd.prog Tryd.f4 [] false w args ∧ laidMetH Tryd.prog Rows.setGoesRow.laid w) ∧ sizedMet enc Tryd.prog Tryd.f4 (OpenSpec.ofChange Rows.setGoesSpec) false w args)
      (Rows.setGoesSpec.post enc Tryd.prog Tryd.f4 false true false false) := by
  refine returnsInHanded_of_change_and (C := Tryd.checked) (X := fun w _ => laidMetH Tryd.prog Rows.setGoesRow.laid w) (fun _ _ _ hh h => h.of_heap hh) own started (by kernel_rfl) Tryd.func4
    (ChangeSpec.witness_shaped (enc := enc) (C := Tryd.checked) (os := os) (X := fun w _ => laidMetH Tryd.prog Rows.setGoesRow.laid w) false (World.laidAll Tryd.prog os Rows.setGoesRow.laid) #[.agg #[.int .u32 0, .int .u32 0, .int .u32 0, .int .u32 0], .int .i64 0] 8 (World.laidAll_os _ _ _)
      (World.shaped_of_ZipB (by kernel_rfl) (by kernel_rfl)) (by kernel_rfl) (by kernel_rfl) (by kernel_rfl)
      (by rw [MakeChecks.laidMetH_plain _ _ _ (by kernel_rfl)]; exact laidMet_laidAll _ (by kernel_rfl) (by kernel_rfl))) ?_
  intro W base args ds gs before hval0 hW _ _ hL hsz
  have hval : ∀ (j : Nat) t v, Tryd.f4.params[j]? = some t → args[j]? = some v → Value.okWide Tryd.prog W .any base t v := hval0
  have hW' := hW
  obtain ⟨p, q, hA0, hV, rfl, hfz, hnd⟩ := hW
  have hA : DataW.TrodAll enc Tryd.prog W 0 (fun _ => true) true Tryd.f4.params.toList args.toList ds p := hA0
  rw [Tryd.params4] at hA hval
  obtain ⟨v0, vs0, d0, ds0, p0, q0, hargs, rfl, rfl, h0, r0⟩ := trodAll_cons hA
  obtain ⟨v1, vs1, d1, ds1, p1, q1, rfl, rfl, rfl, h1, r1⟩ := trodAll_cons r0
  obtain ⟨rfl, rfl, rfl⟩ := trodAll_nil r1
  obtain rfl : args = #[v0, v1] := by cases args; simp_all
  obtain ⟨rfl, rfl⟩ := trodVars_none hV
  obtain ⟨N0, hN0, rfl, rfl, rfl⟩ := open_set (hval 0 24 v0 rfl rfl) h0
  obtain ⟨a1, rfl, rfl, rfl, w1⟩ := open_int Tryd.underlying3 (hval 1 3 v1 rfl rfl) h1
  clear hA0 hval0
  simp only [List.append_nil] at hW'
  refine (walk N0 hN0 a1 w1 W hL).mono fun e W' ⟨he, hg⟩ => ?_
  subst he
  exact ⟨_, rfl, _, _, _, [], _, [], hW', (trodAll_cons_mk (shut_bool Tryd.underlying4 _) trodAll_mk0), (trodAll_cons_mk (shut_set N0) (trodAll_cons_mk (shut_int Tryd.underlying3 w1) trodAll_mk0)), rfl, hg.frame _, fun h => by cases h⟩

theorem over : Rows.setGoesRow.holds Tryd.pinned (OpenSpec.ofChange Rows.setGoesSpec) :=
  OpenClaim.holds_of_wide 4 Tryd.f4 rfl rfl rfl rfl rfl rfl rfl ⟨rfl, rfl, rfl, rfl, rfl⟩ rfl rfl rfl rfl rfl (by kernel_rfl) Tryd.func4 (by kernel_rfl)
    (of_decide_eq_true (by kernel_rfl)) (by unfold Func.isWrapper; first | (rw [if_pos (by decide +kernel)]; kernel_rfl) | (rw [if_neg (by decide +kernel)]; exact ⟨rfl, rfl⟩))
    (fun os started H enc _ => lifted os started H enc)

theorem row_proved : Rows.SetGoesSaid :=
  over
theorem proved : Rows.SetGoesCardSaid :=
  Claim7.holds_tied_plain_at .later [] [.data] true (true, "5f82106188961b54f33832bd346b1f97e4ed19f7e3f38046201299d39cb02b44") false
    row_proved (fun _ h => by cases h) (by kernel_rfl) (fun _ h => by cases h) setGoes_row_tie rfl ⟨rfl, rfl⟩ (by kernel_rfl) rfl
    (fun f fn hf hfn => by
      obtain rfl : f = 4 := Option.some.inj ((show Tryd.prog.funcNamed "earshot/earshotlaw3.SetGoes" = some 4 by kernel_rfl).symm.trans hf) |>.symm
      obtain rfl : fn = Tryd.f4 := (Option.some.inj (Tryd.func4.symm.trans hfn)).symm
      exact ⟨by kernel_rfl, fun j t ht => by
        rw [Tryd.params4] at ht
        rcases j with _ | j
        · have e : t = 24 := by simpa using ht.symm
          subst e
          exact (show Tryd.prog.wantsStandIn 24 = false by kernel_rfl)
        rcases j with _ | j
        · have e : t = 3 := by simpa using ht.symm
          subst e
          exact (show Tryd.prog.wantsStandIn 3 = false by kernel_rfl)
        simp at ht⟩)
    (by kernel_rfl)
#print axioms proved
end Go.Proofs.YtahlehgibcdfeabDoor
