/- GlyphNests itself: the walk, at every two texts of at most 2^20 bytes. -/
import Derived.Test.YtgihafldphpncacRefL
import Derived.Test.YtgihafldphpncacSeqN
import Derived.Laws.EntriesVeiled
namespace Go.Proofs.Ytgihafldphpncac
open Go.RowKit Go.Shelf
attribute [local go_sem] Oper.semAt_some

/-- What GlyphNests hands back. -/
theorem nests_end (W : World) (tmps : Array Value) (B : Nat) (a : Value) (h2 : tmps[4]? = some (.pointer (some ⟨B, 0, none⟩))) (h1 : W.heap[B]? = some (.cells #[a] 4)) (R : Ending → World → Prop) (h : R (.returned a) W) :
    LeavesInM Fence.wide 0 Try.prog Try.f3 tmps R [] .returning W := by
  have c0 : W.cell? ⟨B, 0, none⟩ = some a := cell_of h1 0
  refine ⟨a, ?_, h⟩
  simp [results, Try.results3, go_sem, c0, h2]
theorem ownsRow_own {β : Type} (n0 : Nat) (e : TypeId) (size n : Nat) (v : Value) (xs : List Value) : Own (fun (_ : β) W => W.ownsRow n0 e size v n xs) := by
  rintro s X Y row ho hg hr
  refine ho.kept hg ?_
  cases hv : v.ownBlock with
  | none => exact .inl rfl
  | some g =>
    refine .inr (fun e' => ?_)
    obtain ⟨o, h1, h2⟩ := hr g e'.symm
    obtain ⟨_, cur, h3⟩ := ownsRow_block ho g hv
    rw [h1] at h3
    cases h3
    cases h2
theorem ownsRow_below {w w' : World} {n0 : Nat} {e : TypeId} {size n : Nat} {v : Value} {xs : List Value} (h : w.ownsRow n0 e size v n xs) (hb : Below w.heap.size w w') : w'.ownsRow n0 e size v n xs :=
  h.kept (row := none) ⟨hb.os, hb.tape, hb.output, hb.size, fun k hk _ => hb.block k hk⟩ (by cases v.ownBlock <;> simp)
theorem get_below {w w' : World} {k : Nat} {o : Obj} (h : w.heap[k]? = some o) (hb : Below w.heap.size w w') : w'.heap[k]? = some o := (hb.block k (Array.getElem?_eq_some_iff.1 h).1).trans h
theorem fn_nil (b : Nat) (w : World) : (binOp .eql 26 (.func (.func 10) #[] #[.pointer (some ⟨b, 0, none⟩)]) .nilFunc).run Try.prog w = .ok (.bool false) w := by kernel_rfl

set_option maxHeartbeats 4000000 in
theorem nests_in (s t : ByteArray) (hs : s.size ≤ 1048576) (ht : t.size ≤ 1048576) (w : World) :
    CallsIn Fence.wide 0 Try.prog 3 #[.string s, .string t] w fun e w' => e = .returned (.bool true) ∧ Below w.heap.size w w' := by
  have hlen := starts_length s
  have hlen2 := starts_length t
  have hfn := fn_nil
  refine callsIn_of_wp_marks Try.func3 rfl trivial ?_ rfl
  simp only [Try.ntmps3, List.size_toArray, List.length_cons, List.length_nil, Nat.reduceAdd, Nat.reduceSub, Array.replicate_succ, Array.replicate_zero, List.push_toArray, List.append_toArray, List.nil_append, List.cons_append]
  gi_wp2_with fail
  refine ⟨trivial, rfl, ?_⟩
  refine (callsIn_wide.2 (list_any s hs _)).mono ?_
  rintro e w1 ⟨v, rfl, hrow, hb1⟩
  obtain ⟨ad, cap, rfl, _⟩ := ownsRow_form hrow
  gi_wp2_with fail
  refine ⟨trivial, rfl, ?_⟩
  refine (callsIn_wide.2 (list_any t ht _)).mono ?_
  rintro e w2 ⟨v, rfl, hrow2, hb2⟩
  obtain ⟨ad2, cap2, rfl, _⟩ := ownsRow_form hrow2
  have s1 : w.heap.size + 1 ≤ w1.heap.size := by have := hb1.size; simpa using this
  have s2 := hb2.size
  have r2 : w2.heap[w.heap.size]? = some (.cells #[.bool false] 4) := get_below (get_below (get_new rfl) hb1) hb2
  have bw : Below w.heap.size w w2 := ((Below.refl _ w).alloc (Nat.le_refl _) _).trans ((hb1.mono (by simp)).trans (hb2.mono (by omega)))
  have ra : w2.ownsRow w.heap.size 29 4 (.slice ad (starts s).length cap) (starts s).length (flat s (starts s)) := ownsRow_base (ownsRow_below hrow hb2) (by simp)
  have rb : w2.ownsRow w.heap.size 29 4 (.slice ad2 (starts t).length cap2) (starts t).length (flat t (starts t)) := ownsRow_base hrow2 (by omega)
  clear hrow hrow2 hb1 hb2
  by_cases hbig : 40 < (starts s).length ∨ 40 < (starts t).length
  · have cb : ∀ o o', ((w2.alloc o).alloc o').cell? ⟨w.heap.size, 0, none⟩ = some (.bool false) := fun o o' => cell_of (get_old (get_old r2)) 0
    by_cases h1 : 40 < (starts s).length
    · clear hbig
      gi_wp2_with fail
      refine ⟨trivial, rfl, ?_⟩
      refine (callsIn_wide.2 (alive_any _)).mono ?_
      rintro e W2 ⟨rfl, hb3⟩
      have hr3 : W2.heap[w.heap.size]? = some (.cells #[.bool false] 4) := get_below (get_old (get_old r2)) hb3
      have cr3 : W2.cell? ⟨w.heap.size, 0, none⟩ = some (.bool false) := cell_of hr3 0
      have fr3 := frozen_of hr3 0
      have bz := bw.size
      clear ra rb
      gi_wp2
      refine nests_end _ _ w.heap.size _ rfl (set_get 0 (.bool true) hr3) _ ⟨rfl, ?_⟩
      exact (bw.trans ((((Below.refl _ w2).alloc (by omega) _).alloc (by simp; omega) _).trans (hb3.mono (by simp; omega)))).setCell (by simp) _
    · have h2 : 40 < (starts t).length := by omega
      clear hbig
      gi_wp2_with fail
      refine ⟨trivial, rfl, ?_⟩
      refine (callsIn_wide.2 (alive_any _)).mono ?_
      rintro e W2 ⟨rfl, hb3⟩
      have hr3 : W2.heap[w.heap.size]? = some (.cells #[.bool false] 4) := get_below (get_old (get_old r2)) hb3
      have cr3 : W2.cell? ⟨w.heap.size, 0, none⟩ = some (.bool false) := cell_of hr3 0
      have fr3 := frozen_of hr3 0
      have bz := bw.size
      clear ra rb
      gi_wp2
      refine nests_end _ _ w.heap.size _ rfl (set_get 0 (.bool true) hr3) _ ⟨rfl, ?_⟩
      exact (bw.trans ((((Below.refl _ w2).alloc (by omega) _).alloc (by simp; omega) _).trans (hb3.mono (by simp; omega)))).setCell (by simp) _
  · have h1 : ¬ 40 < (starts s).length := by omega
    have h2 : ¬ 40 < (starts t).length := by omega
    have h1' : decide (40 < ((starts s).length : Int)) = false := by simp; omega
    have h2' : decide (40 < ((starts t).length : Int)) = false := by simp; omega
    clear hbig
    gi_wp2_with fail
    refine ⟨trivial, rfl, ?_⟩
    refine (callsIn_wide.2 (all_any s _)).mono ?_
    rintro e wx ⟨rfl, rfl⟩
    gi_wp2_with fail
    refine ⟨trivial, rfl, ?_⟩
    refine (callsIn_wide.2 (all_any t _)).mono ?_
    rintro e wx ⟨rfl, rfl⟩
    gi_wp2_with fail
    refine ⟨trivial, rfl, ?_⟩
    refine (callsIn_wide.2 (alive_any _)).mono ?_
    rintro e w3 ⟨rfl, hb3⟩
    gi_wp2
    have s3 : w2.heap.size + 5 ≤ w3.heap.size := by have := hb3.size; simpa using this
    have bz := bw.size
    have q1 : w3.heap[w.heap.size]? = some (.cells #[.bool false] 4) := get_below (get_old (get_old (get_old (get_old (get_old r2))))) hb3
    have q2 : w3.heap[w2.heap.size]? = some (.cells #[.slice ad (starts s).length cap] 22) := get_below (get_old (get_old (get_old (get_old (get_new rfl))))) hb3
    have q3 : w3.heap[w2.heap.size + 1]? = some (.cells #[.slice ad2 (starts t).length cap2] 22) := get_below (get_old (get_old (get_old (get_new (by simp))))) hb3
    have q4 : w3.heap[w2.heap.size + 1 + 1]? = some (.cells #[.string s] 9) := get_below (get_old (get_old (get_new (by simp)))) hb3
    have q5 : w3.heap[w2.heap.size + 1 + 1 + 1]? = some (.cells #[.string t] 9) := get_below (get_old (get_new (by simp))) hb3
    have q6 : w3.heap[w2.heap.size + 1 + 1 + 1 + 1]? = some (.cells #[.func (.func 10) #[] #[.pointer (some ⟨w2.heap.size + 1 + 1 + 1, 0, none⟩)]] 26) := get_below (get_new (by simp)) hb3
    have q7 := ownsRow_below (((((ra.alloc _).alloc _).alloc _).alloc _).alloc _) hb3
    have q8 := ownsRow_below (((((rb.alloc _).alloc _).alloc _).alloc _).alloc _) hb3
    have bw3 : Below w.heap.size w w3 := bw.trans ((((((Below.refl _ w2).alloc (by omega) _).alloc (by simp; omega) _).alloc (by simp; omega) _).alloc (by simp; omega) _).alloc (by simp; omega) _ |>.trans (hb3.mono (by simp; omega)))
    clear ra rb hb3 r2
    obtain ⟨_, _, hv1, hfa⟩ := ownsRow_form q7
    cases hv1
    obtain ⟨_, _, hv2, hfb⟩ := ownsRow_form q8
    cases hv2
    clear q7 q8
    refine wp_rangeL (kb := 0) (gf := 10) (lb := #[.pointer (some ⟨w2.heap.size + 1 + 1, 0, none⟩)]) rfl (enters_of Try.func10 (by kernel_rfl) rfl)
      (all1_seq s (w2.heap.size + 1 + 1) _ (get_old q4)) (by simp; omega) (fun _ => rfl)
      (fun pre W => Below w3.heap.size w3 W ∧ W.heap[w3.heap.size]? = some (.cells #[.int .i64 pre.length] 3))
      (fun _ _ _ => False)
      (OwnFrom.and (ownFrom_below (Nat.le_refl _) (by simp)) ((blk_own _ (fun pre : List Nat => .cells #[.int .i64 pre.length] 3) (fun _ => rfl)).from _))
      (fun _ _ _ _ _ hs _ _ => hs)
      ⟨(Below.refl _ w3).alloc (Nat.le_refl _) _, get_new rfl⟩
      (fun x a' _ => a' = { tmps := #[.string s, .string t, undef, undef, .pointer (some ⟨w.heap.size, 0, none⟩), .pointer (some ⟨w2.heap.size, 0, none⟩), .pointer (some ⟨w2.heap.size + 1, 0, none⟩), .func (.func 10) #[] #[.pointer (some ⟨w2.heap.size + 1 + 1, 0, none⟩)], .pointer (some ⟨w2.heap.size + 1 + 1 + 1 + 1, 0, none⟩), .pointer (some ⟨w3.heap.size, 0, none⟩), .int .i64 x, undef, undef, undef, .string s, .slice ad (starts s).length cap, .string t, .slice ad2 (starts t).length cap2, .slice ad (starts s).length cap, .int .i64 (starts s).length, .bool false, .bool false, .slice ad2 (starts t).length cap2, .int .i64 (starts t).length, .bool false, .bool false, undef, .string s, .func (.func 10) #[] #[.pointer (some ⟨w2.heap.size + 1 + 1, 0, none⟩)], .string t, .func (.func 10) #[] #[.pointer (some ⟨w2.heap.size + 1 + 1 + 1, 0, none⟩)], .func (.func 10) #[] #[.pointer (some ⟨w2.heap.size + 1 + 1, 0, none⟩)], .bool false, .bool false, .func (.func 10) #[] #[.pointer (some ⟨w2.heap.size + 1 + 1 + 1, 0, none⟩)], .bool false, .bool false, .bool false, .bool true, .bool false, .bool false, .func (.func 10) #[] #[.pointer (some ⟨w2.heap.size + 1 + 1, 0, none⟩)], .int .i64 x, .int .i32 (rn s x), undef, undef, undef, undef, undef, undef, undef, undef, undef, undef, undef, undef, undef, undef, undef, undef, undef, undef, undef, undef, undef, undef, undef, undef, undef, undef, undef, undef, undef, undef, undef, undef, undef, undef, undef, undef, undef, undef, undef, undef, undef, undef, undef, undef, undef, undef, undef, undef, undef, undef, undef, undef, undef, undef, undef], defers := [] })
      (fun _ _ _ _ _ _ hs _ _ => hs) ?assign ?body ?done ?stop
    case assign =>
      rintro l pre x W K hi hsz hK
      simp only [atV]
      gi_wp2
      exact hK _ _ (Kept.refl _ _ _ _) hi rfl
    case body =>
      rintro l pre x a' W hl1 hl2 ⟨r, hr⟩ ⟨hb, hn⟩ rfl hsz hpr
      simp only [World.size_alloc] at hsz hl1 hl2
      have hxl : pre.length < (starts s).length ∧ (starts s)[pre.length]? = some x := by
        obtain ⟨z, hz⟩ := hpr
        have hg : (starts s)[pre.length]? = some x := by rw [← hz]; simp
        exact ⟨(List.getElem?_eq_some_iff.1 hg).1, hg⟩
      have up : ∀ k o, w3.heap[k]? = some o → W.heap[k]? = some o := fun k o h => (hb.block k (Array.getElem?_eq_some_iff.1 h).1).trans h
      have cq : ∀ o, (W.alloc o).cell? ⟨w2.heap.size + 1 + 1 + 1 + 1, 0, none⟩ = some (.func (.func 10) #[] #[.pointer (some ⟨w2.heap.size + 1 + 1 + 1, 0, none⟩)]) := fun o => cell_of (get_old (up _ _ q6)) 0
      gi_wp2
      refine wp_rangeN (kb := 0) (l0 := l) (r0 := r) (get_old hr) (gf := 10) (lb := #[.pointer (some ⟨w2.heap.size + 1 + 1 + 1, 0, none⟩)]) rfl (enters_of Try.func10 (by kernel_rfl) rfl)
        (all1_seq t (w2.heap.size + 1 + 1 + 1) _ (get_old (up _ _ q5))) (by simp; omega) (fun _ => rfl)
        (fun pre2 X => Below W.heap.size W X ∧ X.heap[W.heap.size]? = some (.cells #[.int .i64 pre2.length] 3))
        (fun _ _ _ => False)
        (OwnFrom.and (ownFrom_below (Nat.le_refl _) (by simp)) ((blk_own _ (fun pre : List Nat => .cells #[.int .i64 pre.length] 3) (fun _ => rfl)).from _))
        (fun _ _ _ _ _ hs _ _ => hs)
        ⟨(Below.refl _ W).alloc (Nat.le_refl _) _, get_new rfl⟩
        (fun y a' _ => a' = { tmps := #[.string s, .string t, undef, undef, .pointer (some ⟨w.heap.size, 0, none⟩), .pointer (some ⟨w2.heap.size, 0, none⟩), .pointer (some ⟨w2.heap.size + 1, 0, none⟩), .func (.func 10) #[] #[.pointer (some ⟨w2.heap.size + 1 + 1, 0, none⟩)], .pointer (some ⟨w2.heap.size + 1 + 1 + 1 + 1, 0, none⟩), .pointer (some ⟨w3.heap.size, 0, none⟩), .int .i64 x, .pointer (some ⟨W.heap.size, 0, none⟩), .int .i64 y, .int .i32 (rn t y), .string s, .slice ad (starts s).length cap, .string t, .slice ad2 (starts t).length cap2, .slice ad (starts s).length cap, .int .i64 (starts s).length, .bool false, .bool false, .slice ad2 (starts t).length cap2, .int .i64 (starts t).length, .bool false, .bool false, undef, .string s, .func (.func 10) #[] #[.pointer (some ⟨w2.heap.size + 1 + 1, 0, none⟩)], .string t, .func (.func 10) #[] #[.pointer (some ⟨w2.heap.size + 1 + 1 + 1, 0, none⟩)], .func (.func 10) #[] #[.pointer (some ⟨w2.heap.size + 1 + 1, 0, none⟩)], .bool false, .bool false, .func (.func 10) #[] #[.pointer (some ⟨w2.heap.size + 1 + 1 + 1, 0, none⟩)], .bool false, .bool false, .bool false, .bool true, .bool false, .bool false, .func (.func 10) #[] #[.pointer (some ⟨w2.heap.size + 1 + 1, 0, none⟩)], .int .i64 x, .int .i32 (rn s x), .func (.func 10) #[] #[.pointer (some ⟨w2.heap.size + 1 + 1 + 1, 0, none⟩)], .int .i64 y, .int .i32 (rn t y), undef, undef, undef, undef, undef, undef, undef, undef, undef, undef, undef, undef, undef, undef, undef, undef, undef, undef, undef, undef, undef, undef, undef, undef, undef, undef, undef, undef, undef, undef, undef, undef, undef, undef, undef, undef, undef, undef, undef, undef, undef, undef, undef, undef, undef, undef, undef, undef, undef, undef, undef, undef], defers := [] })
        (fun _ _ _ _ _ _ hs _ _ => hs) ?assign2 ?body2 ?done2 ?stop2
      case assign2 =>
        rintro l2 pre2 y X K hi hsz2 hK
        simp only [atV]
        gi_wp2
        exact hK _ _ (Kept.refl _ _ _ _) hi rfl
      case body2 =>
        rintro l2 pre2 y a' X ⟨hbX, hk⟩ rfl hsz2 hpr2
        simp only [World.size_alloc] at hsz2
        have hget : (starts t)[pre2.length]? = some y := by obtain ⟨z, hz⟩ := hpr2; rw [← hz]; simp
        have hll : pre2.length < (starts t).length := (List.getElem?_eq_some_iff.1 hget).1
        obtain ⟨g, rfl, hg1, hg2, hg3, hcells⟩ := hfb (by omega)
        have upX : ∀ k o, w3.heap[k]? = some o → X.heap[k]? = some o := fun k o h => (hbX.block k (by have := (Array.getElem?_eq_some_iff.1 (up k o h)).1; exact this)).trans (up k o h)
        have cellX : ∀ j, X.cell? ⟨g, j, none⟩ = w3.cell? ⟨g, j, none⟩ := fun j => (hbX.cell (p := ⟨g, j, none⟩) (by have := hb.size; show g < _; omega)).trans (hb.cell (p := ⟨g, j, none⟩) hg2)
        have ck : X.cell? ⟨W.heap.size, 0, none⟩ = some (.int .i64 pre2.length) := cell_of hk 0
        have fk := frozen_of hk 0
        have cb : X.cell? ⟨w2.heap.size + 1, 0, none⟩ = some (.slice (some ⟨g, 0, none⟩) (starts t).length cap2) := cell_of (upX _ _ q3) 0
        have c0 : X.cell? ⟨g, pre2.length * 4, none⟩ = some (.int .i32 (rn t y)) := (cellX _).trans (hcells _ _ (flat_get t _ _ 0 y hget (by omega)))
        have c1 : X.cell? ⟨g, pre2.length * 4 + 1, none⟩ = some (.int .i64 y) := (cellX _).trans (hcells _ _ (flat_get t _ _ 1 y hget (by omega)))
        have hli : (pre2.length : Int) < ((starts t).length : Int) := by omega
        have hge : ¬ ((starts t).length : Int) ≤ (pre2.length : Int) := by omega
        have hl3 : (pre2.length : Int) < 1048577 := by omega
        clear cellX hcells hget
        gi_wp2
        refine ⟨Kept.setCell (by omega) (by omega), hbX.setCell (by simp) _, ?_⟩
        rw [set_get 0 _ hk]
        simp
      case done2 =>
        rintro X ⟨hbX, hk⟩
        obtain ⟨hll, hget⟩ := hxl
        obtain ⟨g, rfl, hg1, hg2, hg3, hcells⟩ := hfa (by omega)
        have hbz := hb.size
        have upX : ∀ k o, w3.heap[k]? = some o → X.heap[k]? = some o := fun k o h => (hbX.block k (by have := (Array.getElem?_eq_some_iff.1 (up k o h)).1; exact this)).trans (up k o h)
        have cellX : ∀ j, X.cell? ⟨g, j, none⟩ = w3.cell? ⟨g, j, none⟩ := fun j => (hbX.cell (p := ⟨g, j, none⟩) (by show g < _; omega)).trans (hb.cell (p := ⟨g, j, none⟩) hg2)
        have ck : X.cell? ⟨W.heap.size, 0, none⟩ = some (.int .i64 (starts t).length) := cell_of hk 0
        have hnX : X.heap[w3.heap.size]? = some (.cells #[.int .i64 pre.length] 3) := (hbX.block _ (by omega)).trans hn
        have cn : X.cell? ⟨w3.heap.size, 0, none⟩ = some (.int .i64 pre.length) := cell_of hnX 0
        have fn := frozen_of hnX 0
        have ca : X.cell? ⟨w2.heap.size, 0, none⟩ = some (.slice (some ⟨g, 0, none⟩) (starts s).length cap) := cell_of (upX _ _ q2) 0
        have cb : X.cell? ⟨w2.heap.size + 1, 0, none⟩ = some (.slice ad2 (starts t).length cap2) := cell_of (upX _ _ q3) 0
        have c1 : X.cell? ⟨g, pre.length * 4 + 1, none⟩ = some (.int .i64 x) := (cellX _).trans (hcells _ _ (flat_get s _ _ 1 x hget (by omega)))
        have hli : (pre.length : Int) < ((starts s).length : Int) := by omega
        have hge : ¬ ((starts s).length : Int) ≤ (pre.length : Int) := by omega
        have hl3 : (pre.length : Int) < 1048577 := by omega
        clear cellX hcells hget
        gi_wp2
        refine ⟨?_, ?_, ?_⟩
        · exact (Kept.below hbX (by omega) (by first | omega | (simp; omega))).trans (Kept.setCell (by omega) (by first | omega | (simp; omega)))
        · exact (hb.trans (hbX.mono hbz)).setCell (by simp) _
        · rw [set_get 0 _ hnX]
          simp
      case stop2 =>
        rintro c pre2 X _ h
        exact h.elim
    case done =>
      rintro W ⟨hb, hn⟩ hK
      have up : ∀ k o, w3.heap[k]? = some o → W.heap[k]? = some o := fun k o h => (hb.block k (Array.getElem?_eq_some_iff.1 h).1).trans h
      gi_wp2_with fail
      refine ⟨trivial, rfl, ?_⟩
      refine (callsIn_wide.2 (alive_any _)).mono ?_
      rintro e W2 ⟨rfl, hb4⟩
      have hr2 := get_below (up _ _ q1) hb4
      have hl2 := get_below (up _ _ q2) hb4
      have hn2 := get_below hn hb4
      have cr : W2.cell? ⟨w.heap.size, 0, none⟩ = some (.bool false) := cell_of hr2 0
      have fr := frozen_of hr2 0
      have cl : W2.cell? ⟨w2.heap.size, 0, none⟩ = some (.slice ad (starts s).length cap) := cell_of hl2 0
      have cn : W2.cell? ⟨w3.heap.size, 0, none⟩ = some (.int .i64 (starts s).length) := cell_of hn2 0
      have z1 := hb.size
      have z3 := bw3.size
      have hb5 : Below w.heap.size w W2 := bw3.trans ((hb.mono z3).trans (hb4.mono (by omega)))
      have hK' := get_below hK hb4
      try simp only [World.size_alloc] at hK'
      gi_wp2
      have hK5 := (set_other (j := 0) (v := .bool true) (show w3.heap.size + 1 ≠ w.heap.size by omega)).trans hK'
      refine ⟨by simp, .inl ⟨_, _, rfl, run_takeDeferred (by first | exact hK5 | simpa using hK5), ?_⟩⟩
      refine nests_end _ _ w.heap.size _ rfl ((World.putObj_heap_other (by first | omega | (simp; omega))).trans (set_get 0 (.bool true) hr2)) _ ⟨rfl, ?_⟩
      exact (hb5.setCell (by simp) _).trans (belowK_b (w := w) (Nat.le_refl _) _ (w3.heap.size + 1) _ _ (by omega) hK5 rfl rfl)
    case stop =>
      rintro c pre W _ h _
      exact h.elim
end Go.Proofs.Ytgihafldphpncac
