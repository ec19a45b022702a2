/- What is kept lies apart. -/
import Derived.Test.YtddblfffjhoiaaaGreatJnJ8
import Derived.Test.YtddblfffjhoiaaaGreatJnJ6
import Derived.Test.YtddblfffjhoiaaaGreatRnt
import Derived.Test.YtddblfffjhoiaaaGreatRows
import Derived.ProofKit
import Derived.OpenShut
import Derived.ChangeOld
import Derived.Below
import Derived.Deep.Slices
import Derived.Deep.Strs
namespace Go.Proofs.YtddblfffjhoiaaaGreat
open Go.RowKit Go.Shelf Go.Lib
theorem NK.kn {σ : Sg} {base bb : Nat} {W : World} (h : NK σ base bb W) : ∃ u v x y L, Kn base bb W u v x L ∧ Cn base W v y L := by
  obtain ⟨_, k, x, y, L, ⟨u, v, hk, hkb, h6, h7, _, hbb⟩, hl, hL⟩ := h
  subst hl
  refine ⟨u, v, x, y, L, ⟨hkb, h6, fun i l hi => ?_, hL.ap, hbb, hk⟩, h7, fun i l hi => ?_⟩
  · obtain ⟨z, zc, h1, h2, h3, h4, _, _, h5⟩ := hL.ks i l hi
    exact ⟨z, h1, h3, by omega⟩
  · obtain ⟨z, zc, h1, h2, h3, h4, _⟩ := hL.ks i l hi
    obtain ⟨ad, c, e, hr⟩ := own_rd h4
    exact ⟨ad, c, by rw [h2, e], hr⟩
theorem NK.apart {σ : Sg} {base bb : Nat} {W : World} (h : NK σ base bb W) (hz : base ≤ W.heap.size) : Calls Tryz.prog 16 #[.pointer (some ⟨bb, 0, none⟩)] W fun e w' => e = .returned (.bool true) ∧ Below base W w' := by
  obtain ⟨u, v, x, y, L, h1, h2⟩ := h.kn
  exact apart_any h1 h2 hz
end Go.Proofs.YtddblfffjhoiaaaGreat
namespace Go.Proofs.YtddblfffjhoiaaaGreat
open Go.RowKit Go.Shelf Go.Lib

/-- Ahead of Apart, and behind it; two lists that are found out. -/
def J9b (w0 w : World) (A B : List N3) (q : (Option Addr × Nat) × (Option Addr × Nat)) (x y z : Bool) (V : World) : Prop := match z with
  | false => Below w.heap.size w V ∧ (x = true → RdN V q.1.1 A) ∧ (y = true → RdN V q.2.1 B)
  | true => Below w0.heap.size w0 V
theorem J9b.carry {w0 w V V' : World} {A B : List N3} {q : (Option Addr × Nat) × (Option Addr × Nat)} {x y : Bool} (h : J9b w0 w A B q x y false V) (hb : Below V.heap.size V V') : J9b w0 w A B q x y false V' := ⟨bel2 h.1 hb, fun e => (h.2.1 e).carry hb, fun e => (h.2.2 e).carry hb⟩
theorem listV_any {w : World} {v : Value} {l : List N3} (h : BV w v l) : Calls Tryz.prog 14 #[v] w fun e w' => ∃ a c, e = .returned (.slice a l.length c) ∧ RdN w' a l ∧ Below w.heap.size w w' := by
  rcases h with ⟨rfl, rfl⟩ | ⟨p, g, rfl, h, h0, h1, _⟩
  · refine (elist_any (.inl rfl)).mono ?_
    rintro e w' ⟨rfl, hb⟩
    exact ⟨none, 0, rfl, fun e => absurd rfl e, hb⟩
  · refine (blist_any h h0 h1).mono ?_
    rintro e w' ⟨v, rfl, hm, hb⟩
    rw [filter_all] at hm
    obtain ⟨a, c, rfl, hr, _⟩ := hm.rd
    exact ⟨a, c, rfl, hr, hb⟩
theorem bin_self {P : Program} {t : TypeId} {x y : Operand} {w : World} (k : IntKind) (a : Int) : binRun P .eql t x y (.int k a) (.int k a) w = .ok (.bool true) w := by simp [binRun, go_sem]
theorem abv_le {a b : List N3} (h : a.length ≤ 100) : (abv a b).length ≤ 100 := by
  unfold abv
  split
  · exact Nat.le_trans (List.length_filter_le _ _) h
  · simp
end Go.Proofs.YtddblfffjhoiaaaGreat
namespace Go.Proofs.YtddblfffjhoiaaaGreat
open Go.ChangeShapes Go.WideShapes Go.ChangeAt Go.RowKit

set_option maxRecDepth 100000 in
theorem cellsIM : Tryz.prog.cellsOf 3 = 1 := by kernel_rfl
set_option maxRecDepth 100000 in
theorem cellsNM : Tryz.prog.cellsOf 66 = 3 := by kernel_rfl
set_option maxRecDepth 100000 in
theorem cell_ltM {W : World} {a : Addr} {v : Value} (h : W.cell? a = some v) : a.block < W.heap.size := by
  unfold World.cell? at h
  cases hb : W.heap[a.block]? with
  | none => simp [hb] at h
  | some o => exact (Array.getElem?_eq_some_iff.1 hb).1
set_option maxRecDepth 100000 in
/-- One notice, out of its cells. -/
theorem one_nt {H : Type} {enc : TypeId × Value → H} {W : World} {n : Nat} {cs : List Value} {x : DataW H × List MemPlace} (hl : cs.length = 3) (h : DataW.trod enc Tryz.prog W 0 (fun _ => true) true n 66 cs = some x) : ∃ o t k : Int, cs = [.int .i64 o, .int .i64 t, .int .i64 k] := by
  obtain ⟨y0, y1, y2, m, hx, _, hy0, hy1, hy2⟩ := Deep.trod_struct3 Tryz.underlying66 h
  match cs, hl with
  | [c0, c1, c2], _ =>
    obtain ⟨x0, e0, _, _⟩ := DataW.trod_int Tryz.underlying3 hy0
    obtain ⟨x1, e1, _, _⟩ := DataW.trod_int Tryz.underlying3 hy1
    obtain ⟨x2, e2, _, _⟩ := DataW.trod_int Tryz.underlying3 hy2
    simp [cellsIM] at e0 e1 e2
    subst e0 e1 e2
    exact ⟨x0, x1, x2, rfl⟩
set_option maxRecDepth 100000 in
theorem open_nts {H : Type} {enc : TypeId × Value → H} {W : World} {base : Nat} {v : Value} {d : DataW H} {p : List MemPlace} (hval : Value.okWide Tryz.prog W .any base 22 v)
    (h : DataW.Trod enc Tryz.prog W 0 (fun _ => true) true 22 v d p) : ∃ (ad : Option Addr) (cap : Nat) (l : List (Int × Int × Int)), v = .slice ad l.length cap ∧ RdN W ad l ∧ (ad = none → cap = 0) ∧ l.length ≤ cap ∧ (l = [] ∨ ∃ E S, d = .slice E S ∧ E.length = l.length) := by
  obtain ⟨a0, len0, cap0, rfl⟩ := okWide_slice Tryz.underlying22 hval
  obtain ⟨fuel, hf⟩ := h
  rcases Deep.open_slice Tryz.underlying22 hf with ⟨hcs, _⟩ | ⟨a, len, cap, m, n, D, Pl, hcs, _, hlc, hcm, hmm, hx, hel⟩
  · simp [Value.cells] at hcs
    obtain ⟨rfl, rfl, rfl⟩ := hcs
    exact ⟨none, 0, [], rfl, fun h => absurd rfl h, fun _ => rfl, Nat.le_refl _, .inl rfl⟩
  · simp [Value.cells] at hcs
    obtain ⟨rfl, rfl, rfl⟩ := hcs
    have hm : m = cap0 := by simpa using hmm
    have each : ∀ i, i < len0 → ∃ x : Int × Int × Int, W.cell? (a.add (i * 3)) = some (.int .i64 x.1) ∧ W.cell? (a.add (i * 3 + 1)) = some (.int .i64 x.2.1) ∧ W.cell? (a.add (i * 3 + 2)) = some (.int .i64 x.2.2) := by
      intro i hi
      obtain ⟨cs, h1, h2⟩ := hel i (by omega)
      rw [cellsNM] at h1
      obtain ⟨_, hlen, hcell⟩ := World.cells?_some h1
      obtain ⟨o, t, k, rfl⟩ := one_nt hlen h2
      have e0 := hcell 0 (by omega)
      have e1 := hcell 1 (by omega)
      have e2 := hcell 2 (by omega)
      rw [Deep.add_add] at e0 e1 e2
      exact ⟨(o, t, k), by simpa using e0, by simpa using e1, by simpa using e2⟩
    obtain ⟨q, hq⟩ := Deep.choose_lt each
    refine ⟨some a, cap0, (List.range len0).map q, by simp, fun hne => ?_, (by intro e; cases e), (by simpa using hlc), .inr ⟨_, _, (Prod.mk.inj hx).1, by simp⟩⟩
    have hpos : 0 < len0 := by
      cases len0 with
      | zero => simp at hne
      | succ n => omega
    obtain ⟨b', off', x'⟩ := a
    have hx' : x' = none := by simpa [Addr.add] using World.cell?_spot (hq 0 hpos).1
    subst hx'
    have hadd : ∀ j, (⟨b', off', none⟩ : Addr).add j = ⟨b', off' + j, none⟩ := fun j => by unfold Addr.add; split <;> simp_all
    refine ⟨b', off', rfl, ?_, fun k y hy => ?_⟩
    · have := cell_ltM (hq 0 hpos).1
      rw [hadd] at this
      exact this
    · rw [List.getElem?_map] at hy
      obtain ⟨k', hk', rfl⟩ := Option.map_eq_some_iff.1 hy
      have hk := (List.getElem?_eq_some_iff.1 hk').1
      simp at hk
      have hkk : k' = k := by
        rw [List.getElem?_range hk] at hk'
        exact (Option.some.inj hk').symm
      subst hkk
      obtain ⟨c0, c1, c2⟩ := hq k' hk
      rw [hadd] at c0 c1 c2
      exact ⟨c0, by simpa [Nat.add_assoc] using c1, by simpa [Nat.add_assoc] using c2⟩
end Go.Proofs.YtddblfffjhoiaaaGreat
namespace Go.Proofs.YtddblfffjhoiaaaGreat
open Go.RowKit Go.Shelf Go.Lib

theorem vlx0 (x : N3) : vlx 0 x = false := by
  cases h : vlx 0 x with
  | false => rfl
  | true => have := (vlx_iff.1 h).1; omega
theorem h4_ne {W : World} {b b' M : Nat} {c : Nat → Nat} (h : Holds4 W b c) (hn : b ≠ b') : Holds4 (set4 W b' M) b c := by
  unfold Holds4 set4
  rw [Below.heap_setCell _ _ _ _ hn, Below.heap_setCell _ _ _ _ hn, Below.heap_setCell _ _ _ _ hn, Below.heap_setCell _ _ _ _ hn]
  exact h
theorem rb_ne4 {W : World} {b b' M : Nat} {v : Value} (h : RB W b v) (hn : b ≠ b') : RB (set4 W b' M) b v := by
  unfold RB set4
  rw [Below.heap_setCell _ _ _ _ hn, Below.heap_setCell _ _ _ _ hn, Below.heap_setCell _ _ _ _ hn, Below.heap_setCell _ _ _ _ hn]
  exact h
/-- What holds while the document's answer of no book is written. -/
structure RZ0 (w : World) (b1 b2 b9 b8 : Nat) (V : World) : Prop where
  b1 : RB V b1 (.slice none 0 0)
  b2 : Holds4 V b2 (wd 0)
  b9 : RB V b9 (.slice none 0 0)
  b8 : Holds4 V b8 (wd 0)
  be : Below w.heap.size w V
theorem RZ0.carry {w V V' : World} {b1 b2 b9 b8 : Nat} (h : RZ0 w b1 b2 b9 b8 V) (hb : Below V.heap.size V V') : RZ0 w b1 b2 b9 b8 V' := ⟨h.b1.carry hb, h.b2.carry hb, h.b9.carry hb, h.b8.carry hb, bel2 h.be hb⟩
theorem RZ0.st1 {w V : World} {b1 b2 b9 b8 : Nat} (h : RZ0 w b1 b2 b9 b8 V) (h1 : b2 ≠ b1) (h2 : b9 ≠ b1) (h3 : b8 ≠ b1) (h4 : w.heap.size ≤ b1) : RZ0 w b1 b2 b9 b8 (V.setCell ⟨b1, 0, none⟩ (.slice none 0 0)) :=
  ⟨h.b1.set _, (Below.heap_setCell _ _ _ _ h1).trans h.b2, h.b9.other h2, (Below.heap_setCell _ _ _ _ h3).trans h.b8, h.be.setCell h4 _⟩
theorem RZ0.st2 {w V : World} {b1 b2 b9 b8 : Nat} (h : RZ0 w b1 b2 b9 b8 V) (h1 : b1 ≠ b2) (h2 : b9 ≠ b2) (h3 : b8 ≠ b2) (h4 : w.heap.size ≤ b2) : RZ0 w b1 b2 b9 b8 (set4 V b2 0) :=
  ⟨rb_ne4 h.b1 h1, fin4 h.b2 0, rb_ne4 h.b9 h2, h4_ne h.b8 h3, below4 h.be h4 0⟩
set_option maxHeartbeats 4000000 in
set_option maxRecDepth 100000 in
theorem rcopy0 (w : World) : Calls Tryz.prog 94 #[.agg #[.slice none 0 0]] w fun e w' => e = .returned (.agg #[.slice none 0 0]) ∧ Below w.heap.size w w' := by
  go_enter Tryz.func94, Tryz.ntmps94
  go_wp2
  exact retR rfl rfl rfl (show RB _ (w.heap.size + 1) _ from new_at (by simp)) ⟨rfl, al2 _ _ _⟩
set_option maxHeartbeats 4000000 in
set_option maxRecDepth 100000 in
theorem rmerge0 (w : World) : Calls Tryz.prog 22 #[.agg #[.slice none 0 0], .slice none 0 0] w fun e w' => e = .returned (.tuple #[.agg #[.slice none 0 0], sv 0, .int .i64 0]) ∧ Below w.heap.size w w' := by
  have hmx : Tryz.prog.follows .mixedOrders = true := by kernel_rfl
  have hc := rcopy0
  obtain ⟨w4, hw4⟩ : ∃ w4, (((w.alloc (.cells #[.slice none 0 0] 27)).alloc (.cells #[.slice none 0 0] 27)).alloc (.cells #[.int .u32 0, .int .u32 0, .int .u32 0, .int .u32 0] 47)).alloc (.cells #[.int .u32 0, .int .u32 0, .int .u32 0, .int .u32 0] 47) = w4 := ⟨_, rfl⟩
  have hb4 : Below w.heap.size w w4 := by rw [← hw4]; exact (((al1 _ _).alloc (by simp) _).alloc (by simp; omega) _).alloc (by simp; omega) _
  have r0 : RB w4 w.heap.size (.slice none 0 0) := by rw [← hw4]; exact old_at (old_at (old_at (new_at rfl)))
  have r1 : RB w4 (w.heap.size + 1) (.slice none 0 0) := by rw [← hw4]; exact old_at (old_at (new_at (by simp)))
  have s2 : Holds4 w4 (w.heap.size + 2) (fun _ => 0) := by rw [← hw4]; exact old_at (new_at (by simp))
  have s3 : Holds4 w4 (w.heap.size + 3) (fun _ => 0) := by rw [← hw4]; exact new_at (by simp)
  have c0 := r0.cell
  go_enter Tryz.func22, Tryz.ntmps22
  go_wp2
  refine wp_loop_once ?_
  go_wp2_with (go_at_call 94; (with_reducible refine (hc _).mono ?_); rintro e u1 ⟨rfl, hb1⟩; obtain ⟨u2, hu2⟩ : ∃ x, u1.alloc (.cells #[.slice none 0 0] 27) = x := ⟨_, rfl⟩; have hb2 : Below u1.heap.size u1 u2 := (by rw [← hu2]; exact al1 _ _); have n2 : RB u2 u1.heap.size (.slice none 0 0) := (by rw [← hu2]; exact new_at rfl); have cn := n2.cell; have zn := n2.thaw; obtain ⟨u3, hu3⟩ : ∃ x, u2.setCell ⟨u1.heap.size, 0, none⟩ (.slice none 0 0) = x := ⟨_, rfl⟩; have hb3 : Below u1.heap.size u1 u3 := (by rw [← hu3]; exact hb2.setCell (Nat.le_refl _) _); have n3 : RB u3 u1.heap.size (.slice none 0 0) := (by rw [← hu3]; exact n2.set _))
  simp only [Nat.add_assoc, Nat.reduceAdd]
  refine wp_loop_once ?_
  have hbb := bel2 hb1 hb3
  have hz4 : w4.heap.size = w.heap.size + 4 := by rw [← hw4]; simp
  have hu1 : w.heap.size + 4 ≤ u1.heap.size := by have := hb1.size; omega
  have hj : RZ0 w (w.heap.size + 1) (w.heap.size + 2) u1.heap.size (w.heap.size + 3) u3 := ⟨r1.carry hbb, (s2.carry hbb).congr (fun j _ => (wd_zero j).symm), n3, (s3.carry hbb).congr (fun j _ => (wd_zero j).symm), bel2 hb4 hbb⟩
  clear hbb n3 hb3 hb1 hb2 n2 r0 r1 s2 s3 c0 hb4 hc
  go_wp2
  rename_i Q0 K0 hK
  refine wp_region_any hmx ?_
  refine wpAny_pure (fun i__ => ([(.agg #[.slice none 0 0]), (sv 0), undef, undef, (Go.Value.int Go.IntKind.i64 0)] : List Value).getD i__ undef) (fun V => RZ0 w (w.heap.size + 1) (w.heap.size + 2) u1.heap.size (w.heap.size + 3) V) (by kernel_rfl) (hj.carry (Below.refl _ _).drew) ?_ ?_
  · refine (stepsFrom_cons ?_ (stepsFrom_cons ?_ (stepsFrom_cons ?_ (stepsFrom_cons ?_ (stepsFrom_cons ?_ trivial)))))
    · exact step_load rfl trivial _ _ _ rfl rfl (fun w hw => load_rbw hw.b9)
    · exact step_load rfl trivial _ _ _ rfl rfl (fun w hw => whole4 w _ 0 hw.b8)
    · exact step_store rfl trivial rfl _ _ _ _ _ rfl rfl rfl (fun V hw => ⟨_, store_rb hw.b1, hw.st1 (by omega) (by omega) (by omega) (by omega)⟩)
    · exact step_store rfl trivial rfl _ _ _ _ _ rfl rfl rfl (fun V hw => ⟨_, store_set hw.b2, hw.st2 (by omega) (by omega) (by omega) (by omega)⟩)
    · exact step_assign rfl trivial _ rfl (by kernel_rfl) (fun _ h => h)
  intro W hW
  first | refine hK _ _ ?_ | refine (‹∀ (a : Act) (w : World), Code.wp Tryz.prog _ _ a w → _›) _ _ ?_
  simp only [finL, List.getD_cons_zero, List.getD_cons_succ, Nat.zero_add, Nat.reduceAdd, List.setIfInBounds_toArray, List.set_cons_zero, List.set_cons_succ]
  go_wp2
  exact retRst (M := 0) (x := .int .i64 0) rfl rfl rfl rfl rfl hW.b1 hW.b2 ⟨rfl, hW.be⟩
end Go.Proofs.YtddblfffjhoiaaaGreat
