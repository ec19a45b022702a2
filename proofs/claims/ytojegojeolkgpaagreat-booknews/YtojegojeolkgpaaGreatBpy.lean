/- A script of the play of books, handed in. -/
import Derived.Test.YtojegojeolkgpaaGreatRnt
import Derived.Test.YtojegojeolkgpaaGreatRows
import Derived.ProofKit
import Derived.OpenShut
import Derived.ChangeOld
import Derived.ChangeSlices
import Derived.Below
import Derived.Deep.Slices
import Derived.Deep.Strs
import Derived.Test.YtojegojeolkgpaaGreatBkg
import Derived.Test.YtojegojeolkgpaaGreatBku
import Derived.Test.YtojegojeolkgpaaGreatBpz
import Derived.Laws.Tables
import Derived.Laws.Rows
import Derived.Test.YtojegojeolkgpaaGreatNmy
namespace Go.Proofs.YtojegojeolkgpaaGreat
open Go.ChangeShapes Go.WideShapes Go.ChangeAt Go.RowKit

/-- A step: its kind, who, a number, notices. -/
abbrev Op4 := Int × Int × Int × List (Int × Int × Int)
/-- A script, below B. -/
def RdO (W : World) (B : Nat) (ad : Option Addr) (ops : List Op4) : Prop := ∀ (n : Nat) (o : Op4), ops[n]? = some o → ∃ b off a c, ad = some ⟨b, off, none⟩ ∧ b < B ∧ W.cell? ⟨b, off + n * 4, none⟩ = some (.int .i64 o.1) ∧ W.cell? ⟨b, off + n * 4 + 1, none⟩ = some (.int .i64 o.2.1) ∧ W.cell? ⟨b, off + n * 4 + 2, none⟩ = some (.int .i64 o.2.2.1) ∧ W.cell? ⟨b, off + n * 4 + 3, none⟩ = some (.slice a o.2.2.2.length c) ∧ RdN W a o.2.2.2 ∧ (a = none → c = 0)
theorem idx_O (g off n cap k : Nat) (h : k < n) (w : World) : (Instr.indexAt 26 (.slice (some ⟨g, off, none⟩) n cap) (.int .i64 (k : Int))).run Tryz.prog w = .ok (.pointer (some ⟨g, off + k * 4, none⟩)) w := by
  have h1 : (k : Int) < (n : Int) := by omega
  go_simp
theorem load_O {V : World} {b o : Nat} {x0 x1 x2 : Int} {a : Option Addr} {n c : Nat} (h0 : V.cell? ⟨b, o, none⟩ = some (.int .i64 x0)) (h1 : V.cell? ⟨b, o + 1, none⟩ = some (.int .i64 x1)) (h2 : V.cell? ⟨b, o + 2, none⟩ = some (.int .i64 x2)) (h3 : V.cell? ⟨b, o + 3, none⟩ = some (.slice a n c)) : (Instr.loadAt 25 (.pointer (some ⟨b, o, none⟩))).run Tryz.prog V = .ok (.agg #[.int .i64 x0, .int .i64 x1, .int .i64 x2, .slice a n c]) V := by
  go_simp
theorem cellsOp : Tryz.prog.cellsOf 25 = 4 := by kernel_rfl
theorem cellsSn : Tryz.prog.cellsOf 23 = 1 := by kernel_rfl
theorem cellsIM : Tryz.prog.cellsOf 3 = 1 := by kernel_rfl
theorem cellsNM : Tryz.prog.cellsOf 62 = 3 := by kernel_rfl
theorem cell_ltM {W : World} {a : Addr} {v : Value} (h : W.cell? a = some v) : a.block < W.heap.size := by
  unfold World.cell? at h
  cases hb : W.heap[a.block]? with
  | none => simp [hb] at h
  | some o => exact (Array.getElem?_eq_some_iff.1 hb).1
set_option maxRecDepth 100000 in
/-- One notice, out of its cells. -/
theorem one_nt {H : Type} {enc : TypeId × Value → H} {W : World} {n : Nat} {cs : List Value} {x : DataW H × List MemPlace} (hl : cs.length = 3) (h : DataW.trod enc Tryz.prog W 0 (fun _ => true) true n 62 cs = some x) : ∃ o t k : Int, cs = [.int .i64 o, .int .i64 t, .int .i64 k] := by
  obtain ⟨y0, y1, y2, m, hx, _, hy0, hy1, hy2⟩ := Deep.trod_struct3 Tryz.underlying62 h
  match cs, hl with
  | [c0, c1, c2], _ =>
    obtain ⟨x0, e0, _, _⟩ := DataW.trod_int Tryz.underlying3 hy0
    obtain ⟨x1, e1, _, _⟩ := DataW.trod_int Tryz.underlying3 hy1
    obtain ⟨x2, e2, _, _⟩ := DataW.trod_int Tryz.underlying3 hy2
    simp [cellsIM] at e0 e1 e2
    subst e0 e1 e2
    exact ⟨x0, x1, x2, rfl⟩
set_option maxRecDepth 100000 in
/-- A slice of notices, out of its cell. -/
theorem cs_nts {H : Type} {enc : TypeId × Value → H} {W : World} {fuel : Nat} {cs : List Value} {x : DataW H × List MemPlace} (hf : DataW.trod enc Tryz.prog W 0 (fun _ => true) true fuel 23 cs = some x) : ∃ (ad : Option Addr) (cap : Nat) (l : List (Int × Int × Int)), cs = [.slice ad l.length cap] ∧ RdN W ad l ∧ (ad = none → cap = 0) := by
  obtain ⟨d, p⟩ := x
  rcases Deep.open_slice Tryz.underlying23 hf with ⟨hcs, _⟩ | ⟨a, len, cap, m, n, D, Pl, hcs, _, hlc, hcm, hmm, hx, hel⟩
  · exact ⟨none, 0, [], hcs, fun h => absurd rfl h, fun _ => rfl⟩
  · have hm : m = cap := by simpa using hmm
    have each : ∀ i, i < len → ∃ x : Int × Int × Int, W.cell? (a.add (i * 3)) = some (.int .i64 x.1) ∧ W.cell? (a.add (i * 3 + 1)) = some (.int .i64 x.2.1) ∧ W.cell? (a.add (i * 3 + 2)) = some (.int .i64 x.2.2) := by
      intro i hi
      obtain ⟨cs, h1, h2⟩ := hel i (by omega)
      rw [cellsNM] at h1
      obtain ⟨_, hlen, hcell⟩ := World.cells?_some h1
      obtain ⟨o, t, k, rfl⟩ := one_nt hlen h2
      have e0 := hcell 0 (by omega)
      have e1 := hcell 1 (by omega)
      have e2 := hcell 2 (by omega)
      rw [Deep.add_add] at e0 e1 e2
      exact ⟨(o, t, k), by simpa using e0, by simpa using e1, by simpa using e2⟩
    obtain ⟨q, hq⟩ := Deep.choose_lt each
    refine ⟨some a, cap, (List.range len).map q, by simpa using hcs, fun hne => ?_, (by intro e; cases e)⟩
    have hpos : 0 < len := by
      cases len with
      | zero => simp at hne
      | succ n => omega
    obtain ⟨b', off', x'⟩ := a
    have hx' : x' = none := by simpa [Addr.add] using World.cell?_spot (hq 0 hpos).1
    subst hx'
    have hadd : ∀ j, (⟨b', off', none⟩ : Addr).add j = ⟨b', off' + j, none⟩ := fun j => by unfold Addr.add; split <;> simp_all
    refine ⟨b', off', rfl, ?_, fun k y hy => ?_⟩
    · have := cell_ltM (hq 0 hpos).1
      rw [hadd] at this
      exact this
    · rw [List.getElem?_map] at hy
      obtain ⟨k', hk', rfl⟩ := Option.map_eq_some_iff.1 hy
      have hk := (List.getElem?_eq_some_iff.1 hk').1
      simp at hk
      have hkk : k' = k := by
        rw [List.getElem?_range hk] at hk'
        exact (Option.some.inj hk').symm
      subst hkk
      obtain ⟨c0, c1, c2⟩ := hq k' hk
      rw [hadd] at c0 c1 c2
      exact ⟨c0, by simpa [Nat.add_assoc] using c1, by simpa [Nat.add_assoc] using c2⟩
set_option maxRecDepth 100000 in
theorem one_op {H : Type} {enc : TypeId × Value → H} {W : World} {n : Nat} {cs : List Value} {x : DataW H × List MemPlace} (hl : cs.length = 4) (h : DataW.trod enc Tryz.prog W 0 (fun _ => true) true n 25 cs = some x) : ∃ (o : Op4) (a : Option Addr) (c : Nat), cs = [.int .i64 o.1, .int .i64 o.2.1, .int .i64 o.2.2.1, .slice a o.2.2.2.length c] ∧ RdN W a o.2.2.2 ∧ (a = none → c = 0) := by
  obtain ⟨xs, m, _, _, _, hlen, hfs⟩ := DataW.trod_struct Tryz.underlying25 h
  match xs, hlen, cs, hl with
  | [y0, y1, y2, y3], _, [c0, c1, c2, c3], _ =>
    have g0 := hfs 0 _ rfl
    have g1 := hfs 1 _ rfl
    have g2 := hfs 2 _ rfl
    have g3 := hfs 3 _ rfl
    simp [cellsIM, cellsSn] at g0 g1 g2 g3
    obtain ⟨x0, e0, _, _⟩ := DataW.trod_int Tryz.underlying3 g0
    obtain ⟨x1, e1, _, _⟩ := DataW.trod_int Tryz.underlying3 g1
    obtain ⟨x2, e2, _, _⟩ := DataW.trod_int Tryz.underlying3 g2
    simp at e0 e1 e2
    subst e0 e1 e2
    obtain ⟨a, c, l, e3, hr, hb⟩ := cs_nts g3
    simp at e3
    subst e3
    exact ⟨(x0, x1, x2, l), a, c, rfl, hr, hb⟩
set_option maxRecDepth 100000 in
theorem open_ops {H : Type} {enc : TypeId × Value → H} {W : World} {base : Nat} {v : Value} {d : DataW H} {p : List MemPlace} (hval : Value.okWide Tryz.prog W .any base 26 v)
    (h : DataW.Trod enc Tryz.prog W 0 (fun _ => true) true 26 v d p) : ∃ (ad : Option Addr) (cap : Nat) (l : List Op4), v = .slice ad l.length cap ∧ RdO W W.heap.size ad l ∧ l.length ≤ cap ∧ cap ≤ maxLen := by
  obtain ⟨a0, len0, cap0, rfl⟩ := okWide_slice Tryz.underlying26 hval
  obtain ⟨fuel, hf⟩ := h
  rcases Deep.open_slice Tryz.underlying26 hf with ⟨hcs, _⟩ | ⟨a, len, cap, m, n, D, Pl, hcs, _, hlc, hcm, hmm, hx, hel⟩
  · simp [Value.cells] at hcs
    obtain ⟨rfl, rfl, rfl⟩ := hcs
    exact ⟨none, 0, [], rfl, fun n o h => by simp at h, Nat.le_refl _, by unfold maxLen; simp⟩
  · simp [Value.cells] at hcs
    obtain ⟨rfl, rfl, rfl⟩ := hcs
    have hm : m = cap0 := by simpa using hmm
    have each : ∀ i, i < len0 → ∃ o : Op4, ∃ (a' : Option Addr) (c : Nat), W.cell? (a.add (i * 4)) = some (.int .i64 o.1) ∧ W.cell? (a.add (i * 4 + 1)) = some (.int .i64 o.2.1) ∧ W.cell? (a.add (i * 4 + 2)) = some (.int .i64 o.2.2.1) ∧ W.cell? (a.add (i * 4 + 3)) = some (.slice a' o.2.2.2.length c) ∧ RdN W a' o.2.2.2 ∧ (a' = none → c = 0) := by
      intro i hi
      obtain ⟨cs, h1, h2⟩ := hel i (by omega)
      rw [cellsOp] at h1
      obtain ⟨_, hlen, hcell⟩ := World.cells?_some h1
      obtain ⟨o, a', c, rfl, hr, hb⟩ := one_op hlen h2
      have e0 := hcell 0 (by omega)
      have e1 := hcell 1 (by omega)
      have e2 := hcell 2 (by omega)
      have e3 := hcell 3 (by omega)
      rw [Deep.add_add] at e0 e1 e2 e3
      exact ⟨o, a', c, by simpa using e0, by simpa using e1, by simpa using e2, by simpa using e3, hr, hb⟩
    obtain ⟨q, hq⟩ := Deep.choose_lt each
    refine ⟨some a, cap0, (List.range len0).map q, by simp, fun k y hy => ?_, by simpa using hlc, hcm⟩
    rw [List.getElem?_map] at hy
    obtain ⟨k', hk', rfl⟩ := Option.map_eq_some_iff.1 hy
    have hk := (List.getElem?_eq_some_iff.1 hk').1
    simp at hk
    have hkk : k' = k := by
      rw [List.getElem?_range hk] at hk'
      exact (Option.some.inj hk').symm
    subst hkk
    obtain ⟨_, _, c00, _⟩ := hq 0 (by omega)
    obtain ⟨a', c, c0, c1, c2, c3, hr, hb⟩ := hq k' hk
    obtain ⟨b', off', x'⟩ := a
    have hx' : x' = none := by simpa [Addr.add] using World.cell?_spot c00
    subst hx'
    have hadd : ∀ j, (⟨b', off', none⟩ : Addr).add j = ⟨b', off' + j, none⟩ := fun j => add_pl b' off' j
    have hlt := cell_ltM c0
    rw [hadd] at c0 c1 c2 c3 hlt
    exact ⟨b', off', a', c, rfl, hlt, c0, by simpa [Nat.add_assoc] using c1, by simpa [Nat.add_assoc] using c2, by simpa [Nat.add_assoc] using c3, hr, hb⟩
end Go.Proofs.YtojegojeolkgpaaGreat
namespace Go.Proofs.YtojegojeolkgpaaGreat
open Go.RowKit Go.Shelf Go.Lib
attribute [local go_sem] Oper.semAt_some

/-- A book that has no node: nil, or a zero one. -/
def EB (W : World) (v : Value) : Prop := v = .pointer none ∨ ∃ p, v = .pointer (some ⟨p, 0, none⟩) ∧ W.heap[p]? = some (.cells #[.slice none 0 0] 66 (0, 0))
theorem EB.carry {W V : World} {v : Value} (h : EB W v) (hb : Below W.heap.size W V) : EB V v := by
  rcases h with h | ⟨p, rfl, hp⟩
  · exact .inl h
  · exact .inr ⟨p, rfl, (hb.block _ (lt_at hp)).trans hp⟩
set_option maxHeartbeats 1000000 in
theorem ekept_any {w : World} {v : Value} (h : EB w v) : Calls Tryz.prog 20 #[v] w fun e w' => e = .returned (.slice none 0 0) ∧ Below w.heap.size w w' := by
  rcases h with rfl | ⟨p, rfl, hp⟩
  · go_enter Tryz.func20, Tryz.ntmps20
    go_wp2
    go_ret
    exact ⟨rfl, Below.refl _ _⟩
  · have c0 := cell_at hp 0
    simp at c0
    go_enter Tryz.func20, Tryz.ntmps20
    go_wp2
    go_ret
    exact ⟨rfl, Below.refl _ _⟩
set_option maxHeartbeats 1000000 in
theorem esize_any {w : World} {v : Value} (h : EB w v) : Calls Tryz.prog 10 #[v] w fun e w' => e = .returned (.int .i64 0) ∧ Below w.heap.size w w' := by
  have hk := ekept_any h
  go_enter Tryz.func10, Tryz.ntmps10
  go_wp2_with (go_at_call 20; (with_reducible refine hk.mono ?_); rintro e u1 ⟨rfl, hb1⟩)
  go_ret
  exact ⟨rfl, hb1⟩
set_option maxHeartbeats 1000000 in
theorem etwin_nil (w : World) : Calls Tryz.prog 11 #[.pointer none] w fun e w' => e = .returned (.pointer none) ∧ Below w.heap.size w w' := by
  go_enter Tryz.func11, Tryz.ntmps11
  go_wp2
  go_ret
  exact ⟨rfl, Below.refl _ _⟩
set_option maxHeartbeats 1000000 in
theorem etwin_any {w : World} {v : Value} (h : EB w v) : Calls Tryz.prog 11 #[v] w fun e w' => ∃ v', e = .returned v' ∧ EB w' v' ∧ Below w.heap.size w w' := by
  rcases h with rfl | ⟨p, rfl, hp⟩
  · exact (etwin_nil w).mono fun e w' h => ⟨_, h.1, .inl rfl, h.2⟩
  · have hz := esize_any (w := w.alloc (.cells #[.slice none 0 0] 66)) (v := .pointer (some ⟨p, 0, none⟩)) (.inr ⟨p, rfl, old_at hp⟩)
    go_enter Tryz.func11, Tryz.ntmps11
    go_wp2_with (go_at_call 10; (with_reducible refine hz.mono ?_); rintro e u1 ⟨rfl, hb1⟩)
    go_ret
    exact ⟨_, rfl, .inr ⟨_, rfl, (hb1.block _ (by simp)).trans (new_at rfl)⟩, bel2 (al1 _ _) hb1⟩
set_option maxHeartbeats 1000000 in
theorem eall_any {w : World} {v : Value} (h : EB w v) : Calls Tryz.prog 88 #[v] w fun e w' => ∃ bx, e = .returned (.func (.func 121) #[] #[.pointer (some ⟨bx, 0, none⟩)]) ∧ w.heap.size ≤ bx ∧ w'.heap[bx]? = some (.cells #[.slice none 0 0] 23 (0, 0)) ∧ Below w.heap.size w w' := by
  have ht := etwin_any h
  go_enter Tryz.func88, Tryz.ntmps88
  go_wp2_with (first | (go_at_call 11; (with_reducible refine ht.mono ?_); rintro e u1 ⟨v2, rfl, he2, hb2⟩; have hk := ekept_any he2) | (go_at_call 20; (with_reducible refine hk.mono ?_); rintro e u2 ⟨rfl, hb3⟩))
  go_ret
  have hbb := bel2 hb2 hb3
  exact ⟨u2.heap.size, rfl, hbb.size, new_at rfl, hbb.alloc hbb.size _⟩
set_option maxHeartbeats 1000000 in
set_option maxRecDepth 100000 in
theorem all0_seq (bx : Nat) (w : World) (hs : w.heap[bx]? = some (.cells #[.slice none 0 0] 23 (0, 0))) :
    SeqE Tryz.prog (fun _ => True) 121 #[.pointer (some ⟨bx, 0, none⟩)] (fun x : N3 => #[nt x.1 x.2.1 x.2.2]) bx 0 [] w := by
  intro ll J Jx W hW hJ hJx hE hY h0
  have hb0 : W.heap[bx]? = some (.cells #[.slice none 0 0] 23 (0, 0)) := (hW.block _ (lt_at hs)).trans hs
  have c0 := cell_at hb0 0
  simp at c0
  clear hE hY
  refine callsIn_of_wp Tryz.func121 rfl trivial ?_ rfl
  simp only [Tryz.ntmps121, List.size_toArray, List.length_cons, List.length_nil, Nat.reduceAdd, Nat.reduceSub, Array.replicate_succ, Array.replicate_zero, List.push_toArray, List.append_toArray, List.nil_append, List.cons_append]
  gi_wp2
  refine wpIn_loop_once ?_
  gi_wp2
  go_end0
  exact ⟨⟨_, rfl⟩, .inl h0⟩
theorem not_pfx {pre : List N3} {x : N3} (h : pre ++ [x] <+: []) : False := by
  have := h.length_le
  simp at this
set_option maxHeartbeats 4000000 in
set_option maxRecDepth 100000 in
theorem egl_in {w : World} {v : Value} (h : EB w v) : CallsIn Fence.wide 0 Tryz.prog 85 #[v, .func (.func 91) #[] #[]] w fun e w' => e = .returned (.slice none 0 0) ∧ Below w.heap.size w w' := by
  have hal := eall_any ((h.carry (al1 w (.cells #[.func (.func 91) #[] #[]] 113))).carry (al1 _ (.cells #[.slice none 0 0] 23)))
  clear h
  refine callsIn_of_wp_marks Tryz.func85 rfl trivial ?_ rfl
  simp only [Tryz.ntmps85, List.size_toArray, List.length_cons, List.length_nil, Nat.reduceAdd, Nat.reduceSub, Array.replicate_succ, Array.replicate_zero, List.push_toArray, List.append_toArray, List.nil_append, List.cons_append]
  gi_wp2
  with_reducible (refine And.intro (wfn _) (And.intro wdep ?_))
  refine (callsIn_wide.2 hal).mono ?_
  rintro e W0 ⟨bx, rfl, hbx, hsb, hb⟩
  have b0 : Below w.heap.size w W0 := bel2 (al2 _ _ _) hb
  have v0 : Boxed W0 (w.heap.size + 1) 23 (.slice none 0 0) := (hb.block _ (by simp)).trans (new_at (by simp))
  have hgl := lt_at hsb
  have hz : w.heap.size + 2 ≤ W0.heap.size := by simp at hbx; omega
  clear hal hb
  gi_wp2
  refine wp_rangeE (kb := 0) (gf := 121) (lb := #[.pointer (some ⟨bx, 0, none⟩)]) rfl (enters_of Tryz.func121 (by kernel_rfl) rfl)
    (all0_seq bx _ hsb) hgl (fun _ => rfl)
    (fun _ W => Boxed W (w.heap.size + 1) 23 (.slice none 0 0) ∧ Below w.heap.size w W)
    (fun _ _ _ => False)
    (OwnFrom.and ((boxed_own _ _ (fun _ : List N3 => (.slice none 0 0))).from _) (ownFrom_below (Nat.le_refl _) (by omega)))
    (fun _ _ _ _ _ hs _ _ => hs)
    ⟨v0, b0⟩ (fun _ _ _ => trivial) (fun _ _ _ => True) (fun _ _ _ _ _ _ _ _ _ => trivial) ?assign ?body ?done ?stop
  case assign =>
    rintro l2 pre ⟨o, t, k⟩ W K ⟨hv, hb⟩ hsz hK
    unfold nt
    gi_wp2
    exact hK _ _ (Kept.below (al1 _ _) (by omega) (by omega)) ⟨hv.alloc _, hb.alloc hb.size _⟩ trivial
  case body =>
    rintro l2 pre x a' W _ _ _ hpr
    exact (not_pfx hpr).elim
  case done =>
    rintro W ⟨hv, hb⟩ hK
    have hcv := hv.cell
    gi_wp2
    refine ⟨by simp, .inl ⟨_, _, rfl, run_takeDeferred hK, ?_⟩⟩
    exact ⟨.slice none 0 0, by simp [results, Tryz.results85, go_sem], rfl, below_taken _ hb (by omega)⟩
  case stop =>
    rintro c pre W _ h _
    exact h.elim
set_option maxHeartbeats 1000000 in
theorem elist_any {w : World} {v : Value} (h : EB w v) : Calls Tryz.prog 30 #[v] w fun e w' => e = .returned (.slice none 0 0) ∧ Below w.heap.size w w' := by
  have hg := callsIn_wide.1 (egl_in h)
  rcases h with rfl | ⟨p, rfl, hp⟩
  all_goals
    go_enter Tryz.func30, Tryz.ntmps30
    go_wp2_with (go_at_call 85; (with_reducible refine hg.mono ?_); rintro e u1 ⟨rfl, hb1⟩)
    go_ret
    exact ⟨rfl, hb1⟩
set_option maxHeartbeats 4000000 in
set_option maxRecDepth 100000 in
theorem egn_in {w : World} {v : Value} (h : EB w v) : CallsIn Fence.wide 0 Tryz.prog 85 #[v, .func (.func 86) #[] #[]] w fun e w' => e = .returned (.slice none 0 0) ∧ Below w.heap.size w w' := by
  have hal := eall_any ((h.carry (al1 w (.cells #[.func (.func 86) #[] #[]] 113))).carry (al1 _ (.cells #[.slice none 0 0] 23)))
  clear h
  refine callsIn_of_wp_marks Tryz.func85 rfl trivial ?_ rfl
  simp only [Tryz.ntmps85, List.size_toArray, List.length_cons, List.length_nil, Nat.reduceAdd, Nat.reduceSub, Array.replicate_succ, Array.replicate_zero, List.push_toArray, List.append_toArray, List.nil_append, List.cons_append]
  gi_wp2
  with_reducible (refine And.intro (wfn _) (And.intro wdep ?_))
  refine (callsIn_wide.2 hal).mono ?_
  rintro e W0 ⟨bx, rfl, hbx, hsb, hb⟩
  have b0 : Below w.heap.size w W0 := bel2 (al2 _ _ _) hb
  have v0 : Boxed W0 (w.heap.size + 1) 23 (.slice none 0 0) := (hb.block _ (by simp)).trans (new_at (by simp))
  have hgl := lt_at hsb
  have hz : w.heap.size + 2 ≤ W0.heap.size := by simp at hbx; omega
  clear hal hb
  gi_wp2
  refine wp_rangeE (kb := 0) (gf := 121) (lb := #[.pointer (some ⟨bx, 0, none⟩)]) rfl (enters_of Tryz.func121 (by kernel_rfl) rfl)
    (all0_seq bx _ hsb) hgl (fun _ => rfl)
    (fun _ W => Boxed W (w.heap.size + 1) 23 (.slice none 0 0) ∧ Below w.heap.size w W)
    (fun _ _ _ => False)
    (OwnFrom.and ((boxed_own _ _ (fun _ : List N3 => (.slice none 0 0))).from _) (ownFrom_below (Nat.le_refl _) (by omega)))
    (fun _ _ _ _ _ hs _ _ => hs)
    ⟨v0, b0⟩ (fun _ _ _ => trivial) (fun _ _ _ => True) (fun _ _ _ _ _ _ _ _ _ => trivial) ?assign ?body ?done ?stop
  case assign =>
    rintro l2 pre ⟨o, t, k⟩ W K ⟨hv, hb⟩ hsz hK
    unfold nt
    gi_wp2
    exact hK _ _ (Kept.below (al1 _ _) (by omega) (by omega)) ⟨hv.alloc _, hb.alloc hb.size _⟩ trivial
  case body =>
    rintro l2 pre x a' W _ _ _ hpr
    exact (not_pfx hpr).elim
  case done =>
    rintro W ⟨hv, hb⟩ hK
    have hcv := hv.cell
    gi_wp2
    refine ⟨by simp, .inl ⟨_, _, rfl, run_takeDeferred hK, ?_⟩⟩
    exact ⟨.slice none 0 0, by simp [results, Tryz.results85, go_sem], rfl, below_taken _ hb (by omega)⟩
  case stop =>
    rintro c pre W _ h _
    exact h.elim
set_option maxHeartbeats 1000000 in
theorem enews_any {w : World} {v : Value} (h : EB w v) : Calls Tryz.prog 25 #[v] w fun e w' => e = .returned (.slice none 0 0) ∧ Below w.heap.size w w' := by
  have hg := callsIn_wide.1 (egn_in h)
  rcases h with rfl | ⟨p, rfl, hp⟩
  all_goals
    go_enter Tryz.func25, Tryz.ntmps25
    go_wp2_with (go_at_call 85; (with_reducible refine hg.mono ?_); rintro e u1 ⟨rfl, hb1⟩)
    go_ret
    exact ⟨rfl, hb1⟩
set_option maxHeartbeats 4000000 in
set_option maxRecDepth 100000 in
theorem esus_in {w : World} {v : Value} (h : EB w v) : CallsIn Fence.wide 0 Tryz.prog 28 #[v] w fun e w' => e = .returned (sv 0) ∧ Below w.heap.size w w' := by
  have hal := eall_any ((h.carry (al1 w (.cells #[.int .u32 0, .int .u32 0, .int .u32 0, .int .u32 0] 76))).carry (al1 _ (.cells #[.int .u32 0, .int .u32 0, .int .u32 0, .int .u32 0] 76)))
  clear h
  refine callsIn_of_wp_marks Tryz.func28 rfl trivial ?_ rfl
  simp only [Tryz.ntmps28, List.size_toArray, List.length_cons, List.length_nil, Nat.reduceAdd, Nat.reduceSub, Array.replicate_succ, Array.replicate_zero, List.push_toArray, List.append_toArray, List.nil_append, List.cons_append]
  gi_wp2
  with_reducible (refine And.intro (wfn _) (And.intro wdep ?_))
  refine (callsIn_wide.2 hal).mono ?_
  rintro e W0 ⟨bx, rfl, hbx, hsb, hb⟩
  have b0 : Below w.heap.size w W0 := bel2 (al2 _ _ _) hb
  have r0 : Holds4 W0 w.heap.size (fun _ => 0) := (hb.block _ (by simp; omega)).trans (old_at (new_at rfl))
  have s0 : Holds4 W0 (w.heap.size + 1) (wd 0) := Holds4.congr (c := fun _ => 0) ((hb.block _ (by simp)).trans (new_at (by simp))) (fun j _ => (wd_zero j).symm)
  have hgl := lt_at hsb
  have hz : w.heap.size + 2 ≤ W0.heap.size := by simp at hbx; omega
  clear hal hb
  gi_wp2
  refine wp_rangeE (kb := 0) (gf := 121) (lb := #[.pointer (some ⟨bx, 0, none⟩)]) rfl (enters_of Tryz.func121 (by kernel_rfl) rfl)
    (all0_seq bx _ hsb) hgl (fun _ => rfl)
    (fun _ W => W.heap[w.heap.size + 1]? = some (.cells (cells4 (wd 0)) 76) ∧ W.heap[w.heap.size]? = some (.cells (cells4 (fun _ => 0)) 76) ∧ Below w.heap.size w W)
    (fun _ _ _ => False)
    (OwnFrom.and ((blk_own (w.heap.size + 1) (fun _ : List N3 => (.cells (cells4 (wd 0)) 76)) (fun _ => rfl)).from _) (OwnFrom.and ((blk_own w.heap.size (fun _ : List N3 => (.cells (cells4 (fun _ => 0)) 76)) (fun _ => rfl)).from _) (ownFrom_below (Nat.le_refl _) (by omega))))
    (fun _ _ _ _ _ hs _ _ => hs)
    ⟨s0, r0, b0⟩ (fun _ _ _ => trivial) (fun _ _ _ => True) (fun _ _ _ _ _ _ _ _ _ => trivial) ?assign ?body ?done ?stop
  case assign =>
    rintro l2 pre ⟨o, t, k⟩ W K ⟨hs, hr, hb⟩ hsz hK
    unfold nt
    gi_wp2
    exact hK _ _ (Kept.below (al1 _ _) (by omega) (by omega)) ⟨old_at hs, old_at hr, hb.alloc hb.size _⟩ trivial
  case body =>
    rintro l2 pre x a' W _ _ _ hpr
    exact (not_pfx hpr).elim
  case done =>
    rintro W ⟨hs, hr, hb⟩ hK
    have HS : Hid (Holds4 W (w.heap.size + 1) (wd 0)) := hs
    have HR : Hid (Holds4 W w.heap.size (fun _ => 0)) := hr
    clear hs hr
    obtain ⟨x0, x1, x2, x3, _, _, _, _⟩ := HS.out.facts
    obtain ⟨y0, y1, y2, y3, z0, z1, z2, z3⟩ := HR.out.facts
    gi_wp2
    have hfin : Holds4 (set4 W w.heap.size 0) w.heap.size (wd 0) := fin4 HR.out _
    have hbf : Below w.heap.size w (set4 W w.heap.size 0) := below4 hb (Nat.le_refl _) _
    have hK2 : (set4 W w.heap.size 0).heap[W0.heap.size]? = some (.deferred (some [])) := by
      unfold set4
      rw [Below.heap_setCell _ _ _ _ (by simp only; omega), Below.heap_setCell _ _ _ _ (by simp only; omega), Below.heap_setCell _ _ _ _ (by simp only; omega), Below.heap_setCell _ _ _ _ (by simp only; omega)]
      exact hK
    refine ⟨by simp, .inl ⟨_, _, rfl, run_takeDeferred hK2, ?_⟩⟩
    have hf2 : Holds4 ((set4 W w.heap.size 0).putObj W0.heap.size (.deferred none)) w.heap.size (wd 0) := (World.putObj_heap_other (by omega)).trans hfin
    have h1 := run_loadVar_row (P := Tryz.prog) _ w.heap.size 76 76 (cells4 (wd 0)) (0, 0) _ hf2 Tryz.underlying76 rfl (by kernel_rfl)
    refine ⟨sv 0, ?_, rfl, below_taken _ hbf (by omega)⟩
    simp [results, Tryz.results28, asAddr]
    exact h1
  case stop =>
    rintro c pre W _ h _
    exact h.elim
theorem esus_any {w : World} {v : Value} (h : EB w v) : Calls Tryz.prog 28 #[v] w fun e w' => e = .returned (sv 0) ∧ Below w.heap.size w w' := callsIn_wide.1 (esus_in h)
set_option maxHeartbeats 1000000 in
theorem ssame_any {w : World} {v v2 : Value} (l m : List N3) (ad ad2 : Option Addr) (c c2 : Nat) (h1 : ∀ W, Below w.heap.size w W → Calls Tryz.prog 20 #[v] W fun e w' => e = .returned (.slice ad l.length c) ∧ Below W.heap.size W w') (h2 : ∀ W, Below w.heap.size w W → Calls Tryz.prog 20 #[v2] W fun e w' => e = .returned (.slice ad2 m.length c2) ∧ Below W.heap.size W w') (hr : RdN w ad l) (hr2 : RdN w ad2 m) (hl : l.length ≤ 6000000000000) : Calls Tryz.prog 12 #[v, v2] w fun e w' => e = .returned (.bool (decide (l = m))) ∧ Below w.heap.size w w' := by
  have k1 := h1 w (Below.refl _ _)
  have HE : Hid (∀ W, Below w.heap.size w W → Calls Tryz.prog 21 #[.slice ad l.length c, .slice ad2 m.length c2] W fun e w' => e = .returned (.bool (decide (l = m))) ∧ Below W.heap.size W w') := fun W hb => equal_any _ _ _ _ l m W (hr.carry hb) (hr2.carry hb) hl
  have HK : Hid (∀ W, Below w.heap.size w W → Calls Tryz.prog 20 #[v2] W fun e w' => e = .returned (.slice ad2 m.length c2) ∧ Below W.heap.size W w') := h2
  generalize decide (l = m) = R at *
  clear hl h1 h2 hr hr2
  go_enter Tryz.func12, Tryz.ntmps12
  go_wp2_with (first | (go_at_call 20; first | (have hz := k1; (with_reducible refine k1.mono ?_); rintro e u1 ⟨rfl, hb1⟩; clear k1 hz; have k2 := HK.out u1 hb1) | (have hz := k2; (with_reducible refine k2.mono ?_); rintro e u2 ⟨rfl, hb2⟩; have k3 := HE.out u2 (bel2 hb1 hb2))) | (go_at_call 21; (with_reducible refine k3.mono ?_); rintro e u3 ⟨rfl, hb3⟩))
  go_ret
  exact ⟨rfl, bel2 (bel2 hb1 hb2) hb3⟩
theorem rd_nil (W : World) : RdN W none [] := fun h => absurd rfl h
set_option maxHeartbeats 4000000 in
set_option maxRecDepth 100000 in
theorem etake_any {w : World} {v : Value} (h : EB w v) (o t k : Int) : Calls Tryz.prog 79 #[v, nt o t k] w fun e w' => e = .returned (.tuple #[.bool false, .int .i64 50]) ∧ Below w.heap.size w w' := by
  have hmx : Tryz.prog.follows .mixedOrders = true := by kernel_rfl
  have hva := valid_any 0 o t k
  rw [show vl 0 o t k = false from decide_eq_false (by omega)] at hva
  have hj0 : NB (w.alloc (.cells #[.int .i64 o, .int .i64 t, .int .i64 k] 62)) w.heap.size o t k ∧ EB (w.alloc (.cells #[.int .i64 o, .int .i64 t, .int .i64 k] 62)) v ∧ Below w.heap.size w (w.alloc (.cells #[.int .i64 o, .int .i64 t, .int .i64 k] 62)) := ⟨NB.new _ _ _ _, h.carry (al1 _ _), al1 _ _⟩
  clear h
  go_enter Tryz.func79, Tryz.ntmps79
  unfold nt
  go_wp2
  rename_i Q0 K0 hK
  refine wp_region_any hmx ?_
  refine wpAny_pure (fun i__ => ([v, (.int .i64 0), (nt o t k), (.bool false), (.bool true)] : List Value).getD i__ undef) (fun V => NB V w.heap.size o t k ∧ EB V v ∧ Below w.heap.size w V) (by kernel_rfl) ⟨hj0.1.carry (Below.refl _ _).drew, hj0.2.1.carry (Below.refl _ _).drew, hj0.2.2.drew⟩ ?_ ?_
  · refine (stepsFrom_cons ?_ (stepsFrom_cons ?_ (stepsFrom_cons ?_ (stepsFrom_cons ?_ (stepsFrom_cons ?_ trivial)))))
    · exact step_move rfl trivial _ rfl (by kernel_rfl)
    · exact step_call rfl trivial 10 _ _ [v] rfl (by kernel_rfl) (enters_of Tryz.func10 (by kernel_rfl) rfl) (fun w hw => (esize_any hw.2.1).mono (by rintro e w' ⟨rfl, hb⟩; exact ⟨rfl, hw.1.carry hb, hw.2.1.carry hb, bel2 hw.2.2 hb⟩))
    · exact step_load rfl trivial _ _ _ rfl rfl (fun w hw => load_nt hw.1)
    · exact step_call rfl trivial 115 _ _ [(.int .i64 0), (nt o t k)] rfl (by kernel_rfl) (enters_of Tryz.func115 (by kernel_rfl) rfl) (fun w hw => (hva w).mono (by rintro e w' ⟨rfl, hb⟩; exact ⟨rfl, hw.1.carry hb, hw.2.1.carry hb, bel2 hw.2.2 hb⟩))
    · exact step_unOp rfl trivial _ _ _ _ rfl rfl (fun w hw => un_not false w)
  intro W hW
  first | refine hK _ _ ?_ | refine (‹∀ (a : Act) (w : World), Code.wp Tryz.prog _ _ a w → _›) _ _ ?_
  simp only [finL, List.getD_cons_zero, List.getD_cons_succ, Nat.zero_add, Nat.reduceAdd, List.setIfInBounds_toArray, List.set_cons_zero, List.set_cons_succ]
  obtain ⟨hn, hk, hb⟩ := hW
  clear hj0 hK hva
  go_wp2
  go_ret2
  exact ⟨rfl, hb⟩
set_option maxHeartbeats 4000000 in
theorem eat_any {w : World} {v : Value} (h : EB w v) (id : Int) : Calls Tryz.prog 17 #[v, .int .i64 id] w fun e w' => e = .returned (.tuple #[.agg #[.int .i64 0, .int .i64 0, .int .i64 0], .int .i64 30]) ∧ Below w.heap.size w w' := by
  have hn1 : NB (w.alloc (.cells #[.int .i64 0, .int .i64 0, .int .i64 0] 62)) w.heap.size 0 0 0 := NB.new _ _ _ _
  have hb1 := al1 w (.cells #[.int .i64 0, .int .i64 0, .int .i64 0] 62)
  have hsz := esize_any (h.carry hb1)
  clear h
  by_cases h0 : id < 0
  · have c0 := hn1.c0
    have c1 := hn1.c1
    have c2 := hn1.c2
    have z0 := hn1.thaw 0
    have z1 := hn1.thaw 1
    have z2 := hn1.thaw 2
    go_enter Tryz.func17, Tryz.ntmps17
    go_wp2
    exact retNt rfl rfl rfl rfl hn1 ⟨rfl, hb1⟩
  · have hge : 0 ≤ id := by omega
    go_enter Tryz.func17, Tryz.ntmps17
    go_wp2_with (go_at_call 10; (with_reducible refine hsz.mono ?_); rintro e u1 ⟨rfl, hb2⟩; have hn2 := hn1.carry hb2; have c0 := hn2.c0; have c1 := hn2.c1; have c2 := hn2.c2; have z0 := hn2.thaw 0; have z1 := hn2.thaw 1; have z2 := hn2.thaw 2)
    exact retNt rfl rfl rfl rfl (NB.set hn2 _ _ _) ⟨rfl, below3 (bel2 hb1 hb2) (Nat.le_refl _) _ _ _⟩
end Go.Proofs.YtojegojeolkgpaaGreat
namespace Go.Proofs.YtojegojeolkgpaaGreat
open Go.RowKit Go.Shelf Go.Lib

theorem new_bad (n self tag : Int) (hb : ¬ (¬ (n < 1 ∨ 100 < n) ∧ ¬ (self < 0 ∨ n ≤ self) ∧ ¬ (tag < 0 ∨ 1048576 < tag))) : ∃ E : Int, ¬ E = 0 ∧ (∀ W, Calls Tryz.prog 8 #[.int .i64 n, .int .i64 self, .int .i64 tag] W fun e w' => e = .returned (.tuple #[.pointer none, .int .i64 E]) ∧ Below W.heap.size W w') ∧ ∀ W, Calls Tryz.prog 9 #[.int .i64 n, .int .i64 self, .int .i64 tag] W fun e w' => e = .returned (.tuple #[.agg #[.slice none 0 0], .int .i64 E]) ∧ Below W.heap.size W w' := by
  by_cases h1 : n < 1 ∨ 100 < n
  · exact ⟨1, by decide, fun W => (new_any n self tag W).mono (by rintro e w' ⟨hb, h⟩; rw [if_pos h1] at h; exact ⟨h, hb⟩), fun W => (rNew_any n self tag W).mono (by rintro e w' ⟨hb, h⟩; rw [if_pos h1] at h; exact ⟨h, hb⟩)⟩
  · by_cases h2 : self < 0 ∨ n ≤ self
    · exact ⟨30, by decide, fun W => (new_any n self tag W).mono (by rintro e w' ⟨hb, h⟩; rw [if_neg h1, if_pos h2] at h; exact ⟨h, hb⟩), fun W => (rNew_any n self tag W).mono (by rintro e w' ⟨hb, h⟩; rw [if_neg h1, if_pos h2] at h; exact ⟨h, hb⟩)⟩
    · by_cases h3 : tag < 0 ∨ 1048576 < tag
      · exact ⟨50, by decide, fun W => (new_any n self tag W).mono (by rintro e w' ⟨hb, h⟩; rw [if_neg h1, if_neg h2, if_pos h3] at h; exact ⟨h, hb⟩), fun W => (rNew_any n self tag W).mono (by rintro e w' ⟨hb, h⟩; rw [if_neg h1, if_neg h2, if_pos h3] at h; exact ⟨h, hb⟩)⟩
      · exact absurd ⟨h1, h2, h3⟩ hb
theorem new_good (n self tag : Int) (h : (¬ (n < 1 ∨ 100 < n) ∧ ¬ (self < 0 ∨ n ≤ self) ∧ ¬ (tag < 0 ∨ 1048576 < tag))) : ∃ (N : Nat) (l : List N3), 0 < N ∧ N ≤ 100 ∧ l.length = N ∧ Bok l ∧ (∀ W, Calls Tryz.prog 8 #[.int .i64 n, .int .i64 self, .int .i64 tag] W fun e w' => ∃ p g, e = .returned (.tuple #[.pointer (some ⟨p, 0, none⟩), .int .i64 0]) ∧ W.heap.size ≤ p ∧ W.heap.size ≤ g ∧ Bk w' p g l ∧ Below W.heap.size W w') ∧ ∀ W, Calls Tryz.prog 9 #[.int .i64 n, .int .i64 self, .int .i64 tag] W fun e w' => ∃ ad cap, e = .returned (.tuple #[.agg #[.slice ad N cap], .int .i64 0]) ∧ RdN w' ad l ∧ N ≤ cap ∧ (∀ a, ad = some a → W.heap.size ≤ a.block ∧ ∃ cur, w'.heap[a.block]? = some (.cells cur 62 (0, 0))) ∧ Below W.heap.size W w' := by
  obtain ⟨h1, h2, h3⟩ := h
  refine ⟨n.toNat, bk0 n.toNat self.toNat tag, by omega, by omega, bk0_len _ _ _, bk0_bok (by omega) (by omega), fun W => (new_any n self tag W).mono (by
    rintro e w' hv
    obtain ⟨p, g, k1, k2, k3, k4⟩ := hv.ok h1 h2 h3
    exact ⟨p, g, k1, k2, k3, k4, hv.1⟩), fun W => (rNew_any n self tag W).mono (by
    rintro e w' hv
    obtain ⟨ad, cap, k1, k2, k3, k4⟩ := hv.ok h1 h2 h3
    exact ⟨ad, cap, k1, k2, k3, k4, hv.1⟩)⟩
theorem info_rb : (Tryz.prog.info? 47).map (·.size) = some 1 := by kernel_rfl
theorem und_rb : Tryz.prog.underlying 47 = some (.struct ((match Tryz.prog.underlying 47 with | some (.struct f) => f | _ => #[]))) := by kernel_rfl
theorem boxed (W : World) (v : Value) : ((W.alloc (.cells #[.slice none 0 0] 47)).setRow W.heap.size #[v]).heap[W.heap.size]? = some (.cells #[v] 47 (0, 0)) ∧ Below W.heap.size W ((W.alloc (.cells #[.slice none 0 0] 47)).setRow W.heap.size #[v]) := by
  have hg : (W.alloc (.cells #[.slice none 0 0] 47)).heap[W.heap.size]? = some (.cells #[.slice none 0 0] 47 (0, 0)) := new_at rfl
  exact ⟨setRow_heap _ _ _ _ _ _ hg, below_setRow (al1 W _) (Nat.le_refl _)⟩
theorem same_nil (w : World) : Calls Tryz.prog 12 #[.pointer none, .pointer none] w fun e w' => e = .returned (.bool true) ∧ Below w.heap.size w w' := by
  have := ssame_any (w := w) (v := .pointer none) (v2 := .pointer none) [] [] none none 0 0 (fun W _ => ekept_any (.inl rfl)) (fun W _ => ekept_any (.inl rfl)) (fun q => absurd rfl q) (fun q => absurd rfl q) (by simp)
  simpa using this
set_option maxHeartbeats 8000000 in
set_option maxRecDepth 100000 in
theorem play_bad (n self tag : Int) (hbad : ¬ (¬ (n < 1 ∨ 100 < n) ∧ ¬ (self < 0 ∨ n ≤ self) ∧ ¬ (tag < 0 ∨ 1048576 < tag))) (w : World) (ad1 : Option Addr) (cap1 m : Nat) (hm : ¬ m > 120) (each : Bool) : Calls Tryz.prog 6 #[.int .i64 n, .int .i64 self, .int .i64 tag, .slice ad1 m cap1, .bool each] w fun e w' => e = .returned (.bool true) ∧ Below w.heap.size w w' := by
  have hal := balive_any w
  obtain ⟨E, hE, hN, hR⟩ := new_bad n self tag hbad
  have hmi : ¬ (m : Int) > 120 := by omega
  clear hbad hm
  go_enter Tryz.func6, Tryz.ntmps6
  go_wp2_with (go_at_call 7; (with_reducible refine hal.mono ?_); rintro e u1 ⟨rfl, hb1⟩; obtain ⟨u2, hu2⟩ : ∃ u2, u1.alloc (.cells #[.slice none 0 0, .slice none 0 0, .slice none 0 0, .slice none 0 0, .slice none 0 0, .slice none 0 0, .slice none 0 0, .slice none 0 0, .slice none 0 0, .slice none 0 0, .slice none 0 0, .slice none 0 0, .slice none 0 0, .slice none 0 0, .slice none 0 0, .slice none 0 0, .slice none 0 0, .slice none 0 0, .slice none 0 0, .slice none 0 0, .slice none 0 0, .slice none 0 0, .slice none 0 0, .slice none 0 0] 44) = u2 := ⟨_, rfl⟩; have hb2 : Below u1.heap.size u1 u2 := (by rw [← hu2]; exact al1 _ _); have hk2 : KB u2 u1.heap.size (.slice none 0 0) (.slice none 0 0) := (by rw [← hu2]; exact new_at rfl); obtain ⟨u3, hu3⟩ : ∃ u3, u2.alloc (.cells #[.pointer none, .slice none 0 0, .pointer none, .pointer none, .slice none 0 0, .pointer none] 50) = u3 := ⟨_, rfl⟩; have hb3 : Below u2.heap.size u2 u3 := (by rw [← hu3]; exact al1 _ _); have hl3 : u3.heap[u2.heap.size]? = some (.cells [.pointer none, .slice none 0 0, .pointer none, .pointer none, .slice none 0 0, .pointer none].toArray 50 (0, 0)) := (by rw [← hu3]; exact new_at rfl); have hk3 : KB u3 u1.heap.size (.slice none 0 0) (.slice none 0 0) := (hb3.block _ (lt_at hk2)).trans hk2; have hB3 : Below w.heap.size w u3 := bel2 (bel2 hb1 hb2) hb3; have s1 := hb1.size; have s2 := hb2.size; have s3 := lt_at hl3; have s4 := lt_at hk2)
  go_loopw [13] (fun i wz => ∃ (k : Nat) (c2 c5 : Value), i = .int .i64 (k : Int) ∧ k ≤ 2 ∧ Below w.heap.size w wz ∧ wz.heap[u2.heap.size]? = some (.cells [.pointer none, .slice none 0 0, c2, .pointer none, .slice none 0 0, c5].toArray 50 (0, 0))) (fun i _ => 2 - vnatR i)
  case atStart => exact ⟨0, _, _, rfl, by omega, hB3, hl3⟩
  case round =>
    obtain ⟨k, c2, c5, rfl, hk, hBk, hlk⟩ := hrel
    have hk' : k = 0 ∨ k = 1 ∨ k = 2 := by omega
    rcases hk' with rfl | rfl | rfl
    · have hNw := hN wr
      go_wp2_with (first | (go_at_call 8; (with_reducible refine hNw.mono ?_); rintro e u4 ⟨rfl, hb4⟩; have hRw := hR u4) | (go_at_call 9; (with_reducible refine hRw.mono ?_); rintro e u5 ⟨rfl, hb5⟩; obtain ⟨u6, hu6⟩ : ∃ u6, u5.alloc (.cells #[.slice none 0 0] 47) = u6 := ⟨_, rfl⟩; have hg6 : u6.heap[u5.heap.size]? = some (.cells #[.slice none 0 0] 47 (0, 0)) := (by rw [← hu6]; exact new_at rfl)) | (refine wpList_store_row rfl 47 (.tmp 16) (.tmp 45) rfl u5.heap.size #[.slice none 0 0] rfl rfl 47 _ hg6 info_rb rfl (by simp [Value.oneCell']) ?_; have hbx := boxed u5 (.slice none 0 0); rw [hu6] at hbx; obtain ⟨u7, hu7⟩ : ∃ u7, u6.setRow u5.heap.size #[.slice none 0 0] = u7 := ⟨_, rfl⟩; rw [hu7] at hbx; rw [hu7]; have r7 := hbx.1; have hb7 : Below wr.heap.size wr u7 := bel2 (bel2 hb4 hb5) hbx.2; have hl7 := (hb7.block _ (lt_at hlk)).trans hlk) | (refine wpList_load_row rfl 47 (.tmp 16) rfl u5.heap.size rfl 47 _ (0, 0) _ r7 und_rb rfl info_rb ?_) | (refine wpList_store_in rfl 49 (.tmp 62) (.tmp 61) rfl u2.heap.size 0 50 [.pointer none, .slice none 0 0, c2, .pointer none, .slice none 0 0, c5] [.pointer none, .slice none 0 0, .pointer (some ⟨u1.heap.size, 0, none⟩)] rfl rfl hl7 info_bo (show (0 + 3 : Nat) ≤ 6 from by decide) (by simp [Value.oneCell']) ?_; obtain ⟨v7, hv7⟩ : ∃ v7, u7.setRow u2.heap.size (splice [.pointer none, .slice none 0 0, c2, .pointer none, .slice none 0 0, c5] 0 [.pointer none, .slice none 0 0, .pointer (some ⟨u1.heap.size, 0, none⟩)]).toArray = v7 := ⟨_, rfl⟩; have HL7 : Hid (v7.heap[u2.heap.size]? = some (.cells [.pointer none, .slice none 0 0, .pointer (some ⟨u1.heap.size, 0, none⟩), .pointer none, .slice none 0 0, c5].toArray 50 (0, 0))) := (by rw [← hv7]; exact setRow_heap _ _ _ _ _ _ hl7); have HB7 : Hid (Below w.heap.size w v7) := (by rw [← hv7]; exact below_setRow (hBk.trans (hb7.mono hBk.size)) (by omega)); rw [hv7]))
      go_roundw
      case rel => exact ⟨1, _, _, by simp, by omega, HB7.out, HL7.out⟩
      case measure => simp [vnatR]
    · have hNw := hN wr
      go_wp2_with (first | (go_at_call 8; (with_reducible refine hNw.mono ?_); rintro e u4 ⟨rfl, hb4⟩; have hRw := hR u4) | (go_at_call 9; (with_reducible refine hRw.mono ?_); rintro e u5 ⟨rfl, hb5⟩; obtain ⟨u6, hu6⟩ : ∃ u6, u5.alloc (.cells #[.slice none 0 0] 47) = u6 := ⟨_, rfl⟩; have hg6 : u6.heap[u5.heap.size]? = some (.cells #[.slice none 0 0] 47 (0, 0)) := (by rw [← hu6]; exact new_at rfl)) | (refine wpList_store_row rfl 47 (.tmp 16) (.tmp 45) rfl u5.heap.size #[.slice none 0 0] rfl rfl 47 _ hg6 info_rb rfl (by simp [Value.oneCell']) ?_; have hbx := boxed u5 (.slice none 0 0); rw [hu6] at hbx; obtain ⟨u7, hu7⟩ : ∃ u7, u6.setRow u5.heap.size #[.slice none 0 0] = u7 := ⟨_, rfl⟩; rw [hu7] at hbx; rw [hu7]; have r7 := hbx.1; have hb7 : Below wr.heap.size wr u7 := bel2 (bel2 hb4 hb5) hbx.2; have hl7 := (hb7.block _ (lt_at hlk)).trans hlk) | (refine wpList_load_row rfl 47 (.tmp 16) rfl u5.heap.size rfl 47 _ (0, 0) _ r7 und_rb rfl info_rb ?_) | (refine wpList_store_in rfl 49 (.tmp 62) (.tmp 61) rfl u2.heap.size 3 50 [.pointer none, .slice none 0 0, c2, .pointer none, .slice none 0 0, c5] [.pointer none, .slice none 0 0, .pointer (some ⟨u1.heap.size, 0, none⟩)] rfl rfl hl7 info_bo (show (3 + 3 : Nat) ≤ 6 from by decide) (by simp [Value.oneCell']) ?_; obtain ⟨v7, hv7⟩ : ∃ v7, u7.setRow u2.heap.size (splice [.pointer none, .slice none 0 0, c2, .pointer none, .slice none 0 0, c5] 3 [.pointer none, .slice none 0 0, .pointer (some ⟨u1.heap.size, 0, none⟩)]).toArray = v7 := ⟨_, rfl⟩; have HL7 : Hid (v7.heap[u2.heap.size]? = some (.cells [.pointer none, .slice none 0 0, c2, .pointer none, .slice none 0 0, .pointer (some ⟨u1.heap.size, 0, none⟩)].toArray 50 (0, 0))) := (by rw [← hv7]; exact setRow_heap _ _ _ _ _ _ hl7); have HB7 : Hid (Below w.heap.size w v7) := (by rw [← hv7]; exact below_setRow (hBk.trans (hb7.mono hBk.size)) (by omega)); rw [hv7]))
      go_roundw
      case rel => exact ⟨2, _, _, by simp, by omega, HB7.out, HL7.out⟩
      case measure => simp [vnatR]
    · have q0 : wr.cell? ⟨u2.heap.size, 0, none⟩ = some (.pointer none) := cell_at hlk 0
      have q3 : wr.cell? ⟨u2.heap.size, 3, none⟩ = some (.pointer none) := cell_at hlk 3
      have hsz := esize_any (w := wr) (v := .pointer none) (.inl rfl)
      go_wp2_with (first | (go_at_call 10; (with_reducible refine hsz.mono ?_); rintro e y1 ⟨rfl, hy1⟩; have p0 := (World.cell?_of_block (a := ⟨u2.heap.size, 0, none⟩) (hy1.block _ (lt_at hlk))).trans q0; have htw := etwin_nil y1) | (go_at_call 11; (with_reducible refine htw.mono ?_); rintro e y2 ⟨rfl, hy2⟩; have hy12 := bel2 hy1 hy2; have p0' := (World.cell?_of_block (a := ⟨u2.heap.size, 0, none⟩) (hy12.block _ (lt_at hlk))).trans q0; have p3' := (World.cell?_of_block (a := ⟨u2.heap.size, 3, none⟩) (hy12.block _ (lt_at hlk))).trans q3; have hsm := same_nil y2) | (go_at_call 12; (with_reducible refine hsm.mono ?_); rintro e y3 ⟨rfl, hy3⟩))
      go_ret
      exact ⟨rfl, hBk.trans ((bel2 hy12 hy3).mono hBk.size)⟩
end Go.Proofs.YtojegojeolkgpaaGreat
namespace Go.Proofs.YtojegojeolkgpaaGreat
open Go.RowKit Go.Shelf Go.Lib

theorem nk_new {σ : Sg} {W : World} {base bb : Nat} (h : KB W bb (.slice none 0 0) (.slice none 0 0)) (hb : base ≤ bb) (hs : ∀ b, σ b → b < W.heap.size) : NK σ base bb W :=
  ⟨hs, 0, [], [], [], ⟨_, _, Nat.zero_le _, h, World.ownsRow_nil _ _ _ _, World.ownsRow_nil _ _ _ _, (fun q e => by cases e), hb⟩, rfl, ⟨(fun i l hl => by simp at hl), rfl, rfl, (fun i j g z z' hi => by simp at hi)⟩⟩
def zC : List Value := [.pointer none, .slice none 0 0, .pointer none]
/-- A book that was made, and the document's. -/
structure One (base N : Nat) (l : List N3) (p g : Nat) (ad : Option Addr) (cap : Nat) (W : World) : Prop where
  bk : Bk W p g l
  rd : RdN W ad l
  ty : ∀ a, ad = some a → ∃ cur, W.heap[a.block]? = some (.cells cur 62 (0, 0))
  nc : N ≤ cap
  gb : base ≤ g
  ag : ∀ a, ad = some a → a.block ≠ g
section
variable {base N lb bb p g cap : Nat} {l : List N3} {ad : Option Addr} {W V : World}
theorem One.move (h : One base N l p g ad cap W) (e : ∀ (q : Nat) (c : Array Value) (t : TypeId) (z : Nat × Nat), W.heap[q]? = some (.cells c t z) → t ≠ 50 → V.heap[q]? = some (.cells c t z)) : One base N l p g ad cap V := by
  refine ⟨⟨e _ _ _ _ h.bk.obj (by decide), e _ _ _ _ h.bk.row (by decide)⟩, fun hne => ?_, fun a ha => ?_, h.nc, h.gb, h.ag⟩
  · obtain ⟨b, o, e1, hb, hat⟩ := h.rd hne
    obtain ⟨c, hc⟩ := h.ty _ e1
    have h3 := e _ _ _ _ hc (by decide)
    have h4 : V.heap[b]? = W.heap[b]? := h3.trans hc.symm
    refine ⟨b, o, e1, lt_at h3, fun q x hq => ?_⟩
    obtain ⟨c0, c1, c2⟩ := hat q x hq
    exact ⟨(World.cell?_of_block (a := ⟨b, _, none⟩) h4).trans c0, (World.cell?_of_block (a := ⟨b, _, none⟩) h4).trans c1, (World.cell?_of_block (a := ⟨b, _, none⟩) h4).trans c2⟩
  · obtain ⟨c, hc⟩ := h.ty a ha
    exact ⟨c, e _ _ _ _ hc (by decide)⟩
theorem One.carry (h : One base N l p g ad cap W) (hb : Below W.heap.size W V) : One base N l p g ad cap V := h.move (fun q _ _ _ hq _ => (hb.block q (lt_at hq)).trans hq)
theorem tp_other {cur : Array Value} (ht : Tp lb W V) (hl : W.heap[lb]? = some (.cells cur 50 (0, 0))) : ∀ (q : Nat) (c : Array Value) (t : TypeId) (z : Nat × Nat), W.heap[q]? = some (.cells c t z) → t ≠ 50 → V.heap[q]? = some (.cells c t z) := fun q c t z hq ht' => (ht.block q (lt_at hq) (fun e => by
  rw [e] at hq
  have := hq.symm.trans hl
  simp only [Option.some.injEq, Obj.cells.injEq] at this
  exact ht' this.2.1)).trans hq
end
/-- While both are made. -/
def Lp (w : World) (lb bb N : Nat) (l : List N3) (k : Nat) (W : World) : Prop := match k with
  | 0 => Below w.heap.size w W ∧ KB W bb (.slice none 0 0) (.slice none 0 0) ∧ W.heap[lb]? = some (.cells [.pointer none, .slice none 0 0, .pointer none, .pointer none, .slice none 0 0, .pointer none].toArray 50 (0, 0))
  | 1 => ∃ p g ad cap, Below w.heap.size w W ∧ KB W bb (.slice none 0 0) (.slice none 0 0) ∧ W.heap[lb]? = some (.cells [.pointer (some ⟨p, 0, none⟩), .slice ad N cap, .pointer (some ⟨bb, 0, none⟩), .pointer none, .slice none 0 0, .pointer none].toArray 50 (0, 0)) ∧ One w.heap.size N l p g ad cap W
  | _ => PS w lb bb N W
theorem Lp.two {w W : World} {lb bb N p g cap p' g' cap' : Nat} {l : List N3} {ad ad' : Option Addr} (hB : Below w.heap.size w W) (hk : KB W bb (.slice none 0 0) (.slice none 0 0)) (hl : W.heap[lb]? = some (.cells [.pointer (some ⟨p, 0, none⟩), .slice ad N cap, .pointer (some ⟨bb, 0, none⟩), .pointer (some ⟨p', 0, none⟩), .slice ad' N cap', .pointer (some ⟨bb, 0, none⟩)].toArray 50 (0, 0))) (h1 : One w.heap.size N l p g ad cap W) (h2 : One w.heap.size N l p' g' ad' cap' W) (hbb : w.heap.size ≤ bb) (hlb : w.heap.size ≤ lb) (hn : l.length = N) (hbo : Bok l) (ng : g ≠ g') (aa : ∀ a, ad = some a → a.block ≠ g') (ab : ∀ a, ad' = some a → a.block ≠ g) : PS w lb bb N W :=
  have hnk := nk_new (σ := fun b => b = g ∨ b = g') (base := w.heap.size) hk hbb (fun b q => by have q1 := h1.bk.glt; have q2 := h2.bk.glt; rcases q with q | q <;> omega)
  ⟨fun b => b = g ∨ b = g', p, g, l, ad, cap, p', g', l, ad', cap', ⟨(cell_at hl 0).trans rfl, (cell_at hl 1).trans rfl, (cell_at hl 2).trans rfl, ⟨_, hl⟩, h1.bk, h1.rd, h1.ty, hnk, hB.size, .inl rfl⟩, ⟨(cell_at hl 3).trans rfl, (cell_at hl 4).trans rfl, (cell_at hl 5).trans rfl, ⟨_, hl⟩, h2.bk, h2.rd, h2.ty, hnk, hB.size, .inr rfl⟩, ng, fun a e => ⟨h1.ag a e, aa a e⟩, fun a e => ⟨ab a e, h2.ag a e⟩, ⟨hn, hn⟩, ⟨hbo, hbo⟩, ⟨h1.nc, h2.nc⟩, ⟨h1.gb, h2.gb⟩, hlb, hB⟩
/-- While the other one is made a twin. -/
def JTw (σ : Sg) (w : World) (lb bb N q p y : Nat) (l : List N3) (ad : Option Addr) (cap p' g' : Nat) (l' : List N3) (ad' : Option Addr) (cap' : Nat) (g : Nat × Nat) (a6 a14 : Bool) (V : World) : Prop :=
  (a14 = false → Pq σ w lb bb N q p y l ad cap p' g' l' ad' cap' V ∧ (a6 = true → Bk V g.1 g.2 l ∧ w.heap.size ≤ g.2 ∧ y ≠ g.2 ∧ (∀ a, ad = some a → a.block ≠ g.2) ∧ NK (oneMore σ g.2) w.heap.size bb V)) ∧ (a14 = true → PS w lb bb N V)
theorem i64_id (x : Int) (h1 : -9223372036854775808 ≤ x) (h2 : x ≤ 9223372036854775807) : IntKind.i64.wrap x = x := by
  rw [IntKind.wrap_i64]
  omega
set_option maxHeartbeats 1000000 in
set_option maxRecDepth 100000 in
theorem info_op : (Tryz.prog.info? 25).map (·.size) = some 4 := by kernel_rfl
theorem load_opb {V : World} {b n c : Nat} {k who x : Int} {a : Option Addr} (h : OpB V b k who x (.slice a n c)) : (Instr.loadAt 25 (.pointer (some ⟨b, 0, none⟩))).run Tryz.prog V = .ok (.agg #[.int .i64 k, .int .i64 who, .int .i64 x, .slice a n c]) V := load_O h.c0 h.c1 h.c2 h.c3
theorem bld_bo (p bb N cap : Nat) (ad : Option Addr) (W : World) : (Instr.build 49 #[(0, .pointer (some ⟨p, 0, none⟩)), (1, .agg #[.slice ad N cap]), (2, .pointer (some ⟨bb, 0, none⟩))]).run Tryz.prog W = .ok (.agg (boC p bb N cap ad).toArray) W := by
  unfold boC
  go_simp
theorem neq_bool (x y : Operand) (w : World) (b : Bool) : binRun Tryz.prog .neq 4 x y (.bool b) (.bool b) w = .ok (.bool false) w := by cases b <;> kernel_rfl
theorem step_build3 {P : Program} {md : Region.Mode} {ops : Array Oper} {Q : Exit → Act → World → Prop} {X0 : Array Value} {val : Nat → Value} {J : World → Prop} {i : Nat} {o : Oper} (hi : ops[i]? = some o) (hg : GOk md ops X0 val i o) (t : TypeId) (a b c : Nat) (x y z : Operand) (p q r : Value) (ho : o.op = .build t #[(a, x), (b, y), (c, z)]) (hx : rdo md ops X0 val i o x = some p) (hy : rdo md ops X0 val i o y = some q) (hz : rdo md ops X0 val i o z = some r)
    (hr : ∀ w, J w → (Instr.build t #[(a, p), (b, q), (c, r)]).run P w = .ok (val i) w) : StepAt P md ops Q X0 val J J i o :=
  step_of hi hg fun a w hJ hS => by
    unfold Oper.wp execOp
    simp only [ho, hS.eval hx, hS.eval hy, hS.eval hz, List.map_toArray, List.map_cons, List.map_nil, Sem.run_bind, hr w hJ, Result.andThen_ok, Sem.run_pure, Oper.upon_value]
    exact ⟨trivial, hJ⟩
set_option maxHeartbeats 16000000 in
set_option maxRecDepth 100000 in
theorem play_A (n self tag : Int) (hgood : (¬ (n < 1 ∨ 100 < n) ∧ ¬ (self < 0 ∨ n ≤ self) ∧ ¬ (tag < 0 ∨ 1048576 < tag))) (w : World) (ad1 : Option Addr) (cap1 : Nat) (l1 : List Op4) (w1 : RdO w w.heap.size ad1 l1) (hm120 : ¬ l1.length > 120) : Calls Tryz.prog 6 #[.int .i64 n, .int .i64 self, .int .i64 tag, .slice ad1 l1.length cap1, .bool true] w fun e w' => e = .returned (.bool true) ∧ Below w.heap.size w w' := by
  have hal := balive_any w
  have hmx : Tryz.prog.follows .mixedOrders = true := by kernel_rfl
  obtain ⟨N, l, hN0, hN1, hlN, hbo, hN, hR⟩ := new_good n self tag hgood
  have hmi : ¬ (l1.length : Int) > 120 := by omega
  clear hgood
  go_enter Tryz.func6, Tryz.ntmps6
  go_wp2_with (go_at_call 7; (with_reducible refine hal.mono ?_); rintro e u1 ⟨rfl, hb1⟩; obtain ⟨u2, hu2⟩ : ∃ u2, u1.alloc (.cells #[.slice none 0 0, .slice none 0 0, .slice none 0 0, .slice none 0 0, .slice none 0 0, .slice none 0 0, .slice none 0 0, .slice none 0 0, .slice none 0 0, .slice none 0 0, .slice none 0 0, .slice none 0 0, .slice none 0 0, .slice none 0 0, .slice none 0 0, .slice none 0 0, .slice none 0 0, .slice none 0 0, .slice none 0 0, .slice none 0 0, .slice none 0 0, .slice none 0 0, .slice none 0 0, .slice none 0 0] 44) = u2 := ⟨_, rfl⟩; have hb2 : Below u1.heap.size u1 u2 := (by rw [← hu2]; exact al1 _ _); have hk2 : KB u2 u1.heap.size (.slice none 0 0) (.slice none 0 0) := (by rw [← hu2]; exact new_at rfl); obtain ⟨u3, hu3⟩ : ∃ u3, u2.alloc (.cells #[.pointer none, .slice none 0 0, .pointer none, .pointer none, .slice none 0 0, .pointer none] 50) = u3 := ⟨_, rfl⟩; have hb3 : Below u2.heap.size u2 u3 := (by rw [← hu3]; exact al1 _ _); have hl3 : u3.heap[u2.heap.size]? = some (.cells [.pointer none, .slice none 0 0, .pointer none, .pointer none, .slice none 0 0, .pointer none].toArray 50 (0, 0)) := (by rw [← hu3]; exact new_at rfl); have hk3 : KB u3 u1.heap.size (.slice none 0 0) (.slice none 0 0) := (hb3.block _ (lt_at hk2)).trans hk2; have hB3 : Below w.heap.size w u3 := bel2 (bel2 hb1 hb2) hb3; have s1 := hb1.size; have s2 := hb2.size; have s3 := lt_at hl3; have s4 := lt_at hk2)
  go_loopw [13] (fun i wz => ∃ (k : Nat) (z : Int), i = .int .i64 z ∧ z = (k : Int) ∧ k ≤ 2 ∧ Lp w u2.heap.size u1.heap.size N l k wz) (fun i _ => 2 - vnatR i)
  case atStart => exact ⟨0, 0, rfl, rfl, by omega, hB3, hk3, hl3⟩
  case round =>
    obtain ⟨k, z, rfl, hz, hk, hLk⟩ := hrel
    have hk' : k = 0 ∨ k = 1 ∨ k = 2 := by omega
    rcases hk' with rfl | rfl | rfl
    · obtain rfl : z = 0 := hz
      obtain ⟨hBk, hkk, hlk⟩ := hLk
      have hNw := hN wr
      go_wp2_with (first | (go_at_call 8; (with_reducible refine hNw.mono ?_); rintro e u4 ⟨p2, g2, rfl, hp4, hg4, hk4, hb4⟩; have hRw := hR u4) | (go_at_call 9; (with_reducible refine hRw.mono ?_); rintro e u5 ⟨a2, c2, rfl, hr5, hc5, ht5, hb5⟩; obtain ⟨u6, hu6⟩ : ∃ u6, u5.alloc (.cells #[.slice none 0 0] 47) = u6 := ⟨_, rfl⟩; have hg6 : u6.heap[u5.heap.size]? = some (.cells #[.slice none 0 0] 47 (0, 0)) := (by rw [← hu6]; exact new_at rfl)) | (refine wpList_store_row rfl 47 (.tmp 16) (.tmp 45) rfl u5.heap.size #[.slice a2 N c2] rfl rfl 47 _ hg6 info_rb rfl (by simp [Value.oneCell']) ?_; have hbx := boxed u5 (.slice a2 N c2); rw [hu6] at hbx; obtain ⟨u7, hu7⟩ : ∃ u7, u6.setRow u5.heap.size #[.slice a2 N c2] = u7 := ⟨_, rfl⟩; rw [hu7] at hbx; rw [hu7]; have r7 := hbx.1; have hb7 : Below wr.heap.size wr u7 := bel2 (bel2 hb4 hb5) hbx.2; have hl7 := (hb7.block _ (lt_at hlk)).trans hlk; have h5o : One w.heap.size N l p2 g2 a2 c2 u5 := ⟨hk4.carry hb5, hr5, fun a e => (ht5 a e).2, hc5, Nat.le_trans hBk.size hg4, fun a e => (by have q1 := (ht5 a e).1; have q2 := hk4.glt; omega)⟩) | (refine wpList_load_row rfl 47 (.tmp 16) rfl u5.heap.size rfl 47 _ (0, 0) _ r7 und_rb rfl info_rb ?_) | (refine wpList_store_in rfl 49 (.tmp 62) (.tmp 61) rfl u2.heap.size 0 50 [.pointer none, .slice none 0 0, .pointer none, .pointer none, .slice none 0 0, .pointer none] [.pointer (some ⟨p2, 0, none⟩), .slice a2 N c2, .pointer (some ⟨u1.heap.size, 0, none⟩)] rfl rfl hl7 info_bo (show (0 + 3 : Nat) ≤ 6 from by decide) (by simp [Value.oneCell']) ?_; obtain ⟨v7, hv7⟩ : ∃ v7, u7.setRow u2.heap.size (splice [.pointer none, .slice none 0 0, .pointer none, .pointer none, .slice none 0 0, .pointer none] 0 [.pointer (some ⟨p2, 0, none⟩), .slice a2 N c2, .pointer (some ⟨u1.heap.size, 0, none⟩)]).toArray = v7 := ⟨_, rfl⟩; have HL7 : Hid (v7.heap[u2.heap.size]? = some (.cells [.pointer (some ⟨p2, 0, none⟩), .slice a2 N c2, .pointer (some ⟨u1.heap.size, 0, none⟩), .pointer none, .slice none 0 0, .pointer none].toArray 50 (0, 0))) := (by rw [← hv7]; exact setRow_heap _ _ _ _ _ _ hl7); have t7 : Tp u2.heap.size u7 v7 := (by rw [← hv7]; exact Tp.row _ _ _); have HB7 : Hid (Below w.heap.size w v7) := hBk.trans ((hb7.mono hBk.size).trans (t7.below (by omega) (Nat.le_trans hBk.size hb7.size))); have HK7 : Hid (KB v7 u1.heap.size (.slice none 0 0) (.slice none 0 0)) := tp_other t7 hl7 _ _ _ _ ((hb7.block _ (lt_at hkk)).trans hkk) (by decide); have HO7 : Hid (One w.heap.size N l p2 g2 a2 c2 v7) := (h5o.carry hbx.2).move (tp_other t7 hl7); rw [hv7]))
      go_roundw
      case rel => exact ⟨1, 1, by simp, rfl, by omega, ⟨_, _, _, _, HB7.out, HK7.out, HL7.out, HO7.out⟩⟩
      case measure => simp [vnatR]
    · obtain rfl : z = 1 := hz
      obtain ⟨p1, g1, a1, c1, hBk, hkk, hlk, h1k⟩ := hLk
      have hNw := hN wr
      go_wp2_with (first | (go_at_call 8; (with_reducible refine hNw.mono ?_); rintro e u4 ⟨p2, g2, rfl, hp4, hg4, hk4, hb4⟩; have hRw := hR u4) | (go_at_call 9; (with_reducible refine hRw.mono ?_); rintro e u5 ⟨a2, c2, rfl, hr5, hc5, ht5, hb5⟩; obtain ⟨u6, hu6⟩ : ∃ u6, u5.alloc (.cells #[.slice none 0 0] 47) = u6 := ⟨_, rfl⟩; have hg6 : u6.heap[u5.heap.size]? = some (.cells #[.slice none 0 0] 47 (0, 0)) := (by rw [← hu6]; exact new_at rfl)) | (refine wpList_store_row rfl 47 (.tmp 16) (.tmp 45) rfl u5.heap.size #[.slice a2 N c2] rfl rfl 47 _ hg6 info_rb rfl (by simp [Value.oneCell']) ?_; have hbx := boxed u5 (.slice a2 N c2); rw [hu6] at hbx; obtain ⟨u7, hu7⟩ : ∃ u7, u6.setRow u5.heap.size #[.slice a2 N c2] = u7 := ⟨_, rfl⟩; rw [hu7] at hbx; rw [hu7]; have r7 := hbx.1; have hb7 : Below wr.heap.size wr u7 := bel2 (bel2 hb4 hb5) hbx.2; have hl7 := (hb7.block _ (lt_at hlk)).trans hlk; have h5o : One w.heap.size N l p2 g2 a2 c2 u5 := ⟨hk4.carry hb5, hr5, fun a e => (ht5 a e).2, hc5, Nat.le_trans hBk.size hg4, fun a e => (by have q1 := (ht5 a e).1; have q2 := hk4.glt; omega)⟩) | (refine wpList_load_row rfl 47 (.tmp 16) rfl u5.heap.size rfl 47 _ (0, 0) _ r7 und_rb rfl info_rb ?_) | (refine wpList_store_in rfl 49 (.tmp 62) (.tmp 61) rfl u2.heap.size 3 50 [.pointer (some ⟨p1, 0, none⟩), .slice a1 N c1, .pointer (some ⟨u1.heap.size, 0, none⟩), .pointer none, .slice none 0 0, .pointer none] [.pointer (some ⟨p2, 0, none⟩), .slice a2 N c2, .pointer (some ⟨u1.heap.size, 0, none⟩)] rfl rfl hl7 info_bo (show (3 + 3 : Nat) ≤ 6 from by decide) (by simp [Value.oneCell']) ?_; obtain ⟨v7, hv7⟩ : ∃ v7, u7.setRow u2.heap.size (splice [.pointer (some ⟨p1, 0, none⟩), .slice a1 N c1, .pointer (some ⟨u1.heap.size, 0, none⟩), .pointer none, .slice none 0 0, .pointer none] 3 [.pointer (some ⟨p2, 0, none⟩), .slice a2 N c2, .pointer (some ⟨u1.heap.size, 0, none⟩)]).toArray = v7 := ⟨_, rfl⟩; have HL7 : Hid (v7.heap[u2.heap.size]? = some (.cells [.pointer (some ⟨p1, 0, none⟩), .slice a1 N c1, .pointer (some ⟨u1.heap.size, 0, none⟩), .pointer (some ⟨p2, 0, none⟩), .slice a2 N c2, .pointer (some ⟨u1.heap.size, 0, none⟩)].toArray 50 (0, 0))) := (by rw [← hv7]; exact setRow_heap _ _ _ _ _ _ hl7); have t7 : Tp u2.heap.size u7 v7 := (by rw [← hv7]; exact Tp.row _ _ _); have HB7 : Hid (Below w.heap.size w v7) := hBk.trans ((hb7.mono hBk.size).trans (t7.below (by omega) (Nat.le_trans hBk.size hb7.size))); have HK7 : Hid (KB v7 u1.heap.size (.slice none 0 0) (.slice none 0 0)) := tp_other t7 hl7 _ _ _ _ ((hb7.block _ (lt_at hkk)).trans hkk) (by decide); have HO7 : Hid (One w.heap.size N l p2 g2 a2 c2 v7) := (h5o.carry hbx.2).move (tp_other t7 hl7); have HO1 : Hid (One w.heap.size N l p1 g1 a1 c1 v7) := (h1k.carry hb7).move (tp_other t7 hl7); rw [hv7]))
      go_roundw
      case rel => exact ⟨2, 2, by simp, rfl, by omega, Lp.two HB7.out HK7.out HL7.out HO1.out HO7.out (by omega) (by omega) hlN hbo (Nat.ne_of_lt (Nat.lt_of_lt_of_le h1k.bk.glt hg4)) (fun a e => by obtain ⟨c, hc⟩ := h1k.ty a e; have := lt_at hc; omega) (fun a e => by have q1 := (ht5 a e).1; have q2 := h1k.bk.glt; have q3 := hb4.size; omega)⟩
      case measure => simp [vnatR]
    · obtain rfl : z = 2 := hz
      have hPS : PS w u2.heap.size u1.heap.size N wr := hLk
      obtain ⟨σP, pP, gP, lP, aP, cP, pQ, gQ, lQ, aQ, cQ, hPQ⟩ := hLk
      have q0 : wr.cell? ⟨u2.heap.size, 0, none⟩ = some (.pointer (some ⟨pP, 0, none⟩)) := hPQ.a.c0
      clear hN hR hal hl3 hk3 hk2 hu2 hu3
      go_wp2
      clear hPQ q0
      go_loopw [18] (fun i wz => ∃ m : Nat, i = .int .i64 (m : Int) ∧ m ≤ l1.length ∧ PS w u2.heap.size u1.heap.size N wz) (fun i _ => l1.length - vnatR i)
      case atStart => exact ⟨0, rfl, Nat.zero_le _, hPS⟩
      case round =>
        obtain ⟨m, rfl, hm, hPm⟩ := hrel
        clear hPS
        by_cases hmn : m < l1.length
        · have hmi : (m : Int) < (l1.length : Int) := by omega
          obtain ⟨o, ho⟩ : ∃ o, l1[m]? = some o := ⟨_, List.getElem?_eq_getElem hmn⟩
          obtain ⟨bs, offs, a, cc, rfl, hbs, c0, c1, c2, c3, hrx, hcx⟩ := w1 m o ho
          obtain ⟨k, who, x, dt⟩ := o
          dsimp only at c0 c1 c2 c3 hrx hcx
          obtain ⟨q, hq2, hqe⟩ : ∃ q : Nat, q < 2 ∧ who % 2 = (q : Int) := ⟨(who % 2).toNat, by omega, by omega⟩
          have hand : bits .and .i64 who 1 = (q : Int) := (i64_and1 who).trans hqe
          obtain ⟨σ, p, y, lA, ad, cap, p', g', lB, ad', cap', hP⟩ := hPm.at hq2
          have hBm := hP.low
          have e0 := (hBm.cell (p := ⟨bs, offs + m * 4, none⟩) hbs).trans c0
          have e1 := (hBm.cell (p := ⟨bs, offs + m * 4 + 1, none⟩) hbs).trans c1
          have e2 := (hBm.cell (p := ⟨bs, offs + m * 4 + 2, none⟩) hbs).trans c2
          have e3 := (hBm.cell (p := ⟨bs, offs + m * 4 + 3, none⟩) hbs).trans c3
          obtain ⟨x1, hx1⟩ : ∃ x1, wr.alloc (.cells #[.int .i64 0, .int .i64 0, .int .i64 0, .slice none 0 0] 25) = x1 := ⟨_, rfl⟩
          have hbx1 : Below wr.heap.size wr x1 := by rw [← hx1]; exact al1 _ _
          have hox1 : OpB x1 wr.heap.size 0 0 0 (.slice none 0 0) := by rw [← hx1]; exact new_at rfl
          have hix := idx_O bs offs l1.length cap1 m hmn
          clear c0 c1 c2 c3 ho hqe
          obtain ⟨nd, hn⟩ : ∃ nd, dt.length = nd := ⟨_, rfl⟩
          rw [hn] at e3
          have HN : Hid (dt.length = nd) := hn
          clear hn
          by_cases hd3 : nd ≤ 300
          case neg =>
            have hdi : (nd : Int) > 300 := by omega
            clear hPm
            go_wp2_with (refine wpList_store_row rfl 25 (.tmp 19) (.tmp 97) rfl wr.heap.size #[.int .i64 k, .int .i64 who, .int .i64 x, .slice a nd cc] rfl rfl 25 _ hox1 info_op rfl (by simp [Value.oneCell']) ?_; obtain ⟨x2, hx2⟩ : ∃ x2, x1.setRow wr.heap.size #[.int .i64 k, .int .i64 who, .int .i64 x, .slice a nd cc] = x2 := ⟨_, rfl⟩; have hox2 : OpB x2 wr.heap.size k who x (.slice a nd cc) := (by rw [← hx2]; exact setRow_heap _ _ _ _ _ _ hox1); have hbx2 : Below wr.heap.size wr x2 := (by rw [← hx2]; exact below_setRow hbx1 (Nat.le_refl _)); rw [hx2]; have f0 := hox2.c0; have f1 := hox2.c1; have f3 := hox2.c3)
            go_ret
            exact ⟨rfl, hBm.trans (hbx2.mono hBm.size)⟩
          have hdi : ¬ (nd : Int) > 300 := by omega
          by_cases hk7 : k = 7
          · subst hk7
            clear hPm
            go_wp2_with (refine wpList_store_row rfl 25 (.tmp 19) (.tmp 97) rfl wr.heap.size #[.int .i64 7, .int .i64 who, .int .i64 x, .slice a nd cc] rfl rfl 25 _ hox1 info_op rfl (by simp [Value.oneCell']) ?_; obtain ⟨x2, hx2⟩ : ∃ x2, x1.setRow wr.heap.size #[.int .i64 7, .int .i64 who, .int .i64 x, .slice a nd cc] = x2 := ⟨_, rfl⟩; have hox2 : OpB x2 wr.heap.size 7 who x (.slice a nd cc) := (by rw [← hx2]; exact setRow_heap _ _ _ _ _ _ hox1); have hbx2 : Below wr.heap.size wr x2 := (by rw [← hx2]; exact below_setRow hbx1 (Nat.le_refl _)); rw [hx2]; have f0 := hox2.c0; have f1 := hox2.c1; have f3 := hox2.c3)
            have hP2 := hP.carry hbx2
            clear hox2 f0 f1 f3 hx2
            refine wp_region_any hmx ?_
            refine wpAny_tabG (G := (Nat × Nat)) (fun g i__ => ([(.int .i64 (q : Int)), (.int .i64 ((1 - q : Nat) : Int)), (.int .i64 (q : Int)), (.pointer (some ⟨u2.heap.size, 3 * q, none⟩)), (.pointer (some ⟨u2.heap.size, 3 * q, none⟩)), (.pointer (some ⟨p, 0, none⟩)), (.pointer (some ⟨g.1, 0, none⟩)), (.int .i64 (q : Int)), (.pointer (some ⟨u2.heap.size, 3 * q, none⟩)), (.pointer (some ⟨u2.heap.size, 3 * q + 1, none⟩)), (.agg #[.slice ad N cap]), (.pointer (some ⟨u1.heap.size, 0, none⟩)), (.agg (boC g.1 u1.heap.size N cap ad).toArray), (.pointer (some ⟨u2.heap.size, 3 * (1 - q), none⟩)), undef] : List Value).getD i__ undef) (fun g f V => JTw σ w u2.heap.size u1.heap.size N q p y lA ad cap p' g' lB ad' cap' g (f 6) (f 14) V) (by kernel_rfl) ((0, 0)) ⟨fun _ => ⟨hP2.carry (Below.refl _ _).drew, (fun e => absurd e (by decide))⟩, (fun e => absurd e (by decide))⟩ ?step6 ?fin6
            case step6 =>
              intro i o ho
              have hi : i < 15 := getElem?_lt ho
              match i, hi, ho with
              | 0, _, ho =>
                cases ho
                refine stepG_of (fun g d hdep => ?_)
                exact step_move rfl trivial _ rfl (by kernel_rfl)
              | 1, _, ho =>
                cases ho
                refine stepG_of (fun g d hdep => ?_)
                exact step_binOp rfl trivial _ _ _ _ _ _ _ rfl rfl rfl (fun v hw => bin_sub64 _ _ _ ((i64_id _ (by omega) (by omega)).trans (by omega)))
              | 2, _, ho =>
                cases ho
                refine stepG_of (fun g d hdep => ?_)
                exact step_move rfl trivial _ rfl (by kernel_rfl)
              | 3, _, ho =>
                cases ho
                refine stepG_of (fun g d hdep => ?_)
                exact step_indexAddr rfl trivial _ _ _ _ _ rfl rfl rfl (fun v hw => idx_b2 _ q hq2 v)
              | 4, _, ho =>
                cases ho
                refine stepG_of (fun g d hdep => ?_)
                exact step_fieldAddr rfl trivial _ _ _ _ rfl rfl (fun v hw => field_bo0 v _ _)
              | 5, _, ho =>
                cases ho
                exact stepG_ofC (fun g f hun hdep hcl => step_load rfl trivial _ _ _ rfl rfl (fun v hw => load_bop (hw.1 (by cases h : f 14 with | false => rfl | true => exact absurd (hcl 14 _ rfl h 5 (by kernel_rfl)) (by rw [hun]; simp))).1.a.c0))
              | 6, _, ho =>
                cases ho
                exact stepG_call rfl (fun g => trivial) 11 _ _ (fun _ => [.pointer (some ⟨p, 0, none⟩)]) rfl (fun g => rfl) (enters_of Tryz.func11 (by kernel_rfl) rfl) (fun g f V hJ hun hdep hcl => by have h14 : f 14 = false := (by cases h : f 14 with | false => rfl | true => exact absurd (hcl 14 _ rfl h 6 (by kernel_rfl)) (by rw [hun]; simp)); obtain ⟨hq, _⟩ := hJ.1 h14; refine (twin_any hq.a.bk (by have := hq.la.1; omega) (by have := hq.la.1; omega)).mono ?_; rintro e w' ⟨p2, g2, rfl, hp2, hg2, hk, hb⟩; refine ⟨(p2, g2), rfl, (fun j hj => match j, hj with | 6, hj => (by rw [hj] at hun; cases hun) | 12, hj => absurd ((hcl 12 _ rfl hj 6 (by kernel_rfl))) (by rw [hun]; simp) | 0, _ => rfl | 1, _ => rfl | 2, _ => rfl | 3, _ => rfl | 4, _ => rfl | 5, _ => rfl | 7, _ => rfl | 8, _ => rfl | 9, _ => rfl | 10, _ => rfl | 11, _ => rfl | 13, _ => rfl | 14, _ => rfl | _ + 15, _ => rfl), ?_⟩; show JTw σ w u2.heap.size u1.heap.size N q p y lA ad cap p' g' lB ad' cap' _ true (f 14) w'; rw [h14]; exact ⟨fun _ => ⟨hq.carry hb, fun _ => ⟨hk, Nat.le_trans hq.low.size hg2, Nat.ne_of_lt (Nat.lt_of_lt_of_le hq.a.bk.glt hg2), (fun a e => by obtain ⟨c, hc⟩ := hq.a.ty a e; have := lt_at hc; show a.block ≠ g2; omega), hq.a.nk.more w' (fun _ _ _ q => q.carry hb) hb.block hb.size hg2 hk.glt⟩⟩, (fun e => absurd e (by decide))⟩)
              | 7, _, ho =>
                cases ho
                refine stepG_of (fun g d hdep => ?_)
                exact step_move rfl trivial _ rfl (by kernel_rfl)
              | 8, _, ho =>
                cases ho
                refine stepG_of (fun g d hdep => ?_)
                exact step_indexAddr rfl trivial _ _ _ _ _ rfl rfl rfl (fun v hw => idx_b2 _ q hq2 v)
              | 9, _, ho =>
                cases ho
                refine stepG_of (fun g d hdep => ?_)
                exact step_fieldAddr rfl trivial _ _ _ _ rfl rfl (fun v hw => field_bo1 v _ _)
              | 10, _, ho =>
                cases ho
                exact stepG_ofC (fun g f hun hdep hcl => step_load rfl trivial _ _ _ rfl rfl (fun v hw => load_bor (hw.1 (by cases h : f 14 with | false => rfl | true => exact absurd (hcl 14 _ rfl h 10 (by kernel_rfl)) (by rw [hun]; simp))).1.a.c1))
              | 11, _, ho =>
                cases ho
                refine stepG_of (fun g d hdep => ?_)
                exact step_move rfl trivial _ rfl (by kernel_rfl)
              | 12, _, ho =>
                cases ho
                exact stepG_of (fun g f hdep => step_build3 rfl trivial _ _ _ _ _ _ _ (.pointer (some ⟨g.1, 0, none⟩)) (.agg #[.slice ad N cap]) (.pointer (some ⟨u1.heap.size, 0, none⟩)) rfl rfl rfl rfl (fun v hw => bld_bo _ _ _ _ _ v))
              | 13, _, ho =>
                cases ho
                refine stepG_of (fun g d hdep => ?_)
                exact step_indexAddr rfl trivial _ _ _ _ _ rfl rfl rfl (fun v hw => idx_b2 _ (1 - q) (by omega) v)
              | 14, _, ho =>
                cases ho
                exact stepG_ofC (fun g f hun hdep hcl => step_store rfl trivial rfl _ _ _ _ _ rfl rfl rfl (fun V hw => by have h6 : f 6 = true := hdep 6 (by kernel_rfl); have h14 : f 14 = false := hun; obtain ⟨hq, h6'⟩ := hw.1 h14; obtain ⟨k1, k2, k3, k4, k5⟩ := h6' h6; obtain ⟨V', hr, hA⟩ := hq.twin hq2 k1 k2 k3 k4 k5; refine ⟨V', hr, ?_⟩; show JTw σ w u2.heap.size u1.heap.size N q p y lA ad cap p' g' lB ad' cap' _ (f 6) true V'; exact ⟨(fun e => absurd e (by decide)), fun _ => hA⟩))
            intro g d W hall hW
            first | refine hK _ _ ?_ | refine (‹∀ (a : Act) (w : World), Code.wp Tryz.prog _ _ a w → _›) _ _ ?_ | skip
            simp only [finL, List.getD_cons_zero, List.getD_cons_succ, Nat.zero_add, Nat.reduceAdd, List.setIfInBounds_toArray, List.set_cons_zero, List.set_cons_succ]
            have hfin := hW.2 (hall 14 (by decide))
            clear hW hall
            obtain ⟨σ2, pA, gA, eA, aA, cA, pB, gB, eB, aB, cB2, hQ⟩ := hfin
            have hlo := looks_any hQ.a hQ.la.1 hN0 hN1 hQ.oo.1
            rw [show 3 * 0 = 0 from rfl] at hlo
            have HQ : Hid (Pq σ2 w u2.heap.size u1.heap.size N 0 pA gA eA aA cA pB gB eB aB cB2 W) := hQ
            clear hQ
            go_wp2_with (first | (go_at_call 15; have mm := stA; (with_reducible refine hlo2.mono ?_); rintro e y2 ⟨rfl, hn2, hk2⟩; have HQ3 : Hid (Pq σ2 w u2.heap.size u1.heap.size N 0 pA gA eA aA cA pB gB eB aB cB2 y2) := HQ2.out.kp hk2 hn2) | (go_at_call 15; (with_reducible refine hlo.mono ?_); rintro e y1 ⟨rfl, hn1, hk1⟩; have HQ2 : Hid (Pq σ2 w u2.heap.size u1.heap.size N 0 pA gA eA aA cA pB gB eB aB cB2 y1) := HQ.out.kp hk1 hn1; have hlo2 := looks_any HQ2.out.b HQ2.out.la.2 hN0 hN1 HQ2.out.oo.2; rw [show 3 * (1 - 0) = 3 from rfl] at hlo2; have stA : True := trivial))
            go_roundw
            case rel => exact ⟨m + 1, by simp, by omega, HQ3.out.ps (by decide)⟩
            case measure => simp [vnatR]; omega
          by_cases hk8 : k = 8
          · subst hk8
            obtain ⟨σ0, p0, y0, l0, a0, c0, p9, g9, l9, a9, c9, hP0⟩ := hPm
            go_wp2_with (refine wpList_store_row rfl 25 (.tmp 19) (.tmp 97) rfl wr.heap.size #[.int .i64 8, .int .i64 who, .int .i64 x, .slice a nd cc] rfl rfl 25 _ hox1 info_op rfl (by simp [Value.oneCell']) ?_; obtain ⟨x2, hx2⟩ : ∃ x2, x1.setRow wr.heap.size #[.int .i64 8, .int .i64 who, .int .i64 x, .slice a nd cc] = x2 := ⟨_, rfl⟩; have hox2 : OpB x2 wr.heap.size 8 who x (.slice a nd cc) := (by rw [← hx2]; exact setRow_heap _ _ _ _ _ _ hox1); have hbx2 : Below wr.heap.size wr x2 := (by rw [← hx2]; exact below_setRow hbx1 (Nat.le_refl _)); rw [hx2]; have f0 := hox2.c0; have f1 := hox2.c1; have f3 := hox2.c3)
            have hP2 := hP0.carry hbx2
            have HSM : Hid (∀ V, Pq σ0 w u2.heap.size u1.heap.size N 0 p0 y0 l0 a0 c0 p9 g9 l9 a9 c9 V → Calls Tryz.prog 12 #[.pointer (some ⟨p0, 0, none⟩), .pointer (some ⟨p9, 0, none⟩)] V fun e w' => e = .returned (.bool (decide (l0 = l9))) ∧ Below V.heap.size V w') := fun V hV => bsame_any hV.a.bk hV.b.bk (by have := hV.la.1; omega)
            have HSN : Hid (∀ V, Pq σ0 w u2.heap.size u1.heap.size N 0 p0 y0 l0 a0 c0 p9 g9 l9 a9 c9 V → Calls Tryz.prog 13 #[.slice a0 N c0, .slice a9 N c9] V fun e w' => e = .returned (.bool (decide (l0 = l9))) ∧ Below V.heap.size V w') := fun V hV => by
              have := samed_any a0 a9 c0 c9 l0 l9 V hV.a.rd hV.b.rd (by have := hV.la.1; omega)
              rw [hV.la.1, hV.la.2] at this
              exact this
            obtain ⟨B, hB⟩ : ∃ B, decide (l0 = l9) = B := ⟨_, rfl⟩
            rw [hB] at HSM HSN
            clear hox2 f0 f1 f3 hx2
            refine wp_region_any hmx ?_
            refine wpAny_pure (fun i__ => ([(.pointer (some ⟨u2.heap.size, 0, none⟩)), (.pointer (some ⟨u2.heap.size, 0, none⟩)), (.pointer (some ⟨p0, 0, none⟩)), (.pointer (some ⟨u2.heap.size, 3, none⟩)), (.pointer (some ⟨u2.heap.size, 3, none⟩)), (.pointer (some ⟨p9, 0, none⟩)), (.bool B), (.pointer (some ⟨u2.heap.size, 0, none⟩)), (.pointer (some ⟨u2.heap.size, 1, none⟩)), (.pointer (some ⟨u2.heap.size, 1, none⟩)), (.slice a0 N c0), (.pointer (some ⟨u2.heap.size, 3, none⟩)), (.pointer (some ⟨u2.heap.size, 4, none⟩)), (.pointer (some ⟨u2.heap.size, 4, none⟩)), (.slice a9 N c9), (.bool B), (.bool false)] : List Value).getD i__ undef) (fun V => Pq σ0 w u2.heap.size u1.heap.size N 0 p0 y0 l0 a0 c0 p9 g9 l9 a9 c9 V) (by kernel_rfl) (hP2.carry (Below.refl _ _).drew) ?_ ?_
            · refine (stepsFrom_cons ?_ (stepsFrom_cons ?_ (stepsFrom_cons ?_ (stepsFrom_cons ?_ (stepsFrom_cons ?_ (stepsFrom_cons ?_ (stepsFrom_cons ?_ (stepsFrom_cons ?_ (stepsFrom_cons ?_ (stepsFrom_cons ?_ (stepsFrom_cons ?_ (stepsFrom_cons ?_ (stepsFrom_cons ?_ (stepsFrom_cons ?_ (stepsFrom_cons ?_ (stepsFrom_cons ?_ (stepsFrom_cons ?_ trivial)))))))))))))))))
              · exact step_indexAddr rfl trivial _ _ _ _ _ rfl rfl rfl (fun v hw => idx_b2 _ 0 (by decide) v)
              · exact step_fieldAddr rfl trivial _ _ _ _ rfl rfl (fun v hw => field_bo0 v _ _)
              · exact step_load rfl trivial _ _ _ rfl rfl (fun v hw => load_bop hw.a.c0)
              · exact step_indexAddr rfl trivial _ _ _ _ _ rfl rfl rfl (fun v hw => idx_b2 _ 1 (by decide) v)
              · exact step_fieldAddr rfl trivial _ _ _ _ rfl rfl (fun v hw => field_bo0 v _ _)
              · exact step_load rfl trivial _ _ _ rfl rfl (fun v hw => load_bop hw.b.c0)
              · exact step_call rfl trivial 12 _ _ [(.pointer (some ⟨p0, 0, none⟩)), (.pointer (some ⟨p9, 0, none⟩))] rfl (by kernel_rfl) (enters_of Tryz.func12 (by kernel_rfl) rfl) (fun v hw => (HSM.out v hw).mono (by rintro e w' ⟨rfl, hb⟩; exact ⟨rfl, hw.carry hb⟩))
              · exact step_indexAddr rfl trivial _ _ _ _ _ rfl rfl rfl (fun v hw => idx_b2 _ 0 (by decide) v)
              · exact step_fieldAddr rfl trivial _ _ _ _ rfl rfl (fun v hw => field_bo1 v _ _)
              · exact step_fieldAddr rfl trivial _ _ _ _ rfl rfl (fun v hw => field_rbo v _ _)
              · exact step_load rfl trivial _ _ _ rfl rfl (fun v hw => load_bol hw.a.c1)
              · exact step_indexAddr rfl trivial _ _ _ _ _ rfl rfl rfl (fun v hw => idx_b2 _ 1 (by decide) v)
              · exact step_fieldAddr rfl trivial _ _ _ _ rfl rfl (fun v hw => field_bo1 v _ _)
              · exact step_fieldAddr rfl trivial _ _ _ _ rfl rfl (fun v hw => field_rbo v _ _)
              · exact step_load rfl trivial _ _ _ rfl rfl (fun v hw => load_bol hw.b.c1)
              · exact step_call rfl trivial 13 _ _ [(.slice a0 N c0), (.slice a9 N c9)] rfl (by kernel_rfl) (enters_of Tryz.func13 (by kernel_rfl) rfl) (fun v hw => (HSN.out v hw).mono (by rintro e w' ⟨rfl, hb⟩; exact ⟨rfl, hw.carry hb⟩))
              · exact step_binOp rfl trivial _ _ _ _ _ _ _ rfl rfl rfl (fun v hw => neq_bool _ _ _ _)
            intro W hW
            first | refine hK _ _ ?_ | refine (‹∀ (a : Act) (w : World), Code.wp Tryz.prog _ _ a w → _›) _ _ ?_
            simp only [finL, List.getD_cons_zero, List.getD_cons_succ, Nat.zero_add, Nat.reduceAdd, List.setIfInBounds_toArray, List.set_cons_zero, List.set_cons_succ]
            have hfin := hW.ps (by decide)
            clear hW
            obtain ⟨σ2, pA, gA, eA, aA, cA, pB, gB, eB, aB, cB2, hQ⟩ := hfin
            have hlo := looks_any hQ.a hQ.la.1 hN0 hN1 hQ.oo.1
            rw [show 3 * 0 = 0 from rfl] at hlo
            have HQ : Hid (Pq σ2 w u2.heap.size u1.heap.size N 0 pA gA eA aA cA pB gB eB aB cB2 W) := hQ
            clear hQ
            go_wp2_with (first | (go_at_call 15; have mm := stA; (with_reducible refine hlo2.mono ?_); rintro e y2 ⟨rfl, hn2, hk2⟩; have HQ3 : Hid (Pq σ2 w u2.heap.size u1.heap.size N 0 pA gA eA aA cA pB gB eB aB cB2 y2) := HQ2.out.kp hk2 hn2) | (go_at_call 15; (with_reducible refine hlo.mono ?_); rintro e y1 ⟨rfl, hn1, hk1⟩; have HQ2 : Hid (Pq σ2 w u2.heap.size u1.heap.size N 0 pA gA eA aA cA pB gB eB aB cB2 y1) := HQ.out.kp hk1 hn1; have hlo2 := looks_any HQ2.out.b HQ2.out.la.2 hN0 hN1 HQ2.out.oo.2; rw [show 3 * (1 - 0) = 3 from rfl] at hlo2; have stA : True := trivial))
            go_roundw
            case rel => exact ⟨m + 1, by simp, by omega, HQ3.out.ps (by decide)⟩
            case measure => simp [vnatR]; omega
          · clear hPm
            have hst := fun V (hV : Pq σ w u2.heap.size u1.heap.size N q p y lA ad cap p' g' lB ad' cap' V) => step_any (⟨hV.a, hV.la.1, hN0, hN1, hV.cc.1, fun a e => (hV.aa a e).1, hV.oo.1, hV.gg.1, hV.lb0⟩ : St σ w.heap.size u2.heap.size (3 * q) u1.heap.size N p y lA ad cap V) k who x a cc dt (hrx.carry hV.low) (fun hne b e => by obtain ⟨b', o', e', hb', _⟩ := hrx hne; rw [e] at e'; cases e'; have q1 := hV.gg.1; have q2 := hV.lb0; exact ⟨show b' ≠ y by omega, show b' ≠ u2.heap.size by omega⟩) hcx (by rw [HN.out]; exact hd3)
            rw [HN.out] at hst
            go_wp2_with (refine wpList_store_row rfl 25 (.tmp 19) (.tmp 97) rfl wr.heap.size #[.int .i64 k, .int .i64 who, .int .i64 x, .slice a nd cc] rfl rfl 25 _ hox1 info_op rfl (by simp [Value.oneCell']) ?_; obtain ⟨x2, hx2⟩ : ∃ x2, x1.setRow wr.heap.size #[.int .i64 k, .int .i64 who, .int .i64 x, .slice a nd cc] = x2 := ⟨_, rfl⟩; have hox2 : OpB x2 wr.heap.size k who x (.slice a nd cc) := (by rw [← hx2]; exact setRow_heap _ _ _ _ _ _ hox1); have hbx2 : Below wr.heap.size wr x2 := (by rw [← hx2]; exact below_setRow hbx1 (Nat.le_refl _)); rw [hx2]; have f0 := hox2.c0; have f1 := hox2.c1; have f3 := hox2.c3)
            refine wp_region_any hmx ?_
            refine wpAny_last2 3 (fun i__ => ([(.int .i64 (q : Int)), (.pointer (some ⟨u2.heap.size, 3 * q, none⟩)), (.agg #[.int .i64 k, .int .i64 who, .int .i64 x, .slice a nd cc]), (.bool true), (.bool false)] : List Value).getD i__ undef) (fun V => Pq σ w u2.heap.size u1.heap.size N q p y lA ad cap p' g' lB ad' cap' V ∧ OpB V wr.heap.size k who x (.slice a nd cc)) (fun V => PS w u2.heap.size u1.heap.size N V) (fun V => PS w u2.heap.size u1.heap.size N V) rfl (by kernel_rfl) (by kernel_rfl) ⟨(hP.carry hbx2).carry (Below.refl _ _).drew, hox2.carry (Below.refl _ _).drew⟩ ?_ ?_ ?_  ?_
            · refine (stepsFrom_cons ?_ (stepsFrom_cons ?_ (stepsFrom_cons ?_ trivial)))
              · exact step_move rfl trivial _ rfl (by kernel_rfl)
              · exact step_indexAddr rfl trivial _ _ _ _ _ rfl rfl rfl (fun v hw => idx_b2 _ q hq2 v)
              · exact step_load rfl trivial _ _ _ rfl rfl (fun v hw => load_opb hw.2)
            · intro o ho
              cases ho
              exact step_call rfl trivial 14 _ _ [(.pointer (some ⟨u2.heap.size, 3 * q, none⟩)), (.agg #[.int .i64 k, .int .i64 who, .int .i64 x, .slice a nd cc])] rfl (by kernel_rfl) (enters_of Tryz.func14 (by kernel_rfl) rfl) (fun v hw => (hst v hw.1).mono (by rintro e w' ⟨rfl, hs⟩; exact ⟨rfl, hw.1.step hq2 hs⟩))
            · intro o ho
              cases ho
              exact step_unOp rfl trivial _ _ _ _ rfl rfl (fun v hw => un_not true v)
            intro W hW
            first | refine hK _ _ ?_ | refine (‹∀ (a : Act) (w : World), Code.wp Tryz.prog _ _ a w → _›) _ _ ?_
            simp only [finL, List.getD_cons_zero, List.getD_cons_succ, Nat.zero_add, Nat.reduceAdd, List.setIfInBounds_toArray, List.set_cons_zero, List.set_cons_succ]
            obtain ⟨σ2, pA, gA, eA, aA, cA, pB, gB, eB, aB, cB2, hQ⟩ := hW
            have hlo := looks_any hQ.a hQ.la.1 hN0 hN1 hQ.oo.1
            rw [show 3 * 0 = 0 from rfl] at hlo
            have HQ : Hid (Pq σ2 w u2.heap.size u1.heap.size N 0 pA gA eA aA cA pB gB eB aB cB2 W) := hQ
            clear hQ
            go_wp2_with (first | (go_at_call 15; have mm := stA; (with_reducible refine hlo2.mono ?_); rintro e y2 ⟨rfl, hn2, hk2⟩; have HQ3 : Hid (Pq σ2 w u2.heap.size u1.heap.size N 0 pA gA eA aA cA pB gB eB aB cB2 y2) := HQ2.out.kp hk2 hn2) | (go_at_call 15; (with_reducible refine hlo.mono ?_); rintro e y1 ⟨rfl, hn1, hk1⟩; have HQ2 : Hid (Pq σ2 w u2.heap.size u1.heap.size N 0 pA gA eA aA cA pB gB eB aB cB2 y1) := HQ.out.kp hk1 hn1; have hlo2 := looks_any HQ2.out.b HQ2.out.la.2 hN0 hN1 HQ2.out.oo.2; rw [show 3 * (1 - 0) = 3 from rfl] at hlo2; have stA : True := trivial))
            go_roundw
            case rel => exact ⟨m + 1, by simp, by omega, HQ3.out.ps (by decide)⟩
            case measure => simp [vnatR]; omega
        · have hmm : m = l1.length := by omega
          subst hmm
          obtain ⟨σ2, pA, gA, eA, aA, cA, pB, gB, eB, aB, cB2, hQ⟩ := hPm
          have hlo := looks_any hQ.a hQ.la.1 hN0 hN1 hQ.oo.1
          rw [show 3 * 0 = 0 from rfl] at hlo
          have HQ : Hid (Pq σ2 w u2.heap.size u1.heap.size N 0 pA gA eA aA cA pB gB eB aB cB2 wr) := hQ
          clear hQ
          go_wp2_with (first | (go_at_call 16; (with_reducible refine hap.mono ?_); rintro e y3 ⟨rfl, hb3⟩) | (go_at_call 15; have mm := stA; (with_reducible refine hlo2.mono ?_); rintro e y2 ⟨rfl, hn2, hk2⟩; have HQ3 : Hid (Pq σ2 w u2.heap.size u1.heap.size N 0 pA gA eA aA cA pB gB eB aB cB2 y2) := HQ2.out.kp hk2 hn2; have hap := HQ3.out.a.nk.apart HQ3.out.a.bz) | (go_at_call 15; (with_reducible refine hlo.mono ?_); rintro e y1 ⟨rfl, hn1, hk1⟩; have HQ2 : Hid (Pq σ2 w u2.heap.size u1.heap.size N 0 pA gA eA aA cA pB gB eB aB cB2 y1) := HQ.out.kp hk1 hn1; have hlo2 := looks_any HQ2.out.b HQ2.out.la.2 hN0 hN1 HQ2.out.oo.2; rw [show 3 * (1 - 0) = 3 from rfl] at hlo2; have stA : True := trivial))
          go_ret
          exact ⟨rfl, HQ3.out.low.trans hb3⟩
end Go.Proofs.YtojegojeolkgpaaGreat
