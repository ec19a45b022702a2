/- SetAll itself. -/
import Derived.Test.YtoplegfibdmjeaaDoorSmh
import Derived.Test.YtoplegfibdmjeaaDoorSal
import Derived.Test.YtoplegfibdmjeaaDoorIdf
import Derived.Test.YtoplegfibdmjeaaDoorSeqN
import Derived.Test.YtoplegfibdmjeaaDoorSsr
import Derived.Test.YtoplegfibdmjeaaDoorRft
import Derived.Test.YtoplegfibdmjeaaDoorAlv
import Derived.Test.YtoplegfibdmjeaaDoorMrk
import Derived.Laws.EntriesVeiled
namespace Go.Proofs.YtoplegfibdmjeaaDoor
open Go.RowKit Go.Shelf Go.Lib
attribute [local go_sem] Oper.semAt_some

theorem fn_nil (bx : Nat) (w : World) : (binOp .eql 51 (.func (.func 19) #[] #[.pointer (some ⟨bx, 0, none⟩)]) (.nilFunc)).run Tryd.prog w = .ok (.bool false) w := by kernel_rfl
/-- What stands between two rounds. -/
structure LR (w : World) (bb kk : Nat) (ks : List Nat) (W : World) : Prop where
  jq : JQ w.heap.size bb W.heap.size W kk
  ms : Marks w.heap.size ks W
  bl : Below w.heap.size w W
section
variable {w : World} {bb kk : Nat} {ks : List Nat} {W V : World}
theorem LR.carry (h : LR w bb kk ks W) (hb : Below W.heap.size W V) : LR w bb kk ks V := ⟨(h.jq.carry hb).mono hb.size, h.ms.carry hb, h.bl.trans (hb.mono h.bl.size)⟩
theorem LR.kept (h : LR w bb kk ks W) {g : Nat} (hk : Kp w.heap.size bb W V) (hj : JQ w.heap.size bb (g + 1) V (kk + 1)) (hg : g < W.heap.size) : LR w bb (kk + 1) ks V := by
  obtain ⟨x, y, L, G, _, _, ⟨u, v, _, hkb, _, _, _, hbb⟩, _⟩ := h.jq
  refine ⟨hj.mono (by have := hk.size; omega), ⟨h.ms.nd, h.ms.lo, fun k hkm => ?_⟩, hk.below h.bl hbb (Nat.le_refl _)⟩
  have h1 := h.ms.on k hkm
  refine hk.block k _ h1 (fun e => ?_) (.inr (fun c fz e => by cases e))
  subst e
  have := hkb.symm.trans h1
  cases this
theorem LR.cells (h : LR w bb kk ks W) (hk : Kp w.heap.size bb W V) {b : Nat} {cs : Array Value} {t : TypeId} (hb : W.heap[b]? = some (.cells cs t (0, 0))) (h1 : t ≠ 38) (h2 : t ≠ 42) : V.heap[b]? = some (.cells cs t (0, 0)) := by
  obtain ⟨u, v, hkb⟩ := h.jq.bk
  exact hk.blk hkb hb h1 h2
theorem row_kp {b0 b1 g n : Nat} {xs : List Value} (h : W.ownsRow b0 3 1 (.slice (some ⟨g, 0, none⟩) n n) n xs) (hk : Kp w.heap.size bb W V) (hL : LR w bb kk ks W) (hb : b1 ≤ b0) : V.ownsRow b1 3 1 (.slice (some ⟨g, 0, none⟩) n n) n xs := by
  refine row_base ?_ hb
  refine ⟨h.1, ?_⟩
  rcases h.2 with ⟨h1, _⟩ | ⟨g1, cap, cur, h1, h2, h3, h4⟩
  · cases h1
  · cases h1
    exact .inr ⟨g, n, cur, rfl, h2, hL.cells hk h3 (by decide) (by decide), h4⟩
end

structure Tq (nb : Nat) (W V : World) : Prop where
  os : V.os = W.os
  tape : V.tape = W.tape
  output : V.output = W.output
  size : W.heap.size ≤ V.heap.size
  block : ∀ k, k < W.heap.size → k ≠ nb → V.heap[k]? = W.heap[k]?
theorem Tq.refl (nb : Nat) (W : World) : Tq nb W W := ⟨rfl, rfl, rfl, Nat.le_refl _, fun _ _ _ => rfl⟩
theorem Tq.own {β : Type} {nb B : Nat} {W : World} (hB : W.heap.size ≤ B) : OwnFrom B (fun (_ : β) V => Tq nb W V) := fun _ A U _ hs hg hr => ⟨hg.os.trans hs.os, hg.tape.trans hs.tape, hg.output.trans hs.output, Nat.le_trans hs.size hg.size, fun k h1 h2 => (hg.block k (Nat.lt_of_lt_of_le h1 hs.size) (fun e => by have := (hr k e.symm).1; omega)).trans (hs.block k h1 h2)⟩
theorem Tq.set {nb : Nat} {W V : World} (h : Tq nb W V) (u : Value) : Tq nb W (V.setCell ⟨nb, 0, none⟩ u) := ⟨h.os, h.tape, h.output, by simpa using h.size, fun k h1 h2 => (set_other h2).trans (h.block k h1 h2)⟩
theorem Tq.kept {nb : Nat} {W V : World} (h : Tq nb W V) {bx B m : Nat} (h1 : bx < W.heap.size) (h2 : bx ≠ nb) (h3 : B + m ≤ W.heap.size) (h4 : nb < B) : Kept bx B m W V := ⟨h.size, h.block _ h1 h2, fun k k1 k2 => h.block k (by omega) (by omega)⟩
theorem Tq.below {nb : Nat} {W V U : World} (h : Tq nb W V) (hb : Below nb U W) (hU : nb ≤ U.heap.size) : Below nb U V := hb.trans ⟨h.os, h.tape, h.output, h.size, fun k hk => h.block k (by have := hb.size; omega) (by omega)⟩

structure JI (V : World) (nX nY : Nat) (XI YI : List Int) (g : Value × Value) (d1 d5 : Bool) (U : World) : Prop where
  bl : Below V.heap.size V U
  a : d1 = true → U.ownsRow V.heap.size 3 1 g.1 nX (cB XI)
  b : d5 = true → U.ownsRow V.heap.size 3 1 g.2 nY (cB YI)

def allF (b : Nat) : Value := .func (.func 19) #[] #[.pointer (some ⟨b, 0, none⟩)]
structure JF (W2 : World) (M M0 : Nat) (g : Nat × Nat × Nat) (d1 d5 d6 d8 : Bool) (V : World) : Prop where
  bl : Below W2.heap.size W2 V
  o : d1 = true → W2.heap.size ≤ g.1 ∧ Holds4 V g.1 (wd M)
  i : d5 = true → W2.heap.size ≤ g.2.1 ∧ Holds4 V g.2.1 (wd M0)
  f : d6 = true → W2.heap.size ≤ g.2.2 ∧ V.heap[g.2.2]? = some (.cells #[if d8 = true then allF g.2.1 else .nilFunc] 51)
section
variable {W2 : World} {M M0 : Nat} {g : Nat × Nat × Nat} {d1 d5 d6 d8 : Bool} {V V' : World}
theorem JF.outer (h : JF W2 M M0 g false d5 d6 d8 V) (hb : Below V.heap.size V V') (hh : Holds4 V' V.heap.size (wd M)) : JF W2 M M0 (V.heap.size, g.2) true d5 d6 d8 V' :=
  ⟨h.bl.trans (hb.mono h.bl.size), fun _ => ⟨h.bl.size, hh⟩, fun e => ⟨(h.i e).1, (h.i e).2.carry hb⟩, fun e => ⟨(h.f e).1, (hb.block _ (lt_at (h.f e).2)).trans (h.f e).2⟩⟩
theorem JF.inner (h : JF W2 M M0 g d1 false d6 false V) (hb : Below V.heap.size V V') (hh : Holds4 V' V.heap.size (wd M0)) : JF W2 M M0 (g.1, V.heap.size, g.2.2) d1 true d6 false V' :=
  ⟨h.bl.trans (hb.mono h.bl.size), fun e => ⟨(h.o e).1, (h.o e).2.carry hb⟩, fun _ => ⟨h.bl.size, hh⟩, fun e => ⟨(h.f e).1, (hb.block _ (lt_at (h.f e).2)).trans (h.f e).2⟩⟩
theorem JF.new (h : JF W2 M M0 g d1 d5 false false V) : JF W2 M M0 (g.1, g.2.1, V.heap.size) d1 d5 true false (V.alloc (.cells #[.nilFunc] 51)) :=
  ⟨h.bl.trans ((alloc_below _ _).mono h.bl.size), fun e => ⟨(h.o e).1, get_old (h.o e).2⟩, fun e => ⟨(h.i e).1, get_old (h.i e).2⟩, fun _ => ⟨h.bl.size, get_new rfl⟩⟩
theorem JF.store (h : JF W2 M M0 g true true true d8 V) : (Instr.storeAt 51 (.pointer (some ⟨g.2.2, 0, none⟩)) (allF g.2.1)).run Tryd.prog V = .ok () (V.setCell ⟨g.2.2, 0, none⟩ (allF g.2.1)) ∧ JF W2 M M0 g true true true true (V.setCell ⟨g.2.2, 0, none⟩ (allF g.2.1)) := by
  obtain ⟨h1, h2⟩ := h.f rfl
  have c0 := cell_of h2 0
  have z0 := frozen_of h2 0
  have hne : ∀ {b f}, Holds4 V b f → b ≠ g.2.2 := fun hb e => by
    rw [e] at hb
    have := hb.symm.trans h2
    simp only [Option.some.injEq, Obj.cells.injEq] at this
    exact absurd this.2.1 (by decide)
  refine ⟨?_, h.bl.setCell (p := ⟨g.2.2, 0, none⟩) h1 _, fun _ => ⟨(h.o rfl).1, (set_other (hne (h.o rfl).2)).trans (h.o rfl).2⟩, fun _ => ⟨(h.i rfl).1, (set_other (hne (h.i rfl).2)).trans (h.i rfl).2⟩, fun _ => ⟨h1, set_get 0 (allF g.2.1) h2⟩⟩
  unfold allF
  cases d8 <;> go_simp
theorem stepG_newF {G : Type} {md : Region.Mode} {ops : Array Oper} {Q : Exit → Act → World → Prop} {X0 : Array Value} {val : G → Nat → Value} {J : G → (Nat → Bool) → World → Prop} {i : Nat} {o : Oper} (hi : ops[i]? = some o) (hg : o.guard = none) (ho : o.op = .alloc 51)
    (h : ∀ g d W, J g d W → d i = false → (∀ j oj, ops[j]? = some oj → d j = true → ∀ k, bindsOn md oj k = true → d k = true) → ∃ g', (∀ j, d j = true → val g' j = val g j) ∧ val g' i = .pointer (some ⟨W.heap.size, 0, none⟩) ∧ J g' (fun j => if j = i then true else d j) (W.alloc (.cells #[.nilFunc] 51))) : StepG Tryd.prog md ops Q X0 val J i o := by
  intro g d a W hJ hun _ hcl _
  obtain ⟨g', h1, h2, h3⟩ := h g d W hJ hun hcl
  unfold wpOp
  rw [hi]
  simp only [Region.wanted, hg, if_true]
  refine .inl ?_
  unfold Oper.wp execOp
  simp only [ho]
  go_simp
  rw [← h2]
  refine ⟨g', h1, rfl, ?_⟩
  have e : (fun j => decide (j = i) || d j) = (fun j => if j = i then true else d j) := by
    funext j
    by_cases h : j = i <;> simp [h]
  rw [e]
  exact h3
end

set_option maxHeartbeats 16000000 in
set_option maxRecDepth 100000 in
theorem setall_in (ad : Option Addr) (cap : Nat) (l : List Nat) (w : World) (hR : RdS w ad l) (hT : Tab w) : CallsIn Fence.wide 0 Tryd.prog 3 #[.slice ad l.length cap] w fun e w' => e = .returned (.bool true) ∧ Below w.heap.size w w' := by
  have hT0 := hT.lt
  have hmx : Tryd.prog.follows .mixedOrders = true := by kernel_rfl
  have hal := alive_any
  obtain ⟨K, hKK⟩ : ∃ M, l.length = M := ⟨_, rfl⟩
  have HK : Hid (l.length = K) := hKK
  rw [hKK]
  clear hKK
  refine callsIn_of_wp_marks Tryd.func3 rfl trivial ?_ rfl
  simp only [Tryd.ntmps3, List.size_toArray, List.length_cons, List.length_nil, Nat.reduceAdd, Nat.reduceSub, Array.replicate_succ, Array.replicate_zero, List.push_toArray, List.append_toArray, List.nil_append, List.cons_append]
  refine (wpIn_wide (n := 0)).2 ?_
  by_cases h40 : K ≤ 40
  case neg =>
    have h40i : (K : Int) > 40 := by omega
    go_wp2_with (first | (have m := hb0; go_at_call 4; refine (hal _).mono ?_; rintro e w1 ⟨rfl, hb1⟩) | (go_at_call 4; refine (hal _).mono ?_; rintro e w0 ⟨rfl, hb0⟩))
    exact ⟨.bool true, by simp [results, Tryd.results3, go_sem], rfl, bel2 hb0 hb1⟩
  have h40i : ¬ (K : Int) > 40 := by omega
  go_wp2_with (go_at_call 4; refine (hal _).mono ?_; rintro e w1 ⟨rfl, hb1⟩)
  obtain ⟨w2, hw2⟩ : ∃ w2, w1.alloc (.cells (bkc (.slice none 0 0) (.slice none 0 0)) 38) = w2 := ⟨_, rfl⟩
  obtain ⟨bb, hbb⟩ : ∃ bb, w1.heap.size = bb := ⟨_, rfl⟩
  have hL0 : LR w bb 0 [] w2 := by
    subst hw2 hbb
    exact ⟨jq_zero _ _ _ _ (new_at rfl) hb1.size, Marks.nil _ _, hb1.alloc hb1.size _⟩
  simp only [bkc] at hw2
  rw [hw2, hbb]
  refine wp_loop (fun a' w' => ∃ (kk : Nat) (ks : List Nat) (u1 : Value) (u2 : Value) (u5 : Value) (u6 : Value) (u7 : Value) (u8 : Value) (u9 : Value) (u10 : Value) (u11 : Value) (u12 : Value) (u13 : Value) (u14 : Value) (u15 : Value) (u16 : Value) (u17 : Value) (u18 : Value) (u19 : Value) (u20 : Value) (u21 : Value) (u22 : Value) (u23 : Value) (u24 : Value) (u25 : Value) (u26 : Value) (u27 : Value) (u28 : Value) (u29 : Value) (u30 : Value) (u31 : Value) (u32 : Value) (u33 : Value) (u34 : Value) (u35 : Value) (u36 : Value) (u37 : Value) (u38 : Value) (u39 : Value) (u40 : Value) (u41 : Value) (u42 : Value) (u43 : Value) (u44 : Value) (u45 : Value) (u46 : Value) (u47 : Value) (u48 : Value) (u49 : Value) (u50 : Value) (u51 : Value) (u52 : Value) (u53 : Value) (u54 : Value) (u55 : Value) (u56 : Value) (u57 : Value) (u58 : Value) (u59 : Value) (u60 : Value) (u61 : Value) (u62 : Value) (u63 : Value) (u64 : Value) (u65 : Value) (u66 : Value) (u67 : Value) (u68 : Value) (u69 : Value) (u70 : Value) (u71 : Value) (u72 : Value) (u73 : Value) (u74 : Value) (u75 : Value) (u76 : Value) (u77 : Value) (u78 : Value) (u79 : Value) (u80 : Value) (u81 : Value) (u82 : Value) (u83 : Value) (u84 : Value) (u85 : Value) (u86 : Value) (u87 : Value) (u88 : Value) (u89 : Value) (u90 : Value) (u91 : Value) (u92 : Value) (u93 : Value) (u94 : Value) (u95 : Value) (u96 : Value) (u97 : Value) (u98 : Value) (u99 : Value) (u100 : Value) (u101 : Value) (u102 : Value) (u103 : Value) (u104 : Value) (u105 : Value) (u106 : Value) (u107 : Value) (u108 : Value) (u109 : Value) (u110 : Value) (u111 : Value) (u112 : Value) (u113 : Value) (u114 : Value) (u115 : Value) (u116 : Value) (u117 : Value) (u118 : Value) (u119 : Value) (u120 : Value) (u121 : Value) (u122 : Value), (kk ≤ 2 * K ∧ LR w bb kk ks w') ∧ a' = ⟨#[.slice ad K cap, u1, u2, .pointer (some ⟨bb, 0, none⟩), .int .i64 (kk : Int), u5, u6, u7, u8, u9, u10, u11, u12, u13, u14, u15, u16, u17, u18, u19, u20, u21, u22, u23, u24, u25, u26, u27, u28, u29, u30, u31, u32, u33, u34, u35, u36, u37, u38, u39, u40, u41, u42, u43, u44, u45, u46, u47, u48, u49, u50, u51, u52, u53, u54, u55, u56, u57, u58, u59, u60, u61, u62, u63, u64, u65, u66, u67, u68, u69, u70, u71, u72, u73, u74, u75, u76, u77, u78, u79, u80, u81, u82, u83, u84, u85, u86, u87, u88, u89, u90, u91, u92, u93, u94, u95, u96, u97, u98, u99, u100, u101, u102, u103, u104, u105, u106, u107, u108, u109, u110, u111, u112, u113, u114, u115, u116, u117, u118, u119, u120, u121, u122], ks.map mark⟩) (fun a' _ => 2 * K - vnat (a'.tmps.getD 4 undef)) ?_ ?_
  · refine ⟨0, [], ?_⟩
    (repeat apply Exists.intro)
    exact ⟨⟨Nat.zero_le _, hL0⟩, rfl⟩
  intro _ wr hinv
  obtain ⟨kk, hinv⟩ := hinv
  obtain ⟨ks, hinv⟩ := hinv
  obtain ⟨u1, hinv⟩ := hinv
  obtain ⟨u2, hinv⟩ := hinv
  obtain ⟨u5, hinv⟩ := hinv
  obtain ⟨u6, hinv⟩ := hinv
  obtain ⟨u7, hinv⟩ := hinv
  obtain ⟨u8, hinv⟩ := hinv
  obtain ⟨u9, hinv⟩ := hinv
  obtain ⟨u10, hinv⟩ := hinv
  obtain ⟨u11, hinv⟩ := hinv
  obtain ⟨u12, hinv⟩ := hinv
  obtain ⟨u13, hinv⟩ := hinv
  obtain ⟨u14, hinv⟩ := hinv
  obtain ⟨u15, hinv⟩ := hinv
  obtain ⟨u16, hinv⟩ := hinv
  obtain ⟨u17, hinv⟩ := hinv
  obtain ⟨u18, hinv⟩ := hinv
  obtain ⟨u19, hinv⟩ := hinv
  obtain ⟨u20, hinv⟩ := hinv
  obtain ⟨u21, hinv⟩ := hinv
  obtain ⟨u22, hinv⟩ := hinv
  obtain ⟨u23, hinv⟩ := hinv
  obtain ⟨u24, hinv⟩ := hinv
  obtain ⟨u25, hinv⟩ := hinv
  obtain ⟨u26, hinv⟩ := hinv
  obtain ⟨u27, hinv⟩ := hinv
  obtain ⟨u28, hinv⟩ := hinv
  obtain ⟨u29, hinv⟩ := hinv
  obtain ⟨u30, hinv⟩ := hinv
  obtain ⟨u31, hinv⟩ := hinv
  obtain ⟨u32, hinv⟩ := hinv
  obtain ⟨u33, hinv⟩ := hinv
  obtain ⟨u34, hinv⟩ := hinv
  obtain ⟨u35, hinv⟩ := hinv
  obtain ⟨u36, hinv⟩ := hinv
  obtain ⟨u37, hinv⟩ := hinv
  obtain ⟨u38, hinv⟩ := hinv
  obtain ⟨u39, hinv⟩ := hinv
  obtain ⟨u40, hinv⟩ := hinv
  obtain ⟨u41, hinv⟩ := hinv
  obtain ⟨u42, hinv⟩ := hinv
  obtain ⟨u43, hinv⟩ := hinv
  obtain ⟨u44, hinv⟩ := hinv
  obtain ⟨u45, hinv⟩ := hinv
  obtain ⟨u46, hinv⟩ := hinv
  obtain ⟨u47, hinv⟩ := hinv
  obtain ⟨u48, hinv⟩ := hinv
  obtain ⟨u49, hinv⟩ := hinv
  obtain ⟨u50, hinv⟩ := hinv
  obtain ⟨u51, hinv⟩ := hinv
  obtain ⟨u52, hinv⟩ := hinv
  obtain ⟨u53, hinv⟩ := hinv
  obtain ⟨u54, hinv⟩ := hinv
  obtain ⟨u55, hinv⟩ := hinv
  obtain ⟨u56, hinv⟩ := hinv
  obtain ⟨u57, hinv⟩ := hinv
  obtain ⟨u58, hinv⟩ := hinv
  obtain ⟨u59, hinv⟩ := hinv
  obtain ⟨u60, hinv⟩ := hinv
  obtain ⟨u61, hinv⟩ := hinv
  obtain ⟨u62, hinv⟩ := hinv
  obtain ⟨u63, hinv⟩ := hinv
  obtain ⟨u64, hinv⟩ := hinv
  obtain ⟨u65, hinv⟩ := hinv
  obtain ⟨u66, hinv⟩ := hinv
  obtain ⟨u67, hinv⟩ := hinv
  obtain ⟨u68, hinv⟩ := hinv
  obtain ⟨u69, hinv⟩ := hinv
  obtain ⟨u70, hinv⟩ := hinv
  obtain ⟨u71, hinv⟩ := hinv
  obtain ⟨u72, hinv⟩ := hinv
  obtain ⟨u73, hinv⟩ := hinv
  obtain ⟨u74, hinv⟩ := hinv
  obtain ⟨u75, hinv⟩ := hinv
  obtain ⟨u76, hinv⟩ := hinv
  obtain ⟨u77, hinv⟩ := hinv
  obtain ⟨u78, hinv⟩ := hinv
  obtain ⟨u79, hinv⟩ := hinv
  obtain ⟨u80, hinv⟩ := hinv
  obtain ⟨u81, hinv⟩ := hinv
  obtain ⟨u82, hinv⟩ := hinv
  obtain ⟨u83, hinv⟩ := hinv
  obtain ⟨u84, hinv⟩ := hinv
  obtain ⟨u85, hinv⟩ := hinv
  obtain ⟨u86, hinv⟩ := hinv
  obtain ⟨u87, hinv⟩ := hinv
  obtain ⟨u88, hinv⟩ := hinv
  obtain ⟨u89, hinv⟩ := hinv
  obtain ⟨u90, hinv⟩ := hinv
  obtain ⟨u91, hinv⟩ := hinv
  obtain ⟨u92, hinv⟩ := hinv
  obtain ⟨u93, hinv⟩ := hinv
  obtain ⟨u94, hinv⟩ := hinv
  obtain ⟨u95, hinv⟩ := hinv
  obtain ⟨u96, hinv⟩ := hinv
  obtain ⟨u97, hinv⟩ := hinv
  obtain ⟨u98, hinv⟩ := hinv
  obtain ⟨u99, hinv⟩ := hinv
  obtain ⟨u100, hinv⟩ := hinv
  obtain ⟨u101, hinv⟩ := hinv
  obtain ⟨u102, hinv⟩ := hinv
  obtain ⟨u103, hinv⟩ := hinv
  obtain ⟨u104, hinv⟩ := hinv
  obtain ⟨u105, hinv⟩ := hinv
  obtain ⟨u106, hinv⟩ := hinv
  obtain ⟨u107, hinv⟩ := hinv
  obtain ⟨u108, hinv⟩ := hinv
  obtain ⟨u109, hinv⟩ := hinv
  obtain ⟨u110, hinv⟩ := hinv
  obtain ⟨u111, hinv⟩ := hinv
  obtain ⟨u112, hinv⟩ := hinv
  obtain ⟨u113, hinv⟩ := hinv
  obtain ⟨u114, hinv⟩ := hinv
  obtain ⟨u115, hinv⟩ := hinv
  obtain ⟨u116, hinv⟩ := hinv
  obtain ⟨u117, hinv⟩ := hinv
  obtain ⟨u118, hinv⟩ := hinv
  obtain ⟨u119, hinv⟩ := hinv
  obtain ⟨u120, hinv⟩ := hinv
  obtain ⟨u121, hinv⟩ := hinv
  obtain ⟨u122, hinv⟩ := hinv
  obtain ⟨⟨hkk, hL⟩, ha⟩ := hinv
  subst ha
  clear hL0 hw2 hb1
  by_cases hkl : kk < 2 * K
  case neg =>
    have hki : ¬ (kk : Int) < 2 * (K : Int) := by omega
    obtain ⟨u, v, x, y, L, G, hKl, hCp⟩ := hL.jq.kl
    have hap := apart_any hKl hCp hL.bl.size
    go_wp2_with (go_at_call 12; (with_reducible refine hap.mono ?_); rintro e z1 ⟨rfl, hz1⟩)
    have hM1 : Marks w.heap.size ks z1 := ⟨hL.ms.nd, hL.ms.lo, fun k hk => hz1.nc k _ (hL.ms.on k hk) rfl⟩
    refine leaves_marks ks _ hM1 ?_
    intro W' hbW hcW
    exact ⟨.bool true, by simp [results, Tryd.results3, go_sem], rfl, (hL.bl.trans hz1.bl).trans hbW⟩
  have hki : (kk : Int) < 2 * (K : Int) := by omega
  have hK0 : 0 < K := by omega
  have hKz : ¬ (K : Int) = 0 := by omega
  obtain ⟨ix, hix⟩ : ∃ i, kk % K = i := ⟨_, rfl⟩
  have hixK : ix < K := by rw [← hix]; exact Nat.mod_lt _ hK0
  have hrem : (kk : Int).tmod (K : Int) = (ix : Int) := by
    rw [← hix, Int.tmod_eq_emod_of_nonneg (by omega)]
    rfl
  have hlne : l ≠ [] := fun e => by
    have := HK.out
    rw [e] at this
    simp at this
    omega
  obtain ⟨gb, off, rfl, hgb, hat⟩ := hR hlne
  obtain ⟨N, hN⟩ : ∃ N, l[ix]? = some N := ⟨_, List.getElem?_eq_getElem (by rw [HK.out]; exact hixK)⟩
  obtain ⟨N0, hN0⟩ : ∃ N, l[0]? = some N := ⟨_, List.getElem?_eq_getElem (by rw [HK.out]; exact hK0)⟩
  have HSA : Hid (∀ V, Below w.heap.size w V → SsAt V gb off l) := fun V hV => hat.carry (hV.block _ hgb)
  have HN : Hid (l[ix]? = some N) := hN
  have HN0 : Hid (l[0]? = some N0) := hN0
  obtain ⟨c0, c1, c2, c3⟩ := HSA.out wr hL.bl ix N hN
  have hidx := idx_s gb off K cap ix hixK
  obtain ⟨X, hX⟩ : ∃ X, idsTo (cln N) 128 = X := ⟨_, rfl⟩
  obtain ⟨Y, hY⟩ : ∃ Y, idsTo (cln N0) 128 = Y := ⟨_, rfl⟩
  have hXr := idsTo_cln N
  have hYr := idsTo_cln N0
  rw [hX] at hXr
  rw [hY] at hYr
  have hXc : cnt (cln N) = X.length := by rw [← hX]; exact (idsTo_length _ _).symm
  have hXc8 : X.length ≤ 128 := by rw [← hXc]; exact cnt_le _
  have hYc8 : Y.length ≤ 128 := by rw [← hY, idsTo_length]; exact cnt_le _
  obtain ⟨XI, hXI⟩ : ∃ XI : List Int, X.map (fun x : Nat => (x : Int)) = XI := ⟨_, rfl⟩
  have hXIl : XI.length = X.length := by rw [← hXI]; simp
  have hXv : intsV X = cB XI := by rw [← hXI]; simp [intsV, cB]
  have hXb : Byt XI := fun x hx => by
    rw [← hXI] at hx
    obtain ⟨y, hy, rfl⟩ := List.mem_map.1 hx
    rw [← hX] at hy
    have := (mem_idsTo.1 hy).1
    omega
  have hof0 : ofN XI 0 = some (cln N) := by rw [← hXI, ← hX]; exact ofN_own N
  obtain ⟨nX, hnX⟩ : ∃ n, X.length = n := ⟨_, rfl⟩
  have hid : ∀ V, Tab V → Calls Tryd.prog 5 #[sv N] V fun e w' => ∃ g, e = .returned (.slice (some ⟨g, 0, none⟩) nX nX) ∧ w'.ownsRow V.heap.size 3 1 (.slice (some ⟨g, 0, none⟩) nX nX) nX (cB XI) ∧ Below V.heap.size V w' := fun V hV => by
    have := callsIn_wide.1 (idsF_in N V hV)
    rw [hX, hXc, hnX, hXv] at this
    exact this
  have hrd : ∀ V, Calls Tryd.prog 7 #[sv N] V fun e w' => ∃ v, e = .returned v ∧ w'.ownsRow V.heap.size 3 1 v nX (cB XI) ∧ Below V.heap.size V w' := fun V => by
    have := rIds_any N V
    rw [← hXr, hnX, hXv] at this
    exact this
  have hput : ∀ (V : World) (g b0 : Nat), LR w bb kk ks V → V.ownsRow b0 3 1 (.slice (some ⟨g, 0, none⟩) nX nX) nX (cB XI) → JQ w.heap.size bb g V kk → w.heap.size ≤ g → Calls Tryd.prog 8 #[.pointer (some ⟨bb, 0, none⟩), .slice (some ⟨g, 0, none⟩) nX nX] V fun e V' => (∃ v, e = .returned v) ∧ Kp w.heap.size bb V V' ∧ JQ w.heap.size bb (g + 1) V' (kk + 1) := fun V g b0 h1 h2 h3 h4 => by
    have hl : XI.length = nX := by omega
    have := jq_put (l := XI) h3 h1.bl.size (by omega) (by rw [hl]; exact h2) hXb (by omega) h4 (Nat.le_refl _)
    rw [hl] at this
    exact this
  have hsame : ∀ (V : World) (a1 a2 : Option Addr) (c1 c2 : Nat), RdB V a1 XI → RdB V a2 XI → Calls Tryd.prog 6 #[.slice a1 nX c1, .slice a2 nX c2] V fun e w' => e = .returned (.bool true) ∧ Below V.heap.size V w' := fun V a1 a2 c1 c2 h1 h2 => by
    have := sameB_yes a1 a2 c1 c2 XI V h1 h2 (by omega)
    rw [show XI.length = nX by omega] at this
    exact this
  have hof : ∀ (V : World) (g b0 : Nat), V.ownsRow b0 3 1 (.slice (some ⟨g, 0, none⟩) nX nX) nX (cB XI) → Calls Tryd.prog 9 #[.slice (some ⟨g, 0, none⟩) nX nX] V fun e w' => e = .returned (.tuple #[sv (cln N), .int .i64 0]) ∧ Below V.heap.size V w' := fun V g b0 h => by
    have hB := b_own h (by omega)
    obtain ⟨_, cur, hc⟩ := ownsRow_block h g rfl
    have := of_any XI ⟨g, 0, none⟩ nX (by omega) V ⟨rfl, fun k x hk => hB k x hk, lt_at hc⟩
    rw [hof0, show XI.length = nX by omega] at this
    exact this
  have hrd0 : ∀ V, Calls Tryd.prog 7 #[sv N0] V fun e w' => ∃ v, e = .returned v ∧ w'.ownsRow V.heap.size 3 1 v Y.length (cB (Y.map (fun x : Nat => (x : Int)))) ∧ Below V.heap.size V w' := fun V => by
    have := rIds_any N0 V
    rw [← hYr, show intsV Y = cB (Y.map (fun x : Nat => (x : Int))) by simp [intsV, cB]] at this
    exact this
  have hrdA := hrd
  clear hXr hYr
  have HXI : Hid (X.map (fun x : Nat => (x : Int)) = XI) := hXI
  have HX : Hid (X.length = nX) := hnX
  have hnX8 : nX ≤ 128 := by omega
  clear hat hN hN0 hof0 hXv hXb hXc hXI hnX
  obtain ⟨M, hM⟩ : ∃ M, cln N = M := ⟨_, rfl⟩
  have HM : Hid (cln N = M) := hM
  rw [hM] at hof
  clear hM
  simp only [sv] at hid hrd hof
  go_wp2_with (first
    | (go_at_call 5; refine (hid _ (hT.keep (hL.bl.alloc hL.bl.size _) hT0)).mono ?_; rintro e w3 ⟨g, rfl, hown3, hb3⟩; have hL3 : LR w bb kk ks w3 := (hL.carry (alloc_below _ _)).carry hb3; have hS3 : Holds4 w3 wr.heap.size (wd N) := (hb3.block _ (by simp)).trans (get_new (by simp)); have HF : Hid (∃ y0 : Nat, y0 = 0) := ⟨0, rfl⟩; obtain ⟨y0, y1, y2, y3, _⟩ := hS3.facts)
    | (go_at_call 7; refine (hrd _).mono ?_; rintro e w4 ⟨v4, rfl, hown4, hb4⟩; obtain ⟨a4, c4, rfl, _⟩ := ownsRow_form hown4; have hL4 := hL3.carry hb4; have hS4 := hS3.carry hb4; have hownA := row_below hown3 hb4; clear y0 y1 y2 y3)
    | (go_at_call 6; refine (hsame w4 _ _ _ _ ?_ ?_).mono ?_; exact (RdY.own (c := nX) (by rw [show XI.length = nX by have := HX.out; omega]; exact hownA)).rd; exact (RdY.own (c := c4) (by rw [show XI.length = nX by have := HX.out; omega]; exact hown4)).rd; rintro e w5 ⟨rfl, hb5⟩; have hL5 := hL4.carry hb5; have hS5 := hS4.carry hb5; have hown5 := row_below hownA hb5)
    | (go_at_call 8; refine (hput w5 g _ hL5 hown5 ?_ ?_).mono ?_; exact ((hL.jq.mono (by have := (ownsRow_block hown3 g rfl).1; simp at this; omega)).carry (((alloc_below _ _).trans (hb3.mono (by simp))).trans ((hb4.mono (by have := hb3.size; simp at this; omega)).trans (hb5.mono (by have := hb3.size; have := hb4.size; simp at *; omega))))); exact Nat.le_trans hL.bl.size (by have := (ownsRow_block hown3 g rfl).1; simp at this; omega); rintro e w6 ⟨⟨v6, rfl⟩, hkp, hj6⟩; have hgc := (ownsRow_block hown5 g rfl).2; have hL6 : LR w bb (kk + 1) ks w6 := hL5.kept hkp hj6 (by obtain ⟨cur, hc⟩ := hgc; exact lt_at hc); have hS6 : Holds4 w6 wr.heap.size (wd N) := hL5.cells hkp hS5 (by decide) (by decide); have hown6 : w6.ownsRow wr.heap.size 3 1 (.slice (some ⟨g, 0, none⟩) nX nX) nX (cB XI) := row_kp hown5 hkp hL5 (by simp))
    | (go_at_call 9; refine (hof w6 g _ hown6).mono ?_; rintro e w7 ⟨rfl, hb7⟩; have hL7 := hL6.carry hb7; have hS7 := hS6.carry hb7))
  have hMl : M < S128 := by rw [← HM.out]; exact Nat.lt_trans (cln_lt _) (by decide)
  have hrc : ∀ V, Calls Tryd.prog 10 #[sv N] V fun e w' => e = .returned (sv M) ∧ Below V.heap.size V w' := fun V => by
    have := rClean_any N V
    rw [HM.out] at this
    exact this
  obtain ⟨sb, hsb⟩ : ∃ s, wr.heap.size = s := ⟨_, rfl⟩
  obtain ⟨tb, htb⟩ : ∃ s, w7.heap.size = s := ⟨_, rfl⟩
  obtain ⟨w8, hw8⟩ : ∃ w8, w7.alloc (.cells (cells4 (wd M)) 41) = w8 := ⟨_, rfl⟩
  have hL8 : LR w bb (kk + 1) ks w8 := by rw [← hw8]; exact hL7.carry (alloc_below _ _)
  have hS8 : Holds4 w8 sb (wd N) := by rw [← hw8, ← hsb]; exact get_old hS7
  have hT8 : Holds4 w8 tb (wd M) := by rw [← hw8, ← htb]; exact get_new rfl
  simp only [cells4] at hw8
  rw [hw8, hsb, htb]
  clear hw8 hL7 hS7 hb7 hL6 hS6 hown6 hj6 hkp hgc hL5 hS5 hown5 hb5 hL4 hS4 hownA hown4 hb4 hL3 hS3 hown3 hb3 c0 c1 c2 c3 hput hsame hof hid
  refine wp_region_any hmx ?_
  refine wpAny_pure (fun i__ => ([(.int .i64 0), (.bool false), (.bool false), (sv M), (sv N), (sv M), (.bool false), (.bool false)] : List Value).getD i__ undef) (fun V => LR w bb (kk + 1) ks V ∧ Holds4 V sb (wd N) ∧ Holds4 V tb (wd M)) (by kernel_rfl) ⟨hL8.carry (Below.refl _ _).drew, hS8.carry (Below.refl _ _).drew, hT8.carry (Below.refl _ _).drew⟩ ?_ ?_
  · refine (stepsFrom_cons ?_ (stepsFrom_cons ?_ (stepsFrom_cons ?_ (stepsFrom_cons ?_ (stepsFrom_cons ?_ (stepsFrom_cons ?_ (stepsFrom_cons ?_ (stepsFrom_cons ?_ trivial))))))))
    · exact step_move rfl trivial _ rfl (by kernel_rfl)
    · exact step_binOp rfl trivial _ _ _ _ _ _ _ rfl rfl rfl (fun w hw => (bin_neq .i64 _ _).trans (by simp))
    · exact step_move rfl trivial _ rfl (by kernel_rfl)
    · exact step_load rfl (by exact ⟨_, rfl, by kernel_rfl⟩) _ _ _ rfl rfl (fun w hw => whole4 w _ M hw.2.2)
    · exact step_load rfl (by exact ⟨_, rfl, by kernel_rfl⟩) _ _ _ rfl rfl (fun w hw => whole4 w _ N hw.2.1)
    · exact step_call rfl (by exact ⟨_, rfl, by kernel_rfl⟩) 10 _ _ [(sv N)] rfl (by kernel_rfl) (enters_of Tryd.func10 (by kernel_rfl) rfl) (fun w hw => (hrc w).mono (by rintro e w' ⟨rfl, hb⟩; exact ⟨rfl, hw.1.carry hb, hw.2.1.carry hb, hw.2.2.carry hb⟩))
    · exact step_binOp rfl (by exact ⟨_, rfl, by kernel_rfl⟩) _ _ _ _ _ _ _ rfl rfl rfl (fun w hw => neqs rfl hMl w)
    · exact step_pick rfl trivial _ _ _ false rfl (by kernel_rfl) (by kernel_rfl)
  intro W hW
  first | refine hK _ _ ?_ | refine (‹∀ (a : Act) (w : World), Code.wp Tryd.prog _ _ a w → _›) _ _ ?_
  simp only [finL, List.getD_cons_zero, List.getD_cons_succ, Nat.zero_add, Nat.reduceAdd, List.setIfInBounds_toArray, List.set_cons_zero, List.set_cons_succ]
  obtain ⟨hL9, hS9, _⟩ := hW
  clear hL8 hS8 hT8 hL
  go_wp2
  obtain ⟨W1, hW1⟩ : ∃ x, x = W := ⟨_, rfl⟩
  obtain ⟨nb, hnb⟩ : ∃ s, W.heap.size = s := ⟨_, rfl⟩
  obtain ⟨W2, hW2⟩ : ∃ x, W.alloc (.cells #[.int .i64 0] 3) = x := ⟨_, rfl⟩
  have hN2 : W2.heap[nb]? = some (.cells #[.int .i64 0] 3) := by rw [← hW2, ← hnb]; exact get_new rfl
  have hLB : LR w bb (kk + 1) ks W2 := by rw [← hW2]; exact hL9.carry (alloc_below _ _)
  have hSB : Holds4 W2 sb (wd N) := by rw [← hW2]; exact get_old hS9
  have hB2 : Below nb W1 W2 := by rw [hW1, ← hW2, ← hnb]; exact alloc_below _ _
  rw [hW2, hnb]
  have hL1 : LR w bb (kk + 1) ks W1 := by rw [hW1]; exact hL9
  have hnb1 : W1.heap.size = nb := by rw [hW1]; exact hnb
  have hS1 : Holds4 W1 sb (wd N) := by rw [hW1]; exact hS9
  clear hL9 hS9
  have hA1 : ∀ V, Calls Tryd.prog 11 #[sv N] V fun e w' => e = .returned (allF V.heap.size) ∧ Below V.heap.size V w' ∧ Holds4 w' V.heap.size (wd M) := fun V => by
    have := all_any N V
    rw [HM.out] at this
    exact this
  obtain ⟨M0, hM0⟩ : ∃ M, cln N0 = M := ⟨_, rfl⟩
  have hA0 : ∀ V, Calls Tryd.prog 11 #[sv N0] V fun e w' => e = .returned (allF V.heap.size) ∧ Below V.heap.size V w' ∧ Holds4 w' V.heap.size (wd M0) := fun V => by
    have := all_any N0 V
    rw [hM0] at this
    exact this
  refine wp_region_any hmx ?_
  refine wpAny_tabG (G := (Nat × Nat × Nat)) (fun g i__ => ([(sv N), (allF g.1), (.slice (some ⟨gb, off, none⟩) K cap), (.pointer (some ⟨gb, off, none⟩)), (sv N0), (allF g.2.1), (.pointer (some ⟨g.2.2, 0, none⟩)), (allF g.1), undef] : List Value).getD i__ undef) (fun g d V => JF W2 M M0 g (d 1) (d 5) (d 6) (d 8) V) (by kernel_rfl) ((0, 0, 0)) (show JF W2 M M0 (0, 0, 0) false false false false _ from ⟨(Below.refl _ _).drew, (fun e => by cases e), (fun e => by cases e), (fun e => by cases e)⟩) ?step1 ?fin1
  case step1 =>
    intro i o ho
    have hi : i < 9 := getElem?_lt ho
    match i, hi, ho with
    | 0, _, ho =>
      cases ho
      refine stepG_ofC (fun g d hun hdep hcl => ?_)
      exact step_load rfl trivial _ _ _ rfl rfl (fun w hw => whole4 w _ N (hSB.carry hw.bl))
    | 1, _, ho =>
      cases ho
      exact stepG_call rfl (fun _ => trivial) 11 _ _ (fun _ => [sv N]) rfl (fun g => by kernel_rfl) (enters_of Tryd.func11 (by kernel_rfl) rfl) (fun g d V hJ hun hdep hcl => (hA1 V).mono (by rintro e V' ⟨rfl, hb, hh⟩; refine ⟨(V.heap.size, g.2), rfl, (fun j hj => match j, hj with | 1, hj => (by rw [hj] at hun; cases hun) | 7, hj => absurd ((hcl 7 _ rfl hj 1 (by kernel_rfl))) (by rw [hun]; simp) | 0, _ => rfl | 2, _ => rfl | 3, _ => rfl | 4, _ => rfl | 5, _ => rfl | 6, _ => rfl | 8, _ => rfl | _ + 9, _ => rfl), ?_⟩; have hw := hJ; rw [hun] at hw; show JF W2 M M0 _ true (d 5) (d 6) (d 8) V'; exact hw.outer hb hh))
    | 2, _, ho =>
      cases ho
      refine stepG_ofC (fun g d hun hdep hcl => ?_)
      exact step_move rfl trivial _ rfl (by kernel_rfl)
    | 3, _, ho =>
      cases ho
      refine stepG_ofC (fun g d hun hdep hcl => ?_)
      exact step_indexAddr rfl trivial _ _ _ _ _ rfl rfl rfl (fun V hw => by have := idx_s gb off K cap 0 hK0 V; rw [Nat.zero_mul, Nat.add_zero] at this; exact this)
    | 4, _, ho =>
      cases ho
      refine stepG_ofC (fun g d hun hdep hcl => ?_)
      exact step_load rfl trivial _ _ _ rfl rfl (fun V hw => by obtain ⟨c0, c1, c2, c3⟩ := HSA.out V (hLB.bl.trans (hw.bl.mono hLB.bl.size)) 0 N0 HN0.out; simp only [Nat.zero_mul, Nat.add_zero] at c0 c1 c2 c3; exact load_s c0 c1 c2 c3)
    | 5, _, ho =>
      cases ho
      exact stepG_call rfl (fun _ => trivial) 11 _ _ (fun _ => [sv N0]) rfl (fun g => by kernel_rfl) (enters_of Tryd.func11 (by kernel_rfl) rfl) (fun g d V hJ hun hdep hcl => (hA0 V).mono (by rintro e V' ⟨rfl, hb, hh⟩; refine ⟨(g.1, V.heap.size, g.2.2), rfl, (fun j hj => match j, hj with | 5, hj => (by rw [hj] at hun; cases hun)  | 0, _ => rfl | 1, _ => rfl | 2, _ => rfl | 3, _ => rfl | 4, _ => rfl | 6, _ => rfl | 7, _ => rfl | 8, _ => rfl | _ + 9, _ => rfl), ?_⟩; have h8 : d 8 = false := (by cases h : d 8 with | false => rfl | true => exact absurd (hcl 8 _ rfl h 5 (by kernel_rfl)) (by rw [hun]; simp)); have hw := hJ; rw [hun, h8] at hw; show JF W2 M M0 _ (d 1) true (d 6) (d 8) V'; rw [h8]; exact hw.inner hb hh))
    | 6, _, ho =>
      cases ho
      exact stepG_newF rfl rfl rfl (fun g d V hJ hun hcl => by have h8 : d 8 = false := (by cases h : d 8 with | false => rfl | true => exact absurd (hcl 8 _ rfl h 6 (by kernel_rfl)) (by rw [hun]; simp)); have hw := hJ; rw [hun, h8] at hw; refine ⟨(g.1, g.2.1, V.heap.size), (fun j hj => match j, hj with | 6, hj => (by rw [hj] at hun; cases hun)  | 0, _ => rfl | 1, _ => rfl | 2, _ => rfl | 3, _ => rfl | 4, _ => rfl | 5, _ => rfl | 7, _ => rfl | 8, _ => rfl | _ + 9, _ => rfl), rfl, ?_⟩; show JF W2 M M0 _ (d 1) (d 5) true (d 8) _; rw [h8]; exact hw.new)
    | 7, _, ho =>
      cases ho
      refine stepG_ofC (fun g d hun hdep hcl => ?_)
      exact step_assign rfl trivial _ rfl (by kernel_rfl) (fun _ h => h)
    | 8, _, ho =>
      cases ho
      refine stepG_ofC (fun g d hun hdep hcl => ?_)
      exact step_store rfl trivial rfl _ _ _ _ _ rfl rfl rfl (fun V hw => by have h6 : d 6 = true := hdep 6 (by kernel_rfl); have h5 : d 5 = true := hdep 5 (by kernel_rfl); have h1 : d 1 = true := hcl 5 _ rfl h5 1 (by kernel_rfl); have hw' := hw; rw [h1, h5, h6] at hw'; refine ⟨_, hw'.store.1, ?_⟩; show JF W2 M M0 _ (d 1) (d 5) (d 6) true _; rw [h1, h5, h6]; exact hw'.store.2)
  intro g d W hall hW
  first | refine hK _ _ ?_ | refine (‹∀ (a : Act) (w : World), Code.wp Tryd.prog _ _ a w → _›) _ _ ?_ | skip
  simp only [finL, List.getD_cons_zero, List.getD_cons_succ, Nat.zero_add, Nat.reduceAdd, List.setIfInBounds_toArray, List.set_cons_zero, List.set_cons_succ]
  rw [hall 1 (by decide), hall 5 (by decide), hall 6 (by decide), hall 8 (by decide)] at hW
  obtain ⟨ob, ib, fb⟩ := g
  have hbl0 := hW.bl
  obtain ⟨hob, hoH⟩ := hW.o rfl
  obtain ⟨hib, hiH⟩ := hW.i rfl
  obtain ⟨hfb, hfH⟩ := hW.f rfl
  clear hall hW
  dsimp only at hob hoH hib hiH hfb hfH
  rw [if_pos rfl] at hfH
  have cF := cell_of hfH 0
  have hfn1 := fn_nil ob W
  have hfn0 := fn_nil ib W
  simp only [List.getElem?_toArray, List.getElem?_cons_zero] at cF
  have HFF : Hid (W.heap[fb]? = some (.cells #[allF ib] 51)) := hfH
  clear hfH
  simp only [allF] at cF ⊢
  go_wp2
  have hWn : W2.heap.size ≤ W.heap.size := hbl0.size
  have hnW2 : nb < W2.heap.size := lt_at hN2
  have hnW : W.heap[nb]? = some (.cells #[.int .i64 0] 3) := (hbl0.block _ hnW2).trans hN2
  have hb12 : Below nb W1 W := hB2.trans (hbl0.mono (by omega))
  have hwn : w.heap.size ≤ nb := by have := hL1.bl.size; omega
  have hXM : idsTo M 128 = X := by rw [← HM.out]; exact hX
  have hYM : idsTo M0 128 = Y := by rw [← hM0]; exact hY
  have hseq := all1_seq M ob W hoH
  rw [hXM] at hseq
  have hobl := lt_at hoH
  have hibl := lt_at hiH
  have hfbl := lt_at HFF.out
  have HOH : Hid (Holds4 W ob (wd M)) := hoH
  clear cF hfn1 hfn0 hN2 hoH hA1 hA0 hrd hal hLB hSB
  refine (wpIn_wide (n := 0)).1 ?_
  refine wp_rangeL (kb := 0) (gf := 19) (lb := #[.pointer (some ⟨ob, 0, none⟩)]) rfl (enters_of Tryd.func19 (by kernel_rfl) rfl) hseq hobl (fun _ => rfl)
    (fun pre V => Below nb W1 V ∧ V.heap[nb]? = some (.cells #[.int .i64 ((sm Y pre : Nat) : Int)] 3) ∧ Holds4 V ib (wd M0) ∧ V.heap[fb]? = some (.cells #[allF ib] 51))
    (fun _ _ _ => False)
    ((ownFrom_below (by omega) (by omega)).and (((blk_own nb (fun pre : List Nat => .cells #[.int .i64 ((sm Y pre : Nat) : Int)] 3) (fun _ => rfl)).from _).and (((blk_own ib (fun _ : List Nat => .cells (cells4 (wd M0)) 41) (fun _ => rfl)).from _).and ((blk_own fb (fun _ : List Nat => .cells #[allF ib] 51) (fun _ => rfl)).from _))))
    (fun _ _ _ _ _ hs _ _ => hs)
    ⟨hb12, hnW, hiH, HFF.out⟩
    (fun _ V h => hT.keep (hL1.bl.trans (h.1.mono hwn)) hT0)
    (fun x a' V => ∃ pb, W.heap.size + 2 ≤ pb ∧ V.heap[pb]? = some (.cells #[.int .i64 ((x : Nat) : Int)] 3) ∧ a' = ⟨#[Value.slice (some ⟨gb, off, none⟩) K cap, u1, u2, Value.pointer (some ⟨bb, 0, none⟩), Value.int IntKind.i64 ↑kk, Value.pointer (some ⟨sb, 0, none⟩), Value.slice (some ⟨g, 0, none⟩) nX nX, Value.pointer (some ⟨tb, 0, none⟩), Value.int IntKind.i64 0, Value.pointer (some ⟨nb, 0, none⟩), Value.func (Fn.func 19) #[] #[Value.pointer (some ⟨ob, 0, none⟩)], Value.pointer (some ⟨fb, 0, none⟩), .pointer (some ⟨pb, 0, none⟩), u13, u14, u15, u16, u17, u18, u19, u20, u21, u22, u23, u24, u25, u26, u27, u28, Value.int IntKind.i64 ↑kk, Value.slice (some ⟨gb, off, none⟩) K cap, Value.int IntKind.i64 ↑K, Value.int IntKind.i64 (2 * ↑K), Value.bool true, u34, u35, Value.slice (some ⟨gb, off, none⟩) K cap, Value.int IntKind.i64 ↑kk, Value.slice (some ⟨gb, off, none⟩) K cap, Value.int IntKind.i64 ↑K, Value.int IntKind.i64 ↑ix, Value.pointer (some ⟨gb, off + ix * 4, none⟩), Value.agg #[Value.int IntKind.u32 ↑(wd N 0), Value.int IntKind.u32 ↑(wd N 1), Value.int IntKind.u32 ↑(wd N 2), Value.int IntKind.u32 ↑(wd N 3)], Value.agg #[Value.int IntKind.u32 ↑(wd N 0), Value.int IntKind.u32 ↑(wd N 1), Value.int IntKind.u32 ↑(wd N 2), Value.int IntKind.u32 ↑(wd N 3)], Value.slice (some ⟨g, 0, none⟩) nX nX, Value.slice (some ⟨g, 0, none⟩) nX nX, Value.agg #[Value.int IntKind.u32 ↑(wd N 0), Value.int IntKind.u32 ↑(wd N 1), Value.int IntKind.u32 ↑(wd N 2), Value.int IntKind.u32 ↑(wd N 3)], Value.slice a4 nX c4, Value.bool true, Value.bool false, Value.pointer (some ⟨bb, 0, none⟩), Value.slice (some ⟨g, 0, none⟩) nX nX, v6, Value.tuple #[Value.agg #[Value.int IntKind.u32 ↑(wd M 0), Value.int IntKind.u32 ↑(wd M 1), Value.int IntKind.u32 ↑(wd M 2), Value.int IntKind.u32 ↑(wd M 3)], Value.int IntKind.i64 0], Value.slice (some ⟨g, 0, none⟩) nX nX, Value.tuple #[Value.agg #[Value.int IntKind.u32 ↑(wd M 0), Value.int IntKind.u32 ↑(wd M 1), Value.int IntKind.u32 ↑(wd M 2), Value.int IntKind.u32 ↑(wd M 3)], Value.int IntKind.i64 0], Value.agg #[Value.int IntKind.u32 ↑(wd M 0), Value.int IntKind.u32 ↑(wd M 1), Value.int IntKind.u32 ↑(wd M 2), Value.int IntKind.u32 ↑(wd M 3)], Value.int IntKind.i64 0, Value.int IntKind.i64 0, Value.bool false, Value.bool false, sv M, sv N, sv M, Value.bool false, Value.bool false, sv N, Value.func (Fn.func 19) #[] #[Value.pointer (some ⟨ob, 0, none⟩)], Value.slice (some ⟨gb, off, none⟩) K cap, Value.pointer (some ⟨gb, off, none⟩), sv N0, Value.func (Fn.func 19) #[] #[Value.pointer (some ⟨ib, 0, none⟩)], Value.func (Fn.func 19) #[] #[Value.pointer (some ⟨ob, 0, none⟩)], Value.bool false, Value.bool false, Value.func (Fn.func 19) #[] #[Value.pointer (some ⟨ib, 0, none⟩)], Value.bool false, Value.bool false, Value.func (Fn.func 19) #[] #[Value.pointer (some ⟨ob, 0, none⟩)], .int .i64 ((x : Nat) : Int), u80, u81, u82, u83, u84, u85, u86, u87, u88, u89, u90, u91, u92, u93, u94, u95, u96, u97, u98, u99, u100, u101, u102, u103, u104, u105, u106, u107, u108, u109, u110, u111, u112, u113, u114, u115, u116, u117, u118, u119, u120, u121, u122], []⟩)
    (fun x a' s A B row hs hg hr => by obtain ⟨pb, h1, h2, h3⟩ := hs; exact ⟨pb, h1, (grownBy_keeps_cells hg (fun r e => (hr r e).2) h2 rfl).trans h2, h3⟩)
    ?assign ?body ?done ?stop
  case assign =>
    rintro lp pre x V Kq ⟨h1, h2, h3, h4⟩ hsz hK
    gi_wp2
    exact hK _ _ (Kept.below (alloc_below _ _) (by omega) (by omega)) ⟨h1.alloc (by omega) _, get_old h2, get_old h3, get_old h4⟩ ⟨V.heap.size, by omega, get_new rfl, rfl⟩
  case stop =>
    rintro c pre V _ h _
    exact h.elim
  case body =>
    rintro lp pre x a' V hl1 hl2 ⟨r, hr⟩ ⟨h1, h2, h3, h4⟩ ⟨pb, hpb, hpx, rfl⟩ hsz hpr
    have cF2 := cell_of h4 0
    simp only [List.getElem?_toArray, List.getElem?_cons_zero, allF] at cF2
    have hseq2 := all1_seq M0 ib V h3
    rw [hYM] at hseq2
    have hpre : pre.length ≤ 128 := by have := hpr.length_le; simp at this; omega
    have hsmb := sm_le Y pre
    have hsm2 : sm Y pre ≤ 16384 := Nat.le_trans hsmb (Nat.mul_le_mul hpre hYc8)
    have hpbl := lt_at hpx
    have hv3 := lt_at h3
    have hv2 := lt_at h2
    clear hsmb
    gi_wp2
    refine wp_rangeN (kb := 0) (l0 := lp) (r0 := r) hr (gf := 19) (lb := #[.pointer (some ⟨ib, 0, none⟩)]) rfl (enters_of Tryd.func19 (by kernel_rfl) rfl) hseq2 hv3 (fun _ => rfl)
      (fun pre2 U => (∀ z ∈ pre2, z ≤ x) ∧ Tq nb V U ∧ U.heap[nb]? = some (.cells #[.int .i64 ((sm Y pre + pre2.length : Nat) : Int)] 3))
      (fun c _ U => c = .exit 4 ∧ Tq nb V U ∧ U.heap[nb]? = some (.cells #[.int .i64 ((sm Y pre + tw Y x : Nat) : Int)] 3))
      ((ownFrom_pure _ (fun pre2 : List Nat => ∀ z ∈ pre2, z ≤ x)).and ((Tq.own (Nat.le_refl _)).and ((blk_own nb (fun pre2 : List Nat => .cells #[.int .i64 ((sm Y pre + pre2.length : Nat) : Int)] 3) (fun _ => rfl)).from _)))
      (fun c => (ownFrom_pure _ (fun _ : List Nat => c = .exit 4)).and ((Tq.own (Nat.le_refl _)).and ((blk_own nb (fun _ : List Nat => .cells #[.int .i64 ((sm Y pre + tw Y x : Nat) : Int)] 3) (fun _ => rfl)).from _)))
      ⟨fun z hz => (by cases hz), Tq.refl _ _, h2⟩
      (fun _ U h => hT.keep (hL1.bl.trans ((h.2.1.below h1 (by omega)).mono hwn)) hT0)
      (fun y a' _ => a' = ⟨#[Value.slice (some ⟨gb, off, none⟩) K cap, u1, u2, Value.pointer (some ⟨bb, 0, none⟩), Value.int IntKind.i64 ↑kk, Value.pointer (some ⟨sb, 0, none⟩), Value.slice (some ⟨g, 0, none⟩) nX nX, Value.pointer (some ⟨tb, 0, none⟩), Value.int IntKind.i64 0, Value.pointer (some ⟨nb, 0, none⟩), Value.func (Fn.func 19) #[] #[Value.pointer (some ⟨ob, 0, none⟩)], Value.pointer (some ⟨fb, 0, none⟩), .pointer (some ⟨pb, 0, none⟩), .int .i64 ((y : Nat) : Int), u14, u15, u16, u17, u18, u19, u20, u21, u22, u23, u24, u25, u26, u27, u28, Value.int IntKind.i64 ↑kk, Value.slice (some ⟨gb, off, none⟩) K cap, Value.int IntKind.i64 ↑K, Value.int IntKind.i64 (2 * ↑K), Value.bool true, u34, u35, Value.slice (some ⟨gb, off, none⟩) K cap, Value.int IntKind.i64 ↑kk, Value.slice (some ⟨gb, off, none⟩) K cap, Value.int IntKind.i64 ↑K, Value.int IntKind.i64 ↑ix, Value.pointer (some ⟨gb, off + ix * 4, none⟩), Value.agg #[Value.int IntKind.u32 ↑(wd N 0), Value.int IntKind.u32 ↑(wd N 1), Value.int IntKind.u32 ↑(wd N 2), Value.int IntKind.u32 ↑(wd N 3)], Value.agg #[Value.int IntKind.u32 ↑(wd N 0), Value.int IntKind.u32 ↑(wd N 1), Value.int IntKind.u32 ↑(wd N 2), Value.int IntKind.u32 ↑(wd N 3)], Value.slice (some ⟨g, 0, none⟩) nX nX, Value.slice (some ⟨g, 0, none⟩) nX nX, Value.agg #[Value.int IntKind.u32 ↑(wd N 0), Value.int IntKind.u32 ↑(wd N 1), Value.int IntKind.u32 ↑(wd N 2), Value.int IntKind.u32 ↑(wd N 3)], Value.slice a4 nX c4, Value.bool true, Value.bool false, Value.pointer (some ⟨bb, 0, none⟩), Value.slice (some ⟨g, 0, none⟩) nX nX, v6, Value.tuple #[Value.agg #[Value.int IntKind.u32 ↑(wd M 0), Value.int IntKind.u32 ↑(wd M 1), Value.int IntKind.u32 ↑(wd M 2), Value.int IntKind.u32 ↑(wd M 3)], Value.int IntKind.i64 0], Value.slice (some ⟨g, 0, none⟩) nX nX, Value.tuple #[Value.agg #[Value.int IntKind.u32 ↑(wd M 0), Value.int IntKind.u32 ↑(wd M 1), Value.int IntKind.u32 ↑(wd M 2), Value.int IntKind.u32 ↑(wd M 3)], Value.int IntKind.i64 0], Value.agg #[Value.int IntKind.u32 ↑(wd M 0), Value.int IntKind.u32 ↑(wd M 1), Value.int IntKind.u32 ↑(wd M 2), Value.int IntKind.u32 ↑(wd M 3)], Value.int IntKind.i64 0, Value.int IntKind.i64 0, Value.bool false, Value.bool false, sv M, sv N, sv M, Value.bool false, Value.bool false, sv N, Value.func (Fn.func 19) #[] #[Value.pointer (some ⟨ob, 0, none⟩)], Value.slice (some ⟨gb, off, none⟩) K cap, Value.pointer (some ⟨gb, off, none⟩), sv N0, Value.func (Fn.func 19) #[] #[Value.pointer (some ⟨ib, 0, none⟩)], Value.func (Fn.func 19) #[] #[Value.pointer (some ⟨ob, 0, none⟩)], Value.bool false, Value.bool false, Value.func (Fn.func 19) #[] #[Value.pointer (some ⟨ib, 0, none⟩)], Value.bool false, Value.bool false, Value.func (Fn.func 19) #[] #[Value.pointer (some ⟨ob, 0, none⟩)], .int .i64 ((x : Nat) : Int), .func (.func 19) #[] #[.pointer (some ⟨ib, 0, none⟩)], .int .i64 ((y : Nat) : Int), u82, u83, u84, u85, u86, u87, u88, u89, u90, u91, u92, u93, u94, u95, u96, u97, u98, u99, u100, u101, u102, u103, u104, u105, u106, u107, u108, u109, u110, u111, u112, u113, u114, u115, u116, u117, u118, u119, u120, u121, u122], []⟩)
      (fun _ _ _ _ _ _ hs _ _ => hs) ?assign2 ?body2 ?done2 ?stop2
    case assign2 =>
      rintro l2 pre2 y U Kq hi hsz2 hK
      gi_wp2
      exact hK _ _ (Kept.refl _ _ _ _) hi rfl
    case body2 =>
      rintro l2 pre2 y a' U ⟨q1, q2, q3⟩ rfl hsz2 hpr2
      have hp2 : (pre2 ++ [y]).length ≤ Y.length := hpr2.length_le
      simp only [List.length_append, List.length_cons, List.length_nil] at hp2
      have cx : U.cell? ⟨pb, 0, none⟩ = some (.int .i64 ((x : Nat) : Int)) := cell_of ((q2.block pb hpbl (by omega)).trans hpx) 0
      have cn : U.cell? ⟨nb, 0, none⟩ = some (.int .i64 ((sm Y pre + pre2.length : Nat) : Int)) := cell_of q3 0
      have fn := frozen_of q3 0
      by_cases hyx : y ≤ x
      · have e1 : ¬ (y : Int) > (x : Int) := by omega
        have e2 : ¬ (x : Int) < (y : Int) := by omega
        gi_wp2
        refine ⟨Kept.setCell (by omega) (by omega), fun z hz => ?_, q2.set _, ?_⟩
        · rcases List.mem_append.1 hz with hz | hz
          · exact q1 z hz
          · rw [List.mem_singleton.1 hz]; exact hyx
        · rw [set_get 0 _ q3]
          simp
          omega
      · have e1 : (y : Int) > (x : Int) := by omega
        have e2 : (x : Int) < (y : Int) := by omega
        gi_wp2
        refine ⟨Kept.refl _ _ _ _, rfl, q2, ?_⟩
        rw [tw_stop hpr2 q1 (by omega)]
        exact q3
    case done2 =>
      rintro U ⟨q1, q2, q3⟩
      gi_wp2
      refine ⟨q2.kept (by omega) (by omega) (by omega) (by omega), q2.below h1 (by omega), ?_, (q2.block _ hv3 (by omega)).trans h3, (q2.block _ (lt_at h4) (by omega)).trans h4⟩
      rw [sm_snoc, tw_all q1]
      exact q3
    case stop2 =>
      rintro c pre2 U _ ⟨rfl, q2, q3⟩
      gi_wp2
      refine ⟨q2.kept (by omega) (by omega) (by omega) (by omega), q2.below h1 (by omega), ?_, (q2.block _ hv3 (by omega)).trans h3, (q2.block _ (lt_at h4) (by omega)).trans h4⟩
      rw [sm_snoc]
      exact q3
  case done =>
    rintro V ⟨h1, h2, h3, h4⟩ hKm
    have hB1V : Below W1.heap.size W1 V := by rw [hnb1]; exact h1
    have hLV := hL1.carry hB1V
    have hSV := hS1.carry hB1V
    have hLm : LR w bb (kk + 1) (W.heap.size :: ks) V := ⟨hLV.jq, hLV.ms.cons (by omega) (fun j hj => by have := hL1.ms.lt j hj; omega) hKm, hLV.bl⟩
    obtain ⟨kb, hkb⟩ : ∃ s, W.heap.size = s := ⟨_, rfl⟩
    rw [hkb] at hLm
    obtain ⟨nY, hnY⟩ : ∃ n, Y.length = n := ⟨_, rfl⟩
    obtain ⟨YI, hYI⟩ : ∃ YI : List Int, Y.map (fun x : Nat => (x : Int)) = YI := ⟨_, rfl⟩
    rw [hnY, hYI] at hrd0
    have hYIl : YI.length = nY := by rw [← hYI, ← hnY]; simp
    have hXIn : XI.length = nX := by have := HX.out; omega
    have HYI : Hid (Y.map (fun x : Nat => (x : Int)) = YI) := hYI
    have HNY : Hid (Y.length = nY) := hnY
    have hnY8 : nY ≤ 128 := by omega
    have HXL : Hid (XI.length = nX) := hXIn
    have HYL : Hid (YI.length = nY) := hYIl
    have hsmX : ∀ i, sm Y (X.take i) ≤ 16384 := fun i => Nat.le_trans (sm_le Y (X.take i)) (Nat.mul_le_mul (show (X.take i).length ≤ 128 from (by rw [List.length_take]; omega)) hYc8)
    have HSM := hsmX
    have hnbV := lt_at h2
    clear hKm hLV h1 h3 h4 hseq hYI hnY hYIl hXIn hXIl hXM hYM hb12 hnW hX hY
    rw [hkb]
    go_wp2
    refine wp_region_any hmx ?_
    refine wpAny_tabG (G := (Value × Value)) (fun g i__ => ([(sv N), g.1, (.slice (some ⟨gb, off, none⟩) K cap), (.pointer (some ⟨gb, off, none⟩)), (sv N0), g.2, g.1, g.2] : List Value).getD i__ undef) (fun g d U => JI V nX nY XI YI g (d 1) (d 5) U) (by kernel_rfl) ((undef, undef)) (show JI V nX nY XI YI (undef, undef) false false _ from ⟨(Below.refl _ _).drew, (fun e => by cases e), (fun e => by cases e)⟩) ?step2 ?fin2
    case step2 =>
      intro i o ho
      have hi : i < 8 := getElem?_lt ho
      match i, hi, ho with
      | 0, _, ho =>
        cases ho
        refine stepG_ofC (fun g d hun hdep hcl => ?_)
        exact step_load rfl trivial _ _ _ rfl rfl (fun w hw => whole4 w _ N (hSV.carry hw.bl))
      | 1, _, ho =>
        cases ho
        exact stepG_call rfl (fun _ => trivial) 7 _ _ (fun _ => [sv N]) rfl (fun g => by kernel_rfl) (enters_of Tryd.func7 (by kernel_rfl) rfl) (fun g d U hJ hun hdep hcl => (hrdA U).mono (by rintro e U' ⟨v, rfl, ho, hb⟩; refine ⟨(v, g.2), rfl, (fun j hj => match j, hj with | 1, hj => (by rw [hj] at hun; cases hun) | 6, hj => absurd ((hcl 6 _ rfl hj 1 (by kernel_rfl))) (by rw [hun]; simp) | 0, _ => rfl | 2, _ => rfl | 3, _ => rfl | 4, _ => rfl | 5, _ => rfl | 7, _ => rfl | _ + 8, _ => rfl), ?_⟩; have hw := hJ; show JI V nX nY XI YI _ true (d 5) U'; exact ⟨hw.bl.trans (hb.mono hw.bl.size), fun _ => row_base ho hw.bl.size, fun e => row_below (hw.b e) hb⟩))
      | 2, _, ho =>
        cases ho
        refine stepG_ofC (fun g d hun hdep hcl => ?_)
        exact step_move rfl trivial _ rfl (by kernel_rfl)
      | 3, _, ho =>
        cases ho
        refine stepG_ofC (fun g d hun hdep hcl => ?_)
        exact step_indexAddr rfl trivial _ _ _ _ _ rfl rfl rfl (fun V hw => by have := idx_s gb off K cap 0 hK0 V; rw [Nat.zero_mul, Nat.add_zero] at this; exact this)
      | 4, _, ho =>
        cases ho
        refine stepG_ofC (fun g d hun hdep hcl => ?_)
        exact step_load rfl trivial _ _ _ rfl rfl (fun U hw => by obtain ⟨c0, c1, c2, c3⟩ := HSA.out U (hLm.bl.trans (hw.bl.mono hLm.bl.size)) 0 N0 HN0.out; simp only [Nat.zero_mul, Nat.add_zero] at c0 c1 c2 c3; exact load_s c0 c1 c2 c3)
      | 5, _, ho =>
        cases ho
        exact stepG_call rfl (fun _ => trivial) 7 _ _ (fun _ => [sv N0]) rfl (fun g => by kernel_rfl) (enters_of Tryd.func7 (by kernel_rfl) rfl) (fun g d U hJ hun hdep hcl => (hrd0 U).mono (by rintro e U' ⟨v, rfl, ho, hb⟩; refine ⟨(g.1, v), rfl, (fun j hj => match j, hj with | 5, hj => (by rw [hj] at hun; cases hun) | 7, hj => absurd ((hcl 7 _ rfl hj 5 (by kernel_rfl))) (by rw [hun]; simp) | 0, _ => rfl | 1, _ => rfl | 2, _ => rfl | 3, _ => rfl | 4, _ => rfl | 6, _ => rfl | _ + 8, _ => rfl), ?_⟩; have hw := hJ; show JI V nX nY XI YI _ (d 1) true U'; exact ⟨hw.bl.trans (hb.mono hw.bl.size), fun e => row_below (hw.a e) hb, fun _ => row_base ho hw.bl.size⟩))
      | 6, _, ho =>
        cases ho
        refine stepG_ofC (fun g d hun hdep hcl => ?_)
        exact step_assign rfl trivial _ rfl (by kernel_rfl) (fun _ h => h)
      | 7, _, ho =>
        cases ho
        refine stepG_ofC (fun g d hun hdep hcl => ?_)
        exact step_assign rfl trivial _ rfl (by kernel_rfl) (fun _ h => h)
    intro g d W hall hW
    first | refine hK _ _ ?_ | refine (‹∀ (a : Act) (w : World), Code.wp Tryd.prog _ _ a w → _›) _ _ ?_ | skip
    simp only [finL, List.getD_cons_zero, List.getD_cons_succ, Nat.zero_add, Nat.reduceAdd, List.setIfInBounds_toArray, List.set_cons_zero, List.set_cons_succ]
    rw [hall 1 (by decide), hall 5 (by decide)] at hW
    obtain ⟨gv1, gv2⟩ := g
    have hoa := hW.a rfl
    have hobb := hW.b rfl
    dsimp only at hoa hobb
    obtain ⟨a1, c1, rfl, _⟩ := ownsRow_form hoa
    obtain ⟨a2, c2, rfl, _⟩ := ownsRow_form hobb
    have HRX : Hid (RdB W a1 XI) := (RdY.own (c := c1) (by rw [HXL.out]; exact hoa)).rd
    have HRY : Hid (RdB W a2 YI) := (RdY.own (c := c2) (by rw [HYL.out]; exact hobb)).rd
    have hbU := hW.bl
    obtain ⟨U, hU⟩ : ∃ U, U = W := ⟨_, rfl⟩
    rw [← hU] at HRX HRY hbU
    have hLU := hLm.carry hbU
    have hnU : U.heap[nb]? = some (.cells #[.int .i64 ((sm Y X : Nat) : Int)] 3) := (hbU.block _ hnbV).trans h2
    have hnUl := lt_at hnU
    rw [← hU]
    clear hall hW hoa hobb hLm h2
    go_wp2
    go_loopw [14, 17] (fun m i wz => ∃ ii : Nat, i = .int .i64 (ii : Int) ∧ ii ≤ nX ∧ m = .int .i64 ((sm Y (X.take ii) : Nat) : Int) ∧ Below U.heap.size U wz) (fun _ i _ => nX - vnat i)
    case atStart => exact ⟨0, rfl, Nat.zero_le _, rfl, Below.refl _ _⟩
    case round =>
      obtain ⟨ii, rfl, hii, rfl, hbw⟩ := hrel
      have hsi := HSM ii
      by_cases hil : ii < nX
      · have hili : (ii : Int) < (nX : Int) := by omega
        obtain ⟨x, hx⟩ : ∃ x, X[ii]? = some x := ⟨_, List.getElem?_eq_getElem (by rw [HX.out]; exact hil)⟩
        have HXx : Hid (X[ii]? = some x) := hx
        have hxI : XI[ii]? = some ((x : Nat) : Int) := by rw [← HXI.out, List.getElem?_map, hx]; rfl
        obtain ⟨gx, ox, rfl, hgx, hatx⟩ := HRX.out (fun e => by rw [e] at hxI; simp at hxI)
        have HCX : Hid (U.cell? ⟨gx, ox + ii, none⟩ = some (.int .i64 ((x : Nat) : Int))) := hatx ii _ hxI
        clear hx hxI hatx
        obtain ⟨SI, hSI⟩ : ∃ S, sm Y (X.take ii) = S := ⟨_, rfl⟩
        rw [hSI] at hsi ⊢
        have HSI : Hid (sm Y (X.take ii) = SI) := hSI
        clear hSI
        go_wp2
        go_loopw [14, 18] (fun m j wz => ∃ jj : Nat, j = .int .i64 (jj : Int) ∧ jj ≤ nY ∧ m = .int .i64 ((SI + jj : Nat) : Int) ∧ (∀ z ∈ Y.take jj, z ≤ x) ∧ Below U.heap.size U wz) (fun _ j _ => nY - vnat j)
        case atStart => exact ⟨0, rfl, Nat.zero_le _, rfl, fun z hz => (by simp at hz), hbw⟩
        case round =>
          obtain ⟨jj, rfl, hjj, rfl, hq, hbz⟩ := hrel
          have cx := HCX.out
          have HQ : Hid (∀ z ∈ Y.take jj, z ≤ x) := hq
          clear hq
          by_cases hjl : jj < nY
          · have hjli : (jj : Int) < (nY : Int) := by omega
            obtain ⟨y, hy⟩ : ∃ y, Y[jj]? = some y := ⟨_, List.getElem?_eq_getElem (by rw [HNY.out]; exact hjl)⟩
            have HYy : Hid (Y[jj]? = some y) := hy
            have hyI : YI[jj]? = some ((y : Nat) : Int) := by rw [← HYI.out, List.getElem?_map, hy]; rfl
            obtain ⟨gy, oy, rfl, hgy, haty⟩ := HRY.out (fun e => by rw [e] at hyI; simp at hyI)
            have cy := haty jj _ hyI
            clear hy hyI haty
            by_cases hyx : y ≤ x
            · go_wp2
              refine wp_region_any hmx ?_
              refine wpAny_pure (fun i__ => ([(.int .i64 (jj : Int)), (.slice (some ⟨gy, oy, none⟩) nY c2), (.int .i64 (nY : Int)), (.bool true), (.bool true), (.slice (some ⟨gy, oy, none⟩) nY c2), (.int .i64 (jj : Int)), (.pointer (some ⟨gy, oy + jj, none⟩)), (.int .i64 ((y : Nat) : Int)), (.slice (some ⟨gx, ox, none⟩) nX c1), (.int .i64 (ii : Int)), (.pointer (some ⟨gx, ox + ii, none⟩)), (.int .i64 ((x : Nat) : Int)), (.bool true), (.bool true)] : List Value).getD i__ undef) (fun Z => Below U.heap.size U Z) (by kernel_rfl) (hbz.drew) ?_ ?_
              · refine (stepsFrom_cons ?_ (stepsFrom_cons ?_ (stepsFrom_cons ?_ (stepsFrom_cons ?_ (stepsFrom_cons ?_ (stepsFrom_cons ?_ (stepsFrom_cons ?_ (stepsFrom_cons ?_ (stepsFrom_cons ?_ (stepsFrom_cons ?_ (stepsFrom_cons ?_ (stepsFrom_cons ?_ (stepsFrom_cons ?_ (stepsFrom_cons ?_ (stepsFrom_cons ?_ trivial)))))))))))))))
                · exact step_move rfl trivial _ rfl (by kernel_rfl)
                · exact step_move rfl trivial _ rfl (by kernel_rfl)
                · exact step_bi rfl trivial _ _ _ [(.slice (some ⟨gy, oy, none⟩) nY c2)] rfl (by kernel_rfl) (fun bs v hw => bi_lenb _ bs _ _ _ v)
                · exact step_binOp rfl trivial _ _ _ _ _ _ _ rfl rfl rfl (fun v hw => (bin_lss .i64 _ _).trans (by simp [hjl]))
                · exact step_move rfl trivial _ rfl (by kernel_rfl)
                · exact step_move rfl (by exact ⟨_, rfl, by kernel_rfl⟩) _ rfl (by kernel_rfl)
                · exact step_move rfl (by exact ⟨_, rfl, by kernel_rfl⟩) _ rfl (by kernel_rfl)
                · exact step_indexAddr rfl (by exact ⟨_, rfl, by kernel_rfl⟩) _ _ _ _ _ rfl rfl rfl (fun v hw => idx_bz gy oy _ _ jj hjl v)
                · exact step_load rfl (by exact ⟨_, rfl, by kernel_rfl⟩) _ _ _ rfl rfl (fun v hw => load_u8 ((hw.cell (p := ⟨gy, oy + jj, none⟩) hgy).trans cy))
                · exact step_move rfl (by exact ⟨_, rfl, by kernel_rfl⟩) _ rfl (by kernel_rfl)
                · exact step_move rfl (by exact ⟨_, rfl, by kernel_rfl⟩) _ rfl (by kernel_rfl)
                · exact step_indexAddr rfl (by exact ⟨_, rfl, by kernel_rfl⟩) _ _ _ _ _ rfl rfl rfl (fun v hw => idx_bz gx ox _ _ ii hil v)
                · exact step_load rfl (by exact ⟨_, rfl, by kernel_rfl⟩) _ _ _ rfl rfl (fun v hw => load_u8 ((hw.cell (p := ⟨gx, ox + ii, none⟩) hgx).trans cx))
                · exact step_binOp rfl (by exact ⟨_, rfl, by kernel_rfl⟩) _ _ _ _ _ _ _ rfl rfl rfl (fun v hw => (bin_leq .i64 _ _).trans (by simp; omega))
                · exact step_pick rfl trivial _ _ _ true rfl (by kernel_rfl) (by kernel_rfl)
              intro W hW
              first | refine hK _ _ ?_ | refine (‹∀ (a : Act) (w : World), Code.wp Tryd.prog _ _ a w → _›) _ _ ?_
              simp only [finL, List.getD_cons_zero, List.getD_cons_succ, Nat.zero_add, Nat.reduceAdd, List.setIfInBounds_toArray, List.set_cons_zero, List.set_cons_succ]
              go_wp2
              go_roundw
              case rel =>
                refine ⟨jj + 1, by simp, by omega, by simp; omega, fun z hz => ?_, hW⟩
                rw [List.take_add_one, HYy.out] at hz
                rcases List.mem_append.1 hz with hz | hz
                · exact HQ.out z hz
                · simp at hz; omega
              case measure => simp [vnat]; omega
            · go_wp2
              refine wp_region_any hmx ?_
              refine wpAny_pure (fun i__ => ([(.int .i64 (jj : Int)), (.slice (some ⟨gy, oy, none⟩) nY c2), (.int .i64 (nY : Int)), (.bool true), (.bool true), (.slice (some ⟨gy, oy, none⟩) nY c2), (.int .i64 (jj : Int)), (.pointer (some ⟨gy, oy + jj, none⟩)), (.int .i64 ((y : Nat) : Int)), (.slice (some ⟨gx, ox, none⟩) nX c1), (.int .i64 (ii : Int)), (.pointer (some ⟨gx, ox + ii, none⟩)), (.int .i64 ((x : Nat) : Int)), (.bool false), (.bool false)] : List Value).getD i__ undef) (fun Z => Below U.heap.size U Z) (by kernel_rfl) (hbz.drew) ?_ ?_
              · refine (stepsFrom_cons ?_ (stepsFrom_cons ?_ (stepsFrom_cons ?_ (stepsFrom_cons ?_ (stepsFrom_cons ?_ (stepsFrom_cons ?_ (stepsFrom_cons ?_ (stepsFrom_cons ?_ (stepsFrom_cons ?_ (stepsFrom_cons ?_ (stepsFrom_cons ?_ (stepsFrom_cons ?_ (stepsFrom_cons ?_ (stepsFrom_cons ?_ (stepsFrom_cons ?_ trivial)))))))))))))))
                · exact step_move rfl trivial _ rfl (by kernel_rfl)
                · exact step_move rfl trivial _ rfl (by kernel_rfl)
                · exact step_bi rfl trivial _ _ _ [(.slice (some ⟨gy, oy, none⟩) nY c2)] rfl (by kernel_rfl) (fun bs v hw => bi_lenb _ bs _ _ _ v)
                · exact step_binOp rfl trivial _ _ _ _ _ _ _ rfl rfl rfl (fun v hw => (bin_lss .i64 _ _).trans (by simp [hjl]))
                · exact step_move rfl trivial _ rfl (by kernel_rfl)
                · exact step_move rfl (by exact ⟨_, rfl, by kernel_rfl⟩) _ rfl (by kernel_rfl)
                · exact step_move rfl (by exact ⟨_, rfl, by kernel_rfl⟩) _ rfl (by kernel_rfl)
                · exact step_indexAddr rfl (by exact ⟨_, rfl, by kernel_rfl⟩) _ _ _ _ _ rfl rfl rfl (fun v hw => idx_bz gy oy _ _ jj hjl v)
                · exact step_load rfl (by exact ⟨_, rfl, by kernel_rfl⟩) _ _ _ rfl rfl (fun v hw => load_u8 ((hw.cell (p := ⟨gy, oy + jj, none⟩) hgy).trans cy))
                · exact step_move rfl (by exact ⟨_, rfl, by kernel_rfl⟩) _ rfl (by kernel_rfl)
                · exact step_move rfl (by exact ⟨_, rfl, by kernel_rfl⟩) _ rfl (by kernel_rfl)
                · exact step_indexAddr rfl (by exact ⟨_, rfl, by kernel_rfl⟩) _ _ _ _ _ rfl rfl rfl (fun v hw => idx_bz gx ox _ _ ii hil v)
                · exact step_load rfl (by exact ⟨_, rfl, by kernel_rfl⟩) _ _ _ rfl rfl (fun v hw => load_u8 ((hw.cell (p := ⟨gx, ox + ii, none⟩) hgx).trans cx))
                · exact step_binOp rfl (by exact ⟨_, rfl, by kernel_rfl⟩) _ _ _ _ _ _ _ rfl rfl rfl (fun v hw => (bin_leq .i64 _ _).trans (by simp; omega))
                · exact step_pick rfl trivial _ _ _ true rfl (by kernel_rfl) (by kernel_rfl)
              intro W hW
              first | refine hK _ _ ?_ | refine (‹∀ (a : Act) (w : World), Code.wp Tryd.prog _ _ a w → _›) _ _ ?_
              simp only [finL, List.getD_cons_zero, List.getD_cons_succ, Nat.zero_add, Nat.reduceAdd, List.setIfInBounds_toArray, List.set_cons_zero, List.set_cons_succ]
              go_wp2
              go_roundw
              case rel =>
                refine ⟨ii + 1, by simp, by omega, ?_, hW⟩
                have e1 : X.take (ii + 1) = X.take ii ++ [x] := by rw [List.take_add_one, HXx.out]; rfl
                rw [e1, sm_snoc, HSI.out, tw_at (j := jj) (by rw [HNY.out]; exact hjj) HQ.out (fun y2 h2 => by rw [HYy.out] at h2; cases h2; omega)]
                all_goals simp
              case measure => simp [vnat]; omega
          · have hjli : ¬ (jj : Int) < (nY : Int) := by omega
            go_wp2
            refine wp_region_any hmx ?_
            refine wpAny_pure (fun i__ => ([(.int .i64 (jj : Int)), (.slice a2 nY c2), (.int .i64 (nY : Int)), (.bool false), (.bool false), undef, undef, undef, undef, undef, undef, undef, undef, undef, (.bool false)] : List Value).getD i__ undef) (fun Z => Below U.heap.size U Z) (by kernel_rfl) (hbz.drew) ?_ ?_
            · refine (stepsFrom_cons ?_ (stepsFrom_cons ?_ (stepsFrom_cons ?_ (stepsFrom_cons ?_ (stepsFrom_cons ?_ (stepsFrom_cons ?_ (stepsFrom_cons ?_ (stepsFrom_cons ?_ (stepsFrom_cons ?_ (stepsFrom_cons ?_ (stepsFrom_cons ?_ (stepsFrom_cons ?_ (stepsFrom_cons ?_ (stepsFrom_cons ?_ (stepsFrom_cons ?_ trivial)))))))))))))))
              · exact step_move rfl trivial _ rfl (by kernel_rfl)
              · exact step_move rfl trivial _ rfl (by kernel_rfl)
              · exact step_bi rfl trivial _ _ _ [(.slice a2 nY c2)] rfl (by kernel_rfl) (fun bs v hw => bi_lenb _ bs _ _ _ v)
              · exact step_binOp rfl trivial _ _ _ _ _ _ _ rfl rfl rfl (fun v hw => (bin_lss .i64 _ _).trans (by simp; omega))
              · exact step_move rfl trivial _ rfl (by kernel_rfl)
              · exact step_skip rfl 4 true 103 (.bool false) rfl rfl (by kernel_rfl) (by intro h; cases h) rfl
              · exact step_skip rfl 4 true 103 (.bool false) rfl rfl (by kernel_rfl) (by intro h; cases h) rfl
              · exact step_skip rfl 4 true 103 (.bool false) rfl rfl (by kernel_rfl) (by intro h; cases h) rfl
              · exact step_skip rfl 4 true 103 (.bool false) rfl rfl (by kernel_rfl) (by intro h; cases h) rfl
              · exact step_skip rfl 4 true 103 (.bool false) rfl rfl (by kernel_rfl) (by intro h; cases h) rfl
              · exact step_skip rfl 4 true 103 (.bool false) rfl rfl (by kernel_rfl) (by intro h; cases h) rfl
              · exact step_skip rfl 4 true 103 (.bool false) rfl rfl (by kernel_rfl) (by intro h; cases h) rfl
              · exact step_skip rfl 4 true 103 (.bool false) rfl rfl (by kernel_rfl) (by intro h; cases h) rfl
              · exact step_skip rfl 4 true 103 (.bool false) rfl rfl (by kernel_rfl) (by intro h; cases h) rfl
              · exact step_pick rfl trivial _ _ _ false rfl (by kernel_rfl) (by kernel_rfl)
            intro W hW
            first | refine hK _ _ ?_ | refine (‹∀ (a : Act) (w : World), Code.wp Tryd.prog _ _ a w → _›) _ _ ?_
            simp only [finL, List.getD_cons_zero, List.getD_cons_succ, Nat.zero_add, Nat.reduceAdd, List.setIfInBounds_toArray, List.set_cons_zero, List.set_cons_succ]
            go_wp2
            go_roundw
            case rel =>
              refine ⟨ii + 1, by simp, by omega, ?_, hW⟩
              have e1 : X.take (ii + 1) = X.take ii ++ [x] := by rw [List.take_add_one, HXx.out]; rfl
              rw [e1, sm_snoc, HSI.out, tw_at (j := jj) (by rw [HNY.out]; exact hjj) HQ.out (fun y2 h2 => by have := (List.getElem?_eq_some_iff.1 h2).1; have := HNY.out; omega)]
              all_goals simp
            case measure => simp [vnat]; omega
      · have hkk2 : ii = nX := by omega
        subst hkk2
        have hili : ¬ (ii : Int) < (ii : Int) := by omega
        rw [List.take_of_length_le (by rw [HX.out]; exact Nat.le_refl _)]
        have cn : wr.cell? ⟨nb, 0, none⟩ = some (.int .i64 ((sm Y X : Nat) : Int)) := cell_of ((hbw.block _ hnUl).trans hnU) 0
        go_wp2
        refine ⟨?_, ?_⟩
        · refine ⟨kk + 1, kb :: ks, ?_⟩
          (repeat apply Exists.intro)
          exact ⟨⟨by omega, hLU.carry hbw⟩, rfl⟩
        · simp [vnat]
          omega

end Go.Proofs.YtoplegfibdmjeaaDoor
