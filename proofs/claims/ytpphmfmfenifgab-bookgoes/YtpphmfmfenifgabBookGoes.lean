/- BookGoes: at every n, self, tag, two lists of notices and a number: All goes through what List tells, as it was at the call, as far as it is asked, and again; no condition. -/
import Derived.Test.YtpphmfmfenifgabRows
import Derived.WalkKit
import Derived.ProofKit
import Derived.OpenShut
import Derived.Test.YtpphmfmfenifgabBkv
import Derived.Test.YtpphmfmfenifgabMrk
import Derived.Test.YtpphmfmfenifgabRgk
import Derived.Test.YtpphmfmfenifgabOpm
namespace Go.Proofs.Ytpphmfmfenifgab
open Go.ChangeShapes Go.WideShapes Go.ChangeAt Go.RowKit
set_option linter.unusedVariables false

theorem laidOut : laidOutB Try.prog = true := by kernel_rfl
theorem own : ownKnob Try.prog.godebug = none := by kernel_rfl
open Go.Shelf Go.Lib
attribute [local go_sem] Oper.semAt_some
theorem fn_nil (bx : Nat) (w : World) : (binOp .eql 40 (.func (.func 30) #[] #[.pointer (some ⟨bx, 0, none⟩)]) (.nilFunc)).run Try.prog w = .ok (.bool false) w := by kernel_rfl
theorem retBo {f : Func} {p : Tmp} {R : Ending → World → Prop} {a : Act} {w : World} {b : Nat} {x : Bool} (hres : f.results = #[.cell p 4]) (hp : a.tmps.getD p undef = .pointer (some ⟨b, 0, none⟩)) (hd : a.defers = []) (h : w.heap[b]? = some (.cells #[.bool x] 4 (0, 0))) (hR : R (.returned (.bool x)) w) : bodyPost Try.prog f R .ret a w := by
  refine bodyPost_ret (v := .bool x) ?_ hd hR
  have hp' : a.tmps[p]?.getD undef = .pointer (some ⟨b, 0, none⟩) := by simpa using hp
  have c0 := cell_at h 0
  simp at c0
  simp [results, hres, hp', asAddr]
  go_simp
theorem load_int {W : World} {b : Nat} {x : Int} (h : W.heap[b]? = some (.cells #[.int .i64 x] 3 (0, 0))) : (Instr.loadAt 3 (.pointer (some ⟨b, 0, none⟩))).run Try.prog W = .ok (.int .i64 x) W := by
  have c0 := cell_at h 0
  simp at c0
  go_simp
theorem RB.turn {W V : World} {p g b : Nat} {v : Value} {l : List N3} (h : RB W b v) (hk : Bk W p g l) (hg : W.grownBy V (some g)) : RB V b v := by
  refine (hg.block _ (lt_at h) (fun e => ?_)).trans h
  obtain rfl := Option.some.inj e
  have := hk.row.symm.trans h
  simp only [Option.some.injEq, Obj.cells.injEq] at this
  exact absurd this.2.1 (by decide)
theorem Bks.aside {w W : World} {L : List (Nat × Nat × List N3)} (h : Bks w L W) {b : Nat} {u : Value} (hr : RB W b u) (hb : w.heap.size ≤ b) (v : Value) : Bks w L (W.setCell ⟨b, 0, none⟩ v) := by
  refine ⟨fun i x hx => ?_, h.new, h.apart, h.below.setCell hb _⟩
  have hk := h.all i x hx
  have h1 : x.1 ≠ b := fun e => by
    have := hk.obj.symm.trans (e ▸ hr)
    simp only [Option.some.injEq, Obj.cells.injEq] at this
    exact absurd this.2.1 (by decide)
  have h2 : x.2.1 ≠ b := fun e => by
    have := hk.row.symm.trans (e ▸ hr)
    simp only [Option.some.injEq, Obj.cells.injEq] at this
    exact absurd this.2.1 (by decide)
  exact ⟨(Below.heap_setCell _ _ _ _ h1).trans hk.obj, (Below.heap_setCell _ _ _ _ h2).trans hk.row⟩
theorem frame_eq (X : Array Value) (h : X.size = 112) : ∃ U : Nat → Value, (∀ i, U i = X.getD i undef) ∧ X = #[U 0, U 1, U 2, U 3, U 4, U 5, U 6, U 7, U 8, U 9, U 10, U 11, U 12, U 13, U 14, U 15, U 16, U 17, U 18, U 19, U 20, U 21, U 22, U 23, U 24, U 25, U 26, U 27, U 28, U 29, U 30, U 31, U 32, U 33, U 34, U 35, U 36, U 37, U 38, U 39, U 40, U 41, U 42, U 43, U 44, U 45, U 46, U 47, U 48, U 49, U 50, U 51, U 52, U 53, U 54, U 55, U 56, U 57, U 58, U 59, U 60, U 61, U 62, U 63, U 64, U 65, U 66, U 67, U 68, U 69, U 70, U 71, U 72, U 73, U 74, U 75, U 76, U 77, U 78, U 79, U 80, U 81, U 82, U 83, U 84, U 85, U 86, U 87, U 88, U 89, U 90, U 91, U 92, U 93, U 94, U 95, U 96, U 97, U 98, U 99, U 100, U 101, U 102, U 103, U 104, U 105, U 106, U 107, U 108, U 109, U 110, U 111] := by
  refine ⟨fun i => X.getD i undef, fun _ => rfl, ?_⟩
  have e : X = ((List.range 112).map (fun i => X.getD i undef)).toArray := by
    apply Array.ext
    · simp [h]
    · intro i h1 h2
      simp [Array.getD, h1]
  exact e
/-- What lies where, while All is gone through. -/
structure JG (w wb : World) (L : List N3) (n cap br bx gt gr off : Nat) (W : World) : Prop where
  i : RB W br (.slice (some ⟨gr, off, none⟩) n cap)
  l : NtsAt W gr off L
  gl : gr < W.heap.size
  b : SB W bx gt L
  below : Below wb.heap.size wb W
theorem JG.carry {w wb : World} {L : List N3} {n cap br bx gt gr off : Nat} {W V : World} (h : JG w wb L n cap br bx gt gr off W) (hb : Below W.heap.size W V) : JG w wb L n cap br bx gt gr off V :=
  ⟨h.i.carry hb, h.l.carry h.gl hb, Nat.lt_of_lt_of_le h.gl hb.size, ⟨(hb.block _ (lt_at h.b.box)).trans h.b.box, (hb.block _ (lt_at h.b.row)).trans h.b.row⟩, bel2 h.below hb⟩
theorem nts_kept {X Y : World} {g off : Nat} {row : Option Nat} {L : List N3} (h : NtsAt X g off L) (hg : X.grownBy Y row) (hr : ∀ r, row = some r → ∃ o : Obj, X.heap[r]? = some o ∧ o.isCells = false) : NtsAt Y g off L := fun k x hk => by
  obtain ⟨c0, c1, c2⟩ := h k x hk
  exact ⟨cell_kept c0 hg hr, cell_kept c1 hg hr, cell_kept c2 hg hr⟩
theorem jg_own {w wb : World} {L : List N3} {n cap br bx gt gr off B : Nat} (hB : wb.heap.size ≤ B) {β : Type} : OwnFrom B (fun (_ : β) W => JG w wb L n cap br bx gt gr off W) := by
  intro s X Y row h hg hr
  have hr' : ∀ r, row = some r → ∃ o : Obj, X.heap[r]? = some o ∧ o.isCells = false := fun r e => (hr r e).2
  exact ⟨(grownBy_keeps_cells hg hr' h.i rfl).trans h.i, nts_kept h.l hg hr', Nat.lt_of_lt_of_le h.gl hg.size, ⟨(grownBy_keeps_cells hg hr' h.b.box rfl).trans h.b.box, (grownBy_keeps_cells hg hr' h.b.row rfl).trans h.b.row⟩, ownFrom_below (β := Unit) (Nat.le_refl _) hB () X Y row h.below hg hr⟩
theorem JG.set {w wb : World} {L : List N3} {n cap br bx gt gr off : Nat} {W : World} {B : Nat} (h : JG w wb L n cap br bx gt gr off W) (u : Value) (h1 : B ≠ br) (h2 : B ≠ gr) (h3 : B ≠ bx) (h4 : B ≠ gt) (h6 : wb.heap.size ≤ B) : JG w wb L n cap br bx gt gr off (W.setCell ⟨B, 0, none⟩ u) :=
  ⟨(set_other h1.symm).trans h.i, h.l.aside h2.symm, by simpa using h.gl, ⟨(set_other h3.symm).trans h.b.box, (set_other h4.symm).trans h.b.row⟩, h.below.setCell (p := ⟨B, 0, none⟩) h6 u⟩
set_option maxHeartbeats 8000000 in
set_option maxRecDepth 100000 in
theorem goes_in (N s : Nat) (a2 a5 : Int) (ad3 ad4 : Option Addr) (cap3 cap4 : Nat) (l3 l4 : List N3) (w : World) (h1 : ¬ ((N : Int) < 1 ∨ 100 < (N : Int))) (h2 : ¬ ((s : Int) < 0 ∨ (N : Int) ≤ (s : Int))) (h3 : ¬ (a2 < 0 ∨ 1048576 < a2)) (hl3 : l3.length ≤ 300) (hl4 : l4.length ≤ 300) (w3 : RdN w ad3 l3) (w4 : RdN w ad4 l4) :
    CallsIn Fence.wide 0 Try.prog 3 #[.int .i64 (N : Int), .int .i64 (s : Int), .int .i64 a2, .slice ad3 l3.length cap3, .slice ad4 l4.length cap4, .int .i64 a5] w fun e w' => e = .returned (.bool true) ∧ Below w.heap.size w w' := by
  have hmx : Try.prog.follows .mixedOrders = true := by kernel_rfl
  have hal := balive_any
  have HNW : Hid (∀ W, Calls Try.prog 5 #[.int .i64 (N : Int), .int .i64 (s : Int), .int .i64 a2] W fun e w' => ∃ p g, e = .returned (.tuple #[.pointer (some ⟨p, 0, none⟩), .int .i64 0]) ∧ W.heap.size ≤ p ∧ W.heap.size ≤ g ∧ Bk w' p g (bk0 N s a2) ∧ Below W.heap.size W w') := fun W => (new_any _ _ _ W).mono (fun e w' hV => by obtain ⟨p, g, e1, e2, e3, e4⟩ := hV.ok h1 h2 h3; exact ⟨p, g, e1, e2, e3, by simpa using e4, hV.1⟩)
  have HRN : Hid (∀ W, Calls Try.prog 6 #[.int .i64 (N : Int), .int .i64 (s : Int), .int .i64 a2] W fun e w' => ∃ ad cap, e = .returned (.tuple #[.agg #[.slice ad N cap], .int .i64 0]) ∧ RdN w' ad (bk0 N s a2) ∧ N ≤ cap ∧ (∀ a, ad = some a → W.heap.size ≤ a.block) ∧ Below W.heap.size W w') := fun W => (rNew_any _ _ _ W).mono (fun e w' hV => by obtain ⟨ad, cap, e1, e2, e3, e4⟩ := hV.ok h1 h2 h3; exact ⟨ad, cap, by simpa using e1, by simpa using e2, by simpa using e3, e4, hV.1⟩)
  have HB0 : Hid (Bok (bk0 N s a2)) := bk0_bok (by omega) (by omega)
  have HL0 : Hid ((bk0 N s a2).length = N ∧ 1 ≤ N ∧ N ≤ 100) := ⟨bk0_len _ _ _, by omega, by omega⟩
  clear h1 h2 h3
  generalize bk0 N s a2 = L0 at HNW HRN HB0 HL0
  obtain ⟨L, hL⟩ : ∃ L, mrg L0 l3 = L := ⟨_, rfl⟩
  have HLL : Hid (mrg L0 l3 = L) := hL
  have HLN : Hid (L.length = N) := by show L.length = N; rw [← hL]; exact (mrg_len HB0.out l3).trans HL0.out.1
  clear hL
  have HW3 : Hid (RdN w ad3 l3) := w3
  have HW4 : Hid (RdN w ad4 l4) := w4
  have hfn := fn_nil
  obtain ⟨wb, hwb⟩ : ∃ wb, (w.alloc (.cells #[.int .i64 a5] 3)).alloc (.cells #[.bool false] 4) = wb := ⟨_, rfl⟩
  have hwz : wb.heap.size = w.heap.size + 2 := by rw [← hwb]; simp
  have hst : wb.heap[w.heap.size]? = some (.cells #[.int .i64 a5] 3 (0, 0)) := by rw [← hwb]; exact old_at (new_at rfl)
  have hrs : wb.heap[w.heap.size + 1]? = some (.cells #[.bool false] 4 (0, 0)) := by rw [← hwb]; exact new_at (by simp)
  have hww : Below w.heap.size w wb := by rw [← hwb]; exact al2 _ _ _
  have hS0 : Bks wb [] wb := Bks.nil wb
  clear w3 w4
  refine callsIn_of_wp_marks Try.func3 rfl trivial ?_ rfl
  simp only [Try.ntmps3, List.size_toArray, List.length_cons, List.length_nil, Nat.reduceAdd, Nat.reduceSub, Array.replicate_succ, Array.replicate_zero, List.push_toArray, List.append_toArray, List.nil_append, List.cons_append]
  gi_wp2
  try rw [hwb]
  with_reducible (refine And.intro (wfn _) (And.intro wdep ?_))
  refine (callsIn_wide.2 (HNW.out _)).mono ?_
  rintro e u1 ⟨pb, gb, rfl, hp, hg, hk, hb⟩
  have hS1 : Bks wb [(pb, gb, L0)] u1 := hS0.add hb hk hp hg
  clear hS0 hp hg hk hb HNW
  gi_wp2
  with_reducible (refine And.intro (wfn _) (And.intro wdep ?_))
  refine (callsIn_wide.2 (HRN.out _)).mono ?_
  rintro e u2 ⟨adr, capr, rfl, hrr, hcr, har, hb⟩
  have hgu1 := (hS1.get 0 rfl).glt
  have hS2 := (hS1.carry hb).carry (al1 u2 (.cells #[.slice adr N capr] 28))
  have hrr2 := hrr.carry (al1 u2 (.cells #[.slice adr N capr] 28))
  have hrb2 : RB (u2.alloc (.cells #[.slice adr N capr] 28)) u2.heap.size (.slice adr N capr) := new_at rfl
  have hbr : wb.heap.size ≤ u2.heap.size := (hS1.carry hb).below.size
  have hgr : ∀ a, adr = some a → a.block ≠ gb := fun a ha => by have := har a ha; omega
  clear hS1 hrr hb HRN har hgu1
  obtain ⟨br, hbrd⟩ : ∃ br, u2.heap.size = br := ⟨_, rfl⟩
  obtain ⟨x2, hx2⟩ : ∃ x2, u2.alloc (.cells #[.slice adr N capr] 28) = x2 := ⟨_, rfl⟩
  rw [hx2] at hS2 hrr2 hrb2
  rw [hbrd] at hrb2 hbr
  have e301 : ¬ 300 < (l3.length : Int) := by omega
  have e302 : ¬ 300 < (l4.length : Int) := by omega
  gi_wp2
  try rw [hx2]
  try rw [hbrd]
  have k1 := merge_some (hS2.get 0 rfl) ad3 cap3 l3 ((HW3.out.carry hww).carry hS2.below) ((HW3.out.carry hww).ne (hS2.base 0 rfl)) (by omega)
  with_reducible (refine And.intro (wfn _) (And.intro wdep ?_))
  refine (callsIn_wide.2 k1).mono ?_
  rintro e v1 ⟨⟨MS, ME, rfl⟩, hk, hg⟩
  rw [HLL.out] at hk
  have hS3 : Bks wb [(pb, gb, L)] v1 := hS2.turn 0 rfl hk hg
  have hrb3 := hrb2.turn (hS2.get 0 rfl) hg
  have hrr3 := hrr2.turn hg (fun _ => hgr)
  clear k1 hk hg hS2 hrb2 hrr2 hx2 hbrd
  have cb3 := hrb3.cell
  gi_wp2
  have k2 := rmerge_some adr N capr L0 hrr3 HL0.out.1 HL0.out.2.1 HL0.out.2.2 hcr ad3 cap3 l3 ((HW3.out.carry hww).carry hS3.below) (by omega)
  with_reducible (refine And.intro (wfn _) (And.intro wdep ?_))
  refine (callsIn_wide.2 k2).mono ?_
  rintro e v2 ⟨adq, capq, SS, EE, rfl, hrq, hcq, haq, hb⟩
  rw [HLL.out] at hrq
  have hgq : ∀ a, adq = some a → a.block ≠ gb := fun a ha => by
    rcases haq with e | h
    · exact hgr a (e ▸ ha)
    · have h1 := h a ha; have h2 := (hS3.get 0 rfl).glt; omega
  have hrb4 := hrb3.carry hb
  have hS4 := (hS3.carry hb).aside hrb4 hbr (.slice adq N capq)
  have hrb5 := hrb4.set (.slice adq N capq)
  obtain ⟨gr, off, rfl, hgrl, hnt⟩ := hrq (fun e => by have := HLN.out; have := HL0.out.2.1; rw [e] at *; simp at *; omega)
  have hgb : gr ≠ gb := hgq _ rfl
  have hnr : gr ≠ br := fun e => by
    subst e
    have hpos : 0 < L.length := by rw [HLN.out]; exact HL0.out.2.1
    obtain ⟨x, hx⟩ : ∃ x, L[0]? = some x := ⟨_, List.getElem?_eq_getElem hpos⟩
    obtain ⟨c0, _, _⟩ := hnt 0 x hx
    rw [cell_at hrb4] at c0
    have := (Array.getElem?_eq_some_iff.1 c0).1
    have hoff : off = 0 := by simp at this; omega
    subst hoff
    simp at c0
  have hnt5 := hnt.aside (j := 0) (v := .slice (some ⟨gr, off, none⟩) N capq) hnr
  have cb4 := hrb4.cell
  have fb4 := hrb4.thaw
  clear k2 hS3 hrb3 hrr3 hb haq hgq hrb4 cb3 hnt hgr hcr
  obtain ⟨x4, hx4⟩ : ∃ x4, v2.setCell ⟨br, 0, none⟩ (.slice (some ⟨gr, off, none⟩) N capq) = x4 := ⟨_, rfl⟩
  have hgl5 : gr < x4.heap.size := by rw [← hx4]; simpa using hgrl
  rw [hx4] at hS4 hrb5 hnt5
  gi_wp2
  try rw [hx4]
  with_reducible (refine And.intro (wfn _) (And.intro wdep ?_))
  refine (callsIn_wide.2 (hal _)).mono ?_
  rintro e v3 ⟨rfl, hb⟩
  have hS5 := hS4.carry hb
  have hrb6 := hrb5.carry hb
  have hnt6 := hnt5.carry hgl5 hb
  have hgl6 := Nat.lt_of_lt_of_le hgl5 hb.size
  clear hS4 hrb5 hnt5 hgl5 hb hx4 hgrl cb4 fb4
  gi_wp2
  have k3 := ball_any (hS5.get 0 rfl) (by rw [HLN.out]; exact HL0.out.2.1) (by rw [HLN.out]; exact HL0.out.2.2)
  with_reducible (refine And.intro (wfn _) (And.intro wdep ?_))
  refine (callsIn_wide.2 k3).mono ?_
  rintro e v4 ⟨bx, gt, rfl, hgt, hbx, hsb, hb⟩
  have hgb5 := (hS5.get 0 rfl).glt
  have hS6 := hS5.carry hb
  have hrb7 := hrb6.carry hb
  have hnt7 := hnt6.carry hgl6 hb
  have hgl7 := Nat.lt_of_lt_of_le hgl6 hb.size
  have hbrl := lt_at hrb6
  clear hS5 hrb6 hnt6 hb k3
  have hfn1 := hfn bx
  clear hfn
  gi_wp2
  have k4 := merge_some (hS6.get 0 rfl) ad4 cap4 l4 ((HW4.out.carry hww).carry hS6.below) ((HW4.out.carry hww).ne (hS6.base 0 rfl)) (by omega)
  with_reducible (refine And.intro (wfn _) (And.intro wdep ?_))
  refine (callsIn_wide.2 k4).mono ?_
  rintro e v5 ⟨⟨MS2, ME2, rfl⟩, hk, hg⟩
  have hS7 : Bks wb [(pb, gb, mrg L l4)] v5 := hS6.turn 0 rfl hk hg
  have hrb8 := hrb7.turn (hS6.get 0 rfl) hg
  have hnt8 : NtsAt v5 gr off L := fun q x hq => by
    obtain ⟨c0, c1, c2⟩ := hnt7 q x hq
    have hb : v5.heap[gr]? = v4.heap[gr]? := hg.block gr hgl7 (by simpa using hgb)
    exact ⟨(World.cell?_of_block (a := ⟨gr, _, none⟩) hb).trans c0, (World.cell?_of_block (a := ⟨gr, _, none⟩) hb).trans c1, (World.cell?_of_block (a := ⟨gr, _, none⟩) hb).trans c2⟩
  have hJ : JG w wb L N capq br bx gt gr off v5 := ⟨hrb8, hnt8, Nat.lt_of_lt_of_le hgl7 hg.size, ⟨(hg.block _ (lt_at hsb.box) (by simp only [ne_eq, Option.some.injEq]; omega)).trans hsb.box, (hg.block _ (lt_at hsb.row) (by simp only [ne_eq, Option.some.injEq]; omega)).trans hsb.row⟩, hS7.below⟩
  clear k4 hk hg hS6 hS7 hrb7 hrb8 hnt7 hnt8 hfn1 hsb
  gi_wp2
  refine wpIn_loop (fun a Wo => ∃ (k : Nat) (ks : List Nat), k ≤ 2 ∧ a.tmps.size = 112 ∧ a.tmps.getD 11 undef = .pointer (some ⟨w.heap.size, 0, none⟩) ∧ a.tmps.getD 12 undef = .pointer (some ⟨w.heap.size + 1, 0, none⟩) ∧ a.tmps.getD 15 undef = .pointer (some ⟨br, 0, none⟩) ∧ a.tmps.getD 17 undef = .func (.func 30) #[] #[.pointer (some ⟨bx, 0, none⟩)] ∧ a.tmps.getD 18 undef = .int .i64 ((k : Nat) : Int) ∧ a.defers = ks.map mark ∧ Marks wb.heap.size ks Wo ∧ JG w wb L N capq br bx gt gr off Wo) (fun a _ => 2 - vnat (a.tmps.getD 18 undef)) ?_ ?_
  · exact ⟨0, [], by omega, rfl, rfl, rfl, rfl, rfl, rfl, rfl, Marks.nil _ _, hJ⟩
  · rintro ⟨X, DD⟩ Wo ⟨k, ks, hk, hsz, g11, g12, g15, g17, g18, hdd, hmk, hJW⟩
    clear hJ
    dsimp only at hsz g11 g12 g15 g17 g18 hdd
    obtain ⟨U, hU, hX⟩ := frame_eq X hsz
    rw [(hU 11).trans g11, (hU 12).trans g12, (hU 15).trans g15, (hU 17).trans g17, (hU 18).trans g18] at hX
    clear hU g11 g12 g15 g17 g18 hsz
    subst hX hdd
    by_cases hk2 : k < 2
    · have hki : (k : Int) < 2 := by omega
      gi_wp2
      obtain ⟨W1, hW1⟩ : ∃ W1, Wo.alloc (.cells #[.int .i64 0] 3) = W1 := ⟨_, rfl⟩
      have z1 : W1.heap.size = Wo.heap.size + 1 := by rw [← hW1]; simp
      have n1 : W1.heap[Wo.heap.size]? = some (.cells #[.int .i64 0] 3 (0, 0)) := by rw [← hW1]; exact new_at rfl
      have j1 : JG w wb L N capq br bx gt gr off W1 := by rw [← hW1]; exact hJW.carry (al1 Wo _)
      have m1 : Marks wb.heap.size ks W1 := by rw [← hW1]; exact hmk.carry (al1 Wo _)
      have hwz2 : wb.heap.size ≤ Wo.heap.size := hJW.below.size
      have mlt : ∀ q ∈ ks, q < Wo.heap.size := hmk.lt
      have q1 := lt_at hJW.i
      have q2 := hJW.gl
      have q3 := lt_at hJW.b.box
      have q4 := lt_at hJW.b.row
      try rw [hW1]
      clear hW1 hJW hmk
      refine wp_rangeE (kb := 0) (gf := 30) (lb := #[.pointer (some ⟨bx, 0, none⟩)]) rfl (enters_of Try.func30 (by kernel_rfl) rfl)
        (all1_seq L bx gt _ (by rw [HLN.out]; exact HL0.out.2.2) j1.b) (by omega) (fun _ => rfl)
        (fun pre Wz => JG w wb L N capq br bx gt gr off Wz ∧ (Marks wb.heap.size ks Wz ∧ Wz.heap[Wo.heap.size]? = some (.cells #[.int .i64 (pre.length : Nat)] 3)))
        (fun c pre Wz => JG w wb L N capq br bx gt gr off Wz ∧ (Marks wb.heap.size ks Wz ∧ (Wz.heap[Wo.heap.size]? = some (.cells #[.int .i64 (pre.length : Nat)] 3) ∧ (c = .exit 2 ∧ (pre.length : Int) = a5))))
        ((jg_own (by omega)).and ((marks_own (fun q hq => by have := mlt q hq; omega)).and ((blk_own _ (fun pre : List N3 => .cells #[.int .i64 (pre.length : Nat)] 3) (fun _ => rfl)).from _)))
        (fun c => (jg_own (by omega)).and ((marks_own (fun q hq => by have := mlt q hq; omega)).and (((blk_own _ (fun pre : List N3 => .cells #[.int .i64 (pre.length : Nat)] 3) (fun _ => rfl)).from _).and (ownFrom_pure _ (fun pre : List N3 => c = .exit 2 ∧ (pre.length : Int) = a5)))))
        ⟨j1, m1, n1⟩ (fun _ _ _ => trivial)
        (fun x a' Wz => ∃ (B : Nat), a'.tmps.size = 112 ∧ a'.tmps.getD 11 undef = .pointer (some ⟨w.heap.size, 0, none⟩) ∧ a'.tmps.getD 12 undef = .pointer (some ⟨w.heap.size + 1, 0, none⟩) ∧ a'.tmps.getD 15 undef = .pointer (some ⟨br, 0, none⟩) ∧ a'.tmps.getD 19 undef = .pointer (some ⟨Wo.heap.size, 0, none⟩) ∧ a'.tmps.getD 20 undef = .pointer (some ⟨B, 0, none⟩) ∧ a'.defers = [] ∧ NB Wz B x.1 x.2.1 x.2.2)
        (fun x a' st X Y row hs hg hr => by
          obtain ⟨B, e0, e1, e2, e3, e4, e5, e6, hn⟩ := hs
          exact ⟨B, e0, e1, e2, e3, e4, e5, e6, (grownBy_keeps_cells hg (fun r q => (hr r q).2) hn rfl).trans hn⟩) ?assign ?body ?done ?stop
      case assign =>
        rintro lp pre ⟨o, t, q⟩ Wz K ⟨hj, hm, hn⟩ hsz hK
        unfold nt
        gi_wp2
        refine hK _ _ (Kept.below (al1 _ _) (by omega) (by omega)) ⟨hj.carry (al1 _ _), hm.carry (al1 _ _), old_at hn⟩ ?_
        exact ⟨_, rfl, rfl, rfl, rfl, rfl, rfl, rfl, NB.new _ _ _ _⟩
      case body =>
        rintro lp pre ⟨o, t, q⟩ ⟨X, DD⟩ Wz ⟨hj, hm, hn⟩ ⟨B, hxz, g11, g12, g15, g19, g20, hdd, hnb⟩ hsz hpr
        dsimp only at hxz g11 g12 g15 g19 g20 hdd
        obtain ⟨U', hU, hX⟩ := frame_eq X hxz
        rw [(hU 11).trans g11, (hU 12).trans g12, (hU 15).trans g15, (hU 19).trans g19, (hU 20).trans g20] at hX
        clear hU g11 g12 g15 g19 g20 hxz
        subst hX hdd
        have hpl : (pre ++ [(o, t, q)]).length ≤ L.length := hpr.length_le
        simp only [List.length_append, List.length_cons, List.length_nil] at hpl
        have hx := pfx_at hpr
        have hLN := HLN.out
        have hlt : pre.length < N := by omega
        have HX : Hid (L[pre.length]? = some (o, t, q)) := hx
        have hj' : Hid (JG w wb L N capq br bx gt gr off Wz) := hj
        have hn' : Hid (Wz.heap[Wo.heap.size]? = some (.cells #[.int .i64 (pre.length : Nat)] 3)) := hn
        have hnb' : Hid (NB Wz B o t q) := hnb
        have HM : Hid (Marks wb.heap.size ks Wz) := hm
        have n100 : N ≤ 100 := HL0.out.2.2
        clear hx hj hn hnb hm hpr hpl hLN
        gi_wp2
        refine wpIn_region_any hmx ?_
        refine wpAnyIn_pure (fun i__ => ([(.int .i64 (pre.length : Nat)), (.pointer (some ⟨br, 0, none⟩)), (.slice (some ⟨gr, off, none⟩) N capq), (.int .i64 (N : Int)), (.bool false), (.bool false), (nt o t q), (.pointer (some ⟨br, 0, none⟩)), (.slice (some ⟨gr, off, none⟩) N capq), (.int .i64 (pre.length : Nat)), (.pointer (some ⟨gr, off + pre.length * 3, none⟩)), (nt o t q), (.bool false), (.bool false)] : List Value).getD i__ undef) (fun V => JG w wb L N capq br bx gt gr off V ∧ NB V B o t q ∧ V.heap[Wo.heap.size]? = some (.cells #[.int .i64 (pre.length : Nat)] 3) ∧ Marks wb.heap.size ks V ∧ Kept gt W1.heap.size (0 + 2) Wz V) (by kernel_rfl) ⟨hj'.out.carry (Below.refl _ _).drew, hnb'.out, hn'.out, HM.out.carry (Below.refl _ _).drew, ⟨Nat.le_refl _, rfl, fun _ _ _ => rfl⟩⟩ ?_ ?_
        · refine (stepsFrom_cons ?_ (stepsFrom_cons ?_ (stepsFrom_cons ?_ (stepsFrom_cons ?_ (stepsFrom_cons ?_ (stepsFrom_cons ?_ (stepsFrom_cons ?_ (stepsFrom_cons ?_ (stepsFrom_cons ?_ (stepsFrom_cons ?_ (stepsFrom_cons ?_ (stepsFrom_cons ?_ (stepsFrom_cons ?_ (stepsFrom_cons ?_ trivial))))))))))))))
          · exact stepJ_load (wideF_round _) rfl trivial _ _ _ rfl rfl (fun w hw => load_int hw.2.2.1)
          · exact stepJ_fieldAddr (wideF_round _) rfl trivial _ _ _ _ rfl rfl (fun w hw => field_rb w _)
          · exact stepJ_load (wideF_round _) rfl trivial _ _ _ rfl rfl (fun w hw => load_rb hw.1.i)
          · exact stepJ_bi (wideF_round _) rfl trivial _ _ _ [(.slice (some ⟨gr, off, none⟩) N capq)] rfl (by kernel_rfl) (fun cs w hw => bi_lenN _ cs _ N capq w)
          · exact stepJ_binOp (wideF_round _) rfl trivial _ _ _ _ _ _ _ rfl rfl rfl (fun w hw => (bin_geq .i64 _ _).trans (by rw [decide_eq_false (show ¬ ((pre.length : Int) ≥ (N : Int)) by omega)]; rfl))
          · exact stepJ_move (wideF_round _) rfl trivial _ rfl (by kernel_rfl)
          · exact stepJ_load (wideF_round _) rfl (by exact ⟨_, rfl, by kernel_rfl⟩) _ _ _ rfl rfl (fun w hw => load_nt hw.2.1)
          · exact stepJ_fieldAddr (wideF_round _) rfl (by exact ⟨_, rfl, by kernel_rfl⟩) _ _ _ _ rfl rfl (fun w hw => field_rb w _)
          · exact stepJ_load (wideF_round _) rfl (by exact ⟨_, rfl, by kernel_rfl⟩) _ _ _ rfl rfl (fun w hw => load_rb hw.1.i)
          · exact stepJ_load (wideF_round _) rfl (by exact ⟨_, rfl, by kernel_rfl⟩) _ _ _ rfl rfl (fun w hw => load_int hw.2.2.1)
          · exact stepJ_indexAddr (wideF_round _) rfl (by exact ⟨_, rfl, by kernel_rfl⟩) _ _ _ _ _ rfl rfl rfl (fun w hw => idx_n gr off _ _ pre.length hlt w)
          · exact stepJ_load (wideF_round _) rfl (by exact ⟨_, rfl, by kernel_rfl⟩) _ _ _ rfl rfl (fun w hw => load_at hw.1.l HX.out)
          · exact stepJ_binOp (wideF_round _) rfl (by exact ⟨_, rfl, by kernel_rfl⟩) _ _ _ _ _ _ _ rfl rfl rfl (fun w hw => (bin_neqn _ _ _ _ _ _).trans (by simp))
          · exact stepJ_pick (wideF_round _) rfl trivial _ _ _ false rfl (by kernel_rfl) (by kernel_rfl)
        intro W hW
        first | refine hK _ _ ?_ | refine (‹∀ (a : Act) (w : World), Code.wpIn _ _ Try.prog _ _ a w → _›) _ _ ?_
        simp only [finL, List.getD_cons_zero, List.getD_cons_succ, Nat.zero_add, Nat.reduceAdd, List.setIfInBounds_toArray, List.set_cons_zero, List.set_cons_succ]
        obtain ⟨Wy, hWy⟩ : ∃ Wy, W = Wy := ⟨_, rfl⟩
        rw [hWy] at hW ⊢
        obtain ⟨hj2, hnb2, hn2, hm2, hk2'⟩ := hW
        clear hj' hn' hnb' HM hWy
        have cn : Wy.cell? ⟨Wo.heap.size, 0, none⟩ = some (.int .i64 (pre.length : Nat)) := cell_of hn2 0
        have fn := frozen_of hn2 0
        have hne1 : Wo.heap.size ≠ w.heap.size := by omega
        have cs : Wy.cell? ⟨w.heap.size, 0, none⟩ = some (.int .i64 a5) := cell_of ((hj2.below.block _ (by omega)).trans hst) 0
        have hj3 : Hid (JG w wb L N capq br bx gt gr off (Wy.setCell ⟨Wo.heap.size, 0, none⟩ (.int .i64 ((pre.length : Int) + 1)))) := hj2.set _ (by omega) (by omega) (by omega) (by omega) (by omega)
        have hm3 : Hid (Marks wb.heap.size ks (Wy.setCell ⟨Wo.heap.size, 0, none⟩ (.int .i64 ((pre.length : Int) + 1)))) := hm2.set hn2 _
        have hn3 : Hid ((Wy.setCell ⟨Wo.heap.size, 0, none⟩ (.int .i64 ((pre.length : Int) + 1))).heap[Wo.heap.size]? = some (.cells #[.int .i64 ((pre ++ [(o, t, q)]).length : Nat)] 3)) := by
          have := set_get 0 (.int .i64 ((pre.length : Int) + 1)) hn2
          simpa [Hid] using this
        have hk3 : Hid (Kept gt W1.heap.size (0 + 2) Wz (Wy.setCell ⟨Wo.heap.size, 0, none⟩ (.int .i64 ((pre.length : Int) + 1)))) := hk2'.trans (Kept.setCell (by omega) (by omega))
        have cs' : (Wy.setCell ⟨Wo.heap.size, 0, none⟩ (.int .i64 ((pre.length : Int) + 1))).cell? ⟨w.heap.size, 0, none⟩ = some (.int .i64 a5) := cell_of ((hj3.out.below.block _ (by omega)).trans hst) 0
        clear hj2 hnb2 hn2 hm2 hk2'
        by_cases hst5 : (pre.length : Int) + 1 = a5
        · have t4 : ((pre.length : Int) + 1 == a5) = true := by simp [hst5]
          have hj4 := hj3.out
          have hm4 := hm3.out
          have hn4 := hn3.out
          have hk4 := hk3.out
          rw [hst5] at hj4 hm4 hn4 hk4
          have HA : Hid (JG w wb L N capq br bx gt gr off (Wy.setCell ⟨Wo.heap.size, 0, none⟩ (.int .i64 a5))) := hj4
          clear hj4
          gi_wp2
          exact ⟨hk4, HA.out, hm4, hn4, rfl, by simpa using hst5⟩
        · have t4 : ((pre.length : Int) + 1 == a5) = false := by simp [hst5]
          gi_wp2
          exact ⟨hk3.out, hj3.out, hm3.out, hn3.out⟩
      case done =>
        rintro Wz ⟨hj, hm, hn⟩ hK
        rw [HLN.out] at hn
        have cn : Wz.cell? ⟨Wo.heap.size, 0, none⟩ = some (.int .i64 (N : Nat)) := cell_of hn 0
        have c5 := hj.i.cell
        have hj' : Hid (JG w wb L N capq br bx gt gr off Wz) := hj
        have hmm : Marks wb.heap.size (W1.heap.size :: ks) Wz := hm.cons (by omega) (fun q hq => by have := mlt q hq; omega) hK
        clear hj hn hm hK
        gi_wp2
        refine ⟨⟨k + 1, W1.heap.size :: ks, by omega, rfl, rfl, rfl, rfl, rfl, rfl, rfl, hmm, hj'.out⟩, ?_⟩
        show 2 - vnat (.int .i64 ((k : Int) + 1)) < 2 - vnat (.int .i64 (k : Int))
        simp only [vnat]
        omega
      case stop =>
        rintro c pre Wz hpr ⟨hj, hm, hn, rfl, hst5⟩ hK
        have hpl := hpr.length_le
        have cn : Wz.cell? ⟨Wo.heap.size, 0, none⟩ = some (.int .i64 (pre.length : Nat)) := cell_of hn 0
        have c5 := hj.i.cell
        have cs : Wz.cell? ⟨w.heap.size, 0, none⟩ = some (.int .i64 a5) := cell_of ((hj.below.block _ (by omega)).trans hst) 0
        have hj' : Hid (JG w wb L N capq br bx gt gr off Wz) := hj
        have hmm : Marks wb.heap.size (W1.heap.size :: ks) Wz := hm.cons (by omega) (fun q hq => by have := mlt q hq; omega) hK
        rw [hst5] at cn
        clear hj hn hm hK
        by_cases hel : a5 = (N : Int)
        · have t5 : (a5 != (N : Int)) = false := by simp [hel]
          gi_wp2
          refine ⟨⟨k + 1, W1.heap.size :: ks, by omega, rfl, rfl, rfl, rfl, rfl, rfl, rfl, hmm, hj'.out⟩, ?_⟩
          show 2 - vnat (.int .i64 ((k : Int) + 1)) < 2 - vnat (.int .i64 (k : Int))
          simp only [vnat]
          omega
        · have t5 : (a5 != (N : Int)) = true := by simp [hel]
          have t6 : (a5 != a5) = false := by simp
          gi_wp2
          refine ⟨⟨k + 1, W1.heap.size :: ks, by omega, rfl, rfl, rfl, rfl, rfl, rfl, rfl, hmm, hj'.out⟩, ?_⟩
          show 2 - vnat (.int .i64 ((k : Int) + 1)) < 2 - vnat (.int .i64 (k : Int))
          simp only [vnat]
          omega
    · have hk5 : k = 2 := by omega
      subst hk5
      gi_wp2
      with_reducible (refine And.intro (wfn _) (And.intro wdep ?_))
      refine (callsIn_wide.2 (hal _)).mono ?_
      rintro e w4 ⟨rfl, hb4⟩
      have j4 := hJW.carry hb4
      have m4 := hmk.carry hb4
      have r4 : w4.heap[w.heap.size + 1]? = some (.cells #[.bool false] 4 (0, 0)) := (j4.below.block _ (by omega)).trans hrs
      have c4 : w4.cell? ⟨w.heap.size + 1, 0, none⟩ = some (.bool false) := cell_of r4 0
      have f4 := frozen_of r4 0
      have m5 : Marks wb.heap.size ks (w4.setCell ⟨w.heap.size + 1, 0, none⟩ (.bool true)) := m4.set r4 _
      have g5 : (w4.setCell ⟨w.heap.size + 1, 0, none⟩ (.bool true)).heap[w.heap.size + 1]? = some (.cells #[.bool true] 4) := set_get 0 (.bool true) r4
      have b4 : Below w.heap.size w w4 := hww.trans (j4.below.mono (by omega))
      have b5' : Below w.heap.size w (w4.setCell ⟨w.heap.size + 1, 0, none⟩ (.bool true)) := b4.setCell (p := ⟨w.heap.size + 1, 0, none⟩) (by simp) _
      clear j4 m4 hJW hmk
      gi_wp2
      refine leaves_marks ks _ m5 ?_
      intro W' hbW hcW
      have g6 := hcW _ _ g5 rfl
      have c6 := cell_of g6 0
      exact ⟨.bool true, by simp [results, Try.results3, go_sem, c6], rfl, b5'.trans (hbW.mono (by omega))⟩
set_option maxHeartbeats 8000000 in
set_option maxRecDepth 100000 in
theorem walk (w : World) (a0 : Int) (w0 : (Lit.int .i64 a0).wf = true) (a1 : Int) (w1 : (Lit.int .i64 a1).wf = true) (a2 : Int) (w2 : (Lit.int .i64 a2).wf = true) (ad3 : Option Addr) (cap3 : Nat) (l3 : List (Int × Int × Int)) (w3 : RdN w ad3 l3) (hc3 : ad3 = none → cap3 = 0) (hq3 : l3.length ≤ cap3) (ad4 : Option Addr) (cap4 : Nat) (l4 : List (Int × Int × Int)) (w4 : RdN w ad4 l4) (hc4 : ad4 = none → cap4 = 0) (hq4 : l4.length ≤ cap4) (a5 : Int) (w5 : (Lit.int .i64 a5).wf = true) :
    Calls Try.prog 3 #[.int .i64 a0, .int .i64 a1, .int .i64 a2, .slice ad3 l3.length cap3, .slice ad4 l4.length cap4, .int .i64 a5] w fun e w' => e = .returned (.bool true) ∧ Below w.heap.size w w' := by
  have hal := balive_any
  have hnw := new_any a0 a1 a2
  have hrn := rNew_any a0 a1 a2
  by_cases hok : ¬ (a0 < 1 ∨ 100 < a0) ∧ ¬ (a1 < 0 ∨ a0 ≤ a1) ∧ ¬ (a2 < 0 ∨ 1048576 < a2)
  · obtain ⟨h1, h2, h3⟩ := hok
    obtain ⟨N, rfl⟩ : ∃ N : Nat, a0 = (N : Int) := ⟨a0.toNat, by omega⟩
    obtain ⟨s, rfl⟩ : ∃ s : Nat, a1 = (s : Int) := ⟨a1.toNat, by omega⟩
    by_cases h300 : l3.length ≤ 300 ∧ l4.length ≤ 300
    · exact callsIn_wide.1 (goes_in N s a2 a5 ad3 ad4 cap3 cap4 l3 l4 w h1 h2 h3 h300.1 h300.2 w3 w4)
    · by_cases h301 : l3.length ≤ 300
      · have h302 : ¬ l4.length ≤ 300 := fun h => h300 ⟨h301, h⟩
        have e301 : ¬ 300 < (l3.length : Int) := by omega
        have e302 : 300 < (l4.length : Int) := by omega
        have hbw : Below (w.heap.size + 2) ((w.alloc (.cells #[.int .i64 a5] 3)).alloc (.cells #[.bool false] 4)) ((w.alloc (.cells #[.int .i64 a5] 3)).alloc (.cells #[.bool false] 4)) := Below.refl _ _
        have hr0 : ((w.alloc (.cells #[.int .i64 a5] 3)).alloc (.cells #[.bool false] 4)).heap[w.heap.size + 1]? = some (.cells #[.bool false] 4 (0, 0)) := new_at (by simp)
        have hw0 : Below w.heap.size w ((w.alloc (.cells #[.int .i64 a5] 3)).alloc (.cells #[.bool false] 4)) := al2 _ _ _
        have hsz0 : w.heap.size + 2 ≤ ((w.alloc (.cells #[.int .i64 a5] 3)).alloc (.cells #[.bool false] 4)).heap.size := by simp
        go_enter Try.func3, Try.ntmps3
        go_wp2_with (first | (go_at_call 5; (with_reducible refine (hnw _).mono ?_); rintro e u1 hV; obtain ⟨p, g, rfl, hp, hg, hk⟩ := hV.ok h1 h2 h3; have hbw := hbw.trans (hV.1.mono (Nat.le_trans hsz0 hbw.size)); clear hV hp hg hk) | (go_at_call 6; (with_reducible refine (hrn _).mono ?_); rintro e u2 hV; obtain ⟨adr, capr, rfl, hp, hg, hk⟩ := hV.ok h1 h2 h3; have hbw := (hbw.trans (hV.1.mono (Nat.le_trans hsz0 hbw.size))).alloc (Nat.le_trans hsz0 (hbw.trans (hV.1.mono (Nat.le_trans hsz0 hbw.size))).size) (.cells #[.slice adr (N : Int).toNat capr] 28); clear hV hp hg hk) | (go_at_call 7; (with_reducible refine (hal _).mono ?_); rintro e z1 ⟨rfl, hb⟩; have hbz : Below (w.heap.size + 2) ((w.alloc (.cells #[.int .i64 a5] 3)).alloc (.cells #[.bool false] 4)) z1 := hbw.trans (hb.mono (Nat.le_trans hsz0 hbw.size)); have r4 : z1.heap[w.heap.size + 1]? = some (.cells #[.bool false] 4 (0, 0)) := (hbz.block _ (by omega)).trans hr0; have c4 : z1.cell? ⟨w.heap.size + 1, 0, none⟩ = some (.bool false) := cell_of r4 0; have f4 := frozen_of r4 0))
        exact retBo rfl rfl rfl (set_get 0 (.bool true) r4) ⟨rfl, (hw0.trans (hbz.mono (by omega))).setCell (p := ⟨w.heap.size + 1, 0, none⟩) (by simp) _⟩
      · have e301 : 300 < (l3.length : Int) := by omega
        have hbw : Below (w.heap.size + 2) ((w.alloc (.cells #[.int .i64 a5] 3)).alloc (.cells #[.bool false] 4)) ((w.alloc (.cells #[.int .i64 a5] 3)).alloc (.cells #[.bool false] 4)) := Below.refl _ _
        have hr0 : ((w.alloc (.cells #[.int .i64 a5] 3)).alloc (.cells #[.bool false] 4)).heap[w.heap.size + 1]? = some (.cells #[.bool false] 4 (0, 0)) := new_at (by simp)
        have hw0 : Below w.heap.size w ((w.alloc (.cells #[.int .i64 a5] 3)).alloc (.cells #[.bool false] 4)) := al2 _ _ _
        have hsz0 : w.heap.size + 2 ≤ ((w.alloc (.cells #[.int .i64 a5] 3)).alloc (.cells #[.bool false] 4)).heap.size := by simp
        go_enter Try.func3, Try.ntmps3
        go_wp2_with (first | (go_at_call 5; (with_reducible refine (hnw _).mono ?_); rintro e u1 hV; obtain ⟨p, g, rfl, hp, hg, hk⟩ := hV.ok h1 h2 h3; have hbw := hbw.trans (hV.1.mono (Nat.le_trans hsz0 hbw.size)); clear hV hp hg hk) | (go_at_call 6; (with_reducible refine (hrn _).mono ?_); rintro e u2 hV; obtain ⟨adr, capr, rfl, hp, hg, hk⟩ := hV.ok h1 h2 h3; have hbw := (hbw.trans (hV.1.mono (Nat.le_trans hsz0 hbw.size))).alloc (Nat.le_trans hsz0 (hbw.trans (hV.1.mono (Nat.le_trans hsz0 hbw.size))).size) (.cells #[.slice adr (N : Int).toNat capr] 28); clear hV hp hg hk) | (go_at_call 7; (with_reducible refine (hal _).mono ?_); rintro e z1 ⟨rfl, hb⟩; have hbz : Below (w.heap.size + 2) ((w.alloc (.cells #[.int .i64 a5] 3)).alloc (.cells #[.bool false] 4)) z1 := hbw.trans (hb.mono (Nat.le_trans hsz0 hbw.size)); have r4 : z1.heap[w.heap.size + 1]? = some (.cells #[.bool false] 4 (0, 0)) := (hbz.block _ (by omega)).trans hr0; have c4 : z1.cell? ⟨w.heap.size + 1, 0, none⟩ = some (.bool false) := cell_of r4 0; have f4 := frozen_of r4 0))
        exact retBo rfl rfl rfl (set_get 0 (.bool true) r4) ⟨rfl, (hw0.trans (hbz.mono (by omega))).setCell (p := ⟨w.heap.size + 1, 0, none⟩) (by simp) _⟩
  · have hbw : Below (w.heap.size + 2) ((w.alloc (.cells #[.int .i64 a5] 3)).alloc (.cells #[.bool false] 4)) ((w.alloc (.cells #[.int .i64 a5] 3)).alloc (.cells #[.bool false] 4)) := Below.refl _ _
    have hr0 : ((w.alloc (.cells #[.int .i64 a5] 3)).alloc (.cells #[.bool false] 4)).heap[w.heap.size + 1]? = some (.cells #[.bool false] 4 (0, 0)) := new_at (by simp)
    have hw0 : Below w.heap.size w ((w.alloc (.cells #[.int .i64 a5] 3)).alloc (.cells #[.bool false] 4)) := al2 _ _ _
    have hsz0 : w.heap.size + 2 ≤ ((w.alloc (.cells #[.int .i64 a5] 3)).alloc (.cells #[.bool false] 4)).heap.size := by simp
    go_enter Try.func3, Try.ntmps3
    go_wp2_with (first | (go_at_call 5; (with_reducible refine (hnw _).mono ?_); rintro e u1 hV; have hV1 := hV; obtain ⟨E, hE, rfl⟩ := hV.bad hok; have hbw := hbw.trans (hV.1.mono (Nat.le_trans hsz0 hbw.size)); clear hV) | (go_at_call 6; (with_reducible refine (hrn _).mono ?_); rintro e u2 hV; obtain ⟨E2, hE2, rfl, hq⟩ := hV.bad hV1 hok; obtain rfl : E = E2 := (by simpa using hq); have hbw := (hbw.trans (hV.1.mono (Nat.le_trans hsz0 hbw.size))).alloc (Nat.le_trans hsz0 (hbw.trans (hV.1.mono (Nat.le_trans hsz0 hbw.size))).size) (.cells #[.slice none 0 0] 28); clear hV hV1 hq) | (go_at_call 7; (with_reducible refine (hal _).mono ?_); rintro e z1 ⟨rfl, hb⟩; have hbz : Below (w.heap.size + 2) ((w.alloc (.cells #[.int .i64 a5] 3)).alloc (.cells #[.bool false] 4)) z1 := hbw.trans (hb.mono (Nat.le_trans hsz0 hbw.size)); have r4 : z1.heap[w.heap.size + 1]? = some (.cells #[.bool false] 4 (0, 0)) := (hbz.block _ (by omega)).trans hr0; have c4 : z1.cell? ⟨w.heap.size + 1, 0, none⟩ = some (.bool false) := cell_of r4 0; have f4 := frozen_of r4 0))
    exact retBo rfl rfl rfl (set_get 0 (.bool true) r4) ⟨rfl, (hw0.trans (hbz.mono (by omega))).setCell (p := ⟨w.heap.size + 1, 0, none⟩) (by simp) _⟩

set_option maxRecDepth 100000 in
theorem lifted (os : Os) (started : os.Started) (H : Type) (enc : TypeId × Value → H) :
    ReturnsInHanded {} Try.checked os 3 .any (Rows.bookGoesSpec.pre6 enc Try.prog Try.f3 Rows.bookGoesRow.domain false) (Rows.bookGoesSpec.post enc Try.prog Try.f3 false true false false) := by
  refine returnsInHanded_of_change (C := Try.checked) own started (by kernel_rfl) Try.func3
    (ChangeSpec.witness6 (enc := enc) (C := Try.checked) false ⟨#[], #[.int .i64 0, .int .i64 0, .int .i64 0, .slice none 0 0, .slice none 0 0, .int .i64 0], []⟩ 8 (by kernel_rfl) (by kernel_rfl) (by kernel_rfl) (by kernel_rfl)) ?_
  intro W base args ds gs before hval0 hW hcnd _
  have hval : ∀ (j : Nat) t v, Try.f3.params[j]? = some t → args[j]? = some v → Value.okWide Try.prog W .any base t v := hval0
  have hW' := hW
  obtain ⟨p, q, hA0, hV, rfl, hfz, hnd⟩ := hW
  have hA : DataW.TrodAll enc Try.prog W 0 (fun _ => true) true Try.f3.params.toList args.toList ds p := hA0
  rw [Try.params3] at hA hval
  obtain ⟨v0, vs0, d0, ds0, p0, q0, hargs, rfl, rfl, h0, r0⟩ := trodAll_cons hA
  obtain ⟨v1, vs1, d1, ds1, p1, q1, rfl, rfl, rfl, h1, r1⟩ := trodAll_cons r0
  obtain ⟨v2, vs2, d2, ds2, p2, q2, rfl, rfl, rfl, h2, r2⟩ := trodAll_cons r1
  obtain ⟨v3, vs3, d3, ds3, p3, q3, rfl, rfl, rfl, h3, r3⟩ := trodAll_cons r2
  obtain ⟨v4, vs4, d4, ds4, p4, q4, rfl, rfl, rfl, h4, r4⟩ := trodAll_cons r3
  obtain ⟨v5, vs5, d5, ds5, p5, q5, rfl, rfl, rfl, h5, r5⟩ := trodAll_cons r4
  obtain ⟨rfl, rfl, rfl⟩ := trodAll_nil r5
  obtain rfl : args = #[v0, v1, v2, v3, v4, v5] := by cases args; simp_all
  obtain ⟨rfl, rfl⟩ := trodVars_none hV
  obtain ⟨a0, rfl, rfl, rfl, w0⟩ := open_int Try.underlying3 (hval 0 3 v0 rfl rfl) h0
  obtain ⟨a1, rfl, rfl, rfl, w1⟩ := open_int Try.underlying3 (hval 1 3 v1 rfl rfl) h1
  obtain ⟨a2, rfl, rfl, rfl, w2⟩ := open_int Try.underlying3 (hval 2 3 v2 rfl rfl) h2
  have k3 := h3
  have lt3 : ∀ x ∈ p3, x.block < W.heap.size := by obtain ⟨m, hm⟩ := k3; exact DataW.trod_lt m _ _ _ hm
  obtain ⟨ad3, cap3, l3, rfl, w3, hc3, hq3, hd3⟩ := open_nts (hval 3 22 v3 rfl rfl) h3
  have k4 := h4
  have lt4 : ∀ x ∈ p4, x.block < W.heap.size := by obtain ⟨m, hm⟩ := k4; exact DataW.trod_lt m _ _ _ hm
  obtain ⟨ad4, cap4, l4, rfl, w4, hc4, hq4, hd4⟩ := open_nts (hval 4 22 v4 rfl rfl) h4
  obtain ⟨a5, rfl, rfl, rfl, w5⟩ := open_int Try.underlying3 (hval 5 3 v5 rfl rfl) h5
  clear hA0 hval0
  refine (walk W a0 w0 a1 w1 a2 w2 ad3 cap3 l3 w3 hc3 hq3 ad4 cap4 l4 w4 hc4 hq4 a5 w5).mono fun e W' ⟨he, hg⟩ => ?_
  subst he
  exact ⟨_, rfl, _, _, _, [], _, [], hW', (trodAll_cons_mk (shut_bool Try.underlying4 _) trodAll_mk0), (trodAll_cons_mk (shut_int Try.underlying3 w0) (trodAll_cons_mk (shut_int Try.underlying3 w1) (trodAll_cons_mk (shut_int Try.underlying3 w2) (trodAll_cons_mk (Below.trod laidOut (by kernel_rfl) (of_decide_eq_true (by kernel_rfl)) k3 hg lt3) (trodAll_cons_mk (Below.trod laidOut (by kernel_rfl) (of_decide_eq_true (by kernel_rfl)) k4 hg lt4) (trodAll_cons_mk (shut_int Try.underlying3 w5) trodAll_mk0)))))), rfl, hg.frame _, fun h => by cases h⟩

theorem over : Rows.bookGoesRow.holds Try.pinned (OpenSpec.ofChange Rows.bookGoesSpec) :=
  OpenClaim.holds_of_wide 3 Try.f3 rfl rfl rfl rfl rfl rfl rfl ⟨rfl, rfl, rfl, rfl, rfl⟩ rfl rfl rfl rfl rfl (by kernel_rfl) Try.func3 (by kernel_rfl)
    (of_decide_eq_true (by kernel_rfl)) (by unfold Func.isWrapper; first | (rw [if_pos (by decide +kernel)]; kernel_rfl) | (rw [if_neg (by decide +kernel)]; exact ⟨rfl, rfl⟩))
    (fun os started H enc _ => lifted os started H enc)

theorem proved : Rows.BookGoesSaid :=
  over
#print axioms proved
end Go.Proofs.Ytpphmfmfenifgab
