import Derived.Test.YtekjhcnaabpfmaaGreatDoorJnJ31
import Derived.Test.YtekjhcnaabpfmaaGreatDoorJnJ19
import Derived.Test.YtekjhcnaabpfmaaGreatDoorJnJ28
import Derived.Test.YtekjhcnaabpfmaaGreatDoorJnJ32
set_option maxHeartbeats 40000000
set_option maxRecDepth 100000
set_option linter.unusedVariables false
namespace Go.Proofs.YtekjhcnaabpfmaaGreatDoor
open Go.RowKit Go.Shelf
theorem invQ_Kind (v : Value) (w : World) : (method 403 71 v "Kind").run Tryz.prog w = .ok (212, v) w := by kernel_rfl
theorem kindQ_any (f r : Int) (a : Option Addr) (m c : Nat) (w : World) : Calls Tryz.prog 212 #[.agg #[.int .i64 f, .int .i64 r, .slice a m c]] w fun e w' => e = .returned (.int .i64 1) ∧ Below w.heap.size w w' := by
 go_enter Tryz.func212, Tryz.ntmps212
 go_wp2
 go_ret
 exact ⟨rfl, by first | exact Below.refl _ _ | exact al1'W w _⟩
theorem senderQ_any (f r : Int) (a : Option Addr) (m c : Nat) (w : World) : Calls Tryz.prog 214 #[.agg #[.int .i64 f, .int .i64 r, .slice a m c]] w fun e w' => e = .returned (.int .i64 f) ∧ Below w.heap.size w w' := by
 go_enter Tryz.func214, Tryz.ntmps214
 go_wp2
 go_ret
 exact ⟨rfl, by first | exact Below.refl _ _ | exact al1'W w _⟩
theorem invP_Kind (v : Value) (w : World) : (method 403 62 v "Kind").run Tryz.prog w = .ok (201, v) w := by kernel_rfl
theorem kindP_any (f r x0 x1 x2 x3 : Int) (a : Option Addr) (m c : Nat) (w : World) : Calls Tryz.prog 201 #[.agg #[.int .i64 f, .int .i64 r, .int .u32 x0, .int .u32 x1, .int .u32 x2, .int .u32 x3, .slice a m c]] w fun e w' => e = .returned (.int .i64 2) ∧ Below w.heap.size w w' := by
 go_enter Tryz.func201, Tryz.ntmps201
 go_wp2
 go_ret
 exact ⟨rfl, by first | exact Below.refl _ _ | exact al1'W w _⟩
theorem senderP_any (f r x0 x1 x2 x3 : Int) (a : Option Addr) (m c : Nat) (w : World) : Calls Tryz.prog 203 #[.agg #[.int .i64 f, .int .i64 r, .int .u32 x0, .int .u32 x1, .int .u32 x2, .int .u32 x3, .slice a m c]] w fun e w' => e = .returned (.int .i64 f) ∧ Below w.heap.size w w' := by
 go_enter Tryz.func203, Tryz.ntmps203
 go_wp2
 go_ret
 exact ⟨rfl, by first | exact Below.refl _ _ | exact al1'W w _⟩
theorem invU_Kind (v : Value) (w : World) : (method 403 156 v "Kind").run Tryz.prog w = .ok (217, v) w := by kernel_rfl
theorem kindU_any (f : Int) (a : Option Addr) (m c : Nat) (w : World) : Calls Tryz.prog 217 #[.agg #[.int .i64 f, .slice a m c]] w fun e w' => e = .returned (.int .i64 3) ∧ Below w.heap.size w w' := by
 go_enter Tryz.func217, Tryz.ntmps217
 go_wp2
 go_ret
 exact ⟨rfl, by first | exact Below.refl _ _ | exact al1'W w _⟩
theorem senderU_any (f : Int) (a : Option Addr) (m c : Nat) (w : World) : Calls Tryz.prog 219 #[.agg #[.int .i64 f, .slice a m c]] w fun e w' => e = .returned (.int .i64 f) ∧ Below w.heap.size w w' := by
 go_enter Tryz.func219, Tryz.ntmps219
 go_wp2
 go_ret
 exact ⟨rfl, by first | exact Below.refl _ _ | exact al1'W w _⟩
end Go.Proofs.YtekjhcnaabpfmaaGreatDoor
namespace Go.Proofs.YtekjhcnaabpfmaaGreatDoor
open Go.RowKit Go.Shelf
end Go.Proofs.YtekjhcnaabpfmaaGreatDoor
namespace Go.Proofs.YtekjhcnaabpfmaaGreatDoor
open Go.RowKit Go.Shelf
end Go.Proofs.YtekjhcnaabpfmaaGreatDoor
namespace Go.Proofs.YtekjhcnaabpfmaaGreatDoor
open Go.RowKit Go.Shelf
end Go.Proofs.YtekjhcnaabpfmaaGreatDoor
namespace Go.Proofs.YtekjhcnaabpfmaaGreatDoor
open Go.RowKit Go.Shelf
def RBW (W : World) (b : Nat) (k f r : Int) (N : Nat) (v : Value) : Prop := W.heap[b]? = some (.cells #[.int .i64 k, .int .i64 f, .int .i64 r, .int .u32 (wd N 0 : Nat), .int .u32 (wd N 1 : Nat), .int .u32 (wd N 2 : Nat), .int .u32 (wd N 3 : Nat), v] 38 (0, 0))
theorem RBW.cells {W : World} {b : Nat} {k f r : Int} {N : Nat} {v : Value} (h : RBW W b k f r N v) : W.cell? ⟨b, 0, none⟩ = some (.int .i64 k) ∧ W.cell? ⟨b, 1, none⟩ = some (.int .i64 f) ∧ W.cell? ⟨b, 2, none⟩ = some (.int .i64 r) ∧ W.cell? ⟨b, 3, none⟩ = some (.int .u32 (wd N 0 : Nat)) ∧ W.cell? ⟨b, 4, none⟩ = some (.int .u32 (wd N 1 : Nat)) ∧ W.cell? ⟨b, 5, none⟩ = some (.int .u32 (wd N 2 : Nat)) ∧ W.cell? ⟨b, 6, none⟩ = some (.int .u32 (wd N 3 : Nat)) ∧ W.cell? ⟨b, 7, none⟩ = some v :=
 ⟨zca h 0, zca h 1, zca h 2, zca h 3, zca h 4, zca h 5, zca h 6, zca h 7⟩
theorem RBW.below {W W' : World} {b : Nat} {k f r : Int} {N : Nat} {v : Value} (h : RBW W b k f r N v) (hb : Below W.heap.size W W') : RBW W' b k f r N v := (hb.block b (zla h)).trans h
theorem bs0N (W : World) : (Instr.buildSlice 36 0 #[]).run Tryz.prog W = .ok (.slice (some ⟨W.heap.size, 0, none⟩) 0 0) (W.alloc (.cells #[] 65)) := by go_simp
theorem nilN_no (a : Addr) (n c : Nat) (w : World) : (binOp .eql 36 (.slice (some a) n c) (.slice none 0 0)).run Tryz.prog w = .ok (.bool false) w := by kernel_rfl
theorem nilN_yes (n c : Nat) (w : World) : (binOp .eql 36 (.slice none n c) (.slice none 0 0)).run Tryz.prog w = .ok (.bool true) w := by kernel_rfl
theorem clone_any (ad : Option Addr) (cap : Nat) (l : List (Int × Int × Int)) (w : World) (h : RdN w ad l) (hl : l.length ≤ 5000000000000) : Calls Tryz.prog 206 #[.slice ad l.length cap] w fun e w' => ∃ a c, e = .returned (.slice a l.length c) ∧ w'.ownsRow w.heap.size 65 3 (.slice a l.length c) l.length (fl l) ∧ Below w.heap.size w w' := by
 obtain ⟨ic, hic, hz0, hz1, hz2⟩ := info_partsN
 have hb := bs0N
 have n1 := nilN_no
 have n2 := nilN_yes
 cases ad with
 | none =>
  have hl0 : l = [] := Classical.byContradiction fun q => by obtain ⟨_, _, e, _⟩ := h q; cases e
  subst hl0
  go_enter Tryz.func206, Tryz.ntmps206
  go_wp2
  go_ret
  exact ⟨none, 0, rfl, World.ownsRow_nil _ _ _ _, Below.refl _ _⟩
 | some a =>
  have hb0 := al1'W w (.cells #[] 65)
  have hnews : ∀ j u, (fl l)[j]? = some u → (w.alloc (.cells #[] 65)).cell? (a.add j) = some u := by
    intro j u hj
    obtain ⟨b, off, e, _, hat⟩ := (h.carry hb0) (fun e => by subst e; simp [fl_nil] at hj)
    obtain rfl := Option.some.inj e
    exact nts_src hat j u hj
  have hown := World.ownsRow_lit (base := w.heap.size) (e := 65) (size := 3) w #[] 0 (Nat.le_refl _) (by unfold maxLen; omega) (by simp)
  go_enter Tryz.func206, Tryz.ntmps206
  go_wp2_with (at_builtin; refine wpList_append_own_at _ rfl _ _ 36 rfl w.heap.size 65 ic _ 3 24 Tryz.underlying36 hic hz0 hz1 hz2 rfl (by decide) _ 0 [] rfl hown a l.length cap (fl l) rfl (fl_len l) hnews (fl_one l) (by unfold maxLen; omega) (by omega) (by simp) ?_; intro v u ho0 hgu hnn _; have hbu : Below w.heap.size w u := hb0.grown hgu (by simp) (fun q e => own_block hown q e); have ho : u.ownsRow w.heap.size 65 3 v l.length (fl l) := (by simpa using ho0))
  go_ret
  rcases own_form ho with ⟨e1, e2⟩ | ⟨g, c, e1, _⟩
  · exact ⟨none, 0, by rw [e1, e2]; rfl, by rw [e1, e2] at ho; rw [e2]; exact ho, hbu⟩
  · exact ⟨_, c, by rw [e1]; rfl, e1 ▸ ho, hbu⟩
theorem noticesQ_any (f r : Int) (ad : Option Addr) (cap : Nat) (l : List (Int × Int × Int)) (w : World) (h : RdN w ad l) (hl : l.length ≤ 5000000000000) : Calls Tryz.prog 213 #[.agg #[.int .i64 f, .int .i64 r, .slice ad l.length cap]] w fun e w' => ∃ a c, e = .returned (.slice a l.length c) ∧ w'.ownsRow w.heap.size 65 3 (.slice a l.length c) l.length (fl l) ∧ Below w.heap.size w w' := by
 have hb0 := al1'W w (.cells #[.int .i64 f, .int .i64 r, .slice ad l.length cap] 71)
 have hcl := clone_any ad cap l _ (h.carry hb0) hl
 go_enter Tryz.func213, Tryz.ntmps213
 go_wp2_with (go_at_call 206; (with_reducible refine hcl.mono ?_); rintro e u1 ⟨a, c, rfl, ho, hb1⟩)
 go_ret
 exact ⟨a, c, rfl, ownsRow_base ho hb0.size, bel2 hb0 hb1⟩
theorem noticesP_any (f r x0 x1 x2 x3 : Int) (ad : Option Addr) (cap : Nat) (l : List (Int × Int × Int)) (w : World) (h : RdN w ad l) (hl : l.length ≤ 5000000000000) : Calls Tryz.prog 202 #[.agg #[.int .i64 f, .int .i64 r, .int .u32 x0, .int .u32 x1, .int .u32 x2, .int .u32 x3, .slice ad l.length cap]] w fun e w' => ∃ a c, e = .returned (.slice a l.length c) ∧ w'.ownsRow w.heap.size 65 3 (.slice a l.length c) l.length (fl l) ∧ Below w.heap.size w w' := by
 have hb0 := al1'W w (.cells #[.int .i64 f, .int .i64 r, .int .u32 x0, .int .u32 x1, .int .u32 x2, .int .u32 x3, .slice ad l.length cap] 62)
 have hcl := clone_any ad cap l _ (h.carry hb0) hl
 go_enter Tryz.func202, Tryz.ntmps202
 go_wp2_with (go_at_call 206; (with_reducible refine hcl.mono ?_); rintro e u1 ⟨a, c, rfl, ho, hb1⟩)
 go_ret
 exact ⟨a, c, rfl, ownsRow_base ho hb0.size, bel2 hb0 hb1⟩
theorem noticesU_any (f : Int) (ad : Option Addr) (cap : Nat) (l : List (Int × Int × Int)) (w : World) (h : RdN w ad l) (hl : l.length ≤ 5000000000000) : Calls Tryz.prog 218 #[.agg #[.int .i64 f, .slice ad l.length cap]] w fun e w' => ∃ a c, e = .returned (.slice a l.length c) ∧ w'.ownsRow w.heap.size 65 3 (.slice a l.length c) l.length (fl l) ∧ Below w.heap.size w w' := by
 have hb0 := al1'W w (.cells #[.int .i64 f, .slice ad l.length cap] 156)
 have hcl := clone_any ad cap l _ (h.carry hb0) hl
 go_enter Tryz.func218, Tryz.ntmps218
 go_wp2_with (go_at_call 206; (with_reducible refine hcl.mono ?_); rintro e u1 ⟨a, c, rfl, ho, hb1⟩)
 go_ret
 exact ⟨a, c, rfl, ownsRow_base ho hb0.size, bel2 hb0 hb1⟩
end Go.Proofs.YtekjhcnaabpfmaaGreatDoor
namespace Go.Proofs.YtekjhcnaabpfmaaGreatDoor
open Go.RowKit Go.Shelf Go.Lib
attribute [local go_sem] Oper.semAt_some
section
variable {w W : World} {base x : Nat} {A : NA} {s : Ns}
theorem npass_any (v u : Value) (w : World) : Calls Tryz.prog 91 #[v, u] w fun r w' => r = .returned (.slice none 0 0) ∧ w' = w := by
 go_enter Tryz.func91, Tryz.ntmps91
 go_wp2
 go_ret
 exact ⟨rfl, rfl⟩
theorem field_p (W : World) (B : Nat) : (Instr.fieldAt 62 (.pointer (some ⟨B, 0, none⟩)) 0).run Tryz.prog W = .ok (.pointer (some ⟨B, 0, none⟩)) W ∧ (Instr.fieldAt 62 (.pointer (some ⟨B, 0, none⟩)) 1).run Tryz.prog W = .ok (.pointer (some ⟨B, 1, none⟩)) W ∧ (Instr.fieldAt 62 (.pointer (some ⟨B, 0, none⟩)) 2).run Tryz.prog W = .ok (.pointer (some ⟨B, 2, none⟩)) W := by
 refine ⟨?_, ?_, ?_⟩ <;> go_simp
theorem load_p2 {W : World} {B : Nat} {H : Nat} {fr ro : Int} {v : Value} (h : W.heap[B]? = some (.cells (rpC fr ro H v) 62 (0, 0))) : (Instr.loadAt 35 (.pointer (some ⟨B, 2, none⟩))).run Tryz.prog W = .ok (sv H) W := by
 have h0 : W.cell? ⟨B, 2, none⟩ = some (.int .u32 (wd H 0 : Nat)) := (zca h 2).trans rfl
 have h1 : W.cell? ⟨B, 3, none⟩ = some (.int .u32 (wd H 1 : Nat)) := (zca h 3).trans rfl
 have h2 : W.cell? ⟨B, 4, none⟩ = some (.int .u32 (wd H 2 : Nat)) := (zca h 4).trans rfl
 have h3 : W.cell? ⟨B, 5, none⟩ = some (.int .u32 (wd H 3 : Nat)) := (zca h 5).trans rfl
 unfold sv
 go_simp
theorem ncount_any (h : Nd w base x A s) (hv : Tv s.t) (fr rd : Int) (N : Nat) (hN : N < S128) (a : Option Addr) (m c : Nat) :
   Calls Tryz.prog 90 #[.pointer (some ⟨x, 0, none⟩), .iface 62 (.agg #[.int .i64 fr, .int .i64 rd, .int .u32 (wd N 0 : Nat), .int .u32 (wd N 1 : Nat), .int .u32 (wd N 2 : Nat), .int .u32 (wd N 3 : Nat), .slice a m c])] w fun r w' => r = .returned (.slice none 0 0) ∧ ∃ A', Nd w' base x A' { s with t := tk s.t fr rd N } ∧ Mv x A A' w w' := by
 have hmx := mixO
 have h1 := taP
 obtain ⟨w1, hw1⟩ : ∃ w1, w.alloc (.cells #[.int .i64 fr, .int .i64 rd, .int .u32 (wd N 0 : Nat), .int .u32 (wd N 1 : Nat), .int .u32 (wd N 2 : Nat), .int .u32 (wd N 3 : Nat), .slice a m c] 62) = w1 := ⟨_, rfl⟩
 have hb1 : Below w.heap.size w w1 := by rw [← hw1]; exact al1' _ _
 have g1 : w1.heap[w.heap.size]? = some (.cells (rpC fr rd N (.slice a m c)) 62 (0, 0)) := by rw [← hw1]; exact zna rfl
 have hN1 := h.carry hb1
 have hwl : w.heap.size < w1.heap.size := zla g1
 go_enter Tryz.func90, Tryz.ntmps90
 go_wp2
 rename_i hK
 refine wp_region_any hmx ?_
 refine zwl 10 (fun i__ => ([(.pointer (some ⟨x, 0, none⟩)), (.pointer (some ⟨x, 0, none⟩)), (.pointer (some ⟨x, 9, none⟩)), (.pointer (some ⟨A.tq, 0, none⟩)), (.pointer (some ⟨w.heap.size, 0, none⟩)), (.int .i64 fr), (.pointer (some ⟨w.heap.size, 1, none⟩)), (.int .i64 rd), (.pointer (some ⟨w.heap.size, 2, none⟩)), (sv N), (.tuple #[.int .i64 (kd (fate s.t fr rd N)), .int .i64 (ke (fate s.t fr rd N))])] : List Value).getD i__ undef) (fun V => Below w1.heap.size w1 V) (fun V => ∃ A', Nd V base x A' { s with t := tk s.t fr rd N } ∧ Mv x A A' w V) rfl (by kernel_rfl) (by kernel_rfl) ((Below.refl _ _).drew) ?_ ?_  ?_
 · refine (sqc ?_ (sqc ?_ (sqc ?_ (sqc ?_ (sqc ?_ (sqc ?_ (sqc ?_ (sqc ?_ (sqc ?_ (sqc ?_ trivial))))))))))
   · exact zmv rfl trivial _ rfl (by kernel_rfl)
   · exact znc rfl trivial _ _ _ rfl rfl rfl
   · exact zfa rfl trivial _ _ _ _ rfl rfl (fun v hw => (zfn v _).2.2.2.2.2.2.1)
   · exact zld rfl trivial _ _ _ rfl rfl (fun v hw => load_ta0 (hN1.carry hw).obj.c9)
   · exact zfa rfl trivial _ _ _ _ rfl rfl (fun v hw => (field_p v _).1)
   · exact zld rfl trivial _ _ _ rfl rfl (fun v hw => load_in ((zca ((hw.block _ hwl).trans g1) 0).trans rfl))
   · exact zfa rfl trivial _ _ _ _ rfl rfl (fun v hw => (field_p v _).2.1)
   · exact zld rfl trivial _ _ _ rfl rfl (fun v hw => load_in ((zca ((hw.block _ hwl).trans g1) 1).trans rfl))
   · exact zfa rfl trivial _ _ _ _ rfl rfl (fun v hw => (field_p v _).2.2)
   · exact zld rfl trivial _ _ _ rfl rfl (fun v hw => load_p2 ((hw.block _ hwl).trans g1))
 · intro o ho
   cases ho
   exact zsc rfl trivial 128 _ _ [(.pointer (some ⟨A.tq, 0, none⟩)), (.int .i64 fr), (.int .i64 rd), (sv N)] rfl (by kernel_rfl) (enters_of Tryz.func128 (by kernel_rfl) rfl) (fun v hw => (take_any (hN1.carry hw).ta hv (hN1.carry hw).sz fr rd N hN).mono (by rintro e w' ⟨rfl, ad', cap', h1, h2, _⟩; obtain ⟨h3, h4⟩ := (hN1.carry hw).tak h1 h2; exact ⟨rfl, _, h3, (Mv.of _ _ (bel2 hb1 hw)).trans h4⟩))
 intro W hW
 first | refine hK _ _ ?_ | refine (‹∀ (a : Act) (w : World), Code.wp Tryz.prog _ _ a w → _›) _ _ ?_
 simp only [finL, List.getD_cons_zero, List.getD_cons_succ, Nat.zero_add, Nat.reduceAdd, List.setIfInBounds_toArray, List.set_cons_zero, List.set_cons_succ]
 obtain ⟨A', hN2, hM2⟩ := hW
 clear hK
 go_wp2
 go_ret
 exact ⟨rfl, A', hN2, hM2⟩
theorem deeds_any (w : World) : Calls Tryz.prog 43 #[] w fun r w' => r = .returned (.slice (some ⟨w.heap.size, 0, none⟩) 4 4) ∧ w'.heap[w.heap.size]? = some (.cells #[.nilFunc, .func (.func 89) #[] #[], .func (.func 90) #[] #[], .func (.func 91) #[] #[]] 115 (0, 0)) ∧ Below w.heap.size w w' := by
 go_enter Tryz.func43, Tryz.ntmps43
 go_wp2
 go_ret
 exact ⟨rfl, zna rfl, al1' _ _⟩
end
end Go.Proofs.YtekjhcnaabpfmaaGreatDoor
