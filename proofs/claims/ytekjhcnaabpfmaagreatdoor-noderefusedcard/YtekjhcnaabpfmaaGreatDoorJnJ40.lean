import Derived.Test.YtekjhcnaabpfmaaGreatDoorJnJ39
import Derived.Test.YtekjhcnaabpfmaaGreatDoorJnJ32
import Derived.Test.YtekjhcnaabpfmaaGreatDoorJnJ34
set_option maxHeartbeats 40000000
set_option maxRecDepth 100000
set_option linter.unusedVariables false
namespace Go.Proofs.YtekjhcnaabpfmaaGreatDoor
open Go.RowKit Go.Shelf Go.Lib
def sgA (li ro ta : Int) (su he re : Nat) (v : Value) : Array Value := #[.bool true, .int .i64 li, .int .i64 ro, .int .i64 ta, .int .u32 (wd su 0 : Nat), .int .u32 (wd su 1 : Nat), .int .u32 (wd su 2 : Nat), .int .u32 (wd su 3 : Nat), .int .u32 (wd he 0 : Nat), .int .u32 (wd he 1 : Nat), .int .u32 (wd he 2 : Nat), .int .u32 (wd he 3 : Nat), .int .u32 (wd re 0 : Nat), .int .u32 (wd re 1 : Nat), .int .u32 (wd re 2 : Nat), .int .u32 (wd re 3 : Nat), v]
section
variable {w W V : World} {base x b : Nat} {A : NA} {s : Ns} {m : Nat} {ro : Int} {he re : Nat}
theorem eqA {A : Nat} (hA : A < S128) (w : World) : (Op.equalIn 10000 35 (.agg #[.int .u32 (wd A 0 : Nat), .int .u32 (wd A 1 : Nat), .int .u32 (wd A 2 : Nat), .int .u32 (wd A 3 : Nat)]) (.agg #[.int .u32 (wd A 0 : Nat), .int .u32 (wd A 1 : Nat), .int .u32 (wd A 2 : Nat), .int .u32 (wd A 3 : Nat)])).run Tryz.prog w = .ok true w := by
 have := eqn4 A A hA hA w
 rw [decide_eq_true rfl] at this
 exact this
theorem RdW.op {ad : Option Addr} {l : List OpN} (h : RdW W ad l) {k : Nat} {o : OpN} (hk : l[k]? = some o) : OpOk W o := by
 obtain ⟨_, _, _, _, _, h⟩ := h k o hk
 exact h
theorem lgt_at {l : List OpN} (h : lgt l = true) {k : Nat} {o : OpN} (hk : l[k]? = some o) : o.nl.length ≤ 300 ∧ l.length ≤ 80 := by
 unfold lgt at h
 simp only [Bool.and_eq_true, decide_eq_true_eq] at h
 have := List.all_eq_true.1 h.2 o (List.mem_of_getElem? hk)
 unfold lgt1 at this
 simp only [Bool.and_eq_true, decide_eq_true_eq] at this
 exact ⟨this.2, h.1⟩
end
theorem sameS_any {li ro ta : Int} {su he re n : Nat} (hs : su < S128) (hh : he < S128) (hr : re < S128) (a a2 : Option Addr) (c c2 : Nat) (l : List N3) (hn : l.length = n) (hl : l.length ≤ 1000) (w : World) (h : RdN w a l) (h2 : RdN w a2 l) : Calls Tryz.prog 15 #[.agg (sgA li ro ta su he re (.slice a n c)), .agg (sgA li ro ta su he re (.slice a2 n c2))] w fun e w' => e = .returned (.bool true) ∧ Below w.heap.size w w' := by
 obtain ⟨w1, hw1⟩ : ∃ w1, w.alloc (.cells #[.bool true, .int .i64 li, .int .i64 ro, .int .i64 ta, .int .u32 (wd su 0 : Nat), .int .u32 (wd su 1 : Nat), .int .u32 (wd su 2 : Nat), .int .u32 (wd su 3 : Nat), .int .u32 (wd he 0 : Nat), .int .u32 (wd he 1 : Nat), .int .u32 (wd he 2 : Nat), .int .u32 (wd he 3 : Nat), .int .u32 (wd re 0 : Nat), .int .u32 (wd re 1 : Nat), .int .u32 (wd re 2 : Nat), .int .u32 (wd re 3 : Nat), .slice a n c] 42) = w1 := ⟨_, rfl⟩
 have hb1 : Below w.heap.size w w1 := by rw [← hw1]; exact al1' _ _
 have g1 : w1.heap[w.heap.size]? = some (.cells #[.bool true, .int .i64 li, .int .i64 ro, .int .i64 ta, .int .u32 (wd su 0 : Nat), .int .u32 (wd su 1 : Nat), .int .u32 (wd su 2 : Nat), .int .u32 (wd su 3 : Nat), .int .u32 (wd he 0 : Nat), .int .u32 (wd he 1 : Nat), .int .u32 (wd he 2 : Nat), .int .u32 (wd he 3 : Nat), .int .u32 (wd re 0 : Nat), .int .u32 (wd re 1 : Nat), .int .u32 (wd re 2 : Nat), .int .u32 (wd re 3 : Nat), .slice a n c] 42 (0, 0)) := by rw [← hw1]; exact zna rfl
 obtain ⟨w2, hw2⟩ : ∃ w2, w1.alloc (.cells #[.bool true, .int .i64 li, .int .i64 ro, .int .i64 ta, .int .u32 (wd su 0 : Nat), .int .u32 (wd su 1 : Nat), .int .u32 (wd su 2 : Nat), .int .u32 (wd su 3 : Nat), .int .u32 (wd he 0 : Nat), .int .u32 (wd he 1 : Nat), .int .u32 (wd he 2 : Nat), .int .u32 (wd he 3 : Nat), .int .u32 (wd re 0 : Nat), .int .u32 (wd re 1 : Nat), .int .u32 (wd re 2 : Nat), .int .u32 (wd re 3 : Nat), .slice a2 n c2] 42) = w2 := ⟨_, rfl⟩
 have hb2 : Below w1.heap.size w1 w2 := by rw [← hw2]; exact al1' _ _
 have g2 : w2.heap[w1.heap.size]? = some (.cells #[.bool true, .int .i64 li, .int .i64 ro, .int .i64 ta, .int .u32 (wd su 0 : Nat), .int .u32 (wd su 1 : Nat), .int .u32 (wd su 2 : Nat), .int .u32 (wd su 3 : Nat), .int .u32 (wd he 0 : Nat), .int .u32 (wd he 1 : Nat), .int .u32 (wd he 2 : Nat), .int .u32 (wd he 3 : Nat), .int .u32 (wd re 0 : Nat), .int .u32 (wd re 1 : Nat), .int .u32 (wd re 2 : Nat), .int .u32 (wd re 3 : Nat), .slice a2 n c2] 42 (0, 0)) := by rw [← hw2]; exact zna rfl
 have g3 := (hb2.block _ (zla g1)).trans g1
 have q0 : w2.cell? ⟨w.heap.size, 0, none⟩ = some (.bool true) := (zca g3 0).trans rfl
 have q1 : w2.cell? ⟨w.heap.size, 1, none⟩ = some (.int .i64 li) := (zca g3 1).trans rfl
 have q2 : w2.cell? ⟨w.heap.size, 2, none⟩ = some (.int .i64 ro) := (zca g3 2).trans rfl
 have q3 : w2.cell? ⟨w.heap.size, 3, none⟩ = some (.int .i64 ta) := (zca g3 3).trans rfl
 have q4 : w2.cell? ⟨w.heap.size, 4, none⟩ = some (.int .u32 (wd su 0 : Nat)) := (zca g3 4).trans rfl
 have q5 : w2.cell? ⟨w.heap.size, 5, none⟩ = some (.int .u32 (wd su 1 : Nat)) := (zca g3 5).trans rfl
 have q6 : w2.cell? ⟨w.heap.size, 6, none⟩ = some (.int .u32 (wd su 2 : Nat)) := (zca g3 6).trans rfl
 have q7 : w2.cell? ⟨w.heap.size, 7, none⟩ = some (.int .u32 (wd su 3 : Nat)) := (zca g3 7).trans rfl
 have q8 : w2.cell? ⟨w.heap.size, 8, none⟩ = some (.int .u32 (wd he 0 : Nat)) := (zca g3 8).trans rfl
 have q9 : w2.cell? ⟨w.heap.size, 9, none⟩ = some (.int .u32 (wd he 1 : Nat)) := (zca g3 9).trans rfl
 have q10 : w2.cell? ⟨w.heap.size, 10, none⟩ = some (.int .u32 (wd he 2 : Nat)) := (zca g3 10).trans rfl
 have q11 : w2.cell? ⟨w.heap.size, 11, none⟩ = some (.int .u32 (wd he 3 : Nat)) := (zca g3 11).trans rfl
 have q12 : w2.cell? ⟨w.heap.size, 12, none⟩ = some (.int .u32 (wd re 0 : Nat)) := (zca g3 12).trans rfl
 have q13 : w2.cell? ⟨w.heap.size, 13, none⟩ = some (.int .u32 (wd re 1 : Nat)) := (zca g3 13).trans rfl
 have q14 : w2.cell? ⟨w.heap.size, 14, none⟩ = some (.int .u32 (wd re 2 : Nat)) := (zca g3 14).trans rfl
 have q15 : w2.cell? ⟨w.heap.size, 15, none⟩ = some (.int .u32 (wd re 3 : Nat)) := (zca g3 15).trans rfl
 have q16 : w2.cell? ⟨w.heap.size, 16, none⟩ = some (.slice a n c) := (zca g3 16).trans rfl
 have r0 : w2.cell? ⟨w1.heap.size, 0, none⟩ = some (.bool true) := (zca g2 0).trans rfl
 have r1 : w2.cell? ⟨w1.heap.size, 1, none⟩ = some (.int .i64 li) := (zca g2 1).trans rfl
 have r2 : w2.cell? ⟨w1.heap.size, 2, none⟩ = some (.int .i64 ro) := (zca g2 2).trans rfl
 have r3 : w2.cell? ⟨w1.heap.size, 3, none⟩ = some (.int .i64 ta) := (zca g2 3).trans rfl
 have r4 : w2.cell? ⟨w1.heap.size, 4, none⟩ = some (.int .u32 (wd su 0 : Nat)) := (zca g2 4).trans rfl
 have r5 : w2.cell? ⟨w1.heap.size, 5, none⟩ = some (.int .u32 (wd su 1 : Nat)) := (zca g2 5).trans rfl
 have r6 : w2.cell? ⟨w1.heap.size, 6, none⟩ = some (.int .u32 (wd su 2 : Nat)) := (zca g2 6).trans rfl
 have r7 : w2.cell? ⟨w1.heap.size, 7, none⟩ = some (.int .u32 (wd su 3 : Nat)) := (zca g2 7).trans rfl
 have r8 : w2.cell? ⟨w1.heap.size, 8, none⟩ = some (.int .u32 (wd he 0 : Nat)) := (zca g2 8).trans rfl
 have r9 : w2.cell? ⟨w1.heap.size, 9, none⟩ = some (.int .u32 (wd he 1 : Nat)) := (zca g2 9).trans rfl
 have r10 : w2.cell? ⟨w1.heap.size, 10, none⟩ = some (.int .u32 (wd he 2 : Nat)) := (zca g2 10).trans rfl
 have r11 : w2.cell? ⟨w1.heap.size, 11, none⟩ = some (.int .u32 (wd he 3 : Nat)) := (zca g2 11).trans rfl
 have r12 : w2.cell? ⟨w1.heap.size, 12, none⟩ = some (.int .u32 (wd re 0 : Nat)) := (zca g2 12).trans rfl
 have r13 : w2.cell? ⟨w1.heap.size, 13, none⟩ = some (.int .u32 (wd re 1 : Nat)) := (zca g2 13).trans rfl
 have r14 : w2.cell? ⟨w1.heap.size, 14, none⟩ = some (.int .u32 (wd re 2 : Nat)) := (zca g2 14).trans rfl
 have r15 : w2.cell? ⟨w1.heap.size, 15, none⟩ = some (.int .u32 (wd re 3 : Nat)) := (zca g2 15).trans rfl
 have r16 : w2.cell? ⟨w1.heap.size, 16, none⟩ = some (.slice a2 n c2) := (zca g2 16).trans rfl
 have hsm := same_any a a2 c c2 l w2 (h.carry (bel2 hb1 hb2)) (h2.carry (bel2 hb1 hb2)) (by omega)
 rw [hn] at hsm
 have e1 := fun V => eqA hs V
 have e2 := fun V => eqA hh V
 have e3 := fun V => eqA hr V
 clear g1 g2 g3 h h2 hs hh hr hn hl
 unfold sgA
 go_enter Tryz.func15, Tryz.ntmps15
 go_wp2_with (go_at_call 19; (with_reducible refine hsm.mono ?_); rintro r u ⟨rfl, hu⟩)
 go_ret
 exact ⟨rfl, bel2 (bel2 hb1 hb2) hu⟩
attribute [local go_sem] Oper.semAt_some
theorem bs0E (W : World) : (Instr.buildSlice 44 0 #[]).run Tryz.prog W = .ok (.slice (some ⟨W.heap.size, 0, none⟩) 0 0) (W.alloc (.cells #[] 90)) := by go_simp
theorem nilE_no (a : Addr) (n c : Nat) (w : World) : (binOp .eql 44 (.slice (some a) n c) (.slice none 0 0)).run Tryz.prog w = .ok (.bool false) w := by kernel_rfl
theorem nilE_ye (n c : Nat) (w : World) : (binOp .eql 44 (.slice none n c) (.slice none 0 0)).run Tryz.prog w = .ok (.bool true) w := by kernel_rfl
theorem ecs_src {W : World} {base g n c : Nat} {l : List Ev} (h : W.ownsRow base 90 15 (.slice (some ⟨g, 0, none⟩) n c) n (ecs l)) : ∀ j u, (ecs l)[j]? = some u → W.cell? ((⟨g, 0, none⟩ : Addr).add j) = some u := fun j u hj => by
 rw [add_pl, Nat.zero_add]
 have h1 := (List.getElem?_eq_some_iff.1 hj).1
 rw [h.1] at h1
 exact (h.cellAt j (by omega)).trans hj
theorem cloneE_any (ad : Option Addr) (cap base : Nat) (l : List Ev) (w : World) (h : w.ownsRow base 90 15 (.slice ad l.length cap) l.length (ecs l)) (hl : l.length ≤ 1000000) : Calls Tryz.prog 66 #[.slice ad l.length cap] w fun e w' => ∃ a c, e = .returned (.slice a l.length c) ∧ w'.ownsRow w.heap.size 90 15 (.slice a l.length c) l.length (ecs l) ∧ Below w.heap.size w w' := by
 obtain ⟨ic, hic, hz0, hz1, hz2⟩ := info_parts infoV
 have hb := bs0E
 have n1 := nilE_no
 have n2 := nilE_ye
 rcases own_form h with ⟨e1, e2⟩ | ⟨g, cap', e1, _⟩
 · simp only [Value.slice.injEq] at e1
   have hl0 : l = [] := List.length_eq_zero_iff.1 e2
   subst hl0
   obtain ⟨rfl, _, rfl⟩ := e1
   go_enter Tryz.func66, Tryz.ntmps66
   go_wp2
   go_ret
   exact ⟨none, 0, rfl, World.ownsRow_nil _ _ _ _, Below.refl _ _⟩
 · simp only [Value.slice.injEq] at e1
   obtain ⟨rfl, _, rfl⟩ := e1
   have hb0 := al1' w (.cells #[] 90)
   have hnews := ecs_src (zrb h hb0)
   have hown := World.ownsRow_lit (base := w.heap.size) (e := 90) (size := 15) w #[] 0 (Nat.le_refl _) (by unfold maxLen; omega) (by simp)
   clear h
   go_enter Tryz.func66, Tryz.ntmps66
   go_wp2_with (at_builtin; refine wpList_append_own_at _ rfl _ _ 44 rfl w.heap.size 90 ic _ 15 88 Tryz.underlying44 hic hz0 hz1 hz2 rfl (by decide) _ 0 [] rfl hown ⟨g, 0, none⟩ l.length cap (ecs l) rfl (by rw [ecs_len]) hnews (ecs_ones l) (by unfold maxLen; omega) (by omega) (by simp) ?_; intro v u ho0 hgu hnn _; have hbu : Below w.heap.size w u := hb0.grown hgu (by simp) (fun q e => own_block hown q e); have ho : u.ownsRow w.heap.size 90 15 v l.length (ecs l) := (by simpa using ho0))
   go_ret
   rcases own_form ho with ⟨e1, e2⟩ | ⟨g, c, e1, _⟩
   · exact ⟨none, 0, by rw [e1, e2]; rfl, by rw [e1, e2] at ho; rw [e2]; exact ho, hbu⟩
   · exact ⟨_, c, by rw [e1]; rfl, e1 ▸ ho, hbu⟩
theorem slice_e0 (a : Option Addr) (n c : Nat) (h : (a = none ∧ n = 0 ∧ c = 0) ∨ ∃ g, a = some ⟨g, 0, none⟩ ∧ n ≤ c) (W : World) : (Instr.sliceAt 44 (.slice a n c) (some (.int .i64 0)) none none).run Tryz.prog W = .ok (.slice a n c) W := by
 rcases h with ⟨rfl, rfl, rfl⟩ | ⟨g, rfl, h⟩
 · kernel_rfl
 · have h1 : (n : Int) ≤ (c : Int) := by omega
   have h3 : (0 : Int) ≤ (n : Int) := by omega
   go_simp
def Jpc (u : World) (L : List Ev) (g : Option Addr × Nat) (d : Bool) (V : World) : Prop := Below u.heap.size u V ∧ (d = true → V.ownsRow u.heap.size 90 15 (.slice g.1 L.length g.2) L.length (ecs L))
section
variable {w : World} {base x : Nat} {A : NA} {s : Ns}
theorem pastF_any (h : Nd w base x A s) (hl : s.ev.length ≤ 1000000) : Calls Tryz.prog 34 #[.pointer (some ⟨x, 0, none⟩), .int .i64 0] w fun e w' => ∃ a c, e = .returned (.slice a s.ev.length c) ∧ w'.ownsRow w.heap.size 90 15 (.slice a s.ev.length c) s.ev.length (ecs s.ev) ∧ Below w.heap.size w w' := by
 have hmx := mixO
 obtain ⟨L, hL⟩ : ∃ L, s.ev = L := ⟨_, rfl⟩
 have hO := h.obj
 have hP := h.past
 rw [hL] at hO hP hl ⊢
 clear hL h
 have hsl : ∀ W, (Instr.sliceAt 44 (.slice A.pa L.length A.pc) (some (.int .i64 0)) none none).run Tryz.prog W = .ok (.slice A.pa L.length A.pc) W := slice_e0 _ _ _ (by
  rcases own_form hP with ⟨e1, e2⟩ | ⟨g, cap', e1, _, _, h3, _⟩
  · simp only [Value.slice.injEq] at e1
    exact .inl ⟨e1.1, e1.2.1, e1.2.2⟩
  · simp only [Value.slice.injEq] at e1
    obtain ⟨e1, _, e3⟩ := e1
    exact .inr ⟨g, e1, by omega⟩)
 go_enter Tryz.func34, Tryz.ntmps34
 go_wp2
 rename_i hK
 refine wp_region_any hmx ?_
 refine zwt (G := (Option Addr × Nat)) (fun g i__ => ([(.pointer (some ⟨x, 0, none⟩)), (.pointer (some ⟨x, 0, none⟩)), (.pointer (some ⟨x, 10, none⟩)), (.slice A.pa L.length A.pc), (.int .i64 0), (.int .i64 0), (.pointer (some ⟨x, 0, none⟩)), (.pointer (some ⟨x, 0, none⟩)), (.pointer (some ⟨x, 10, none⟩)), (.slice A.pa L.length A.pc), (.int .i64 (L.length : Int)), (.int .i64 0), (.slice A.pa L.length A.pc), (.slice g.1 L.length g.2), (.slice g.1 L.length g.2)] : List Value).getD i__ undef) (fun g d V => Jpc w L g (d 13) V) (by kernel_rfl) ((none, 0)) (show Jpc w L (none, 0) false _ from ⟨(Below.refl _ _).drew, fun e => (by cases e)⟩) ?step1 ?fin1
 case step1 =>
  intro i o ho
  have hi : i < 15 := getElem?_lt ho
  match i, hi, ho with
  | 0, _, ho => cases ho; exact zgo fun g d hdep => zmv rfl trivial _ rfl (by kernel_rfl)
  | 1, _, ho => cases ho; exact zgo fun g d hdep => znc rfl trivial _ _ _ rfl rfl rfl
  | 2, _, ho => cases ho; exact zgo fun g d hdep => zfa rfl trivial _ _ _ _ rfl rfl (fun v hw => (zfn v _).2.2.2.2.2.2.2)
  | 3, _, ho => cases ho; exact zgo fun g d hdep => zld rfl trivial _ _ _ rfl rfl (fun v hw => load_pe0 (hO.carry hw.1).c10)
  | 4, _, ho => cases ho; exact zgo fun g d hdep => zmv rfl trivial _ rfl (by kernel_rfl)
  | 5, _, ho => cases ho; exact zgo fun g d hdep => step_bi rfl trivial _ _ _ [(.int .i64 0), (Go.Value.int Go.IntKind.i64 0)] rfl (by kernel_rfl) (fun cs v hw => (bi_max cs _ _ 0 0 v).trans rfl)
  | 6, _, ho => cases ho; exact zgo fun g d hdep => zmv rfl trivial _ rfl (by kernel_rfl)
  | 7, _, ho => cases ho; exact zgo fun g d hdep => znc rfl trivial _ _ _ rfl rfl rfl
  | 8, _, ho => cases ho; exact zgo fun g d hdep => zfa rfl trivial _ _ _ _ rfl rfl (fun v hw => (zfn v _).2.2.2.2.2.2.2)
  | 9, _, ho => cases ho; exact zgo fun g d hdep => zld rfl trivial _ _ _ rfl rfl (fun v hw => load_pe0 (hO.carry hw.1).c10)
  | 10, _, ho => cases ho; exact zgo fun g d hdep => step_bi rfl trivial _ _ _ [(.slice A.pa L.length A.pc)] rfl (by kernel_rfl) (fun cs v hw => rfl)
  | 11, _, ho => cases ho; exact zgo fun g d hdep => step_bi rfl trivial _ _ _ [(.int .i64 0), (.int .i64 (L.length : Int))] rfl (by kernel_rfl) (fun cs v hw => (bi_min cs _ _ 0 (L.length : Int) v).trans (by rw [show min (0 : Int) (L.length : Int) = 0 by omega]; rfl))
  | 12, _, ho => cases ho; exact zgo fun g d hdep => step_slice rfl trivial _ _ _ _ _ (some (.int .i64 0)) none rfl rfl rfl rfl (fun v hw => hsl v)
  | 13, _, ho => cases ho; exact stepG_call rfl (fun _ => trivial) 66 _ _ (fun _ => [.slice A.pa L.length A.pc]) rfl (fun g => by kernel_rfl) (enters_of Tryz.func66 (by kernel_rfl) rfl) (fun g d V hJ hun hdep hcl => (cloneE_any A.pa A.pc base L V (zrb hP hJ.1) hl).mono (by rintro e V' ⟨a, c, rfl, hrow, hb⟩; refine ⟨(a, c), rfl, (fun j hj => match j, hj with | 13, hj => (by rw [hj] at hun; cases hun) | 14, hj => absurd ((hcl 14 _ rfl hj 13 (by kernel_rfl))) (by rw [hun]; simp) | 0, _ => rfl | 1, _ => rfl | 2, _ => rfl | 3, _ => rfl | 4, _ => rfl | 5, _ => rfl | 6, _ => rfl | 7, _ => rfl | 8, _ => rfl | 9, _ => rfl | 10, _ => rfl | 11, _ => rfl | 12, _ => rfl | _ + 15, _ => rfl), ?_⟩; exact ⟨bel2 hJ.1 hb, fun _ => row_base hrow hJ.1.size⟩))
  | 14, _, ho => cases ho; exact zgo fun g d hdep => zas rfl trivial _ rfl (by kernel_rfl) (fun _ h => h)
 intro g d W hall hW
 first | refine hK _ _ ?_ | refine (‹∀ (a : Act) (w : World), Code.wp Tryz.prog _ _ a w → _›) _ _ ?_ | skip
 simp only [finL, List.getD_cons_zero, List.getD_cons_succ, Nat.zero_add, Nat.reduceAdd, List.setIfInBounds_toArray, List.set_cons_zero, List.set_cons_succ]
 rw [hall 13 (by decide)] at hW
 go_wp2
 go_ret
 exact ⟨_, _, rfl, hW.2 rfl, hW.1⟩
theorem past_any (h : Nd w base x A s) (hl : s.ev.length ≤ 1000000) : Calls Tryz.prog 12 #[.pointer (some ⟨x, 0, none⟩)] w fun e w' => ∃ a c, e = .returned (.slice a s.ev.length c) ∧ w'.ownsRow w.heap.size 90 15 (.slice a s.ev.length c) s.ev.length (ecs s.ev) ∧ Below w.heap.size w w' := by
 have h1 := pastF_any h hl
 go_enter Tryz.func12, Tryz.ntmps12
 go_wp2_with (go_at_call 34; (with_reducible refine h1.mono ?_); rintro r u ⟨a, c, rfl, hr, hu⟩)
 go_ret
 exact ⟨a, c, rfl, hr, hu⟩
end
end Go.Proofs.YtekjhcnaabpfmaaGreatDoor
namespace Go.Proofs.YtekjhcnaabpfmaaGreatDoor
open Go.RowKit Go.Shelf Go.Lib
attribute [local go_sem] Oper.semAt_some
theorem eqSelf (d A : Nat) (w : World) : (Op.equalIn (d + 2) 35 (sv A) (sv A)).run Tryz.prog w = .ok true w := by
 have hi : (Tryz.prog.info? 33).isSome = true := by kernel_rfl
 obtain ⟨i, hi⟩ := Option.isSome_iff_exists.1 hi
 have hc : Tryz.prog.cellsOf 33 = 1 := by kernel_rfl
 have he : Tryz.prog.plainKey 33 = true := by kernel_rfl
 have st : ∀ (j : Nat) (hj : j < 4) (is : List Nat), (Op.eqItems (d + 1) 33 1 (cells4 (wd A)) (cells4 (wd A)) (j :: is)).run Tryz.prog w = (Op.eqItems (d + 1) 33 1 (cells4 (wd A)) (cells4 (wd A)) is).run Tryz.prog w := fun j hj is => by
  have p1 := run_part_plain (P := Tryz.prog) w he (off := j * 1) (by rw [Nat.mul_one]; exact cells4_get (wd A) j hj)
  have p3 := run_equalIn_int (P := Tryz.prog) w d 33 .u32 .u32 (wd A j : Int) (wd A j : Int) Tryz.underlying33
  rw [Op.eqItems]
  simp only [Sem.run_bind, p1, Result.andThen_ok]
  rw [p3]
  simp
 rw [sv_cells, run_equalIn_array w (d + 1) _ _ Tryz.underlying35 hi, hc, show List.range 4 = [0, 1, 2, 3] from rfl]
 rw [st 0 (by decide), st 1 (by decide), st 2 (by decide), st 3 (by decide)]
 simp [Op.eqItems]
theorem bin_ev {x y : Operand} {w : World} (e : Ev) : binRun Tryz.prog .eql 90 x y (evV e) (evV e) w = .ok (.bool true) w := by
 have h1 := eqSelf 9997 e.he w
 have h2 := eqSelf 9997 e.un w
 simp only [sv] at h1 h2
 unfold binRun evV ecA
 go_simp
theorem idx_ev (g n cap i : Nat) (h : i < n) (W : World) : (Instr.indexAt 44 (.slice (some ⟨g, 0, none⟩) n cap) (.int .i64 (i : Int))).run Tryz.prog W = .ok (.pointer (some ⟨g, 0 + i * 15, none⟩)) W := by
 have h1 : (i : Int) < (n : Int) := by omega
 go_simp
theorem ecs_get : ∀ (l : List Ev) (k : Nat) (e : Ev) (j : Nat), j < 15 → l[k]? = some e → (ecs l)[k * 15 + j]? = (ec e)[j]?
 | [], k, e, j, _, h => by simp at h
 | x :: l, 0, e, j, hj, h => by
  obtain rfl : x = e := by simpa using h
  have : ecs (x :: l) = ec x ++ ecs l := by simp [ecs]
  rw [this, List.getElem?_append_left (by rw [ec_len]; omega)]
  simp
 | x :: l, k + 1, e, j, hj, h => by
  have : ecs (x :: l) = ec x ++ ecs l := by simp [ecs]
  rw [this, List.getElem?_append_right (by rw [ec_len]; omega), ec_len, ← ecs_get l k e j hj (by simpa using h)]
  congr 1
  omega
theorem load_ev {W : World} {base g n c k : Nat} {l : List Ev} {e : Ev} (h : W.ownsRow base 90 15 (.slice (some ⟨g, 0, none⟩) n c) n (ecs l)) (hk : l[k]? = some e) : (Instr.loadAt 90 (.pointer (some ⟨g, 0 + k * 15, none⟩))).run Tryz.prog W = .ok (evV e) W := by
 have hln := h.1
 rw [ecs_len] at hln
 have hlt : k < l.length := (List.getElem?_eq_some_iff.1 hk).1
 have q : ∀ j, j < 15 → W.cell? ⟨g, 0 + k * 15 + j, none⟩ = (ec e)[j]? := fun j hj => by
  rw [Nat.zero_add, h.cellAt (k * 15 + j) (by omega), ecs_get l k e j hj hk]
 have c0 := q 0 (by decide)
 have c1 := q 1 (by decide)
 have c2 := q 2 (by decide)
 have c3 := q 3 (by decide)
 have c4 := q 4 (by decide)
 have c5 := q 5 (by decide)
 have c6 := q 6 (by decide)
 have c7 := q 7 (by decide)
 have c8 := q 8 (by decide)
 have c9 := q 9 (by decide)
 have c10 := q 10 (by decide)
 have c11 := q 11 (by decide)
 have c12 := q 12 (by decide)
 have c13 := q 13 (by decide)
 have c14 := q 14 (by decide)
 unfold ec ecA at c0 c1 c2 c3 c4 c5 c6 c7 c8 c9 c10 c11 c12 c13 c14
 simp at c0 c1 c2 c3 c4 c5 c6 c7 c8 c9 c10 c11 c12 c13 c14
 unfold evV ecA
 go_simp
theorem sameE_any (a a2 : Option Addr) (c c2 b1 b2 : Nat) (l : List Ev) (w : World) (h : w.ownsRow b1 90 15 (.slice a l.length c) l.length (ecs l)) (h2 : w.ownsRow b2 90 15 (.slice a2 l.length c2) l.length (ecs l)) (hl : l.length ≤ 1000000) : Calls Tryz.prog 16 #[.slice a l.length c, .slice a2 l.length c2] w fun e w' => e = .returned (.bool true) ∧ Below w.heap.size w w' := by
 have hmx := mixO
 have HA : Hid (w.ownsRow b1 90 15 (.slice a l.length c) l.length (ecs l)) := h
 have HB : Hid (w.ownsRow b2 90 15 (.slice a2 l.length c2) l.length (ecs l)) := h2
 clear h h2
 go_enter Tryz.func16, Tryz.ntmps16
 go_wp2
 go_loopw [5] (fun i wz => ∃ (k : Nat), i = .int .i64 k ∧ k ≤ l.length ∧ Below w.heap.size w wz) (fun i _ => l.length - vnatR i)
 case atStart => exact ⟨0, rfl, Nat.zero_le _, Below.refl _ _⟩
 case round =>
  obtain ⟨k, rfl, hk, hbw⟩ := hrel
  by_cases hkl : k < l.length
  · rcases own_form HA.out with ⟨_, e⟩ | ⟨g, cp, e1, _⟩
    · omega
    rcases own_form HB.out with ⟨_, e⟩ | ⟨g2, cp2, e2, _⟩
    · omega
    simp only [Value.slice.injEq] at e1 e2
    obtain ⟨rfl, _, rfl⟩ := e1
    obtain ⟨rfl, _, rfl⟩ := e2
    have r1 := zrb HA.out hbw
    have r2 := zrb HB.out hbw
    obtain ⟨e, hx⟩ : ∃ x, l[k]? = some x := ⟨_, List.getElem?_eq_getElem hkl⟩
    have hki : (k : Int) < (l.length : Int) := by omega
    go_wp2
    rename_i Q0 K0 hK
    refine wp_region_any hmx ?_
    refine zwp (fun i__ => ([(.slice (some ⟨g, 0, none⟩) l.length c), (.int .i64 (k : Int)), (.pointer (some ⟨g, 0 + k * 15, none⟩)), (evV e), (.slice (some ⟨g2, 0, none⟩) l.length c2), (.int .i64 (k : Int)), (.pointer (some ⟨g2, 0 + k * 15, none⟩)), (evV e), (.bool true), (.bool false)] : List Value).getD i__ undef) (fun W => Below wr.heap.size wr W) (by kernel_rfl) (Below.refl _ _).drew ?_ ?_
    · refine (sqc ?_ (sqc ?_ (sqc ?_ (sqc ?_ (sqc ?_ (sqc ?_ (sqc ?_ (sqc ?_ (sqc ?_ (sqc ?_ trivial))))))))))
      · exact zmv rfl trivial _ rfl (by kernel_rfl)
      · exact zmv rfl trivial _ rfl (by kernel_rfl)
      · exact zia rfl trivial _ _ _ _ _ rfl rfl rfl (fun w hw => idx_ev g l.length c k hkl w)
      · exact zld rfl trivial _ _ _ rfl rfl (fun w hw => load_ev (zrb r1 hw) hx)
      · exact zmv rfl trivial _ rfl (by kernel_rfl)
      · exact zmv rfl trivial _ rfl (by kernel_rfl)
      · exact zia rfl trivial _ _ _ _ _ rfl rfl rfl (fun w hw => idx_ev g2 l.length c2 k hkl w)
      · exact zld rfl trivial _ _ _ rfl rfl (fun w hw => load_ev (zrb r2 hw) hx)
      · exact zbo rfl trivial _ _ _ _ _ _ _ rfl rfl rfl (fun w hw => bin_ev _)
      · exact step_unOp rfl trivial _ _ _ _ rfl rfl (fun w hw => un_notN _ w)
    intro W hW
    first | refine hK _ _ ?_ | refine (‹∀ (a : Act) (w : World), Code.wp Tryz.prog _ _ a w → _›) _ _ ?_
    simp only [finL, List.getD_cons_zero, List.getD_cons_succ, Nat.zero_add, Nat.reduceAdd, List.setIfInBounds_toArray, List.set_cons_zero, List.set_cons_succ]
    clear hK
    go_wp2
    go_roundw
    case rel => exact ⟨k + 1, by simp, by omega, bel2 hbw hW⟩
    case measure => simp [vnatR]; omega
  · have hkk : k = l.length := by omega
    subst hkk
    go_wp2
    go_ret
    exact ⟨rfl, hbw⟩
end Go.Proofs.YtekjhcnaabpfmaaGreatDoor
