import Derived.Test.YtekjhcnaabpfmaaGreatDoorJnJ6
import Derived.Laws.AppendOwnNone
import Derived.Test.YtekjhcnaabpfmaaGreatDoorJnJ1
import Derived.Test.YtekjhcnaabpfmaaGreatDoorJnJ3
import Derived.Shelf.RegionOpen
import Derived.WalkKit
import Derived.WalkSpells
import Derived.OwnWalkIn
import Derived.TacticsInMore
import Derived.LoopNIn
import Derived.LoopIn
import Derived.Lib.OthersKept
import Derived.Deep.Light
import Derived.Laws.IdiomStrings
set_option maxHeartbeats 40000000
set_option maxRecDepth 100000
set_option linter.unusedVariables false
namespace Go.Proofs.YtekjhcnaabpfmaaGreatDoor
open Go.RowKit Go.Shelf
theorem infoZ : (Tryz.prog.info? 35).map (fun i => (i.zero, i.size, i.bytes)) = some (some (.agg #[.int .u32 0, .int .u32 0, .int .u32 0, .int .u32 0]), 4, 16) := by kernel_rfl
theorem bs0S (W : World) : (Instr.buildSlice 141 0 #[]).run Tryz.prog W = .ok (.slice (some ⟨W.heap.size, 0, none⟩) 0 0) (W.alloc (.cells #[] 35)) := by go_simp
theorem nilS_no (a : Addr) (n c : Nat) (w : World) : (binOp .eql 141 (.slice (some a) n c) (.slice none 0 0)).run Tryz.prog w = .ok (.bool false) w := by kernel_rfl
theorem nilS_yes (n c : Nat) (w : World) : (binOp .eql 141 (.slice none n c) (.slice none 0 0)).run Tryz.prog w = .ok (.bool true) w := by kernel_rfl
theorem fs_src {W : World} {base g n c : Nat} {l : List Nat} (h : W.ownsRow base 35 4 (.slice (some ⟨g, 0, none⟩) n c) n (fs l)) : ∀ j u, (fs l)[j]? = some u → W.cell? ((⟨g, 0, none⟩ : Addr).add j) = some u := fun j u hj => by
 rw [add_pl, Nat.zero_add]
 have h1 := (List.getElem?_eq_some_iff.1 hj).1
 rw [h.1] at h1
 exact (h.cellAt j (by omega)).trans hj
theorem cloneS_any (ad : Option Addr) (cap base : Nat) (l : List Nat) (w : World) (h : w.ownsRow base 35 4 (.slice ad l.length cap) l.length (fs l)) (hl : l.length ≤ 100000) : Calls Tryz.prog 155 #[.slice ad l.length cap] w fun e w' => ∃ a c, e = .returned (.slice a l.length c) ∧ w'.ownsRow w.heap.size 35 4 (.slice a l.length c) l.length (fs l) ∧ Below w.heap.size w w' := by
 obtain ⟨ic, hic, hz0, hz1, hz2⟩ := info_parts infoZ
 have hb := bs0S
 have n1 := nilS_no
 have n2 := nilS_yes
 rcases own_form h with ⟨e1, e2⟩ | ⟨g, cap', e1, _⟩
 · simp only [Value.slice.injEq] at e1
   have hl0 : l = [] := List.length_eq_zero_iff.1 e2
   subst hl0
   obtain ⟨rfl, _, rfl⟩ := e1
   go_enter Tryz.func155, Tryz.ntmps155
   go_wp2
   go_ret
   exact ⟨none, 0, rfl, World.ownsRow_nil _ _ _ _, Below.refl _ _⟩
 · simp only [Value.slice.injEq] at e1
   obtain ⟨rfl, _, rfl⟩ := e1
   have hb0 := al1' w (.cells #[] 35)
   have hnews := fs_src (zrb h hb0)
   have hown := World.ownsRow_lit (base := w.heap.size) (e := 35) (size := 4) w #[] 0 (Nat.le_refl _) (by unfold maxLen; omega) (by simp)
   clear h
   go_enter Tryz.func155, Tryz.ntmps155
   go_wp2_with (at_builtin; refine wpList_append_own_at _ rfl _ _ 141 rfl w.heap.size 35 ic _ 4 16 Tryz.underlying141 hic hz0 hz1 hz2 rfl (by decide) _ 0 [] rfl hown ⟨g, 0, none⟩ l.length cap (fs l) rfl (by rw [fs_len]) hnews (fs_one l) (by unfold maxLen; omega) (by omega) (by simp) ?_; intro v u ho0 hgu hnn _; have hbu : Below w.heap.size w u := hb0.grown hgu (by simp) (fun q e => own_block hown q e); have ho : u.ownsRow w.heap.size 35 4 v l.length (fs l) := (by simpa using ho0))
   go_ret
   rcases own_form ho with ⟨e1, e2⟩ | ⟨g, c, e1, _⟩
   · exact ⟨none, 0, by rw [e1, e2]; rfl, by rw [e1, e2] at ho; rw [e2]; exact ho, hbu⟩
   · exact ⟨_, c, by rw [e1]; rfl, e1 ▸ ho, hbu⟩
section
variable {w W V : World} {base q : Nat} {ad : Option Addr} {cap : Nat} {t : Tl}
theorem heards_any (h : Ta W base q ad cap t) (hl : t.hs.length ≤ 100000) : Calls Tryz.prog 132 #[.pointer (some ⟨q, 0, none⟩)] W fun e w' => ∃ a c, e = .returned (.slice a t.hs.length c) ∧ w'.ownsRow W.heap.size 35 4 (.slice a t.hs.length c) t.hs.length (fs t.hs) ∧ Below W.heap.size W w' := by
 have hk := kept_any h
 have hc := cloneS_any ad cap base t.hs W h.row hl
 go_enter Tryz.func132, Tryz.ntmps132
 go_wp2_with (first | (go_at_call 129; (with_reducible refine hk.mono ?_); rintro e u ⟨rfl, hu⟩; obtain rfl := hu.symm) | (go_at_call 155; (with_reducible refine hc.mono ?_); rintro e u ⟨a, c, rfl, ho, hb⟩))
 go_ret
 exact ⟨a, c, rfl, ho, hb⟩
structure Jc (w0 : World) (base q hb : Nat) (ad : Option Addr) (cap : Nat) (t : Tl) (N : Nat) (g : Nat × Option Addr × Nat) (d6 d7 d10 : Bool) (V : World) : Prop where
 obj : V.heap[q]? = some (.cells (taC t (if d10 = true then .slice g.2.1 (t.hs.length + 1) g.2.2 else .slice ad t.hs.length cap)) 143 (0, 0))
 bx : Zh4 V hb (wd N)
 r0 : d7 = false → V.ownsRow base 35 4 (.slice ad t.hs.length cap) t.hs.length (fs t.hs)
 r1 : d7 = true → V.ownsRow base 35 4 (.slice g.2.1 (t.hs.length + 1) g.2.2) (t.hs.length + 1) (fs (t.hs ++ [N]))
 bl : d6 = true → d7 = false → Zh4 V g.1 (wd N) ∧ ob ad ≠ some g.1
 tn : Tn q (ob ad) (if d7 = true then ob g.2.1 else ob ad) w0 V
theorem bs1S (W : World) (N : Nat) : (Instr.buildSlice 141 1 #[(0, sv N)]).run Tryz.prog W = .ok (.slice (some ⟨W.heap.size, 0, none⟩) 1 1) (W.alloc (.cells (cells4 (wd N)) 35)) := by
 unfold sv cells4
 go_simp
theorem load_tl {W : World} {q : Nat} {ad : Option Addr} {n cap : Nat} {C : Array Value} {ty : TypeId} (h : W.heap[q]? = some (.cells C ty (0, 0))) (hc : C[7]? = some (.slice ad n cap)) : (Instr.loadAt 141 (.pointer (some ⟨q, 7, none⟩))).run Tryz.prog W = .ok (.slice ad n cap) W := by
 have c0 : W.cell? ⟨q, 7, none⟩ = some (.slice ad n cap) := (zca h 7).trans hc
 go_simp
theorem store_tl {W : World} {q : Nat} {ad : Option Addr} {n cap : Nat} {S : Value} (h : W.heap[q]? = some (.cells (taC t S) 143 (0, 0))) : (Instr.storeAt 141 (.pointer (some ⟨q, 7, none⟩)) (.slice ad n cap)).run Tryz.prog W = .ok () (W.setCell ⟨q, 7, none⟩ (.slice ad n cap)) ∧ (W.setCell ⟨q, 7, none⟩ (.slice ad n cap)).heap[q]? = some (.cells (taC t (.slice ad n cap)) 143 (0, 0)) := by
 have c0 : W.cell? ⟨q, 7, none⟩ = some S := (zca h 7).trans rfl
 have z0 := zta h 7
 refine ⟨by go_simp, ?_⟩
 have := heap_setCell_same _ _ 7 _ _ (.slice ad n cap) h
 exact this.trans rfl
theorem Tn.set {p : Nat} {g g' : Option Nat} {W V : World} (h : Tn p g g' W V) (j : Nat) (u : Value) : Tn p g g' W (V.setCell ⟨p, j, none⟩ u) :=
 ⟨h.os, h.tape, h.output, by simpa using h.size, fun k hk h1 h2 => (Below.heap_setCell _ _ _ _ h1).trans (h.block k hk h1 h2), h.own⟩
theorem Tn.alloc {p : Nat} {g g' : Option Nat} {W V : World} (h : Tn p g g' W V) (o : Obj) : Tn p g g' W (V.alloc o) := h.trans (Tn.of p g' (al1' _ _))
def setR (W : World) (q M : Nat) : World := (((W.setCell ⟨q, 3, none⟩ (.int .u32 (wd M 0 : Nat))).setCell ⟨q, 4, none⟩ (.int .u32 (wd M 1 : Nat))).setCell ⟨q, 5, none⟩ (.int .u32 (wd M 2 : Nat))).setCell ⟨q, 6, none⟩ (.int .u32 (wd M 3 : Nat))
theorem Ta.putR (h : Ta W base q ad cap t) (M : Nat) : Ta (setR W q M) base q ad cap { t with reps := M } ∧ Tn q (ob ad) (ob ad) W (setR W q M) := by
 have h0 := heap_setCell_same _ _ 3 _ _ (.int .u32 (wd M 0 : Nat)) h.obj
 have h1 := heap_setCell_same _ _ 4 _ _ (.int .u32 (wd M 1 : Nat)) h0
 have h2 := heap_setCell_same _ _ 5 _ _ (.int .u32 (wd M 2 : Nat)) h1
 have h3 := heap_setCell_same _ _ 6 _ _ (.int .u32 (wd M 3 : Nat)) h2
 have hne : (Value.slice ad t.hs.length cap).ownBlock ≠ some q := by rw [ob_eq]; exact h.ne
 refine ⟨⟨h.qb, h3, row_other (row_other (row_other (row_other h.row hne _) hne _) hne _) hne _⟩, ?_⟩
 exact ((((Tn.of q (ob ad) (Below.refl _ W)).set 3 _).set 4 _).set 5 _).set 6 _
theorem Jc.start {hb N : Nat} (h : Ta W base q ad cap t) (hx : Zh4 W hb (wd N)) (ht : Tn q (ob ad) (ob ad) w W) : Jc w base q hb ad cap t N (0, none, 0) false false false W.drew :=
 ⟨h.obj, hx, fun _ => zrb h.row (Below.refl _ _).drew, fun e => (by cases e), fun e => (by cases e), ht.trans (Tn.of q _ (Below.refl _ _).drew)⟩
theorem Jc.build {hb N : Nat} {g : Nat × Option Addr × Nat} (h : Jc w base q hb ad cap t N g false false false V) : Jc w base q hb ad cap t N (V.heap.size, g.2) true false false (V.alloc (.cells (cells4 (wd N)) 35)) := by
 have ha := al1' V (.cells (cells4 (wd N)) 35)
 refine ⟨zoa h.obj, zoa h.bx, fun _ => zrb (h.r0 rfl) ha, fun e => by (cases e), fun _ _ => ⟨zna rfl, fun e => ?_⟩, h.tn.alloc _⟩
 have := (row_lt2 (h.r0 rfl) V.heap.size (by rw [ob_eq]; exact e)).2
 omega
theorem Jc.app {hb N : Nat} {g : Nat × Option Addr × Nat} (h : Jc w base q hb ad cap t N g true false false V) (hb0 : base ≤ V.heap.size) (hl : t.hs.length ≤ 1000) (hhb : ob ad ≠ some hb) (ty : TypeId) : ∃ a c V', (Builtin.append_ #[141, 141] ty #[.slice ad t.hs.length cap, .slice (some ⟨g.1, 0, none⟩) 1 1]).run Tryz.prog V = .ok (.slice a (t.hs.length + 1) c) V' ∧ Jc w base q hb ad cap t N (g.1, a, c) true true false V' := by
 obtain ⟨ic, hic, hz0, hz1, hz2⟩ := info_parts infoZ
 obtain ⟨hg, hne⟩ := h.bl rfl rfl
 obtain ⟨v', V', hr, ho, hgr, hn, hown⟩ := run_append_own_at (P := Tryz.prog) V base 141 ty 35 ic _ 4 16 Tryz.underlying141 hic hz0 hz1 hz2 rfl (by decide) _ t.hs.length (fs t.hs) (h.r0 rfl) ⟨g.1, 0, none⟩ 1 1 (fs [N]) rfl (fun j u hj => by
   rw [add_pl, Nat.zero_add, zca hg]
   have e : (fs [N]) = (cells4 (wd N)).toList := rfl
   rw [e] at hj
   simpa using hj) (fs_one _) (by unfold maxLen; omega) (by omega) hb0
 rw [← fs_append] at ho
 rcases own_form ho with ⟨_, e2⟩ | ⟨g2, c, e1, _⟩
 · omega
 · subst e1
   rw [ob_eq] at hgr
   refine ⟨_, c, V', hr, (hgr.block q (zla h.obj) (fun e => ?_)).trans h.obj, (hgr.block hb h.bx.lt (fun e => hhb e.symm)).trans h.bx, fun e => (by cases e), fun _ => ho, fun _ e => (by cases e), ?_⟩
   · exact row_type (h.r0 rfl) h.obj (by decide) (by rw [ob_eq]; exact e.symm)
   · refine h.tn.trans ⟨hgr.os, hgr.tape, hgr.output, hgr.size, fun k hk _ h2 => hgr.block k hk h2, ?_⟩
     rcases hown with k | k
     · exact .inl ((ob_eq _ _ _).symm.trans (k.trans (ob_eq _ _ _)))
     · exact .inr fun b e => by
        have : some b = some V.heap.size := e.symm.trans ((ob_eq _ _ _).symm.trans k)
        cases this
        exact Nat.le_refl _
theorem Jc.store {hb N : Nat} {g : Nat × Option Addr × Nat} {d10 : Bool} (h : Jc w base q hb ad cap t N g true true d10 V) (hqb : hb ≠ q) : ∃ V', (Instr.storeAt 141 (.pointer (some ⟨q, 7, none⟩)) (.slice g.2.1 (t.hs.length + 1) g.2.2)).run Tryz.prog V = .ok () V' ∧ Jc w base q hb ad cap t N g true true true V' := by
 obtain ⟨h1, h2⟩ := store_tl (ad := g.2.1) (n := t.hs.length + 1) (cap := g.2.2) h.obj
 refine ⟨_, h1, h2, (Below.heap_setCell _ _ _ _ hqb).trans h.bx, fun e => (by cases e), fun _ => row_other (h.r1 rfl) (row_type (h.r1 rfl) h.obj (by decide)) _, fun _ e => (by cases e), h.tn.set 7 _⟩
theorem tcount_any (h : Ta W base q ad cap t) (hb0 : base ≤ W.heap.size) (hl : t.hs.length ≤ 1000) (id : Int) (N : Nat) : Calls Tryz.prog 104 #[.pointer (some ⟨q, 0, none⟩), .int .i64 id, sv N] W fun e w' => e = .returned (.tuple #[]) ∧ ∃ ad' cap', Ta w' base q ad' cap' (cntT t id N) ∧ Tn q (ob ad) (ob ad') W w' := by
 have hmx := mixO
 obtain ⟨w1, hw1⟩ : ∃ w1, W.alloc (.cells #[.int .u32 (wd N 0 : Nat), .int .u32 (wd N 1 : Nat), .int .u32 (wd N 2 : Nat), .int .u32 (wd N 3 : Nat)] 35) = w1 := ⟨_, rfl⟩
 have hb1 : Below W.heap.size W w1 := by rw [← hw1]; exact al1' _ _
 have g1 : Zh4 w1 W.heap.size (wd N) := by rw [← hw1]; exact zna rfl
 have hT1 := h.carry hb1
 have hwi := twith_any hT1 id
 generalize hM : wthN t.reps id = M at *
 simp only [sv] at hwi ⊢
 go_enter Tryz.func104, Tryz.ntmps104
 go_wp2_with (go_at_call 142; (with_reducible refine hwi.mono ?_); rintro e u ⟨rfl, hb⟩; have hT2 := hT1.carry hb; obtain ⟨_, _, _, c3, c4, c5, c6, _⟩ := hT2.cells; have z3 := zta hT2.obj 3; have z4 := zta hT2.obj 4; have z5 := zta hT2.obj 5; have z6 := zta hT2.obj 6)
 obtain ⟨hT3, hn3⟩ := hT2.putR M
 have hlt := h.lt
 have g3 : Zh4 (setR u q M) W.heap.size (wd N) := (hn3.block _ (g1.carry hb).lt (by omega) (fun e => by have := (row_lt2 h.row W.heap.size (by rw [ob_eq]; exact e.symm)).2; omega)).trans (g1.carry hb)
 have hn : Tn q (ob ad) (ob ad) W (setR u q M) := (Tn.of q _ (bel2 hb1 hb)).trans hn3
 have hhb : ob ad ≠ some W.heap.size := fun e => by have := (row_lt2 h.row W.heap.size (by rw [ob_eq]; exact e)).2; omega
 have hqb : W.heap.size ≠ q := by omega
 have hst := Jc.start hT3 g3 hn
 have eW : (((u.setCell ⟨q, 3, none⟩ (.int .u32 (wd M 0 : Nat))).setCell ⟨q, 4, none⟩ (.int .u32 (wd M 1 : Nat))).setCell ⟨q, 5, none⟩ (.int .u32 (wd M 2 : Nat))).setCell ⟨q, 6, none⟩ (.int .u32 (wd M 3 : Nat)) = setR u q M := rfl
 rw [eW]
 obtain ⟨t', ht'⟩ : ∃ t' : Tl, { t with reps := M } = t' := ⟨_, rfl⟩
 have hl' : t'.hs = t.hs := by rw [← ht']
 have hlen : t'.hs.length = t.hs.length := by rw [hl']
 rw [ht'] at hst
 have hl2 : t'.hs.length ≤ 1000 := by omega
 generalize setR u q M = w3 at *
 rename_i hK
 refine wp_region_any hmx ?_
 refine zwt (G := (Nat × Option Addr × Nat)) (fun g i__ => ([(.pointer (some ⟨q, 0, none⟩)), (.pointer (some ⟨q, 0, none⟩)), (.pointer (some ⟨q, 0, none⟩)), (.pointer (some ⟨q, 7, none⟩)), (.slice ad t'.hs.length cap), (sv N), (.slice (some ⟨g.1, 0, none⟩) 1 1), (.slice g.2.1 (t'.hs.length + 1) g.2.2), (.pointer (some ⟨q, 0, none⟩)), (.pointer (some ⟨q, 7, none⟩)), undef] : List Value).getD i__ undef) (fun g d V => Jc W base q W.heap.size ad cap t' N g (d 6) (d 7) (d 10) V) (by kernel_rfl) ((0, none, 0)) hst ?step1 ?fin1
 case step1 =>
   intro i o ho
   have hi : i < 11 := getElem?_lt ho
   match i, hi, ho with
   | 0, _, ho => cases ho; exact zgo fun g d hdep => zmv rfl trivial _ rfl (by kernel_rfl)
   | 1, _, ho => cases ho; exact zgo fun g d hdep => zmv rfl trivial _ rfl (by kernel_rfl)
   | 2, _, ho => cases ho; exact zgo fun g d hdep => znc rfl trivial _ _ _ rfl rfl rfl
   | 3, _, ho => cases ho; exact zgo fun g d hdep => zfa rfl trivial _ _ _ _ rfl rfl (fun v hw => field_t4 v _)
   | 4, _, ho => cases ho; exact zgc (fun g d hun hdep hcl => zld rfl trivial _ _ _ rfl rfl (fun v hw => load_tl (by have h10 : d 10 = false := (by cases h : d 10 with | false => rfl | true => exact absurd (hcl 10 _ rfl h 4 (by kernel_rfl)) (by rw [hun]; simp)); have := hw.obj; rw [h10] at this; exact this) rfl))
   | 5, _, ho => cases ho; exact zgo fun g d hdep => zld rfl trivial _ _ _ rfl rfl (fun v hw => whole4 v _ N hw.bx)
   | 6, _, ho => cases ho; exact stepG_buildG rfl rfl _ _ (fun g => sv N) rfl (fun g => by kernel_rfl) (fun g d V hJ hun hdep hcl => by have h7 : d 7 = false := (by cases h : d 7 with | false => rfl | true => exact absurd (hcl 7 _ rfl h 6 (by kernel_rfl)) (by rw [hun]; simp)); have h10 : d 10 = false := (by cases h : d 10 with | false => rfl | true => exact absurd (hcl 10 _ rfl h 6 (by kernel_rfl)) (by rw [hun]; simp)); have hJ' := hJ; rw [hun, h7, h10] at hJ'; refine ⟨(V.heap.size, g.2), _, bs1S V N, (fun j hj => match j, hj with | 6, hj => (by rw [hj] at hun; cases hun)  | 0, _ => rfl | 1, _ => rfl | 2, _ => rfl | 3, _ => rfl | 4, _ => rfl | 5, _ => rfl | 7, _ => rfl | 8, _ => rfl | 9, _ => rfl | 10, _ => rfl | _ + 11, _ => rfl), ?_⟩; show Jc W base q W.heap.size ad cap t' N _ true (d 7) (d 10) _; rw [h7, h10]; exact hJ'.build)
   | 7, _, ho => cases ho; exact stepG_append rfl rfl _ _ _ (fun _ => .slice ad t'.hs.length cap) (fun g => .slice (some ⟨g.1, 0, none⟩) 1 1) rfl (fun g => by kernel_rfl) (fun g => by kernel_rfl) (fun g d V hJ hun hdep hcl => by have h6 : d 6 = true := hdep 6 (by kernel_rfl); have h10 : d 10 = false := (by cases h : d 10 with | false => rfl | true => exact absurd (hcl 10 _ rfl h 7 (by kernel_rfl)) (by rw [hun]; simp)); have hJ' := hJ; rw [h6, hun, h10] at hJ'; obtain ⟨a, c, V', hr, hA⟩ := hJ'.app (Nat.le_trans hb0 hJ'.tn.size) hl2 hhb 141; refine ⟨(g.1, a, c), V', hr, (fun j hj => match j, hj with | 7, hj => (by rw [hj] at hun; cases hun)  | 0, _ => rfl | 1, _ => rfl | 2, _ => rfl | 3, _ => rfl | 4, _ => rfl | 5, _ => rfl | 6, _ => rfl | 8, _ => rfl | 9, _ => rfl | 10, _ => rfl | _ + 11, _ => rfl), ?_⟩; show Jc W base q W.heap.size ad cap t' N _ (d 6) true (d 10) V'; rw [h6, h10]; exact hA)
   | 8, _, ho => cases ho; exact zgo fun g d hdep => znc rfl trivial _ _ _ rfl rfl rfl
   | 9, _, ho => cases ho; exact zgo fun g d hdep => zfa rfl trivial _ _ _ _ rfl rfl (fun v hw => field_t4 v _)
   | 10, _, ho => cases ho; exact zgo fun g d hdep => step_store rfl trivial rfl _ _ _ _ _ rfl rfl rfl (fun V hw => by have h6 : d 6 = true := hdep 6 (by kernel_rfl); have h7 : d 7 = true := hdep 7 (by kernel_rfl); have hw' := hw; rw [h6, h7] at hw'; obtain ⟨V', hr, hA⟩ := hw'.store hqb; refine ⟨V', hr, ?_⟩; show Jc W base q W.heap.size ad cap t' N _ (d 6) (d 7) true V'; rw [h6, h7]; exact hA)
 intro g d W hall hW
 first | refine hK _ _ ?_ | refine (‹∀ (a : Act) (w : World), Code.wp Tryz.prog _ _ a w → _›) _ _ ?_ | skip
 simp only [finL, List.getD_cons_zero, List.getD_cons_succ, Nat.zero_add, Nat.reduceAdd, List.setIfInBounds_toArray, List.set_cons_zero, List.set_cons_succ]
 rw [hall 6 (by decide), hall 7 (by decide), hall 10 (by decide)] at hW
 go_end0
 refine ⟨rfl, g.2.1, g.2.2, ⟨h.qb, ?_, ?_⟩, hW.tn⟩
 · have h1 := hW.obj
   rw [if_pos rfl, ← ht'] at h1
   refine h1.trans ?_
   simp [cntT, taC, hM]
 · have h1 := hW.r1 rfl
   rw [hl'] at h1
   simpa [cntT] using h1
end
def bef (t : Tl) (f r : Int) (N : Nat) : Nat → Bool
 | 0 => !isN f t.n
 | 1 => !wthB N t.n
 | 2 => decide (r ≠ t.ro)
 | 3 => decide (wthN t.reps f = t.reps)
 | _ => rdy t
theorem fate_yes {t : Tl} {f r : Int} {N : Nat} (i : Nat) (hi : i < 5) (h : i ≤ fate t f r N) (hb : bef t f r N i = true) : fate t f r N = i := by
 unfold fate at h ⊢
 match i, hi with
 | 0, _ => simp [bef] at hb; simp [hb]
 | 1, _ => simp [bef] at hb; simp [hb] at h ⊢; by_cases q : isN f t.n = false <;> simp_all
 | 2, _ => simp [bef] at hb; simp [hb] at h ⊢; by_cases q : isN f t.n = false <;> by_cases q2 : wthB N t.n = false <;> simp_all
 | 3, _ => simp [bef] at hb; by_cases q : isN f t.n = false <;> by_cases q2 : wthB N t.n = false <;> by_cases q3 : r = t.ro <;> simp_all
 | 4, _ => simp [bef] at hb; by_cases q : isN f t.n = false <;> by_cases q2 : wthB N t.n = false <;> by_cases q3 : r = t.ro <;> by_cases q4 : wthN t.reps f = t.reps <;> simp_all
theorem fate_no {t : Tl} {f r : Int} {N : Nat} (i : Nat) (hi : i < 5) (h : i ≤ fate t f r N) (hb : bef t f r N i = false) : i + 1 ≤ fate t f r N := by
 rcases Nat.lt_or_ge i (fate t f r N) with q | q
 · exact q
 · have e : fate t f r N = i := by omega
   exfalso
   unfold fate at e
   match i, hi with
   | 0, _ => simp [bef] at hb; simp [hb] at e; split at e <;> (try split at e) <;> (try split at e) <;> (try split at e) <;> omega
   | 1, _ => simp [bef] at hb; simp [hb] at e; split at e <;> (try split at e) <;> (try split at e) <;> (try split at e) <;> omega
   | 2, _ => simp [bef] at hb; simp [hb] at e; split at e <;> (try split at e) <;> (try split at e) <;> (try split at e) <;> omega
   | 3, _ => simp [bef] at hb; simp [hb] at e; split at e <;> (try split at e) <;> (try split at e) <;> (try split at e) <;> omega
   | 4, _ => simp [bef] at hb; simp [hb] at e; split at e <;> (try split at e) <;> (try split at e) <;> (try split at e) <;> omega
structure Lt (W : World) (base q k : Nat) (ad : Option Addr) (cap : Nat) (t : Tl) (f r : Int) (N : Nat) (V : World) : Prop where
 ta : Ta V base q ad cap t
 fx : Fx V k q f r N
 tab : V.heap[k + 1 + 1 + 1 + 1]? = some (.cells (ftC k q) 253 (0, 0))
 hb : Zh4 V W.heap.size (wd N)
 bl : Below W.heap.size W V
theorem Lt.carry {W V V' : World} {base q k cap : Nat} {ad : Option Addr} {t : Tl} {f r : Int} {N : Nat} (h : Lt W base q k ad cap t f r N V) (hb : Below V.heap.size V V') : Lt W base q k ad cap t f r N V' :=
 ⟨h.ta.carry hb, h.fx.carry hb, (hb.block _ (zla h.tab)).trans h.tab, h.hb.carry hb, bel2 h.bl hb⟩
theorem infoF : (Tryz.prog.info? 253).map (·.size) = some 3 := by kernel_rfl
theorem field_f0 (W : World) (B : Nat) : (Instr.fieldAt 253 (.pointer (some ⟨B, 0, none⟩)) 0).run Tryz.prog W = .ok (.pointer (some ⟨B, 0, none⟩)) W := by go_simp
theorem field_f1 (W : World) (B : Nat) : (Instr.fieldAt 253 (.pointer (some ⟨B, 0, none⟩)) 1).run Tryz.prog W = .ok (.pointer (some ⟨B, 1, none⟩)) W := by go_simp
theorem load_en {W : World} {B o : Nat} {x : Int} (h : W.cell? ⟨B, o, none⟩ = some (.int .i64 x)) : (Instr.loadAt 25 (.pointer (some ⟨B, o, none⟩))).run Tryz.prog W = .ok (.int .i64 x) W := by go_simp
section
variable {W : World} {base q : Nat} {ad : Option Addr} {cap : Nat} {t : Tl}
theorem take_any (h : Ta W base q ad cap t) (hv : Tv t) (hb0 : base ≤ W.heap.size) (f r : Int) (N : Nat) (hN : N < S128) : Calls Tryz.prog 128 #[.pointer (some ⟨q, 0, none⟩), .int .i64 f, .int .i64 r, sv N] W fun e w' => e = .returned (.tuple #[.int .i64 (kd (fate t f r N)), .int .i64 (ke (fate t f r N))]) ∧ ∃ ad' cap', Ta w' base q ad' cap' (tk t f r N) ∧ Tn q (ob ad) (ob ad') W w' ∧ (fate t f r N ≠ 5 → ad' = ad ∧ cap' = cap ∧ Below W.heap.size W w') := by
 have hmx := mixO
 obtain ⟨w1, hw1⟩ : ∃ w1, W.alloc (.cells #[.int .u32 (wd N 0 : Nat), .int .u32 (wd N 1 : Nat), .int .u32 (wd N 2 : Nat), .int .u32 (wd N 3 : Nat)] 35) = w1 := ⟨_, rfl⟩
 have hb1 : Below W.heap.size W w1 := by rw [← hw1]; exact al1' _ _
 have g1 : Zh4 w1 W.heap.size (wd N) := by rw [← hw1]; exact zna rfl
 obtain ⟨y0, y1, y2, y3, _⟩ := g1.facts
 have G1 : Hid (Zh4 w1 W.heap.size (wd N)) := g1
 clear g1
 have hf := fates_any q f r N w1
 simp only [sv] at hf ⊢
 go_enter Tryz.func128, Tryz.ntmps128
 go_wp2_with (go_at_call 153; (with_reducible refine hf.mono ?_); rintro e u ⟨k, rfl, hx, htab, hb⟩; have hL : Hid (Lt W base q k ad cap t f r N u) := ⟨(h.carry hb1).carry hb, hx, htab, G1.out.carry hb, bel2 hb1 hb⟩)
 clear hx htab hf y0 y1 y2 y3
 go_loopw [20] (fun c wz => ∃ i : Nat, c = .int .i64 i ∧ i ≤ 5 ∧ i ≤ fate t f r N ∧ Lt W base q k ad cap t f r N wz) (fun c _ => 5 - vnat c)
 case atStart => exact ⟨0, rfl, by omega, by omega, hL.out⟩
 case round =>
  obtain ⟨i, rfl, hi5, hif, hLr⟩ := hrel
  by_cases hi : i < 5
  · have hii : (i : Int) < 5 := by omega
    obtain rfl | rfl | rfl | rfl | rfl : i = 0 ∨ i = 1 ∨ i = 2 ∨ i = 3 ∨ i = 4 := by omega
    · have c0 := zca hLr.tab 0
      have c1 := zca hLr.tab 1
      have c2 := zca hLr.tab 2
      unfold ftC at c0 c1 c2
      simp at c0 c1 c2
      obtain ⟨b, hbb⟩ : ∃ b, bef t f r N 0 = b := ⟨_, rfl⟩
      have hc : ∀ V, Lt W base q k ad cap t f r N V → Calls Tryz.prog 168 #[.pointer (some ⟨k + 1, 0, none⟩), .pointer (some ⟨k, 0, none⟩)] V fun e w' => e = .returned (.bool b) ∧ Below V.heap.size V w' := fun V hV => by
       rw [← hbb]
       exact fate1_any hV.ta hV.fx
      have hag : ∀ {C : Array Value} (v : World), v.heap[wr.heap.size]? = some (.cells C 253 (0, 0)) → Below wr.heap.size wr v → Lt W base q k ad cap t f r N v := fun v _ hb => hLr.carry hb
      cases b with
      | false =>
       go_wp2_with (first
         | (refine wpList_store_row rfl 253 (.tmp 11) (.tmp 23) rfl wr.heap.size #[.int .i64 5, .int .i64 0, .func (.func 168) #[] #[.pointer (some ⟨k + 1, 0, none⟩), .pointer (some ⟨k, 0, none⟩)]] rfl rfl 253 _ (zna rfl) infoF rfl (by simp [Value.oneCell']) ?_; obtain ⟨v, hv⟩ : ∃ v, (wr.alloc (.cells #[.int .i64 0, .int .i64 0, .nilFunc] 253)).setRow wr.heap.size #[.int .i64 5, .int .i64 0, .func (.func 168) #[] #[.pointer (some ⟨k + 1, 0, none⟩), .pointer (some ⟨k, 0, none⟩)]] = v := ⟨_, rfl⟩; have HG : Hid (v.heap[wr.heap.size]? = some (.cells #[.int .i64 5, .int .i64 0, .func (.func 168) #[] #[.pointer (some ⟨k + 1, 0, none⟩), .pointer (some ⟨k, 0, none⟩)]] 253 (0, 0))) := (by rw [← hv]; exact setRow_heap _ _ _ _ _ _ (zna rfl)); have HB : Hid (Below wr.heap.size wr v) := (by rw [← hv]; exact below_row (al1' _ _) (Nat.le_refl _) _); rw [hv]; have b2 := zca HG.out 2; simp at b2)
         | (go_at_call 168; (with_reducible refine (hc v (hag v HG.out HB.out)).mono ?_); rintro e u2 ⟨rfl, hb2⟩))
       go_roundw
       case rel => exact ⟨0+1, by simp, by omega, fate_no 0 (by omega) hif hbb, (hag v HG.out HB.out).carry hb2⟩
       case measure => simp only [vnat]; omega
      | true =>
       have hfa := fate_yes 0 (by omega) hif hbb
       go_wp2_with (first
         | (refine wpList_store_row rfl 253 (.tmp 11) (.tmp 23) rfl wr.heap.size #[.int .i64 5, .int .i64 0, .func (.func 168) #[] #[.pointer (some ⟨k + 1, 0, none⟩), .pointer (some ⟨k, 0, none⟩)]] rfl rfl 253 _ (zna rfl) infoF rfl (by simp [Value.oneCell']) ?_; obtain ⟨v, hv⟩ : ∃ v, (wr.alloc (.cells #[.int .i64 0, .int .i64 0, .nilFunc] 253)).setRow wr.heap.size #[.int .i64 5, .int .i64 0, .func (.func 168) #[] #[.pointer (some ⟨k + 1, 0, none⟩), .pointer (some ⟨k, 0, none⟩)]] = v := ⟨_, rfl⟩; have HG : Hid (v.heap[wr.heap.size]? = some (.cells #[.int .i64 5, .int .i64 0, .func (.func 168) #[] #[.pointer (some ⟨k + 1, 0, none⟩), .pointer (some ⟨k, 0, none⟩)]] 253 (0, 0))) := (by rw [← hv]; exact setRow_heap _ _ _ _ _ _ (zna rfl)); have HB : Hid (Below wr.heap.size wr v) := (by rw [← hv]; exact below_row (al1' _ _) (Nat.le_refl _) _); rw [hv]; have b2 := zca HG.out 2; simp at b2)
         | (go_at_call 168; (with_reducible refine (hc v (hag v HG.out HB.out)).mono ?_); rintro e u2 ⟨rfl, hb2⟩))
       have HG2 := (hb2.block _ (zla HG.out)).trans HG.out
       have HL2 := (hag v HG.out HB.out).carry hb2
       refine wp_region_any hmx ?_
       refine zwp (fun i__ => ([(.pointer (some ⟨wr.heap.size, 0, none⟩)), (.int .i64 5), (.pointer (some ⟨wr.heap.size, 1, none⟩)), (.int .i64 0), (.int .i64 5), (.int .i64 0)] : List Value).getD i__ undef) (fun V => Below u2.heap.size u2 V) (by kernel_rfl) (Below.refl _ _).drew ?_ ?_
       · refine (sqc ?_ (sqc ?_ (sqc ?_ (sqc ?_ (sqc ?_ (sqc ?_ trivial))))))
         · exact zfa rfl trivial _ _ _ _ rfl rfl (fun v hw => field_f0 v _)
         · exact zld rfl trivial _ _ _ rfl rfl (fun v hw => load_i64 (by rw [zca ((hw.block _ (zla HG2)).trans HG2)]; rfl))
         · exact zfa rfl trivial _ _ _ _ rfl rfl (fun v hw => field_f1 v _)
         · exact zld rfl trivial _ _ _ rfl rfl (fun v hw => load_en (by rw [zca ((hw.block _ (zla HG2)).trans HG2)]; rfl))
         · exact zas rfl trivial _ rfl (by kernel_rfl) (fun _ h => h)
         · exact zas rfl trivial _ rfl (by kernel_rfl) (fun _ h => h)
       intro W hW
       first | refine hK _ _ ?_ | refine (‹∀ (a : Act) (w : World), Code.wp Tryz.prog _ _ a w → _›) _ _ ?_
       simp only [finL, List.getD_cons_zero, List.getD_cons_succ, Nat.zero_add, Nat.reduceAdd, List.setIfInBounds_toArray, List.set_cons_zero, List.set_cons_succ]
       go_wp2
       go_ret2
       rw [hfa]
       refine ⟨rfl, ad, cap, ?_, Tn.of q _ (bel2 HL2.bl hW), fun _ => ⟨rfl, rfl, bel2 HL2.bl hW⟩⟩
       unfold tk
       rw [hfa, if_neg (by decide)]
       exact (HL2.carry hW).ta
    · have c0 := zca hLr.tab 3
      have c1 := zca hLr.tab 4
      have c2 := zca hLr.tab 5
      unfold ftC at c0 c1 c2
      simp at c0 c1 c2
      obtain ⟨b, hbb⟩ : ∃ b, bef t f r N 1 = b := ⟨_, rfl⟩
      have hc : ∀ V, Lt W base q k ad cap t f r N V → Calls Tryz.prog 169 #[.pointer (some ⟨k + 1 + 1 + 1, 0, none⟩), .pointer (some ⟨k, 0, none⟩)] V fun e w' => e = .returned (.bool b) ∧ Below V.heap.size V w' := fun V hV => by
       rw [← hbb]
       exact fate2_any hV.ta hV.fx hN
      have hag : ∀ {C : Array Value} (v : World), v.heap[wr.heap.size]? = some (.cells C 253 (0, 0)) → Below wr.heap.size wr v → Lt W base q k ad cap t f r N v := fun v _ hb => hLr.carry hb
      cases b with
      | false =>
       go_wp2_with (first
         | (refine wpList_store_row rfl 253 (.tmp 11) (.tmp 23) rfl wr.heap.size #[.int .i64 0, .int .i64 74, .func (.func 169) #[] #[.pointer (some ⟨k + 1 + 1 + 1, 0, none⟩), .pointer (some ⟨k, 0, none⟩)]] rfl rfl 253 _ (zna rfl) infoF rfl (by simp [Value.oneCell']) ?_; obtain ⟨v, hv⟩ : ∃ v, (wr.alloc (.cells #[.int .i64 0, .int .i64 0, .nilFunc] 253)).setRow wr.heap.size #[.int .i64 0, .int .i64 74, .func (.func 169) #[] #[.pointer (some ⟨k + 1 + 1 + 1, 0, none⟩), .pointer (some ⟨k, 0, none⟩)]] = v := ⟨_, rfl⟩; have HG : Hid (v.heap[wr.heap.size]? = some (.cells #[.int .i64 0, .int .i64 74, .func (.func 169) #[] #[.pointer (some ⟨k + 1 + 1 + 1, 0, none⟩), .pointer (some ⟨k, 0, none⟩)]] 253 (0, 0))) := (by rw [← hv]; exact setRow_heap _ _ _ _ _ _ (zna rfl)); have HB : Hid (Below wr.heap.size wr v) := (by rw [← hv]; exact below_row (al1' _ _) (Nat.le_refl _) _); rw [hv]; have b2 := zca HG.out 2; simp at b2)
         | (go_at_call 169; (with_reducible refine (hc v (hag v HG.out HB.out)).mono ?_); rintro e u2 ⟨rfl, hb2⟩))
       go_roundw
       case rel => exact ⟨1+1, by simp, by omega, fate_no 1 (by omega) hif hbb, (hag v HG.out HB.out).carry hb2⟩
       case measure => simp only [vnat]; omega
      | true =>
       have hfa := fate_yes 1 (by omega) hif hbb
       go_wp2_with (first
         | (refine wpList_store_row rfl 253 (.tmp 11) (.tmp 23) rfl wr.heap.size #[.int .i64 0, .int .i64 74, .func (.func 169) #[] #[.pointer (some ⟨k + 1 + 1 + 1, 0, none⟩), .pointer (some ⟨k, 0, none⟩)]] rfl rfl 253 _ (zna rfl) infoF rfl (by simp [Value.oneCell']) ?_; obtain ⟨v, hv⟩ : ∃ v, (wr.alloc (.cells #[.int .i64 0, .int .i64 0, .nilFunc] 253)).setRow wr.heap.size #[.int .i64 0, .int .i64 74, .func (.func 169) #[] #[.pointer (some ⟨k + 1 + 1 + 1, 0, none⟩), .pointer (some ⟨k, 0, none⟩)]] = v := ⟨_, rfl⟩; have HG : Hid (v.heap[wr.heap.size]? = some (.cells #[.int .i64 0, .int .i64 74, .func (.func 169) #[] #[.pointer (some ⟨k + 1 + 1 + 1, 0, none⟩), .pointer (some ⟨k, 0, none⟩)]] 253 (0, 0))) := (by rw [← hv]; exact setRow_heap _ _ _ _ _ _ (zna rfl)); have HB : Hid (Below wr.heap.size wr v) := (by rw [← hv]; exact below_row (al1' _ _) (Nat.le_refl _) _); rw [hv]; have b2 := zca HG.out 2; simp at b2)
         | (go_at_call 169; (with_reducible refine (hc v (hag v HG.out HB.out)).mono ?_); rintro e u2 ⟨rfl, hb2⟩))
       have HG2 := (hb2.block _ (zla HG.out)).trans HG.out
       have HL2 := (hag v HG.out HB.out).carry hb2
       refine wp_region_any hmx ?_
       refine zwp (fun i__ => ([(.pointer (some ⟨wr.heap.size, 0, none⟩)), (.int .i64 0), (.pointer (some ⟨wr.heap.size, 1, none⟩)), (.int .i64 74), (.int .i64 0), (.int .i64 74)] : List Value).getD i__ undef) (fun V => Below u2.heap.size u2 V) (by kernel_rfl) (Below.refl _ _).drew ?_ ?_
       · refine (sqc ?_ (sqc ?_ (sqc ?_ (sqc ?_ (sqc ?_ (sqc ?_ trivial))))))
         · exact zfa rfl trivial _ _ _ _ rfl rfl (fun v hw => field_f0 v _)
         · exact zld rfl trivial _ _ _ rfl rfl (fun v hw => load_i64 (by rw [zca ((hw.block _ (zla HG2)).trans HG2)]; rfl))
         · exact zfa rfl trivial _ _ _ _ rfl rfl (fun v hw => field_f1 v _)
         · exact zld rfl trivial _ _ _ rfl rfl (fun v hw => load_en (by rw [zca ((hw.block _ (zla HG2)).trans HG2)]; rfl))
         · exact zas rfl trivial _ rfl (by kernel_rfl) (fun _ h => h)
         · exact zas rfl trivial _ rfl (by kernel_rfl) (fun _ h => h)
       intro W hW
       first | refine hK _ _ ?_ | refine (‹∀ (a : Act) (w : World), Code.wp Tryz.prog _ _ a w → _›) _ _ ?_
       simp only [finL, List.getD_cons_zero, List.getD_cons_succ, Nat.zero_add, Nat.reduceAdd, List.setIfInBounds_toArray, List.set_cons_zero, List.set_cons_succ]
       go_wp2
       go_ret2
       rw [hfa]
       refine ⟨rfl, ad, cap, ?_, Tn.of q _ (bel2 HL2.bl hW), fun _ => ⟨rfl, rfl, bel2 HL2.bl hW⟩⟩
       unfold tk
       rw [hfa, if_neg (by decide)]
       exact (HL2.carry hW).ta
    · have c0 := zca hLr.tab 6
      have c1 := zca hLr.tab 7
      have c2 := zca hLr.tab 8
      unfold ftC at c0 c1 c2
      simp at c0 c1 c2
      obtain ⟨b, hbb⟩ : ∃ b, bef t f r N 2 = b := ⟨_, rfl⟩
      have hc : ∀ V, Lt W base q k ad cap t f r N V → Calls Tryz.prog 170 #[.pointer (some ⟨k + 1 + 1, 0, none⟩), .pointer (some ⟨k, 0, none⟩)] V fun e w' => e = .returned (.bool b) ∧ Below V.heap.size V w' := fun V hV => by
       rw [← hbb]
       exact fate3_any hV.ta hV.fx
      have hag : ∀ {C : Array Value} (v : World), v.heap[wr.heap.size]? = some (.cells C 253 (0, 0)) → Below wr.heap.size wr v → Lt W base q k ad cap t f r N v := fun v _ hb => hLr.carry hb
      cases b with
      | false =>
       go_wp2_with (first
         | (refine wpList_store_row rfl 253 (.tmp 11) (.tmp 23) rfl wr.heap.size #[.int .i64 2, .int .i64 0, .func (.func 170) #[] #[.pointer (some ⟨k + 1 + 1, 0, none⟩), .pointer (some ⟨k, 0, none⟩)]] rfl rfl 253 _ (zna rfl) infoF rfl (by simp [Value.oneCell']) ?_; obtain ⟨v, hv⟩ : ∃ v, (wr.alloc (.cells #[.int .i64 0, .int .i64 0, .nilFunc] 253)).setRow wr.heap.size #[.int .i64 2, .int .i64 0, .func (.func 170) #[] #[.pointer (some ⟨k + 1 + 1, 0, none⟩), .pointer (some ⟨k, 0, none⟩)]] = v := ⟨_, rfl⟩; have HG : Hid (v.heap[wr.heap.size]? = some (.cells #[.int .i64 2, .int .i64 0, .func (.func 170) #[] #[.pointer (some ⟨k + 1 + 1, 0, none⟩), .pointer (some ⟨k, 0, none⟩)]] 253 (0, 0))) := (by rw [← hv]; exact setRow_heap _ _ _ _ _ _ (zna rfl)); have HB : Hid (Below wr.heap.size wr v) := (by rw [← hv]; exact below_row (al1' _ _) (Nat.le_refl _) _); rw [hv]; have b2 := zca HG.out 2; simp at b2)
         | (go_at_call 170; (with_reducible refine (hc v (hag v HG.out HB.out)).mono ?_); rintro e u2 ⟨rfl, hb2⟩))
       go_roundw
       case rel => exact ⟨2+1, by simp, by omega, fate_no 2 (by omega) hif hbb, (hag v HG.out HB.out).carry hb2⟩
       case measure => simp only [vnat]; omega
      | true =>
       have hfa := fate_yes 2 (by omega) hif hbb
       go_wp2_with (first
         | (refine wpList_store_row rfl 253 (.tmp 11) (.tmp 23) rfl wr.heap.size #[.int .i64 2, .int .i64 0, .func (.func 170) #[] #[.pointer (some ⟨k + 1 + 1, 0, none⟩), .pointer (some ⟨k, 0, none⟩)]] rfl rfl 253 _ (zna rfl) infoF rfl (by simp [Value.oneCell']) ?_; obtain ⟨v, hv⟩ : ∃ v, (wr.alloc (.cells #[.int .i64 0, .int .i64 0, .nilFunc] 253)).setRow wr.heap.size #[.int .i64 2, .int .i64 0, .func (.func 170) #[] #[.pointer (some ⟨k + 1 + 1, 0, none⟩), .pointer (some ⟨k, 0, none⟩)]] = v := ⟨_, rfl⟩; have HG : Hid (v.heap[wr.heap.size]? = some (.cells #[.int .i64 2, .int .i64 0, .func (.func 170) #[] #[.pointer (some ⟨k + 1 + 1, 0, none⟩), .pointer (some ⟨k, 0, none⟩)]] 253 (0, 0))) := (by rw [← hv]; exact setRow_heap _ _ _ _ _ _ (zna rfl)); have HB : Hid (Below wr.heap.size wr v) := (by rw [← hv]; exact below_row (al1' _ _) (Nat.le_refl _) _); rw [hv]; have b2 := zca HG.out 2; simp at b2)
         | (go_at_call 170; (with_reducible refine (hc v (hag v HG.out HB.out)).mono ?_); rintro e u2 ⟨rfl, hb2⟩))
       have HG2 := (hb2.block _ (zla HG.out)).trans HG.out
       have HL2 := (hag v HG.out HB.out).carry hb2
       refine wp_region_any hmx ?_
       refine zwp (fun i__ => ([(.pointer (some ⟨wr.heap.size, 0, none⟩)), (.int .i64 2), (.pointer (some ⟨wr.heap.size, 1, none⟩)), (.int .i64 0), (.int .i64 2), (.int .i64 0)] : List Value).getD i__ undef) (fun V => Below u2.heap.size u2 V) (by kernel_rfl) (Below.refl _ _).drew ?_ ?_
       · refine (sqc ?_ (sqc ?_ (sqc ?_ (sqc ?_ (sqc ?_ (sqc ?_ trivial))))))
         · exact zfa rfl trivial _ _ _ _ rfl rfl (fun v hw => field_f0 v _)
         · exact zld rfl trivial _ _ _ rfl rfl (fun v hw => load_i64 (by rw [zca ((hw.block _ (zla HG2)).trans HG2)]; rfl))
         · exact zfa rfl trivial _ _ _ _ rfl rfl (fun v hw => field_f1 v _)
         · exact zld rfl trivial _ _ _ rfl rfl (fun v hw => load_en (by rw [zca ((hw.block _ (zla HG2)).trans HG2)]; rfl))
         · exact zas rfl trivial _ rfl (by kernel_rfl) (fun _ h => h)
         · exact zas rfl trivial _ rfl (by kernel_rfl) (fun _ h => h)
       intro W hW
       first | refine hK _ _ ?_ | refine (‹∀ (a : Act) (w : World), Code.wp Tryz.prog _ _ a w → _›) _ _ ?_
       simp only [finL, List.getD_cons_zero, List.getD_cons_succ, Nat.zero_add, Nat.reduceAdd, List.setIfInBounds_toArray, List.set_cons_zero, List.set_cons_succ]
       go_wp2
       go_ret2
       rw [hfa]
       refine ⟨rfl, ad, cap, ?_, Tn.of q _ (bel2 HL2.bl hW), fun _ => ⟨rfl, rfl, bel2 HL2.bl hW⟩⟩
       unfold tk
       rw [hfa, if_neg (by decide)]
       exact (HL2.carry hW).ta
    · have c0 := zca hLr.tab 9
      have c1 := zca hLr.tab 10
      have c2 := zca hLr.tab 11
      unfold ftC at c0 c1 c2
      simp at c0 c1 c2
      obtain ⟨b, hbb⟩ : ∃ b, bef t f r N 3 = b := ⟨_, rfl⟩
      have hc : ∀ V, Lt W base q k ad cap t f r N V → Calls Tryz.prog 171 #[.pointer (some ⟨k, 0, none⟩), .pointer (some ⟨k + 1, 0, none⟩)] V fun e w' => e = .returned (.bool b) ∧ Below V.heap.size V w' := fun V hV => by
       rw [← hbb]
       exact fate4_any hV.ta hV.fx hv.reps
      have hag : ∀ {C : Array Value} (v : World), v.heap[wr.heap.size]? = some (.cells C 253 (0, 0)) → Below wr.heap.size wr v → Lt W base q k ad cap t f r N v := fun v _ hb => hLr.carry hb
      cases b with
      | false =>
       go_wp2_with (first
         | (refine wpList_store_row rfl 253 (.tmp 11) (.tmp 23) rfl wr.heap.size #[.int .i64 3, .int .i64 0, .func (.func 171) #[] #[.pointer (some ⟨k, 0, none⟩), .pointer (some ⟨k + 1, 0, none⟩)]] rfl rfl 253 _ (zna rfl) infoF rfl (by simp [Value.oneCell']) ?_; obtain ⟨v, hv⟩ : ∃ v, (wr.alloc (.cells #[.int .i64 0, .int .i64 0, .nilFunc] 253)).setRow wr.heap.size #[.int .i64 3, .int .i64 0, .func (.func 171) #[] #[.pointer (some ⟨k, 0, none⟩), .pointer (some ⟨k + 1, 0, none⟩)]] = v := ⟨_, rfl⟩; have HG : Hid (v.heap[wr.heap.size]? = some (.cells #[.int .i64 3, .int .i64 0, .func (.func 171) #[] #[.pointer (some ⟨k, 0, none⟩), .pointer (some ⟨k + 1, 0, none⟩)]] 253 (0, 0))) := (by rw [← hv]; exact setRow_heap _ _ _ _ _ _ (zna rfl)); have HB : Hid (Below wr.heap.size wr v) := (by rw [← hv]; exact below_row (al1' _ _) (Nat.le_refl _) _); rw [hv]; have b2 := zca HG.out 2; simp at b2)
         | (go_at_call 171; (with_reducible refine (hc v (hag v HG.out HB.out)).mono ?_); rintro e u2 ⟨rfl, hb2⟩))
       go_roundw
       case rel => exact ⟨3+1, by simp, by omega, fate_no 3 (by omega) hif hbb, (hag v HG.out HB.out).carry hb2⟩
       case measure => simp only [vnat]; omega
      | true =>
       have hfa := fate_yes 3 (by omega) hif hbb
       go_wp2_with (first
         | (refine wpList_store_row rfl 253 (.tmp 11) (.tmp 23) rfl wr.heap.size #[.int .i64 3, .int .i64 0, .func (.func 171) #[] #[.pointer (some ⟨k, 0, none⟩), .pointer (some ⟨k + 1, 0, none⟩)]] rfl rfl 253 _ (zna rfl) infoF rfl (by simp [Value.oneCell']) ?_; obtain ⟨v, hv⟩ : ∃ v, (wr.alloc (.cells #[.int .i64 0, .int .i64 0, .nilFunc] 253)).setRow wr.heap.size #[.int .i64 3, .int .i64 0, .func (.func 171) #[] #[.pointer (some ⟨k, 0, none⟩), .pointer (some ⟨k + 1, 0, none⟩)]] = v := ⟨_, rfl⟩; have HG : Hid (v.heap[wr.heap.size]? = some (.cells #[.int .i64 3, .int .i64 0, .func (.func 171) #[] #[.pointer (some ⟨k, 0, none⟩), .pointer (some ⟨k + 1, 0, none⟩)]] 253 (0, 0))) := (by rw [← hv]; exact setRow_heap _ _ _ _ _ _ (zna rfl)); have HB : Hid (Below wr.heap.size wr v) := (by rw [← hv]; exact below_row (al1' _ _) (Nat.le_refl _) _); rw [hv]; have b2 := zca HG.out 2; simp at b2)
         | (go_at_call 171; (with_reducible refine (hc v (hag v HG.out HB.out)).mono ?_); rintro e u2 ⟨rfl, hb2⟩))
       have HG2 := (hb2.block _ (zla HG.out)).trans HG.out
       have HL2 := (hag v HG.out HB.out).carry hb2
       refine wp_region_any hmx ?_
       refine zwp (fun i__ => ([(.pointer (some ⟨wr.heap.size, 0, none⟩)), (.int .i64 3), (.pointer (some ⟨wr.heap.size, 1, none⟩)), (.int .i64 0), (.int .i64 3), (.int .i64 0)] : List Value).getD i__ undef) (fun V => Below u2.heap.size u2 V) (by kernel_rfl) (Below.refl _ _).drew ?_ ?_
       · refine (sqc ?_ (sqc ?_ (sqc ?_ (sqc ?_ (sqc ?_ (sqc ?_ trivial))))))
         · exact zfa rfl trivial _ _ _ _ rfl rfl (fun v hw => field_f0 v _)
         · exact zld rfl trivial _ _ _ rfl rfl (fun v hw => load_i64 (by rw [zca ((hw.block _ (zla HG2)).trans HG2)]; rfl))
         · exact zfa rfl trivial _ _ _ _ rfl rfl (fun v hw => field_f1 v _)
         · exact zld rfl trivial _ _ _ rfl rfl (fun v hw => load_en (by rw [zca ((hw.block _ (zla HG2)).trans HG2)]; rfl))
         · exact zas rfl trivial _ rfl (by kernel_rfl) (fun _ h => h)
         · exact zas rfl trivial _ rfl (by kernel_rfl) (fun _ h => h)
       intro W hW
       first | refine hK _ _ ?_ | refine (‹∀ (a : Act) (w : World), Code.wp Tryz.prog _ _ a w → _›) _ _ ?_
       simp only [finL, List.getD_cons_zero, List.getD_cons_succ, Nat.zero_add, Nat.reduceAdd, List.setIfInBounds_toArray, List.set_cons_zero, List.set_cons_succ]
       go_wp2
       go_ret2
       rw [hfa]
       refine ⟨rfl, ad, cap, ?_, Tn.of q _ (bel2 HL2.bl hW), fun _ => ⟨rfl, rfl, bel2 HL2.bl hW⟩⟩
       unfold tk
       rw [hfa, if_neg (by decide)]
       exact (HL2.carry hW).ta
    · have c0 := zca hLr.tab 12
      have c1 := zca hLr.tab 13
      have c2 := zca hLr.tab 14
      unfold ftC at c0 c1 c2
      simp at c0 c1 c2
      obtain ⟨b, hbb⟩ : ∃ b, bef t f r N 4 = b := ⟨_, rfl⟩
      have hc : ∀ V, Lt W base q k ad cap t f r N V → Calls Tryz.prog 49 #[.pointer (some ⟨q, 0, none⟩)] V fun e w' => e = .returned (.bool b) ∧ Below V.heap.size V w' := fun V hV => by
       rw [← hbb]
       exact (ready_any hV.ta).mono (by rintro e w2 ⟨rfl, rfl⟩; exact ⟨rfl, Below.refl _ _⟩)
      have hag : ∀ {C : Array Value} (v : World), v.heap[wr.heap.size]? = some (.cells C 253 (0, 0)) → Below wr.heap.size wr v → Lt W base q k ad cap t f r N v := fun v _ hb => hLr.carry hb
      cases b with
      | false =>
       go_wp2_with (first
         | (refine wpList_store_row rfl 253 (.tmp 11) (.tmp 23) rfl wr.heap.size #[.int .i64 4, .int .i64 0, .func (.func 49) #[.pointer (some ⟨q, 0, none⟩)] #[]] rfl rfl 253 _ (zna rfl) infoF rfl (by simp [Value.oneCell']) ?_; obtain ⟨v, hv⟩ : ∃ v, (wr.alloc (.cells #[.int .i64 0, .int .i64 0, .nilFunc] 253)).setRow wr.heap.size #[.int .i64 4, .int .i64 0, .func (.func 49) #[.pointer (some ⟨q, 0, none⟩)] #[]] = v := ⟨_, rfl⟩; have HG : Hid (v.heap[wr.heap.size]? = some (.cells #[.int .i64 4, .int .i64 0, .func (.func 49) #[.pointer (some ⟨q, 0, none⟩)] #[]] 253 (0, 0))) := (by rw [← hv]; exact setRow_heap _ _ _ _ _ _ (zna rfl)); have HB : Hid (Below wr.heap.size wr v) := (by rw [← hv]; exact below_row (al1' _ _) (Nat.le_refl _) _); rw [hv]; have b2 := zca HG.out 2; simp at b2)
         | (go_at_call 49; (with_reducible refine (hc v (hag v HG.out HB.out)).mono ?_); rintro e u2 ⟨rfl, hb2⟩))
       go_roundw
       case rel => exact ⟨4+1, by simp, by omega, fate_no 4 (by omega) hif hbb, (hag v HG.out HB.out).carry hb2⟩
       case measure => simp only [vnat]; omega
      | true =>
       have hfa := fate_yes 4 (by omega) hif hbb
       go_wp2_with (first
         | (refine wpList_store_row rfl 253 (.tmp 11) (.tmp 23) rfl wr.heap.size #[.int .i64 4, .int .i64 0, .func (.func 49) #[.pointer (some ⟨q, 0, none⟩)] #[]] rfl rfl 253 _ (zna rfl) infoF rfl (by simp [Value.oneCell']) ?_; obtain ⟨v, hv⟩ : ∃ v, (wr.alloc (.cells #[.int .i64 0, .int .i64 0, .nilFunc] 253)).setRow wr.heap.size #[.int .i64 4, .int .i64 0, .func (.func 49) #[.pointer (some ⟨q, 0, none⟩)] #[]] = v := ⟨_, rfl⟩; have HG : Hid (v.heap[wr.heap.size]? = some (.cells #[.int .i64 4, .int .i64 0, .func (.func 49) #[.pointer (some ⟨q, 0, none⟩)] #[]] 253 (0, 0))) := (by rw [← hv]; exact setRow_heap _ _ _ _ _ _ (zna rfl)); have HB : Hid (Below wr.heap.size wr v) := (by rw [← hv]; exact below_row (al1' _ _) (Nat.le_refl _) _); rw [hv]; have b2 := zca HG.out 2; simp at b2)
         | (go_at_call 49; (with_reducible refine (hc v (hag v HG.out HB.out)).mono ?_); rintro e u2 ⟨rfl, hb2⟩))
       have HG2 := (hb2.block _ (zla HG.out)).trans HG.out
       have HL2 := (hag v HG.out HB.out).carry hb2
       refine wp_region_any hmx ?_
       refine zwp (fun i__ => ([(.pointer (some ⟨wr.heap.size, 0, none⟩)), (.int .i64 4), (.pointer (some ⟨wr.heap.size, 1, none⟩)), (.int .i64 0), (.int .i64 4), (.int .i64 0)] : List Value).getD i__ undef) (fun V => Below u2.heap.size u2 V) (by kernel_rfl) (Below.refl _ _).drew ?_ ?_
       · refine (sqc ?_ (sqc ?_ (sqc ?_ (sqc ?_ (sqc ?_ (sqc ?_ trivial))))))
         · exact zfa rfl trivial _ _ _ _ rfl rfl (fun v hw => field_f0 v _)
         · exact zld rfl trivial _ _ _ rfl rfl (fun v hw => load_i64 (by rw [zca ((hw.block _ (zla HG2)).trans HG2)]; rfl))
         · exact zfa rfl trivial _ _ _ _ rfl rfl (fun v hw => field_f1 v _)
         · exact zld rfl trivial _ _ _ rfl rfl (fun v hw => load_en (by rw [zca ((hw.block _ (zla HG2)).trans HG2)]; rfl))
         · exact zas rfl trivial _ rfl (by kernel_rfl) (fun _ h => h)
         · exact zas rfl trivial _ rfl (by kernel_rfl) (fun _ h => h)
       intro W hW
       first | refine hK _ _ ?_ | refine (‹∀ (a : Act) (w : World), Code.wp Tryz.prog _ _ a w → _›) _ _ ?_
       simp only [finL, List.getD_cons_zero, List.getD_cons_succ, Nat.zero_add, Nat.reduceAdd, List.setIfInBounds_toArray, List.set_cons_zero, List.set_cons_succ]
       go_wp2
       go_ret2
       rw [hfa]
       refine ⟨rfl, ad, cap, ?_, Tn.of q _ (bel2 HL2.bl hW), fun _ => ⟨rfl, rfl, bel2 HL2.bl hW⟩⟩
       unfold tk
       rw [hfa, if_neg (by decide)]
       exact (HL2.carry hW).ta
  · have hi' : i = 5 := by omega
    subst hi'
    have hfa : fate t f r N = 5 := by have := fate_lt t f r N; omega
    obtain ⟨y0, y1, y2, y3, _⟩ := hLr.hb.facts
    have hco := tcount_any hLr.ta (Nat.le_trans hb0 hLr.bl.size) (by have := hv.len; have := hv.d1; have := hv.n1; omega) f N
    simp only [sv] at hco
    have HL : Hid (Lt W base q k ad cap t f r N wr) := hLr
    clear hLr
    go_wp2_with (go_at_call 104; (with_reducible refine hco.mono ?_); rintro e u2 ⟨rfl, ad', cap', hT2, hn2⟩)
    go_ret2
    rw [hfa]
    refine ⟨rfl, ad', cap', ?_, (Tn.of q _ HL.out.bl).trans hn2, fun e => absurd rfl e⟩
    unfold tk
    rw [if_pos hfa]
    exact hT2
end
theorem i64_id (x : Int) (h1 : -9223372036854775808 ≤ x) (h2 : x ≤ 9223372036854775807) : IntKind.i64.wrap x = x := by
 rw [IntKind.wrap_i64]
 omega
def nwE (n f self ro : Int) (N : Nat) : Int := if n < 1 ∨ 100 < n ∨ f < 0 ∨ n ≤ f then 1 else if isN self n = false then 30 else if ro < 1 ∨ 1099511627775 < ro then 73 else if wthB N n = false then 74 else 0
def tl0 (n f ro : Int) : Tl := ⟨n, n - f, ro, 0, []⟩
def nwT (n f self ro : Int) (N : Nat) : Tl := cntT (tl0 n f ro) self N
theorem new_tl0 (u : World) (n f ro : Int) : (u.alloc (.cells #[.int .i64 n, .int .i64 (n - f), .int .i64 ro, .int .u32 0, .int .u32 0, .int .u32 0, .int .u32 0, .slice none 0 0] 143)).heap[u.heap.size]? = some (.cells (taC (tl0 n f ro) (.slice none (tl0 n f ro).hs.length 0)) 143 (0, 0)) := by
 rw [show taC (tl0 n f ro) (.slice none (tl0 n f ro).hs.length 0) = #[.int .i64 n, .int .i64 (n - f), .int .i64 ro, .int .u32 0, .int .u32 0, .int .u32 0, .int .u32 0, .slice none 0 0] by simp [taC, tl0, wd]]
 exact zna rfl
theorem nw_ok {n f self ro : Int} {N : Nat} (h : nwE n f self ro N = 0) : 1 ≤ n ∧ n ≤ 100 ∧ 0 ≤ f ∧ f < n ∧ isN self n = true ∧ 1 ≤ ro ∧ ro ≤ 1099511627775 ∧ wthB N n = true := by
 unfold nwE at h
 repeat' split at h
 all_goals first | omega | skip
 rename_i h1 h2 h3 h4
 refine ⟨by omega, by omega, by omega, by omega, by simpa using h2, by omega, by omega, by simpa using h4⟩
theorem Tv.new {n f self ro : Int} {N : Nat} (hN : N < S128) (h : nwE n f self ro N = 0) : Tv (nwT n f self ro N) := by
 obtain ⟨h1, h2, h3, h4, h5, _⟩ := nw_ok h
 refine ⟨by simp only [nwT, cntT, tl0]; omega, by simp only [nwT, cntT, tl0]; omega, by simp only [nwT, cntT, tl0]; omega, by simp only [nwT, cntT, tl0]; omega, by simp only [nwT, cntT, tl0]; omega, ?_, wthN_lt _ _, fun M hM => ?_⟩
 · simp only [nwT, cntT, tl0, List.nil_append, List.length_cons, List.length_nil]
   omega
 · simp [nwT, cntT, tl0] at hM
   subst hM
   exact hN
theorem new_no (n f self ro : Int) (N : Nat) (hN : N < S128) (he : nwE n f self ro N ≠ 0) (W : World) : Calls Tryz.prog 60 #[.int .i64 n, .int .i64 f, .int .i64 self, .int .i64 ro, sv N] W fun e w' => e = .returned (.tuple #[.pointer none, .int .i64 (nwE n f self ro N)]) ∧ Below W.heap.size W w' := by
 obtain ⟨w1, hw1⟩ : ∃ w1, W.alloc (.cells #[.int .u32 (wd N 0 : Nat), .int .u32 (wd N 1 : Nat), .int .u32 (wd N 2 : Nat), .int .u32 (wd N 3 : Nat)] 35) = w1 := ⟨_, rfl⟩
 have hb1 : Below W.heap.size W w1 := by rw [← hw1]; exact al1' _ _
 have g1 : Zh4 w1 W.heap.size (wd N) := by rw [← hw1]; exact zna rfl
 obtain ⟨y0, y1, y2, y3, _⟩ := g1.facts
 clear g1
 have hwi := within_any N hN n w1
 have his := isNode_any self n w1
 by_cases c1 : n < 1
 · rw [show nwE n f self ro N = 1 by unfold nwE; rw [if_pos (by omega)]]
   simp only [sv]
   go_enter Tryz.func60, Tryz.ntmps60
   go_wp2
   go_ret2
   exact ⟨rfl, hb1⟩
 by_cases c2 : 100 < n
 · rw [show nwE n f self ro N = 1 by unfold nwE; rw [if_pos (by omega)]]
   simp only [sv]
   go_enter Tryz.func60, Tryz.ntmps60
   go_wp2
   go_ret2
   exact ⟨rfl, hb1⟩
 by_cases c3 : f < 0
 · rw [show nwE n f self ro N = 1 by unfold nwE; rw [if_pos (by omega)]]
   simp only [sv]
   go_enter Tryz.func60, Tryz.ntmps60
   go_wp2
   go_ret2
   exact ⟨rfl, hb1⟩
 by_cases c4 : n ≤ f
 · rw [show nwE n f self ro N = 1 by unfold nwE; rw [if_pos (by omega)]]
   simp only [sv]
   go_enter Tryz.func60, Tryz.ntmps60
   go_wp2
   go_ret2
   exact ⟨rfl, hb1⟩
 have hE1 : nwE n f self ro N = if isN self n = false then 30 else if ro < 1 ∨ 1099511627775 < ro then 73 else if wthB N n = false then 74 else 0 := by unfold nwE; rw [if_neg (by omega)]
 rw [hE1] at he ⊢
 clear hE1
 cases hs : isN self n with
 | false =>
   rw [hs] at his
   simp only [if_true, sv]
   go_enter Tryz.func60, Tryz.ntmps60
   go_wp2_with (go_at_call 103; (with_reducible refine his.mono ?_); rintro e u ⟨rfl, hu⟩; obtain rfl := hu.symm)
   go_ret2
   exact ⟨rfl, hb1⟩
 | true =>
   rw [hs] at his he
   by_cases c5 : ro < 1
   · rw [if_neg (by simp), if_pos (by omega)]
     simp only [sv]
     go_enter Tryz.func60, Tryz.ntmps60
     go_wp2_with (go_at_call 103; (with_reducible refine his.mono ?_); rintro e u ⟨rfl, hu⟩; obtain rfl := hu.symm)
     go_ret2
     exact ⟨rfl, hb1⟩
   by_cases c6 : 1099511627775 < ro
   · rw [if_neg (by simp), if_pos (by omega)]
     simp only [sv]
     go_enter Tryz.func60, Tryz.ntmps60
     go_wp2_with (go_at_call 103; (with_reducible refine his.mono ?_); rintro e u ⟨rfl, hu⟩; obtain rfl := hu.symm)
     go_ret2
     exact ⟨rfl, hb1⟩
   rw [if_neg (by simp), if_neg (by omega)] at he ⊢
   cases hb : wthB N n with
   | true => simp [hb] at he
   | false =>
     rw [hb] at hwi
     rw [if_pos rfl]
     simp only [sv] at hwi ⊢
     go_enter Tryz.func60, Tryz.ntmps60
     go_wp2_with (first | (go_at_call 103; (with_reducible refine his.mono ?_); rintro e u ⟨rfl, hu⟩; obtain rfl := hu.symm) | (go_at_call 75; (with_reducible refine hwi.mono ?_); rintro e u ⟨rfl, hu⟩))
     go_ret2
     exact ⟨rfl, bel2 hb1 hu⟩
theorem new_ok (n f self ro : Int) (N : Nat) (hN : N < S128) (he : nwE n f self ro N = 0) (W : World) : Calls Tryz.prog 60 #[.int .i64 n, .int .i64 f, .int .i64 self, .int .i64 ro, sv N] W fun e w' => ∃ q ad cap, e = .returned (.tuple #[.pointer (some ⟨q, 0, none⟩), .int .i64 0]) ∧ Ta w' W.heap.size q ad cap (nwT n f self ro N) ∧ Below W.heap.size W w' := by
 obtain ⟨h1, h2, h3, h4, h5, h6, h7, h8⟩ := nw_ok he
 obtain ⟨w1, hw1⟩ : ∃ w1, W.alloc (.cells #[.int .u32 (wd N 0 : Nat), .int .u32 (wd N 1 : Nat), .int .u32 (wd N 2 : Nat), .int .u32 (wd N 3 : Nat)] 35) = w1 := ⟨_, rfl⟩
 have hb1 : Below W.heap.size W w1 := by rw [← hw1]; exact al1' _ _
 have g1 : Zh4 w1 W.heap.size (wd N) := by rw [← hw1]; exact zna rfl
 obtain ⟨y0, y1, y2, y3, _⟩ := g1.facts
 have G1 : Hid (Zh4 w1 W.heap.size (wd N)) := g1
 clear g1
 have hwi := within_any N hN n w1
 have his := isNode_any self n w1
 rw [h8] at hwi
 rw [h5] at his
 clear h8 h5 he
 have c1 : ¬ n < 1 := by omega
 have c2 : ¬ 100 < n := by omega
 have c3 : ¬ f < 0 := by omega
 have c4 : ¬ n ≤ f := by omega
 have c5 : ¬ ro < 1 := by omega
 have c6 : ¬ 1099511627775 < ro := by omega
 have hid := i64_id (n - f) (by omega) (by omega)
 simp only [sv] at hwi ⊢
 go_enter Tryz.func60, Tryz.ntmps60
 go_wp2_with (first
  | (go_at_call 103; (with_reducible refine his.mono ?_); rintro e u ⟨rfl, hu⟩; obtain rfl := hu.symm)
  | (go_at_call 75; (with_reducible refine hwi.mono ?_); rintro e u ⟨rfl, hu⟩; obtain ⟨u2, hu2⟩ : ∃ u2, u.alloc (.cells #[.int .i64 n, .int .i64 (n - f), .int .i64 ro, .int .u32 0, .int .u32 0, .int .u32 0, .int .u32 0, .slice none 0 0] 143) = u2 := ⟨_, rfl⟩; have hb2 : Hid (Below W.heap.size W u2) := (by rw [← hu2]; exact bel2 (bel2 hb1 hu) (al1' _ _)); have hT : Hid (Ta u2 W.heap.size u.heap.size none 0 (tl0 n f ro)) := (by rw [← hu2]; exact ⟨(bel2 hb1 hu).size, new_tl0 u n f ro, World.ownsRow_nil _ _ _ _⟩); have G2 : Hid (Zh4 u2 W.heap.size (wd N)) := (by rw [← hu2]; exact zoa (G1.out.carry hu)); obtain ⟨x0, x1, x2, x3, _⟩ := G2.out.facts; have hco := tcount_any hT.out hb2.out.size (by simp [tl0]) self N; simp only [sv] at hco)
  | (go_at_call 104; (with_reducible refine hco.mono ?_); rintro e u3 ⟨rfl, ad', cap', hT2, hn2⟩))
 go_ret2
 exact ⟨u.heap.size, ad', cap', rfl, hT2, hb2.out.trans (hT.out.below hn2)⟩
def left (d : Dst) : Int := if d.fused then d.fuse else -1
theorem zerD : ∀ w : World, (zeroValue 95).run Tryz.prog w = .ok (.agg (dkC d0).toArray) w := (zero_of_info (n := 260) (by kernel_rfl)).1
theorem boxD (C : Array Value) (w : World) : (Instr.box 95 (.agg C)).run Tryz.prog w = .ok (.pointer (some ⟨w.heap.size, 0, none⟩)) (w.alloc (.cells C 95)) := by kernel_rfl
theorem i64_idZ (x : Int) (h1 : -9223372036854775808 ≤ x) (h2 : x ≤ 9223372036854775807) : IntKind.i64.wrap x = x := by
 rw [IntKind.wrap_i64]
 omega
theorem dnew_any (w : World) : Calls Tryz.prog 7 #[] w fun e w' => e = .returned (.pointer (some ⟨w.heap.size, 0, none⟩)) ∧ Dk w' w.heap.size d0 ∧ w.heap.size < w'.heap.size ∧ Below w.heap.size w w' := by
 have h1 := zerD
 have h2 := boxD
 obtain ⟨C, hC⟩ : ∃ C, (dkC d0).toArray = C := ⟨_, rfl⟩
 rw [hC] at h1
 go_enter Tryz.func7, Tryz.ntmps7
 go_wp2
 go_ret
 refine ⟨rfl, ?_, by simp, al1'Z _ _⟩
 rw [← hC]
 exact ⟨zna rfl, by simp [d0], byt_zero 256⟩
section
variable {W : World} {p : Nat} {d : Dst}
theorem on_any (h : Dk W p d) : Calls Tryz.prog 102 #[.pointer (some ⟨p, 0, none⟩)] W fun e w' => e = .returned (.bool (!d.off)) ∧ w' = W := by
 have c := h.c0
 go_enter Tryz.func102, Tryz.ntmps102
 go_wp2
 go_ret
 exact ⟨rfl, rfl⟩
theorem left_any (h : Dk W p d) : Calls Tryz.prog 177 #[.pointer (some ⟨p, 0, none⟩)] W fun e w' => e = .returned (.int .i64 (left d)) ∧ w' = W := by
 have c := h.c1
 have c2 := h.c2
 obtain ⟨l, of, fd, fu, wr⟩ := d
 cases fd
 all_goals
  go_enter Tryz.func177, Tryz.ntmps177
  go_wp2
  go_ret
  exact ⟨rfl, rfl⟩
theorem cut_any (h : Dk W p d) : Calls Tryz.prog 181 #[.pointer (some ⟨p, 0, none⟩)] W fun e w' => e = .returned (.tuple #[]) ∧ Dk w' p { d with off := true } ∧ TpZ p W w' := by
 have c := h.c0
 have z := h.thaw 256
 go_enter Tryz.func181, Tryz.ntmps181
 go_wp2
 go_end0
 exact ⟨rfl, h.s0 true, TpZ.set _ _ _ _⟩
def dFuse (d : Dst) (k : Int) : Dst := { d with fused := decide (0 ≤ k), fuse := if 0 ≤ k then k else 0 }
theorem fuse_any (h : Dk W p d) (k : Int) : Calls Tryz.prog 182 #[.pointer (some ⟨p, 0, none⟩), .int .i64 k] W fun e w' => e = .returned (.tuple #[]) ∧ Dk w' p (dFuse d k) ∧ TpZ p W w' := by
 have c1 := h.c1
 have z1 := h.thaw 257
 by_cases hk : 0 ≤ k
 · have h1 := h.s1 true
   have c2 := h1.c2
   have z2 := h1.thaw 258
   go_enter Tryz.func182, Tryz.ntmps182
   go_wp2
   go_end0
   refine ⟨rfl, ?_, (TpZ.set _ _ _ _).trans (TpZ.set _ _ _ _)⟩
   have e : dFuse d k = { { d with fused := true } with fuse := k } := by simp [dFuse, hk]
   rw [e]
   exact h1.s2 k
 · have h1 := h.s1 false
   have c2 := h1.c2
   have z2 := h1.thaw 258
   have hk2 : k ≤ 0 := by omega
   go_enter Tryz.func182, Tryz.ntmps182
   go_wp2
   go_end0
   refine ⟨rfl, ?_, (TpZ.set _ _ _ _).trans (TpZ.set _ _ _ _)⟩
   have e : dFuse d k = { { d with fused := false } with fuse := 0 } := by unfold dFuse; rw [decide_eq_false (Int.not_le.2 hk), if_neg (Int.not_le.2 hk)]
   rw [e]
   exact h1.s2 0
theorem there_any (s : Int) (w : World) : Calls Tryz.prog 174 #[.int .i64 s] w fun e w' => e = .returned (.bool (decide (0 ≤ s ∧ s < 8))) ∧ w' = w := by
 by_cases h1 : 0 ≤ s
 · by_cases h2 : s < 8
   · rw [decide_eq_true (show 0 ≤ s ∧ s < 8 from ⟨h1, h2⟩)]
     go_enter Tryz.func174, Tryz.ntmps174
     go_wp2
     go_ret
     exact ⟨rfl, rfl⟩
   · rw [decide_eq_false (show ¬ (0 ≤ s ∧ s < 8) from fun q => h2 q.2)]
     go_enter Tryz.func174, Tryz.ntmps174
     go_wp2
     go_ret
     exact ⟨rfl, rfl⟩
 · rw [decide_eq_false (show ¬ (0 ≤ s ∧ s < 8) from fun q => h1 q.1)]
   go_enter Tryz.func174, Tryz.ntmps174
   go_wp2
   go_ret
   exact ⟨rfl, rfl⟩
def dBurn (d : Dst) : Dst := { d with fuse := if d.fused then d.fuse - 1 else d.fuse }
theorem burn_any (h : Dk W p d) (hf : d.fused = true → 0 < d.fuse ∧ d.fuse ≤ 9223372036854775807) : Calls Tryz.prog 180 #[.pointer (some ⟨p, 0, none⟩)] W fun e w' => e = .returned (.tuple #[]) ∧ Dk w' p (dBurn d) ∧ TpZ p W w' := by
 have c1 := h.c1
 have c2 := h.c2
 have z2 := h.thaw 258
 obtain ⟨l, of, fd, fu, wr⟩ := d
 cases fd
 · go_enter Tryz.func180, Tryz.ntmps180
   go_wp2
   go_end0
   exact ⟨rfl, h, TpZ.of _ (Below.refl _ _)⟩
 · obtain ⟨hf1, hf2⟩ := hf rfl
   dsimp only at hf1 hf2 c1 c2
   have hw : IntKind.i64.wrap (fu - 1) = fu - 1 := i64_idZ _ (by omega) (by omega)
   go_enter Tryz.func180, Tryz.ntmps180
   go_wp2
   go_end0
   exact ⟨rfl, h.s2 (fu - 1), TpZ.set _ _ _ _⟩
end
end Go.Proofs.YtekjhcnaabpfmaaGreatDoor
