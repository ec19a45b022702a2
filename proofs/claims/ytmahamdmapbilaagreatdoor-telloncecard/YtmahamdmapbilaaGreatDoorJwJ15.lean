import Derived.Shelf.Unicode.DecodeAny
import Derived.Lib.LaidU8
import Derived.Test.YtmahamdmapbilaaGreatDoorProg
import Derived.LaidMore
import Derived.Lay
import Derived.MakeChecks
import Derived.Test.YtmahamdmapbilaaGreatDoorRows
import Derived.Test.YtmahamdmapbilaaGreatDoorJwJ7
import Derived.Test.YtmahamdmapbilaaGreatDoorJwJ5
import Derived.Shelf.Abstract
import Derived.Shelf.RegionOpen
import Derived.WalkKit
import Derived.WalkSpells
import Derived.OwnWalkIn
import Derived.TacticsInMore
import Derived.LoopNIn
import Derived.LoopIn
import Derived.Lib.OthersKept
import Derived.Deep.Light
import Derived.Laws.ResultCell
import Derived.Laws.Rows
import Derived.Test.YtmahamdmapbilaaGreatDoorJwJ10
import Derived.Test.YtmahamdmapbilaaGreatDoorJwJ0
set_option maxHeartbeats 40000000
set_option maxRecDepth 100000
set_option linter.unusedVariables false
namespace Go.Proofs.YtmahamdmapbilaaGreatDoor
open Go.Shelf Go.RowKit
def ren197 : Go.Shelf.Ren := ⟨fun | 197 => 164 | 260 => 196 | n => n, fun | 9 => 9 | 21 => 21 | 3 => 3 | 4 => 4 | 5 => 5 | 105 => 236 | 119 => 287 | 0 => 0 | 46 => 264 | 139 => 290 | 138 => 289 | n => n, fun | 3 => 1 | 4 => 2 | n => n⟩
theorem lays197 : Lays.n197 Tryz.prog ren197 := {
 mixed := by kernel_rfl
 f197 := Tryz.func164.trans (congrArg some (by kernel_rfl))
 f260 := Tryz.func196.trans (congrArg some (by kernel_rfl))
 t0 := Tryz.underlying0
 a0 := Tryz.isAgg0
 z0 := Tryz.sizeOf0
 v0 := Tryz.zeroValue0
 t3 := Tryz.underlying3
 a3 := Tryz.isAgg3
 z3 := Tryz.sizeOf3
 v3 := Tryz.zeroValue3
 t4 := Tryz.underlying4
 a4 := Tryz.isAgg4
 z4 := Tryz.sizeOf4
 v4 := Tryz.zeroValue4
 t5 := Tryz.underlying5
 a5 := Tryz.isAgg5
 z5 := Tryz.sizeOf5
 v5 := Tryz.zeroValue5
 t9 := Tryz.underlying9
 a9 := Tryz.isAgg9
 z9 := Tryz.sizeOf9
 v9 := Tryz.zeroValue9
 t21 := Tryz.underlying21
 a21 := Tryz.isAgg21
 z21 := Tryz.sizeOf21
 v21 := Tryz.zeroValue21
 t46 := Tryz.underlying264
 a46 := Tryz.isAgg264
 z46 := Tryz.sizeOf264
 v46 := Tryz.zeroValue264
 t105 := Tryz.underlying236
 a105 := Tryz.isAgg236
 z105 := Tryz.sizeOf236
 v105 := Tryz.zeroValue236
 t119 := Tryz.underlying287
 a119 := Tryz.isAgg287
 z119 := Tryz.sizeOf287
 t138 := Tryz.underlying289
 a138 := Tryz.isAgg289
 z138 := Tryz.sizeOf289
 v138 := Tryz.zeroValue289
 t139 := Tryz.underlying290
 a139 := Tryz.isAgg290
 z139 := Tryz.sizeOf290
 v139 := Tryz.zeroValue290
 g3 := by kernel_rfl
 g4 := by kernel_rfl }
open Go.Lib in
theorem dec_any (s : ByteArray) (w : World) (hT : Lib.Utf8Tabs (ren197.g 3) (ren197.g 4) w) : Calls Tryz.prog 164 #[.string s] w fun e w' => e = .returned (.tuple #[.int .i32 (Lib.decodeGo s).1, .int .i64 (Lib.decodeGo s).2]) ∧ Below w.heap.size w w' :=
 Any.utf8_DecodeRuneInString lays197 s w hT
theorem extra197 : U8Extra Tryz.prog ren197 := {
 n3 := by kernel_rfl
 n4 := by kernel_rfl
 y3 := by kernel_rfl
 y4 := by kernel_rfl
 c5 := by kernel_rfl
 c119 := by kernel_rfl
 c138 := by kernel_rfl }
theorem first_eq : Rows.laid_unicode_utf8_first = Lib.firstData := by kernel_rfl
theorem accept_eq : (Rows.laid_unicode_utf8_acceptRanges : DataW Unit) = Lib.acceptData := by kernel_rfl
theorem tabs_met {L : List (String × DataW Unit)} {W : World} (h : laidMet Tryz.prog L W) (h1 : ("unicode/utf8.acceptRanges", (Rows.laid_unicode_utf8_acceptRanges : DataW Unit)) ∈ L) (h2 : ("unicode/utf8.first", Rows.laid_unicode_utf8_first) ∈ L) : Lib.Utf8Tabs (ren197.g 3) (ren197.g 4) W := by
 have r1 := Lib.laidMet.reads h h1
 have r2 := Lib.laidMet.reads h h2
 rw [accept_eq] at r1
 rw [first_eq] at r2
 exact utf8Tabs_of_reads { lays197 with } extra197 r2 r1
end Go.Proofs.YtmahamdmapbilaaGreatDoor
namespace Go.Proofs.YtmahamdmapbilaaGreatDoor
open Go.RowKit Go.Shelf
def nt (o t k : Int) : Value := .agg #[.int .i64 o, .int .i64 t, .int .i64 k]
def rk (t k : Int) : Int := if t < 0 ∨ 1048576 < t then -1 else if k = 1 then 2 * t else if k = 2 then 2 * t + 1 else -1
theorem rk_lo {t k : Int} (h : t < 0 ∨ 1048576 < t) : rk t k = -1 := if_pos h
theorem rk_m {t : Int} (h : ¬ (t < 0 ∨ 1048576 < t)) : rk t 1 = 2 * t := by rw [rk, if_neg h, if_pos rfl]
theorem rk_s {t : Int} (h : ¬ (t < 0 ∨ 1048576 < t)) : rk t 2 = 2 * t + 1 := by rw [rk, if_neg h, if_neg (by decide), if_pos rfl]
theorem rk_n {t k : Int} (h1 : ¬ k = 1) (h2 : ¬ k = 2) : rk t k = -1 := by rw [rk, if_neg h1, if_neg h2]; split <;> rfl
theorem rank_any (o t k : Int) (w : World) : Calls Tryz.prog 231 #[nt o t k] w fun e w' => e = .returned (.int .i64 (rk t k)) ∧ Below w.heap.size w w' := by
 unfold nt
 by_cases h : t < 0 ∨ 1048576 < t
 · rw [rk_lo h]
   rcases h with h | h
   all_goals
     go_enter Tryz.func231, Tryz.ntmps231
     go_wp2
     go_ret
     exact ⟨rfl, (Below.refl _ w).alloc (Nat.le_refl _) _⟩
 · have h0 : ¬ t < 0 := by omega
   have h1 : ¬ 1048576 < t := by omega
   by_cases k1 : k = 1
   · subst k1
     rw [rk_m h]
     go_enter Tryz.func231, Tryz.ntmps231
     go_wp2
     go_ret
     exact ⟨rfl, (Below.refl _ w).alloc (Nat.le_refl _) _⟩
   · by_cases k2 : k = 2
     · subst k2
       rw [rk_s h]
       go_enter Tryz.func231, Tryz.ntmps231
       go_wp2
       go_ret
       exact ⟨rfl, (Below.refl _ w).alloc (Nat.le_refl _) _⟩
     · rw [rk_n k1 k2]
       go_enter Tryz.func231, Tryz.ntmps231
       go_wp2
       go_ret
       exact ⟨rfl, (Below.refl _ w).alloc (Nat.le_refl _) _⟩
theorem bel2 {w u v : World} (h1 : Below w.heap.size w u) (h2 : Below u.heap.size u v) : Below w.heap.size w v := h1.trans (h2.mono h1.size)
theorem al1 (w : World) (a : Obj) : Below w.heap.size w (w.alloc a) := (Below.refl _ w).alloc (Nat.le_refl _) _
theorem al2 (w : World) (a b : Obj) : Below w.heap.size w ((w.alloc a).alloc b) := (al1 w a).alloc (al1 w a).size _
def NB (W : World) (B : Nat) (o t k : Int) : Prop := W.heap[B]? = some (.cells #[.int .i64 o, .int .i64 t, .int .i64 k] 124 (0, 0))
theorem NB.carry {W W' : World} {B : Nat} {o t k : Int} (h : NB W B o t k) (hb : Below W.heap.size W W') : NB W' B o t k := (hb.block _ (zla h)).trans h
theorem NB.old {W : World} {B : Nat} {o t k : Int} (h : NB W B o t k) (ob : Obj) : NB (W.alloc ob) B o t k := zoa h
theorem NB.new (W : World) (o t k : Int) : NB (W.alloc (.cells #[.int .i64 o, .int .i64 t, .int .i64 k] 124)) W.heap.size o t k := zna rfl
theorem NB.c0 {W : World} {B : Nat} {o t k : Int} (h : NB W B o t k) : W.cell? ⟨B, 0, none⟩ = some (.int .i64 o) := zca h 0
theorem NB.c1 {W : World} {B : Nat} {o t k : Int} (h : NB W B o t k) : W.cell? ⟨B, 1, none⟩ = some (.int .i64 t) := zca h 1
theorem NB.c2 {W : World} {B : Nat} {o t k : Int} (h : NB W B o t k) : W.cell? ⟨B, 2, none⟩ = some (.int .i64 k) := zca h 2
theorem NB.lt {W : World} {B : Nat} {o t k : Int} (h : NB W B o t k) : B < W.heap.size := zla h
theorem load_nt {W : World} {B : Nat} {o t k : Int} (h : NB W B o t k) : (Instr.loadAt 124 (.pointer (some ⟨B, 0, none⟩))).run Tryz.prog W = .ok (nt o t k) W := by
 have c0 := zca h 0
 have c1 := zca h 1
 have c2 := zca h 2
 unfold nt
 go_simp
theorem load_n1 {W : World} {B : Nat} {o t k : Int} (h : NB W B o t k) : (Instr.loadAt 3 (.pointer (some ⟨B, 1, none⟩))).run Tryz.prog W = .ok (.int .i64 t) W := by
 have c0 := zca h 1
 go_simp
theorem load_n2 {W : World} {B : Nat} {o t k : Int} (h : NB W B o t k) : (Instr.loadAt 3 (.pointer (some ⟨B, 2, none⟩))).run Tryz.prog W = .ok (.int .i64 k) W := by
 have c0 := zca h 2
 go_simp
theorem field_n1 (W : World) (B : Nat) : (Instr.fieldAt 124 (.pointer (some ⟨B, 0, none⟩)) 1).run Tryz.prog W = .ok (.pointer (some ⟨B, 1, none⟩)) W := by go_simp
theorem field_n2 (W : World) (B : Nat) : (Instr.fieldAt 124 (.pointer (some ⟨B, 0, none⟩)) 2).run Tryz.prog W = .ok (.pointer (some ⟨B, 2, none⟩)) W := by go_simp
structure JL (w : World) (L : List (Nat × Int × Int × Int)) (W : World) : Prop where
 all : ∀ x ∈ L, NB W x.1 x.2.1 x.2.2.1 x.2.2.2
 below : Below w.heap.size w W
theorem JL.get {w W : World} {L : List (Nat × Int × Int × Int)} (h : JL w L W) (i : Nat) {B : Nat} {o t k : Int} (hx : L[i]? = some (B, o, t, k)) : NB W B o t k := h.all _ (List.mem_of_getElem? hx)
theorem JL.carry {w W W' : World} {L : List (Nat × Int × Int × Int)} (h : JL w L W) (hb : Below W.heap.size W W') : JL w L W' := ⟨fun x hx => (h.all x hx).carry hb, bel2 h.below hb⟩
theorem JL.old {w W : World} {L : List (Nat × Int × Int × Int)} (h : JL w L W) (ob : Obj) : JL w L (W.alloc ob) := ⟨fun x hx => (h.all x hx).old ob, h.below.alloc h.below.size ob⟩
theorem JL.nil (w : World) : JL w [] w := ⟨by simp, Below.refl _ _⟩
theorem JL.new {w W : World} {L : List (Nat × Int × Int × Int)} (h : JL w L W) (o t k : Int) : JL w (L ++ [(W.heap.size, o, t, k)]) (W.alloc (.cells #[.int .i64 o, .int .i64 t, .int .i64 k] 124)) := by
 refine ⟨fun x hx => ?_, h.below.alloc h.below.size _⟩
 rcases List.mem_append.1 hx with hx | hx
 · exact (h.all x hx).old _
 · obtain rfl := List.mem_singleton.1 hx
   exact NB.new W o t k
theorem bin_eqn {x y : Operand} {w : World} (o t k o' t' k' : Int) : binRun Tryz.prog .eql 124 x y (nt o t k) (nt o' t' k') w = .ok (.bool (decide (o = o' ∧ t = t' ∧ k = k'))) w := by
 unfold binRun nt
 by_cases h : o = o'
 · by_cases h1 : t = t'
   · by_cases h2 : k = k' <;> go_simp
   · go_simp
 · go_simp
theorem retN {f : Func} {p : Tmp} {R : Ending → World → Prop} {a : Act} {w : World} {b : Nat} {o t k : Int} (hres : f.results = #[.cell p 124]) (hp : a.tmps.getD p undef = .pointer (some ⟨b, 0, none⟩)) (hd : a.defers = []) (h : NB w b o t k) (hR : R (.returned (nt o t k)) w) : bodyPost Tryz.prog f R .ret a w := by
 refine bodyPost_ret (v := nt o t k) ?_ hd hR
 have hp' : a.tmps[p]?.getD undef = .pointer (some ⟨b, 0, none⟩) := by simpa using hp
 have c0 := h.c0
 have c1 := h.c1
 have c2 := h.c2
 simp [results, hres, hp', asAddr]
 unfold nt
 go_simp
theorem retNt {f : Func} {p q : Tmp} {R : Ending → World → Prop} {a : Act} {w : World} {b : Nat} {o t k : Int} {x : Value} (hres : f.results = #[.cell p 124, .tmp q]) (hp : a.tmps.getD p undef = .pointer (some ⟨b, 0, none⟩)) (hq : a.tmps.getD q undef = x) (hd : a.defers = []) (h : NB w b o t k) (hR : R (.returned (.tuple #[nt o t k, x])) w) : bodyPost Tryz.prog f R .ret a w := by
 refine bodyPost_ret (v := .tuple #[nt o t k, x]) ?_ hd hR
 have hp' : a.tmps[p]?.getD undef = .pointer (some ⟨b, 0, none⟩) := by simpa using hp
 have hq' : a.tmps[q]?.getD undef = x := by simpa using hq
 have c0 := h.c0
 have c1 := h.c1
 have c2 := h.c2
 simp [results, hres, hp', hq', asAddr]
 unfold nt
 go_simp
def W3 (W : World) (B : Nat) (o t k : Int) : World := ((W.setCell ⟨B, 0, none⟩ (.int .i64 o)).setCell ⟨B, 1, none⟩ (.int .i64 t)).setCell ⟨B, 2, none⟩ (.int .i64 k)
theorem NB.thaw {W : World} {B : Nat} {o t k : Int} (h : NB W B o t k) (j : Nat) : W.frozen? ⟨B, j, none⟩ = false := zta h j
theorem NB.set {W : World} {B : Nat} {o t k : Int} (h : NB W B o t k) (a b c : Int) : NB (W3 W B a b c) B a b c := by
 unfold NB W3
 have h0 := heap_setCell_same _ _ 0 _ _ (.int .i64 a) h
 have h1 := heap_setCell_same _ _ 1 _ _ (.int .i64 b) h0
 have h2 := heap_setCell_same _ _ 2 _ _ (.int .i64 c) h1
 simpa using h2
theorem below3 {w0 w : World} {n B : Nat} (hb : Below n w0 w) (hB : n ≤ B) (a b c : Int) : Below n w0 (W3 w B a b c) := ((hb.setCell hB _).setCell hB _).setCell hB _
theorem other3 {w : World} {B k : Nat} (h : k ≠ B) (a b c : Int) : (W3 w B a b c).heap[k]? = w.heap[k]? := by
 unfold W3
 rw [Below.heap_setCell _ _ _ _ h, Below.heap_setCell _ _ _ _ h, Below.heap_setCell _ _ _ _ h]
theorem rk_ok {t k : Int} : rk t k ≠ -1 ↔ 0 ≤ t ∧ t ≤ 1048576 ∧ (k = 1 ∨ k = 2) := by
 unfold rk
 by_cases h : t < 0 ∨ 1048576 < t
 · rw [if_pos h]; omega
 · rw [if_neg h]
   by_cases k1 : k = 1
   · rw [if_pos k1]; omega
   · rw [if_neg k1]
     by_cases k2 : k = 2
     · rw [if_pos k2]; omega
     · rw [if_neg k2]; omega
def vl (n o t k : Int) : Bool := decide (1 ≤ n ∧ n ≤ 100 ∧ 0 ≤ o ∧ o < n ∧ rk t k ≠ -1)
theorem valid_any (n o t k : Int) (w : World) : Calls Tryz.prog 210 #[.int .i64 n, nt o t k] w fun e w' => e = .returned (.bool (vl n o t k)) ∧ Below w.heap.size w w' := by
 have hr1 := rank_any o t k
 unfold vl
 unfold nt at *
 generalize rk t k = r at *
 by_cases h1 : 1 ≤ n ∧ n ≤ 100 ∧ 0 ≤ o ∧ o < n
 · obtain ⟨a1, a2, a3, a4⟩ := h1
   go_enter Tryz.func210, Tryz.ntmps210
   go_wp2_with (go_at_call 231; (with_reducible refine (hr1 _).mono ?_); rintro e u1 ⟨rfl, hb1⟩)
   go_ret
   exact ⟨by by_cases h2 : r = -1 <;> simp [*], bel2 ((Below.refl _ w).alloc (by simp) _) hb1⟩
 · have hv : decide (1 ≤ n ∧ n ≤ 100 ∧ 0 ≤ o ∧ o < n ∧ r ≠ -1) = false := decide_eq_false (fun ⟨a, b, c, d, _⟩ => h1 ⟨a, b, c, d⟩)
   rw [hv]
   have h2 : n < 1 ∨ (1 ≤ n ∧ 100 < n) ∨ (1 ≤ n ∧ n ≤ 100 ∧ o < 0) ∨ (1 ≤ n ∧ n ≤ 100 ∧ 0 ≤ o ∧ n ≤ o) := by omega
   clear hv h1
   rcases h2 with h | ⟨h, h'⟩ | ⟨h, h', h''⟩ | ⟨h, h', h'', h3⟩
   all_goals
    go_enter Tryz.func210, Tryz.ntmps210
    go_wp2
    go_ret
    exact ⟨rfl, (Below.refl _ w).alloc (by simp) _⟩
end Go.Proofs.YtmahamdmapbilaaGreatDoor
namespace Go.Proofs.YtmahamdmapbilaaGreatDoor
open Go.RowKit Go.Shelf Go.Lib
def Ut (W : World) : Prop := Lib.Utf8Tabs (ren197.g 3) (ren197.g 4) W
theorem Ut.carry {W W' : World} (h : Ut W) (hb : Below W.heap.size W W') : Ut W' := Utf8Tabs_below h hb
def cutFr (s : ByteArray) : ByteArray := s.extract (decodeGo s).2 s.size
theorem dec_le (s : ByteArray) : (decodeGo s).2 ≤ s.size := by
 unfold decodeGo
 split
 · omega
 · have := wdt_le s 0 (by omega)
   unfold wdt at this
   omega
theorem slice_str {s : ByteArray} {k : Nat} (hk : k ≤ s.size) (w : World) : (Instr.sliceAt 9 (.string s) (some (.int .i64 (k : Int))) none none).run Tryz.prog w = .ok (.string (s.extract k s.size)) w := by
 go_simp
theorem cut_any (s : ByteArray) (w : World) (hT : Ut w) : Calls Tryz.prog 227 #[.string s] w fun e w' => e = .returned (.tuple #[.int .i32 (decodeGo s).1, .string (cutFr s)]) ∧ Below w.heap.size w w' := by
 have hmx := mixO
 have hd := dec_any s w hT
 have hk := dec_le s
 unfold cutFr
 generalize (decodeGo s).1 = a at *
 generalize (decodeGo s).2 = k at *
 go_enter Tryz.func227, Tryz.ntmps227
 go_wp2_with (go_at_call 164; (with_reducible refine hd.mono ?_); rintro e u1 ⟨rfl, hb1⟩)
 rename_i Q0 K0 hK
 refine wp_region_any hmx ?_
 refine zwp (fun i__ => ([(.int .i32 (a : Int)), (.string s), (.int .i64 (k : Int)), (.string (s.extract k s.size)), (.int .i32 (a : Int)), (.string (s.extract k s.size))] : List Value).getD i__ undef) (fun W => Below w.heap.size w W) (by kernel_rfl) hb1.drew ?_ ?_
 · refine (sqc ?_ (sqc ?_ (sqc ?_ (sqc ?_ (sqc ?_ (sqc ?_ trivial))))))
   · exact zmv rfl trivial _ rfl (by kernel_rfl)
   · exact zmv rfl trivial _ rfl (by kernel_rfl)
   · exact zmv rfl trivial _ rfl (by kernel_rfl)
   · exact step_slice rfl trivial _ _ _ _ _ (some (.int .i64 (k : Int))) none rfl rfl rfl rfl (fun w hw => slice_str hk w)
   · exact zas rfl trivial _ rfl (by kernel_rfl) (fun _ h => h)
   · exact zas rfl trivial _ rfl (by kernel_rfl) (fun _ h => h)
 intro W hW
 first | refine hK _ _ ?_ | refine (‹∀ (a : Act) (w : World), Code.wp Tryz.prog _ _ a w → _›) _ _ ?_ | skip
 simp only [finL, List.getD_cons_zero, List.getD_cons_succ, Nat.zero_add, Nat.reduceAdd, List.setIfInBounds_toArray, List.set_cons_zero, List.set_cons_succ]
 go_wp2
 go_ret2
 exact ⟨rfl, hW⟩
def kd (c : Int) : Int := if c = 33 then 1 else if c = 63 then 2 else 0
theorem kindOf_any (c : Int) (w : World) : Calls Tryz.prog 228 #[.int .i32 c] w fun e w' => e = .returned (.int .i64 (kd c)) ∧ Below w.heap.size w w' := by
 unfold kd
 by_cases h1 : c = 33
 · subst h1
   go_enter Tryz.func228, Tryz.ntmps228
   go_wp2
   go_ret
   exact ⟨rfl, Below.refl _ _⟩
 · rw [if_neg h1]
   by_cases h2 : c = 63
   · subst h2
     go_enter Tryz.func228, Tryz.ntmps228
     go_wp2
     go_ret
     exact ⟨rfl, Below.refl _ _⟩
   · rw [if_neg h2]
     go_enter Tryz.func228, Tryz.ntmps228
     go_wp2
     go_ret
     exact ⟨rfl, Below.refl _ _⟩
end Go.Proofs.YtmahamdmapbilaaGreatDoor
