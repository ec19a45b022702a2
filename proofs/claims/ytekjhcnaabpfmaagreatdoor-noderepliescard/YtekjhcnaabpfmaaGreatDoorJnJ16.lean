import Derived.Test.YtekjhcnaabpfmaaGreatDoorJnJ14
import Derived.Test.YtekjhcnaabpfmaaGreatDoorJnJ15
import Derived.Test.YtekjhcnaabpfmaaGreatDoorJnJ1
import Derived.Laws.MakeOwn
set_option maxHeartbeats 40000000
set_option maxRecDepth 100000
set_option linter.unusedVariables false
namespace Go.Proofs.YtekjhcnaabpfmaaGreatDoor
open Go.RowKit Go.Shelf
structure Bk (W : World) (p g : Nat) (l : List N3) : Prop where
 obj : W.heap[p]? = some (.cells #[.slice (some ⟨g, 0, none⟩) l.length l.length] 136 (0, 0))
 row : W.heap[g]? = some (.cells (fl l).toArray 65 (0, 0))
theorem Bk.ne {W : World} {p g : Nat} {l : List N3} (h : Bk W p g l) : p ≠ g := by
 intro e
 subst e
 have := h.obj.symm.trans h.row
 simp only [Option.some.injEq, Obj.cells.injEq] at this
 exact absurd this.2.1 (by decide)
theorem Bk.plt {W : World} {p g : Nat} {l : List N3} (h : Bk W p g l) : p < W.heap.size := zla h.obj
theorem Bk.glt {W : World} {p g : Nat} {l : List N3} (h : Bk W p g l) : g < W.heap.size := zla h.row
theorem Bk.carry {W W' : World} {p g : Nat} {l : List N3} (h : Bk W p g l) (hb : Below W.heap.size W W') : Bk W' p g l := ⟨(hb.block _ h.plt).trans h.obj, (hb.block _ h.glt).trans h.row⟩
theorem Bk.alloc {W : World} {p g : Nat} {l : List N3} (h : Bk W p g l) (o : Obj) : Bk (W.alloc o) p g l := ⟨zoa h.obj, zoa h.row⟩
theorem Bk.nts {W : World} {p g : Nat} {l : List N3} (h : Bk W p g l) : NtsAt W g 0 l := by
 intro k x hk
 obtain ⟨c0, c1, c2⟩ := fl_get l k x hk
 rw [Nat.zero_add]
 exact ⟨(zca h.row _).trans (by simpa using c0), (zca h.row _).trans (by simpa using c1), (zca h.row _).trans (by simpa using c2)⟩
theorem Bk.thaw {W : World} {p g : Nat} {l : List N3} (h : Bk W p g l) (j : Nat) : W.frozen? ⟨g, j, none⟩ = false := zta h.row j
theorem Bk.cell {W : World} {p g : Nat} {l : List N3} (h : Bk W p g l) : W.cell? ⟨p, 0, none⟩ = some (.slice (some ⟨g, 0, none⟩) l.length l.length) := zca h.obj 0
theorem field_b0 (W : World) (B : Nat) : (Instr.fieldAt 136 (.pointer (some ⟨B, 0, none⟩)) 0).run Tryz.prog W = .ok (.pointer (some ⟨B, 0, none⟩)) W := by go_simp
theorem load_b0 {W : World} {p g : Nat} {l : List N3} (h : Bk W p g l) : (Instr.loadAt 36 (.pointer (some ⟨p, 0, none⟩))).run Tryz.prog W = .ok (.slice (some ⟨g, 0, none⟩) l.length l.length) W := by
 have c0 := h.cell
 go_simp
def W3o (W : World) (B off : Nat) (o t k : Int) : World := ((W.setCell ⟨B, off, none⟩ (.int .i64 o)).setCell ⟨B, off + 1, none⟩ (.int .i64 t)).setCell ⟨B, off + 2, none⟩ (.int .i64 k)
theorem fl_set : ∀ (l : List N3) (i : Nat) (x : N3), (((fl l).set (i * 3) (.int .i64 x.1)).set (i * 3 + 1) (.int .i64 x.2.1)).set (i * 3 + 2) (.int .i64 x.2.2) = fl (l.set i x)
 | [], i, x => rfl
 | y :: l, 0, x => rfl
 | y :: l, i + 1, x => by
  have ih := fl_set l i x
  rw [fl_cons, List.set_cons_succ, fl_cons, ← ih, show (i + 1) * 3 = i * 3 + 1 + 1 + 1 by omega]
  rfl
theorem Bk.put {W : World} {p g : Nat} {l : List N3} (h : Bk W p g l) (i : Nat) (o t k : Int) : Bk (W3o W g (i * 3) o t k) p g (l.set i (o, t, k)) := by
 refine ⟨?_, ?_⟩
 · unfold W3o
   rw [Below.heap_setCell _ _ _ _ h.ne, Below.heap_setCell _ _ _ _ h.ne, Below.heap_setCell _ _ _ _ h.ne]
   simpa using h.obj
 · unfold W3o
   have h0 := heap_setCell_same _ _ (i * 3) _ _ (.int .i64 o) h.row
   have h1 := heap_setCell_same _ _ (i * 3 + 1) _ _ (.int .i64 t) h0
   have h2 := heap_setCell_same _ _ (i * 3 + 2) _ _ (.int .i64 k) h1
   rw [h2, ← fl_set l i (o, t, k)]
   simp
theorem grown_set {w W : World} {g : Nat} (h : w.grownBy W (some g)) (j : Nat) (v : Value) : w.grownBy (W.setCell ⟨g, j, none⟩ v) (some g) :=
 ⟨h.os, h.tape, h.output, by simpa using h.size, fun k hk hn => (Below.heap_setCell _ _ _ _ (by simpa using hn)).trans (h.block k hk hn)⟩
theorem grown_drew {w W : World} {row : Option Nat} (h : w.grownBy W row) : w.grownBy W.drew row := ⟨h.os, h.tape, h.output, h.size, h.block⟩
theorem grown3 {w W : World} {g : Nat} (h : w.grownBy W (some g)) (off : Nat) (o t k : Int) : w.grownBy (W3o W g off o t k) (some g) := grown_set (grown_set (grown_set h _ _) _ _) _ _
theorem store_b {W : World} {p g : Nat} {l : List N3} (h : Bk W p g l) (i : Nat) (hi : i < l.length) (o t k : Int) : (Instr.storeAt 65 (.pointer (some ⟨g, 0 + i * 3, none⟩)) (nt o t k)).run Tryz.prog W = .ok () (W3o W g (i * 3) o t k) := by
 obtain ⟨x, hx⟩ : ∃ x, l[i]? = some x := ⟨_, List.getElem?_eq_getElem hi⟩
 obtain ⟨c0, c1, c2⟩ := h.nts i x hx
 rw [Nat.zero_add] at *
 have z0 := h.thaw (i * 3)
 have z1 := h.thaw (i * 3 + 1)
 have z2 := h.thaw (i * 3 + 2)
 unfold nt W3o
 go_simp
theorem bkept_any {W : World} {p g : Nat} {l : List N3} (h : Bk W p g l) : Calls Tryz.prog 106 #[.pointer (some ⟨p, 0, none⟩)] W fun e w' => e = .returned (.slice (some ⟨g, 0, none⟩) l.length l.length) ∧ Below W.heap.size W w' := by
 have c0 := h.cell
 go_enter Tryz.func106, Tryz.ntmps106
 go_wp2
 go_ret
 exact ⟨rfl, Below.refl _ _⟩
theorem bsize_any {W : World} {p g : Nat} {l : List N3} (h : Bk W p g l) : Calls Tryz.prog 79 #[.pointer (some ⟨p, 0, none⟩)] W fun e w' => e = .returned (.int .i64 (l.length : Int)) ∧ Below W.heap.size W w' := by
 have hk := bkept_any h
 go_enter Tryz.func79, Tryz.ntmps79
 go_wp2_with (go_at_call 106; (with_reducible refine hk.mono ?_); rintro e u1 ⟨rfl, hb1⟩)
 go_ret
 exact ⟨rfl, hb1⟩
theorem raise_at {w : World} {p g : Nat} {l : List N3} (h : Bk w p g l) (i : Nat) (t k : Int) (hi : i < l.length) : Calls Tryz.prog 117 #[.pointer (some ⟨p, 0, none⟩), nt (i : Int) t k] w fun e w' => e = .returned (.bool (bat l ((i : Int), t, k))) ∧ Bk w' p g (rse l ((i : Int), t, k)) ∧ w.grownBy w' (some g) := by
 have hmx := mixO
 obtain ⟨⟨o', t', k'⟩, hx⟩ : ∃ x, l[i]? = some x := ⟨_, List.getElem?_eq_getElem hi⟩
 have hbat : bat l ((i : Int), t, k) = bt (i : Int) t k o' t' k' := by
   unfold bat
   simp only [Int.toNat_natCast, hx]
   rfl
 have hrse : rse l ((i : Int), t, k) = if bt (i : Int) t k o' t' k' = true then l.set i ((i : Int), t, k) else l := by
   unfold rse
   rw [hbat, Int.toNat_natCast]
 rw [hbat, hrse]
 have hbe := beats_any (i : Int) t k o' t' k'
 clear hbat hrse
 generalize bt (i : Int) t k o' t' k' = b at *
 have hki : (i : Int) < (l.length : Int) := by omega
 have hj0 : NB (w.alloc (.cells #[.int .i64 (i : Int), .int .i64 t, .int .i64 k] 65)) w.heap.size (i : Int) t k ∧ Bk (w.alloc (.cells #[.int .i64 (i : Int), .int .i64 t, .int .i64 k] 65)) p g l ∧ Below w.heap.size w (w.alloc (.cells #[.int .i64 (i : Int), .int .i64 t, .int .i64 k] 65)) := ⟨NB.new _ _ _ _, h.alloc _, al1 _ _⟩
 go_enter Tryz.func117, Tryz.ntmps117
 unfold nt
 go_wp2
 rename_i Q0 K0 hK
 refine wp_region_any hmx ?_
 refine zwp (fun i__ => ([(nt (i : Int) t k), (.pointer (some ⟨p, 0, none⟩)), (.pointer (some ⟨p, 0, none⟩)), (.pointer (some ⟨p, 0, none⟩)), (.slice (some ⟨g, 0, none⟩) l.length l.length), (.pointer (some ⟨w.heap.size, 0, none⟩)), (.int .i64 (i : Int)), (.pointer (some ⟨g, 0 + i * 3, none⟩)), (nt o' t' k'), (.bool b), (.bool b)] : List Value).getD i__ undef) (fun V => NB V w.heap.size (i : Int) t k ∧ Bk V p g l ∧ Below w.heap.size w V) (by kernel_rfl) ⟨hj0.1.carry (Below.refl _ _).drew, hj0.2.1.carry (Below.refl _ _).drew, hj0.2.2.drew⟩ ?_ ?_
 · refine (sqc ?_ (sqc ?_ (sqc ?_ (sqc ?_ (sqc ?_ (sqc ?_ (sqc ?_ (sqc ?_ (sqc ?_ (sqc ?_ (sqc ?_ trivial)))))))))))
   · exact zld rfl trivial _ _ _ rfl rfl (fun w hw => load_nt hw.1)
   · exact zmv rfl trivial _ rfl (by kernel_rfl)
   · exact znc rfl trivial _ _ _ rfl rfl rfl
   · exact zfa rfl trivial _ _ _ _ rfl rfl (fun w hw => field_b0 w _)
   · exact zld rfl trivial _ _ _ rfl rfl (fun w hw => load_b0 hw.2.1)
   · exact zfa rfl trivial _ _ _ _ rfl rfl (fun w hw => field_n0 w _)
   · exact zld rfl trivial _ _ _ rfl rfl (fun w hw => load_n0 hw.1)
   · exact zia rfl trivial _ _ _ _ _ rfl rfl rfl (fun w hw => idx_n g 0 _ _ i hi w)
   · exact zld rfl trivial _ _ _ rfl rfl (fun w hw => load_at hw.2.1.nts hx)
   · exact zsc rfl trivial 145 _ _ [(nt (i : Int) t k), (nt o' t' k')] rfl (by kernel_rfl) (enters_of Tryz.func145 (by kernel_rfl) rfl) (fun w hw => (hbe w).mono (by rintro e w' ⟨rfl, hb⟩; exact ⟨rfl, hw.1.carry hb, hw.2.1.carry hb, bel2 hw.2.2 hb⟩))
   · exact zas rfl trivial _ rfl (by kernel_rfl) (fun _ h => h)
 intro W hW
 first | refine hK _ _ ?_ | refine (‹∀ (a : Act) (w : World), Code.wp Tryz.prog _ _ a w → _›) _ _ ?_
 simp only [finL, List.getD_cons_zero, List.getD_cons_succ, Nat.zero_add, Nat.reduceAdd, List.setIfInBounds_toArray, List.set_cons_zero, List.set_cons_succ]
 obtain ⟨hn, hk, hb⟩ := hW
 clear hj0 hK
 have gw : w.grownBy W (some g) := ⟨hb.os, hb.tape, hb.output, hb.size, fun q hq _ => hb.block q hq⟩
 cases b with
 | false =>
   go_wp2
   go_ret
   exact ⟨rfl, by simpa using hk, gw⟩
 | true =>
   go_wp2
   refine wp_region_any hmx ?_
   refine zwl 8 (fun i__ => ([(.pointer (some ⟨p, 0, none⟩)), (.pointer (some ⟨p, 0, none⟩)), (.pointer (some ⟨p, 0, none⟩)), (.slice (some ⟨g, 0, none⟩) l.length l.length), (.pointer (some ⟨w.heap.size, 0, none⟩)), (.int .i64 (i : Int)), (nt (i : Int) t k), (.pointer (some ⟨g, 0 + i * 3, none⟩)), undef] : List Value).getD i__ undef) (fun V => NB V w.heap.size (i : Int) t k ∧ Bk V p g l ∧ w.grownBy V (some g)) (fun V => Bk V p g (l.set i ((i : Int), t, k)) ∧ w.grownBy V (some g)) rfl (by kernel_rfl) (by kernel_rfl) ⟨hn.carry (Below.refl _ _).drew, hk.carry (Below.refl _ _).drew, grown_drew gw⟩ ?_ ?_  ?_
   · refine (sqc ?_ (sqc ?_ (sqc ?_ (sqc ?_ (sqc ?_ (sqc ?_ (sqc ?_ (sqc ?_ trivial))))))))
     · exact zmv rfl trivial _ rfl (by kernel_rfl)
     · exact znc rfl trivial _ _ _ rfl rfl rfl
     · exact zfa rfl trivial _ _ _ _ rfl rfl (fun w hw => field_b0 w _)
     · exact zld rfl trivial _ _ _ rfl rfl (fun w hw => load_b0 hw.2.1)
     · exact zfa rfl trivial _ _ _ _ rfl rfl (fun w hw => field_n0 w _)
     · exact zld rfl trivial _ _ _ rfl rfl (fun w hw => load_n0 hw.1)
     · exact zld rfl trivial _ _ _ rfl rfl (fun w hw => load_nt hw.1)
     · exact zia rfl trivial _ _ _ _ _ rfl rfl rfl (fun w hw => idx_n g 0 _ _ i hi w)
   · intro o ho
     cases ho
     exact step_store rfl trivial rfl _ _ _ _ _ rfl rfl rfl (fun w hw => ⟨_, store_b hw.2.1 i hi _ _ _, hw.2.1.put i _ _ _, grown3 hw.2.2 _ _ _ _⟩)
   intro W hW
   first | refine hK _ _ ?_ | refine (‹∀ (a : Act) (w : World), Code.wp Tryz.prog _ _ a w → _›) _ _ ?_
   simp only [finL, List.getD_cons_zero, List.getD_cons_succ, Nat.zero_add, Nat.reduceAdd, List.setIfInBounds_toArray, List.set_cons_zero, List.set_cons_succ]
   go_wp2
   go_ret
   exact ⟨rfl, by simpa using hW.1, hW.2⟩
theorem grown_below0 {w W : World} (h : Below w.heap.size w W) (g : Nat) : w.grownBy W (some g) := ⟨h.os, h.tape, h.output, h.size, fun q hq _ => h.block q hq⟩
theorem grown_then {w W V : World} {g : Nat} (h : Below w.heap.size w W) (k : W.grownBy V (some g)) : w.grownBy V (some g) := (grown_below0 h g).trans k
theorem grown_and {w W V : World} {g : Nat} (h : w.grownBy W (some g)) (k : Below W.heap.size W V) : w.grownBy V (some g) := h.trans (grown_below0 k g)
def tkb (l : List N3) (x : N3) : Bool := vlx l.length x && bat l x
theorem bktake_any {w : World} {p g : Nat} {l : List N3} (h : Bk w p g l) (o t k : Int) : Calls Tryz.prog 136 #[.pointer (some ⟨p, 0, none⟩), nt o t k] w fun e w' => e = .returned (.tuple #[.bool (tkb l (o, t, k)), .int .i64 (if vlx l.length (o, t, k) = true then 0 else 50)]) ∧ Bk w' p g (tke l (o, t, k)) ∧ w.grownBy w' (some g) := by
 have hmx := mixO
 obtain ⟨B, hB⟩ : ∃ B, vlx l.length (o, t, k) = B := ⟨_, rfl⟩
 have hva := valid_any (l.length : Int) o t k
 have hvv : vl (l.length : Int) o t k = B := hB
 rw [hvv] at hva
 have hj0 : NB (w.alloc (.cells #[.int .i64 o, .int .i64 t, .int .i64 k] 65)) w.heap.size o t k ∧ Bk (w.alloc (.cells #[.int .i64 o, .int .i64 t, .int .i64 k] 65)) p g l ∧ Below w.heap.size w (w.alloc (.cells #[.int .i64 o, .int .i64 t, .int .i64 k] 65)) := ⟨NB.new _ _ _ _, h.alloc _, al1 _ _⟩
 unfold tkb tke
 rw [hB]
 obtain ⟨R, hR⟩ : ∃ R, (B && bat l (o, t, k)) = R := ⟨_, rfl⟩
 obtain ⟨M, hM⟩ : ∃ M, (if B = true then rse l (o, t, k) else l) = M := ⟨_, rfl⟩
 obtain ⟨E, hE⟩ : ∃ E : Int, (if B = true then 0 else 50) = E := ⟨_, rfl⟩
 rw [hR, hM, hE]
 have hin : B = true → ∃ i : Nat, o = (i : Int) ∧ i < l.length := fun e => by
   obtain ⟨_, _, h3, h4, _⟩ := vlx_iff.1 (hB.trans e)
   exact ⟨o.toNat, by simpa using (Int.toNat_of_nonneg h3).symm, h4⟩
 clear hvv
 go_enter Tryz.func136, Tryz.ntmps136
 unfold nt
 go_wp2
 rename_i Q0 K0 hK
 refine wp_region_any hmx ?_
 refine zwp (fun i__ => ([(.pointer (some ⟨p, 0, none⟩)), (.int .i64 (l.length : Int)), (nt o t k), (.bool B), (.bool (!B))] : List Value).getD i__ undef) (fun V => NB V w.heap.size o t k ∧ Bk V p g l ∧ Below w.heap.size w V) (by kernel_rfl) ⟨hj0.1.carry (Below.refl _ _).drew, hj0.2.1.carry (Below.refl _ _).drew, hj0.2.2.drew⟩ ?_ ?_
 · refine (sqc ?_ (sqc ?_ (sqc ?_ (sqc ?_ (sqc ?_ trivial)))))
   · exact zmv rfl trivial _ rfl (by kernel_rfl)
   · exact zsc rfl trivial 79 _ _ [(.pointer (some ⟨p, 0, none⟩))] rfl (by kernel_rfl) (enters_of Tryz.func79 (by kernel_rfl) rfl) (fun w hw => (bsize_any hw.2.1).mono (by rintro e w' ⟨rfl, hb⟩; exact ⟨rfl, hw.1.carry hb, hw.2.1.carry hb, bel2 hw.2.2 hb⟩))
   · exact zld rfl trivial _ _ _ rfl rfl (fun w hw => load_nt hw.1)
   · exact zsc rfl trivial 113 _ _ [(.int .i64 (l.length : Int)), (nt o t k)] rfl (by kernel_rfl) (enters_of Tryz.func113 (by kernel_rfl) rfl) (fun w hw => (hva w).mono (by rintro e w' ⟨rfl, hb⟩; exact ⟨rfl, hw.1.carry hb, hw.2.1.carry hb, bel2 hw.2.2 hb⟩))
   · exact step_unOp rfl trivial _ _ _ _ rfl rfl (fun w hw => un_notN B w)
 intro W hW
 first | refine hK _ _ ?_ | refine (‹∀ (a : Act) (w : World), Code.wp Tryz.prog _ _ a w → _›) _ _ ?_
 simp only [finL, List.getD_cons_zero, List.getD_cons_succ, Nat.zero_add, Nat.reduceAdd, List.setIfInBounds_toArray, List.set_cons_zero, List.set_cons_succ]
 obtain ⟨hn, hk, hb⟩ := hW
 clear hj0 hK hB hva
 cases B with
 | false =>
   clear hin
   obtain rfl : false = R := hR
   obtain rfl : l = M := hM
   obtain rfl : (50 : Int) = E := hE
   go_wp2
   go_ret2
   exact ⟨rfl, hk, grown_below0 hb g⟩
 | true =>
   obtain ⟨i, rfl, hi⟩ := hin rfl
   clear hin
   have hr := raise_at hk i t k hi
   unfold nt at hr
   have c0 := hn.c0
   have c1 := hn.c1
   have c2 := hn.c2
   obtain rfl : (0 : Int) = E := hE
   rw [show bat l ((i : Int), t, k) = R from hR, show rse l ((i : Int), t, k) = M from hM] at hr
   clear hR hM
   go_wp2_with (go_at_call 117; (with_reducible refine hr.mono ?_); rintro e u1 ⟨rfl, hk1, hg1⟩)
   go_ret2
   exact ⟨rfl, hk1, grown_then hb hg1⟩
def atV (l : List N3) (id : Int) : Value := if 0 ≤ id ∧ id < (l.length : Int) then (match l[id.toNat]? with | some x => .tuple #[nt x.1 x.2.1 x.2.2, .int .i64 0] | none => undef) else .tuple #[nt 0 0 0, .int .i64 30]
theorem atV_in {l : List N3} {i : Nat} {x : N3} (h : l[i]? = some x) : atV l (i : Int) = .tuple #[nt x.1 x.2.1 x.2.2, .int .i64 0] := by
 have := (List.getElem?_eq_some_iff.1 h).1
 unfold atV
 rw [if_pos (by omega), Int.toNat_natCast, h]
theorem at_any {w : World} {p g : Nat} {l : List N3} (h : Bk w p g l) (id : Int) : Calls Tryz.prog 149 #[.pointer (some ⟨p, 0, none⟩), .int .i64 id] w fun e w' => e = .returned (atV l id) ∧ Below w.heap.size w w' := by
 have hk1 : Bk (w.alloc (.cells #[.int .i64 0, .int .i64 0, .int .i64 0] 65)) p g l := h.alloc _
 have hn1 : NB (w.alloc (.cells #[.int .i64 0, .int .i64 0, .int .i64 0] 65)) w.heap.size 0 0 0 := NB.new _ _ _ _
 have hb1 : Below w.heap.size w (w.alloc (.cells #[.int .i64 0, .int .i64 0, .int .i64 0] 65)) := al1 _ _
 have hsz := bsize_any hk1
 by_cases h0 : id < 0
 · have c0 := hn1.c0
   have c1 := hn1.c1
   have c2 := hn1.c2
   have z0 := hn1.thaw 0
   have z1 := hn1.thaw 1
   have z2 := hn1.thaw 2
   have hV : atV l id = .tuple #[nt 0 0 0, .int .i64 30] := by unfold atV; rw [if_neg (by omega)]
   rw [hV]
   go_enter Tryz.func149, Tryz.ntmps149
   go_wp2
   exact retNt rfl rfl rfl rfl hn1 ⟨rfl, hb1⟩
 · by_cases h1 : id < (l.length : Int)
   · obtain ⟨i, rfl⟩ : ∃ i : Nat, id = (i : Int) := ⟨id.toNat, by omega⟩
     have hi : i < l.length := by omega
     obtain ⟨⟨o', t', k'⟩, hx⟩ : ∃ x, l[i]? = some x := ⟨_, List.getElem?_eq_getElem hi⟩
     rw [atV_in hx]
     have hge : ¬ (l.length : Int) ≤ (i : Int) := by omega
     go_enter Tryz.func149, Tryz.ntmps149
     go_wp2_with (go_at_call 79; (with_reducible refine hsz.mono ?_); rintro e u1 ⟨rfl, hb2⟩; have hk2 := hk1.carry hb2; have hn2 := hn1.carry hb2; have d := hk2.cell; obtain ⟨e0, e1, e2⟩ := hk2.nts i _ hx; rw [Nat.zero_add] at e0 e1 e2; have c0 := hn2.c0; have c1 := hn2.c1; have c2 := hn2.c2; have z0 := hn2.thaw 0; have z1 := hn2.thaw 1; have z2 := hn2.thaw 2)
     exact retNt rfl rfl rfl rfl (NB.set hn2 _ _ _) ⟨rfl, below3 (bel2 hb1 hb2) (Nat.le_refl _) _ _ _⟩
   · have hV : atV l id = .tuple #[nt 0 0 0, .int .i64 30] := by unfold atV; rw [if_neg (by omega)]
     rw [hV]
     have hge : (l.length : Int) ≤ id := by omega
     go_enter Tryz.func149, Tryz.ntmps149
     go_wp2_with (go_at_call 79; (with_reducible refine hsz.mono ?_); rintro e u1 ⟨rfl, hb2⟩; have hn2 := hn1.carry hb2; have c0 := hn2.c0; have c1 := hn2.c1; have c2 := hn2.c2; have z0 := hn2.thaw 0; have z1 := hn2.thaw 1; have z2 := hn2.thaw 2)
     exact retNt rfl rfl rfl rfl (NB.set hn2 _ _ _) ⟨rfl, below3 (bel2 hb1 hb2) (Nat.le_refl _) _ _ _⟩
theorem bin_neqn {x y : Operand} {w : World} (o t k o' t' k' : Int) : binRun Tryz.prog .neq 65 x y (nt o t k) (nt o' t' k') w = .ok (.bool (!decide ((o, t, k) = (o', t', k')))) w := by
 unfold binRun nt
 by_cases h : o = o'
 · by_cases h1 : t = t'
   · by_cases h2 : k = k' <;> go_simp
   · go_simp
 · go_simp
theorem fl_zero : ∀ N : Nat, fl (List.replicate N (0, 0, 0)) = List.replicate (N * 3) (.int .i64 0)
 | 0 => rfl
 | N + 1 => by
  rw [List.replicate_succ, fl_cons, fl_zero N, show (N + 1) * 3 = N * 3 + 1 + 1 + 1 by omega, List.replicate_succ, List.replicate_succ, List.replicate_succ]
theorem made3 (N : Nat) : madeCells (Value.agg #[.int .i64 0, .int .i64 0, .int .i64 0]).cells (N * 3) = (fl (List.replicate N (0, 0, 0))).toArray := by
 rw [fl_zero]
 apply Array.ext
 · rw [size_madeCells]; simp
 · intro j h1 h2
   have hz : (Value.agg #[Value.int .i64 0, Value.int .i64 0, Value.int .i64 0]).cells = #[Value.int .i64 0, Value.int .i64 0, Value.int .i64 0] := rfl
   simp only [madeCells, hz, Array.getElem_map, Array.getElem_range, List.getElem_toArray, List.getElem_replicate]
   have : j % 3 < 3 := Nat.mod_lt _ (by decide)
   show #[Value.int IntKind.i64 0, Value.int IntKind.i64 0, Value.int IntKind.i64 0][j % 3]! = _
   match j % 3, this with
   | 0, _ => rfl
   | 1, _ => rfl
   | 2, _ => rfl
def mkl (N k : Nat) : List N3 := (List.range N).map fun (i : Nat) => if i < k then ((i : Int), 0, 1) else (0, 0, 0)
theorem mkl_len (N k : Nat) : (mkl N k).length = N := by simp [mkl]
theorem mkl_zero (N : Nat) : mkl N 0 = List.replicate N (0, 0, 0) := by
 apply List.ext_getElem
 · simp [mkl]
 · intro i h1 h2; simp [mkl]
theorem mkl_full (N : Nat) : mkl N N = frs N := by
 apply List.ext_getElem
 · simp [mkl, frs]
 · intro i h1 h2
   rw [mkl_len] at h1
   simp [mkl, frs, h1]
theorem mkl_set (N k : Nat) : (mkl N k).set k ((k : Int), 0, 1) = mkl N (k + 1) := by
 apply List.ext_getElem
 · simp [mkl]
 · intro i h1 h2
   rw [List.length_set, mkl_len] at h1
   rw [List.getElem_set]
   by_cases e : k = i
   · subst e
     simp [mkl]
   · rw [if_neg e]
     have : i < k + 1 ↔ i < k := by omega
     simp [mkl, this]
theorem fl_set1 : ∀ (l : List N3) (i : Nat) (o t k t' : Int), l[i]? = some (o, t, k) → (fl l).set (i * 3 + 1) (.int .i64 t') = fl (l.set i (o, t', k))
 | [], i, o, t, k, t', h => by simp at h
 | y :: l, 0, o, t, k, t', h => by
  obtain rfl := Option.some.inj (show some y = some (o, t, k) from h)
  rfl
 | y :: l, i + 1, o, t, k, t', h => by
  have ih := fl_set1 l i o t k t' h
  rw [show (y :: l).set (i + 1) (o, t', k) = y :: l.set i (o, t', k) from rfl, fl_cons, fl_cons, ← ih, show (i + 1) * 3 + 1 = i * 3 + 1 + 1 + 1 + 1 by omega]
  rfl
theorem Bk.put1 {W : World} {p g : Nat} {l : List N3} (h : Bk W p g l) {i : Nat} {o t k : Int} (hi : l[i]? = some (o, t, k)) (t' : Int) : Bk (W.setCell ⟨g, i * 3 + 1, none⟩ (.int .i64 t')) p g (l.set i (o, t', k)) := by
 refine ⟨?_, ?_⟩
 · rw [Below.heap_setCell _ _ _ _ h.ne]
   simpa using h.obj
 · have h0 := heap_setCell_same _ _ (i * 3 + 1) _ _ (.int .i64 t') h.row
   rw [h0, ← fl_set1 l i o t k t' hi]
   simp
def NewV (n self tag : Int) (w : World) (e : Ending) (w' : World) : Prop :=
 Below w.heap.size w w' ∧
 if n < 1 ∨ 100 < n then e = .returned (.tuple #[.pointer none, .int .i64 1])
 else if self < 0 ∨ n ≤ self then e = .returned (.tuple #[.pointer none, .int .i64 30])
 else if tag < 0 ∨ 1048576 < tag then e = .returned (.tuple #[.pointer none, .int .i64 50])
 else ∃ p g, e = .returned (.tuple #[.pointer (some ⟨p, 0, none⟩), .int .i64 0]) ∧ w.heap.size ≤ p ∧ w.heap.size ≤ g ∧ Bk w' p g (bk0 n.toNat self.toNat tag)
theorem new_any (n self tag : Int) (w : World) : Calls Tryz.prog 23 #[.int .i64 n, .int .i64 self, .int .i64 tag] w fun e w' => NewV n self tag w e w' := by
 have hmx := mixO
 by_cases h1 : n < 1 ∨ 100 < n
 · have HV : Hid (∀ w', Below w.heap.size w w' → NewV n self tag w (.returned (.tuple #[.pointer none, .int .i64 1])) w') := fun w' hb => ⟨hb, by rw [if_pos h1]⟩
   rcases h1 with h1 | h1
   all_goals
     go_enter Tryz.func23, Tryz.ntmps23
     go_wp2
     go_ret2
     exact HV.out _ (Below.refl _ _)
 by_cases h2 : self < 0 ∨ n ≤ self
 · have HV : Hid (∀ w', Below w.heap.size w w' → NewV n self tag w (.returned (.tuple #[.pointer none, .int .i64 30])) w') := fun w' hb => ⟨hb, by rw [if_neg h1, if_pos h2]⟩
   have h10 : ¬ n < 1 := by omega
   have h11 : ¬ 100 < n := by omega
   clear h1
   rcases h2 with h2 | h2
   all_goals
     go_enter Tryz.func23, Tryz.ntmps23
     go_wp2
     go_ret2
     exact HV.out _ (Below.refl _ _)
 by_cases h3 : tag < 0 ∨ 1048576 < tag
 · have HV : Hid (∀ w', Below w.heap.size w w' → NewV n self tag w (.returned (.tuple #[.pointer none, .int .i64 50])) w') := fun w' hb => ⟨hb, by rw [if_neg h1, if_neg h2, if_pos h3]⟩
   have h10 : ¬ n < 1 := by omega
   have h11 : ¬ 100 < n := by omega
   have h12 : ¬ self < 0 := by omega
   have h13 : ¬ n ≤ self := by omega
   clear h1 h2
   rcases h3 with h3 | h3
   all_goals
     go_enter Tryz.func23, Tryz.ntmps23
     go_wp2
     go_ret2
     exact HV.out _ (Below.refl _ _)
 obtain ⟨N, rfl⟩ : ∃ N : Nat, n = (N : Int) := ⟨n.toNat, by omega⟩
 obtain ⟨s, rfl⟩ : ∃ s : Nat, self = (s : Int) := ⟨self.toNat, by omega⟩
 have HV : Hid (∀ w' p g, Below w.heap.size w w' → w.heap.size ≤ p → w.heap.size ≤ g → Bk w' p g (bk0 N s tag) → NewV (N : Int) (s : Int) tag w (.returned (.tuple #[.pointer (some ⟨p, 0, none⟩), .int .i64 0])) w') := fun w' p g hb hp hg hk => ⟨hb, by rw [if_neg h1, if_neg h2, if_neg h3]; exact ⟨p, g, rfl, hp, hg, by simpa using hk⟩⟩
 have h10 : ¬ (N : Int) < 1 := by omega
 have h11 : ¬ 100 < (N : Int) := by omega
 have h12 : ¬ (s : Int) < 0 := by omega
 have h13 : ¬ (N : Int) ≤ (s : Int) := by omega
 have h14 : ¬ tag < 0 := by omega
 have h15 : ¬ 1048576 < tag := by omega
 have hsN : s < N := by omega
 have hsi : (s : Int) < (N : Int) := by omega
 have hN : N ≤ 100 := by omega
 clear h1 h2 h3
 obtain ⟨ic, hic, hz0, hz1, hz2⟩ := info_partsN
 have hmk : ∀ W : World, (Instr.makeSlice 36 (.int .i64 (N : Int)) (.int .i64 (N : Int))).run Tryz.prog W = .ok (.slice (some ⟨W.heap.size, 0, none⟩) N N) (W.alloc (.cells (fl (mkl N 0)).toArray 65)) := by
   intro W
   have := run_make (P := Tryz.prog) W 36 65 ic _ Tryz.underlying36 hic hz0 .i64 .i64 (N : Int) (N : Int) (by omega) (Int.le_refl _) (by rw [hz2]; omega) (by omega)
   rw [Int.toNat_natCast, hz1, made3, ← mkl_zero] at this
   exact this
 have hfr := fun (k : Nat) (W : World) => fresh_any (k : Int) W
 unfold nt at hfr
 generalize hM0 : (fl (mkl N 0)).toArray = M0 at hmk
 go_enter Tryz.func23, Tryz.ntmps23
 go_wp2
 go_loopw [37] (fun i wz => ∃ (k : Nat), i = .int .i64 k ∧ k ≤ N ∧ Bk wz (w.heap.size + 1) w.heap.size (mkl N k) ∧ Below w.heap.size w wz) (fun i _ => N - vnatR i)
 case atStart =>
   refine ⟨0, rfl, Nat.zero_le _, ⟨?_, ?_⟩, al2 _ _ _⟩
   · rw [mkl_len]; exact zna (by simp)
   · rw [hM0]; exact zoa (zna rfl)
 case round =>
   obtain ⟨k, rfl, hk, hbk, hbw⟩ := hrel
   by_cases hkl : k < N
   · have hki : (k : Int) < (N : Int) := by omega
     have hkm : k < (mkl N k).length := by rw [mkl_len]; exact hkl
     go_wp2
     rename_i Q0 K0 hK
     refine wp_region_any hmx ?_
     refine zwl 8 (fun i__ => ([(.pointer (some ⟨w.heap.size + 1, 0, none⟩)), (.pointer (some ⟨w.heap.size + 1, 0, none⟩)), (.pointer (some ⟨w.heap.size + 1, 0, none⟩)), (.slice (some ⟨w.heap.size, 0, none⟩) (mkl N k).length (mkl N k).length), (.int .i64 (k : Int)), (.int .i64 (k : Int)), (nt (k : Int) 0 1), (.pointer (some ⟨w.heap.size, 0 + k * 3, none⟩)), undef] : List Value).getD i__ undef) (fun V => Bk V (w.heap.size + 1) w.heap.size (mkl N k) ∧ Below w.heap.size w V) (fun V => Bk V (w.heap.size + 1) w.heap.size (mkl N (k + 1)) ∧ Below w.heap.size w V) rfl (by kernel_rfl) (by kernel_rfl) ⟨hbk.carry (Below.refl _ _).drew, hbw.drew⟩ ?_ ?_  ?_
     · refine (sqc ?_ (sqc ?_ (sqc ?_ (sqc ?_ (sqc ?_ (sqc ?_ (sqc ?_ (sqc ?_ trivial))))))))
       · exact zmv rfl trivial _ rfl (by kernel_rfl)
       · exact znc rfl trivial _ _ _ rfl rfl rfl
       · exact zfa rfl trivial _ _ _ _ rfl rfl (fun w hw => field_b0 w _)
       · exact zld rfl trivial _ _ _ rfl rfl (fun w hw => load_b0 hw.1)
       · exact zmv rfl trivial _ rfl (by kernel_rfl)
       · exact zmv rfl trivial _ rfl (by kernel_rfl)
       · exact zsc rfl trivial 18 _ _ [(.int .i64 (k : Int))] rfl (by kernel_rfl) (enters_of Tryz.func18 (by kernel_rfl) rfl) (fun w hw => (fresh_any (k : Int) w).mono (by rintro e w' ⟨rfl, hb⟩; exact ⟨rfl, hw.1.carry hb, bel2 hw.2 hb⟩))
       · exact zia rfl trivial _ _ _ _ _ rfl rfl rfl (fun w hw => idx_n _ 0 _ _ k hkm w)
     · intro o ho
       cases ho
       exact step_store rfl trivial rfl _ _ _ _ _ rfl rfl rfl (fun w hw => ⟨_, store_b hw.1 k hkm _ _ _, by rw [← mkl_set]; exact hw.1.put k _ _ _, ((hw.2.setCell (Nat.le_refl _) _).setCell (Nat.le_refl _) _).setCell (Nat.le_refl _) _⟩)
     intro W hW
     first | refine hK _ _ ?_ | refine (‹∀ (a : Act) (w : World), Code.wp Tryz.prog _ _ a w → _›) _ _ ?_
     simp only [finL, List.getD_cons_zero, List.getD_cons_succ, Nat.zero_add, Nat.reduceAdd, List.setIfInBounds_toArray, List.set_cons_zero, List.set_cons_succ]
     clear hK
     go_wp2
     go_roundw
     case rel => exact ⟨k + 1, by simp, by omega, hW.1, hW.2⟩
     case measure => simp [vnatR]; omega
   · have hkk : k = N := by omega
     subst hkk
     rw [mkl_full] at hbk
     have hx : (frs k)[s]? = some ((s : Int), 0, 1) := frs_get hsN
     have d := hbk.cell
     obtain ⟨e0, e1, e2⟩ := hbk.nts s _ hx
     rw [Nat.zero_add] at e0 e1 e2
     have z1 := hbk.thaw (s * 3 + 1)
     rw [frs_len] at d
     go_wp2
     go_ret2
     exact HV.out _ _ _ (hbw.setCell (Nat.le_refl _) _) (Nat.le_succ _) (Nat.le_refl _) (hbk.put1 hx tag)
theorem NewV.ok {n self tag : Int} {w w' : World} {e : Ending} (h : NewV n self tag w e w') (h1 : ¬ (n < 1 ∨ 100 < n)) (h2 : ¬ (self < 0 ∨ n ≤ self)) (h3 : ¬ (tag < 0 ∨ 1048576 < tag)) : ∃ p g, e = .returned (.tuple #[.pointer (some ⟨p, 0, none⟩), .int .i64 0]) ∧ w.heap.size ≤ p ∧ w.heap.size ≤ g ∧ Bk w' p g (bk0 n.toNat self.toNat tag) := by
 have := h.2
 rw [if_neg h1, if_neg h2, if_neg h3] at this
 exact this
end Go.Proofs.YtekjhcnaabpfmaaGreatDoor
