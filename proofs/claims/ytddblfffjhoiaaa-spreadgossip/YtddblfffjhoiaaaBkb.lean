/- A book in a world; kept, Size, raise, Take, At: what they answer, at every book. -/
import Derived.Test.YtddblfffjhoiaaaBka
import Derived.Test.YtddblfffjhoiaaaFll
import Derived.Test.YtddblfffjhoiaaaRnu
import Derived.Test.YtddblfffjhoiaaaRgn
import Derived.Test.YtddblfffjhoiaaaRgf
namespace Go.Proofs.Ytddblfffjhoiaaa
open Go.RowKit Go.Shelf

/-- A book: its block p, and that of its notices, g. -/
structure Bk (W : World) (p g : Nat) (l : List N3) : Prop where
  obj : W.heap[p]? = some (.cells #[.slice (some ⟨g, 0, none⟩) l.length l.length] 66 (0, 0))
  row : W.heap[g]? = some (.cells (fl l).toArray 32 (0, 0))
theorem Bk.ne {W : World} {p g : Nat} {l : List N3} (h : Bk W p g l) : p ≠ g := by
  intro e
  subst e
  have := h.obj.symm.trans h.row
  simp only [Option.some.injEq, Obj.cells.injEq] at this
  exact absurd this.2.1 (by decide)
theorem Bk.plt {W : World} {p g : Nat} {l : List N3} (h : Bk W p g l) : p < W.heap.size := lt_at h.obj
theorem Bk.glt {W : World} {p g : Nat} {l : List N3} (h : Bk W p g l) : g < W.heap.size := lt_at h.row
theorem Bk.carry {W W' : World} {p g : Nat} {l : List N3} (h : Bk W p g l) (hb : Below W.heap.size W W') : Bk W' p g l := ⟨(hb.block _ h.plt).trans h.obj, (hb.block _ h.glt).trans h.row⟩
theorem Bk.alloc {W : World} {p g : Nat} {l : List N3} (h : Bk W p g l) (o : Obj) : Bk (W.alloc o) p g l := ⟨old_at h.obj, old_at h.row⟩
/-- Another book's turning leaves it. -/
theorem Bk.other {W W' : World} {p g g' : Nat} {l : List N3} (h : Bk W p g l) (hg : W.grownBy W' (some g')) (h1 : p ≠ g') (h2 : g ≠ g') : Bk W' p g l := ⟨(hg.block _ h.plt (by simpa using h1)).trans h.obj, (hg.block _ h.glt (by simpa using h2)).trans h.row⟩
theorem Bk.nts {W : World} {p g : Nat} {l : List N3} (h : Bk W p g l) : NtsAt W g 0 l := by
  intro k x hk
  obtain ⟨c0, c1, c2⟩ := fl_get l k x hk
  rw [Nat.zero_add]
  exact ⟨(cell_at h.row _).trans (by simpa using c0), (cell_at h.row _).trans (by simpa using c1), (cell_at h.row _).trans (by simpa using c2)⟩
theorem Bk.thaw {W : World} {p g : Nat} {l : List N3} (h : Bk W p g l) (j : Nat) : W.frozen? ⟨g, j, none⟩ = false := thaw_at h.row j
theorem Bk.cell {W : World} {p g : Nat} {l : List N3} (h : Bk W p g l) : W.cell? ⟨p, 0, none⟩ = some (.slice (some ⟨g, 0, none⟩) l.length l.length) := cell_at h.obj 0
theorem field_b0 (W : World) (B : Nat) : (Instr.fieldAt 66 (.pointer (some ⟨B, 0, none⟩)) 0).run Try.prog W = .ok (.pointer (some ⟨B, 0, none⟩)) W := by go_simp
theorem load_b0 {W : World} {p g : Nat} {l : List N3} (h : Bk W p g l) : (Instr.loadAt 22 (.pointer (some ⟨p, 0, none⟩))).run Try.prog W = .ok (.slice (some ⟨g, 0, none⟩) l.length l.length) W := by
  have c0 := h.cell
  go_simp
/-- Three cells put. -/
def W3o (W : World) (B off : Nat) (o t k : Int) : World := ((W.setCell ⟨B, off, none⟩ (.int .i64 o)).setCell ⟨B, off + 1, none⟩ (.int .i64 t)).setCell ⟨B, off + 2, none⟩ (.int .i64 k)
theorem fl_set : ∀ (l : List N3) (i : Nat) (x : N3), (((fl l).set (i * 3) (.int .i64 x.1)).set (i * 3 + 1) (.int .i64 x.2.1)).set (i * 3 + 2) (.int .i64 x.2.2) = fl (l.set i x)
  | [], i, x => rfl
  | y :: l, 0, x => rfl
  | y :: l, i + 1, x => by
    have ih := fl_set l i x
    rw [fl_cons, List.set_cons_succ, fl_cons, ← ih, show (i + 1) * 3 = i * 3 + 1 + 1 + 1 by omega]
    rfl
theorem Bk.put {W : World} {p g : Nat} {l : List N3} (h : Bk W p g l) (i : Nat) (o t k : Int) : Bk (W3o W g (i * 3) o t k) p g (l.set i (o, t, k)) := by
  refine ⟨?_, ?_⟩
  · unfold W3o
    rw [Below.heap_setCell _ _ _ _ h.ne, Below.heap_setCell _ _ _ _ h.ne, Below.heap_setCell _ _ _ _ h.ne]
    simpa using h.obj
  · unfold W3o
    have h0 := heap_setCell_same _ _ (i * 3) _ _ (.int .i64 o) h.row
    have h1 := heap_setCell_same _ _ (i * 3 + 1) _ _ (.int .i64 t) h0
    have h2 := heap_setCell_same _ _ (i * 3 + 2) _ _ (.int .i64 k) h1
    rw [h2, ← fl_set l i (o, t, k)]
    simp
theorem grown_set {w W : World} {g : Nat} (h : w.grownBy W (some g)) (j : Nat) (v : Value) : w.grownBy (W.setCell ⟨g, j, none⟩ v) (some g) :=
  ⟨h.os, h.tape, h.output, by simpa using h.size, fun k hk hn => (Below.heap_setCell _ _ _ _ (by simpa using hn)).trans (h.block k hk hn)⟩
theorem grown_drew {w W : World} {row : Option Nat} (h : w.grownBy W row) : w.grownBy W.drew row := ⟨h.os, h.tape, h.output, h.size, h.block⟩
theorem grown3 {w W : World} {g : Nat} (h : w.grownBy W (some g)) (off : Nat) (o t k : Int) : w.grownBy (W3o W g off o t k) (some g) := grown_set (grown_set (grown_set h _ _) _ _) _ _
theorem store_b {W : World} {p g : Nat} {l : List N3} (h : Bk W p g l) (i : Nat) (hi : i < l.length) (o t k : Int) : (Instr.storeAt 32 (.pointer (some ⟨g, 0 + i * 3, none⟩)) (nt o t k)).run Try.prog W = .ok () (W3o W g (i * 3) o t k) := by
  obtain ⟨x, hx⟩ : ∃ x, l[i]? = some x := ⟨_, List.getElem?_eq_getElem hi⟩
  obtain ⟨c0, c1, c2⟩ := h.nts i x hx
  rw [Nat.zero_add] at *
  have z0 := h.thaw (i * 3)
  have z1 := h.thaw (i * 3 + 1)
  have z2 := h.thaw (i * 3 + 2)
  unfold nt W3o
  go_simp
set_option maxHeartbeats 1000000 in
theorem kept_any {W : World} {p g : Nat} {l : List N3} (h : Bk W p g l) : Calls Try.prog 34 #[.pointer (some ⟨p, 0, none⟩)] W fun e w' => e = .returned (.slice (some ⟨g, 0, none⟩) l.length l.length) ∧ Below W.heap.size W w' := by
  have c0 := h.cell
  go_enter Try.func34, Try.ntmps34
  go_wp2
  go_ret
  exact ⟨rfl, Below.refl _ _⟩
set_option maxHeartbeats 1000000 in
theorem bsize_any {W : World} {p g : Nat} {l : List N3} (h : Bk W p g l) : Calls Try.prog 23 #[.pointer (some ⟨p, 0, none⟩)] W fun e w' => e = .returned (.int .i64 (l.length : Int)) ∧ Below W.heap.size W w' := by
  have hk := kept_any h
  go_enter Try.func23, Try.ntmps23
  go_wp2_with (go_at_call 34; (with_reducible refine hk.mono ?_); rintro e u1 ⟨rfl, hb1⟩)
  go_ret
  exact ⟨rfl, hb1⟩
set_option maxHeartbeats 4000000 in
set_option maxRecDepth 100000 in
theorem raise_at {w : World} {p g : Nat} {l : List N3} (h : Bk w p g l) (i : Nat) (t k : Int) (hi : i < l.length) : Calls Try.prog 38 #[.pointer (some ⟨p, 0, none⟩), nt (i : Int) t k] w fun e w' => e = .returned (.bool (bat l ((i : Int), t, k))) ∧ Bk w' p g (rse l ((i : Int), t, k)) ∧ w.grownBy w' (some g) := by
  have hmx : Try.prog.follows .mixedOrders = true := by kernel_rfl
  obtain ⟨⟨o', t', k'⟩, hx⟩ : ∃ x, l[i]? = some x := ⟨_, List.getElem?_eq_getElem hi⟩
  have hbat : bat l ((i : Int), t, k) = bt (i : Int) t k o' t' k' := by
    unfold bat
    simp only [Int.toNat_natCast, hx]
    rfl
  have hrse : rse l ((i : Int), t, k) = if bt (i : Int) t k o' t' k' = true then l.set i ((i : Int), t, k) else l := by
    unfold rse
    rw [hbat, Int.toNat_natCast]
  rw [hbat, hrse]
  have hbe := beats_any (i : Int) t k o' t' k'
  clear hbat hrse
  generalize bt (i : Int) t k o' t' k' = b at *
  have hki : (i : Int) < (l.length : Int) := by omega
  have hj0 : NB (w.alloc (.cells #[.int .i64 (i : Int), .int .i64 t, .int .i64 k] 32)) w.heap.size (i : Int) t k ∧ Bk (w.alloc (.cells #[.int .i64 (i : Int), .int .i64 t, .int .i64 k] 32)) p g l ∧ Below w.heap.size w (w.alloc (.cells #[.int .i64 (i : Int), .int .i64 t, .int .i64 k] 32)) := ⟨NB.new _ _ _ _, h.alloc _, al1 _ _⟩
  go_enter Try.func38, Try.ntmps38
  unfold nt
  go_wp2
  rename_i Q0 K0 hK
  refine wp_region_any hmx ?_
  refine wpAny_pure (fun i__ => ([(nt (i : Int) t k), (.pointer (some ⟨p, 0, none⟩)), (.pointer (some ⟨p, 0, none⟩)), (.pointer (some ⟨p, 0, none⟩)), (.slice (some ⟨g, 0, none⟩) l.length l.length), (.pointer (some ⟨w.heap.size, 0, none⟩)), (.int .i64 (i : Int)), (.pointer (some ⟨g, 0 + i * 3, none⟩)), (nt o' t' k'), (.bool b), (.bool b)] : List Value).getD i__ undef) (fun V => NB V w.heap.size (i : Int) t k ∧ Bk V p g l ∧ Below w.heap.size w V) (by kernel_rfl) ⟨hj0.1.carry (Below.refl _ _).drew, hj0.2.1.carry (Below.refl _ _).drew, hj0.2.2.drew⟩ ?_ ?_
  · refine (stepsFrom_cons ?_ (stepsFrom_cons ?_ (stepsFrom_cons ?_ (stepsFrom_cons ?_ (stepsFrom_cons ?_ (stepsFrom_cons ?_ (stepsFrom_cons ?_ (stepsFrom_cons ?_ (stepsFrom_cons ?_ (stepsFrom_cons ?_ (stepsFrom_cons ?_ trivial)))))))))))
    · exact step_load rfl trivial _ _ _ rfl rfl (fun w hw => load_nt hw.1)
    · exact step_move rfl trivial _ rfl (by kernel_rfl)
    · exact step_nilCheck rfl trivial _ _ _ rfl rfl rfl
    · exact step_fieldAddr rfl trivial _ _ _ _ rfl rfl (fun w hw => field_b0 w _)
    · exact step_load rfl trivial _ _ _ rfl rfl (fun w hw => load_b0 hw.2.1)
    · exact step_fieldAddr rfl trivial _ _ _ _ rfl rfl (fun w hw => field_n0 w _)
    · exact step_load rfl trivial _ _ _ rfl rfl (fun w hw => load_n0 hw.1)
    · exact step_indexAddr rfl trivial _ _ _ _ _ rfl rfl rfl (fun w hw => idx_n g 0 _ _ i hi w)
    · exact step_load rfl trivial _ _ _ rfl rfl (fun w hw => load_at hw.2.1.nts hx)
    · exact step_call rfl trivial 15 _ _ [(nt (i : Int) t k), (nt o' t' k')] rfl (by kernel_rfl) (enters_of Try.func15 (by kernel_rfl) rfl) (fun w hw => (hbe w).mono (by rintro e w' ⟨rfl, hb⟩; exact ⟨rfl, hw.1.carry hb, hw.2.1.carry hb, bel2 hw.2.2 hb⟩))
    · exact step_assign rfl trivial _ rfl (by kernel_rfl) (fun _ h => h)
  intro W hW
  first | refine hK _ _ ?_ | refine (‹∀ (a : Act) (w : World), Code.wp Try.prog _ _ a w → _›) _ _ ?_
  simp only [finL, List.getD_cons_zero, List.getD_cons_succ, Nat.zero_add, Nat.reduceAdd, List.setIfInBounds_toArray, List.set_cons_zero, List.set_cons_succ]
  obtain ⟨hn, hk, hb⟩ := hW
  clear hj0 hK
  have gw : w.grownBy W (some g) := ⟨hb.os, hb.tape, hb.output, hb.size, fun q hq _ => hb.block q hq⟩
  cases b with
  | false =>
    go_wp2
    go_ret
    exact ⟨rfl, by simpa using hk, gw⟩
  | true =>
    go_wp2
    refine wp_region_any hmx ?_
    refine wpAny_last 8 (fun i__ => ([(.pointer (some ⟨p, 0, none⟩)), (.pointer (some ⟨p, 0, none⟩)), (.pointer (some ⟨p, 0, none⟩)), (.slice (some ⟨g, 0, none⟩) l.length l.length), (.pointer (some ⟨w.heap.size, 0, none⟩)), (.int .i64 (i : Int)), (nt (i : Int) t k), (.pointer (some ⟨g, 0 + i * 3, none⟩)), undef] : List Value).getD i__ undef) (fun V => NB V w.heap.size (i : Int) t k ∧ Bk V p g l ∧ w.grownBy V (some g)) (fun V => Bk V p g (l.set i ((i : Int), t, k)) ∧ w.grownBy V (some g)) rfl (by kernel_rfl) (by kernel_rfl) ⟨hn.carry (Below.refl _ _).drew, hk.carry (Below.refl _ _).drew, grown_drew gw⟩ ?_ ?_  ?_
    · refine (stepsFrom_cons ?_ (stepsFrom_cons ?_ (stepsFrom_cons ?_ (stepsFrom_cons ?_ (stepsFrom_cons ?_ (stepsFrom_cons ?_ (stepsFrom_cons ?_ (stepsFrom_cons ?_ trivial))))))))
      · exact step_move rfl trivial _ rfl (by kernel_rfl)
      · exact step_nilCheck rfl trivial _ _ _ rfl rfl rfl
      · exact step_fieldAddr rfl trivial _ _ _ _ rfl rfl (fun w hw => field_b0 w _)
      · exact step_load rfl trivial _ _ _ rfl rfl (fun w hw => load_b0 hw.2.1)
      · exact step_fieldAddr rfl trivial _ _ _ _ rfl rfl (fun w hw => field_n0 w _)
      · exact step_load rfl trivial _ _ _ rfl rfl (fun w hw => load_n0 hw.1)
      · exact step_load rfl trivial _ _ _ rfl rfl (fun w hw => load_nt hw.1)
      · exact step_indexAddr rfl trivial _ _ _ _ _ rfl rfl rfl (fun w hw => idx_n g 0 _ _ i hi w)
    · intro o ho
      cases ho
      exact step_store rfl trivial rfl _ _ _ _ _ rfl rfl rfl (fun w hw => ⟨_, store_b hw.2.1 i hi _ _ _, hw.2.1.put i _ _ _, grown3 hw.2.2 _ _ _ _⟩)
    intro W hW
    first | refine hK _ _ ?_ | refine (‹∀ (a : Act) (w : World), Code.wp Try.prog _ _ a w → _›) _ _ ?_
    simp only [finL, List.getD_cons_zero, List.getD_cons_succ, Nat.zero_add, Nat.reduceAdd, List.setIfInBounds_toArray, List.set_cons_zero, List.set_cons_succ]
    go_wp2
    go_ret
    exact ⟨rfl, by simpa using hW.1, hW.2⟩
end Go.Proofs.Ytddblfffjhoiaaa
