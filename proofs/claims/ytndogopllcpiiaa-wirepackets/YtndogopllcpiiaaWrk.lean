/- wire.reader.fields: what it answers. -/
import Derived.Test.YtndogopllcpiiaaWrd
import Derived.Test.YtndogopllcpiiaaWrj
namespace Go.Proofs.Ytndogopllcpiiaa
open Go.RowKit Go.Shelf

theorem FB.thaw {W : World} {b kd : Nat} {fr rd : Int} {N : Nat} {v : Value} (h : FB W b kd fr rd N v) (j : Nat) : W.frozen? ⟨b, j, none⟩ = false := thaw_at h j
theorem FB.set0 {W : World} {b kd : Nat} {fr rd : Int} {N : Nat} {v : Value} (h : FB W b kd fr rd N v) (x : Nat) : FB (W.setCell ⟨b, 0, none⟩ (.int .i64 (x : Int))) b x fr rd N v := (set_get 0 _ h).trans (by simp [fcs])
theorem FB.set1 {W : World} {b kd : Nat} {fr rd : Int} {N : Nat} {v : Value} (h : FB W b kd fr rd N v) (x : Int) : FB (W.setCell ⟨b, 1, none⟩ (.int .i64 x)) b kd x rd N v := (set_get 1 _ h).trans (by simp [fcs])
theorem FB.set2 {W : World} {b kd : Nat} {fr rd : Int} {N : Nat} {v : Value} (h : FB W b kd fr rd N v) (x : Int) : FB (W.setCell ⟨b, 2, none⟩ (.int .i64 x)) b kd fr x N v := (set_get 2 _ h).trans (by simp [fcs])
def W4 (W : World) (b M : Nat) : World := (((W.setCell ⟨b, 3, none⟩ (.int .u32 (wd M 0 : Nat))).setCell ⟨b, 4, none⟩ (.int .u32 (wd M 1 : Nat))).setCell ⟨b, 5, none⟩ (.int .u32 (wd M 2 : Nat))).setCell ⟨b, 6, none⟩ (.int .u32 (wd M 3 : Nat))
theorem FB.set3 {W : World} {b kd : Nat} {fr rd : Int} {N : Nat} {v : Value} (h : FB W b kd fr rd N v) (M : Nat) : FB (W4 W b M) b kd fr rd M v := (set_get 6 _ (set_get 5 _ (set_get 4 _ (set_get 3 _ h)))).trans (by simp [fcs])
theorem FB.set7 {W : World} {b kd : Nat} {fr rd : Int} {N : Nat} {v : Value} (h : FB W b kd fr rd N v) (x : Value) : FB (W.setCell ⟨b, 7, none⟩ x) b kd fr rd N x := (set_get 7 _ h).trans (by simp [fcs])
def W8 (W : World) (b kd : Nat) (fr rd : Int) (N : Nat) (v : Value) : World := ((((((((W.setCell ⟨b, 0, none⟩ (.int .i64 (kd : Int))).setCell ⟨b, 1, none⟩ (.int .i64 fr)).setCell ⟨b, 2, none⟩ (.int .i64 rd)).setCell ⟨b, 3, none⟩ (.int .u32 (wd N 0 : Nat))).setCell ⟨b, 4, none⟩ (.int .u32 (wd N 1 : Nat))).setCell ⟨b, 5, none⟩ (.int .u32 (wd N 2 : Nat))).setCell ⟨b, 6, none⟩ (.int .u32 (wd N 3 : Nat)))).setCell ⟨b, 7, none⟩ v
theorem FB.set8 {W : World} {b kd : Nat} {fr rd : Int} {N : Nat} {v : Value} (h : FB W b kd fr rd N v) (kd' : Nat) (fr' rd' : Int) (N' : Nat) (v' : Value) : FB (W8 W b kd' fr' rd' N' v') b kd' fr' rd' N' v' := ((((h.set0 kd').set1 fr').set2 rd').set3 N').set7 v'
theorem Rdr.other {W : World} {p : Nat} {ad : Option Addr} {cap : Nat} {bs : List Nat} {i : Nat} (h : Rdr W p ad cap bs i) {b : Nat} (hb : p < b) (j : Nat) (v : Value) : Rdr (W.setCell ⟨b, j, none⟩ v) p ad cap bs i := by
  refine ⟨(Below.heap_setCell _ _ _ _ (Nat.ne_of_lt hb)).trans h.box, fun hne => ?_, h.le, h.byt, h.ln, h.cp⟩
  obtain ⟨x, off, h1, h2, h3⟩ := h.rd hne
  exact ⟨x, off, h1, h2, h3.carry (Below.heap_setCell _ _ _ _ (Nat.ne_of_lt (Nat.lt_trans h2 hb)))⟩
theorem Kb.other {p : Nat} {w W : World} (h : Kb p w W) {b : Nat} (hp : p < b) (hb : w.heap.size ≤ b) (j : Nat) (v : Value) : Kb p w (W.setCell ⟨b, j, none⟩ v) :=
  ⟨Below.setCell (p := ⟨b, j, none⟩) h.1 (Nat.le_of_lt hp) v, fun x h1 h2 => (Below.heap_setCell _ _ _ _ (Nat.ne_of_lt (Nat.lt_of_lt_of_le h2 hb))).trans (h.2 x h1 h2)⟩
/-- What lies there while the fields are read. -/
structure SF (w : World) (p : Nat) (ad : Option Addr) (cap : Nat) (bs : List Nat) (i kd : Nat) (fr rd : Int) (N : Nat) (v : Value) (W : World) : Prop where
  rr : Rdr W p ad cap bs i
  kb : Kb p w W
  fb : FB W (w.heap.size + 1) kd fr rd N v
  f0 : FB W w.heap.size 0 0 0 0 (.slice none 0 0)
  pl : p < w.heap.size
section
variable {w W : World} {p : Nat} {ad : Option Addr} {cap : Nat} {bs : List Nat} {i kd : Nat} {fr rd : Int} {N : Nat} {v : Value}
theorem SF.sz (h : SF w p ad cap bs i kd fr rd N v W) : w.heap.size + 1 < W.heap.size := h.fb.lt
theorem SF.kbs {W' : World} {i' : Nat} (h : SF w p ad cap bs i kd fr rd N v W) (hr : Rdr W' p ad cap bs i') (hk : Kb p W W') : SF w p ad cap bs i' kd fr rd N v W' :=
  ⟨hr, h.kb.trans hk, h.fb.carry (hk.2 _ (by have := h.pl; omega) h.fb.lt), h.f0.carry (hk.2 _ (by have := h.pl; omega) h.f0.lt), h.pl⟩
theorem SF.below {W' : World} (h : SF w p ad cap bs i kd fr rd N v W) (hb : Below W.heap.size W W') : SF w p ad cap bs i kd fr rd N v W' := h.kbs (h.rr.carry hb) (Kb.below hb (by have := h.pl; have := h.sz; omega))
theorem SF.num (h : SF w p ad cap bs i kd fr rd N v W) (m : Nat) (h0 : 0 < m) (h7 : m ≤ 7) (hm : i + m ≤ bs.length) : Calls Try.prog 56 #[.pointer (some ⟨p, 0, none⟩), .int .i64 (m : Int)] W fun e W' => e = .returned (.int .i64 (nm bs i m : Nat)) ∧ SF w p ad cap bs (i + m) kd fr rd N v W' :=
  (number_ok h.rr m h0 h7 hm).mono (by rintro e W' ⟨rfl, hr, hk⟩; exact ⟨rfl, h.kbs hr hk⟩)
theorem SF.numx (h : SF w p ad cap bs i kd fr rd N v W) (m : Nat) (hm : bs.length < i + m) : Calls Try.prog 56 #[.pointer (some ⟨p, 0, none⟩), .int .i64 (m : Int)] W fun e W' => e = .panicked (rfu 76) ∧ Kb p w W' :=
  (number_no h.rr m hm).mono (by rintro e W' ⟨rfl, hb⟩; exact ⟨rfl, (h.below hb).kb⟩)
theorem SF.s0 (h : SF w p ad cap bs i kd fr rd N v W) (x : Nat) : SF w p ad cap bs i x fr rd N v (W.setCell ⟨w.heap.size + 1, 0, none⟩ (.int .i64 (x : Int))) :=
  ⟨h.rr.other (by have := h.pl; omega) _ _, h.kb.other (by have := h.pl; omega) (Nat.le_succ _) _ _, h.fb.set0 x, h.f0.carry (Below.heap_setCell _ _ _ _ (Nat.ne_of_lt (Nat.lt_succ_self _))), h.pl⟩
theorem SF.s1 (h : SF w p ad cap bs i kd fr rd N v W) (x : Int) : SF w p ad cap bs i kd x rd N v (W.setCell ⟨w.heap.size + 1, 1, none⟩ (.int .i64 x)) :=
  ⟨h.rr.other (by have := h.pl; omega) _ _, h.kb.other (by have := h.pl; omega) (Nat.le_succ _) _ _, h.fb.set1 x, h.f0.carry (Below.heap_setCell _ _ _ _ (Nat.ne_of_lt (Nat.lt_succ_self _))), h.pl⟩
theorem SF.s2 (h : SF w p ad cap bs i kd fr rd N v W) (x : Int) : SF w p ad cap bs i kd fr x N v (W.setCell ⟨w.heap.size + 1, 2, none⟩ (.int .i64 x)) :=
  ⟨h.rr.other (by have := h.pl; omega) _ _, h.kb.other (by have := h.pl; omega) (Nat.le_succ _) _ _, h.fb.set2 x, h.f0.carry (Below.heap_setCell _ _ _ _ (Nat.ne_of_lt (Nat.lt_succ_self _))), h.pl⟩
theorem SF.s7 (h : SF w p ad cap bs i kd fr rd N v W) (x : Value) : SF w p ad cap bs i kd fr rd N x (W.setCell ⟨w.heap.size + 1, 7, none⟩ x) :=
  ⟨h.rr.other (by have := h.pl; omega) _ _, h.kb.other (by have := h.pl; omega) (Nat.le_succ _) _ _, h.fb.set7 x, h.f0.carry (Below.heap_setCell _ _ _ _ (Nat.ne_of_lt (Nat.lt_succ_self _))), h.pl⟩
theorem SF.s3 (h : SF w p ad cap bs i kd fr rd N v W) (M : Nat) : SF w p ad cap bs i kd fr rd M v (W4 W (w.heap.size + 1) M) := by
  have hp := h.pl
  have hp1 : p < w.heap.size + 1 := by omega
  refine ⟨(((h.rr.other hp1 _ _).other hp1 _ _).other hp1 _ _).other hp1 _ _, (((h.kb.other hp1 (Nat.le_succ _) _ _).other hp1 (Nat.le_succ _) _ _).other hp1 (Nat.le_succ _) _ _).other hp1 (Nat.le_succ _) _ _, h.fb.set3 M, h.f0.carry ?_, h.pl⟩
  unfold W4
  rw [Below.heap_setCell _ _ _ _ (by simp), Below.heap_setCell _ _ _ _ (by simp), Below.heap_setCell _ _ _ _ (by simp), Below.heap_setCell _ _ _ _ (by simp)]
theorem SF.facts (h : SF w p ad cap bs i kd fr rd N v W) : (W.cell? ⟨w.heap.size + 1, 0, none⟩ = some (.int .i64 (kd : Int)) ∧ W.cell? ⟨w.heap.size + 1, 1, none⟩ = some (.int .i64 fr) ∧ W.cell? ⟨w.heap.size + 1, 2, none⟩ = some (.int .i64 rd) ∧ W.cell? ⟨w.heap.size + 1, 3, none⟩ = some (.int .u32 (wd N 0 : Nat)) ∧ W.cell? ⟨w.heap.size + 1, 4, none⟩ = some (.int .u32 (wd N 1 : Nat)) ∧ W.cell? ⟨w.heap.size + 1, 5, none⟩ = some (.int .u32 (wd N 2 : Nat)) ∧ W.cell? ⟨w.heap.size + 1, 6, none⟩ = some (.int .u32 (wd N 3 : Nat)) ∧ W.cell? ⟨w.heap.size + 1, 7, none⟩ = some v) ∧ (W.frozen? ⟨w.heap.size + 1, 0, none⟩ = false ∧ W.frozen? ⟨w.heap.size + 1, 1, none⟩ = false ∧ W.frozen? ⟨w.heap.size + 1, 2, none⟩ = false ∧ W.frozen? ⟨w.heap.size + 1, 3, none⟩ = false ∧ W.frozen? ⟨w.heap.size + 1, 4, none⟩ = false ∧ W.frozen? ⟨w.heap.size + 1, 5, none⟩ = false ∧ W.frozen? ⟨w.heap.size + 1, 6, none⟩ = false ∧ W.frozen? ⟨w.heap.size + 1, 7, none⟩ = false) :=
  ⟨h.fb.cells, h.fb.thaw 0, h.fb.thaw 1, h.fb.thaw 2, h.fb.thaw 3, h.fb.thaw 4, h.fb.thaw 5, h.fb.thaw 6, h.fb.thaw 7⟩
end
/-- What fields answers. -/
def FdO (p : Nat) (ad : Option Addr) (cap : Nat) (bs : List Nat) (R : Except Int (FN × Nat)) (w : World) (e : Ending) (w' : World) : Prop :=
  match R with
  | .error er => e = .panicked (rfu er) ∧ Kb p w w'
  | .ok ((kd, fr, rd, N, l), j) => ∃ v, e = .returned (fv kd (fr : Int) (rd : Int) N v) ∧ w'.ownsRow w.heap.size 82 3 v l.length (fl l) ∧ Rdr w' p ad cap bs j ∧ Kb p w w'
theorem fdo_err {p : Nat} {ad : Option Addr} {cap : Nat} {bs : List Nat} {R : Except Int (FN × Nat)} {w w' : World} {er : Int} (h : R = .error er) (hk : Kb p w w') : FdO p ad cap bs R w (.panicked (rfu er)) w' := by
  subst h
  exact ⟨rfl, hk⟩
theorem retF {f : Func} {q : Tmp} {R : Ending → World → Prop} {a : Act} {w : World} {b kd : Nat} {fr rd : Int} {N : Nat} {v : Value} (hres : f.results = #[.cell q 90]) (hp : a.tmps.getD q undef = .pointer (some ⟨b, 0, none⟩)) (hd : a.defers = []) (h : FB w b kd fr rd N v) (hR : R (.returned (fv kd fr rd N v)) w) : bodyPost Try.prog f R .ret a w :=
  bodyPost_ret (results_cell_row hres a.tmps w b _ _ (0, 0) _ hp h Try.underlying90 rfl (by kernel_rfl)) hd hR
end Go.Proofs.Ytndogopllcpiiaa
