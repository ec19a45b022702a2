/- audit.bare, follows: what they answer. -/
import Derived.Test.YtgnhainfcfcodaaGreatAuc
namespace Go.Proofs.YtgnhainfcfcodaaGreat
open Go.RowKit Go.Shelf Go.Lib
attribute [local go_sem] Oper.semAt_some

/-- An event with nothing but what its kind has. -/
def bareE (x : Ev) : Ev :=
  if x.k = 1 then ⟨x.k, x.nd, x.li, x.ro, x.ta, 0, 0, 0, 0⟩ else if x.k = 2 then ⟨x.k, x.nd, x.li, x.ro, 0, 0, 0, 0, 0⟩ else if x.k = 3 then ⟨x.k, x.nd, x.li, x.ro, 0, 0, 0, x.he, x.un⟩ else if x.k = 4 then ⟨x.k, x.nd, x.li, x.ro, x.ta, x.of, 0, 0, 0⟩ else if x.k = 5 then ⟨x.k, x.nd, x.li, 0, x.ta, 0, x.du, 0, 0⟩ else ⟨x.k, x.nd, x.li, 0, 0, 0, 0, 0, 0⟩
/-- Two boxes of events. -/
structure JX (w : World) (q r z : Nat) (x e2 : Ev) (V : World) : Prop where
  bx : V.heap[q]? = some (.cells (ecA x) 59 (0, 0))
  tg : V.heap[r]? = some (.cells (ecA e2) 59 (0, 0))
  zr : z = q ∨ V.heap[z]? = some (.cells (ecA e0) 59 (0, 0))
  bl : Below w.heap.size w V
  qr : q ≠ r
  zn : z ≠ r
  rb : w.heap.size ≤ r
section
variable {w V V' : World} {q r z : Nat} {x e2 : Ev}
theorem JX.carry (h : JX w q r z x e2 V) (hb : Below V.heap.size V V') : JX w q r z x e2 V' := ⟨(hb.block _ (lt_at h.bx)).trans h.bx, (hb.block _ (lt_at h.tg)).trans h.tg, h.zr.imp id (fun k => (hb.block _ (lt_at k)).trans k), h.bl.trans (hb.mono h.bl.size), h.qr, h.zn, h.rb⟩
theorem JX.put (h : JX w q r z x e2 V) (j : Nat) (v : Value) (e' : Ev) (he : (ecA e2).setIfInBounds j v = ecA e') : JX w q r z x e' (V.setCell ⟨r, j, none⟩ v) :=
  ⟨(Below.heap_setCell _ _ _ _ h.qr).trans h.bx, by rw [← he]; exact set_get j v h.tg, h.zr.imp id (fun k => (Below.heap_setCell _ _ _ _ h.zn).trans k), h.bl.setCell h.rb _, h.qr, h.zn, h.rb⟩
theorem JX.puts (h : JX w q r z x e2 V) (j : Nat) (vs : List Value) (e' : Ev) (he : splice (ecA e2).toList j vs = (ecA e').toList) : JX w q r z x e' (V.setRow r (splice (ecA e2).toList j vs).toArray) :=
  ⟨(setRow_other V r q _ h.qr).trans h.bx, by rw [setRow_heap V r _ _ _ _ h.tg, he], h.zr.imp id (fun k => (setRow_other V r z _ h.zn).trans k), ⟨h.bl.os, h.bl.tape, h.bl.output, by simpa [World.setRow] using h.bl.size, fun k hk => (setRow_other V r k _ (by have := h.rb; omega)).trans (h.bl.block k hk)⟩, h.qr, h.zn, h.rb⟩
end
def svL (N : Nat) : List Value := [.int .u32 (wd N 0 : Nat), .int .u32 (wd N 1 : Nat), .int .u32 (wd N 2 : Nat), .int .u32 (wd N 3 : Nat)]
theorem svL_one (N : Nat) : ∀ v ∈ svL N, v.oneCell' = true := by
  intro v hv
  simp only [svL, List.mem_cons, List.not_mem_nil, or_false] at hv
  rcases hv with h | h | h | h <;> subst h <;> rfl
theorem info_st : (Tryz.prog.info? 57).map (·.size) = some 4 := by kernel_rfl
theorem wdz (j : Nat) : ((wd 0 j : Nat) : Int) = 0 := by rw [wd_zero]; rfl
theorem info_ev : (Tryz.prog.info? 59).map (·.size) = some 15 := by kernel_rfl
theorem retE {f : Func} {p : Tmp} {R : Ending → World → Prop} {a : Act} {w : World} {b : Nat} {e : Ev} (hres : f.results = #[.cell p 59]) (hp : a.tmps.getD p undef = .pointer (some ⟨b, 0, none⟩)) (hd : a.defers = []) (h : w.heap[b]? = some (.cells (ecA e) 59 (0, 0))) (hR : R (.returned (evV e)) w) : bodyPost Tryz.prog f R .ret a w :=
  bodyPost_ret (results_cell_row hres a.tmps w b _ _ (0, 0) _ hp h Tryz.underlying59 rfl (by kernel_rfl)) hd hR
theorem JX.zz {w V : World} {q r z : Nat} {x e2 : Ev} (h : JX w q r z x e2 V) (hz : z ≠ q) : V.heap[z]? = some (.cells (ecA e0).toList.toArray 59 (0, 0)) := h.zr.resolve_left hz
theorem JX.fin {w V : World} {q r z : Nat} {x e2 : Ev} (h : JX w q r z x e2 V) (hz : z ≠ q) (hzb : w.heap.size ≤ z) : (V.setRow z (splice (ecA e0).toList 0 (ecA e2).toList).toArray).heap[z]? = some (.cells (ecA e2) 59 (0, 0)) ∧ Below w.heap.size w (V.setRow z (splice (ecA e0).toList 0 (ecA e2).toList).toArray) :=
  ⟨(setRow_heap V z _ _ _ _ (h.zz hz)).trans rfl, ⟨h.bl.os, h.bl.tape, h.bl.output, by simpa [World.setRow] using h.bl.size, fun k hk => (setRow_other V z k _ (by omega)).trans (h.bl.block k hk)⟩⟩
set_option maxHeartbeats 4000000 in
set_option maxRecDepth 100000 in
theorem bare_1 (nd li ro ta of du : Int) (he un : Nat) (w : World) : Calls Tryz.prog 103 #[evV ⟨1, nd, li, ro, ta, of, du, he, un⟩] w fun e w' => e = .returned (evV (bareE ⟨1, nd, li, ro, ta, of, du, he, un⟩)) ∧ Below w.heap.size w w' := by
  have hmx : Tryz.prog.follows .mixedOrders = true := by kernel_rfl
  have hJ0 : JX w (w.heap.size) (w.heap.size + 1 + 1) (w.heap.size + 1) ⟨1, nd, li, ro, ta, of, du, he, un⟩ ⟨1, nd, li, 0, 0, 0, 0, 0, 0⟩ (((w.alloc (.cells (ecA ⟨1, nd, li, ro, ta, of, du, he, un⟩) 59)).alloc (.cells (ecA e0) 59)).alloc (.cells (ecA ⟨1, nd, li, 0, 0, 0, 0, 0, 0⟩) 59)) := ⟨old_at (old_at (new_at rfl)), new_at (by simp), .inr (old_at (new_at (by simp))), (((Below.refl _ w).alloc (Nat.le_refl _) _).alloc (by simp) _).alloc (by simp; omega) _, by omega, by omega, by omega⟩
  simp only [ecA, e0, wdz] at hJ0
  obtain ⟨y, hy⟩ : ∃ y, y = evV (bareE ⟨1, nd, li, ro, ta, of, du, he, un⟩) := ⟨_, rfl⟩
  rw [← hy]
  unfold evV ecA
  go_enter Tryz.func103, Tryz.ntmps103
  go_wp2
  refine wp_region_any hmx ?_
  refine wpAny_tabG (G := Unit) (fun g i__ => ([(.pointer (some ⟨w.heap.size, 3, none⟩)), (.int .i64 ro), (.pointer (some ⟨w.heap.size, 4, none⟩)), (.int .i64 ta), (.pointer (some ⟨w.heap.size + 1 + 1, 3, none⟩)), undef, (.pointer (some ⟨w.heap.size + 1 + 1, 4, none⟩)), undef] : List Value).getD i__ undef) (fun g d V => ∃ e2 : Ev, e2 = ⟨1, nd, li, if d 5 = true then ro else 0, if d 7 = true then ta else 0, 0, 0, 0, 0⟩ ∧ JX w (w.heap.size) (w.heap.size + 1 + 1) (w.heap.size + 1) ⟨1, nd, li, ro, ta, of, du, he, un⟩ e2 V) (by kernel_rfl) (()) ⟨⟨1, nd, li, 0, 0, 0, 0, 0, 0⟩, by simp, hJ0.carry (Below.refl _ _).drew⟩ ?step2 ?fin2
  case step2 =>
    intro i o ho
    have hi : i < 8 := getElem?_lt ho
    match i, hi, ho with
    | 0, _, ho =>
      cases ho
      refine stepG_of (fun g d hdep => ?_)
      exact step_fieldAddr rfl trivial _ _ _ _ rfl rfl (fun w hw => faE3 w _ _)
    | 1, _, ho =>
      cases ho
      refine stepG_of (fun g d hdep => ?_)
      exact step_load rfl trivial _ _ _ rfl rfl (fun w hw => by obtain ⟨e2, he2, hw⟩ := hw; exact load_in ((cell_at hw.bx 3).trans rfl))
    | 2, _, ho =>
      cases ho
      refine stepG_of (fun g d hdep => ?_)
      exact step_fieldAddr rfl trivial _ _ _ _ rfl rfl (fun w hw => faE4 w _ _)
    | 3, _, ho =>
      cases ho
      refine stepG_of (fun g d hdep => ?_)
      exact step_load rfl trivial _ _ _ rfl rfl (fun w hw => by obtain ⟨e2, he2, hw⟩ := hw; exact load_in ((cell_at hw.bx 4).trans rfl))
    | 4, _, ho =>
      cases ho
      refine stepG_of (fun g d hdep => ?_)
      exact step_fieldAddr rfl trivial _ _ _ _ rfl rfl (fun w hw => faE3 w _ _)
    | 5, _, ho =>
      cases ho
      exact stepG_store rfl rfl rfl _ _ _ (fun g => .pointer (some ⟨w.heap.size + 1 + 1, 3, none⟩)) (fun g => .int .i64 ro) rfl (fun g => by kernel_rfl) (fun g => by kernel_rfl) (fun g d V hJ hun hdep => by obtain ⟨e2, he2, hJ'⟩ := hJ; refine ⟨_, st_in (z := e2.ro) ((cell_at hJ'.tg 3).trans rfl) (thaw_at hJ'.tg 3), { e2 with ro := ro }, ?_, hJ'.put 3 _ _ rfl⟩; rw [he2]; simp)
    | 6, _, ho =>
      cases ho
      refine stepG_of (fun g d hdep => ?_)
      exact step_fieldAddr rfl trivial _ _ _ _ rfl rfl (fun w hw => faE4 w _ _)
    | 7, _, ho =>
      cases ho
      exact stepG_store rfl rfl rfl _ _ _ (fun g => .pointer (some ⟨w.heap.size + 1 + 1, 4, none⟩)) (fun g => .int .i64 ta) rfl (fun g => by kernel_rfl) (fun g => by kernel_rfl) (fun g d V hJ hun hdep => by obtain ⟨e2, he2, hJ'⟩ := hJ; refine ⟨_, st_in (z := e2.ta) ((cell_at hJ'.tg 4).trans rfl) (thaw_at hJ'.tg 4), { e2 with ta := ta }, ?_, hJ'.put 4 _ _ rfl⟩; rw [he2]; simp)
  intro g d W hall hW
  first | refine hK _ _ ?_ | refine (‹∀ (a : Act) (w : World), Code.wp Tryz.prog _ _ a w → _›) _ _ ?_ | skip
  simp only [finL, List.getD_cons_zero, List.getD_cons_succ, Nat.zero_add, Nat.reduceAdd, List.setIfInBounds_toArray, List.set_cons_zero, List.set_cons_succ]
  rw [hall 5 (by decide), hall 7 (by decide)] at hW
  obtain ⟨e2, he2, hJ2⟩ := hW
  simp only [if_true] at he2
  have HE : Hid (e2 = _) := he2
  clear hall hJ0 he2
  obtain ⟨i0, i1, i2, i3, i4, i5, i6⟩ := bx_ints hJ2.tg
  obtain ⟨e7, e8, e9, e10, e11, e12, e13, e14⟩ := bx_sets hJ2.tg
  go_wp2_with (refine wpList_store_in rfl 59 (.tmp 2) (.tmp 56) rfl (w.heap.size + 1) 0 59 (ecA e0).toList (ecA e2).toList rfl rfl (hJ2.zz (by omega)) info_ev (Nat.le_refl 15) (ec_ones _) ?_)
  exact retE rfl rfl rfl (hJ2.fin (by omega) (by omega)).1 ⟨by rw [hy, HE.out]; simp [bareE], (hJ2.fin (by omega) (by omega)).2⟩
set_option maxHeartbeats 4000000 in
set_option maxRecDepth 100000 in
theorem bare_2 (nd li ro ta of du : Int) (he un : Nat) (w : World) : Calls Tryz.prog 103 #[evV ⟨2, nd, li, ro, ta, of, du, he, un⟩] w fun e w' => e = .returned (evV (bareE ⟨2, nd, li, ro, ta, of, du, he, un⟩)) ∧ Below w.heap.size w w' := by
  have hmx : Tryz.prog.follows .mixedOrders = true := by kernel_rfl
  have hJ0 : JX w (w.heap.size) (w.heap.size + 1 + 1) (w.heap.size + 1) ⟨2, nd, li, ro, ta, of, du, he, un⟩ ⟨2, nd, li, 0, 0, 0, 0, 0, 0⟩ (((w.alloc (.cells (ecA ⟨2, nd, li, ro, ta, of, du, he, un⟩) 59)).alloc (.cells (ecA e0) 59)).alloc (.cells (ecA ⟨2, nd, li, 0, 0, 0, 0, 0, 0⟩) 59)) := ⟨old_at (old_at (new_at rfl)), new_at (by simp), .inr (old_at (new_at (by simp))), (((Below.refl _ w).alloc (Nat.le_refl _) _).alloc (by simp) _).alloc (by simp; omega) _, by omega, by omega, by omega⟩
  simp only [ecA, e0, wdz] at hJ0
  obtain ⟨y, hy⟩ : ∃ y, y = evV (bareE ⟨2, nd, li, ro, ta, of, du, he, un⟩) := ⟨_, rfl⟩
  rw [← hy]
  unfold evV ecA
  go_enter Tryz.func103, Tryz.ntmps103
  clear hJ0
  go_wp2
  refine retE (e := ⟨2, nd, li, ro, 0, 0, 0, 0, 0⟩) rfl rfl rfl ?_ ⟨by rw [hy]; simp [bareE], (((Below.refl _ w).alloc (Nat.le_refl _) _).alloc (by simp) _).alloc (by simp; omega) _⟩
  simp only [ecA, wdz]
  exact old_at (new_at (by simp))
set_option maxHeartbeats 4000000 in
set_option maxRecDepth 100000 in
theorem bare_3 (nd li ro ta of du : Int) (he un : Nat) (w : World) : Calls Tryz.prog 103 #[evV ⟨3, nd, li, ro, ta, of, du, he, un⟩] w fun e w' => e = .returned (evV (bareE ⟨3, nd, li, ro, ta, of, du, he, un⟩)) ∧ Below w.heap.size w w' := by
  have hmx : Tryz.prog.follows .mixedOrders = true := by kernel_rfl
  have hJ0 : JX w (w.heap.size) (w.heap.size + 1 + 1) (w.heap.size + 1) ⟨3, nd, li, ro, ta, of, du, he, un⟩ ⟨3, nd, li, 0, 0, 0, 0, 0, 0⟩ (((w.alloc (.cells (ecA ⟨3, nd, li, ro, ta, of, du, he, un⟩) 59)).alloc (.cells (ecA e0) 59)).alloc (.cells (ecA ⟨3, nd, li, 0, 0, 0, 0, 0, 0⟩) 59)) := ⟨old_at (old_at (new_at rfl)), new_at (by simp), .inr (old_at (new_at (by simp))), (((Below.refl _ w).alloc (Nat.le_refl _) _).alloc (by simp) _).alloc (by simp; omega) _, by omega, by omega, by omega⟩
  simp only [ecA, e0, wdz] at hJ0
  obtain ⟨y, hy⟩ : ∃ y, y = evV (bareE ⟨3, nd, li, ro, ta, of, du, he, un⟩) := ⟨_, rfl⟩
  rw [← hy]
  unfold evV ecA
  go_enter Tryz.func103, Tryz.ntmps103
  go_wp2
  refine wp_region_any hmx ?_
  refine wpAny_tabG (G := Unit) (fun g i__ => ([(.pointer (some ⟨w.heap.size, 3, none⟩)), (.int .i64 ro), (.pointer (some ⟨w.heap.size, 7, none⟩)), (sv he), (.pointer (some ⟨w.heap.size, 11, none⟩)), (sv un), (.pointer (some ⟨w.heap.size + 1 + 1, 3, none⟩)), undef, (.pointer (some ⟨w.heap.size + 1 + 1, 7, none⟩)), undef, (.pointer (some ⟨w.heap.size + 1 + 1, 11, none⟩)), undef] : List Value).getD i__ undef) (fun g d V => ∃ e2 : Ev, e2 = ⟨3, nd, li, if d 7 = true then ro else 0, 0, 0, 0, if d 9 = true then he else 0, if d 11 = true then un else 0⟩ ∧ JX w (w.heap.size) (w.heap.size + 1 + 1) (w.heap.size + 1) ⟨3, nd, li, ro, ta, of, du, he, un⟩ e2 V) (by kernel_rfl) (()) ⟨⟨3, nd, li, 0, 0, 0, 0, 0, 0⟩, by simp, hJ0.carry (Below.refl _ _).drew⟩ ?step3 ?fin3
  case step3 =>
    intro i o ho
    have hi : i < 12 := getElem?_lt ho
    match i, hi, ho with
    | 0, _, ho =>
      cases ho
      refine stepG_of (fun g d hdep => ?_)
      exact step_fieldAddr rfl trivial _ _ _ _ rfl rfl (fun w hw => faE3 w _ _)
    | 1, _, ho =>
      cases ho
      refine stepG_of (fun g d hdep => ?_)
      exact step_load rfl trivial _ _ _ rfl rfl (fun w hw => by obtain ⟨e2, he2, hw⟩ := hw; exact load_in ((cell_at hw.bx 3).trans rfl))
    | 2, _, ho =>
      cases ho
      refine stepG_of (fun g d hdep => ?_)
      exact step_fieldAddr rfl trivial _ _ _ _ rfl rfl (fun w hw => faE7 w _ _)
    | 3, _, ho =>
      cases ho
      refine stepG_of (fun g d hdep => ?_)
      exact step_load rfl trivial _ _ _ rfl rfl (fun w hw => by obtain ⟨e2, he2, hw⟩ := hw; exact load_se (N := he) ((cell_at hw.bx 7).trans rfl) ((cell_at hw.bx 8).trans rfl) ((cell_at hw.bx 9).trans rfl) ((cell_at hw.bx 10).trans rfl))
    | 4, _, ho =>
      cases ho
      refine stepG_of (fun g d hdep => ?_)
      exact step_fieldAddr rfl trivial _ _ _ _ rfl rfl (fun w hw => faE8 w _ _)
    | 5, _, ho =>
      cases ho
      refine stepG_of (fun g d hdep => ?_)
      exact step_load rfl trivial _ _ _ rfl rfl (fun w hw => by obtain ⟨e2, he2, hw⟩ := hw; exact load_se (N := un) ((cell_at hw.bx 11).trans rfl) ((cell_at hw.bx 12).trans rfl) ((cell_at hw.bx 13).trans rfl) ((cell_at hw.bx 14).trans rfl))
    | 6, _, ho =>
      cases ho
      refine stepG_of (fun g d hdep => ?_)
      exact step_fieldAddr rfl trivial _ _ _ _ rfl rfl (fun w hw => faE3 w _ _)
    | 7, _, ho =>
      cases ho
      exact stepG_store rfl rfl rfl _ _ _ (fun g => .pointer (some ⟨w.heap.size + 1 + 1, 3, none⟩)) (fun g => .int .i64 ro) rfl (fun g => by kernel_rfl) (fun g => by kernel_rfl) (fun g d V hJ hun hdep => by obtain ⟨e2, he2, hJ'⟩ := hJ; refine ⟨_, st_in (z := e2.ro) ((cell_at hJ'.tg 3).trans rfl) (thaw_at hJ'.tg 3), { e2 with ro := ro }, ?_, hJ'.put 3 _ _ rfl⟩; rw [he2]; simp)
    | 8, _, ho =>
      cases ho
      refine stepG_of (fun g d hdep => ?_)
      exact step_fieldAddr rfl trivial _ _ _ _ rfl rfl (fun w hw => faE7 w _ _)
    | 9, _, ho =>
      cases ho
      exact stepG_store rfl rfl rfl _ _ _ (fun g => .pointer (some ⟨w.heap.size + 1 + 1, 7, none⟩)) (fun g => sv he) rfl (fun g => by kernel_rfl) (fun g => by kernel_rfl) (fun g d V hJ hun hdep => by obtain ⟨e2, he2, hJ'⟩ := hJ; refine ⟨_, run_store_in V (w.heap.size + 1 + 1) 7 59 57 (ecA e2).toList (svL he) hJ'.tg info_st (Nat.le_of_ble_eq_true rfl) (svL_one _), { e2 with he := he }, ?_, hJ'.puts 7 _ _ rfl⟩; rw [he2]; simp)
    | 10, _, ho =>
      cases ho
      refine stepG_of (fun g d hdep => ?_)
      exact step_fieldAddr rfl trivial _ _ _ _ rfl rfl (fun w hw => faE8 w _ _)
    | 11, _, ho =>
      cases ho
      exact stepG_store rfl rfl rfl _ _ _ (fun g => .pointer (some ⟨w.heap.size + 1 + 1, 11, none⟩)) (fun g => sv un) rfl (fun g => by kernel_rfl) (fun g => by kernel_rfl) (fun g d V hJ hun hdep => by obtain ⟨e2, he2, hJ'⟩ := hJ; refine ⟨_, run_store_in V (w.heap.size + 1 + 1) 11 59 57 (ecA e2).toList (svL un) hJ'.tg info_st (Nat.le_of_ble_eq_true rfl) (svL_one _), { e2 with un := un }, ?_, hJ'.puts 11 _ _ rfl⟩; rw [he2]; simp)
  intro g d W hall hW
  first | refine hK _ _ ?_ | refine (‹∀ (a : Act) (w : World), Code.wp Tryz.prog _ _ a w → _›) _ _ ?_ | skip
  simp only [finL, List.getD_cons_zero, List.getD_cons_succ, Nat.zero_add, Nat.reduceAdd, List.setIfInBounds_toArray, List.set_cons_zero, List.set_cons_succ]
  rw [hall 7 (by decide), hall 9 (by decide), hall 11 (by decide)] at hW
  obtain ⟨e2, he2, hJ2⟩ := hW
  simp only [if_true] at he2
  have HE : Hid (e2 = _) := he2
  clear hall hJ0 he2
  obtain ⟨i0, i1, i2, i3, i4, i5, i6⟩ := bx_ints hJ2.tg
  obtain ⟨e7, e8, e9, e10, e11, e12, e13, e14⟩ := bx_sets hJ2.tg
  go_wp2_with (refine wpList_store_in rfl 59 (.tmp 2) (.tmp 56) rfl (w.heap.size + 1) 0 59 (ecA e0).toList (ecA e2).toList rfl rfl (hJ2.zz (by omega)) info_ev (Nat.le_refl 15) (ec_ones _) ?_)
  exact retE rfl rfl rfl (hJ2.fin (by omega) (by omega)).1 ⟨by rw [hy, HE.out]; simp [bareE], (hJ2.fin (by omega) (by omega)).2⟩
set_option maxHeartbeats 4000000 in
set_option maxRecDepth 100000 in
theorem bare_4 (nd li ro ta of du : Int) (he un : Nat) (w : World) : Calls Tryz.prog 103 #[evV ⟨4, nd, li, ro, ta, of, du, he, un⟩] w fun e w' => e = .returned (evV (bareE ⟨4, nd, li, ro, ta, of, du, he, un⟩)) ∧ Below w.heap.size w w' := by
  have hmx : Tryz.prog.follows .mixedOrders = true := by kernel_rfl
  have hJ0 : JX w (w.heap.size) (w.heap.size + 1 + 1) (w.heap.size + 1) ⟨4, nd, li, ro, ta, of, du, he, un⟩ ⟨4, nd, li, 0, 0, 0, 0, 0, 0⟩ (((w.alloc (.cells (ecA ⟨4, nd, li, ro, ta, of, du, he, un⟩) 59)).alloc (.cells (ecA e0) 59)).alloc (.cells (ecA ⟨4, nd, li, 0, 0, 0, 0, 0, 0⟩) 59)) := ⟨old_at (old_at (new_at rfl)), new_at (by simp), .inr (old_at (new_at (by simp))), (((Below.refl _ w).alloc (Nat.le_refl _) _).alloc (by simp) _).alloc (by simp; omega) _, by omega, by omega, by omega⟩
  simp only [ecA, e0, wdz] at hJ0
  obtain ⟨y, hy⟩ : ∃ y, y = evV (bareE ⟨4, nd, li, ro, ta, of, du, he, un⟩) := ⟨_, rfl⟩
  rw [← hy]
  unfold evV ecA
  go_enter Tryz.func103, Tryz.ntmps103
  go_wp2
  refine wp_region_any hmx ?_
  refine wpAny_tabG (G := Unit) (fun g i__ => ([(.pointer (some ⟨w.heap.size, 5, none⟩)), (.int .i64 of), (.pointer (some ⟨w.heap.size, 4, none⟩)), (.int .i64 ta), (.pointer (some ⟨w.heap.size, 3, none⟩)), (.int .i64 ro), (.pointer (some ⟨w.heap.size + 1 + 1, 5, none⟩)), undef, (.pointer (some ⟨w.heap.size + 1 + 1, 4, none⟩)), undef, (.pointer (some ⟨w.heap.size + 1 + 1, 3, none⟩)), undef] : List Value).getD i__ undef) (fun g d V => ∃ e2 : Ev, e2 = ⟨4, nd, li, if d 11 = true then ro else 0, if d 9 = true then ta else 0, if d 7 = true then of else 0, 0, 0, 0⟩ ∧ JX w (w.heap.size) (w.heap.size + 1 + 1) (w.heap.size + 1) ⟨4, nd, li, ro, ta, of, du, he, un⟩ e2 V) (by kernel_rfl) (()) ⟨⟨4, nd, li, 0, 0, 0, 0, 0, 0⟩, by simp, hJ0.carry (Below.refl _ _).drew⟩ ?step4 ?fin4
  case step4 =>
    intro i o ho
    have hi : i < 12 := getElem?_lt ho
    match i, hi, ho with
    | 0, _, ho =>
      cases ho
      refine stepG_of (fun g d hdep => ?_)
      exact step_fieldAddr rfl trivial _ _ _ _ rfl rfl (fun w hw => faE5 w _ _)
    | 1, _, ho =>
      cases ho
      refine stepG_of (fun g d hdep => ?_)
      exact step_load rfl trivial _ _ _ rfl rfl (fun w hw => by obtain ⟨e2, he2, hw⟩ := hw; exact load_in ((cell_at hw.bx 5).trans rfl))
    | 2, _, ho =>
      cases ho
      refine stepG_of (fun g d hdep => ?_)
      exact step_fieldAddr rfl trivial _ _ _ _ rfl rfl (fun w hw => faE4 w _ _)
    | 3, _, ho =>
      cases ho
      refine stepG_of (fun g d hdep => ?_)
      exact step_load rfl trivial _ _ _ rfl rfl (fun w hw => by obtain ⟨e2, he2, hw⟩ := hw; exact load_in ((cell_at hw.bx 4).trans rfl))
    | 4, _, ho =>
      cases ho
      refine stepG_of (fun g d hdep => ?_)
      exact step_fieldAddr rfl trivial _ _ _ _ rfl rfl (fun w hw => faE3 w _ _)
    | 5, _, ho =>
      cases ho
      refine stepG_of (fun g d hdep => ?_)
      exact step_load rfl trivial _ _ _ rfl rfl (fun w hw => by obtain ⟨e2, he2, hw⟩ := hw; exact load_in ((cell_at hw.bx 3).trans rfl))
    | 6, _, ho =>
      cases ho
      refine stepG_of (fun g d hdep => ?_)
      exact step_fieldAddr rfl trivial _ _ _ _ rfl rfl (fun w hw => faE5 w _ _)
    | 7, _, ho =>
      cases ho
      exact stepG_store rfl rfl rfl _ _ _ (fun g => .pointer (some ⟨w.heap.size + 1 + 1, 5, none⟩)) (fun g => .int .i64 of) rfl (fun g => by kernel_rfl) (fun g => by kernel_rfl) (fun g d V hJ hun hdep => by obtain ⟨e2, he2, hJ'⟩ := hJ; refine ⟨_, st_in (z := e2.of) ((cell_at hJ'.tg 5).trans rfl) (thaw_at hJ'.tg 5), { e2 with of := of }, ?_, hJ'.put 5 _ _ rfl⟩; rw [he2]; simp)
    | 8, _, ho =>
      cases ho
      refine stepG_of (fun g d hdep => ?_)
      exact step_fieldAddr rfl trivial _ _ _ _ rfl rfl (fun w hw => faE4 w _ _)
    | 9, _, ho =>
      cases ho
      exact stepG_store rfl rfl rfl _ _ _ (fun g => .pointer (some ⟨w.heap.size + 1 + 1, 4, none⟩)) (fun g => .int .i64 ta) rfl (fun g => by kernel_rfl) (fun g => by kernel_rfl) (fun g d V hJ hun hdep => by obtain ⟨e2, he2, hJ'⟩ := hJ; refine ⟨_, st_in (z := e2.ta) ((cell_at hJ'.tg 4).trans rfl) (thaw_at hJ'.tg 4), { e2 with ta := ta }, ?_, hJ'.put 4 _ _ rfl⟩; rw [he2]; simp)
    | 10, _, ho =>
      cases ho
      refine stepG_of (fun g d hdep => ?_)
      exact step_fieldAddr rfl trivial _ _ _ _ rfl rfl (fun w hw => faE3 w _ _)
    | 11, _, ho =>
      cases ho
      exact stepG_store rfl rfl rfl _ _ _ (fun g => .pointer (some ⟨w.heap.size + 1 + 1, 3, none⟩)) (fun g => .int .i64 ro) rfl (fun g => by kernel_rfl) (fun g => by kernel_rfl) (fun g d V hJ hun hdep => by obtain ⟨e2, he2, hJ'⟩ := hJ; refine ⟨_, st_in (z := e2.ro) ((cell_at hJ'.tg 3).trans rfl) (thaw_at hJ'.tg 3), { e2 with ro := ro }, ?_, hJ'.put 3 _ _ rfl⟩; rw [he2]; simp)
  intro g d W hall hW
  first | refine hK _ _ ?_ | refine (‹∀ (a : Act) (w : World), Code.wp Tryz.prog _ _ a w → _›) _ _ ?_ | skip
  simp only [finL, List.getD_cons_zero, List.getD_cons_succ, Nat.zero_add, Nat.reduceAdd, List.setIfInBounds_toArray, List.set_cons_zero, List.set_cons_succ]
  rw [hall 7 (by decide), hall 9 (by decide), hall 11 (by decide)] at hW
  obtain ⟨e2, he2, hJ2⟩ := hW
  simp only [if_true] at he2
  have HE : Hid (e2 = _) := he2
  clear hall hJ0 he2
  obtain ⟨i0, i1, i2, i3, i4, i5, i6⟩ := bx_ints hJ2.tg
  obtain ⟨e7, e8, e9, e10, e11, e12, e13, e14⟩ := bx_sets hJ2.tg
  go_wp2_with (refine wpList_store_in rfl 59 (.tmp 2) (.tmp 56) rfl (w.heap.size + 1) 0 59 (ecA e0).toList (ecA e2).toList rfl rfl (hJ2.zz (by omega)) info_ev (Nat.le_refl 15) (ec_ones _) ?_)
  exact retE rfl rfl rfl (hJ2.fin (by omega) (by omega)).1 ⟨by rw [hy, HE.out]; simp [bareE], (hJ2.fin (by omega) (by omega)).2⟩
set_option maxHeartbeats 4000000 in
set_option maxRecDepth 100000 in
theorem bare_5 (nd li ro ta of du : Int) (he un : Nat) (w : World) : Calls Tryz.prog 103 #[evV ⟨5, nd, li, ro, ta, of, du, he, un⟩] w fun e w' => e = .returned (evV (bareE ⟨5, nd, li, ro, ta, of, du, he, un⟩)) ∧ Below w.heap.size w w' := by
  have hmx : Tryz.prog.follows .mixedOrders = true := by kernel_rfl
  have hJ0 : JX w (w.heap.size) (w.heap.size + 1 + 1) (w.heap.size + 1) ⟨5, nd, li, ro, ta, of, du, he, un⟩ ⟨5, nd, li, 0, 0, 0, 0, 0, 0⟩ (((w.alloc (.cells (ecA ⟨5, nd, li, ro, ta, of, du, he, un⟩) 59)).alloc (.cells (ecA e0) 59)).alloc (.cells (ecA ⟨5, nd, li, 0, 0, 0, 0, 0, 0⟩) 59)) := ⟨old_at (old_at (new_at rfl)), new_at (by simp), .inr (old_at (new_at (by simp))), (((Below.refl _ w).alloc (Nat.le_refl _) _).alloc (by simp) _).alloc (by simp; omega) _, by omega, by omega, by omega⟩
  simp only [ecA, e0, wdz] at hJ0
  obtain ⟨y, hy⟩ : ∃ y, y = evV (bareE ⟨5, nd, li, ro, ta, of, du, he, un⟩) := ⟨_, rfl⟩
  rw [← hy]
  unfold evV ecA
  go_enter Tryz.func103, Tryz.ntmps103
  go_wp2
  refine wp_region_any hmx ?_
  refine wpAny_tabG (G := Unit) (fun g i__ => ([(.pointer (some ⟨w.heap.size, 4, none⟩)), (.int .i64 ta), (.pointer (some ⟨w.heap.size, 6, none⟩)), (.int .i64 du), (.pointer (some ⟨w.heap.size + 1 + 1, 4, none⟩)), undef, (.pointer (some ⟨w.heap.size + 1 + 1, 6, none⟩)), undef] : List Value).getD i__ undef) (fun g d V => ∃ e2 : Ev, e2 = ⟨5, nd, li, 0, if d 5 = true then ta else 0, 0, if d 7 = true then du else 0, 0, 0⟩ ∧ JX w (w.heap.size) (w.heap.size + 1 + 1) (w.heap.size + 1) ⟨5, nd, li, ro, ta, of, du, he, un⟩ e2 V) (by kernel_rfl) (()) ⟨⟨5, nd, li, 0, 0, 0, 0, 0, 0⟩, by simp, hJ0.carry (Below.refl _ _).drew⟩ ?step5 ?fin5
  case step5 =>
    intro i o ho
    have hi : i < 8 := getElem?_lt ho
    match i, hi, ho with
    | 0, _, ho =>
      cases ho
      refine stepG_of (fun g d hdep => ?_)
      exact step_fieldAddr rfl trivial _ _ _ _ rfl rfl (fun w hw => faE4 w _ _)
    | 1, _, ho =>
      cases ho
      refine stepG_of (fun g d hdep => ?_)
      exact step_load rfl trivial _ _ _ rfl rfl (fun w hw => by obtain ⟨e2, he2, hw⟩ := hw; exact load_in ((cell_at hw.bx 4).trans rfl))
    | 2, _, ho =>
      cases ho
      refine stepG_of (fun g d hdep => ?_)
      exact step_fieldAddr rfl trivial _ _ _ _ rfl rfl (fun w hw => faE6 w _ _)
    | 3, _, ho =>
      cases ho
      refine stepG_of (fun g d hdep => ?_)
      exact step_load rfl trivial _ _ _ rfl rfl (fun w hw => by obtain ⟨e2, he2, hw⟩ := hw; exact load_in ((cell_at hw.bx 6).trans rfl))
    | 4, _, ho =>
      cases ho
      refine stepG_of (fun g d hdep => ?_)
      exact step_fieldAddr rfl trivial _ _ _ _ rfl rfl (fun w hw => faE4 w _ _)
    | 5, _, ho =>
      cases ho
      exact stepG_store rfl rfl rfl _ _ _ (fun g => .pointer (some ⟨w.heap.size + 1 + 1, 4, none⟩)) (fun g => .int .i64 ta) rfl (fun g => by kernel_rfl) (fun g => by kernel_rfl) (fun g d V hJ hun hdep => by obtain ⟨e2, he2, hJ'⟩ := hJ; refine ⟨_, st_in (z := e2.ta) ((cell_at hJ'.tg 4).trans rfl) (thaw_at hJ'.tg 4), { e2 with ta := ta }, ?_, hJ'.put 4 _ _ rfl⟩; rw [he2]; simp)
    | 6, _, ho =>
      cases ho
      refine stepG_of (fun g d hdep => ?_)
      exact step_fieldAddr rfl trivial _ _ _ _ rfl rfl (fun w hw => faE6 w _ _)
    | 7, _, ho =>
      cases ho
      exact stepG_store rfl rfl rfl _ _ _ (fun g => .pointer (some ⟨w.heap.size + 1 + 1, 6, none⟩)) (fun g => .int .i64 du) rfl (fun g => by kernel_rfl) (fun g => by kernel_rfl) (fun g d V hJ hun hdep => by obtain ⟨e2, he2, hJ'⟩ := hJ; refine ⟨_, st_in (z := e2.du) ((cell_at hJ'.tg 6).trans rfl) (thaw_at hJ'.tg 6), { e2 with du := du }, ?_, hJ'.put 6 _ _ rfl⟩; rw [he2]; simp)
  intro g d W hall hW
  first | refine hK _ _ ?_ | refine (‹∀ (a : Act) (w : World), Code.wp Tryz.prog _ _ a w → _›) _ _ ?_ | skip
  simp only [finL, List.getD_cons_zero, List.getD_cons_succ, Nat.zero_add, Nat.reduceAdd, List.setIfInBounds_toArray, List.set_cons_zero, List.set_cons_succ]
  rw [hall 5 (by decide), hall 7 (by decide)] at hW
  obtain ⟨e2, he2, hJ2⟩ := hW
  simp only [if_true] at he2
  have HE : Hid (e2 = _) := he2
  clear hall hJ0 he2
  obtain ⟨i0, i1, i2, i3, i4, i5, i6⟩ := bx_ints hJ2.tg
  obtain ⟨e7, e8, e9, e10, e11, e12, e13, e14⟩ := bx_sets hJ2.tg
  go_wp2_with (refine wpList_store_in rfl 59 (.tmp 2) (.tmp 56) rfl (w.heap.size + 1) 0 59 (ecA e0).toList (ecA e2).toList rfl rfl (hJ2.zz (by omega)) info_ev (Nat.le_refl 15) (ec_ones _) ?_)
  exact retE rfl rfl rfl (hJ2.fin (by omega) (by omega)).1 ⟨by rw [hy, HE.out]; simp [bareE], (hJ2.fin (by omega) (by omega)).2⟩
set_option maxHeartbeats 4000000 in
set_option maxRecDepth 100000 in
theorem bare_0 (k : Int) (k1 : ¬ k = 1) (k2 : ¬ k = 2) (k3 : ¬ k = 3) (k4 : ¬ k = 4) (k5 : ¬ k = 5) (nd li ro ta of du : Int) (he un : Nat) (w : World) : Calls Tryz.prog 103 #[evV ⟨k, nd, li, ro, ta, of, du, he, un⟩] w fun e w' => e = .returned (evV (bareE ⟨k, nd, li, ro, ta, of, du, he, un⟩)) ∧ Below w.heap.size w w' := by
  have hmx : Tryz.prog.follows .mixedOrders = true := by kernel_rfl
  have hJ0 : JX w (w.heap.size) (w.heap.size + 1 + 1) (w.heap.size + 1) ⟨k, nd, li, ro, ta, of, du, he, un⟩ ⟨k, nd, li, 0, 0, 0, 0, 0, 0⟩ (((w.alloc (.cells (ecA ⟨k, nd, li, ro, ta, of, du, he, un⟩) 59)).alloc (.cells (ecA e0) 59)).alloc (.cells (ecA ⟨k, nd, li, 0, 0, 0, 0, 0, 0⟩) 59)) := ⟨old_at (old_at (new_at rfl)), new_at (by simp), .inr (old_at (new_at (by simp))), (((Below.refl _ w).alloc (Nat.le_refl _) _).alloc (by simp) _).alloc (by simp; omega) _, by omega, by omega, by omega⟩
  simp only [ecA, e0, wdz] at hJ0
  obtain ⟨y, hy⟩ : ∃ y, y = evV (bareE ⟨k, nd, li, ro, ta, of, du, he, un⟩) := ⟨_, rfl⟩
  rw [← hy]
  unfold evV ecA
  go_enter Tryz.func103, Tryz.ntmps103
  clear hJ0
  go_wp2
  refine retE (e := ⟨k, nd, li, 0, 0, 0, 0, 0, 0⟩) rfl rfl rfl ?_ ⟨by rw [hy]; simp [bareE, k1, k2, k3, k4, k5], (((Below.refl _ w).alloc (Nat.le_refl _) _).alloc (by simp) _).alloc (by simp; omega) _⟩
  simp only [ecA, wdz]
  exact old_at (new_at (by simp))
theorem bare_any (x : Ev) (w : World) : Calls Tryz.prog 103 #[evV x] w fun e w' => e = .returned (evV (bareE x)) ∧ Below w.heap.size w w' := by
  obtain ⟨k, nd, li, ro, ta, of, du, he, un⟩ := x
  by_cases k1 : k = 1
  · subst k1; exact bare_1 nd li ro ta of du he un w
  by_cases k2 : k = 2
  · subst k2; exact bare_2 nd li ro ta of du he un w
  by_cases k3 : k = 3
  · subst k3; exact bare_3 nd li ro ta of du he un w
  by_cases k4 : k = 4
  · subst k4; exact bare_4 nd li ro ta of du he un w
  by_cases k5 : k = 5
  · subst k5; exact bare_5 nd li ro ta of du he un w
  exact bare_0 k k1 k2 k3 k4 k5 nd li ro ta of du he un w
end Go.Proofs.YtgnhainfcfcodaaGreat
