import Derived.Test.YtifcnnonnocmmaaJnJ8
set_option maxHeartbeats 40000000
set_option maxRecDepth 100000
set_option linter.unusedVariables false
namespace Go.Proofs.Ytifcnnonnocmmaa
open Go.RowKit Go.Shelf Go.Lib
attribute [local go_sem] Oper.semAt_some
def bareE (x : Ev) : Ev :=
 if x.k = 1 then ⟨x.k, x.nd, x.li, x.ro, x.ta, 0, 0, 0, 0⟩ else if x.k = 2 then ⟨x.k, x.nd, x.li, x.ro, 0, 0, 0, 0, 0⟩ else if x.k = 3 then ⟨x.k, x.nd, x.li, x.ro, 0, 0, 0, x.he, x.un⟩ else if x.k = 4 then ⟨x.k, x.nd, x.li, x.ro, x.ta, x.of, 0, 0, 0⟩ else if x.k = 5 then ⟨x.k, x.nd, x.li, 0, x.ta, 0, x.du, 0, 0⟩ else ⟨x.k, x.nd, x.li, 0, 0, 0, 0, 0, 0⟩
structure JX (w : World) (q r z : Nat) (x e2 : Ev) (V : World) : Prop where
 bx : V.heap[q]? = some (.cells (ecA x) 34 (0, 0))
 tg : V.heap[r]? = some (.cells (ecA e2) 34 (0, 0))
 zr : z = q ∨ V.heap[z]? = some (.cells (ecA e0) 34 (0, 0))
 bl : Below w.heap.size w V
 qr : q ≠ r
 zn : z ≠ r
 rb : w.heap.size ≤ r
section
variable {w V V' : World} {q r z : Nat} {x e2 : Ev}
theorem JX.carry (h : JX w q r z x e2 V) (hb : Below V.heap.size V V') : JX w q r z x e2 V' := ⟨(hb.block _ (zla h.bx)).trans h.bx, (hb.block _ (zla h.tg)).trans h.tg, h.zr.imp id (fun k => (hb.block _ (zla k)).trans k), h.bl.trans (hb.mono h.bl.size), h.qr, h.zn, h.rb⟩
theorem JX.put (h : JX w q r z x e2 V) (j : Nat) (v : Value) (e' : Ev) (he : (ecA e2).setIfInBounds j v = ecA e') : JX w q r z x e' (V.setCell ⟨r, j, none⟩ v) :=
 ⟨(Below.heap_setCell _ _ _ _ h.qr).trans h.bx, by rw [← he]; exact set_get j v h.tg, h.zr.imp id (fun k => (Below.heap_setCell _ _ _ _ h.zn).trans k), h.bl.setCell h.rb _, h.qr, h.zn, h.rb⟩
theorem JX.puts (h : JX w q r z x e2 V) (j : Nat) (vs : List Value) (e' : Ev) (he : splice (ecA e2).toList j vs = (ecA e').toList) : JX w q r z x e' (V.setRow r (splice (ecA e2).toList j vs).toArray) :=
 ⟨(setRow_other V r q _ h.qr).trans h.bx, by rw [setRow_heap V r _ _ _ _ h.tg, he], h.zr.imp id (fun k => (setRow_other V r z _ h.zn).trans k), ⟨h.bl.os, h.bl.tape, h.bl.output, by simpa [World.setRow] using h.bl.size, fun k hk => (setRow_other V r k _ (by have := h.rb; omega)).trans (h.bl.block k hk)⟩, h.qr, h.zn, h.rb⟩
end
def svL (N : Nat) : List Value := [.int .u32 (wd N 0 : Nat), .int .u32 (wd N 1 : Nat), .int .u32 (wd N 2 : Nat), .int .u32 (wd N 3 : Nat)]
theorem svL_one (N : Nat) : ∀ v ∈ svL N, v.oneCell' = true := by
 intro v hv
 simp only [svL, List.mem_cons, List.not_mem_nil, or_false] at hv
 rcases hv with h | h | h | h <;> subst h <;> rfl
theorem info_st : (Try.prog.info? 32).map (·.size) = some 4 := by kernel_rfl
theorem wdz (j : Nat) : ((wd 0 j : Nat) : Int) = 0 := by rw [wd_zero]; rfl
theorem info_ev : (Try.prog.info? 34).map (·.size) = some 15 := by kernel_rfl
theorem retE {f : Func} {p : Tmp} {R : Ending → World → Prop} {a : Act} {w : World} {b : Nat} {e : Ev} (hres : f.results = #[.cell p 34]) (hp : a.tmps.getD p undef = .pointer (some ⟨b, 0, none⟩)) (hd : a.defers = []) (h : w.heap[b]? = some (.cells (ecA e) 34 (0, 0))) (hR : R (.returned (evV e)) w) : bodyPost Try.prog f R .ret a w :=
 bodyPost_ret (results_cell_row hres a.tmps w b _ _ (0, 0) _ hp h Try.underlying34 rfl (by kernel_rfl)) hd hR
theorem JX.zz {w V : World} {q r z : Nat} {x e2 : Ev} (h : JX w q r z x e2 V) (hz : z ≠ q) : V.heap[z]? = some (.cells (ecA e0).toList.toArray 34 (0, 0)) := h.zr.resolve_left hz
theorem JX.fin {w V : World} {q r z : Nat} {x e2 : Ev} (h : JX w q r z x e2 V) (hz : z ≠ q) (hzb : w.heap.size ≤ z) : (V.setRow z (splice (ecA e0).toList 0 (ecA e2).toList).toArray).heap[z]? = some (.cells (ecA e2) 34 (0, 0)) ∧ Below w.heap.size w (V.setRow z (splice (ecA e0).toList 0 (ecA e2).toList).toArray) :=
 ⟨(setRow_heap V z _ _ _ _ (h.zz hz)).trans rfl, ⟨h.bl.os, h.bl.tape, h.bl.output, by simpa [World.setRow] using h.bl.size, fun k hk => (setRow_other V z k _ (by omega)).trans (h.bl.block k hk)⟩⟩
theorem bare_1 (nd li ro ta of du : Int) (he un : Nat) (w : World) : Calls Try.prog 29 #[evV ⟨1, nd, li, ro, ta, of, du, he, un⟩] w fun e w' => e = .returned (evV (bareE ⟨1, nd, li, ro, ta, of, du, he, un⟩)) ∧ Below w.heap.size w w' := by
 have hmx : Try.prog.follows .mixedOrders = true := by kernel_rfl
 have hJ0 : JX w (w.heap.size) (w.heap.size + 1 + 1) (w.heap.size + 1) ⟨1, nd, li, ro, ta, of, du, he, un⟩ ⟨1, nd, li, 0, 0, 0, 0, 0, 0⟩ (((w.alloc (.cells (ecA ⟨1, nd, li, ro, ta, of, du, he, un⟩) 34)).alloc (.cells (ecA e0) 34)).alloc (.cells (ecA ⟨1, nd, li, 0, 0, 0, 0, 0, 0⟩) 34)) := ⟨zoa (zoa (zna rfl)), zna (by simp), .inr (zoa (zna (by simp))), (((Below.refl _ w).alloc (Nat.le_refl _) _).alloc (by simp) _).alloc (by simp; omega) _, by omega, by omega, by omega⟩
 simp only [ecA, e0, wdz] at hJ0
 obtain ⟨y, hy⟩ : ∃ y, y = evV (bareE ⟨1, nd, li, ro, ta, of, du, he, un⟩) := ⟨_, rfl⟩
 rw [← hy]
 unfold evV ecA
 go_enter Try.func29, Try.ntmps29
 go_wp2
 refine wp_region_any hmx ?_
 refine zwt (G := Unit) (fun g i__ => ([(.pointer (some ⟨w.heap.size, 3, none⟩)), (.int .i64 ro), (.pointer (some ⟨w.heap.size, 4, none⟩)), (.int .i64 ta), (.pointer (some ⟨w.heap.size + 1 + 1, 3, none⟩)), undef, (.pointer (some ⟨w.heap.size + 1 + 1, 4, none⟩)), undef] : List Value).getD i__ undef) (fun g d V => ∃ e2 : Ev, e2 = ⟨1, nd, li, if d 5 = true then ro else 0, if d 7 = true then ta else 0, 0, 0, 0, 0⟩ ∧ JX w (w.heap.size) (w.heap.size + 1 + 1) (w.heap.size + 1) ⟨1, nd, li, ro, ta, of, du, he, un⟩ e2 V) (by kernel_rfl) (()) ⟨⟨1, nd, li, 0, 0, 0, 0, 0, 0⟩, by simp, hJ0.carry (Below.refl _ _).drew⟩ ?step1 ?fin1
 case step1 =>
  intro i o ho
  have hi : i < 8 := getElem?_lt ho
  match i, hi, ho with
  | 0, _, ho => cases ho; exact zgo fun g d hdep => zfa rfl trivial _ _ _ _ rfl rfl (fun w hw => faE3 w _ _)
  | 1, _, ho => cases ho; exact zgo fun g d hdep => zld rfl trivial _ _ _ rfl rfl (fun w hw => by obtain ⟨e2, he2, hw⟩ := hw; exact load_in ((zca hw.bx 3).trans rfl))
  | 2, _, ho => cases ho; exact zgo fun g d hdep => zfa rfl trivial _ _ _ _ rfl rfl (fun w hw => faE4 w _ _)
  | 3, _, ho => cases ho; exact zgo fun g d hdep => zld rfl trivial _ _ _ rfl rfl (fun w hw => by obtain ⟨e2, he2, hw⟩ := hw; exact load_in ((zca hw.bx 4).trans rfl))
  | 4, _, ho => cases ho; exact zgo fun g d hdep => zfa rfl trivial _ _ _ _ rfl rfl (fun w hw => faE3 w _ _)
  | 5, _, ho => cases ho; exact stepG_store rfl rfl rfl _ _ _ (fun g => .pointer (some ⟨w.heap.size + 1 + 1, 3, none⟩)) (fun g => .int .i64 ro) rfl (fun g => by kernel_rfl) (fun g => by kernel_rfl) (fun g d V hJ hun hdep => by obtain ⟨e2, he2, hJ'⟩ := hJ; refine ⟨_, st_in (z := e2.ro) ((zca hJ'.tg 3).trans rfl) (zta hJ'.tg 3), { e2 with ro := ro }, ?_, hJ'.put 3 _ _ rfl⟩; rw [he2]; simp)
  | 6, _, ho => cases ho; exact zgo fun g d hdep => zfa rfl trivial _ _ _ _ rfl rfl (fun w hw => faE4 w _ _)
  | 7, _, ho => cases ho; exact stepG_store rfl rfl rfl _ _ _ (fun g => .pointer (some ⟨w.heap.size + 1 + 1, 4, none⟩)) (fun g => .int .i64 ta) rfl (fun g => by kernel_rfl) (fun g => by kernel_rfl) (fun g d V hJ hun hdep => by obtain ⟨e2, he2, hJ'⟩ := hJ; refine ⟨_, st_in (z := e2.ta) ((zca hJ'.tg 4).trans rfl) (zta hJ'.tg 4), { e2 with ta := ta }, ?_, hJ'.put 4 _ _ rfl⟩; rw [he2]; simp)
 intro g d W hall hW
 first | refine hK _ _ ?_ | refine (‹∀ (a : Act) (w : World), Code.wp Try.prog _ _ a w → _›) _ _ ?_ | skip
 simp only [finL, List.getD_cons_zero, List.getD_cons_succ, Nat.zero_add, Nat.reduceAdd, List.setIfInBounds_toArray, List.set_cons_zero, List.set_cons_succ]
 rw [hall 5 (by decide), hall 7 (by decide)] at hW
 obtain ⟨e2, he2, hJ2⟩ := hW
 simp only [if_true] at he2
 have HE : Hid (e2 = _) := he2
 clear hall hJ0 he2
 obtain ⟨i0, i1, i2, i3, i4, i5, i6⟩ := bx_ints hJ2.tg
 obtain ⟨e7, e8, e9, e10, e11, e12, e13, e14⟩ := bx_sets hJ2.tg
 go_wp2_with (refine wpList_store_in rfl 34 (.tmp 2) (.tmp 56) rfl (w.heap.size + 1) 0 34 (ecA e0).toList (ecA e2).toList rfl rfl (hJ2.zz (by omega)) info_ev (Nat.le_refl 15) (ec_ones _) ?_)
 exact retE rfl rfl rfl (hJ2.fin (by omega) (by omega)).1 ⟨by rw [hy, HE.out]; simp [bareE], (hJ2.fin (by omega) (by omega)).2⟩
theorem bare_2 (nd li ro ta of du : Int) (he un : Nat) (w : World) : Calls Try.prog 29 #[evV ⟨2, nd, li, ro, ta, of, du, he, un⟩] w fun e w' => e = .returned (evV (bareE ⟨2, nd, li, ro, ta, of, du, he, un⟩)) ∧ Below w.heap.size w w' := by
 have hmx : Try.prog.follows .mixedOrders = true := by kernel_rfl
 have hJ0 : JX w (w.heap.size) (w.heap.size + 1 + 1) (w.heap.size + 1) ⟨2, nd, li, ro, ta, of, du, he, un⟩ ⟨2, nd, li, 0, 0, 0, 0, 0, 0⟩ (((w.alloc (.cells (ecA ⟨2, nd, li, ro, ta, of, du, he, un⟩) 34)).alloc (.cells (ecA e0) 34)).alloc (.cells (ecA ⟨2, nd, li, 0, 0, 0, 0, 0, 0⟩) 34)) := ⟨zoa (zoa (zna rfl)), zna (by simp), .inr (zoa (zna (by simp))), (((Below.refl _ w).alloc (Nat.le_refl _) _).alloc (by simp) _).alloc (by simp; omega) _, by omega, by omega, by omega⟩
 simp only [ecA, e0, wdz] at hJ0
 obtain ⟨y, hy⟩ : ∃ y, y = evV (bareE ⟨2, nd, li, ro, ta, of, du, he, un⟩) := ⟨_, rfl⟩
 rw [← hy]
 unfold evV ecA
 go_enter Try.func29, Try.ntmps29
 clear hJ0
 go_wp2
 refine retE (e := ⟨2, nd, li, ro, 0, 0, 0, 0, 0⟩) rfl rfl rfl ?_ ⟨by rw [hy]; simp [bareE], (((Below.refl _ w).alloc (Nat.le_refl _) _).alloc (by simp) _).alloc (by simp; omega) _⟩
 simp only [ecA, wdz]
 exact zoa (zna (by simp))
theorem bare_3 (nd li ro ta of du : Int) (he un : Nat) (w : World) : Calls Try.prog 29 #[evV ⟨3, nd, li, ro, ta, of, du, he, un⟩] w fun e w' => e = .returned (evV (bareE ⟨3, nd, li, ro, ta, of, du, he, un⟩)) ∧ Below w.heap.size w w' := by
 have hmx : Try.prog.follows .mixedOrders = true := by kernel_rfl
 have hJ0 : JX w (w.heap.size) (w.heap.size + 1 + 1) (w.heap.size + 1) ⟨3, nd, li, ro, ta, of, du, he, un⟩ ⟨3, nd, li, 0, 0, 0, 0, 0, 0⟩ (((w.alloc (.cells (ecA ⟨3, nd, li, ro, ta, of, du, he, un⟩) 34)).alloc (.cells (ecA e0) 34)).alloc (.cells (ecA ⟨3, nd, li, 0, 0, 0, 0, 0, 0⟩) 34)) := ⟨zoa (zoa (zna rfl)), zna (by simp), .inr (zoa (zna (by simp))), (((Below.refl _ w).alloc (Nat.le_refl _) _).alloc (by simp) _).alloc (by simp; omega) _, by omega, by omega, by omega⟩
 simp only [ecA, e0, wdz] at hJ0
 obtain ⟨y, hy⟩ : ∃ y, y = evV (bareE ⟨3, nd, li, ro, ta, of, du, he, un⟩) := ⟨_, rfl⟩
 rw [← hy]
 unfold evV ecA
 go_enter Try.func29, Try.ntmps29
 go_wp2
 refine wp_region_any hmx ?_
 refine zwt (G := Unit) (fun g i__ => ([(.pointer (some ⟨w.heap.size, 3, none⟩)), (.int .i64 ro), (.pointer (some ⟨w.heap.size, 7, none⟩)), (sv he), (.pointer (some ⟨w.heap.size, 11, none⟩)), (sv un), (.pointer (some ⟨w.heap.size + 1 + 1, 3, none⟩)), undef, (.pointer (some ⟨w.heap.size + 1 + 1, 7, none⟩)), undef, (.pointer (some ⟨w.heap.size + 1 + 1, 11, none⟩)), undef] : List Value).getD i__ undef) (fun g d V => ∃ e2 : Ev, e2 = ⟨3, nd, li, if d 7 = true then ro else 0, 0, 0, 0, if d 9 = true then he else 0, if d 11 = true then un else 0⟩ ∧ JX w (w.heap.size) (w.heap.size + 1 + 1) (w.heap.size + 1) ⟨3, nd, li, ro, ta, of, du, he, un⟩ e2 V) (by kernel_rfl) (()) ⟨⟨3, nd, li, 0, 0, 0, 0, 0, 0⟩, by simp, hJ0.carry (Below.refl _ _).drew⟩ ?step2 ?fin2
 case step2 =>
  intro i o ho
  have hi : i < 12 := getElem?_lt ho
  match i, hi, ho with
  | 0, _, ho => cases ho; exact zgo fun g d hdep => zfa rfl trivial _ _ _ _ rfl rfl (fun w hw => faE3 w _ _)
  | 1, _, ho => cases ho; exact zgo fun g d hdep => zld rfl trivial _ _ _ rfl rfl (fun w hw => by obtain ⟨e2, he2, hw⟩ := hw; exact load_in ((zca hw.bx 3).trans rfl))
  | 2, _, ho => cases ho; exact zgo fun g d hdep => zfa rfl trivial _ _ _ _ rfl rfl (fun w hw => faE7 w _ _)
  | 3, _, ho => cases ho; exact zgo fun g d hdep => zld rfl trivial _ _ _ rfl rfl (fun w hw => by obtain ⟨e2, he2, hw⟩ := hw; exact load_se (N := he) ((zca hw.bx 7).trans rfl) ((zca hw.bx 8).trans rfl) ((zca hw.bx 9).trans rfl) ((zca hw.bx 10).trans rfl))
  | 4, _, ho => cases ho; exact zgo fun g d hdep => zfa rfl trivial _ _ _ _ rfl rfl (fun w hw => faE8 w _ _)
  | 5, _, ho => cases ho; exact zgo fun g d hdep => zld rfl trivial _ _ _ rfl rfl (fun w hw => by obtain ⟨e2, he2, hw⟩ := hw; exact load_se (N := un) ((zca hw.bx 11).trans rfl) ((zca hw.bx 12).trans rfl) ((zca hw.bx 13).trans rfl) ((zca hw.bx 14).trans rfl))
  | 6, _, ho => cases ho; exact zgo fun g d hdep => zfa rfl trivial _ _ _ _ rfl rfl (fun w hw => faE3 w _ _)
  | 7, _, ho => cases ho; exact stepG_store rfl rfl rfl _ _ _ (fun g => .pointer (some ⟨w.heap.size + 1 + 1, 3, none⟩)) (fun g => .int .i64 ro) rfl (fun g => by kernel_rfl) (fun g => by kernel_rfl) (fun g d V hJ hun hdep => by obtain ⟨e2, he2, hJ'⟩ := hJ; refine ⟨_, st_in (z := e2.ro) ((zca hJ'.tg 3).trans rfl) (zta hJ'.tg 3), { e2 with ro := ro }, ?_, hJ'.put 3 _ _ rfl⟩; rw [he2]; simp)
  | 8, _, ho => cases ho; exact zgo fun g d hdep => zfa rfl trivial _ _ _ _ rfl rfl (fun w hw => faE7 w _ _)
  | 9, _, ho => cases ho; exact stepG_store rfl rfl rfl _ _ _ (fun g => .pointer (some ⟨w.heap.size + 1 + 1, 7, none⟩)) (fun g => sv he) rfl (fun g => by kernel_rfl) (fun g => by kernel_rfl) (fun g d V hJ hun hdep => by obtain ⟨e2, he2, hJ'⟩ := hJ; refine ⟨_, run_store_in V (w.heap.size + 1 + 1) 7 34 32 (ecA e2).toList (svL he) hJ'.tg info_st (Nat.le_of_ble_eq_true rfl) (svL_one _), { e2 with he := he }, ?_, hJ'.puts 7 _ _ rfl⟩; rw [he2]; simp)
  | 10, _, ho => cases ho; exact zgo fun g d hdep => zfa rfl trivial _ _ _ _ rfl rfl (fun w hw => faE8 w _ _)
  | 11, _, ho => cases ho; exact stepG_store rfl rfl rfl _ _ _ (fun g => .pointer (some ⟨w.heap.size + 1 + 1, 11, none⟩)) (fun g => sv un) rfl (fun g => by kernel_rfl) (fun g => by kernel_rfl) (fun g d V hJ hun hdep => by obtain ⟨e2, he2, hJ'⟩ := hJ; refine ⟨_, run_store_in V (w.heap.size + 1 + 1) 11 34 32 (ecA e2).toList (svL un) hJ'.tg info_st (Nat.le_of_ble_eq_true rfl) (svL_one _), { e2 with un := un }, ?_, hJ'.puts 11 _ _ rfl⟩; rw [he2]; simp)
 intro g d W hall hW
 first | refine hK _ _ ?_ | refine (‹∀ (a : Act) (w : World), Code.wp Try.prog _ _ a w → _›) _ _ ?_ | skip
 simp only [finL, List.getD_cons_zero, List.getD_cons_succ, Nat.zero_add, Nat.reduceAdd, List.setIfInBounds_toArray, List.set_cons_zero, List.set_cons_succ]
 rw [hall 7 (by decide), hall 9 (by decide), hall 11 (by decide)] at hW
 obtain ⟨e2, he2, hJ2⟩ := hW
 simp only [if_true] at he2
 have HE : Hid (e2 = _) := he2
 clear hall hJ0 he2
 obtain ⟨i0, i1, i2, i3, i4, i5, i6⟩ := bx_ints hJ2.tg
 obtain ⟨e7, e8, e9, e10, e11, e12, e13, e14⟩ := bx_sets hJ2.tg
 go_wp2_with (refine wpList_store_in rfl 34 (.tmp 2) (.tmp 56) rfl (w.heap.size + 1) 0 34 (ecA e0).toList (ecA e2).toList rfl rfl (hJ2.zz (by omega)) info_ev (Nat.le_refl 15) (ec_ones _) ?_)
 exact retE rfl rfl rfl (hJ2.fin (by omega) (by omega)).1 ⟨by rw [hy, HE.out]; simp [bareE], (hJ2.fin (by omega) (by omega)).2⟩
theorem bare_4 (nd li ro ta of du : Int) (he un : Nat) (w : World) : Calls Try.prog 29 #[evV ⟨4, nd, li, ro, ta, of, du, he, un⟩] w fun e w' => e = .returned (evV (bareE ⟨4, nd, li, ro, ta, of, du, he, un⟩)) ∧ Below w.heap.size w w' := by
 have hmx : Try.prog.follows .mixedOrders = true := by kernel_rfl
 have hJ0 : JX w (w.heap.size) (w.heap.size + 1 + 1) (w.heap.size + 1) ⟨4, nd, li, ro, ta, of, du, he, un⟩ ⟨4, nd, li, 0, 0, 0, 0, 0, 0⟩ (((w.alloc (.cells (ecA ⟨4, nd, li, ro, ta, of, du, he, un⟩) 34)).alloc (.cells (ecA e0) 34)).alloc (.cells (ecA ⟨4, nd, li, 0, 0, 0, 0, 0, 0⟩) 34)) := ⟨zoa (zoa (zna rfl)), zna (by simp), .inr (zoa (zna (by simp))), (((Below.refl _ w).alloc (Nat.le_refl _) _).alloc (by simp) _).alloc (by simp; omega) _, by omega, by omega, by omega⟩
 simp only [ecA, e0, wdz] at hJ0
 obtain ⟨y, hy⟩ : ∃ y, y = evV (bareE ⟨4, nd, li, ro, ta, of, du, he, un⟩) := ⟨_, rfl⟩
 rw [← hy]
 unfold evV ecA
 go_enter Try.func29, Try.ntmps29
 go_wp2
 refine wp_region_any hmx ?_
 refine zwt (G := Unit) (fun g i__ => ([(.pointer (some ⟨w.heap.size, 5, none⟩)), (.int .i64 of), (.pointer (some ⟨w.heap.size, 4, none⟩)), (.int .i64 ta), (.pointer (some ⟨w.heap.size, 3, none⟩)), (.int .i64 ro), (.pointer (some ⟨w.heap.size + 1 + 1, 5, none⟩)), undef, (.pointer (some ⟨w.heap.size + 1 + 1, 4, none⟩)), undef, (.pointer (some ⟨w.heap.size + 1 + 1, 3, none⟩)), undef] : List Value).getD i__ undef) (fun g d V => ∃ e2 : Ev, e2 = ⟨4, nd, li, if d 11 = true then ro else 0, if d 9 = true then ta else 0, if d 7 = true then of else 0, 0, 0, 0⟩ ∧ JX w (w.heap.size) (w.heap.size + 1 + 1) (w.heap.size + 1) ⟨4, nd, li, ro, ta, of, du, he, un⟩ e2 V) (by kernel_rfl) (()) ⟨⟨4, nd, li, 0, 0, 0, 0, 0, 0⟩, by simp, hJ0.carry (Below.refl _ _).drew⟩ ?step3 ?fin3
 case step3 =>
  intro i o ho
  have hi : i < 12 := getElem?_lt ho
  match i, hi, ho with
  | 0, _, ho => cases ho; exact zgo fun g d hdep => zfa rfl trivial _ _ _ _ rfl rfl (fun w hw => faE5 w _ _)
  | 1, _, ho => cases ho; exact zgo fun g d hdep => zld rfl trivial _ _ _ rfl rfl (fun w hw => by obtain ⟨e2, he2, hw⟩ := hw; exact load_in ((zca hw.bx 5).trans rfl))
  | 2, _, ho => cases ho; exact zgo fun g d hdep => zfa rfl trivial _ _ _ _ rfl rfl (fun w hw => faE4 w _ _)
  | 3, _, ho => cases ho; exact zgo fun g d hdep => zld rfl trivial _ _ _ rfl rfl (fun w hw => by obtain ⟨e2, he2, hw⟩ := hw; exact load_in ((zca hw.bx 4).trans rfl))
  | 4, _, ho => cases ho; exact zgo fun g d hdep => zfa rfl trivial _ _ _ _ rfl rfl (fun w hw => faE3 w _ _)
  | 5, _, ho => cases ho; exact zgo fun g d hdep => zld rfl trivial _ _ _ rfl rfl (fun w hw => by obtain ⟨e2, he2, hw⟩ := hw; exact load_in ((zca hw.bx 3).trans rfl))
  | 6, _, ho => cases ho; exact zgo fun g d hdep => zfa rfl trivial _ _ _ _ rfl rfl (fun w hw => faE5 w _ _)
  | 7, _, ho => cases ho; exact stepG_store rfl rfl rfl _ _ _ (fun g => .pointer (some ⟨w.heap.size + 1 + 1, 5, none⟩)) (fun g => .int .i64 of) rfl (fun g => by kernel_rfl) (fun g => by kernel_rfl) (fun g d V hJ hun hdep => by obtain ⟨e2, he2, hJ'⟩ := hJ; refine ⟨_, st_in (z := e2.of) ((zca hJ'.tg 5).trans rfl) (zta hJ'.tg 5), { e2 with of := of }, ?_, hJ'.put 5 _ _ rfl⟩; rw [he2]; simp)
  | 8, _, ho => cases ho; exact zgo fun g d hdep => zfa rfl trivial _ _ _ _ rfl rfl (fun w hw => faE4 w _ _)
  | 9, _, ho => cases ho; exact stepG_store rfl rfl rfl _ _ _ (fun g => .pointer (some ⟨w.heap.size + 1 + 1, 4, none⟩)) (fun g => .int .i64 ta) rfl (fun g => by kernel_rfl) (fun g => by kernel_rfl) (fun g d V hJ hun hdep => by obtain ⟨e2, he2, hJ'⟩ := hJ; refine ⟨_, st_in (z := e2.ta) ((zca hJ'.tg 4).trans rfl) (zta hJ'.tg 4), { e2 with ta := ta }, ?_, hJ'.put 4 _ _ rfl⟩; rw [he2]; simp)
  | 10, _, ho => cases ho; exact zgo fun g d hdep => zfa rfl trivial _ _ _ _ rfl rfl (fun w hw => faE3 w _ _)
  | 11, _, ho => cases ho; exact stepG_store rfl rfl rfl _ _ _ (fun g => .pointer (some ⟨w.heap.size + 1 + 1, 3, none⟩)) (fun g => .int .i64 ro) rfl (fun g => by kernel_rfl) (fun g => by kernel_rfl) (fun g d V hJ hun hdep => by obtain ⟨e2, he2, hJ'⟩ := hJ; refine ⟨_, st_in (z := e2.ro) ((zca hJ'.tg 3).trans rfl) (zta hJ'.tg 3), { e2 with ro := ro }, ?_, hJ'.put 3 _ _ rfl⟩; rw [he2]; simp)
 intro g d W hall hW
 first | refine hK _ _ ?_ | refine (‹∀ (a : Act) (w : World), Code.wp Try.prog _ _ a w → _›) _ _ ?_ | skip
 simp only [finL, List.getD_cons_zero, List.getD_cons_succ, Nat.zero_add, Nat.reduceAdd, List.setIfInBounds_toArray, List.set_cons_zero, List.set_cons_succ]
 rw [hall 7 (by decide), hall 9 (by decide), hall 11 (by decide)] at hW
 obtain ⟨e2, he2, hJ2⟩ := hW
 simp only [if_true] at he2
 have HE : Hid (e2 = _) := he2
 clear hall hJ0 he2
 obtain ⟨i0, i1, i2, i3, i4, i5, i6⟩ := bx_ints hJ2.tg
 obtain ⟨e7, e8, e9, e10, e11, e12, e13, e14⟩ := bx_sets hJ2.tg
 go_wp2_with (refine wpList_store_in rfl 34 (.tmp 2) (.tmp 56) rfl (w.heap.size + 1) 0 34 (ecA e0).toList (ecA e2).toList rfl rfl (hJ2.zz (by omega)) info_ev (Nat.le_refl 15) (ec_ones _) ?_)
 exact retE rfl rfl rfl (hJ2.fin (by omega) (by omega)).1 ⟨by rw [hy, HE.out]; simp [bareE], (hJ2.fin (by omega) (by omega)).2⟩
theorem bare_5 (nd li ro ta of du : Int) (he un : Nat) (w : World) : Calls Try.prog 29 #[evV ⟨5, nd, li, ro, ta, of, du, he, un⟩] w fun e w' => e = .returned (evV (bareE ⟨5, nd, li, ro, ta, of, du, he, un⟩)) ∧ Below w.heap.size w w' := by
 have hmx : Try.prog.follows .mixedOrders = true := by kernel_rfl
 have hJ0 : JX w (w.heap.size) (w.heap.size + 1 + 1) (w.heap.size + 1) ⟨5, nd, li, ro, ta, of, du, he, un⟩ ⟨5, nd, li, 0, 0, 0, 0, 0, 0⟩ (((w.alloc (.cells (ecA ⟨5, nd, li, ro, ta, of, du, he, un⟩) 34)).alloc (.cells (ecA e0) 34)).alloc (.cells (ecA ⟨5, nd, li, 0, 0, 0, 0, 0, 0⟩) 34)) := ⟨zoa (zoa (zna rfl)), zna (by simp), .inr (zoa (zna (by simp))), (((Below.refl _ w).alloc (Nat.le_refl _) _).alloc (by simp) _).alloc (by simp; omega) _, by omega, by omega, by omega⟩
 simp only [ecA, e0, wdz] at hJ0
 obtain ⟨y, hy⟩ : ∃ y, y = evV (bareE ⟨5, nd, li, ro, ta, of, du, he, un⟩) := ⟨_, rfl⟩
 rw [← hy]
 unfold evV ecA
 go_enter Try.func29, Try.ntmps29
 go_wp2
 refine wp_region_any hmx ?_
 refine zwt (G := Unit) (fun g i__ => ([(.pointer (some ⟨w.heap.size, 4, none⟩)), (.int .i64 ta), (.pointer (some ⟨w.heap.size, 6, none⟩)), (.int .i64 du), (.pointer (some ⟨w.heap.size + 1 + 1, 4, none⟩)), undef, (.pointer (some ⟨w.heap.size + 1 + 1, 6, none⟩)), undef] : List Value).getD i__ undef) (fun g d V => ∃ e2 : Ev, e2 = ⟨5, nd, li, 0, if d 5 = true then ta else 0, 0, if d 7 = true then du else 0, 0, 0⟩ ∧ JX w (w.heap.size) (w.heap.size + 1 + 1) (w.heap.size + 1) ⟨5, nd, li, ro, ta, of, du, he, un⟩ e2 V) (by kernel_rfl) (()) ⟨⟨5, nd, li, 0, 0, 0, 0, 0, 0⟩, by simp, hJ0.carry (Below.refl _ _).drew⟩ ?step4 ?fin4
 case step4 =>
  intro i o ho
  have hi : i < 8 := getElem?_lt ho
  match i, hi, ho with
  | 0, _, ho => cases ho; exact zgo fun g d hdep => zfa rfl trivial _ _ _ _ rfl rfl (fun w hw => faE4 w _ _)
  | 1, _, ho => cases ho; exact zgo fun g d hdep => zld rfl trivial _ _ _ rfl rfl (fun w hw => by obtain ⟨e2, he2, hw⟩ := hw; exact load_in ((zca hw.bx 4).trans rfl))
  | 2, _, ho => cases ho; exact zgo fun g d hdep => zfa rfl trivial _ _ _ _ rfl rfl (fun w hw => faE6 w _ _)
  | 3, _, ho => cases ho; exact zgo fun g d hdep => zld rfl trivial _ _ _ rfl rfl (fun w hw => by obtain ⟨e2, he2, hw⟩ := hw; exact load_in ((zca hw.bx 6).trans rfl))
  | 4, _, ho => cases ho; exact zgo fun g d hdep => zfa rfl trivial _ _ _ _ rfl rfl (fun w hw => faE4 w _ _)
  | 5, _, ho => cases ho; exact stepG_store rfl rfl rfl _ _ _ (fun g => .pointer (some ⟨w.heap.size + 1 + 1, 4, none⟩)) (fun g => .int .i64 ta) rfl (fun g => by kernel_rfl) (fun g => by kernel_rfl) (fun g d V hJ hun hdep => by obtain ⟨e2, he2, hJ'⟩ := hJ; refine ⟨_, st_in (z := e2.ta) ((zca hJ'.tg 4).trans rfl) (zta hJ'.tg 4), { e2 with ta := ta }, ?_, hJ'.put 4 _ _ rfl⟩; rw [he2]; simp)
  | 6, _, ho => cases ho; exact zgo fun g d hdep => zfa rfl trivial _ _ _ _ rfl rfl (fun w hw => faE6 w _ _)
  | 7, _, ho => cases ho; exact stepG_store rfl rfl rfl _ _ _ (fun g => .pointer (some ⟨w.heap.size + 1 + 1, 6, none⟩)) (fun g => .int .i64 du) rfl (fun g => by kernel_rfl) (fun g => by kernel_rfl) (fun g d V hJ hun hdep => by obtain ⟨e2, he2, hJ'⟩ := hJ; refine ⟨_, st_in (z := e2.du) ((zca hJ'.tg 6).trans rfl) (zta hJ'.tg 6), { e2 with du := du }, ?_, hJ'.put 6 _ _ rfl⟩; rw [he2]; simp)
 intro g d W hall hW
 first | refine hK _ _ ?_ | refine (‹∀ (a : Act) (w : World), Code.wp Try.prog _ _ a w → _›) _ _ ?_ | skip
 simp only [finL, List.getD_cons_zero, List.getD_cons_succ, Nat.zero_add, Nat.reduceAdd, List.setIfInBounds_toArray, List.set_cons_zero, List.set_cons_succ]
 rw [hall 5 (by decide), hall 7 (by decide)] at hW
 obtain ⟨e2, he2, hJ2⟩ := hW
 simp only [if_true] at he2
 have HE : Hid (e2 = _) := he2
 clear hall hJ0 he2
 obtain ⟨i0, i1, i2, i3, i4, i5, i6⟩ := bx_ints hJ2.tg
 obtain ⟨e7, e8, e9, e10, e11, e12, e13, e14⟩ := bx_sets hJ2.tg
 go_wp2_with (refine wpList_store_in rfl 34 (.tmp 2) (.tmp 56) rfl (w.heap.size + 1) 0 34 (ecA e0).toList (ecA e2).toList rfl rfl (hJ2.zz (by omega)) info_ev (Nat.le_refl 15) (ec_ones _) ?_)
 exact retE rfl rfl rfl (hJ2.fin (by omega) (by omega)).1 ⟨by rw [hy, HE.out]; simp [bareE], (hJ2.fin (by omega) (by omega)).2⟩
theorem bare_0 (k : Int) (k1 : ¬ k = 1) (k2 : ¬ k = 2) (k3 : ¬ k = 3) (k4 : ¬ k = 4) (k5 : ¬ k = 5) (nd li ro ta of du : Int) (he un : Nat) (w : World) : Calls Try.prog 29 #[evV ⟨k, nd, li, ro, ta, of, du, he, un⟩] w fun e w' => e = .returned (evV (bareE ⟨k, nd, li, ro, ta, of, du, he, un⟩)) ∧ Below w.heap.size w w' := by
 have hmx : Try.prog.follows .mixedOrders = true := by kernel_rfl
 have hJ0 : JX w (w.heap.size) (w.heap.size + 1 + 1) (w.heap.size + 1) ⟨k, nd, li, ro, ta, of, du, he, un⟩ ⟨k, nd, li, 0, 0, 0, 0, 0, 0⟩ (((w.alloc (.cells (ecA ⟨k, nd, li, ro, ta, of, du, he, un⟩) 34)).alloc (.cells (ecA e0) 34)).alloc (.cells (ecA ⟨k, nd, li, 0, 0, 0, 0, 0, 0⟩) 34)) := ⟨zoa (zoa (zna rfl)), zna (by simp), .inr (zoa (zna (by simp))), (((Below.refl _ w).alloc (Nat.le_refl _) _).alloc (by simp) _).alloc (by simp; omega) _, by omega, by omega, by omega⟩
 simp only [ecA, e0, wdz] at hJ0
 obtain ⟨y, hy⟩ : ∃ y, y = evV (bareE ⟨k, nd, li, ro, ta, of, du, he, un⟩) := ⟨_, rfl⟩
 rw [← hy]
 unfold evV ecA
 go_enter Try.func29, Try.ntmps29
 clear hJ0
 go_wp2
 refine retE (e := ⟨k, nd, li, 0, 0, 0, 0, 0, 0⟩) rfl rfl rfl ?_ ⟨by rw [hy]; simp [bareE, k1, k2, k3, k4, k5], (((Below.refl _ w).alloc (Nat.le_refl _) _).alloc (by simp) _).alloc (by simp; omega) _⟩
 simp only [ecA, wdz]
 exact zoa (zna (by simp))
theorem bare_any (x : Ev) (w : World) : Calls Try.prog 29 #[evV x] w fun e w' => e = .returned (evV (bareE x)) ∧ Below w.heap.size w w' := by
 obtain ⟨k, nd, li, ro, ta, of, du, he, un⟩ := x
 by_cases k1 : k = 1
 · subst k1; exact bare_1 nd li ro ta of du he un w
 by_cases k2 : k = 2
 · subst k2; exact bare_2 nd li ro ta of du he un w
 by_cases k3 : k = 3
 · subst k3; exact bare_3 nd li ro ta of du he un w
 by_cases k4 : k = 4
 · subst k4; exact bare_4 nd li ro ta of du he un w
 by_cases k5 : k = 5
 · subst k5; exact bare_5 nd li ro ta of du he un w
 exact bare_0 k k1 k2 k3 k4 k5 nd li ro ta of du he un w
end Go.Proofs.Ytifcnnonnocmmaa
namespace Go.Proofs.Ytifcnnonnocmmaa
open Go.RowKit Go.Shelf Go.Lib
attribute [local go_sem] Oper.semAt_some
def fol (s : Hs) (x : Ev) : Bool := if decide (s.c.k = 3) then (x.nd == s.c.nd) && ((x.k == 4) || (x.k == 2)) else x.k != 4
theorem follows_any {w : World} {p b : Nat} {need pl : Int} {s : Hs} (h : He w p b need pl s) (x : Ev) : Calls Try.prog 30 #[.pointer (some ⟨p, 0, none⟩), evV x] w fun e w' => e = .returned (.bool (fol s x)) ∧ Below w.heap.size w w' := by
 have hmx : Try.prog.follows .mixedOrders = true := by kernel_rfl
 have hJ0 := JB.new h x
 have hb0 := al1' w (.cells (ecA x) 34)
 have hir := inRow_any hJ0.he
 unfold ecA at hir
 unfold evV ecA
 cases hr : decide (s.c.k = 3) with
 | false =>
  rw [hr] at hir
  go_enter Try.func30, Try.ntmps30
  go_wp2_with (go_at_call 34; (with_reducible refine hir.mono ?_); rintro e u1 ⟨rfl, hu1⟩; rw [hu1]; clear hu1 u1)
  go_ret
  exact ⟨by simp [fol, hr, bne], hb0⟩
 | true =>
  rw [hr] at hir
  go_enter Try.func30, Try.ntmps30
  go_wp2_with (go_at_call 34; (with_reducible refine hir.mono ?_); rintro e u1 ⟨rfl, hu1⟩; rw [hu1]; clear hu1 u1)
  rename_i hK
  cases h1 : (x.nd == s.c.nd) with
  | false =>
   refine wp_region_any hmx ?_
   refine zwp (fun i__ => ([(.pointer (some ⟨w.heap.size, 1, none⟩)), (.int .i64 x.nd), (.pointer (some ⟨p, 0, none⟩)), (.pointer (some ⟨p, 0, none⟩)), (.pointer (some ⟨p, 3, none⟩)), (.pointer (some ⟨p, 3, none⟩)), (.pointer (some ⟨p, 4, none⟩)), (.int .i64 s.c.nd), (.bool false), (.bool false), undef, undef, undef, undef, undef, undef, undef, undef, (.bool false), (.bool false)] : List Value).getD i__ undef) (fun V => JB w p b w.heap.size need pl s x V ∧ Below w.heap.size w V) (by kernel_rfl) ⟨hJ0.carry (Below.refl _ _).drew, hb0.drew⟩ ?_ ?_
   · refine (sqc ?_ (sqc ?_ (sqc ?_ (sqc ?_ (sqc ?_ (sqc ?_ (sqc ?_ (sqc ?_ (sqc ?_ (sqc ?_ (sqc ?_ (sqc ?_ (sqc ?_ (sqc ?_ (sqc ?_ (sqc ?_ (sqc ?_ (sqc ?_ (sqc ?_ (sqc ?_ trivial))))))))))))))))))))
     · exact zfa rfl trivial _ _ _ _ rfl rfl (fun w hw => faE1 w _ _)
     · exact zld rfl trivial _ _ _ rfl rfl (fun w hw => load_in ((zca hw.1.bx 1).trans rfl))
     · exact zmv rfl trivial _ rfl (by kernel_rfl)
     · exact znc rfl trivial _ _ _ rfl rfl rfl
     · exact zfa rfl trivial _ _ _ _ rfl rfl (fun w hw => faH3 w _ _)
     · exact zfa rfl trivial _ _ _ _ rfl rfl (fun w hw => faR0 w _ _)
     · exact zfa rfl trivial _ _ _ _ rfl rfl (fun w hw => faE1 w _ _)
     · exact zld rfl trivial _ _ _ rfl rfl (fun w hw => load_in ((zca hw.1.he.box 4).trans rfl))
     · exact zbo rfl trivial _ _ _ _ _ _ _ rfl rfl rfl (fun w hw => by rw [← h1]; exact bin_eql _ _ _)
     · exact zmv rfl trivial _ rfl (by kernel_rfl)
     · exact zsk rfl 9 true 20 (.bool false) rfl rfl (by kernel_rfl) (by intro h; cases h) rfl
     · exact zsk rfl 9 true 20 (.bool false) rfl rfl (by kernel_rfl) (by intro h; cases h) rfl
     · exact zsk rfl 9 true 20 (.bool false) rfl rfl (by kernel_rfl) (by intro h; cases h) rfl
     · exact zsk rfl 9 true 20 (.bool false) rfl rfl (by kernel_rfl) (by intro h; cases h) rfl
     · exact zsk rfl 13 false 24 undef rfl rfl (by kernel_rfl) (by intro h; cases h) rfl
     · exact zsk rfl 13 false 24 undef rfl rfl (by kernel_rfl) (by intro h; cases h) rfl
     · exact zsk rfl 13 false 24 undef rfl rfl (by kernel_rfl) (by intro h; cases h) rfl
     · exact zsk rfl 9 true 20 (.bool false) rfl rfl (by kernel_rfl) (by intro h; cases h) rfl
     · exact step_pick rfl trivial _ _ _ false rfl (by kernel_rfl) (by kernel_rfl)
     · exact zas rfl trivial _ rfl (by kernel_rfl) (fun _ h => h)
   intro W hW
   first | refine hK _ _ ?_ | refine (‹∀ (a : Act) (w : World), Code.wp Try.prog _ _ a w → _›) _ _ ?_ | skip
   simp only [finL, List.getD_cons_zero, List.getD_cons_succ, Nat.zero_add, Nat.reduceAdd, List.setIfInBounds_toArray, List.set_cons_zero, List.set_cons_succ]
   clear hK
   go_wp2
   go_ret
   exact ⟨by simp only [fol, hr, h1]; rfl, hW.2⟩
  | true =>
   cases h2 : (x.k == 4) with
   | true =>
     refine wp_region_any hmx ?_
     refine zwp (fun i__ => ([(.pointer (some ⟨w.heap.size, 1, none⟩)), (.int .i64 x.nd), (.pointer (some ⟨p, 0, none⟩)), (.pointer (some ⟨p, 0, none⟩)), (.pointer (some ⟨p, 3, none⟩)), (.pointer (some ⟨p, 3, none⟩)), (.pointer (some ⟨p, 4, none⟩)), (.int .i64 s.c.nd), (.bool true), (.bool true), (.pointer (some ⟨w.heap.size, 0, none⟩)), (.int .i64 x.k), (.bool true), (.bool true), undef, undef, undef, (.bool true), (.bool true), (.bool true)] : List Value).getD i__ undef) (fun V => JB w p b w.heap.size need pl s x V ∧ Below w.heap.size w V) (by kernel_rfl) ⟨hJ0.carry (Below.refl _ _).drew, hb0.drew⟩ ?_ ?_
     · refine (sqc ?_ (sqc ?_ (sqc ?_ (sqc ?_ (sqc ?_ (sqc ?_ (sqc ?_ (sqc ?_ (sqc ?_ (sqc ?_ (sqc ?_ (sqc ?_ (sqc ?_ (sqc ?_ (sqc ?_ (sqc ?_ (sqc ?_ (sqc ?_ (sqc ?_ (sqc ?_ trivial))))))))))))))))))))
       · exact zfa rfl trivial _ _ _ _ rfl rfl (fun w hw => faE1 w _ _)
       · exact zld rfl trivial _ _ _ rfl rfl (fun w hw => load_in ((zca hw.1.bx 1).trans rfl))
       · exact zmv rfl trivial _ rfl (by kernel_rfl)
       · exact znc rfl trivial _ _ _ rfl rfl rfl
       · exact zfa rfl trivial _ _ _ _ rfl rfl (fun w hw => faH3 w _ _)
       · exact zfa rfl trivial _ _ _ _ rfl rfl (fun w hw => faR0 w _ _)
       · exact zfa rfl trivial _ _ _ _ rfl rfl (fun w hw => faE1 w _ _)
       · exact zld rfl trivial _ _ _ rfl rfl (fun w hw => load_in ((zca hw.1.he.box 4).trans rfl))
       · exact zbo rfl trivial _ _ _ _ _ _ _ rfl rfl rfl (fun w hw => by rw [← h1]; exact bin_eql _ _ _)
       · exact zmv rfl trivial _ rfl (by kernel_rfl)
       · exact zfa rfl ⟨_, rfl, by kernel_rfl⟩ _ _ _ _ rfl rfl (fun w hw => faE0 w _ _)
       · exact zld rfl ⟨_, rfl, by kernel_rfl⟩ _ _ _ rfl rfl (fun w hw => load_in ((zca hw.1.bx 0).trans rfl))
       · exact zbo rfl ⟨_, rfl, by kernel_rfl⟩ _ _ _ _ _ _ _ rfl rfl rfl (fun w hw => by rw [← h2]; exact bin_eql _ _ _)
       · exact zmv rfl ⟨_, rfl, by kernel_rfl⟩ _ rfl (by kernel_rfl)
       · exact zsk rfl 13 false 24 (.bool true) rfl rfl (by kernel_rfl) (by intro h; cases h) rfl
       · exact zsk rfl 13 false 24 (.bool true) rfl rfl (by kernel_rfl) (by intro h; cases h) rfl
       · exact zsk rfl 13 false 24 (.bool true) rfl rfl (by kernel_rfl) (by intro h; cases h) rfl
       · exact step_pick rfl ⟨_, rfl, by kernel_rfl⟩ _ _ _ true rfl (by kernel_rfl) (by kernel_rfl)
       · exact step_pick rfl trivial _ _ _ true rfl (by kernel_rfl) (by kernel_rfl)
       · exact zas rfl trivial _ rfl (by kernel_rfl) (fun _ h => h)
     intro W hW
     first | refine hK _ _ ?_ | refine (‹∀ (a : Act) (w : World), Code.wp Try.prog _ _ a w → _›) _ _ ?_ | skip
     simp only [finL, List.getD_cons_zero, List.getD_cons_succ, Nat.zero_add, Nat.reduceAdd, List.setIfInBounds_toArray, List.set_cons_zero, List.set_cons_succ]
     clear hK
     go_wp2
     go_ret
     exact ⟨by simp only [fol, hr, h1, h2]; rfl, hW.2⟩
   | false =>
     cases h3 : (x.k == 2) with
     | true =>
       refine wp_region_any hmx ?_
       refine zwp (fun i__ => ([(.pointer (some ⟨w.heap.size, 1, none⟩)), (.int .i64 x.nd), (.pointer (some ⟨p, 0, none⟩)), (.pointer (some ⟨p, 0, none⟩)), (.pointer (some ⟨p, 3, none⟩)), (.pointer (some ⟨p, 3, none⟩)), (.pointer (some ⟨p, 4, none⟩)), (.int .i64 s.c.nd), (.bool true), (.bool true), (.pointer (some ⟨w.heap.size, 0, none⟩)), (.int .i64 x.k), (.bool false), (.bool false), (.pointer (some ⟨w.heap.size, 0, none⟩)), (.int .i64 x.k), (.bool true), (.bool true), (.bool true), (.bool true)] : List Value).getD i__ undef) (fun V => JB w p b w.heap.size need pl s x V ∧ Below w.heap.size w V) (by kernel_rfl) ⟨hJ0.carry (Below.refl _ _).drew, hb0.drew⟩ ?_ ?_
       · refine (sqc ?_ (sqc ?_ (sqc ?_ (sqc ?_ (sqc ?_ (sqc ?_ (sqc ?_ (sqc ?_ (sqc ?_ (sqc ?_ (sqc ?_ (sqc ?_ (sqc ?_ (sqc ?_ (sqc ?_ (sqc ?_ (sqc ?_ (sqc ?_ (sqc ?_ (sqc ?_ trivial))))))))))))))))))))
         · exact zfa rfl trivial _ _ _ _ rfl rfl (fun w hw => faE1 w _ _)
         · exact zld rfl trivial _ _ _ rfl rfl (fun w hw => load_in ((zca hw.1.bx 1).trans rfl))
         · exact zmv rfl trivial _ rfl (by kernel_rfl)
         · exact znc rfl trivial _ _ _ rfl rfl rfl
         · exact zfa rfl trivial _ _ _ _ rfl rfl (fun w hw => faH3 w _ _)
         · exact zfa rfl trivial _ _ _ _ rfl rfl (fun w hw => faR0 w _ _)
         · exact zfa rfl trivial _ _ _ _ rfl rfl (fun w hw => faE1 w _ _)
         · exact zld rfl trivial _ _ _ rfl rfl (fun w hw => load_in ((zca hw.1.he.box 4).trans rfl))
         · exact zbo rfl trivial _ _ _ _ _ _ _ rfl rfl rfl (fun w hw => by rw [← h1]; exact bin_eql _ _ _)
         · exact zmv rfl trivial _ rfl (by kernel_rfl)
         · exact zfa rfl ⟨_, rfl, by kernel_rfl⟩ _ _ _ _ rfl rfl (fun w hw => faE0 w _ _)
         · exact zld rfl ⟨_, rfl, by kernel_rfl⟩ _ _ _ rfl rfl (fun w hw => load_in ((zca hw.1.bx 0).trans rfl))
         · exact zbo rfl ⟨_, rfl, by kernel_rfl⟩ _ _ _ _ _ _ _ rfl rfl rfl (fun w hw => by rw [← h2]; exact bin_eql _ _ _)
         · exact zmv rfl ⟨_, rfl, by kernel_rfl⟩ _ rfl (by kernel_rfl)
         · exact zfa rfl ⟨_, rfl, by kernel_rfl⟩ _ _ _ _ rfl rfl (fun w hw => faE0 w _ _)
         · exact zld rfl ⟨_, rfl, by kernel_rfl⟩ _ _ _ rfl rfl (fun w hw => load_in ((zca hw.1.bx 0).trans rfl))
         · exact zbo rfl ⟨_, rfl, by kernel_rfl⟩ _ _ _ _ _ _ _ rfl rfl rfl (fun w hw => by rw [← h3]; exact bin_eql _ _ _)
         · exact step_pick rfl ⟨_, rfl, by kernel_rfl⟩ _ _ _ false rfl (by kernel_rfl) (by kernel_rfl)
         · exact step_pick rfl trivial _ _ _ true rfl (by kernel_rfl) (by kernel_rfl)
         · exact zas rfl trivial _ rfl (by kernel_rfl) (fun _ h => h)
       intro W hW
       first | refine hK _ _ ?_ | refine (‹∀ (a : Act) (w : World), Code.wp Try.prog _ _ a w → _›) _ _ ?_ | skip
       simp only [finL, List.getD_cons_zero, List.getD_cons_succ, Nat.zero_add, Nat.reduceAdd, List.setIfInBounds_toArray, List.set_cons_zero, List.set_cons_succ]
       clear hK
       go_wp2
       go_ret
       exact ⟨by simp only [fol, hr, h1, h2, h3]; rfl, hW.2⟩
     | false =>
       refine wp_region_any hmx ?_
       refine zwp (fun i__ => ([(.pointer (some ⟨w.heap.size, 1, none⟩)), (.int .i64 x.nd), (.pointer (some ⟨p, 0, none⟩)), (.pointer (some ⟨p, 0, none⟩)), (.pointer (some ⟨p, 3, none⟩)), (.pointer (some ⟨p, 3, none⟩)), (.pointer (some ⟨p, 4, none⟩)), (.int .i64 s.c.nd), (.bool true), (.bool true), (.pointer (some ⟨w.heap.size, 0, none⟩)), (.int .i64 x.k), (.bool false), (.bool false), (.pointer (some ⟨w.heap.size, 0, none⟩)), (.int .i64 x.k), (.bool false), (.bool false), (.bool false), (.bool false)] : List Value).getD i__ undef) (fun V => JB w p b w.heap.size need pl s x V ∧ Below w.heap.size w V) (by kernel_rfl) ⟨hJ0.carry (Below.refl _ _).drew, hb0.drew⟩ ?_ ?_
       · refine (sqc ?_ (sqc ?_ (sqc ?_ (sqc ?_ (sqc ?_ (sqc ?_ (sqc ?_ (sqc ?_ (sqc ?_ (sqc ?_ (sqc ?_ (sqc ?_ (sqc ?_ (sqc ?_ (sqc ?_ (sqc ?_ (sqc ?_ (sqc ?_ (sqc ?_ (sqc ?_ trivial))))))))))))))))))))
         · exact zfa rfl trivial _ _ _ _ rfl rfl (fun w hw => faE1 w _ _)
         · exact zld rfl trivial _ _ _ rfl rfl (fun w hw => load_in ((zca hw.1.bx 1).trans rfl))
         · exact zmv rfl trivial _ rfl (by kernel_rfl)
         · exact znc rfl trivial _ _ _ rfl rfl rfl
         · exact zfa rfl trivial _ _ _ _ rfl rfl (fun w hw => faH3 w _ _)
         · exact zfa rfl trivial _ _ _ _ rfl rfl (fun w hw => faR0 w _ _)
         · exact zfa rfl trivial _ _ _ _ rfl rfl (fun w hw => faE1 w _ _)
         · exact zld rfl trivial _ _ _ rfl rfl (fun w hw => load_in ((zca hw.1.he.box 4).trans rfl))
         · exact zbo rfl trivial _ _ _ _ _ _ _ rfl rfl rfl (fun w hw => by rw [← h1]; exact bin_eql _ _ _)
         · exact zmv rfl trivial _ rfl (by kernel_rfl)
         · exact zfa rfl ⟨_, rfl, by kernel_rfl⟩ _ _ _ _ rfl rfl (fun w hw => faE0 w _ _)
         · exact zld rfl ⟨_, rfl, by kernel_rfl⟩ _ _ _ rfl rfl (fun w hw => load_in ((zca hw.1.bx 0).trans rfl))
         · exact zbo rfl ⟨_, rfl, by kernel_rfl⟩ _ _ _ _ _ _ _ rfl rfl rfl (fun w hw => by rw [← h2]; exact bin_eql _ _ _)
         · exact zmv rfl ⟨_, rfl, by kernel_rfl⟩ _ rfl (by kernel_rfl)
         · exact zfa rfl ⟨_, rfl, by kernel_rfl⟩ _ _ _ _ rfl rfl (fun w hw => faE0 w _ _)
         · exact zld rfl ⟨_, rfl, by kernel_rfl⟩ _ _ _ rfl rfl (fun w hw => load_in ((zca hw.1.bx 0).trans rfl))
         · exact zbo rfl ⟨_, rfl, by kernel_rfl⟩ _ _ _ _ _ _ _ rfl rfl rfl (fun w hw => by rw [← h3]; exact bin_eql _ _ _)
         · exact step_pick rfl ⟨_, rfl, by kernel_rfl⟩ _ _ _ false rfl (by kernel_rfl) (by kernel_rfl)
         · exact step_pick rfl trivial _ _ _ true rfl (by kernel_rfl) (by kernel_rfl)
         · exact zas rfl trivial _ rfl (by kernel_rfl) (fun _ h => h)
       intro W hW
       first | refine hK _ _ ?_ | refine (‹∀ (a : Act) (w : World), Code.wp Try.prog _ _ a w → _›) _ _ ?_ | skip
       simp only [finL, List.getD_cons_zero, List.getD_cons_succ, Nat.zero_add, Nat.reduceAdd, List.setIfInBounds_toArray, List.set_cons_zero, List.set_cons_succ]
       clear hK
       go_wp2
       go_ret
       exact ⟨by simp only [fol, hr, h1, h2, h3]; rfl, hW.2⟩
end Go.Proofs.Ytifcnnonnocmmaa
namespace Go.Proofs.Ytifcnnonnocmmaa
open Go.RowKit Go.Shelf Go.Lib
attribute [local go_sem] Oper.semAt_some
theorem eqStepD (A B j : Nat) (hj : j < 4) (is : List Nat) (w : World) : (Op.eqItems 9998 30 1 (cells4 (wd A)) (cells4 (wd B)) (j :: is)).run Try.prog w = if wd A j = wd B j then (Op.eqItems 9998 30 1 (cells4 (wd A)) (cells4 (wd B)) is).run Try.prog w else .ok false w := by
 have he : Try.prog.plainKey 30 = true := by kernel_rfl
 have p1 := run_part_plain (P := Try.prog) w he (off := j * 1) (by rw [Nat.mul_one]; exact cells4_get (wd A) j hj)
 have p2 := run_part_plain (P := Try.prog) w he (off := j * 1) (by rw [Nat.mul_one]; exact cells4_get (wd B) j hj)
 have p3 := run_equalIn_int (P := Try.prog) w 9997 30 .u32 .u32 (wd A j : Int) (wd B j : Int) Try.underlying30
 rw [Op.eqItems]
 simp only [Sem.run_bind, p1, p2, Result.andThen_ok]
 rw [p3]
 simp only [Result.andThen_ok]
 by_cases h : wd A j = wd B j
 · simp [h]
 · have h2 : ((wd A j : Int) == (wd B j : Int)) = false := by simp; omega
   simp [h, h2]
theorem eqn4D (A B : Nat) (hA : A < S128) (hB : B < S128) (w : World) : (Op.equalIn 9999 32 (sv A) (sv B)).run Try.prog w = .ok (decide (A = B)) w := by
 have hi : (Try.prog.info? 30).isSome = true := by kernel_rfl
 obtain ⟨i, hi⟩ := Option.isSome_iff_exists.1 hi
 have hc : Try.prog.cellsOf 30 = 1 := by kernel_rfl
 rw [sv_cells, sv_cells, run_equalIn_array w 9998 _ _ Try.underlying32 hi, hc, show List.range 4 = [0, 1, 2, 3] from rfl]
 rw [eqStepD A B 0 (by decide), eqStepD A B 1 (by decide), eqStepD A B 2 (by decide), eqStepD A B 3 (by decide)]
 by_cases e : A = B
 · subst e; simp [Op.eqItems]
 · have hn : ¬ (wd A 0 = wd B 0 ∧ wd A 1 = wd B 1 ∧ wd A 2 = wd B 2 ∧ wd A 3 = wd B 3) := fun h => e (ext_wd hA hB h.1 h.2.1 h.2.2.1 h.2.2.2)
   simp only [e, decide_false]
   by_cases h0 : wd A 0 = wd B 0
   · by_cases h1 : wd A 1 = wd B 1
     · by_cases h2 : wd A 2 = wd B 2
       · by_cases h3 : wd A 3 = wd B 3
         · exact absurd ⟨h0, h1, h2, h3⟩ hn
         · simp [h0, h1, h2, h3]
       · simp [h0, h1, h2]
     · simp [h0, h1]
   · simp [h0]
def eqEv (a c : Ev) : Bool := (a.k == c.k) && ((a.nd == c.nd) && ((a.li == c.li) && ((a.ro == c.ro) && ((a.ta == c.ta) && ((a.of == c.of) && ((a.du == c.du) && (decide (a.he = c.he) && decide (a.un = c.un))))))))
theorem eqEv_iff (a c : Ev) : eqEv a c = true ↔ a = c := by
 obtain ⟨k, nd, li, ro, ta, of, du, he, un⟩ := a
 obtain ⟨k', nd', li', ro', ta', of', du', he', un'⟩ := c
 simp [eqEv]
theorem eqE (x y : Operand) (a c : Ev) (h1 : a.he < S128) (h2 : a.un < S128) (h3 : c.he < S128) (h4 : c.un < S128) (w : World) : binRun Try.prog .eql 34 x y (evV a) (evV c) w = .ok (.bool (eqEv a c)) w := by
 have q1 := eqn4D a.he c.he h1 h3 w
 have q2 := eqn4D a.un c.un h2 h4 w
 unfold sv at q1 q2
 unfold binRun evV ecA eqEv
 go_simp
 (repeat' split) <;> simp [*]
end Go.Proofs.Ytifcnnonnocmmaa
