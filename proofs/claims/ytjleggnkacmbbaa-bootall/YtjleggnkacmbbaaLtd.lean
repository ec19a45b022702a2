/- slot's (image).says: what it answers. -/
import Derived.Test.YtjleggnkacmbbaaLtc
import Derived.ChangeKeysEq
namespace Go.Proofs.Ytjleggnkacmbbaa
open Go.RowKit Go.Shelf Go.Lib

theorem eqI (l m : List Nat) (w : World) : ∀ is : List Nat, (∀ j ∈ is, j < l.length ∧ j < m.length) → (Op.eqItems 9999 5 1 (cB l).toArray (cB m).toArray is).run Try.prog w = .ok (is.all fun j => decide (l[j]? = m[j]?)) w
  | [], _ => by simp [Op.eqItems]
  | j :: is, h => by
    obtain ⟨h1, h2⟩ := h j (List.mem_cons_self ..)
    obtain ⟨x, hx⟩ := get_lt h1
    obtain ⟨y, hy⟩ := get_lt h2
    have he : Try.prog.plainKey 5 = true := by kernel_rfl
    have p1 := run_part_plain (P := Try.prog) w he (xs := (cB l).toArray) (off := j * 1) (by rw [Nat.mul_one, List.getElem?_toArray]; exact cB_get hx)
    have p2 := run_part_plain (P := Try.prog) w he (xs := (cB m).toArray) (off := j * 1) (by rw [Nat.mul_one, List.getElem?_toArray]; exact cB_get hy)
    have p3 := run_equalIn_int (P := Try.prog) w 9998 5 .u8 .u8 (x : Int) (y : Int) Try.underlying5
    have ih := eqI l m w is (fun i hi => h i (List.mem_cons_of_mem _ hi))
    rw [Op.eqItems]
    simp only [Sem.run_bind, p1, p2, Result.andThen_ok]
    rw [p3]
    simp only [Result.andThen_ok]
    rw [List.all_cons, hx, hy]
    by_cases e : x = y
    · subst e
      simp [ih]
    · have h2 : ((x : Int) == (y : Int)) = false := by simp; omega
      simp [e, h2]
theorem all_range (l m : List Nat) (h : l.length = 64) (k : m.length = 64) : ((List.range 64).all fun j => decide (l[j]? = m[j]?)) = decide (l = m) := by
  rw [Bool.eq_iff_iff, List.all_eq_true, decide_eq_true_iff]
  constructor
  · intro q
    refine List.ext_getElem? fun j => ?_
    by_cases hj : j < 64
    · exact of_decide_eq_true (q j (List.mem_range.2 hj))
    · rw [List.getElem?_eq_none (by omega), List.getElem?_eq_none (by omega)]
  · rintro rfl j _
    simp
theorem eqIm (l m : List Nat) (h : l.length = 64) (k : m.length = 64) (w : World) : (Op.equalIn 10000 100 (.agg (cB l).toArray) (.agg (cB m).toArray)).run Try.prog w = .ok (decide (l = m)) w := by
  have hi : (Try.prog.info? 5).isSome = true := by kernel_rfl
  obtain ⟨i, hi⟩ := Option.isSome_iff_exists.1 hi
  have hc : Try.prog.cellsOf 5 = 1 := by kernel_rfl
  rw [run_equalIn_array w 9999 _ _ undI hi, hc, eqI l m w _ (fun j hj => by have := List.mem_range.1 hj; omega), all_range l m h k]
theorem neqI (x y : Operand) (l m : List Nat) (h : l.length = 64) (k : m.length = 64) (w : World) : binRun Try.prog .neq 100 x y (.agg (cB l).toArray) (.agg (cB m).toArray) w = .ok (.bool (!decide (l = m))) w := by
  have h := eqIm l m h k w
  unfold binRun
  go_simp
theorem neqI_t (x y : Operand) {l m : List Nat} (h : l.length = 64) (k : m.length = 64) (hn : ¬ l = m) (w : World) : binRun Try.prog .neq 100 x y (.agg (cB l).toArray) (.agg (cB m).toArray) w = .ok (.bool true) w := by
  rw [neqI x y l m h k w, decide_eq_false hn]
  rfl
theorem neqI_f (x y : Operand) {l m : List Nat} (h : l.length = 64) (k : m.length = 64) (hn : l = m) (w : World) : binRun Try.prog .neq 100 x y (.agg (cB l).toArray) (.agg (cB m).toArray) w = .ok (.bool false) w := by
  rw [neqI x y l m h k w, decide_eq_true hn]
  rfl
section
variable {f : Func} {p q r : Tmp} {ty t : TypeId} {R : Ending → World → Prop} {a : Act} {w : World} {b : Nat} {cs : Array Value} {fr : Nat × Nat} {F} {x y : Value}
theorem retC2 (hres : f.results = #[.cell p ty, .tmp q]) (hp : a.tmps.getD p undef = .pointer (some ⟨b, 0, none⟩)) (hq : a.tmps.getD q undef = x) (hd : a.defers = []) (hg : w.heap[b]? = some (.cells cs t fr)) (hu : Try.prog.underlying ty = some (.struct F)) (hi : (Try.prog.info? ty).map (·.size) = some cs.size) (hR : R (.returned (.tuple #[.agg cs, x])) w) : bodyPost Try.prog f R .ret a w := by
  refine bodyPost_ret (v := .tuple #[.agg cs, x]) ?_ hd hR
  have h2 := run_loadVar_row (P := Try.prog) w b t ty cs fr _ hg hu rfl hi
  have hp' : a.tmps[p]?.getD undef = .pointer (some ⟨b, 0, none⟩) := by simpa using hp
  have hq' : a.tmps[q]?.getD undef = x := by simpa using hq
  simp [results, hres, hp', hq', asAddr, h2]
theorem retC3 (hres : f.results = #[.cell p ty, .tmp q, .tmp r]) (hp : a.tmps.getD p undef = .pointer (some ⟨b, 0, none⟩)) (hq : a.tmps.getD q undef = x) (hr : a.tmps.getD r undef = y) (hd : a.defers = []) (hg : w.heap[b]? = some (.cells cs t fr)) (hu : Try.prog.underlying ty = some (.struct F)) (hi : (Try.prog.info? ty).map (·.size) = some cs.size) (hR : R (.returned (.tuple #[.agg cs, x, y])) w) : bodyPost Try.prog f R .ret a w := by
  refine bodyPost_ret (v := .tuple #[.agg cs, x, y]) ?_ hd hR
  have h2 := run_loadVar_row (P := Try.prog) w b t ty cs fr _ hg hu rfl hi
  have hp' : a.tmps[p]?.getD undef = .pointer (some ⟨b, 0, none⟩) := by simpa using hp
  have hq' : a.tmps[q]?.getD undef = x := by simpa using hq
  have hr' : a.tmps[r]?.getD undef = y := by simpa using hr
  simp [results, hres, hp', hq', hr', asAddr, h2]
end
theorem undE : Try.prog.underlying 84 = some (.struct ((match Try.prog.underlying 84 with | some (.struct f) => f | _ => #[]))) := by kernel_rfl
theorem undR : Try.prog.underlying 36 = some (.struct ((match Try.prog.underlying 36 with | some (.struct f) => f | _ => #[]))) := by kernel_rfl
theorem infoR : (Try.prog.info? 36).map (·.size) = some 3 := by kernel_rfl
theorem boxI (C : Array Value) (w : World) : (Instr.box 100 (.agg C)).run Try.prog w = .ok (.pointer (some ⟨w.heap.size, 0, none⟩)) (w.alloc (.cells C 100)) := by kernel_rfl
theorem load_e {W : World} {B : Nat} {a b c s : Value} (h : W.heap[B]? = some (.cells #[a, b, c, s] 84 (0, 0))) : (Instr.loadAt 84 (.pointer (some ⟨B, 0, none⟩))).run Try.prog W = .ok (.agg #[a, b, c, s]) W := by
  have c0 := cell_at h 0
  have c1 := cell_at h 1
  have c2 := cell_at h 2
  have c3 := cell_at h 3
  go_simp
theorem load_im {W : World} {B : Nat} {l : List Nat} (h : W.heap[B]? = some (.cells (cB l).toArray 100 (0, 0))) (hl : l.length = 64) : (Instr.loadAt 100 (.pointer (some ⟨B, 0, none⟩))).run Try.prog W = .ok (.agg (cB l).toArray) W := by
  have := run_loadVar_row (P := Try.prog) W B 100 100 (cB l).toArray (0, 0) _ h undI rfl (by rw [List.size_toArray, cB_len, hl]; exact infoI)
  simp only [Instr.loadAt, Instr.sureAddr, Sem.run_bind, Sem.run_pure, Result.andThen_ok, this]
/-- While a slot's bytes are read. -/
def JY (w : World) (l : List Nat) (E : Array Value) (V : World) : Prop := V.heap[w.heap.size]? = some (.cells (cB l).toArray 100 (0, 0)) ∧ V.heap[w.heap.size + 1]? = some (.cells #[.int .i64 0, .int .i64 0, .int .i64 0, .int .i64 0] 84 (0, 0)) ∧ V.heap[w.heap.size + 1 + 1]? = some (.cells E 84 (0, 0)) ∧ Below w.heap.size w V
theorem JY.drew {w V : World} {l : List Nat} {E : Array Value} (h : JY w l E V) : JY w l E V.drew := ⟨h.1, h.2.1, h.2.2.1, h.2.2.2.drew⟩
theorem JY.carry {w V V' : World} {l : List Nat} {E : Array Value} (h : JY w l E V) (hb : Below V.heap.size V V') : JY w l E V' := ⟨(hb.block _ (lt_at h.1)).trans h.1, (hb.block _ (lt_at h.2.1)).trans h.2.1, (hb.block _ (lt_at h.2.2.1)).trans h.2.2.1, bel2 h.2.2.2 hb⟩
theorem JY.set {w V : World} {l : List Nat} {E : Array Value} (h : JY w l E V) (k : Nat) (x : Value) : JY w l (E.setIfInBounds k x) (V.setCell ⟨w.heap.size + 1 + 1, k, none⟩ x) :=
  ⟨(Below.heap_setCell _ _ _ _ (show w.heap.size ≠ w.heap.size + 1 + 1 by omega)).trans h.1, (Below.heap_setCell _ _ _ _ (show w.heap.size + 1 ≠ w.heap.size + 1 + 1 by omega)).trans h.2.1, heap_setCell_same _ _ _ _ _ _ h.2.2.1, h.2.2.2.setCell (p := ⟨w.heap.size + 1 + 1, k, none⟩) (show w.heap.size ≤ w.heap.size + 1 + 1 by omega) _⟩
theorem JY.num {w V : World} {l : List Nat} {E : Array Value} (h : JY w l E V) (off n cap : Nat) (hl : off + n ≤ l.length) (hb : Byt l) (hn : n ≤ 8) : Calls Try.prog 62 #[.slice (some ⟨w.heap.size, off, none⟩) n cap] V fun e V' => e = .returned (.int .i64 (IntKind.i64.wrap ((valB 0 ((l.drop off).take n) : Nat) : Int))) ∧ V' = V := by
  have hlen : ((l.drop off).take n).length = n := by rw [List.length_take, List.length_drop]; omega
  have hat : BAt V w.heap.size 0 l := fun k x hk => by
    rw [Nat.zero_add, cell_at h.1, List.getElem?_toArray]
    exact cB_get hk
  have hs := hat.sub off n
  rw [Nat.zero_add] at hs
  have := number_any (some ⟨w.heap.size, off, none⟩) cap ((l.drop off).take n) V (fun _ => ⟨_, _, rfl, lt_at h.1, hs⟩) ((hb.drop off).take n) (by omega)
  rw [hlen] at this
  exact this
theorem val_small {l : List Nat} (hb : Byt l) (hl : l.length ≤ 7) : IntKind.i64.wrap ((valB 0 l : Nat) : Int) = ((valB 0 l : Nat) : Int) := by
  have h1 := valB_lt l hb
  have h2 : 2 ^ (8 * l.length) ≤ 2 ^ (8 * 7) := Nat.pow_le_pow_right (by decide) (by omega)
  exact i64_id _ (by omega) (by omega)
theorem JY.num7 {w V : World} {l : List Nat} {E : Array Value} (h : JY w l E V) (off n cap : Nat) (hl : off + n ≤ l.length) (hb : Byt l) (hn : n ≤ 7) : Calls Try.prog 62 #[.slice (some ⟨w.heap.size, off, none⟩) n cap] V fun e V' => e = .returned (.int .i64 ((valB 0 ((l.drop off).take n) : Nat) : Int)) ∧ V' = V := by
  have := h.num off n cap hl hb (by omega)
  rw [val_small ((hb.drop off).take n) (by rw [List.length_take]; omega)] at this
  exact this
theorem eimage_fit {r : Rec} {s : Int} (h : Fit r s) (w : World) : Calls Try.prog 58 #[eV r s] w fun e w' => e = .returned (.agg (cB (slB r s)).toArray) ∧ Below w.heap.size w w' := by
  obtain ⟨⟨⟨h1, h2⟩, ⟨h3, h4⟩, h5, h6⟩, h7, h8⟩ := h
  have := eimage_any r.li.toNat r.ro.toNat r.ta.toNat s.toNat w
  rw [Int.toNat_of_nonneg (by omega), Int.toNat_of_nonneg (by omega), Int.toNat_of_nonneg (by omega), Int.toNat_of_nonneg (by omega)] at this
  exact this
def e0V : Value := .agg #[.int .i64 0, .int .i64 0, .int .i64 0, .int .i64 0]
/-- What says answers. -/
def sayV : Option (Rec × Int) → Value
  | none => .tuple #[e0V, .bool false]
  | some (r, s) => .tuple #[eV r s, .bool true]
theorem infoE : (Try.prog.info? 84).map (·.size) = some 4 := by kernel_rfl
set_option maxHeartbeats 4000000 in
set_option maxRecDepth 100000 in
theorem says_any (l : List Nat) (hl : l.length = 64) (hb : Byt l) (w : World) : Calls Try.prog 55 #[.agg (cB l).toArray] w fun e w' => e = .returned (sayV (say l)) ∧ Below w.heap.size w w' := by
  have hbox := boxI
  have hmx : Try.prog.follows .mixedOrders = true := by kernel_rfl
  obtain ⟨C, hC⟩ : ∃ C, (cB l).toArray = C := ⟨_, rfl⟩
  obtain ⟨w3, hw3⟩ : ∃ w3, ((w.alloc (.cells C 100)).alloc (.cells #[.int .i64 0, .int .i64 0, .int .i64 0, .int .i64 0] 84)).alloc (.cells #[.int .i64 0, .int .i64 0, .int .i64 0, .int .i64 0] 84) = w3 := ⟨_, rfl⟩
  have hj : JY w l #[.int .i64 0, .int .i64 0, .int .i64 0, .int .i64 0] w3 := by
    rw [← hw3, ← hC]
    exact ⟨old_at (old_at (new_at rfl)), old_at (new_at (by simp)), new_at (by simp), bel2 (bel2 (al1' _ _) (al1' _ _)) (al1' _ _)⟩
  rw [hC]
  obtain ⟨r, hr⟩ : ∃ r, rdR l = r := ⟨_, rfl⟩
  obtain ⟨s, hs⟩ : ∃ s, rdS l = s := ⟨_, rfl⟩
  have n1 := hj.num 4 8 60 (by omega) hb (by omega)
  rw [show IntKind.i64.wrap ((valB 0 ((l.drop 4).take 8) : Nat) : Int) = s from hs] at n1
  obtain ⟨u1, hu1⟩ : ∃ u1, w3.setCell ⟨w.heap.size + 1 + 1, 3, none⟩ (.int .i64 s) = u1 := ⟨_, rfl⟩
  have hj1 := hj.set 3 (.int .i64 s)
  rw [hu1] at hj1
  have n2 := hj1.num7 12 4 52 (by omega) hb (by omega)
  rw [show ((valB 0 ((l.drop 12).take 4) : Nat) : Int) = r.li from by rw [← hr]; rfl] at n2
  obtain ⟨u2, hu2⟩ : ∃ u2, u1.setCell ⟨w.heap.size + 1 + 1, 0, none⟩ (.int .i64 r.li) = u2 := ⟨_, rfl⟩
  have hj2 := hj1.set 0 (.int .i64 r.li)
  rw [hu2] at hj2
  have n3 := hj2.num7 16 5 48 (by omega) hb (by omega)
  rw [show ((valB 0 ((l.drop 16).take 5) : Nat) : Int) = r.ro from by rw [← hr]; rfl] at n3
  obtain ⟨u3, hu3⟩ : ∃ u3, u2.setCell ⟨w.heap.size + 1 + 1, 1, none⟩ (.int .i64 r.ro) = u3 := ⟨_, rfl⟩
  have hj3 := hj2.set 1 (.int .i64 r.ro)
  rw [hu3] at hj3
  have n4 := hj3.num7 44 3 20 (by omega) hb (by omega)
  rw [show ((valB 0 ((l.drop 44).take 3) : Nat) : Int) = r.ta from by rw [← hr]; rfl] at n4
  obtain ⟨u4, hu4⟩ : ∃ u4, u3.setCell ⟨w.heap.size + 1 + 1, 2, none⟩ (.int .i64 r.ta) = u4 := ⟨_, rfl⟩
  have hj4 : JY w l #[.int .i64 r.li, .int .i64 r.ro, .int .i64 r.ta, .int .i64 s] u4 := by
    have := hj3.set 2 (.int .i64 r.ta)
    rw [hu4] at this
    exact this
  have c3 : w3.cell? ⟨w.heap.size + 1 + 1, 3, none⟩ = some (.int .i64 0) := by rw [cell_at hj.2.2.1]; rfl
  have z3 := thaw_at hj.2.2.1 3
  have c0 : u1.cell? ⟨w.heap.size + 1 + 1, 0, none⟩ = some (.int .i64 0) := by rw [cell_at hj1.2.2.1]; rfl
  have z0 := thaw_at hj1.2.2.1 0
  have c1 : u2.cell? ⟨w.heap.size + 1 + 1, 1, none⟩ = some (.int .i64 0) := by rw [cell_at hj2.2.2.1]; rfl
  have z1 := thaw_at hj2.2.2.1 1
  have c2 : u3.cell? ⟨w.heap.size + 1 + 1, 2, none⟩ = some (.int .i64 0) := by rw [cell_at hj3.2.2.1]; rfl
  have z2 := thaw_at hj3.2.2.1 2
  have hfit := fits_any r s
  have HL : Hid (l.length = 64) := hl
  have HS : Hid (say l = if Fit r s ∧ slB r s = l then some (r, s) else none) := by show say l = _; rw [← hr, ← hs]; rfl
  clear hr hs hj3 hj2 hj1 hj
  go_enter Try.func55, Try.ntmps55
  go_wp2_with (first | (go_at_call 62; (with_reducible refine n1.mono ?_); rintro e v ⟨rfl, hv⟩; obtain rfl := hv.symm) | (go_at_call 62; (with_reducible refine n2.mono ?_); rintro e v ⟨rfl, hv⟩; obtain rfl := hv.symm) | (go_at_call 62; (with_reducible refine n3.mono ?_); rintro e v ⟨rfl, hv⟩; obtain rfl := hv.symm) | (go_at_call 62; (with_reducible refine n4.mono ?_); rintro e v ⟨rfl, hv⟩; obtain rfl := hv.symm))
  by_cases hf : Fit r s
  case neg =>
    rw [decide_eq_false hf] at hfit
    rename_i hK
    refine wp_region_any hmx ?_
    refine wpAny_pure (fun i__ => ([(eV r s), (.bool false), (.bool true), (.bool true), undef, undef, undef, undef, (.bool true)] : List Value).getD i__ undef) (JY w l #[.int .i64 r.li, .int .i64 r.ro, .int .i64 r.ta, .int .i64 s]) (by kernel_rfl) (hj4.drew) ?_ ?_
    · refine (stepsFrom_cons ?_ (stepsFrom_cons ?_ (stepsFrom_cons ?_ (stepsFrom_cons ?_ (stepsFrom_cons ?_ (stepsFrom_cons ?_ (stepsFrom_cons ?_ (stepsFrom_cons ?_ (stepsFrom_cons ?_ trivial)))))))))
      · exact step_load rfl trivial _ _ _ rfl rfl (fun v hw => load_e hw.2.2.1)
      · exact step_call rfl trivial 63 _ _ [(eV r s)] rfl (by kernel_rfl) (enters_of Try.func63 (by kernel_rfl) rfl) (fun v hw => (hfit v).mono (by rintro e w' ⟨rfl, hb'⟩; exact ⟨rfl, hw.carry hb'⟩))
      · exact step_unOp rfl trivial _ _ _ _ rfl rfl (fun v hw => by kernel_rfl)
      · exact step_move rfl trivial _ rfl (by kernel_rfl)
      · exact step_skip rfl 3 false 23 (.bool true) rfl rfl (by kernel_rfl) (by intro h; cases h) rfl
      · exact step_skip rfl 3 false 23 (.bool true) rfl rfl (by kernel_rfl) (by intro h; cases h) rfl
      · exact step_skip rfl 3 false 23 (.bool true) rfl rfl (by kernel_rfl) (by intro h; cases h) rfl
      · exact step_skip rfl 3 false 23 (.bool true) rfl rfl (by kernel_rfl) (by intro h; cases h) rfl
      · exact step_pick rfl trivial _ _ _ true rfl (by kernel_rfl) (by kernel_rfl)
    intro W hW
    first | refine hK _ _ ?_ | refine (‹∀ (a : Act) (w : World), Code.wp Try.prog _ _ a w → _›) _ _ ?_
    simp only [finL, List.getD_cons_zero, List.getD_cons_succ, Nat.zero_add, Nat.reduceAdd, List.setIfInBounds_toArray, List.set_cons_zero, List.set_cons_succ]
    clear hK
    have hj5 := hW
    clear hW hj4
    go_wp2_with ((refine wpList_store_row rfl 84 (.tmp 2) (.tmp 29) rfl (w.heap.size + 1) #[.int .i64 0, .int .i64 0, .int .i64 0, .int .i64 0] rfl rfl 84 _ hj5.2.1 infoE rfl (by simp [Value.oneCell']) ?_; obtain ⟨v, hv⟩ : ∃ v, W.setRow (w.heap.size + 1) #[.int .i64 0, .int .i64 0, .int .i64 0, .int .i64 0] = v := ⟨_, rfl⟩; have HV : Hid (v.heap[w.heap.size + 1]? = some (.cells #[.int .i64 0, .int .i64 0, .int .i64 0, .int .i64 0] 84 (0, 0))) := (by rw [← hv]; exact setRow_heap _ _ _ _ _ _ hj5.2.1); have HB : Hid (Below w.heap.size w v) := (by rw [← hv]; exact below_setRow hj5.2.2.2 (by omega) _); rw [hv]))
    (try simp only [Exit.inBlock, Exit.then])
    exact retC2 rfl rfl rfl rfl HV.out undE infoE ⟨by rw [HS.out, if_neg (fun q => hf q.1)]; rfl, HB.out⟩
  rw [decide_eq_true hf] at hfit
  have him := eimage_fit hf
  by_cases hq : slB r s = l
  case neg =>
    rename_i hK
    refine wp_region_any hmx ?_
    refine wpAny_pure (fun i__ => ([(eV r s), (.bool true), (.bool false), (.bool false), (eV r s), (.agg (cB (slB r s)).toArray), (.agg (cB l).toArray), (.bool true), (.bool true)] : List Value).getD i__ undef) (JY w l #[.int .i64 r.li, .int .i64 r.ro, .int .i64 r.ta, .int .i64 s]) (by kernel_rfl) (hj4.drew) ?_ ?_
    · refine (stepsFrom_cons ?_ (stepsFrom_cons ?_ (stepsFrom_cons ?_ (stepsFrom_cons ?_ (stepsFrom_cons ?_ (stepsFrom_cons ?_ (stepsFrom_cons ?_ (stepsFrom_cons ?_ (stepsFrom_cons ?_ trivial)))))))))
      · exact step_load rfl trivial _ _ _ rfl rfl (fun v hw => load_e hw.2.2.1)
      · exact step_call rfl trivial 63 _ _ [(eV r s)] rfl (by kernel_rfl) (enters_of Try.func63 (by kernel_rfl) rfl) (fun v hw => (hfit v).mono (by rintro e w' ⟨rfl, hb'⟩; exact ⟨rfl, hw.carry hb'⟩))
      · exact step_unOp rfl trivial _ _ _ _ rfl rfl (fun v hw => by kernel_rfl)
      · exact step_move rfl trivial _ rfl (by kernel_rfl)
      · exact step_load rfl (by exact ⟨_, rfl, by kernel_rfl⟩) _ _ _ rfl rfl (fun v hw => load_e hw.2.2.1)
      · exact step_call rfl (by exact ⟨_, rfl, by kernel_rfl⟩) 58 _ _ [(eV r s)] rfl (by kernel_rfl) (enters_of Try.func58 (by kernel_rfl) rfl) (fun v hw => (him v).mono (by rintro e w' ⟨rfl, hb'⟩; exact ⟨rfl, hw.carry hb'⟩))
      · exact step_load rfl (by exact ⟨_, rfl, by kernel_rfl⟩) _ _ _ rfl rfl (fun v hw => load_im hw.1 hl)
      · exact step_binOp rfl (by exact ⟨_, rfl, by kernel_rfl⟩) _ _ _ _ _ _ _ rfl rfl rfl (fun v hw => by exact neqI_t _ _ (slB_len r s) hl hq v)
      · exact step_pick rfl trivial _ _ _ false rfl (by kernel_rfl) (by kernel_rfl)
    intro W hW
    first | refine hK _ _ ?_ | refine (‹∀ (a : Act) (w : World), Code.wp Try.prog _ _ a w → _›) _ _ ?_
    simp only [finL, List.getD_cons_zero, List.getD_cons_succ, Nat.zero_add, Nat.reduceAdd, List.setIfInBounds_toArray, List.set_cons_zero, List.set_cons_succ]
    clear hK
    have hj5 := hW
    clear hW hj4
    go_wp2_with ((refine wpList_store_row rfl 84 (.tmp 2) (.tmp 29) rfl (w.heap.size + 1) #[.int .i64 0, .int .i64 0, .int .i64 0, .int .i64 0] rfl rfl 84 _ hj5.2.1 infoE rfl (by simp [Value.oneCell']) ?_; obtain ⟨v, hv⟩ : ∃ v, W.setRow (w.heap.size + 1) #[.int .i64 0, .int .i64 0, .int .i64 0, .int .i64 0] = v := ⟨_, rfl⟩; have HV : Hid (v.heap[w.heap.size + 1]? = some (.cells #[.int .i64 0, .int .i64 0, .int .i64 0, .int .i64 0] 84 (0, 0))) := (by rw [← hv]; exact setRow_heap _ _ _ _ _ _ hj5.2.1); have HB : Hid (Below w.heap.size w v) := (by rw [← hv]; exact below_setRow hj5.2.2.2 (by omega) _); rw [hv]))
    (try simp only [Exit.inBlock, Exit.then])
    exact retC2 rfl rfl rfl rfl HV.out undE infoE ⟨by rw [HS.out, if_neg (fun q => hq q.2)]; rfl, HB.out⟩
  case pos =>
    rename_i hK
    refine wp_region_any hmx ?_
    refine wpAny_pure (fun i__ => ([(eV r s), (.bool true), (.bool false), (.bool false), (eV r s), (.agg (cB (slB r s)).toArray), (.agg (cB l).toArray), (.bool false), (.bool false)] : List Value).getD i__ undef) (JY w l #[.int .i64 r.li, .int .i64 r.ro, .int .i64 r.ta, .int .i64 s]) (by kernel_rfl) (hj4.drew) ?_ ?_
    · refine (stepsFrom_cons ?_ (stepsFrom_cons ?_ (stepsFrom_cons ?_ (stepsFrom_cons ?_ (stepsFrom_cons ?_ (stepsFrom_cons ?_ (stepsFrom_cons ?_ (stepsFrom_cons ?_ (stepsFrom_cons ?_ trivial)))))))))
      · exact step_load rfl trivial _ _ _ rfl rfl (fun v hw => load_e hw.2.2.1)
      · exact step_call rfl trivial 63 _ _ [(eV r s)] rfl (by kernel_rfl) (enters_of Try.func63 (by kernel_rfl) rfl) (fun v hw => (hfit v).mono (by rintro e w' ⟨rfl, hb'⟩; exact ⟨rfl, hw.carry hb'⟩))
      · exact step_unOp rfl trivial _ _ _ _ rfl rfl (fun v hw => by kernel_rfl)
      · exact step_move rfl trivial _ rfl (by kernel_rfl)
      · exact step_load rfl (by exact ⟨_, rfl, by kernel_rfl⟩) _ _ _ rfl rfl (fun v hw => load_e hw.2.2.1)
      · exact step_call rfl (by exact ⟨_, rfl, by kernel_rfl⟩) 58 _ _ [(eV r s)] rfl (by kernel_rfl) (enters_of Try.func58 (by kernel_rfl) rfl) (fun v hw => (him v).mono (by rintro e w' ⟨rfl, hb'⟩; exact ⟨rfl, hw.carry hb'⟩))
      · exact step_load rfl (by exact ⟨_, rfl, by kernel_rfl⟩) _ _ _ rfl rfl (fun v hw => load_im hw.1 hl)
      · exact step_binOp rfl (by exact ⟨_, rfl, by kernel_rfl⟩) _ _ _ _ _ _ _ rfl rfl rfl (fun v hw => by exact neqI_f _ _ (slB_len r s) hl hq v)
      · exact step_pick rfl trivial _ _ _ false rfl (by kernel_rfl) (by kernel_rfl)
    intro W hW
    first | refine hK _ _ ?_ | refine (‹∀ (a : Act) (w : World), Code.wp Try.prog _ _ a w → _›) _ _ ?_
    simp only [finL, List.getD_cons_zero, List.getD_cons_succ, Nat.zero_add, Nat.reduceAdd, List.setIfInBounds_toArray, List.set_cons_zero, List.set_cons_succ]
    clear hK
    have hj5 := hW
    clear hW hj4
    go_wp2_with (first | (refine wpList_load_row rfl 84 (.tmp 4) rfl (w.heap.size + 1 + 1) rfl 84 _ (0, 0) _ hj5.2.2.1 undE rfl infoE ?_) | (refine wpList_store_row rfl 84 (.tmp 2) (.tmp 30) rfl (w.heap.size + 1) #[.int .i64 r.li, .int .i64 r.ro, .int .i64 r.ta, .int .i64 s] rfl rfl 84 _ hj5.2.1 infoE rfl (by simp [Value.oneCell']) ?_; obtain ⟨v, hv⟩ : ∃ v, W.setRow (w.heap.size + 1) #[.int .i64 r.li, .int .i64 r.ro, .int .i64 r.ta, .int .i64 s] = v := ⟨_, rfl⟩; have HV : Hid (v.heap[w.heap.size + 1]? = some (.cells #[.int .i64 r.li, .int .i64 r.ro, .int .i64 r.ta, .int .i64 s] 84 (0, 0))) := (by rw [← hv]; exact setRow_heap _ _ _ _ _ _ hj5.2.1); have HB : Hid (Below w.heap.size w v) := (by rw [← hv]; exact below_setRow hj5.2.2.2 (by omega) _); rw [hv]))
    (try simp only [Exit.inBlock, Exit.then])
    exact retC2 rfl rfl rfl rfl HV.out undE infoE ⟨by rw [HS.out, if_pos ⟨hf, hq⟩]; rfl, HB.out⟩
end Go.Proofs.Ytjleggnkacmbbaa
