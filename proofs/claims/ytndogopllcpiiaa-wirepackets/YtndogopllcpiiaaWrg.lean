/- wire.refuseIf, take, number, setOf: what they answer. -/
import Derived.Test.YtndogopllcpiiaaWrc
import Derived.Test.YtndogopllcpiiaaOwn
import Derived.Test.YtndogopllcpiiaaRgd
import Derived.Test.YtndogopllcpiiaaRgn
import Derived.Test.YtndogopllcpiiaaRgf
import Derived.WalkLawsBesides
namespace Go.Proofs.Ytndogopllcpiiaa
open Go.RowKit Go.Shelf

/-- The panic with which the reading is given up. -/
def rfu (e : Int) : List PanicEntry := [{ v := .iface 84 (.int .i64 e), recovered := false }]
theorem refuse_yes (e : Int) (w : World) : Calls Try.prog 55 #[.bool true, .int .i64 e] w fun en w' => en = .panicked (rfu e) ∧ w' = w := by
  go_enter Try.func55, Try.ntmps55
  go_wp2
  exact ⟨rfl, rfl, rfl⟩
theorem refuse_no (e : Int) (w : World) : Calls Try.prog 55 #[.bool false, .int .i64 e] w fun en w' => en = .returned (.tuple #[]) ∧ w' = w := by
  go_enter Try.func55, Try.ntmps55
  go_wp2
  go_end0
  exact ⟨rfl, rfl⟩
/-- A reader of these bytes, so many of them read. -/
structure Rdr (W : World) (p : Nat) (ad : Option Addr) (cap : Nat) (bs : List Nat) (i : Nat) : Prop where
  box : W.heap[p]? = some (.cells #[.slice ad bs.length cap, .int .i64 (i : Int)] 88 (0, 0))
  rd : bs ≠ [] → ∃ b off, ad = some ⟨b, off, none⟩ ∧ b < p ∧ BAt W b off bs
  le : i ≤ bs.length
  byt : Byt bs
  ln : bs.length ≤ 1024
  cp : bs.length ≤ cap
/-- Only the block p may have turned. -/
def Kb (p : Nat) (W W' : World) : Prop := Below p W W' ∧ ∀ b, b ≠ p → b < W.heap.size → W'.heap[b]? = W.heap[b]?
theorem Kb.refl (p : Nat) (W : World) : Kb p W W := ⟨Below.refl _ _, fun _ _ _ => rfl⟩
theorem Kb.trans {p : Nat} {a b c : World} (h : Kb p a b) (k : Kb p b c) : Kb p a c := ⟨h.1.trans k.1, fun x h1 h2 => (k.2 x h1 (Nat.lt_of_lt_of_le h2 h.1.size)).trans (h.2 x h1 h2)⟩
theorem Kb.below {p : Nat} {W W' : World} (h : Below W.heap.size W W') (hp : p ≤ W.heap.size) : Kb p W W' := ⟨h.mono hp, fun x _ h2 => h.block x h2⟩
theorem Rdr.lt {W : World} {p : Nat} {ad : Option Addr} {cap : Nat} {bs : List Nat} {i : Nat} (h : Rdr W p ad cap bs i) : p < W.heap.size := lt_at h.box
theorem Rdr.carry {W W' : World} {p : Nat} {ad : Option Addr} {cap : Nat} {bs : List Nat} {i : Nat} (h : Rdr W p ad cap bs i) (hb : Below W.heap.size W W') : Rdr W' p ad cap bs i := by
  refine ⟨(hb.block _ h.lt).trans h.box, fun hne => ?_, h.le, h.byt, h.ln, h.cp⟩
  obtain ⟨b, off, h1, h2, h3⟩ := h.rd hne
  exact ⟨b, off, h1, h2, h3.carry (hb.block b (Nat.lt_trans h2 h.lt))⟩
theorem Rdr.all {W : World} {p : Nat} {ad : Option Addr} {cap : Nat} {bs : List Nat} {i : Nat} (h : Rdr W p ad cap bs i) : (Instr.loadAt 22 (.pointer (some ⟨p, 0, none⟩))).run Try.prog W = .ok (.slice ad bs.length cap) W := by
  have c0 := cell_at h.box 0
  simp at c0
  go_simp
theorem Rdr.at {W : World} {p : Nat} {ad : Option Addr} {cap : Nat} {bs : List Nat} {i : Nat} (h : Rdr W p ad cap bs i) : (Instr.loadAt 3 (.pointer (some ⟨p, 1, none⟩))).run Try.prog W = .ok (.int .i64 (i : Int)) W := by
  have c0 := cell_at h.box 1
  simp at c0
  go_simp
theorem bi_lenB (t : TypeId) (bs : Array Bool) (a : Option Addr) (n c : Nat) (w : World) : (builtin .len #[22] t bs #[.slice a n c]).run Try.prog w = .ok (.value (.int .i64 (n : Int))) w := by
  show ((do pure (.value (← Builtin.len_ #[22] t #[.slice a n c]))) : Sem Next).run Try.prog w = _
  go_simp
theorem rfield0 (p : Nat) (W : World) : (Instr.fieldAt 88 (.pointer (some ⟨p, 0, none⟩)) 0).run Try.prog W = .ok (.pointer (some ⟨p, 0, none⟩)) W := by go_simp
theorem rfield1 (p : Nat) (W : World) : (Instr.fieldAt 88 (.pointer (some ⟨p, 0, none⟩)) 1).run Try.prog W = .ok (.pointer (some ⟨p, 1, none⟩)) W := by go_simp
set_option maxHeartbeats 1000000 in
set_option maxRecDepth 100000 in
theorem take_no {w : World} {p : Nat} {ad : Option Addr} {cap : Nat} {bs : List Nat} {i : Nat} (h : Rdr w p ad cap bs i) (m : Nat) (hm : bs.length < i + m) : Calls Try.prog 61 #[.pointer (some ⟨p, 0, none⟩), .int .i64 (m : Int)] w fun e w' => e = .panicked (rfu 76) ∧ Below w.heap.size w w' := by
  have hmx : Try.prog.follows .mixedOrders = true := by kernel_rfl
  have hle := h.le
  have hln := h.ln
  have hlt : decide (((bs.length : Int) - (i : Int)) < (m : Int)) = true := decide_eq_true (by omega)
  go_enter Try.func61, Try.ntmps61
  go_wp2
  refine wp_region_any hmx ?_
  refine wpAny_dies 12 (fun i__ => ([(.pointer (some ⟨p, 0, none⟩)), (.pointer (some ⟨p, 0, none⟩)), (.pointer (some ⟨p, 0, none⟩)), (.slice ad bs.length cap), (.int .i64 (bs.length : Int)), (.pointer (some ⟨p, 0, none⟩)), (.pointer (some ⟨p, 0, none⟩)), (.pointer (some ⟨p, 1, none⟩)), (.int .i64 (i : Int)), (.int .i64 ((bs.length : Int) - (i : Int))), (.int .i64 (m : Int)), (.bool true), undef] : List Value).getD i__ undef) (fun V => Rdr V p ad cap bs i ∧ Below w.heap.size w V) rfl (by kernel_rfl) ⟨h.carry (Below.refl _ _).drew, (Below.refl _ _).drew⟩ ?_ ?_
  · refine (stepsFrom_cons ?_ (stepsFrom_cons ?_ (stepsFrom_cons ?_ (stepsFrom_cons ?_ (stepsFrom_cons ?_ (stepsFrom_cons ?_ (stepsFrom_cons ?_ (stepsFrom_cons ?_ (stepsFrom_cons ?_ (stepsFrom_cons ?_ (stepsFrom_cons ?_ (stepsFrom_cons ?_ trivial))))))))))))
    · exact step_move rfl trivial _ rfl (by kernel_rfl)
    · exact step_nilCheck rfl trivial _ _ _ rfl rfl rfl
    · exact step_fieldAddr rfl trivial _ _ _ _ rfl rfl (fun w hw => rfield0 p w)
    · exact step_load rfl trivial _ _ _ rfl rfl (fun w hw => hw.1.all)
    · exact step_bi rfl trivial _ _ _ [(.slice ad bs.length cap)] rfl (by kernel_rfl) (fun cs w hw => bi_lenB _ cs _ _ _ w)
    · exact step_move rfl trivial _ rfl (by kernel_rfl)
    · exact step_nilCheck rfl trivial _ _ _ rfl rfl rfl
    · exact step_fieldAddr rfl trivial _ _ _ _ rfl rfl (fun w hw => rfield1 p w)
    · exact step_load rfl trivial _ _ _ rfl rfl (fun w hw => hw.1.at)
    · exact step_binOp rfl trivial _ _ _ _ _ _ _ rfl rfl rfl (fun w hw => bin_sub64 _ _ _ (by rw [IntKind.wrap_i64]; omega))
    · exact step_move rfl trivial _ rfl (by kernel_rfl)
    · exact step_binOp rfl trivial _ _ _ _ _ _ _ rfl rfl rfl (fun w hw => by rw [← hlt]; exact bin_lss _ _ _)
  · intro o ho
    cases ho
    exact call_dies rfl trivial 55 _ _ [(.bool true), (Go.Value.int Go.IntKind.i64 76)] rfl (by kernel_rfl) (enters_of Try.func55 (by kernel_rfl) rfl) (rfu 76) (J2 := fun V => Below w.heap.size w V) (fun w hw => (refuse_yes 76 w).mono (by rintro e w' ⟨rfl, rfl⟩; exact ⟨rfl, hw.2⟩)) (fun a w hd hb => ⟨hd, rfl, hb⟩)
theorem Rdr.put {W : World} {p : Nat} {ad : Option Addr} {cap : Nat} {bs : List Nat} {i : Nat} (h : Rdr W p ad cap bs i) (k : Nat) (hk : k ≤ bs.length) : Rdr (W.setCell ⟨p, 1, none⟩ (.int .i64 (k : Int))) p ad cap bs k := by
  refine ⟨?_, fun hne => ?_, hk, h.byt, h.ln, h.cp⟩
  · have := set_get 1 (.int .i64 (k : Int)) h.box
    simpa using this
  · obtain ⟨b, off, h1, h2, h3⟩ := h.rd hne
    exact ⟨b, off, h1, h2, h3.carry (Below.heap_setCell _ _ _ _ (Nat.ne_of_lt h2))⟩
theorem Kb.put (p j : Nat) (W : World) (v : Value) : Kb p W (W.setCell ⟨p, j, none⟩ v) := ⟨Below.setCell (p := ⟨p, j, none⟩) (Below.refl p W) (Nat.le_refl p) v, fun _ h1 _ => Below.heap_setCell _ _ _ _ h1⟩
theorem slice_at (b off len cap lo hi : Nat) (h1 : lo < hi) (h2 : hi ≤ cap) (W : World) : (Instr.sliceAt 22 (.slice (some ⟨b, off, none⟩) len cap) (some (.int .i64 (lo : Int))) (some (.int .i64 (hi : Int))) none).run Try.prog W = .ok (.slice (some ⟨b, off + lo, none⟩) (hi - lo) (cap - lo)) W := by
  have q1 : (lo : Int) ≤ (hi : Int) := by omega
  have q2 : (hi : Int) ≤ (cap : Int) := by omega
  go_simp
  omega
set_option maxHeartbeats 2000000 in
set_option maxRecDepth 100000 in
theorem take_ok {w : World} {p : Nat} {ad : Option Addr} {cap : Nat} {bs : List Nat} {i : Nat} (h : Rdr w p ad cap bs i) (m : Nat) (hm0 : 0 < m) (hm : i + m ≤ bs.length) : Calls Try.prog 61 #[.pointer (some ⟨p, 0, none⟩), .int .i64 (m : Int)] w fun e w' => ∃ a c, e = .returned (.slice a m c) ∧ m ≤ c ∧ RdB w' a ((bs.drop i).take m) ∧ Rdr w' p ad cap bs (i + m) ∧ Kb p w w' := by
  have hmx : Try.prog.follows .mixedOrders = true := by kernel_rfl
  have hle := h.le
  have hln := h.ln
  have hcp := h.cp
  obtain ⟨b, off, rfl, hbp, hat⟩ := h.rd (fun e => by subst e; simp at hm; omega)
  have hlt : decide (((bs.length : Int) - (i : Int)) < (m : Int)) = false := decide_eq_false (by omega)
  go_enter Try.func61, Try.ntmps61
  go_wp2
  refine wp_region_any hmx ?_
  refine wpAny_pure (fun i__ => ([(.pointer (some ⟨p, 0, none⟩)), (.pointer (some ⟨p, 0, none⟩)), (.pointer (some ⟨p, 0, none⟩)), (.slice (some ⟨b, off, none⟩) bs.length cap), (.int .i64 (bs.length : Int)), (.pointer (some ⟨p, 0, none⟩)), (.pointer (some ⟨p, 0, none⟩)), (.pointer (some ⟨p, 1, none⟩)), (.int .i64 (i : Int)), (.int .i64 ((bs.length : Int) - (i : Int))), (.int .i64 (m : Int)), (.bool false), (.tuple #[])] : List Value).getD i__ undef) (fun V => Rdr V p (some ⟨b, off, none⟩) cap bs i ∧ Below w.heap.size w V) (by kernel_rfl) ⟨h.carry (Below.refl _ _).drew, (Below.refl _ _).drew⟩ ?_ ?_
  · refine (stepsFrom_cons ?_ (stepsFrom_cons ?_ (stepsFrom_cons ?_ (stepsFrom_cons ?_ (stepsFrom_cons ?_ (stepsFrom_cons ?_ (stepsFrom_cons ?_ (stepsFrom_cons ?_ (stepsFrom_cons ?_ (stepsFrom_cons ?_ (stepsFrom_cons ?_ (stepsFrom_cons ?_ (stepsFrom_cons ?_ trivial)))))))))))))
    · exact step_move rfl trivial _ rfl (by kernel_rfl)
    · exact step_nilCheck rfl trivial _ _ _ rfl rfl rfl
    · exact step_fieldAddr rfl trivial _ _ _ _ rfl rfl (fun w hw => rfield0 p w)
    · exact step_load rfl trivial _ _ _ rfl rfl (fun w hw => hw.1.all)
    · exact step_bi rfl trivial _ _ _ [(.slice (some ⟨b, off, none⟩) bs.length cap)] rfl (by kernel_rfl) (fun cs w hw => bi_lenB _ cs _ _ _ w)
    · exact step_move rfl trivial _ rfl (by kernel_rfl)
    · exact step_nilCheck rfl trivial _ _ _ rfl rfl rfl
    · exact step_fieldAddr rfl trivial _ _ _ _ rfl rfl (fun w hw => rfield1 p w)
    · exact step_load rfl trivial _ _ _ rfl rfl (fun w hw => hw.1.at)
    · exact step_binOp rfl trivial _ _ _ _ _ _ _ rfl rfl rfl (fun w hw => bin_sub64 _ _ _ (by rw [IntKind.wrap_i64]; omega))
    · exact step_move rfl trivial _ rfl (by kernel_rfl)
    · exact step_binOp rfl trivial _ _ _ _ _ _ _ rfl rfl rfl (fun w hw => by rw [← hlt]; exact bin_lss _ _ _)
    · exact step_call rfl trivial 55 _ _ [(.bool false), (Go.Value.int Go.IntKind.i64 76)] rfl (by kernel_rfl) (enters_of Try.func55 (by kernel_rfl) rfl) (fun w hw => (refuse_no 76 w).mono (by rintro e w' ⟨rfl, rfl⟩; exact ⟨rfl, hw⟩))
  intro W hW
  first | refine hK _ _ ?_ | refine (‹∀ (a : Act) (w : World), Code.wp Try.prog _ _ a w → _›) _ _ ?_
  simp only [finL, List.getD_cons_zero, List.getD_cons_succ, Nat.zero_add, Nat.reduceAdd, List.setIfInBounds_toArray, List.set_cons_zero, List.set_cons_succ]
  obtain ⟨hW1, hb1⟩ := hW
  have hk1 : Kb p w W := Kb.below hb1 (Nat.le_of_lt h.lt)
  have c1 := cell_at hW1.box 1
  have z1 := thaw_at hW1.box 1
  simp at c1
  clear hb1
  have hadd : (i : Int) + (m : Int) = ((i + m : Nat) : Int) := by omega
  have hP := hW1.put (i + m) hm
  have hK2 := hk1.trans (Kb.put p 1 W (.int .i64 ((i + m : Nat) : Int)))
  obtain ⟨q, hq⟩ : ∃ q, q = i + m := ⟨_, rfl⟩
  rw [← hq] at hadd hP hK2
  have HQ : Hid (q = i + m) := hq
  clear hq
  go_wp2
  have hq := HQ.out
  obtain ⟨V, hV⟩ : ∃ V, W.setCell ⟨p, 1, none⟩ (.int .i64 (q : Int)) = V := ⟨_, rfl⟩
  rw [hV] at hP hK2
  rw [hV]
  clear hV c1 z1 hW1 hk1
  refine wp_region_any hmx ?_
  refine wpAny_pure (fun i__ => ([(.pointer (some ⟨p, 0, none⟩)), (.pointer (some ⟨p, 0, none⟩)), (.pointer (some ⟨p, 0, none⟩)), (.slice (some ⟨b, off, none⟩) bs.length cap), (.pointer (some ⟨p, 0, none⟩)), (.pointer (some ⟨p, 0, none⟩)), (.pointer (some ⟨p, 1, none⟩)), (.int .i64 (q : Int)), (.int .i64 (m : Int)), (.int .i64 (i : Int)), (.pointer (some ⟨p, 0, none⟩)), (.pointer (some ⟨p, 0, none⟩)), (.pointer (some ⟨p, 1, none⟩)), (.int .i64 (q : Int)), (.slice (some ⟨b, off + i, none⟩) m (cap - i)), (.slice (some ⟨b, off + i, none⟩) m (cap - i))] : List Value).getD i__ undef) (fun U => Rdr U p (some ⟨b, off, none⟩) cap bs q ∧ Below V.heap.size V U) (by kernel_rfl) ⟨hP.carry (Below.refl _ _).drew, (Below.refl _ _).drew⟩ ?_ ?_
  · refine (stepsFrom_cons ?_ (stepsFrom_cons ?_ (stepsFrom_cons ?_ (stepsFrom_cons ?_ (stepsFrom_cons ?_ (stepsFrom_cons ?_ (stepsFrom_cons ?_ (stepsFrom_cons ?_ (stepsFrom_cons ?_ (stepsFrom_cons ?_ (stepsFrom_cons ?_ (stepsFrom_cons ?_ (stepsFrom_cons ?_ (stepsFrom_cons ?_ (stepsFrom_cons ?_ (stepsFrom_cons ?_ trivial))))))))))))))))
    · exact step_move rfl trivial _ rfl (by kernel_rfl)
    · exact step_nilCheck rfl trivial _ _ _ rfl rfl rfl
    · exact step_fieldAddr rfl trivial _ _ _ _ rfl rfl (fun w hw => rfield0 p w)
    · exact step_load rfl trivial _ _ _ rfl rfl (fun w hw => hw.1.all)
    · exact step_move rfl trivial _ rfl (by kernel_rfl)
    · exact step_nilCheck rfl trivial _ _ _ rfl rfl rfl
    · exact step_fieldAddr rfl trivial _ _ _ _ rfl rfl (fun w hw => rfield1 p w)
    · exact step_load rfl trivial _ _ _ rfl rfl (fun w hw => hw.1.at)
    · exact step_move rfl trivial _ rfl (by kernel_rfl)
    · exact step_binOp rfl trivial _ _ _ _ _ _ _ rfl rfl rfl (fun w hw => bin_sub64 _ _ _ (by rw [IntKind.wrap_i64]; omega))
    · exact step_move rfl trivial _ rfl (by kernel_rfl)
    · exact step_nilCheck rfl trivial _ _ _ rfl rfl rfl
    · exact step_fieldAddr rfl trivial _ _ _ _ rfl rfl (fun w hw => rfield1 p w)
    · exact step_load rfl trivial _ _ _ rfl rfl (fun w hw => hw.1.at)
    · exact step_slice rfl trivial _ _ _ _ _ (some (.int .i64 (i : Int))) (some (.int .i64 (q : Int))) rfl rfl rfl rfl (fun w hw => (slice_at b off bs.length cap i q (by omega) (by omega) w).trans (by rw [show q - i = m by omega]; rfl))
    · exact step_assign rfl trivial _ rfl (by kernel_rfl) (fun _ h => h)
  intro W hW
  first | refine hK _ _ ?_ | refine (‹∀ (a : Act) (w : World), Code.wp Try.prog _ _ a w → _›) _ _ ?_
  simp only [finL, List.getD_cons_zero, List.getD_cons_succ, Nat.zero_add, Nat.reduceAdd, List.setIfInBounds_toArray, List.set_cons_zero, List.set_cons_succ]
  obtain ⟨hU, hbU⟩ := hW
  go_wp2
  go_ret
  subst hq
  refine ⟨_, _, rfl, by omega, fun _ => ⟨b, off + i, rfl, Nat.lt_trans hbp hU.lt, ?_⟩, hU, hK2.trans (Kb.below hbU (Nat.le_of_lt hP.lt))⟩
  obtain ⟨b', off', e, _, hat'⟩ := hU.rd (fun e => by subst e; simp at hm; omega)
  cases e
  exact hat'.sub i m
-- the number of the next bytes
set_option maxHeartbeats 1000000 in
theorem number_no {w : World} {p : Nat} {ad : Option Addr} {cap : Nat} {bs : List Nat} {i : Nat} (h : Rdr w p ad cap bs i) (m : Nat) (hm : bs.length < i + m) : Calls Try.prog 56 #[.pointer (some ⟨p, 0, none⟩), .int .i64 (m : Int)] w fun e w' => e = .panicked (rfu 76) ∧ Below w.heap.size w w' := by
  have ht := take_no h m hm
  go_enter Try.func56, Try.ntmps56
  go_wp2_with (go_at_call 61; (with_reducible refine ht.mono ?_); rintro e w' ⟨rfl, hb⟩)
  exact ⟨rfl, rfl, hb⟩
theorem sub_len {bs : List Nat} {i m : Nat} (h : i + m ≤ bs.length) : ((bs.drop i).take m).length = m := by rw [List.length_take, List.length_drop]; omega
set_option maxHeartbeats 1000000 in
theorem number_ok {w : World} {p : Nat} {ad : Option Addr} {cap : Nat} {bs : List Nat} {i : Nat} (h : Rdr w p ad cap bs i) (m : Nat) (hm0 : 0 < m) (hm7 : m ≤ 7) (hm : i + m ≤ bs.length) : Calls Try.prog 56 #[.pointer (some ⟨p, 0, none⟩), .int .i64 (m : Int)] w fun e w' => e = .returned (.int .i64 (valB 0 ((bs.drop i).take m) : Nat)) ∧ Rdr w' p ad cap bs (i + m) ∧ Kb p w w' := by
  have ht := take_ok h m hm0 hm
  have hnu : ∀ a c W, RdB W a ((bs.drop i).take m) → Calls Try.prog 71 #[.slice a m c] W fun e w' => e = .returned (.int .i64 (valB 0 ((bs.drop i).take m) : Nat)) ∧ w' = W := fun a c W hr => by
    have := numberOf_any a c ((bs.drop i).take m) W hr ((h.byt.drop _).take _) (by rw [sub_len hm]; exact hm7)
    rw [sub_len hm] at this
    exact this
  generalize valB 0 ((bs.drop i).take m) = X at *
  go_enter Try.func56, Try.ntmps56
  go_wp2_with (first | (go_at_call 61; (with_reducible refine ht.mono ?_); rintro e w' ⟨a, c, rfl, hc, hr, hR, hk⟩) | (go_at_call 71; (with_reducible refine (hnu _ _ _ hr).mono ?_); rintro e w2 ⟨rfl, hu⟩; rw [hu]; clear hu w2))
  go_ret
  exact ⟨rfl, hR, hk⟩
end Go.Proofs.Ytndogopllcpiiaa
