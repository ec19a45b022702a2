/- wire.reader.fields at every bytes; reader.end; fields.note: what they answer. -/
import Derived.Test.YtnomeinppdnhfaaGreatJnJ1
import Derived.Defers
import Derived.Recover
import Derived.Test.YtnomeinppdnhfaaGreatWre
import Derived.Lib.SlBytesConst
namespace Go.Proofs.YtnomeinppdnhfaaGreat
open Go.RowKit Go.Shelf

theorem fields_any {w : World} {p : Nat} {ad : Option Addr} {cap : Nat} {bs : List Nat} (h : Rdr w p ad cap bs 0) (n : Nat) (hn1 : 1 ≤ n) (hn : n ≤ 100) : Calls Tryz.prog 26 #[.pointer (some ⟨p, 0, none⟩), .int .i64 (n : Int)] w (FdO p ad cap bs (rdF n bs) w) := by
  unfold rdF
  by_cases h1 : bs.length < 2
  · rw [if_pos h1]
    exact fd1 h n h1
  rw [if_neg h1]
  replace h1 : 2 ≤ bs.length := by omega
  by_cases hM : nm bs 0 2 = 25971
  case neg =>
    rw [if_pos hM]
    exact fd2 h n h1 _ rfl hM
  rw [if_neg (fun q => q hM)]
  by_cases h2 : bs.length < 3
  · rw [if_pos h2]
    exact fd3 h n h1 hM h2
  rw [if_neg h2]
  replace h2 : 3 ≤ bs.length := by omega
  by_cases hk : 1 ≤ nm bs 2 1 ∧ nm bs 2 1 ≤ 3
  case neg =>
    rw [if_pos hk]
    by_cases q : nm bs 2 1 < 1
    · exact fd4a h n h1 hM h2 _ rfl q
    · exact fd4b h n h1 hM h2 _ rfl (by omega)
  rw [if_neg (fun q => q hk)]
  obtain ⟨hk1, hk3⟩ := hk
  by_cases h3 : bs.length < 4
  · rw [if_pos h3]
    exact fd5 h n h1 hM h2 _ rfl hk1 hk3 h3
  rw [if_neg h3]
  replace h3 : 4 ≤ bs.length := by omega
  by_cases hs : nm bs 3 1 = n
  case neg =>
    rw [if_pos hs]
    exact fd6 h n h1 hM h2 _ rfl hk1 hk3 h3 _ rfl hs
  rw [if_neg (fun q => q hs)]
  by_cases h4 : bs.length < 5
  · rw [if_pos h4]
    exact fd7 h n h1 hM h2 _ rfl hk1 hk3 h3 hs h4
  rw [if_neg h4]
  replace h4 : 5 ≤ bs.length := by omega
  by_cases hg : n ≤ nm bs 4 1
  · rw [if_pos hg]
    exact fd8 h n h1 hM h2 _ rfl hk1 hk3 h3 hs h4 _ rfl hg
  rw [if_neg hg]
  replace hg : nm bs 4 1 < n := by omega
  unfold rd2
  by_cases hk4 : nm bs 2 1 = 3
  · rw [if_pos hk4, rd3, if_neg (by omega), rd4]
    cases hW : rdW n bs 5 with
    | error er => exact fd9x h n h1 hM h2 _ rfl h3 hs h4 _ rfl hg hk4 hn er hW
    | ok q => exact fd9o h n h1 hM h2 _ rfl h3 hs h4 _ rfl hg hk4 hn q.1 q.2 hW
  rw [if_neg hk4]
  by_cases h5 : bs.length < 10
  · rw [if_pos h5]
    exact fd10 h n h1 hM h2 _ rfl hk1 hk3 hk4 h3 hs h4 _ rfl hg h5
  rw [if_neg h5]
  replace h5 : 10 ≤ bs.length := by omega
  by_cases hr : 1 ≤ nm bs 5 5 ∧ nm bs 5 5 ≤ 1099511627775
  case neg =>
    rw [if_pos hr]
    exact fd11 h n h1 hM h2 _ rfl hk1 hk3 hk4 h3 hs h4 _ rfl hg h5 _ rfl hr
  rw [if_neg (fun q => q hr)]
  unfold rd3
  by_cases hk5 : nm bs 2 1 = 2
  · rw [if_pos hk5]
    by_cases h6 : bs.length < 10 + hsz n
    · rw [if_pos h6]
      exact fd13 h n h1 hM h2 _ rfl hk4 h3 hs h4 _ rfl hg h5 _ rfl hr hk5 hn hn1 h6
    rw [if_neg h6]
    replace h6 : 10 + hsz n ≤ bs.length := by omega
    by_cases hw : wthB (vlS ((bs.drop 10).take (hsz n))) n = false
    · rw [if_pos hw]
      exact fd14 h n h1 hM h2 _ rfl hk4 h3 hs h4 _ rfl hg h5 _ rfl hr hk5 hn hn1 h6 _ rfl hw
    rw [if_neg hw, rd4]
    replace hw : wthB (vlS ((bs.drop 10).take (hsz n))) n = true := by simpa using hw
    cases hW : rdW n bs (10 + hsz n) with
    | error er => exact fd15x h n h1 hM h2 _ rfl hk4 h3 hs h4 _ rfl hg h5 _ rfl hr hk5 hn1 h6 _ rfl hw hn er hW
    | ok q => exact fd15o h n h1 hM h2 _ rfl hk4 h3 hs h4 _ rfl hg h5 _ rfl hr hk5 hn1 h6 _ rfl hw hn q.1 q.2 hW
  · rw [if_neg hk5, rd4]
    cases hW : rdW n bs 10 with
    | error er => exact fd12x h n h1 hM h2 _ rfl hk1 hk3 hk4 h3 hs h4 _ rfl hg h5 _ rfl hr hk5 hn er hW
    | ok q => exact fd12o h n h1 hM h2 _ rfl hk1 hk3 hk4 h3 hs h4 _ rfl hg h5 _ rfl hr hk5 hn q.1 q.2 hW
theorem slice_to (b off len cap hi : Nat) (h2 : hi ≤ cap) (W : World) : (Instr.sliceAt 46 (.slice (some ⟨b, off, none⟩) len cap) none (some (.int .i64 (hi : Int))) none).run Tryz.prog W = .ok (.slice (some ⟨b, off, none⟩) hi cap) W := by
  have q2 : (hi : Int) ≤ (cap : Int) := by omega
  go_simp
/-- How the end is taken. -/
def EnO (p : Nat) (bs : List Nat) (j : Nat) (w : World) (e : Ending) (w' : World) : Prop :=
  e = (if bs.length < j + 4 then .panicked (rfu 76) else if nm bs j 4 ≠ sumV (bs.take j) then .panicked (rfu 77) else if j + 4 < bs.length then .panicked (rfu 2) else .returned (.tuple #[])) ∧ Kb p w w'
set_option maxHeartbeats 4000000 in
set_option maxRecDepth 100000 in
theorem end_any {w : World} {p : Nat} {ad : Option Addr} {cap : Nat} {bs : List Nat} {j : Nat} (h : Rdr w p ad cap bs j) (hne : bs ≠ []) : Calls Tryz.prog 27 #[.pointer (some ⟨p, 0, none⟩)] w (EnO p bs j w) := by
  have hmx : Tryz.prog.follows .mixedOrders = true := by kernel_rfl
  have hle := h.le
  have hln := h.ln
  have hcp := h.cp
  obtain ⟨b, off, rfl, hbp, hat⟩ := h.rd hne
  have hsum : ∀ W, Rdr W p (some ⟨b, off, none⟩) cap bs j → Calls Tryz.prog 18 #[.slice (some ⟨b, off, none⟩) j cap] W fun e W' => e = .returned (.int .i64 (sumV (bs.take j) : Nat)) ∧ W' = W := fun W hW => by
    obtain ⟨b', off', e, hb', hat'⟩ := hW.rd hne
    cases e
    have := sum_any (some ⟨b, off, none⟩) cap (bs.take j) W (fun _ => ⟨b, off, rfl, Nat.lt_trans hb' hW.lt, by have := hat'.sub 0 j; simpa using this⟩) (hW.byt.take j) (by rw [List.length_take]; omega)
    rw [List.length_take, Nat.min_eq_left hle] at this
    exact this
  obtain ⟨SV, hSV⟩ : ∃ SV, sumV (bs.take j) = SV := ⟨_, rfl⟩
  rw [hSV] at hsum
  unfold EnO
  rw [hSV]
  clear hSV
  have hr77 := refuse_yes 77
  have hn77 := refuse_no 77
  by_cases h4 : bs.length < j + 4
  case pos =>
    rw [if_pos h4]
    have hx : ∀ W, Rdr W p (some ⟨b, off, none⟩) cap bs j → Calls Tryz.prog 82 #[.pointer (some ⟨p, 0, none⟩), .int .i64 4] W fun e W' => e = .panicked (rfu 76) ∧ Below W.heap.size W W' := fun W hW => number_no hW 4 h4
    go_enter Tryz.func27, Tryz.ntmps27
    go_wp2
    refine wp_region_any hmx ?_
    refine wpAny_pure (fun i__ => ([(.pointer (some ⟨p, 0, none⟩)), (.pointer (some ⟨p, 0, none⟩)), (.pointer (some ⟨p, 0, none⟩)), (.slice (some ⟨b, off, none⟩) bs.length cap), (.pointer (some ⟨p, 0, none⟩)), (.pointer (some ⟨p, 0, none⟩)), (.pointer (some ⟨p, 1, none⟩)), (.int .i64 (j : Int)), (.slice (some ⟨b, off, none⟩) j cap), (.int .i64 (SV : Int)), (.int .i64 (SV : Int))] : List Value).getD i__ undef) (fun V => Rdr V p (some ⟨b, off, none⟩) cap bs j ∧ Below w.heap.size w V) (by kernel_rfl) ⟨h.carry (Below.refl _ _).drew, (Below.refl _ _).drew⟩ ?_ ?_
    · refine (stepsFrom_cons ?_ (stepsFrom_cons ?_ (stepsFrom_cons ?_ (stepsFrom_cons ?_ (stepsFrom_cons ?_ (stepsFrom_cons ?_ (stepsFrom_cons ?_ (stepsFrom_cons ?_ (stepsFrom_cons ?_ (stepsFrom_cons ?_ (stepsFrom_cons ?_ trivial)))))))))))
      · exact step_move rfl trivial _ rfl (by kernel_rfl)
      · exact step_nilCheck rfl trivial _ _ _ rfl rfl rfl
      · exact step_fieldAddr rfl trivial _ _ _ _ rfl rfl (fun w hw => rfield0 p w)
      · exact step_load rfl trivial _ _ _ rfl rfl (fun w hw => hw.1.all)
      · exact step_move rfl trivial _ rfl (by kernel_rfl)
      · exact step_nilCheck rfl trivial _ _ _ rfl rfl rfl
      · exact step_fieldAddr rfl trivial _ _ _ _ rfl rfl (fun w hw => rfield1 p w)
      · exact step_load rfl trivial _ _ _ rfl rfl (fun w hw => hw.1.at)
      · exact step_slice rfl trivial _ _ _ _ _ none (some (.int .i64 (j : Int))) rfl rfl rfl rfl (fun w hw => slice_to b off bs.length cap j (by omega) w)
      · exact step_call rfl trivial 18 _ _ [(.slice (some ⟨b, off, none⟩) j cap)] rfl (by kernel_rfl) (enters_of Tryz.func18 (by kernel_rfl) rfl) (fun w hw => (hsum w hw.1).mono (by rintro e w' ⟨rfl, rfl⟩; exact ⟨rfl, hw⟩))
      · exact step_assign rfl trivial _ rfl (by kernel_rfl) (fun _ h => h)
    intro W hW
    first | refine hK _ _ ?_ | refine (‹∀ (a : Act) (w : World), Code.wp Tryz.prog _ _ a w → _›) _ _ ?_ | skip
    simp only [finL, List.getD_cons_zero, List.getD_cons_succ, Nat.zero_add, Nat.reduceAdd, List.setIfInBounds_toArray, List.set_cons_zero, List.set_cons_succ]
    obtain ⟨hW1, hb1⟩ := hW
    go_wp2_with (go_at_call 82; (with_reducible refine (hx _ hW1).mono ?_); rintro e u2 ⟨rfl, hb2⟩)
    exact ⟨rfl, rfl, (Kb.below hb1 (Nat.le_of_lt h.lt)).trans (Kb.below hb2 (Nat.le_of_lt hW1.lt))⟩
  rw [if_neg h4]
  have hnu : ∀ W, Rdr W p (some ⟨b, off, none⟩) cap bs j → Calls Tryz.prog 82 #[.pointer (some ⟨p, 0, none⟩), .int .i64 4] W fun e W' => e = .returned (.int .i64 (nm bs j 4 : Nat)) ∧ Rdr W' p (some ⟨b, off, none⟩) cap bs (j + 4) ∧ Kb p W W' := fun W hW => number_ok hW 4 (by decide) (by decide) (by omega)
  generalize nm bs j 4 = NV at *
  by_cases hs : NV = SV
  case neg =>
    rw [if_pos hs]
    have hsi : ((NV : Int) != (SV : Int)) = true := by simp; omega
    go_enter Tryz.func27, Tryz.ntmps27
    go_wp2
    refine wp_region_any hmx ?_
    refine wpAny_pure (fun i__ => ([(.pointer (some ⟨p, 0, none⟩)), (.pointer (some ⟨p, 0, none⟩)), (.pointer (some ⟨p, 0, none⟩)), (.slice (some ⟨b, off, none⟩) bs.length cap), (.pointer (some ⟨p, 0, none⟩)), (.pointer (some ⟨p, 0, none⟩)), (.pointer (some ⟨p, 1, none⟩)), (.int .i64 (j : Int)), (.slice (some ⟨b, off, none⟩) j cap), (.int .i64 (SV : Int)), (.int .i64 (SV : Int))] : List Value).getD i__ undef) (fun V => Rdr V p (some ⟨b, off, none⟩) cap bs j ∧ Below w.heap.size w V) (by kernel_rfl) ⟨h.carry (Below.refl _ _).drew, (Below.refl _ _).drew⟩ ?_ ?_
    · refine (stepsFrom_cons ?_ (stepsFrom_cons ?_ (stepsFrom_cons ?_ (stepsFrom_cons ?_ (stepsFrom_cons ?_ (stepsFrom_cons ?_ (stepsFrom_cons ?_ (stepsFrom_cons ?_ (stepsFrom_cons ?_ (stepsFrom_cons ?_ (stepsFrom_cons ?_ trivial)))))))))))
      · exact step_move rfl trivial _ rfl (by kernel_rfl)
      · exact step_nilCheck rfl trivial _ _ _ rfl rfl rfl
      · exact step_fieldAddr rfl trivial _ _ _ _ rfl rfl (fun w hw => rfield0 p w)
      · exact step_load rfl trivial _ _ _ rfl rfl (fun w hw => hw.1.all)
      · exact step_move rfl trivial _ rfl (by kernel_rfl)
      · exact step_nilCheck rfl trivial _ _ _ rfl rfl rfl
      · exact step_fieldAddr rfl trivial _ _ _ _ rfl rfl (fun w hw => rfield1 p w)
      · exact step_load rfl trivial _ _ _ rfl rfl (fun w hw => hw.1.at)
      · exact step_slice rfl trivial _ _ _ _ _ none (some (.int .i64 (j : Int))) rfl rfl rfl rfl (fun w hw => slice_to b off bs.length cap j (by omega) w)
      · exact step_call rfl trivial 18 _ _ [(.slice (some ⟨b, off, none⟩) j cap)] rfl (by kernel_rfl) (enters_of Tryz.func18 (by kernel_rfl) rfl) (fun w hw => (hsum w hw.1).mono (by rintro e w' ⟨rfl, rfl⟩; exact ⟨rfl, hw⟩))
      · exact step_assign rfl trivial _ rfl (by kernel_rfl) (fun _ h => h)
    intro W hW
    first | refine hK _ _ ?_ | refine (‹∀ (a : Act) (w : World), Code.wp Tryz.prog _ _ a w → _›) _ _ ?_ | skip
    simp only [finL, List.getD_cons_zero, List.getD_cons_succ, Nat.zero_add, Nat.reduceAdd, List.setIfInBounds_toArray, List.set_cons_zero, List.set_cons_succ]
    obtain ⟨hW1, hb1⟩ := hW
    go_wp2_with (first | (go_at_call 82; (with_reducible refine (hnu _ hW1).mono ?_); rintro e u2 ⟨rfl, hr2, hk2⟩) | (go_at_call 81; (with_reducible refine (hr77 _).mono ?_); rintro e ur ⟨rfl, hu⟩; rw [hu]; clear hu ur))
    exact ⟨rfl, rfl, (Kb.below hb1 (Nat.le_of_lt h.lt)).trans hk2⟩
  rw [if_neg (fun q => q hs)]
  subst hs
  obtain ⟨E, hE⟩ : ∃ E : Ending, (if j + 4 < bs.length then .panicked (rfu 2) else .returned (.tuple #[])) = E := ⟨_, rfl⟩
  rw [hE]
  have HE : Hid ((if j + 4 < bs.length then .panicked (rfu 2) else .returned (.tuple #[])) = E) := hE
  clear hE
  go_enter Tryz.func27, Tryz.ntmps27
  go_wp2
  refine wp_region_any hmx ?_
  refine wpAny_pure (fun i__ => ([(.pointer (some ⟨p, 0, none⟩)), (.pointer (some ⟨p, 0, none⟩)), (.pointer (some ⟨p, 0, none⟩)), (.slice (some ⟨b, off, none⟩) bs.length cap), (.pointer (some ⟨p, 0, none⟩)), (.pointer (some ⟨p, 0, none⟩)), (.pointer (some ⟨p, 1, none⟩)), (.int .i64 (j : Int)), (.slice (some ⟨b, off, none⟩) j cap), (.int .i64 (NV : Int)), (.int .i64 (NV : Int))] : List Value).getD i__ undef) (fun V => Rdr V p (some ⟨b, off, none⟩) cap bs j ∧ Below w.heap.size w V) (by kernel_rfl) ⟨h.carry (Below.refl _ _).drew, (Below.refl _ _).drew⟩ ?_ ?_
  · refine (stepsFrom_cons ?_ (stepsFrom_cons ?_ (stepsFrom_cons ?_ (stepsFrom_cons ?_ (stepsFrom_cons ?_ (stepsFrom_cons ?_ (stepsFrom_cons ?_ (stepsFrom_cons ?_ (stepsFrom_cons ?_ (stepsFrom_cons ?_ (stepsFrom_cons ?_ trivial)))))))))))
    · exact step_move rfl trivial _ rfl (by kernel_rfl)
    · exact step_nilCheck rfl trivial _ _ _ rfl rfl rfl
    · exact step_fieldAddr rfl trivial _ _ _ _ rfl rfl (fun w hw => rfield0 p w)
    · exact step_load rfl trivial _ _ _ rfl rfl (fun w hw => hw.1.all)
    · exact step_move rfl trivial _ rfl (by kernel_rfl)
    · exact step_nilCheck rfl trivial _ _ _ rfl rfl rfl
    · exact step_fieldAddr rfl trivial _ _ _ _ rfl rfl (fun w hw => rfield1 p w)
    · exact step_load rfl trivial _ _ _ rfl rfl (fun w hw => hw.1.at)
    · exact step_slice rfl trivial _ _ _ _ _ none (some (.int .i64 (j : Int))) rfl rfl rfl rfl (fun w hw => slice_to b off bs.length cap j (by omega) w)
    · exact step_call rfl trivial 18 _ _ [(.slice (some ⟨b, off, none⟩) j cap)] rfl (by kernel_rfl) (enters_of Tryz.func18 (by kernel_rfl) rfl) (fun w hw => (hsum w hw.1).mono (by rintro e w' ⟨rfl, rfl⟩; exact ⟨rfl, hw⟩))
    · exact step_assign rfl trivial _ rfl (by kernel_rfl) (fun _ h => h)
  intro W hW
  first | refine hK _ _ ?_ | refine (‹∀ (a : Act) (w : World), Code.wp Tryz.prog _ _ a w → _›) _ _ ?_ | skip
  simp only [finL, List.getD_cons_zero, List.getD_cons_succ, Nat.zero_add, Nat.reduceAdd, List.setIfInBounds_toArray, List.set_cons_zero, List.set_cons_succ]
  obtain ⟨hW1, hb1⟩ := hW
  go_wp2_with (first | (go_at_call 82; (with_reducible refine (hnu _ hW1).mono ?_); rintro e u2 ⟨rfl, hr2, hk2⟩) | (go_at_call 81; (with_reducible refine (hn77 _).mono ?_); rintro e ur ⟨rfl, hu⟩; rw [hu]; clear hu ur))
  have hkk := (Kb.below hb1 (Nat.le_of_lt h.lt)).trans hk2
  by_cases hj : j + 4 < bs.length
  · have hjd : decide (((j + 4 : Nat) : Int) < (bs.length : Int)) = true := decide_eq_true (by omega)
    refine wp_region_any hmx ?_
    refine wpAny_dies 10 (fun i__ => ([(.pointer (some ⟨p, 0, none⟩)), (.pointer (some ⟨p, 0, none⟩)), (.pointer (some ⟨p, 1, none⟩)), (.int .i64 ((j + 4 : Nat) : Int)), (.pointer (some ⟨p, 0, none⟩)), (.pointer (some ⟨p, 0, none⟩)), (.pointer (some ⟨p, 0, none⟩)), (.slice (some ⟨b, off, none⟩) bs.length cap), (.int .i64 (bs.length : Int)), (.bool true), undef] : List Value).getD i__ undef) (fun V => Rdr V p (some ⟨b, off, none⟩) cap bs (j + 4) ∧ Kb p w V) rfl (by kernel_rfl) ⟨hr2.carry (Below.refl _ _).drew, hkk.trans (Kb.below (Below.refl _ _).drew (Nat.le_of_lt hr2.lt))⟩ ?_ ?_
    · refine (stepsFrom_cons ?_ (stepsFrom_cons ?_ (stepsFrom_cons ?_ (stepsFrom_cons ?_ (stepsFrom_cons ?_ (stepsFrom_cons ?_ (stepsFrom_cons ?_ (stepsFrom_cons ?_ (stepsFrom_cons ?_ (stepsFrom_cons ?_ trivial))))))))))
      · exact step_move rfl trivial _ rfl (by kernel_rfl)
      · exact step_nilCheck rfl trivial _ _ _ rfl rfl rfl
      · exact step_fieldAddr rfl trivial _ _ _ _ rfl rfl (fun w hw => rfield1 p w)
      · exact step_load rfl trivial _ _ _ rfl rfl (fun w hw => hw.1.at)
      · exact step_move rfl trivial _ rfl (by kernel_rfl)
      · exact step_nilCheck rfl trivial _ _ _ rfl rfl rfl
      · exact step_fieldAddr rfl trivial _ _ _ _ rfl rfl (fun w hw => rfield0 p w)
      · exact step_load rfl trivial _ _ _ rfl rfl (fun w hw => hw.1.all)
      · exact step_bi rfl trivial _ _ _ [(.slice (some ⟨b, off, none⟩) bs.length cap)] rfl (by kernel_rfl) (fun cs w hw => bi_lenB _ cs _ _ _ w)
      · exact step_binOp rfl trivial _ _ _ _ _ _ _ rfl rfl rfl (fun w hw => by rw [← hjd]; exact bin_lss _ _ _)
    · intro o ho
      cases ho
      exact call_dies rfl trivial 81 _ _ [(.bool true), (Go.Value.int Go.IntKind.i64 2)] rfl (by kernel_rfl) (enters_of Tryz.func81 (by kernel_rfl) rfl) (rfu 2) (J2 := fun V => Kb p w V) (fun w hw => (refuse_yes 2 w).mono (by rintro e w' ⟨rfl, rfl⟩; exact ⟨rfl, hw.2⟩)) (fun a w hd hb => ⟨hd, by rw [← HE.out, if_pos hj], hb⟩)
  · have hjd : decide (((j + 4 : Nat) : Int) < (bs.length : Int)) = false := decide_eq_false (by omega)
    have hK : ∀ (a : Act) (V : World), bodyPost Tryz.prog Tryz.f27 (fun e w' => e = E ∧ Kb p w w') .normal a V → bodyPost Tryz.prog Tryz.f27 (fun e w' => e = E ∧ Kb p w w') .normal a V := fun _ _ h => h
    refine wp_region_any hmx ?_
    refine wpAny_pure (fun i__ => ([(.pointer (some ⟨p, 0, none⟩)), (.pointer (some ⟨p, 0, none⟩)), (.pointer (some ⟨p, 1, none⟩)), (.int .i64 ((j + 4 : Nat) : Int)), (.pointer (some ⟨p, 0, none⟩)), (.pointer (some ⟨p, 0, none⟩)), (.pointer (some ⟨p, 0, none⟩)), (.slice (some ⟨b, off, none⟩) bs.length cap), (.int .i64 (bs.length : Int)), (.bool false), (.tuple #[])] : List Value).getD i__ undef) (fun V => Rdr V p (some ⟨b, off, none⟩) cap bs (j + 4) ∧ Kb p w V) (by kernel_rfl) ⟨hr2.carry (Below.refl _ _).drew, hkk.trans (Kb.below (Below.refl _ _).drew (Nat.le_of_lt hr2.lt))⟩ ?_ ?_
    · refine (stepsFrom_cons ?_ (stepsFrom_cons ?_ (stepsFrom_cons ?_ (stepsFrom_cons ?_ (stepsFrom_cons ?_ (stepsFrom_cons ?_ (stepsFrom_cons ?_ (stepsFrom_cons ?_ (stepsFrom_cons ?_ (stepsFrom_cons ?_ (stepsFrom_cons ?_ trivial)))))))))))
      · exact step_move rfl trivial _ rfl (by kernel_rfl)
      · exact step_nilCheck rfl trivial _ _ _ rfl rfl rfl
      · exact step_fieldAddr rfl trivial _ _ _ _ rfl rfl (fun w hw => rfield1 p w)
      · exact step_load rfl trivial _ _ _ rfl rfl (fun w hw => hw.1.at)
      · exact step_move rfl trivial _ rfl (by kernel_rfl)
      · exact step_nilCheck rfl trivial _ _ _ rfl rfl rfl
      · exact step_fieldAddr rfl trivial _ _ _ _ rfl rfl (fun w hw => rfield0 p w)
      · exact step_load rfl trivial _ _ _ rfl rfl (fun w hw => hw.1.all)
      · exact step_bi rfl trivial _ _ _ [(.slice (some ⟨b, off, none⟩) bs.length cap)] rfl (by kernel_rfl) (fun cs w hw => bi_lenB _ cs _ _ _ w)
      · exact step_binOp rfl trivial _ _ _ _ _ _ _ rfl rfl rfl (fun w hw => by rw [← hjd]; exact bin_lss _ _ _)
      · exact step_call rfl trivial 81 _ _ [(.bool false), (Go.Value.int Go.IntKind.i64 2)] rfl (by kernel_rfl) (enters_of Tryz.func81 (by kernel_rfl) rfl) (fun w hw => (refuse_no 2 w).mono (by rintro e w' ⟨rfl, rfl⟩; exact ⟨rfl, hw⟩))
    intro W hW
    first | refine hK _ _ ?_ | refine (‹∀ (a : Act) (w : World), Code.wp Tryz.prog _ _ a w → _›) _ _ ?_ | skip
    simp only [finL, List.getD_cons_zero, List.getD_cons_succ, Nat.zero_add, Nat.reduceAdd, List.setIfInBounds_toArray, List.set_cons_zero, List.set_cons_succ]
    go_end0
    exact ⟨by rw [← HE.out, if_neg hj], hW.2⟩
/-- A note's value. -/
def noteV (kd : Nat) (fr rd : Int) (N : Nat) (v : Value) : Value :=
  if kd = 1 then .iface 70 (.agg #[.int .i64 fr, .int .i64 rd, v])
  else if kd = 2 then .iface 73 (.agg #[.int .i64 fr, .int .i64 rd, .int .u32 (wd N 0 : Nat), .int .u32 (wd N 1 : Nat), .int .u32 (wd N 2 : Nat), .int .u32 (wd N 3 : Nat), v])
  else .iface 75 (.agg #[.int .i64 fr, v])
set_option maxHeartbeats 1000000 in
set_option maxRecDepth 100000 in
theorem note_any (kd : Nat) (fr rd : Int) (N : Nat) (a : Option Addr) (m c : Nat) (w : World) : Calls Tryz.prog 28 #[fv kd fr rd N (.slice a m c)] w fun e w' => e = .returned (noteV kd fr rd N (.slice a m c)) ∧ Below w.heap.size w w' := by
  unfold noteV
  simp only [fv, fcs]
  by_cases h1 : kd = 1
  · rw [if_pos h1]
    subst h1
    go_enter Tryz.func28, Tryz.ntmps28
    go_wp2
    go_ret
    exact ⟨rfl, al1' w _⟩
  rw [if_neg h1]
  by_cases h2 : kd = 2
  · rw [if_pos h2]
    subst h2
    go_enter Tryz.func28, Tryz.ntmps28
    go_wp2
    go_ret
    exact ⟨rfl, al1' w _⟩
  rw [if_neg h2]
  have q1 : ((kd : Int) == 1) = false := by simp; omega
  have q2 : ((kd : Int) == 2) = false := by simp; omega
  go_enter Tryz.func28, Tryz.ntmps28
  go_wp2
  go_ret
  exact ⟨rfl, al1' w _⟩
end Go.Proofs.YtnomeinppdnhfaaGreat
namespace Go.Proofs.YtnomeinppdnhfaaGreat
open Go.RowKit Go.Shelf

theorem assertR_yes (v : Value) (w : World) : (Instr.typeAssert (.iface 82 v) 20 82 true).run Tryz.prog w = .ok (.tuple #[v, .bool true]) w := by kernel_rfl
theorem assertR_nil (w : World) : (Instr.typeAssert .nilIface 20 82 true).run Tryz.prog w = .ok (.tuple #[.int .i64 0, .bool false]) w := by kernel_rfl
set_option maxHeartbeats 1000000 in
set_option maxRecDepth 100000 in
theorem catch_panic (a b : Nat) (x : Value) (y er : Int) (older : List PanicEntry) (w : World) (ha : w.cell? ⟨a, 0, none⟩ = some x) (hb : w.cell? ⟨b, 0, none⟩ = some (.int .i64 y)) (hza : w.frozen? ⟨a, 0, none⟩ = false) (hzb : w.frozen? ⟨b, 0, none⟩ = false) (hab : ¬ b = a) :
    CallsD Tryz.prog 25 #[.pointer (some ⟨a, 0, none⟩), .pointer (some ⟨b, 0, none⟩)] (.panicking ({ v := .iface 82 (.int .i64 er), recovered := false } :: older)) w fun e u' w' =>
      e = .returned (.tuple #[]) ∧ u' = .panicking ({ v := .iface 82 (.int .i64 er), recovered := true } :: older) ∧ w' = (w.setCell ⟨a, 0, none⟩ .nilIface).setCell ⟨b, 0, none⟩ (.int .i64 er) := by
  revert hab
  intro hab
  refine callsD_of_wpS Tryz.func25 rfl fun c₀ cs hu => ?_
  apply wpS_seq
  apply wpS_region
  simp [wpOpsS, go_sem, recoverD, hu, Tryz.ntmps25, Exit.thenS, assertR_yes]
  apply wpS_seq
  apply wpS_region
  simp [wpOpsS, go_sem, Exit.thenS]
  refine wpS_cond (t := true) (by simp [Act.eval, Array.replicate]) ?_
  simp only [if_true]
  apply wpS_region
  simp [wpOpsS, go_sem, ha, hb, hza, hzb, bodyPostS, results, Tryz.results25]
set_option maxHeartbeats 1000000 in
set_option maxRecDepth 100000 in
theorem catch_idle (a b : Nat) (w : World) :
    CallsD Tryz.prog 25 #[.pointer (some ⟨a, 0, none⟩), .pointer (some ⟨b, 0, none⟩)] .returning w fun e u' w' => e = .returned (.tuple #[]) ∧ u' = .returning ∧ w' = w := by
  refine callsD_of_wpS Tryz.func25 rfl fun c₀ cs hu => ?_
  apply wpS_seq
  apply wpS_region
  simp [wpOpsS, go_sem, recoverD, hu, Tryz.ntmps25, Exit.thenS, assertR_nil]
  apply wpS_seq
  apply wpS_region
  simp [wpOpsS, go_sem, Exit.thenS]
  refine wpS_cond (t := false) (by simp [Act.eval, Array.replicate]) ?_
  simp only [Bool.false_eq_true, if_false]
  refine wpS_of_wp (wp_skip ?_)
  cases c₀
  simp_all [bodyPostS, results, Tryz.results25]
/-- What Decode answers. -/
def DcO (n : Int) (bs : List Nat) (w : World) (e : Ending) (w' : World) : Prop :=
  match dec n bs with
  | .error er => e = .returned (.tuple #[.nilIface, .int .i64 er]) ∧ Below w.heap.size w w'
  | .ok (kd, fr, rd, N, l) => ∃ a c, e = .returned (.tuple #[noteV kd (fr : Int) (rd : Int) N (.slice a l.length c), .int .i64 0]) ∧ w'.ownsRow w.heap.size 80 3 (.slice a l.length c) l.length (fl l) ∧ Below w.heap.size w w'
theorem dco_err {n : Int} {bs : List Nat} {w w' : World} {er : Int} (h : dec n bs = .error er) (hb : Below w.heap.size w w') : DcO n bs w (.returned (.tuple #[.nilIface, .int .i64 er])) w' := by
  unfold DcO
  rw [h]
  exact ⟨rfl, hb⟩
theorem hmf : ∀ (fn : Fn) (first cap : Array Value) (w : World), (Instr.makeFunc fn first cap).run Tryz.prog w = .ok (.func fn first cap) w := fun _ _ _ _ => rfl
theorem noteV_form (kd : Nat) (fr rd : Int) (N : Nat) (v : Value) : ∃ t x, noteV kd fr rd N v = .iface t x := by
  unfold noteV
  split
  · exact ⟨_, _, rfl⟩
  split
  · exact ⟨_, _, rfl⟩
  · exact ⟨_, _, rfl⟩
theorem res2 {tmps : Array Value} {W : World} {a b : Nat} {x : Value} {y : Int} (h4 : tmps[4]?.getD undef = .pointer (some ⟨a, 0, none⟩)) (h5 : tmps[5]?.getD undef = .pointer (some ⟨b, 0, none⟩)) (hx : W.heap[a]? = some (.cells #[x] 50 (0, 0))) (hy : W.heap[b]? = some (.cells #[.int .i64 y] 47 (0, 0))) : (results Tryz.f10 tmps).run Tryz.prog W = .ok (.tuple #[x, .int .i64 y]) W := by
  have c1 := cell_at hx 0
  have c2 := cell_at hy 0
  simp at c1 c2
  simp [results, Tryz.results10, go_sem, h4, h5, c1, c2]
set_option maxHeartbeats 2000000 in
set_option maxRecDepth 100000 in
theorem decode_any (ad : Option Addr) (cap : Nat) (bs : List Nat) (n : Int) (w : World) (h : RdB w ad bs) (hb : Byt bs) (hc : bs.length ≤ cap) : Calls Tryz.prog 10 #[.slice ad bs.length cap, .int .i64 n] w (DcO n bs w) := by
  have hmf := hmf
  have hsz := isSize_any n
  by_cases h1 : 1 ≤ n ∧ n ≤ 100
  case neg =>
    rw [decide_eq_false h1] at hsz
    have HD : Hid (dec n bs = .error 1) := if_pos h1
    go_enter_defers Tryz.func10, Tryz.ntmps10
    go_wp2_with (go_at_call 24; (with_reducible refine (hsz _).mono ?_); rintro e u ⟨rfl, hu⟩; rw [hu]; clear hu u)
    exact ⟨_, res2 rfl rfl (old_at (new_at rfl)) (new_at (by simp)), dco_err HD.out (((Below.refl _ w).alloc (Nat.le_refl _) _).alloc (by simp) _)⟩
  rw [decide_eq_true h1] at hsz
  by_cases h2 : 1024 < bs.length
  · have HD : Hid (dec n bs = .error 2) := (if_neg (fun q => q h1)).trans (if_pos h2)
    have h2i : (1024 : Int) < (bs.length : Int) := by omega
    go_enter_defers Tryz.func10, Tryz.ntmps10
    go_wp2_with (go_at_call 24; (with_reducible refine (hsz _).mono ?_); rintro e u ⟨rfl, hu⟩; rw [hu]; clear hu u)
    exact ⟨_, res2 rfl rfl (old_at (new_at rfl)) (new_at (by simp)), dco_err HD.out (((Below.refl _ w).alloc (Nat.le_refl _) _).alloc (by simp) _)⟩
  have h2i : ¬ (1024 : Int) < (bs.length : Int) := by omega
  obtain ⟨m, rfl⟩ := Int.eq_ofNat_of_zero_le (show 0 ≤ n by omega)
  have HDC : Hid (dec (m : Int) bs = rdE m bs) := (if_neg (fun q => q h1)).trans ((if_neg h2).trans (by rw [Int.toNat_natCast]))
  -- the three new blocks
  have hbW := ((((Below.refl w.heap.size w).alloc (Nat.le_refl _) (.cells #[.nilIface] 50)).alloc (by simp) (.cells #[.int .i64 0] 47))).alloc (by simp; omega) (.cells #[.slice ad bs.length cap, .int .i64 0] 86)
  have hA : (((w.alloc (.cells #[.nilIface] 50)).alloc (.cells #[.int .i64 0] 47)).alloc (.cells #[.slice ad bs.length cap, .int .i64 0] 86)).heap[w.heap.size]? = some (.cells #[.nilIface] 50 (0, 0)) := old_at (old_at (new_at rfl))
  have hB : (((w.alloc (.cells #[.nilIface] 50)).alloc (.cells #[.int .i64 0] 47)).alloc (.cells #[.slice ad bs.length cap, .int .i64 0] 86)).heap[w.heap.size + 1]? = some (.cells #[.int .i64 0] 47 (0, 0)) := old_at (new_at (by simp))
  have hR : Rdr (((w.alloc (.cells #[.nilIface] 50)).alloc (.cells #[.int .i64 0] 47)).alloc (.cells #[.slice ad bs.length cap, .int .i64 0] 86)) (w.heap.size + 1 + 1) ad cap bs 0 := by
    refine ⟨new_at (by simp), fun hne => ?_, Nat.zero_le _, hb, by omega, hc⟩
    obtain ⟨b, off, e1, e2, e3⟩ := h hne
    exact ⟨b, off, e1, by omega, e3.carry (hbW.block b e2)⟩
  have hfa := fields_any hR m (by omega) (by omega)
  unfold FdO at hfa
  obtain ⟨W0, hW0⟩ : ∃ W0, (((w.alloc (.cells #[.nilIface] 50)).alloc (.cells #[.int .i64 0] 47)).alloc (.cells #[.slice ad bs.length cap, .int .i64 0] 86)) = W0 := ⟨_, rfl⟩
  rw [hW0] at hbW hA hB hR hfa
  have hcat : ∀ (W' : World) (er : Int), Kb (w.heap.size + 1 + 1) W0 W' → CallsD Tryz.prog 25 #[.pointer (some ⟨w.heap.size, 0, none⟩), .pointer (some ⟨w.heap.size + 1, 0, none⟩)] (.panicking (rfu er)) W' fun e u' w' => e = .returned (.tuple #[]) ∧ u' = .panicking [{ v := .iface 82 (.int .i64 er), recovered := true }] ∧ w'.heap[w.heap.size]? = some (.cells #[.nilIface] 50 (0, 0)) ∧ w'.heap[w.heap.size + 1]? = some (.cells #[.int .i64 er] 47 (0, 0)) ∧ Below w.heap.size w w' := fun W' er hk => by
    have a1 := (hk.2 _ (by omega) (lt_at hA)).trans hA
    have b1 := (hk.2 _ (by omega) (lt_at hB)).trans hB
    have ca := cell_at a1 0
    have cb := cell_at b1 0
    simp at ca cb
    refine (catch_panic w.heap.size (w.heap.size + 1) .nilIface 0 er [] W' ca cb (thaw_at a1 0) (thaw_at b1 0) (by omega)).mono ?_
    rintro e u' w' ⟨rfl, rfl, rfl⟩
    refine ⟨rfl, rfl, ?_, ?_, ?_⟩
    · rw [Below.heap_setCell _ _ _ _ (by simp)]
      exact (set_get 0 _ a1).trans (by simp)
    · have b2 := (Below.heap_setCell W' ⟨w.heap.size, 0, none⟩ .nilIface (w.heap.size + 1) (by simp)).trans b1
      exact (set_get 0 _ b2).trans (by simp)
    · exact ((hbW.trans (hk.1.mono (by omega))).setCell (Nat.le_refl _) _).setCell (Nat.le_succ _) _
  cases hF : rdF m bs with
  | error er =>
    rw [hF] at hfa
    have HD : Hid (dec (m : Int) bs = .error er) := HDC.out.trans (by rw [rdE, hF])
    go_enter_defers Tryz.func10, Tryz.ntmps10
    go_wp2_with (first | (go_at_call 24; (with_reducible refine (hsz _).mono ?_); rintro e u ⟨rfl, hu⟩; rw [hu]; clear hu u) | (go_at_call 26; refine hfa.mono ?_; rintro e u1 ⟨rfl, hk1⟩))
    refine leaves_cons (f := 25) (args := #[.pointer (some ⟨w.heap.size, 0, none⟩), .pointer (some ⟨w.heap.size + 1, 0, none⟩)]) (by simp) (by simp [go_sem]) ?_
    refine (hcat _ er hk1).mono ?_
    rintro e u' w'' ⟨rfl, rfl, ha, hb', hbl⟩
    exact ⟨_, res2 rfl rfl ha hb', dco_err HD.out hbl⟩
  | ok q =>
    obtain ⟨⟨kd, fr, rd, N, l⟩, j⟩ := q
    rw [hF] at hfa
    have hne : bs ≠ [] := by
      rintro rfl
      simp [rdF] at hF
    have hfa2 : Calls Tryz.prog 26 #[.pointer (some ⟨w.heap.size + 1 + 1, 0, none⟩), .int .i64 (m : Int)] W0 fun e w' => ∃ a c, e = .returned (fv kd (fr : Int) (rd : Int) N (.slice a l.length c)) ∧ w'.ownsRow W0.heap.size 80 3 (.slice a l.length c) l.length (fl l) ∧ Rdr w' (w.heap.size + 1 + 1) ad cap bs j ∧ Kb (w.heap.size + 1 + 1) W0 w' := hfa.mono (by
      rintro e w' ⟨v, rfl, q1, q2, q3⟩
      rcases own_form q1 with ⟨e1, e2⟩ | ⟨g, c, e1, _⟩
      · exact ⟨none, 0, by rw [e1, e2], by rw [e2]; rw [e1, e2] at q1; exact q1, q2, q3⟩
      · exact ⟨_, _, by rw [e1], e1 ▸ q1, q2, q3⟩)
    clear hfa
    simp only [fv, fcs] at hfa2
    have hend : ∀ W, Rdr W (w.heap.size + 1 + 1) ad cap bs j → Calls Tryz.prog 27 #[.pointer (some ⟨w.heap.size + 1 + 1, 0, none⟩)] W (EnO (w.heap.size + 1 + 1) bs j W) := fun W hW => end_any hW hne
    unfold EnO at hend
    obtain ⟨D, hD⟩ : ∃ D, rdE m bs = D := ⟨_, rfl⟩
    have hD2 := hD
    rw [rdE, hF] at hD2
    dsimp only at hD2
    have HD : Hid (dec (m : Int) bs = D) := HDC.out.trans hD
    clear hD HDC hF
    have key : ∀ er, D = .error er → (∀ W, Rdr W (w.heap.size + 1 + 1) ad cap bs j → Calls Tryz.prog 27 #[.pointer (some ⟨w.heap.size + 1 + 1, 0, none⟩)] W fun e w' => e = .panicked (rfu er) ∧ Kb (w.heap.size + 1 + 1) W w') → Calls Tryz.prog 10 #[.slice ad bs.length cap, .int .i64 (m : Int)] w (DcO m bs w) := by
      intro er hDe hen
      have HDe : Hid (dec (m : Int) bs = .error er) := HD.out.trans hDe
      clear hend hD2 hDe HD
      go_enter_defers Tryz.func10, Tryz.ntmps10
      go_wp2_with (first | (go_at_call 24; (with_reducible refine (hsz _).mono ?_); rintro e u ⟨rfl, hu⟩; rw [hu]; clear hu u) | (go_at_call 26; refine hfa2.mono ?_; rintro e u1 ⟨a, c, rfl, ho1, hr1, hk1⟩; have hb1 := al1' u1 (.cells #[.int .i64 (kd : Int), .int .i64 (fr : Int), .int .i64 (rd : Int), .int .u32 (wd N 0 : Nat), .int .u32 (wd N 1 : Nat), .int .u32 (wd N 2 : Nat), .int .u32 (wd N 3 : Nat), .slice a l.length c] 88); have hr1' := hr1.carry hb1) | (go_at_call 27; refine (hen _ hr1').mono ?_; rintro e u2 ⟨rfl, hk2⟩))
      refine leaves_cons (f := 25) (args := #[.pointer (some ⟨w.heap.size, 0, none⟩), .pointer (some ⟨w.heap.size + 1, 0, none⟩)]) (by simp) (by simp [go_sem]) ?_
      refine (hcat _ er ((hk1.trans (Kb.below hb1 (Nat.le_of_lt hr1.lt))).trans hk2)).mono ?_
      rintro e u' w'' ⟨rfl, rfl, ha, hb', hbl⟩
      exact ⟨_, res2 rfl rfl ha hb', dco_err HDe.out hbl⟩
    by_cases g1 : bs.length < j + 4
    · rw [if_pos g1] at hD2
      refine key 76 hD2.symm (fun W hW => ?_)
      have := hend W hW
      rw [if_pos g1] at this
      exact this
    rw [if_neg g1] at hD2
    by_cases g2 : nm bs j 4 ≠ sumV (bs.take j)
    · rw [if_pos g2] at hD2
      refine key 77 hD2.symm (fun W hW => ?_)
      have := hend W hW
      rw [if_neg g1, if_pos g2] at this
      exact this
    rw [if_neg g2] at hD2
    by_cases g3 : j + 4 < bs.length
    · rw [if_pos g3] at hD2
      refine key 2 hD2.symm (fun W hW => ?_)
      have := hend W hW
      rw [if_neg g1, if_neg g2, if_pos g3] at this
      exact this
    rw [if_neg g3] at hD2
    have hen : ∀ W, Rdr W (w.heap.size + 1 + 1) ad cap bs j → Calls Tryz.prog 27 #[.pointer (some ⟨w.heap.size + 1 + 1, 0, none⟩)] W fun e w' => e = .returned (.tuple #[]) ∧ Kb (w.heap.size + 1 + 1) W w' := fun W hW => by
      have := hend W hW
      rw [if_neg g1, if_neg g2, if_neg g3] at this
      exact this
    have HDo : Hid (dec (m : Int) bs = .ok (kd, fr, rd, N, l)) := HD.out.trans hD2.symm
    have hno := note_any kd (fr : Int) (rd : Int) N
    simp only [fv, fcs] at hno
    clear hend hD2 HD key g1 g2 g3
    have hW0s : w.heap.size + 1 + 1 < W0.heap.size := hR.lt
    go_enter_defers Tryz.func10, Tryz.ntmps10
    go_wp2_with (first | (go_at_call 24; (with_reducible refine (hsz _).mono ?_); rintro e u ⟨rfl, hu⟩; rw [hu]; clear hu u) | (go_at_call 26; refine hfa2.mono ?_; rintro e u1 ⟨a, c, rfl, ho1, hr1, hk1⟩; have hb1 := al1' u1 (.cells #[.int .i64 (kd : Int), .int .i64 (fr : Int), .int .i64 (rd : Int), .int .u32 (wd N 0 : Nat), .int .u32 (wd N 1 : Nat), .int .u32 (wd N 2 : Nat), .int .u32 (wd N 3 : Nat), .slice a l.length c] 88); have hr1' := hr1.carry hb1; have hfb1 : FB (u1.alloc (.cells #[.int .i64 (kd : Int), .int .i64 (fr : Int), .int .i64 (rd : Int), .int .u32 (wd N 0 : Nat), .int .u32 (wd N 1 : Nat), .int .u32 (wd N 2 : Nat), .int .u32 (wd N 3 : Nat), .slice a l.length c] 88)) u1.heap.size kd fr rd N (.slice a l.length c) := new_at rfl) | (go_at_call 27; refine (hen _ hr1').mono ?_; rintro e u2 ⟨rfl, hk2⟩; have hfb2 := hfb1.carry (hk2.2 _ (by have := hr1.lt; omega) hfb1.lt); obtain ⟨c0, c1, c2, c3, c4, c5, c6, c7⟩ := hfb2.cells) | (go_at_call 28; refine (hno _ _ _ _).mono ?_; rintro e u3 ⟨rfl, hb3⟩; obtain ⟨ty, xv, hxv⟩ := noteV_form kd fr rd N (.slice a l.length c); rw [hxv]; have HXV : Hid (noteV kd fr rd N (.slice a l.length c) = .iface ty xv) := hxv; clear hxv; have hk3 : Kb (w.heap.size + 1 + 1) W0 u3 := ((hk1.trans (Kb.below hb1 (Nat.le_of_lt hr1.lt))).trans hk2).trans (Kb.below hb3 (by have := hfb2.lt; have := hr1.lt; omega)); have a3 := (hk3.2 _ (by omega) (lt_at hA)).trans hA; have b3 := (hk3.2 _ (by omega) (lt_at hB)).trans hB; have ca := cell_at a3 0; have cb := cell_at b3 0; simp at ca cb; have za := thaw_at a3 0; have zb := thaw_at b3 0))
    refine leaves_cons (f := 25) (args := #[.pointer (some ⟨w.heap.size, 0, none⟩), .pointer (some ⟨w.heap.size + 1, 0, none⟩)]) (by simp) (by simp [go_sem]) ?_
    refine (catch_idle w.heap.size (w.heap.size + 1) _).mono ?_
    rintro e u' w'' ⟨rfl, rfl, rfl⟩
    have hown3 : u3.ownsRow W0.heap.size 80 3 (.slice a l.length c) l.length (fl l) := row_below (ownsRow_kb (row_below ho1 hb1) hk2 (fun g hg => by have := own_block ho1 g hg; omega)) hb3
    have hA4 : ((u3.setCell ⟨w.heap.size, 0, none⟩ (.iface ty xv)).setCell ⟨w.heap.size + 1, 0, none⟩ (.int .i64 0)).heap[w.heap.size]? = some (.cells #[.iface ty xv] 50 (0, 0)) := by
      rw [Below.heap_setCell _ _ _ _ (by simp)]
      exact (set_get 0 _ a3).trans (by simp)
    have hB4 : ((u3.setCell ⟨w.heap.size, 0, none⟩ (.iface ty xv)).setCell ⟨w.heap.size + 1, 0, none⟩ (.int .i64 0)).heap[w.heap.size + 1]? = some (.cells #[.int .i64 0] 47 (0, 0)) :=
      (set_get 0 _ ((Below.heap_setCell u3 ⟨w.heap.size, 0, none⟩ (.iface ty xv) (w.heap.size + 1) (by simp)).trans b3)).trans (by simp)
    refine ⟨_, res2 rfl rfl hA4 hB4, ?_⟩
    unfold DcO
    rw [HDo.out]
    refine ⟨a, c, by rw [HXV.out], ownsRow_base (ownsRow_set (ownsRow_set hown3 (fun g hg => by have := own_block hown3 g hg; omega) _) (fun g hg => by have := own_block hown3 g hg; omega) _) (by omega), ?_⟩
    exact (Below.setCell (p := ⟨w.heap.size + 1, 0, none⟩) (Below.setCell (p := ⟨w.heap.size, 0, none⟩) (hbW.trans (hk3.1.mono (by omega))) (Nat.le_refl _) _) (Nat.le_succ _) _)
end Go.Proofs.YtnomeinppdnhfaaGreat
namespace Go.Proofs.YtnomeinppdnhfaaGreat
open Go.RowKit Go.Shelf

/-- The bytes of a note, or none. -/
def fb7 (kd : Nat) (n fr rd : Int) (N : Nat) (l : List (Int × Int × Int)) : List Nat := if flt kd n fr rd N l = 0 then byt7 kd n.toNat fr.toNat rd.toNat N l else []
/-- What Bytes answers. -/
def BO (kd : Nat) (n fr rd : Int) (N : Nat) (l : List (Int × Int × Int)) (w : World) (e : Ending) (w' : World) : Prop := ∃ b, e = .returned (.tuple #[b, .int .i64 (flt kd n fr rd N l)]) ∧ OwB w' w.heap.size b (fb7 kd n fr rd N l) ∧ Below w.heap.size w w'
theorem bytes_any (kd : Nat) (n fr rd : Int) (N : Nat) (hN : N < S128) (ad : Option Addr) (cap : Nat) (l : List (Int × Int × Int)) (w : World) (h : RdN w ad l) (hl : l.length ≤ 6000000000000) : Calls Tryz.prog 78 #[fv kd fr rd N (.slice ad l.length cap), .int .i64 n] w (BO kd n fr rd N l w) := by
  by_cases hf : flt kd n fr rd N l = 0
  · obtain ⟨hn, hfr, _⟩ := flt_0 hf
    obtain ⟨n, rfl⟩ := Int.eq_ofNat_of_zero_le (show 0 ≤ n by omega)
    obtain ⟨fr, rfl⟩ := Int.eq_ofNat_of_zero_le hfr.1
    refine (bytes_ok kd n fr rd N hN ad cap l w h hf).mono ?_
    rintro e w' ⟨b, rfl, h1, h2⟩
    refine ⟨b, by rw [hf], ?_, h2⟩
    rw [fb7, if_pos hf]
    exact h1
  · refine (bytes_no kd n fr rd N hN ad cap l w h hl hf).mono ?_
    rintro e w' ⟨rfl, h1⟩
    refine ⟨_, rfl, ?_, h1⟩
    rw [fb7, if_neg hf]
    exact owB_nil _ _
theorem wd_z (j : Nat) : wd 0 j = 0 := by simp [wd]
theorem s128_0 : 0 < S128 := by decide
theorem qb_own {w W w' : World} {kd : Nat} {n fr rd : Int} {N : Nat} {l : List (Int × Int × Int)} {e : Ending} (h : BO kd n fr rd N l W e w') (hb : Below w.heap.size w W) : BO kd n fr rd N l w e w' := by
  obtain ⟨b, h1, h2, h3⟩ := h
  exact ⟨b, h1, ownsRow_base h2 hb.size, bel2 hb h3⟩
set_option maxHeartbeats 1000000 in
set_option maxRecDepth 100000 in
theorem qbytes_any (n fr rd : Int) (ad : Option Addr) (cap : Nat) (l : List (Int × Int × Int)) (w : World) (h : RdN w ad l) (hl : l.length ≤ 6000000000000) : Calls Tryz.prog 17 #[.agg #[.int .i64 fr, .int .i64 rd, .slice ad l.length cap], .int .i64 n] w (BO 1 n fr rd 0 l w) := by
  have hb0 := al1' w (.cells #[.int .i64 fr, .int .i64 rd, .slice ad l.length cap] 70)
  have hby := bytes_any 1 n fr rd 0 s128_0 ad cap l _ (h.carry hb0) hl
  have hby2 := hby.mono (fun e w' q => qb_own q hb0)
  simp only [fv, fcs, wd_z] at hby2
  clear hby
  go_enter Tryz.func17, Tryz.ntmps17
  go_wp2_with (go_at_call 78; refine hby2.mono ?_; rintro e w' ⟨b, rfl, h2, h3⟩)
  go_ret2
  exact ⟨b, rfl, h2, h3⟩
set_option maxHeartbeats 1000000 in
set_option maxRecDepth 100000 in
theorem pbytes_any (n fr rd : Int) (N : Nat) (hN : N < S128) (ad : Option Addr) (cap : Nat) (l : List (Int × Int × Int)) (w : World) (h : RdN w ad l) (hl : l.length ≤ 6000000000000) : Calls Tryz.prog 143 #[.agg #[.int .i64 fr, .int .i64 rd, .int .u32 (wd N 0 : Nat), .int .u32 (wd N 1 : Nat), .int .u32 (wd N 2 : Nat), .int .u32 (wd N 3 : Nat), .slice ad l.length cap], .int .i64 n] w (BO 2 n fr rd N l w) := by
  have hb0 := al1' w (.cells #[.int .i64 fr, .int .i64 rd, .int .u32 (wd N 0 : Nat), .int .u32 (wd N 1 : Nat), .int .u32 (wd N 2 : Nat), .int .u32 (wd N 3 : Nat), .slice ad l.length cap] 73)
  have hby := bytes_any 2 n fr rd N hN ad cap l _ (h.carry hb0) hl
  have hby2 := hby.mono (fun e w' q => qb_own q hb0)
  simp only [fv, fcs] at hby2
  clear hby
  go_enter Tryz.func143, Tryz.ntmps143
  go_wp2_with (go_at_call 78; refine hby2.mono ?_; rintro e w' ⟨b, rfl, h2, h3⟩)
  go_ret2
  exact ⟨b, rfl, h2, h3⟩
set_option maxHeartbeats 1000000 in
set_option maxRecDepth 100000 in
theorem ubytes_any (n fr : Int) (ad : Option Addr) (cap : Nat) (l : List (Int × Int × Int)) (w : World) (h : RdN w ad l) (hl : l.length ≤ 6000000000000) : Calls Tryz.prog 149 #[.agg #[.int .i64 fr, .slice ad l.length cap], .int .i64 n] w (BO 3 n fr 0 0 l w) := by
  have hb0 := al1' w (.cells #[.int .i64 fr, .slice ad l.length cap] 75)
  have hby := bytes_any 3 n fr 0 0 s128_0 ad cap l _ (h.carry hb0) hl
  have hby2 := hby.mono (fun e w' q => qb_own q hb0)
  simp only [fv, fcs, wd_z] at hby2
  clear hby
  go_enter Tryz.func149, Tryz.ntmps149
  go_wp2_with (go_at_call 78; refine hby2.mono ?_; rintro e w' ⟨b, rfl, h2, h3⟩)
  go_ret2
  exact ⟨b, rfl, h2, h3⟩
theorem abc_sum : sumV [97, 98, 99] = 38600999 := by decide
theorem one_fb : fb7 1 3 1 258 0 [] = [101, 115, 1, 3, 1, 0, 0, 0, 1, 2, 0, 9, 15, 0, 225] := by kernel_rfl
set_option maxHeartbeats 1000000 in
set_option maxRecDepth 100000 in
theorem alive_any (w : World) : Calls Tryz.prog 4 #[] w fun e w' => e = .returned (.bool true) ∧ Below w.heap.size w w' := by
  have hq := qbytes_any 3 1 258 none 0 [] w (fun q => absurd rfl q) (by simp)
  have hB3 := bs3
  have hcv := fun (w : World) (C : Array Value) (n c : Nat) => Lib.run_convert_bytes_const (P := Tryz.prog) w 46 5 C n c Tryz.underlying46 Tryz.underlying5
  have hf : flt 1 3 1 258 0 [] = 0 := by kernel_rfl
  obtain ⟨L, hL⟩ : ∃ L, fb7 1 3 1 258 0 [] = L := ⟨_, rfl⟩
  have HL : Hid (L = [101, 115, 1, 3, 1, 0, 0, 0, 1, 2, 0, 9, 15, 0, 225]) := hL.symm.trans one_fb
  have hq2 : Calls Tryz.prog 17 #[.agg #[.int .i64 1, .int .i64 258, .slice none 0 0], .int .i64 3] w fun e w' => ∃ g c, e = .returned (.tuple #[.slice (some ⟨g, 0, none⟩) 15 c, .int .i64 0]) ∧ g < w'.heap.size ∧ w'.cell? ⟨g, 9, none⟩ = some (.int .u8 2) ∧ Below w.heap.size w w' := hq.mono (by
    rintro e w' ⟨b, rfl, h2, h3⟩
    rw [hL, HL.out] at h2
    rcases own_form h2 with ⟨_, e⟩ | ⟨g, cap, rfl, h4, h5, h6⟩
    · cases e
    · refine ⟨g, cap, by rw [hf]; rfl, h5, ?_, h3⟩
      exact b_own h2 rfl 9 2 rfl)
  clear hq hL HL hf L
  have hsu : ∀ W : World, Calls Tryz.prog 18 #[.slice (some ⟨W.heap.size, 0, none⟩) 3 3] (W.alloc (.cells #[.int .u8 97, .int .u8 98, .int .u8 99] 5 (3, 4))) fun e w' => e = .returned (.int .i64 38600999) ∧ w' = W.alloc (.cells #[.int .u8 97, .int .u8 98, .int .u8 99] 5 (3, 4)) := fun W => by
    have := sum_any (some ⟨W.heap.size, 0, none⟩) 3 [97, 98, 99] (W.alloc (.cells #[.int .u8 97, .int .u8 98, .int .u8 99] 5 (3, 4))) (fun _ => ⟨_, 0, rfl, by simp, fun k x hk => by
      have hn : (W.alloc (.cells #[.int .u8 97, .int .u8 98, .int .u8 99] 5 (3, 4))).heap[W.heap.size]? = some (.cells #[.int .u8 97, .int .u8 98, .int .u8 99] 5 (3, 4)) := new_at rfl
      rw [Nat.zero_add, cell_at hn k]
      match k, hk with
      | 0, hk => simp at hk; subst hk; rfl
      | 1, hk => simp at hk; subst hk; rfl
      | 2, hk => simp at hk; subst hk; rfl
      | k + 3, hk => simp at hk⟩) (byt_cons (by decide) (byt_cons (by decide) (byt_cons (by decide) byt_nil))) (by simp)
    rw [abc_sum] at this
    exact this
  go_enter Tryz.func4, Tryz.ntmps4
  go_wp2_with (first | (go_at_call 17; refine hq2.mono ?_; rintro e w1 ⟨g, c, rfl, hg, hc9, h3⟩; have h4 := al1' w1 (.cells #[.int .u8 97, .int .u8 98, .int .u8 99] 5 (3, 4)); have hc9' := (h4.cell (p := ⟨g, 9, none⟩) hg).trans hc9) | (go_at_call 18; refine (hsu _).mono ?_; rintro e w2 ⟨rfl, hu⟩; rw [hu]; clear hu w2))
  go_ret
  exact ⟨rfl, bel2 h3 h4⟩
end Go.Proofs.YtnomeinppdnhfaaGreat
