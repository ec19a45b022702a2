/- wire.reader.fields at every bytes; reader.end; fields.note: what they answer. -/
import Derived.Test.YtndogopllcpiiaaWrl
namespace Go.Proofs.Ytndogopllcpiiaa
open Go.RowKit Go.Shelf

theorem fields_any {w : World} {p : Nat} {ad : Option Addr} {cap : Nat} {bs : List Nat} (h : Rdr w p ad cap bs 0) (n : Nat) (hn1 : 1 ≤ n) (hn : n ≤ 100) : Calls Try.prog 45 #[.pointer (some ⟨p, 0, none⟩), .int .i64 (n : Int)] w (FdO p ad cap bs (rdF n bs) w) := by
  unfold rdF
  by_cases h1 : bs.length < 2
  · rw [if_pos h1]
    exact fd1 h n h1
  rw [if_neg h1]
  replace h1 : 2 ≤ bs.length := by omega
  by_cases hM : nm bs 0 2 = 25971
  case neg =>
    rw [if_pos hM]
    exact fd2 h n h1 _ rfl hM
  rw [if_neg (fun q => q hM)]
  by_cases h2 : bs.length < 3
  · rw [if_pos h2]
    exact fd3 h n h1 hM h2
  rw [if_neg h2]
  replace h2 : 3 ≤ bs.length := by omega
  by_cases hk : 1 ≤ nm bs 2 1 ∧ nm bs 2 1 ≤ 3
  case neg =>
    rw [if_pos hk]
    by_cases q : nm bs 2 1 < 1
    · exact fd4a h n h1 hM h2 _ rfl q
    · exact fd4b h n h1 hM h2 _ rfl (by omega)
  rw [if_neg (fun q => q hk)]
  obtain ⟨hk1, hk3⟩ := hk
  by_cases h3 : bs.length < 4
  · rw [if_pos h3]
    exact fd5 h n h1 hM h2 _ rfl hk1 hk3 h3
  rw [if_neg h3]
  replace h3 : 4 ≤ bs.length := by omega
  by_cases hs : nm bs 3 1 = n
  case neg =>
    rw [if_pos hs]
    exact fd6 h n h1 hM h2 _ rfl hk1 hk3 h3 _ rfl hs
  rw [if_neg (fun q => q hs)]
  by_cases h4 : bs.length < 5
  · rw [if_pos h4]
    exact fd7 h n h1 hM h2 _ rfl hk1 hk3 h3 hs h4
  rw [if_neg h4]
  replace h4 : 5 ≤ bs.length := by omega
  by_cases hg : n ≤ nm bs 4 1
  · rw [if_pos hg]
    exact fd8 h n h1 hM h2 _ rfl hk1 hk3 h3 hs h4 _ rfl hg
  rw [if_neg hg]
  replace hg : nm bs 4 1 < n := by omega
  unfold rd2
  by_cases hk4 : nm bs 2 1 = 3
  · rw [if_pos hk4, rd3, if_neg (by omega), rd4]
    cases hW : rdW n bs 5 with
    | error er => exact fd9x h n h1 hM h2 _ rfl h3 hs h4 _ rfl hg hk4 hn er hW
    | ok q => exact fd9o h n h1 hM h2 _ rfl h3 hs h4 _ rfl hg hk4 hn q.1 q.2 hW
  rw [if_neg hk4]
  by_cases h5 : bs.length < 10
  · rw [if_pos h5]
    exact fd10 h n h1 hM h2 _ rfl hk1 hk3 hk4 h3 hs h4 _ rfl hg h5
  rw [if_neg h5]
  replace h5 : 10 ≤ bs.length := by omega
  by_cases hr : 1 ≤ nm bs 5 5 ∧ nm bs 5 5 ≤ 1099511627775
  case neg =>
    rw [if_pos hr]
    exact fd11 h n h1 hM h2 _ rfl hk1 hk3 hk4 h3 hs h4 _ rfl hg h5 _ rfl hr
  rw [if_neg (fun q => q hr)]
  unfold rd3
  by_cases hk5 : nm bs 2 1 = 2
  · rw [if_pos hk5]
    by_cases h6 : bs.length < 10 + hsz n
    · rw [if_pos h6]
      exact fd13 h n h1 hM h2 _ rfl hk4 h3 hs h4 _ rfl hg h5 _ rfl hr hk5 hn hn1 h6
    rw [if_neg h6]
    replace h6 : 10 + hsz n ≤ bs.length := by omega
    by_cases hw : wthB (vlS ((bs.drop 10).take (hsz n))) n = false
    · rw [if_pos hw]
      exact fd14 h n h1 hM h2 _ rfl hk4 h3 hs h4 _ rfl hg h5 _ rfl hr hk5 hn hn1 h6 _ rfl hw
    rw [if_neg hw, rd4]
    replace hw : wthB (vlS ((bs.drop 10).take (hsz n))) n = true := by simpa using hw
    cases hW : rdW n bs (10 + hsz n) with
    | error er => exact fd15x h n h1 hM h2 _ rfl hk4 h3 hs h4 _ rfl hg h5 _ rfl hr hk5 hn1 h6 _ rfl hw hn er hW
    | ok q => exact fd15o h n h1 hM h2 _ rfl hk4 h3 hs h4 _ rfl hg h5 _ rfl hr hk5 hn1 h6 _ rfl hw hn q.1 q.2 hW
  · rw [if_neg hk5, rd4]
    cases hW : rdW n bs 10 with
    | error er => exact fd12x h n h1 hM h2 _ rfl hk1 hk3 hk4 h3 hs h4 _ rfl hg h5 _ rfl hr hk5 hn er hW
    | ok q => exact fd12o h n h1 hM h2 _ rfl hk1 hk3 hk4 h3 hs h4 _ rfl hg h5 _ rfl hr hk5 hn q.1 q.2 hW
theorem slice_to (b off len cap hi : Nat) (h2 : hi ≤ cap) (W : World) : (Instr.sliceAt 22 (.slice (some ⟨b, off, none⟩) len cap) none (some (.int .i64 (hi : Int))) none).run Try.prog W = .ok (.slice (some ⟨b, off, none⟩) hi cap) W := by
  have q2 : (hi : Int) ≤ (cap : Int) := by omega
  go_simp
/-- How the end is taken. -/
def EnO (p : Nat) (bs : List Nat) (j : Nat) (w : World) (e : Ending) (w' : World) : Prop :=
  e = (if bs.length < j + 4 then .panicked (rfu 76) else if nm bs j 4 ≠ sumV (bs.take j) then .panicked (rfu 77) else if j + 4 < bs.length then .panicked (rfu 2) else .returned (.tuple #[])) ∧ Kb p w w'
set_option maxHeartbeats 4000000 in
set_option maxRecDepth 100000 in
theorem end_any {w : World} {p : Nat} {ad : Option Addr} {cap : Nat} {bs : List Nat} {j : Nat} (h : Rdr w p ad cap bs j) (hne : bs ≠ []) : Calls Try.prog 46 #[.pointer (some ⟨p, 0, none⟩)] w (EnO p bs j w) := by
  have hmx : Try.prog.follows .mixedOrders = true := by kernel_rfl
  have hle := h.le
  have hln := h.ln
  have hcp := h.cp
  obtain ⟨b, off, rfl, hbp, hat⟩ := h.rd hne
  have hsum : ∀ W, Rdr W p (some ⟨b, off, none⟩) cap bs j → Calls Try.prog 30 #[.slice (some ⟨b, off, none⟩) j cap] W fun e W' => e = .returned (.int .i64 (sumV (bs.take j) : Nat)) ∧ W' = W := fun W hW => by
    obtain ⟨b', off', e, hb', hat'⟩ := hW.rd hne
    cases e
    have := sum_any (some ⟨b, off, none⟩) cap (bs.take j) W (fun _ => ⟨b, off, rfl, Nat.lt_trans hb' hW.lt, by have := hat'.sub 0 j; simpa using this⟩) (hW.byt.take j) (by rw [List.length_take]; omega)
    rw [List.length_take, Nat.min_eq_left hle] at this
    exact this
  obtain ⟨SV, hSV⟩ : ∃ SV, sumV (bs.take j) = SV := ⟨_, rfl⟩
  rw [hSV] at hsum
  unfold EnO
  rw [hSV]
  clear hSV
  have hr77 := refuse_yes 77
  have hn77 := refuse_no 77
  by_cases h4 : bs.length < j + 4
  case pos =>
    rw [if_pos h4]
    have hx : ∀ W, Rdr W p (some ⟨b, off, none⟩) cap bs j → Calls Try.prog 56 #[.pointer (some ⟨p, 0, none⟩), .int .i64 4] W fun e W' => e = .panicked (rfu 76) ∧ Below W.heap.size W W' := fun W hW => number_no hW 4 h4
    go_enter Try.func46, Try.ntmps46
    go_wp2
    refine wp_region_any hmx ?_
    refine wpAny_pure (fun i__ => ([(.pointer (some ⟨p, 0, none⟩)), (.pointer (some ⟨p, 0, none⟩)), (.pointer (some ⟨p, 0, none⟩)), (.slice (some ⟨b, off, none⟩) bs.length cap), (.pointer (some ⟨p, 0, none⟩)), (.pointer (some ⟨p, 0, none⟩)), (.pointer (some ⟨p, 1, none⟩)), (.int .i64 (j : Int)), (.slice (some ⟨b, off, none⟩) j cap), (.int .i64 (SV : Int)), (.int .i64 (SV : Int))] : List Value).getD i__ undef) (fun V => Rdr V p (some ⟨b, off, none⟩) cap bs j ∧ Below w.heap.size w V) (by kernel_rfl) ⟨h.carry (Below.refl _ _).drew, (Below.refl _ _).drew⟩ ?_ ?_
    · refine (stepsFrom_cons ?_ (stepsFrom_cons ?_ (stepsFrom_cons ?_ (stepsFrom_cons ?_ (stepsFrom_cons ?_ (stepsFrom_cons ?_ (stepsFrom_cons ?_ (stepsFrom_cons ?_ (stepsFrom_cons ?_ (stepsFrom_cons ?_ (stepsFrom_cons ?_ trivial)))))))))))
      · exact step_move rfl trivial _ rfl (by kernel_rfl)
      · exact step_nilCheck rfl trivial _ _ _ rfl rfl rfl
      · exact step_fieldAddr rfl trivial _ _ _ _ rfl rfl (fun w hw => rfield0 p w)
      · exact step_load rfl trivial _ _ _ rfl rfl (fun w hw => hw.1.all)
      · exact step_move rfl trivial _ rfl (by kernel_rfl)
      · exact step_nilCheck rfl trivial _ _ _ rfl rfl rfl
      · exact step_fieldAddr rfl trivial _ _ _ _ rfl rfl (fun w hw => rfield1 p w)
      · exact step_load rfl trivial _ _ _ rfl rfl (fun w hw => hw.1.at)
      · exact step_slice rfl trivial _ _ _ _ _ none (some (.int .i64 (j : Int))) rfl rfl rfl rfl (fun w hw => slice_to b off bs.length cap j (by omega) w)
      · exact step_call rfl trivial 30 _ _ [(.slice (some ⟨b, off, none⟩) j cap)] rfl (by kernel_rfl) (enters_of Try.func30 (by kernel_rfl) rfl) (fun w hw => (hsum w hw.1).mono (by rintro e w' ⟨rfl, rfl⟩; exact ⟨rfl, hw⟩))
      · exact step_assign rfl trivial _ rfl (by kernel_rfl) (fun _ h => h)
    intro W hW
    first | refine hK _ _ ?_ | refine (‹∀ (a : Act) (w : World), Code.wp Try.prog _ _ a w → _›) _ _ ?_
    simp only [finL, List.getD_cons_zero, List.getD_cons_succ, Nat.zero_add, Nat.reduceAdd, List.setIfInBounds_toArray, List.set_cons_zero, List.set_cons_succ]
    obtain ⟨hW1, hb1⟩ := hW
    go_wp2_with (go_at_call 56; (with_reducible refine (hx _ hW1).mono ?_); rintro e u2 ⟨rfl, hb2⟩)
    exact ⟨rfl, rfl, (Kb.below hb1 (Nat.le_of_lt h.lt)).trans (Kb.below hb2 (Nat.le_of_lt hW1.lt))⟩
  rw [if_neg h4]
  have hnu : ∀ W, Rdr W p (some ⟨b, off, none⟩) cap bs j → Calls Try.prog 56 #[.pointer (some ⟨p, 0, none⟩), .int .i64 4] W fun e W' => e = .returned (.int .i64 (nm bs j 4 : Nat)) ∧ Rdr W' p (some ⟨b, off, none⟩) cap bs (j + 4) ∧ Kb p W W' := fun W hW => number_ok hW 4 (by decide) (by decide) (by omega)
  generalize nm bs j 4 = NV at *
  by_cases hs : NV = SV
  case neg =>
    rw [if_pos hs]
    have hsi : ((NV : Int) != (SV : Int)) = true := by simp; omega
    go_enter Try.func46, Try.ntmps46
    go_wp2
    refine wp_region_any hmx ?_
    refine wpAny_pure (fun i__ => ([(.pointer (some ⟨p, 0, none⟩)), (.pointer (some ⟨p, 0, none⟩)), (.pointer (some ⟨p, 0, none⟩)), (.slice (some ⟨b, off, none⟩) bs.length cap), (.pointer (some ⟨p, 0, none⟩)), (.pointer (some ⟨p, 0, none⟩)), (.pointer (some ⟨p, 1, none⟩)), (.int .i64 (j : Int)), (.slice (some ⟨b, off, none⟩) j cap), (.int .i64 (SV : Int)), (.int .i64 (SV : Int))] : List Value).getD i__ undef) (fun V => Rdr V p (some ⟨b, off, none⟩) cap bs j ∧ Below w.heap.size w V) (by kernel_rfl) ⟨h.carry (Below.refl _ _).drew, (Below.refl _ _).drew⟩ ?_ ?_
    · refine (stepsFrom_cons ?_ (stepsFrom_cons ?_ (stepsFrom_cons ?_ (stepsFrom_cons ?_ (stepsFrom_cons ?_ (stepsFrom_cons ?_ (stepsFrom_cons ?_ (stepsFrom_cons ?_ (stepsFrom_cons ?_ (stepsFrom_cons ?_ (stepsFrom_cons ?_ trivial)))))))))))
      · exact step_move rfl trivial _ rfl (by kernel_rfl)
      · exact step_nilCheck rfl trivial _ _ _ rfl rfl rfl
      · exact step_fieldAddr rfl trivial _ _ _ _ rfl rfl (fun w hw => rfield0 p w)
      · exact step_load rfl trivial _ _ _ rfl rfl (fun w hw => hw.1.all)
      · exact step_move rfl trivial _ rfl (by kernel_rfl)
      · exact step_nilCheck rfl trivial _ _ _ rfl rfl rfl
      · exact step_fieldAddr rfl trivial _ _ _ _ rfl rfl (fun w hw => rfield1 p w)
      · exact step_load rfl trivial _ _ _ rfl rfl (fun w hw => hw.1.at)
      · exact step_slice rfl trivial _ _ _ _ _ none (some (.int .i64 (j : Int))) rfl rfl rfl rfl (fun w hw => slice_to b off bs.length cap j (by omega) w)
      · exact step_call rfl trivial 30 _ _ [(.slice (some ⟨b, off, none⟩) j cap)] rfl (by kernel_rfl) (enters_of Try.func30 (by kernel_rfl) rfl) (fun w hw => (hsum w hw.1).mono (by rintro e w' ⟨rfl, rfl⟩; exact ⟨rfl, hw⟩))
      · exact step_assign rfl trivial _ rfl (by kernel_rfl) (fun _ h => h)
    intro W hW
    first | refine hK _ _ ?_ | refine (‹∀ (a : Act) (w : World), Code.wp Try.prog _ _ a w → _›) _ _ ?_
    simp only [finL, List.getD_cons_zero, List.getD_cons_succ, Nat.zero_add, Nat.reduceAdd, List.setIfInBounds_toArray, List.set_cons_zero, List.set_cons_succ]
    obtain ⟨hW1, hb1⟩ := hW
    go_wp2_with (first | (go_at_call 56; (with_reducible refine (hnu _ hW1).mono ?_); rintro e u2 ⟨rfl, hr2, hk2⟩) | (go_at_call 55; (with_reducible refine (hr77 _).mono ?_); rintro e ur ⟨rfl, hu⟩; rw [hu]; clear hu ur))
    exact ⟨rfl, rfl, (Kb.below hb1 (Nat.le_of_lt h.lt)).trans hk2⟩
  rw [if_neg (fun q => q hs)]
  subst hs
  obtain ⟨E, hE⟩ : ∃ E : Ending, (if j + 4 < bs.length then .panicked (rfu 2) else .returned (.tuple #[])) = E := ⟨_, rfl⟩
  rw [hE]
  have HE : Hid ((if j + 4 < bs.length then .panicked (rfu 2) else .returned (.tuple #[])) = E) := hE
  clear hE
  go_enter Try.func46, Try.ntmps46
  go_wp2
  refine wp_region_any hmx ?_
  refine wpAny_pure (fun i__ => ([(.pointer (some ⟨p, 0, none⟩)), (.pointer (some ⟨p, 0, none⟩)), (.pointer (some ⟨p, 0, none⟩)), (.slice (some ⟨b, off, none⟩) bs.length cap), (.pointer (some ⟨p, 0, none⟩)), (.pointer (some ⟨p, 0, none⟩)), (.pointer (some ⟨p, 1, none⟩)), (.int .i64 (j : Int)), (.slice (some ⟨b, off, none⟩) j cap), (.int .i64 (NV : Int)), (.int .i64 (NV : Int))] : List Value).getD i__ undef) (fun V => Rdr V p (some ⟨b, off, none⟩) cap bs j ∧ Below w.heap.size w V) (by kernel_rfl) ⟨h.carry (Below.refl _ _).drew, (Below.refl _ _).drew⟩ ?_ ?_
  · refine (stepsFrom_cons ?_ (stepsFrom_cons ?_ (stepsFrom_cons ?_ (stepsFrom_cons ?_ (stepsFrom_cons ?_ (stepsFrom_cons ?_ (stepsFrom_cons ?_ (stepsFrom_cons ?_ (stepsFrom_cons ?_ (stepsFrom_cons ?_ (stepsFrom_cons ?_ trivial)))))))))))
    · exact step_move rfl trivial _ rfl (by kernel_rfl)
    · exact step_nilCheck rfl trivial _ _ _ rfl rfl rfl
    · exact step_fieldAddr rfl trivial _ _ _ _ rfl rfl (fun w hw => rfield0 p w)
    · exact step_load rfl trivial _ _ _ rfl rfl (fun w hw => hw.1.all)
    · exact step_move rfl trivial _ rfl (by kernel_rfl)
    · exact step_nilCheck rfl trivial _ _ _ rfl rfl rfl
    · exact step_fieldAddr rfl trivial _ _ _ _ rfl rfl (fun w hw => rfield1 p w)
    · exact step_load rfl trivial _ _ _ rfl rfl (fun w hw => hw.1.at)
    · exact step_slice rfl trivial _ _ _ _ _ none (some (.int .i64 (j : Int))) rfl rfl rfl rfl (fun w hw => slice_to b off bs.length cap j (by omega) w)
    · exact step_call rfl trivial 30 _ _ [(.slice (some ⟨b, off, none⟩) j cap)] rfl (by kernel_rfl) (enters_of Try.func30 (by kernel_rfl) rfl) (fun w hw => (hsum w hw.1).mono (by rintro e w' ⟨rfl, rfl⟩; exact ⟨rfl, hw⟩))
    · exact step_assign rfl trivial _ rfl (by kernel_rfl) (fun _ h => h)
  intro W hW
  first | refine hK _ _ ?_ | refine (‹∀ (a : Act) (w : World), Code.wp Try.prog _ _ a w → _›) _ _ ?_
  simp only [finL, List.getD_cons_zero, List.getD_cons_succ, Nat.zero_add, Nat.reduceAdd, List.setIfInBounds_toArray, List.set_cons_zero, List.set_cons_succ]
  obtain ⟨hW1, hb1⟩ := hW
  go_wp2_with (first | (go_at_call 56; (with_reducible refine (hnu _ hW1).mono ?_); rintro e u2 ⟨rfl, hr2, hk2⟩) | (go_at_call 55; (with_reducible refine (hn77 _).mono ?_); rintro e ur ⟨rfl, hu⟩; rw [hu]; clear hu ur))
  have hkk := (Kb.below hb1 (Nat.le_of_lt h.lt)).trans hk2
  by_cases hj : j + 4 < bs.length
  · have hjd : decide (((j + 4 : Nat) : Int) < (bs.length : Int)) = true := decide_eq_true (by omega)
    refine wp_region_any hmx ?_
    refine wpAny_dies 10 (fun i__ => ([(.pointer (some ⟨p, 0, none⟩)), (.pointer (some ⟨p, 0, none⟩)), (.pointer (some ⟨p, 1, none⟩)), (.int .i64 ((j + 4 : Nat) : Int)), (.pointer (some ⟨p, 0, none⟩)), (.pointer (some ⟨p, 0, none⟩)), (.pointer (some ⟨p, 0, none⟩)), (.slice (some ⟨b, off, none⟩) bs.length cap), (.int .i64 (bs.length : Int)), (.bool true), undef] : List Value).getD i__ undef) (fun V => Rdr V p (some ⟨b, off, none⟩) cap bs (j + 4) ∧ Kb p w V) rfl (by kernel_rfl) ⟨hr2.carry (Below.refl _ _).drew, hkk.trans (Kb.below (Below.refl _ _).drew (Nat.le_of_lt hr2.lt))⟩ ?_ ?_
    · refine (stepsFrom_cons ?_ (stepsFrom_cons ?_ (stepsFrom_cons ?_ (stepsFrom_cons ?_ (stepsFrom_cons ?_ (stepsFrom_cons ?_ (stepsFrom_cons ?_ (stepsFrom_cons ?_ (stepsFrom_cons ?_ (stepsFrom_cons ?_ trivial))))))))))
      · exact step_move rfl trivial _ rfl (by kernel_rfl)
      · exact step_nilCheck rfl trivial _ _ _ rfl rfl rfl
      · exact step_fieldAddr rfl trivial _ _ _ _ rfl rfl (fun w hw => rfield1 p w)
      · exact step_load rfl trivial _ _ _ rfl rfl (fun w hw => hw.1.at)
      · exact step_move rfl trivial _ rfl (by kernel_rfl)
      · exact step_nilCheck rfl trivial _ _ _ rfl rfl rfl
      · exact step_fieldAddr rfl trivial _ _ _ _ rfl rfl (fun w hw => rfield0 p w)
      · exact step_load rfl trivial _ _ _ rfl rfl (fun w hw => hw.1.all)
      · exact step_bi rfl trivial _ _ _ [(.slice (some ⟨b, off, none⟩) bs.length cap)] rfl (by kernel_rfl) (fun cs w hw => bi_lenB _ cs _ _ _ w)
      · exact step_binOp rfl trivial _ _ _ _ _ _ _ rfl rfl rfl (fun w hw => by rw [← hjd]; exact bin_lss _ _ _)
    · intro o ho
      cases ho
      exact call_dies rfl trivial 55 _ _ [(.bool true), (Go.Value.int Go.IntKind.i64 2)] rfl (by kernel_rfl) (enters_of Try.func55 (by kernel_rfl) rfl) (rfu 2) (J2 := fun V => Kb p w V) (fun w hw => (refuse_yes 2 w).mono (by rintro e w' ⟨rfl, rfl⟩; exact ⟨rfl, hw.2⟩)) (fun a w hd hb => ⟨hd, by rw [← HE.out, if_pos hj], hb⟩)
  · have hjd : decide (((j + 4 : Nat) : Int) < (bs.length : Int)) = false := decide_eq_false (by omega)
    have hK : ∀ (a : Act) (V : World), bodyPost Try.prog Try.f46 (fun e w' => e = E ∧ Kb p w w') .normal a V → bodyPost Try.prog Try.f46 (fun e w' => e = E ∧ Kb p w w') .normal a V := fun _ _ h => h
    refine wp_region_any hmx ?_
    refine wpAny_pure (fun i__ => ([(.pointer (some ⟨p, 0, none⟩)), (.pointer (some ⟨p, 0, none⟩)), (.pointer (some ⟨p, 1, none⟩)), (.int .i64 ((j + 4 : Nat) : Int)), (.pointer (some ⟨p, 0, none⟩)), (.pointer (some ⟨p, 0, none⟩)), (.pointer (some ⟨p, 0, none⟩)), (.slice (some ⟨b, off, none⟩) bs.length cap), (.int .i64 (bs.length : Int)), (.bool false), (.tuple #[])] : List Value).getD i__ undef) (fun V => Rdr V p (some ⟨b, off, none⟩) cap bs (j + 4) ∧ Kb p w V) (by kernel_rfl) ⟨hr2.carry (Below.refl _ _).drew, hkk.trans (Kb.below (Below.refl _ _).drew (Nat.le_of_lt hr2.lt))⟩ ?_ ?_
    · refine (stepsFrom_cons ?_ (stepsFrom_cons ?_ (stepsFrom_cons ?_ (stepsFrom_cons ?_ (stepsFrom_cons ?_ (stepsFrom_cons ?_ (stepsFrom_cons ?_ (stepsFrom_cons ?_ (stepsFrom_cons ?_ (stepsFrom_cons ?_ (stepsFrom_cons ?_ trivial)))))))))))
      · exact step_move rfl trivial _ rfl (by kernel_rfl)
      · exact step_nilCheck rfl trivial _ _ _ rfl rfl rfl
      · exact step_fieldAddr rfl trivial _ _ _ _ rfl rfl (fun w hw => rfield1 p w)
      · exact step_load rfl trivial _ _ _ rfl rfl (fun w hw => hw.1.at)
      · exact step_move rfl trivial _ rfl (by kernel_rfl)
      · exact step_nilCheck rfl trivial _ _ _ rfl rfl rfl
      · exact step_fieldAddr rfl trivial _ _ _ _ rfl rfl (fun w hw => rfield0 p w)
      · exact step_load rfl trivial _ _ _ rfl rfl (fun w hw => hw.1.all)
      · exact step_bi rfl trivial _ _ _ [(.slice (some ⟨b, off, none⟩) bs.length cap)] rfl (by kernel_rfl) (fun cs w hw => bi_lenB _ cs _ _ _ w)
      · exact step_binOp rfl trivial _ _ _ _ _ _ _ rfl rfl rfl (fun w hw => by rw [← hjd]; exact bin_lss _ _ _)
      · exact step_call rfl trivial 55 _ _ [(.bool false), (Go.Value.int Go.IntKind.i64 2)] rfl (by kernel_rfl) (enters_of Try.func55 (by kernel_rfl) rfl) (fun w hw => (refuse_no 2 w).mono (by rintro e w' ⟨rfl, rfl⟩; exact ⟨rfl, hw⟩))
    intro W hW
    first | refine hK _ _ ?_ | refine (‹∀ (a : Act) (w : World), Code.wp Try.prog _ _ a w → _›) _ _ ?_
    simp only [finL, List.getD_cons_zero, List.getD_cons_succ, Nat.zero_add, Nat.reduceAdd, List.setIfInBounds_toArray, List.set_cons_zero, List.set_cons_succ]
    go_end0
    exact ⟨by rw [← HE.out, if_neg hj], hW.2⟩
/-- A note's value. -/
def noteV (kd : Nat) (fr rd : Int) (N : Nat) (v : Value) : Value :=
  if kd = 1 then .iface 47 (.agg #[.int .i64 fr, .int .i64 rd, v])
  else if kd = 2 then .iface 50 (.agg #[.int .i64 fr, .int .i64 rd, .int .u32 (wd N 0 : Nat), .int .u32 (wd N 1 : Nat), .int .u32 (wd N 2 : Nat), .int .u32 (wd N 3 : Nat), v])
  else .iface 53 (.agg #[.int .i64 fr, v])
set_option maxHeartbeats 1000000 in
set_option maxRecDepth 100000 in
theorem note_any (kd : Nat) (fr rd : Int) (N : Nat) (a : Option Addr) (m c : Nat) (w : World) : Calls Try.prog 47 #[fv kd fr rd N (.slice a m c)] w fun e w' => e = .returned (noteV kd fr rd N (.slice a m c)) ∧ Below w.heap.size w w' := by
  unfold noteV
  simp only [fv, fcs]
  by_cases h1 : kd = 1
  · rw [if_pos h1]
    subst h1
    go_enter Try.func47, Try.ntmps47
    go_wp2
    go_ret
    exact ⟨rfl, al1' w _⟩
  rw [if_neg h1]
  by_cases h2 : kd = 2
  · rw [if_pos h2]
    subst h2
    go_enter Try.func47, Try.ntmps47
    go_wp2
    go_ret
    exact ⟨rfl, al1' w _⟩
  rw [if_neg h2]
  have q1 : ((kd : Int) == 1) = false := by simp; omega
  have q2 : ((kd : Int) == 2) = false := by simp; omega
  go_enter Try.func47, Try.ntmps47
  go_wp2
  go_ret
  exact ⟨rfl, al1' w _⟩
end Go.Proofs.Ytndogopllcpiiaa
