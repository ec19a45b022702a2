import Derived.Test.YtekjhcnaabpfmaaGreatDoorJnJ30
import Derived.Test.YtekjhcnaabpfmaaGreatDoorJnJ27
import Derived.Test.YtekjhcnaabpfmaaGreatDoorJnJ19
import Derived.Defers
import Derived.Recover
set_option maxHeartbeats 40000000
set_option maxRecDepth 100000
set_option linter.unusedVariables false
namespace Go.Proofs.YtekjhcnaabpfmaaGreatDoor
open Go.RowKit Go.Shelf
theorem fields_any {w : World} {p : Nat} {ad : Option Addr} {cap : Nat} {bs : List Nat} (h : Rdr w p ad cap bs 0) (n : Nat) (hn1 : 1 ≤ n) (hn : n ≤ 100) : Calls Tryz.prog 37 #[.pointer (some ⟨p, 0, none⟩), .int .i64 (n : Int)] w (FdO p ad cap bs (rdF n bs) w) := by
 unfold rdF
 by_cases h1 : bs.length < 2
 · rw [if_pos h1]
   exact fd1 h n h1
 rw [if_neg h1]
 replace h1 : 2 ≤ bs.length := by omega
 by_cases hM : nmW bs 0 2 = 25971
 case neg =>
   rw [if_pos hM]
   exact fd2 h n h1 _ rfl hM
 rw [if_neg (fun q => q hM)]
 by_cases h2 : bs.length < 3
 · rw [if_pos h2]
   exact fd3 h n h1 hM h2
 rw [if_neg h2]
 replace h2 : 3 ≤ bs.length := by omega
 by_cases hk : 1 ≤ nmW bs 2 1 ∧ nmW bs 2 1 ≤ 3
 case neg =>
   rw [if_pos hk]
   by_cases q : nmW bs 2 1 < 1
   · exact fd4a h n h1 hM h2 _ rfl q
   · exact fd4b h n h1 hM h2 _ rfl (by omega)
 rw [if_neg (fun q => q hk)]
 obtain ⟨hk1, hk3⟩ := hk
 by_cases h3 : bs.length < 4
 · rw [if_pos h3]
   exact fd5 h n h1 hM h2 _ rfl hk1 hk3 h3
 rw [if_neg h3]
 replace h3 : 4 ≤ bs.length := by omega
 by_cases hs : nmW bs 3 1 = n
 case neg =>
   rw [if_pos hs]
   exact fd6 h n h1 hM h2 _ rfl hk1 hk3 h3 _ rfl hs
 rw [if_neg (fun q => q hs)]
 by_cases h4 : bs.length < 5
 · rw [if_pos h4]
   exact fd7 h n h1 hM h2 _ rfl hk1 hk3 h3 hs h4
 rw [if_neg h4]
 replace h4 : 5 ≤ bs.length := by omega
 by_cases hg : n ≤ nmW bs 4 1
 · rw [if_pos hg]
   exact fd8 h n h1 hM h2 _ rfl hk1 hk3 h3 hs h4 _ rfl hg
 rw [if_neg hg]
 replace hg : nmW bs 4 1 < n := by omega
 unfold rd2
 by_cases hk4 : nmW bs 2 1 = 3
 · rw [if_pos hk4, rd3, if_neg (by omega), rd4]
   cases hW : rdW n bs 5 with
   | error er => exact fd9x h n h1 hM h2 _ rfl h3 hs h4 _ rfl hg hk4 hn er hW
   | ok q => exact fd9o h n h1 hM h2 _ rfl h3 hs h4 _ rfl hg hk4 hn q.1 q.2 hW
 rw [if_neg hk4]
 by_cases h5 : bs.length < 10
 · rw [if_pos h5]
   exact fd10 h n h1 hM h2 _ rfl hk1 hk3 hk4 h3 hs h4 _ rfl hg h5
 rw [if_neg h5]
 replace h5 : 10 ≤ bs.length := by omega
 by_cases hr : 1 ≤ nmW bs 5 5 ∧ nmW bs 5 5 ≤ 1099511627775
 case neg =>
   rw [if_pos hr]
   exact fd11 h n h1 hM h2 _ rfl hk1 hk3 hk4 h3 hs h4 _ rfl hg h5 _ rfl hr
 rw [if_neg (fun q => q hr)]
 unfold rd3
 by_cases hk5 : nmW bs 2 1 = 2
 · rw [if_pos hk5]
   by_cases h6 : bs.length < 10 + hsz n
   · rw [if_pos h6]
     exact fd13 h n h1 hM h2 _ rfl hk4 h3 hs h4 _ rfl hg h5 _ rfl hr hk5 hn hn1 h6
   rw [if_neg h6]
   replace h6 : 10 + hsz n ≤ bs.length := by omega
   by_cases hw : wthB (vlS ((bs.drop 10).take (hsz n))) n = false
   · rw [if_pos hw]
     exact fd14 h n h1 hM h2 _ rfl hk4 h3 hs h4 _ rfl hg h5 _ rfl hr hk5 hn hn1 h6 _ rfl hw
   rw [if_neg hw, rd4]
   replace hw : wthB (vlS ((bs.drop 10).take (hsz n))) n = true := by simpa using hw
   cases hW : rdW n bs (10 + hsz n) with
   | error er => exact fd15x h n h1 hM h2 _ rfl hk4 h3 hs h4 _ rfl hg h5 _ rfl hr hk5 hn1 h6 _ rfl hw hn er hW
   | ok q => exact fd15o h n h1 hM h2 _ rfl hk4 h3 hs h4 _ rfl hg h5 _ rfl hr hk5 hn1 h6 _ rfl hw hn q.1 q.2 hW
 · rw [if_neg hk5, rd4]
   cases hW : rdW n bs 10 with
   | error er => exact fd12x h n h1 hM h2 _ rfl hk1 hk3 hk4 h3 hs h4 _ rfl hg h5 _ rfl hr hk5 hn er hW
   | ok q => exact fd12o h n h1 hM h2 _ rfl hk1 hk3 hk4 h3 hs h4 _ rfl hg h5 _ rfl hr hk5 hn q.1 q.2 hW
theorem slice_to (b off len cap hi : Nat) (h2 : hi ≤ cap) (W : World) : (Instr.sliceAt 23 (.slice (some ⟨b, off, none⟩) len cap) none (some (.int .i64 (hi : Int))) none).run Tryz.prog W = .ok (.slice (some ⟨b, off, none⟩) hi cap) W := by
 have q2 : (hi : Int) ≤ (cap : Int) := by omega
 go_simp
def EnO (p : Nat) (bs : List Nat) (j : Nat) (w : World) (e : Ending) (w' : World) : Prop :=
 e = (if bs.length < j + 4 then .panicked (rfu 76) else if nmW bs j 4 ≠ sumV (bs.take j) then .panicked (rfu 77) else if j + 4 < bs.length then .panicked (rfu 2) else .returned (.tuple #[])) ∧ Kb p w w'
theorem end_any {w : World} {p : Nat} {ad : Option Addr} {cap : Nat} {bs : List Nat} {j : Nat} (h : Rdr w p ad cap bs j) (hne : bs ≠ []) : Calls Tryz.prog 38 #[.pointer (some ⟨p, 0, none⟩)] w (EnO p bs j w) := by
 have hmx := mixO
 have hle := h.le
 have hln := h.ln
 have hcp := h.cp
 obtain ⟨b, off, rfl, hbp, hat⟩ := h.rd hne
 have hsum : ∀ W, Rdr W p (some ⟨b, off, none⟩) cap bs j → Calls Tryz.prog 77 #[.slice (some ⟨b, off, none⟩) j cap] W fun e W' => e = .returned (.int .i64 (sumV (bs.take j) : Nat)) ∧ W' = W := fun W hW => by
   obtain ⟨b', off', e, hb', hat'⟩ := hW.rd hne
   cases e
   have := sum_any (some ⟨b, off, none⟩) cap (bs.take j) W (fun _ => ⟨b, off, rfl, Nat.lt_trans hb' hW.lt, by have := hat'.sub 0 j; simpa using this⟩) (hW.byt.take j) (by rw [List.length_take]; omega)
   rw [List.length_take, Nat.min_eq_left hle] at this
   exact this
 obtain ⟨SV, hSV⟩ : ∃ SV, sumV (bs.take j) = SV := ⟨_, rfl⟩
 rw [hSV] at hsum
 unfold EnO
 rw [hSV]
 clear hSV
 have hr77 := refuse_yes 77
 have hn77 := zrn 77
 by_cases h4 : bs.length < j + 4
 case pos =>
   rw [if_pos h4]
   have hx : ∀ W, Rdr W p (some ⟨b, off, none⟩) cap bs j → Calls Tryz.prog 68 #[.pointer (some ⟨p, 0, none⟩), .int .i64 4] W fun e W' => e = .panicked (rfu 76) ∧ Below W.heap.size W W' := fun W hW => number_no hW 4 h4
   go_enter Tryz.func38, Tryz.ntmps38
   go_wp2
   refine wp_region_any hmx ?_
   refine zwp (fun i__ => ([(.pointer (some ⟨p, 0, none⟩)), (.pointer (some ⟨p, 0, none⟩)), (.pointer (some ⟨p, 0, none⟩)), (.slice (some ⟨b, off, none⟩) bs.length cap), (.pointer (some ⟨p, 0, none⟩)), (.pointer (some ⟨p, 0, none⟩)), (.pointer (some ⟨p, 1, none⟩)), (.int .i64 (j : Int)), (.slice (some ⟨b, off, none⟩) j cap), (.int .i64 (SV : Int)), (.int .i64 (SV : Int))] : List Value).getD i__ undef) (fun V => Rdr V p (some ⟨b, off, none⟩) cap bs j ∧ Below w.heap.size w V) (by kernel_rfl) ⟨h.carry (Below.refl _ _).drew, (Below.refl _ _).drew⟩ ?_ ?_
   · refine (sqc ?_ (sqc ?_ (sqc ?_ (sqc ?_ (sqc ?_ (sqc ?_ (sqc ?_ (sqc ?_ (sqc ?_ (sqc ?_ (sqc ?_ trivial)))))))))))
     · exact zmv rfl trivial _ rfl (by kernel_rfl)
     · exact znc rfl trivial _ _ _ rfl rfl rfl
     · exact zfa rfl trivial _ _ _ _ rfl rfl (fun w hw => rfield0 p w)
     · exact zld rfl trivial _ _ _ rfl rfl (fun w hw => hw.1.all)
     · exact zmv rfl trivial _ rfl (by kernel_rfl)
     · exact znc rfl trivial _ _ _ rfl rfl rfl
     · exact zfa rfl trivial _ _ _ _ rfl rfl (fun w hw => rfield1 p w)
     · exact zld rfl trivial _ _ _ rfl rfl (fun w hw => hw.1.at)
     · exact step_slice rfl trivial _ _ _ _ _ none (some (.int .i64 (j : Int))) rfl rfl rfl rfl (fun w hw => slice_to b off bs.length cap j (by omega) w)
     · exact zsc rfl trivial 77 _ _ [(.slice (some ⟨b, off, none⟩) j cap)] rfl (by kernel_rfl) (enters_of Tryz.func77 (by kernel_rfl) rfl) (fun w hw => (hsum w hw.1).mono (by rintro e w' ⟨rfl, rfl⟩; exact ⟨rfl, hw⟩))
     · exact zas rfl trivial _ rfl (by kernel_rfl) (fun _ h => h)
   intro W hW
   first | refine hK _ _ ?_ | refine (‹∀ (a : Act) (w : World), Code.wp Tryz.prog _ _ a w → _›) _ _ ?_
   simp only [finL, List.getD_cons_zero, List.getD_cons_succ, Nat.zero_add, Nat.reduceAdd, List.setIfInBounds_toArray, List.set_cons_zero, List.set_cons_succ]
   obtain ⟨hW1, hb1⟩ := hW
   go_wp2_with (go_at_call 68; (with_reducible refine (hx _ hW1).mono ?_); rintro e u2 ⟨rfl, hb2⟩)
   exact ⟨rfl, rfl, (Kb.below hb1 (Nat.le_of_lt h.lt)).trans (Kb.below hb2 (Nat.le_of_lt hW1.lt))⟩
 rw [if_neg h4]
 have hnu : ∀ W, Rdr W p (some ⟨b, off, none⟩) cap bs j → Calls Tryz.prog 68 #[.pointer (some ⟨p, 0, none⟩), .int .i64 4] W fun e W' => e = .returned (.int .i64 (nmW bs j 4 : Nat)) ∧ Rdr W' p (some ⟨b, off, none⟩) cap bs (j + 4) ∧ Kb p W W' := fun W hW => number_ok hW 4 (by decide) (by decide) (by omega)
 generalize nmW bs j 4 = NV at *
 by_cases hs : NV = SV
 case neg =>
   rw [if_pos hs]
   have hsi : ((NV : Int) != (SV : Int)) = true := by simp; omega
   go_enter Tryz.func38, Tryz.ntmps38
   go_wp2
   refine wp_region_any hmx ?_
   refine zwp (fun i__ => ([(.pointer (some ⟨p, 0, none⟩)), (.pointer (some ⟨p, 0, none⟩)), (.pointer (some ⟨p, 0, none⟩)), (.slice (some ⟨b, off, none⟩) bs.length cap), (.pointer (some ⟨p, 0, none⟩)), (.pointer (some ⟨p, 0, none⟩)), (.pointer (some ⟨p, 1, none⟩)), (.int .i64 (j : Int)), (.slice (some ⟨b, off, none⟩) j cap), (.int .i64 (SV : Int)), (.int .i64 (SV : Int))] : List Value).getD i__ undef) (fun V => Rdr V p (some ⟨b, off, none⟩) cap bs j ∧ Below w.heap.size w V) (by kernel_rfl) ⟨h.carry (Below.refl _ _).drew, (Below.refl _ _).drew⟩ ?_ ?_
   · refine (sqc ?_ (sqc ?_ (sqc ?_ (sqc ?_ (sqc ?_ (sqc ?_ (sqc ?_ (sqc ?_ (sqc ?_ (sqc ?_ (sqc ?_ trivial)))))))))))
     · exact zmv rfl trivial _ rfl (by kernel_rfl)
     · exact znc rfl trivial _ _ _ rfl rfl rfl
     · exact zfa rfl trivial _ _ _ _ rfl rfl (fun w hw => rfield0 p w)
     · exact zld rfl trivial _ _ _ rfl rfl (fun w hw => hw.1.all)
     · exact zmv rfl trivial _ rfl (by kernel_rfl)
     · exact znc rfl trivial _ _ _ rfl rfl rfl
     · exact zfa rfl trivial _ _ _ _ rfl rfl (fun w hw => rfield1 p w)
     · exact zld rfl trivial _ _ _ rfl rfl (fun w hw => hw.1.at)
     · exact step_slice rfl trivial _ _ _ _ _ none (some (.int .i64 (j : Int))) rfl rfl rfl rfl (fun w hw => slice_to b off bs.length cap j (by omega) w)
     · exact zsc rfl trivial 77 _ _ [(.slice (some ⟨b, off, none⟩) j cap)] rfl (by kernel_rfl) (enters_of Tryz.func77 (by kernel_rfl) rfl) (fun w hw => (hsum w hw.1).mono (by rintro e w' ⟨rfl, rfl⟩; exact ⟨rfl, hw⟩))
     · exact zas rfl trivial _ rfl (by kernel_rfl) (fun _ h => h)
   intro W hW
   first | refine hK _ _ ?_ | refine (‹∀ (a : Act) (w : World), Code.wp Tryz.prog _ _ a w → _›) _ _ ?_
   simp only [finL, List.getD_cons_zero, List.getD_cons_succ, Nat.zero_add, Nat.reduceAdd, List.setIfInBounds_toArray, List.set_cons_zero, List.set_cons_succ]
   obtain ⟨hW1, hb1⟩ := hW
   go_wp2_with (first | (go_at_call 68; (with_reducible refine (hnu _ hW1).mono ?_); rintro e u2 ⟨rfl, hr2, hk2⟩) | (go_at_call 67; (with_reducible refine (hr77 _).mono ?_); rintro e ur ⟨rfl, hu⟩; rw [hu]; clear hu ur))
   exact ⟨rfl, rfl, (Kb.below hb1 (Nat.le_of_lt h.lt)).trans hk2⟩
 rw [if_neg (fun q => q hs)]
 subst hs
 obtain ⟨E, hE⟩ : ∃ E : Ending, (if j + 4 < bs.length then .panicked (rfu 2) else .returned (.tuple #[])) = E := ⟨_, rfl⟩
 rw [hE]
 have HE : Hid ((if j + 4 < bs.length then .panicked (rfu 2) else .returned (.tuple #[])) = E) := hE
 clear hE
 go_enter Tryz.func38, Tryz.ntmps38
 go_wp2
 refine wp_region_any hmx ?_
 refine zwp (fun i__ => ([(.pointer (some ⟨p, 0, none⟩)), (.pointer (some ⟨p, 0, none⟩)), (.pointer (some ⟨p, 0, none⟩)), (.slice (some ⟨b, off, none⟩) bs.length cap), (.pointer (some ⟨p, 0, none⟩)), (.pointer (some ⟨p, 0, none⟩)), (.pointer (some ⟨p, 1, none⟩)), (.int .i64 (j : Int)), (.slice (some ⟨b, off, none⟩) j cap), (.int .i64 (NV : Int)), (.int .i64 (NV : Int))] : List Value).getD i__ undef) (fun V => Rdr V p (some ⟨b, off, none⟩) cap bs j ∧ Below w.heap.size w V) (by kernel_rfl) ⟨h.carry (Below.refl _ _).drew, (Below.refl _ _).drew⟩ ?_ ?_
 · refine (sqc ?_ (sqc ?_ (sqc ?_ (sqc ?_ (sqc ?_ (sqc ?_ (sqc ?_ (sqc ?_ (sqc ?_ (sqc ?_ (sqc ?_ trivial)))))))))))
   · exact zmv rfl trivial _ rfl (by kernel_rfl)
   · exact znc rfl trivial _ _ _ rfl rfl rfl
   · exact zfa rfl trivial _ _ _ _ rfl rfl (fun w hw => rfield0 p w)
   · exact zld rfl trivial _ _ _ rfl rfl (fun w hw => hw.1.all)
   · exact zmv rfl trivial _ rfl (by kernel_rfl)
   · exact znc rfl trivial _ _ _ rfl rfl rfl
   · exact zfa rfl trivial _ _ _ _ rfl rfl (fun w hw => rfield1 p w)
   · exact zld rfl trivial _ _ _ rfl rfl (fun w hw => hw.1.at)
   · exact step_slice rfl trivial _ _ _ _ _ none (some (.int .i64 (j : Int))) rfl rfl rfl rfl (fun w hw => slice_to b off bs.length cap j (by omega) w)
   · exact zsc rfl trivial 77 _ _ [(.slice (some ⟨b, off, none⟩) j cap)] rfl (by kernel_rfl) (enters_of Tryz.func77 (by kernel_rfl) rfl) (fun w hw => (hsum w hw.1).mono (by rintro e w' ⟨rfl, rfl⟩; exact ⟨rfl, hw⟩))
   · exact zas rfl trivial _ rfl (by kernel_rfl) (fun _ h => h)
 intro W hW
 first | refine hK _ _ ?_ | refine (‹∀ (a : Act) (w : World), Code.wp Tryz.prog _ _ a w → _›) _ _ ?_
 simp only [finL, List.getD_cons_zero, List.getD_cons_succ, Nat.zero_add, Nat.reduceAdd, List.setIfInBounds_toArray, List.set_cons_zero, List.set_cons_succ]
 obtain ⟨hW1, hb1⟩ := hW
 go_wp2_with (first | (go_at_call 68; (with_reducible refine (hnu _ hW1).mono ?_); rintro e u2 ⟨rfl, hr2, hk2⟩) | (go_at_call 67; (with_reducible refine (hn77 _).mono ?_); rintro e ur ⟨rfl, hu⟩; rw [hu]; clear hu ur))
 have hkk := (Kb.below hb1 (Nat.le_of_lt h.lt)).trans hk2
 by_cases hj : j + 4 < bs.length
 · have hjd : decide (((j + 4 : Nat) : Int) < (bs.length : Int)) = true := decide_eq_true (by omega)
   refine wp_region_any hmx ?_
   refine wpAny_dies 10 (fun i__ => ([(.pointer (some ⟨p, 0, none⟩)), (.pointer (some ⟨p, 0, none⟩)), (.pointer (some ⟨p, 1, none⟩)), (.int .i64 ((j + 4 : Nat) : Int)), (.pointer (some ⟨p, 0, none⟩)), (.pointer (some ⟨p, 0, none⟩)), (.pointer (some ⟨p, 0, none⟩)), (.slice (some ⟨b, off, none⟩) bs.length cap), (.int .i64 (bs.length : Int)), (.bool true), undef] : List Value).getD i__ undef) (fun V => Rdr V p (some ⟨b, off, none⟩) cap bs (j + 4) ∧ Kb p w V) rfl (by kernel_rfl) ⟨hr2.carry (Below.refl _ _).drew, hkk.trans (Kb.below (Below.refl _ _).drew (Nat.le_of_lt hr2.lt))⟩ ?_ ?_
   · refine (sqc ?_ (sqc ?_ (sqc ?_ (sqc ?_ (sqc ?_ (sqc ?_ (sqc ?_ (sqc ?_ (sqc ?_ (sqc ?_ trivial))))))))))
     · exact zmv rfl trivial _ rfl (by kernel_rfl)
     · exact znc rfl trivial _ _ _ rfl rfl rfl
     · exact zfa rfl trivial _ _ _ _ rfl rfl (fun w hw => rfield1 p w)
     · exact zld rfl trivial _ _ _ rfl rfl (fun w hw => hw.1.at)
     · exact zmv rfl trivial _ rfl (by kernel_rfl)
     · exact znc rfl trivial _ _ _ rfl rfl rfl
     · exact zfa rfl trivial _ _ _ _ rfl rfl (fun w hw => rfield0 p w)
     · exact zld rfl trivial _ _ _ rfl rfl (fun w hw => hw.1.all)
     · exact step_bi rfl trivial _ _ _ [(.slice (some ⟨b, off, none⟩) bs.length cap)] rfl (by kernel_rfl) (fun cs w hw => bi_lenB _ cs _ _ _ w)
     · exact zbo rfl trivial _ _ _ _ _ _ _ rfl rfl rfl (fun w hw => by rw [← hjd]; exact bin_lss _ _ _)
   · intro o ho
     cases ho
     exact call_dies rfl trivial 67 _ _ [(.bool true), (Go.Value.int Go.IntKind.i64 2)] rfl (by kernel_rfl) (enters_of Tryz.func67 (by kernel_rfl) rfl) (rfu 2) (J2 := fun V => Kb p w V) (fun w hw => (refuse_yes 2 w).mono (by rintro e w' ⟨rfl, rfl⟩; exact ⟨rfl, hw.2⟩)) (fun a w hd hb => ⟨hd, by rw [← HE.out, if_pos hj], hb⟩)
 · have hjd : decide (((j + 4 : Nat) : Int) < (bs.length : Int)) = false := decide_eq_false (by omega)
   have hK : ∀ (a : Act) (V : World), bodyPost Tryz.prog Tryz.f38 (fun e w' => e = E ∧ Kb p w w') .normal a V → bodyPost Tryz.prog Tryz.f38 (fun e w' => e = E ∧ Kb p w w') .normal a V := fun _ _ h => h
   refine wp_region_any hmx ?_
   refine zwp (fun i__ => ([(.pointer (some ⟨p, 0, none⟩)), (.pointer (some ⟨p, 0, none⟩)), (.pointer (some ⟨p, 1, none⟩)), (.int .i64 ((j + 4 : Nat) : Int)), (.pointer (some ⟨p, 0, none⟩)), (.pointer (some ⟨p, 0, none⟩)), (.pointer (some ⟨p, 0, none⟩)), (.slice (some ⟨b, off, none⟩) bs.length cap), (.int .i64 (bs.length : Int)), (.bool false), (.tuple #[])] : List Value).getD i__ undef) (fun V => Rdr V p (some ⟨b, off, none⟩) cap bs (j + 4) ∧ Kb p w V) (by kernel_rfl) ⟨hr2.carry (Below.refl _ _).drew, hkk.trans (Kb.below (Below.refl _ _).drew (Nat.le_of_lt hr2.lt))⟩ ?_ ?_
   · refine (sqc ?_ (sqc ?_ (sqc ?_ (sqc ?_ (sqc ?_ (sqc ?_ (sqc ?_ (sqc ?_ (sqc ?_ (sqc ?_ (sqc ?_ trivial)))))))))))
     · exact zmv rfl trivial _ rfl (by kernel_rfl)
     · exact znc rfl trivial _ _ _ rfl rfl rfl
     · exact zfa rfl trivial _ _ _ _ rfl rfl (fun w hw => rfield1 p w)
     · exact zld rfl trivial _ _ _ rfl rfl (fun w hw => hw.1.at)
     · exact zmv rfl trivial _ rfl (by kernel_rfl)
     · exact znc rfl trivial _ _ _ rfl rfl rfl
     · exact zfa rfl trivial _ _ _ _ rfl rfl (fun w hw => rfield0 p w)
     · exact zld rfl trivial _ _ _ rfl rfl (fun w hw => hw.1.all)
     · exact step_bi rfl trivial _ _ _ [(.slice (some ⟨b, off, none⟩) bs.length cap)] rfl (by kernel_rfl) (fun cs w hw => bi_lenB _ cs _ _ _ w)
     · exact zbo rfl trivial _ _ _ _ _ _ _ rfl rfl rfl (fun w hw => by rw [← hjd]; exact bin_lss _ _ _)
     · exact zsc rfl trivial 67 _ _ [(.bool false), (Go.Value.int Go.IntKind.i64 2)] rfl (by kernel_rfl) (enters_of Tryz.func67 (by kernel_rfl) rfl) (fun w hw => (zrn 2 w).mono (by rintro e w' ⟨rfl, rfl⟩; exact ⟨rfl, hw⟩))
   intro W hW
   first | refine hK _ _ ?_ | refine (‹∀ (a : Act) (w : World), Code.wp Tryz.prog _ _ a w → _›) _ _ ?_
   simp only [finL, List.getD_cons_zero, List.getD_cons_succ, Nat.zero_add, Nat.reduceAdd, List.setIfInBounds_toArray, List.set_cons_zero, List.set_cons_succ]
   go_end0
   exact ⟨by rw [← HE.out, if_neg hj], hW.2⟩
def noteV (kd : Nat) (fr rd : Int) (N : Nat) (v : Value) : Value :=
 if kd = 1 then .iface 71 (.agg #[.int .i64 fr, .int .i64 rd, v])
 else if kd = 2 then .iface 62 (.agg #[.int .i64 fr, .int .i64 rd, .int .u32 (wd N 0 : Nat), .int .u32 (wd N 1 : Nat), .int .u32 (wd N 2 : Nat), .int .u32 (wd N 3 : Nat), v])
 else .iface 156 (.agg #[.int .i64 fr, v])
theorem note_any (kd : Nat) (fr rd : Int) (N : Nat) (a : Option Addr) (m c : Nat) (w : World) : Calls Tryz.prog 39 #[fv kd fr rd N (.slice a m c)] w fun e w' => e = .returned (noteV kd fr rd N (.slice a m c)) ∧ Below w.heap.size w w' := by
 unfold noteV
 simp only [fv, fcs]
 by_cases h1 : kd = 1
 · rw [if_pos h1]
   subst h1
   go_enter Tryz.func39, Tryz.ntmps39
   go_wp2
   go_ret
   exact ⟨rfl, al1'W w _⟩
 rw [if_neg h1]
 by_cases h2 : kd = 2
 · rw [if_pos h2]
   subst h2
   go_enter Tryz.func39, Tryz.ntmps39
   go_wp2
   go_ret
   exact ⟨rfl, al1'W w _⟩
 rw [if_neg h2]
 have q1 : ((kd : Int) == 1) = false := by simp; omega
 have q2 : ((kd : Int) == 2) = false := by simp; omega
 go_enter Tryz.func39, Tryz.ntmps39
 go_wp2
 go_ret
 exact ⟨rfl, al1'W w _⟩
end Go.Proofs.YtekjhcnaabpfmaaGreatDoor
namespace Go.Proofs.YtekjhcnaabpfmaaGreatDoor
open Go.RowKit Go.Shelf Go.Lib
attribute [local go_sem] Oper.semAt_some
theorem store_whole {W : World} {b : Nat} {C : Array Value} {T : TypeId} (h : W.heap[b]? = some (.cells C T (0, 0))) (vs : List Value) (hi : (Tryz.prog.info? T).map (·.size) = some vs.length) (hC : C.size = vs.length) (h1 : ∀ v ∈ vs, v.oneCell' = true) : ∃ W', (Instr.storeAt T (.pointer (some ⟨b, 0, none⟩)) (.agg vs.toArray)).run Tryz.prog W = .ok () W' ∧ W'.heap[b]? = some (.cells vs.toArray T (0, 0)) ∧ TpZ b W W' := by
 have hc : C = C.toList.toArray := by simp
 rw [hc] at h
 have e := run_store_inZ (P := Tryz.prog) W b 0 T T C.toList vs h hi (by simp; omega) h1
 have e2 : splice C.toList 0 vs = vs := by
  unfold splice
  simp only [List.take_zero, List.nil_append, Nat.zero_add]
  rw [List.drop_of_length_le (by simp; omega), List.append_nil]
 rw [e2] at e
 exact ⟨_, e, setRow_heap _ _ _ _ _ _ h, TpZ.row _ _ _⟩
theorem taQ (v : Value) (w : World) : (Instr.typeAssert (.iface 71 v) 47 71 true).run Tryz.prog w = .ok (.tuple #[v, .bool true]) w := by kernel_rfl
theorem taP (v : Value) (w : World) : (Instr.typeAssert (.iface 62 v) 47 62 true).run Tryz.prog w = .ok (.tuple #[v, .bool true]) w := by kernel_rfl
def rpC (fr ro : Int) (H : Nat) (v : Value) : Array Value := #[.int .i64 fr, .int .i64 ro, .int .u32 (wd H 0 : Nat), .int .u32 (wd H 1 : Nat), .int .u32 (wd H 2 : Nat), .int .u32 (wd H 3 : Nat), v]
def rpZ : Array Value := #[.int .i64 0, .int .i64 0, .int .u32 0, .int .u32 0, .int .u32 0, .int .u32 0, .slice none 0 0]
structure Jp (w : World) (fr ro : Int) (H : Nat) (l : List N3) (g : (Option Addr × Nat) × Nat) (d14 d16 d17 : Bool) (V : World) : Prop where
 be : Below w.heap.size w V
 row : d14 = true → V.ownsRow w.heap.size 65 3 (.slice g.1.1 l.length g.1.2) l.length (fl l)
 bx : d16 = true → w.heap.size ≤ g.2 ∧ V.heap[g.2]? = some (.cells (if d17 = true then rpC fr ro H (.slice g.1.1 l.length g.1.2) else rpZ) 62 (0, 0))
theorem run_allocP (w : World) : (Instr.alloc 62 true (.tuple #[])).run Tryz.prog w = .ok (.pointer (some ⟨w.heap.size, 0, none⟩)) (w.alloc (.cells rpZ 62)) := by unfold rpZ; go_simp
theorem infoP7 : (Tryz.prog.info? 62).map (·.size) = some 7 := by kernel_rfl
theorem bld_P (fr ro : Int) (H : Nat) (a : Option Addr) (m c : Nat) (w : World) : (Instr.build 62 #[(0, .int .i64 fr), (1, .int .i64 ro), (2, sv H), (3, .slice a m c)]).run Tryz.prog w = .ok (.agg (rpC fr ro H (.slice a m c))) w := by unfold sv rpC; go_simp
theorem field_q1 (W : World) (B : Nat) : (Instr.fieldAt 71 (.pointer (some ⟨B, 0, none⟩)) 1).run Tryz.prog W = .ok (.pointer (some ⟨B, 1, none⟩)) W := by go_simp
theorem store_P {W : World} {b : Nat} {C : Array Value} (h : W.heap[b]? = some (.cells C 62 (0, 0))) (hC : C.size = 7) (fr ro : Int) (H : Nat) (a : Option Addr) (m c : Nat) : ∃ W', (Instr.storeAt 62 (.pointer (some ⟨b, 0, none⟩)) (.agg (rpC fr ro H (.slice a m c)))).run Tryz.prog W = .ok () W' ∧ W'.heap[b]? = some (.cells (rpC fr ro H (.slice a m c)) 62 (0, 0)) ∧ TpZ b W W' :=
 store_whole h (rpC fr ro H (.slice a m c)).toList infoP7 hC (by simp [rpC, Value.oneCell'])
def dRepB (s : Ns) (rd : Int) : List Nat := fb7 2 (s.n : Int) (s.s : Int) rd s.H (s.l.filter pNew)
section
variable {w W : World} {base x : Nat} {A : NA} {s : Ns}
theorem nreply_any (h : Nd w base x A s) (hl0 : 0 < s.l.length) (hl1 : s.l.length ≤ 100) (hH : s.H < S128) (fr rd : Int) (a : Option Addr) (m c : Nat) :
   Calls Tryz.prog 89 #[.pointer (some ⟨x, 0, none⟩), .iface 71 (.agg #[.int .i64 fr, .int .i64 rd, .slice a m c])] w fun r w' => ∃ v o, r = .returned v ∧ Outs w' w.heap.size v [o] ∧ Outs.say [o] = [(fr, dRepB s rd)] ∧ Nd w' base x A s ∧ Below w.heap.size w w' := by
 have hmx := mixO
 have h1 := taQ
 obtain ⟨w1, hw1⟩ : ∃ w1, w.alloc (.cells #[.int .i64 fr, .int .i64 rd, .slice a m c] 71) = w1 := ⟨_, rfl⟩
 have hb1 : Below w.heap.size w w1 := by rw [← hw1]; exact al1' _ _
 have g1 : w1.heap[w.heap.size]? = some (.cells #[.int .i64 fr, .int .i64 rd, .slice a m c] 71 (0, 0)) := by rw [← hw1]; exact zna rfl
 obtain ⟨N, hN⟩ : ∃ N, s.l.filter pNew = N := ⟨_, rfl⟩
 have HN : Hid (s.l.filter pNew = N) := hN
 obtain ⟨L, hL⟩ : ∃ L, dRepB s rd = L := ⟨_, rfl⟩
 have HL : Hid (dRepB s rd = L) := hL
 rw [hL]
 have hNl : N.length ≤ 100 := by rw [← hN]; exact Nat.le_trans (List.length_filter_le _ _) hl1
 clear hN hL
 have hN1 := h.carry hb1
 have hob := hN1.obj
 have hbk := hN1.bk
 have hwl : w.heap.size < w1.heap.size := zla g1
 go_enter Tryz.func89, Tryz.ntmps89
 go_wp2
 rename_i hK
 refine wp_region_any hmx ?_
 refine zwt (G := ((Option Addr × Nat) × Nat)) (fun g i__ => ([(.pointer (some ⟨x, 0, none⟩)), (.pointer (some ⟨x, 0, none⟩)), (.pointer (some ⟨x, 3, none⟩)), (.int .i64 (s.s : Int)), (.pointer (some ⟨w.heap.size, 1, none⟩)), (.int .i64 rd), (.pointer (some ⟨x, 0, none⟩)), (.pointer (some ⟨x, 0, none⟩)), (.pointer (some ⟨x, 5, none⟩)), (sv s.H), (.pointer (some ⟨x, 0, none⟩)), (.pointer (some ⟨x, 0, none⟩)), (.pointer (some ⟨x, 4, none⟩)), (.pointer (some ⟨A.bp, 0, none⟩)), (.slice g.1.1 N.length g.1.2), (.agg (rpC (s.s : Int) rd s.H (.slice g.1.1 N.length g.1.2))), (.pointer (some ⟨g.2, 0, none⟩)), undef] : List Value).getD i__ undef) (fun g d V => Jp w1 (s.s : Int) rd s.H N g (d 14) (d 16) (d 17) V) (by kernel_rfl) (((none, 0), 0)) (show Jp w1 (s.s : Int) rd s.H N ((none, 0), 0) false false false _ from ⟨(Below.refl _ _).drew, fun e => (by cases e), fun e => (by cases e)⟩) ?step15 ?fin15
 case step15 =>
   intro i o ho
   have hi : i < 18 := getElem?_lt ho
   match i, hi, ho with
   | 0, _, ho => cases ho; exact zgo fun g d hdep => zmv rfl trivial _ rfl (by kernel_rfl)
   | 1, _, ho => cases ho; exact zgo fun g d hdep => znc rfl trivial _ _ _ rfl rfl rfl
   | 2, _, ho => cases ho; exact zgo fun g d hdep => zfa rfl trivial _ _ _ _ rfl rfl (fun v hw => (zfn v _).2.2.2.1)
   | 3, _, ho => cases ho; exact zgo fun g d hdep => zld rfl trivial _ _ _ rfl rfl (fun v hw => load_in (hob.carry hw.be).c3)
   | 4, _, ho => cases ho; exact zgo fun g d hdep => zfa rfl trivial _ _ _ _ rfl rfl (fun v hw => field_q1 v _)
   | 5, _, ho => cases ho; exact zgo fun g d hdep => zld rfl trivial _ _ _ rfl rfl (fun v hw => load_in ((zca ((hw.be.block _ hwl).trans g1) 1).trans rfl))
   | 6, _, ho => cases ho; exact zgo fun g d hdep => zmv rfl trivial _ rfl (by kernel_rfl)
   | 7, _, ho => cases ho; exact zgo fun g d hdep => znc rfl trivial _ _ _ rfl rfl rfl
   | 8, _, ho => cases ho; exact zgo fun g d hdep => zfa rfl trivial _ _ _ _ rfl rfl (fun v hw => (zfn v _).2.2.2.2.2.1)
   | 9, _, ho => cases ho; exact zgo fun g d hdep => zld rfl trivial _ _ _ rfl rfl (fun v hw => load_hd (hob.carry hw.be).c5)
   | 10, _, ho => cases ho; exact zgo fun g d hdep => zmv rfl trivial _ rfl (by kernel_rfl)
   | 11, _, ho => cases ho; exact zgo fun g d hdep => znc rfl trivial _ _ _ rfl rfl rfl
   | 12, _, ho => cases ho; exact zgo fun g d hdep => zfa rfl trivial _ _ _ _ rfl rfl (fun v hw => (zfn v _).2.2.2.2.1)
   | 13, _, ho => cases ho; exact zgo fun g d hdep => zld rfl trivial _ _ _ rfl rfl (fun v hw => load_bk0 (hob.carry hw.be).c4)
   | 14, _, ho => cases ho; exact stepG_call rfl (fun _ => trivial) 96 _ _ (fun _ => [.pointer (some ⟨A.bp, 0, none⟩)]) rfl (fun g => by kernel_rfl) (enters_of Tryz.func96 (by kernel_rfl) rfl) (fun g d V hJ hun hdep hcl => (ride_any (hbk.carry hJ.be) hl0 hl1).mono (by have h17 : d 17 = false := (by cases h : d 17 with | false => rfl | true => exact absurd (hcl 17 _ rfl h 14 (by kernel_rfl)) (by rw [hun]; simp)); have hJ' := hJ; rw [hun, h17] at hJ'; rintro e V' ⟨v, rfl, hm, hb⟩; rw [HN.out] at hm; obtain ⟨a, c, rfl, hrow⟩ := hm.form; refine ⟨((a, c), g.2), rfl, (fun j hj => match j, hj with | 14, hj => (by rw [hj] at hun; cases hun) | 15, hj => absurd ((hcl 15 _ rfl hj 14 (by kernel_rfl))) (by rw [hun]; simp) | 0, _ => rfl | 1, _ => rfl | 2, _ => rfl | 3, _ => rfl | 4, _ => rfl | 5, _ => rfl | 6, _ => rfl | 7, _ => rfl | 8, _ => rfl | 9, _ => rfl | 10, _ => rfl | 11, _ => rfl | 12, _ => rfl | 13, _ => rfl | 16, _ => rfl | 17, _ => rfl | _ + 18, _ => rfl), ?_⟩; show Jp w1 (s.s : Int) rd s.H N _ true (d 16) (d 17) V'; rw [h17]; exact ⟨bel2 hJ'.be hb, fun _ => row_base hrow hJ'.be.size, fun e => ⟨(hJ'.bx e).1, (hb.block _ (zla (hJ'.bx e).2)).trans (hJ'.bx e).2⟩⟩))
   | 15, _, ho => cases ho; exact zgo fun g d hdep => step_bld4 rfl trivial _ _ _ _ _ _ _ _ _ (.int .i64 (s.s : Int)) (.int .i64 rd) (sv s.H) (.slice g.1.1 N.length g.1.2) rfl rfl rfl rfl rfl (fun v hw => bld_P _ _ _ _ _ _ v)
   | 16, _, ho => cases ho; exact stepG_newT rfl rfl _ _ rfl run_allocP (fun g d V hJ hun hcl => by have h17 : d 17 = false := (by cases h : d 17 with | false => rfl | true => exact absurd (hcl 17 _ rfl h 16 (by kernel_rfl)) (by rw [hun]; simp)); have hJ' := hJ; rw [hun, h17] at hJ'; refine ⟨(g.1, V.heap.size), (fun j hj => match j, hj with | 16, hj => (by rw [hj] at hun; cases hun)  | 0, _ => rfl | 1, _ => rfl | 2, _ => rfl | 3, _ => rfl | 4, _ => rfl | 5, _ => rfl | 6, _ => rfl | 7, _ => rfl | 8, _ => rfl | 9, _ => rfl | 10, _ => rfl | 11, _ => rfl | 12, _ => rfl | 13, _ => rfl | 14, _ => rfl | 15, _ => rfl | 17, _ => rfl | _ + 18, _ => rfl), rfl, ?_⟩; show Jp w1 (s.s : Int) rd s.H N _ (d 14) true (d 17) _; rw [h17]; exact ⟨hJ'.be.alloc hJ'.be.size _, fun e => zrb (hJ'.row e) (al1' _ _), fun _ => ⟨hJ'.be.size, zna rfl⟩⟩)
   | 17, _, ho => cases ho; exact stepG_store rfl rfl rfl _ _ _ (fun g => .pointer (some ⟨g.2, 0, none⟩)) (fun g => .agg (rpC (s.s : Int) rd s.H (.slice g.1.1 N.length g.1.2))) rfl (fun g => by kernel_rfl) (fun g => by kernel_rfl) (fun g d V hJ hun hdep => by have h14 : d 14 = true := hdep 14 (by kernel_rfl); have h16 : d 16 = true := hdep 16 (by kernel_rfl); have hJ' := hJ; rw [h14, h16, hun] at hJ'; obtain ⟨hb0, hb1⟩ := hJ'.bx rfl; obtain ⟨V', hr, h1, h2⟩ := store_P hb1 rfl (s.s : Int) rd s.H g.1.1 N.length g.1.2; refine ⟨V', hr, ?_⟩; show Jp w1 (s.s : Int) rd s.H N _ (d 14) (d 16) true V'; rw [h14, h16]; exact ⟨TpZ.young hJ'.be h2 hb0, fun e => row_moved (hJ'.row e) (fun k hk => h2.block k (row_lt2 (hJ'.row e) k hk).2 (fun e2 => row_type (hJ'.row e) hb1 (by decide) (e2 ▸ hk))), fun _ => ⟨hb0, h1⟩⟩)
 intro g d W hall hW
 first | refine hK _ _ ?_ | refine (‹∀ (a : Act) (w : World), Code.wp Tryz.prog _ _ a w → _›) _ _ ?_ | skip
 simp only [finL, List.getD_cons_zero, List.getD_cons_succ, Nat.zero_add, Nat.reduceAdd, List.setIfInBounds_toArray, List.set_cons_zero, List.set_cons_succ]
 rw [hall 14 (by decide), hall 16 (by decide), hall 17 (by decide)] at hW
 obtain ⟨⟨ra, rc⟩, qb⟩ := g
 obtain ⟨hq0, hq1⟩ := hW.bx rfl
 have hrow := hW.row rfl
 have hbW := hW.be
 clear hK hall hW
 simp only [if_true] at hq0 hq1 hrow ⊢
 have d0 : W.cell? ⟨qb, 0, none⟩ = some (.int .i64 (s.s : Int)) := (zca hq1 0).trans rfl
 have d1 : W.cell? ⟨qb, 1, none⟩ = some (.int .i64 rd) := (zca hq1 1).trans rfl
 have d2 : W.cell? ⟨qb, 2, none⟩ = some (.int .u32 (wd s.H 0 : Nat)) := (zca hq1 2).trans rfl
 have d3 : W.cell? ⟨qb, 3, none⟩ = some (.int .u32 (wd s.H 1 : Nat)) := (zca hq1 3).trans rfl
 have d4 : W.cell? ⟨qb, 4, none⟩ = some (.int .u32 (wd s.H 2 : Nat)) := (zca hq1 4).trans rfl
 have d5 : W.cell? ⟨qb, 5, none⟩ = some (.int .u32 (wd s.H 3 : Nat)) := (zca hq1 5).trans rfl
 have d6 : W.cell? ⟨qb, 6, none⟩ = some (.slice ra N.length rc) := (zca hq1 6).trans rfl
 have f0 : W.cell? ⟨w.heap.size, 0, none⟩ = some (.int .i64 fr) := (zca ((hbW.block _ hwl).trans g1) 0).trans rfl
 have hsd := sendP (hob.carry hbW) fr (s.s : Int) rd s.H hH ra rc N (RdN.ofRow hrow) (by omega)
 have e7 : fb7 2 (s.n : Int) (s.s : Int) rd s.H N = L := by rw [← HL.out, dRepB, HN.out]
 rw [e7] at hsd
 have HB : Hid (Below w1.heap.size w1 W) := hbW
 clear e7 hq1 hq0 hrow g1 hbW
 go_wp2_with (go_at_call 97; (with_reducible refine hsd.mono ?_); rintro r u2 ⟨a2, c2, rfl, hd2, hb2⟩)
 go_ret
 have hbu := bel2 (bel2 hb1 HB.out) hb2
 have hsz := hbu.size
 refine ⟨_, ⟨fr, a2, c2, L⟩, rfl, ?_, rfl, h.carry (bel2 hbu (al1' _ _)), bel2 hbu (al1' _ _)⟩
 refine ⟨?_, fun o ho => ?_, by simp⟩
 · exact World.ownsRow_lit (e := 60) (size := 2) u2 #[.int .i64 fr, .slice a2 L.length c2] 1 hsz (by unfold maxLen; omega) (by simp)
 · simp only [List.mem_singleton] at ho
   subst ho
   exact row_base (zrb hd2 (al1' _ _)) (Nat.le_trans hb1.size HB.out.size)
end
end Go.Proofs.YtekjhcnaabpfmaaGreatDoor
namespace Go.Proofs.YtekjhcnaabpfmaaGreatDoor
theorem rdK_err {n : Nat} {b : List Nat} : ∀ (c : Nat) (a : Int) (i : Nat) (e : Int), rdK n b c a i = .error e → e = 75 ∨ e = 76
 | 0, a, i, e, h => by cases h
 | c + 1, a, i, e, h => by
  rw [rdK] at h
  split at h
  · cases h; exact .inr rfl
  split at h
  · cases h; exact .inl rfl
  split at h
  · rename_i e' he
    cases h
    exact rdK_err c _ _ _ he
  · cases h
theorem rdW_err {n : Nat} {b : List Nat} {i : Nat} {e : Int} (h : rdW n b i = .error e) : e = 75 ∨ e = 76 := by
 unfold rdW at h
 split at h
 · cases h; exact .inr rfl
 split at h
 · cases h; exact .inl rfl
 exact rdK_err _ _ _ _ h
theorem rd4_err {n : Nat} {b : List Nat} {kd fr rd N i : Nat} {e : Int} (h : rd4 n b kd fr rd N i = .error e) : e = 75 ∨ e = 76 := by
 unfold rd4 at h
 split at h
 · rename_i e' he
   cases h
   exact rdW_err he
 · cases h
theorem rd3_err {n : Nat} {b : List Nat} {kd fr rd i : Nat} {e : Int} (h : rd3 n b kd fr rd i = .error e) : e = 74 ∨ e = 75 ∨ e = 76 := by
 unfold rd3 at h
 split at h
 · split at h
   · cases h; exact .inr (.inr rfl)
   split at h
   · cases h; exact .inl rfl
   · exact .inr (rd4_err h)
 · exact .inr (rd4_err h)
theorem rd2_err {n : Nat} {b : List Nat} {kd fr : Nat} {e : Int} (h : rd2 n b kd fr = .error e) : 73 ≤ e ∧ e ≤ 76 := by
 unfold rd2 at h
 split at h
 · have := rd3_err h; omega
 split at h
 · cases h; omega
 split at h
 · cases h; omega
 · have := rd3_err h; omega
theorem rdF_err {n : Nat} {b : List Nat} {e : Int} (h : rdF n b = .error e) : 70 ≤ e := by
 unfold rdF at h
 split at h
 · cases h; omega
 split at h
 · cases h; omega
 split at h
 · cases h; omega
 split at h
 · cases h; omega
 split at h
 · cases h; omega
 split at h
 · cases h; omega
 split at h
 · cases h; omega
 split at h
 · cases h; omega
 · have := rd2_err h; omega
theorem dec_err {n : Int} {b : List Nat} {e : Int} (h : dec n b = .error e) : e ≠ 0 := by
 unfold dec at h
 split at h
 · cases h; omega
 split at h
 · cases h; omega
 unfold rdE at h
 split at h
 · rename_i e' he
   cases h
   have := rdF_err he
   omega
 split at h
 · cases h; omega
 split at h
 · cases h; omega
 split at h
 · cases h; omega
 · cases h
theorem drop_sub (b : List Nat) (i m : Nat) : b.drop i = (b.drop i).take m ++ b.drop (i + m) := by
 rw [← List.drop_drop, List.take_append_drop]
theorem sub_len' {b : List Nat} {i m : Nat} (h : i + m ≤ b.length) : ((b.drop i).take m).length = m := by rw [List.length_take, List.length_drop]; omega
theorem drop_num {b : List Nat} (hb : BytW b) {i m : Nat} (h : i + m ≤ b.length) : b.drop i = numBW (nmW b i m) m ++ b.drop (i + m) := by
 have h1 := num_valW ((b.drop i).take m) ((hb.drop i).take m)
 rw [sub_len' h] at h1
 rw [nmW, h1]
 exact drop_sub b i m
theorem drop_set {b : List Nat} (hb : BytW b) {i m : Nat} (h : i + m ≤ b.length) : b.drop i = stB (vlS ((b.drop i).take m)) 0 m ++ b.drop (i + m) := by
 have h1 := st_vl ((b.drop i).take m) ((hb.drop i).take m)
 rw [sub_len' h] at h1
 rw [h1]
 exact drop_sub b i m
theorem num1 (v : Nat) (h : v < 256) : numBW v 1 = [v] := by simp [numBW, Nat.mod_eq_of_lt h]
theorem nm1_lt {b : List Nat} (hb : BytW b) {i : Nat} (h : i + 1 ≤ b.length) : nmW b i 1 < 256 := by
 have := valB_ltW _ ((hb.drop i).take 1)
 rw [sub_len' h] at this
 exact this
theorem drop_one {b : List Nat} (hb : BytW b) {i : Nat} (h : i + 1 ≤ b.length) : b.drop i = nmW b i 1 :: b.drop (i + 1) := by
 have := drop_num hb h
 rwa [num1 _ (nm1_lt hb h)] at this
theorem getD_nm {b : List Nat} {i : Nat} (h : i + 1 ≤ b.length) : b.getD i 0 = nmW b i 1 := by
 have e : (b.drop i).take 1 = [b.getD i 0] := by
  rw [List.getD_eq_getElem?_getD, List.getElem?_eq_getElem (by omega : i < b.length), List.drop_eq_getElem_cons (by omega : i < b.length)]
  rfl
 rw [nmW, e]
 simp [valBW]
theorem nm_of {b : List Nat} {i m v : Nat} {r : List Nat} (h : b.drop i = numBW v m ++ r) (hv : v < 2 ^ (8 * m)) : nmW b i m = v := by
 have e : (b.drop i).take m = numBW v m := by rw [h]; exact List.take_left' (znl v m)
 rw [nmW, e, val_numW hv]
theorem drop_of {b : List Nat} {i : Nat} {l r : List Nat} (h : b.drop i = l ++ r) : b.drop (i + l.length) = r := by
 rw [← List.drop_drop, h, List.drop_left' rfl]
theorem len_of {b : List Nat} {i : Nat} {l r : List Nat} (h : b.drop i = l ++ r) (hl : l ≠ []) : i + l.length + r.length = b.length := by
 have := congrArg List.length h
 rw [List.length_drop, List.length_append] at this
 have : 0 < l.length := List.length_pos_iff.2 hl
 omega
theorem rdK_inv {n : Nat} {b : List Nat} (hb : BytW b) : ∀ (c : Nat) (a : Int) (i : Nat) (l : List (Int × Int × Int)) (j : Nat), rdK n b c a i = .ok (l, j) → l.length = c ∧ ris n a l = true ∧ j = i + 5 * c ∧ (i ≤ b.length → j ≤ b.length) ∧ b.drop i = newsB l ++ b.drop j
 | 0, a, i, l, j, h => by
  rw [rdK] at h
  cases h
  exact ⟨rfl, rfl, by omega, id, rfl⟩
 | c + 1, a, i, l, j, h => by
  rw [rdK] at h
  split at h
  · cases h
  rename_i h5
  split at h
  · cases h
  rename_i hv
  split at h
  · cases h
  · rename_i l' j' he
    cases h
    obtain ⟨g1, g2, g3, g4, g5⟩ := rdK_inv hb c _ _ _ _ he
    have hv2 : (vl n (b.getD i 0 : Nat) (nmW b (i + 2) 3 : Nat) (b.getD (i + 1) 0 : Nat) && decide (a < ((b.getD i 0 : Nat) : Int))) = true := by simpa using hv
    rw [Bool.and_eq_true] at hv2
    refine ⟨by simp [g1], ?_, by omega, fun _ => g4 (by omega), ?_⟩
    · simp only [ris, Bool.and_eq_true]
      exact ⟨hv2.1, hv2.2, g2⟩
    · have e0 := drop_one hb (show i + 1 ≤ b.length by omega)
      have e1 := drop_one hb (show i + 1 + 1 ≤ b.length by omega)
      have e2 := drop_num hb (show i + 1 + 1 + 3 ≤ b.length by omega)
      have l0 := nm1_lt hb (show i + 1 ≤ b.length by omega)
      have l1 := nm1_lt hb (show i + 1 + 1 ≤ b.length by omega)
      rw [e0, e1, e2, show i + 1 + 1 + 3 = i + 5 by omega, g5, getD_nm (show i + 1 ≤ b.length by omega), getD_nm (show i + 1 + 1 ≤ b.length by omega), newsB]
      simp only [Int.toNat_natCast, List.cons_append, List.append_assoc, Nat.mod_eq_of_lt l0, Nat.mod_eq_of_lt l1]
theorem rdW_inv {n : Nat} {b : List Nat} (hb : BytW b) {i : Nat} {l : List (Int × Int × Int)} {j : Nat} (h : rdW n b i = .ok (l, j)) : l.length ≤ n ∧ l.length < 256 ∧ ris n (-1) l = true ∧ j = i + 1 + 5 * l.length ∧ j ≤ b.length ∧ b.drop i = l.length :: (newsB l ++ b.drop j) := by
 unfold rdW at h
 split at h
 · cases h
 rename_i h1
 split at h
 · cases h
 rename_i h2
 obtain ⟨g1, g2, g3, g4, g5⟩ := rdK_inv hb _ _ _ _ _ h
 have l0 := nm1_lt hb (show i + 1 ≤ b.length by omega)
 have e0 := drop_one hb (show i + 1 ≤ b.length by omega)
 refine ⟨by omega, by omega, g2, by omega, g4 (by omega), ?_⟩
 rw [e0, g5, g1]
end Go.Proofs.YtekjhcnaabpfmaaGreatDoor
namespace Go.Proofs.YtekjhcnaabpfmaaGreatDoor
theorem flt_mk {kd : Nat} {n fr rd : Int} {N : Nat} {l : List (Int × Int × Int)} (h1 : 1 ≤ n ∧ n ≤ 100) (h2 : 0 ≤ fr ∧ fr < n) (h3 : kd = 3 ∨ (1 ≤ rd ∧ rd ≤ 1099511627775)) (h4 : wthB N n = true) (h5 : ris n (-1) l = true) : flt kd n fr rd N l = 0 := by
 unfold flt
 rw [if_neg (fun q => q h1), if_neg (by omega), if_neg (by omega), if_neg (by rw [h4]; decide), if_neg (by rw [h5]; decide)]
theorem wth0 (n : Int) : wthB 0 n = true := by simp [wthB]
theorem magic : numBW 25971 2 = [101, 115] := by decide
theorem rd4_inv {n : Nat} {b : List Nat} (hb : BytW b) {kd fr rd N i : Nat} {f : FN} {j : Nat} (h : rd4 n b kd fr rd N i = .ok (f, j)) : ∃ l, f = (kd, fr, rd, N, l) ∧ l.length < 256 ∧ ris n (-1) l = true ∧ j ≤ b.length ∧ b.drop i = l.length % 256 :: newsB l ++ b.drop j := by
 unfold rd4 at h
 split at h
 · cases h
 · rename_i l j' hW
   cases h
   obtain ⟨g1, g2, g3, g4, g5, g6⟩ := rdW_inv hb hW
   exact ⟨l, rfl, g2, g3, g5, by rw [Nat.mod_eq_of_lt g2]; exact g6⟩
theorem rdF_inv {n : Nat} {b : List Nat} (hb : BytW b) (hn1 : 1 ≤ n) (hn : n ≤ 100) {f : FN} {j : Nat} (h : rdF n b = .ok (f, j)) : ∃ kd fr rd N l, f = (kd, fr, rd, N, l) ∧ (1 ≤ kd ∧ kd ≤ 3) ∧ flt kd n fr rd N l = 0 ∧ (kd = 3 → rd = 0) ∧ (kd ≠ 2 → N = 0) ∧ N < S128 ∧ j ≤ b.length ∧ b = frm kd n fr rd N l ++ b.drop j := by
 unfold rdF at h
 split at h
 · cases h
 rename_i h1
 split at h
 · cases h
 rename_i hM
 split at h
 · cases h
 rename_i h2
 split at h
 · cases h
 rename_i hk
 split at h
 · cases h
 rename_i h3
 split at h
 · cases h
 rename_i hs
 split at h
 · cases h
 rename_i h4
 split at h
 · cases h
 rename_i hg
 have hM' : nmW b 0 2 = 25971 := Classical.not_not.1 hM
 have hk' : 1 ≤ nmW b 2 1 ∧ nmW b 2 1 ≤ 3 := Classical.not_not.1 hk
 have hs' : nmW b 3 1 = n := Classical.not_not.1 hs
 have hfr : nmW b 4 1 < n := by omega
 have e0 := drop_num hb (show 0 + 2 ≤ b.length by omega)
 have e2 := drop_one hb (show 2 + 1 ≤ b.length by omega)
 have e3 := drop_one hb (show 3 + 1 ≤ b.length by omega)
 have e4 := drop_one hb (show 4 + 1 ≤ b.length by omega)
 rw [List.drop_zero, hM', magic, Nat.zero_add, e2, e3, e4, hs'] at e0
 generalize nmW b 2 1 = kd at *
 generalize nmW b 4 1 = fr at *
 have hq : ∀ (x : List Nat), b.drop 5 = x → b = [101, 115, kd % 256, n % 256, fr % 256] ++ x := by
   intro x hx
   rw [Nat.mod_eq_of_lt (show kd < 256 by omega), Nat.mod_eq_of_lt (show n < 256 by omega), Nat.mod_eq_of_lt (show fr < 256 by omega), ← hx]
   simpa using e0
 unfold rd2 at h
 split at h
 · rename_i hk3
   unfold rd3 at h
   rw [if_neg (by omega)] at h
   obtain ⟨l, rfl, g1, g2, g3, g4⟩ := rd4_inv hb h
   refine ⟨_, _, _, _, l, rfl, hk', flt_mk (by omega) (by omega) (.inl hk3) (wth0 _) g2, fun _ => rfl, fun _ => rfl, by decide, g3, ?_⟩
   have := hq _ g4
   rw [frm, rndB, if_pos hk3, setB, if_neg (by omega)]
   simpa using this
 rename_i hk3
 split at h
 · cases h
 rename_i h5
 split at h
 · cases h
 rename_i hr
 have hr' : 1 ≤ nmW b 5 5 ∧ nmW b 5 5 ≤ 1099511627775 := Classical.not_not.1 hr
 have e5 := drop_num hb (show 5 + 5 ≤ b.length by omega)
 generalize nmW b 5 5 = rd at *
 unfold rd3 at h
 split at h
 · rename_i hk2
   split at h
   · cases h
   rename_i h6
   split at h
   · cases h
   rename_i hw
   have e6 := drop_set hb (show 10 + hsz n ≤ b.length by omega)
   have hMl := vlS_lt _ ((hb.drop 10).take (hsz n))
   rw [sub_len' (show 10 + hsz n ≤ b.length by omega)] at hMl
   generalize vlS ((b.drop 10).take (hsz n)) = M at *
   obtain ⟨l, rfl, g1, g2, g3, g4⟩ := rd4_inv hb h
   refine ⟨_, _, _, _, l, rfl, hk', flt_mk (by omega) (by omega) (.inr (by omega)) (by simpa using hw) g2, fun e => absurd e hk3, fun e => absurd hk2 e, ?_, g3, ?_⟩
   · exact Nat.lt_of_lt_of_le hMl (Nat.le_trans (Nat.pow_le_pow_right (n := 2) (by decide) (show 8 * hsz n ≤ 128 by have := hsz_le hn; omega)) (by decide))
   · rw [e6, g4] at e5
     have := hq _ e5
     rw [frm, rndB, if_neg hk3, setB, if_pos hk2]
     simpa using this
 · rename_i hk2
   obtain ⟨l, rfl, g1, g2, g3, g4⟩ := rd4_inv hb h
   refine ⟨_, _, _, _, l, rfl, hk', flt_mk (by omega) (by omega) (.inr (by omega)) (wth0 _) g2, fun e => absurd e hk3, fun _ => rfl, by decide, g3, ?_⟩
   rw [show 5 + 5 = 10 from rfl, g4] at e5
   have := hq _ e5
   rw [frm, rndB, if_neg hk3, setB, if_neg hk2]
   simpa using this
theorem dec_size {n : Int} {b : List Nat} {f : FN} (h : dec n b = .ok f) : (1 ≤ n ∧ n ≤ 100) ∧ b.length ≤ 1024 ∧ rdE n.toNat b = .ok f := by
 unfold dec at h
 split at h
 · cases h
 rename_i h1
 split at h
 · cases h
 rename_i h2
 exact ⟨Classical.not_not.1 h1, by omega, h⟩
theorem dec_inv {n : Int} {b : List Nat} (hb : BytW b) {f : FN} (h : dec n b = .ok f) : ∃ kd fr rd N l, f = (kd, fr, rd, N, l) ∧ (1 ≤ kd ∧ kd ≤ 3) ∧ flt kd n fr rd N l = 0 ∧ (kd = 3 → rd = 0) ∧ (kd ≠ 2 → N = 0) ∧ N < S128 ∧ b = byt7 kd n.toNat fr rd N l := by
 obtain ⟨h1, h2, hE⟩ := dec_size h
 obtain ⟨m, rfl⟩ := Int.eq_ofNat_of_zero_le (show 0 ≤ n by omega)
 rw [Int.toNat_natCast] at hE ⊢
 unfold rdE at hE
 split at hE
 · cases hE
 rename_i f' j hF
 split at hE
 · cases hE
 rename_i g1
 split at hE
 · cases hE
 rename_i g2
 split at hE
 · cases hE
 rename_i g3
 cases hE
 obtain ⟨kd, fr, rd, N, l, rfl, a1, a2, a3, a4, a5, a6, a7⟩ := rdF_inv hb (by omega) (by omega) hF
 refine ⟨kd, fr, rd, N, l, rfl, a1, a2, a3, a4, a5, ?_⟩
 have e := drop_num hb (show j + 4 ≤ b.length by omega)
 rw [show nmW b j 4 = sumV (b.take j) from Classical.not_not.1 g2, show b.drop (j + 4) = [] from List.drop_eq_nil_of_le (by omega), List.append_nil] at e
 have hl : (frm kd m fr rd N l).length = j := by
   have := congrArg List.length a7
   rw [List.length_append, List.length_drop] at this
   omega
 have ht : b.take j = frm kd m fr rd N l := by rw [a7, List.take_left' hl]
 rw [byt7, ← ht, ← e, List.take_append_drop]
end Go.Proofs.YtekjhcnaabpfmaaGreatDoor
namespace Go.Proofs.YtekjhcnaabpfmaaGreatDoor
theorem frm_split (kd n fr rd N : Nat) (l : List (Int × Int × Int)) : frm kd n fr rd N l = numBW 25971 2 ++ ((kd % 256) :: (n % 256) :: (fr % 256) :: (rndB kd rd ++ (setB kd n N ++ (l.length % 256 :: newsB l)))) := by
 rw [magic]
 rfl
theorem cons_num (v : Nat) (r : List Nat) : v % 256 :: r = numBW v 1 ++ r := by simp [numBW]
theorem nm_cons {b : List Nat} {i v : Nat} {r : List Nat} (h : b.drop i = v % 256 :: r) (hv : v < 256) : nmW b i 1 = v := nm_of (by rw [h, cons_num]) (by simpa using hv)
theorem drop_cons {b : List Nat} {i v : Nat} {r : List Nat} (h : b.drop i = v :: r) : b.drop (i + 1) = r := drop_of (l := [v]) (by rw [h]; rfl)
theorem len_cons {b : List Nat} {i v : Nat} {r : List Nat} (h : b.drop i = v :: r) : i + 1 + r.length = b.length := len_of (l := [v]) (by rw [h]; rfl) (by simp)
theorem rdK_of {n : Nat} {b : List Nat} (hn : n ≤ 100) : ∀ (l : List (Int × Int × Int)) (a : Int) (i : Nat) (r : List Nat), ris n a l = true → b.drop i = newsB l ++ r → rdK n b l.length a i = .ok (l, i + 5 * l.length)
 | [], a, i, r, _, _ => rfl
 | (o, t, k) :: l, a, i, r, h, hd => by
  simp only [ris, Bool.and_eq_true, decide_eq_true_eq] at h
  obtain ⟨hv, ha, hr⟩ := h
  obtain ⟨v1, v2, v3, v4, v5, v6⟩ := vl_bounds hv
  obtain ⟨o, rfl⟩ := Int.eq_ofNat_of_zero_le v1
  obtain ⟨t, rfl⟩ := Int.eq_ofNat_of_zero_le v3
  obtain ⟨k, rfl⟩ := Int.eq_ofNat_of_zero_le (show 0 ≤ k by omega)
  rw [newsB] at hd
  simp only [Int.toNat_natCast, List.cons_append, List.append_assoc] at hd
  have d1 := drop_cons hd
  have d2 := drop_cons d1
  have d5 := drop_of d2
  rw [znl] at d5
  have e0 := nm_cons hd (by omega)
  have e1 := nm_cons d1 (by omega)
  have e2 := nm_of d2 (show t < 2 ^ (8 * 3) by omega)
  have L0 := len_cons hd
  rw [List.length_cons, List.length_append, znl] at L0
  have g0 := getD_nm (b := b) (show i + 1 ≤ b.length by omega)
  have g1 := getD_nm (b := b) (show i + 1 + 1 ≤ b.length by omega)
  have ih := rdK_of hn l (o : Int) (i + 5) r hr d5
  rw [List.length_cons, rdK, if_neg (by omega), g0, g1, e0, e1, show i + 2 = i + 1 + 1 by omega, e2, if_neg (by rw [hv, decide_eq_true ha]; decide), ih]
  simp only [Except.ok.injEq, Prod.mk.injEq, true_and]
  omega
theorem rdW_of {n : Nat} {b : List Nat} (hn : n ≤ 100) {l : List (Int × Int × Int)} {i : Nat} {r : List Nat} (h : ris n (-1) l = true) (h1 : 1 ≤ n) (hd : b.drop i = l.length % 256 :: (newsB l ++ r)) : rdW n b i = .ok (l, i + 1 + 5 * l.length) := by
 have hl := ris_len n l (-1) (by omega) (by omega) h
 have L0 := len_cons hd
 have e0 := nm_cons hd (by omega)
 rw [rdW, if_neg (by omega), e0, if_neg (by omega)]
 exact rdK_of hn l (-1) (i + 1) r h (drop_cons hd)
theorem wth_mod {M n : Nat} (hn : n ≤ 100) (h : wthB M n = true) : M < 2 ^ n := by
 have h1 := of_decide_eq_true h
 have h2 : topW (n : Int) = n := by unfold topW; omega
 rw [h2] at h1
 rw [h1]
 exact Nat.mod_lt _ (Nat.two_pow_pos _)
theorem rdF_of {kd n fr rd N : Nat} {l : List (Int × Int × Int)} (hk : 1 ≤ kd ∧ kd ≤ 3) (hf : flt kd n fr rd N l = 0) (h3 : kd = 3 → rd = 0) (h2 : kd ≠ 2 → N = 0) (r : List Nat) : rdF n (frm kd n fr rd N l ++ r) = .ok ((kd, fr, rd, N, l), (frm kd n fr rd N l).length) := by
 obtain ⟨hn, hfr, hrd, hw, hri⟩ := flt_0 hf
 obtain ⟨b, hb⟩ : ∃ b, frm kd n fr rd N l ++ r = b := ⟨_, rfl⟩
 have hlen : b.length = (frm kd n fr rd N l).length + r.length := by rw [← hb, List.length_append]
 rw [hb]
 have d0 : b.drop 0 = numBW 25971 2 ++ ((kd % 256) :: (n % 256) :: (fr % 256) :: (rndB kd rd ++ (setB kd n N ++ (l.length % 256 :: (newsB l ++ r))))) := by
   rw [← hb, frm_split]
   simp
 have d2 := drop_of d0
 rw [znl] at d2
 have d3 := drop_cons d2
 have d4 := drop_cons d3
 have d5 := drop_cons d4
 simp only [Nat.zero_add, Nat.reduceAdd] at d2 d3 d4 d5
 have L4 := len_cons d4
 have n0 := nm_of d0 (by decide)
 have n2 := nm_cons d2 (by omega)
 have n3 := nm_cons d3 (by omega)
 have n4 := nm_cons d4 (by omega)
 rw [rdF, if_neg (by omega), n0, if_neg (by simp), if_neg (by omega), n2, if_neg (fun q => q hk), if_neg (by omega), n3, if_neg (by simp), if_neg (by omega), n4, if_neg (by omega), rd2]
 have hfl : (frm kd n fr rd N l).length = 5 + ((rndB kd rd).length + ((setB kd n N).length + (1 + 5 * l.length))) := by
   unfold frm
   simp only [List.length_append, List.length_cons, List.length_nil, newsB_len]
   omega
 by_cases hk3 : kd = 3
 · obtain rfl := h3 hk3
   obtain rfl := h2 (by omega)
   rw [rndB, if_pos hk3, setB, if_neg (by omega), List.nil_append, List.nil_append] at d5
   rw [rndB, if_pos hk3, setB, if_neg (by omega)] at hfl
   rw [if_pos hk3, rd3, if_neg (by omega), rd4, rdW_of (by omega) hri (by omega) d5]
   simp only [List.length_nil] at hfl
   simp only [Except.ok.injEq, Prod.mk.injEq, true_and]
   omega
 rw [rndB, if_neg hk3] at d5
 rw [rndB, if_neg hk3, znl] at hfl
 have d10 := drop_of d5
 rw [znl] at d10
 simp only [Nat.reduceAdd] at d10
 have n5 := nm_of d5 (show rd < 2 ^ (8 * 5) by omega)
 rw [if_neg hk3, if_neg (by omega), n5, if_neg (by omega), rd3]
 by_cases hk2 : kd = 2
 · rw [setB, if_pos hk2] at d10
   rw [setB, if_pos hk2, stB_len] at hfl
   have dz := drop_of d10
   rw [stB_len] at dz
   have hv : vlS ((b.drop 10).take (hsz n)) = N := by
    have e : (b.drop 10).take (hsz n) = stB N 0 (hsz n) := by rw [d10]; exact List.take_left' (stB_len N _ _)
    have hN := wth_mod (by omega) hw
    rw [e, vlS_st, Nat.mul_zero, Nat.pow_zero, Nat.div_one, Nat.mod_eq_of_lt (Nat.lt_of_lt_of_le hN (Nat.pow_le_pow_right (by decide) (by unfold hsz; omega)))]
   rw [if_pos hk2, if_neg (by omega), hv, if_neg (by rw [hw]; decide), rd4, rdW_of (by omega) hri (by omega) dz]
   simp only [Except.ok.injEq, Prod.mk.injEq, true_and]
   omega
 · obtain rfl := h2 hk2
   rw [setB, if_neg hk2, List.nil_append] at d10
   rw [setB, if_neg hk2] at hfl
   rw [if_neg hk2, rd4, rdW_of (by omega) hri (by omega) d10]
   simp only [List.length_nil] at hfl
   simp only [Except.ok.injEq, Prod.mk.injEq, true_and]
   omega
end Go.Proofs.YtekjhcnaabpfmaaGreatDoor
namespace Go.Proofs.YtekjhcnaabpfmaaGreatDoor
theorem byt7_short {kd n fr rd N : Nat} {l : List (Int × Int × Int)} (hf : flt kd n fr rd N l = 0) : (byt7 kd n fr rd N l).length ≤ 1024 := by
 obtain ⟨hn, hfr, hrd, hw, hri⟩ := flt_0 hf
 have h1 := frm_len kd n fr rd N l
 have h2 := hsz_le (n := n) (by omega)
 have h3 := ris_len n l (-1) (by omega) (by omega) hri
 rw [byt7_len]
 omega
theorem rdE_of {kd n fr rd N : Nat} {l : List (Int × Int × Int)} (hk : 1 ≤ kd ∧ kd ≤ 3) (hf : flt kd n fr rd N l = 0) (h3 : kd = 3 → rd = 0) (h2 : kd ≠ 2 → N = 0) (r : List Nat) : rdE n (byt7 kd n fr rd N l ++ r) = if r = [] then .ok (kd, fr, rd, N, l) else .error 2 := by
 have hF := rdF_of hk hf h3 h2 (numBW (sumV (frm kd n fr rd N l)) 4 ++ r)
 rw [← List.append_assoc] at hF
 have hb : frm kd n fr rd N l ++ numBW (sumV (frm kd n fr rd N l)) 4 ++ r = byt7 kd n fr rd N l ++ r := rfl
 rw [hb] at hF
 have hlen : (byt7 kd n fr rd N l ++ r).length = (frm kd n fr rd N l).length + 4 + r.length := by rw [List.length_append, byt7_len]
 have hd : (byt7 kd n fr rd N l ++ r).drop (frm kd n fr rd N l).length = numBW (sumV (frm kd n fr rd N l)) 4 ++ r := by rw [← hb, List.append_assoc]; exact List.drop_left' rfl
 have ht : (byt7 kd n fr rd N l ++ r).take (frm kd n fr rd N l).length = frm kd n fr rd N l := by rw [← hb, List.append_assoc]; exact List.take_left' rfl
 have hn := nm_of hd (sumV_lt _)
 rw [rdE, hF]
 dsimp only
 rw [if_neg (by omega), hn, ht, if_neg (by simp)]
 by_cases hr : r = []
 · subst hr
   rw [if_pos rfl, if_neg (by rw [List.length_nil] at hlen; omega)]
 · have := List.length_pos_iff.2 hr
   rw [if_neg hr, if_pos (by omega)]
theorem dec_of {kd n fr rd N : Nat} {l : List (Int × Int × Int)} (hk : 1 ≤ kd ∧ kd ≤ 3) (hf : flt kd n fr rd N l = 0) (h3 : kd = 3 → rd = 0) (h2 : kd ≠ 2 → N = 0) : dec n (byt7 kd n fr rd N l) = .ok (kd, fr, rd, N, l) := by
 obtain ⟨hn, _⟩ := flt_0 hf
 have hs := byt7_short hf
 rw [dec, if_neg (fun q => q hn), if_neg (by omega), Int.toNat_natCast]
 have := rdE_of hk hf h3 h2 []
 rwa [List.append_nil, if_pos rfl] at this
end Go.Proofs.YtekjhcnaabpfmaaGreatDoor
namespace Go.Proofs.YtekjhcnaabpfmaaGreatDoor
open Go.RowKit Go.Shelf
theorem assertR_yes (v : Value) (w : World) : (Instr.typeAssert (.iface 100 v) 20 100 true).run Tryz.prog w = .ok (.tuple #[v, .bool true]) w := by kernel_rfl
theorem assertR_nil (w : World) : (Instr.typeAssert .nilIface 20 100 true).run Tryz.prog w = .ok (.tuple #[.int .i64 0, .bool false]) w := by kernel_rfl
theorem catch_panic (a b : Nat) (x : Value) (y er : Int) (older : List PanicEntry) (w : World) (ha : w.cell? ⟨a, 0, none⟩ = some x) (hb : w.cell? ⟨b, 0, none⟩ = some (.int .i64 y)) (hza : w.frozen? ⟨a, 0, none⟩ = false) (hzb : w.frozen? ⟨b, 0, none⟩ = false) (hab : ¬ b = a) :
  CallsD Tryz.prog 36 #[.pointer (some ⟨a, 0, none⟩), .pointer (some ⟨b, 0, none⟩)] (.panicking ({ v := .iface 100 (.int .i64 er), recovered := false } :: older)) w fun e u' w' =>
   e = .returned (.tuple #[]) ∧ u' = .panicking ({ v := .iface 100 (.int .i64 er), recovered := true } :: older) ∧ w' = (w.setCell ⟨a, 0, none⟩ .nilIface).setCell ⟨b, 0, none⟩ (.int .i64 er) := by
 revert hab
 intro hab
 refine callsD_of_wpS Tryz.func36 rfl fun c₀ cs hu => ?_
 apply wpS_seq
 apply wpS_region
 simp [wpOpsS, go_sem, recoverD, hu, Tryz.ntmps36, Exit.thenS, assertR_yes]
 apply wpS_seq
 apply wpS_region
 simp [wpOpsS, go_sem, Exit.thenS]
 refine wpS_cond (t := true) (by simp [Act.eval, Array.replicate]) ?_
 simp only [if_true]
 apply wpS_region
 simp [wpOpsS, go_sem, ha, hb, hza, hzb, bodyPostS, results, Tryz.results36]
theorem catch_idle (a b : Nat) (w : World) :
  CallsD Tryz.prog 36 #[.pointer (some ⟨a, 0, none⟩), .pointer (some ⟨b, 0, none⟩)] .returning w fun e u' w' => e = .returned (.tuple #[]) ∧ u' = .returning ∧ w' = w := by
 refine callsD_of_wpS Tryz.func36 rfl fun c₀ cs hu => ?_
 apply wpS_seq
 apply wpS_region
 simp [wpOpsS, go_sem, recoverD, hu, Tryz.ntmps36, Exit.thenS, assertR_nil]
 apply wpS_seq
 apply wpS_region
 simp [wpOpsS, go_sem, Exit.thenS]
 refine wpS_cond (t := false) (by simp [Act.eval, Array.replicate]) ?_
 simp only [Bool.false_eq_true, if_false]
 refine wpS_of_wp (wp_skip ?_)
 cases c₀
 simp_all [bodyPostS, results, Tryz.results36]
def DcO (n : Int) (bs : List Nat) (w : World) (e : Ending) (w' : World) : Prop :=
 match dec n bs with
 | .error er => e = .returned (.tuple #[.nilIface, .int .i64 er]) ∧ Below w.heap.size w w'
 | .ok (kd, fr, rd, N, l) => ∃ a c, e = .returned (.tuple #[noteV kd (fr : Int) (rd : Int) N (.slice a l.length c), .int .i64 0]) ∧ w'.ownsRow w.heap.size 65 3 (.slice a l.length c) l.length (fl l) ∧ Below w.heap.size w w'
theorem dco_err {n : Int} {bs : List Nat} {w w' : World} {er : Int} (h : dec n bs = .error er) (hb : Below w.heap.size w w') : DcO n bs w (.returned (.tuple #[.nilIface, .int .i64 er])) w' := by
 unfold DcO
 rw [h]
 exact ⟨rfl, hb⟩
theorem hmf : ∀ (fn : Fn) (first cap : Array Value) (w : World), (Instr.makeFunc fn first cap).run Tryz.prog w = .ok (.func fn first cap) w := fun _ _ _ _ => rfl
theorem noteV_form (kd : Nat) (fr rd : Int) (N : Nat) (v : Value) : ∃ t x, noteV kd fr rd N v = .iface t x := by
 unfold noteV
 split
 · exact ⟨_, _, rfl⟩
 split
 · exact ⟨_, _, rfl⟩
 · exact ⟨_, _, rfl⟩
theorem res2 {tmps : Array Value} {W : World} {a b : Nat} {x : Value} {y : Int} (h4 : tmps[4]?.getD undef = .pointer (some ⟨a, 0, none⟩)) (h5 : tmps[5]?.getD undef = .pointer (some ⟨b, 0, none⟩)) (hx : W.heap[a]? = some (.cells #[x] 47 (0, 0))) (hy : W.heap[b]? = some (.cells #[.int .i64 y] 25 (0, 0))) : (results Tryz.f13 tmps).run Tryz.prog W = .ok (.tuple #[x, .int .i64 y]) W := by
 have c1 := zca hx 0
 have c2 := zca hy 0
 simp at c1 c2
 simp [results, Tryz.results13, go_sem, h4, h5, c1, c2]
theorem decode_any (ad : Option Addr) (cap : Nat) (bs : List Nat) (n : Int) (w : World) (h : RdBW w ad bs) (hb : BytW bs) (hc : bs.length ≤ cap) : Calls Tryz.prog 13 #[.slice ad bs.length cap, .int .i64 n] w (DcO n bs w) := by
 have hmf := hmf
 have hsz := isSize_anyW n
 by_cases h1 : 1 ≤ n ∧ n ≤ 100
 case neg =>
   rw [decide_eq_false h1] at hsz
   have HD : Hid (dec n bs = .error 1) := if_pos h1
   go_enter_defers Tryz.func13, Tryz.ntmps13
   go_wp2_with (go_at_call 35; (with_reducible refine (hsz _).mono ?_); rintro e u ⟨rfl, hu⟩; rw [hu]; clear hu u)
   exact ⟨_, res2 rfl rfl (zoa (zna rfl)) (zna (by simp)), dco_err HD.out (((Below.refl _ w).alloc (Nat.le_refl _) _).alloc (by simp) _)⟩
 rw [decide_eq_true h1] at hsz
 by_cases h2 : 1024 < bs.length
 · have HD : Hid (dec n bs = .error 2) := (if_neg (fun q => q h1)).trans (if_pos h2)
   have h2i : (1024 : Int) < (bs.length : Int) := by omega
   go_enter_defers Tryz.func13, Tryz.ntmps13
   go_wp2_with (go_at_call 35; (with_reducible refine (hsz _).mono ?_); rintro e u ⟨rfl, hu⟩; rw [hu]; clear hu u)
   exact ⟨_, res2 rfl rfl (zoa (zna rfl)) (zna (by simp)), dco_err HD.out (((Below.refl _ w).alloc (Nat.le_refl _) _).alloc (by simp) _)⟩
 have h2i : ¬ (1024 : Int) < (bs.length : Int) := by omega
 obtain ⟨m, rfl⟩ := Int.eq_ofNat_of_zero_le (show 0 ≤ n by omega)
 have HDC : Hid (dec (m : Int) bs = rdE m bs) := (if_neg (fun q => q h1)).trans ((if_neg h2).trans (by rw [Int.toNat_natCast]))
 -- the three new blocks
 have hbW := ((((Below.refl w.heap.size w).alloc (Nat.le_refl _) (.cells #[.nilIface] 47)).alloc (by simp) (.cells #[.int .i64 0] 25))).alloc (by simp; omega) (.cells #[.slice ad bs.length cap, .int .i64 0] 104)
 have hA : (((w.alloc (.cells #[.nilIface] 47)).alloc (.cells #[.int .i64 0] 25)).alloc (.cells #[.slice ad bs.length cap, .int .i64 0] 104)).heap[w.heap.size]? = some (.cells #[.nilIface] 47 (0, 0)) := zoa (zoa (zna rfl))
 have hB : (((w.alloc (.cells #[.nilIface] 47)).alloc (.cells #[.int .i64 0] 25)).alloc (.cells #[.slice ad bs.length cap, .int .i64 0] 104)).heap[w.heap.size + 1]? = some (.cells #[.int .i64 0] 25 (0, 0)) := zoa (zna (by simp))
 have hR : Rdr (((w.alloc (.cells #[.nilIface] 47)).alloc (.cells #[.int .i64 0] 25)).alloc (.cells #[.slice ad bs.length cap, .int .i64 0] 104)) (w.heap.size + 1 + 1) ad cap bs 0 := by
   refine ⟨zna (by simp), fun hne => ?_, Nat.zero_le _, hb, by omega, hc⟩
   obtain ⟨b, off, e1, e2, e3⟩ := h hne
   exact ⟨b, off, e1, by omega, e3.carry (hbW.block b e2)⟩
 have hfa := fields_any hR m (by omega) (by omega)
 unfold FdO at hfa
 obtain ⟨W0, hW0⟩ : ∃ W0, (((w.alloc (.cells #[.nilIface] 47)).alloc (.cells #[.int .i64 0] 25)).alloc (.cells #[.slice ad bs.length cap, .int .i64 0] 104)) = W0 := ⟨_, rfl⟩
 rw [hW0] at hbW hA hB hR hfa
 have hcat : ∀ (W' : World) (er : Int), Kb (w.heap.size + 1 + 1) W0 W' → CallsD Tryz.prog 36 #[.pointer (some ⟨w.heap.size, 0, none⟩), .pointer (some ⟨w.heap.size + 1, 0, none⟩)] (.panicking (rfu er)) W' fun e u' w' => e = .returned (.tuple #[]) ∧ u' = .panicking [{ v := .iface 100 (.int .i64 er), recovered := true }] ∧ w'.heap[w.heap.size]? = some (.cells #[.nilIface] 47 (0, 0)) ∧ w'.heap[w.heap.size + 1]? = some (.cells #[.int .i64 er] 25 (0, 0)) ∧ Below w.heap.size w w' := fun W' er hk => by
   have a1 := (hk.2 _ (by omega) (zla hA)).trans hA
   have b1 := (hk.2 _ (by omega) (zla hB)).trans hB
   have ca := zca a1 0
   have cb := zca b1 0
   simp at ca cb
   refine (catch_panic w.heap.size (w.heap.size + 1) .nilIface 0 er [] W' ca cb (zta a1 0) (zta b1 0) (by omega)).mono ?_
   rintro e u' w' ⟨rfl, rfl, rfl⟩
   refine ⟨rfl, rfl, ?_, ?_, ?_⟩
   · rw [Below.heap_setCell _ _ _ _ (by simp)]
     exact (set_get 0 _ a1).trans (by simp)
   · have b2 := (Below.heap_setCell W' ⟨w.heap.size, 0, none⟩ .nilIface (w.heap.size + 1) (by simp)).trans b1
     exact (set_get 0 _ b2).trans (by simp)
   · exact ((hbW.trans (hk.1.mono (by omega))).setCell (Nat.le_refl _) _).setCell (Nat.le_succ _) _
 cases hF : rdF m bs with
 | error er =>
   rw [hF] at hfa
   have HD : Hid (dec (m : Int) bs = .error er) := HDC.out.trans (by rw [rdE, hF])
   go_enter_defers Tryz.func13, Tryz.ntmps13
   go_wp2_with (first | (go_at_call 35; (with_reducible refine (hsz _).mono ?_); rintro e u ⟨rfl, hu⟩; rw [hu]; clear hu u) | (go_at_call 37; refine hfa.mono ?_; rintro e u1 ⟨rfl, hk1⟩))
   refine leaves_cons (f := 36) (args := #[.pointer (some ⟨w.heap.size, 0, none⟩), .pointer (some ⟨w.heap.size + 1, 0, none⟩)]) (by simp) (by simp [go_sem]) ?_
   refine (hcat _ er hk1).mono ?_
   rintro e u' w'' ⟨rfl, rfl, ha, hb', hbl⟩
   exact ⟨_, res2 rfl rfl ha hb', dco_err HD.out hbl⟩
 | ok q =>
   obtain ⟨⟨kd, fr, rd, N, l⟩, j⟩ := q
   rw [hF] at hfa
   have hne : bs ≠ [] := by
     rintro rfl
     simp [rdF] at hF
   have hfa2 : Calls Tryz.prog 37 #[.pointer (some ⟨w.heap.size + 1 + 1, 0, none⟩), .int .i64 (m : Int)] W0 fun e w' => ∃ a c, e = .returned (fv kd (fr : Int) (rd : Int) N (.slice a l.length c)) ∧ w'.ownsRow W0.heap.size 65 3 (.slice a l.length c) l.length (fl l) ∧ Rdr w' (w.heap.size + 1 + 1) ad cap bs j ∧ Kb (w.heap.size + 1 + 1) W0 w' := hfa.mono (by
     rintro e w' ⟨v, rfl, q1, q2, q3⟩
     rcases own_form q1 with ⟨e1, e2⟩ | ⟨g, c, e1, _⟩
     · exact ⟨none, 0, by rw [e1, e2], by rw [e2]; rw [e1, e2] at q1; exact q1, q2, q3⟩
     · exact ⟨_, _, by rw [e1], e1 ▸ q1, q2, q3⟩)
   clear hfa
   simp only [fv, fcs] at hfa2
   have hend : ∀ W, Rdr W (w.heap.size + 1 + 1) ad cap bs j → Calls Tryz.prog 38 #[.pointer (some ⟨w.heap.size + 1 + 1, 0, none⟩)] W (EnO (w.heap.size + 1 + 1) bs j W) := fun W hW => end_any hW hne
   unfold EnO at hend
   obtain ⟨D, hD⟩ : ∃ D, rdE m bs = D := ⟨_, rfl⟩
   have hD2 := hD
   rw [rdE, hF] at hD2
   dsimp only at hD2
   have HD : Hid (dec (m : Int) bs = D) := HDC.out.trans hD
   clear hD HDC hF
   have key : ∀ er, D = .error er → (∀ W, Rdr W (w.heap.size + 1 + 1) ad cap bs j → Calls Tryz.prog 38 #[.pointer (some ⟨w.heap.size + 1 + 1, 0, none⟩)] W fun e w' => e = .panicked (rfu er) ∧ Kb (w.heap.size + 1 + 1) W w') → Calls Tryz.prog 13 #[.slice ad bs.length cap, .int .i64 (m : Int)] w (DcO m bs w) := by
     intro er hDe hen
     have HDe : Hid (dec (m : Int) bs = .error er) := HD.out.trans hDe
     clear hend hD2 hDe HD
     go_enter_defers Tryz.func13, Tryz.ntmps13
     go_wp2_with (first | (go_at_call 35; (with_reducible refine (hsz _).mono ?_); rintro e u ⟨rfl, hu⟩; rw [hu]; clear hu u) | (go_at_call 37; refine hfa2.mono ?_; rintro e u1 ⟨a, c, rfl, ho1, hr1, hk1⟩; have hb1 := al1'W u1 (.cells #[.int .i64 (kd : Int), .int .i64 (fr : Int), .int .i64 (rd : Int), .int .u32 (wd N 0 : Nat), .int .u32 (wd N 1 : Nat), .int .u32 (wd N 2 : Nat), .int .u32 (wd N 3 : Nat), .slice a l.length c] 106); have hr1' := hr1.carry hb1) | (go_at_call 38; refine (hen _ hr1').mono ?_; rintro e u2 ⟨rfl, hk2⟩))
     refine leaves_cons (f := 36) (args := #[.pointer (some ⟨w.heap.size, 0, none⟩), .pointer (some ⟨w.heap.size + 1, 0, none⟩)]) (by simp) (by simp [go_sem]) ?_
     refine (hcat _ er ((hk1.trans (Kb.below hb1 (Nat.le_of_lt hr1.lt))).trans hk2)).mono ?_
     rintro e u' w'' ⟨rfl, rfl, ha, hb', hbl⟩
     exact ⟨_, res2 rfl rfl ha hb', dco_err HDe.out hbl⟩
   by_cases g1 : bs.length < j + 4
   · rw [if_pos g1] at hD2
     refine key 76 hD2.symm (fun W hW => ?_)
     have := hend W hW
     rw [if_pos g1] at this
     exact this
   rw [if_neg g1] at hD2
   by_cases g2 : nmW bs j 4 ≠ sumV (bs.take j)
   · rw [if_pos g2] at hD2
     refine key 77 hD2.symm (fun W hW => ?_)
     have := hend W hW
     rw [if_neg g1, if_pos g2] at this
     exact this
   rw [if_neg g2] at hD2
   by_cases g3 : j + 4 < bs.length
   · rw [if_pos g3] at hD2
     refine key 2 hD2.symm (fun W hW => ?_)
     have := hend W hW
     rw [if_neg g1, if_neg g2, if_pos g3] at this
     exact this
   rw [if_neg g3] at hD2
   have hen : ∀ W, Rdr W (w.heap.size + 1 + 1) ad cap bs j → Calls Tryz.prog 38 #[.pointer (some ⟨w.heap.size + 1 + 1, 0, none⟩)] W fun e w' => e = .returned (.tuple #[]) ∧ Kb (w.heap.size + 1 + 1) W w' := fun W hW => by
     have := hend W hW
     rw [if_neg g1, if_neg g2, if_neg g3] at this
     exact this
   have HDo : Hid (dec (m : Int) bs = .ok (kd, fr, rd, N, l)) := HD.out.trans hD2.symm
   have hno := note_any kd (fr : Int) (rd : Int) N
   simp only [fv, fcs] at hno
   clear hend hD2 HD key g1 g2 g3
   have hW0s : w.heap.size + 1 + 1 < W0.heap.size := hR.lt
   go_enter_defers Tryz.func13, Tryz.ntmps13
   go_wp2_with (first | (go_at_call 35; (with_reducible refine (hsz _).mono ?_); rintro e u ⟨rfl, hu⟩; rw [hu]; clear hu u) | (go_at_call 37; refine hfa2.mono ?_; rintro e u1 ⟨a, c, rfl, ho1, hr1, hk1⟩; have hb1 := al1'W u1 (.cells #[.int .i64 (kd : Int), .int .i64 (fr : Int), .int .i64 (rd : Int), .int .u32 (wd N 0 : Nat), .int .u32 (wd N 1 : Nat), .int .u32 (wd N 2 : Nat), .int .u32 (wd N 3 : Nat), .slice a l.length c] 106); have hr1' := hr1.carry hb1; have hfb1 : FB (u1.alloc (.cells #[.int .i64 (kd : Int), .int .i64 (fr : Int), .int .i64 (rd : Int), .int .u32 (wd N 0 : Nat), .int .u32 (wd N 1 : Nat), .int .u32 (wd N 2 : Nat), .int .u32 (wd N 3 : Nat), .slice a l.length c] 106)) u1.heap.size kd fr rd N (.slice a l.length c) := zna rfl) | (go_at_call 38; refine (hen _ hr1').mono ?_; rintro e u2 ⟨rfl, hk2⟩; have hfb2 := hfb1.carry (hk2.2 _ (by have := hr1.lt; omega) hfb1.lt); obtain ⟨c0, c1, c2, c3, c4, c5, c6, c7⟩ := hfb2.cells) | (go_at_call 39; refine (hno _ _ _ _).mono ?_; rintro e u3 ⟨rfl, hb3⟩; obtain ⟨ty, xv, hxv⟩ := noteV_form kd fr rd N (.slice a l.length c); rw [hxv]; have HXV : Hid (noteV kd fr rd N (.slice a l.length c) = .iface ty xv) := hxv; clear hxv; have hk3 : Kb (w.heap.size + 1 + 1) W0 u3 := ((hk1.trans (Kb.below hb1 (Nat.le_of_lt hr1.lt))).trans hk2).trans (Kb.below hb3 (by have := hfb2.lt; have := hr1.lt; omega)); have a3 := (hk3.2 _ (by omega) (zla hA)).trans hA; have b3 := (hk3.2 _ (by omega) (zla hB)).trans hB; have ca := zca a3 0; have cb := zca b3 0; simp at ca cb; have za := zta a3 0; have zb := zta b3 0))
   refine leaves_cons (f := 36) (args := #[.pointer (some ⟨w.heap.size, 0, none⟩), .pointer (some ⟨w.heap.size + 1, 0, none⟩)]) (by simp) (by simp [go_sem]) ?_
   refine (catch_idle w.heap.size (w.heap.size + 1) _).mono ?_
   rintro e u' w'' ⟨rfl, rfl, rfl⟩
   have hown3 : u3.ownsRow W0.heap.size 65 3 (.slice a l.length c) l.length (fl l) := row_belowW (ownsRow_kb (row_belowW ho1 hb1) hk2 (fun g hg => by have := own_block ho1 g hg; omega)) hb3
   have hA4 : ((u3.setCell ⟨w.heap.size, 0, none⟩ (.iface ty xv)).setCell ⟨w.heap.size + 1, 0, none⟩ (.int .i64 0)).heap[w.heap.size]? = some (.cells #[.iface ty xv] 47 (0, 0)) := by
     rw [Below.heap_setCell _ _ _ _ (by simp)]
     exact (set_get 0 _ a3).trans (by simp)
   have hB4 : ((u3.setCell ⟨w.heap.size, 0, none⟩ (.iface ty xv)).setCell ⟨w.heap.size + 1, 0, none⟩ (.int .i64 0)).heap[w.heap.size + 1]? = some (.cells #[.int .i64 0] 25 (0, 0)) :=
     (set_get 0 _ ((Below.heap_setCell u3 ⟨w.heap.size, 0, none⟩ (.iface ty xv) (w.heap.size + 1) (by simp)).trans b3)).trans (by simp)
   refine ⟨_, res2 rfl rfl hA4 hB4, ?_⟩
   unfold DcO
   rw [HDo.out]
   refine ⟨a, c, by rw [HXV.out], ownsRow_base (ownsRow_set (ownsRow_set hown3 (fun g hg => by have := own_block hown3 g hg; omega) _) (fun g hg => by have := own_block hown3 g hg; omega) _) (by omega), ?_⟩
   exact (Below.setCell (p := ⟨w.heap.size + 1, 0, none⟩) (Below.setCell (p := ⟨w.heap.size, 0, none⟩) (hbW.trans (hk3.1.mono (by omega))) (Nat.le_refl _) _) (Nat.le_succ _) _)
end Go.Proofs.YtekjhcnaabpfmaaGreatDoor
