/- earshotbook's Apart: of notices alone. -/
import Derived.Test.YtgehmidalfajgabGreatDoorInferDoubtsJ14
import Derived.Test.YtgehmidalfajgabGreatDoorInferDoubtsJ17
import Derived.Test.YtgehmidalfajgabGreatDoorInferDoubtsJ11
namespace Go.Proofs.YtgehmidalfajgabGreatDoor
open Go.RowKit Go.Shelf Go.Lib

theorem marks_of {L L' : List (List N3)} (h : upN L L' L.length) : ∀ (j : Nat) (l : List N3), L'[j]? = some l → l = mkM j 0 l.length := fun j l hl => by
  have hj : j < L.length := by rw [← h.1]; exact (List.getElem?_eq_some_iff.1 hl).1
  have := h.2 j _ (List.getElem?_eq_getElem hj)
  rw [if_pos hj, hl] at this
  have e := Option.some.inj this
  rw [e, mkM_len]
theorem mkn_of {base bb : Nat} {W : World} {u v : Value} {x : List Value} {L : List (List N3)} (h : Kn base bb W u v x L) (hm : ∀ (j : Nat) (l : List N3), L[j]? = some l → l = mkM j 0 l.length) : Mkn W x := fun i z hz => by
  have hi : i < L.length := by rw [← h.lenx]; exact (List.getElem?_eq_some_iff.1 hz).1
  obtain ⟨l, hl⟩ : ∃ l, L[i]? = some l := ⟨_, List.getElem?_eq_getElem hi⟩
  obtain ⟨z', h1, h2, h3⟩ := h.ks i l hl
  rw [hz] at h1
  cases h1
  obtain ⟨ad, c, e, hr⟩ := own_rd h2
  refine ⟨ad, l.length, c, e, ?_, by omega⟩
  rw [← hm i l hl]
  exact hr
set_option maxHeartbeats 40000000 in
set_option maxRecDepth 100000 in
theorem apart_any {base bb : Nat} {w : World} {u v : Value} {x y : List Value} {L : List (List N3)} (h : Kn base bb w u v x L) (hc : Cn base w v y L) (hbz : base ≤ w.heap.size) : Calls Tryz.prog 14 #[.pointer (some ⟨bb, 0, none⟩)] w fun e w' => e = .returned (.bool true) ∧ Below base w w' := by
  have hst := stilln_any h hc
  have hkb := h.kb
  have hsInts : ∀ V, KB V bb u v → Calls Tryz.prog 35 #[.pointer (some ⟨bb, 0, none⟩)] V fun e w' => e = .returned (.bool true) ∧ w' = V := fun V hV => stillInts_e (by rw [cell_at hV]; rfl)
  have hpInts : ∀ V, KB V bb u v → Calls Tryz.prog 47 #[.pointer (some ⟨bb, 0, none⟩)] V fun e w' => e = .returned (.tuple #[]) ∧ w' = V := fun V hV => putInts_e (by rw [cell_at hV]; rfl)
  have hgInts : ∀ V, KB V bb u v → Calls Tryz.prog 59 #[.pointer (some ⟨bb, 0, none⟩)] V fun e w' => e = .returned (.slice none 0 0) ∧ w' = V := fun V hV => growInts_e (by rw [cell_at hV]; rfl)
  have hmInts := markedInts_e
  have hsChars : ∀ V, KB V bb u v → Calls Tryz.prog 36 #[.pointer (some ⟨bb, 0, none⟩)] V fun e w' => e = .returned (.bool true) ∧ w' = V := fun V hV => stillChars_e (by rw [cell_at hV]; rfl)
  have hpChars : ∀ V, KB V bb u v → Calls Tryz.prog 48 #[.pointer (some ⟨bb, 0, none⟩)] V fun e w' => e = .returned (.tuple #[]) ∧ w' = V := fun V hV => putChars_e (by rw [cell_at hV]; rfl)
  have hgChars : ∀ V, KB V bb u v → Calls Tryz.prog 60 #[.pointer (some ⟨bb, 0, none⟩)] V fun e w' => e = .returned (.slice none 0 0) ∧ w' = V := fun V hV => growChars_e (by rw [cell_at hV]; rfl)
  have hmChars := markedChars_e
  have hsTokens : ∀ V, KB V bb u v → Calls Tryz.prog 37 #[.pointer (some ⟨bb, 0, none⟩)] V fun e w' => e = .returned (.bool true) ∧ w' = V := fun V hV => stillTokens_e (by rw [cell_at hV]; rfl)
  have hpTokens : ∀ V, KB V bb u v → Calls Tryz.prog 49 #[.pointer (some ⟨bb, 0, none⟩)] V fun e w' => e = .returned (.tuple #[]) ∧ w' = V := fun V hV => putTokens_e (by rw [cell_at hV]; rfl)
  have hgTokens : ∀ V, KB V bb u v → Calls Tryz.prog 61 #[.pointer (some ⟨bb, 0, none⟩)] V fun e w' => e = .returned (.slice none 0 0) ∧ w' = V := fun V hV => growTokens_e (by rw [cell_at hV]; rfl)
  have hmTokens := markedTokens_e
  have hsBytes : ∀ V, KB V bb u v → Calls Tryz.prog 39 #[.pointer (some ⟨bb, 0, none⟩)] V fun e w' => e = .returned (.bool true) ∧ w' = V := fun V hV => stillBytes_e (by rw [cell_at hV]; rfl)
  have hpBytes : ∀ V, KB V bb u v → Calls Tryz.prog 51 #[.pointer (some ⟨bb, 0, none⟩)] V fun e w' => e = .returned (.tuple #[]) ∧ w' = V := fun V hV => putBytes_e (by rw [cell_at hV]; rfl)
  have hgBytes : ∀ V, KB V bb u v → Calls Tryz.prog 63 #[.pointer (some ⟨bb, 0, none⟩)] V fun e w' => e = .returned (.slice none 0 0) ∧ w' = V := fun V hV => growBytes_e (by rw [cell_at hV]; rfl)
  have hmBytes := markedBytes_e
  have hsSets : ∀ V, KB V bb u v → Calls Tryz.prog 40 #[.pointer (some ⟨bb, 0, none⟩)] V fun e w' => e = .returned (.bool true) ∧ w' = V := fun V hV => stillSets_e (by rw [cell_at hV]; rfl)
  have hpSets : ∀ V, KB V bb u v → Calls Tryz.prog 52 #[.pointer (some ⟨bb, 0, none⟩)] V fun e w' => e = .returned (.tuple #[]) ∧ w' = V := fun V hV => putSets_e (by rw [cell_at hV]; rfl)
  have hgSets : ∀ V, KB V bb u v → Calls Tryz.prog 64 #[.pointer (some ⟨bb, 0, none⟩)] V fun e w' => e = .returned (.slice none 0 0) ∧ w' = V := fun V hV => growSets_e (by rw [cell_at hV]; rfl)
  have hmSets := markedSets_e
  have hsEvents : ∀ V, KB V bb u v → Calls Tryz.prog 41 #[.pointer (some ⟨bb, 0, none⟩)] V fun e w' => e = .returned (.bool true) ∧ w' = V := fun V hV => stillEvents_e (by rw [cell_at hV]; rfl)
  have hpEvents : ∀ V, KB V bb u v → Calls Tryz.prog 53 #[.pointer (some ⟨bb, 0, none⟩)] V fun e w' => e = .returned (.tuple #[]) ∧ w' = V := fun V hV => putEvents_e (by rw [cell_at hV]; rfl)
  have hgEvents : ∀ V, KB V bb u v → Calls Tryz.prog 65 #[.pointer (some ⟨bb, 0, none⟩)] V fun e w' => e = .returned (.slice none 0 0) ∧ w' = V := fun V hV => growEvents_e (by rw [cell_at hV]; rfl)
  have hmEvents := markedEvents_e
  have hsErrs : ∀ V, KB V bb u v → Calls Tryz.prog 42 #[.pointer (some ⟨bb, 0, none⟩)] V fun e w' => e = .returned (.bool true) ∧ w' = V := fun V hV => stillErrs_e (by rw [cell_at hV]; rfl)
  have hpErrs : ∀ V, KB V bb u v → Calls Tryz.prog 54 #[.pointer (some ⟨bb, 0, none⟩)] V fun e w' => e = .returned (.tuple #[]) ∧ w' = V := fun V hV => putErrs_e (by rw [cell_at hV]; rfl)
  have hgErrs : ∀ V, KB V bb u v → Calls Tryz.prog 66 #[.pointer (some ⟨bb, 0, none⟩)] V fun e w' => e = .returned (.slice none 0 0) ∧ w' = V := fun V hV => growErrs_e (by rw [cell_at hV]; rfl)
  have hmErrs := markedErrs_e
  have hsOuts : ∀ V, KB V bb u v → Calls Tryz.prog 43 #[.pointer (some ⟨bb, 0, none⟩)] V fun e w' => e = .returned (.bool true) ∧ w' = V := fun V hV => stillOuts_e (by rw [cell_at hV]; rfl)
  have hpOuts : ∀ V, KB V bb u v → Calls Tryz.prog 55 #[.pointer (some ⟨bb, 0, none⟩)] V fun e w' => e = .returned (.tuple #[]) ∧ w' = V := fun V hV => putOuts_e (by rw [cell_at hV]; rfl)
  have hgOuts : ∀ V, KB V bb u v → Calls Tryz.prog 67 #[.pointer (some ⟨bb, 0, none⟩)] V fun e w' => e = .returned (.slice none 0 0) ∧ w' = V := fun V hV => growOuts_e (by rw [cell_at hV]; rfl)
  have hmOuts := markedOuts_e
  have hsGrams : ∀ V, KB V bb u v → Calls Tryz.prog 44 #[.pointer (some ⟨bb, 0, none⟩)] V fun e w' => e = .returned (.bool true) ∧ w' = V := fun V hV => stillGrams_e (by rw [cell_at hV]; rfl)
  have hpGrams : ∀ V, KB V bb u v → Calls Tryz.prog 56 #[.pointer (some ⟨bb, 0, none⟩)] V fun e w' => e = .returned (.tuple #[]) ∧ w' = V := fun V hV => putGrams_e (by rw [cell_at hV]; rfl)
  have hgGrams : ∀ V, KB V bb u v → Calls Tryz.prog 68 #[.pointer (some ⟨bb, 0, none⟩)] V fun e w' => e = .returned (.slice none 0 0) ∧ w' = V := fun V hV => growGrams_e (by rw [cell_at hV]; rfl)
  have hmGrams := markedGrams_e
  have hsSteps : ∀ V, KB V bb u v → Calls Tryz.prog 45 #[.pointer (some ⟨bb, 0, none⟩)] V fun e w' => e = .returned (.bool true) ∧ w' = V := fun V hV => stillSteps_e (by rw [cell_at hV]; rfl)
  have hpSteps : ∀ V, KB V bb u v → Calls Tryz.prog 57 #[.pointer (some ⟨bb, 0, none⟩)] V fun e w' => e = .returned (.tuple #[]) ∧ w' = V := fun V hV => putSteps_e (by rw [cell_at hV]; rfl)
  have hgSteps : ∀ V, KB V bb u v → Calls Tryz.prog 69 #[.pointer (some ⟨bb, 0, none⟩)] V fun e w' => e = .returned (.slice none 0 0) ∧ w' = V := fun V hV => growSteps_e (by rw [cell_at hV]; rfl)
  have hmSteps := markedSteps_e
  have hsRows : ∀ V, KB V bb u v → Calls Tryz.prog 46 #[.pointer (some ⟨bb, 0, none⟩)] V fun e w' => e = .returned (.bool true) ∧ w' = V := fun V hV => stillRows_e (by rw [cell_at hV]; rfl)
  have hpRows : ∀ V, KB V bb u v → Calls Tryz.prog 58 #[.pointer (some ⟨bb, 0, none⟩)] V fun e w' => e = .returned (.tuple #[]) ∧ w' = V := fun V hV => putRows_e (by rw [cell_at hV]; rfl)
  have hgRows : ∀ V, KB V bb u v → Calls Tryz.prog 70 #[.pointer (some ⟨bb, 0, none⟩)] V fun e w' => e = .returned (.slice none 0 0) ∧ w' = V := fun V hV => growRows_e (by rw [cell_at hV]; rfl)
  have hmRows := markedRows_e
  go_enter Tryz.func14, Tryz.ntmps14
  go_wp2_with (first | (go_at_call 35; (with_reducible refine (hsInts _ (by assumption)).mono ?_); rintro e vv ⟨rfl, hvv⟩; obtain rfl := hvv.symm) | (go_at_call 47; (with_reducible refine (hpInts _ (by assumption)).mono ?_); rintro e vv ⟨rfl, hvv⟩; obtain rfl := hvv.symm) | (go_at_call 59; (with_reducible refine (hgInts _ (by assumption)).mono ?_); rintro e vv ⟨rfl, hvv⟩; obtain rfl := hvv.symm) | (go_at_call 71; (with_reducible refine (hmInts _).mono ?_); rintro e vv ⟨rfl, hvv⟩; obtain rfl := hvv.symm) | (go_at_call 36; (with_reducible refine (hsChars _ (by assumption)).mono ?_); rintro e vv ⟨rfl, hvv⟩; obtain rfl := hvv.symm) | (go_at_call 48; (with_reducible refine (hpChars _ (by assumption)).mono ?_); rintro e vv ⟨rfl, hvv⟩; obtain rfl := hvv.symm) | (go_at_call 60; (with_reducible refine (hgChars _ (by assumption)).mono ?_); rintro e vv ⟨rfl, hvv⟩; obtain rfl := hvv.symm) | (go_at_call 72; (with_reducible refine (hmChars _).mono ?_); rintro e vv ⟨rfl, hvv⟩; obtain rfl := hvv.symm) | (go_at_call 37; (with_reducible refine (hsTokens _ (by assumption)).mono ?_); rintro e vv ⟨rfl, hvv⟩; obtain rfl := hvv.symm) | (go_at_call 49; (with_reducible refine (hpTokens _ (by assumption)).mono ?_); rintro e vv ⟨rfl, hvv⟩; obtain rfl := hvv.symm) | (go_at_call 61; (with_reducible refine (hgTokens _ (by assumption)).mono ?_); rintro e vv ⟨rfl, hvv⟩; obtain rfl := hvv.symm) | (go_at_call 73; (with_reducible refine (hmTokens _).mono ?_); rintro e vv ⟨rfl, hvv⟩; obtain rfl := hvv.symm) | (go_at_call 39; (with_reducible refine (hsBytes _ (by assumption)).mono ?_); rintro e vv ⟨rfl, hvv⟩; obtain rfl := hvv.symm) | (go_at_call 51; (with_reducible refine (hpBytes _ (by assumption)).mono ?_); rintro e vv ⟨rfl, hvv⟩; obtain rfl := hvv.symm) | (go_at_call 63; (with_reducible refine (hgBytes _ (by assumption)).mono ?_); rintro e vv ⟨rfl, hvv⟩; obtain rfl := hvv.symm) | (go_at_call 75; (with_reducible refine (hmBytes _).mono ?_); rintro e vv ⟨rfl, hvv⟩; obtain rfl := hvv.symm) | (go_at_call 40; (with_reducible refine (hsSets _ (by assumption)).mono ?_); rintro e vv ⟨rfl, hvv⟩; obtain rfl := hvv.symm) | (go_at_call 52; (with_reducible refine (hpSets _ (by assumption)).mono ?_); rintro e vv ⟨rfl, hvv⟩; obtain rfl := hvv.symm) | (go_at_call 64; (with_reducible refine (hgSets _ (by assumption)).mono ?_); rintro e vv ⟨rfl, hvv⟩; obtain rfl := hvv.symm) | (go_at_call 76; (with_reducible refine (hmSets _).mono ?_); rintro e vv ⟨rfl, hvv⟩; obtain rfl := hvv.symm) | (go_at_call 41; (with_reducible refine (hsEvents _ (by assumption)).mono ?_); rintro e vv ⟨rfl, hvv⟩; obtain rfl := hvv.symm) | (go_at_call 53; (with_reducible refine (hpEvents _ (by assumption)).mono ?_); rintro e vv ⟨rfl, hvv⟩; obtain rfl := hvv.symm) | (go_at_call 65; (with_reducible refine (hgEvents _ (by assumption)).mono ?_); rintro e vv ⟨rfl, hvv⟩; obtain rfl := hvv.symm) | (go_at_call 77; (with_reducible refine (hmEvents _).mono ?_); rintro e vv ⟨rfl, hvv⟩; obtain rfl := hvv.symm) | (go_at_call 42; (with_reducible refine (hsErrs _ (by assumption)).mono ?_); rintro e vv ⟨rfl, hvv⟩; obtain rfl := hvv.symm) | (go_at_call 54; (with_reducible refine (hpErrs _ (by assumption)).mono ?_); rintro e vv ⟨rfl, hvv⟩; obtain rfl := hvv.symm) | (go_at_call 66; (with_reducible refine (hgErrs _ (by assumption)).mono ?_); rintro e vv ⟨rfl, hvv⟩; obtain rfl := hvv.symm) | (go_at_call 78; (with_reducible refine (hmErrs _).mono ?_); rintro e vv ⟨rfl, hvv⟩; obtain rfl := hvv.symm) | (go_at_call 43; (with_reducible refine (hsOuts _ (by assumption)).mono ?_); rintro e vv ⟨rfl, hvv⟩; obtain rfl := hvv.symm) | (go_at_call 55; (with_reducible refine (hpOuts _ (by assumption)).mono ?_); rintro e vv ⟨rfl, hvv⟩; obtain rfl := hvv.symm) | (go_at_call 67; (with_reducible refine (hgOuts _ (by assumption)).mono ?_); rintro e vv ⟨rfl, hvv⟩; obtain rfl := hvv.symm) | (go_at_call 79; (with_reducible refine (hmOuts _).mono ?_); rintro e vv ⟨rfl, hvv⟩; obtain rfl := hvv.symm) | (go_at_call 44; (with_reducible refine (hsGrams _ (by assumption)).mono ?_); rintro e vv ⟨rfl, hvv⟩; obtain rfl := hvv.symm) | (go_at_call 56; (with_reducible refine (hpGrams _ (by assumption)).mono ?_); rintro e vv ⟨rfl, hvv⟩; obtain rfl := hvv.symm) | (go_at_call 68; (with_reducible refine (hgGrams _ (by assumption)).mono ?_); rintro e vv ⟨rfl, hvv⟩; obtain rfl := hvv.symm) | (go_at_call 80; (with_reducible refine (hmGrams _).mono ?_); rintro e vv ⟨rfl, hvv⟩; obtain rfl := hvv.symm) | (go_at_call 45; (with_reducible refine (hsSteps _ (by assumption)).mono ?_); rintro e vv ⟨rfl, hvv⟩; obtain rfl := hvv.symm) | (go_at_call 57; (with_reducible refine (hpSteps _ (by assumption)).mono ?_); rintro e vv ⟨rfl, hvv⟩; obtain rfl := hvv.symm) | (go_at_call 69; (with_reducible refine (hgSteps _ (by assumption)).mono ?_); rintro e vv ⟨rfl, hvv⟩; obtain rfl := hvv.symm) | (go_at_call 81; (with_reducible refine (hmSteps _).mono ?_); rintro e vv ⟨rfl, hvv⟩; obtain rfl := hvv.symm) | (go_at_call 46; (with_reducible refine (hsRows _ (by assumption)).mono ?_); rintro e vv ⟨rfl, hvv⟩; obtain rfl := hvv.symm) | (go_at_call 58; (with_reducible refine (hpRows _ (by assumption)).mono ?_); rintro e vv ⟨rfl, hvv⟩; obtain rfl := hvv.symm) | (go_at_call 70; (with_reducible refine (hgRows _ (by assumption)).mono ?_); rintro e vv ⟨rfl, hvv⟩; obtain rfl := hvv.symm) | (go_at_call 82; (with_reducible refine (hmRows _).mono ?_); rintro e vv ⟨rfl, hvv⟩; obtain rfl := hvv.symm) | (go_at_call 38; (with_reducible refine hst.mono ?_); rintro e va ⟨rfl, hba⟩; have hKa := h.carry hba; have hkba := hKa.kb; have hpt := putn_any hKa (Nat.le_trans hbz hba.size); clear hkb) | (go_at_call 50; (with_reducible refine hpt.mono ?_); rintro e vb ⟨rfl, ⟨L', hKb, hup⟩, hbb'⟩; have hkbb := hKb.kb; have HBB : Hid (Below base w vb) := (hba.mono hbz).trans hbb'; have hgr := grown_any hKb (marks_of hup) (Nat.le_trans hbz HBB.out.size); clear hkba) | (go_at_call 62; (with_reducible refine hgr.mono ?_); rintro e vc ⟨uo, rfl, O, hro, hmo, hKc, hbc⟩; have hkbc := hKc.kb; have HBC : Hid (Below base w vc) := HBB.out.trans hbc; have hmk1 := markedn_any hro hmo hKb.k; have cvc_0 : vc.cell? ⟨bb, 0, none⟩ = some (.slice none 0 0) := (by rw [cell_at hkbc]; rfl); have cvc_2 : vc.cell? ⟨bb, 2, none⟩ = some (.slice none 0 0) := (by rw [cell_at hkbc]; rfl); have cvc_4 : vc.cell? ⟨bb, 4, none⟩ = some (.slice none 0 0) := (by rw [cell_at hkbc]; rfl); clear hkbb) | (go_at_call 74; (with_reducible refine hmk1.mono ?_); rintro e vd ⟨rfl, hbd⟩; clear hmk1; have hKd := hKc.carry hbd; have hkbd := hKd.kb; have HBD : Hid (Below base w vd) := HBC.out.trans (hbd.mono (Nat.le_trans hbz HBC.out.size)); have cd6 : vd.cell? ⟨bb, 6, none⟩ = some u := (by rw [cell_at hkbd]; rfl); have hmk2 := markedn_any hKd.row (mkn_of hKd (marks_of hup)) hKd.k; clear hkbc) | (go_at_call 74; (with_reducible refine hmk2.mono ?_); rintro e ve ⟨rfl, hbe⟩; clear hmk2; have hKe := hKd.carry hbe; have hkbe := hKe.kb; have HBE : Hid (Below base w ve) := HBD.out.trans (hbe.mono (Nat.le_trans hbz HBD.out.size)); have cve_8 : ve.cell? ⟨bb, 8, none⟩ = some (.slice none 0 0) := (by rw [cell_at hkbe]; rfl); have cve_10 : ve.cell? ⟨bb, 10, none⟩ = some (.slice none 0 0) := (by rw [cell_at hkbe]; rfl); have cve_12 : ve.cell? ⟨bb, 12, none⟩ = some (.slice none 0 0) := (by rw [cell_at hkbe]; rfl); have cve_14 : ve.cell? ⟨bb, 14, none⟩ = some (.slice none 0 0) := (by rw [cell_at hkbe]; rfl); have cve_16 : ve.cell? ⟨bb, 16, none⟩ = some (.slice none 0 0) := (by rw [cell_at hkbe]; rfl); have cve_18 : ve.cell? ⟨bb, 18, none⟩ = some (.slice none 0 0) := (by rw [cell_at hkbe]; rfl); have cve_20 : ve.cell? ⟨bb, 20, none⟩ = some (.slice none 0 0) := (by rw [cell_at hkbe]; rfl); have cve_22 : ve.cell? ⟨bb, 22, none⟩ = some (.slice none 0 0) := (by rw [cell_at hkbe]; rfl)))
  go_ret
  exact ⟨rfl, HBE.out⟩
end Go.Proofs.YtgehmidalfajgabGreatDoor
namespace Go.Proofs.YtgehmidalfajgabGreatDoor
open Go.RowKit Go.Shelf Go.Lib
theorem NK.kn {σ : Sg} {base bb : Nat} {W : World} (h : NK σ base bb W) : ∃ u v x y L, Kn base bb W u v x L ∧ Cn base W v y L := by
  obtain ⟨_, k, x, y, L, ⟨u, v, hk, hkb, h6, h7, _, hbb⟩, hl, hL⟩ := h
  subst hl
  refine ⟨u, v, x, y, L, ⟨hkb, h6, fun i l hi => ?_, hL.ap, hbb, hk⟩, h7, fun i l hi => ?_⟩
  · obtain ⟨z, zc, h1, h2, h3, h4, _, _, h5⟩ := hL.ks i l hi
    exact ⟨z, h1, h3, by omega⟩
  · obtain ⟨z, zc, h1, h2, h3, h4, _⟩ := hL.ks i l hi
    obtain ⟨ad, c, e, hr⟩ := own_rd h4
    exact ⟨ad, c, by rw [h2, e], hr⟩
theorem NK.apart {σ : Sg} {base bb : Nat} {W : World} (h : NK σ base bb W) (hz : base ≤ W.heap.size) : Calls Tryz.prog 14 #[.pointer (some ⟨bb, 0, none⟩)] W fun e w' => e = .returned (.bool true) ∧ Below base W w' := by
  obtain ⟨u, v, x, y, L, h1, h2⟩ := h.kn
  exact apart_any h1 h2 hz
end Go.Proofs.YtgehmidalfajgabGreatDoor
namespace Go.Proofs.YtgehmidalfajgabGreatDoor
open Go.RowKit Go.Shelf Go.Lib

def noS : Sg := fun _ => False
theorem keep_one {W : World} {base bb : Nat} {x y : List Value} {L : List (List N3)} (hx : NKx base bb W L.length x y) (hL : Lx noS base W x y L) (hbz : base ≤ W.heap.size) (hk : L.length < 400) (ad : Option Addr) (c : Nat) (l : List N3) (hr : RdN W ad l) (hz : W.ownsRow base 70 3 (.slice ad l.length c) l.length (fl l)) (hl : l.length ≤ 100) (hc : ad = none → c = 0) (hn : ∀ (i g : Nat) (z' : Value), x[i]? = some z' → (Value.slice ad l.length c).ownBlock = some g → z'.ownBlock ≠ some g) : Calls Tryz.prog 11 #[.pointer (some ⟨bb, 0, none⟩), .slice ad l.length c] W fun e w' => (∃ v, e = .returned v) ∧ (∃ z, NKx base bb w' (L ++ [l]).length (x ++ [.slice ad l.length c]) (y ++ [z]) ∧ Lx noS base w' (x ++ [.slice ad l.length c]) (y ++ [z]) (L ++ [l])) ∧ Kp base bb W w' ∧ (∀ (g : Nat) (cur : Array Value), W.heap[g]? = some (.cells cur 70 (0, 0)) → w'.heap[g]? = some (.cells cur 70 (0, 0))) := by
  have hty : ∀ a, ad = some a → ∃ cur fz, W.heap[a.block]? = some (.cells cur 70 fz) := fun a ha => by
    subst ha
    rcases own_form hz with ⟨q, _⟩ | ⟨g, cap, q, _⟩
    · cases q
    · cases q
      obtain ⟨_, cur, hg⟩ := ownsRow_block hz g rfl
      exact ⟨cur, _, hg⟩
  have hx0 := hx
  obtain ⟨u, v, _, hkb, _⟩ := hx0
  refine (notices_any hx hbz ad c l hr hty hl hc).mono ?_
  rintro e w' ⟨h1, h2, h3⟩
  have hat : ∀ (g : Nat) (cur : Array Value), W.heap[g]? = some (.cells cur 70 (0, 0)) → w'.heap[g]? = some (.cells cur 70 (0, 0)) := fun g cur hg => h2.block g _ hg (fun e => by
    subst e
    have := hkb.symm.trans hg
    simp only [Option.some.injEq, Obj.cells.injEq] at this
    exact absurd this.2.1 (by decide)) (.inr (fun c fz e3 => by
    simp only [Obj.cells.injEq] at e3
    exact absurd e3.2.1 (by decide)))
  refine ⟨h1, ?_, h2, hat⟩
  have hL2 := hL.carry (V := w') (fun g cur _ hg => hat g cur hg)
  rcases h3 with ⟨_, z, h3, h4⟩ | ⟨q, _⟩
  · refine ⟨z, by simpa using h3, hL2.app (row_at hz (fun g cur _ hg => hat g cur hg)) (row_base h4 hbz) (fun g _ q => q) (fun g _ q => q) hl hn⟩
  · omega
theorem nk_of {W : World} {base bb : Nat} {x y : List Value} {L : List (List N3)} (hx : NKx base bb W L.length x y) (hL : Lx noS base W x y L) : NK noS base bb W := ⟨fun _ q => q.elim, _, x, y, L, hx, rfl, hL⟩
/-- Both lists of doubts, as they are found out. -/
structure J8 (w : World) (D : List N3) (g : (Option Addr × Nat) × (Option Addr × Nat)) (d2 d5 : Bool) (V : World) : Prop where
  bl : Below w.heap.size w V
  r1 : d2 = true → V.ownsRow w.heap.size 70 3 (.slice g.1.1 D.length g.1.2) D.length (fl D) ∧ (g.1.1 = none → g.1.2 = 0)
  r2 : d5 = true → V.ownsRow w.heap.size 70 3 (.slice g.2.1 D.length g.2.2) D.length (fl D) ∧ (g.2.1 = none → g.2.2 = 0) ∧ ∀ q, (Value.slice g.1.1 D.length g.1.2).ownBlock = some q → (Value.slice g.2.1 D.length g.2.2).ownBlock ≠ some q
theorem J8.carry {w V V' : World} {D : List N3} {g : (Option Addr × Nat) × (Option Addr × Nat)} {d2 d5 : Bool} (h : J8 w D g d2 d5 V) (hb : Below V.heap.size V V') : J8 w D g d2 d5 V' :=
  ⟨bel2 h.bl hb, fun e => ⟨row_below (h.r1 e).1 hb, (h.r1 e).2⟩, fun e => ⟨row_below (h.r2 e).1 hb, (h.r2 e).2.1, (h.r2 e).2.2⟩⟩
theorem J8.one {w V V' : World} {D : List N3} {g : (Option Addr × Nat) × (Option Addr × Nat)} (h : J8 w D g false false V) {a : Option Addr} {c : Nat} (hr : V'.ownsRow V.heap.size 70 3 (.slice a D.length c) D.length (fl D)) (hc : a = none → c = 0) (hb : Below V.heap.size V V') : J8 w D ((a, c), g.2) true false V' :=
  ⟨bel2 h.bl hb, fun _ => ⟨row_base hr h.bl.size, hc⟩, fun e => by cases e⟩
theorem J8.two {w V V' : World} {D : List N3} {g : (Option Addr × Nat) × (Option Addr × Nat)} (h : J8 w D g true false V) {a : Option Addr} {c : Nat} (hr : V'.ownsRow V.heap.size 70 3 (.slice a D.length c) D.length (fl D)) (hc : a = none → c = 0) (hb : Below V.heap.size V V') : J8 w D (g.1, (a, c)) true true V' := by
  refine ⟨bel2 h.bl hb, fun e => ⟨row_below (h.r1 e).1 hb, (h.r1 e).2⟩, fun _ => ⟨row_base hr h.bl.size, hc, fun q h1 h2 => ?_⟩⟩
  have k1 := (row_lt2 (h.r1 rfl).1 q h1).2
  have k2 := (row_lt2 hr q h2).1
  omega
/-- While all is looked at: ahead of Apart, and behind it. -/
def J9 (w0 w : World) (L : List N3) (g : Option Addr × Nat) (d13 d20 : Bool) (V : World) : Prop := match d20 with
  | false => Below w.heap.size w V ∧ (d13 = true → RdN V g.1 L)
  | true => Below w0.heap.size w0 V
theorem dbs_le {L : List N3} (h1 : L.length ≤ 100) (M : Nat) : (dbs L (idsTo M 128)).length ≤ 100 := by
  rw [dbs_count rfl (by omega)]
  exact Nat.le_trans List.countP_le_length (by rw [List.length_range]; exact h1)
theorem made_form {w W : World} {v : Value} {l : List N3} (h : Made w W v l) : ∃ a c, v = .slice a l.length c ∧ W.ownsRow w.heap.size 70 3 (.slice a l.length c) l.length (fl l) ∧ (a = none → c = 0) := by
  have h' : W.ownsRow w.heap.size 70 3 v l.length (fl l) := h
  rcases own_form h' with ⟨e1, e2⟩ | ⟨g, cap, e1, _⟩
  · subst e1
    refine ⟨none, 0, by rw [e2], by rw [e2]; rw [e2] at h'; exact h', fun _ => rfl⟩
  · subst e1
    exact ⟨_, cap, rfl, h', fun e => by cases e⟩
theorem own_rdn {W : World} {base : Nat} {a : Option Addr} {c : Nat} {l : List N3} (h : W.ownsRow base 70 3 (.slice a l.length c) l.length (fl l)) : RdN W a l := by
  obtain ⟨a', c', e, hr⟩ := own_rd h
  cases e
  exact hr
theorem infoR1 : (Tryz.prog.info? 32).map (·.size) = some 1 := by kernel_rfl
theorem rd_row {W : World} {ad : Option Addr} {L : List N3} {b : Nat} (cs : Array Value) (h : RdN W ad L) (hne : ∀ a, ad = some a → a.block ≠ b) : RdN (W.setRow b cs) ad L := fun hl => by
  obtain ⟨bk, off, e, h1, h2⟩ := h hl
  have hn : bk ≠ b := hne _ e
  have q : (W.setRow b cs).heap[bk]? = W.heap[bk]? := setRow_other hn
  refine ⟨bk, off, e, by simpa [World.setRow] using h1, fun k x hx => ?_⟩
  obtain ⟨c0, c1, c2⟩ := h2 k x hx
  exact ⟨(World.cell?_of_block (a := ⟨bk, _, none⟩) q).trans c0, (World.cell?_of_block (a := ⟨bk, _, none⟩) q).trans c1, (World.cell?_of_block (a := ⟨bk, _, none⟩) q).trans c2⟩
theorem bk_row4 {W : World} {p g b : Nat} {l : List N3} {v : Value} (h : Bk W p g l) (hr : RB W b v) (cs : Array Value) : Bk (W.setRow b cs) p g l := by
  have h1 : p ≠ b := fun e => by
    subst e
    have := h.obj.symm.trans hr
    simp only [Option.some.injEq, Obj.cells.injEq] at this
    exact absurd this.2.1 (by decide)
  have h2 : g ≠ b := fun e => by
    subst e
    have := h.row.symm.trans hr
    simp only [Option.some.injEq, Obj.cells.injEq] at this
    exact absurd this.2.1 (by decide)
  exact ⟨(setRow_other h1).trans h.obj, (setRow_other h2).trans h.row⟩
theorem RB.turn {W V : World} {p g b : Nat} {l : List N3} {v : Value} (hr : RB W b v) (h : Bk W p g l) (hg : W.grownBy V (some g)) : RB V b v := by
  refine (hg.block b (lt_at hr) (fun e => ?_)).trans hr
  have e : b = g := by simpa using e
  subst e
  have := h.row.symm.trans hr
  simp only [Option.some.injEq, Obj.cells.injEq] at this
  exact absurd this.2.1 (by decide)
theorem rb_ne {W : World} {b bk : Nat} {v : Value} {cur : Array Value} (hr : RB W b v) (hc : W.heap[bk]? = some (.cells cur 70 (0, 0))) : bk ≠ b := fun e => by
  subst e
  have h1 : W.heap[bk]? = some (.cells #[v] 32 (0, 0)) := hr
  have := h1.symm.trans hc
  simp only [Option.some.injEq, Obj.cells.injEq] at this
  exact absurd this.2.1 (by decide)
theorem Tab.turn {W V : World} {g : Nat} (h : Tab W) (hg : W.grownBy V (some g)) (h0 : 0 < g) : Tab V := by
  obtain ⟨c, t, h1, h2⟩ := h
  exact ⟨c, t, (hg.block 0 (lt_at h1) (by simp; omega)).trans h1, h2⟩
end Go.Proofs.YtgehmidalfajgabGreatDoor
