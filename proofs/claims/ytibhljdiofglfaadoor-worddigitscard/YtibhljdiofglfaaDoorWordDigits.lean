/- WordDigits: every number from 0 to 2^40, in decimal digits, is that number; with a nought ahead, a sign, a letter behind it is none; no condition but the tie of the card. -/
import Derived.Test.YtibhljdiofglfaaDoorRows
import Derived.WalkKit
import Derived.ProofKit
import Derived.OpenShut
import Derived.Stop.Joined
import Derived.Lay
import Derived.SevenTiedAt
import Derived.SizedLaws
import Derived.LaidMore
import Derived.Test.YtibhljdiofglfaaDoorTie
import Derived.Test.YtibhljdiofglfaaDoorCards
import Derived.Test.YtibhljdiofglfaaDoorAlv
import Derived.Test.YtibhljdiofglfaaDoorDig
namespace Go.Proofs.YtibhljdiofglfaaDoor
open Go.ChangeShapes Go.WideShapes Go.ChangeAt Go.RowKit
set_option linter.unusedVariables false


theorem own : ownKnob Tryd.prog.godebug = none := by kernel_rfl
theorem app_one (d : UInt8) (t : List UInt8) : (⟨#[d]⟩ : ByteArray) ++ ⟨t.toArray⟩ = ⟨(d :: t).toArray⟩ := by
  apply ByteArray.ext
  simp [ByteArray.data_append]
theorem app_end (d : UInt8) (t : List UInt8) : (⟨t.toArray⟩ : ByteArray) ++ ⟨#[d]⟩ = ⟨(t ++ [d]).toArray⟩ := by
  apply ByteArray.ext
  simp [ByteArray.data_append]
def vnat (v : Value) : Nat := match v with | .int _ n => n.toNat | _ => 0
set_option maxHeartbeats 4000000 in
set_option maxRecDepth 100000 in
theorem walk (a0 : Int) (w0 : (Lit.int .i64 a0).wf = true) (w : World) (hL : laidMetH Tryd.prog Rows.wordDigitsRow.laid w) :
    Calls Tryd.prog 7 #[.int .i64 a0] w fun e w' => e = .returned (.bool true) ∧ Below w.heap.size w w' := by
  have hal := alive_any
  by_cases hr : 0 ≤ a0 ∧ a0 ≤ 1099511627776
  · obtain ⟨v, rfl⟩ := Int.eq_ofNat_of_zero_le hr.1
    have hv : v ≤ 1099511627776 := by omega
    have t1 : ¬ (v : Int) < 0 := by omega
    have t2 : ¬ 1099511627776 < (v : Int) := by omega
    obtain ⟨p1, p2, p3, p4⟩ := digW_spec v
    have hlen := txt_len v
    have hn1 := number_any ⟨(txtW v).toArray⟩ (by rw [size_mk]; unfold maxLen; omega)
    rw [txt_good v hv] at hn1
    have hn2 := number_any ⟨(48 :: txtW v).toArray⟩ (by rw [size_mk]; unfold maxLen; simp; omega)
    rw [txt_nought v] at hn2
    have hn3 := number_any ⟨(45 :: txtW v).toArray⟩ (by rw [size_mk]; unfold maxLen; simp; omega)
    rw [txt_sign v] at hn3
    have hn4 := number_any ⟨(txtW v ++ [97]).toArray⟩ (by rw [size_mk]; unfold maxLen; simp; omega)
    rw [txt_letter v] at hn4
    simp only [numV] at hn1 hn2 hn3 hn4
    have q2 := app_one 48 (txtW v)
    have q3 := app_one 45 (txtW v)
    have q4 := app_end 97 (txtW v)
    have s0 : (⟨(txtW v).toArray⟩ : ByteArray).size = (txtW v).length := size_mk _
    clear p1 p2 p4
    go_enter Tryd.func7, Tryd.ntmps7
    go_wp2
    go_loopw [4, 3] (fun c s wz => ∃ (x : Nat) (t : List UInt8), c = .int .i64 (x : Int) ∧ s = .string ⟨t.toArray⟩ ∧ x ≤ v ∧ digW v = digW x ++ t ∧ wz = w) (fun c _ _ => vnat c)
    case atStart => exact ⟨v, [], rfl, rfl, Nat.le_refl _, by simp, rfl⟩
    case round =>
      obtain ⟨x, t, rfl, rfl, hxv, hd, rfl⟩ := hrel
      have htl : t.length ≤ v := by have := congrArg List.length hd; simp at this; omega
      have hts : (⟨t.toArray⟩ : ByteArray).size = t.length := size_mk _
      by_cases hx : x = 0
      · subst hx
        rw [digW_zero, List.nil_append] at hd
        have hS : (if v = 0 then [48] else t) = txtW v := by rw [← hd]; rfl
        obtain ⟨S, hS2⟩ : ∃ S, (⟨(txtW v).toArray⟩ : ByteArray) = S := ⟨_, rfl⟩
        obtain ⟨S2, hS3⟩ : ∃ S2, (⟨(48 :: txtW v).toArray⟩ : ByteArray) = S2 := ⟨_, rfl⟩
        obtain ⟨S3, hS4⟩ : ∃ S3, (⟨(45 :: txtW v).toArray⟩ : ByteArray) = S3 := ⟨_, rfl⟩
        obtain ⟨S4, hS5⟩ : ∃ S4, (⟨(txtW v ++ [97]).toArray⟩ : ByteArray) = S4 := ⟨_, rfl⟩
        rw [hS2] at hn1 q2 q3 q4 s0
        rw [hS3] at hn2 q2
        rw [hS4] at hn3 q3
        rw [hS5] at hn4 q4
        have hss : S.size ≤ 1099511627777 := by omega
        by_cases h0 : v = 0
        · subst h0
          have e1 : (⟨(txtW 0).toArray⟩ : ByteArray) = ⟨#[48]⟩ := rfl
          have e2 : (⟨(48 :: txtW 0).toArray⟩ : ByteArray) = ⟨#[48, 48]⟩ := rfl
          have e3 : (⟨(45 :: txtW 0).toArray⟩ : ByteArray) = ⟨#[45, 48]⟩ := rfl
          have e4 : (⟨(txtW 0 ++ [97]).toArray⟩ : ByteArray) = ⟨#[48, 97]⟩ := rfl
          rw [e1] at hS2
          rw [e2] at hS3
          rw [e3] at hS4
          rw [e4] at hS5
          subst hS2 hS3 hS4 hS5
          clear hS hd htl hts hlen s0 e1 e2 e3 e4
          go_wp2_with (first | (go_at_call 13; first | (refine (hn1 _).mono ?_; rintro e w1 ⟨rfl, hb1⟩; clear hn1) | (refine (hn2 _).mono ?_; rintro e w2 ⟨rfl, hb2⟩; clear hn2) | (refine (hn3 _).mono ?_; rintro e w3 ⟨rfl, hb3⟩; clear hn3) | (refine (hn4 _).mono ?_; rintro e w4 ⟨rfl, hb4⟩)) | (go_at_call 10; refine (hal _).mono ?_; rintro e w5 ⟨rfl, hb5⟩))
          go_ret
          exact ⟨by first | rfl | simp, (((hb1.trans (hb2.mono hb1.size)).trans (hb3.mono (Nat.le_trans hb1.size hb2.size))).trans (hb4.mono (Nat.le_trans (Nat.le_trans hb1.size hb2.size) hb3.size))).trans (hb5.mono (Nat.le_trans (Nat.le_trans (Nat.le_trans hb1.size hb2.size) hb3.size) hb4.size))⟩
        · rw [if_neg h0] at hS
          rw [hS, hS2]
          have h0' : ((v : Int) == 0) = false := by simp; omega
          clear hS hS2 hS3 hS4 hS5 hd htl hts hlen s0
          go_wp2_with (first | (go_at_call 13; first | (refine (hn1 _).mono ?_; rintro e w1 ⟨rfl, hb1⟩; clear hn1) | (refine (hn2 _).mono ?_; rintro e w2 ⟨rfl, hb2⟩; clear hn2) | (refine (hn3 _).mono ?_; rintro e w3 ⟨rfl, hb3⟩; clear hn3) | (refine (hn4 _).mono ?_; rintro e w4 ⟨rfl, hb4⟩)) | (go_at_call 10; refine (hal _).mono ?_; rintro e w5 ⟨rfl, hb5⟩))
          go_ret
          exact ⟨by first | rfl | simp, (((hb1.trans (hb2.mono hb1.size)).trans (hb3.mono (Nat.le_trans hb1.size hb2.size))).trans (hb4.mono (Nat.le_trans (Nat.le_trans hb1.size hb2.size) hb3.size))).trans (hb5.mono (Nat.le_trans (Nat.le_trans (Nat.le_trans hb1.size hb2.size) hb3.size) hb4.size))⟩
      · have hx1 : (x : Int) > 0 := by omega
        have hx2 : 0 < (x : Int) := by omega
        have Hd : Hid (digW v = digW x ++ t) := hd
        obtain ⟨S, hS⟩ : ∃ S, (⟨t.toArray⟩ : ByteArray) = S := ⟨_, rfl⟩
        have HS : Hid ((⟨t.toArray⟩ : ByteArray) = S) := hS
        rw [hS]
        rw [hS] at hts
        clear hn1 hn2 hn3 hn4 q2 q3 q4 hd s0 hlen p3 hS
        go_wp2
        · exfalso
          rename_i hov
          first | rw [enc_dig x, hts] at hov | rw [enc_dig x] at hov
          have h1s : (⟨#[UInt8.ofNat (48 + x % 10)]⟩ : ByteArray).size = 1 := rfl
          omega
        · go_roundw
          case rel => exact ⟨x / 10, UInt8.ofNat (48 + x % 10) :: t, by simp, by rw [enc_dig x, ← HS.out, app_one], by omega, by rw [Hd.out, digW_pos x hx]; simp, by first | rfl | trivial⟩
          case measure => simp only [vnat]; omega
  · by_cases h0 : a0 < 0
    · go_enter Tryd.func7, Tryd.ntmps7
      go_wp2_with (go_at_call 10; refine (hal _).mono ?_; rintro e w3 ⟨rfl, hb3⟩)
      go_ret
      exact ⟨rfl, hb3⟩
    · have h1 : 1099511627776 < a0 := by omega
      go_enter Tryd.func7, Tryd.ntmps7
      go_wp2_with (go_at_call 10; refine (hal _).mono ?_; rintro e w3 ⟨rfl, hb3⟩)
      go_ret
      exact ⟨rfl, hb3⟩

set_option maxRecDepth 100000 in
theorem lifted (os : Os) (started : os.Started) (H : Type) (enc : TypeId × Value → H) :
    ReturnsInHanded {} Tryd.checked os 7 .any (fun w args => (Rows.wordDigitsSpec.pre enc Tryd.prog Tryd.f7 [] false w args ∧ laidMetH Tryd.prog Rows.wordDigitsRow.laid w) ∧ sizedMet enc Tryd.prog Tryd.f7 (OpenSpec.ofChange Rows.wordDigitsSpec) false w args)
      (Rows.wordDigitsSpec.post enc Tryd.prog Tryd.f7 false true false false) := by
  refine returnsInHanded_of_change_and (C := Tryd.checked) (X := fun w _ => laidMetH Tryd.prog Rows.wordDigitsRow.laid w) (fun _ _ _ hh h => h.of_heap hh) own started (by kernel_rfl) Tryd.func7
    (ChangeSpec.witness_shaped (enc := enc) (C := Tryd.checked) (os := os) (X := fun w _ => laidMetH Tryd.prog Rows.wordDigitsRow.laid w) false (World.laidAll Tryd.prog os Rows.wordDigitsRow.laid) #[.int .i64 0] 8 (World.laidAll_os _ _ _)
      (World.shaped_of_ZipB (by kernel_rfl) (by kernel_rfl)) (by kernel_rfl) (by kernel_rfl) (by kernel_rfl)
      (by rw [MakeChecks.laidMetH_plain _ _ _ (by kernel_rfl)]; exact laidMet_laidAll _ (by kernel_rfl) (by kernel_rfl))) ?_
  intro W base args ds gs before hval0 hW _ hsz hL _
  have hval : ∀ (j : Nat) t v, Tryd.f7.params[j]? = some t → args[j]? = some v → Value.okWide Tryd.prog W .any base t v := hval0
  have hW' := hW
  obtain ⟨p, q, hA0, hV, rfl, hfz, hnd⟩ := hW
  have hA : DataW.TrodAll enc Tryd.prog W 0 (fun _ => true) true Tryd.f7.params.toList args.toList ds p := hA0
  rw [Tryd.params7] at hA hval
  obtain ⟨v0, vs0, d0, ds0, p0, q0, hargs, rfl, rfl, h0, r0⟩ := trodAll_cons hA
  obtain ⟨rfl, rfl, rfl⟩ := trodAll_nil r0
  obtain rfl : args = #[v0] := by cases args; simp_all
  obtain ⟨rfl, rfl⟩ := trodVars_none hV
  obtain ⟨a0, rfl, rfl, rfl, w0⟩ := open_int Tryd.underlying3 (hval 0 3 v0 rfl rfl) h0
  clear hA0 hval0
  simp only [List.append_nil] at hW'
  refine (walk a0 w0 W hL).mono fun e W' ⟨he, hg⟩ => ?_
  subst he
  exact ⟨_, rfl, _, _, _, [], _, [], hW', (trodAll_cons_mk (shut_bool Tryd.underlying4 _) trodAll_mk0), (trodAll_cons_mk (shut_int Tryd.underlying3 w0) trodAll_mk0), rfl, hg.frame _, fun h => by cases h⟩

theorem over : Rows.wordDigitsRow.holds Tryd.pinned (OpenSpec.ofChange Rows.wordDigitsSpec) :=
  OpenClaim.holds_of_wide 7 Tryd.f7 rfl rfl rfl rfl rfl rfl rfl ⟨rfl, rfl, rfl, rfl, rfl⟩ rfl rfl rfl rfl rfl (by kernel_rfl) Tryd.func7 (by kernel_rfl)
    (of_decide_eq_true (by kernel_rfl)) (by unfold Func.isWrapper; first | (rw [if_pos (by decide +kernel)]; kernel_rfl) | (rw [if_neg (by decide +kernel)]; exact ⟨rfl, rfl⟩))
    (fun os started H enc _ => lifted os started H enc)

theorem row_proved : Rows.WordDigitsSaid :=
  over
theorem proved : Rows.WordDigitsCardSaid :=
  Claim7.holds_tied_plain_at .later [] [.data, .pinned] true (true, "997cb61f626bbeca65f6e5b32c5c8ee889106521db348261eb31df427ee72416") false
    row_proved (fun _ h => by cases h) (by kernel_rfl) (fun _ h => by cases h) wordDigits_row_tie rfl ⟨rfl, rfl⟩ (by kernel_rfl) rfl
    (fun f fn hf hfn => by
      obtain rfl : f = 7 := Option.some.inj ((show Tryd.prog.funcNamed "earshot/earshotlaw2.WordDigits" = some 7 by kernel_rfl).symm.trans hf) |>.symm
      obtain rfl : fn = Tryd.f7 := (Option.some.inj (Tryd.func7.symm.trans hfn)).symm
      exact ⟨by kernel_rfl, fun j t ht => by
        rw [Tryd.params7] at ht
        rcases j with _ | j
        · have e : t = 3 := by simpa using ht.symm
          subst e
          exact (show Tryd.prog.wantsStandIn 3 = false by kernel_rfl)
        simp at ht⟩)
    (by kernel_rfl)
#print axioms proved
end Go.Proofs.YtibhljdiofglfaaDoor
