/- WordBack: at every text: what is printed is read as the same words, and printed as the same text; no condition but the tie of the card. -/
import Derived.Test.YtibhljdiofglfaaDoorRows
import Derived.WalkKit
import Derived.ProofKit
import Derived.OpenShut
import Derived.ChangeMaps5
import Derived.Stop.Joined
import Derived.Lay
import Derived.SevenTiedAt
import Derived.SizedLaws
import Derived.LaidMore
import Derived.Test.YtibhljdiofglfaaDoorTie
import Derived.Test.YtibhljdiofglfaaDoorCards
import Derived.Test.YtibhljdiofglfaaDoorJnJ5
import Derived.Test.YtibhljdiofglfaaDoorJnJ4
namespace Go.Proofs.YtibhljdiofglfaaDoor
open Go.ChangeShapes Go.WideShapes Go.ChangeAt Go.RowKit Go.ChangeMaps
set_option linter.unusedVariables false


theorem own : ownKnob Tryd.prog.godebug = none := by kernel_rfl
theorem own_rd {W : World} {base c n : Nat} {ad : Option Addr} {l : List Fou} (h : W.ownsRow base 32 4 (.slice ad n c) n (cells4 l)) (hn : n = l.length) : RdQ W ad l := by
  subst hn
  have e : cells4 l = cq l := cq_cells4 l
  rw [e] at h
  exact RdQ.own h
theorem row_sl {w : World} {base size : Nat} {e : TypeId} {v : Value} {n : Nat} {xs : List Value} (h : w.ownsRow base e size v n xs) : ∃ ad cap, v = .slice ad n cap := by
  rcases own_form h with ⟨e1, e2⟩ | ⟨g, cap, e1, _⟩
  · exact ⟨none, 0, by rw [e1, e2]⟩
  · exact ⟨_, cap, e1⟩
/-- What Scan answers of a text that is read. -/
theorem scan_ok (s : ByteArray) (hs : s.size ≤ 65536) (hb : badL (linesOf s) = none) (W : World) : Calls Tryd.prog 9 #[.string s] W fun e w' => (∃ ad cap, e = .returned (.tuple #[.slice ad (fours 0 (linesOf s)).length cap, .int .i64 0, .int .i64 0, .int .i64 0]) ∧ RdQ w' ad (fours 0 (linesOf s))) ∧ Below W.heap.size W w' := by
  have hlen := fours_len 0 (linesOf s)
  have hcs := fours_cells 0 (linesOf s)
  refine (callsIn_wide.1 (scan_in s hs W)).mono ?_
  rintro e w' ⟨h1, h2⟩
  unfold ScV at h1
  rw [hb] at h1
  obtain ⟨v, rfl, hr⟩ := h1
  obtain ⟨ad, cap, rfl⟩ := row_sl hr
  rw [hcs] at hr
  exact ⟨⟨ad, cap, by rw [hlen], own_rd hr hlen.symm⟩, h2⟩
theorem bad_ne : ∀ (L : List ByteArray) (i er co : Nat), badL L = some (i, er, co) → er ≠ 0
  | [], _, _, _, h => by cases h
  | x :: t, i, er, co, h => by
    rw [badL] at h
    by_cases hx : (cutR x).2.1 ≠ 0
    · rw [if_pos hx] at h
      cases h
      exact hx
    · rw [if_neg hx] at h
      cases ht : badL t with
      | none => rw [ht] at h; cases h
      | some r =>
        rw [ht] at h
        obtain ⟨i', er', co'⟩ := r
        cases h
        exact bad_ne t i' er co ht
set_option maxHeartbeats 4000000 in
set_option maxRecDepth 100000 in
theorem walk (s0 : ByteArray) (w0 : s0.size ≤ maxLen) (w : World) (hL : laidMetH Tryd.prog Rows.wordBackRow.laid w) :
    Calls Tryd.prog 3 #[.string s0] w fun e w' => e = .returned (.bool true) ∧ Below w.heap.size w w' := by
  by_cases hs : s0.size ≤ 65536
  case neg =>
    have hP2 := fun W => scan_long s0 (by omega) W
    go_enter Tryd.func3, Tryd.ntmps3
    go_wp2_with (first | (go_at_call 9; refine (hP2 _).mono ?_; rintro e u1 ⟨rfl, hb1⟩) | (go_at_call 10; refine (alive_any _).mono ?_; rintro e u3 ⟨rfl, hb3⟩))
    go_ret
    exact ⟨rfl, bel2 hb1 hb3⟩
  cases hb : badL (linesOf s0) with
  | some r =>
    obtain ⟨i, er, c⟩ := r
    have hne := bad_ne _ _ _ _ hb
    have hP2 : ∀ W : World, Calls Tryd.prog 9 #[.string s0] W fun e w' => e = .returned (.tuple #[.slice none 0 0, .int .i64 (er : Int), .int .i64 ((i + 1 : Nat) : Int), .int .i64 (c : Int)]) ∧ Below W.heap.size W w' := fun W => (callsIn_wide.1 (scan_in s0 hs W)).mono (by
      rintro e w' ⟨h1, h2⟩
      unfold ScV at h1
      rw [hb] at h1
      exact ⟨h1, h2⟩)
    have hne' : ¬ (er : Int) = 0 := by omega
    clear hb hne
    generalize ((i + 1 : Nat) : Int) = A at *
    generalize (er : Int) = B at *
    go_enter Tryd.func3, Tryd.ntmps3
    go_wp2_with (first | (go_at_call 9; (with_reducible refine (hP2 _).mono ?_); rintro e u1 ⟨rfl, hb1⟩) | (go_at_call 10; refine (alive_any _).mono ?_; rintro e u3 ⟨rfl, hb3⟩))
    go_ret
    exact ⟨rfl, bel2 hb1 hb3⟩
  | none =>
    have hP2 := fun W => scan_ok s0 hs hb W
    have hkk : (fours 0 (linesOf s0)).length ≤ 2 * (s0.size + 1) := by
      rw [fours_len]
      exact kk_pre (s := s0) (List.prefix_refl (linesOf s0))
    have hsh := fours_shp s0 hb
    have hbt := print_text _ _ hsh
    generalize fours 0 (linesOf s0) = L at *
    obtain ⟨n, hn⟩ : ∃ n, L.length = n := ⟨_, rfl⟩
    have hnb : n ≤ 4611686018427387904 := by omega
    have hpr := fun V a c (hr : RdQ V a L) => print_any s0.size hs a c n L V hr hn hsh hnb
    rw [hn] at hP2
    obtain ⟨t, ht⟩ : ∃ t, prs false L = t := ⟨_, rfl⟩
    obtain ⟨M, hM⟩ : ∃ M, fours 0 (linesOf t) = M := ⟨_, rfl⟩
    rw [ht, hM] at hbt
    have hkt := hbt.2
    have hMn : M.length = n := by have := congrArg List.length hkt; simp only [List.length_map] at this; omega
    have hPM : prs false M = t := by rw [← ht]; exact (prs_kt L M false hkt).symm
    by_cases hlong : 65536 < n ∨ 65536 < t.size
    · have hp1 : ∀ V a c, RdQ V a L → Calls Tryd.prog 11 #[.slice a n c] V fun e w' => e = .returned (.tuple #[.string ⟨#[]⟩, .int .i64 2]) ∧ Below V.heap.size V w' := fun V a c hr => (hpr V a c hr).mono (by
        rintro e w' ⟨h1, h2 | ⟨_, h3, h4⟩⟩
        · exact ⟨h2.1, h1⟩
        · rw [ht] at h4; omega)
      clear hpr hbt hkt hMn hPM hM ht hsh hn hkk hb
      go_enter Tryd.func3, Tryd.ntmps3
      go_wp2_with (first | (go_at_call 9; (with_reducible refine (hP2 _).mono ?_); rintro e u1 ⟨⟨a1, c1, rfl, r1⟩, hb1⟩; have hp2 := hp1 u1 a1 c1 r1) | (go_at_call 11; (with_reducible refine hp2.mono ?_); rintro e u2 ⟨rfl, hb2⟩) | (go_at_call 10; refine (alive_any _).mono ?_; rintro e u3 ⟨rfl, hb3⟩))
      go_ret
      exact ⟨rfl, bel2 (bel2 hb1 hb2) hb3⟩
    · have hp1 : ∀ V a c, RdQ V a L → Calls Tryd.prog 11 #[.slice a n c] V fun e w' => e = .returned (.tuple #[.string t, .int .i64 0]) ∧ Below V.heap.size V w' := fun V a c hr => (hpr V a c hr).mono (by
        rintro e w' ⟨h1, ⟨_, h2⟩ | ⟨h2, _, _⟩⟩
        · rw [ht] at h2; exact absurd h2 hlong
        · rw [ht] at h2; exact ⟨h2, h1⟩)
      have hP3 := fun W => scan_ok t (by omega) hbt.1 W
      rw [hM, hMn] at hP3
      have hp3 : ∀ V a c, RdQ V a M → Calls Tryd.prog 11 #[.slice a n c] V fun e w' => e = .returned (.tuple #[.string t, .int .i64 0]) ∧ Below V.heap.size V w' := fun V a c hr => (print_any s0.size hs a c n M V hr hMn (shp_kt L M false hkt hsh) hnb).mono (by
        rintro e w' ⟨h1, ⟨_, h2⟩ | ⟨h2, _, _⟩⟩
        · rw [hPM] at h2; exact absurd h2 hlong
        · rw [hPM] at h2; exact ⟨h2, h1⟩)
      have HK : Hid (L.map kt = M.map kt) := hkt
      have HN : Hid (L.length = n) := hn
      clear hpr hbt hkt hMn hPM hM ht hsh hn hkk hb hlong
      go_enter Tryd.func3, Tryd.ntmps3
      go_wp2_with (first
        | (go_at_call 12; refine (like_any a1 a4 c1 c4 n L M u6 (((((r1.carry hb2).carry hb4).carry hb5).carry hb6)) ((r4.carry hb5).carry hb6) HN.out HK.out hnb).mono ?_; rintro e u7 ⟨rfl, hb7⟩)
        | (go_at_call 10; refine (alive_any _).mono ?_; rintro e u6 ⟨rfl, hb6⟩)
        | (go_at_call 11; (with_reducible refine hp4.mono ?_); rintro e u5 ⟨rfl, hb5⟩)
        | (go_at_call 9; (with_reducible refine (hP3 u2).mono ?_); rintro e u4 ⟨⟨a4, c4, rfl, r4⟩, hb4⟩; have hp4 := hp3 u4 a4 c4 r4)
        | (go_at_call 11; (with_reducible refine hp2.mono ?_); rintro e u2 ⟨rfl, hb2⟩)
        | (go_at_call 9; (with_reducible refine (hP2 _).mono ?_); rintro e u1 ⟨⟨a1, c1, rfl, r1⟩, hb1⟩; have hp2 := hp1 u1 a1 c1 r1))
      go_ret
      exact ⟨rfl, bel2 (bel2 (bel2 (bel2 (bel2 hb1 hb2) hb4) hb5) hb6) hb7⟩

set_option maxRecDepth 100000 in
theorem lifted (os : Os) (started : os.Started) (H : Type) (enc : TypeId × Value → H) :
    ReturnsInHanded {} Tryd.checked os 3 .any (fun w args => (Rows.wordBackSpec.pre enc Tryd.prog Tryd.f3 [] false w args ∧ laidMetH Tryd.prog Rows.wordBackRow.laid w) ∧ sizedMet enc Tryd.prog Tryd.f3 (OpenSpec.ofChange Rows.wordBackSpec) false w args)
      (Rows.wordBackSpec.post enc Tryd.prog Tryd.f3 false true false false) := by
  refine returnsInHanded_of_change_and (C := Tryd.checked) (X := fun w _ => laidMetH Tryd.prog Rows.wordBackRow.laid w) (fun _ _ _ hh h => h.of_heap hh) own started (by kernel_rfl) Tryd.func3
    (ChangeSpec.witness_shaped (enc := enc) (C := Tryd.checked) (os := os) (X := fun w _ => laidMetH Tryd.prog Rows.wordBackRow.laid w) false (World.laidAll Tryd.prog os Rows.wordBackRow.laid) #[.string ByteArray.empty] 8 (World.laidAll_os _ _ _)
      (World.shaped_of_ZipB (by kernel_rfl) (by kernel_rfl)) (by kernel_rfl) (by kernel_rfl) (by kernel_rfl)
      (by rw [MakeChecks.laidMetH_plain _ _ _ (by kernel_rfl)]; exact laidMet_laidAll _ (by kernel_rfl) (by kernel_rfl))) ?_
  intro W base args ds gs before hval0 hW _ hsz hL _
  have hval : ∀ (j : Nat) t v, Tryd.f3.params[j]? = some t → args[j]? = some v → Value.okWide Tryd.prog W .any base t v := hval0
  have hW' := hW
  obtain ⟨p, q, hA0, hV, rfl, hfz, hnd⟩ := hW
  have hA : DataW.TrodAll enc Tryd.prog W 0 (fun _ => true) true Tryd.f3.params.toList args.toList ds p := hA0
  rw [Tryd.params3] at hA hval
  obtain ⟨v0, vs0, d0, ds0, p0, q0, hargs, rfl, rfl, h0, r0⟩ := trodAll_cons hA
  obtain ⟨rfl, rfl, rfl⟩ := trodAll_nil r0
  obtain rfl : args = #[v0] := by cases args; simp_all
  obtain ⟨rfl, rfl⟩ := trodVars_none hV
  obtain ⟨s0, rfl, rfl, rfl, w0⟩ := open_string Tryd.underlying9 (hval 0 9 v0 rfl rfl) h0
  clear hA0 hval0
  simp only [List.append_nil] at hW'
  refine (walk s0 w0 W hL).mono fun e W' ⟨he, hg⟩ => ?_
  subst he
  exact ⟨_, rfl, _, _, _, [], _, [], hW', (trodAll_cons_mk (shut_bool Tryd.underlying4 _) trodAll_mk0), (trodAll_cons_mk (shut_string Tryd.underlying9 w0) trodAll_mk0), rfl, hg.frame _, fun h => by cases h⟩

theorem over : Rows.wordBackRow.holds Tryd.pinned (OpenSpec.ofChange Rows.wordBackSpec) :=
  OpenClaim.holds_of_wide 3 Tryd.f3 rfl rfl rfl rfl rfl rfl rfl ⟨rfl, rfl, rfl, rfl, rfl⟩ rfl rfl rfl rfl rfl (by kernel_rfl) Tryd.func3 (by kernel_rfl)
    (of_decide_eq_true (by kernel_rfl)) (by unfold Func.isWrapper; first | (rw [if_pos (by decide +kernel)]; kernel_rfl) | (rw [if_neg (by decide +kernel)]; exact ⟨rfl, rfl⟩))
    (fun os started H enc _ => lifted os started H enc)

theorem row_proved : Rows.WordBackSaid :=
  over
theorem proved : Rows.WordBackCardSaid :=
  Claim7.holds_tied_plain_at .later [] [.data, .pinned] true (true, "997cb61f626bbeca65f6e5b32c5c8ee889106521db348261eb31df427ee72416") false
    row_proved (fun _ h => by cases h) (by kernel_rfl) (fun _ h => by cases h) wordBack_row_tie rfl ⟨rfl, rfl⟩ (by kernel_rfl) rfl
    (fun f fn hf hfn => by
      obtain rfl : f = 3 := Option.some.inj ((show Tryd.prog.funcNamed "earshot/earshotlaw2.WordBack" = some 3 by kernel_rfl).symm.trans hf) |>.symm
      obtain rfl : fn = Tryd.f3 := (Option.some.inj (Tryd.func3.symm.trans hfn)).symm
      exact ⟨by kernel_rfl, fun j t ht => by
        rw [Tryd.params3] at ht
        rcases j with _ | j
        · have e : t = 9 := by simpa using ht.symm
          subst e
          exact (show Tryd.prog.wantsStandIn 9 = false by kernel_rfl)
        simp at ht⟩)
    (by kernel_rfl)
#print axioms proved
end Go.Proofs.YtibhljdiofglfaaDoor
