/- WordBlanks: at every text: blanks between its words, remarks at their ends and empty lines make no difference but to places; no condition but the tie of the card. -/
import Derived.Test.YtibhljdiofglfaaDoorRows
import Derived.WalkKit
import Derived.ProofKit
import Derived.OpenShut
import Derived.ChangeMaps5
import Derived.Stop.Joined
import Derived.Lay
import Derived.SevenTiedAt
import Derived.SizedLaws
import Derived.LaidMore
import Derived.Test.YtibhljdiofglfaaDoorTie
import Derived.Test.YtibhljdiofglfaaDoorCards
import Derived.Test.YtibhljdiofglfaaDoorJnJ4
namespace Go.Proofs.YtibhljdiofglfaaDoor
open Go.ChangeShapes Go.WideShapes Go.ChangeAt Go.RowKit Go.ChangeMaps
set_option linter.unusedVariables false


theorem own : ownKnob Tryd.prog.godebug = none := by kernel_rfl
theorem own_rd {W : World} {base c n : Nat} {ad : Option Addr} {l : List Fou} (h : W.ownsRow base 32 4 (.slice ad n c) n (cells4 l)) (hn : n = l.length) : RdQ W ad l := by
  subst hn
  have e : cells4 l = cq l := cq_cells4 l
  rw [e] at h
  exact RdQ.own h
theorem row_sl {w : World} {base size : Nat} {e : TypeId} {v : Value} {n : Nat} {xs : List Value} (h : w.ownsRow base e size v n xs) : ∃ ad cap, v = .slice ad n cap := by
  rcases own_form h with ⟨e1, e2⟩ | ⟨g, cap, e1, _⟩
  · exact ⟨none, 0, by rw [e1, e2]⟩
  · exact ⟨_, cap, e1⟩
/-- What Scan answers of a text that is read. -/
theorem scan_ok (s : ByteArray) (hs : s.size ≤ 65536) (hb : badL (linesOf s) = none) (W : World) : Calls Tryd.prog 9 #[.string s] W fun e w' => (∃ ad cap, e = .returned (.tuple #[.slice ad (fours 0 (linesOf s)).length cap, .int .i64 0, .int .i64 0, .int .i64 0]) ∧ RdQ w' ad (fours 0 (linesOf s))) ∧ Below W.heap.size W w' := by
  have hlen := fours_len 0 (linesOf s)
  have hcs := fours_cells 0 (linesOf s)
  refine (callsIn_wide.1 (scan_in s hs W)).mono ?_
  rintro e w' ⟨h1, h2⟩
  unfold ScV at h1
  rw [hb] at h1
  obtain ⟨v, rfl, hr⟩ := h1
  obtain ⟨ad, cap, rfl⟩ := row_sl hr
  rw [hcs] at hr
  exact ⟨⟨ad, cap, by rw [hlen], own_rd hr hlen.symm⟩, h2⟩
theorem bad_ne : ∀ (L : List ByteArray) (i er co : Nat), badL L = some (i, er, co) → er ≠ 0
  | [], _, _, _, h => by cases h
  | x :: t, i, er, co, h => by
    rw [badL] at h
    by_cases hx : (cutR x).2.1 ≠ 0
    · rw [if_pos hx] at h
      cases h
      exact hx
    · rw [if_neg hx] at h
      cases ht : badL t with
      | none => rw [ht] at h; cases h
      | some r =>
        rw [ht] at h
        obtain ⟨i', er', co'⟩ := r
        cases h
        exact bad_ne t i' er co ht
theorem take_bls (l : List Fou) (k : Nat) (x : Fou) (h : l[k]? = some x) : bls (l.take (k + 1)) = bls (l.take k) ++ pc x := by
  rw [List.take_add_one, h, Option.toList_some, bls_append]
  congr 1
  rw [bls, bls, ByteArray.append_empty]
def stB (v : Value) : ByteArray := match v with | .string x => x | _ => ByteArray.empty
set_option maxHeartbeats 4000000 in
set_option maxRecDepth 100000 in
theorem walk (s0 : ByteArray) (w0 : s0.size ≤ maxLen) (w : World) (hL : laidMetH Tryd.prog Rows.wordBlanksRow.laid w) :
    Calls Tryd.prog 4 #[.string s0] w fun e w' => e = .returned (.bool true) ∧ Below w.heap.size w w' := by
  by_cases hs : s0.size ≤ 65536
  case neg =>
    have hP2 := fun W => scan_long s0 (by omega) W
    go_enter Tryd.func4, Tryd.ntmps4
    go_wp2_with (first | (go_at_call 9; refine (hP2 _).mono ?_; rintro e u1 ⟨rfl, hb1⟩) | (go_at_call 10; refine (alive_any _).mono ?_; rintro e u3 ⟨rfl, hb3⟩))
    go_ret
    exact ⟨rfl, bel2 hb1 hb3⟩
  cases hb : badL (linesOf s0) with
  | some r =>
    obtain ⟨i, er, c⟩ := r
    have hne := bad_ne _ _ _ _ hb
    have hP2 : ∀ W : World, Calls Tryd.prog 9 #[.string s0] W fun e w' => e = .returned (.tuple #[.slice none 0 0, .int .i64 (er : Int), .int .i64 ((i + 1 : Nat) : Int), .int .i64 (c : Int)]) ∧ Below W.heap.size W w' := fun W => (callsIn_wide.1 (scan_in s0 hs W)).mono (by
      rintro e w' ⟨h1, h2⟩
      unfold ScV at h1
      rw [hb] at h1
      exact ⟨h1, h2⟩)
    have hne' : ¬ (er : Int) = 0 := by omega
    clear hb hne
    generalize ((i + 1 : Nat) : Int) = A at *
    generalize (er : Int) = B at *
    go_enter Tryd.func4, Tryd.ntmps4
    go_wp2_with (first | (go_at_call 9; (with_reducible refine (hP2 _).mono ?_); rintro e u1 ⟨rfl, hb1⟩) | (go_at_call 10; refine (alive_any _).mono ?_; rintro e u3 ⟨rfl, hb3⟩))
    go_ret
    exact ⟨rfl, bel2 hb1 hb3⟩
  | none =>
    have hP2 := fun W => scan_ok s0 hs hb W
    by_cases h8 : (s0.size : Int) > 8000
    · generalize fours 0 (linesOf s0) = L at *
      go_enter Tryd.func4, Tryd.ntmps4
      go_wp2_with (first | (go_at_call 9; (with_reducible refine (hP2 _).mono ?_); rintro e u1 ⟨⟨a1, c1, rfl, r1⟩, hb1⟩) | (go_at_call 10; refine (alive_any _).mono ?_; rintro e u3 ⟨rfl, hb3⟩))
      go_ret
      exact ⟨rfl, bel2 hb1 hb3⟩
    have hkk : (fours 0 (linesOf s0)).length ≤ 2 * (s0.size + 1) := by
      rw [fours_len]
      exact kk_pre (s := s0) (List.prefix_refl (linesOf s0))
    have hsh := fours_shp s0 hb
    have hle := shp_le _ _ hsh
    have hbt := blank_text _ _ hsh
    generalize fours 0 (linesOf s0) = L at *
    have hL : L.length ≤ 16002 := by omega
    have hsz : ∀ k, (bls (L.take k)).size ≤ 16002 * 8012 := fun k => by
      have h1 := bls_le (N := 8000) (L.take k) (fun q hq => by have := hle q (List.mem_of_mem_take hq); omega)
      have h2 : (L.take k).length ≤ 16002 := by rw [List.length_take]; omega
      exact Nat.le_trans h1 (Nat.mul_le_mul h2 (by omega))
    obtain ⟨n, hn⟩ : ∃ n, L.length = n := ⟨_, rfl⟩
    rw [hn] at hP2 hL
    have HT : Hid (badL (linesOf (bH ++ bls L)) = none ∧ L.map kt = (fours 0 (linesOf (bH ++ bls L))).map kt) := hbt
    clear hb hkk hsh hle hbt
    go_enter Tryd.func4, Tryd.ntmps4
    go_wp2_with (go_at_call 9; (with_reducible refine (hP2 _).mono ?_); rintro e u1 ⟨⟨a1, c1, rfl, r1⟩, hb1⟩)
    go_loopw [7, 8] (fun x c wz => ∃ k : Nat, x = .string (bH ++ bls (L.take k)) ∧ c = .int .i64 (k : Int) ∧ k ≤ n ∧ wz = u1) (fun x c _ => n - vnatQ c)
    case atStart => exact ⟨0, by rw [List.take_zero, bls, ByteArray.append_empty]; rfl, rfl, Nat.zero_le _, rfl⟩
    case round =>
      obtain ⟨k, rfl, rfl, hkn, rfl⟩ := hrel
      by_cases hkl : k < n
      · have hki : (k : Int) < (n : Int) := by omega
        obtain ⟨x, hx⟩ : ∃ x, L[k]? = some x := ⟨_, List.getElem?_eq_getElem (by omega)⟩
        have hne : L ≠ [] := fun e => by subst e; simp at hx
        obtain ⟨b, off, rfl, hgl, hat⟩ := r1 hne
        obtain ⟨d0, d1, _, _⟩ := hat k x hx
        have ht := take_bls L k x hx
        have hz0 := hsz k
        have hz1 := hsz (k + 1)
        rw [ht, ByteArray.size_append] at hz1
        have hi0 : 0 ≤ (k : Int) := by omega
        obtain ⟨T, hT⟩ : ∃ T, bH ++ bls (L.take k) = T := ⟨_, rfl⟩
        have hTz : T.size ≤ 12 + 16002 * 8012 := by rw [← hT, ByteArray.size_append]; have : bH.size = 12 := rfl; omega
        have HN : Hid (bH ++ bls (L.take (k + 1)) = T ++ pc x) := by show _ = _; rw [ht, ← hT, ByteArray.append_assoc]
        rw [hT]
        obtain ⟨x0, x1, x2, x3⟩ := x
        dsimp only at d0 d1
        clear hx hat ht hT hsz hP2 r1
        by_cases h1 : x0 = 1
        · subst h1
          clear hz1 hz0
          go_wp2
          go_roundw
          case rel => exact ⟨k + 1, by rw [HN.out]; rfl, by simp, by omega, trivial⟩
          case measure => simp [vnatQ]; omega
        · have hp : pc (x0, x1, x2, x3) = bA ++ x1 ++ bZ := by rw [pc, if_neg h1]
          have hx1 : x1.size ≤ 16002 * 8012 := by rw [hp, ByteArray.size_append, ByteArray.size_append] at hz1; omega
          clear hz1 hz0
          go_wp2
          go_roundw
          case rel => exact ⟨k + 1, by rw [HN.out, hp]; rfl, by simp, by omega, trivial⟩
          case measure => simp [vnatQ]; omega
      · have hkk : k = n := by omega
        subst hkk
        have hki : ¬ ((k : Int) < (k : Int)) := by omega
        have hT : L.take k = L := by rw [← hn]; exact List.take_length
        have hz := hsz k
        rw [hT] at hz ⊢
        obtain ⟨t, ht⟩ : ∃ t, bH ++ bls L = t := ⟨_, rfl⟩
        rw [ht] at HT ⊢
        have hTz : t.size ≤ 12 + 16002 * 8012 := by rw [← ht, ByteArray.size_append]; have : bH.size = 12 := rfl; omega
        clear hsz hz hT ht hP2
        by_cases hlt : (t.size : Int) > 65536
        · go_wp2_with (go_at_call 10; refine (alive_any _).mono ?_; rintro e u3 ⟨rfl, hb3⟩)
          go_ret
          exact ⟨rfl, bel2 hb1 hb3⟩
        · have hP3 := fun W => scan_ok t (by omega) HT.out.1 W
          have hkt := HT.out.2
          have hlen : (fours 0 (linesOf t)).length = k := by have := congrArg List.length hkt; simp only [List.length_map] at this; omega
          clear HT
          generalize fours 0 (linesOf t) = M at *
          rw [hlen] at hP3
          have HK : Hid (L.map kt = M.map kt) := hkt
          clear hkt hlen
          have HN : Hid (L.length = k) := hn
          clear hn
          go_wp2_with (first | (go_at_call 9; (with_reducible refine (hP3 _).mono ?_); rintro e u2 ⟨⟨a2, c2, rfl, r2⟩, hb2⟩) | (go_at_call 10; refine (alive_any _).mono ?_; rintro e u3 ⟨rfl, hb3⟩) | (go_at_call 12; refine (like_any a1 a2 c1 c2 k L M u3 ((r1.carry hb2).carry hb3) (r2.carry hb3) HN.out HK.out (by omega)).mono ?_; rintro e u4 ⟨rfl, hb4⟩))
          go_ret
          exact ⟨rfl, bel2 (bel2 (bel2 hb1 hb2) hb3) hb4⟩

set_option maxRecDepth 100000 in
theorem lifted (os : Os) (started : os.Started) (H : Type) (enc : TypeId × Value → H) :
    ReturnsInHanded {} Tryd.checked os 4 .any (fun w args => (Rows.wordBlanksSpec.pre enc Tryd.prog Tryd.f4 [] false w args ∧ laidMetH Tryd.prog Rows.wordBlanksRow.laid w) ∧ sizedMet enc Tryd.prog Tryd.f4 (OpenSpec.ofChange Rows.wordBlanksSpec) false w args)
      (Rows.wordBlanksSpec.post enc Tryd.prog Tryd.f4 false true false false) := by
  refine returnsInHanded_of_change_and (C := Tryd.checked) (X := fun w _ => laidMetH Tryd.prog Rows.wordBlanksRow.laid w) (fun _ _ _ hh h => h.of_heap hh) own started (by kernel_rfl) Tryd.func4
    (ChangeSpec.witness_shaped (enc := enc) (C := Tryd.checked) (os := os) (X := fun w _ => laidMetH Tryd.prog Rows.wordBlanksRow.laid w) false (World.laidAll Tryd.prog os Rows.wordBlanksRow.laid) #[.string ByteArray.empty] 8 (World.laidAll_os _ _ _)
      (World.shaped_of_ZipB (by kernel_rfl) (by kernel_rfl)) (by kernel_rfl) (by kernel_rfl) (by kernel_rfl)
      (by rw [MakeChecks.laidMetH_plain _ _ _ (by kernel_rfl)]; exact laidMet_laidAll _ (by kernel_rfl) (by kernel_rfl))) ?_
  intro W base args ds gs before hval0 hW _ hsz hL _
  have hval : ∀ (j : Nat) t v, Tryd.f4.params[j]? = some t → args[j]? = some v → Value.okWide Tryd.prog W .any base t v := hval0
  have hW' := hW
  obtain ⟨p, q, hA0, hV, rfl, hfz, hnd⟩ := hW
  have hA : DataW.TrodAll enc Tryd.prog W 0 (fun _ => true) true Tryd.f4.params.toList args.toList ds p := hA0
  rw [Tryd.params4] at hA hval
  obtain ⟨v0, vs0, d0, ds0, p0, q0, hargs, rfl, rfl, h0, r0⟩ := trodAll_cons hA
  obtain ⟨rfl, rfl, rfl⟩ := trodAll_nil r0
  obtain rfl : args = #[v0] := by cases args; simp_all
  obtain ⟨rfl, rfl⟩ := trodVars_none hV
  obtain ⟨s0, rfl, rfl, rfl, w0⟩ := open_string Tryd.underlying9 (hval 0 9 v0 rfl rfl) h0
  clear hA0 hval0
  simp only [List.append_nil] at hW'
  refine (walk s0 w0 W hL).mono fun e W' ⟨he, hg⟩ => ?_
  subst he
  exact ⟨_, rfl, _, _, _, [], _, [], hW', (trodAll_cons_mk (shut_bool Tryd.underlying4 _) trodAll_mk0), (trodAll_cons_mk (shut_string Tryd.underlying9 w0) trodAll_mk0), rfl, hg.frame _, fun h => by cases h⟩

theorem over : Rows.wordBlanksRow.holds Tryd.pinned (OpenSpec.ofChange Rows.wordBlanksSpec) :=
  OpenClaim.holds_of_wide 4 Tryd.f4 rfl rfl rfl rfl rfl rfl rfl ⟨rfl, rfl, rfl, rfl, rfl⟩ rfl rfl rfl rfl rfl (by kernel_rfl) Tryd.func4 (by kernel_rfl)
    (of_decide_eq_true (by kernel_rfl)) (by unfold Func.isWrapper; first | (rw [if_pos (by decide +kernel)]; kernel_rfl) | (rw [if_neg (by decide +kernel)]; exact ⟨rfl, rfl⟩))
    (fun os started H enc _ => lifted os started H enc)

theorem row_proved : Rows.WordBlanksSaid :=
  over
theorem proved : Rows.WordBlanksCardSaid :=
  Claim7.holds_tied_plain_at .later [] [.data, .pinned] true (true, "997cb61f626bbeca65f6e5b32c5c8ee889106521db348261eb31df427ee72416") false
    row_proved (fun _ h => by cases h) (by kernel_rfl) (fun _ h => by cases h) wordBlanks_row_tie rfl ⟨rfl, rfl⟩ (by kernel_rfl) rfl
    (fun f fn hf hfn => by
      obtain rfl : f = 4 := Option.some.inj ((show Tryd.prog.funcNamed "earshot/earshotlaw2.WordBlanks" = some 4 by kernel_rfl).symm.trans hf) |>.symm
      obtain rfl : fn = Tryd.f4 := (Option.some.inj (Tryd.func4.symm.trans hfn)).symm
      exact ⟨by kernel_rfl, fun j t ht => by
        rw [Tryd.params4] at ht
        rcases j with _ | j
        · have e : t = 9 := by simpa using ht.symm
          subst e
          exact (show Tryd.prog.wantsStandIn 9 = false by kernel_rfl)
        simp at ht⟩)
    (by kernel_rfl)
#print axioms proved
end Go.Proofs.YtibhljdiofglfaaDoor
