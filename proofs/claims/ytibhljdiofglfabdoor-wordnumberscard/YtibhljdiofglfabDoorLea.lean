/- What glyph.Leading and glyph.Unquote answer: at every text of at most 2^22 bytes. -/
import Derived.Test.YtibhljdiofglfabDoorEso
import Derived.Test.YtibhljdiofglfabDoorShlS
import Derived.Test.YtibhljdiofglfabDoorShl
import Derived.BigCall
namespace Go.Proofs.YtibhljdiofglfabDoor
open Go.RowKit Go.Shelf

/-- What Leading answers: the bytes, the place, the error. -/
def leadR (s : ByteArray) : List UInt8 × Nat × Nat := if byt s 0 = 34 then lead s s.size 1 [] else ([], 0, 11)
def leadV (x : List UInt8 × Nat × Nat) : Value := .tuple #[.string ⟨x.1.toArray⟩, .int .i64 x.2.1, .int .i64 x.2.2]

theorem isPre_quote (s : ByteArray) : isPre s ⟨#[34]⟩ = decide (byt s 0 = 34) := by
  unfold isPre
  by_cases h : 0 < s.size
  · rw [decide_eq_true (show (⟨#[34]⟩ : ByteArray).size ≤ s.size from h), Bool.true_and, byt_get h]
    obtain ⟨⟨l⟩⟩ := s
    cases l with
    | nil => exact absurd h (by simp [ByteArray.size])
    | cons a l =>
      have e1 : ((⟨⟨a :: l⟩⟩ : ByteArray).extract 0 (⟨#[34]⟩ : ByteArray).size).toList = [a] := by
        rw [Lib.toList_data]
        simp [ByteArray.size]
      have e2 : (⟨#[34]⟩ : ByteArray).toList = [34] := by rw [Lib.toList_data]
      rw [e1, e2]
      show ([a] == [34]) = decide (a.toNat = 34)
      by_cases ha : a = 34
      · subst ha; rfl
      · have : ¬ a.toNat = 34 := fun h => ha (UInt8.toNat_inj.1 h)
        simp [ha, this]
  · rw [decide_eq_false (show ¬ (⟨#[34]⟩ : ByteArray).size ≤ s.size from h), Bool.false_and, byt_out h]
    rfl

theorem isb_at {T e : TypeId} {B b : Nat} {p : Value} {bs : List Value} {W W' : World} (h : Lib.BuilderAtF T e B b p bs W) (hb : Below W.heap.size W W') : Lib.BuilderAtF T e B b p bs W' := by
  have hlt := h.lt
  obtain ⟨h1, v, h2, ⟨h3, h4⟩, h5⟩ := h
  refine ⟨h1, v, (hb.block b hlt).trans h2, ⟨h3, ?_⟩, h5⟩
  rcases h4 with h4 | ⟨g, cap, cur, fz, q1, q2, q3, q4⟩
  · exact Or.inl h4
  · exact Or.inr ⟨g, cap, cur, fz, q1, q2, (hb.block g (Array.getElem?_eq_some_iff.1 q3).1).trans q3, q4⟩
theorem isb_below {T e : TypeId} {B b : Nat} {bs : List Value} {W W' : World} (h : Lib.IsBuilderF T e B b bs W) (hb : Below W.heap.size W W') : Lib.IsBuilderF T e B b bs W' :=
  h.elim (fun x => Or.inl (isb_at x hb)) (fun x => Or.inr (isb_at x hb))

theorem ctl_false {r : Int} (h : ctl r = false) : ¬ (r < 32 ∨ r = 127) := by
  unfold ctl at h
  exact of_decide_eq_false h

set_option maxHeartbeats 4000000 in
set_option maxRecDepth 1000000 in
theorem leading_any (s : ByteArray) (hs : s.size ≤ 4194304) (w : World) :
    Calls Tryd.prog 27 #[.string s] w fun e w' => e = .returned (leadV (leadR s)) ∧ Below w.heap.size w w' := by
  by_cases hq : byt s 0 = 34
  case neg =>
    have HP : Hid (isPre s ⟨#[34]⟩ = false) := by show isPre s ⟨#[34]⟩ = false; rw [isPre_quote]; exact decide_eq_false hq
    go_enter Tryd.func27, Tryd.ntmps27
    go_wp2_with (go_at_call 31; refine (prefix_any s ⟨#[34]⟩ (by unfold maxLen; omega) (by show (1 : Nat) ≤ maxLen; unfold maxLen; omega) _).mono ?_)
    rintro e w ⟨rfl, rfl⟩
    rw [HP.out]
    go_wp2
    go_ret3
    refine ⟨?_, Below.refl _ _⟩
    unfold leadR
    rw [if_neg hq]
    rfl
  case pos =>
    have hs0 : 0 < s.size := byt_in (by omega)
    have HL : Hid (leadR s = lead s s.size 1 []) := by show leadR s = lead s s.size 1 []; unfold leadR; rw [if_pos hq]
    have HP : Hid (isPre s ⟨#[34]⟩ = true) := by show isPre s ⟨#[34]⟩ = true; rw [isPre_quote]; exact decide_eq_true hq
    go_enter Tryd.func27, Tryd.ntmps27
    go_wp2_with (go_at_call 31; refine (prefix_any s ⟨#[34]⟩ (by unfold maxLen; omega) (by show (1 : Nat) ≤ maxLen; unfold maxLen; omega) _).mono ?_)
    rintro e w ⟨rfl, rfl⟩
    rw [HP.out]
    go_wp2
    go_loopw [6] (fun nx wz => ∃ (pos n f : Nat) (acc : List UInt8), nx = .int .i64 n ∧ n ≤ s.size ∧ s.size ≤ max pos n + f ∧ (∀ k, pos ≤ k → k < n → byt s k < 128) ∧ Hid (lead s f (max pos n) acc = lead s s.size 1 []) ∧ acc.length ≤ 4 * max pos n ∧ pos ≤ s.size ∧ Lib.IsBuilderF 62 5 w.heap.size w.heap.size (Lib.byteCells acc) wz ∧ wz.heap[w.heap.size + 1]? = some (.stringIter s pos) ∧ Below w.heap.size w wz) (fun _ wz => s.size - wz.iterPos (w.heap.size + 1))
    case atStart =>
      refine ⟨0, 1, s.size, [], rfl, by omega, by omega, ?_, (rfl : lead s s.size 1 [] = _), by simp, by omega, (Lib.IsBuilderF.of (Lib.fresh_isBuilder 62 5 w)).alloc _, ?_, ((Below.refl _ w).alloc (Nat.le_refl _) _).alloc (by simp) _⟩
      · intro k h1 h2
        obtain rfl : k = 0 := by omega
        omega
      · have := World.iter_heap (w.alloc (.cells #[.pointer none, .slice none 0 0] 62)) s 0
        simpa using this
    case round =>
      obtain ⟨pos, n, f, acc, rfl, hn, hfu, hasc, hld, hal, hps, hI, hit, hbw⟩ := hrel
      have hsz : w.heap.size + 1 < wr.heap.size := (Array.getElem?_eq_some_iff.1 hit).1
      by_cases hp : pos < s.size
      · have hnx : ∀ ty, (Instr.next (.pointer (some ⟨w.heap.size + 1, 0, none⟩)) true ty).run Tryd.prog wr = _ := fun ty => Lib.run_next_any_at wr (w.heap.size + 1) s pos ty hit hp
        have hwd := wd_pos s pos
        have hwl := wd_le s pos hp
        have hw4 := wd_le4 s pos
        have erw : (Utf8.decode s pos).1 = rn s pos := rfl
        have eww : (Utf8.decode s pos).2 = wd s pos := rfl
        rw [erw, eww] at hnx
        have hI2 := hI.iterAt hit (pos + wd s pos)
        have hit2 := Lib.iterAt_heap wr (w.heap.size + 1) s pos (pos + wd s pos) hit
        have hbw2 := Lib.below_iterAt hbw (k := w.heap.size + 1) (by omega) s (pos + wd s pos)
        have hsz2 : w.heap.size ≤ (wr.iterAt (w.heap.size + 1) s (pos + wd s pos)).heap.size := by rw [Lib.iterAt_size]; omega
        have hsz3 : wr.iterPos (w.heap.size + 1) = pos := by simp only [World.iterPos, hit]
        clear erw eww
        by_cases hin : pos < n
        · have hb := hasc pos (Nat.le_refl _) hin
          obtain ⟨h1, h2⟩ := one_byte s pos hp hb
          rw [h2] at hnx hI2 hit2 hbw2 hsz2
          have hasc2 := hasc
          clear hasc hI hbw
          have hini : (pos : Int) < (n : Int) := by omega
          have HL2 : Hid (max pos n = n) := by show max pos n = n; omega
          have HL3 : Hid (max (pos + 1) n = n) := by show max (pos + 1) n = n; omega
          have HA : Hid (∀ k, pos + 1 ≤ k → k < n → byt s k < 128) := fun k k1 k2 => hasc2 k (by omega) k2
          clear hasc2 hb h1 h2
          go_wp2
          go_roundw
          case rel =>
            refine ⟨pos + 1, n, f, acc, rfl, hn, ?_, HA.out, ?_, ?_, by omega, hI2, hit2, hbw2⟩
            · rw [HL3.out]; rw [HL2.out] at hfu; exact hfu
            · rw [HL3.out]; rw [HL2.out] at hld; exact hld
            · rw [HL3.out]; rw [HL2.out] at hal; exact hal
          case measure =>
            rw [hsz3]
            simp only [World.iterPos, hit2]
            omega
        · have hm : max pos n = pos := by omega
          rw [hm] at hfu hld hal
          obtain ⟨g, rfl⟩ : ∃ g, f = g + 1 := ⟨f - 1, by omega⟩
          have hini : ¬ (pos : Int) < (n : Int) := by omega
          have hlt := byt_lt s pos
          clear hasc hm
          by_cases c1 : byt s pos = 34
          · obtain ⟨h1, h2⟩ := one_byte s pos hp (by omega)
            have HR : Hid (leadR s = (acc, pos + 1, 0)) := by
              show leadR s = _
              rw [HL.out, ← hld.out, lead_quote s g pos acc hp c1]
            rw [h1, c1, h2] at hnx
            rw [h2] at hI2 hit2 hbw2 hsz2
            clear hld hI hbw
            go_wp2_with (go_at_call 32; refine (string_any w.heap.size w.heap.size acc _ hI2 hsz2).mono ?_)
            intro e W1 he1 _ b1 _
            subst he1
            go_wp2
            go_ret3
            rw [HR.out]
            exact ⟨rfl, hbw2.trans b1⟩
          by_cases c2 : byt s pos = 92
          · obtain ⟨h1, h2⟩ := one_byte s pos hp (by omega)
            rw [h1, c2, h2] at hnx
            rw [h2] at hI2 hit2 hbw2 hsz2
            have HX := esc_extract s pos (by omega)
            have hpi : (pos : Int) ≤ (s.size : Int) := by omega
            cases he : esc (fun k => byt s (pos + k)) with
            | none =>
              have HR : Hid (leadR s = ([], pos, 12)) := by
                show leadR s = _
                rw [HL.out, ← hld.out, lead_none s g pos acc hp c2 he]
              rw [he] at HX
              have HE : Hid (escR (byt (s.extract pos s.size)) = (ByteArray.empty, 0)) := escR_none HX
              clear hld hI hbw HX he
              go_wp2_with (go_at_call 33; refine (escape_any (s.extract pos s.size) _).mono ?_)
              intro e W1 he1 b1
              subst he1
              rw [HE.out]
              go_wp2
              go_ret3
              rw [HR.out]
              exact ⟨rfl, hbw2.trans (b1.mono hsz2)⟩
            | some x =>
              obtain ⟨l, k⟩ := x
              obtain ⟨k1, k2, k3, k4⟩ := esc_ok _ l k he
              have HR : Hid (lead s g (pos + k) (acc ++ l) = lead s s.size 1 []) := by
                show lead s g (pos + k) (acc ++ l) = _
                rw [← hld.out, lead_some s g pos acc l k hp c2 he]
              rw [he] at HX
              have HE : Hid (escR (byt (s.extract pos s.size)) = (⟨l.toArray⟩, k)) := escR_some HX
              have hk9 : pos + k ≤ s.size := by
                have := (k4 (k - 1) (by omega) (by omega)).1
                have := byt_in (s := s) (i := pos + (k - 1)) (by omega)
                omega
              have HA : Hid (∀ j, pos + 1 ≤ j → j < pos + k → byt s j < 128) := by
                intro j j1 j2
                have := (k4 (j - pos) (by omega) (by omega)).2
                rw [show pos + (j - pos) = j by omega] at this
                exact this
              have hll : (Lib.byteCells acc).length = acc.length := Lib.byteCells_length acc
              have hk0 : ((k : Int) == 0) = false := beq_eq_false_iff_ne.2 (by omega)
              clear hld hI hbw HX he k4
              go_wp2_with (go_at_call 33; refine (escape_any (s.extract pos s.size) _).mono ?_)
              intro e W1 he1 b1
              subst he1
              rw [HE.out]
              have hb3 := hbw2.trans (b1.mono hsz2)
              have hI3 := isb_below hI2 b1
              have hit3 := (b1.block (w.heap.size + 1) (by rw [Lib.iterAt_size]; exact hsz)).trans hit2
              have hsz4 : w.heap.size ≤ W1.heap.size := Nat.le_trans hsz2 b1.size
              go_wp2_with (go_at_call 34; refine (writeString_any w.heap.size w.heap.size _ ⟨l.toArray⟩ _ hI3 (by rw [hll]; show acc.length + l.length ≤ _; omega) hsz4).mono ?_)
              rintro e W2 ⟨he2, h1, b2, k2⟩
              subst he2
              go_wp2
              go_roundw
              case rel =>
                refine ⟨pos + 1, pos + k, g, acc ++ l, rfl, hk9, by omega, HA.out, ?_, by rw [List.length_append]; omega, by omega, ?_, k2.iter hit3 (by omega), hb3.trans b2⟩
                · rw [show max (pos + 1) (pos + k) = pos + k by omega]; exact HR
                · rw [Lib.byteCells_append]; exact Or.inr h1
              case measure =>
                rw [hsz3]
                simp only [World.iterPos, k2.iter hit3 (by omega)]
                omega
          have hrn : (rn s pos : Int) ≠ 34 ∧ (rn s pos : Int) ≠ 92 := by
            by_cases h8 : byt s pos < 128
            · have := (one_byte s pos hp h8).1
              omega
            · have := more_byte s pos hp (by omega)
              omega
          have hr34 : ((rn s pos : Int) == 34) = false := beq_eq_false_iff_ne.2 hrn.1
          have hr92 : ((rn s pos : Int) == 92) = false := beq_eq_false_iff_ne.2 hrn.2
          clear hrn
          by_cases hbad : ctl (rn s pos : Int) = true ∨ looseB s pos = true
          · have HR : Hid (leadR s = ([], pos, 10)) := by
              show leadR s = _
              rw [HL.out, ← hld.out, lead_bad s g pos acc hp c1 c2 hbad]
            clear hld hI hbw
            cases hc : ctl (rn s pos : Int) with
            | true =>
              clear hbad
              go_wp2_with (go_at_call 35; refine (isControl_any _ _).mono ?_; rintro e w9 ⟨rfl, rfl⟩; rw [hc])
              go_ret3
              rw [HR.out]
              exact ⟨rfl, hbw2⟩
            | false =>
              have hlo : looseB s pos = true := by
                rcases hbad with h | h
                · rw [hc] at h; cases h
                · exact h
              clear hbad
              go_wp2_with (first | (go_at_call 35; refine (isControl_any _ _).mono ?_; rintro e w9 ⟨rfl, rfl⟩; rw [hc]) | (go_at_call 36; refine (looseAt_any s pos hp (by unfold maxLen; omega) _).mono ?_; rintro e w9 ⟨rfl, rfl⟩; rw [hlo]))
              go_ret3
              rw [HR.out]
              exact ⟨rfl, hbw2⟩
          · have HR : Hid (lead s g (pos + wd s pos) (acc ++ (Utf8.encode (rn s pos : Int)).data.toList) = lead s s.size 1 []) := by
              show lead s g (pos + wd s pos) (acc ++ (Utf8.encode (rn s pos : Int)).data.toList) = _
              rw [← hld.out, lead_char s g pos acc hp c1 c2 hbad]
            have hc : ctl (rn s pos : Int) = false := by
              cases h : ctl (rn s pos : Int) with
              | false => rfl
              | true => exact absurd (Or.inl h) hbad
            have hlo : looseB s pos = false := by
              cases h : looseB s pos with
              | false => rfl
              | true => exact absurd (Or.inr h) hbad
            have hel : (Utf8.encode (rn s pos : Int)).data.toList.length ≤ 4 := by rw [enc_len]; exact (clen_pos _).2
            have HEL : Hid ((acc ++ (Utf8.encode (rn s pos : Int)).data.toList).length ≤ 4 * (pos + wd s pos)) := by
              show (acc ++ (Utf8.encode (rn s pos : Int)).data.toList).length ≤ 4 * (pos + wd s pos)
              rw [List.length_append]
              omega
            have hll : (Lib.byteCells acc).length = acc.length := Lib.byteCells_length acc
            have hr8 := rn_le s pos
            clear hld hI hbw hbad hel
            go_wp2_with (first | (go_at_call 35; refine (isControl_any _ _).mono ?_; rintro e w9 ⟨rfl, rfl⟩; rw [hc]) | (go_at_call 36; refine (looseAt_any s pos hp (by unfold maxLen; omega) _).mono ?_; rintro e w9 ⟨rfl, rfl⟩; rw [hlo]) | (go_at_call 37; refine (writeRune_any w.heap.size w.heap.size _ _ (by omega) (by omega) _ hI2 (by rw [hll]; omega) hsz2).mono ?_))
            rintro e W1 ⟨he1, h1, b1, k1⟩
            subst he1
            go_wp2
            go_roundw
            case rel =>
              refine ⟨pos + wd s pos, n, g, acc ++ (Utf8.encode (rn s pos : Int)).data.toList, rfl, hn, by omega, fun k q1 q2 => by omega, ?_, ?_, hwl, ?_, k1.iter hit2 (by omega), hbw2.trans b1⟩
              · rw [show max (pos + wd s pos) n = pos + wd s pos by omega]; exact HR
              · rw [show max (pos + wd s pos) n = pos + wd s pos by omega]; exact HEL.out
              · rw [← enc_same, Lib.byteCells_append, Lib.byteCells_encodeRune]; exact Or.inr h1
            case measure =>
              rw [hsz3]
              simp only [World.iterPos, k1.iter hit2 (by omega)]
              omega
      · have HR : Hid (leadR s = ([], s.size, 11)) := by
          show leadR s = _
          rw [HL.out, ← hld.out, lead_end s f _ acc (by omega)]
        have hnx : ∀ ty, (Instr.next (.pointer (some ⟨w.heap.size + 1, 0, none⟩)) true ty).run Tryd.prog wr = _ := fun ty => Lib.run_next_end_at wr (w.heap.size + 1) s pos ty hit hp
        clear hld hasc
        go_wp2
        go_ret3
        rw [HR.out]
        exact ⟨rfl, hbw⟩

end Go.Proofs.YtibhljdiofglfabDoor
