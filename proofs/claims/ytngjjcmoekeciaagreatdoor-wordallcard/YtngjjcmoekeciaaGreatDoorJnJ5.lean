/- The words of strings.Builder (WriteRune, String) at this program, out of the library: at every builder that the call itself has made. -/
import Derived.Shelf.Strings.BuilderK
import Derived.Shelf.Strings.BuilderRune
import Derived.Test.YtngjjcmoekeciaaGreatDoorProg
import Derived.Test.YtngjjcmoekeciaaGreatDoorJnJ1
import Derived.Test.YtngjjcmoekeciaaGreatDoorJnJ4
import Derived.BigCall
namespace Go.Proofs.YtngjjcmoekeciaaGreatDoor
open Go.Shelf Go.RowKit
def ren168 : Go.Shelf.Ren := ⟨fun | 168 => 115 | 240 => 126 | 242 => 127 | 276 => 133 | 278 => 134 | n => n, fun | 0 => 0 | 3 => 3 | 4 => 4 | 5 => 5 | 9 => 9 | 20 => 20 | 21 => 21 | 37 => 106 | 46 => 172 | 51 => 129 | 70 => 152 | 72 => 154 | 75 => 159 | 164 => 181 | 80 => 155 | n => n, fun | n => n⟩
theorem lays168 : Lays.n168 Tryz.prog ren168 := {
  mixed := by kernel_rfl
  f168 := Tryz.func115.trans (congrArg some (by kernel_rfl))
  f240 := Tryz.func126.trans (congrArg some (by kernel_rfl))
  f242 := Tryz.func127.trans (congrArg some (by kernel_rfl))
  f276 := Tryz.func133.trans (congrArg some (by kernel_rfl))
  f278 := Tryz.func134.trans (congrArg some (by kernel_rfl))
  t0 := Tryz.underlying0
  a0 := Tryz.isAgg0
  z0 := Tryz.sizeOf0
  v0 := Tryz.zeroValue0
  t3 := Tryz.underlying3
  a3 := Tryz.isAgg3
  z3 := Tryz.sizeOf3
  v3 := Tryz.zeroValue3
  t4 := Tryz.underlying4
  a4 := Tryz.isAgg4
  z4 := Tryz.sizeOf4
  v4 := Tryz.zeroValue4
  t5 := Tryz.underlying5
  a5 := Tryz.isAgg5
  z5 := Tryz.sizeOf5
  v5 := Tryz.zeroValue5
  t9 := Tryz.underlying9
  a9 := Tryz.isAgg9
  z9 := Tryz.sizeOf9
  v9 := Tryz.zeroValue9
  t20 := Tryz.underlying20
  a20 := Tryz.isAgg20
  z20 := Tryz.sizeOf20
  v20 := Tryz.zeroValue20
  t21 := Tryz.underlying21
  a21 := Tryz.isAgg21
  z21 := Tryz.sizeOf21
  v21 := Tryz.zeroValue21
  t37 := Tryz.underlying106
  a37 := Tryz.isAgg106
  z37 := Tryz.sizeOf106
  v37 := Tryz.zeroValue106
  t46 := Tryz.underlying172
  a46 := Tryz.isAgg172
  z46 := Tryz.sizeOf172
  v46 := Tryz.zeroValue172
  t51 := Tryz.underlying129
  a51 := Tryz.isAgg129
  z51 := Tryz.sizeOf129
  v51 := Tryz.zeroValue129
  t70 := Tryz.underlying152
  a70 := Tryz.isAgg152
  z70 := Tryz.sizeOf152
  v70 := Tryz.zeroValue152
  t72 := Tryz.underlying154
  a72 := Tryz.isAgg154
  z72 := Tryz.sizeOf154
  v72 := Tryz.zeroValue154
  t75 := Tryz.underlying159
  a75 := Tryz.isAgg159
  z75 := Tryz.sizeOf159
  v75 := Tryz.zeroValue159
  t164 := Tryz.underlying181
  a164 := Tryz.isAgg181
  z164 := Tryz.sizeOf181
  v164 := Tryz.zeroValue181 }
theorem extra168 : Builder.Extra Tryz.prog ren168 := {
  sizeBuilder := by kernel_rfl
  liesBuilder := by kernel_rfl
  t5 := Tryz.underlying5
  a5 := Tryz.isAgg5
  z5 := Tryz.sizeOf5
  v5 := Tryz.zeroValue5
  infoByte := by kernel_rfl
  cellsByte := by kernel_rfl
  sizeByte := by kernel_rfl
  neB5 := by decide }
def ren169 : Go.Shelf.Ren := ⟨fun | 169 => 110 | n => n, fun | 0 => 0 | 3 => 3 | 5 => 5 | 9 => 9 | 37 => 106 | 70 => 152 | 72 => 154 | 127 => 165 | n => n, fun | n => n⟩
theorem lays169 : Lays.n169 Tryz.prog ren169 := {
  mixed := by kernel_rfl
  f169 := Tryz.func110.trans (congrArg some (by kernel_rfl))
  t0 := Tryz.underlying0
  a0 := Tryz.isAgg0
  z0 := Tryz.sizeOf0
  v0 := Tryz.zeroValue0
  t3 := Tryz.underlying3
  a3 := Tryz.isAgg3
  z3 := Tryz.sizeOf3
  v3 := Tryz.zeroValue3
  t9 := Tryz.underlying9
  a9 := Tryz.isAgg9
  z9 := Tryz.sizeOf9
  v9 := Tryz.zeroValue9
  t37 := Tryz.underlying106
  a37 := Tryz.isAgg106
  z37 := Tryz.sizeOf106
  v37 := Tryz.zeroValue106
  t70 := Tryz.underlying152
  a70 := Tryz.isAgg152
  z70 := Tryz.sizeOf152
  v70 := Tryz.zeroValue152
  t72 := Tryz.underlying154
  a72 := Tryz.isAgg154
  z72 := Tryz.sizeOf154
  v72 := Tryz.zeroValue154
  t127 := Tryz.underlying165
  a127 := Tryz.isAgg165
  z127 := Tryz.sizeOf165
  v127 := Tryz.zeroValue165 }
theorem extra169 : Builder.Extra Tryz.prog ren169 := {
  sizeBuilder := by kernel_rfl
  liesBuilder := by kernel_rfl
  t5 := Tryz.underlying5
  a5 := Tryz.isAgg5
  z5 := Tryz.sizeOf5
  v5 := Tryz.zeroValue5
  infoByte := by kernel_rfl
  cellsByte := by kernel_rfl
  sizeByte := by kernel_rfl
  neB5 := by decide }
theorem writeRune_any (B b : Nat) (bs : List Value) (r : Int) (hr0 : -2147483648 ≤ r) (hr1 : r ≤ 2147483647) (w : World) (h : Lib.IsBuilderF 154 5 B b bs w) (hlen : bs.length + 4 ≤ 140737488355328) (hBw : B ≤ w.heap.size) :
    Calls Tryz.prog 115 #[.pointer (some ⟨b, 0, none⟩), .int .i32 r] w fun e w' => e = .returned (.tuple #[.int .i64 (Lib.runeCells r).length, .nilIface]) ∧ (Lib.BuilderAtF 154 5 B b (.pointer (some ⟨b, 0, none⟩)) (bs ++ Lib.runeCells r) w' ∧ Below B w w' ∧ Lib.OthersKept 5 (some b) w w') := Any.Builder_WriteRune_k lays168 extra168 B b bs r hr0 hr1 w h hlen hBw
theorem string_any (B b : Nat) (l : List UInt8) (w : World) (h : Lib.IsBuilderF 154 5 B b (Lib.byteCells l) w) (hBw : B ≤ w.heap.size) :
    Calls Tryz.prog 110 #[.pointer (some ⟨b, 0, none⟩)] w fun e w' => e = .returned (.string ⟨l.toArray⟩) ∧ (Lib.IsBuilderF 154 5 B b (Lib.byteCells l) w' ∧ Below B w w' ∧ Lib.OthersKept 5 (some b) w w') := Any.Builder_String_any_k lays169 extra169 B b l w h hBw
end Go.Proofs.YtngjjcmoekeciaaGreatDoor
namespace Go.Proofs.YtngjjcmoekeciaaGreatDoor
open Go.RowKit Go.Shelf

/-- What Leading answers: the bytes, the place, the error. -/
def leadR (s : ByteArray) : List UInt8 × Nat × Nat := if byt s 0 = 34 then lead s s.size 1 [] else ([], 0, 11)
def leadV (x : List UInt8 × Nat × Nat) : Value := .tuple #[.string ⟨x.1.toArray⟩, .int .i64 x.2.1, .int .i64 x.2.2]

theorem isPre_quote (s : ByteArray) : isPre s ⟨#[34]⟩ = decide (byt s 0 = 34) := by
  unfold isPre
  by_cases h : 0 < s.size
  · rw [decide_eq_true (show (⟨#[34]⟩ : ByteArray).size ≤ s.size from h), Bool.true_and, byt_get h]
    obtain ⟨⟨l⟩⟩ := s
    cases l with
    | nil => exact absurd h (by simp [ByteArray.size])
    | cons a l =>
      have e1 : ((⟨⟨a :: l⟩⟩ : ByteArray).extract 0 (⟨#[34]⟩ : ByteArray).size).toList = [a] := by
        rw [Lib.toList_data]
        simp [ByteArray.size]
      have e2 : (⟨#[34]⟩ : ByteArray).toList = [34] := by rw [Lib.toList_data]
      rw [e1, e2]
      show ([a] == [34]) = decide (a.toNat = 34)
      by_cases ha : a = 34
      · subst ha; rfl
      · have : ¬ a.toNat = 34 := fun h => ha (UInt8.toNat_inj.1 h)
        simp [ha, this]
  · rw [decide_eq_false (show ¬ (⟨#[34]⟩ : ByteArray).size ≤ s.size from h), Bool.false_and, byt_out h]
    rfl

theorem isb_at {T e : TypeId} {B b : Nat} {p : Value} {bs : List Value} {W W' : World} (h : Lib.BuilderAtF T e B b p bs W) (hb : Below W.heap.size W W') : Lib.BuilderAtF T e B b p bs W' := by
  have hlt := h.lt
  obtain ⟨h1, v, h2, ⟨h3, h4⟩, h5⟩ := h
  refine ⟨h1, v, (hb.block b hlt).trans h2, ⟨h3, ?_⟩, h5⟩
  rcases h4 with h4 | ⟨g, cap, cur, fz, q1, q2, q3, q4⟩
  · exact Or.inl h4
  · exact Or.inr ⟨g, cap, cur, fz, q1, q2, (hb.block g (Array.getElem?_eq_some_iff.1 q3).1).trans q3, q4⟩
theorem isb_below {T e : TypeId} {B b : Nat} {bs : List Value} {W W' : World} (h : Lib.IsBuilderF T e B b bs W) (hb : Below W.heap.size W W') : Lib.IsBuilderF T e B b bs W' :=
  h.elim (fun x => Or.inl (isb_at x hb)) (fun x => Or.inr (isb_at x hb))

theorem ctl_false {r : Int} (h : ctl r = false) : ¬ (r < 32 ∨ r = 127) := by
  unfold ctl at h
  exact of_decide_eq_false h

set_option maxHeartbeats 4000000 in
set_option maxRecDepth 1000000 in
theorem leading_any (s : ByteArray) (hs : s.size ≤ 4194304) (w : World) :
    Calls Tryz.prog 76 #[.string s] w fun e w' => e = .returned (leadV (leadR s)) ∧ Below w.heap.size w w' := by
  by_cases hq : byt s 0 = 34
  case neg =>
    have HP : Hid (isPre s ⟨#[34]⟩ = false) := by show isPre s ⟨#[34]⟩ = false; rw [isPre_quote]; exact decide_eq_false hq
    go_enter Tryz.func76, Tryz.ntmps76
    go_wp2_with (go_at_call 109; refine (prefix_any s ⟨#[34]⟩ (by unfold maxLen; omega) (by show (1 : Nat) ≤ maxLen; unfold maxLen; omega) _).mono ?_)
    rintro e w ⟨rfl, rfl⟩
    rw [HP.out]
    go_wp2
    go_ret3
    refine ⟨?_, Below.refl _ _⟩
    unfold leadR
    rw [if_neg hq]
    rfl
  case pos =>
    have hs0 : 0 < s.size := byt_in (by omega)
    have HL : Hid (leadR s = lead s s.size 1 []) := by show leadR s = lead s s.size 1 []; unfold leadR; rw [if_pos hq]
    have HP : Hid (isPre s ⟨#[34]⟩ = true) := by show isPre s ⟨#[34]⟩ = true; rw [isPre_quote]; exact decide_eq_true hq
    go_enter Tryz.func76, Tryz.ntmps76
    go_wp2_with (go_at_call 109; refine (prefix_any s ⟨#[34]⟩ (by unfold maxLen; omega) (by show (1 : Nat) ≤ maxLen; unfold maxLen; omega) _).mono ?_)
    rintro e w ⟨rfl, rfl⟩
    rw [HP.out]
    go_wp2
    go_loopw [6] (fun nx wz => ∃ (pos n f : Nat) (acc : List UInt8), nx = .int .i64 n ∧ n ≤ s.size ∧ s.size ≤ max pos n + f ∧ (∀ k, pos ≤ k → k < n → byt s k < 128) ∧ Hid (lead s f (max pos n) acc = lead s s.size 1 []) ∧ acc.length ≤ 4 * max pos n ∧ pos ≤ s.size ∧ Lib.IsBuilderF 154 5 w.heap.size w.heap.size (Lib.byteCells acc) wz ∧ wz.heap[w.heap.size + 1]? = some (.stringIter s pos) ∧ Below w.heap.size w wz) (fun _ wz => s.size - wz.iterPos (w.heap.size + 1))
    case atStart =>
      refine ⟨0, 1, s.size, [], rfl, by omega, by omega, ?_, (rfl : lead s s.size 1 [] = _), by simp, by omega, (Lib.IsBuilderF.of (Lib.fresh_isBuilder 154 5 w)).alloc _, ?_, ((Below.refl _ w).alloc (Nat.le_refl _) _).alloc (by simp) _⟩
      · intro k h1 h2
        obtain rfl : k = 0 := by omega
        omega
      · have := World.iter_heap (w.alloc (.cells #[.pointer none, .slice none 0 0] 154)) s 0
        simpa using this
    case round =>
      obtain ⟨pos, n, f, acc, rfl, hn, hfu, hasc, hld, hal, hps, hI, hit, hbw⟩ := hrel
      have hsz : w.heap.size + 1 < wr.heap.size := (Array.getElem?_eq_some_iff.1 hit).1
      by_cases hp : pos < s.size
      · have hnx : ∀ ty, (Instr.next (.pointer (some ⟨w.heap.size + 1, 0, none⟩)) true ty).run Tryz.prog wr = _ := fun ty => Lib.run_next_any_at wr (w.heap.size + 1) s pos ty hit hp
        have hwd := wd_pos s pos
        have hwl := wd_le s pos hp
        have hw4 := wd_le4 s pos
        have erw : (Utf8.decode s pos).1 = rn s pos := rfl
        have eww : (Utf8.decode s pos).2 = wd s pos := rfl
        rw [erw, eww] at hnx
        have hI2 := hI.iterAt hit (pos + wd s pos)
        have hit2 := Lib.iterAt_heap wr (w.heap.size + 1) s pos (pos + wd s pos) hit
        have hbw2 := Lib.below_iterAt hbw (k := w.heap.size + 1) (by omega) s (pos + wd s pos)
        have hsz2 : w.heap.size ≤ (wr.iterAt (w.heap.size + 1) s (pos + wd s pos)).heap.size := by rw [Lib.iterAt_size]; omega
        have hsz3 : wr.iterPos (w.heap.size + 1) = pos := by simp only [World.iterPos, hit]
        clear erw eww
        by_cases hin : pos < n
        · have hb := hasc pos (Nat.le_refl _) hin
          obtain ⟨h1, h2⟩ := one_byte s pos hp hb
          rw [h2] at hnx hI2 hit2 hbw2 hsz2
          have hasc2 := hasc
          clear hasc hI hbw
          have hini : (pos : Int) < (n : Int) := by omega
          have HL2 : Hid (max pos n = n) := by show max pos n = n; omega
          have HL3 : Hid (max (pos + 1) n = n) := by show max (pos + 1) n = n; omega
          have HA : Hid (∀ k, pos + 1 ≤ k → k < n → byt s k < 128) := fun k k1 k2 => hasc2 k (by omega) k2
          clear hasc2 hb h1 h2
          go_wp2
          go_roundw
          case rel =>
            refine ⟨pos + 1, n, f, acc, rfl, hn, ?_, HA.out, ?_, ?_, by omega, hI2, hit2, hbw2⟩
            · rw [HL3.out]; rw [HL2.out] at hfu; exact hfu
            · rw [HL3.out]; rw [HL2.out] at hld; exact hld
            · rw [HL3.out]; rw [HL2.out] at hal; exact hal
          case measure =>
            rw [hsz3]
            simp only [World.iterPos, hit2]
            omega
        · have hm : max pos n = pos := by omega
          rw [hm] at hfu hld hal
          obtain ⟨g, rfl⟩ : ∃ g, f = g + 1 := ⟨f - 1, by omega⟩
          have hini : ¬ (pos : Int) < (n : Int) := by omega
          have hlt := byt_lt s pos
          clear hasc hm
          by_cases c1 : byt s pos = 34
          · obtain ⟨h1, h2⟩ := one_byte s pos hp (by omega)
            have HR : Hid (leadR s = (acc, pos + 1, 0)) := by
              show leadR s = _
              rw [HL.out, ← hld.out, lead_quote s g pos acc hp c1]
            rw [h1, c1, h2] at hnx
            rw [h2] at hI2 hit2 hbw2 hsz2
            clear hld hI hbw
            go_wp2_with (go_at_call 110; refine (string_any w.heap.size w.heap.size acc _ hI2 hsz2).mono ?_)
            intro e W1 he1 _ b1 _
            subst he1
            go_wp2
            go_ret3
            rw [HR.out]
            exact ⟨rfl, hbw2.trans b1⟩
          by_cases c2 : byt s pos = 92
          · obtain ⟨h1, h2⟩ := one_byte s pos hp (by omega)
            rw [h1, c2, h2] at hnx
            rw [h2] at hI2 hit2 hbw2 hsz2
            have HX := esc_extract s pos (by omega)
            have hpi : (pos : Int) ≤ (s.size : Int) := by omega
            cases he : esc (fun k => byt s (pos + k)) with
            | none =>
              have HR : Hid (leadR s = ([], pos, 12)) := by
                show leadR s = _
                rw [HL.out, ← hld.out, lead_none s g pos acc hp c2 he]
              rw [he] at HX
              have HE : Hid (escR (byt (s.extract pos s.size)) = (ByteArray.empty, 0)) := escR_none HX
              clear hld hI hbw HX he
              go_wp2_with (go_at_call 111; refine (escape_any (s.extract pos s.size) _).mono ?_)
              intro e W1 he1 b1
              subst he1
              rw [HE.out]
              go_wp2
              go_ret3
              rw [HR.out]
              exact ⟨rfl, hbw2.trans (b1.mono hsz2)⟩
            | some x =>
              obtain ⟨l, k⟩ := x
              obtain ⟨k1, k2, k3, k4⟩ := esc_ok _ l k he
              have HR : Hid (lead s g (pos + k) (acc ++ l) = lead s s.size 1 []) := by
                show lead s g (pos + k) (acc ++ l) = _
                rw [← hld.out, lead_some s g pos acc l k hp c2 he]
              rw [he] at HX
              have HE : Hid (escR (byt (s.extract pos s.size)) = (⟨l.toArray⟩, k)) := escR_some HX
              have hk9 : pos + k ≤ s.size := by
                have := (k4 (k - 1) (by omega) (by omega)).1
                have := byt_in (s := s) (i := pos + (k - 1)) (by omega)
                omega
              have HA : Hid (∀ j, pos + 1 ≤ j → j < pos + k → byt s j < 128) := by
                intro j j1 j2
                have := (k4 (j - pos) (by omega) (by omega)).2
                rw [show pos + (j - pos) = j by omega] at this
                exact this
              have hll : (Lib.byteCells acc).length = acc.length := Lib.byteCells_length acc
              have hk0 : ((k : Int) == 0) = false := beq_eq_false_iff_ne.2 (by omega)
              clear hld hI hbw HX he k4
              go_wp2_with (go_at_call 111; refine (escape_any (s.extract pos s.size) _).mono ?_)
              intro e W1 he1 b1
              subst he1
              rw [HE.out]
              have hb3 := hbw2.trans (b1.mono hsz2)
              have hI3 := isb_below hI2 b1
              have hit3 := (b1.block (w.heap.size + 1) (by rw [Lib.iterAt_size]; exact hsz)).trans hit2
              have hsz4 : w.heap.size ≤ W1.heap.size := Nat.le_trans hsz2 b1.size
              go_wp2_with (go_at_call 112; refine (writeString_any w.heap.size w.heap.size _ ⟨l.toArray⟩ _ hI3 (by rw [hll]; show acc.length + l.length ≤ _; omega) hsz4).mono ?_)
              rintro e W2 ⟨he2, h1, b2, k2⟩
              subst he2
              go_wp2
              go_roundw
              case rel =>
                refine ⟨pos + 1, pos + k, g, acc ++ l, rfl, hk9, by omega, HA.out, ?_, by rw [List.length_append]; omega, by omega, ?_, k2.iter hit3 (by omega), hb3.trans b2⟩
                · rw [show max (pos + 1) (pos + k) = pos + k by omega]; exact HR
                · rw [Lib.byteCells_append]; exact Or.inr h1
              case measure =>
                rw [hsz3]
                simp only [World.iterPos, k2.iter hit3 (by omega)]
                omega
          have hrn : (rn s pos : Int) ≠ 34 ∧ (rn s pos : Int) ≠ 92 := by
            by_cases h8 : byt s pos < 128
            · have := (one_byte s pos hp h8).1
              omega
            · have := more_byte s pos hp (by omega)
              omega
          have hr34 : ((rn s pos : Int) == 34) = false := beq_eq_false_iff_ne.2 hrn.1
          have hr92 : ((rn s pos : Int) == 92) = false := beq_eq_false_iff_ne.2 hrn.2
          clear hrn
          by_cases hbad : ctl (rn s pos : Int) = true ∨ looseB s pos = true
          · have HR : Hid (leadR s = ([], pos, 10)) := by
              show leadR s = _
              rw [HL.out, ← hld.out, lead_bad s g pos acc hp c1 c2 hbad]
            clear hld hI hbw
            cases hc : ctl (rn s pos : Int) with
            | true =>
              clear hbad
              go_wp2_with (go_at_call 113; refine (isControl_any _ _).mono ?_; rintro e w9 ⟨rfl, rfl⟩; rw [hc])
              go_ret3
              rw [HR.out]
              exact ⟨rfl, hbw2⟩
            | false =>
              have hlo : looseB s pos = true := by
                rcases hbad with h | h
                · rw [hc] at h; cases h
                · exact h
              clear hbad
              go_wp2_with (first | (go_at_call 113; refine (isControl_any _ _).mono ?_; rintro e w9 ⟨rfl, rfl⟩; rw [hc]) | (go_at_call 114; refine (looseAt_any s pos hp (by unfold maxLen; omega) _).mono ?_; rintro e w9 ⟨rfl, rfl⟩; rw [hlo]))
              go_ret3
              rw [HR.out]
              exact ⟨rfl, hbw2⟩
          · have HR : Hid (lead s g (pos + wd s pos) (acc ++ (Utf8.encode (rn s pos : Int)).data.toList) = lead s s.size 1 []) := by
              show lead s g (pos + wd s pos) (acc ++ (Utf8.encode (rn s pos : Int)).data.toList) = _
              rw [← hld.out, lead_char s g pos acc hp c1 c2 hbad]
            have hc : ctl (rn s pos : Int) = false := by
              cases h : ctl (rn s pos : Int) with
              | false => rfl
              | true => exact absurd (Or.inl h) hbad
            have hlo : looseB s pos = false := by
              cases h : looseB s pos with
              | false => rfl
              | true => exact absurd (Or.inr h) hbad
            have hel : (Utf8.encode (rn s pos : Int)).data.toList.length ≤ 4 := by rw [enc_len]; exact (clen_pos _).2
            have HEL : Hid ((acc ++ (Utf8.encode (rn s pos : Int)).data.toList).length ≤ 4 * (pos + wd s pos)) := by
              show (acc ++ (Utf8.encode (rn s pos : Int)).data.toList).length ≤ 4 * (pos + wd s pos)
              rw [List.length_append]
              omega
            have hll : (Lib.byteCells acc).length = acc.length := Lib.byteCells_length acc
            have hr8 := rn_le s pos
            clear hld hI hbw hbad hel
            go_wp2_with (first | (go_at_call 113; refine (isControl_any _ _).mono ?_; rintro e w9 ⟨rfl, rfl⟩; rw [hc]) | (go_at_call 114; refine (looseAt_any s pos hp (by unfold maxLen; omega) _).mono ?_; rintro e w9 ⟨rfl, rfl⟩; rw [hlo]) | (go_at_call 115; refine (writeRune_any w.heap.size w.heap.size _ _ (by omega) (by omega) _ hI2 (by rw [hll]; omega) hsz2).mono ?_))
            rintro e W1 ⟨he1, h1, b1, k1⟩
            subst he1
            go_wp2
            go_roundw
            case rel =>
              refine ⟨pos + wd s pos, n, g, acc ++ (Utf8.encode (rn s pos : Int)).data.toList, rfl, hn, by omega, fun k q1 q2 => by omega, ?_, ?_, hwl, ?_, k1.iter hit2 (by omega), hbw2.trans b1⟩
              · rw [show max (pos + wd s pos) n = pos + wd s pos by omega]; exact HR
              · rw [show max (pos + wd s pos) n = pos + wd s pos by omega]; exact HEL.out
              · rw [← enc_same, Lib.byteCells_append, Lib.byteCells_encodeRune]; exact Or.inr h1
            case measure =>
              rw [hsz3]
              simp only [World.iterPos, k1.iter hit2 (by omega)]
              omega
      · have HR : Hid (leadR s = ([], s.size, 11)) := by
          show leadR s = _
          rw [HL.out, ← hld.out, lead_end s f _ acc (by omega)]
        have hnx : ∀ ty, (Instr.next (.pointer (some ⟨w.heap.size + 1, 0, none⟩)) true ty).run Tryz.prog wr = _ := fun ty => Lib.run_next_end_at wr (w.heap.size + 1) s pos ty hit hp
        clear hld hasc
        go_wp2
        go_ret3
        rw [HR.out]
        exact ⟨rfl, hbw⟩

end Go.Proofs.YtngjjcmoekeciaaGreatDoor
namespace Go.Proofs.YtngjjcmoekeciaaGreatDoor
open Go.RowKit Go.Shelf

theorem ext_chB (s : ByteArray) (p : Nat) : (s.extract p (p + wd s p)).data.toList = (s.data.toList.drop p).take (wd s p) := by
  rw [ByteArray.data_extract, Array.toList_extract]
  simp [List.extract]
theorem ba_len (T : ByteArray) : T.data.toList.length = T.size := by rw [Array.length_toList]; rfl
/-- What stands at a place within a quoted text: the bytes that it says, its length; or an error. -/
def pieceR (s : ByteArray) (p : Nat) : (List UInt8 × Nat) ⊕ Nat :=
  if byt s p = 92 then (match esc (fun k => byt s (p + k)) with | none => .inr 12 | some x => .inl x)
  else if ctl (rn s p : Int) = true ∨ looseB s p = true then .inr 10 else .inl ((Utf8.encode (rn s p : Int)).data.toList, wd s p)
/-- A list that can be read. -/
def RdP (l : List UInt8) (v : Value) (w' : World) : Prop := ∃ g cap, v = .slice (some ⟨g, 0, none⟩) l.length cap ∧ ∀ j u, (Lib.byteCells l)[j]? = some u → w'.cell? ((⟨g, 0, none⟩ : Addr).add j) = some u
theorem addr_add (g j : Nat) : (⟨g, 0, none⟩ : Addr).add j = ⟨g, j, none⟩ := by unfold Addr.add; split <;> simp_all
theorem rd_of {w' : World} {B : Nat} {v : Value} {l : List UInt8} (hl : 0 < l.length) (h : w'.ownsRow B 5 1 v l.length (Lib.byteCells l)) : RdP l v w' := by
  obtain ⟨ad, cap, rfl, hc⟩ := ownsRow_form h
  obtain ⟨g, rfl, _, _, _, hg⟩ := hc hl
  exact ⟨g, cap, rfl, fun j u hu => by rw [addr_add]; exact hg j u hu⟩
theorem esc_len (b : Nat → Nat) (l : List UInt8) (n : Nat) (h : esc b = some (l, n)) : 0 < l.length := by
  unfold esc at h
  repeat' split at h
  all_goals first | (cases h; done) | (cases h; simp; done) | skip
  all_goals
    rw [Option.map_eq_some_iff] at h
    obtain ⟨x, hx, he⟩ := h
    simp only [Prod.mk.injEq] at he
    obtain ⟨e1, e2⟩ := he
    rw [← e1, enc_len]
    exact (clen_pos _).1
def PieP (o : (List UInt8 × Nat) ⊕ Nat) (v : Value) (n e : Nat) (w' : World) : Prop :=
  match o with
  | .inr k => v = .slice none 0 0 ∧ n = 0 ∧ e = k
  | .inl x => n = x.2 ∧ e = 0 ∧ RdP x.1 v w'

theorem rd_bytes (W : World) (T : ByteArray) (cap : Nat) (fr : Nat × Nat) : RdP T.data.toList (.slice (some ⟨W.heap.size, 0, none⟩) T.size cap) ((W.alloc (.cells (bytesRow T cap) 5 fr)).drew) := by
  refine ⟨W.heap.size, cap, by rw [ba_len], fun j u hu => ?_⟩
  have hj : j < T.data.toList.length := by
    have := (List.getElem?_eq_some_iff.1 hu).1
    rwa [Lib.byteCells_length] at this
  have hj2 : j < T.data.size := by rwa [Array.length_toList] at hj
  have h1 := World.cell?_alloc_mark W (bytesRow T cap) 5 fr j
  rw [bytesRow_at T cap j hj2] at h1
  rw [addr_add]
  have h2 : (Lib.byteCells T.data.toList)[j]? = some (.int .u8 (T.data[j].toNat : Int)) := by
    simp only [Lib.byteCells, List.getElem?_map, Array.getElem?_toList, Array.getElem?_eq_getElem hj2, Option.map_some]
  rw [h2] at hu
  cases hu
  exact h1

theorem row_belowX {W W' : World} {B : Nat} {e : TypeId} {z : Nat} {v : Value} {n : Nat} {xs : List Value} (h : W.ownsRow B e z v n xs) (hb : Below W.heap.size W W') : W'.ownsRow B e z v n xs := by
  obtain ⟨h3, h4⟩ := h
  refine ⟨h3, ?_⟩
  rcases h4 with h4 | ⟨g, cap, cur, q1, q2, q3, q4⟩
  · exact Or.inl h4
  · exact Or.inr ⟨g, cap, cur, q1, q2, (hb.block g (Array.getElem?_eq_some_iff.1 q3).1).trans q3, q4⟩
theorem ownsRow_drew {w : World} {B : Nat} {e : TypeId} {z : Nat} {v : Value} {n : Nat} {xs : List Value} (h : w.ownsRow B e z v n xs) (k : Nat) : (w.drewN k).ownsRow B e z v n xs := h

set_option maxHeartbeats 4000000 in
set_option maxRecDepth 1000000 in
theorem refPiece_any (s : ByteArray) (hs : s.size ≤ 1048576) (p : Nat) (hp : p < s.size) (w : World) :
    Calls Tryz.prog 117 #[.string s, .int .i64 p] w fun e w' => ∃ v n k, e = .returned (.tuple #[v, .int .i64 (n : Nat), .int .i64 (k : Nat)]) ∧ PieP (pieceR s p) v n k w' ∧ Below w.heap.size w w' := by
  have hb := byt_get hp
  have hpi : (p : Int) < (s.size : Int) := by omega
  by_cases c1 : byt s p = 92
  · have hq : (s[p]'hp).toNat = 92 := by omega
    have HR : pieceR s p = (match esc (fun k => byt s (p + k)) with | none => .inr 12 | some x => .inl x) := by
      rw [pieceR, if_pos c1]
    have HE := refEscape_any s hs p hp
    clear hb c1
    cases ho : esc (fun k => byt s (p + k)) with
    | none =>
      rw [ho] at HE HR
      have H2 : Hid (pieceR s p = .inr 12) := HR
      clear HR
      go_enter Tryz.func117, Tryz.ntmps117
      go_wp2_with (go_at_call 128; refine (HE _).mono ?_; rintro e W1 ⟨v, n, rfl, ⟨rfl, rfl⟩, hbl⟩)
      go_ret3
      exact ⟨_, 0, 12, rfl, by rw [H2.out]; exact ⟨rfl, rfl, rfl⟩, hbl⟩
    | some x =>
      rw [ho] at HE HR
      have H2 : Hid (pieceR s p = .inl x) := HR
      clear HR
      obtain ⟨l, m⟩ := x
      have hm := (esc_ok _ l m ho).1
      have hl0 := esc_len _ l m ho
      have hx : ((m : Int) == 0) = false := beq_eq_false_iff_ne.2 (by omega)
      clear ho
      go_enter Tryz.func117, Tryz.ntmps117
      go_wp2_with (go_at_call 128; refine (HE _).mono ?_; rintro e W1 ⟨v, n, rfl, ⟨rfl, hrow⟩, hbl⟩)
      go_ret3
      exact ⟨_, _, 0, rfl, by rw [H2.out]; exact ⟨rfl, rfl, rd_of hl0 hrow⟩, hbl⟩
  · have hq : (((s[p]'hp).toNat : Int) == 92) = false := beq_eq_false_iff_ne.2 (by omega)
    have HA := at_any s (by omega) p hp
    have hwl := wd_le s p hp
    have hw0 := wd_pos s p
    have hr8 := rn_le s p
    by_cases hbad : ctl (rn s p : Int) = true ∨ looseB s p = true
    · have H2 : Hid (pieceR s p = .inr 10) := by show pieceR s p = _; rw [pieceR, if_neg c1, if_pos hbad]
      clear hb c1
      cases hL : looseB s p with
      | true =>
        rw [hL] at HA
        clear hbad
        go_enter Tryz.func117, Tryz.ntmps117
        go_wp2_with (go_at_call 78; refine (HA _).mono ?_; rintro e W1 ⟨rfl, nq, rfl⟩)
        go_ret3
        exact ⟨_, 0, 10, rfl, by rw [H2.out]; exact ⟨rfl, rfl, rfl⟩, below_drewN (Below.refl _ _) nq⟩
      | false =>
        rw [hL] at HA
        have hc : (rn s p : Int) < 32 ∨ (rn s p : Int) = 127 := by
          rcases hbad with h | h
          · exact of_decide_eq_true h
          · rw [hL] at h; cases h
        clear hbad
        rcases hc with hc | hc
        · go_enter Tryz.func117, Tryz.ntmps117
          go_wp2_with (go_at_call 78; refine (HA _).mono ?_; rintro e W1 ⟨rfl, nq, rfl⟩)
          go_ret3
          exact ⟨_, 0, 10, rfl, by rw [H2.out]; exact ⟨rfl, rfl, rfl⟩, below_drewN (Below.refl _ _) nq⟩
        · rw [hc] at HA
          go_enter Tryz.func117, Tryz.ntmps117
          go_wp2_with (go_at_call 78; refine (HA _).mono ?_; rintro e W1 ⟨rfl, nq, rfl⟩)
          go_ret3
          exact ⟨_, 0, 10, rfl, by rw [H2.out]; exact ⟨rfl, rfl, rfl⟩, below_drewN (Below.refl _ _) nq⟩
    · have H2 : Hid (pieceR s p = .inl ((Utf8.encode (rn s p : Int)).data.toList, wd s p)) := by show pieceR s p = _; rw [pieceR, if_neg c1, if_neg hbad]
      have hL : looseB s p = false := by
        cases h : looseB s p with
        | false => rfl
        | true => exact absurd (Or.inr h) hbad
      have hc : ¬ ((rn s p : Int) < 32 ∨ (rn s p : Int) = 127) := fun h => hbad (Or.inl (decide_eq_true h))
      have HX : Hid ((s.extract p (p + wd s p)).data.toList = (Utf8.encode (rn s p : Int)).data.toList) := (ext_chB s p).trans (char_bytes s p hp hL).symm
      have hc1 : ¬ (rn s p : Int) < 32 := fun h => hc (Or.inl h)
      have hc2 : ((rn s p : Int) == 127) = false := beq_eq_false_iff_ne.2 (fun h => hc (Or.inr h))
      have hez : (s.extract p (p + wd s p)).size = wd s p := by rw [ByteArray.size_extract]; omega
      rw [hL] at HA
      have hsl : (p : Int) + wd s p ≤ (s.size : Int) := by omega
      clear hbad hc hb c1
      generalize (Utf8.encode (rn s p : Int)).data.toList = L at H2 HX
      have hd := fun (W : World) (cap : Nat) (fr : Nat × Nat) => rd_bytes W (s.extract p (p + wd s p)) cap fr
      rw [hez, HX.out] at hd
      have HD : Hid (∀ (W : World) (cap : Nat) (fr : Nat × Nat), RdP L (.slice (some ⟨W.heap.size, 0, none⟩) (wd s p) cap) ((W.alloc (.cells (bytesRow (s.extract p (p + wd s p)) cap) 5 fr)).drew)) := hd
      clear hd
      have hcv := fun W : World => run_bytes_of_string (P := Tryz.prog) W 9 106 5 (s.extract p (p + wd s p)) Tryz.underlying9 Tryz.underlying106 Tryz.underlying5
      rw [hez] at hcv
      clear hL HX hez
      generalize wd s p = nn at *
      generalize rn s p = rr at *
      go_enter Tryz.func117, Tryz.ntmps117
      go_wp2_with (go_at_call 78; refine (HA _).mono ?_; rintro e W1 ⟨rfl, nq, rfl⟩; have hb1 := below_drewN (Below.refl w.heap.size w) nq; generalize w.drewN nq = W at *)
      go_ret3
      refine ⟨_, nn, 0, rfl, ?_, (hb1.alloc hb1.size _).trans ⟨rfl, rfl, rfl, Nat.le_refl _, fun _ _ => rfl⟩⟩
      rw [H2.out]
      exact ⟨rfl, rfl, HD.out W _ _⟩

theorem piece_ok (s : ByteArray) (f p : Nat) (acc l : List UInt8) (n : Nat) (hp : p < s.size) (h34 : byt s p ≠ 34) (h : pieceR s p = .inl (l, n)) :
    lead s (f + 1) p acc = lead s f (p + n) (acc ++ l) ∧ p + n ≤ s.size ∧ 1 ≤ n ∧ l.length ≤ 4 ∧ 0 < l.length := by
  unfold pieceR at h
  by_cases c1 : byt s p = 92
  · rw [if_pos c1] at h
    cases ho : esc (fun k => byt s (p + k)) with
    | none => rw [ho] at h; cases h
    | some x =>
      rw [ho] at h
      have e : x = (l, n) := Sum.inl.inj h
      subst e
      obtain ⟨k1, k2, k3, k4⟩ := esc_ok _ l n ho
      have := (k4 (n - 1) (by omega) (by omega)).1
      have := byt_in (s := s) (i := p + (n - 1)) (by omega)
      exact ⟨lead_some s f p acc l n hp c1 ho, by omega, by omega, k3, esc_len _ l n ho⟩
  · rw [if_neg c1] at h
    by_cases hb : ctl (rn s p : Int) = true ∨ looseB s p = true
    · rw [if_pos hb] at h; cases h
    · rw [if_neg hb] at h
      have e := Sum.inl.inj h
      simp only [Prod.mk.injEq] at e
      obtain ⟨e1, e2⟩ := e
      have h1 := lead_char s f p acc hp h34 c1 hb
      have h2 := wd_le s p hp
      have h3 := wd_pos s p
      have h4 : l.length = clen (code (rn s p : Int)) := by rw [← e1, enc_len]
      have h5 := clen_pos (code (rn s p : Int))
      rw [e1, e2] at h1
      exact ⟨h1, by omega, by omega, by omega, by omega⟩
theorem piece_err (s : ByteArray) (f p : Nat) (acc : List UInt8) (k : Nat) (hp : p < s.size) (h34 : byt s p ≠ 34) (h : pieceR s p = .inr k) : lead s (f + 1) p acc = ([], p, k) ∧ k ≠ 0 := by
  unfold pieceR at h
  by_cases c1 : byt s p = 92
  · rw [if_pos c1] at h
    cases ho : esc (fun k => byt s (p + k)) with
    | none =>
      rw [ho] at h
      cases h
      exact ⟨lead_none s f p acc hp c1 ho, by omega⟩
    | some x => rw [ho] at h; cases h
  · rw [if_neg c1] at h
    by_cases hb : ctl (rn s p : Int) = true ∨ looseB s p = true
    · rw [if_pos hb] at h
      cases h
      exact ⟨lead_bad s f p acc hp h34 c1 hb, by omega⟩
    · rw [if_neg hb] at h
      have hn : ∀ x : List UInt8 × Nat, (Sum.inl x : (List UInt8 × Nat) ⊕ Nat) = .inr k → False := fun x hx => by cases hx
      exact (hn _ h).elim

end Go.Proofs.YtngjjcmoekeciaaGreatDoor
