/- The word WriteString of strings.Builder at this program, out of the library. -/
import Derived.Shelf.Strings.BuilderK
import Derived.Test.YtnkpohkodkjkfaaGreatDoorProg
import Derived.Shelf.Strings.BuilderRune
import Derived.Test.YtnkpohkodkjkfaaGreatDoorJpJ5
import Derived.BigCall
set_option maxHeartbeats 40000000
set_option maxRecDepth 100000
set_option linter.unusedVariables false
namespace Go.Proofs.YtnkpohkodkjkfaaGreatDoor
open Go.Shelf Go.RowKit
def ren166 : Go.Shelf.Ren := ⟨fun | 166 => 88 | 240 => 100 | 276 => 125 | n => n, fun | 0 => 0 | 3 => 3 | 4 => 4 | 9 => 9 | 20 => 20 | 37 => 47 | 70 => 133 | 72 => 135 | 75 => 140 | 164 => 183 | 5 => 5 | 80 => 143 | n => n, fun | n => n⟩
theorem lays166 : Lays.n166 Tryz.prog ren166 := {
  mixed := by kernel_rfl
  f166 := Tryz.func88.trans (congrArg some (by kernel_rfl))
  f240 := Tryz.func100.trans (congrArg some (by kernel_rfl))
  f276 := Tryz.func125.trans (congrArg some (by kernel_rfl))
  t0 := Tryz.underlying0
  a0 := Tryz.isAgg0
  z0 := Tryz.sizeOf0
  v0 := Tryz.zeroValue0
  t3 := Tryz.underlying3
  a3 := Tryz.isAgg3
  z3 := Tryz.sizeOf3
  v3 := Tryz.zeroValue3
  t4 := Tryz.underlying4
  a4 := Tryz.isAgg4
  z4 := Tryz.sizeOf4
  v4 := Tryz.zeroValue4
  t9 := Tryz.underlying9
  a9 := Tryz.isAgg9
  z9 := Tryz.sizeOf9
  v9 := Tryz.zeroValue9
  t20 := Tryz.underlying20
  a20 := Tryz.isAgg20
  z20 := Tryz.sizeOf20
  v20 := Tryz.zeroValue20
  t37 := Tryz.underlying47
  a37 := Tryz.isAgg47
  z37 := Tryz.sizeOf47
  v37 := Tryz.zeroValue47
  t70 := Tryz.underlying133
  a70 := Tryz.isAgg133
  z70 := Tryz.sizeOf133
  v70 := Tryz.zeroValue133
  t72 := Tryz.underlying135
  a72 := Tryz.isAgg135
  z72 := Tryz.sizeOf135
  v72 := Tryz.zeroValue135
  t75 := Tryz.underlying140
  a75 := Tryz.isAgg140
  z75 := Tryz.sizeOf140
  v75 := Tryz.zeroValue140
  t164 := Tryz.underlying183
  a164 := Tryz.isAgg183
  z164 := Tryz.sizeOf183
  v164 := Tryz.zeroValue183 }
theorem extra166 : Builder.Extra Tryz.prog ren166 := {
  sizeBuilder := by kernel_rfl
  liesBuilder := by kernel_rfl
  t5 := Tryz.underlying5
  a5 := Tryz.isAgg5
  z5 := Tryz.sizeOf5
  v5 := Tryz.zeroValue5
  infoByte := by kernel_rfl
  cellsByte := by kernel_rfl
  sizeByte := by kernel_rfl
  neB5 := by decide }
theorem writeString_any (B b : Nat) (bs : List Value) (s : ByteArray) (w : World) (h : Lib.IsBuilderF 135 5 B b bs w) (hlen : bs.length + s.size ≤ 140737488355328) (hBw : B ≤ w.heap.size) :
    Calls Tryz.prog 88 #[.pointer (some ⟨b, 0, none⟩), .string s] w fun e w' => e = .returned (.tuple #[.int .i64 s.size, .nilIface]) ∧ (Lib.BuilderAtF 135 5 B b (.pointer (some ⟨b, 0, none⟩)) (bs ++ Lib.strCells s) w' ∧ Below B w w' ∧ Lib.OthersKept 5 (some b) w w') := Any.Builder_WriteString_k lays166 extra166 B b bs s w h hlen hBw
def ren168 : Go.Shelf.Ren := ⟨fun | 168 => 77 | 240 => 100 | 242 => 101 | 276 => 125 | 278 => 126 | n => n, fun | 0 => 0 | 3 => 3 | 4 => 4 | 5 => 5 | 9 => 9 | 20 => 20 | 21 => 21 | 37 => 47 | 46 => 173 | 51 => 22 | 70 => 133 | 72 => 135 | 75 => 140 | 164 => 183 | 80 => 143 | n => n, fun | n => n⟩
theorem lays168 : Lays.n168 Tryz.prog ren168 := {
  mixed := by kernel_rfl
  f168 := Tryz.func77.trans (congrArg some (by kernel_rfl))
  f240 := Tryz.func100.trans (congrArg some (by kernel_rfl))
  f242 := Tryz.func101.trans (congrArg some (by kernel_rfl))
  f276 := Tryz.func125.trans (congrArg some (by kernel_rfl))
  f278 := Tryz.func126.trans (congrArg some (by kernel_rfl))
  t0 := Tryz.underlying0
  a0 := Tryz.isAgg0
  z0 := Tryz.sizeOf0
  v0 := Tryz.zeroValue0
  t3 := Tryz.underlying3
  a3 := Tryz.isAgg3
  z3 := Tryz.sizeOf3
  v3 := Tryz.zeroValue3
  t4 := Tryz.underlying4
  a4 := Tryz.isAgg4
  z4 := Tryz.sizeOf4
  v4 := Tryz.zeroValue4
  t5 := Tryz.underlying5
  a5 := Tryz.isAgg5
  z5 := Tryz.sizeOf5
  v5 := Tryz.zeroValue5
  t9 := Tryz.underlying9
  a9 := Tryz.isAgg9
  z9 := Tryz.sizeOf9
  v9 := Tryz.zeroValue9
  t20 := Tryz.underlying20
  a20 := Tryz.isAgg20
  z20 := Tryz.sizeOf20
  v20 := Tryz.zeroValue20
  t21 := Tryz.underlying21
  a21 := Tryz.isAgg21
  z21 := Tryz.sizeOf21
  v21 := Tryz.zeroValue21
  t37 := Tryz.underlying47
  a37 := Tryz.isAgg47
  z37 := Tryz.sizeOf47
  v37 := Tryz.zeroValue47
  t46 := Tryz.underlying173
  a46 := Tryz.isAgg173
  z46 := Tryz.sizeOf173
  v46 := Tryz.zeroValue173
  t51 := Tryz.underlying22
  a51 := Tryz.isAgg22
  z51 := Tryz.sizeOf22
  v51 := Tryz.zeroValue22
  t70 := Tryz.underlying133
  a70 := Tryz.isAgg133
  z70 := Tryz.sizeOf133
  v70 := Tryz.zeroValue133
  t72 := Tryz.underlying135
  a72 := Tryz.isAgg135
  z72 := Tryz.sizeOf135
  v72 := Tryz.zeroValue135
  t75 := Tryz.underlying140
  a75 := Tryz.isAgg140
  z75 := Tryz.sizeOf140
  v75 := Tryz.zeroValue140
  t164 := Tryz.underlying183
  a164 := Tryz.isAgg183
  z164 := Tryz.sizeOf183
  v164 := Tryz.zeroValue183 }
theorem extra168 : Builder.Extra Tryz.prog ren168 := {
  sizeBuilder := by kernel_rfl
  liesBuilder := by kernel_rfl
  t5 := Tryz.underlying5
  a5 := Tryz.isAgg5
  z5 := Tryz.sizeOf5
  v5 := Tryz.zeroValue5
  infoByte := by kernel_rfl
  cellsByte := by kernel_rfl
  sizeByte := by kernel_rfl
  neB5 := by decide }
def ren169 : Go.Shelf.Ren := ⟨fun | 169 => 78 | n => n, fun | 0 => 0 | 3 => 3 | 5 => 5 | 9 => 9 | 37 => 47 | 70 => 133 | 72 => 135 | 127 => 155 | n => n, fun | n => n⟩
theorem lays169 : Lays.n169 Tryz.prog ren169 := {
  mixed := by kernel_rfl
  f169 := Tryz.func78.trans (congrArg some (by kernel_rfl))
  t0 := Tryz.underlying0
  a0 := Tryz.isAgg0
  z0 := Tryz.sizeOf0
  v0 := Tryz.zeroValue0
  t3 := Tryz.underlying3
  a3 := Tryz.isAgg3
  z3 := Tryz.sizeOf3
  v3 := Tryz.zeroValue3
  t9 := Tryz.underlying9
  a9 := Tryz.isAgg9
  z9 := Tryz.sizeOf9
  v9 := Tryz.zeroValue9
  t37 := Tryz.underlying47
  a37 := Tryz.isAgg47
  z37 := Tryz.sizeOf47
  v37 := Tryz.zeroValue47
  t70 := Tryz.underlying133
  a70 := Tryz.isAgg133
  z70 := Tryz.sizeOf133
  v70 := Tryz.zeroValue133
  t72 := Tryz.underlying135
  a72 := Tryz.isAgg135
  z72 := Tryz.sizeOf135
  v72 := Tryz.zeroValue135
  t127 := Tryz.underlying155
  a127 := Tryz.isAgg155
  z127 := Tryz.sizeOf155
  v127 := Tryz.zeroValue155 }
theorem extra169 : Builder.Extra Tryz.prog ren169 := {
  sizeBuilder := by kernel_rfl
  liesBuilder := by kernel_rfl
  t5 := Tryz.underlying5
  a5 := Tryz.isAgg5
  z5 := Tryz.sizeOf5
  v5 := Tryz.zeroValue5
  infoByte := by kernel_rfl
  cellsByte := by kernel_rfl
  sizeByte := by kernel_rfl
  neB5 := by decide }
theorem writeRune_any (B b : Nat) (bs : List Value) (r : Int) (hr0 : -2147483648 ≤ r) (hr1 : r ≤ 2147483647) (w : World) (h : Lib.IsBuilderF 135 5 B b bs w) (hlen : bs.length + 4 ≤ 140737488355328) (hBw : B ≤ w.heap.size) :
    Calls Tryz.prog 77 #[.pointer (some ⟨b, 0, none⟩), .int .i32 r] w fun e w' => e = .returned (.tuple #[.int .i64 (Lib.runeCells r).length, .nilIface]) ∧ (Lib.BuilderAtF 135 5 B b (.pointer (some ⟨b, 0, none⟩)) (bs ++ Lib.runeCells r) w' ∧ Below B w w' ∧ Lib.OthersKept 5 (some b) w w') := Any.Builder_WriteRune_k lays168 extra168 B b bs r hr0 hr1 w h hlen hBw
theorem string_any (B b : Nat) (l : List UInt8) (w : World) (h : Lib.IsBuilderF 135 5 B b (Lib.byteCells l) w) (hBw : B ≤ w.heap.size) :
    Calls Tryz.prog 78 #[.pointer (some ⟨b, 0, none⟩)] w fun e w' => e = .returned (.string ⟨l.toArray⟩) ∧ (Lib.IsBuilderF 135 5 B b (Lib.byteCells l) w' ∧ Below B w w' ∧ Lib.OthersKept 5 (some b) w w') := Any.Builder_String_any_k lays169 extra169 B b l w h hBw
end Go.Proofs.YtnkpohkodkjkfaaGreatDoor
namespace Go.Proofs.YtnkpohkodkjkfaaGreatDoor
open Go.RowKit Go.Shelf

/-- What Leading answers: the bytes, the place, the error. -/
def leadR (s : ByteArray) : List UInt8 × Nat × Nat := if byt s 0 = 34 then lead s s.size 1 [] else ([], 0, 11)
def leadV (x : List UInt8 × Nat × Nat) : Value := .tuple #[.string ⟨x.1.toArray⟩, .int .i64 x.2.1, .int .i64 x.2.2]

theorem isPre_quote (s : ByteArray) : isPre s ⟨#[34]⟩ = decide (byt s 0 = 34) := by
  unfold isPre
  by_cases h : 0 < s.size
  · rw [decide_eq_true (show (⟨#[34]⟩ : ByteArray).size ≤ s.size from h), Bool.true_and, byt_get h]
    obtain ⟨⟨l⟩⟩ := s
    cases l with
    | nil => exact absurd h (by simp [ByteArray.size])
    | cons a l =>
      have e1 : ((⟨⟨a :: l⟩⟩ : ByteArray).extract 0 (⟨#[34]⟩ : ByteArray).size).toList = [a] := by
        rw [Lib.toList_data]
        simp [ByteArray.size]
      have e2 : (⟨#[34]⟩ : ByteArray).toList = [34] := by rw [Lib.toList_data]
      rw [e1, e2]
      show ([a] == [34]) = decide (a.toNat = 34)
      by_cases ha : a = 34
      · subst ha; rfl
      · have : ¬ a.toNat = 34 := fun h => ha (UInt8.toNat_inj.1 h)
        simp [ha, this]
  · rw [decide_eq_false (show ¬ (⟨#[34]⟩ : ByteArray).size ≤ s.size from h), Bool.false_and, byt_out h]
    rfl

theorem isb_at {T e : TypeId} {B b : Nat} {p : Value} {bs : List Value} {W W' : World} (h : Lib.BuilderAtF T e B b p bs W) (hb : Below W.heap.size W W') : Lib.BuilderAtF T e B b p bs W' := by
  have hlt := h.lt
  obtain ⟨h1, v, h2, ⟨h3, h4⟩, h5⟩ := h
  refine ⟨h1, v, (hb.block b hlt).trans h2, ⟨h3, ?_⟩, h5⟩
  rcases h4 with h4 | ⟨g, cap, cur, fz, q1, q2, q3, q4⟩
  · exact Or.inl h4
  · exact Or.inr ⟨g, cap, cur, fz, q1, q2, (hb.block g (Array.getElem?_eq_some_iff.1 q3).1).trans q3, q4⟩
theorem isb_below {T e : TypeId} {B b : Nat} {bs : List Value} {W W' : World} (h : Lib.IsBuilderF T e B b bs W) (hb : Below W.heap.size W W') : Lib.IsBuilderF T e B b bs W' :=
  h.elim (fun x => Or.inl (isb_at x hb)) (fun x => Or.inr (isb_at x hb))

set_option maxHeartbeats 4000000 in
set_option maxRecDepth 1000000 in
theorem leading_any (s : ByteArray) (hs : s.size ≤ 4194304) (w : World) :
    Calls Tryz.prog 59 #[.string s] w fun e w' => e = .returned (leadV (leadR s)) ∧ Below w.heap.size w w' := by
  by_cases hq : byt s 0 = 34
  case neg =>
    have HP : Hid (isPre s ⟨#[34]⟩ = false) := by show isPre s ⟨#[34]⟩ = false; rw [isPre_quote]; exact decide_eq_false hq
    go_enter Tryz.func59, Tryz.ntmps59
    go_wp2_with (go_at_call 86; refine (prefix_any s ⟨#[34]⟩ (by unfold maxLen; omega) (by show (1 : Nat) ≤ maxLen; unfold maxLen; omega) _).mono ?_)
    rintro e w ⟨rfl, rfl⟩
    rw [HP.out]
    go_wp2
    go_ret3
    refine ⟨?_, Below.refl _ _⟩
    unfold leadR
    rw [if_neg hq]
    rfl
  case pos =>
    have hs0 : 0 < s.size := byt_in (by omega)
    have HL : Hid (leadR s = lead s s.size 1 []) := by show leadR s = lead s s.size 1 []; unfold leadR; rw [if_pos hq]
    have HP : Hid (isPre s ⟨#[34]⟩ = true) := by show isPre s ⟨#[34]⟩ = true; rw [isPre_quote]; exact decide_eq_true hq
    go_enter Tryz.func59, Tryz.ntmps59
    go_wp2_with (go_at_call 86; refine (prefix_any s ⟨#[34]⟩ (by unfold maxLen; omega) (by show (1 : Nat) ≤ maxLen; unfold maxLen; omega) _).mono ?_)
    rintro e w ⟨rfl, rfl⟩
    rw [HP.out]
    go_wp2
    go_loopw [6] (fun nx wz => ∃ (pos n f : Nat) (acc : List UInt8), nx = .int .i64 n ∧ n ≤ s.size ∧ s.size ≤ max pos n + f ∧ (∀ k, pos ≤ k → k < n → byt s k < 128) ∧ Hid (lead s f (max pos n) acc = lead s s.size 1 []) ∧ acc.length ≤ 4 * max pos n ∧ pos ≤ s.size ∧ Lib.IsBuilderF 135 5 w.heap.size w.heap.size (Lib.byteCells acc) wz ∧ wz.heap[w.heap.size + 1]? = some (.stringIter s pos) ∧ Below w.heap.size w wz) (fun _ wz => s.size - wz.iterPos (w.heap.size + 1))
    case atStart =>
      refine ⟨0, 1, s.size, [], rfl, by omega, by omega, ?_, (rfl : lead s s.size 1 [] = _), by simp, by omega, (Lib.IsBuilderF.of (Lib.fresh_isBuilder 135 5 w)).alloc _, ?_, ((Below.refl _ w).alloc (Nat.le_refl _) _).alloc (by simp) _⟩
      · intro k h1 h2
        obtain rfl : k = 0 := by omega
        omega
      · have := World.iter_heap (w.alloc (.cells #[.pointer none, .slice none 0 0] 135)) s 0
        simpa using this
    case round =>
      obtain ⟨pos, n, f, acc, rfl, hn, hfu, hasc, hld, hal, hps, hI, hit, hbw⟩ := hrel
      have hsz : w.heap.size + 1 < wr.heap.size := (Array.getElem?_eq_some_iff.1 hit).1
      by_cases hp : pos < s.size
      · have hnx : ∀ ty, (Instr.next (.pointer (some ⟨w.heap.size + 1, 0, none⟩)) true ty).run Tryz.prog wr = _ := fun ty => Lib.run_next_any_at wr (w.heap.size + 1) s pos ty hit hp
        have hwd := wdt_pos s pos
        have hwl := wdt_le s pos hp
        have hw4 := wdt_le4 s pos
        have erw : (Utf8.decode s pos).1 = rn s pos := rfl
        have eww : (Utf8.decode s pos).2 = wdt s pos := rfl
        rw [erw, eww] at hnx
        have hI2 := hI.iterAt hit (pos + wdt s pos)
        have hit2 := Lib.iterAt_heap wr (w.heap.size + 1) s pos (pos + wdt s pos) hit
        have hbw2 := Lib.below_iterAt hbw (k := w.heap.size + 1) (by omega) s (pos + wdt s pos)
        have hsz2 : w.heap.size ≤ (wr.iterAt (w.heap.size + 1) s (pos + wdt s pos)).heap.size := by rw [Lib.iterAt_size]; omega
        have hsz3 : wr.iterPos (w.heap.size + 1) = pos := by simp only [World.iterPos, hit]
        clear erw eww
        by_cases hin : pos < n
        · have hb := hasc pos (Nat.le_refl _) hin
          obtain ⟨h1, h2⟩ := one_byte s pos hp hb
          rw [h2] at hnx hI2 hit2 hbw2 hsz2
          have hasc2 := hasc
          clear hasc hI hbw
          have hini : (pos : Int) < (n : Int) := by omega
          have HL2 : Hid (max pos n = n) := by show max pos n = n; omega
          have HL3 : Hid (max (pos + 1) n = n) := by show max (pos + 1) n = n; omega
          have HA : Hid (∀ k, pos + 1 ≤ k → k < n → byt s k < 128) := fun k k1 k2 => hasc2 k (by omega) k2
          clear hasc2 hb h1 h2
          go_wp2
          go_roundw
          case rel =>
            refine ⟨pos + 1, n, f, acc, rfl, hn, ?_, HA.out, ?_, ?_, by omega, hI2, hit2, hbw2⟩
            · rw [HL3.out]; rw [HL2.out] at hfu; exact hfu
            · rw [HL3.out]; rw [HL2.out] at hld; exact hld
            · rw [HL3.out]; rw [HL2.out] at hal; exact hal
          case measure =>
            rw [hsz3]
            simp only [World.iterPos, hit2]
            omega
        · have hm : max pos n = pos := by omega
          rw [hm] at hfu hld hal
          obtain ⟨g, rfl⟩ : ∃ g, f = g + 1 := ⟨f - 1, by omega⟩
          have hini : ¬ (pos : Int) < (n : Int) := by omega
          have hlt := byt_lt s pos
          clear hasc hm
          by_cases c1 : byt s pos = 34
          · obtain ⟨h1, h2⟩ := one_byte s pos hp (by omega)
            have HR : Hid (leadR s = (acc, pos + 1, 0)) := by
              show leadR s = _
              rw [HL.out, ← hld.out, lead_quote s g pos acc hp c1]
            rw [h1, c1, h2] at hnx
            rw [h2] at hI2 hit2 hbw2 hsz2
            clear hld hI hbw
            go_wp2_with (go_at_call 78; refine (string_any w.heap.size w.heap.size acc _ hI2 hsz2).mono ?_)
            intro e W1 he1 _ b1 _
            subst he1
            go_wp2
            go_ret3
            rw [HR.out]
            exact ⟨rfl, hbw2.trans b1⟩
          by_cases c2 : byt s pos = 92
          · obtain ⟨h1, h2⟩ := one_byte s pos hp (by omega)
            rw [h1, c2, h2] at hnx
            rw [h2] at hI2 hit2 hbw2 hsz2
            have HX := esc_extract s pos (by omega)
            have hpi : (pos : Int) ≤ (s.size : Int) := by omega
            cases he : esc (fun k => byt s (pos + k)) with
            | none =>
              have HR : Hid (leadR s = ([], pos, 12)) := by
                show leadR s = _
                rw [HL.out, ← hld.out, lead_none s g pos acc hp c2 he]
              rw [he] at HX
              have HE : Hid (escR (byt (s.extract pos s.size)) = (ByteArray.empty, 0)) := escR_none HX
              clear hld hI hbw HX he
              go_wp2_with (go_at_call 87; refine (escape_any (s.extract pos s.size) _).mono ?_)
              intro e W1 he1 b1
              subst he1
              rw [HE.out]
              go_wp2
              go_ret3
              rw [HR.out]
              exact ⟨rfl, hbw2.trans (b1.mono hsz2)⟩
            | some x =>
              obtain ⟨l, k⟩ := x
              obtain ⟨k1, k2, k3, k4⟩ := esc_ok _ l k he
              have HR : Hid (lead s g (pos + k) (acc ++ l) = lead s s.size 1 []) := by
                show lead s g (pos + k) (acc ++ l) = _
                rw [← hld.out, lead_some s g pos acc l k hp c2 he]
              rw [he] at HX
              have HE : Hid (escR (byt (s.extract pos s.size)) = (⟨l.toArray⟩, k)) := escR_some HX
              have hk9 : pos + k ≤ s.size := by
                have := (k4 (k - 1) (by omega) (by omega)).1
                have := byt_in (s := s) (i := pos + (k - 1)) (by omega)
                omega
              have HA : Hid (∀ j, pos + 1 ≤ j → j < pos + k → byt s j < 128) := by
                intro j j1 j2
                have := (k4 (j - pos) (by omega) (by omega)).2
                rw [show pos + (j - pos) = j by omega] at this
                exact this
              have hll : (Lib.byteCells acc).length = acc.length := Lib.byteCells_length acc
              have hk0 : ((k : Int) == 0) = false := beq_eq_false_iff_ne.2 (by omega)
              clear hld hI hbw HX he k4
              go_wp2_with (go_at_call 87; refine (escape_any (s.extract pos s.size) _).mono ?_)
              intro e W1 he1 b1
              subst he1
              rw [HE.out]
              have hb3 := hbw2.trans (b1.mono hsz2)
              have hI3 := isb_below hI2 b1
              have hit3 := (b1.block (w.heap.size + 1) (by rw [Lib.iterAt_size]; exact hsz)).trans hit2
              have hsz4 : w.heap.size ≤ W1.heap.size := Nat.le_trans hsz2 b1.size
              go_wp2_with (go_at_call 88; refine (writeString_any w.heap.size w.heap.size _ ⟨l.toArray⟩ _ hI3 (by rw [hll]; show acc.length + l.length ≤ _; omega) hsz4).mono ?_)
              rintro e W2 ⟨he2, h1, b2, k2⟩
              subst he2
              go_wp2
              go_roundw
              case rel =>
                refine ⟨pos + 1, pos + k, g, acc ++ l, rfl, hk9, by omega, HA.out, ?_, by rw [List.length_append]; omega, by omega, ?_, k2.iter hit3 (by omega), hb3.trans b2⟩
                · rw [show max (pos + 1) (pos + k) = pos + k by omega]; exact HR
                · rw [Lib.byteCells_append]; exact Or.inr h1
              case measure =>
                rw [hsz3]
                simp only [World.iterPos, k2.iter hit3 (by omega)]
                omega
          have hrn : (rn s pos : Int) ≠ 34 ∧ (rn s pos : Int) ≠ 92 := by
            by_cases h8 : byt s pos < 128
            · have := (one_byte s pos hp h8).1
              omega
            · have := more_byte s pos hp (by omega)
              omega
          have hr34 : ((rn s pos : Int) == 34) = false := beq_eq_false_iff_ne.2 hrn.1
          have hr92 : ((rn s pos : Int) == 92) = false := beq_eq_false_iff_ne.2 hrn.2
          clear hrn
          by_cases hbad : ctl (rn s pos : Int) = true ∨ looseB s pos = true
          · have HR : Hid (leadR s = ([], pos, 10)) := by
              show leadR s = _
              rw [HL.out, ← hld.out, lead_bad s g pos acc hp c1 c2 hbad]
            clear hld hI hbw
            cases hc : ctl (rn s pos : Int) with
            | true =>
              clear hbad
              go_wp2_with (go_at_call 89; refine (isControl_any _ _).mono ?_; rintro e w9 ⟨rfl, rfl⟩; rw [hc])
              go_ret3
              rw [HR.out]
              exact ⟨rfl, hbw2⟩
            | false =>
              have hlo : looseB s pos = true := by
                rcases hbad with h | h
                · rw [hc] at h; cases h
                · exact h
              clear hbad
              go_wp2_with (first | (go_at_call 89; refine (isControl_any _ _).mono ?_; rintro e w9 ⟨rfl, rfl⟩; rw [hc]) | (go_at_call 90; refine (looseAt_any s pos hp (by unfold maxLen; omega) _).mono ?_; rintro e w9 ⟨rfl, rfl⟩; rw [hlo]))
              go_ret3
              rw [HR.out]
              exact ⟨rfl, hbw2⟩
          · have HR : Hid (lead s g (pos + wdt s pos) (acc ++ (Utf8.encode (rn s pos : Int)).data.toList) = lead s s.size 1 []) := by
              show lead s g (pos + wdt s pos) (acc ++ (Utf8.encode (rn s pos : Int)).data.toList) = _
              rw [← hld.out, lead_char s g pos acc hp c1 c2 hbad]
            have hc : ctl (rn s pos : Int) = false := by
              cases h : ctl (rn s pos : Int) with
              | false => rfl
              | true => exact absurd (Or.inl h) hbad
            have hlo : looseB s pos = false := by
              cases h : looseB s pos with
              | false => rfl
              | true => exact absurd (Or.inr h) hbad
            have hel : (Utf8.encode (rn s pos : Int)).data.toList.length ≤ 4 := by rw [enc_len]; exact (clen_pos _).2
            have HEL : Hid ((acc ++ (Utf8.encode (rn s pos : Int)).data.toList).length ≤ 4 * (pos + wdt s pos)) := by
              show (acc ++ (Utf8.encode (rn s pos : Int)).data.toList).length ≤ 4 * (pos + wdt s pos)
              rw [List.length_append]
              omega
            have hll : (Lib.byteCells acc).length = acc.length := Lib.byteCells_length acc
            have hr8 := rn_le s pos
            clear hld hI hbw hbad hel
            go_wp2_with (first | (go_at_call 89; refine (isControl_any _ _).mono ?_; rintro e w9 ⟨rfl, rfl⟩; rw [hc]) | (go_at_call 90; refine (looseAt_any s pos hp (by unfold maxLen; omega) _).mono ?_; rintro e w9 ⟨rfl, rfl⟩; rw [hlo]) | (go_at_call 77; refine (writeRune_any w.heap.size w.heap.size _ _ (by omega) (by omega) _ hI2 (by rw [hll]; omega) hsz2).mono ?_))
            rintro e W1 ⟨he1, h1, b1, k1⟩
            subst he1
            go_wp2
            go_roundw
            case rel =>
              refine ⟨pos + wdt s pos, n, g, acc ++ (Utf8.encode (rn s pos : Int)).data.toList, rfl, hn, by omega, fun k q1 q2 => by omega, ?_, ?_, hwl, ?_, k1.iter hit2 (by omega), hbw2.trans b1⟩
              · rw [show max (pos + wdt s pos) n = pos + wdt s pos by omega]; exact HR
              · rw [show max (pos + wdt s pos) n = pos + wdt s pos by omega]; exact HEL.out
              · rw [← enc_same, Lib.byteCells_append, Lib.byteCells_encodeRune]; exact Or.inr h1
            case measure =>
              rw [hsz3]
              simp only [World.iterPos, k1.iter hit2 (by omega)]
              omega
      · have HR : Hid (leadR s = ([], s.size, 11)) := by
          show leadR s = _
          rw [HL.out, ← hld.out, lead_end s f _ acc (by omega)]
        have hnx : ∀ ty, (Instr.next (.pointer (some ⟨w.heap.size + 1, 0, none⟩)) true ty).run Tryz.prog wr = _ := fun ty => Lib.run_next_end_at wr (w.heap.size + 1) s pos ty hit hp
        clear hld hasc
        go_wp2
        go_ret3
        rw [HR.out]
        exact ⟨rfl, hbw⟩

end Go.Proofs.YtnkpohkodkjkfaaGreatDoor
