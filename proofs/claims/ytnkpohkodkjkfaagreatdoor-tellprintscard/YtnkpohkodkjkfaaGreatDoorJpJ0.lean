/- The words of the library at this program. -/
import Derived.Shelf.Strings.OnBuilder
import Derived.Test.YtnkpohkodkjkfaaGreatDoorProg
import Derived.RangeFuncNested
import Derived.RangeFuncBound
import Derived.RangeFuncCalls
import Derived.Lib.MapLaws
import Derived.Laws.RangeAny
import Derived.Laws.RangeString
import Derived.Lib.Strings
import Derived.Lib.IndexBytes
set_option maxHeartbeats 40000000
set_option maxRecDepth 100000
set_option linter.unusedVariables false
namespace Go.Proofs.YtnkpohkodkjkfaaGreatDoor
open Go.Shelf Go.RowKit
def ren156 : Go.Shelf.Ren := ⟨fun | 156 => 71 | 165 => 94 | 166 => 88 | 169 => 78 | 240 => 100 | 241 => 119 | 276 => 125 | 277 => 138 | n => n, fun | 31 => 125 | 9 => 9 | 3 => 3 | 4 => 4 | 0 => 0 | 20 => 20 | 72 => 135 | 76 => 141 | 70 => 133 | 37 => 47 | 75 => 140 | 127 => 155 | 164 => 183 | 5 => 5 | 80 => 143 | n => n, fun | n => n⟩
set_option maxRecDepth 100000 in
theorem lays156 : Lays.n156 Tryz.prog ren156 := {
  mixed := by kernel_rfl
  f156 := Tryz.func71.trans (congrArg some (by kernel_rfl))
  f165 := Tryz.func94.trans (congrArg some (by kernel_rfl))
  f166 := Tryz.func88.trans (congrArg some (by kernel_rfl))
  f169 := Tryz.func78.trans (congrArg some (by kernel_rfl))
  f240 := Tryz.func100.trans (congrArg some (by kernel_rfl))
  f241 := Tryz.func119.trans (congrArg some (by kernel_rfl))
  f276 := Tryz.func125.trans (congrArg some (by kernel_rfl))
  f277 := Tryz.func138.trans (congrArg some (by kernel_rfl))
  t0 := Tryz.underlying0
  a0 := Tryz.isAgg0
  z0 := Tryz.sizeOf0
  v0 := Tryz.zeroValue0
  t3 := Tryz.underlying3
  a3 := Tryz.isAgg3
  z3 := Tryz.sizeOf3
  v3 := Tryz.zeroValue3
  t4 := Tryz.underlying4
  a4 := Tryz.isAgg4
  z4 := Tryz.sizeOf4
  v4 := Tryz.zeroValue4
  t9 := Tryz.underlying9
  a9 := Tryz.isAgg9
  z9 := Tryz.sizeOf9
  v9 := Tryz.zeroValue9
  t20 := Tryz.underlying20
  a20 := Tryz.isAgg20
  z20 := Tryz.sizeOf20
  v20 := Tryz.zeroValue20
  t31 := Tryz.underlying125
  a31 := Tryz.isAgg125
  z31 := Tryz.sizeOf125
  v31 := Tryz.zeroValue125
  t37 := Tryz.underlying47
  a37 := Tryz.isAgg47
  z37 := Tryz.sizeOf47
  v37 := Tryz.zeroValue47
  t70 := Tryz.underlying133
  a70 := Tryz.isAgg133
  z70 := Tryz.sizeOf133
  v70 := Tryz.zeroValue133
  t72 := Tryz.underlying135
  a72 := Tryz.isAgg135
  z72 := Tryz.sizeOf135
  v72 := Tryz.zeroValue135
  t75 := Tryz.underlying140
  a75 := Tryz.isAgg140
  z75 := Tryz.sizeOf140
  v75 := Tryz.zeroValue140
  t76 := Tryz.underlying141
  a76 := Tryz.isAgg141
  z76 := Tryz.sizeOf141
  v76 := Tryz.zeroValue141
  t127 := Tryz.underlying155
  a127 := Tryz.isAgg155
  z127 := Tryz.sizeOf155
  v127 := Tryz.zeroValue155
  t164 := Tryz.underlying183
  a164 := Tryz.isAgg183
  z164 := Tryz.sizeOf183
  v164 := Tryz.zeroValue183 }
end Go.Proofs.YtnkpohkodkjkfaaGreatDoor
namespace Go.Proofs.YtnkpohkodkjkfaaGreatDoor
open Go.RowKit

/-- Block bx and the m blocks from B on lie as they lay; no block has gone. -/
structure Kept (bx B m : Nat) (W W' : World) : Prop where
  size : W.heap.size ≤ W'.heap.size
  box : W'.heap[bx]? = W.heap[bx]?
  rng : ∀ k, B ≤ k → k < B + m → W'.heap[k]? = W.heap[k]?

theorem Kept.refl (bx B m : Nat) (W : World) : Kept bx B m W W := ⟨Nat.le_refl _, rfl, fun _ _ _ => rfl⟩
theorem Kept.trans {bx B m : Nat} {X Y Z : World} (h : Kept bx B m X Y) (k : Kept bx B m Y Z) : Kept bx B m X Z :=
  ⟨Nat.le_trans h.size k.size, k.box.trans h.box, fun i h1 h2 => (k.rng i h1 h2).trans (h.rng i h1 h2)⟩
theorem Kept.putObj {bx B m : Nat} {W : World} {l : Nat} (o : Obj) (h1 : l ≠ bx) (h2 : l < B ∨ B + m ≤ l) : Kept bx B m W (W.putObj l o) :=
  ⟨by simp, World.putObj_heap_other (Ne.symm h1), fun k h3 h4 => World.putObj_heap_other (by omega)⟩
theorem Kept.below {bx B m : Nat} {W W' : World} {b : Nat} (h : Below b W W') (hbx : bx < b) (hB : B + m ≤ b) : Kept bx B m W W' :=
  ⟨h.size, h.block bx hbx, fun k _ h2 => h.block k (by omega)⟩
theorem Kept.less {bx B m B' m' : Nat} {W W' : World} (h : Kept bx B m W W') (h1 : B ≤ B') (h2 : B' + m' ≤ B + m) : Kept bx B' m' W W' :=
  ⟨h.size, h.box, fun k h3 h4 => h.rng k (by omega) (by omega)⟩

/-- All old blocks lie as they lay: whatever belongs to the caller abides it. -/
theorem own_below {β : Type} {B : Nat} {I : β → World → Prop} (h : OwnFrom B I) {s : β} {W W' : World} (hs : I s W) (hb : Below W.heap.size W W') : I s W' :=
  h s W W' none hs ⟨hb.os, hb.tape, hb.output, hb.size, fun k hk _ => hb.block k hk⟩ (fun r e => by cases e)

theorem round_any {n n' : Nat} {P : Program} {l : Nat} {f : FuncId} {tmps : Array Value} {assign body : Code} {w : World} {R : Ending → World → Prop}
    (h : RoundIn Fence.wide n P l f tmps assign body w R) : RoundIn Fence.wide n' P l f tmps assign body w R :=
  ⟨h.1, fun c cs _ => h.2 c cs (room_wide _)⟩
theorem yield_any {n n' : Nat} {P : Program} {l : Nat} {args : Array Value} {W : World} {R : Ending → World → Prop} (h : YieldAt Fence.wide n P l args W R) : YieldAt Fence.wide n' P l args W R := by
  obtain ⟨fn, tmps, assign, body, hy, hR⟩ := h
  exact ⟨fn, tmps, assign, body, hy, round_any hR⟩
theorem calls_any {n n' : Nat} {P : Program} {f : FuncId} {args : Array Value} {w : World} {R : Ending → World → Prop} (h : CallsIn Fence.wide n P f args w R) : CallsIn Fence.wide n' P f args w R :=
  callsIn_wide.2 (callsIn_wide.1 h)

/-- The word of an iterator that gives xs, one by one: every round keeps block bx and the m blocks that the iterator lays first. -/
def SeqE {α : Type} (P : Program) (Ext : World → Prop) (g : Nat) (lb : Array Value) (encs : α → Array Value) (bx m : Nat) (xs : List α) (w : World) : Prop :=
  ∀ (l : Nat) (J Jx : List α → World → Prop) (W : World), Below w.heap.size w W → OwnFrom W.heap.size J → OwnFrom W.heap.size Jx → (∀ pre W1, J pre W1 → Ext W1) →
    (∀ pre x W1, J pre W1 → W.heap.size + m ≤ W1.heap.size → pre ++ [x] <+: xs → YieldAt Fence.wide 0 P l (encs x) W1 fun e W' =>
      Kept bx W.heap.size m W1 W' ∧ ((e = .returned (.bool true) ∧ J (pre ++ [x]) W') ∨ (e = .returned (.bool false) ∧ Jx (pre ++ [x]) W'))) →
    J [] W →
    CallsIn Fence.wide 0 P g (#[.func (.yield l) #[] #[]] ++ lb) W fun e W' => (∃ v, e = .returned v) ∧ (J xs W' ∨ ∃ pre, pre <+: xs ∧ Jx pre W')

/-- How the body of a round may be left. -/
def postM {α : Type} (bx B m : Nat) (I : List α → World → Prop) (Ix : Code → List α → World → Prop) (xs : List α) (W : World) : Exit → Act → World → Prop
  | .normal, _, W' => Kept bx B m W W' ∧ I xs W'
  | .ret, _, W' => Kept bx B m W W' ∧ Ix .ret xs W'
  | .exit id, _, W' => Kept bx B m W W' ∧ Ix (.exit id) xs W'
  | .goto t, _, W' => Kept bx B m W W' ∧ Ix (.goto t) xs W'
  | .panic _, _, _ => False
  | .outgrown, _, _ => False

end Go.Proofs.YtnkpohkodkjkfaaGreatDoor
namespace Go.Proofs.YtnkpohkodkjkfaaGreatDoor

/-- The rune of the character that begins at byte p, and how many bytes it has. -/
def rn (s : ByteArray) (p : Nat) : Nat := (Utf8.decode s p).1
def wdt (s : ByteArray) (p : Nat) : Nat := (Utf8.decode s p).2
/-- It is a loose byte. -/
def looseB (s : ByteArray) (p : Nat) : Bool := decide (rn s p = 65533 ∧ wdt s p = 1)

theorem shape (s : ByteArray) (p : Nat) : Utf8.decode s p = Lib.decodeN (s.size - p) (s.get! p).toNat (s.get! (p + 1)).toNat (s.get! (p + 2)).toNat (s.get! (p + 3)).toNat := Lib.decode_at s p

theorem wdt_pos (s : ByteArray) (p : Nat) : 1 ≤ wdt s p := by
  unfold wdt; rw [shape]
  rcases Lib.decodeN_shape (s.size - p) (s.get! p).toNat (s.get! (p + 1)).toNat (s.get! (p + 2)).toNat (s.get! (p + 3)).toNat with ⟨c, e⟩ | ⟨c1, c2, c3, cv, e⟩ | ⟨c1, c2, c3, c4, cv, cs, e⟩ | ⟨c1, c2, c3, c4, c5, cv, cw, e⟩ | e
  all_goals (rw [e]; dsimp only; omega)
theorem wdt_le (s : ByteArray) (p : Nat) (h : p < s.size) : p + wdt s p ≤ s.size := by
  unfold wdt; rw [shape]
  rcases Lib.decodeN_shape (s.size - p) (s.get! p).toNat (s.get! (p + 1)).toNat (s.get! (p + 2)).toNat (s.get! (p + 3)).toNat with ⟨c, e⟩ | ⟨c1, c2, c3, cv, e⟩ | ⟨c1, c2, c3, c4, cv, cs, e⟩ | ⟨c1, c2, c3, c4, c5, cv, cw, e⟩ | e
  all_goals (rw [e]; dsimp only; omega)
theorem wdt_le4 (s : ByteArray) (p : Nat) : wdt s p ≤ 4 := by
  unfold wdt; rw [shape]
  rcases Lib.decodeN_shape (s.size - p) (s.get! p).toNat (s.get! (p + 1)).toNat (s.get! (p + 2)).toNat (s.get! (p + 3)).toNat with ⟨c, e⟩ | ⟨c1, c2, c3, cv, e⟩ | ⟨c1, c2, c3, c4, cv, cs, e⟩ | ⟨c1, c2, c3, c4, c5, cv, cw, e⟩ | e
  all_goals (rw [e]; dsimp only; omega)
theorem rn_le (s : ByteArray) (p : Nat) : rn s p ≤ 1114111 := by
  have k0 := (s.get! p).toNat_lt
  unfold rn; rw [shape]
  rcases Lib.decodeN_shape (s.size - p) (s.get! p).toNat (s.get! (p + 1)).toNat (s.get! (p + 2)).toNat (s.get! (p + 3)).toNat with ⟨c, e⟩ | ⟨c1, c2, c3, cv, e⟩ | ⟨c1, c2, c3, c4, cv, cs, e⟩ | ⟨c1, c2, c3, c4, c5, cv, cw, e⟩ | e
  all_goals (rw [e]; dsimp only; omega)

/-- What RuneLen answers of the rune of a character that is no loose byte. -/
theorem wdt_eq (s : ByteArray) (p : Nat) (h : looseB s p = false) :
    (rn s p ≤ 127 ∧ wdt s p = 1) ∨ (128 ≤ rn s p ∧ rn s p ≤ 2047 ∧ wdt s p = 2) ∨ (2048 ≤ rn s p ∧ rn s p ≤ 65535 ∧ (rn s p < 55296 ∨ 57344 ≤ rn s p) ∧ wdt s p = 3) ∨ (65536 ≤ rn s p ∧ rn s p ≤ 1114111 ∧ wdt s p = 4) := by
  have k0 := (s.get! p).toNat_lt
  simp only [looseB, decide_eq_false_iff_not] at h
  unfold rn wdt at h ⊢
  rw [shape] at h ⊢
  rcases Lib.decodeN_shape (s.size - p) (s.get! p).toNat (s.get! (p + 1)).toNat (s.get! (p + 2)).toNat (s.get! (p + 3)).toNat with ⟨c, e⟩ | ⟨c1, c2, c3, cv, e⟩ | ⟨c1, c2, c3, c4, cv, cs, e⟩ | ⟨c1, c2, c3, c4, c5, cv, cw, e⟩ | e
  all_goals (rw [e] at h ⊢; dsimp only at h ⊢; omega)

/-- U+FFFD written out: the three bytes stand there just if it is no loose byte. -/
theorem fffd_bytes (s : ByteArray) (p : Nat) (h : rn s p = 65533) : wdt s p = 3 ↔ (p + 3 ≤ s.size ∧ (s.get! p).toNat = 239 ∧ (s.get! (p + 1)).toNat = 191 ∧ (s.get! (p + 2)).toNat = 189) := by
  have k0 := (s.get! p).toNat_lt
  have k1 := (s.get! (p + 1)).toNat_lt
  have k2 := (s.get! (p + 2)).toNat_lt
  unfold rn at h; unfold wdt
  rw [shape] at h ⊢
  constructor
  · rcases Lib.decodeN_shape (s.size - p) (s.get! p).toNat (s.get! (p + 1)).toNat (s.get! (p + 2)).toNat (s.get! (p + 3)).toNat with ⟨c, e⟩ | ⟨c1, c2, c3, cv, e⟩ | ⟨c1, c2, c3, c4, cv, cs, e⟩ | ⟨c1, c2, c3, c4, c5, cv, cw, e⟩ | e
    all_goals (rw [e] at h ⊢; dsimp only at h ⊢; omega)
  · rintro ⟨h0, e0, e1, e2⟩
    rw [e0, e1, e2]
    have h1 : 1 < s.size - p := by omega
    have h2 : 2 < s.size - p := by omega
    simp [Lib.decodeN, h1, h2]

theorem wdt_loose (s : ByteArray) (p : Nat) (h : rn s p = 65533) : wdt s p = 1 ∨ wdt s p = 3 := by
  have k0 := (s.get! p).toNat_lt
  unfold rn at h; unfold wdt
  rw [shape] at h ⊢
  rcases Lib.decodeN_shape (s.size - p) (s.get! p).toNat (s.get! (p + 1)).toNat (s.get! (p + 2)).toNat (s.get! (p + 3)).toNat with ⟨c, e⟩ | ⟨c1, c2, c3, cv, e⟩ | ⟨c1, c2, c3, c4, cv, cs, e⟩ | ⟨c1, c2, c3, c4, c5, cv, cw, e⟩ | e
  all_goals (rw [e] at h ⊢; dsimp only at h ⊢; omega)

theorem get_eq (s : ByteArray) (i : Nat) (h : i < s.size) : s.get! i = s.data.toList[i]'(by simpa using h) := by
  obtain ⟨⟨l⟩⟩ := s
  have h' : i < l.length := h
  simp [ByteArray.get!, h']
/-- What HasPrefix is asked of U+FFFD. -/
def isPre (a b : ByteArray) : Bool := decide (b.size ≤ a.size) && ((a.extract 0 b.size).toList == b.toList)
theorem isPre_fffd (s : ByteArray) (p : Nat) (hp : p < s.size) (h : rn s p = 65533) : isPre (s.extract p s.size) ⟨#[239, 191, 189]⟩ = !looseB s p := by
  have h3 := fffd_bytes s p h
  have hw := wdt_loose s p h
  have hL : looseB s p = decide (wdt s p = 1) := by simp [looseB, h]
  rw [hL]
  have hz : (⟨#[239, 191, 189]⟩ : ByteArray).size = 3 := rfl
  have hl : (⟨#[239, 191, 189]⟩ : ByteArray).toList = [239, 191, 189] := by rw [Lib.toList_data]
  unfold isPre
  rw [hz, hl, Lib.toList_data, Lib.extract_data, Lib.extract_data]
  have hs : (s.extract p s.size).size = s.size - p := by simp
  rw [hs]
  by_cases hz3 : p + 3 ≤ s.size
  · have g0 := get_eq s p (by omega)
    have g1 := get_eq s (p + 1) (by omega)
    have g2 := get_eq s (p + 2) (by omega)
    rw [g0, g1, g2] at h3
    have hlen : s.data.toList.length = s.size := by simp
    have e : List.take (3 - 0) (List.drop 0 (List.take (s.size - p) (List.drop p s.data.toList))) = [s.data.toList[p]'(by omega), s.data.toList[p + 1]'(by omega), s.data.toList[p + 2]'(by omega)] := by
      rw [List.drop_zero, List.take_take, Nat.min_eq_left (by omega), List.drop_eq_getElem_cons (by omega), List.drop_eq_getElem_cons (by omega), List.drop_eq_getElem_cons (by omega)]
      rfl
    rw [e]
    have d3 : decide (3 ≤ s.size - p) = true := decide_eq_true (by omega)
    rw [d3, Bool.true_and]
    by_cases h1 : wdt s p = 1
    · have hn : ¬ wdt s p = 3 := by omega
      rw [h3] at hn
      rw [decide_eq_true h1, Bool.not_true, beq_eq_false_iff_ne]
      intro hc
      injection hc with c0 hc
      injection hc with c1 hc
      injection hc with c2 hc
      rw [c0, c1, c2] at hn
      exact hn ⟨hz3, rfl, rfl, rfl⟩
    · have hy : wdt s p = 3 := by omega
      obtain ⟨_, e0, e1, e2⟩ := h3.1 hy
      rw [decide_eq_false h1, Bool.not_false, beq_iff_eq]
      rw [show s.data.toList[p]'(by omega) = 239 from UInt8.toNat_inj.1 e0, show s.data.toList[p + 1]'(by omega) = 191 from UInt8.toNat_inj.1 e1, show s.data.toList[p + 2]'(by omega) = 189 from UInt8.toNat_inj.1 e2]
  · have h1 : wdt s p = 1 := by
      rcases hw with h1 | h1
      · exact h1
      · exact absurd (h3.1 h1).1 hz3
    rw [decide_eq_true h1, decide_eq_false (by omega)]
    rfl

/-- The bytes at which the characters begin. -/
def startsFrom (s : ByteArray) : Nat → Nat → List Nat
  | 0, _ => []
  | f + 1, p => if p < s.size then p :: startsFrom s f (p + wdt s p) else []
def starts (s : ByteArray) : List Nat := startsFrom s s.size 0

theorem startsFrom_end (s : ByteArray) (f p : Nat) (h : ¬ p < s.size) : startsFrom s f p = [] := by
  cases f with
  | zero => rfl
  | succ f => simp [startsFrom, h]
theorem startsFrom_step (s : ByteArray) (f p : Nat) (h : p < s.size) : startsFrom s (f + 1) p = p :: startsFrom s f (p + wdt s p) := by simp [startsFrom, h]
theorem startsFrom_lt (s : ByteArray) : ∀ (f p x : Nat), x ∈ startsFrom s f p → p ≤ x ∧ x < s.size
  | 0, p, x, h => by simp [startsFrom] at h
  | f + 1, p, x, h => by
    by_cases hp : p < s.size
    · rw [startsFrom_step s f p hp] at h
      rcases List.mem_cons.1 h with rfl | h
      · exact ⟨Nat.le_refl _, hp⟩
      · have := startsFrom_lt s f (p + wdt s p) x h
        omega
    · rw [startsFrom_end s _ p hp] at h; cases h
theorem starts_lt (s : ByteArray) (x : Nat) (h : x ∈ starts s) : x < s.size := (startsFrom_lt s _ _ x h).2
theorem startsFrom_length (s : ByteArray) : ∀ (f p : Nat), p ≤ s.size → (startsFrom s f p).length + p ≤ s.size
  | 0, p, h => by simp [startsFrom]; exact h
  | f + 1, p, h => by
    by_cases hp : p < s.size
    · have h1 := wdt_pos s p
      have h2 := wdt_le s p hp
      have := startsFrom_length s f (p + wdt s p) h2
      rw [startsFrom_step s f p hp]; simp; omega
    · rw [startsFrom_end s _ p hp]; simp; exact h
theorem starts_length (s : ByteArray) : (starts s).length ≤ s.size := by have := startsFrom_length s s.size 0 (Nat.zero_le _); unfold starts; omega

end Go.Proofs.YtnkpohkodkjkfaaGreatDoor
