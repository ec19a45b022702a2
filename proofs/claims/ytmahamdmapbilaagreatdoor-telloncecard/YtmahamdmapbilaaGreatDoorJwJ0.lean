import Derived.RangeFuncNested
import Derived.RangeFuncBound
import Derived.RangeFuncCalls
import Derived.Lib.MapLaws
import Derived.Laws.RangeAny
import Derived.Laws.RangeString
import Derived.Lib.Strings
import Derived.Lib.IndexBytes
import Derived.Test.YtmahamdmapbilaaGreatDoorProg
import Derived.Shelf.Abstract
import Derived.Shelf.RegionOpen
import Derived.WalkKit
import Derived.WalkSpells
import Derived.OwnWalkIn
import Derived.TacticsInMore
import Derived.LoopNIn
import Derived.LoopIn
import Derived.Lib.OthersKept
import Derived.Shelf.Strings.Search1
set_option maxHeartbeats 40000000
set_option maxRecDepth 100000
set_option linter.unusedVariables false
namespace Go.Proofs.YtmahamdmapbilaaGreatDoor
open Go.RowKit
structure Kept (bx B m : Nat) (W W' : World) : Prop where
 size : W.heap.size ≤ W'.heap.size
 box : W'.heap[bx]? = W.heap[bx]?
 rng : ∀ k, B ≤ k → k < B + m → W'.heap[k]? = W.heap[k]?
theorem Kept.refl (bx B m : Nat) (W : World) : Kept bx B m W W := ⟨Nat.le_refl _, rfl, fun _ _ _ => rfl⟩
theorem Kept.trans {bx B m : Nat} {X Y Z : World} (h : Kept bx B m X Y) (k : Kept bx B m Y Z) : Kept bx B m X Z :=
 ⟨Nat.le_trans h.size k.size, k.box.trans h.box, fun i h1 h2 => (k.rng i h1 h2).trans (h.rng i h1 h2)⟩
theorem Kept.putObj {bx B m : Nat} {W : World} {l : Nat} (o : Obj) (h1 : l ≠ bx) (h2 : l < B ∨ B + m ≤ l) : Kept bx B m W (W.putObj l o) :=
 ⟨by simp, World.putObj_heap_other (Ne.symm h1), fun k h3 h4 => World.putObj_heap_other (by omega)⟩
theorem Kept.below {bx B m : Nat} {W W' : World} {b : Nat} (h : Below b W W') (hbx : bx < b) (hB : B + m ≤ b) : Kept bx B m W W' :=
 ⟨h.size, h.block bx hbx, fun k _ h2 => h.block k (by omega)⟩
theorem Kept.less {bx B m B' m' : Nat} {W W' : World} (h : Kept bx B m W W') (h1 : B ≤ B') (h2 : B' + m' ≤ B + m) : Kept bx B' m' W W' :=
 ⟨h.size, h.box, fun k h3 h4 => h.rng k (by omega) (by omega)⟩
theorem own_below {β : Type} {B : Nat} {I : β → World → Prop} (h : OwnFrom B I) {s : β} {W W' : World} (hs : I s W) (hb : Below W.heap.size W W') : I s W' :=
 h s W W' none hs ⟨hb.os, hb.tape, hb.output, hb.size, fun k hk _ => hb.block k hk⟩ (fun r e => by cases e)
theorem round_any {n n' : Nat} {P : Program} {l : Nat} {f : FuncId} {tmps : Array Value} {assign body : Code} {w : World} {R : Ending → World → Prop}
  (h : RoundIn Fence.wide n P l f tmps assign body w R) : RoundIn Fence.wide n' P l f tmps assign body w R :=
 ⟨h.1, fun c cs _ => h.2 c cs (room_wide _)⟩
theorem yield_any {n n' : Nat} {P : Program} {l : Nat} {args : Array Value} {W : World} {R : Ending → World → Prop} (h : YieldAt Fence.wide n P l args W R) : YieldAt Fence.wide n' P l args W R := by
 obtain ⟨fn, tmps, assign, body, hy, hR⟩ := h
 exact ⟨fn, tmps, assign, body, hy, round_any hR⟩
theorem calls_any {n n' : Nat} {P : Program} {f : FuncId} {args : Array Value} {w : World} {R : Ending → World → Prop} (h : CallsIn Fence.wide n P f args w R) : CallsIn Fence.wide n' P f args w R :=
 callsIn_wide.2 (callsIn_wide.1 h)
def SeqE {α : Type} (P : Program) (Ext : World → Prop) (g : Nat) (lb : Array Value) (encs : α → Array Value) (bx m : Nat) (xs : List α) (w : World) : Prop :=
 ∀ (l : Nat) (J Jx : List α → World → Prop) (W : World), Below w.heap.size w W → OwnFrom W.heap.size J → OwnFrom W.heap.size Jx → (∀ pre W1, J pre W1 → Ext W1) →
  (∀ pre x W1, J pre W1 → W.heap.size + m ≤ W1.heap.size → pre ++ [x] <+: xs → YieldAt Fence.wide 0 P l (encs x) W1 fun e W' =>
   Kept bx W.heap.size m W1 W' ∧ ((e = .returned (.bool true) ∧ J (pre ++ [x]) W') ∨ (e = .returned (.bool false) ∧ Jx (pre ++ [x]) W'))) →
  J [] W →
  CallsIn Fence.wide 0 P g (#[.func (.yield l) #[] #[]] ++ lb) W fun e W' => (∃ v, e = .returned v) ∧ (J xs W' ∨ ∃ pre, pre <+: xs ∧ Jx pre W')
def postM {α : Type} (bx B m : Nat) (I : List α → World → Prop) (Ix : Code → List α → World → Prop) (xs : List α) (W : World) : Exit → Act → World → Prop
 | .normal, _, W' => Kept bx B m W W' ∧ I xs W'
 | .ret, _, W' => Kept bx B m W W' ∧ Ix .ret xs W'
 | .exit id, _, W' => Kept bx B m W W' ∧ Ix (.exit id) xs W'
 | .goto t, _, W' => Kept bx B m W W' ∧ Ix (.goto t) xs W'
 | .panic _, _, _ => False
 | .outgrown, _, _ => False
end Go.Proofs.YtmahamdmapbilaaGreatDoor
namespace Go.Proofs.YtmahamdmapbilaaGreatDoor
def rn (s : ByteArray) (p : Nat) : Nat := (Utf8.decode s p).1
def wdt (s : ByteArray) (p : Nat) : Nat := (Utf8.decode s p).2
def looseB (s : ByteArray) (p : Nat) : Bool := decide (rn s p = 65533 ∧ wdt s p = 1)
theorem shape (s : ByteArray) (p : Nat) : Utf8.decode s p = Lib.decodeN (s.size - p) (s.get! p).toNat (s.get! (p + 1)).toNat (s.get! (p + 2)).toNat (s.get! (p + 3)).toNat := Lib.decode_at s p
theorem wdt_pos (s : ByteArray) (p : Nat) : 1 ≤ wdt s p := by
 unfold wdt; rw [shape]
 rcases Lib.decodeN_shape (s.size - p) (s.get! p).toNat (s.get! (p + 1)).toNat (s.get! (p + 2)).toNat (s.get! (p + 3)).toNat with ⟨c, e⟩ | ⟨c1, c2, c3, cv, e⟩ | ⟨c1, c2, c3, c4, cv, cs, e⟩ | ⟨c1, c2, c3, c4, c5, cv, cw, e⟩ | e
 all_goals (rw [e]; dsimp only; omega)
theorem wdt_le (s : ByteArray) (p : Nat) (h : p < s.size) : p + wdt s p ≤ s.size := by
 unfold wdt; rw [shape]
 rcases Lib.decodeN_shape (s.size - p) (s.get! p).toNat (s.get! (p + 1)).toNat (s.get! (p + 2)).toNat (s.get! (p + 3)).toNat with ⟨c, e⟩ | ⟨c1, c2, c3, cv, e⟩ | ⟨c1, c2, c3, c4, cv, cs, e⟩ | ⟨c1, c2, c3, c4, c5, cv, cw, e⟩ | e
 all_goals (rw [e]; dsimp only; omega)
theorem wdt_le4 (s : ByteArray) (p : Nat) : wdt s p ≤ 4 := by
 unfold wdt; rw [shape]
 rcases Lib.decodeN_shape (s.size - p) (s.get! p).toNat (s.get! (p + 1)).toNat (s.get! (p + 2)).toNat (s.get! (p + 3)).toNat with ⟨c, e⟩ | ⟨c1, c2, c3, cv, e⟩ | ⟨c1, c2, c3, c4, cv, cs, e⟩ | ⟨c1, c2, c3, c4, c5, cv, cw, e⟩ | e
 all_goals (rw [e]; dsimp only; omega)
theorem rn_le (s : ByteArray) (p : Nat) : rn s p ≤ 1114111 := by
 have k0 := (s.get! p).toNat_lt
 unfold rn; rw [shape]
 rcases Lib.decodeN_shape (s.size - p) (s.get! p).toNat (s.get! (p + 1)).toNat (s.get! (p + 2)).toNat (s.get! (p + 3)).toNat with ⟨c, e⟩ | ⟨c1, c2, c3, cv, e⟩ | ⟨c1, c2, c3, c4, cv, cs, e⟩ | ⟨c1, c2, c3, c4, c5, cv, cw, e⟩ | e
 all_goals (rw [e]; dsimp only; omega)
theorem wdt_eq (s : ByteArray) (p : Nat) (h : looseB s p = false) :
  (rn s p ≤ 127 ∧ wdt s p = 1) ∨ (128 ≤ rn s p ∧ rn s p ≤ 2047 ∧ wdt s p = 2) ∨ (2048 ≤ rn s p ∧ rn s p ≤ 65535 ∧ (rn s p < 55296 ∨ 57344 ≤ rn s p) ∧ wdt s p = 3) ∨ (65536 ≤ rn s p ∧ rn s p ≤ 1114111 ∧ wdt s p = 4) := by
 have k0 := (s.get! p).toNat_lt
 simp only [looseB, decide_eq_false_iff_not] at h
 unfold rn wdt at h ⊢
 rw [shape] at h ⊢
 rcases Lib.decodeN_shape (s.size - p) (s.get! p).toNat (s.get! (p + 1)).toNat (s.get! (p + 2)).toNat (s.get! (p + 3)).toNat with ⟨c, e⟩ | ⟨c1, c2, c3, cv, e⟩ | ⟨c1, c2, c3, c4, cv, cs, e⟩ | ⟨c1, c2, c3, c4, c5, cv, cw, e⟩ | e
 all_goals (rw [e] at h ⊢; dsimp only at h ⊢; omega)
theorem fffd_bytes (s : ByteArray) (p : Nat) (h : rn s p = 65533) : wdt s p = 3 ↔ (p + 3 ≤ s.size ∧ (s.get! p).toNat = 239 ∧ (s.get! (p + 1)).toNat = 191 ∧ (s.get! (p + 2)).toNat = 189) := by
 have k0 := (s.get! p).toNat_lt
 have k1 := (s.get! (p + 1)).toNat_lt
 have k2 := (s.get! (p + 2)).toNat_lt
 unfold rn at h; unfold wdt
 rw [shape] at h ⊢
 constructor
 · rcases Lib.decodeN_shape (s.size - p) (s.get! p).toNat (s.get! (p + 1)).toNat (s.get! (p + 2)).toNat (s.get! (p + 3)).toNat with ⟨c, e⟩ | ⟨c1, c2, c3, cv, e⟩ | ⟨c1, c2, c3, c4, cv, cs, e⟩ | ⟨c1, c2, c3, c4, c5, cv, cw, e⟩ | e
   all_goals (rw [e] at h ⊢; dsimp only at h ⊢; omega)
 · rintro ⟨h0, e0, e1, e2⟩
   rw [e0, e1, e2]
   have h1 : 1 < s.size - p := by omega
   have h2 : 2 < s.size - p := by omega
   simp [Lib.decodeN, h1, h2]
theorem wdt_loose (s : ByteArray) (p : Nat) (h : rn s p = 65533) : wdt s p = 1 ∨ wdt s p = 3 := by
 have k0 := (s.get! p).toNat_lt
 unfold rn at h; unfold wdt
 rw [shape] at h ⊢
 rcases Lib.decodeN_shape (s.size - p) (s.get! p).toNat (s.get! (p + 1)).toNat (s.get! (p + 2)).toNat (s.get! (p + 3)).toNat with ⟨c, e⟩ | ⟨c1, c2, c3, cv, e⟩ | ⟨c1, c2, c3, c4, cv, cs, e⟩ | ⟨c1, c2, c3, c4, c5, cv, cw, e⟩ | e
 all_goals (rw [e] at h ⊢; dsimp only at h ⊢; omega)
theorem get_eq (s : ByteArray) (i : Nat) (h : i < s.size) : s.get! i = s.data.toList[i]'(by simpa using h) := by
 obtain ⟨⟨l⟩⟩ := s
 have h' : i < l.length := h
 simp [ByteArray.get!, h']
def isPre (a b : ByteArray) : Bool := decide (b.size ≤ a.size) && ((a.extract 0 b.size).toList == b.toList)
theorem isPre_fffd (s : ByteArray) (p : Nat) (hp : p < s.size) (h : rn s p = 65533) : isPre (s.extract p s.size) ⟨#[239, 191, 189]⟩ = !looseB s p := by
 have h3 := fffd_bytes s p h
 have hw := wdt_loose s p h
 have hL : looseB s p = decide (wdt s p = 1) := by simp [looseB, h]
 rw [hL]
 have hz : (⟨#[239, 191, 189]⟩ : ByteArray).size = 3 := rfl
 have hl : (⟨#[239, 191, 189]⟩ : ByteArray).toList = [239, 191, 189] := by rw [Lib.toList_data]
 unfold isPre
 rw [hz, hl, Lib.toList_data, Lib.extract_data, Lib.extract_data]
 have hs : (s.extract p s.size).size = s.size - p := by simp
 rw [hs]
 by_cases hz3 : p + 3 ≤ s.size
 · have g0 := get_eq s p (by omega)
   have g1 := get_eq s (p + 1) (by omega)
   have g2 := get_eq s (p + 2) (by omega)
   rw [g0, g1, g2] at h3
   have hlen : s.data.toList.length = s.size := by simp
   have e : List.take (3 - 0) (List.drop 0 (List.take (s.size - p) (List.drop p s.data.toList))) = [s.data.toList[p]'(by omega), s.data.toList[p + 1]'(by omega), s.data.toList[p + 2]'(by omega)] := by
     rw [List.drop_zero, List.take_take, Nat.min_eq_left (by omega), List.drop_eq_getElem_cons (by omega), List.drop_eq_getElem_cons (by omega), List.drop_eq_getElem_cons (by omega)]
     rfl
   rw [e]
   have d3 : decide (3 ≤ s.size - p) = true := decide_eq_true (by omega)
   rw [d3, Bool.true_and]
   by_cases h1 : wdt s p = 1
   · have hn : ¬ wdt s p = 3 := by omega
     rw [h3] at hn
     rw [decide_eq_true h1, Bool.not_true, beq_eq_false_iff_ne]
     intro hc
     injection hc with c0 hc
     injection hc with c1 hc
     injection hc with c2 hc
     rw [c0, c1, c2] at hn
     exact hn ⟨hz3, rfl, rfl, rfl⟩
   · have hy : wdt s p = 3 := by omega
     obtain ⟨_, e0, e1, e2⟩ := h3.1 hy
     rw [decide_eq_false h1, Bool.not_false, beq_iff_eq]
     rw [show s.data.toList[p]'(by omega) = 239 from UInt8.toNat_inj.1 e0, show s.data.toList[p + 1]'(by omega) = 191 from UInt8.toNat_inj.1 e1, show s.data.toList[p + 2]'(by omega) = 189 from UInt8.toNat_inj.1 e2]
 · have h1 : wdt s p = 1 := by
     rcases hw with h1 | h1
     · exact h1
     · exact absurd (h3.1 h1).1 hz3
   rw [decide_eq_true h1, decide_eq_false (by omega)]
   rfl
def startsFrom (s : ByteArray) : Nat → Nat → List Nat
 | 0, _ => []
 | f + 1, p => if p < s.size then p :: startsFrom s f (p + wdt s p) else []
def starts (s : ByteArray) : List Nat := startsFrom s s.size 0
theorem startsFrom_end (s : ByteArray) (f p : Nat) (h : ¬ p < s.size) : startsFrom s f p = [] := by
 cases f with
 | zero => rfl
 | succ f => simp [startsFrom, h]
theorem startsFrom_step (s : ByteArray) (f p : Nat) (h : p < s.size) : startsFrom s (f + 1) p = p :: startsFrom s f (p + wdt s p) := by simp [startsFrom, h]
theorem startsFrom_fuel (s : ByteArray) : ∀ (f g p : Nat), s.size ≤ p + f → s.size ≤ p + g → startsFrom s f p = startsFrom s g p
 | 0, g, p, hf, _ => by rw [startsFrom_end s g p (by omega)]; rfl
 | f + 1, 0, p, _, hg => by rw [startsFrom_end s (f + 1) p (by omega)]; rfl
 | f + 1, g + 1, p, hf, hg => by
  by_cases h : p < s.size
  · have := wdt_pos s p
    rw [startsFrom_step s f p h, startsFrom_step s g p h, startsFrom_fuel s f g (p + wdt s p) (by omega) (by omega)]
  · rw [startsFrom_end s _ p h, startsFrom_end s _ p h]
theorem startsFrom_lt (s : ByteArray) : ∀ (f p x : Nat), x ∈ startsFrom s f p → p ≤ x ∧ x < s.size
 | 0, p, x, h => by simp [startsFrom] at h
 | f + 1, p, x, h => by
  by_cases hp : p < s.size
  · rw [startsFrom_step s f p hp] at h
    rcases List.mem_cons.1 h with rfl | h
    · exact ⟨Nat.le_refl _, hp⟩
    · have := startsFrom_lt s f (p + wdt s p) x h
      omega
  · rw [startsFrom_end s _ p hp] at h; cases h
theorem starts_lt (s : ByteArray) (x : Nat) (h : x ∈ starts s) : x < s.size := (startsFrom_lt s _ _ x h).2
theorem startsFrom_length (s : ByteArray) : ∀ (f p : Nat), p ≤ s.size → (startsFrom s f p).length + p ≤ s.size
 | 0, p, h => by simp [startsFrom]; exact h
 | f + 1, p, h => by
  by_cases hp : p < s.size
  · have h1 := wdt_pos s p
    have h2 := wdt_le s p hp
    have := startsFrom_length s f (p + wdt s p) h2
    rw [startsFrom_step s f p hp]; simp; omega
  · rw [startsFrom_end s _ p hp]; simp; exact h
theorem starts_length (s : ByteArray) : (starts s).length ≤ s.size := by have := startsFrom_length s s.size 0 (Nat.zero_le _); unfold starts; omega
end Go.Proofs.YtmahamdmapbilaaGreatDoor
namespace Go.Proofs.YtmahamdmapbilaaGreatDoor
open Go.RowKit Go.Shelf
attribute [local go_sem] Oper.semAt_some
theorem prefix_any (a b : ByteArray) (_ha : a.size ≤ maxLen) (_hb : b.size ≤ maxLen) (w : World) :
   Calls Tryz.prog 166 #[.string a, .string b] w fun e w' => e = .returned (.bool (isPre a b)) ∧ w' = w := by
 unfold maxLen at _ha _hb
 by_cases h : b.size ≤ a.size
 · have e1 : isPre a b = ((a.extract 0 b.size).toList == b.toList) := by unfold isPre; rw [decide_eq_true h, Bool.true_and]
   rw [e1]; clear e1
   go_enter Tryz.func166, Tryz.ntmps166
   go_wp2
   go_ret
   exact ⟨rfl, rfl⟩
 · have e1 : isPre a b = false := by unfold isPre; rw [decide_eq_false h, Bool.false_and]
   rw [e1]; clear e1
   go_enter Tryz.func166, Tryz.ntmps166
   go_wp2
   go_ret
   exact ⟨rfl, rfl⟩
theorem looseAt_any (s : ByteArray) (p : Nat) (hp : p < s.size) (hs : s.size ≤ maxLen) (w : World) :
   Calls Tryz.prog 170 #[.string s, .int .i64 p, .int .i32 (rn s p)] w fun e w' => e = .returned (.bool (looseB s p)) ∧ w' = w := by
 have hs' := hs
 unfold maxLen at hs'
 by_cases h : rn s p = 65533
 · have H := isPre_fffd s p hp h
   have hL : looseB s p = !isPre (s.extract p s.size) ⟨#[239, 191, 189]⟩ := by rw [H, Bool.not_not]
   rw [hL, h]
   clear H hL h
   go_enter Tryz.func170, Tryz.ntmps170
   go_wp2_with (go_at_call 166; refine (prefix_any (s.extract p s.size) ⟨#[239, 191, 189]⟩ ?_ ?_ _).mono ?_)
   · unfold maxLen; simp; omega
   · show (3 : Nat) ≤ maxLen; unfold maxLen; omega
   rintro e w' ⟨rfl, rfl⟩
   go_wp2
   go_ret
   exact ⟨rfl, rfl⟩
 · have hL : looseB s p = false := by simp [looseB, h]
   have hr : ((rn s p : Int) == 65533) = false := beq_eq_false_iff_ne.2 (by omega)
   rw [hL]
   clear hL h
   go_enter Tryz.func170, Tryz.ntmps170
   go_wp2
   go_ret
   exact ⟨rfl, rfl⟩
end Go.Proofs.YtmahamdmapbilaaGreatDoor
namespace Go.Proofs.YtmahamdmapbilaaGreatDoor
open Go.RowKit Go.Shelf
theorem get_new {w : World} {o : Obj} {k : Nat} (h : k = w.heap.size) : (w.alloc o).heap[k]? = some o := by subst h; exact World.alloc_heap_new w o
theorem cell_of {W : World} {B : Nat} {cs : Array Value} {t : TypeId} {z : Nat × Nat} (h : W.heap[B]? = some (.cells cs t z)) (j : Nat) : W.cell? ⟨B, j, none⟩ = cs[j]? := by simp [World.cell?, h]
def ren217 : Go.Shelf.Ren := ⟨fun | 217 => 220 | 266 => 238 | n => n, fun | 3 => 3 | 5 => 5 | 9 => 9 | n => n, fun | n => n⟩
theorem lays217 : Lays.n217 Tryz.prog ren217 := {
 mixed := by kernel_rfl
 f217 := Tryz.func220.trans (congrArg some (by kernel_rfl))
 f266 := Tryz.func238.trans (congrArg some (by kernel_rfl))
 t3 := Tryz.underlying3
 a3 := Tryz.isAgg3
 z3 := Tryz.sizeOf3
 v3 := Tryz.zeroValue3
 t5 := Tryz.underlying5
 a5 := Tryz.isAgg5
 z5 := Tryz.sizeOf5
 v5 := Tryz.zeroValue5
 t9 := Tryz.underlying9
 a9 := Tryz.isAgg9
 z9 := Tryz.sizeOf9
 v9 := Tryz.zeroValue9 }
def nlAt (s : ByteArray) : Int := Lib.indexByte s.data.toList 10
theorem indexByte_any (s : ByteArray) (w : World) :
 Calls Tryz.prog 220 #[.string s, .int .u8 10] w fun e w' => e = .returned (.int .i64 (nlAt s)) ∧ w' = w := Any.stringslite_IndexByte lays217 s 10 w
theorem liteIndex_any (s : ByteArray) (w : World) :
  Calls Tryz.prog 197 #[.string s, .string ⟨#[10]⟩] w fun e w' => e = .returned (.int .i64 (nlAt s)) ∧ w' = w := by
 cases hq : (([10] : List UInt8) == s.toList) with
 | true =>
  have HN : Hid (nlAt s = 0) := by
   show nlAt s = 0
   have h := eq_of_beq hq
   rw [Lib.toList_data] at h
   unfold nlAt
   rw [← h]
   rfl
  go_enter Tryz.func197, Tryz.ntmps197
  go_wp2
  go_ret
  rw [HN.out]
  exact ⟨rfl, rfl⟩
 | false =>
  go_enter Tryz.func197, Tryz.ntmps197
  go_wp2_with (go_at_call 220; refine (indexByte_any s _).mono ?_; rintro e w9 ⟨rfl, rfl⟩)
  go_ret
  exact ⟨rfl, rfl⟩
theorem index_any (s : ByteArray) (w : World) :
  Calls Tryz.prog 165 #[.string s, .string ⟨#[10]⟩] w fun e w' => e = .returned (.int .i64 (nlAt s)) ∧ w' = w := by
 go_enter Tryz.func165, Tryz.ntmps165
 go_wp2_with (go_at_call 197; refine (liteIndex_any s _).mono ?_; rintro e w9 ⟨rfl, rfl⟩)
 go_ret
 exact ⟨rfl, rfl⟩
end Go.Proofs.YtmahamdmapbilaaGreatDoor
