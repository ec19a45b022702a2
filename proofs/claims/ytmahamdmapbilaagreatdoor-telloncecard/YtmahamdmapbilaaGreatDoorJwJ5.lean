import Derived.Test.YtmahamdmapbilaaGreatDoorJwJ4
import Derived.WalkMore
import Derived.Test.YtmahamdmapbilaaGreatDoorJwJ1
import Derived.Test.YtmahamdmapbilaaGreatDoorProg
import Derived.WalkKit
import Derived.WalkSpells
import Derived.OrdersIn
import Derived.RangeFuncCalls
import Derived.OwnWalkIn
set_option maxHeartbeats 40000000
set_option maxRecDepth 100000
set_option linter.unusedVariables false
namespace Go.Proofs.YtmahamdmapbilaaGreatDoor
open Go.RowKit Go.Shelf
structure TchB (B b : Nat) (w w' : World) : Prop where
 os : w'.os = w.os
 tape : w'.tape = w.tape
 output : w'.output = w.output
 size : w.heap.size ≤ w'.heap.size
 block : ∀ k, k < B → k ≠ b → w'.heap[k]? = w.heap[k]?
theorem TchB.below {B b : Nat} {w w' w2 : World} (h : TchB B b w w') (hb : Below w'.heap.size w' w2) (hB : B ≤ w.heap.size) : TchB B b w w2 :=
 ⟨hb.os.trans h.os, hb.tape.trans h.tape, hb.output.trans h.output, Nat.le_trans h.size hb.size, fun k hk hkb => (hb.block k (Nat.lt_of_lt_of_le hk (Nat.le_trans hB h.size))).trans (h.block k hk hkb)⟩
theorem TchB.tch {B b : Nat} {r : Option Nat} {w w' w2 : World} (h : TchB B b w w') (ht : Tch b r w' w2) (hB : B ≤ w.heap.size) (hr : ∀ g, r = some g → B ≤ g) : TchB B b w w2 :=
 ⟨ht.os.trans h.os, ht.tape.trans h.tape, ht.output.trans h.output, Nat.le_trans h.size ht.size, fun k hk hkb => (ht.block k (Nat.lt_of_lt_of_le hk (Nat.le_trans hB h.size)) hkb (fun e => by have := hr k e.symm; omega)).trans (h.block k hk hkb)⟩
def flatT (line : Int) : List Tok → List Value
 | [] => []
 | (k, t, c) :: l => tokC k t line (c : Int) ++ flatT line l
theorem flatT_append (line : Int) : ∀ a b : List Tok, flatT line (a ++ b) = flatT line a ++ flatT line b
 | [], b => rfl
 | (k, t, c) :: a, b => by show tokC k t line c ++ flatT line (a ++ b) = _; rw [flatT_append line a b, ← List.append_assoc]; rfl
structure Inv (s : ByteArray) (B a b k0 : Nat) (line : Int) (n : Nat) (xs : List Value) (w : World) (pos : Nat) (acc : List Tok) (v : Value) (W : World) : Prop where
 it : W.heap[k0]? = some (.stringIter s pos)
 bx : Boxed W b 44 v
 row : W.ownsRow B 48 4 v (n + acc.length) (xs ++ flatT line acc)
 ba : Boxed W a 3 (.int .i64 line)
 tch : TchB B b w W
theorem Inv.below {s : ByteArray} {B a b k0 : Nat} {line : Int} {n : Nat} {xs : List Value} {w : World} {pos : Nat} {acc : List Tok} {v : Value} {W W' : World} (h : Inv s B a b k0 line n xs w pos acc v W) (hB : B ≤ w.heap.size) (hb : Below W.heap.size W W') : Inv s B a b k0 line n xs w pos acc v W' :=
 ⟨(hb.block k0 (Array.getElem?_eq_some_iff.1 h.it).1).trans h.it, (hb.block b h.bx.lt).trans h.bx, zrb h.row hb, (hb.block a h.ba.lt).trans h.ba, h.tch.below hb hB⟩
theorem Inv.iter {s : ByteArray} {B a b k0 : Nat} {line : Int} {n : Nat} {xs : List Value} {w : World} {pos : Nat} {acc : List Tok} {v : Value} {W : World} (h : Inv s B a b k0 line n xs w pos acc v W) (hk : B ≤ k0) (hbB : b < B) (haB : a < B) (q : Nat) : Inv s B a b k0 line n xs w q acc v (W.iterAt k0 s q) := by
 refine ⟨Lib.iterAt_heap W k0 s pos q h.it, (Lib.iterAt_other W k0 b s q (by omega)).trans h.bx, ?_, (Lib.iterAt_other W k0 a s q (by omega)).trans h.ba, h.tch.os, h.tch.tape, h.tch.output, by rw [Lib.iterAt_size]; exact h.tch.size, fun k hk2 hkb => (Lib.iterAt_other W k0 k s q (by omega)).trans (h.tch.block k hk2 hkb)⟩
 obtain ⟨h3, h4⟩ := h.row
 refine ⟨h3, ?_⟩
 rcases h4 with h4 | ⟨g, cap, cur, q1, q2, q3, q4⟩
 · exact Or.inl h4
 · refine Or.inr ⟨g, cap, cur, q1, q2, (Lib.iterAt_other W k0 g s q (fun e => ?_)).trans q3, q4⟩
   rw [e, h.it] at q3
   cases q3
theorem Inv.took {s : ByteArray} {B a b k0 : Nat} {line : Int} {n : Nat} {xs : List Value} {w : World} {pos : Nat} {acc : List Tok} {v v' : Value} {W W' : World} (h : Inv s B a b k0 line n xs w pos acc v W) (hBw : B ≤ w.heap.size) (hk : B ≤ k0) (hbB : b < B) (haB : a < B) (hab : a ≠ b) (kind : Int) (T : ByteArray) (c : Nat)
   (hb : Boxed W' b 44 v') (hr : W'.ownsRow B 48 4 v' (n + acc.length + 1) ((xs ++ flatT line acc) ++ tokC kind T line (c : Int))) (ht : Tch b v.ownBlock W W') : Inv s B a b k0 line n xs w pos (acc ++ [(kind, T, c)]) v' W' := by
 have hown : ∀ g, v.ownBlock = some g → B ≤ g := fun g hg => (ownsRow_block h.row g hg).1
 refine ⟨(ht.block k0 (Array.getElem?_eq_some_iff.1 h.it).1 (by omega) (fun e => ?_)).trans h.it, hb, ?_, (ht.block a h.ba.lt hab (fun e => by have := hown a e.symm; omega)).trans h.ba, h.tch.tch ht hBw hown⟩
 · obtain ⟨_, cur, hc⟩ := ownsRow_block h.row k0 e.symm
   rw [h.it] at hc
   cases hc
 · rw [List.length_append, flatT_append, ← List.append_assoc]
   have e : flatT line [(kind, T, c)] = tokC kind T line (c : Int) := by simp [flatT]
   rw [e]
   exact hr
theorem kind_range (r : Int) : kindR r = -1 ∨ kindR r = -2 ∨ kindR r = 2 ∨ kindR r = 3 ∨ kindR r = 4 ∨ kindR r = 5 ∨ kindR r = 0 := by
 unfold kindR
 repeat' split
 all_goals simp
theorem ext_size (s : ByteArray) (p q : Nat) (h : p ≤ q) (hq : q ≤ s.size) : (s.extract p q).size = q - p := by rw [ByteArray.size_extract]; omega
def frI (s : ByteArray) (tk : Value) (k0 : Nat) (kind : Int) (x7 : Value) (col nx pos : Nat) (u : Nat → Value) : Array Value := #[.string s, tk, undef, undef, .int .i64 0, .int .i64 0, .int .i64 kind, x7, u 8, u 9, .int .i64 (col : Nat), .int .i64 (nx : Nat), .int .i64 (pos : Nat), u 13, .string s, .pointer (some ⟨k0, 0, none⟩), u 16, u 17, u 18, u 19, u 20, u 21, u 22, u 23, u 24, u 25, u 26, u 27, u 28, u 29, u 30, u 31, u 32, u 33, u 34, u 35, u 36, u 37, u 38, u 39, u 40, u 41, u 42, u 43, u 44, u 45, u 46, u 47, u 48, u 49, u 50, u 51, u 52, u 53, u 54, u 55, u 56, u 57, u 58, u 59, u 60, u 61, u 62, u 63, u 64, u 65, u 66, u 67, u 68, u 69, u 70, u 71, u 72, u 73, u 74, u 75, u 76, u 77, u 78, u 79, u 80, u 81, u 82, u 83, u 84, u 85, u 86, u 87, u 88, u 89, u 90, u 91, u 92, u 93, u 94, u 95, u 96, u 97, u 98, u 99, undef, undef]
def frO (x9 x10 : Value) (u : Nat → Value) : Array Value := #[u 0, u 1, u 2, u 3, u 4, u 5, u 6, u 7, u 8, x9, x10, u 11, u 12, u 13, u 14, u 15, u 16, u 17, u 18, u 19, u 20, u 21, u 22, u 23, u 24, u 25, u 26, u 27, u 28, u 29, u 30, u 31, u 32, u 33, u 34, u 35, u 36, u 37, u 38, u 39, u 40, u 41, u 42, u 43, u 44, u 45, u 46, u 47, u 48, u 49, u 50, u 51, u 52, u 53, u 54, u 55, u 56, u 57, u 58, u 59, u 60, u 61, u 62, u 63, u 64, u 65, u 66, u 67, u 68, u 69, u 70, u 71, u 72, u 73, u 74, u 75, u 76, u 77, u 78, u 79, u 80, u 81, u 82, u 83, u 84, u 85, u 86, u 87, u 88, u 89, u 90, u 91, u 92, u 93, u 94, u 95, u 96, u 97, u 98, u 99, u 100, u 101]
theorem jo_ret (o : List Nat) (J : Nat → Nat → Act → World → Prop) (Q : Exit → Act → World → Prop) (a : Act) (w : World) : jumpsOut o J Q .ret a w = Q .ret a w := rfl
theorem jo_exit (o : List Nat) (J : Nat → Nat → Act → World → Prop) (Q : Exit → Act → World → Prop) (i : Nat) (a : Act) (w : World) : jumpsOut o J Q (.exit i) a w = Q (.exit i) a w := rfl
theorem jo_normal (o : List Nat) (J : Nat → Nat → Act → World → Prop) (Q : Exit → Act → World → Prop) (a : Act) (w : World) : jumpsOut o J Q .normal a w = Q .normal a w := rfl
def Jo (s : ByteArray) (B b : Nat) (line : Int) (n : Nat) (xs : List Value) (w : World) (l m : Nat) (a' : Act) (W : World) : Prop :=
 m = 0 ∧ ∃ (X : Array Value) (v1 : Value), a' = { tmps := X, defers := [] } ∧ X = frO (X.getD 9 undef) (X.getD 10 undef) (fun i => X.getD i undef) ∧ Boxed W b 44 v1 ∧ W.ownsRow B 48 4 v1 (n + (cutR s).1.length) (xs ++ flatT line (cutR s).1) ∧ TchB B b w W ∧
  ((l = 0 ∧ (cutR s).2.1 = 0 ∧ (cutR s).2.2 = 0) ∨ (l = 5 ∧ X.getD 9 undef = .int .i64 (cutR s).2.1 ∧ X.getD 10 undef = .int .i64 (cutR s).2.2))
def Ji (s : ByteArray) (tk : Value) (B a b k0 : Nat) (line : Int) (n : Nat) (xs : List Value) (w : World) (pos nx col : Nat) (acc : List Tok) (v1 : Value) (l m : Nat) (a' : Act) (W : World) : Prop :=
 ∃ (X : Array Value) (kind : Int), a' = { tmps := X, defers := [] } ∧ X = frI s tk k0 kind (X.getD 7 undef) col nx pos (fun i => X.getD i undef) ∧ Inv s B a b k0 line n xs w (pos + wdt s pos) acc v1 W ∧ ¬ pos < nx ∧ kindR (rn s pos : Int) = kind ∧
  ((l = 1 ∧ m = 2 ∧ kind = 2) ∨ (l = 2 ∧ m = 2 ∧ kind = 3) ∨ (l = 3 ∧ m = 2 ∧ kind = 4) ∨ (l = 4 ∧ m = 1 ∧ ∃ sz : Nat, X.getD 7 undef = .int .i64 sz ∧ stepR s pos = .word kind sz ∧ pos + sz ≤ s.size))
set_option maxRecDepth 1000000 in
theorem cutS_any (s : ByteArray) (hs : s.size ≤ 65536) (B a b : Nat) (line : Int) (v : Value) (n : Nat) (xs : List Value) (w : World) (ha : Boxed w a 3 (.int .i64 line)) (hb : Boxed w b 44 v) (hrow : w.ownsRow B 48 4 v n xs) (hn : n ≤ 524288) (hBw : B ≤ w.heap.size) (hbB : b < B) (haB : a < B) (hab : a ≠ b) :
   Calls Tryz.prog 28 #[.string s, .func (.func 29) #[] #[.pointer (some ⟨a, 0, none⟩), .pointer (some ⟨b, 0, none⟩)]] w fun e w' => e = .returned (.tuple #[.int .i64 (cutR s).2.1, .int .i64 (cutR s).2.2]) ∧ ∃ v', Boxed w' b 44 v' ∧ w'.ownsRow B 48 4 v' (n + (cutR s).1.length) (xs ++ flatT line (cutR s).1) ∧ TchB B b w w' := by
 go_enter Tryz.func28, Tryz.ntmps28
 go_wp2
 refine wp_scope_out [] (Jo s B b line n xs w) (fun l h => by cases h) ?_ ?_
 · go_wp2
   go_loopw [10, 11] (fun c x wz => ∃ (pos nx col f : Nat) (acc : List Tok) (v1 : Value), c = .int .i64 col ∧ x = .int .i64 nx ∧ s.size < pos + f ∧ acc.length ≤ pos ∧ col ≤ pos ∧ pos ≤ s.size ∧ nx ≤ s.size ∧ Hid (cutAt s f pos nx col acc = cutR s) ∧ Inv s B a b w.heap.size line n xs w pos acc v1 wz) (fun _ _ wz => s.size - wz.iterPos w.heap.size)
   case atStart =>
     refine ⟨0, 0, 0, s.size + 1, [], v, rfl, rfl, by omega, by simp, by omega, by omega, by omega, rfl, World.iter_heap w s 0, hb.alloc _, ?_, ha.alloc _, ?_⟩
     · have e : xs ++ flatT line [] = xs := by simp [flatT]
       rw [e]
       exact hrow.alloc (.stringIter s 0)
     · have hb0 : Below w.heap.size w (w.alloc (.stringIter s 0)) := (Below.refl _ w).alloc (Nat.le_refl _) _
       exact ⟨rfl, rfl, rfl, hb0.size, fun k hk _ => hb0.block k (by omega)⟩
   case round =>
     obtain ⟨pos, nx, col, f, acc, v1, rfl, rfl, hfu, hac, hcp, hps, hnxs, HC, hI⟩ := hrel
     have hit := hI.it
     have hsz : w.heap.size < wr.heap.size := (Array.getElem?_eq_some_iff.1 hit).1
     obtain ⟨g, rfl⟩ : ∃ g, f = g + 1 := ⟨f - 1, by omega⟩
     by_cases hp : pos < s.size
     case neg =>
       have hnx : ∀ ty, (Instr.next (.pointer (some ⟨w.heap.size, 0, none⟩)) true ty).run Tryz.prog wr = _ := fun ty => Lib.run_next_end_at wr w.heap.size s pos ty hit hp
       have HV : Hid (cutR s = (acc, 0, 0)) := by show cutR s = _; rw [← HC.out, cut_end s g pos nx col acc hp]
       clear HC
       go_wp2
       go_step3
       go_wp2
       rw [jo_ret]
       go_ret2
       rw [HV.out]
       exact ⟨rfl, v1, hI.bx, hI.row, hI.tch⟩
     have hnx : ∀ ty, (Instr.next (.pointer (some ⟨w.heap.size, 0, none⟩)) true ty).run Tryz.prog wr = _ := fun ty => Lib.run_next_any_at wr w.heap.size s pos ty hit hp
     have hwd := wdt_pos s pos
     have hwl := wdt_le s pos hp
     have erw : (Utf8.decode s pos).1 = rn s pos := rfl
     have eww : (Utf8.decode s pos).2 = wdt s pos := rfl
     rw [erw, eww] at hnx
     clear erw eww
     have hit2 := Lib.iterAt_heap wr w.heap.size s pos (pos + wdt s pos) hit
     have hsz3 : wr.iterPos w.heap.size = pos := by simp only [World.iterPos, hit]
     have hI2 : Inv s B a b w.heap.size line n xs w (pos + wdt s pos) acc v1 (wr.iterAt w.heap.size s (pos + wdt s pos)) := hI.iter hBw hbB haB _
     generalize wr.iterAt w.heap.size s (pos + wdt s pos) = W2 at *
     go_wp2
     refine wp_scope_out [0, 5] (Ji s (.func (.func 29) #[] #[.pointer (some ⟨a, 0, none⟩), .pointer (some ⟨b, 0, none⟩)]) B a b w.heap.size line n xs w pos nx (col + 1) acc v1) (by
       intro l hl
       simp only [List.mem_cons, List.mem_nil_iff, or_false] at hl
       rcases hl with rfl | rfl <;> rfl) ?_ ?_
     · by_cases hin : pos < nx
       · have HV : Hid (cutAt s g (pos + wdt s pos) nx (col + 1) acc = cutR s) := by show cutAt s g (pos + wdt s pos) nx (col + 1) acc = _; rw [← HC.out, cut_skip s g pos nx col acc hp hin]
         have hini : (pos : Int) < (nx : Int) := by omega
         have hI9 := hI2
         clear HC
         go_wp2
         rw [jo_exit]
         go_wp2
         go_roundw
         case rel => exact ⟨pos + wdt s pos, nx, col + 1, g, acc, v1, by go_num, rfl, by omega, by omega, by omega, hwl, hnxs, HV, hI9⟩
         case measure =>
           rw [hsz3]
           simp only [World.iterPos, hI9.it]
           omega
       · have hini : ¬ (pos : Int) < (nx : Int) := by omega
         have HS := HC.out.symm.trans (cut_step s g pos nx col acc hp hin)
         clear HC
         by_cases k1 : kindR (rn s pos : Int) = -1
         · have hst : stepR s pos = .gap := by rw [stepR, if_pos k1]
           rw [hst] at HS
           have HV : Hid (cutAt s g (pos + wdt s pos) nx (col + 1) acc = cutR s) := HS.symm
           have hk := k1
           clear HS hst
           go_wp2_with (go_at_call 105; refine (kindAt_any _ _).mono ?_; rintro e W9 ⟨rfl, hb9⟩; rw [hk]; have hI9 := hI2.below hBw hb9)
           rw [jo_exit]
           go_wp2
           go_roundw
           case rel => exact ⟨pos + wdt s pos, nx, col + 1, g, acc, v1, by go_num, rfl, by omega, by omega, by omega, hwl, hnxs, HV, hI9⟩
           case measure =>
            rw [hsz3]
            simp only [World.iterPos, hI9.it]
            omega
         by_cases k2 : kindR (rn s pos : Int) = -2
         · have hst : stepR s pos = .stop := by rw [stepR, if_neg k1, if_pos k2]
           rw [hst] at HS
           have HV : Hid (cutR s = (acc, 0, 0)) := HS
           have hk := k2
           clear HS hst
           go_wp2_with (go_at_call 105; refine (kindAt_any _ _).mono ?_; rintro e W9 ⟨rfl, hb9⟩; rw [hk]; have hI9 := hI2.below hBw hb9)
           go_step3
           refine Or.inl ⟨by simp, ?_⟩
           refine Or.inr ⟨0, rfl, _, v1, rfl, rfl, hI9.bx, ?_, hI9.tch, Or.inl ⟨rfl, by rw [HV.out], by rw [HV.out]⟩⟩
           rw [HV.out]
           exact hI9.row
         have HS2 : Hid (cutR s = _) := HS
         clear HS
         by_cases k3 : kindR (rn s pos : Int) = 2
         · have hk := k3
           go_wp2_with (go_at_call 105; refine (kindAt_any _ _).mono ?_; rintro e W9 ⟨rfl, hb9⟩; rw [hk]; have hI9 := hI2.below hBw hb9)
           go_step3
           exact Or.inr ⟨2, _, 2, rfl, rfl, hI9, hin, hk, Or.inl ⟨rfl, rfl, rfl⟩⟩
         by_cases k4 : kindR (rn s pos : Int) = 3
         · have hk := k4
           go_wp2_with (go_at_call 105; refine (kindAt_any _ _).mono ?_; rintro e W9 ⟨rfl, hb9⟩; rw [hk]; have hI9 := hI2.below hBw hb9)
           go_step3
           exact Or.inr ⟨2, _, 3, rfl, rfl, hI9, hin, hk, Or.inr (Or.inl ⟨rfl, rfl, rfl⟩)⟩
         by_cases k5 : kindR (rn s pos : Int) = 4
         · have hk := k5
           go_wp2_with (go_at_call 105; refine (kindAt_any _ _).mono ?_; rintro e W9 ⟨rfl, hb9⟩; rw [hk]; have hI9 := hI2.below hBw hb9)
           go_step3
           exact Or.inr ⟨2, _, 4, rfl, rfl, hI9, hin, hk, Or.inr (Or.inr (Or.inl ⟨rfl, rfl, rfl⟩))⟩
         by_cases k6 : kindR (rn s pos : Int) = 5
         · have HT : Hid (stepR s pos = .word 5 1) := by show stepR s pos = _; rw [stepR, if_neg k1, if_neg k2, if_neg k3, if_neg k4, if_neg k5, if_pos k6]
           have hk := k6
           go_wp2_with (go_at_call 105; refine (kindAt_any _ _).mono ?_; rintro e W9 ⟨rfl, hb9⟩; rw [hk]; have hI9 := hI2.below hBw hb9)
           go_step3
           exact Or.inr ⟨1, _, 5, rfl, rfl, hI9, hin, hk, Or.inr (Or.inr (Or.inr ⟨rfl, rfl, 1, rfl, HT.out, by omega⟩))⟩
         · have hk : kindR (rn s pos : Int) = 0 := by rcases kind_range (rn s pos : Int) with h | h | h | h | h | h | h <;> first | exact h | exact absurd h ‹_›
           have hst : stepR s pos = .bad 20 0 := by rw [stepR, if_neg k1, if_neg k2, if_neg k3, if_neg k4, if_neg k5, if_neg k6]
           have h := HS2.out
           rw [hst] at h
           have HV : Hid (cutR s = (acc, 20, col + 1 + 0)) := h
           clear h hst HS2
           go_wp2_with (go_at_call 105; refine (kindAt_any _ _).mono ?_; rintro e W9 ⟨rfl, hb9⟩; rw [hk]; have hI9 := hI2.below hBw hb9)
           go_step3
           refine Or.inl ⟨by simp, ?_⟩
           refine Or.inr ⟨0, rfl, _, v1, rfl, rfl, hI9.bx, ?_, hI9.tch, Or.inr ⟨rfl, by rw [HV.out]; rfl, by rw [HV.out]; rfl⟩⟩
           rw [HV.out]
           exact hI9.row
     · rintro l m a2 W ⟨X, kind, rfl, hX, hIW, hin, hk, hcase⟩
       have HS := HC.out.symm.trans (cut_step s g pos nx col acc hp hin)
       clear HC
       generalize X.getD 7 undef = x7 at hX hcase
       generalize (fun i => X.getD i undef) = u at hX
       subst hX
       simp only [frI]
       have hpi : (pos : Int) ≤ (s.size : Int) := by omega
       have hxe := ext_size s pos s.size (by omega) (Nat.le_refl _)
       have hxm : (s.extract pos s.size).size ≤ maxLen := by unfold maxLen; omega
       rcases hcase with ⟨rfl, rfl, rfl⟩ | ⟨rfl, rfl, rfl⟩ | ⟨rfl, rfl, rfl⟩ | ⟨rfl, rfl, sz, rfl, hst, hsl⟩
       · have hrun := run_any (s.extract pos s.size) hxm
         have hrl := runR_le (s.extract pos s.size)
         have hst : stepR s pos = if 128 < (runR (s.extract pos s.size)).2 then .bad 22 0 else .word 2 (runR (s.extract pos s.size)).1 := by
           rw [stepR, hk, if_neg (by decide), if_neg (by decide), if_pos rfl]
         generalize runR (s.extract pos s.size) = R at hrun hrl hst
         obtain ⟨sz, ch⟩ := R
         dsimp only at hrun hrl hst
         refine ⟨_, rfl, ?_⟩
         by_cases hch : 128 < ch
         · rw [if_pos hch] at hst
           rw [hst] at HS
           have HV : Hid (cutR s = (acc, 22, col + 1 + 0)) := HS
           have hci : 128 < (ch : Int) := by omega
           clear HS hst hk
           go_wp2_with (go_at_call 106; refine (hrun _).mono ?_; rintro e W5 ⟨rfl, hb5⟩; have hI5 := hIW.below hBw hb5)
           go_step3
           refine Or.inl ⟨by simp, ?_⟩
           refine Or.inr ⟨0, rfl, _, v1, rfl, rfl, hI5.bx, ?_, hI5.tch, Or.inr ⟨rfl, by rw [HV.out]; rfl, by rw [HV.out]; rfl⟩⟩
           rw [HV.out]
           exact hI5.row
         · rw [if_neg hch] at hst
           have HT : Hid (stepR s pos = .word 2 sz) := hst
           have hci : ¬ 128 < (ch : Int) := by omega
           have HK : Hid (kindR (rn s pos : Int) = 2) := hk
           clear HS hst hk
           go_wp2_with (go_at_call 106; refine (hrun _).mono ?_; rintro e W5 ⟨rfl, hb5⟩; have hI5 := hIW.below hBw hb5)
           go_step3
           exact Or.inr ⟨1, by omega, _, 2, rfl, rfl, hI5, hin, HK.out, Or.inr (Or.inr (Or.inr ⟨rfl, rfl, sz, rfl, HT.out, by omega⟩))⟩
       · have hrun := run_any (s.extract pos s.size) hxm
         have hrl := runR_le (s.extract pos s.size)
         have hst : stepR s pos = if numR (s.extract pos (pos + (runR (s.extract pos s.size)).1)) = none then .bad 21 0 else .word 3 (runR (s.extract pos s.size)).1 := by
           rw [stepR, hk, if_neg (by decide), if_neg (by decide), if_neg (by decide), if_pos rfl]
         generalize runR (s.extract pos s.size) = R at hrun hrl hst
         obtain ⟨sz, ch⟩ := R
         dsimp only at hrun hrl hst
         have hsi : (pos : Int) + sz ≤ (s.size : Int) := by omega
         have hnum := number_any (s.extract pos (pos + sz)) (by unfold maxLen; rw [ext_size s pos (pos + sz) (by omega) (by omega)]; omega)
         refine ⟨_, rfl, ?_⟩
         cases ho : numR (s.extract pos (pos + sz)) with
         | none =>
           rw [ho] at hnum
           unfold numV at hnum
           rw [if_pos ho] at hst
           rw [hst] at HS
           have HV : Hid (cutR s = (acc, 21, col + 1 + 0)) := HS
           clear HS hst hk ho
           go_wp2_with (first | (go_at_call 106; refine (hrun _).mono ?_; rintro e W5 ⟨rfl, hb5⟩; have hI5 := hIW.below hBw hb5) | (go_at_call 107; refine (hnum _).mono ?_; rintro e W4 ⟨rfl, hb4⟩; have hI4 := hI5.below hBw hb4))
           go_step3
           refine Or.inl ⟨by simp, ?_⟩
           refine Or.inr ⟨0, rfl, _, v1, rfl, rfl, hI4.bx, ?_, hI4.tch, Or.inr ⟨rfl, by rw [HV.out]; rfl, by rw [HV.out]; rfl⟩⟩
           rw [HV.out]
           exact hI4.row
         | some val =>
           rw [ho] at hnum
           unfold numV at hnum
           rw [if_neg (by rw [ho]; simp)] at hst
           have HT : Hid (stepR s pos = .word 3 sz) := hst
           have HK : Hid (kindR (rn s pos : Int) = 3) := hk
           clear HS hst hk ho
           go_wp2_with (first | (go_at_call 106; refine (hrun _).mono ?_; rintro e W5 ⟨rfl, hb5⟩; have hI5 := hIW.below hBw hb5) | (go_at_call 107; refine (hnum _).mono ?_; rintro e W4 ⟨rfl, hb4⟩; have hI4 := hI5.below hBw hb4))
           go_step3
           exact Or.inr ⟨1, by omega, _, 3, rfl, rfl, hI4, hin, HK.out, Or.inr (Or.inr (Or.inr ⟨rfl, rfl, sz, rfl, HT.out, by omega⟩))⟩
       · have hlead := leading_any (s.extract pos s.size) (by omega)
         unfold leadV at hlead
         have hrl := leadR_le (s.extract pos s.size)
         have hst : stepR s pos = if (leadR (s.extract pos s.size)).2.2 ≠ 0 then .bad (leadR (s.extract pos s.size)).2.2 (starts (s.extract pos (pos + (leadR (s.extract pos s.size)).2.1))).length else .word 4 (leadR (s.extract pos s.size)).2.1 := by
           rw [stepR, hk, if_neg (by decide), if_neg (by decide), if_neg (by decide), if_neg (by decide), if_pos rfl]
         generalize leadR (s.extract pos s.size) = R at hlead hrl hst
         obtain ⟨lb, sz, er⟩ := R
         dsimp only at hlead hrl hst
         have hsi : (pos : Int) + sz ≤ (s.size : Int) := by omega
         have hcm : (s.extract pos (pos + sz)).size ≤ maxLen := by unfold maxLen; rw [ext_size s pos (pos + sz) (by omega) (by omega)]; omega
         have hsl2 := starts_length (s.extract pos (pos + sz))
         rw [ext_size s pos (pos + sz) (by omega) (by omega)] at hsl2
         refine ⟨_, rfl, ?_⟩
         by_cases he : er = 0
         · subst he
           rw [if_neg (by simp)] at hst
           rw [hst] at HS
           have HV : Hid (cutAt s g (pos + wdt s pos) (pos + sz) (col + 1) (acc ++ [(4, s.extract pos (pos + sz), col + 1)]) = cutR s) := HS.symm
           clear HS hst hk
           go_wp2_with (go_at_call 108; refine (hlead _).mono ?_; rintro e W5 ⟨rfl, hb5⟩; have hI5 := hIW.below hBw hb5)
           go_step3
           go_wp2_with (go_at_call 29; refine (take_any B a b 4 ((col + 1 : Nat) : Int) line 0 (s.extract pos (pos + sz)) (by rw [ext_size s pos (pos + sz) (by omega) (by omega)]; omega) v1 (n + acc.length) (xs ++ flatT line acc) _ hI5.ba hI5.bx hI5.row (by omega) (Nat.le_trans hBw hI5.tch.size) hbB).mono ?_; rintro e W6 ⟨rfl, v6, hb6, hr6, ht6⟩)
           rw [jo_normal]
           have hI6 := hI5.took hBw hBw hbB haB hab 4 (s.extract pos (pos + sz)) (col + 1) hb6 hr6 ht6
           go_wp2
           go_roundw
           case rel => exact ⟨pos + wdt s pos, pos + sz, col + 1, g, _, v6, rfl, rfl, by omega, by rw [List.length_append]; simp; omega, by omega, hwl, by omega, HV, hI6⟩
           case measure =>
            rw [hsz3]
            simp only [World.iterPos, hI6.it]
            omega
         · rw [if_pos he] at hst
           rw [hst] at HS
           have HV : Hid (cutR s = (acc, er, col + 1 + (starts (s.extract pos (pos + sz))).length)) := HS
           have hei : ((er : Int) == 0) = false := beq_eq_false_iff_ne.2 (by omega)
           clear HS hst hk
           go_wp2_with (first | (go_at_call 108; refine (hlead _).mono ?_; rintro e W5 ⟨rfl, hb5⟩; have hI5 := hIW.below hBw hb5) | (go_at_call 31; refine (count_any (s.extract pos (pos + sz)) hcm _).mono ?_; rintro e W4 ⟨rfl, hb4⟩; have hI4 := hI5.below hBw hb4))
           go_step3
           refine Or.inl ⟨by simp, ?_⟩
           refine Or.inr ⟨0, rfl, _, v1, rfl, rfl, hI4.bx, ?_, hI4.tch, Or.inr ⟨rfl, by rw [HV.out]; rfl, by rw [HV.out]; rfl⟩⟩
           rw [HV.out]
           exact hI4.row
       · rw [hst] at HS
         have HV : Hid (cutAt s g (pos + wdt s pos) (pos + sz) (col + 1) (acc ++ [(kind, s.extract pos (pos + sz), col + 1)]) = cutR s) := HS.symm
         have hsi : (pos : Int) + sz ≤ (s.size : Int) := by omega
         refine ⟨_, rfl, ?_⟩
         clear HS hst hk
         go_wp2_with (go_at_call 29; refine (take_any B a b kind ((col + 1 : Nat) : Int) line 0 (s.extract pos (pos + sz)) (by rw [ext_size s pos (pos + sz) (by omega) (by omega)]; omega) v1 (n + acc.length) (xs ++ flatT line acc) _ hIW.ba hIW.bx hIW.row (by omega) (Nat.le_trans hBw hIW.tch.size) hbB).mono ?_; rintro e W6 ⟨rfl, v6, hb6, hr6, ht6⟩)
         rw [jo_normal]
         have hI6 := hIW.took hBw hBw hbB haB hab kind (s.extract pos (pos + sz)) (col + 1) hb6 hr6 ht6
         go_wp2
         go_roundw
         case rel => exact ⟨pos + wdt s pos, pos + sz, col + 1, g, _, v6, rfl, rfl, by omega, by rw [List.length_append]; simp; omega, by omega, hwl, by omega, HV, hI6⟩
         case measure =>
           rw [hsz3]
           simp only [World.iterPos, hI6.it]
           omega
 · rintro l m a2 W ⟨rfl, X, v1, rfl, hX, h1, h2, h3, hcase⟩
   generalize X.getD 9 undef = x9 at *
   generalize X.getD 10 undef = x10 at *
   generalize (fun i => X.getD i undef) = u at *
   subst hX
   simp only [frO]
   rcases hcase with ⟨rfl, e1, e2⟩ | ⟨rfl, rfl, rfl⟩
   · refine ⟨_, rfl, ?_⟩
     go_wp2
     rw [jo_ret]
     go_ret2
     rw [e1, e2]
     exact ⟨rfl, v1, h1, h2, h3⟩
   · refine ⟨_, rfl, ?_⟩
     go_wp2
     rw [jo_ret]
     go_ret2
     exact ⟨rfl, v1, h1, h2, h3⟩
def lineN (x : ByteArray) : Nat := if (cutR x).1.length = 0 then 0 else (cutR x).1.length + 1
def lineT (ln : Nat) (x : ByteArray) : List Value := if (cutR x).1.length = 0 then [] else flatT ln (cutR x).1 ++ tokC 1 ⟨#[10]⟩ ln (((starts x).length + 1 : Nat) : Int)
def kkL : List ByteArray → Nat
 | [] => 0
 | x :: t => lineN x + kkL t
def xxL : Nat → List ByteArray → List Value
 | _, [] => []
 | n, x :: t => lineT (n + 1) x ++ xxL (n + 1) t
theorem kkL_snoc (x : ByteArray) : ∀ l : List ByteArray, kkL (l ++ [x]) = kkL l + lineN x
 | [] => by simp [kkL]
 | y :: l => by rw [List.cons_append, kkL, kkL_snoc x l, kkL]; omega
theorem xxL_snoc (x : ByteArray) : ∀ (n : Nat) (l : List ByteArray), xxL n (l ++ [x]) = xxL n l ++ lineT (n + l.length + 1) x
 | n, [] => by simp [xxL]
 | n, y :: l => by
  rw [List.cons_append, xxL, xxL_snoc x (n + 1) l, xxL, List.append_assoc, List.length_cons]
  congr 3
  omega
theorem cutAt_len (s : ByteArray) : ∀ (f p nx col : Nat) (acc : List Tok), (cutAt s f p nx col acc).1.length ≤ acc.length + f
 | 0, _, _, _, acc => by simp [cutAt]
 | f + 1, p, nx, col, acc => by
  by_cases h : p < s.size
  · by_cases hn : p < nx
    · rw [cut_skip s f p nx col acc h hn]
      have := cutAt_len s f (p + wdt s p) nx (col + 1) acc
      omega
    · rw [cut_step s f p nx col acc h hn]
      cases hst : stepR s p with
      | gap => have := cutAt_len s f (p + wdt s p) nx (col + 1) acc; dsimp only; omega
      | stop => dsimp only; omega
      | bad e off => dsimp only; omega
      | word k sz =>
       have := cutAt_len s f (p + wdt s p) (p + sz) (col + 1) (acc ++ [(k, s.extract p (p + sz), col + 1)])
       simp at this
       dsimp only
       omega
  · rw [cut_end s f p nx col acc h]
    dsimp only
    omega
theorem cutR_len (x : ByteArray) : (cutR x).1.length ≤ x.size + 1 := by
 have := cutAt_len x (x.size + 1) 0 0 0 []
 simpa [cutR] using this
theorem kkL_le : ∀ l : List ByteArray, kkL l ≤ 2 * (l.map (fun x => x.size + 1)).sum
 | [] => by simp [kkL]
 | x :: l => by
  have := kkL_le l
  have h := cutR_len x
  have : lineN x ≤ x.size + 2 := by unfold lineN; split <;> omega
  rw [kkL, List.map_cons, List.sum_cons]
  omega
theorem lines_sum : ∀ (f : Nat) (s : ByteArray), s.size ≤ f → ((linesAux f s).map (fun x => x.size + 1)).sum = s.size + 1
 | 0, s, h => by simp [linesAux]
 | f + 1, s, h => by
  by_cases hn : nlAt s < 0
  · rw [lines_last hn]; simp
  · obtain ⟨n, e⟩ := Int.eq_ofNat_of_zero_le (show 0 ≤ nlAt s by omega)
    have hb := nl_bounds s
    have e1 : (s.extract 0 n).size = n := by rw [ByteArray.size_extract]; omega
    have e2 : (s.extract (n + 1) s.size).size = s.size - (n + 1) := by rw [ByteArray.size_extract]; omega
    rw [lines_more e, List.map_cons, List.sum_cons, lines_sum f _ (by omega), e1, e2]
    omega
theorem sum_prefix : ∀ {a b : List ByteArray}, a <+: b → (a.map (fun x => x.size + 1)).sum ≤ (b.map (fun x => x.size + 1)).sum := by
 rintro a b ⟨c, rfl⟩
 rw [List.map_append, List.sum_append]
 omega
theorem kk_pre {s : ByteArray} {pre : List ByteArray} (h : pre <+: linesOf s) : kkL pre ≤ 2 * (s.size + 1) := by
 have h1 := kkL_le pre
 have h2 := sum_prefix h
 have h3 := lines_sum s.size s (Nat.le_refl _)
 unfold linesOf at h2
 omega
theorem line_size {s : ByteArray} {pre : List ByteArray} {x : ByteArray} (h : pre ++ [x] <+: linesOf s) : x.size ≤ s.size ∧ pre.length ≤ s.size := by
 have h2 := sum_prefix h
 have h3 := lines_sum s.size s (Nat.le_refl _)
 unfold linesOf at h2
 rw [List.map_append, List.sum_append, List.map_cons, List.map_nil, List.sum_cons, List.sum_nil, h3] at h2
 have h4 : pre.length ≤ (pre.map (fun x => x.size + 1)).sum := by
  clear h h2 h3
  induction pre with
  | nil => simp
  | cons y t ih => rw [List.map_cons, List.sum_cons, List.length_cons]; omega
 omega
def badL : List ByteArray → Option (Nat × Nat × Nat)
 | [] => none
 | x :: t => if (cutR x).2.1 ≠ 0 then some (0, (cutR x).2.1, (cutR x).2.2) else (badL t).map (fun r => (r.1 + 1, r.2))
theorem badL_snoc (x : ByteArray) : ∀ l : List ByteArray, badL l = none → badL (l ++ [x]) = if (cutR x).2.1 ≠ 0 then some (l.length, (cutR x).2.1, (cutR x).2.2) else none
 | [], _ => by simp [badL]
 | y :: l, h => by
  rw [badL] at h
  by_cases hy : (cutR y).2.1 ≠ 0
  · rw [if_pos hy] at h; cases h
  · rw [if_neg hy] at h
    have h2 : badL l = none := by simpa using h
    rw [List.cons_append, badL, if_neg hy, badL_snoc x l h2]
    split <;> simp
theorem badL_prefix : ∀ {a b : List ByteArray} {r : Nat × Nat × Nat}, a <+: b → badL a = some r → badL b = some r := by
 rintro a b r ⟨c, rfl⟩
 induction a generalizing r with
 | nil => intro h; cases h
 | cons y t ih =>
  intro h
  rw [badL] at h
  rw [List.cons_append, badL]
  by_cases hy : (cutR y).2.1 ≠ 0
  · rw [if_pos hy] at h ⊢; exact h
  · rw [if_neg hy] at h ⊢
    cases hb : badL t with
    | none => rw [hb] at h; cases h
    | some q =>
     rw [ih hb]
     rw [hb] at h
     exact h
end Go.Proofs.YtmahamdmapbilaaGreatDoor
namespace Go.Proofs.YtmahamdmapbilaaGreatDoor
open Go.RowKit
def bindsOn (md : Region.Mode) (o : Oper) (j : Nat) : Bool := o.after.toList.any fun e => Region.binds md e && (e.on == j)
def dstAt (ops : Array Oper) (j : Nat) : Option Nat := match ops[j]? with | some o => o.dst | none => none
def waitsAt (md : Region.Mode) (ops : Array Oper) (j i : Nat) : Bool := match ops[j]? with | some o => bindsOn md o i | none => false
def rdv (md : Region.Mode) (ops : Array Oper) (X0 : Array Value) (val : Nat → Value) (i : Nat) (o : Oper) (s : Nat) : Option Value :=
 match (List.range ops.size).find? (fun j => bindsOn md o j && (dstAt ops j == some s)) with
 | some j => some (val j)
 | none => if (List.range ops.size).all (fun j => dstAt ops j != some s || (j == i || waitsAt md ops j i)) then some (X0.getD s undef) else none
def finL (val : Nat → Value) : List Oper → Nat → Array Value → Array Value
 | [], _, X => X
 | o :: r, i, X => finL val r (i + 1) (match o.dst with | some s => X.setIfInBounds s (val i) | none => X)
def tabOk (md : Region.Mode) (ops : Array Oper) (n : Nat) : Bool :=
 (List.range ops.size).all fun i => (match ops[i]? with | some o => o.after.toList.all (fun e => !Region.binds md e || decide (e.on < i)) | none => true) &&
  (match dstAt ops i with | some s => decide (s < n) && (List.range ops.size).all (fun j => j == i || dstAt ops j != some s) | none => true)
structure TabSt (md : Region.Mode) (ops : Array Oper) (X0 : Array Value) (df : List Deferred) (val : Nat → Value) (listed : Array Bool) (a : Act) : Prop where
 size : listed.size = ops.size
 width : a.tmps.size = X0.size
 dfs : a.defers = df
 closed : ∀ j oj, ops[j]? = some oj → listed.getD j false = true → ∀ e ∈ oj.after, Region.binds md e = true → listed.getD e.on false = true
 done : ∀ j s, dstAt ops j = some s → listed.getD j false = true → a.tmps.getD s undef = val j
 old : ∀ s, (∀ j, dstAt ops j = some s → listed.getD j false = false) → a.tmps.getD s undef = X0.getD s undef
theorem bindsOn_iff {md : Region.Mode} {o : Oper} {j : Nat} : bindsOn md o j = true ↔ ∃ e ∈ o.after, Region.binds md e = true ∧ e.on = j := by
 constructor
 · intro h
   obtain ⟨e, he, hb⟩ := List.any_eq_true.1 h
   simp only [Bool.and_eq_true, beq_iff_eq] at hb
   exact ⟨e, Array.mem_toList_iff.1 he, hb.1, hb.2⟩
 · rintro ⟨e, he, hb, rfl⟩
   exact List.any_eq_true.2 ⟨e, Array.mem_toList_iff.2 he, by simp [hb]⟩
theorem dstAt_lt {ops : Array Oper} {j s : Nat} (h : dstAt ops j = some s) : ∃ o, ops[j]? = some o ∧ o.dst = some s := by
 unfold dstAt at h
 split at h
 · rename_i o ho; exact ⟨o, ho, h⟩
 · cases h
theorem getElem?_lt {α : Type} {xs : Array α} {j : Nat} {x : α} (h : xs[j]? = some x) : j < xs.size := (Array.getElem?_eq_some_iff.1 h).1
theorem TabSt.reads {md : Region.Mode} {ops : Array Oper} {X0 : Array Value} {df : List Deferred} {val : Nat → Value} {listed : Array Bool} {a : Act} (h : TabSt md ops X0 df val listed a)
   {i : Nat} {o : Oper} (_hi : ops[i]? = some o) (hun : listed.getD i false = false) (hr : ∀ e ∈ o.after, Region.binds md e = true → listed.getD e.on false = true)
   (s : Nat) (v : Value) (hv : rdv md ops X0 val i o s = some v) : a.tmps.getD s undef = v := by
 unfold rdv at hv
 split at hv
 · rename_i j hj
   have h1 := List.find?_some hj
   simp only [Bool.and_eq_true, beq_iff_eq] at h1
   obtain ⟨e, he, hb, rfl⟩ := bindsOn_iff.1 h1.1
   cases hv
   exact h.done _ s h1.2 (hr e he hb)
 · split at hv
   · rename_i hall
     cases hv
     refine h.old s (fun j hj => ?_)
     obtain ⟨oj, hoj, hd⟩ := dstAt_lt hj
     have := List.all_eq_true.1 hall j (List.mem_range.2 (getElem?_lt hoj))
     simp only [hj, bne_self_eq_false, Bool.false_or, Bool.or_eq_true, beq_iff_eq] at this
     rcases this with rfl | hw
     · exact hun
     · cases hl : listed.getD j false with
       | false => rfl
       | true =>
        unfold waitsAt at hw
        rw [hoj] at hw
        obtain ⟨e, he, hb, rfl⟩ := bindsOn_iff.1 hw
        rw [h.closed j oj hoj hl e he hb] at hun
        cases hun
   · cases hv
theorem getD_set {α : Type} (xs : Array α) (i j : Nat) (v d : α) : (xs.setIfInBounds i v).getD j d = if i = j ∧ i < xs.size then v else xs.getD j d := by
 simp only [Array.getD_eq_getD_getElem?, Array.getElem?_setIfInBounds]
 by_cases h : i = j
 · subst h
   by_cases h2 : i < xs.size
   · simp [h2]
   · simp [h2]
 · simp [h]
theorem TabSt.put {md : Region.Mode} {ops : Array Oper} {X0 : Array Value} {df : List Deferred} {val val' : Nat → Value} {listed : Array Bool} {a : Act} (h : TabSt md ops X0 df val listed a)
   (hok : tabOk md ops X0.size = true) {i : Nat} {o : Oper} (hi : ops[i]? = some o) (hr : ∀ e ∈ o.after, Region.binds md e = true → listed.getD e.on false = true)
   (hv : ∀ j, listed.getD j false = true → val' j = val j) (hun : listed.getD i false = false) :
   TabSt md ops X0 df val' (listed.setIfInBounds i true) (a.put o.dst (val' i)) := by
 have hil := getElem?_lt hi
 have hk := List.all_eq_true.1 hok i (List.mem_range.2 hil)
 rw [hi] at hk
 simp only [Bool.and_eq_true] at hk
 have hdi : dstAt ops i = o.dst := by unfold dstAt; rw [hi]
 have hd2 : ∀ s, o.dst = some s → s < X0.size ∧ ∀ j, dstAt ops j = some s → j = i := by
   intro s hs
   have h2 := hk.2
   rw [hdi, hs] at h2
   simp only [Bool.and_eq_true, decide_eq_true_eq] at h2
   refine ⟨h2.1, fun j hj => ?_⟩
   obtain ⟨oj, hoj, _⟩ := dstAt_lt hj
   have := List.all_eq_true.1 h2.2 j (List.mem_range.2 (getElem?_lt hoj))
   simpa [hj] using this
 have hL : ∀ j, (listed.setIfInBounds i true).getD j false = true → j = i ∨ listed.getD j false = true := by
   intro j hj
   rw [getD_set] at hj
   by_cases e : i = j
   · exact .inl e.symm
   · rw [if_neg (fun c => e c.1)] at hj; exact .inr hj
 have hL2 : ∀ j, listed.getD j false = true → (listed.setIfInBounds i true).getD j false = true := by
   intro j hj
   rw [getD_set]
   split
   · rfl
   · exact hj
 have hLi : (listed.setIfInBounds i true).getD i false = true := by rw [getD_set, if_pos ⟨rfl, by rw [h.size]; exact hil⟩]
 have hP : ∀ s, (a.put o.dst (val' i)).tmps.getD s undef = if o.dst = some s then val' i else a.tmps.getD s undef := by
   intro s
   cases hd : o.dst with
   | none => simp [Act.put]
   | some t =>
     simp only [Act.put, getD_set, Option.some.injEq]
     by_cases e : t = s
     · subst e; rw [if_pos ⟨rfl, by rw [h.width]; exact (hd2 t hd).1⟩, if_pos rfl]
     · rw [if_neg (fun c => e c.1), if_neg e]
 refine ⟨by simp [h.size], ?_, ?_, ?_, ?_, ?_⟩
 · cases hd : o.dst <;> simp [Act.put, h.width]
 · cases hd : o.dst <;> simp [Act.put, h.dfs]
 · intro j oj hoj hj e he hb
   rcases hL j hj with rfl | hj
   · rw [hi] at hoj; cases hoj; exact hL2 _ (hr e he hb)
   · exact hL2 _ (h.closed j oj hoj hj e he hb)
 · intro j s hs hj
   rw [hP]
   split
   · rename_i hd
     rw [(hd2 s hd).2 j hs]
   · rename_i hd
     rcases hL j hj with rfl | hj
     · rw [hdi] at hs; exact absurd hs hd
     · rw [hv j hj]; exact h.done j s hs hj
 · intro s hs
   rw [hP, if_neg]
   · refine h.old s (fun j hj => ?_)
     cases hl : listed.getD j false with
     | false => rfl
     | true => have := hs j hj; rw [hL2 j hl] at this; cases this
   · intro hd
     have := hs i (by rw [hdi, hd])
     rw [hLi] at this
     cases this
theorem finL_size (val : Nat → Value) : ∀ (l : List Oper) (i : Nat) (X : Array Value), (finL val l i X).size = X.size
 | [], _, X => rfl
 | o :: r, i, X => by
  rw [finL, finL_size val r]
  cases o.dst <;> simp
theorem finL_old (val : Nat → Value) (s : Nat) : ∀ (l : List Oper) (i : Nat) (X : Array Value), (∀ o ∈ l, o.dst ≠ some s) → (finL val l i X).getD s undef = X.getD s undef
 | [], _, X, _ => rfl
 | o :: r, i, X, h => by
  rw [finL, finL_old val s r (i + 1) _ (fun o' ho' => h o' (List.mem_cons_of_mem _ ho'))]
  have := h o (List.mem_cons_self ..)
  cases hd : o.dst with
  | none => rfl
  | some t =>
   simp only [getD_set]
   rw [if_neg (fun c => this (by rw [hd, c.1]))]
theorem finL_at (val : Nat → Value) (s : Nat) : ∀ (l : List Oper) (i j : Nat) (X : Array Value) (o : Oper), l[j]? = some o → o.dst = some s → s < X.size → (∀ k o', l[k]? = some o' → o'.dst = some s → k = j) → (finL val l i X).getD s undef = val (i + j)
 | [], _, j, X, o, h, _, _, _ => by simp at h
 | o1 :: r, i, 0, X, o, h, hd, hs, hu => by
  simp at h
  subst h
  rw [finL, finL_old val s r]
  · simp only [hd, getD_set]
    rw [if_pos ⟨trivial, hs⟩, Nat.add_zero]
  · intro o' ho' hd'
    obtain ⟨k, hk, rfl⟩ := List.getElem_of_mem ho'
    have := hu (k + 1) _ (by simp [List.getElem?_eq_getElem hk]) hd'
    omega
 | o1 :: r, i, j + 1, X, o, h, hd, hs, hu => by
  rw [finL, finL_at val s r (i + 1) j _ o (by simpa using h) hd (by cases o1.dst <;> simpa using hs)]
  · congr 1; omega
  · intro k o' hk hd'
    have := hu (k + 1) o' (by simpa using hk) hd'
    omega
theorem tab_end {md : Region.Mode} {ops : Array Oper} {X0 : Array Value} {df : List Deferred} {val : Nat → Value} {listed : Array Bool} {a : Act} (h : TabSt md ops X0 df val listed a)
  (hok : tabOk md ops X0.size = true) (hall : ∀ j, j < ops.size → listed.getD j false = true) : a = { tmps := finL val ops.toList 0 X0, defers := df } := by
 obtain ⟨t, d⟩ := a
 have e1 : d = df := h.dfs
 have e2 : t = finL val ops.toList 0 X0 := by
  have hw : t.size = X0.size := h.width
  apply Array.ext
  · rw [finL_size, hw]
  · intro s h1 h2
    have q : ∀ (Y : Array Value) (hY : s < Y.size), Y[s] = Y.getD s undef := fun Y hY => by simp [Array.getD, hY]
    rw [q t h1, q _ h2]
    by_cases hx : ∃ j, dstAt ops j = some s
    · obtain ⟨j, hj⟩ := hx
      obtain ⟨o, ho, hd⟩ := dstAt_lt hj
      rw [h.done j s hj (hall j (getElem?_lt ho))]
      have := finL_at val s ops.toList 0 j X0 o (by simpa using ho) hd (by omega) ?_
      · rw [this, Nat.zero_add]
      · intro k o' hk hd'
        have hk' : ops[k]? = some o' := by simpa using hk
        have hc := List.all_eq_true.1 hok j (List.mem_range.2 (getElem?_lt ho))
        simp only [Bool.and_eq_true, hj, decide_eq_true_eq] at hc
        have := List.all_eq_true.1 hc.2.2 k (List.mem_range.2 (getElem?_lt hk'))
        have hdk : dstAt ops k = some s := by unfold dstAt; rw [hk']; exact hd'
        simpa [hdk] using this
    · rw [finL_old val s ops.toList 0 X0 (fun o ho hd => ?_)]
      · exact h.old s (fun j hj => absurd ⟨j, hj⟩ hx)
      · obtain ⟨k, hk, rfl⟩ := List.getElem_of_mem ho
        refine hx ⟨k, ?_⟩
        unfold dstAt
        have : ops[k]? = some ops.toList[k] := by rw [Array.getElem?_eq_some_iff]; exact ⟨by simpa using hk, by simp⟩
        rw [this]; exact hd
 rw [e1, e2]
def falses : List Bool → Nat
 | [] => 0
 | b :: r => (if b then 0 else 1) + falses r
theorem falses_replicate : ∀ n, falses (List.replicate n false) = n
 | 0 => rfl
 | n + 1 => by rw [List.replicate_succ, falses, falses_replicate n]; simp; omega
theorem falses_set : ∀ (l : List Bool) (i : Nat), l.getD i true = false → falses (l.set i true) + 1 = falses l
 | [], _, h => by simp at h
 | b :: r, 0, h => by simp at h; subst h; simp [falses]; omega
 | b :: r, i + 1, h => by simp only [List.set_cons_succ, falses]; have := falses_set r i (by simpa using h); omega
theorem falses_zero : ∀ (l : List Bool) (i : Nat), falses l = 0 → i < l.length → l.getD i false = true
 | [], _, _, h => by simp at h
 | b :: r, 0, h, _ => by cases b <;> simp [falses] at h ⊢
 | b :: r, i + 1, h, hl => by
  have : falses r = 0 := by rw [falses] at h; omega
  simpa using falses_zero r i this (by simpa using hl)
theorem wpAny_tab {P : Program} {md : Region.Mode} {ops : Array Oper} {Q : Exit → Act → World → Prop} {G : Type} (val : G → Nat → Value) (J : G → (Nat → Bool) → World → Prop)
   {X0 : Array Value} {df : List Deferred} (hok : tabOk md ops X0.size = true)
   (hend : ∀ g d w, (∀ j, j < ops.size → d j = true) → J g d w → Q .normal { tmps := finL (val g) ops.toList 0 X0, defers := df } w)
   (hstep : ∀ i o, ops[i]? = some o → ∀ g d a w, J g d w → d i = false → (∀ j, bindsOn md o j = true → d j = true) → (∀ j oj, ops[j]? = some oj → d j = true → ∀ k, bindsOn md oj k = true → d k = true) → (∀ s v, rdv md ops X0 (val g) i o s = some v → a.tmps.getD s undef = v) →
    wpOp P ops Q i (fun a' w' => ∃ g', (∀ j, d j = true → val g' j = val g j) ∧ a' = a.put o.dst (val g' i) ∧ J g' (fun j => if j = i then true else d j) w') a w)
   (g : G) {w : World} (hJ : J g (fun _ => false) w) : wpAny P md ops Q ops.size (Array.replicate ops.size false) { tmps := X0, defers := df } w := by
 have key : ∀ k (listed : Array Bool) (a : Act) (w : World) (g : G), falses listed.toList = k → TabSt md ops X0 df (val g) listed a → J g (fun j => listed.getD j false) w → wpAny P md ops Q k listed a w := by
   intro k
   induction k with
   | zero =>
    intro listed a w g hk hS hJ
    have hall : ∀ j, j < ops.size → listed.getD j false = true := fun j hj => by
      have := falses_zero listed.toList j hk (by simpa [hS.size] using hj)
      simpa [Array.getD_eq_getD_getElem?] using this
    have hr : Region.ready md ops listed = [] := by
      apply List.eq_nil_iff_forall_not_mem.2
      intro j hj
      obtain ⟨h1, o, ho, _⟩ := mem_ready.1 hj
      have h2 := hall j (getElem?_lt ho)
      have h3 : j < listed.size := by rw [hS.size]; exact getElem?_lt ho
      simp [Array.getD, h3] at h1 h2
      rw [h1] at h2; cases h2
    refine ⟨hr, ?_⟩
    rw [tab_end hS hok hall]
    exact hend g _ w hall hJ
   | succ k ih =>
    intro listed a w g hk hS hJ
    have hun : ∀ i, Region.ready md ops listed = [] → i < ops.size → listed.getD i false = true := by
      intro i hn
      induction i using Nat.strongRecOn with
      | ind i ihi =>
        intro hi
        cases hl : listed.getD i false with
        | true => rfl
        | false =>
          have hlt : i < listed.size := by rw [hS.size]; exact hi
          obtain ⟨o, ho⟩ : ∃ o, ops[i]? = some o := ⟨_, Array.getElem?_eq_getElem hi⟩
          have hc := List.all_eq_true.1 hok i (List.mem_range.2 hi)
          rw [ho] at hc
          simp only [Bool.and_eq_true] at hc
          have hmem : i ∈ Region.ready md ops listed := mem_ready.2 ⟨by simp [Array.getD, hlt] at hl ⊢; exact hl, o, ho, fun e he hb => by
           have := List.all_eq_true.1 hc.1 e (by simpa using he)
           simp only [hb, Bool.not_true, Bool.false_or, decide_eq_true_eq] at this
           exact ihi e.on this (by omega)⟩
          rw [hn] at hmem; cases hmem
    refine ⟨fun hn => ?_, fun i hi => ?_⟩
    · have hall := hun
      rw [tab_end hS hok (fun j hj => hun j hn hj)]
      exact hend g _ w (fun j hj => hun j hn hj) hJ
    · obtain ⟨h1, o, ho, hr⟩ := mem_ready.1 hi
      have hlt : i < listed.size := by rw [hS.size]; exact getElem?_lt ho
      have h1' : listed.getD i false = false := by simp [Array.getD, hlt] at h1 ⊢; exact h1
      refine wpOp_mono (fun a' w' hq => ?_) (hstep i o ho g _ a w hJ h1' (fun j hj => ?_) (fun j oj hoj hd k hk => ?_) (fun s v hv => hS.reads ho h1' hr s v hv))
      · obtain ⟨g', hv, rfl, hJ'⟩ := hq
        refine ih (listed.setIfInBounds i true) _ w' g' ?_ (hS.put hok ho hr hv h1') ?_
        · have := falses_set listed.toList i (by simpa [Array.getD_eq_getD_getElem?, hlt] using h1)
          simp only [Array.toList_setIfInBounds]
          omega
        · have e : (fun j => (listed.setIfInBounds i true).getD j false) = (fun j => if j = i then true else listed.getD j false) := by
           funext j
           rw [getD_set]
           by_cases e : i = j
           · subst e; simp [hlt]
           · rw [if_neg (fun c => e c.1), if_neg (fun c => e c.symm)]
          rw [e]; exact hJ'
      · obtain ⟨e, he, hb, rfl⟩ := bindsOn_iff.1 hj
        exact hr e he hb
      · obtain ⟨e, he, hb, rfl⟩ := bindsOn_iff.1 hk
        exact hS.closed j oj hoj hd e he hb
 refine key _ _ _ _ g (by simp [falses_replicate]) ⟨by simp, rfl, rfl, ?_, ?_, fun _ _ => rfl⟩ ?_
 · intro j oj _ h
   simp [Array.getD] at h
 · intro j s _ h
   simp [Array.getD] at h
 · have e : (fun j => (Array.replicate ops.size false).getD j false) = (fun _ => false) := by funext j; simp [Array.getD]
   rw [e]; exact hJ
def rdo (md : Region.Mode) (ops : Array Oper) (X0 : Array Value) (val : Nat → Value) (i : Nat) (o : Oper) (x : Operand) : Option Value :=
 match x with
 | .tmp s => rdv md ops X0 val i o s
 | .const v => some v
 | .global g => some (.pointer (some ⟨g, 0, none⟩))
 | .func f => some (.func (.func f) #[] #[])
def Seen (md : Region.Mode) (ops : Array Oper) (X0 : Array Value) (val : Nat → Value) (i : Nat) (o : Oper) (a : Act) : Prop := ∀ s v, rdv md ops X0 val i o s = some v → a.tmps.getD s undef = v
theorem Seen.eval {md : Region.Mode} {ops : Array Oper} {X0 : Array Value} {val : Nat → Value} {i : Nat} {o : Oper} {a : Act} (h : Seen md ops X0 val i o a) {x : Operand} {v : Value} (hx : rdo md ops X0 val i o x = some v) : a.eval x = v := by
 cases x with
 | tmp s => exact h s v hx
 | const c => cases hx; rfl
 | global g => cases hx; rfl
 | func f => cases hx; rfl
theorem Seen.evals {md : Region.Mode} {ops : Array Oper} {X0 : Array Value} {val : Nat → Value} {i : Nat} {o : Oper} {a : Act} (h : Seen md ops X0 val i o a) : ∀ (xs : List Operand) (vs : List Value), xs.map (rdo md ops X0 val i o) = vs.map some → xs.map a.eval = vs
 | [], [], _ => rfl
 | [], _ :: _, h2 => by simp at h2
 | _ :: _, [], h2 => by simp at h2
 | x :: xs, v :: vs, h2 => by
  simp only [List.map_cons, List.cons.injEq] at h2 ⊢
  exact ⟨h.eval h2.1, h.evals xs vs h2.2⟩
def StepAt (P : Program) (md : Region.Mode) (ops : Array Oper) (Q : Exit → Act → World → Prop) (X0 : Array Value) (val : Nat → Value) (J J' : World → Prop) (i : Nat) (o : Oper) : Prop :=
 ∀ a w, J w → Seen md ops X0 val i o a → wpOp P ops Q i (fun a' w' => a' = a.put o.dst (val i) ∧ J' w') a w
def stepsFrom (S : Nat → Oper → Prop) : List Oper → Nat → Prop
 | [], _ => True
 | o :: r, i => S i o ∧ stepsFrom S r (i + 1)
theorem stepsFrom_at {S : Nat → Oper → Prop} : ∀ (l : List Oper) (k : Nat), stepsFrom S l k → ∀ (i : Nat) (o : Oper), l[i]? = some o → S (k + i) o
 | [], _, _, i, o, h => by simp at h
 | o1 :: r, k, h, 0, o, ho => by simp at ho; subst ho; exact h.1
 | o1 :: r, k, h, i + 1, o, ho => by
  have := stepsFrom_at r (k + 1) h.2 i o (by simpa using ho)
  rw [show k + (i + 1) = k + 1 + i by omega]; exact this
def reachAt (md : Region.Mode) (ops : Array Oper) : Nat → Nat → Nat → Bool
 | 0, _, _ => false
 | f + 1, i, j => waitsAt md ops i j || (List.range i).any (fun k => waitsAt md ops i k && reachAt md ops f k j)
theorem waits_of {md : Region.Mode} {ops : Array Oper} {i j : Nat} (h : waitsAt md ops i j = true) : ∃ o, ops[i]? = some o ∧ bindsOn md o j = true := by
 unfold waitsAt at h
 split at h
 · rename_i o ho; exact ⟨o, ho, h⟩
 · cases h
theorem reach_done {md : Region.Mode} {ops : Array Oper} {d : Nat → Bool} (hcl : ∀ j oj, ops[j]? = some oj → d j = true → ∀ k, bindsOn md oj k = true → d k = true) : ∀ (f i j : Nat), d i = true → reachAt md ops f i j = true → d j = true
 | 0, _, _, _, h => by cases h
 | f + 1, i, j, hi, h => by
  rw [reachAt, Bool.or_eq_true] at h
  rcases h with h | h
  · obtain ⟨o, ho, hb⟩ := waits_of h
    exact hcl i o ho hi j hb
  · obtain ⟨k, _, hk⟩ := List.any_eq_true.1 h
    rw [Bool.and_eq_true] at hk
    obtain ⟨o, ho, hb⟩ := waits_of hk.1
    exact reach_done hcl f k j (hcl i o ho hi k hb) hk.2
theorem reach_next {md : Region.Mode} {ops : Array Oper} {d : Nat → Bool} (hcl : ∀ j oj, ops[j]? = some oj → d j = true → ∀ k, bindsOn md oj k = true → d k = true) {i : Nat} {o : Oper} (ho : ops[i]? = some o) (hdep : ∀ k, bindsOn md o k = true → d k = true) : ∀ (f j : Nat), reachAt md ops f i j = true → d j = true
 | 0, _, h => by cases h
 | f + 1, j, h => by
  rw [reachAt, Bool.or_eq_true] at h
  rcases h with h | h
  · obtain ⟨o', ho', hb⟩ := waits_of h
    rw [ho] at ho'; cases ho'
    exact hdep j hb
  · obtain ⟨k, _, hk⟩ := List.any_eq_true.1 h
    rw [Bool.and_eq_true] at hk
    obtain ⟨o', ho', hb⟩ := waits_of hk.1
    rw [ho] at ho'; cases ho'
    exact reach_done hcl f k j (hdep k hb) hk.2
def tailOk (md : Region.Mode) (ops : Array Oper) (m : Nat) : Bool := (List.range ops.size).all fun i => decide (i < m) || (List.range i).all fun j => reachAt md ops 6 i j
theorem wpAny_seq {P : Program} {md : Region.Mode} {ops : Array Oper} {Q : Exit → Act → World → Prop} (m : Nat) (val : Nat → Value) (J : Nat → World → Prop)
   {X0 : Array Value} {df : List Deferred} (hm : m ≤ ops.size) (hok : tabOk md ops X0.size = true) (htl : tailOk md ops m = true)
   (hsteps : stepsFrom (fun i o => StepAt P md ops Q X0 val (J (if i < m then m else i)) (J (if i < m then m else i + 1)) i o) ops.toList 0)
   (hend : ∀ w, J ops.size w → Q .normal { tmps := finL val ops.toList 0 X0, defers := df } w)
   {w : World} (hJ : J m w) : wpAny P md ops Q ops.size (Array.replicate ops.size false) { tmps := X0, defers := df } w := by
 refine wpAny_tab (G := Unit) (fun _ => val) (fun _ d w => ∃ k, m ≤ k ∧ k ≤ ops.size ∧ (∀ i, m ≤ i → i < ops.size → (d i = true ↔ i < k)) ∧ J k w) hok ?_ ?_ () ⟨m, Nat.le_refl _, hm, fun i h1 _ => ⟨(fun h => by cases h), (fun h => by omega)⟩, hJ⟩
 · rintro _ d w hall ⟨k, h1, h2, h3, h4⟩
   have : k = ops.size := by
     rcases Nat.lt_or_ge k ops.size with h | h
     · have := (h3 k h1 h).1 (hall k h); omega
     · omega
   subst this
   exact hend w h4
 · rintro i o ho _ d a w ⟨k, h1, h2, h3, h4⟩ hun hdep hcl hS
   have hst := stepsFrom_at ops.toList 0 hsteps i o (by simpa using ho)
   rw [Nat.zero_add] at hst
   have hil := getElem?_lt ho
   have hwait : ∀ i', i' < ops.size → m ≤ i' → ∀ j, j < i' → reachAt md ops 6 i' j = true := by
     intro i' hi' hmi j hj
     have := List.all_eq_true.1 htl i' (List.mem_range.2 hi')
     simp only [Bool.or_eq_true, decide_eq_true_eq] at this
     rcases this with h | h
     · omega
     · exact List.all_eq_true.1 h j (List.mem_range.2 hj)
   by_cases him : i < m
   · have hkm : k = m := by
       rcases Nat.lt_or_ge m k with h | h
       · exfalso
         have hm2 : m < ops.size := by omega
         have hdm := (h3 m (Nat.le_refl _) hm2).2 h
         have := reach_done hcl 6 m i hdm (hwait m hm2 (Nat.le_refl _) i him)
         rw [this] at hun; cases hun
       · omega
     subst hkm
     simp only [him, if_true] at hst
     refine wpOp_mono (fun a' w' hq => ⟨(), fun _ _ => rfl, hq.1, k, Nat.le_refl _, h2, fun j hj1 hj2 => ?_, hq.2⟩) (hst a w h4 hS)
     have : ¬ j = i := by omega
     simp only [this, if_false]
     exact h3 j hj1 hj2
   · have hki : k = i := by
       have h5 : ¬ i < k := fun h => by rw [(h3 i (by omega) hil).2 h] at hun; cases hun
       rcases Nat.lt_or_ge k i with h | h
       · exfalso
         have := reach_next hcl ho hdep 6 k (hwait i hil (by omega) k h)
         have := (h3 k h1 (by omega)).1 this
         omega
       · omega
     subst hki
     simp only [him, if_false] at hst
     refine wpOp_mono (fun a' w' hq => ⟨(), fun _ _ => rfl, hq.1, k + 1, by omega, by omega, fun j hj1 hj2 => ?_, hq.2⟩) (hst a w h4 hS)
     by_cases e : j = k
     · subst e; simp
     · simp only [e, if_false]
       rw [h3 j hj1 hj2]; omega
theorem sqc {S : Nat → Oper → Prop} {o : Oper} {r : List Oper} {i : Nat} (h : S i o) (h2 : stepsFrom S r (i + 1)) : stepsFrom S (o :: r) i := ⟨h, h2⟩
theorem stepsFrom_mk {S : Nat → Oper → Prop} : ∀ (l : List Oper) (k : Nat), (∀ (i : Nat) (o : Oper), l[i]? = some o → S (k + i) o) → stepsFrom S l k
 | [], _, _ => trivial
 | o :: r, k, h => ⟨by simpa using h 0 o rfl, stepsFrom_mk r (k + 1) (fun i o' ho => by have := h (i + 1) o' (by simpa using ho); rw [show k + (i + 1) = k + 1 + i by omega] at this; exact this)⟩
theorem getElem?_take {α : Type} (l : List α) (m i : Nat) (h : i < m) : (l.take m)[i]? = l[i]? := by
 rw [List.getElem?_take]; simp [h]
theorem zwp {P : Program} {md : Region.Mode} {ops : Array Oper} {Q : Exit → Act → World → Prop} (val : Nat → Value) (J : World → Prop)
  {X0 : Array Value} {df : List Deferred} (hok : tabOk md ops X0.size = true)
  {w : World} (hJ : J w)
  (hsteps : stepsFrom (fun i o => StepAt P md ops Q X0 val J J i o) ops.toList 0)
  (hend : ∀ w, J w → Q .normal { tmps := finL val ops.toList 0 X0, defers := df } w) : wpAny P md ops Q ops.size (Array.replicate ops.size false) { tmps := X0, defers := df } w := by
 refine wpAny_seq ops.size val (fun _ => J) (Nat.le_refl _) hok ?_ hsteps hend hJ
 refine List.all_eq_true.2 (fun i hi => ?_)
 simp [List.mem_range.1 hi]
theorem zwl {P : Program} {md : Region.Mode} {ops : Array Oper} {Q : Exit → Act → World → Prop} (m : Nat) (val : Nat → Value) (J J' : World → Prop)
   {X0 : Array Value} {df : List Deferred} (hm : ops.size = m + 1) (hok : tabOk md ops X0.size = true) (htl : tailOk md ops m = true)
   {w : World} (hJ : J w)
   (hsteps : stepsFrom (fun i o => StepAt P md ops Q X0 val J J i o) (ops.toList.take m) 0)
   (hlast : ∀ o, ops[m]? = some o → StepAt P md ops Q X0 val J J' m o)
   (hend : ∀ w, J' w → Q .normal { tmps := finL val ops.toList 0 X0, defers := df } w) : wpAny P md ops Q ops.size (Array.replicate ops.size false) { tmps := X0, defers := df } w := by
 refine wpAny_seq m val (fun k => if k ≤ m then J else J') (by omega) hok htl (stepsFrom_mk _ _ (fun i o ho => ?_)) (fun w h => hend w ?_) (by simpa using hJ)
 · rw [Nat.zero_add]
   have hi : ops[i]? = some o := by simpa using ho
   have hil := getElem?_lt hi
   by_cases h : i < m
   · have := stepsFrom_at _ 0 hsteps i o (by rw [getElem?_take _ _ _ h]; exact ho)
     rw [Nat.zero_add] at this
     simpa [h] using this
   · have e : i = m := by omega
     subst e
     have q1 : ¬ i + 1 ≤ i := by omega
     simpa [q1] using hlast o hi
 · have : ¬ m + 1 ≤ m := by omega
   simpa [hm, this] using h
def GOk (md : Region.Mode) (ops : Array Oper) (X0 : Array Value) (val : Nat → Value) (i : Nat) (o : Oper) : Prop :=
 match o.guard with
 | none => True
 | some (j, b) => ∃ s, dstAt ops j = some s ∧ rdv md ops X0 val i o s = some (.bool b)
theorem wanted_of {md : Region.Mode} {ops : Array Oper} {X0 : Array Value} {val : Nat → Value} {i : Nat} {o : Oper} {a : Act} (h : Seen md ops X0 val i o a) (hg : GOk md ops X0 val i o) : Region.wanted o (yielded ops a.tmps) = true := by
 unfold GOk at hg
 unfold Region.wanted
 split at hg
 · rename_i e; rw [e]
 · rename_i j b e
   obtain ⟨s, hs, hv⟩ := hg
   obtain ⟨oj, hoj, hd⟩ := dstAt_lt hs
   have := h s _ hv
   have h2 : a.tmps[s]? = some (.bool b) := by
    rw [Array.getD_eq_getD_getElem?] at this
    cases hx : a.tmps[s]? with
    | none => rw [hx] at this; cases this
    | some y => rw [hx] at this; simpa using this
   simp [e, yielded, hoj, hd, h2]
section
variable {P : Program} {md : Region.Mode} {ops : Array Oper} {Q : Exit → Act → World → Prop} {X0 : Array Value} {val : Nat → Value} {J J' : World → Prop} {i : Nat} {o : Oper}
theorem step_of (hi : ops[i]? = some o) (hg : GOk md ops X0 val i o) (h : ∀ a w, J w → Seen md ops X0 val i o a → o.wp P a w (fun a' w' => a' = a.put o.dst (val i) ∧ J' w') Q) : StepAt P md ops Q X0 val J J' i o := by
 intro a w hJ hS
 unfold wpOp
 rw [hi]
 simp only [wanted_of hS hg, if_true]
 exact .inl (h a w hJ hS)
theorem zsk (hi : ops[i]? = some o) (j : Nat) (b : Bool) (s : Nat) (v : Value) (hg : o.guard = some (j, b)) (hs : dstAt ops j = some s) (hv : rdv md ops X0 val i o s = some v) (hne : v ≠ .bool b) (hu : val i = undef) : StepAt P md ops Q X0 val J J i o := by
 intro a w hJ hS
 unfold wpOp
 rw [hi]
 have h1 := hS s v hv
 obtain ⟨oj, hoj, hd⟩ := dstAt_lt hs
 have h2 : Region.wanted o (yielded ops a.tmps) = false := by
  unfold Region.wanted
  simp only [hg, yielded, hoj, Option.bind_some, hd]
  rw [Array.getD_eq_getD_getElem?] at h1
  cases hx : a.tmps[s]? with
  | none => simp
  | some y =>
   rw [hx] at h1
   simp only [Option.getD_some] at h1
   subst h1
   cases y <;> simp at hne ⊢
   exact hne
 simp only [h2, Bool.false_eq_true, if_false]
 exact ⟨by rw [hu], hJ⟩
theorem zmv (hi : ops[i]? = some o) (hg : GOk md ops X0 val i o) (x : Operand) (ho : o.op = .move x) (hx : rdo md ops X0 val i o x = some (val i)) : StepAt P md ops Q X0 val J J i o :=
 step_of hi hg fun a w hJ hS => by
  unfold Oper.wp execOp
  simp only [ho, hS.eval hx]
  exact ⟨rfl, hJ⟩
theorem zas (hi : ops[i]? = some o) (hg : GOk md ops X0 val i o) (x : Operand) (ho : o.op = .assign x) (hx : rdo md ops X0 val i o x = some (val i)) (hJ' : ∀ w, J w → J' w) : StepAt P md ops Q X0 val J J' i o :=
 step_of hi hg fun a w hJ hS => by
  unfold Oper.wp execOp
  simp only [ho, hS.eval hx]
  exact ⟨rfl, hJ' w hJ⟩
theorem step_pick (hi : ops[i]? = some o) (hg : GOk md ops X0 val i o) (c x y : Operand) (b : Bool) (ho : o.op = .pick c x y) (hc : rdo md ops X0 val i o c = some (.bool b)) (hx : rdo md ops X0 val i o (if b then x else y) = some (val i)) : StepAt P md ops Q X0 val J J i o :=
 step_of hi hg fun a w hJ hS => by
  unfold Oper.wp execOp
  simp only [ho, hS.eval hc, asBool]
  cases b
  · have := hS.eval hx
    simp only [Bool.false_eq_true, if_false] at this
    simp [Sem.run_pure, this, Oper.upon_value, hJ]
  · have := hS.eval hx
    simp only [if_true] at this
    simp [Sem.run_pure, this, Oper.upon_value, hJ]
theorem zld (hi : ops[i]? = some o) (hg : GOk md ops X0 val i o) (t : TypeId) (x : Operand) (p : Value) (ho : o.op = .load t x) (hx : rdo md ops X0 val i o x = some p) (hr : ∀ w, J w → (Instr.loadAt t p).run P w = .ok (val i) w) : StepAt P md ops Q X0 val J J i o :=
 step_of hi hg fun a w hJ hS => by
  unfold Oper.wp execOp
  simp only [ho, hS.eval hx, Sem.run_bind, hr w hJ, Result.andThen_ok, Sem.run_pure, Oper.upon_value]
  exact ⟨trivial, hJ⟩
theorem zia (hi : ops[i]? = some o) (hg : GOk md ops X0 val i o) (t : TypeId) (x y : Operand) (p q : Value) (ho : o.op = .indexAddr t x y) (hx : rdo md ops X0 val i o x = some p) (hy : rdo md ops X0 val i o y = some q) (hr : ∀ w, J w → (Instr.indexAt t p q).run P w = .ok (val i) w) : StepAt P md ops Q X0 val J J i o :=
 step_of hi hg fun a w hJ hS => by
  unfold Oper.wp execOp
  simp only [ho, hS.eval hx, hS.eval hy, Sem.run_bind, hr w hJ, Result.andThen_ok, Sem.run_pure, Oper.upon_value]
  exact ⟨trivial, hJ⟩
theorem step_convert (hi : ops[i]? = some o) (hg : GOk md ops X0 val i o) (s t : TypeId) (x : Operand) (p : Value) (ho : o.op = .convert s t x) (hx : rdo md ops X0 val i o x = some p) (hr : ∀ w, J w → (convert s t p).run P w = .ok (val i) w) : StepAt P md ops Q X0 val J J i o :=
 step_of hi hg fun a w hJ hS => by
  unfold Oper.wp execOp
  simp only [ho, hS.eval hx, Sem.run_bind, hr w hJ, Result.andThen_ok, Sem.run_pure, Oper.upon_value]
  exact ⟨trivial, hJ⟩
theorem step_unOp (hi : ops[i]? = some o) (hg : GOk md ops X0 val i o) (u : UnOp) (t : TypeId) (x : Operand) (p : Value) (ho : o.op = .unOp u t x) (hx : rdo md ops X0 val i o x = some p) (hr : ∀ w, J w → (Op.unary u p).run P w = .ok (val i) w) : StepAt P md ops Q X0 val J J i o :=
 step_of hi hg fun a w hJ hS => by
  unfold Oper.wp execOp
  simp only [ho, hS.eval hx, Sem.run_bind, hr w hJ, Result.andThen_ok, Sem.run_pure, Oper.upon_value]
  exact ⟨trivial, hJ⟩
def binRun (P : Program) (b : BinOp) (t : TypeId) (x y : Operand) (p q : Value) (w : World) : Result Value := (do eqGuard b t x y p q; binOp b t p q : Sem Value).run P w
theorem zbo (hi : ops[i]? = some o) (hg : GOk md ops X0 val i o) (b : BinOp) (t u : TypeId) (x y : Operand) (p q : Value) (ho : o.op = .binOp b t x y u) (hx : rdo md ops X0 val i o x = some p) (hy : rdo md ops X0 val i o y = some q) (hr : ∀ w, J w → binRun P b t x y p q w = .ok (val i) w) : StepAt P md ops Q X0 val J J i o :=
 step_of hi hg fun a w hJ hS => by
  unfold Oper.wp execOp
  have h := hr w hJ
  unfold binRun at h
  simp only [ho, hS.eval hx, hS.eval hy]
  rw [Sem.run_bind, h]
  simp only [Result.andThen_ok, Sem.run_pure, Oper.upon_value]
  exact ⟨trivial, hJ⟩
theorem zsc (hi : ops[i]? = some o) (hg : GOk md ops X0 val i o) (f : FuncId) (xs : Array Operand) (ts : Array TypeId) (vs : List Value) (ho : o.op = .call { callee := .value (.func f), args := xs, argTypes := ts })
  (hx : xs.toList.map (rdo md ops X0 val i o) = vs.map some) (hen : ∀ args w, (callFunc f args).run P w = .ok (.enter f args) w) (hc : ∀ w, J w → Calls P f vs.toArray w fun e w' => e = .returned (val i) ∧ J' w') : StepAt P md ops Q X0 val J J' i o :=
 step_of hi hg fun a w hJ hS => by
  unfold Oper.wp execOp
  have e : xs.map a.eval = vs.toArray := by
   apply Array.toList_inj.1
   rw [Array.toList_map]
   exact hS.evals _ _ hx
  have e2 : a.eval (.func f) = .func (.func f) #[] #[] := rfl
  simp only [ho, resolve, e, e2, Deferred.ofValue, Sem.run_bind, Sem.run_pure, Result.andThen_ok, invoke, Array.empty_append, Array.append_empty, hen, Oper.upon_enter]
  refine (hc w hJ).mono ?_
  rintro e' w' ⟨rfl, hJ'⟩
  exact ⟨rfl, hJ'⟩
theorem step_store (hi : ops[i]? = some o) (hg : GOk md ops X0 val i o) (hd : o.dst = none) (t : TypeId) (x y : Operand) (p q : Value) (ho : o.op = .store t x y) (hx : rdo md ops X0 val i o x = some p) (hy : rdo md ops X0 val i o y = some q) (hr : ∀ w, J w → ∃ w', (Instr.storeAt t p q).run P w = .ok () w' ∧ J' w') : StepAt P md ops Q X0 val J J' i o :=
 step_of hi hg fun a w hJ hS => by
  unfold Oper.wp execOp
  obtain ⟨w', h1, h2⟩ := hr w hJ
  simp only [ho, hS.eval hx, hS.eval hy, Sem.run_bind, h1, Result.andThen_ok, Sem.run_pure, Oper.upon_skip]
  exact ⟨by rw [hd]; rfl, h2⟩
end
theorem mixO : Tryz.prog.follows .mixedOrders = true := by kernel_rfl
section
variable {P : Program} {md : Region.Mode} {ops : Array Oper} {Q : Exit → Act → World → Prop} {X0 : Array Value} {val : Nat → Value} {J J' : World → Prop} {i : Nat} {o : Oper}
theorem step_extract (hi : ops[i]? = some o) (hg : GOk md ops X0 val i o) (x : Operand) (k : Nat) (p : Value) (ho : o.op = .extract x k) (hx : rdo md ops X0 val i o x = some p) (hr : ∀ w, J w → (Instr.extract p k).run P w = .ok (val i) w) : StepAt P md ops Q X0 val J J i o :=
 step_of hi hg fun a w hJ hS => by
  unfold Oper.wp execOp
  simp only [ho, hS.eval hx, Sem.run_bind, hr w hJ, Result.andThen_ok, Sem.run_pure, Oper.upon_value]
  exact ⟨trivial, hJ⟩
theorem step_bi (hi : ops[i]? = some o) (hg : GOk md ops X0 val i o) (b : Builtin) (xs : Array Operand) (ts : Array TypeId) (vs : List Value) (ho : o.op = .call { callee := .builtin b, args := xs, argTypes := ts })
  (hx : xs.toList.map (rdo md ops X0 val i o) = vs.map some) (hr : ∀ cs w, J w → (builtin b ts o.type cs vs.toArray).run P w = .ok (.value (val i)) w) : StepAt P md ops Q X0 val J J i o :=
 step_of hi hg fun a w hJ hS => by
  unfold Oper.wp execOp
  have e : xs.map a.eval = vs.toArray := by
   apply Array.toList_inj.1
   rw [Array.toList_map]
   exact hS.evals _ _ hx
  simp only [ho, resolve, e, Sem.run_bind, Sem.run_pure, Result.andThen_ok, invoke, hr _ w hJ, Oper.upon_value]
  exact ⟨trivial, hJ⟩
end
def StepAtI (F : Fence) (n : Nat) (P : Program) (md : Region.Mode) (ops : Array Oper) (Q : Exit → Act → World → Prop) (X0 : Array Value) (val : Nat → Value) (J J' : World → Prop) (i : Nat) (o : Oper) : Prop :=
 ∀ a w, J w → Seen md ops X0 val i o a → wpOpIn F n P ops Q i (fun a' w' => a' = a.put o.dst (val i) ∧ J' w') a w
theorem wpAnyIn_tab {F : Fence} {n : Nat} {P : Program} {md : Region.Mode} {ops : Array Oper} {Q : Exit → Act → World → Prop} {G : Type} (val : G → Nat → Value) (J : G → (Nat → Bool) → World → Prop)
   {X0 : Array Value} {df : List Deferred} (hok : tabOk md ops X0.size = true)
   (hend : ∀ g d w, (∀ j, j < ops.size → d j = true) → J g d w → Q .normal { tmps := finL (val g) ops.toList 0 X0, defers := df } w)
   (hstep : ∀ i o, ops[i]? = some o → ∀ g d a w, J g d w → d i = false → (∀ j, bindsOn md o j = true → d j = true) → (∀ j oj, ops[j]? = some oj → d j = true → ∀ k, bindsOn md oj k = true → d k = true) → (∀ s v, rdv md ops X0 (val g) i o s = some v → a.tmps.getD s undef = v) →
    wpOpIn F n P ops Q i (fun a' w' => ∃ g', (∀ j, d j = true → val g' j = val g j) ∧ a' = a.put o.dst (val g' i) ∧ J g' (fun j => if j = i then true else d j) w') a w)
   (g : G) {w : World} (hJ : J g (fun _ => false) w) : wpAnyIn F n P md ops Q ops.size (Array.replicate ops.size false) { tmps := X0, defers := df } w := by
 have key : ∀ k (listed : Array Bool) (a : Act) (w : World) (g : G), falses listed.toList = k → TabSt md ops X0 df (val g) listed a → J g (fun j => listed.getD j false) w → wpAnyIn F n P md ops Q k listed a w := by
   intro k
   induction k with
   | zero =>
    intro listed a w g hk hS hJ
    have hall : ∀ j, j < ops.size → listed.getD j false = true := fun j hj => by
      have := falses_zero listed.toList j hk (by simpa [hS.size] using hj)
      simpa [Array.getD_eq_getD_getElem?] using this
    have hr : Region.ready md ops listed = [] := by
      apply List.eq_nil_iff_forall_not_mem.2
      intro j hj
      obtain ⟨h1, o, ho, _⟩ := mem_ready.1 hj
      have h2 := hall j (getElem?_lt ho)
      have h3 : j < listed.size := by rw [hS.size]; exact getElem?_lt ho
      simp [Array.getD, h3] at h1 h2
      rw [h1] at h2; cases h2
    refine ⟨hr, ?_⟩
    rw [tab_end hS hok hall]
    exact hend g _ w hall hJ
   | succ k ih =>
    intro listed a w g hk hS hJ
    have hun : ∀ i, Region.ready md ops listed = [] → i < ops.size → listed.getD i false = true := by
      intro i hn
      induction i using Nat.strongRecOn with
      | ind i ihi =>
        intro hi
        cases hl : listed.getD i false with
        | true => rfl
        | false =>
          have hlt : i < listed.size := by rw [hS.size]; exact hi
          obtain ⟨o, ho⟩ : ∃ o, ops[i]? = some o := ⟨_, Array.getElem?_eq_getElem hi⟩
          have hc := List.all_eq_true.1 hok i (List.mem_range.2 hi)
          rw [ho] at hc
          simp only [Bool.and_eq_true] at hc
          have hmem : i ∈ Region.ready md ops listed := mem_ready.2 ⟨by simp [Array.getD, hlt] at hl ⊢; exact hl, o, ho, fun e he hb => by
           have := List.all_eq_true.1 hc.1 e (by simpa using he)
           simp only [hb, Bool.not_true, Bool.false_or, decide_eq_true_eq] at this
           exact ihi e.on this (by omega)⟩
          rw [hn] at hmem; cases hmem
    refine ⟨fun hn => ?_, fun i hi => ?_⟩
    · have hall := hun
      rw [tab_end hS hok (fun j hj => hun j hn hj)]
      exact hend g _ w (fun j hj => hun j hn hj) hJ
    · obtain ⟨h1, o, ho, hr⟩ := mem_ready.1 hi
      have hlt : i < listed.size := by rw [hS.size]; exact getElem?_lt ho
      have h1' : listed.getD i false = false := by simp [Array.getD, hlt] at h1 ⊢; exact h1
      refine wpOpIn_mono (fun a' w' hq => ?_) (hstep i o ho g _ a w hJ h1' (fun j hj => ?_) (fun j oj hoj hd k hk => ?_) (fun s v hv => hS.reads ho h1' hr s v hv))
      · obtain ⟨g', hv, rfl, hJ'⟩ := hq
        refine ih (listed.setIfInBounds i true) _ w' g' ?_ (hS.put hok ho hr hv h1') ?_
        · have := falses_set listed.toList i (by simpa [Array.getD_eq_getD_getElem?, hlt] using h1)
          simp only [Array.toList_setIfInBounds]
          omega
        · have e : (fun j => (listed.setIfInBounds i true).getD j false) = (fun j => if j = i then true else listed.getD j false) := by
           funext j
           rw [getD_set]
           by_cases e : i = j
           · subst e; simp [hlt]
           · rw [if_neg (fun c => e c.1), if_neg (fun c => e c.symm)]
          rw [e]; exact hJ'
      · obtain ⟨e, he, hb, rfl⟩ := bindsOn_iff.1 hj
        exact hr e he hb
      · obtain ⟨e, he, hb, rfl⟩ := bindsOn_iff.1 hk
        exact hS.closed j oj hoj hd e he hb
 refine key _ _ _ _ g (by simp [falses_replicate]) ⟨by simp, rfl, rfl, ?_, ?_, fun _ _ => rfl⟩ ?_
 · intro j oj _ h
   simp [Array.getD] at h
 · intro j s _ h
   simp [Array.getD] at h
 · have e : (fun j => (Array.replicate ops.size false).getD j false) = (fun _ => false) := by funext j; simp [Array.getD]
   rw [e]; exact hJ
structure WideF (F : Fence) : Prop where
 fn : ∀ f, F.fn f
 depth : F.depth = none
 calls : ∀ {n : Nat} {P : Program} {f : FuncId} {args : Array Value} {w : World} {R : Ending → World → Prop}, Calls P f args w R → CallsIn F n P f args w R
 rows : ∀ {n : Nat} {P : Program} {row : String} {args : Array Value} {w : World} {R : Value → World → Prop}, Rows P row args w R → RowsIn F n P row args w R
theorem rowsIn_of {n : Nat} {P : Program} {row : String} {args : Array Value} {w : World} {R : Value → World → Prop} (h : Rows P row args w R) : RowsIn Fence.wide n P row args w R :=
 fun c cs _ => let ⟨v, w', r, s⟩ := h c cs; ⟨v, w', r, stepsIn_wide.2 s⟩
theorem wideF_round (l : Nat) : WideF (Fence.wide.inRound l) := ⟨fun _ => trivial, rfl, fun h => CallsIn.inRound l (callsIn_wide.2 h), fun h => (rowsIn_of h : RowsIn Fence.wide _ _ _ _ _ _)⟩
section
variable {F : Fence} {n : Nat} {P : Program} {md : Region.Mode} {ops : Array Oper} {Q : Exit → Act → World → Prop} {X0 : Array Value} {val : Nat → Value} {J J' : World → Prop} {i : Nat} {o : Oper}
theorem wf_room (hF : WideF F) : F.depth.isSome = true → 1 ≤ n := fun h => by rw [hF.depth] at h; cases h
theorem uponJ_of (hF : WideF F) {a : Act} {next : Act → World → Prop} {r : Result Next} (h : o.upon P a next Q r) : o.uponIn F n P a next Q r := by
 cases r with
 | ok x w =>
  cases x with
  | enter f args => exact ⟨wf_room hF, hF.calls h⟩
  | row row args => exact ⟨wf_room hF, hF.rows h⟩
  | value v => exact h
  | skip => exact h
  | defer d => exact h
  | round l f t b c => exact h.elim
  | _ => exact h
 | halt x w => cases x <;> exact h
theorem stepJ_of (hF : WideF F) (hi : ops[i]? = some o) (hg : GOk md ops X0 val i o) (hnd : ∀ c, o.op ≠ .defer c) (h : ∀ a w, J w → Seen md ops X0 val i o a → o.wp P a w (fun a' w' => a' = a.put o.dst (val i) ∧ J' w') Q) : StepAtI F n P md ops Q X0 val J J' i o := by
 intro a w hJ hS
 unfold wpOpIn
 rw [hi]
 simp only [wanted_of hS hg, if_true]
 refine ⟨fun f _ => hF.fn f, ?_⟩
 rw [Oper.semAt_plain F _ _ hnd]
 exact uponJ_of hF (h a w hJ hS)
theorem stepJ_move (hF : WideF F) (hi : ops[i]? = some o) (hg : GOk md ops X0 val i o) (x : Operand) (ho : o.op = .move x) (hx : rdo md ops X0 val i o x = some (val i)) : StepAtI F n P md ops Q X0 val J J i o :=
 stepJ_of hF hi hg (fun c hc => by rw [ho] at hc; cases hc) fun a w hJ hS => by
  unfold Oper.wp execOp
  simp only [ho, hS.eval hx]
  exact ⟨rfl, hJ⟩
theorem stepJ_load (hF : WideF F) (hi : ops[i]? = some o) (hg : GOk md ops X0 val i o) (t : TypeId) (x : Operand) (p : Value) (ho : o.op = .load t x) (hx : rdo md ops X0 val i o x = some p) (hr : ∀ w, J w → (Instr.loadAt t p).run P w = .ok (val i) w) : StepAtI F n P md ops Q X0 val J J i o :=
 stepJ_of hF hi hg (fun c hc => by rw [ho] at hc; cases hc) fun a w hJ hS => by
  unfold Oper.wp execOp
  simp only [ho, hS.eval hx, Sem.run_bind, hr w hJ, Result.andThen_ok, Sem.run_pure, Oper.upon_value]
  exact ⟨trivial, hJ⟩
theorem stepJ_binOp (hF : WideF F) (hi : ops[i]? = some o) (hg : GOk md ops X0 val i o) (b : BinOp) (t u : TypeId) (x y : Operand) (p q : Value) (ho : o.op = .binOp b t x y u) (hx : rdo md ops X0 val i o x = some p) (hy : rdo md ops X0 val i o y = some q) (hr : ∀ w, J w → binRun P b t x y p q w = .ok (val i) w) : StepAtI F n P md ops Q X0 val J J i o :=
 stepJ_of hF hi hg (fun c hc => by rw [ho] at hc; cases hc) fun a w hJ hS => by
  unfold Oper.wp execOp
  have h := hr w hJ
  unfold binRun at h
  simp only [ho, hS.eval hx, hS.eval hy]
  rw [Sem.run_bind, h]
  simp only [Result.andThen_ok, Sem.run_pure, Oper.upon_value]
  exact ⟨trivial, hJ⟩
theorem stepJ_call (hF : WideF F) (hi : ops[i]? = some o) (hg : GOk md ops X0 val i o) (f : FuncId) (xs : Array Operand) (ts : Array TypeId) (vs : List Value) (ho : o.op = .call { callee := .value (.func f), args := xs, argTypes := ts })
  (hx : xs.toList.map (rdo md ops X0 val i o) = vs.map some) (hen : ∀ args w, (callFunc f args).run P w = .ok (.enter f args) w) (hc : ∀ w, J w → Calls P f vs.toArray w fun e w' => e = .returned (val i) ∧ J' w') : StepAtI F n P md ops Q X0 val J J' i o :=
 stepJ_of hF hi hg (fun c hc => by rw [ho] at hc; cases hc) fun a w hJ hS => by
  unfold Oper.wp execOp
  have e : xs.map a.eval = vs.toArray := by
   apply Array.toList_inj.1
   rw [Array.toList_map]
   exact hS.evals _ _ hx
  have e2 : a.eval (.func f) = .func (.func f) #[] #[] := rfl
  simp only [ho, resolve, e, e2, Deferred.ofValue, Sem.run_bind, Sem.run_pure, Result.andThen_ok, invoke, Array.empty_append, Array.append_empty, hen, Oper.upon_enter]
  refine (hc w hJ).mono ?_
  rintro e' w' ⟨rfl, hJ'⟩
  exact ⟨rfl, hJ'⟩
theorem stepJ_store (hF : WideF F) (hi : ops[i]? = some o) (hg : GOk md ops X0 val i o) (hd : o.dst = none) (t : TypeId) (x y : Operand) (p q : Value) (ho : o.op = .store t x y) (hx : rdo md ops X0 val i o x = some p) (hy : rdo md ops X0 val i o y = some q) (hr : ∀ w, J w → ∃ w', (Instr.storeAt t p q).run P w = .ok () w' ∧ J' w') : StepAtI F n P md ops Q X0 val J J' i o :=
 stepJ_of hF hi hg (fun c hc => by rw [ho] at hc; cases hc) fun a w hJ hS => by
  unfold Oper.wp execOp
  obtain ⟨w', h1, h2⟩ := hr w hJ
  simp only [ho, hS.eval hx, hS.eval hy, Sem.run_bind, h1, Result.andThen_ok, Sem.run_pure, Oper.upon_skip]
  exact ⟨by rw [hd]; rfl, h2⟩
end
end Go.Proofs.YtmahamdmapbilaaGreatDoor
