import Derived.Test.YtmahamdmapbilaaGreatDoorJwJ1
import Derived.Test.YtmahamdmapbilaaGreatDoorJwJ2
import Derived.Test.YtmahamdmapbilaaGreatDoorJwJ0
import Derived.ScopeJumps
import Derived.WalkMore
import Derived.Laws.BitsAllLaws
import Derived.Laws.BytesArg
import Derived.Shelf.Strings.BuilderK
import Derived.Test.YtmahamdmapbilaaGreatDoorProg
import Derived.Shelf.Strings.BuilderRune
import Derived.BigCall
set_option maxHeartbeats 40000000
set_option maxRecDepth 100000
set_option linter.unusedVariables false
namespace Go.Proofs.YtmahamdmapbilaaGreatDoor
open Go.RowKit Go.Shelf
def numAt (s : ByteArray) : Nat → Nat → Nat → Option Nat
 | 0, _, v => some v
 | f + 1, p, v =>
  if ¬ p < s.size then some v
  else if 48 ≤ byt s p ∧ byt s p ≤ 57 then (if 1099511627776 < v * 10 + (byt s p - 48) then none else numAt s f (p + 1) (v * 10 + (byt s p - 48)))
  else none
def numR (s : ByteArray) : Option Nat := if s.size = 0 ∨ (byt s 0 = 48 ∧ 1 < s.size) then none else numAt s s.size 0 0
def numV (o : Option Nat) : Value := match o with | none => .tuple #[.int .i64 0, .int .i64 21] | some v => .tuple #[.int .i64 (v : Nat), .int .i64 0]
def valR (o : Option Nat) : Int := match o with | none => -1 | some v => (v : Int)
theorem numAt_end (s : ByteArray) (f p v : Nat) (h : ¬ p < s.size) : numAt s f p v = some v := by
 cases f with
 | zero => rfl
 | succ f => rw [numAt, if_pos h]
theorem numAt_no (s : ByteArray) (f p v : Nat) (h : p < s.size) (hd : ¬ (48 ≤ byt s p ∧ byt s p ≤ 57)) : numAt s (f + 1) p v = none := by
 rw [numAt, if_neg (by omega), if_neg hd]
theorem numAt_great (s : ByteArray) (f p v : Nat) (h : p < s.size) (hd : 48 ≤ byt s p ∧ byt s p ≤ 57) (hg : 1099511627776 < v * 10 + (byt s p - 48)) : numAt s (f + 1) p v = none := by
 rw [numAt, if_neg (by omega), if_pos hd, if_pos hg]
theorem numAt_on (s : ByteArray) (f p v : Nat) (h : p < s.size) (hd : 48 ≤ byt s p ∧ byt s p ≤ 57) (hg : ¬ 1099511627776 < v * 10 + (byt s p - 48)) : numAt s (f + 1) p v = numAt s f (p + 1) (v * 10 + (byt s p - 48)) := by
 rw [numAt, if_neg (by omega), if_pos hd, if_neg hg]
theorem cls_digit (r : Int) : (cls r = 3) ↔ (48 ≤ r ∧ r ≤ 57) := by
 unfold cls
 constructor
 · intro h
   repeat' split at h
   all_goals omega
 · intro h
   rw [if_neg (by omega), if_neg (by omega), if_pos h]
theorem eq_empty (s : ByteArray) : (s.toList == ([] : List UInt8)) = decide (s.size = 0) := by
 rw [Lib.toList_data]
 obtain ⟨⟨l⟩⟩ := s
 cases l with
 | nil => rfl
 | cons a l => rfl
theorem number_any (s : ByteArray) (hs : s.size ≤ maxLen) (w : World) :
   Calls Tryz.prog 107 #[.string s] w fun e w' => e = .returned (numV (numR s)) ∧ Below w.heap.size w w' := by
 unfold maxLen at hs
 by_cases h0 : s.size = 0
 · have HR : Hid (numR s = none) := by show numR s = none; unfold numR; rw [if_pos (Or.inl h0)]
   have he : s = ⟨#[]⟩ := by
     obtain ⟨⟨l⟩⟩ := s
     cases l with
     | nil => rfl
     | cons a l => simp [ByteArray.size] at h0
   subst he
   go_enter Tryz.func107, Tryz.ntmps107
   go_wp2
   go_ret2
   rw [HR.out]
   exact ⟨rfl, Below.refl _ _⟩
 have hp0 : 0 < s.size := by omega
 have hne : (s.toList == ([] : List UInt8)) = false := by rw [eq_empty]; exact decide_eq_false h0
 have hb := byt_get hp0
 have h0i : (0 : Int) < (s.size : Int) := by omega
 by_cases h1 : byt s 0 = 48 ∧ 1 < s.size
 · have HR : Hid (numR s = none) := by show numR s = none; unfold numR; rw [if_pos (Or.inr h1)]
   have hq : (s[0]'hp0).toNat = 48 := by omega
   have h1i : (1 : Int) < (s.size : Int) := by omega
   go_enter Tryz.func107, Tryz.ntmps107
   go_wp2
   go_ret2
   rw [HR.out]
   exact ⟨rfl, Below.refl _ _⟩
 have HR : Hid (numR s = numAt s s.size 0 0) := by show numR s = _; unfold numR; rw [if_neg (fun h => h.elim h0 h1)]
 have hcase : ((s[0]'hp0).toNat = 48 ∧ ¬ 1 < (s.size : Int)) ∨ (((s[0]'hp0).toNat : Int) == 48) = false := by
   by_cases hx : byt s 0 = 48
   · exact Or.inl ⟨by omega, fun h => h1 ⟨hx, by omega⟩⟩
   · exact Or.inr (beq_eq_false_iff_ne.2 (by omega))
 clear h1
 rcases hcase with ⟨q1, q2⟩ | q1
 all_goals
   go_enter Tryz.func107, Tryz.ntmps107
   go_wp2
   go_loopw [4] (fun c wz => ∃ (pos v f : Nat), c = .int .i64 v ∧ s.size ≤ pos + f ∧ v ≤ 1099511627776 ∧ pos ≤ s.size ∧ Hid (numAt s f pos v = numR s) ∧ wz.heap[w.heap.size]? = some (.stringIter s pos) ∧ Below w.heap.size w wz) (fun _ wz => s.size - wz.iterPos w.heap.size)
   case atStart =>
     refine ⟨0, 0, s.size, rfl, by omega, by omega, by omega, HR.out.symm, ?_, (Below.refl _ w).alloc (Nat.le_refl _) _⟩
     exact World.iter_heap w s 0
   case round =>
     obtain ⟨pos, v, f, rfl, hfu, hv, hps, HN, hit, hbw⟩ := hrel
     have hsz : w.heap.size < wr.heap.size := (Array.getElem?_eq_some_iff.1 hit).1
     by_cases hp : pos < s.size
     · obtain ⟨g, rfl⟩ : ∃ g, f = g + 1 := ⟨f - 1, by omega⟩
       have hnx : ∀ ty, (Instr.next (.pointer (some ⟨w.heap.size, 0, none⟩)) true ty).run Tryz.prog wr = _ := fun ty => Lib.run_next_any_at wr w.heap.size s pos ty hit hp
       have hit2 := Lib.iterAt_heap wr w.heap.size s pos (pos + wdt s pos) hit
       have hbw2 := Lib.below_iterAt hbw (k := w.heap.size) (Nat.le_refl _) s (pos + wdt s pos)
       have hsz3 : wr.iterPos w.heap.size = pos := by simp only [World.iterPos, hit]
       have erw : (Utf8.decode s pos).1 = rn s pos := rfl
       have eww : (Utf8.decode s pos).2 = wdt s pos := rfl
       rw [erw, eww] at hnx
       clear erw eww
       have hc := class_any (rn s pos : Int)
       have hiff := cls_digit (rn s pos : Int)
       by_cases hd : 48 ≤ byt s pos ∧ byt s pos ≤ 57
       · obtain ⟨o1, o2⟩ := one_byte s pos hp (by omega)
         have h3 : cls (rn s pos : Int) = 3 := hiff.2 (by omega)
         rw [h3, o1] at hc
         rw [o1, o2] at hnx
         rw [o2] at hit2 hbw2
         have hd1 : 48 ≤ (byt s pos : Int) := by omega
         have hd2 : (byt s pos : Int) ≤ 57 := by omega
         clear hiff h3 o1 o2
         by_cases hg : 1099511627776 < v * 10 + (byt s pos - 48)
         · have HV : Hid (numR s = none) := by show numR s = none; rw [← HN.out, numAt_great s g pos v hp hd hg]
           have hgi : 1099511627776 < (v : Int) * 10 + ((byt s pos : Int) - 48) := by omega
           clear HN hbw hd hg
           go_wp2_with (go_at_call 92; refine (hc _).mono ?_; rintro e w9 ⟨rfl, rfl⟩)
           go_ret2
           rw [HV.out]
           exact ⟨rfl, hbw2⟩
         · have HV : Hid (numAt s g (pos + 1) (v * 10 + (byt s pos - 48)) = numR s) := by show numAt s g (pos + 1) (v * 10 + (byt s pos - 48)) = numR s; rw [← HN.out, numAt_on s g pos v hp hd hg]
           have hgi : ¬ 1099511627776 < (v : Int) * 10 + ((byt s pos : Int) - 48) := by omega
           have HE : Hid ((v : Int) * 10 + ((byt s pos : Int) - 48) = ((v * 10 + (byt s pos - 48) : Nat) : Int)) := by show (v : Int) * 10 + ((byt s pos : Int) - 48) = _; omega
           have HG : Hid (v * 10 + (byt s pos - 48) ≤ 1099511627776) := by show v * 10 + (byt s pos - 48) ≤ 1099511627776; omega
           clear HN hbw hd hg
           go_wp2_with (go_at_call 92; refine (hc _).mono ?_; rintro e w9 ⟨rfl, rfl⟩)
           go_roundw
           case rel => exact ⟨pos + 1, v * 10 + (byt s pos - 48), g, by rw [HE.out], by omega, HG.out, by omega, HV, hit2, hbw2⟩
           case measure =>
             rw [hsz3]
             simp only [World.iterPos, hit2]
             omega
       · have HV : Hid (numR s = none) := by show numR s = none; rw [← HN.out, numAt_no s g pos v hp hd]
         have h3 : (cls (rn s pos : Int) == 3) = false := by
           refine beq_eq_false_iff_ne.2 (fun h => hd ?_)
           have h := hiff.1 h
           by_cases h8 : byt s pos < 128
           · have := (one_byte s pos hp h8).1
             omega
           · have := more_byte s pos hp (by omega)
             omega
         clear HN hbw hd hiff
         go_wp2_with (go_at_call 92; refine (hc _).mono ?_; rintro e w9 ⟨rfl, rfl⟩)
         go_ret2
         rw [HV.out]
         exact ⟨rfl, hbw2⟩
     · have hnx : ∀ ty, (Instr.next (.pointer (some ⟨w.heap.size, 0, none⟩)) true ty).run Tryz.prog wr = _ := fun ty => Lib.run_next_end_at wr w.heap.size s pos ty hit hp
       have HV : Hid (numR s = some v) := by show numR s = some v; rw [← HN.out, numAt_end s f pos v hp]
       clear HN
       go_wp2
       go_ret2
       rw [HV.out]
       exact ⟨rfl, hbw⟩
theorem refValue_any (s : ByteArray) (hs : s.size ≤ maxLen) (w : World) :
   Calls Tryz.prog 172 #[.string s] w fun e w' => e = .returned (.int .i64 (valR (numR s))) ∧ w' = w := by
 unfold maxLen at hs
 by_cases h0 : s.size = 0
 · have HR : Hid (numR s = none) := by show numR s = none; unfold numR; rw [if_pos (Or.inl h0)]
   have h0i : (s.size : Int) = 0 := by omega
   go_enter Tryz.func172, Tryz.ntmps172
   go_wp2
   go_ret
   rw [HR.out]
   exact ⟨rfl, rfl⟩
 have hp0 : 0 < s.size := by omega
 have hb := byt_get hp0
 have h0i : (0 : Int) < (s.size : Int) := by omega
 have h0n : ((s.size : Int) == 0) = false := beq_eq_false_iff_ne.2 (by omega)
 by_cases h1 : byt s 0 = 48 ∧ 1 < s.size
 · have HR : Hid (numR s = none) := by show numR s = none; unfold numR; rw [if_pos (Or.inr h1)]
   have hq : (s[0]'hp0).toNat = 48 := by omega
   have h1i : (1 : Int) < (s.size : Int) := by omega
   go_enter Tryz.func172, Tryz.ntmps172
   go_wp2
   go_ret
   rw [HR.out]
   exact ⟨rfl, rfl⟩
 have HR : Hid (numR s = numAt s s.size 0 0) := by show numR s = _; unfold numR; rw [if_neg (fun h => h.elim h0 h1)]
 have hcase : ((s[0]'hp0).toNat = 48 ∧ ¬ 1 < (s.size : Int)) ∨ (((s[0]'hp0).toNat : Int) == 48) = false := by
   by_cases hx : byt s 0 = 48
   · exact Or.inl ⟨by omega, fun h => h1 ⟨hx, by omega⟩⟩
   · exact Or.inr (beq_eq_false_iff_ne.2 (by omega))
 clear h1
 rcases hcase with ⟨q1, q2⟩ | q1
 all_goals
   go_enter Tryz.func172, Tryz.ntmps172
   go_wp2
   go_loopw [3, 4] (fun c i wz => ∃ (pos v f : Nat), c = .int .i64 v ∧ i = .int .i64 pos ∧ s.size ≤ pos + f ∧ v ≤ 1099511627776 ∧ pos ≤ s.size ∧ Hid (numAt s f pos v = numR s) ∧ wz = w) (fun _ i _ => s.size - (intOf i).toNat)
   case atStart => exact ⟨0, 0, s.size, rfl, rfl, by omega, by omega, by omega, HR.out.symm, rfl⟩
   case round =>
     obtain ⟨pos, v, f, rfl, rfl, hfu, hv, hps, HN, rfl⟩ := hrel
     by_cases hp : pos < s.size
     · obtain ⟨g, rfl⟩ : ∃ g, f = g + 1 := ⟨f - 1, by omega⟩
       have hbp := byt_get hp
       have hpi : (pos : Int) < (s.size : Int) := by omega
       have hlt := (s[pos]'hp).toNat_lt
       by_cases hd : 48 ≤ byt s pos ∧ byt s pos ≤ 57
       · have hd1 : ¬ ((s[pos]'hp).toNat : Int) < 48 := by omega
         have hd2 : ¬ 57 < ((s[pos]'hp).toNat : Int) := by omega
         by_cases hg : 1099511627776 < v * 10 + (byt s pos - 48)
         · have HV : Hid (numR s = none) := by show numR s = none; rw [← HN.out, numAt_great s g pos v hp hd hg]
           have hgi : 1099511627776 < (v : Int) * 10 + (((s[pos]'hp).toNat : Int) - 48) := by omega
           clear HN hd hg hbp
           go_wp2
           go_ret
           rw [HV.out]
           exact ⟨rfl, rfl⟩
         · have HV : Hid (numAt s g (pos + 1) (v * 10 + (byt s pos - 48)) = numR s) := by show numAt s g (pos + 1) (v * 10 + (byt s pos - 48)) = numR s; rw [← HN.out, numAt_on s g pos v hp hd hg]
           have hgi : ¬ 1099511627776 < (v : Int) * 10 + (((s[pos]'hp).toNat : Int) - 48) := by omega
           have HE : Hid ((v : Int) * 10 + (((s[pos]'hp).toNat : Int) - 48) = ((v * 10 + (byt s pos - 48) : Nat) : Int)) := by show (v : Int) * 10 + (((s[pos]'hp).toNat : Int) - 48) = _; omega
           have HG : Hid (v * 10 + (byt s pos - 48) ≤ 1099511627776) := by show v * 10 + (byt s pos - 48) ≤ 1099511627776; omega
           clear HN hd hg hbp
           go_wp2
           go_roundw
           case rel => exact ⟨pos + 1, v * 10 + (byt s pos - 48), g, by rw [HE.out], by go_num, by omega, HG.out, by omega, HV, trivial⟩
           case measure =>
            simp [intOf]
            omega
       · have HV : Hid (numR s = none) := by show numR s = none; rw [← HN.out, numAt_no s g pos v hp hd]
         by_cases h4 : ((s[pos]'hp).toNat : Int) < 48
         · clear HN hd hbp
           go_wp2
           go_ret
           rw [HV.out]
           exact ⟨rfl, rfl⟩
         · have h5 : 57 < ((s[pos]'hp).toNat : Int) := by omega
           clear HN hd hbp
           go_wp2
           go_ret
           rw [HV.out]
           exact ⟨rfl, rfl⟩
     · have HV : Hid (numR s = some v) := by show numR s = some v; rw [← HN.out, numAt_end s f pos v hp]
       have hpi : ¬ (pos : Int) < (s.size : Int) := by omega
       clear HN
       go_wp2
       go_ret
       rw [HV.out]
       exact ⟨rfl, rfl⟩
def jumps (J : Nat → Nat → Act → World → Prop) (Q : Exit → Act → World → Prop) : Exit → Act → World → Prop
 | .goto l, a, w => ∃ m, J l m a w
 | e, a, w => Q e a w
theorem wp_scope_many {P : Program} {a : Act} {w : World} {Q : Exit → Act → World → Prop} {c : Code} (J : Nat → Nat → Act → World → Prop)
  (first : c.wp P (jumps J Q) a w)
  (pass : ∀ l m a w, J l m a w → ∃ rest, findLabel c l = some rest ∧ rest.wp P (jumps (fun l' m' a' w' => m' < m ∧ J l' m' a' w') Q) a w) : (Code.scope c).wp P Q a w := by
 intro b k cs
 have key : ∀ n l a w, J l n a w → ∃ rest, findLabel c l = some rest ∧ ∃ e a' w', Q e a' w' ∧ Arrives P (lone (b.at a (.code rest :: .inScope c :: k)) cs w) b k cs e a' w' := by
  intro n
  induction n using Nat.strongRecOn with
  | _ n ih =>
   intro l a w hJ
   obtain ⟨rest, hf, hp⟩ := pass l n a w hJ
   refine ⟨rest, hf, ?_⟩
   obtain ⟨e, a₁, w₁, hq, harr⟩ := hp b (.inScope c :: k) cs
   cases e with
   | normal => exact ⟨.normal, a₁, w₁, hq, Steps.trans harr (.one step_inScope)⟩
   | exit id => exact ⟨.exit id, a₁, w₁, hq, fun k' hk => harr k' (by simp [exitTo, hk])⟩
   | goto l' =>
    obtain ⟨m, hlt, hJ'⟩ := hq
    obtain ⟨rest', hf', e₂, a₂, w₂, hq₂, harr₂⟩ := ih m hlt l' a₁ w₁ hJ'
    have hg : gotoIn l' (.inScope c :: k) = some (.code rest' :: .inScope c :: k) := by simp [gotoIn, hf']
    exact ⟨e₂, a₂, w₂, hq₂, .of_steps (harr _ hg) harr₂⟩
   | ret => exact ⟨_, a₁, w₁, hq, harr⟩
   | panic ch => exact ⟨_, a₁, w₁, hq, harr⟩
   | outgrown => exact ⟨_, a₁, w₁, hq, harr⟩
 obtain ⟨e, a₁, w₁, hq, harr⟩ := first b (.inScope c :: k) cs
 cases e with
 | normal => exact ⟨.normal, a₁, w₁, hq, .head step_scope (Steps.trans harr (.one step_inScope))⟩
 | exit id => exact ⟨.exit id, a₁, w₁, hq, fun k' hk => .head step_scope (harr k' (by simp [exitTo, hk]))⟩
 | goto l' =>
  obtain ⟨m, hJ'⟩ := hq
  obtain ⟨rest', hf', e₂, a₂, w₂, hq₂, harr₂⟩ := key m l' a₁ w₁ hJ'
  have hg : gotoIn l' (.inScope c :: k) = some (.code rest' :: .inScope c :: k) := by simp [gotoIn, hf']
  exact ⟨e₂, a₂, w₂, hq₂, .of_steps (.head step_scope (harr _ hg)) harr₂⟩
 | ret => exact ⟨_, a₁, w₁, hq, .of_steps (.one step_scope) harr⟩
 | panic ch => exact ⟨_, a₁, w₁, hq, .of_steps (.one step_scope) harr⟩
 | outgrown => exact ⟨_, a₁, w₁, hq, .of_steps (.one step_scope) harr⟩
set_option maxRecDepth 1000000 in
theorem validRune_any (c : Nat) (w : World) :
  Calls Tryz.prog 201 #[.int .i32 c] w fun e w' => e = .returned (.bool (okR c)) ∧ w' = w := by
 go_enter Tryz.func201, Tryz.ntmps201
 go_wp2
 all_goals
  go_ret
  refine ⟨congrArg (fun b => Ending.returned (.bool b)) ?_, rfl⟩
  unfold okR
  first | (symm; rw [decide_eq_true_eq]; omega) | (symm; rw [decide_eq_false_iff_not]; omega)
def escR (b : Nat → Nat) : ByteArray × Nat := match esc b with | none => (ByteArray.empty, 0) | some x => (⟨x.1.toArray⟩, x.2)
theorem or_hex (c : Nat) (h : Int) (hc : c < 16777216) (h0 : 0 ≤ h) (h1 : h < 16) : bits .or .i32 (wrap32 ((c : Int) * 16)) h = ((c * 16 + h.toNat : Nat) : Int) := by
 obtain ⟨n, rfl⟩ := Int.eq_ofNat_of_zero_le h0
 have e : wrap32 ((c : Int) * 16) = ((c * 16 : Nat) : Int) := by unfold wrap32; omega
 have e2 : (c * 16) ||| n = c * 16 + n := by
  rw [show (16 : Nat) = 2 ^ 4 from rfl, ← Nat.shiftLeft_eq, Nat.shiftLeft_add_eq_or_of_lt (by omega)]
 rw [e, Int.toNat_natCast]
 show IntKind.i32.wrap ((BitVec.ofInt 32 ((c * 16 : Nat) : Int) ||| BitVec.ofInt 32 (n : Int)).toNat : Int) = _
 rw [BitVec.toNat_or, ofInt_u32 (c * 16) (by omega), ofInt_u32 n (by omega), e2, IntKind.wrap_i32]
 omega
theorem or_hex2 (c : Nat) (h : Int) (hc : c < 16777216) (h0 : 0 ≤ h) (h1 : h < 16) : bits .or .i32 ((c : Int) * 16) h = ((c * 16 + h.toNat : Nat) : Int) := by
 rw [← or_hex c h hc h0 h1]
 have e : wrap32 ((c : Int) * 16) = (c : Int) * 16 := by unfold wrap32; omega
 rw [e]
theorem conv_one (W : World) (v : Int) (n : Nat) (h : v = n) (hn : n < 256) : (convert 116 9 (.slice (some ⟨W.heap.size, 0, none⟩) 1 1)).run Tryz.prog (W.alloc (.cells #[.int .u8 v] 5)) = .ok (.string ⟨#[UInt8.ofNat n]⟩) (W.alloc (.cells #[.int .u8 v] 5)) := by
 have := run_convert_bytes_back (P := Tryz.prog) (W.alloc (.cells #[.int .u8 v] 5)) 116 9 5 ⟨W.heap.size, 0, none⟩ 1 [UInt8.ofNat n] Tryz.underlying116 Tryz.underlying5 Tryz.underlying9 (fun j hj => by
  have hj0 : j = 0 := by simp at hj; omega
  subst hj0
  have hg : (W.alloc (.cells #[.int .u8 v] 5)).heap[W.heap.size]? = some (.cells #[.int .u8 v] 5) := get_new rfl
  have ha : (⟨W.heap.size, 0, none⟩ : Addr).add 0 = ⟨W.heap.size, 0, none⟩ := by unfold Addr.add; split <;> simp_all
  rw [ha, cell_of hg 0, h]
  show some (Value.int .u8 (n : Int)) = some (.int .u8 ((UInt8.ofNat n).toNat : Int))
  rw [ofNat8 n hn])
 exact this
theorem ba_eta (x : ByteArray) : (⟨x.data.toList.toArray⟩ : ByteArray) = x := by
 cases x
 simp
theorem num_neg (b : Nat → Nat) (r p c : Nat) (h : hexV (b p) < 0) : num b r p c = closeN b r p c := by
 cases r with
 | zero => rfl
 | succ r => rw [num, if_neg (by omega)]
theorem num_pos (b : Nat → Nat) (r p c : Nat) (h : 0 ≤ hexV (b p)) : num b (r + 1) p c = num b r (p + 1) (c * 16 + (hexV (b p)).toNat) := by rw [num, if_pos h]
theorem num_full (b : Nat → Nat) (p c : Nat) (h : 0 ≤ hexV (b p)) : num b 0 p c = none := by
 have := hexV_ascii h
 rw [num, closeN, if_neg (by omega)]
theorem escR_none {b : Nat → Nat} (h : esc b = none) : escR b = (ByteArray.empty, 0) := by unfold escR; rw [h]
theorem escR_some {b : Nat → Nat} {l : List UInt8} {n : Nat} (h : esc b = some (l, n)) : escR b = (⟨l.toArray⟩, n) := by unfold escR; rw [h]
theorem escR_of {b : Nat → Nat} {E : ByteArray} {n : Nat} (h : esc b = some (E.data.toList, n)) : escR b = (E, n) := by
 rw [escR_some h, ba_eta]
theorem esc_pair (b : Nat → Nat) (h : b 1 = 120) : esc b = if 0 ≤ hexV (b 2) ∧ 0 ≤ hexV (b 3) then some ([UInt8.ofNat ((hexV (b 2)).toNat * 16 + (hexV (b 3)).toNat)], 4) else none := by
 rw [esc, if_neg (by omega), if_neg (by omega), if_neg (by omega), if_neg (by omega), if_pos h]
theorem esc_brace (b : Nat → Nat) (h : b 1 = 117) : esc b = if b 2 = 123 then (num b 6 3 0).map (fun x => ((Utf8.encode (x.1 : Int)).data.toList, x.2)) else none := by
 rw [esc, if_neg (by omega), if_neg (by omega), if_neg (by omega), if_neg (by omega), if_neg (by omega), if_pos h]
theorem jumps_ret (J : Nat → Nat → Act → World → Prop) (Q : Exit → Act → World → Prop) (a : Act) (w : World) : jumps J Q .ret a w = Q .ret a w := rfl
def frL (t : ByteArray) (c p d : Nat) (x : Array Value) : Prop := ∃ u : Nat → Value, x = #[.string t, u 1, u 2, u 3, .int .i32 (c : Nat), u 5, .int .i64 (p : Nat), .int .i64 (d : Nat), u 8, u 9, u 10, u 11, u 12, u 13, u 14, u 15, u 16, u 17, u 18, u 19, u 20, u 21, u 22, u 23, u 24, u 25, u 26, u 27, u 28, u 29, u 30, u 31, u 32, u 33, u 34, u 35, u 36, u 37, u 38, u 39, u 40, u 41, u 42, u 43, u 44, u 45, u 46, u 47, u 48, u 49, u 50, u 51, u 52, u 53, u 54, u 55, u 56, u 57, u 58, u 59, u 60, u 61, u 62, u 63, u 64, u 65, u 66, u 67, u 68, u 69, u 70, u 71, u 72, u 73, u 74, u 75, u 76, u 77, u 78, u 79, u 80, u 81, u 82, u 83, u 84]
theorem frL_of {t : ByteArray} {c p d : Nat} {x : Array Value} (h : (fun u : Nat → Value => x = #[.string t, u 1, u 2, u 3, .int .i32 (c : Nat), u 5, .int .i64 (p : Nat), .int .i64 (d : Nat), u 8, u 9, u 10, u 11, u 12, u 13, u 14, u 15, u 16, u 17, u 18, u 19, u 20, u 21, u 22, u 23, u 24, u 25, u 26, u 27, u 28, u 29, u 30, u 31, u 32, u 33, u 34, u 35, u 36, u 37, u 38, u 39, u 40, u 41, u 42, u 43, u 44, u 45, u 46, u 47, u 48, u 49, u 50, u 51, u 52, u 53, u 54, u 55, u 56, u 57, u 58, u 59, u 60, u 61, u 62, u 63, u 64, u 65, u 66, u 67, u 68, u 69, u 70, u 71, u 72, u 73, u 74, u 75, u 76, u 77, u 78, u 79, u 80, u 81, u 82, u 83, u 84]) (fun i => x.getD i undef)) : frL t c p d x := ⟨fun i => x.getD i undef, h⟩
def atL (t : ByteArray) (w0 : World) (l m : Nat) (a : Act) (w : World) : Prop :=
  w = w0 ∧ ∃ (x : Array Value) (c p d : Nat), a = { tmps := x, defers := [] } ∧ frL t c p d x ∧
    ((l = 0 ∧ p = d + 2 ∧ d ≤ 1 ∧ m = 20 - d ∧ byt t 1 = 120 ∧ (d = 0 → c = 0) ∧ (d = 1 → 0 ≤ hexV (byt t 2) ∧ (c : Int) = hexV (byt t 2))) ∨
     (l = 1 ∧ p = 2 ∧ d = 0 ∧ c = 0 ∧ m = 30 ∧ byt t 1 = 117) ∨
     (l = 3 ∧ d ≤ 6 ∧ p = 3 + d ∧ c < 16 ^ d ∧ m = 20 - d ∧ esc (byt t) = (num (byt t) (6 - d) p c).map (fun x => ((Utf8.encode (x.1 : Int)).data.toList, x.2))) ∨
     (l = 4 ∧ d ≤ 6 ∧ p = 3 + d ∧ c < 16 ^ d ∧ m = 5 ∧ esc (byt t) = (closeN (byt t) (6 - d) p c).map (fun x => ((Utf8.encode (x.1 : Int)).data.toList, x.2))) ∨
     (l = 2 ∧ m = 1 ∧ esc (byt t) = none))

set_option maxRecDepth 1000000 in
theorem escape_any (t : ByteArray) (w : World) :
   Calls Tryz.prog 167 #[.string t] w fun e w' => e = .returned (.tuple #[.string (escR (byt t)).1, .int .i64 (escR (byt t)).2]) ∧ Below w.heap.size w w' := by
 go_enter Tryz.func167, Tryz.ntmps167
 go_wp2
 refine wp_scope_many (atL t w) ?_ ?_
 · by_cases h1 : byt t 1 = 34 ∨ byt t 1 = 92
   · have h2 : 1 < t.size := byt_in (by omega)
     have HE : Hid (escR (byt t) = (t.extract 1 2, 2)) := by
       show escR (byt t) = (t.extract 1 2, 2)
       have e : esc (byt t) = some ([UInt8.ofNat (byt t 1)], 2) := by rw [esc, if_pos h1]
       rw [escR_some e]
       have e2 : (⟨[UInt8.ofNat (byt t 1)].toArray⟩ : ByteArray) = t.extract 1 2 := by
         obtain ⟨⟨l⟩⟩ := t
         match l, h2 with
         | [], h2 => exact absurd h2 (by simp [ByteArray.size])
         | [_], h2 => exact absurd h2 (by simp [ByteArray.size])
         | a :: b :: l, h2 =>
           apply ByteArray.ext
           apply Array.ext'
           rw [ByteArray.data_extract, Array.toList_extract]
           have : byt ⟨⟨a :: b :: l⟩⟩ 1 = b.toNat := byt_get h2
           rw [this]
           simp [List.extract]
       rw [e2]
     have h2' : (1 : Int) < (t.size : Int) := by omega
     rcases h1 with h1 | h1
     all_goals
       go_wp2_with (go_at_call 199; refine (byteAt_any t 1 _).mono ?_; rintro e w' ⟨rfl, rfl⟩; rw [h1])
       rw [jumps_ret]
       go_ret2
       rw [HE.out]
       exact ⟨rfl, Below.refl _ _⟩
   by_cases h2 : byt t 1 = 110
   · have HE : Hid (escR (byt t) = (⟨#[10]⟩, 2)) := by
       show escR (byt t) = (⟨#[10]⟩, 2)
       unfold escR esc
       rw [if_neg h1, if_pos h2]
     go_wp2_with (go_at_call 199; refine (byteAt_any t 1 _).mono ?_; rintro e w' ⟨rfl, rfl⟩; rw [h2])
     rw [jumps_ret]
     go_ret2
     rw [HE.out]
     exact ⟨rfl, Below.refl _ _⟩
   by_cases h3 : byt t 1 = 116
   · have HE : Hid (escR (byt t) = (⟨#[9]⟩, 2)) := by
       show escR (byt t) = (⟨#[9]⟩, 2)
       unfold escR esc
       rw [if_neg h1, if_neg h2, if_pos h3]
     go_wp2_with (go_at_call 199; refine (byteAt_any t 1 _).mono ?_; rintro e w' ⟨rfl, rfl⟩; rw [h3])
     rw [jumps_ret]
     go_ret2
     rw [HE.out]
     exact ⟨rfl, Below.refl _ _⟩
   by_cases h4 : byt t 1 = 114
   · have HE : Hid (escR (byt t) = (⟨#[13]⟩, 2)) := by
       show escR (byt t) = (⟨#[13]⟩, 2)
       unfold escR esc
       rw [if_neg h1, if_neg h2, if_neg h3, if_pos h4]
     go_wp2_with (go_at_call 199; refine (byteAt_any t 1 _).mono ?_; rintro e w' ⟨rfl, rfl⟩; rw [h4])
     rw [jumps_ret]
     go_ret2
     rw [HE.out]
     exact ⟨rfl, Below.refl _ _⟩
   by_cases h5 : byt t 1 = 120
   · go_wp2_with (go_at_call 199; refine (byteAt_any t 1 _).mono ?_; rintro e w' ⟨rfl, rfl⟩; rw [h5])
     go_step3
     exact ⟨20, rfl, _, 0, 2, 0, rfl, frL_of rfl, Or.inl ⟨rfl, rfl, by omega, rfl, h5, fun _ => rfl, fun h => by omega⟩⟩
   by_cases h6 : byt t 1 = 117
   · go_wp2_with (go_at_call 199; refine (byteAt_any t 1 _).mono ?_; rintro e w' ⟨rfl, rfl⟩; rw [h6])
     go_step3
     exact ⟨30, rfl, _, 0, 2, 0, rfl, frL_of rfl, Or.inr (Or.inl ⟨rfl, rfl, rfl, rfl, rfl, h6⟩)⟩
   have HE : Hid (esc (byt t) = none) := by
     show esc (byt t) = none
     rw [esc, if_neg h1, if_neg h2, if_neg h3, if_neg h4, if_neg h5, if_neg h6]
   have g1 : ((byt t 1 : Int) == 34) = false := beq_eq_false_iff_ne.2 (by omega)
   have g2 : ((byt t 1 : Int) == 92) = false := beq_eq_false_iff_ne.2 (by omega)
   have g3 : ((byt t 1 : Int) == 110) = false := beq_eq_false_iff_ne.2 (by omega)
   have g4 : ((byt t 1 : Int) == 116) = false := beq_eq_false_iff_ne.2 (by omega)
   have g5 : ((byt t 1 : Int) == 114) = false := beq_eq_false_iff_ne.2 (by omega)
   have g6 : ((byt t 1 : Int) == 120) = false := beq_eq_false_iff_ne.2 (by omega)
   have g7 : ((byt t 1 : Int) == 117) = false := beq_eq_false_iff_ne.2 (by omega)
   clear h1 h2 h3 h4 h5 h6
   go_wp2_with (go_at_call 199; refine (byteAt_any t 1 _).mono ?_; rintro e w' ⟨rfl, rfl⟩)
   go_step3
   exact ⟨1, rfl, _, 0, 2, 0, rfl, frL_of rfl, Or.inr (Or.inr (Or.inr (Or.inr ⟨rfl, rfl, HE.out⟩)))⟩
 · rintro l m a w' ⟨rfl, x, c, p, d, rfl, ⟨u, rfl⟩, h0 | h1 | h3 | h4 | h2⟩
   · obtain ⟨rfl, rfl, hd, rfl, hx, hc0, hc1⟩ := h0
     refine ⟨_, rfl, ?_⟩
     have HX := esc_pair (byt t) hx
     have hv := hexV_lt (byt t (d + 2))
     have hv2 := hexV_lt (byt t 2)
     have hcl : c < 16 := by
       by_cases hd0 : d = 0
       · rw [hc0 hd0]; omega
       · have := hc1 (by omega); omega
     by_cases hneg : hexV (byt t (d + 2)) < 0
     · have HE : Hid (esc (byt t) = none) := by
         show esc (byt t) = none
         rw [HX, if_neg]
         intro hh
         by_cases hd0 : d = 0
         · rw [hd0] at hneg; exact absurd hh.1 (Int.not_le.2 hneg)
         · rw [show d = 1 by omega] at hneg; exact absurd hh.2 (Int.not_le.2 hneg)
       clear HX
       go_wp2_with (first | (go_at_call 199; refine (byteAt_any t (d + 2) _).mono ?_; rintro e w' ⟨rfl, rfl⟩) | (go_at_call 200; refine (hexValue_any _ (byt_lt t _) _).mono ?_; rintro e w' ⟨rfl, rfl⟩))
       go_step3
       exact ⟨1, by omega, rfl, _, c, d + 2, d, rfl, frL_of rfl, Or.inr (Or.inr (Or.inr (Or.inr ⟨rfl, rfl, HE.out⟩)))⟩
     · have hpos : 0 ≤ hexV (byt t (d + 2)) := by omega
       have hor := or_hex2 c _ (by omega) hpos hv.1
       have HO : Hid (bits .or .i32 ((c : Int) * 16) (hexV (byt t (d + 2))) = ((c * 16 + (hexV (byt t (d + 2))).toNat : Nat) : Int)) := hor
       clear hor
       by_cases hd0 : d = 0
       · have hlt : (d : Int) + 1 < 2 := by omega
         have HJ : Hid (∀ c' : Nat, c' = c * 16 + (hexV (byt t (d + 2))).toNat → (d + 1 = 1 → 0 ≤ hexV (byt t 2) ∧ (c' : Int) = hexV (byt t 2))) := by
           intro c' e _
           have h0 := hc0 hd0
           rw [hd0] at hpos e
           refine ⟨hpos, ?_⟩
           rw [e, h0]
           have : ((0 * 16 + (hexV (byt t (0 + 2))).toNat : Nat) : Int) = ((hexV (byt t (0 + 2))).toNat : Int) := by omega
           rw [this]
           exact Int.toNat_of_nonneg hpos
         clear HX hc0 hc1 hd0
         go_wp2_with (first | (go_at_call 199; refine (byteAt_any t (d + 2) _).mono ?_; rintro e w' ⟨rfl, rfl⟩) | (go_at_call 200; refine (hexValue_any _ (byt_lt t _) _).mono ?_; rintro e w' ⟨rfl, rfl⟩))
         go_step3
         rw [HO.out]
         exact ⟨19 - d, by omega, rfl, _, c * 16 + (hexV (byt t (d + 2))).toNat, d + 2 + 1, d + 1, rfl, frL_of rfl, Or.inl ⟨rfl, rfl, by omega, by omega, hx, fun h => by omega, HJ.out _ rfl⟩⟩
       · obtain hd1 : d = 1 := by omega
         obtain ⟨g1, g2⟩ := hc1 hd1
         have hge : 2 ≤ (d : Int) + 1 := by omega
         obtain ⟨n, hn⟩ : ∃ n, n = c * 16 + (hexV (byt t (d + 2))).toNat := ⟨_, rfl⟩
         have hn8 : n < 256 := by omega
         have HE : Hid (escR (byt t) = (⟨#[UInt8.ofNat n]⟩, d + 2 + 1)) := by
           show escR (byt t) = _
           rw [hn]
           rw [hd1] at hpos ⊢
           have e : esc (byt t) = some ([UInt8.ofNat (c * 16 + (hexV (byt t (1 + 2))).toNat)], 4) := by
            rw [HX, if_pos ⟨g1, hpos⟩, ← g2, Int.toNat_natCast]
           rw [escR_some e]
         have HO2 : Hid (bits .or .i32 ((c : Int) * 16) (hexV (byt t (d + 2))) = (n : Int)) := by
           show bits .or .i32 ((c : Int) * 16) (hexV (byt t (d + 2))) = (n : Int)
           rw [hn]
           exact HO.out
         clear HX g1 g2 hc0 hc1 hd1 hd0 hn HO
         go_wp2_with (first | (go_at_call 199; refine (byteAt_any t (d + 2) _).mono ?_; rintro e w' ⟨rfl, rfl⟩) | (go_at_call 200; refine (hexValue_any _ (byt_lt t _) _).mono ?_; rintro e w' ⟨rfl, rfl⟩))
         rw [HO2.out]
         rw [conv_one w' _ n (by omega) hn8]
         go_wp2
         rw [jumps_ret]
         go_ret2
         rw [HE.out]
         exact ⟨rfl, (Below.refl _ _).alloc (Nat.le_refl _) _⟩
   · obtain ⟨rfl, rfl, rfl, rfl, rfl, hx⟩ := h1
     refine ⟨_, rfl, ?_⟩
     have HX := esc_brace (byt t) hx
     have hv := hexV_lt (byt t 3)
     by_cases hb : byt t 2 = 123
     · rw [if_pos hb] at HX
       by_cases hneg : hexV (byt t 3) < 0
       · rw [num_neg _ _ _ _ hneg] at HX
         have HE : Hid (esc (byt t) = _) := HX
         clear HX
         go_wp2_with (go_at_call 199; refine (byteAt_any t 2 _).mono ?_; rintro e w' ⟨rfl, rfl⟩; rw [hb])
         go_step3
         go_wp2_with (first | (go_at_call 199; refine (byteAt_any t (3) _).mono ?_; rintro e w' ⟨rfl, rfl⟩) | (go_at_call 200; refine (hexValue_any _ (byt_lt t _) _).mono ?_; rintro e w' ⟨rfl, rfl⟩))
         go_step3
         exact ⟨5, by omega, rfl, _, 0, 3, 0, rfl, frL_of rfl, Or.inr (Or.inr (Or.inr (Or.inl ⟨rfl, by omega, rfl, by omega, rfl, HE.out⟩)))⟩
       · have hpos : 0 ≤ hexV (byt t 3) := by omega
         rw [num_pos _ _ _ _ hpos] at HX
         have HE : Hid (esc (byt t) = _) := HX
         have HO : Hid (0 + hexV (byt t 3) = ((0 * 16 + (hexV (byt t 3)).toNat : Nat) : Int)) := by
           show 0 + hexV (byt t 3) = ((0 * 16 + (hexV (byt t 3)).toNat : Nat) : Int)
           omega
         clear HX
         go_wp2_with (go_at_call 199; refine (byteAt_any t 2 _).mono ?_; rintro e w' ⟨rfl, rfl⟩; rw [hb])
         go_step3
         go_wp2_with (first | (go_at_call 199; refine (byteAt_any t (3) _).mono ?_; rintro e w' ⟨rfl, rfl⟩) | (go_at_call 200; refine (hexValue_any _ (byt_lt t _) _).mono ?_; rintro e w' ⟨rfl, rfl⟩))
         go_step3
         rw [HO.out]
         exact ⟨19, by omega, rfl, _, 0 * 16 + (hexV (byt t 3)).toNat, 3 + 1, 1, rfl, frL_of rfl, Or.inr (Or.inr (Or.inl ⟨rfl, by omega, rfl, by omega, rfl, HE.out⟩))⟩
     · rw [if_neg hb] at HX
       have HE : Hid (esc (byt t) = none) := HX
       have hq : ((byt t 2 : Int) == 123) = false := beq_eq_false_iff_ne.2 (by omega)
       clear HX hb
       go_wp2_with (go_at_call 199; refine (byteAt_any t 2 _).mono ?_; rintro e w' ⟨rfl, rfl⟩)
       go_step3
       exact ⟨1, by omega, rfl, _, 0, 2, 0, rfl, frL_of rfl, Or.inr (Or.inr (Or.inr (Or.inr ⟨rfl, rfl, HE.out⟩)))⟩
   · obtain ⟨rfl, hd, rfl, hc, rfl, hx⟩ := h3
     refine ⟨_, rfl, ?_⟩
     have hv := hexV_lt (byt t (3 + d))
     have hc6 : (16 : Nat) ^ d ≤ 16 ^ 6 := Nat.pow_le_pow_right (by omega) hd
     by_cases hneg : hexV (byt t (3 + d)) < 0
     · rw [num_neg _ _ _ _ hneg] at hx
       have HE : Hid (esc (byt t) = _) := hx
       clear hx
       go_wp2_with (first | (go_at_call 199; refine (byteAt_any t (3 + d) _).mono ?_; rintro e w' ⟨rfl, rfl⟩) | (go_at_call 200; refine (hexValue_any _ (byt_lt t _) _).mono ?_; rintro e w' ⟨rfl, rfl⟩))
       go_step3
       exact ⟨5, by omega, rfl, _, c, 3 + d, d, rfl, frL_of rfl, Or.inr (Or.inr (Or.inr (Or.inl ⟨rfl, hd, rfl, hc, rfl, HE.out⟩)))⟩
     · have hpos : 0 ≤ hexV (byt t (3 + d)) := by omega
       by_cases h6 : d = 6
       · subst h6
         rw [num_full _ _ _ hpos] at hx
         have HE : Hid (esc (byt t) = none) := hx
         have hpos9 : 0 ≤ hexV (byt t 9) := hpos
         clear hx hpos hneg hv
         go_wp2_with (first | (go_at_call 199; refine (byteAt_any t 9 _).mono ?_; rintro e w' ⟨rfl, rfl⟩) | (go_at_call 200; refine (hexValue_any _ (byt_lt t _) _).mono ?_; rintro e w' ⟨rfl, rfl⟩))
         go_step3
         exact ⟨1, by omega, rfl, _, c, 3 + 6, 6, rfl, frL_of rfl, Or.inr (Or.inr (Or.inr (Or.inr ⟨rfl, rfl, HE.out⟩)))⟩
       · rw [show 6 - d = (6 - (d + 1)) + 1 by omega, num_pos _ _ _ _ hpos] at hx
         have HE : Hid (esc (byt t) = _) := hx
         clear hx
         have h5 : d ≤ 5 := by omega
         have hc5 : (16 : Nat) ^ d ≤ 16 ^ 5 := Nat.pow_le_pow_right (by omega) h5
         have hcb : c < 1048576 := by omega
         have hcn : c * 16 + (hexV (byt t (3 + d))).toNat < 16 ^ (d + 1) := by
           rw [Nat.pow_succ]
           omega
         have HC : Hid (c * 16 + (hexV (byt t (3 + d))).toNat < 16 ^ (d + 1)) := hcn
         have HO : Hid (bits .or .i32 ((c : Int) * 16) (hexV (byt t (3 + d))) = ((c * 16 + (hexV (byt t (3 + d))).toNat : Nat) : Int)) := or_hex2 c _ (by omega) hpos hv.1
         have hq : ((d : Int) == 6) = false := beq_eq_false_iff_ne.2 (by omega)
         clear hcn hc hc5 hc6 h6
         go_wp2_with (first | (go_at_call 199; refine (byteAt_any t (3 + d) _).mono ?_; rintro e w' ⟨rfl, rfl⟩) | (go_at_call 200; refine (hexValue_any _ (byt_lt t _) _).mono ?_; rintro e w' ⟨rfl, rfl⟩))
         go_step3
         rw [HO.out]
         exact ⟨19 - d, by omega, rfl, _, c * 16 + (hexV (byt t (3 + d))).toNat, 3 + d + 1, d + 1, rfl, frL_of rfl, Or.inr (Or.inr (Or.inl ⟨rfl, by omega, by omega, HC.out, by omega, HE.out⟩))⟩
   · obtain ⟨rfl, hd, rfl, hc, rfl, hx⟩ := h4
     refine ⟨_, rfl, ?_⟩
     have HE : Hid (esc (byt t) = _) := hx
     have hc6 : (16 : Nat) ^ d ≤ 16 ^ 6 := Nat.pow_le_pow_right (by omega) hd
     have hcb : c < 16777216 := by omega
     clear hx hc hc6
     by_cases hok : 6 - d ≠ 6 ∧ byt t (3 + d) = 125 ∧ okR c = true
     · have HR : Hid (escR (byt t) = (Utf8.encode (c : Int), 3 + d + 1)) := by
         have e := HE.out
         rw [closeN, if_pos hok, Option.map_some] at e
         dsimp only at e
         exact escR_of (E := Utf8.encode (c : Int)) (n := 3 + d + 1) e
       have hd0 : ((d : Int) == 0) = false := beq_eq_false_iff_ne.2 (by omega)
       have hb := hok.2.1
       have ho := hok.2.2
       clear HE hok
       go_wp2_with (first | (go_at_call 199; refine (byteAt_any t (3 + d) _).mono ?_; rintro e w' ⟨rfl, rfl⟩; rw [hb]) | (go_at_call 201; refine (validRune_any c _).mono ?_; rintro e w' ⟨rfl, rfl⟩; rw [ho]))
       rw [jumps_ret]
       have hr := HR.out
       generalize Utf8.encode (c : Int) = E at hr ⊢
       go_ret2
       rw [hr]
       exact ⟨rfl, Below.refl _ _⟩
     · have HN : Hid (esc (byt t) = none) := by
         have e := HE.out
         rw [closeN, if_neg hok, Option.map_none] at e
         exact e
       clear HE
       by_cases hd0 : d = 0
       · subst hd0
         clear hok
         go_wp2
         go_step3
         exact ⟨1, by omega, rfl, _, c, 3 + 0, 0, rfl, frL_of rfl, Or.inr (Or.inr (Or.inr (Or.inr ⟨rfl, rfl, HN.out⟩)))⟩
       have hdi : ((d : Int) == 0) = false := beq_eq_false_iff_ne.2 (by omega)
       by_cases hb : byt t (3 + d) = 125
       · have ho : okR c = false := by
           cases h : okR c with
           | false => rfl
           | true => exact absurd ⟨by omega, hb, h⟩ hok
         clear hok hd0
         go_wp2_with (first | (go_at_call 199; refine (byteAt_any t (3 + d) _).mono ?_; rintro e w' ⟨rfl, rfl⟩; rw [hb]) | (go_at_call 201; refine (validRune_any c _).mono ?_; rintro e w' ⟨rfl, rfl⟩; rw [ho]))
         go_step3
         exact ⟨1, by omega, rfl, _, c, 3 + d, d, rfl, frL_of rfl, Or.inr (Or.inr (Or.inr (Or.inr ⟨rfl, rfl, HN.out⟩)))⟩
       · have hbi : ¬ (byt t (3 + d) : Int) = 125 := by omega
         clear hok hd0 hb
         go_wp2_with (go_at_call 199; refine (byteAt_any t (3 + d) _).mono ?_; rintro e w' ⟨rfl, rfl⟩)
         go_step3
         exact ⟨1, by omega, rfl, _, c, 3 + d, d, rfl, frL_of rfl, Or.inr (Or.inr (Or.inr (Or.inr ⟨rfl, rfl, HN.out⟩)))⟩
   · obtain ⟨rfl, rfl, hx⟩ := h2
     refine ⟨_, rfl, ?_⟩
     have HE : Hid (escR (byt t) = (ByteArray.empty, 0)) := escR_none hx
     go_wp2
     rw [jumps_ret]
     go_ret2
     rw [HE.out]
     exact ⟨rfl, Below.refl _ _⟩
end Go.Proofs.YtmahamdmapbilaaGreatDoor
namespace Go.Proofs.YtmahamdmapbilaaGreatDoor
open Go.Shelf Go.RowKit
def ren166 : Go.Shelf.Ren := ⟨fun | 166 => 168 | 240 => 194 | 276 => 218 | n => n, fun | 0 => 0 | 3 => 3 | 4 => 4 | 9 => 9 | 20 => 20 | 37 => 116 | 70 => 225 | 72 => 227 | 75 => 232 | 164 => 285 | 5 => 5 | 80 => 235 | n => n, fun | n => n⟩
theorem lays166 : Lays.n166 Tryz.prog ren166 := {
 mixed := by kernel_rfl
 f166 := Tryz.func168.trans (congrArg some (by kernel_rfl))
 f240 := Tryz.func194.trans (congrArg some (by kernel_rfl))
 f276 := Tryz.func218.trans (congrArg some (by kernel_rfl))
 t0 := Tryz.underlying0
 a0 := Tryz.isAgg0
 z0 := Tryz.sizeOf0
 v0 := Tryz.zeroValue0
 t3 := Tryz.underlying3
 a3 := Tryz.isAgg3
 z3 := Tryz.sizeOf3
 v3 := Tryz.zeroValue3
 t4 := Tryz.underlying4
 a4 := Tryz.isAgg4
 z4 := Tryz.sizeOf4
 v4 := Tryz.zeroValue4
 t9 := Tryz.underlying9
 a9 := Tryz.isAgg9
 z9 := Tryz.sizeOf9
 v9 := Tryz.zeroValue9
 t20 := Tryz.underlying20
 a20 := Tryz.isAgg20
 z20 := Tryz.sizeOf20
 v20 := Tryz.zeroValue20
 t37 := Tryz.underlying116
 a37 := Tryz.isAgg116
 z37 := Tryz.sizeOf116
 v37 := Tryz.zeroValue116
 t70 := Tryz.underlying225
 a70 := Tryz.isAgg225
 z70 := Tryz.sizeOf225
 v70 := Tryz.zeroValue225
 t72 := Tryz.underlying227
 a72 := Tryz.isAgg227
 z72 := Tryz.sizeOf227
 v72 := Tryz.zeroValue227
 t75 := Tryz.underlying232
 a75 := Tryz.isAgg232
 z75 := Tryz.sizeOf232
 v75 := Tryz.zeroValue232
 t164 := Tryz.underlying285
 a164 := Tryz.isAgg285
 z164 := Tryz.sizeOf285
 v164 := Tryz.zeroValue285 }
theorem extra166 : Builder.Extra Tryz.prog ren166 := {
 sizeBuilder := by kernel_rfl
 liesBuilder := by kernel_rfl
 t5 := Tryz.underlying5
 a5 := Tryz.isAgg5
 z5 := Tryz.sizeOf5
 v5 := Tryz.zeroValue5
 infoByte := by kernel_rfl
 cellsByte := by kernel_rfl
 sizeByte := by kernel_rfl
 neB5 := by decide }
theorem writeString_any (B b : Nat) (bs : List Value) (s : ByteArray) (w : World) (h : Lib.IsBuilderF 227 5 B b bs w) (hlen : bs.length + s.size ≤ 140737488355328) (hBw : B ≤ w.heap.size) :
 Calls Tryz.prog 168 #[.pointer (some ⟨b, 0, none⟩), .string s] w fun e w' => e = .returned (.tuple #[.int .i64 s.size, .nilIface]) ∧ (Lib.BuilderAtF 227 5 B b (.pointer (some ⟨b, 0, none⟩)) (bs ++ Lib.strCells s) w' ∧ Below B w w' ∧ Lib.OthersKept 5 (some b) w w') := Any.Builder_WriteString_k lays166 extra166 B b bs s w h hlen hBw
def ren168 : Go.Shelf.Ren := ⟨fun | 168 => 161 | 240 => 194 | 242 => 195 | 276 => 218 | 278 => 219 | n => n, fun | 0 => 0 | 3 => 3 | 4 => 4 | 5 => 5 | 9 => 9 | 20 => 20 | 21 => 21 | 37 => 116 | 46 => 264 | 51 => 34 | 70 => 225 | 72 => 227 | 75 => 232 | 164 => 285 | 80 => 235 | n => n, fun | n => n⟩
theorem lays168 : Lays.n168 Tryz.prog ren168 := {
 mixed := by kernel_rfl
 f168 := Tryz.func161.trans (congrArg some (by kernel_rfl))
 f240 := Tryz.func194.trans (congrArg some (by kernel_rfl))
 f242 := Tryz.func195.trans (congrArg some (by kernel_rfl))
 f276 := Tryz.func218.trans (congrArg some (by kernel_rfl))
 f278 := Tryz.func219.trans (congrArg some (by kernel_rfl))
 t0 := Tryz.underlying0
 a0 := Tryz.isAgg0
 z0 := Tryz.sizeOf0
 v0 := Tryz.zeroValue0
 t3 := Tryz.underlying3
 a3 := Tryz.isAgg3
 z3 := Tryz.sizeOf3
 v3 := Tryz.zeroValue3
 t4 := Tryz.underlying4
 a4 := Tryz.isAgg4
 z4 := Tryz.sizeOf4
 v4 := Tryz.zeroValue4
 t5 := Tryz.underlying5
 a5 := Tryz.isAgg5
 z5 := Tryz.sizeOf5
 v5 := Tryz.zeroValue5
 t9 := Tryz.underlying9
 a9 := Tryz.isAgg9
 z9 := Tryz.sizeOf9
 v9 := Tryz.zeroValue9
 t20 := Tryz.underlying20
 a20 := Tryz.isAgg20
 z20 := Tryz.sizeOf20
 v20 := Tryz.zeroValue20
 t21 := Tryz.underlying21
 a21 := Tryz.isAgg21
 z21 := Tryz.sizeOf21
 v21 := Tryz.zeroValue21
 t37 := Tryz.underlying116
 a37 := Tryz.isAgg116
 z37 := Tryz.sizeOf116
 v37 := Tryz.zeroValue116
 t46 := Tryz.underlying264
 a46 := Tryz.isAgg264
 z46 := Tryz.sizeOf264
 v46 := Tryz.zeroValue264
 t51 := Tryz.underlying34
 a51 := Tryz.isAgg34
 z51 := Tryz.sizeOf34
 v51 := Tryz.zeroValue34
 t70 := Tryz.underlying225
 a70 := Tryz.isAgg225
 z70 := Tryz.sizeOf225
 v70 := Tryz.zeroValue225
 t72 := Tryz.underlying227
 a72 := Tryz.isAgg227
 z72 := Tryz.sizeOf227
 v72 := Tryz.zeroValue227
 t75 := Tryz.underlying232
 a75 := Tryz.isAgg232
 z75 := Tryz.sizeOf232
 v75 := Tryz.zeroValue232
 t164 := Tryz.underlying285
 a164 := Tryz.isAgg285
 z164 := Tryz.sizeOf285
 v164 := Tryz.zeroValue285 }
theorem extra168 : Builder.Extra Tryz.prog ren168 := {
 sizeBuilder := by kernel_rfl
 liesBuilder := by kernel_rfl
 t5 := Tryz.underlying5
 a5 := Tryz.isAgg5
 z5 := Tryz.sizeOf5
 v5 := Tryz.zeroValue5
 infoByte := by kernel_rfl
 cellsByte := by kernel_rfl
 sizeByte := by kernel_rfl
 neB5 := by decide }
def ren169 : Go.Shelf.Ren := ⟨fun | 169 => 162 | n => n, fun | 0 => 0 | 3 => 3 | 5 => 5 | 9 => 9 | 37 => 116 | 70 => 225 | 72 => 227 | 127 => 244 | n => n, fun | n => n⟩
theorem lays169 : Lays.n169 Tryz.prog ren169 := {
 mixed := by kernel_rfl
 f169 := Tryz.func162.trans (congrArg some (by kernel_rfl))
 t0 := Tryz.underlying0
 a0 := Tryz.isAgg0
 z0 := Tryz.sizeOf0
 v0 := Tryz.zeroValue0
 t3 := Tryz.underlying3
 a3 := Tryz.isAgg3
 z3 := Tryz.sizeOf3
 v3 := Tryz.zeroValue3
 t9 := Tryz.underlying9
 a9 := Tryz.isAgg9
 z9 := Tryz.sizeOf9
 v9 := Tryz.zeroValue9
 t37 := Tryz.underlying116
 a37 := Tryz.isAgg116
 z37 := Tryz.sizeOf116
 v37 := Tryz.zeroValue116
 t70 := Tryz.underlying225
 a70 := Tryz.isAgg225
 z70 := Tryz.sizeOf225
 v70 := Tryz.zeroValue225
 t72 := Tryz.underlying227
 a72 := Tryz.isAgg227
 z72 := Tryz.sizeOf227
 v72 := Tryz.zeroValue227
 t127 := Tryz.underlying244
 a127 := Tryz.isAgg244
 z127 := Tryz.sizeOf244
 v127 := Tryz.zeroValue244 }
theorem extra169 : Builder.Extra Tryz.prog ren169 := {
 sizeBuilder := by kernel_rfl
 liesBuilder := by kernel_rfl
 t5 := Tryz.underlying5
 a5 := Tryz.isAgg5
 z5 := Tryz.sizeOf5
 v5 := Tryz.zeroValue5
 infoByte := by kernel_rfl
 cellsByte := by kernel_rfl
 sizeByte := by kernel_rfl
 neB5 := by decide }
theorem writeRune_any (B b : Nat) (bs : List Value) (r : Int) (hr0 : -2147483648 ≤ r) (hr1 : r ≤ 2147483647) (w : World) (h : Lib.IsBuilderF 227 5 B b bs w) (hlen : bs.length + 4 ≤ 140737488355328) (hBw : B ≤ w.heap.size) :
 Calls Tryz.prog 161 #[.pointer (some ⟨b, 0, none⟩), .int .i32 r] w fun e w' => e = .returned (.tuple #[.int .i64 (Lib.runeCells r).length, .nilIface]) ∧ (Lib.BuilderAtF 227 5 B b (.pointer (some ⟨b, 0, none⟩)) (bs ++ Lib.runeCells r) w' ∧ Below B w w' ∧ Lib.OthersKept 5 (some b) w w') := Any.Builder_WriteRune_k lays168 extra168 B b bs r hr0 hr1 w h hlen hBw
theorem string_any (B b : Nat) (l : List UInt8) (w : World) (h : Lib.IsBuilderF 227 5 B b (Lib.byteCells l) w) (hBw : B ≤ w.heap.size) :
 Calls Tryz.prog 162 #[.pointer (some ⟨b, 0, none⟩)] w fun e w' => e = .returned (.string ⟨l.toArray⟩) ∧ (Lib.IsBuilderF 227 5 B b (Lib.byteCells l) w' ∧ Below B w w' ∧ Lib.OthersKept 5 (some b) w w') := Any.Builder_String_any_k lays169 extra169 B b l w h hBw
end Go.Proofs.YtmahamdmapbilaaGreatDoor
namespace Go.Proofs.YtmahamdmapbilaaGreatDoor
open Go.RowKit Go.Shelf
def leadR (s : ByteArray) : List UInt8 × Nat × Nat := if byt s 0 = 34 then lead s s.size 1 [] else ([], 0, 11)
def leadV (x : List UInt8 × Nat × Nat) : Value := .tuple #[.string ⟨x.1.toArray⟩, .int .i64 x.2.1, .int .i64 x.2.2]
theorem isPre_quote (s : ByteArray) : isPre s ⟨#[34]⟩ = decide (byt s 0 = 34) := by
 unfold isPre
 by_cases h : 0 < s.size
 · rw [decide_eq_true (show (⟨#[34]⟩ : ByteArray).size ≤ s.size from h), Bool.true_and, byt_get h]
   obtain ⟨⟨l⟩⟩ := s
   cases l with
   | nil => exact absurd h (by simp [ByteArray.size])
   | cons a l =>
    have e1 : ((⟨⟨a :: l⟩⟩ : ByteArray).extract 0 (⟨#[34]⟩ : ByteArray).size).toList = [a] := by
      rw [Lib.toList_data]
      simp [ByteArray.size]
    have e2 : (⟨#[34]⟩ : ByteArray).toList = [34] := by rw [Lib.toList_data]
    rw [e1, e2]
    show ([a] == [34]) = decide (a.toNat = 34)
    by_cases ha : a = 34
    · subst ha; rfl
    · have : ¬ a.toNat = 34 := fun h => ha (UInt8.toNat_inj.1 h)
      simp [ha, this]
 · rw [decide_eq_false (show ¬ (⟨#[34]⟩ : ByteArray).size ≤ s.size from h), Bool.false_and, byt_out h]
   rfl
theorem isb_at {T e : TypeId} {B b : Nat} {p : Value} {bs : List Value} {W W' : World} (h : Lib.BuilderAtF T e B b p bs W) (hb : Below W.heap.size W W') : Lib.BuilderAtF T e B b p bs W' := by
 have hlt := h.lt
 obtain ⟨h1, v, h2, ⟨h3, h4⟩, h5⟩ := h
 refine ⟨h1, v, (hb.block b hlt).trans h2, ⟨h3, ?_⟩, h5⟩
 rcases h4 with h4 | ⟨g, cap, cur, fz, q1, q2, q3, q4⟩
 · exact Or.inl h4
 · exact Or.inr ⟨g, cap, cur, fz, q1, q2, (hb.block g (Array.getElem?_eq_some_iff.1 q3).1).trans q3, q4⟩
theorem isb_below {T e : TypeId} {B b : Nat} {bs : List Value} {W W' : World} (h : Lib.IsBuilderF T e B b bs W) (hb : Below W.heap.size W W') : Lib.IsBuilderF T e B b bs W' :=
 h.elim (fun x => Or.inl (isb_at x hb)) (fun x => Or.inr (isb_at x hb))
set_option maxRecDepth 1000000 in
theorem leading_any (s : ByteArray) (hs : s.size ≤ 4194304) (w : World) :
  Calls Tryz.prog 108 #[.string s] w fun e w' => e = .returned (leadV (leadR s)) ∧ Below w.heap.size w w' := by
 by_cases hq : byt s 0 = 34
 case neg =>
  have HP : Hid (isPre s ⟨#[34]⟩ = false) := by show isPre s ⟨#[34]⟩ = false; rw [isPre_quote]; exact decide_eq_false hq
  go_enter Tryz.func108, Tryz.ntmps108
  go_wp2_with (go_at_call 166; refine (prefix_any s ⟨#[34]⟩ (by unfold maxLen; omega) (by show (1 : Nat) ≤ maxLen; unfold maxLen; omega) _).mono ?_)
  rintro e w ⟨rfl, rfl⟩
  rw [HP.out]
  go_wp2
  go_ret3
  refine ⟨?_, Below.refl _ _⟩
  unfold leadR
  rw [if_neg hq]
  rfl
 case pos =>
  have hs0 : 0 < s.size := byt_in (by omega)
  have HL : Hid (leadR s = lead s s.size 1 []) := by show leadR s = lead s s.size 1 []; unfold leadR; rw [if_pos hq]
  have HP : Hid (isPre s ⟨#[34]⟩ = true) := by show isPre s ⟨#[34]⟩ = true; rw [isPre_quote]; exact decide_eq_true hq
  go_enter Tryz.func108, Tryz.ntmps108
  go_wp2_with (go_at_call 166; refine (prefix_any s ⟨#[34]⟩ (by unfold maxLen; omega) (by show (1 : Nat) ≤ maxLen; unfold maxLen; omega) _).mono ?_)
  rintro e w ⟨rfl, rfl⟩
  rw [HP.out]
  go_wp2
  go_loopw [6] (fun nx wz => ∃ (pos n f : Nat) (acc : List UInt8), nx = .int .i64 n ∧ n ≤ s.size ∧ s.size ≤ max pos n + f ∧ (∀ k, pos ≤ k → k < n → byt s k < 128) ∧ Hid (lead s f (max pos n) acc = lead s s.size 1 []) ∧ acc.length ≤ 4 * max pos n ∧ pos ≤ s.size ∧ Lib.IsBuilderF 227 5 w.heap.size w.heap.size (Lib.byteCells acc) wz ∧ wz.heap[w.heap.size + 1]? = some (.stringIter s pos) ∧ Below w.heap.size w wz) (fun _ wz => s.size - wz.iterPos (w.heap.size + 1))
  case atStart =>
   refine ⟨0, 1, s.size, [], rfl, by omega, by omega, ?_, (rfl : lead s s.size 1 [] = _), by simp, by omega, (Lib.IsBuilderF.of (Lib.fresh_isBuilder 227 5 w)).alloc _, ?_, ((Below.refl _ w).alloc (Nat.le_refl _) _).alloc (by simp) _⟩
   · intro k h1 h2
     obtain rfl : k = 0 := by omega
     omega
   · have := World.iter_heap (w.alloc (.cells #[.pointer none, .slice none 0 0] 227)) s 0
     simpa using this
  case round =>
   obtain ⟨pos, n, f, acc, rfl, hn, hfu, hasc, hld, hal, hps, hI, hit, hbw⟩ := hrel
   have hsz : w.heap.size + 1 < wr.heap.size := (Array.getElem?_eq_some_iff.1 hit).1
   by_cases hp : pos < s.size
   · have hnx : ∀ ty, (Instr.next (.pointer (some ⟨w.heap.size + 1, 0, none⟩)) true ty).run Tryz.prog wr = _ := fun ty => Lib.run_next_any_at wr (w.heap.size + 1) s pos ty hit hp
     have hwd := wdt_pos s pos
     have hwl := wdt_le s pos hp
     have hw4 := wdt_le4 s pos
     have erw : (Utf8.decode s pos).1 = rn s pos := rfl
     have eww : (Utf8.decode s pos).2 = wdt s pos := rfl
     rw [erw, eww] at hnx
     have hI2 := hI.iterAt hit (pos + wdt s pos)
     have hit2 := Lib.iterAt_heap wr (w.heap.size + 1) s pos (pos + wdt s pos) hit
     have hbw2 := Lib.below_iterAt hbw (k := w.heap.size + 1) (by omega) s (pos + wdt s pos)
     have hsz2 : w.heap.size ≤ (wr.iterAt (w.heap.size + 1) s (pos + wdt s pos)).heap.size := by rw [Lib.iterAt_size]; omega
     have hsz3 : wr.iterPos (w.heap.size + 1) = pos := by simp only [World.iterPos, hit]
     clear erw eww
     by_cases hin : pos < n
     · have hb := hasc pos (Nat.le_refl _) hin
       obtain ⟨h1, h2⟩ := one_byte s pos hp hb
       rw [h2] at hnx hI2 hit2 hbw2 hsz2
       have hasc2 := hasc
       clear hasc hI hbw
       have hini : (pos : Int) < (n : Int) := by omega
       have HL2 : Hid (max pos n = n) := by show max pos n = n; omega
       have HL3 : Hid (max (pos + 1) n = n) := by show max (pos + 1) n = n; omega
       have HA : Hid (∀ k, pos + 1 ≤ k → k < n → byt s k < 128) := fun k k1 k2 => hasc2 k (by omega) k2
       clear hasc2 hb h1 h2
       go_wp2
       go_roundw
       case rel =>
         refine ⟨pos + 1, n, f, acc, rfl, hn, ?_, HA.out, ?_, ?_, by omega, hI2, hit2, hbw2⟩
         · rw [HL3.out]; rw [HL2.out] at hfu; exact hfu
         · rw [HL3.out]; rw [HL2.out] at hld; exact hld
         · rw [HL3.out]; rw [HL2.out] at hal; exact hal
       case measure =>
         rw [hsz3]
         simp only [World.iterPos, hit2]
         omega
     · have hm : max pos n = pos := by omega
       rw [hm] at hfu hld hal
       obtain ⟨g, rfl⟩ : ∃ g, f = g + 1 := ⟨f - 1, by omega⟩
       have hini : ¬ (pos : Int) < (n : Int) := by omega
       have hlt := byt_lt s pos
       clear hasc hm
       by_cases c1 : byt s pos = 34
       · obtain ⟨h1, h2⟩ := one_byte s pos hp (by omega)
         have HR : Hid (leadR s = (acc, pos + 1, 0)) := by
           show leadR s = _
           rw [HL.out, ← hld.out, lead_quote s g pos acc hp c1]
         rw [h1, c1, h2] at hnx
         rw [h2] at hI2 hit2 hbw2 hsz2
         clear hld hI hbw
         go_wp2_with (go_at_call 162; refine (string_any w.heap.size w.heap.size acc _ hI2 hsz2).mono ?_)
         intro e W1 he1 _ b1 _
         subst he1
         go_wp2
         go_ret3
         rw [HR.out]
         exact ⟨rfl, hbw2.trans b1⟩
       by_cases c2 : byt s pos = 92
       · obtain ⟨h1, h2⟩ := one_byte s pos hp (by omega)
         rw [h1, c2, h2] at hnx
         rw [h2] at hI2 hit2 hbw2 hsz2
         have HX := esc_extract s pos (by omega)
         have hpi : (pos : Int) ≤ (s.size : Int) := by omega
         cases he : esc (fun k => byt s (pos + k)) with
         | none =>
           have HR : Hid (leadR s = ([], pos, 12)) := by
             show leadR s = _
             rw [HL.out, ← hld.out, lead_none s g pos acc hp c2 he]
           rw [he] at HX
           have HE : Hid (escR (byt (s.extract pos s.size)) = (ByteArray.empty, 0)) := escR_none HX
           clear hld hI hbw HX he
           go_wp2_with (go_at_call 167; refine (escape_any (s.extract pos s.size) _).mono ?_)
           intro e W1 he1 b1
           subst he1
           rw [HE.out]
           go_wp2
           go_ret3
           rw [HR.out]
           exact ⟨rfl, hbw2.trans (b1.mono hsz2)⟩
         | some x =>
           obtain ⟨l, k⟩ := x
           obtain ⟨k1, k2, k3, k4⟩ := esc_ok _ l k he
           have HR : Hid (lead s g (pos + k) (acc ++ l) = lead s s.size 1 []) := by
             show lead s g (pos + k) (acc ++ l) = _
             rw [← hld.out, lead_some s g pos acc l k hp c2 he]
           rw [he] at HX
           have HE : Hid (escR (byt (s.extract pos s.size)) = (⟨l.toArray⟩, k)) := escR_some HX
           have hk9 : pos + k ≤ s.size := by
             have := (k4 (k - 1) (by omega) (by omega)).1
             have := byt_in (s := s) (i := pos + (k - 1)) (by omega)
             omega
           have HA : Hid (∀ j, pos + 1 ≤ j → j < pos + k → byt s j < 128) := by
             intro j j1 j2
             have := (k4 (j - pos) (by omega) (by omega)).2
             rw [show pos + (j - pos) = j by omega] at this
             exact this
           have hll : (Lib.byteCells acc).length = acc.length := Lib.byteCells_length acc
           have hk0 : ((k : Int) == 0) = false := beq_eq_false_iff_ne.2 (by omega)
           clear hld hI hbw HX he k4
           go_wp2_with (go_at_call 167; refine (escape_any (s.extract pos s.size) _).mono ?_)
           intro e W1 he1 b1
           subst he1
           rw [HE.out]
           have hb3 := hbw2.trans (b1.mono hsz2)
           have hI3 := isb_below hI2 b1
           have hit3 := (b1.block (w.heap.size + 1) (by rw [Lib.iterAt_size]; exact hsz)).trans hit2
           have hsz4 : w.heap.size ≤ W1.heap.size := Nat.le_trans hsz2 b1.size
           go_wp2_with (go_at_call 168; refine (writeString_any w.heap.size w.heap.size _ ⟨l.toArray⟩ _ hI3 (by rw [hll]; show acc.length + l.length ≤ _; omega) hsz4).mono ?_)
           rintro e W2 ⟨he2, h1, b2, k2⟩
           subst he2
           go_wp2
           go_roundw
           case rel =>
             refine ⟨pos + 1, pos + k, g, acc ++ l, rfl, hk9, by omega, HA.out, ?_, by rw [List.length_append]; omega, by omega, ?_, k2.iter hit3 (by omega), hb3.trans b2⟩
             · rw [show max (pos + 1) (pos + k) = pos + k by omega]; exact HR
             · rw [Lib.byteCells_append]; exact Or.inr h1
           case measure =>
             rw [hsz3]
             simp only [World.iterPos, k2.iter hit3 (by omega)]
             omega
       have hrn : (rn s pos : Int) ≠ 34 ∧ (rn s pos : Int) ≠ 92 := by
         by_cases h8 : byt s pos < 128
         · have := (one_byte s pos hp h8).1
           omega
         · have := more_byte s pos hp (by omega)
           omega
       have hr34 : ((rn s pos : Int) == 34) = false := beq_eq_false_iff_ne.2 hrn.1
       have hr92 : ((rn s pos : Int) == 92) = false := beq_eq_false_iff_ne.2 hrn.2
       clear hrn
       by_cases hbad : ctl (rn s pos : Int) = true ∨ looseB s pos = true
       · have HR : Hid (leadR s = ([], pos, 10)) := by
           show leadR s = _
           rw [HL.out, ← hld.out, lead_bad s g pos acc hp c1 c2 hbad]
         clear hld hI hbw
         cases hc : ctl (rn s pos : Int) with
         | true =>
           clear hbad
           go_wp2_with (go_at_call 169; refine (isControl_any _ _).mono ?_; rintro e w9 ⟨rfl, rfl⟩; rw [hc])
           go_ret3
           rw [HR.out]
           exact ⟨rfl, hbw2⟩
         | false =>
           have hlo : looseB s pos = true := by
             rcases hbad with h | h
             · rw [hc] at h; cases h
             · exact h
           clear hbad
           go_wp2_with (first | (go_at_call 169; refine (isControl_any _ _).mono ?_; rintro e w9 ⟨rfl, rfl⟩; rw [hc]) | (go_at_call 170; refine (looseAt_any s pos hp (by unfold maxLen; omega) _).mono ?_; rintro e w9 ⟨rfl, rfl⟩; rw [hlo]))
           go_ret3
           rw [HR.out]
           exact ⟨rfl, hbw2⟩
       · have HR : Hid (lead s g (pos + wdt s pos) (acc ++ (Utf8.encode (rn s pos : Int)).data.toList) = lead s s.size 1 []) := by
           show lead s g (pos + wdt s pos) (acc ++ (Utf8.encode (rn s pos : Int)).data.toList) = _
           rw [← hld.out, lead_char s g pos acc hp c1 c2 hbad]
         have hc : ctl (rn s pos : Int) = false := by
           cases h : ctl (rn s pos : Int) with
           | false => rfl
           | true => exact absurd (Or.inl h) hbad
         have hlo : looseB s pos = false := by
           cases h : looseB s pos with
           | false => rfl
           | true => exact absurd (Or.inr h) hbad
         have hel : (Utf8.encode (rn s pos : Int)).data.toList.length ≤ 4 := by rw [enc_len]; exact (clen_pos _).2
         have HEL : Hid ((acc ++ (Utf8.encode (rn s pos : Int)).data.toList).length ≤ 4 * (pos + wdt s pos)) := by
           show (acc ++ (Utf8.encode (rn s pos : Int)).data.toList).length ≤ 4 * (pos + wdt s pos)
           rw [List.length_append]
           omega
         have hll : (Lib.byteCells acc).length = acc.length := Lib.byteCells_length acc
         have hr8 := rn_le s pos
         clear hld hI hbw hbad hel
         go_wp2_with (first | (go_at_call 169; refine (isControl_any _ _).mono ?_; rintro e w9 ⟨rfl, rfl⟩; rw [hc]) | (go_at_call 170; refine (looseAt_any s pos hp (by unfold maxLen; omega) _).mono ?_; rintro e w9 ⟨rfl, rfl⟩; rw [hlo]) | (go_at_call 161; refine (writeRune_any w.heap.size w.heap.size _ _ (by omega) (by omega) _ hI2 (by rw [hll]; omega) hsz2).mono ?_))
         rintro e W1 ⟨he1, h1, b1, k1⟩
         subst he1
         go_wp2
         go_roundw
         case rel =>
           refine ⟨pos + wdt s pos, n, g, acc ++ (Utf8.encode (rn s pos : Int)).data.toList, rfl, hn, by omega, fun k q1 q2 => by omega, ?_, ?_, hwl, ?_, k1.iter hit2 (by omega), hbw2.trans b1⟩
           · rw [show max (pos + wdt s pos) n = pos + wdt s pos by omega]; exact HR
           · rw [show max (pos + wdt s pos) n = pos + wdt s pos by omega]; exact HEL.out
           · rw [← enc_same, Lib.byteCells_append, Lib.byteCells_encodeRune]; exact Or.inr h1
         case measure =>
           rw [hsz3]
           simp only [World.iterPos, k1.iter hit2 (by omega)]
           omega
   · have HR : Hid (leadR s = ([], s.size, 11)) := by
       show leadR s = _
       rw [HL.out, ← hld.out, lead_end s f _ acc (by omega)]
     have hnx : ∀ ty, (Instr.next (.pointer (some ⟨w.heap.size + 1, 0, none⟩)) true ty).run Tryz.prog wr = _ := fun ty => Lib.run_next_end_at wr (w.heap.size + 1) s pos ty hit hp
     clear hld hasc
     go_wp2
     go_ret3
     rw [HR.out]
     exact ⟨rfl, hbw⟩
end Go.Proofs.YtmahamdmapbilaaGreatDoor
