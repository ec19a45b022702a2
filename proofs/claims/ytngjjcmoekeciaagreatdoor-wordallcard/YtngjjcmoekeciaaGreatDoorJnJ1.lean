/- What an escape says, reckoned over its bytes: plain mathematics. -/
import Derived.Test.YtngjjcmoekeciaaGreatDoorJnJ0
import Derived.Test.YtngjjcmoekeciaaGreatDoorBas2
import Derived.ScopeJumps
import Derived.WalkMore
import Derived.Laws.BitsAllLaws
import Derived.Laws.BytesArg
import Derived.Test.YtngjjcmoekeciaaGreatDoorBas
import Derived.Deep.Light
namespace Go.Proofs.YtngjjcmoekeciaaGreatDoor
open Go.RowKit Go.Shelf

theorem byt_lt (s : ByteArray) (i : Nat) : byt s i < 256 := by
  unfold byt
  split
  · exact (s[i]).toNat_lt
  · omega
theorem byt_in {s : ByteArray} {i : Nat} (h : byt s i ≠ 0) : i < s.size := by
  unfold byt at h
  split at h
  · assumption
  · exact absurd rfl h
theorem byt_get {s : ByteArray} {i : Nat} (h : i < s.size) : byt s i = (s[i]'h).toNat := by unfold byt; rw [dif_pos h]
theorem byt_out {s : ByteArray} {i : Nat} (h : ¬ i < s.size) : byt s i = 0 := by unfold byt; rw [dif_neg h]
theorem byt_extract (s : ByteArray) (a k : Nat) (ha : a ≤ s.size) : byt (s.extract a s.size) k = byt s (a + k) := by
  have hsz : (s.extract a s.size).size = s.size - a := by simp
  by_cases h : a + k < s.size
  · rw [byt_get (s := s.extract a s.size) (by omega), byt_get h]
    congr 1
    exact ByteArray.getElem_extract ..
  · rw [byt_out h, byt_out (by omega)]

def okR (c : Nat) : Bool := decide (c < 55296 ∨ (57344 ≤ c ∧ c ≤ 1114111))
/-- The closing bracket of a number, behind 6 - r digits. -/
def closeN (b : Nat → Nat) (r p c : Nat) : Option (Nat × Nat) := if r ≠ 6 ∧ b p = 125 ∧ okR c = true then some (c, p + 1) else none
/-- A number's digits. -/
def num (b : Nat → Nat) : Nat → Nat → Nat → Option (Nat × Nat)
  | 0, p, c => closeN b 0 p c
  | r + 1, p, c => if 0 ≤ hexV (b p) then num b r (p + 1) (c * 16 + (hexV (b p)).toNat) else closeN b (r + 1) p c
/-- An escape: the bytes that it says, its length. -/
def esc (b : Nat → Nat) : Option (List UInt8 × Nat) :=
  if b 1 = 34 ∨ b 1 = 92 then some ([UInt8.ofNat (b 1)], 2)
  else if b 1 = 110 then some ([10], 2)
  else if b 1 = 116 then some ([9], 2)
  else if b 1 = 114 then some ([13], 2)
  else if b 1 = 120 then (if 0 ≤ hexV (b 2) ∧ 0 ≤ hexV (b 3) then some ([UInt8.ofNat ((hexV (b 2)).toNat * 16 + (hexV (b 3)).toNat)], 4) else none)
  else if b 1 = 117 then (if b 2 = 123 then (num b 6 3 0).map (fun x => ((Utf8.encode (x.1 : Int)).data.toList, x.2)) else none)
  else none

theorem hexV_lt (b : Nat) : hexV b < 16 ∧ -1 ≤ hexV b := by
  unfold hexV
  (repeat' split) <;> omega
theorem hexV_ascii {b : Nat} (h : 0 ≤ hexV b) : 0 < b ∧ b < 128 ∧ b ≠ 125 := by
  unfold hexV at h
  (repeat' split at h) <;> omega

theorem num_ok (b : Nat → Nat) : ∀ (r p c : Nat) (x : Nat × Nat), r ≤ 6 → num b r p c = some x → p + 1 ≤ x.2 ∧ x.2 ≤ p + r + 1 ∧ okR x.1 = true ∧ ∀ k, p ≤ k → k < x.2 → 0 < b k ∧ b k < 128
  | 0, p, c, x, _, h => by
    unfold num closeN at h
    split at h
    · rename_i hc
      cases h
      refine ⟨Nat.le_refl _, by simp, hc.2.2, fun k h1 h2 => ?_⟩
      dsimp only at h2
      obtain rfl : k = p := by omega
      omega
    · cases h
  | r + 1, p, c, x, hr, h => by
    unfold num at h
    split at h
    · rename_i hd
      obtain ⟨h1, h2, h3, h4⟩ := num_ok b r (p + 1) _ x (by omega) h
      refine ⟨by omega, by omega, h3, fun k k1 k2 => ?_⟩
      by_cases hk : k = p
      · subst hk
        have := hexV_ascii hd
        omega
      · exact h4 k (by omega) k2
    · unfold closeN at h
      split at h
      · rename_i hc
        cases h
        refine ⟨Nat.le_refl _, by dsimp only; omega, hc.2.2, fun k h1 h2 => ?_⟩
        dsimp only at h2
        obtain rfl : k = p := by omega
        omega
      · cases h

theorem esc_ok (b : Nat → Nat) (l : List UInt8) (n : Nat) (h : esc b = some (l, n)) : 2 ≤ n ∧ n ≤ 10 ∧ l.length ≤ 4 ∧ ∀ k, 1 ≤ k → k < n → 0 < b k ∧ b k < 128 := by
  unfold esc at h
  split at h
  · cases h
    refine ⟨by omega, by omega, by simp, fun k k1 k2 => ?_⟩
    obtain rfl : k = 1 := by omega
    omega
  split at h
  · cases h
    refine ⟨by omega, by omega, by simp, fun k k1 k2 => ?_⟩
    obtain rfl : k = 1 := by omega
    omega
  split at h
  · cases h
    refine ⟨by omega, by omega, by simp, fun k k1 k2 => ?_⟩
    obtain rfl : k = 1 := by omega
    omega
  split at h
  · cases h
    refine ⟨by omega, by omega, by simp, fun k k1 k2 => ?_⟩
    obtain rfl : k = 1 := by omega
    omega
  split at h
  · split at h
    · rename_i hx hd
      cases h
      have h2 := hexV_ascii hd.1
      have h3 := hexV_ascii hd.2
      refine ⟨by omega, by omega, by simp, fun k k1 k2 => ?_⟩
      obtain rfl | rfl | rfl : k = 1 ∨ k = 2 ∨ k = 3 := by omega
      all_goals omega
    · cases h
  split at h
  · split at h
    · rename_i hu hb
      rw [Option.map_eq_some_iff] at h
      obtain ⟨x, hx, he⟩ := h
      simp only [Prod.mk.injEq] at he
      obtain ⟨e1, e2⟩ := he
      subst e2
      obtain ⟨h1, h2, h3, h4⟩ := num_ok b 6 3 0 x (by omega) hx
      refine ⟨by omega, by omega, ?_, fun k k1 k2 => ?_⟩
      · rw [← e1, enc_len]
        exact (clen_pos _).2
      · by_cases hk1 : k = 1
        · subst hk1; omega
        by_cases hk2 : k = 2
        · subst hk2; omega
        exact h4 k (by omega) k2
    · cases h
  · cases h

theorem esc_congr {b b' : Nat → Nat} (h : ∀ k, b k = b' k) : esc b = esc b' := by rw [funext h]
theorem esc_extract (s : ByteArray) (a : Nat) (ha : a ≤ s.size) : esc (byt (s.extract a s.size)) = esc (fun k => byt s (a + k)) := esc_congr (fun k => byt_extract s a k ha)

/-- What a quoted text says from the place p on, behind what was said already: the bytes, the place, the error. -/
def lead (s : ByteArray) : Nat → Nat → List UInt8 → List UInt8 × Nat × Nat
  | 0, _, _ => ([], s.size, 11)
  | f + 1, p, acc =>
    if ¬ p < s.size then ([], s.size, 11)
    else if byt s p = 34 then (acc, p + 1, 0)
    else if byt s p = 92 then (match esc (fun k => byt s (p + k)) with | none => ([], p, 12) | some x => lead s f (p + x.2) (acc ++ x.1))
    else if ctl (rn s p : Int) = true ∨ looseB s p = true then ([], p, 10)
    else lead s f (p + wd s p) (acc ++ (Utf8.encode (rn s p : Int)).data.toList)

theorem lead_end (s : ByteArray) (f p : Nat) (acc : List UInt8) (h : ¬ p < s.size) : lead s f p acc = ([], s.size, 11) := by
  cases f with
  | zero => rfl
  | succ f => rw [lead, if_pos h]
theorem lead_quote (s : ByteArray) (f p : Nat) (acc : List UInt8) (h : p < s.size) (hq : byt s p = 34) : lead s (f + 1) p acc = (acc, p + 1, 0) := by
  rw [lead, if_neg (by omega), if_pos hq]
theorem lead_none (s : ByteArray) (f p : Nat) (acc : List UInt8) (h : p < s.size) (hq : byt s p = 92) (he : esc (fun k => byt s (p + k)) = none) : lead s (f + 1) p acc = ([], p, 12) := by
  rw [lead, if_neg (by omega), if_neg (by omega), if_pos hq, he]
theorem lead_some (s : ByteArray) (f p : Nat) (acc l : List UInt8) (n : Nat) (h : p < s.size) (hq : byt s p = 92) (he : esc (fun k => byt s (p + k)) = some (l, n)) : lead s (f + 1) p acc = lead s f (p + n) (acc ++ l) := by
  rw [lead, if_neg (by omega), if_neg (by omega), if_pos hq, he]
theorem lead_bad (s : ByteArray) (f p : Nat) (acc : List UInt8) (h : p < s.size) (h1 : byt s p ≠ 34) (h2 : byt s p ≠ 92) (hb : ctl (rn s p : Int) = true ∨ looseB s p = true) : lead s (f + 1) p acc = ([], p, 10) := by
  rw [lead, if_neg (by omega), if_neg h1, if_neg h2, if_pos hb]
theorem lead_char (s : ByteArray) (f p : Nat) (acc : List UInt8) (h : p < s.size) (h1 : byt s p ≠ 34) (h2 : byt s p ≠ 92) (hb : ¬ (ctl (rn s p : Int) = true ∨ looseB s p = true)) : lead s (f + 1) p acc = lead s f (p + wd s p) (acc ++ (Utf8.encode (rn s p : Int)).data.toList) := by
  rw [lead, if_neg (by omega), if_neg h1, if_neg h2, if_neg hb]

/-- A byte below 128 is a character of its own. -/
theorem one_byte (s : ByteArray) (p : Nat) (h : p < s.size) (hb : byt s p < 128) : rn s p = byt s p ∧ wd s p = 1 := by
  have e : (s.get! p).toNat = byt s p := by rw [byt_get h, get_eq s p h]; rfl
  have : Utf8.decode s p = (byt s p, 1) := by
    rw [shape, e]
    unfold Lib.decodeN
    rw [if_pos hb]
  unfold rn wd
  rw [this]
  exact ⟨rfl, rfl⟩
theorem more_byte (s : ByteArray) (p : Nat) (h : p < s.size) (hb : 128 ≤ byt s p) : 128 ≤ rn s p := by
  have e : (s.get! p).toNat = byt s p := by rw [byt_get h, get_eq s p h]; rfl
  have := byt_lt s p
  unfold rn
  rw [shape, e]
  rcases Lib.decodeN_shape (s.size - p) (byt s p) (s.get! (p + 1)).toNat (s.get! (p + 2)).toNat (s.get! (p + 3)).toNat with ⟨c, e⟩ | ⟨c1, c2, c3, cv, e⟩ | ⟨c1, c2, c3, c4, cv, cs, e⟩ | ⟨c1, c2, c3, c4, c5, cv, cw, e⟩ | e
  all_goals (rw [e]; dsimp only; omega)
end Go.Proofs.YtngjjcmoekeciaaGreatDoor
namespace Go.Proofs.YtngjjcmoekeciaaGreatDoor
open Go.RowKit Go.Shelf

/-- As Q; by a goto to a label: J of it, with a measure. -/
def jumps (J : Nat → Nat → Act → World → Prop) (Q : Exit → Act → World → Prop) : Exit → Act → World → Prop
  | .goto l, a, w => ∃ m, J l m a w
  | e, a, w => Q e a w

theorem wp_scope_many {P : Program} {a : Act} {w : World} {Q : Exit → Act → World → Prop} {c : Code} (J : Nat → Nat → Act → World → Prop)
    (first : c.wp P (jumps J Q) a w)
    (pass : ∀ l m a w, J l m a w → ∃ rest, findLabel c l = some rest ∧ rest.wp P (jumps (fun l' m' a' w' => m' < m ∧ J l' m' a' w') Q) a w) : (Code.scope c).wp P Q a w := by
  intro b k cs
  have key : ∀ n l a w, J l n a w → ∃ rest, findLabel c l = some rest ∧ ∃ e a' w', Q e a' w' ∧ Arrives P (lone (b.at a (.code rest :: .inScope c :: k)) cs w) b k cs e a' w' := by
    intro n
    induction n using Nat.strongRecOn with
    | _ n ih =>
      intro l a w hJ
      obtain ⟨rest, hf, hp⟩ := pass l n a w hJ
      refine ⟨rest, hf, ?_⟩
      obtain ⟨e, a₁, w₁, hq, harr⟩ := hp b (.inScope c :: k) cs
      cases e with
      | normal => exact ⟨.normal, a₁, w₁, hq, Steps.trans harr (.one step_inScope)⟩
      | exit id => exact ⟨.exit id, a₁, w₁, hq, fun k' hk => harr k' (by simp [exitTo, hk])⟩
      | goto l' =>
        obtain ⟨m, hlt, hJ'⟩ := hq
        obtain ⟨rest', hf', e₂, a₂, w₂, hq₂, harr₂⟩ := ih m hlt l' a₁ w₁ hJ'
        have hg : gotoIn l' (.inScope c :: k) = some (.code rest' :: .inScope c :: k) := by simp [gotoIn, hf']
        exact ⟨e₂, a₂, w₂, hq₂, .of_steps (harr _ hg) harr₂⟩
      | ret => exact ⟨_, a₁, w₁, hq, harr⟩
      | panic ch => exact ⟨_, a₁, w₁, hq, harr⟩
      | outgrown => exact ⟨_, a₁, w₁, hq, harr⟩
  obtain ⟨e, a₁, w₁, hq, harr⟩ := first b (.inScope c :: k) cs
  cases e with
  | normal => exact ⟨.normal, a₁, w₁, hq, .head step_scope (Steps.trans harr (.one step_inScope))⟩
  | exit id => exact ⟨.exit id, a₁, w₁, hq, fun k' hk => .head step_scope (harr k' (by simp [exitTo, hk]))⟩
  | goto l' =>
    obtain ⟨m, hJ'⟩ := hq
    obtain ⟨rest', hf', e₂, a₂, w₂, hq₂, harr₂⟩ := key m l' a₁ w₁ hJ'
    have hg : gotoIn l' (.inScope c :: k) = some (.code rest' :: .inScope c :: k) := by simp [gotoIn, hf']
    exact ⟨e₂, a₂, w₂, hq₂, .of_steps (.head step_scope (harr _ hg)) harr₂⟩
  | ret => exact ⟨_, a₁, w₁, hq, .of_steps (.one step_scope) harr⟩
  | panic ch => exact ⟨_, a₁, w₁, hq, .of_steps (.one step_scope) harr⟩
  | outgrown => exact ⟨_, a₁, w₁, hq, .of_steps (.one step_scope) harr⟩

set_option maxHeartbeats 400000 in
set_option maxRecDepth 1000000 in
theorem validRune_any (c : Nat) (w : World) :
    Calls Tryz.prog 125 #[.int .i32 c] w fun e w' => e = .returned (.bool (okR c)) ∧ w' = w := by
  go_enter Tryz.func125, Tryz.ntmps125
  go_wp2
  all_goals
    go_ret
    refine ⟨congrArg (fun b => Ending.returned (.bool b)) ?_, rfl⟩
    unfold okR
    first | (symm; rw [decide_eq_true_eq]; omega) | (symm; rw [decide_eq_false_iff_not]; omega)

/-- What escape answers. -/
def escR (b : Nat → Nat) : ByteArray × Nat := match esc b with | none => (ByteArray.empty, 0) | some x => (⟨x.1.toArray⟩, x.2)

theorem or_hex (c : Nat) (h : Int) (hc : c < 16777216) (h0 : 0 ≤ h) (h1 : h < 16) : bits .or .i32 (wrap32 ((c : Int) * 16)) h = ((c * 16 + h.toNat : Nat) : Int) := by
  obtain ⟨n, rfl⟩ := Int.eq_ofNat_of_zero_le h0
  have e : wrap32 ((c : Int) * 16) = ((c * 16 : Nat) : Int) := by unfold wrap32; omega
  have e2 : (c * 16) ||| n = c * 16 + n := by
    rw [show (16 : Nat) = 2 ^ 4 from rfl, ← Nat.shiftLeft_eq, Nat.shiftLeft_add_eq_or_of_lt (by omega)]
  rw [e, Int.toNat_natCast]
  show IntKind.i32.wrap ((BitVec.ofInt 32 ((c * 16 : Nat) : Int) ||| BitVec.ofInt 32 (n : Int)).toNat : Int) = _
  rw [BitVec.toNat_or, ofInt_u32 (c * 16) (by omega), ofInt_u32 n (by omega), e2, IntKind.wrap_i32]
  omega

theorem or_hex2 (c : Nat) (h : Int) (hc : c < 16777216) (h0 : 0 ≤ h) (h1 : h < 16) : bits .or .i32 ((c : Int) * 16) h = ((c * 16 + h.toNat : Nat) : Int) := by
  rw [← or_hex c h hc h0 h1]
  have e : wrap32 ((c : Int) * 16) = (c : Int) * 16 := by unfold wrap32; omega
  rw [e]

theorem conv_one (W : World) (v : Int) (n : Nat) (h : v = n) (hn : n < 256) : (convert 106 9 (.slice (some ⟨W.heap.size, 0, none⟩) 1 1)).run Tryz.prog (W.alloc (.cells #[.int .u8 v] 5)) = .ok (.string ⟨#[UInt8.ofNat n]⟩) (W.alloc (.cells #[.int .u8 v] 5)) := by
  have := run_convert_bytes_back (P := Tryz.prog) (W.alloc (.cells #[.int .u8 v] 5)) 106 9 5 ⟨W.heap.size, 0, none⟩ 1 [UInt8.ofNat n] Tryz.underlying106 Tryz.underlying5 Tryz.underlying9 (fun j hj => by
    have hj0 : j = 0 := by simp at hj; omega
    subst hj0
    have hg : (W.alloc (.cells #[.int .u8 v] 5)).heap[W.heap.size]? = some (.cells #[.int .u8 v] 5) := get_new rfl
    have ha : (⟨W.heap.size, 0, none⟩ : Addr).add 0 = ⟨W.heap.size, 0, none⟩ := by unfold Addr.add; split <;> simp_all
    rw [ha, cell_of hg 0, h]
    show some (Value.int .u8 (n : Int)) = some (.int .u8 ((UInt8.ofNat n).toNat : Int))
    rw [ofNat8 n hn])
  exact this

theorem ba_eta (x : ByteArray) : (⟨x.data.toList.toArray⟩ : ByteArray) = x := by
  cases x
  simp
theorem num_neg (b : Nat → Nat) (r p c : Nat) (h : hexV (b p) < 0) : num b r p c = closeN b r p c := by
  cases r with
  | zero => rfl
  | succ r => rw [num, if_neg (by omega)]
theorem num_pos (b : Nat → Nat) (r p c : Nat) (h : 0 ≤ hexV (b p)) : num b (r + 1) p c = num b r (p + 1) (c * 16 + (hexV (b p)).toNat) := by rw [num, if_pos h]
theorem num_full (b : Nat → Nat) (p c : Nat) (h : 0 ≤ hexV (b p)) : num b 0 p c = none := by
  have := hexV_ascii h
  rw [num, closeN, if_neg (by omega)]
theorem escR_none {b : Nat → Nat} (h : esc b = none) : escR b = (ByteArray.empty, 0) := by unfold escR; rw [h]
theorem escR_some {b : Nat → Nat} {l : List UInt8} {n : Nat} (h : esc b = some (l, n)) : escR b = (⟨l.toArray⟩, n) := by unfold escR; rw [h]
theorem escR_of {b : Nat → Nat} {E : ByteArray} {n : Nat} (h : esc b = some (E.data.toList, n)) : escR b = (E, n) := by
  rw [escR_some h, ba_eta]
theorem esc_pair (b : Nat → Nat) (h : b 1 = 120) : esc b = if 0 ≤ hexV (b 2) ∧ 0 ≤ hexV (b 3) then some ([UInt8.ofNat ((hexV (b 2)).toNat * 16 + (hexV (b 3)).toNat)], 4) else none := by
  rw [esc, if_neg (by omega), if_neg (by omega), if_neg (by omega), if_neg (by omega), if_pos h]
theorem esc_brace (b : Nat → Nat) (h : b 1 = 117) : esc b = if b 2 = 123 then (num b 6 3 0).map (fun x => ((Utf8.encode (x.1 : Int)).data.toList, x.2)) else none := by
  rw [esc, if_neg (by omega), if_neg (by omega), if_neg (by omega), if_neg (by omega), if_neg (by omega), if_pos h]
theorem jumps_ret (J : Nat → Nat → Act → World → Prop) (Q : Exit → Act → World → Prop) (a : Act) (w : World) : jumps J Q .ret a w = Q .ret a w := rfl
/-- What stands at the jump, of the frame alone. -/
def frL (t : ByteArray) (c p d : Nat) (x : Array Value) : Prop := ∃ u : Nat → Value, x = #[.string t, u 1, u 2, u 3, .int .i32 (c : Nat), u 5, .int .i64 (p : Nat), .int .i64 (d : Nat), u 8, u 9, u 10, u 11, u 12, u 13, u 14, u 15, u 16, u 17, u 18, u 19, u 20, u 21, u 22, u 23, u 24, u 25, u 26, u 27, u 28, u 29, u 30, u 31, u 32, u 33, u 34, u 35, u 36, u 37, u 38, u 39, u 40, u 41, u 42, u 43, u 44, u 45, u 46, u 47, u 48, u 49, u 50, u 51, u 52, u 53, u 54, u 55, u 56, u 57, u 58, u 59, u 60, u 61, u 62, u 63, u 64, u 65, u 66, u 67, u 68, u 69, u 70, u 71, u 72, u 73, u 74, u 75, u 76, u 77, u 78, u 79, u 80, u 81, u 82, u 83, u 84]
theorem frL_of {t : ByteArray} {c p d : Nat} {x : Array Value} (h : (fun u : Nat → Value => x = #[.string t, u 1, u 2, u 3, .int .i32 (c : Nat), u 5, .int .i64 (p : Nat), .int .i64 (d : Nat), u 8, u 9, u 10, u 11, u 12, u 13, u 14, u 15, u 16, u 17, u 18, u 19, u 20, u 21, u 22, u 23, u 24, u 25, u 26, u 27, u 28, u 29, u 30, u 31, u 32, u 33, u 34, u 35, u 36, u 37, u 38, u 39, u 40, u 41, u 42, u 43, u 44, u 45, u 46, u 47, u 48, u 49, u 50, u 51, u 52, u 53, u 54, u 55, u 56, u 57, u 58, u 59, u 60, u 61, u 62, u 63, u 64, u 65, u 66, u 67, u 68, u 69, u 70, u 71, u 72, u 73, u 74, u 75, u 76, u 77, u 78, u 79, u 80, u 81, u 82, u 83, u 84]) (fun i => x.getD i undef)) : frL t c p d x := ⟨fun i => x.getD i undef, h⟩
/-- What stands at a jump to label l. -/
def atL (t : ByteArray) (w0 : World) (l m : Nat) (a : Act) (w : World) : Prop :=
  w = w0 ∧ ∃ (x : Array Value) (c p d : Nat), a = { tmps := x, defers := [] } ∧ frL t c p d x ∧
    ((l = 0 ∧ p = d + 2 ∧ d ≤ 1 ∧ m = 20 - d ∧ byt t 1 = 120 ∧ (d = 0 → c = 0) ∧ (d = 1 → 0 ≤ hexV (byt t 2) ∧ (c : Int) = hexV (byt t 2))) ∨
     (l = 1 ∧ p = 2 ∧ d = 0 ∧ c = 0 ∧ m = 30 ∧ byt t 1 = 117) ∨
     (l = 3 ∧ d ≤ 6 ∧ p = 3 + d ∧ c < 16 ^ d ∧ m = 20 - d ∧ esc (byt t) = (num (byt t) (6 - d) p c).map (fun x => ((Utf8.encode (x.1 : Int)).data.toList, x.2))) ∨
     (l = 4 ∧ d ≤ 6 ∧ p = 3 + d ∧ c < 16 ^ d ∧ m = 5 ∧ esc (byt t) = (closeN (byt t) (6 - d) p c).map (fun x => ((Utf8.encode (x.1 : Int)).data.toList, x.2))) ∨
     (l = 2 ∧ m = 1 ∧ esc (byt t) = none))

set_option maxHeartbeats 4000000 in
set_option maxRecDepth 1000000 in
theorem escape_any (t : ByteArray) (w : World) :
    Calls Tryz.prog 111 #[.string t] w fun e w' => e = .returned (.tuple #[.string (escR (byt t)).1, .int .i64 (escR (byt t)).2]) ∧ Below w.heap.size w w' := by
  go_enter Tryz.func111, Tryz.ntmps111
  go_wp2
  refine wp_scope_many (atL t w) ?_ ?_
  · by_cases h1 : byt t 1 = 34 ∨ byt t 1 = 92
    · have h2 : 1 < t.size := byt_in (by omega)
      have HE : Hid (escR (byt t) = (t.extract 1 2, 2)) := by
        show escR (byt t) = (t.extract 1 2, 2)
        have e : esc (byt t) = some ([UInt8.ofNat (byt t 1)], 2) := by rw [esc, if_pos h1]
        rw [escR_some e]
        have e2 : (⟨[UInt8.ofNat (byt t 1)].toArray⟩ : ByteArray) = t.extract 1 2 := by
          obtain ⟨⟨l⟩⟩ := t
          match l, h2 with
          | [], h2 => exact absurd h2 (by simp [ByteArray.size])
          | [_], h2 => exact absurd h2 (by simp [ByteArray.size])
          | a :: b :: l, h2 =>
            apply ByteArray.ext
            apply Array.ext'
            rw [ByteArray.data_extract, Array.toList_extract]
            have : byt ⟨⟨a :: b :: l⟩⟩ 1 = b.toNat := byt_get h2
            rw [this]
            simp [List.extract]
        rw [e2]
      have h2' : (1 : Int) < (t.size : Int) := by omega
      rcases h1 with h1 | h1
      all_goals
        go_wp2_with (go_at_call 123; refine (byteAt_any t 1 _).mono ?_; rintro e w' ⟨rfl, rfl⟩; rw [h1])
        rw [jumps_ret]
        go_ret2
        rw [HE.out]
        exact ⟨rfl, Below.refl _ _⟩
    by_cases h2 : byt t 1 = 110
    · have HE : Hid (escR (byt t) = (⟨#[10]⟩, 2)) := by
        show escR (byt t) = (⟨#[10]⟩, 2)
        unfold escR esc
        rw [if_neg h1, if_pos h2]
      go_wp2_with (go_at_call 123; refine (byteAt_any t 1 _).mono ?_; rintro e w' ⟨rfl, rfl⟩; rw [h2])
      rw [jumps_ret]
      go_ret2
      rw [HE.out]
      exact ⟨rfl, Below.refl _ _⟩
    by_cases h3 : byt t 1 = 116
    · have HE : Hid (escR (byt t) = (⟨#[9]⟩, 2)) := by
        show escR (byt t) = (⟨#[9]⟩, 2)
        unfold escR esc
        rw [if_neg h1, if_neg h2, if_pos h3]
      go_wp2_with (go_at_call 123; refine (byteAt_any t 1 _).mono ?_; rintro e w' ⟨rfl, rfl⟩; rw [h3])
      rw [jumps_ret]
      go_ret2
      rw [HE.out]
      exact ⟨rfl, Below.refl _ _⟩
    by_cases h4 : byt t 1 = 114
    · have HE : Hid (escR (byt t) = (⟨#[13]⟩, 2)) := by
        show escR (byt t) = (⟨#[13]⟩, 2)
        unfold escR esc
        rw [if_neg h1, if_neg h2, if_neg h3, if_pos h4]
      go_wp2_with (go_at_call 123; refine (byteAt_any t 1 _).mono ?_; rintro e w' ⟨rfl, rfl⟩; rw [h4])
      rw [jumps_ret]
      go_ret2
      rw [HE.out]
      exact ⟨rfl, Below.refl _ _⟩
    by_cases h5 : byt t 1 = 120
    · go_wp2_with (go_at_call 123; refine (byteAt_any t 1 _).mono ?_; rintro e w' ⟨rfl, rfl⟩; rw [h5])
      go_step3
      exact ⟨20, rfl, _, 0, 2, 0, rfl, frL_of rfl, Or.inl ⟨rfl, rfl, by omega, rfl, h5, fun _ => rfl, fun h => by omega⟩⟩
    by_cases h6 : byt t 1 = 117
    · go_wp2_with (go_at_call 123; refine (byteAt_any t 1 _).mono ?_; rintro e w' ⟨rfl, rfl⟩; rw [h6])
      go_step3
      exact ⟨30, rfl, _, 0, 2, 0, rfl, frL_of rfl, Or.inr (Or.inl ⟨rfl, rfl, rfl, rfl, rfl, h6⟩)⟩
    have HE : Hid (esc (byt t) = none) := by
      show esc (byt t) = none
      rw [esc, if_neg h1, if_neg h2, if_neg h3, if_neg h4, if_neg h5, if_neg h6]
    have g1 : ((byt t 1 : Int) == 34) = false := beq_eq_false_iff_ne.2 (by omega)
    have g2 : ((byt t 1 : Int) == 92) = false := beq_eq_false_iff_ne.2 (by omega)
    have g3 : ((byt t 1 : Int) == 110) = false := beq_eq_false_iff_ne.2 (by omega)
    have g4 : ((byt t 1 : Int) == 116) = false := beq_eq_false_iff_ne.2 (by omega)
    have g5 : ((byt t 1 : Int) == 114) = false := beq_eq_false_iff_ne.2 (by omega)
    have g6 : ((byt t 1 : Int) == 120) = false := beq_eq_false_iff_ne.2 (by omega)
    have g7 : ((byt t 1 : Int) == 117) = false := beq_eq_false_iff_ne.2 (by omega)
    clear h1 h2 h3 h4 h5 h6
    go_wp2_with (go_at_call 123; refine (byteAt_any t 1 _).mono ?_; rintro e w' ⟨rfl, rfl⟩)
    go_step3
    exact ⟨1, rfl, _, 0, 2, 0, rfl, frL_of rfl, Or.inr (Or.inr (Or.inr (Or.inr ⟨rfl, rfl, HE.out⟩)))⟩
  · rintro l m a w' ⟨rfl, x, c, p, d, rfl, ⟨u, rfl⟩, h0 | h1 | h3 | h4 | h2⟩
    · obtain ⟨rfl, rfl, hd, rfl, hx, hc0, hc1⟩ := h0
      refine ⟨_, rfl, ?_⟩
      have HX := esc_pair (byt t) hx
      have hv := hexV_lt (byt t (d + 2))
      have hv2 := hexV_lt (byt t 2)
      have hcl : c < 16 := by
        by_cases hd0 : d = 0
        · rw [hc0 hd0]; omega
        · have := hc1 (by omega); omega
      by_cases hneg : hexV (byt t (d + 2)) < 0
      · have HE : Hid (esc (byt t) = none) := by
          show esc (byt t) = none
          rw [HX, if_neg]
          intro hh
          by_cases hd0 : d = 0
          · rw [hd0] at hneg; exact absurd hh.1 (Int.not_le.2 hneg)
          · rw [show d = 1 by omega] at hneg; exact absurd hh.2 (Int.not_le.2 hneg)
        clear HX
        go_wp2_with (first | (go_at_call 123; refine (byteAt_any t (d + 2) _).mono ?_; rintro e w' ⟨rfl, rfl⟩) | (go_at_call 124; refine (hexValue_any _ (byt_lt t _) _).mono ?_; rintro e w' ⟨rfl, rfl⟩))
        go_step3
        exact ⟨1, by omega, rfl, _, c, d + 2, d, rfl, frL_of rfl, Or.inr (Or.inr (Or.inr (Or.inr ⟨rfl, rfl, HE.out⟩)))⟩
      · have hpos : 0 ≤ hexV (byt t (d + 2)) := by omega
        have hor := or_hex2 c _ (by omega) hpos hv.1
        have HO : Hid (bits .or .i32 ((c : Int) * 16) (hexV (byt t (d + 2))) = ((c * 16 + (hexV (byt t (d + 2))).toNat : Nat) : Int)) := hor
        clear hor
        by_cases hd0 : d = 0
        · have hlt : (d : Int) + 1 < 2 := by omega
          have HJ : Hid (∀ c' : Nat, c' = c * 16 + (hexV (byt t (d + 2))).toNat → (d + 1 = 1 → 0 ≤ hexV (byt t 2) ∧ (c' : Int) = hexV (byt t 2))) := by
            intro c' e _
            have h0 := hc0 hd0
            rw [hd0] at hpos e
            refine ⟨hpos, ?_⟩
            rw [e, h0]
            have : ((0 * 16 + (hexV (byt t (0 + 2))).toNat : Nat) : Int) = ((hexV (byt t (0 + 2))).toNat : Int) := by omega
            rw [this]
            exact Int.toNat_of_nonneg hpos
          clear HX hc0 hc1 hd0
          go_wp2_with (first | (go_at_call 123; refine (byteAt_any t (d + 2) _).mono ?_; rintro e w' ⟨rfl, rfl⟩) | (go_at_call 124; refine (hexValue_any _ (byt_lt t _) _).mono ?_; rintro e w' ⟨rfl, rfl⟩))
          go_step3
          rw [HO.out]
          exact ⟨19 - d, by omega, rfl, _, c * 16 + (hexV (byt t (d + 2))).toNat, d + 2 + 1, d + 1, rfl, frL_of rfl, Or.inl ⟨rfl, rfl, by omega, by omega, hx, fun h => by omega, HJ.out _ rfl⟩⟩
        · obtain hd1 : d = 1 := by omega
          obtain ⟨g1, g2⟩ := hc1 hd1
          have hge : 2 ≤ (d : Int) + 1 := by omega
          obtain ⟨n, hn⟩ : ∃ n, n = c * 16 + (hexV (byt t (d + 2))).toNat := ⟨_, rfl⟩
          have hn8 : n < 256 := by omega
          have HE : Hid (escR (byt t) = (⟨#[UInt8.ofNat n]⟩, d + 2 + 1)) := by
            show escR (byt t) = _
            rw [hn]
            rw [hd1] at hpos ⊢
            have e : esc (byt t) = some ([UInt8.ofNat (c * 16 + (hexV (byt t (1 + 2))).toNat)], 4) := by
              rw [HX, if_pos ⟨g1, hpos⟩, ← g2, Int.toNat_natCast]
            rw [escR_some e]
          have HO2 : Hid (bits .or .i32 ((c : Int) * 16) (hexV (byt t (d + 2))) = (n : Int)) := by
            show bits .or .i32 ((c : Int) * 16) (hexV (byt t (d + 2))) = (n : Int)
            rw [hn]
            exact HO.out
          clear HX g1 g2 hc0 hc1 hd1 hd0 hn HO
          go_wp2_with (first | (go_at_call 123; refine (byteAt_any t (d + 2) _).mono ?_; rintro e w' ⟨rfl, rfl⟩) | (go_at_call 124; refine (hexValue_any _ (byt_lt t _) _).mono ?_; rintro e w' ⟨rfl, rfl⟩))
          rw [HO2.out]
          rw [conv_one w' _ n (by omega) hn8]
          go_wp2
          rw [jumps_ret]
          go_ret2
          rw [HE.out]
          exact ⟨rfl, (Below.refl _ _).alloc (Nat.le_refl _) _⟩
    · obtain ⟨rfl, rfl, rfl, rfl, rfl, hx⟩ := h1
      refine ⟨_, rfl, ?_⟩
      have HX := esc_brace (byt t) hx
      have hv := hexV_lt (byt t 3)
      by_cases hb : byt t 2 = 123
      · rw [if_pos hb] at HX
        by_cases hneg : hexV (byt t 3) < 0
        · rw [num_neg _ _ _ _ hneg] at HX
          have HE : Hid (esc (byt t) = _) := HX
          clear HX
          go_wp2_with (go_at_call 123; refine (byteAt_any t 2 _).mono ?_; rintro e w' ⟨rfl, rfl⟩; rw [hb])
          go_step3
          go_wp2_with (first | (go_at_call 123; refine (byteAt_any t (3) _).mono ?_; rintro e w' ⟨rfl, rfl⟩) | (go_at_call 124; refine (hexValue_any _ (byt_lt t _) _).mono ?_; rintro e w' ⟨rfl, rfl⟩))
          go_step3
          exact ⟨5, by omega, rfl, _, 0, 3, 0, rfl, frL_of rfl, Or.inr (Or.inr (Or.inr (Or.inl ⟨rfl, by omega, rfl, by omega, rfl, HE.out⟩)))⟩
        · have hpos : 0 ≤ hexV (byt t 3) := by omega
          rw [num_pos _ _ _ _ hpos] at HX
          have HE : Hid (esc (byt t) = _) := HX
          have HO : Hid (0 + hexV (byt t 3) = ((0 * 16 + (hexV (byt t 3)).toNat : Nat) : Int)) := by
            show 0 + hexV (byt t 3) = ((0 * 16 + (hexV (byt t 3)).toNat : Nat) : Int)
            omega
          clear HX
          go_wp2_with (go_at_call 123; refine (byteAt_any t 2 _).mono ?_; rintro e w' ⟨rfl, rfl⟩; rw [hb])
          go_step3
          go_wp2_with (first | (go_at_call 123; refine (byteAt_any t (3) _).mono ?_; rintro e w' ⟨rfl, rfl⟩) | (go_at_call 124; refine (hexValue_any _ (byt_lt t _) _).mono ?_; rintro e w' ⟨rfl, rfl⟩))
          go_step3
          rw [HO.out]
          exact ⟨19, by omega, rfl, _, 0 * 16 + (hexV (byt t 3)).toNat, 3 + 1, 1, rfl, frL_of rfl, Or.inr (Or.inr (Or.inl ⟨rfl, by omega, rfl, by omega, rfl, HE.out⟩))⟩
      · rw [if_neg hb] at HX
        have HE : Hid (esc (byt t) = none) := HX
        have hq : ((byt t 2 : Int) == 123) = false := beq_eq_false_iff_ne.2 (by omega)
        clear HX hb
        go_wp2_with (go_at_call 123; refine (byteAt_any t 2 _).mono ?_; rintro e w' ⟨rfl, rfl⟩)
        go_step3
        exact ⟨1, by omega, rfl, _, 0, 2, 0, rfl, frL_of rfl, Or.inr (Or.inr (Or.inr (Or.inr ⟨rfl, rfl, HE.out⟩)))⟩
    · obtain ⟨rfl, hd, rfl, hc, rfl, hx⟩ := h3
      refine ⟨_, rfl, ?_⟩
      have hv := hexV_lt (byt t (3 + d))
      have hc6 : (16 : Nat) ^ d ≤ 16 ^ 6 := Nat.pow_le_pow_right (by omega) hd
      by_cases hneg : hexV (byt t (3 + d)) < 0
      · rw [num_neg _ _ _ _ hneg] at hx
        have HE : Hid (esc (byt t) = _) := hx
        clear hx
        go_wp2_with (first | (go_at_call 123; refine (byteAt_any t (3 + d) _).mono ?_; rintro e w' ⟨rfl, rfl⟩) | (go_at_call 124; refine (hexValue_any _ (byt_lt t _) _).mono ?_; rintro e w' ⟨rfl, rfl⟩))
        go_step3
        exact ⟨5, by omega, rfl, _, c, 3 + d, d, rfl, frL_of rfl, Or.inr (Or.inr (Or.inr (Or.inl ⟨rfl, hd, rfl, hc, rfl, HE.out⟩)))⟩
      · have hpos : 0 ≤ hexV (byt t (3 + d)) := by omega
        by_cases h6 : d = 6
        · subst h6
          rw [num_full _ _ _ hpos] at hx
          have HE : Hid (esc (byt t) = none) := hx
          have hpos9 : 0 ≤ hexV (byt t 9) := hpos
          clear hx hpos hneg hv
          go_wp2_with (first | (go_at_call 123; refine (byteAt_any t 9 _).mono ?_; rintro e w' ⟨rfl, rfl⟩) | (go_at_call 124; refine (hexValue_any _ (byt_lt t _) _).mono ?_; rintro e w' ⟨rfl, rfl⟩))
          go_step3
          exact ⟨1, by omega, rfl, _, c, 3 + 6, 6, rfl, frL_of rfl, Or.inr (Or.inr (Or.inr (Or.inr ⟨rfl, rfl, HE.out⟩)))⟩
        · rw [show 6 - d = (6 - (d + 1)) + 1 by omega, num_pos _ _ _ _ hpos] at hx
          have HE : Hid (esc (byt t) = _) := hx
          clear hx
          have h5 : d ≤ 5 := by omega
          have hc5 : (16 : Nat) ^ d ≤ 16 ^ 5 := Nat.pow_le_pow_right (by omega) h5
          have hcb : c < 1048576 := by omega
          have hcn : c * 16 + (hexV (byt t (3 + d))).toNat < 16 ^ (d + 1) := by
            rw [Nat.pow_succ]
            omega
          have HC : Hid (c * 16 + (hexV (byt t (3 + d))).toNat < 16 ^ (d + 1)) := hcn
          have HO : Hid (bits .or .i32 ((c : Int) * 16) (hexV (byt t (3 + d))) = ((c * 16 + (hexV (byt t (3 + d))).toNat : Nat) : Int)) := or_hex2 c _ (by omega) hpos hv.1
          have hq : ((d : Int) == 6) = false := beq_eq_false_iff_ne.2 (by omega)
          clear hcn hc hc5 hc6 h6
          go_wp2_with (first | (go_at_call 123; refine (byteAt_any t (3 + d) _).mono ?_; rintro e w' ⟨rfl, rfl⟩) | (go_at_call 124; refine (hexValue_any _ (byt_lt t _) _).mono ?_; rintro e w' ⟨rfl, rfl⟩))
          go_step3
          rw [HO.out]
          exact ⟨19 - d, by omega, rfl, _, c * 16 + (hexV (byt t (3 + d))).toNat, 3 + d + 1, d + 1, rfl, frL_of rfl, Or.inr (Or.inr (Or.inl ⟨rfl, by omega, by omega, HC.out, by omega, HE.out⟩))⟩
    · obtain ⟨rfl, hd, rfl, hc, rfl, hx⟩ := h4
      refine ⟨_, rfl, ?_⟩
      have HE : Hid (esc (byt t) = _) := hx
      have hc6 : (16 : Nat) ^ d ≤ 16 ^ 6 := Nat.pow_le_pow_right (by omega) hd
      have hcb : c < 16777216 := by omega
      clear hx hc hc6
      by_cases hok : 6 - d ≠ 6 ∧ byt t (3 + d) = 125 ∧ okR c = true
      · have HR : Hid (escR (byt t) = (Utf8.encode (c : Int), 3 + d + 1)) := by
          have e := HE.out
          rw [closeN, if_pos hok, Option.map_some] at e
          dsimp only at e
          exact escR_of (E := Utf8.encode (c : Int)) (n := 3 + d + 1) e
        have hd0 : ((d : Int) == 0) = false := beq_eq_false_iff_ne.2 (by omega)
        have hb := hok.2.1
        have ho := hok.2.2
        clear HE hok
        go_wp2_with (first | (go_at_call 123; refine (byteAt_any t (3 + d) _).mono ?_; rintro e w' ⟨rfl, rfl⟩; rw [hb]) | (go_at_call 125; refine (validRune_any c _).mono ?_; rintro e w' ⟨rfl, rfl⟩; rw [ho]))
        rw [jumps_ret]
        have hr := HR.out
        generalize Utf8.encode (c : Int) = E at hr ⊢
        go_ret2
        rw [hr]
        exact ⟨rfl, Below.refl _ _⟩
      · have HN : Hid (esc (byt t) = none) := by
          have e := HE.out
          rw [closeN, if_neg hok, Option.map_none] at e
          exact e
        clear HE
        by_cases hd0 : d = 0
        · subst hd0
          clear hok
          go_wp2
          go_step3
          exact ⟨1, by omega, rfl, _, c, 3 + 0, 0, rfl, frL_of rfl, Or.inr (Or.inr (Or.inr (Or.inr ⟨rfl, rfl, HN.out⟩)))⟩
        have hdi : ((d : Int) == 0) = false := beq_eq_false_iff_ne.2 (by omega)
        by_cases hb : byt t (3 + d) = 125
        · have ho : okR c = false := by
            cases h : okR c with
            | false => rfl
            | true => exact absurd ⟨by omega, hb, h⟩ hok
          clear hok hd0
          go_wp2_with (first | (go_at_call 123; refine (byteAt_any t (3 + d) _).mono ?_; rintro e w' ⟨rfl, rfl⟩; rw [hb]) | (go_at_call 125; refine (validRune_any c _).mono ?_; rintro e w' ⟨rfl, rfl⟩; rw [ho]))
          go_step3
          exact ⟨1, by omega, rfl, _, c, 3 + d, d, rfl, frL_of rfl, Or.inr (Or.inr (Or.inr (Or.inr ⟨rfl, rfl, HN.out⟩)))⟩
        · have hbi : ¬ (byt t (3 + d) : Int) = 125 := by omega
          clear hok hd0 hb
          go_wp2_with (go_at_call 123; refine (byteAt_any t (3 + d) _).mono ?_; rintro e w' ⟨rfl, rfl⟩)
          go_step3
          exact ⟨1, by omega, rfl, _, c, 3 + d, d, rfl, frL_of rfl, Or.inr (Or.inr (Or.inr (Or.inr ⟨rfl, rfl, HN.out⟩)))⟩
    · obtain ⟨rfl, rfl, hx⟩ := h2
      refine ⟨_, rfl, ?_⟩
      have HE : Hid (escR (byt t) = (ByteArray.empty, 0)) := escR_none hx
      go_wp2
      rw [jumps_ret]
      go_ret2
      rw [HE.out]
      exact ⟨rfl, Below.refl _ _⟩
end Go.Proofs.YtngjjcmoekeciaaGreatDoor
namespace Go.Proofs.YtngjjcmoekeciaaGreatDoor
open Go.RowKit Go.Shelf

/-- The class of a rune. -/
def cls (r : Int) : Int :=
  if r = 9 ∨ r = 13 ∨ r = 32 then 1 else if r = 10 then 2 else if 48 ≤ r ∧ r ≤ 57 then 3
  else if (65 ≤ r ∧ r ≤ 90) ∨ (97 ≤ r ∧ r ≤ 122) then 4
  else if r = 215 ∨ r = 247 ∨ (768 ≤ r ∧ r ≤ 879) ∨ r = 5760 then 6
  else if (192 ≤ r ∧ r ≤ 8191) ∨ (12353 ≤ r ∧ r ≤ 55203) ∨ (127744 ≤ r ∧ r ≤ 129791) then 4
  else if 33 ≤ r ∧ r ≤ 126 then 5 else 6
theorem ret_int {k : IntKind} {a b : Int} (h : a = b) : Ending.returned (.int k a) = .returned (.int k b) := by rw [h]

set_option maxHeartbeats 2000000 in
theorem refClass_any (r : Int) (w : World) : Calls Tryz.prog 79 #[.int .i64 r] w fun e w' => e = .returned (.int .i64 (cls r)) ∧ w' = w := by
  go_enter Tryz.func79, Tryz.ntmps79
  go_wp2
  all_goals
    go_ret
    refine ⟨ret_int ?_, rfl⟩
    go_light
    try simp only [beq_iff_eq, beq_eq_false_iff_ne, ne_eq] at *
    show _ = cls r
    unfold cls
    repeat' split
    all_goals first | rfl | (exfalso; omega)

set_option maxHeartbeats 4000000 in
theorem class_any (r : Int) (w : World) : Calls Tryz.prog 108 #[.int .i32 r] w fun e w' => e = .returned (.int .i64 (cls r)) ∧ w' = w := by
  go_enter Tryz.func108, Tryz.ntmps108
  go_wp2
  all_goals
    go_ret
    refine ⟨ret_int ?_, rfl⟩
    go_light
    try simp only [beq_iff_eq, beq_eq_false_iff_ne, ne_eq] at *
    show _ = cls r
    unfold cls
    repeat' split
    all_goals first | rfl | (exfalso; omega)
end Go.Proofs.YtngjjcmoekeciaaGreatDoor
