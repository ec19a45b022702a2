/- Slices of bytes; wire.Sum, numberOf, and the document's Sum, value: what they answer, at all bytes. -/
import Derived.Test.YtnomeinppdnhfaaGreatWra
import Derived.Laws.Shifts
namespace Go.Proofs.YtnomeinppdnhfaaGreat
open Go.RowKit Go.Shelf

/-- The cells of bytes. -/
def cB (l : List Nat) : List Value := l.map fun (x : Nat) => .int .u8 (x : Int)
theorem cB_len (l : List Nat) : (cB l).length = l.length := by simp [cB]
theorem cB_app (a b : List Nat) : cB (a ++ b) = cB a ++ cB b := by simp [cB]
theorem cB_one (l : List Nat) : ∀ u ∈ cB l, u.oneCell' = true := by
  intro u hu
  obtain ⟨x, _, rfl⟩ := List.mem_map.1 hu
  rfl
theorem cB_get {l : List Nat} {k x : Nat} (h : l[k]? = some x) : (cB l)[k]? = some (.int .u8 (x : Int)) := by simp [cB, h]
theorem cB_inv {l : List Nat} {k : Nat} {u : Value} (h : (cB l)[k]? = some u) : ∃ x, l[k]? = some x ∧ u = .int .u8 (x : Int) := by
  simp only [cB, List.getElem?_map, Option.map_eq_some_iff] at h
  obtain ⟨x, h1, h2⟩ := h
  exact ⟨x, h1, h2.symm⟩
/-- From there on these bytes lie. -/
def BAt (W : World) (b off : Nat) (l : List Nat) : Prop := ∀ (k x : Nat), l[k]? = some x → W.cell? ⟨b, off + k, none⟩ = some (.int .u8 (x : Int))
/-- A slice of these bytes. -/
def RdB (W : World) (ad : Option Addr) (l : List Nat) : Prop := l ≠ [] → ∃ b off, ad = some ⟨b, off, none⟩ ∧ b < W.heap.size ∧ BAt W b off l
theorem BAt.carry {W W' : World} {b off : Nat} {l : List Nat} (h : BAt W b off l) (e : W'.heap[b]? = W.heap[b]?) : BAt W' b off l :=
  fun k x hk => (World.cell?_of_block (w := W) e).trans (h k x hk)
theorem RdB.carry {W W' : World} {ad : Option Addr} {l : List Nat} (h : RdB W ad l) (hb : Below W.heap.size W W') : RdB W' ad l := by
  intro hl
  obtain ⟨b, off, h1, h2, h3⟩ := h hl
  exact ⟨b, off, h1, Nat.lt_of_lt_of_le h2 hb.size, h3.carry (hb.block b h2)⟩
theorem BAt.sub {W : World} {b off : Nat} {l : List Nat} (h : BAt W b off l) (i n : Nat) : BAt W b (off + i) ((l.drop i).take n) := by
  intro k x hk
  have hk2 : l[i + k]? = some x := by
    rw [List.getElem?_take] at hk
    split at hk
    · rwa [List.getElem?_drop] at hk
    · cases hk
  rw [Nat.add_assoc]
  exact h _ _ hk2
theorem b_own {W : World} {base g n cap : Nat} {l : List Nat} (h : W.ownsRow base 5 1 (.slice (some ⟨g, 0, none⟩) n cap) n (cB l)) (hn : n = l.length) : BAt W g 0 l := by
  intro k x hk
  have hlt : k < l.length := (List.getElem?_eq_some_iff.1 hk).1
  rw [Nat.zero_add]
  exact (h.cellAt _ (by omega)).trans (cB_get hk)
theorem RdB.own {W : World} {base : Nat} {v : Value} {l : List Nat} (h : W.ownsRow base 5 1 v l.length (cB l)) : ∃ ad cap, v = .slice ad l.length cap ∧ RdB W ad l := by
  rcases own_form h with ⟨rfl, e⟩ | ⟨g, cap, rfl, h1, h2, h3⟩
  · exact ⟨none, 0, by rw [e], fun q => absurd (List.length_eq_zero_iff.1 e) q⟩
  · exact ⟨_, cap, rfl, fun _ => ⟨g, 0, rfl, h2, b_own h rfl⟩⟩
theorem b_src {W : World} {b off : Nat} {l : List Nat} (h : BAt W b off l) : ∀ j u, (cB l)[j]? = some u → W.cell? ((⟨b, off, none⟩ : Addr).add j) = some u := by
  intro j u hj
  obtain ⟨x, hx, rfl⟩ := cB_inv hj
  rw [add_pl]
  exact h j x hx

theorem get_lt {l : List Nat} {k : Nat} (h : k < l.length) : ∃ x, l[k]? = some x := ⟨_, List.getElem?_eq_getElem h⟩
theorem byt_get8 {l : List Nat} {k x : Nat} (h : Byt l) (hk : l[k]? = some x) : x < 256 := h x (List.mem_of_getElem? hk)
theorem or256 (v x : Nat) (h : x < 256) : (v * 256 ||| x) = v * 256 + x := by
  have := Nat.two_pow_add_eq_or_of_lt (i := 8) h v
  rw [Nat.mul_comm v 256]
  exact this.symm
theorem ofInt_i64 (a : Nat) (ha : a < 9223372036854775808) : (BitVec.ofInt 64 (a : Int)).toNat = a := by
  rw [BitVec.ofInt_natCast, BitVec.toNat_ofNat]; exact Nat.mod_eq_of_lt (by omega)
theorem i64_or_nat (a b : Nat) (ha : a < 9223372036854775808) (hb : b < 9223372036854775808) : bits .or .i64 (a : Int) (b : Int) = ((a ||| b : Nat) : Int) := by
  have hx : a ||| b < 2 ^ 63 := Nat.or_lt_two_pow (by omega) (by omega)
  show IntKind.i64.wrap ((BitVec.ofInt 64 (a : Int) ||| BitVec.ofInt 64 (b : Int)).toNat : Int) = _
  rw [BitVec.toNat_or, ofInt_i64 a ha, ofInt_i64 b hb, IntKind.wrap_i64]
  omega
def vnatW (v : Value) : Nat := match v with | .int _ n => n.toNat | _ => 0
set_option maxHeartbeats 1000000 in
set_option maxRecDepth 100000 in
theorem sum_any (ad : Option Addr) (cap : Nat) (l : List Nat) (w : World) (h : RdB w ad l) (hb : Byt l) (hl : l.length ≤ 140737488355328) : Calls Tryz.prog 18 #[.slice ad l.length cap] w fun e w' => e = .returned (.int .i64 (sumV l : Nat)) ∧ w' = w := by
  obtain ⟨R, hR⟩ : ∃ R, sumF 1 0 l = R := ⟨_, rfl⟩
  have hlt := sumF_lt l 1 0 (by decide) (by decide)
  rw [sumV, hR]
  rw [hR] at hlt
  have HR : Hid (sumF 1 0 (l.drop 0) = R) := hR
  clear hR
  go_enter Tryz.func18, Tryz.ntmps18
  go_wp2
  go_loopw [3, 4, 9] (fun p q i wz => ∃ (k a b : Nat), p = .int .i64 a ∧ q = .int .i64 b ∧ i = .int .i64 k ∧ k ≤ l.length ∧ a < 65521 ∧ b < 65521 ∧ Hid (sumF a b (l.drop k) = R) ∧ wz = w) (fun _ _ i _ => l.length - vnatW i)
  case atStart => exact ⟨0, 1, 0, rfl, rfl, rfl, Nat.zero_le _, by decide, by decide, HR, rfl⟩
  case round =>
    obtain ⟨k, a, b, rfl, rfl, rfl, hk, ha, hbb, HK, rfl⟩ := hrel
    by_cases hkl : k < l.length
    · obtain ⟨g, off, e1, hbl, hat⟩ := h (fun e => by subst e; simp at hkl)
      subst e1
      obtain ⟨x, hx⟩ := get_lt hkl
      have c0 := hat k _ hx
      have hx8 := byt_get8 hb hx
      have HS := sumF_drop l k a b x hx
      rw [HK.out] at HS
      have HS2 : Hid (R = sumF ((a + x) % 65521) ((b + (a + x) % 65521) % 65521) (l.drop (k + 1))) := HS
      clear HS HK HR
      have hki : (k : Int) < (l.length : Int) := by omega
      go_wp2
      go_roundw
      case rel => exact ⟨k + 1, (a + x) % 65521, (b + (a + x) % 65521) % 65521, by simp, by simp, by simp, by omega, Nat.mod_lt _ (by decide), Nat.mod_lt _ (by decide), HS2.out.symm, trivial⟩
      case measure => simp [vnatW]; omega
    · have hkk : k = l.length := by omega
      subst hkk
      have hki : ¬ ((l.length : Int) < (l.length : Int)) := by omega
      have HE : Hid (R = (a, b)) := by have := HK.out; rw [List.drop_length] at this; exact this.symm
      clear HK HR h hb
      go_wp2
      go_ret
      rw [HE.out]
      exact ⟨by simp, rfl⟩
set_option maxHeartbeats 1000000 in
set_option maxRecDepth 100000 in
theorem numberOf_any (ad : Option Addr) (cap : Nat) (l : List Nat) (w : World) (h : RdB w ad l) (hb : Byt l) (hl : l.length ≤ 7) : Calls Tryz.prog 116 #[.slice ad l.length cap] w fun e w' => e = .returned (.int .i64 (valB 0 l : Nat)) ∧ w' = w := by
  obtain ⟨R, hR⟩ : ∃ R, valB 0 l = R := ⟨_, rfl⟩
  rw [hR]
  have HR : Hid (valB 0 (l.drop 0) = R) := hR
  clear hR
  go_enter Tryz.func116, Tryz.ntmps116
  go_wp2
  go_loopw [3, 8] (fun p i wz => ∃ (k a : Nat), p = .int .i64 a ∧ i = .int .i64 k ∧ k ≤ l.length ∧ a < 2 ^ (8 * k) ∧ Hid (valB a (l.drop k) = R) ∧ wz = w) (fun _ i _ => l.length - vnatW i)
  case atStart => exact ⟨0, 0, rfl, rfl, Nat.zero_le _, by decide, HR, rfl⟩
  case round =>
    obtain ⟨k, a, rfl, rfl, hk, ha, HK, rfl⟩ := hrel
    by_cases hkl : k < l.length
    · obtain ⟨g, off, e1, hbl, hat⟩ := h (fun e => by subst e; simp at hkl)
      subst e1
      obtain ⟨x, hx⟩ := get_lt hkl
      have c0 := hat k _ hx
      have hx8 := byt_get8 hb hx
      have HS := valB_drop l k a x hx
      rw [HK.out] at HS
      have HS2 : Hid (R = valB (a * 256 + x) (l.drop (k + 1))) := HS
      clear HS HK HR
      have hki : (k : Int) < (l.length : Int) := by omega
      have h6 : 2 ^ (8 * k) ≤ 2 ^ (8 * 6) := Nat.pow_le_pow_right (by decide) (by omega)
      have ha6 : a < 281474976710656 := Nat.lt_of_lt_of_le ha h6
      have hor := i64_or_nat (a * 256) x (by omega) (by omega)
      rw [or256 a x hx8] at hor
      have hnew : Hid (a * 256 + x < 2 ^ (8 * (k + 1))) := by
        show a * 256 + x < 2 ^ (8 * (k + 1))
        rw [Nat.mul_add, Nat.pow_add]
        generalize 2 ^ (8 * k) = z at *
        omega
      clear h6 ha
      go_wp2
      go_roundw
      case rel => exact ⟨k + 1, a * 256 + x, by rw [show ((a : Int) * 256) = ((a * 256 : Nat) : Int) by omega, hor], by simp, by omega, hnew.out, HS2.out.symm, trivial⟩
      case measure => simp [vnatW]; omega
    · have hkk : k = l.length := by omega
      subst hkk
      have hki : ¬ ((l.length : Int) < (l.length : Int)) := by omega
      have HE : Hid (R = a) := by have := HK.out; rw [List.drop_length] at this; exact this.symm
      clear HK HR h hb ha
      go_wp2
      go_ret
      rw [HE.out]
      exact ⟨rfl, rfl⟩
end Go.Proofs.YtnomeinppdnhfaaGreat
