import Derived.Test.YtekjhcnaabpfmaaGreatDoorJnJ5
import Derived.Test.YtekjhcnaabpfmaaGreatDoorJnJ15
import Derived.Laws.Shifts
import Derived.Maps.AppendAt
import Derived.OwnWalk
import Derived.Laws.OwnMore
import Derived.Test.YtekjhcnaabpfmaaGreatDoorJnJ2
set_option maxHeartbeats 40000000
set_option maxRecDepth 100000
set_option linter.unusedVariables false
namespace Go.Proofs.YtekjhcnaabpfmaaGreatDoor
open Go.RowKit
def BytW (l : List Nat) : Prop := ∀ x ∈ l, x < 256
theorem BytW.take {l : List Nat} (h : BytW l) (k : Nat) : BytW (l.take k) := fun x hx => h x (List.mem_of_mem_take hx)
theorem BytW.drop {l : List Nat} (h : BytW l) (k : Nat) : BytW (l.drop k) := fun x hx => h x (List.mem_of_mem_drop hx)
theorem BytW.append {a b : List Nat} (h : BytW a) (k : BytW b) : BytW (a ++ b) := by
 intro x hx
 rcases List.mem_append.1 hx with q | q
 · exact h x q
 · exact k x q
theorem byt_nilW : BytW [] := by intro x hx; cases hx
theorem byt_consW {x : Nat} {l : List Nat} (h : x < 256) (k : BytW l) : BytW (x :: l) := by
 intro y hy
 rcases List.mem_cons.1 hy with rfl | q
 · exact h
 · exact k y q
theorem BytW.head {x : Nat} {l : List Nat} (h : BytW (x :: l)) : x < 256 := h x (List.mem_cons_self ..)
theorem BytW.tail {x : Nat} {l : List Nat} (h : BytW (x :: l)) : BytW l := fun y hy => h y (List.mem_cons_of_mem _ hy)
def sumF : Nat → Nat → List Nat → Nat × Nat
 | p, q, [] => (p, q)
 | p, q, x :: l => sumF ((p + x) % 65521) ((q + (p + x) % 65521) % 65521) l
def sumV (l : List Nat) : Nat := (sumF 1 0 l).2 * 65536 + (sumF 1 0 l).1
theorem sumF_lt : ∀ (l : List Nat) (p q : Nat), p < 65521 → q < 65521 → (sumF p q l).1 < 65521 ∧ (sumF p q l).2 < 65521
 | [], p, q, h, k => ⟨h, k⟩
 | x :: l, p, q, h, k => sumF_lt l _ _ (Nat.mod_lt _ (by decide)) (Nat.mod_lt _ (by decide))
theorem sumV_lt (l : List Nat) : sumV l < 4294967296 := by
 have h := sumF_lt l 1 0 (by decide) (by decide)
 unfold sumV
 omega
theorem sumF_drop (l : List Nat) (k p q x : Nat) (h : l[k]? = some x) : sumF p q (l.drop k) = sumF ((p + x) % 65521) ((q + (p + x) % 65521) % 65521) (l.drop (k + 1)) := by
 obtain ⟨hk, rfl⟩ := List.getElem?_eq_some_iff.1 h
 rw [List.drop_eq_getElem_cons hk]
 rfl
def numBW (v : Nat) : Nat → List Nat
 | 0 => []
 | m + 1 => (v / 2 ^ (8 * m) % 256) :: numBW v m
theorem znl (v : Nat) : ∀ m, (numBW v m).length = m
 | 0 => rfl
 | m + 1 => by rw [numBW, List.length_cons, znl v m]
theorem numB_bytW (v : Nat) : ∀ m, BytW (numBW v m)
 | 0 => byt_nilW
 | m + 1 => byt_consW (Nat.mod_lt _ (by decide)) (numB_bytW v m)
def valBW : Nat → List Nat → Nat
 | v, [] => v
 | v, x :: l => valBW (v * 256 + x) l
theorem valB_dropW (l : List Nat) (k v x : Nat) (h : l[k]? = some x) : valBW v (l.drop k) = valBW (v * 256 + x) (l.drop (k + 1)) := by
 obtain ⟨hk, rfl⟩ := List.getElem?_eq_some_iff.1 h
 rw [List.drop_eq_getElem_cons hk]
 rfl
theorem valB_numW (u : Nat) : ∀ (m v : Nat), valBW v (numBW u m) = v * 2 ^ (8 * m) + u % 2 ^ (8 * m)
 | 0, v => by rw [numBW, valBW, Nat.mul_zero, Nat.pow_zero, Nat.mod_one]; omega
 | m + 1, v => by
  rw [numBW, valBW, valB_numW u m]
  have h1 : 2 ^ (8 * (m + 1)) = 256 * 2 ^ (8 * m) := by rw [Nat.mul_add, Nat.pow_add, Nat.mul_comm]
  have h2 : u % (2 ^ (8 * m) * 256) = u % 2 ^ (8 * m) + 2 ^ (8 * m) * (u / 2 ^ (8 * m) % 256) := Nat.mod_mul
  rw [h1, Nat.mul_comm 256, h2, Nat.add_mul, Nat.mul_assoc v 256, Nat.mul_comm 256 (2 ^ (8 * m)), Nat.mul_comm (u / 2 ^ (8 * m) % 256)]
  omega
theorem val_numW {u m : Nat} (h : u < 2 ^ (8 * m)) : valBW 0 (numBW u m) = u := by rw [valB_numW, Nat.zero_mul, Nat.zero_add, Nat.mod_eq_of_lt h]
theorem valB_accW : ∀ (l : List Nat) (v : Nat), valBW v l = v * 2 ^ (8 * l.length) + valBW 0 l
 | [], v => by simp [valBW]
 | x :: l, v => by
  have h1 : 2 ^ (8 * (l.length + 1)) = 256 * 2 ^ (8 * l.length) := by rw [Nat.mul_add, Nat.pow_add, Nat.mul_comm]
  rw [valBW, valBW, valB_accW l (v * 256 + x), valB_accW l (0 * 256 + x), List.length_cons, h1, Nat.add_mul, Nat.zero_mul, Nat.zero_add, Nat.mul_assoc]
  omega
theorem valB_ltW : ∀ (l : List Nat), BytW l → valBW 0 l < 2 ^ (8 * l.length)
 | [], _ => by simp [valBW]
 | x :: l, h => by
  have ih := valB_ltW l h.tail
  have hx := h.head
  have h1 : 2 ^ (8 * (l.length + 1)) = 256 * 2 ^ (8 * l.length) := by rw [Nat.mul_add, Nat.pow_add, Nat.mul_comm]
  rw [valBW, valB_accW, List.length_cons, h1, Nat.zero_mul, Nat.zero_add]
  have := Nat.mul_le_mul_right (2 ^ (8 * l.length)) (show x ≤ 255 by omega)
  omega
theorem num_modW (v : Nat) : ∀ m k, m ≤ k → numBW (v % 2 ^ (8 * k)) m = numBW v m
 | 0, k, _ => rfl
 | m + 1, k, h => by
  rw [numBW, numBW, num_modW v m k (by omega)]
  congr 1
  have e : 8 * k = 8 * m + (8 + 8 * (k - m - 1)) := by omega
  rw [e, Nat.pow_add, Nat.mod_mul_right_div_self, Nat.pow_add]
  exact Nat.mod_mul_right_mod _ _ _
theorem num_valW : ∀ (l : List Nat), BytW l → numBW (valBW 0 l) l.length = l
 | [], _ => rfl
 | x :: l, h => by
  have hx := h.head
  have hl := valB_ltW l h.tail
  have ih := num_valW l h.tail
  have e1 : (x * 2 ^ (8 * l.length) + valBW 0 l) / 2 ^ (8 * l.length) = x := by
   rw [Nat.add_comm, Nat.mul_comm, Nat.add_mul_div_left _ _ (Nat.two_pow_pos _), Nat.div_eq_of_lt hl, Nat.zero_add]
  have e2 : (x * 2 ^ (8 * l.length) + valBW 0 l) % 2 ^ (8 * l.length) = valBW 0 l := by
   rw [Nat.add_comm, Nat.mul_comm, Nat.add_mul_mod_self_left, Nat.mod_eq_of_lt hl]
  rw [valBW, valB_accW, Nat.zero_mul, Nat.zero_add, List.length_cons, numBW, e1, Nat.mod_eq_of_lt hx, ← num_modW _ l.length l.length (Nat.le_refl _), e2, ih]
def stB (N : Nat) : Nat → Nat → List Nat
 | _, 0 => []
 | i, m + 1 => (N / 2 ^ (8 * i) % 256) :: stB N (i + 1) m
theorem stB_len (N : Nat) : ∀ (m i : Nat), (stB N i m).length = m
 | 0, i => rfl
 | m + 1, i => by rw [stB, List.length_cons, stB_len N m]
theorem stB_byt (N : Nat) : ∀ (m i : Nat), BytW (stB N i m)
 | 0, i => byt_nilW
 | m + 1, i => byt_consW (Nat.mod_lt _ (by decide)) (stB_byt N m _)
def vlS : List Nat → Nat
 | [] => 0
 | x :: l => x + 256 * vlS l
theorem vlS_lt : ∀ (l : List Nat), BytW l → vlS l < 2 ^ (8 * l.length)
 | [], _ => by simp [vlS]
 | x :: l, h => by
  have ih := vlS_lt l h.tail
  have hx := h.head
  have h1 : 2 ^ (8 * (l.length + 1)) = 256 * 2 ^ (8 * l.length) := by rw [Nat.mul_add, Nat.pow_add, Nat.mul_comm]
  rw [vlS, List.length_cons, h1]
  omega
theorem vlS_st (N : Nat) : ∀ (m i : Nat), vlS (stB N i m) = N / 2 ^ (8 * i) % 2 ^ (8 * m)
 | 0, i => by rw [stB, vlS, Nat.mul_zero, Nat.pow_zero, Nat.mod_one]
 | m + 1, i => by
  rw [stB, vlS, vlS_st N m (i + 1)]
  have h1 : 2 ^ (8 * (m + 1)) = 256 * 2 ^ (8 * m) := by rw [Nat.mul_add, Nat.pow_add, Nat.mul_comm]
  have h2 : 2 ^ (8 * (i + 1)) = 2 ^ (8 * i) * 256 := by rw [Nat.mul_add, Nat.pow_add]
  rw [h1, h2, ← Nat.div_div_eq_div_mul, Nat.mod_mul]
theorem st_vlS : ∀ (l : List Nat) (i : Nat) (M : Nat), BytW l → M < 2 ^ (8 * i) → stB (M + 2 ^ (8 * i) * vlS l) i l.length = l
 | [], i, M, _, _ => rfl
 | x :: l, i, M, h, hM => by
  have hx := h.head
  have h2 : 2 ^ (8 * (i + 1)) = 2 ^ (8 * i) * 256 := by rw [Nat.mul_add, Nat.pow_add]
  have e1 : (M + 2 ^ (8 * i) * vlS (x :: l)) / 2 ^ (8 * i) % 256 = x := by
   rw [Nat.add_mul_div_left _ _ (Nat.two_pow_pos _), Nat.div_eq_of_lt hM, Nat.zero_add, vlS]
   omega
  have e2 : M + 2 ^ (8 * i) * vlS (x :: l) = (M + 2 ^ (8 * i) * x) + 2 ^ (8 * (i + 1)) * vlS l := by
   rw [vlS, h2, Nat.mul_add, ← Nat.mul_assoc]
   omega
  have e3 : M + 2 ^ (8 * i) * x < 2 ^ (8 * (i + 1)) := by
   rw [h2]
   have := Nat.mul_le_mul_left (2 ^ (8 * i)) (show x ≤ 255 by omega)
   omega
  rw [List.length_cons, stB, e1, e2, st_vlS l (i + 1) _ h.tail e3]
theorem st_vl (l : List Nat) (h : BytW l) : stB (vlS l) 0 l.length = l := by
 have := st_vlS l 0 0 h (by simp)
 simpa using this
theorem vlS_snoc : ∀ (l : List Nat) (x : Nat), vlS (l ++ [x]) = vlS l + 2 ^ (8 * l.length) * x
 | [], x => by simp [vlS]
 | y :: l, x => by
  have h1 : 2 ^ (8 * (l.length + 1)) = 256 * 2 ^ (8 * l.length) := by rw [Nat.mul_add, Nat.pow_add, Nat.mul_comm]
  rw [List.cons_append, vlS, vlS, vlS_snoc l x, List.length_cons, h1, Nat.mul_assoc]
  omega
def hsz (n : Nat) : Nat := (n + 7) / 8
def newsB : List (Int × Int × Int) → List Nat
 | [] => []
 | x :: l => x.1.toNat % 256 :: x.2.2.toNat % 256 :: (numBW x.2.1.toNat 3 ++ newsB l)
theorem newsB_len : ∀ l, (newsB l).length = 5 * l.length
 | [] => rfl
 | x :: l => by
  rw [newsB, List.length_cons, List.length_cons, List.length_append, znl, newsB_len l, List.length_cons]
  omega
theorem newsB_byt : ∀ l, BytW (newsB l)
 | [] => byt_nilW
 | x :: l => byt_consW (Nat.mod_lt _ (by decide)) (byt_consW (Nat.mod_lt _ (by decide)) ((numB_bytW _ _).append (newsB_byt l)))
theorem newsB_app : ∀ a b, newsB (a ++ b) = newsB a ++ newsB b
 | [], b => rfl
 | x :: a, b => by simp [newsB, newsB_app a b]
def rndB (kd rd : Nat) : List Nat := if kd = 3 then [] else numBW rd 5
def setB (kd n N : Nat) : List Nat := if kd = 2 then stB N 0 (hsz n) else []
def frm (kd n fr rd N : Nat) (l : List (Int × Int × Int)) : List Nat :=
 [101, 115, kd % 256, n % 256, fr % 256] ++ (rndB kd rd ++ (setB kd n N ++ (l.length % 256 :: newsB l)))
def byt7 (kd n fr rd N : Nat) (l : List (Int × Int × Int)) : List Nat := frm kd n fr rd N l ++ numBW (sumV (frm kd n fr rd N l)) 4
theorem rndB_len (kd rd : Nat) : (rndB kd rd).length ≤ 5 := by unfold rndB; split <;> simp [znl]
theorem rndB_byt (kd rd : Nat) : BytW (rndB kd rd) := by
 unfold rndB
 split
 · exact byt_nilW
 · exact numB_bytW _ _
theorem setB_len (kd n N : Nat) : (setB kd n N).length ≤ hsz n := by unfold setB; split <;> simp [stB_len]
theorem setB_byt (kd n N : Nat) : BytW (setB kd n N) := by
 unfold setB
 split
 · exact stB_byt _ _ _
 · exact byt_nilW
theorem frm_byt (kd n fr rd N : Nat) (l : List (Int × Int × Int)) : BytW (frm kd n fr rd N l) :=
 BytW.append (byt_consW (by decide) (byt_consW (by decide) (byt_consW (Nat.mod_lt _ (by decide)) (byt_consW (Nat.mod_lt _ (by decide)) (byt_consW (Nat.mod_lt _ (by decide)) byt_nilW))))) ((rndB_byt _ _).append ((setB_byt _ _ _).append (byt_consW (Nat.mod_lt _ (by decide)) (newsB_byt _))))
theorem byt7_byt (kd n fr rd N : Nat) (l : List (Int × Int × Int)) : BytW (byt7 kd n fr rd N l) := BytW.append (frm_byt _ _ _ _ _ _) (numB_bytW _ _)
theorem frm_len (kd n fr rd N : Nat) (l : List (Int × Int × Int)) : (frm kd n fr rd N l).length ≤ 11 + hsz n + 5 * l.length := by
 have h1 := rndB_len kd rd
 have h2 := setB_len kd n N
 unfold frm
 simp only [List.length_append, List.length_cons, List.length_nil, newsB_len]
 omega
theorem byt7_len (kd n fr rd N : Nat) (l : List (Int × Int × Int)) : (byt7 kd n fr rd N l).length = (frm kd n fr rd N l).length + 4 := by
 rw [byt7, List.length_append, znl]
def flt (kd : Nat) (n fr rd : Int) (N : Nat) (l : List (Int × Int × Int)) : Int :=
 if ¬ (1 ≤ n ∧ n ≤ 100) then 1
 else if fr < 0 ∨ n ≤ fr then 72
 else if kd ≠ 3 ∧ ¬ (1 ≤ rd ∧ rd ≤ 1099511627775) then 73
 else if wthB N n = false then 74
 else if ris n (-1) l = false then 75
 else 0
theorem flt_0 {kd : Nat} {n fr rd : Int} {N : Nat} {l : List (Int × Int × Int)} (h : flt kd n fr rd N l = 0) : (1 ≤ n ∧ n ≤ 100) ∧ (0 ≤ fr ∧ fr < n) ∧ (kd = 3 ∨ (1 ≤ rd ∧ rd ≤ 1099511627775)) ∧ wthB N n = true ∧ ris n (-1) l = true := by
 unfold flt at h
 split at h
 · cases h
 rename_i h1
 split at h
 · cases h
 rename_i h2
 split at h
 · cases h
 rename_i h3
 split at h
 · cases h
 rename_i h4
 split at h
 · cases h
 rename_i h5
 refine ⟨Classical.not_not.1 h1, by omega, ?_, by simpa using h4, by simpa using h5⟩
 by_cases hk : kd = 3
 · exact .inl hk
 · exact .inr (Classical.byContradiction fun q => h3 ⟨hk, q⟩)
end Go.Proofs.YtekjhcnaabpfmaaGreatDoor
namespace Go.Proofs.YtekjhcnaabpfmaaGreatDoor
open Go.RowKit Go.Shelf
def cBW (l : List Nat) : List Value := l.map fun (x : Nat) => .int .u8 (x : Int)
theorem cB_appW (a b : List Nat) : cBW (a ++ b) = cBW a ++ cBW b := by simp [cBW]
theorem cB_getW {l : List Nat} {k x : Nat} (h : l[k]? = some x) : (cBW l)[k]? = some (.int .u8 (x : Int)) := by simp [cBW, h]
def BAtW (W : World) (b off : Nat) (l : List Nat) : Prop := ∀ (k x : Nat), l[k]? = some x → W.cell? ⟨b, off + k, none⟩ = some (.int .u8 (x : Int))
def RdBW (W : World) (ad : Option Addr) (l : List Nat) : Prop := l ≠ [] → ∃ b off, ad = some ⟨b, off, none⟩ ∧ b < W.heap.size ∧ BAtW W b off l
theorem BAtW.carry {W W' : World} {b off : Nat} {l : List Nat} (h : BAtW W b off l) (e : W'.heap[b]? = W.heap[b]?) : BAtW W' b off l :=
 fun k x hk => (World.cell?_of_block (w := W) e).trans (h k x hk)
theorem RdBW.carry {W W' : World} {ad : Option Addr} {l : List Nat} (h : RdBW W ad l) (hb : Below W.heap.size W W') : RdBW W' ad l := by
 intro hl
 obtain ⟨b, off, h1, h2, h3⟩ := h hl
 exact ⟨b, off, h1, Nat.lt_of_lt_of_le h2 hb.size, h3.carry (hb.block b h2)⟩
theorem BAtW.sub {W : World} {b off : Nat} {l : List Nat} (h : BAtW W b off l) (i n : Nat) : BAtW W b (off + i) ((l.drop i).take n) := by
 intro k x hk
 have hk2 : l[i + k]? = some x := by
  rw [List.getElem?_take] at hk
  split at hk
  · rwa [List.getElem?_drop] at hk
  · cases hk
 rw [Nat.add_assoc]
 exact h _ _ hk2
theorem b_ownW {W : World} {base g n cap : Nat} {l : List Nat} (h : W.ownsRow base 5 1 (.slice (some ⟨g, 0, none⟩) n cap) n (cBW l)) (hn : n = l.length) : BAtW W g 0 l := by
 intro k x hk
 have hlt : k < l.length := (List.getElem?_eq_some_iff.1 hk).1
 rw [Nat.zero_add]
 exact (h.cellAt _ (by omega)).trans (cB_getW hk)
theorem RdBW.own {W : World} {base : Nat} {v : Value} {l : List Nat} (h : W.ownsRow base 5 1 v l.length (cBW l)) : ∃ ad cap, v = .slice ad l.length cap ∧ RdBW W ad l := by
 rcases own_form h with ⟨rfl, e⟩ | ⟨g, cap, rfl, h1, h2, h3⟩
 · exact ⟨none, 0, by rw [e], fun q => absurd (List.length_eq_zero_iff.1 e) q⟩
 · exact ⟨_, cap, rfl, fun _ => ⟨g, 0, rfl, h2, b_ownW h rfl⟩⟩
theorem get_ltW {l : List Nat} {k : Nat} (h : k < l.length) : ∃ x, l[k]? = some x := ⟨_, List.getElem?_eq_getElem h⟩
theorem byt_get8W {l : List Nat} {k x : Nat} (h : BytW l) (hk : l[k]? = some x) : x < 256 := h x (List.mem_of_getElem? hk)
theorem or256W (v x : Nat) (h : x < 256) : (v * 256 ||| x) = v * 256 + x := by
 have := Nat.two_pow_add_eq_or_of_lt (i := 8) h v
 rw [Nat.mul_comm v 256]
 exact this.symm
theorem ofInt_i64 (a : Nat) (ha : a < 9223372036854775808) : (BitVec.ofInt 64 (a : Int)).toNat = a := by
 rw [BitVec.ofInt_natCast, BitVec.toNat_ofNat]; exact Nat.mod_eq_of_lt (by omega)
theorem i64_or_nat (a b : Nat) (ha : a < 9223372036854775808) (hb : b < 9223372036854775808) : bits .or .i64 (a : Int) (b : Int) = ((a ||| b : Nat) : Int) := by
 have hx : a ||| b < 2 ^ 63 := Nat.or_lt_two_pow (by omega) (by omega)
 show IntKind.i64.wrap ((BitVec.ofInt 64 (a : Int) ||| BitVec.ofInt 64 (b : Int)).toNat : Int) = _
 rw [BitVec.toNat_or, ofInt_i64 a ha, ofInt_i64 b hb, IntKind.wrap_i64]
 omega
def vnatW (v : Value) : Nat := match v with | .int _ n => n.toNat | _ => 0
theorem sum_any (ad : Option Addr) (cap : Nat) (l : List Nat) (w : World) (h : RdBW w ad l) (hb : BytW l) (hl : l.length ≤ 140737488355328) : Calls Tryz.prog 77 #[.slice ad l.length cap] w fun e w' => e = .returned (.int .i64 (sumV l : Nat)) ∧ w' = w := by
 obtain ⟨R, hR⟩ : ∃ R, sumF 1 0 l = R := ⟨_, rfl⟩
 have hlt := sumF_lt l 1 0 (by decide) (by decide)
 rw [sumV, hR]
 rw [hR] at hlt
 have HR : Hid (sumF 1 0 (l.drop 0) = R) := hR
 clear hR
 go_enter Tryz.func77, Tryz.ntmps77
 go_wp2
 go_loopw [3, 4, 9] (fun p q i wz => ∃ (k a b : Nat), p = .int .i64 a ∧ q = .int .i64 b ∧ i = .int .i64 k ∧ k ≤ l.length ∧ a < 65521 ∧ b < 65521 ∧ Hid (sumF a b (l.drop k) = R) ∧ wz = w) (fun _ _ i _ => l.length - vnatW i)
 case atStart => exact ⟨0, 1, 0, rfl, rfl, rfl, Nat.zero_le _, by decide, by decide, HR, rfl⟩
 case round =>
  obtain ⟨k, a, b, rfl, rfl, rfl, hk, ha, hbb, HK, rfl⟩ := hrel
  by_cases hkl : k < l.length
  · obtain ⟨g, off, e1, hbl, hat⟩ := h (fun e => by subst e; simp at hkl)
    subst e1
    obtain ⟨x, hx⟩ := get_ltW hkl
    have c0 := hat k _ hx
    have hx8 := byt_get8W hb hx
    have HS := sumF_drop l k a b x hx
    rw [HK.out] at HS
    have HS2 : Hid (R = sumF ((a + x) % 65521) ((b + (a + x) % 65521) % 65521) (l.drop (k + 1))) := HS
    clear HS HK HR
    have hki : (k : Int) < (l.length : Int) := by omega
    go_wp2
    go_roundw
    case rel => exact ⟨k + 1, (a + x) % 65521, (b + (a + x) % 65521) % 65521, by simp, by simp, by simp, by omega, Nat.mod_lt _ (by decide), Nat.mod_lt _ (by decide), HS2.out.symm, trivial⟩
    case measure => simp [vnatW]; omega
  · have hkk : k = l.length := by omega
    subst hkk
    have hki : ¬ ((l.length : Int) < (l.length : Int)) := by omega
    have HE : Hid (R = (a, b)) := by have := HK.out; rw [List.drop_length] at this; exact this.symm
    clear HK HR h hb
    go_wp2
    go_ret
    rw [HE.out]
    exact ⟨by simp, rfl⟩
theorem numberOf_any (ad : Option Addr) (cap : Nat) (l : List Nat) (w : World) (h : RdBW w ad l) (hb : BytW l) (hl : l.length ≤ 7) : Calls Tryz.prog 111 #[.slice ad l.length cap] w fun e w' => e = .returned (.int .i64 (valBW 0 l : Nat)) ∧ w' = w := by
 obtain ⟨R, hR⟩ : ∃ R, valBW 0 l = R := ⟨_, rfl⟩
 rw [hR]
 have HR : Hid (valBW 0 (l.drop 0) = R) := hR
 clear hR
 go_enter Tryz.func111, Tryz.ntmps111
 go_wp2
 go_loopw [3, 8] (fun p i wz => ∃ (k a : Nat), p = .int .i64 a ∧ i = .int .i64 k ∧ k ≤ l.length ∧ a < 2 ^ (8 * k) ∧ Hid (valBW a (l.drop k) = R) ∧ wz = w) (fun _ i _ => l.length - vnatW i)
 case atStart => exact ⟨0, 0, rfl, rfl, Nat.zero_le _, by decide, HR, rfl⟩
 case round =>
  obtain ⟨k, a, rfl, rfl, hk, ha, HK, rfl⟩ := hrel
  by_cases hkl : k < l.length
  · obtain ⟨g, off, e1, hbl, hat⟩ := h (fun e => by subst e; simp at hkl)
    subst e1
    obtain ⟨x, hx⟩ := get_ltW hkl
    have c0 := hat k _ hx
    have hx8 := byt_get8W hb hx
    have HS := valB_dropW l k a x hx
    rw [HK.out] at HS
    have HS2 : Hid (R = valBW (a * 256 + x) (l.drop (k + 1))) := HS
    clear HS HK HR
    have hki : (k : Int) < (l.length : Int) := by omega
    have h6 : 2 ^ (8 * k) ≤ 2 ^ (8 * 6) := Nat.pow_le_pow_right (by decide) (by omega)
    have ha6 : a < 281474976710656 := Nat.lt_of_lt_of_le ha h6
    have hor := i64_or_nat (a * 256) x (by omega) (by omega)
    rw [or256W a x hx8] at hor
    have hnew : Hid (a * 256 + x < 2 ^ (8 * (k + 1))) := by
     show a * 256 + x < 2 ^ (8 * (k + 1))
     rw [Nat.mul_add, Nat.pow_add]
     generalize 2 ^ (8 * k) = z at *
     omega
    clear h6 ha
    go_wp2
    go_roundw
    case rel => exact ⟨k + 1, a * 256 + x, by rw [show ((a : Int) * 256) = ((a * 256 : Nat) : Int) by omega, hor], by simp, by omega, hnew.out, HS2.out.symm, trivial⟩
    case measure => simp [vnatW]; omega
  · have hkk : k = l.length := by omega
    subst hkk
    have hki : ¬ ((l.length : Int) < (l.length : Int)) := by omega
    have HE : Hid (R = a) := by have := HK.out; rw [List.drop_length] at this; exact this.symm
    clear HK HR h hb ha
    go_wp2
    go_ret
    rw [HE.out]
    exact ⟨rfl, rfl⟩
theorem infoBW : (Tryz.prog.info? 5).map (fun i => (i.zero, i.size, i.bytes)) = some (some (.int .u8 0), 1, 1) := by kernel_rfl
theorem info_partsB : ∃ i, Tryz.prog.info? 5 = some i ∧ i.zero = some (.int .u8 0) ∧ i.size = 1 ∧ i.bytes = 1 := by
 have h := infoBW
 cases hi : Tryz.prog.info? 5 with
 | none => rw [hi] at h; cases h
 | some i =>
  rw [hi] at h
  simp only [Option.map_some, Option.some.injEq, Prod.mk.injEq] at h
  exact ⟨i, rfl, h.1, h.2.1, h.2.2⟩
theorem row_belowW {w w' : World} {base : Nat} {e : TypeId} {size : Nat} {v : Value} {n : Nat} {xs : List Value} (h : w.ownsRow base e size v n xs) (hb : Below w.heap.size w w') : w'.ownsRow base e size v n xs := by
 obtain ⟨h1, h2⟩ := h
 refine ⟨h1, ?_⟩
 rcases h2 with h2 | ⟨g, cap, cur, h3, h4, h5, h6⟩
 · exact .inl h2
 · exact .inr ⟨g, cap, cur, h3, h4, (hb.block g (zla h5)).trans h5, h6⟩
theorem bs1 (W : World) (x : Int) : (Instr.buildSlice 23 1 #[(0, .int .u8 x)]).run Tryz.prog W = .ok (.slice (some ⟨W.heap.size, 0, none⟩) 1 1) (W.alloc (.cells #[.int .u8 x] 5)) := by
 go_simp
theorem bs2 (W : World) (x y : Int) : (Instr.buildSlice 23 2 #[(0, .int .u8 x), (1, .int .u8 y)]).run Tryz.prog W = .ok (.slice (some ⟨W.heap.size, 0, none⟩) 2 2) (W.alloc (.cells #[.int .u8 x, .int .u8 y] 5)) := by
 go_simp
theorem bs3 (W : World) (x y z : Int) : (Instr.buildSlice 23 3 #[(0, .int .u8 x), (1, .int .u8 y), (2, .int .u8 z)]).run Tryz.prog W = .ok (.slice (some ⟨W.heap.size, 0, none⟩) 3 3) (W.alloc (.cells #[.int .u8 x, .int .u8 y, .int .u8 z] 5)) := by
 go_simp
theorem own_lt {w : World} {base : Nat} {e : TypeId} {size : Nat} {v : Value} {n : Nat} {xs : List Value} (h : w.ownsRow base e size v n xs) : ∀ g, v.ownBlock = some g → g < w.heap.size := by
 intro g hg
 rcases h.2 with ⟨rfl, _⟩ | ⟨g', cap, cur, rfl, h4, h5, _⟩
 · simp [Value.ownBlock] at hg
 · simp [Value.ownBlock] at hg
   subst hg
   exact zla h5
def OwB (W : World) (base : Nat) (v : Value) (l : List Nat) : Prop := W.ownsRow base 5 1 v l.length (cBW l)
theorem OwB.out {W : World} {base : Nat} {v : Value} {l : List Nat} (h : OwB W base v l) : W.ownsRow base 5 1 v l.length (cBW l) := h
theorem OwB.below {W W' : World} {base : Nat} {v : Value} {l : List Nat} (h : OwB W base v l) (hb : Below W.heap.size W W') : OwB W' base v l := row_belowW h hb
theorem owB_nil (W : World) (base : Nat) : OwB W base (.slice none 0 0) [] := ⟨rfl, .inl ⟨rfl, rfl⟩⟩
theorem byte_ofW (v k : Nat) : ((v : Int) / 2 ^ k) % 256 = ((v / 2 ^ k % 256 : Nat) : Int) := by
 have : ((2 : Int) ^ k) = ((2 ^ k : Nat) : Int) := by simp
 rw [this]
 simp
theorem addNumber_any (base : Nat) (b0 : Value) (L : List Nat) (v m : Nat) (w : World) (hbase : base ≤ w.heap.size) (h : OwB w base b0 L) (hL : L.length ≤ 100000) (hm : m ≤ 8) : Calls Tryz.prog 208 #[b0, .int .i64 (v : Int), .int .i64 (m : Int)] w fun e w' => ∃ b', e = .returned b' ∧ OwB w' base b' (L ++ numBW v m) ∧ Below base w w' := by
 obtain ⟨ic, hic, hz0, hz1, hz2⟩ := info_partsB
 go_enter Tryz.func208, Tryz.ntmps208
 go_wp2
 go_loopw [0, 9] (fun b i wz => ∃ (k : Nat) (C : List Nat), i = .int .i64 k ∧ k ≤ m ∧ C.length = L.length + k ∧ Hid (C ++ numBW v (m - k) = L ++ numBW v m) ∧ OwB wz base b C ∧ Below base w wz) (fun _ i _ => m - vnatW i)
 case atStart => exact ⟨0, L, rfl, Nat.zero_le _, rfl, rfl, h, Below.refl _ _⟩
 case round =>
  obtain ⟨k, C, rfl, hk, hC, HC, hrow, hbw⟩ := hrel
  have hsw := hbw.size
  by_cases hkl : k < m
  · have hki : (k : Int) < (m : Int) := by omega
    obtain ⟨j, hj⟩ : ∃ j, m - k = j + 1 := ⟨m - k - 1, by omega⟩
    have HN : Hid ((C ++ [v / 2 ^ (8 * j) % 256]) ++ numBW v (m - (k + 1)) = L ++ numBW v m) := by
     show (C ++ [v / 2 ^ (8 * j) % 256]) ++ numBW v (m - (k + 1)) = L ++ numBW v m
     rw [← HC.out, hj, numBW, List.append_assoc, show m - (k + 1) = j by omega]
     rfl
    have h8 : (8 : Int) * ((m : Int) - 1 - (k : Int)) = ((8 * j : Nat) : Int) := by omega
    have hby := byte_ofW v (8 * j)
    obtain ⟨D, hD⟩ : ∃ D : Nat, D = v / 2 ^ (8 * j) % 256 := ⟨_, rfl⟩
    rw [← hD] at hby HN
    clear hD
    unfold OwB at hrow
    clear h HC
    have hbs := bs1
    go_wp2_with (at_builtin; refine wpList_append_own _ rfl _ _ 23 rfl base 5 ic _ 1 1 Tryz.underlying23 hic hz0 hz1 hz2 rfl (by decide) _ C.length (cBW C) rfl (hrow.alloc _) ⟨wr.heap.size, 0, none⟩ 1 1 [_] rfl rfl (rowN _ #[_] _) (by simp [Value.oneCell']) (by unfold maxLen; omega) (by omega) (by simp; omega) ?_; intro v' w2 hown' hgrow _)
    go_roundw
    case rel =>
     refine ⟨k + 1, C ++ [D], by simp, by omega, by simp [hC]; omega, HN, ?_, (hbw.alloc (by omega) _).grown hgrow (by simp; omega) (fun q e => own_block hrow q e)⟩
     unfold OwB
     rw [cB_appW, List.length_append]
     exact hown'
    case measure => simp [vnatW]; omega
  · have hkk : k = m := by omega
    subst hkk
    have hki : ¬ ((k : Int) < (k : Int)) := by omega
    have HE : Hid (C = L ++ numBW v k) := by have := HC.out; rw [Nat.sub_self, numBW, List.append_nil] at this; exact this
    clear HC
    go_wp2
    go_ret
    exact ⟨_, rfl, HE.out ▸ hrow, hbw⟩
theorem hsz_le {n : Nat} (h : n ≤ 100) : hsz n ≤ 13 := by unfold hsz; omega
theorem heardSize_any (n : Nat) (hn : n ≤ 100) (w : World) : Calls Tryz.prog 74 #[.int .i64 (n : Int)] w fun e w' => e = .returned (.int .i64 (hsz n : Nat)) ∧ w' = w := by
 have h : (hsz n : Int) = ((n : Int) + 7) / 8 := by unfold hsz; omega
 rw [h]
 go_enter Tryz.func74, Tryz.ntmps74
 go_wp2
 go_ret
 exact ⟨by simp, rfl⟩
theorem isSize_anyW (n : Int) (w : World) : Calls Tryz.prog 35 #[.int .i64 n] w fun e w' => e = .returned (.bool (decide (1 ≤ n ∧ n ≤ 100))) ∧ w' = w := by
 by_cases h1 : 1 ≤ n
 · by_cases h2 : n ≤ 100
   · rw [decide_eq_true (And.intro h1 h2)]
     go_enter Tryz.func35, Tryz.ntmps35
     go_wp2
     go_ret
     exact ⟨by simp, rfl⟩
   · rw [decide_eq_false (fun q : 1 ≤ n ∧ n ≤ 100 => h2 q.2)]
     go_enter Tryz.func35, Tryz.ntmps35
     go_wp2
     go_ret
     exact ⟨by simp, rfl⟩
 · rw [decide_eq_false (fun q : 1 ≤ n ∧ n ≤ 100 => h1 q.1)]
   go_enter Tryz.func35, Tryz.ntmps35
   go_wp2
   go_ret
   exact ⟨by simp, rfl⟩
theorem isRound_any (n : Int) (w : World) : Calls Tryz.prog 70 #[.int .i64 n] w fun e w' => e = .returned (.bool (decide (1 ≤ n ∧ n ≤ 1099511627775))) ∧ w' = w := by
 by_cases h1 : 1 ≤ n
 · by_cases h2 : n ≤ 1099511627775
   · rw [decide_eq_true (And.intro h1 h2)]
     go_enter Tryz.func70, Tryz.ntmps70
     go_wp2
     go_ret
     exact ⟨by simp, rfl⟩
   · rw [decide_eq_false (fun q : 1 ≤ n ∧ n ≤ 1099511627775 => h2 q.2)]
     go_enter Tryz.func70, Tryz.ntmps70
     go_wp2
     go_ret
     exact ⟨by simp, rfl⟩
 · rw [decide_eq_false (fun q : 1 ≤ n ∧ n ≤ 1099511627775 => h1 q.1)]
   go_enter Tryz.func70, Tryz.ntmps70
   go_wp2
   go_ret
   exact ⟨by simp, rfl⟩
theorem hasRound_any (kd : Nat) (w : World) : Calls Tryz.prog 69 #[.int .i64 (kd : Int)] w fun e w' => e = .returned (.bool (decide (kd ≠ 3))) ∧ w' = w := by
 go_enter Tryz.func69, Tryz.ntmps69
 go_wp2
 go_ret
 refine ⟨?_, rfl⟩
 by_cases h : kd = 3
 · subst h; rfl
 · have h2 : (kd : Int) ≠ 3 := by omega
   simp [h, h2]
theorem hasHeard_any (kd : Nat) (w : World) : Calls Tryz.prog 71 #[.int .i64 (kd : Int)] w fun e w' => e = .returned (.bool (decide (kd = 2))) ∧ w' = w := by
 go_enter Tryz.func71, Tryz.ntmps71
 go_wp2
 go_ret
 refine ⟨?_, rfl⟩
 by_cases h : kd = 2
 · subst h; rfl
 · have h2 : (kd : Int) ≠ 2 := by omega
   simp [h, h2]
theorem wd_byte (N i : Nat) : wd N (i / 4) / 2 ^ (8 * (i % 4)) % 256 = N / 2 ^ (8 * i) % 256 := by
 apply Nat.eq_of_testBit_eq
 intro j
 rw [show (256 : Nat) = 2 ^ 8 from rfl, Nat.testBit_mod_two_pow, Nat.testBit_mod_two_pow, Nat.testBit_div_two_pow, Nat.testBit_div_two_pow, testBit_wd]
 by_cases hj : j < 8
 · rw [decide_eq_true (show j + 8 * (i % 4) < 32 by omega), Bool.true_and, show 32 * (i / 4) + (j + 8 * (i % 4)) = j + 8 * i by omega]
 · simp [hj]
theorem addSet_any (base : Nat) (b0 : Value) (L : List Nat) (N n : Nat) (w : World) (hbase : base ≤ w.heap.size) (h : OwB w base b0 L) (hL : L.length ≤ 100000) (hn : n ≤ 100) : Calls Tryz.prog 209 #[b0, sv N, .int .i64 (n : Int)] w fun e w' => ∃ b', e = .returned b' ∧ OwB w' base b' (L ++ stB N 0 (hsz n)) ∧ Below base w w' := by
 obtain ⟨ic, hic, hz0, hz1, hz2⟩ := info_partsB
 have hhs := heardSize_any n hn
 have hm13 := hsz_le hn
 obtain ⟨m, hm⟩ : ∃ m, hsz n = m := ⟨_, rfl⟩
 rw [hm] at hhs hm13
 rw [hm]
 simp only [sv]
 have h0 : OwB (w.alloc (.cells #[.int .u32 (wd N 0 : Nat), .int .u32 (wd N 1 : Nat), .int .u32 (wd N 2 : Nat), .int .u32 (wd N 3 : Nat)] 35)) base b0 L := h.below (alloc_below w _)
 have hH0 : Zh4 (w.alloc (.cells #[.int .u32 (wd N 0 : Nat), .int .u32 (wd N 1 : Nat), .int .u32 (wd N 2 : Nat), .int .u32 (wd N 3 : Nat)] 35)) w.heap.size (wd N) := get_new rfl
 go_enter Tryz.func209, Tryz.ntmps209
 go_wp2_with (go_at_call 74; (with_reducible refine (hhs _).mono ?_); rintro e u1 ⟨rfl, rfl⟩)
 go_loopw [0, 10] (fun b i wz => ∃ (k : Nat) (C : List Nat), i = .int .i64 k ∧ k ≤ m ∧ C.length = L.length + k ∧ Hid (C ++ stB N k (m - k) = L ++ stB N 0 m) ∧ OwB wz base b C ∧ Zh4 wz w.heap.size (wd N) ∧ (∀ g, b.ownBlock = some g → g ≠ w.heap.size) ∧ Below base w wz) (fun _ i _ => m - vnatW i)
 case atStart => exact ⟨0, L, rfl, Nat.zero_le _, rfl, rfl, h0, hH0, fun g hg => Nat.ne_of_lt (own_lt h g hg), (Below.refl _ _).alloc hbase _⟩
 case round =>
  obtain ⟨k, C, rfl, hk, hC, HC, hrow, hH, hne, hbw⟩ := hrel
  have hsw := hbw.size
  by_cases hkl : k < m
  · have hki : (k : Int) < (m : Int) := by omega
    obtain ⟨j, hj⟩ : ∃ j, m - k = j + 1 := ⟨m - k - 1, by omega⟩
    have HN : Hid ((C ++ [N / 2 ^ (8 * k) % 256]) ++ stB N (k + 1) (m - (k + 1)) = L ++ stB N 0 m) := by
     show (C ++ [N / 2 ^ (8 * k) % 256]) ++ stB N (k + 1) (m - (k + 1)) = L ++ stB N 0 m
     rw [← HC.out, hj, stB, List.append_assoc, show m - (k + 1) = j by omega]
     rfl
    have hwb := wd_byte N k
    obtain ⟨q, hq⟩ : ∃ q, k / 4 = q := ⟨_, rfl⟩
    obtain ⟨r, hr⟩ : ∃ r, k % 4 = r := ⟨_, rfl⟩
    have hqi : (k : Int) / 4 = (q : Int) := by omega
    have hri : (k : Int) % 4 = (r : Int) := by omega
    have hq4 : (q : Int) < 4 := by omega
    have hr8 : 8 * r < 32 := by omega
    rw [hq, hr] at hwb
    have hby := byte_ofW (wd N q) (8 * r)
    obtain ⟨D, hD⟩ : ∃ D : Nat, D = N / 2 ^ (8 * k) % 256 := ⟨_, rfl⟩
    rw [← hD] at hwb HN
    rw [hwb] at hby
    have c0 := hH.cell q (by omega)
    obtain ⟨V, hV⟩ : ∃ V, wd N q = V := ⟨_, rfl⟩
    rw [hV] at hby c0
    unfold OwB at hrow
    have hbs := bs1
    have HH : Hid (Zh4 wr w.heap.size (wd N)) := hH
    have hwl := hH.lt
    clear h HC hD hwb hV hH hH0 h0 hhs
    go_wp2_with (at_builtin; refine wpList_append_own_at _ rfl _ _ 23 rfl base 5 ic _ 1 1 Tryz.underlying23 hic hz0 hz1 hz2 rfl (by decide) _ C.length (cBW C) rfl (hrow.alloc _) ⟨wr.heap.size, 0, none⟩ 1 1 [_] rfl rfl (rowN _ #[_] _) (by simp [Value.oneCell']) (by unfold maxLen; omega) (by omega) (by simp; omega) ?_; intro v' w2 hown' hgrow _ hob)
    go_roundw
    case rel =>
     refine ⟨k + 1, C ++ [D], by simp, by omega, by simp [hC]; omega, HN, ?_, ?_, ?_, (hbw.alloc (by omega) _).grown hgrow (by simp; omega) (fun q e => own_block hrow q e)⟩
     · unfold OwB
       rw [cB_appW, List.length_append]
       exact hown'
     · exact (hgrow.block _ (by simp; omega) (fun e => hne _ e.symm rfl)).trans (get_old HH.out)
     · intro g hg
       rcases hob with e | e
       · exact hne g (e ▸ hg)
       · rw [e] at hg
         simp at hg
         omega
    case measure => simp [vnatW]; omega
  · have hkk : k = m := by omega
    subst hkk
    have hki : ¬ ((k : Int) < (k : Int)) := by omega
    have HE : Hid (C = L ++ stB N 0 k) := by have := HC.out; rw [Nat.sub_self, stB, List.append_nil] at this; exact this
    clear HC h0 hH0 hhs
    go_wp2
    go_ret
    exact ⟨_, rfl, HE.out ▸ hrow, hbw⟩
end Go.Proofs.YtekjhcnaabpfmaaGreatDoor
namespace Go.Proofs.YtekjhcnaabpfmaaGreatDoor
open Go.Lib
def idsTo (M n : Nat) : List Nat := (List.range n).filter M.testBit
theorem idsTo_succ (M n : Nat) : idsTo M (n + 1) = idsTo M n ++ (if M.testBit n then [n] else []) := by
 unfold idsTo
 rw [List.range_succ, List.filter_append]
 cases h : M.testBit n <;> simp [h]
theorem idsTo_gap (M n : Nat) : ∀ k, (∀ i, n ≤ i → i < n + k → M.testBit i = false) → idsTo M (n + k) = idsTo M n
 | 0, _ => rfl
 | k + 1, h => by
  rw [← Nat.add_assoc, idsTo_succ, h (n + k) (by omega) (by omega), idsTo_gap M n k (fun i h1 h2 => h i h1 (by omega))]
  simp
theorem idsTo_next (M n t : Nat) (hn : n ≤ t) (h : ∀ i, n ≤ i → i < t → M.testBit i = false) (ht : M.testBit t = true) : idsTo M (t + 1) = idsTo M n ++ [t] := by
 rw [idsTo_succ, ht]
 have := idsTo_gap M n (t - n) (fun i h1 h2 => h i h1 (by omega))
 rw [show n + (t - n) = t by omega] at this
 rw [this]; rfl
theorem idsTo_prefix (M : Nat) {n m : Nat} (h : n ≤ m) : idsTo M n <+: idsTo M m := by
 obtain ⟨k, rfl⟩ : ∃ k, m = n + k := ⟨m - n, by omega⟩
 induction k with
 | zero => exact List.prefix_rfl
 | succ k ih => rw [← Nat.add_assoc, idsTo_succ]; exact (ih (by omega)).trans (List.prefix_append _ _)
theorem idsTo_length (M : Nat) : ∀ n, (idsTo M n).length = popAux n M
 | 0 => rfl
 | n + 1 => by rw [idsTo_succ, List.length_append, idsTo_length M n, popAux_succ']; cases M.testBit n <;> rfl
def High (x y p : Nat) : Prop := ∀ i, x.testBit i = (decide (p ≤ i) && y.testBit i)
theorem testBit_ctz (x : Nat) (h0 : x ≠ 0) (h : x < 4294967296) : x.testBit (ctz 32 x) = true ∧ (∀ i, i < ctz 32 x → x.testBit i = false) ∧ ctz 32 x < 32 ∧ (x &&& (x - 1)).testBit (ctz 32 x) = false ∧ (∀ i, ctz 32 x < i → (x &&& (x - 1)).testBit i = x.testBit i) := by
 have hz : ctz 32 x = ctzFrom 32 x := by simp [ctz, h0]
 obtain ⟨m, hm, hk⟩ := ctzFrom_spec 32 x (by omega) h
 rw [← hz] at hm hk
 generalize ctz 32 x = k at *
 have h1 : x - 1 = 2 ^ k * (2 * m) + (2 ^ k - 1) := by
   have := Nat.one_le_two_pow (n := k)
   rw [hm, Nat.mul_add]; omega
 have b1 : ∀ i, x.testBit i = (decide (k ≤ i) && (2 * m + 1).testBit (i - k)) := fun i => by rw [hm, Nat.mul_comm, Nat.testBit_mul_two_pow]
 have b2 : ∀ i, k ≤ i → (x - 1).testBit i = (2 * m).testBit (i - k) := fun i hi => by
   have e : (x - 1) / 2 ^ k = 2 * m := by
    rw [h1, Nat.mul_add_div (Nat.two_pow_pos k), Nat.div_eq_of_lt (by have := Nat.two_pow_pos k; omega)]; rfl
   rw [← e, Nat.testBit_div_two_pow]
   congr 1; omega
 refine ⟨by rw [b1]; simp [Nat.testBit_zero], fun i hi => by rw [b1]; simp; omega, hk, ?_, fun i hi => ?_⟩
 · rw [Nat.testBit_and, b2 k (Nat.le_refl _)]
   simp [Nat.testBit_zero]
 · rw [Nat.testBit_and, b2 i (by omega), b1]
   obtain ⟨d, hd⟩ : ∃ d, i - k = d + 1 := ⟨i - k - 1, by omega⟩
   rw [hd, Nat.testBit_succ, Nat.testBit_succ]
   have e1 : (2 * m + 1) / 2 = m := by omega
   have e2 : (2 * m) / 2 = m := by omega
   rw [e1, e2]
   cases m.testBit d <;> simp
theorem High.next {x y p : Nat} (h : High x y p) (h0 : x ≠ 0) (hx : x < 4294967296) : p ≤ ctz 32 x ∧ y.testBit (ctz 32 x) = true ∧ (∀ i, p ≤ i → i < ctz 32 x → y.testBit i = false) ∧ High (x &&& (x - 1)) y (ctz 32 x + 1) := by
 obtain ⟨c1, c2, c3, c4, c5⟩ := testBit_ctz x h0 hx
 generalize ctz 32 x = k at *
 have a1 := h k
 rw [c1] at a1
 simp only [Bool.true_eq, Bool.and_eq_true, decide_eq_true_eq] at a1
 refine ⟨a1.1, a1.2, fun i h1 h2 => ?_, fun i => ?_⟩
 · have := h i
   rw [c2 i h2] at this
   simpa [h1] using this.symm
 · by_cases e : k + 1 ≤ i
   · rw [c5 i (by omega), h i]
     simp [show p ≤ i by omega, e]
   · simp only [e, decide_false, Bool.false_and]
     by_cases e2 : i = k
     · rw [e2]; exact c4
     · rw [Nat.testBit_and, c2 i (by omega)]; rfl
theorem and_pred_lt (x : Nat) (h : x ≠ 0) : x &&& (x - 1) < x := Nat.lt_of_le_of_lt Nat.and_le_right (by omega)
end Go.Proofs.YtekjhcnaabpfmaaGreatDoor
