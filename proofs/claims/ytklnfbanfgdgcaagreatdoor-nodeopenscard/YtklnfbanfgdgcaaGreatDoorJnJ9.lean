/- the statements' sector; earshotbook.SameBytes where they are alike; the statements' alive. -/
import Derived.Test.YtklnfbanfgdgcaaGreatDoorJnJ8
set_option maxHeartbeats 40000000
set_option maxRecDepth 100000
set_option linter.unusedVariables false
namespace Go.Proofs.YtklnfbanfgdgcaaGreatDoor
open Go.RowKit Go.Shelf

theorem load_u8 {V : World} {B j : Nat} {x : Int} (h : V.cell? ⟨B, j, none⟩ = some (.int .u8 x)) : (Instr.loadAt 5 (.pointer (some ⟨B, j, none⟩))).run Tryz.prog V = .ok (.int .u8 x) V := by go_simp
theorem un_notZ (b : Bool) (W : World) : (Op.unary .not (.bool b)).run Tryz.prog W = .ok (.bool (!b)) W := by go_simp
theorem idx_bz (g off n cap k : Nat) (h : k < n) (w : World) : (Instr.indexAt 30 (.slice (some ⟨g, off, none⟩) n cap) (.int .i64 (k : Int))).run Tryz.prog w = .ok (.pointer (some ⟨g, off + k, none⟩)) w := by
  have h1 : (k : Int) < (n : Int) := by omega
  go_simp
set_option maxHeartbeats 1000000 in
set_option maxRecDepth 100000 in
theorem sameB_yes (ad ad' : Option Addr) (cap cap' : Nat) (l : List Nat) (w : World) (h : RdB w ad l) (h' : RdB w ad' l) (hl : l.length ≤ 4611686018427387904) : Calls Tryz.prog 11 #[.slice ad l.length cap, .slice ad' l.length cap'] w fun e w' => e = .returned (.bool true) ∧ Below w.heap.size w w' := by
  have hmx : Tryz.prog.follows .mixedOrders = true := by kernel_rfl
  go_enter Tryz.func11, Tryz.ntmps11
  go_wp2
  go_loopw [5] (fun c wz => ∃ k : Nat, c = .int .i64 k ∧ k ≤ l.length ∧ Below w.heap.size w wz) (fun c _ => l.length - vnatZ c)
  case atStart => exact ⟨0, rfl, Nat.zero_le _, Below.refl _ _⟩
  case round =>
    obtain ⟨k, rfl, hk, hbw⟩ := hrel
    by_cases hkl : k < l.length
    · have hki : (k : Int) < (l.length : Int) := by omega
      have hne : l ≠ [] := fun e => by subst e; simp at hkl
      obtain ⟨g, off, rfl, hgl, hat⟩ := h hne
      obtain ⟨g', off', rfl, hgl', hat'⟩ := h' hne
      obtain ⟨x, hx⟩ : ∃ x, l[k]? = some x := ⟨_, List.getElem?_eq_getElem hkl⟩
      have c0 := hat k x hx
      have c0' := hat' k x hx
      go_wp2
      refine wp_region_any hmx ?_
      refine wpAny_pure (fun i__ => ([(.slice (some ⟨g, off, none⟩) l.length cap), (.int .i64 (k : Int)), (.pointer (some ⟨g, off + k, none⟩)), (.int .u8 (x : Int)), (.slice (some ⟨g', off', none⟩) l.length cap'), (.int .i64 (k : Int)), (.pointer (some ⟨g', off' + k, none⟩)), (.int .u8 (x : Int)), (.bool true), (.bool false)] : List Value).getD i__ undef) (fun W => Below w.heap.size w W) (by kernel_rfl) hbw.drew ?_ ?_
      · refine (stepsFrom_cons ?_ (stepsFrom_cons ?_ (stepsFrom_cons ?_ (stepsFrom_cons ?_ (stepsFrom_cons ?_ (stepsFrom_cons ?_ (stepsFrom_cons ?_ (stepsFrom_cons ?_ (stepsFrom_cons ?_ (stepsFrom_cons ?_ trivial))))))))))
        · exact step_move rfl trivial _ rfl (by kernel_rfl)
        · exact step_move rfl trivial _ rfl (by kernel_rfl)
        · exact step_indexAddr rfl trivial _ _ _ _ _ rfl rfl rfl (fun w hw => idx_bz g off _ _ k hkl w)
        · exact step_load rfl trivial _ _ _ rfl rfl (fun w hw => load_u8 ((hw.cell (p := ⟨g, off + k, none⟩) hgl).trans c0))
        · exact step_move rfl trivial _ rfl (by kernel_rfl)
        · exact step_move rfl trivial _ rfl (by kernel_rfl)
        · exact step_indexAddr rfl trivial _ _ _ _ _ rfl rfl rfl (fun w hw => idx_bz g' off' _ _ k hkl w)
        · exact step_load rfl trivial _ _ _ rfl rfl (fun w hw => load_u8 ((hw.cell (p := ⟨g', off' + k, none⟩) hgl').trans c0'))
        · exact step_binOp rfl trivial _ _ _ _ _ _ _ rfl rfl rfl (fun w hw => (bin_eql .u8 _ _).trans (by simp))
        · exact step_unOp rfl trivial _ _ _ _ rfl rfl (fun w hw => un_notZ true w)
      intro W hW
      first | refine hK _ _ ?_ | refine (‹∀ (a : Act) (w : World), Code.wp Tryz.prog _ _ a w → _›) _ _ ?_ | skip
      simp only [finL, List.getD_cons_zero, List.getD_cons_succ, Nat.zero_add, Nat.reduceAdd, List.setIfInBounds_toArray, List.set_cons_zero, List.set_cons_succ]
      go_wp2
      go_roundw
      case rel => exact ⟨k + 1, by simp, by omega, hW⟩
      case measure => simp [vnatZ]; omega
    · have hkk : k = l.length := by omega
      subst hkk
      have hki : ¬ ((l.length : Int) < (l.length : Int)) := by omega
      go_wp2
      go_ret
      exact ⟨rfl, hbw⟩
theorem secs_put {l x : List Nat} {s : Nat} (h : l.length = 256) (hx : x.length = 32) (hs : s < 8) : secs (putS l s x) s = x := by
  have e : (l.take (32 * s)).length = 32 * s := by rw [List.length_take, h]; omega
  rw [secs, putS, splice, List.drop_append_of_le_length (by omega), List.drop_of_length_le (Nat.le_of_eq e), List.nil_append, List.take_append_of_le_length (by omega), List.take_of_length_le (by omega)]
theorem secs_put_ne {l x : List Nat} {s t : Nat} (h : l.length = 256) (hx : x.length = 32) (hs : s < 8) (hn : t ≠ s) : secs (putS l s x) t = secs l t := by
  apply List.ext_getElem?
  intro i
  simp only [secs, putS, splice, List.getElem?_take, List.getElem?_drop, List.getElem?_append, List.length_take, h, hx]
  by_cases hi : i < 32
  · simp only [if_pos hi]
    by_cases h1 : t < s
    · rw [if_pos (by omega), if_pos (by omega)]
    · rw [if_neg (by omega), if_neg (by omega)]
      congr 1
      omega
  · rw [if_neg hi, if_neg hi]
def x5 : List Nat := (List.replicate 32 0).set 5 9
theorem d0_len : d0.l.length = 256 := List.length_replicate ..

theorem put_take (I Z : List Nat) (k : Nat) (hI : I.length = 256) (hk : k < 8) : putS (I.take (32 * k) ++ Z.drop (32 * k)) k (secs I k) = I.take (32 * (k + 1)) ++ Z.drop (32 * (k + 1)) := by
  have e1 : (I.take (32 * k)).length = 32 * k := by rw [List.length_take, hI]; omega
  have e2 := secs_len hI hk
  rw [putS, splice, List.take_append_of_le_length (by omega), List.take_of_length_le (by omega), e2, List.drop_append, List.drop_of_length_le (by omega), List.nil_append, e1, List.drop_drop, show 32 * k + (32 * k + 32 - 32 * k) = 32 * (k + 1) by omega, ← List.append_assoc, ← take_step]
  rfl
theorem secs_byt {l : List Nat} (h : Byt l) (k : Nat) : Byt (secs l k) := fun x hx => h x (List.mem_of_mem_drop (List.mem_of_mem_take hx))
/-- The disk of an image. -/
def dOf (I : List Nat) : Dst := { d0 with l := I }
set_option maxHeartbeats 2000000 in
set_option maxRecDepth 100000 in
theorem of_ok (b off : Nat) (cap : Nat) (I : List Nat) (w : World) (hb : b < w.heap.size) (hat : BAt w b off I) (hI : I.length = 256) (hB : Byt I) (hc : 256 ≤ cap) : Calls Tryz.prog 8 #[.slice (some ⟨b, off, none⟩) 256 cap] w fun e w' => e = .returned (.tuple #[.pointer (some ⟨w.heap.size, 0, none⟩), .int .i64 0]) ∧ Dk w' w.heap.size (dOf I) ∧ w.heap.size < w'.heap.size ∧ Below w.heap.size w w' := by
  have hne := dnew_any w
  have hmx : Tryz.prog.follows .mixedOrders = true := by kernel_rfl
  have hfi := fun (k : Nat) => filled_any (some ⟨b, off + 32 * k, none⟩) 32 (secs I k)
  go_enter Tryz.func8, Tryz.ntmps8
  go_wp2_with (go_at_call 17; (with_reducible refine hne.mono ?_); rintro e u1 ⟨rfl, h1, hlt, hb1⟩)
  go_loopw [10] (fun i wz => ∃ k : Nat, i = .int .i64 k ∧ k ≤ 8 ∧ Dk wz w.heap.size { d0 with l := I.take (32 * k) ++ d0.l.drop (32 * k) } ∧ Below w.heap.size w wz) (fun i _ => 8 - vnatZ i)
  case atStart => exact ⟨0, rfl, by omega, h1, hb1⟩
  case round =>
    obtain ⟨k, rfl, hk, hD, hBw⟩ := hrel
    by_cases hk8 : k < 8
    · have hki : (k : Int) < 8 := by omega
      have hpa := fun v => part_any b off cap k v hk8 hc
      have hsl := secs_len hI hk8
      go_wp2
      rename_i Q0 K0 hK
      refine wp_region_any hmx ?_
      refine wpAny_last 9 (fun i__ => ([(.pointer (some ⟨w.heap.size, 0, none⟩)), (.int .i64 (k : Int)), (.slice (some ⟨b, off, none⟩) 256 cap), (.int .i64 (k : Int)), (.slice (some ⟨b, off + 32 * k, none⟩) 32 32), (.agg (cB (secs I k)).toArray), (.pointer (some ⟨w.heap.size, 0, none⟩)), (.pointer (some ⟨w.heap.size, 0, none⟩)), (.pointer (some ⟨w.heap.size, 32 * k, none⟩)), undef] : List Value).getD i__ undef) (fun V => Dk V w.heap.size { d0 with l := I.take (32 * k) ++ d0.l.drop (32 * k) } ∧ Below w.heap.size w V) (fun V => Dk V w.heap.size { d0 with l := I.take (32 * (k + 1)) ++ d0.l.drop (32 * (k + 1)) } ∧ Below w.heap.size w V) rfl (by kernel_rfl) (by kernel_rfl) ⟨hD.carry (Below.refl _ _).drew, hBw.drew⟩ ?_ ?_  ?_
      · refine (stepsFrom_cons ?_ (stepsFrom_cons ?_ (stepsFrom_cons ?_ (stepsFrom_cons ?_ (stepsFrom_cons ?_ (stepsFrom_cons ?_ (stepsFrom_cons ?_ (stepsFrom_cons ?_ (stepsFrom_cons ?_ trivial)))))))))
        · exact step_move rfl trivial _ rfl (by kernel_rfl)
        · exact step_move rfl trivial _ rfl (by kernel_rfl)
        · exact step_move rfl trivial _ rfl (by kernel_rfl)
        · exact step_move rfl trivial _ rfl (by kernel_rfl)
        · exact step_call rfl trivial 23 _ _ [(.slice (some ⟨b, off, none⟩) 256 cap), (.int .i64 (k : Int))] rfl (by kernel_rfl) (enters_of Tryz.func23 (by kernel_rfl) rfl) (fun v hw => (hpa v).mono (by rintro e w' ⟨rfl, rfl⟩; exact ⟨rfl, hw⟩))
        · exact step_call rfl trivial 22 _ _ [(.slice (some ⟨b, off + 32 * k, none⟩) 32 32)] rfl (by kernel_rfl) (enters_of Tryz.func22 (by kernel_rfl) rfl) (fun v hw => (hfi k v (fun _ => ⟨b, off + 32 * k, rfl, Nat.lt_of_lt_of_le hb hw.2.size, (hat.carry (hw.2.block b hb)).sub (32 * k) 32⟩) hsl).mono (by rintro e w' ⟨rfl, hb'⟩; exact ⟨rfl, hw.1.carry hb', bel2Z hw.2 hb'⟩))
        · exact step_nilCheck rfl trivial _ _ _ rfl rfl rfl
        · exact step_fieldAddr rfl trivial _ _ _ _ rfl rfl (fun v hw => field_d0 v _)
        · exact step_indexAddr rfl trivial _ _ _ _ _ rfl rfl rfl (fun v hw => idx_sZ w.heap.size k hk8 v)
      · intro o ho
        cases ho
        exact step_store rfl trivial rfl _ _ _ _ _ rfl rfl rfl (fun v hw => by obtain ⟨v', a1, a2, a3⟩ := hw.1.put k (secs I k) hsl (secs_byt hB k) hk8; refine ⟨v', a1, ?_, hw.2.trans (a3.below (Nat.le_refl _) hw.2.size)⟩; dsimp only at a2; rw [put_take I d0.l k hI hk8] at a2; exact a2)
      intro W hW
      first | refine hK _ _ ?_ | refine (‹∀ (a : Act) (w : World), Code.wp Tryz.prog _ _ a w → _›) _ _ ?_ | skip
      simp only [finL, List.getD_cons_zero, List.getD_cons_succ, Nat.zero_add, Nat.reduceAdd, List.setIfInBounds_toArray, List.set_cons_zero, List.set_cons_succ]
      obtain ⟨hD2, hB2⟩ := hW
      clear hK
      go_wp2
      go_roundw
      case rel => exact ⟨k + 1, by simp, by omega, hD2, hB2⟩
      case measure => simp [vnatZ]; omega
    · have hk : k = 8 := by omega
      subst hk
      rw [show 32 * 8 = 256 from rfl, List.take_of_length_le (Nat.le_of_eq hI), List.drop_of_length_le (Nat.le_of_eq d0_len), List.append_nil] at hD
      go_wp2
      go_ret2
      exact ⟨rfl, hD, hD.lt, hBw⟩

theorem Byt.take {l : List Nat} (h : Byt l) (k : Nat) : Byt (l.take k) := fun x hx => h x (List.mem_of_mem_take hx)
theorem Byt.drop {l : List Nat} (h : Byt l) (k : Nat) : Byt (l.drop k) := fun x hx => h x (List.mem_of_mem_drop hx)
theorem Byt.append {a b : List Nat} (h : Byt a) (k : Byt b) : Byt (a ++ b) := by
  intro x hx
  rcases List.mem_append.1 hx with q | q
  · exact h x q
  · exact k x q
theorem byt_cons {x : Nat} {l : List Nat} (h : x < 256) (k : Byt l) : Byt (x :: l) := by
  intro y hy
  rcases List.mem_cons.1 hy with rfl | q
  · exact h
  · exact k y q
theorem Byt.head {x : Nat} {l : List Nat} (h : Byt (x :: l)) : x < 256 := h x (List.mem_cons_self ..)
theorem Byt.tail {x : Nat} {l : List Nat} (h : Byt (x :: l)) : Byt l := fun y hy => h y (List.mem_cons_of_mem _ hy)
/-- A number in so many bytes, the highest first. -/
def numB (v : Nat) : Nat → List Nat
  | 0 => []
  | m + 1 => (v / 2 ^ (8 * m) % 256) :: numB v m
theorem numB_len (v : Nat) : ∀ m, (numB v m).length = m
  | 0 => rfl
  | m + 1 => by rw [numB, List.length_cons, numB_len v m]
theorem numB_byt (v : Nat) : ∀ m, Byt (numB v m)
  | 0 => byt_nil
  | m + 1 => byt_cons (Nat.mod_lt _ (by decide)) (numB_byt v m)
/-- What number bytes are, behind another one. -/
def valB : Nat → List Nat → Nat
  | v, [] => v
  | v, x :: l => valB (v * 256 + x) l
theorem valB_drop (l : List Nat) (k v x : Nat) (h : l[k]? = some x) : valB v (l.drop k) = valB (v * 256 + x) (l.drop (k + 1)) := by
  obtain ⟨hk, rfl⟩ := List.getElem?_eq_some_iff.1 h
  rw [List.drop_eq_getElem_cons hk]
  rfl
theorem valB_num (u : Nat) : ∀ (m v : Nat), valB v (numB u m) = v * 2 ^ (8 * m) + u % 2 ^ (8 * m)
  | 0, v => by rw [numB, valB, Nat.mul_zero, Nat.pow_zero, Nat.mod_one]; omega
  | m + 1, v => by
    rw [numB, valB, valB_num u m]
    have h1 : 2 ^ (8 * (m + 1)) = 256 * 2 ^ (8 * m) := by rw [Nat.mul_add, Nat.pow_add, Nat.mul_comm]
    have h2 : u % (2 ^ (8 * m) * 256) = u % 2 ^ (8 * m) + 2 ^ (8 * m) * (u / 2 ^ (8 * m) % 256) := Nat.mod_mul
    rw [h1, Nat.mul_comm 256, h2, Nat.add_mul, Nat.mul_assoc v 256, Nat.mul_comm 256 (2 ^ (8 * m)), Nat.mul_comm (u / 2 ^ (8 * m) % 256)]
    omega
theorem val_num {u m : Nat} (h : u < 2 ^ (8 * m)) : valB 0 (numB u m) = u := by rw [valB_num, Nat.zero_mul, Nat.zero_add, Nat.mod_eq_of_lt h]
theorem valB_acc : ∀ (l : List Nat) (v : Nat), valB v l = v * 2 ^ (8 * l.length) + valB 0 l
  | [], v => by simp [valB]
  | x :: l, v => by
    have h1 : 2 ^ (8 * (l.length + 1)) = 256 * 2 ^ (8 * l.length) := by rw [Nat.mul_add, Nat.pow_add, Nat.mul_comm]
    rw [valB, valB, valB_acc l (v * 256 + x), valB_acc l (0 * 256 + x), List.length_cons, h1, Nat.add_mul, Nat.zero_mul, Nat.zero_add, Nat.mul_assoc]
    omega
theorem valB_lt : ∀ (l : List Nat), Byt l → valB 0 l < 2 ^ (8 * l.length)
  | [], _ => by simp [valB]
  | x :: l, h => by
    have ih := valB_lt l h.tail
    have hx := h.head
    have h1 : 2 ^ (8 * (l.length + 1)) = 256 * 2 ^ (8 * l.length) := by rw [Nat.mul_add, Nat.pow_add, Nat.mul_comm]
    rw [valB, valB_acc, List.length_cons, h1, Nat.zero_mul, Nat.zero_add]
    have := Nat.mul_le_mul_right (2 ^ (8 * l.length)) (show x ≤ 255 by omega)
    omega
/-- A record. -/
structure Rec where
  li : Int
  ro : Int
  ta : Int
deriving DecidableEq
def May (r : Rec) : Prop := (1 ≤ r.li ∧ r.li ≤ 1073741824) ∧ (0 ≤ r.ro ∧ r.ro ≤ 1099511627775) ∧ 0 ≤ r.ta ∧ r.ta ≤ 1048576
def Fit (r : Rec) (s : Int) : Prop := May r ∧ 1 ≤ s ∧ s ≤ 1099511627776
instance (r : Rec) : Decidable (May r) := by unfold May; infer_instance
instance (r : Rec) (s : Int) : Decidable (Fit r s) := by unfold Fit; infer_instance
/-- A slot's bytes. -/
def slN (a b c s : Nat) : List Nat := numB 1700885041 4 ++ (numB s 8 ++ (numB a 4 ++ (numB b 5 ++ (List.replicate 11 0 ++ (numB 1700885042 4 ++ (numB s 8 ++ (numB c 3 ++ List.replicate 17 0)))))))
def slB (r : Rec) (s : Int) : List Nat := slN r.li.toNat r.ro.toNat r.ta.toNat s.toNat
theorem slN_len (a b c s : Nat) : (slN a b c s).length = 64 := by simp [slN, numB_len]
theorem slN_byt (a b c s : Nat) : Byt (slN a b c s) := by
  unfold slN
  exact (numB_byt _ _).append ((numB_byt _ _).append ((numB_byt _ _).append ((numB_byt _ _).append ((byt_zero 11).append ((numB_byt _ _).append ((numB_byt _ _).append ((numB_byt _ _).append (byt_zero 17))))))))
theorem slB_len (r : Rec) (s : Int) : (slB r s).length = 64 := slN_len _ _ _ _
theorem slB_byt (r : Rec) (s : Int) : Byt (slB r s) := slN_byt _ _ _ _
theorem slN_s (a b c s : Nat) : ((slN a b c s).drop 4).take 8 = numB s 8 := rfl
theorem slN_a (a b c s : Nat) : ((slN a b c s).drop 12).take 4 = numB a 4 := rfl
theorem slN_b (a b c s : Nat) : ((slN a b c s).drop 16).take 5 = numB b 5 := rfl
theorem slN_c (a b c s : Nat) : ((slN a b c s).drop 44).take 3 = numB c 3 := rfl
/-- What stands in a slot's bytes. -/
def rdR (l : List Nat) : Rec := ⟨(valB 0 ((l.drop 12).take 4) : Nat), (valB 0 ((l.drop 16).take 5) : Nat), (valB 0 ((l.drop 44).take 3) : Nat)⟩
def rdS (l : List Nat) : Int := IntKind.i64.wrap ((valB 0 ((l.drop 4).take 8) : Nat) : Int)
/-- What a slot's bytes say. -/
def say (l : List Nat) : Option (Rec × Int) := if Fit (rdR l) (rdS l) ∧ slB (rdR l) (rdS l) = l then some (rdR l, rdS l) else none
theorem rd_sl {r : Rec} {s : Int} (h : Fit r s) : rdR (slB r s) = r ∧ rdS (slB r s) = s := by
  obtain ⟨⟨⟨h1, h2⟩, ⟨h3, h4⟩, h5, h6⟩, h7, h8⟩ := h
  obtain ⟨a, b, c⟩ := r
  dsimp only at h1 h2 h3 h4 h5 h6
  have e1 : valB 0 (numB a.toNat 4) = a.toNat := val_num (by show a.toNat < 4294967296; omega)
  have e2 : valB 0 (numB b.toNat 5) = b.toNat := val_num (by show b.toNat < 1099511627776; omega)
  have e3 : valB 0 (numB c.toNat 3) = c.toNat := val_num (by show c.toNat < 16777216; omega)
  have e4 : valB 0 (numB s.toNat 8) = s.toNat := val_num (by show s.toNat < 18446744073709551616; omega)
  constructor
  · unfold rdR slB
    rw [slN_a, slN_b, slN_c]
    dsimp only
    rw [e1, e2, e3, Int.toNat_of_nonneg (by omega), Int.toNat_of_nonneg (by omega), Int.toNat_of_nonneg (by omega)]
  · unfold rdS slB
    rw [slN_s, e4, Int.toNat_of_nonneg (by omega)]
    exact i64_idZ _ (by omega) (by omega)
theorem say_sl {r : Rec} {s : Int} (h : Fit r s) : say (slB r s) = some (r, s) := by
  obtain ⟨e1, e2⟩ := rd_sl h
  unfold say
  rw [e1, e2, if_pos ⟨h, rfl⟩]
theorem say_some {l : List Nat} {r : Rec} {s : Int} (h : say l = some (r, s)) : Fit r s ∧ slB r s = l := by
  unfold say at h
  split at h
  · cases h
    assumption
  · cases h
/-- Both halves have the seq. -/
theorem say_seq {l : List Nat} {r : Rec} {s : Int} (h : say l = some (r, s)) : ((l.drop 4).take 8 = numB s.toNat 8) ∧ (l.drop 36).take 8 = numB s.toNat 8 := by
  obtain ⟨_, rfl⟩ := say_some h
  exact ⟨rfl, rfl⟩
theorem splice_step {L x : List Nat} {off k y : Nat} (hk : x[k]? = some y) (hL : off + x.length ≤ L.length) : (splice L off (x.take k)).set (off + k) y = splice L off (x.take (k + 1)) := by
  obtain ⟨hlt, rfl⟩ := List.getElem?_eq_some_iff.1 hk
  have e1 : (x.take k).length = k := by rw [List.length_take]; omega
  have e2 : (x.take (k + 1)).length = k + 1 := by rw [List.length_take]; omega
  have e3 : (L.take off).length = off := by rw [List.length_take]; omega
  have e4 : x.take (k + 1) = x.take k ++ [x[k]] := (List.take_append_getElem hlt).symm
  have e5 : L.drop (off + k) = L[off + k] :: L.drop (off + k + 1) := List.drop_eq_getElem_cons (by omega)
  unfold splice
  rw [e1, e2, List.set_append_right _ _ (by omega), e3, Nat.add_sub_cancel_left, List.set_append_right _ _ (by omega), e1, Nat.sub_self, e5, List.set_cons_zero, e4, ← Nat.add_assoc, List.append_assoc (x.take k)]
  rfl
theorem splice_nil (L : List Nat) (off : Nat) : splice L off [] = L := by simp [splice]
theorem numB_get (v : Nat) : ∀ (m k : Nat), k < m → (numB v m)[k]? = some (v / 2 ^ (8 * (m - 1 - k)) % 256)
  | 0, k, h => by omega
  | m + 1, 0, _ => by simp [numB]
  | m + 1, k + 1, h => by
    rw [numB, List.getElem?_cons_succ, numB_get v m k (by omega), show m + 1 - 1 - (k + 1) = m - 1 - k by omega]

theorem get_lt {l : List Nat} {k : Nat} (h : k < l.length) : ∃ x, l[k]? = some x := ⟨_, List.getElem?_eq_getElem h⟩
theorem byt_get8 {l : List Nat} {k x : Nat} (h : Byt l) (hk : l[k]? = some x) : x < 256 := h x (List.mem_of_getElem? hk)
theorem or256 (v x : Nat) (h : x < 256) : (v * 256 ||| x) = v * 256 + x := by
  have := Nat.two_pow_add_eq_or_of_lt (i := 8) h v
  rw [Nat.mul_comm v 256]
  exact this.symm
theorem i64_or8 (a x : Nat) (ha : a < 72057594037927936) (hx : x < 256) : bits .or .i64 (IntKind.i64.wrap ((a : Int) * 256)) (x : Int) = IntKind.i64.wrap ((a * 256 + x : Nat) : Int) := by
  have e1 : (BitVec.ofInt 64 (IntKind.i64.wrap ((a : Int) * 256))).toNat = a * 256 := by
    rw [BitVec.toNat_ofInt, IntKind.wrap_i64]
    omega
  have e2 : (BitVec.ofInt 64 (x : Int)).toNat = x := by
    rw [BitVec.toNat_ofInt]
    omega
  show IntKind.i64.wrap ((BitVec.ofInt 64 (IntKind.i64.wrap ((a : Int) * 256)) ||| BitVec.ofInt 64 (x : Int)).toNat : Int) = _
  rw [BitVec.toNat_or, e1, e2, or256 a x hx]
theorem byte_of (v k : Nat) : ((v : Int) / 2 ^ k) % 256 = ((v / 2 ^ k % 256 : Nat) : Int) := by
  have : ((2 : Int) ^ k) = ((2 ^ k : Nat) : Int) := by simp
  rw [this]
  simp
theorem within_anyZ (v lo hi : Int) (w : World) : Calls Tryz.prog 270 #[.int .i64 v, .int .i64 lo, .int .i64 hi] w fun e w' => e = .returned (.bool (decide (lo ≤ v ∧ v ≤ hi))) ∧ w' = w := by
  by_cases h1 : lo ≤ v
  · by_cases h2 : v ≤ hi
    · rw [decide_eq_true (show lo ≤ v ∧ v ≤ hi from ⟨h1, h2⟩)]
      go_enter Tryz.func270, Tryz.ntmps270
      go_wp2
      go_ret
      exact ⟨rfl, rfl⟩
    · rw [decide_eq_false (show ¬ (lo ≤ v ∧ v ≤ hi) from fun q => h2 q.2)]
      go_enter Tryz.func270, Tryz.ntmps270
      go_wp2
      go_ret
      exact ⟨rfl, rfl⟩
  · rw [decide_eq_false (show ¬ (lo ≤ v ∧ v ≤ hi) from fun q => h1 q.1)]
    go_enter Tryz.func270, Tryz.ntmps270
    go_wp2
    go_ret
    exact ⟨rfl, rfl⟩
/-- A record, an entry as values. -/
def rV (r : Rec) : Value := .agg #[.int .i64 r.li, .int .i64 r.ro, .int .i64 r.ta]
def eV (r : Rec) (s : Int) : Value := .agg #[.int .i64 r.li, .int .i64 r.ro, .int .i64 r.ta, .int .i64 s]
set_option maxHeartbeats 2000000 in
theorem mayBe_any (r : Rec) (w : World) : Calls Tryz.prog 228 #[rV r] w fun e w' => e = .returned (.bool (decide (May r))) ∧ Below w.heap.size w w' := by
  have hw := within_anyZ
  obtain ⟨a, b, c⟩ := r
  have e : decide (May ⟨a, b, c⟩) = (decide (1 ≤ a ∧ a ≤ 1073741824) && (decide (0 ≤ b ∧ b ≤ 1099511627775) && decide (0 ≤ c ∧ c ≤ 1048576))) := by
    rw [Bool.eq_iff_iff, decide_eq_true_iff]
    simp only [May, decide_eq_true_eq, Bool.and_eq_true]
  rw [e]
  unfold rV
  have hw1 := fun v => hw a 1 1073741824 v
  have hw2 := fun v => hw b 0 1099511627775 v
  have hw3 := fun v => hw c 0 1048576 v
  clear hw e
  generalize decide (1 ≤ a ∧ a ≤ 1073741824) = A at *
  generalize decide (0 ≤ b ∧ b ≤ 1099511627775) = B at *
  generalize decide (0 ≤ c ∧ c ≤ 1048576) = C at *
  cases A <;> cases B <;> cases C
  all_goals
    go_enter Tryz.func228, Tryz.ntmps228
    go_wp2_with (first | (go_at_call 270; (with_reducible refine (hw1 _).mono ?_); rintro e u1 ⟨rfl, hu⟩; obtain rfl := hu.symm) | (go_at_call 270; (with_reducible refine (hw2 _).mono ?_); rintro e u1 ⟨rfl, hu⟩; obtain rfl := hu.symm) | (go_at_call 270; (with_reducible refine (hw3 _).mono ?_); rintro e u1 ⟨rfl, hu⟩; obtain rfl := hu.symm))
    go_ret
    exact ⟨rfl, al1'Z _ _⟩
set_option maxHeartbeats 2000000 in
theorem fits_any (r : Rec) (s : Int) (w : World) : Calls Tryz.prog 269 #[eV r s] w fun e w' => e = .returned (.bool (decide (Fit r s))) ∧ Below w.heap.size w w' := by
  have hw := mayBe_any r
  have hv := fun v => within_anyZ s 1 1099511627776 v
  have e : decide (Fit r s) = (decide (May r) && decide (1 ≤ s ∧ s ≤ 1099511627776)) := by
    rw [Bool.eq_iff_iff, decide_eq_true_iff]
    simp only [Fit, decide_eq_true_eq, Bool.and_eq_true]
  rw [e]
  obtain ⟨a, b, c⟩ := r
  unfold rV at hw
  unfold eV
  generalize decide (May ⟨a, b, c⟩) = A at *
  generalize decide (1 ≤ s ∧ s ≤ 1099511627776) = B at *
  clear e
  cases A <;> cases B
  all_goals
    go_enter Tryz.func269, Tryz.ntmps269
    go_wp2_with (first | (go_at_call 228; (with_reducible refine (hw _).mono ?_); rintro e u1 ⟨rfl, hu⟩; have c3 : u1.cell? ⟨w.heap.size, 3, none⟩ = some (.int .i64 s) := (by rw [cell_at ((hu.block _ (by simp)).trans (new_at rfl))]; rfl)) | (go_at_call 270; (with_reducible refine (hv _).mono ?_); rintro e u2 ⟨rfl, hu2⟩; obtain rfl := hu2.symm))
    go_ret
    exact ⟨rfl, bel2Z (al1'Z _ _) hu⟩
set_option maxHeartbeats 2000000 in
set_option maxRecDepth 100000 in
theorem number_any (ad : Option Addr) (cap : Nat) (l : List Nat) (w : World) (h : RdB w ad l) (hb : Byt l) (hl : l.length ≤ 8) : Calls Tryz.prog 268 #[.slice ad l.length cap] w fun e w' => e = .returned (.int .i64 (IntKind.i64.wrap ((valB 0 l : Nat) : Int))) ∧ w' = w := by
  obtain ⟨R, hR⟩ : ∃ R, valB 0 l = R := ⟨_, rfl⟩
  rw [hR]
  have HR : Hid (valB 0 (l.drop 0) = R) := hR
  clear hR
  go_enter Tryz.func268, Tryz.ntmps268
  go_wp2
  go_loopw [3, 8] (fun p i wz => ∃ (k a : Nat) (b : Int), p = .int .i64 b ∧ b = IntKind.i64.wrap (a : Int) ∧ i = .int .i64 k ∧ k ≤ l.length ∧ a < 2 ^ (8 * k) ∧ Hid (valB a (l.drop k) = R) ∧ wz = w) (fun _ i _ => l.length - vnatZ i)
  case atStart => exact ⟨0, 0, 0, rfl, rfl, rfl, Nat.zero_le _, by decide, HR, rfl⟩
  case round =>
    obtain ⟨k, a, b, rfl, hba, rfl, hk, ha, HK, rfl⟩ := hrel
    by_cases hkl : k < l.length
    · obtain ⟨g, off, e1, hbl, hat⟩ := h (fun e => by subst e; simp at hkl)
      subst e1
      obtain ⟨x, hx⟩ := get_lt hkl
      have c0 := hat k _ hx
      have hx8 := byt_get8 hb hx
      have HS := valB_drop l k a x hx
      rw [HK.out] at HS
      have HS2 : Hid (R = valB (a * 256 + x) (l.drop (k + 1))) := HS
      clear HS HK HR
      have hki : (k : Int) < (l.length : Int) := by omega
      have h6 : 2 ^ (8 * k) ≤ 2 ^ (8 * 7) := Nat.pow_le_pow_right (by decide) (by omega)
      have ha6 : a < 72057594037927936 := Nat.lt_of_lt_of_le ha h6
      have hor := i64_or8 a x ha6 hx8
      rw [IntWalk.i64_left ((a : Int) * 256)] at hor
      have hba2 : b = (a : Int) := by rw [hba]; exact i64_idZ _ (by omega) (by omega)
      clear hba
      subst hba2
      have hnew : Hid (a * 256 + x < 2 ^ (8 * (k + 1))) := by
        show a * 256 + x < 2 ^ (8 * (k + 1))
        rw [Nat.mul_add, Nat.pow_add]
        generalize 2 ^ (8 * k) = z at *
        omega
      clear h6 ha
      go_wp2
      go_roundw
      case rel => exact ⟨k + 1, a * 256 + x, _, rfl, by rw [IntWalk.i64_left, Int.natCast_add, Int.natCast_mul]; rfl, by simp, by omega, hnew.out, HS2.out.symm, trivial⟩
      case measure => simp [vnatZ]; omega
    · have hkk : k = l.length := by omega
      subst hkk
      have hki : ¬ ((l.length : Int) < (l.length : Int)) := by omega
      have HE : Hid (R = a) := by have := HK.out; rw [List.drop_length] at this; exact this.symm
      clear HK HR h hb ha
      have HB : Hid (b = IntKind.i64.wrap (a : Int)) := hba
      clear hba
      go_wp2
      go_ret
      exact ⟨by rw [HE.out, HB.out]; rfl, rfl⟩
set_option maxHeartbeats 2000000 in
set_option maxRecDepth 100000 in
theorem lay_any (w : World) (g off n cap v : Nat) (ty : TypeId) (L : List Nat) (hg : w.heap[g]? = some (.cells (cB L).toArray ty (0, 0))) (ho : off + n ≤ L.length) (hn : n ≤ 8) : Calls Tryz.prog 272 #[.slice (some ⟨g, off, none⟩) n cap, .int .i64 (v : Int)] w fun e w' => e = .returned (.tuple #[]) ∧ w'.heap[g]? = some (.cells (cB (splice L off (numB v n))).toArray ty (0, 0)) ∧ TpZ g w w' := by
  go_enter Tryz.func272, Tryz.ntmps272
  go_wp2
  go_loopw [7] (fun i wz => ∃ (k : Nat) (C : List Nat), i = .int .i64 k ∧ k ≤ n ∧ Hid (C = splice L off ((numB v n).take k)) ∧ C.length = L.length ∧ wz.heap[g]? = some (.cells (cB C).toArray ty (0, 0)) ∧ TpZ g w wz) (fun i _ => n - vnatZ i)
  case atStart => exact ⟨0, L, rfl, Nat.zero_le _, by show L = _; rw [List.take_zero, splice_nil], rfl, hg, TpZ.of _ (Below.refl _ _)⟩
  case round =>
    obtain ⟨k, C, rfl, hk, HC, hCl, hgz, ht⟩ := hrel
    by_cases hkl : k < n
    · have hki : (k : Int) < (n : Int) := by omega
      obtain ⟨j, hj⟩ : ∃ j, n - 1 - k = j := ⟨_, rfl⟩
      have hget := numB_get v n k hkl
      rw [hj] at hget
      have HN : Hid (C.set (off + k) (v / 2 ^ (8 * j) % 256) = splice L off ((numB v n).take (k + 1))) := by
        show C.set (off + k) (v / 2 ^ (8 * j) % 256) = splice L off ((numB v n).take (k + 1))
        rw [HC.out]
        exact splice_step hget (by rw [numB_len]; exact ho)
      have h8 : (8 : Int) * ((n : Int) - 1 - (k : Int)) = ((8 * j : Nat) : Int) := by omega
      have hby := byte_of v (8 * j)
      obtain ⟨D, hD⟩ : ∃ D : Nat, D = v / 2 ^ (8 * j) % 256 := ⟨_, rfl⟩
      rw [← hD] at hby HN hget
      clear hD HC
      have hlt : off + k < C.length := by omega
      obtain ⟨x, hx⟩ := get_lt hlt
      have c0 : wr.cell? ⟨g, off + k, none⟩ = some (.int .u8 (x : Int)) := by rw [cell_at hgz, List.getElem?_toArray]; exact cB_get hx
      have z0 := thaw_at hgz (off + k)
      clear hget
      go_wp2
      go_roundw
      case rel =>
        refine ⟨k + 1, C.set (off + k) D, by simp, by omega, HN, by simp [hCl], ?_, ht.trans (TpZ.set _ _ _ _)⟩
        rw [heap_setCell_same _ _ _ _ _ _ hgz, List.setIfInBounds_toArray]
        simp [cB, List.map_set]
      case measure => simp [vnatZ]; omega
    · have hkk : k = n := by omega
      subst hkk
      have hki : ¬ ((k : Int) < (k : Int)) := by omega
      have HE : Hid (C = splice L off (numB v k)) := by have := HC.out; rw [List.take_of_length_le (by rw [numB_len]; omega)] at this; exact this
      clear HC
      go_wp2
      go_end0
      exact ⟨rfl, by rw [← HE.out]; exact hgz, ht⟩
end Go.Proofs.YtklnfbanfgdgcaaGreatDoor
