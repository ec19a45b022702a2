import Derived.Test.YtmahamdmapbilaaGreatDoorJwJ27
import Derived.Test.YtmahamdmapbilaaGreatDoorJwJ3
import Derived.Test.YtmahamdmapbilaaGreatDoorJwJ4
set_option maxHeartbeats 40000000
set_option maxRecDepth 100000
set_option linter.unusedVariables false
namespace Go.Proofs.YtmahamdmapbilaaGreatDoor
open Go.RowKit Go.Shelf
theorem below_drewN {n : Nat} {w a : World} (h : Below n w a) (k : Nat) : Below n w (a.drewN k) := h.trans ⟨rfl, rfl, rfl, Nat.le_refl _, fun _ _ => rfl⟩
theorem refCount_any (s : ByteArray) (hs : s.size ≤ 1048576) (w : World) :
  Calls Tryz.prog 111 #[.string s] w fun e w' => e = .returned (.int .i64 (starts s).length) ∧ Below w.heap.size w w' := by
 have hlen := starts_length s
 go_enter Tryz.func111, Tryz.ntmps111
 go_wp2
 go_loopw [3, 4] (fun c i wr => ∃ (pos fuel : Nat) (pre : List Nat), starts s = pre ++ startsFrom s fuel pos ∧ s.size ≤ pos + fuel ∧ c = .int .i64 pre.length ∧ i = .int .i64 pos ∧ Below w.heap.size w wr) (fun _ i _ => s.size - vnatD i)
 case atStart => exact ⟨0, s.size, [], rfl, by omega, rfl, rfl, Below.refl _ w⟩
 case round =>
  obtain ⟨pos, fuel, pre, hst, hfu, rfl, rfl, hb⟩ := hrel
  by_cases hp : pos < s.size
  · obtain ⟨f, rfl⟩ : ∃ f, fuel = f + 1 := ⟨fuel - 1, by omega⟩
    rw [startsFrom_step s f pos hp] at hst
    have hll : pre.length + 1 ≤ s.size := by rw [hst] at hlen; simp at hlen; omega
    have hw1 := wdt_le s pos hp
    have hw0 := wdt_pos s pos
    have hpi : (pos : Int) < (s.size : Int) := by omega
    have HS : Hid (starts s = pre ++ pos :: startsFrom s f (pos + wdt s pos)) := hst
    clear hst
    go_wp2_with fail
    refine (at_any s (by omega) pos hp _).mono ?_
    rintro e w1 ⟨rfl, nq, rfl⟩
    have hb1 := below_drewN hb nq
    go_wp2
    go_roundw
    case rel => exact ⟨pos + wdt s pos, f, pre ++ [pos], by rw [HS.out]; simp, by omega, by simp, by push_cast; rfl, hb1⟩
    case measure =>
     simp [vnatD]
     omega
  · rw [startsFrom_end s fuel pos hp, List.append_nil] at hst
    subst hst
    go_wp2
    go_ret
    exact ⟨rfl, hb⟩
def plc (s : ByteArray) : Nat → Nat × Nat
 | 0 => (1, 0)
 | k + 1 => if byt s k = 10 then ((plc s k).1 + 1, k + 1) else plc s k
theorem plc_le (s : ByteArray) : ∀ k, (plc s k).1 ≤ k + 1 ∧ (plc s k).2 ≤ k
 | 0 => ⟨Nat.le_refl _, Nat.le_refl _⟩
 | k + 1 => by
  have ih := plc_le s k
  rw [plc]
  split
  · exact ⟨by dsimp only; omega, Nat.le_refl _⟩
  · omega
theorem place_any (s : ByteArray) (hs : s.size ≤ 65536) (p : Nat) (hp : p ≤ s.size) (w : World) : Calls Tryz.prog 113 #[.string s, .int .i64 (p : Int)] w fun e w' => e = .returned (.tuple #[.int .i64 (plc s p).1, .int .i64 (((starts (s.extract (plc s p).2 p)).length : Int) + 1)]) ∧ Below w.heap.size w w' := by
 have hct := refCount_any (s.extract (plc s p).2 p) (by simp; omega)
 have hln := starts_length (s.extract (plc s p).2 p)
 have hex : (s.extract (plc s p).2 p).size ≤ 65536 := by simp; omega
 generalize (starts (s.extract (plc s p).2 p)).length = C at *
 go_enter Tryz.func113, Tryz.ntmps113
 go_wp2
 go_loopw [6, 7, 8] (fun c f i wr => ∃ k : Nat, i = .int .i64 (k : Int) ∧ k ≤ p ∧ c = .int .i64 ((plc s k).1 : Int) ∧ f = .int .i64 ((plc s k).2 : Int) ∧ wr = w) (fun _ _ i _ => p - vnatD i)
 case atStart => exact ⟨0, rfl, Nat.zero_le _, rfl, rfl, rfl⟩
 case round =>
  obtain ⟨k, rfl, hk, rfl, rfl, rfl⟩ := hrel
  have hpl := plc_le s k
  by_cases hkl : k < p
  · have hlt : k < s.size := by omega
    have hki : (k : Int) < (p : Int) := by omega
    have hks : (k : Int) < (s.size : Int) := by omega
    have hby := byt_get hlt
    have hst : plc s (k + 1) = if byt s k = 10 then ((plc s k).1 + 1, k + 1) else plc s k := rfl
    by_cases hn : byt s k = 10
    · rw [if_pos hn] at hst
      have hn' : (s[k]'hlt).toNat = 10 := by omega
      have H1 : Hid ((plc s (k + 1)).1 = (plc s k).1 + 1) := by show (plc s (k + 1)).1 = _; rw [hst]
      have H2 : Hid ((plc s (k + 1)).2 = k + 1) := by show (plc s (k + 1)).2 = _; rw [hst]
      clear hst hby hn
      go_wp2
      go_roundw
      case rel => exact ⟨k + 1, by push_cast; rfl, by omega, by rw [H1.out]; push_cast; rfl, by rw [H2.out]; push_cast; rfl, trivial⟩
      case measure => simp [vnatD]; omega
    · rw [if_neg hn] at hst
      have hn' : (((s[k]'hlt).toNat : Int) == 10) = false := beq_eq_false_iff_ne.2 (by omega)
      have H1 : Hid (plc s (k + 1) = plc s k) := hst
      clear hst hby hn
      go_wp2
      go_roundw
      case rel => exact ⟨k + 1, by push_cast; rfl, by omega, by rw [H1.out], by rw [H1.out], trivial⟩
      case measure => simp [vnatD]; omega
  · obtain rfl : k = p := by omega
    have q1 : (0 : Int) ≤ ((plc s k).2 : Int) := by omega
    have q2 : ((plc s k).2 : Int) ≤ (k : Int) := by omega
    have q3 : (k : Int) ≤ (s.size : Int) := by omega
    generalize hE : s.extract (plc s k).2 k = E at *
    go_wp2_with (go_at_call 111; (with_reducible refine (hct _).mono ?_); rintro e u1 ⟨rfl, hb1⟩)
    go_ret2
    exact ⟨rfl, hb1⟩
theorem one_newQ (W : World) (a : Value) (t : TypeId) : ∀ j u, [a][j]? = some u → (W.alloc (.cells #[a] t)).cell? ((⟨W.heap.size, 0, none⟩ : Addr).add j) = some u := by
 intro j u h
 have hg : (W.alloc (.cells #[a] t)).heap[W.heap.size]? = some (.cells #[a] t) := get_new rfl
 have ha : (⟨W.heap.size, 0, none⟩ : Addr).add j = ⟨W.heap.size, j, none⟩ := by unfold Addr.add; split <;> simp_all
 rw [ha, cell_of hg j, ← h]
 simp
theorem two_new (W : World) (a b : Value) (t : TypeId) : ∀ j u, [a, b][j]? = some u → (W.alloc (.cells #[a, b] t)).cell? ((⟨W.heap.size, 0, none⟩ : Addr).add j) = some u := by
 intro j u h
 have hg : (W.alloc (.cells #[a, b] t)).heap[W.heap.size]? = some (.cells #[a, b] t) := get_new rfl
 have ha : (⟨W.heap.size, 0, none⟩ : Addr).add j = ⟨W.heap.size, j, none⟩ := by unfold Addr.add; split <;> simp_all
 rw [ha, cell_of hg j, ← h]
 simp
theorem three_new (W : World) (a b c : Value) (t : TypeId) : ∀ j u, [a, b, c][j]? = some u → (W.alloc (.cells #[a, b, c] t)).cell? ((⟨W.heap.size, 0, none⟩ : Addr).add j) = some u := by
 intro j u h
 have hg : (W.alloc (.cells #[a, b, c] t)).heap[W.heap.size]? = some (.cells #[a, b, c] t) := get_new rfl
 have ha : (⟨W.heap.size, 0, none⟩ : Addr).add j = ⟨W.heap.size, j, none⟩ := by unfold Addr.add; split <;> simp_all
 rw [ha, cell_of hg j, ← h]
 simp
theorem one_row (W : World) (v : Int) (n : Nat) (h : v = n) (hn : n < 256) : (W.alloc (.cells #[.int .u8 v] 5)).ownsRow W.heap.size 5 1 (.slice (some ⟨W.heap.size, 0, none⟩) 1 1) 1 (Lib.byteCells [UInt8.ofNat n]) := by
 have e : Lib.byteCells [UInt8.ofNat n] = [.int .u8 v] := by
  show [Value.int .u8 ((UInt8.ofNat n).toNat : Int)] = _
  rw [ofNat8 n hn, h]
 rw [e]
 refine ⟨rfl, Or.inr ⟨W.heap.size, 1, #[.int .u8 v], rfl, Nat.le_refl _, get_new rfl, ?_, ?_, ?_, ?_⟩⟩
 all_goals first | rfl | (unfold maxLen; omega) | decide | skip
theorem ret_i64 {a b : Int} (h : a = b) : Ending.returned (.int .i64 a) = .returned (.int .i64 b) := by rw [h]
theorem refDigit_any (s : ByteArray) (k : Nat) (w : World) :
   Calls Tryz.prog 240 #[.string s, .int .i64 k] w fun e w' => e = .returned (.int .i64 (hexV (byt s k))) ∧ w' = w := by
 by_cases h : k < s.size
 · have hb := byt_get h
   have hi : (k : Int) < (s.size : Int) := by omega
   have hlt := (s[k]'h).toNat_lt
   have HB : Hid (byt s k = (s[k]'h).toNat) := hb
   have HV : Hid (∀ z : Int, (∀ b : Nat, b = (s[k]'h).toNat → hexV b = z) → hexV (byt s k) = z) := fun z hz => hz _ hb
   clear hb
   go_enter Tryz.func240, Tryz.ntmps240
   go_wp2
   all_goals
    go_ret
    refine ⟨ret_i64 ?_, rfl⟩
    rw [HB.out]
    unfold hexV
    (repeat' split) <;> omega
 · have HB : Hid (hexV (byt s k) = -1) := by show hexV (byt s k) = -1; rw [byt_out h]; rfl
   have hi : ¬ (k : Int) < (s.size : Int) := by omega
   go_enter Tryz.func240, Tryz.ntmps240
   go_wp2
   go_ret
   rw [HB.out]
   exact ⟨rfl, rfl⟩
theorem okR_code (r : Nat) (h : okR r = true) : code (r : Int) = r := by
 unfold okR at h
 have h := of_decide_eq_true h
 unfold code Utf8.valid
 rw [if_pos]
 · rfl
 · simp only [Bool.or_eq_true, Bool.and_eq_true, decide_eq_true_eq]
   omega
theorem infoBQ : (Tryz.prog.info? 5).map (fun i => (i.zero, i.size, i.bytes)) = some (some (.int .u8 0), 1, 1) := by kernel_rfl
theorem refPutQ_any (r : Nat) (hr : okR r = true) (w : World) :
   Calls Tryz.prog 124 #[.slice none 0 0, .int .i64 r] w fun e w' => ∃ v, e = .returned v ∧ w'.ownsRow w.heap.size 5 1 v (Utf8.encode (r : Int)).data.toList.length (Lib.byteCells (Utf8.encode (r : Int)).data.toList) ∧ Below w.heap.size w w' := by
 have hle : r ≤ 1114111 := by unfold okR at hr; have := of_decide_eq_true hr; omega
 have HC := okR_code r hr
 obtain ⟨ic, hic, hz0, hz1, hz2⟩ := info_parts infoBQ
 have HE := enc_list (r : Int)
 rw [HC] at HE
 generalize (Utf8.encode (r : Int)).data.toList = L at HE ⊢
 by_cases c1 : r < 128
 · rw [if_pos c1] at HE
   have HL : Hid (L = _) := HE
   clear HE
   have c1i : (r : Int) < 128 := by omega
   go_enter Tryz.func124, Tryz.ntmps124
   go_wp2_with (at_builtin; refine wpList_append_own _ rfl _ _ 116 rfl w.heap.size 5 ic _ 1 1 Tryz.underlying116 hic hz0 hz1 hz2 rfl (by decide) _ _ _ rfl (World.ownsRow_nil _ _ _ _) ⟨w.heap.size, 0, none⟩ 1 1 [_] rfl rfl (one_newQ _ _ _) (by simp [Value.oneCell']) (by unfold maxLen; omega) (by omega) (by simp) ?_; intro v' w2 hown' hgrow _)
   go_ret
   refine ⟨_, rfl, ?_, ((Below.refl _ w).alloc (Nat.le_refl _) _).grown hgrow (by simp) (fun k hk => by cases hk)⟩
   have e : Lib.byteCells [UInt8.ofNat (r)] = [.int .u8 (((r : Nat) : Int))] := by
    unfold Lib.byteCells
    simp only [List.map_cons, List.map_nil]
    rw [ofNat8 (r) (by omega)]
   rw [HL.out, e]
   simp only [List.nil_append] at hown'
   exact hown'
 rw [if_neg c1] at HE
 have c1i : ¬ (r : Int) < 128 := by omega
 by_cases c2 : r < 2048
 · rw [if_pos c2] at HE
   have HL : Hid (L = _) := HE
   clear HE
   have c2i : (r : Int) < 2048 := by omega
   go_enter Tryz.func124, Tryz.ntmps124
   go_wp2_with (at_builtin; refine wpList_append_own _ rfl _ _ 116 rfl w.heap.size 5 ic _ 1 1 Tryz.underlying116 hic hz0 hz1 hz2 rfl (by decide) _ _ _ rfl (World.ownsRow_nil _ _ _ _) ⟨w.heap.size, 0, none⟩ 2 2 [_, _] rfl rfl (two_new _ _ _ _) (by simp [Value.oneCell']) (by unfold maxLen; omega) (by omega) (by simp) ?_; intro v' w2 hown' hgrow _)
   go_ret
   refine ⟨_, rfl, ?_, ((Below.refl _ w).alloc (Nat.le_refl _) _).grown hgrow (by simp) (fun k hk => by cases hk)⟩
   have e : Lib.byteCells [UInt8.ofNat (192 + r / 64), UInt8.ofNat (128 + r % 64)] = [.int .u8 (((192 + r / 64 : Nat) : Int)), .int .u8 (((128 + r % 64 : Nat) : Int))] := by
    unfold Lib.byteCells
    simp only [List.map_cons, List.map_nil]
    rw [ofNat8 (192 + r / 64) (by omega), ofNat8 (128 + r % 64) (by omega)]
   rw [HL.out, e]
   simp only [List.nil_append] at hown'
   exact hown'
 rw [if_neg c2] at HE
 have c2i : ¬ (r : Int) < 2048 := by omega
 by_cases c3 : r < 65536
 · rw [if_pos c3] at HE
   have HL : Hid (L = _) := HE
   clear HE
   have c3i : (r : Int) < 65536 := by omega
   go_enter Tryz.func124, Tryz.ntmps124
   go_wp2_with (at_builtin; refine wpList_append_own _ rfl _ _ 116 rfl w.heap.size 5 ic _ 1 1 Tryz.underlying116 hic hz0 hz1 hz2 rfl (by decide) _ _ _ rfl (World.ownsRow_nil _ _ _ _) ⟨w.heap.size, 0, none⟩ 3 3 [_, _, _] rfl rfl (three_new _ _ _ _ _) (by simp [Value.oneCell']) (by unfold maxLen; omega) (by omega) (by simp) ?_; intro v' w2 hown' hgrow _)
   go_ret
   refine ⟨_, rfl, ?_, ((Below.refl _ w).alloc (Nat.le_refl _) _).grown hgrow (by simp) (fun k hk => by cases hk)⟩
   have e : Lib.byteCells [UInt8.ofNat (224 + r / 4096), UInt8.ofNat (128 + r / 64 % 64), UInt8.ofNat (128 + r % 64)] = [.int .u8 (((224 + r / 4096 : Nat) : Int)), .int .u8 (((128 + r / 64 % 64 : Nat) : Int)), .int .u8 (((128 + r % 64 : Nat) : Int))] := by
    unfold Lib.byteCells
    simp only [List.map_cons, List.map_nil]
    rw [ofNat8 (224 + r / 4096) (by omega), ofNat8 (128 + r / 64 % 64) (by omega), ofNat8 (128 + r % 64) (by omega)]
   rw [HL.out, e]
   simp only [List.nil_append] at hown'
   exact hown'
 · rw [if_neg c3] at HE
   have HL : Hid (L = _) := HE
   clear HE
   have c3i : ¬ (r : Int) < 65536 := by omega
   go_enter Tryz.func124, Tryz.ntmps124
   go_wp2_with (at_builtin; refine wpList_append_own _ rfl _ _ 116 rfl w.heap.size 5 ic _ 1 1 Tryz.underlying116 hic hz0 hz1 hz2 rfl (by decide) _ _ _ rfl (World.ownsRow_nil _ _ _ _) ⟨w.heap.size, 0, none⟩ 4 4 [_, _, _, _] rfl rfl (four_new _ _ _ _ _ _) (by simp [Value.oneCell']) (by unfold maxLen; omega) (by omega) (by simp) ?_; intro v' w2 hown' hgrow _)
   go_ret
   refine ⟨_, rfl, ?_, ((Below.refl _ w).alloc (Nat.le_refl _) _).grown hgrow (by simp) (fun k hk => by cases hk)⟩
   have e : Lib.byteCells [UInt8.ofNat (240 + r / 262144), UInt8.ofNat (128 + r / 4096 % 64), UInt8.ofNat (128 + r / 64 % 64), UInt8.ofNat (128 + r % 64)] = [.int .u8 (((240 + r / 262144 : Nat) : Int)), .int .u8 (((128 + r / 4096 % 64 : Nat) : Int)), .int .u8 (((128 + r / 64 % 64 : Nat) : Int)), .int .u8 (((128 + r % 64 : Nat) : Int))] := by
    unfold Lib.byteCells
    simp only [List.map_cons, List.map_nil]
    rw [ofNat8 (240 + r / 262144) (by omega), ofNat8 (128 + r / 4096 % 64) (by omega), ofNat8 (128 + r / 64 % 64) (by omega), ofNat8 (128 + r % 64) (by omega)]
   rw [HL.out, e]
   simp only [List.nil_append] at hown'
   exact hown'
def EscP (B : Nat) (o : Option (List UInt8 × Nat)) (v : Value) (n : Nat) (w' : World) : Prop :=
 match o with
 | none => v = .slice none 0 0 ∧ n = 0
 | some x => n = x.2 ∧ w'.ownsRow B 5 1 v x.1.length (Lib.byteCells x.1)
theorem escP_none {B : Nat} {o : Option (List UInt8 × Nat)} {w' : World} (h : o = none) : EscP B o (.slice none 0 0) 0 w' := by subst h; exact ⟨rfl, rfl⟩
theorem escP_some {B : Nat} {o : Option (List UInt8 × Nat)} {l : List UInt8} {n : Nat} {v : Value} {w' : World} (h : o = some (l, n)) (hv : w'.ownsRow B 5 1 v l.length (Lib.byteCells l)) : EscP B o v n w' := by subst h; exact ⟨rfl, hv⟩
theorem refDigit_at (s : ByteArray) (k : Nat) (z : Int) (hz : z = (k : Int)) (w : World) :
  Calls Tryz.prog 240 #[.string s, .int .i64 z] w fun e w' => e = .returned (.int .i64 (hexV (byt s k))) ∧ w' = w := by
 subst hz
 exact refDigit_any s k w
theorem refEscape_x (s : ByteArray) (hs : s.size ≤ 1048576) (i : Nat) (h1 : i + 1 < s.size) (c5 : byt s (i + 1) = 120) (w : World) :
   Calls Tryz.prog 224 #[.string s, .int .i64 i] w fun e w' => ∃ v n, e = .returned (.tuple #[v, .int .i64 (n : Nat)]) ∧ EscP w.heap.size (esc (fun k => byt s (i + k))) v n w' ∧ Below w.heap.size w w' := by
 have h1i : (i : Int) + 1 < (s.size : Int) := by omega
 have hb := byt_get h1
 have hidx := idx_any s (i + 1) ((i : Int) + 1) (by omega) h1
 have hq : (s[i + 1]'h1).toNat = 120 := by omega
 have HS := esc_pair (fun k => byt s (i + k)) c5
 generalize esc (fun k => byt s (i + k)) = o at HS ⊢
 have v2 := hexV_lt (byt s (i + 2))
 have v3 := hexV_lt (byt s (i + 3))
 clear hb c5
 by_cases hd : 0 ≤ hexV (byt s (i + 2)) ∧ 0 ≤ hexV (byt s (i + 3))
 · rw [if_pos hd] at HS
   have HS2 : Hid (o = _) := HS
   clear HS
   obtain ⟨d2, d3⟩ := hd
   have HM : Hid ((hexV (byt s (i + 2)) * 16 + hexV (byt s (i + 3))) = (((hexV (byt s (i + 2))).toNat * 16 + (hexV (byt s (i + 3))).toNat : Nat) : Int)) := by
     show (hexV (byt s (i + 2)) * 16 + hexV (byt s (i + 3))) = _
     omega
   go_enter Tryz.func224, Tryz.ntmps224
   go_wp2_with fail
   refine (refDigit_at s (i + 2) _ (by omega) _).mono ?_
   rintro e w1 ⟨rfl, rfl⟩
   go_wp2_with fail
   refine (refDigit_at s (i + 3) _ (by omega) _).mono ?_
   rintro e w1 ⟨rfl, rfl⟩
   go_wp2
   go_ret2
   exact ⟨_, _, rfl, escP_some HS2.out (one_row _ _ _ (by rw [HM.out]) (by omega)), (Below.refl _ _).alloc (Nat.le_refl _) _⟩
 · rw [if_neg hd] at HS
   have HN : Hid (o = none) := HS
   clear HS
   by_cases d2 : 0 ≤ hexV (byt s (i + 2))
   · have d3 : ¬ 0 ≤ hexV (byt s (i + 3)) := fun h => hd ⟨d2, h⟩
     clear hd
     go_enter Tryz.func224, Tryz.ntmps224
     go_wp2_with fail
     refine (refDigit_at s (i + 2) _ (by omega) _).mono ?_
     rintro e w1 ⟨rfl, rfl⟩
     go_wp2_with fail
     refine (refDigit_at s (i + 3) _ (by omega) _).mono ?_
     rintro e w1 ⟨rfl, rfl⟩
     go_wp2
     go_ret2
     exact ⟨_, _, rfl, escP_none HN.out, Below.refl _ _⟩
   · clear hd
     go_enter Tryz.func224, Tryz.ntmps224
     go_wp2_with fail
     refine (refDigit_at s (i + 2) _ (by omega) _).mono ?_
     rintro e w1 ⟨rfl, rfl⟩
     go_wp2_with fail
     refine (refDigit_at s (i + 3) _ (by omega) _).mono ?_
     rintro e w1 ⟨rfl, rfl⟩
     go_wp2
     go_ret2
     exact ⟨_, _, rfl, escP_none HN.out, Below.refl _ _⟩
theorem tup2 {v : Value} {a b : Int} (h : a = b) : Ending.returned (.tuple #[v, .int .i64 a]) = .returned (.tuple #[v, .int .i64 b]) := by rw [h]
theorem refEscape_u (s : ByteArray) (hs : s.size ≤ 1048576) (i : Nat) (h1 : i + 1 < s.size) (c6 : byt s (i + 1) = 117) (w : World) :
  Calls Tryz.prog 224 #[.string s, .int .i64 i] w fun e w' => ∃ v n, e = .returned (.tuple #[v, .int .i64 (n : Nat)]) ∧ EscP w.heap.size (esc (fun k => byt s (i + k))) v n w' ∧ Below w.heap.size w w' := by
 have h1i : (i : Int) + 1 < (s.size : Int) := by omega
 have hb := byt_get h1
 have hidx := idx_any s (i + 1) ((i : Int) + 1) (by omega) h1
 have hq : (s[i + 1]'h1).toNat = 117 := by omega
 have HS := esc_brace (fun k => byt s (i + k)) c6
 generalize esc (fun k => byt s (i + k)) = o at HS ⊢
 clear hb c6
 by_cases c7 : byt s (i + 2) = 123
 case neg =>
  rw [if_neg c7] at HS
  have HN : Hid (o = none) := HS
  clear HS
  by_cases h2 : i + 2 < s.size
  · have hb2 := byt_get h2
    have h2i : (i : Int) + 2 < (s.size : Int) := by omega
    have g1 : ¬ ((s[i + 2]'h2).toNat : Int) = 123 := by omega
    have g2 : (((s[i + 2]'h2).toNat : Int) != 123) = true := bne_iff_ne.2 g1
    have hidx2 := idx_any s (i + 2) ((i : Int) + 2) (by omega) h2
    clear c7 hb2
    go_enter Tryz.func224, Tryz.ntmps224
    go_wp2
    all_goals first | (exfalso; omega) | (go_ret2; exact ⟨_, _, rfl, escP_none HN.out, Below.refl _ _⟩)
  · have h2i : ¬ (i : Int) + 2 < (s.size : Int) := by omega
    go_enter Tryz.func224, Tryz.ntmps224
    go_wp2
    go_ret2
    exact ⟨_, _, rfl, escP_none HN.out, Below.refl _ _⟩
 have h2 : i + 2 < s.size := byt_in (by omega)
 have h2i : (i : Int) + 2 < (s.size : Int) := by omega
 have hb2 := byt_get h2
 have hq2 : (s[i + 2]'h2).toNat = 123 := by omega
 have hidx2 := idx_any s (i + 2) ((i : Int) + 2) (by omega) h2
 rw [if_pos c7] at HS
 have HM : Hid (o = (num (fun k => byt s (i + k)) 6 3 0).map (fun x => ((Utf8.encode (x.1 : Int)).data.toList, x.2))) := HS
 clear HS c7 hb2
 go_enter Tryz.func224, Tryz.ntmps224
 go_wp2
 go_loopw [8, 9] (fun r k wx => ∃ (c d : Nat), r = .int .i64 c ∧ k = .int .i64 (i + 3 + d : Nat) ∧ d ≤ 6 ∧ c < 16 ^ d ∧ Hid (num (fun k => byt s (i + k)) 6 3 0 = num (fun k => byt s (i + k)) (6 - d) (3 + d) c) ∧ wx = w) (fun _ k _ => i + 9 - (intOf k).toNat)
 case atStart => exact ⟨0, 0, rfl, rfl, by omega, by omega, rfl, rfl⟩
 case round =>
  obtain ⟨c, d, rfl, rfl, hd, hc, HNUM, rfl⟩ := hrel
  have hc6 : (16 : Nat) ^ d ≤ 16 ^ 6 := Nat.pow_le_pow_right (by omega) hd
  have hcb : c < 16777216 := by omega
  have hv := hexV_lt (byt s (i + 3 + d))
  have hk1 : i + (3 + d) = i + 3 + d := by omega
  by_cases hgo : d < 6 ∧ 0 ≤ hexV (byt s (i + 3 + d))
  · obtain ⟨g1, g2⟩ := hgo
    have HN2 : Hid (num (fun k => byt s (i + k)) 6 3 0 = num (fun k => byt s (i + k)) (6 - (d + 1)) (3 + (d + 1)) (c * 16 + (hexV (byt s (i + 3 + d))).toNat)) := by
      show num (fun k => byt s (i + k)) 6 3 0 = _
      rw [HNUM.out, show 6 - d = (6 - (d + 1)) + 1 by omega, num_pos (fun k => byt s (i + k)) _ _ _ (by rw [hk1]; exact g2)]
      show num _ _ (3 + d + 1) (c * 16 + (hexV (byt s (i + (3 + d)))).toNat) = _
      rw [hk1]
      rfl
    have HC : Hid (c * 16 + (hexV (byt s (i + 3 + d))).toNat < 16 ^ (d + 1)) := by
      show c * 16 + (hexV (byt s (i + 3 + d))).toNat < 16 ^ (d + 1)
      rw [Nat.pow_succ]
      omega
    have HV : Hid ((c : Int) * 16 + hexV (byt s (i + 3 + d)) = ((c * 16 + (hexV (byt s (i + 3 + d))).toNat : Nat) : Int)) := by
      show (c : Int) * 16 + hexV (byt s (i + 3 + d)) = _
      omega
    have hki : (i : Int) + 3 + d < (i : Int) + 9 := by omega
    clear HNUM hc hc6 HM
    go_wp2_with (go_at_call 240; refine (refDigit_at s (i + 3 + d) _ (by omega) _).mono ?_; rintro e w9 ⟨rfl, rfl⟩)
    go_roundw
    case rel =>
      refine ⟨c * 16 + (hexV (byt s (i + 3 + d))).toNat, d + 1, ?_, by go_num, by omega, HC.out, HN2, trivial⟩
      rw [HV.out]
    case measure =>
      simp [intOf]
      omega
  · have HCL : Hid (o = (closeN (fun k => byt s (i + k)) (6 - d) (3 + d) c).map (fun x => ((Utf8.encode (x.1 : Int)).data.toList, x.2))) := by
      show o = _
      rw [HM.out, HNUM.out]
      by_cases h6 : d = 6
      · subst h6; rfl
      · rw [num_neg (fun k => byt s (i + k)) _ _ _ (by rw [hk1]; omega)]
    clear HM HNUM hc hc6
    by_cases hok : 6 - d ≠ 6 ∧ byt s (i + (3 + d)) = 125 ∧ okR c = true
    · obtain ⟨k1, k2, ho⟩ := hok
      have HO : Hid (o = some ((Utf8.encode (c : Int)).data.toList, 3 + d + 1)) := by
        have h := HCL.out
        rw [closeN, if_pos ⟨k1, k2, ho⟩, Option.map_some] at h
        dsimp only at h
        exact h
      have HP := refPutQ_any c ho
      have hr := HO.out
      clear HO HCL
      generalize (Utf8.encode (c : Int)).data.toList = L at HP hr
      have HO : Hid (o = some (L, 3 + d + 1)) := hr
      rw [hk1] at k2
      have k3 : i + 3 + d < s.size := byt_in (by omega)
      have k4 := byt_get k3
      have k5 : (s[i + 3 + d]'k3).toNat = 125 := by omega
      have k6 : (i : Int) + 3 + d < (s.size : Int) := by omega
      have k7 : (i : Int) + 3 < (i : Int) + 3 + d := by omega
      have k8 := idx_any s (i + 3 + d) ((i : Int) + 3 + d) (by omega) k3
      have k9 : c < 55296 ∨ (57344 ≤ c ∧ c ≤ 1114111) := of_decide_eq_true ho
      have kA : (c : Int) ≤ 1114111 := by omega
      clear k1 k2 k4 hk1 hr
      by_cases h6 : d = 6
      · have e1 : ¬ (i : Int) + 3 + d < (i : Int) + 9 := by omega
        clear hgo h6
        rcases k9 with k9 | k9
        · have kB : (c : Int) < 55296 := by omega
          go_wp2_with (go_at_call 124; refine (HP _).mono ?_; rintro e W1 ⟨v, rfl, hrow, hbl⟩)
          go_ret2
          exact ⟨_, 3 + d + 1, tup2 (by omega), escP_some HO.out hrow, hbl⟩
        · have kB : ¬ (c : Int) < 55296 := by omega
          have kC : 57343 < (c : Int) := by omega
          go_wp2_with (go_at_call 124; refine (HP _).mono ?_; rintro e W1 ⟨v, rfl, hrow, hbl⟩)
          go_ret2
          exact ⟨_, 3 + d + 1, tup2 (by omega), escP_some HO.out hrow, hbl⟩
      · have e1 : (i : Int) + 3 + d < (i : Int) + 9 := by omega
        have e2 : ¬ 0 ≤ hexV (byt s (i + 3 + d)) := fun h => hgo ⟨by omega, h⟩
        have HK : Hid (c < 55296 ∨ (57344 ≤ c ∧ c ≤ 1114111)) := k9
        clear hgo h6 k9
        go_wp2_with (first | (go_at_call 240; refine (refDigit_at s (i + 3 + d) _ (by omega) _).mono ?_; rintro e w9 ⟨rfl, rfl⟩) | (go_at_call 124; refine (HP _).mono ?_; rintro e W1 ⟨v, rfl, hrow, hbl⟩))
        all_goals first | (go_ret2; exact ⟨_, 3 + d + 1, tup2 (by omega), escP_some HO.out hrow, hbl⟩) | (exfalso; have := HK.out; omega)
    · have HN : Hid (o = none) := by show o = none; rw [HCL.out, closeN, if_neg hok, Option.map_none]
      rw [hk1] at hok
      clear HCL hk1
      by_cases j1 : d = 0
      · have k7 : ¬ (i : Int) + 3 < (i : Int) + 3 + d := by omega
        have e1 : (i : Int) + 3 + d < (i : Int) + 9 := by omega
        have e2 : ¬ 0 ≤ hexV (byt s (i + 3 + d)) := fun h => hgo ⟨by omega, h⟩
        clear hgo hok j1
        go_wp2_with (go_at_call 240; refine (refDigit_at s (i + 3 + d) _ (by omega) _).mono ?_; rintro e w9 ⟨rfl, rfl⟩)
        go_ret2
        exact ⟨_, _, rfl, escP_none HN.out, Below.refl _ _⟩
      have k7 : (i : Int) + 3 < (i : Int) + 3 + d := by omega
      by_cases k3 : i + 3 + d < s.size
      case neg =>
        have k6 : ¬ (i : Int) + 3 + d < (s.size : Int) := by omega
        clear hok
        by_cases h6 : d = 6
        · have e1 : ¬ (i : Int) + 3 + d < (i : Int) + 9 := by omega
          clear hgo h6
          go_wp2
          go_ret2
          exact ⟨_, _, rfl, escP_none HN.out, Below.refl _ _⟩
        · have e1 : (i : Int) + 3 + d < (i : Int) + 9 := by omega
          have e2 : ¬ 0 ≤ hexV (byt s (i + 3 + d)) := fun h => hgo ⟨by omega, h⟩
          clear hgo h6
          go_wp2_with (go_at_call 240; refine (refDigit_at s (i + 3 + d) _ (by omega) _).mono ?_; rintro e w9 ⟨rfl, rfl⟩)
          go_ret2
          exact ⟨_, _, rfl, escP_none HN.out, Below.refl _ _⟩
      have k6 : (i : Int) + 3 + d < (s.size : Int) := by omega
      have k8 := idx_any s (i + 3 + d) ((i : Int) + 3 + d) (by omega) k3
      have k4 := byt_get k3
      by_cases k2 : byt s (i + 3 + d) = 125
      case neg =>
        have k5 : (((s[i + 3 + d]'k3).toNat : Int) == 125) = false := beq_eq_false_iff_ne.2 (by omega)
        clear hok k4 k2
        by_cases h6 : d = 6
        · have e1 : ¬ (i : Int) + 3 + d < (i : Int) + 9 := by omega
          clear hgo h6
          go_wp2
          go_ret2
          exact ⟨_, _, rfl, escP_none HN.out, Below.refl _ _⟩
        · have e1 : (i : Int) + 3 + d < (i : Int) + 9 := by omega
          have e2 : ¬ 0 ≤ hexV (byt s (i + 3 + d)) := fun h => hgo ⟨by omega, h⟩
          clear hgo h6
          go_wp2_with (go_at_call 240; refine (refDigit_at s (i + 3 + d) _ (by omega) _).mono ?_; rintro e w9 ⟨rfl, rfl⟩)
          go_ret2
          exact ⟨_, _, rfl, escP_none HN.out, Below.refl _ _⟩
      have k5 : (s[i + 3 + d]'k3).toNat = 125 := by omega
      have k9 : ¬ (c < 55296 ∨ (57344 ≤ c ∧ c ≤ 1114111)) := fun h => hok ⟨by omega, k2, decide_eq_true h⟩
      clear hok k4 k2
      by_cases kA : (c : Int) ≤ 1114111
      · have kB : ¬ (c : Int) < 55296 := by omega
        have kC : ¬ 57343 < (c : Int) := by omega
        clear k9
        by_cases h6 : d = 6
        · have e1 : ¬ (i : Int) + 3 + d < (i : Int) + 9 := by omega
          clear hgo h6
          go_wp2
          go_ret2
          exact ⟨_, _, rfl, escP_none HN.out, Below.refl _ _⟩
        · have e1 : (i : Int) + 3 + d < (i : Int) + 9 := by omega
          have e2 : ¬ 0 ≤ hexV (byt s (i + 3 + d)) := fun h => hgo ⟨by omega, h⟩
          clear hgo h6
          go_wp2_with (go_at_call 240; refine (refDigit_at s (i + 3 + d) _ (by omega) _).mono ?_; rintro e w9 ⟨rfl, rfl⟩)
          go_ret2
          exact ⟨_, _, rfl, escP_none HN.out, Below.refl _ _⟩
      · clear k9
        by_cases h6 : d = 6
        · have e1 : ¬ (i : Int) + 3 + d < (i : Int) + 9 := by omega
          clear hgo h6
          go_wp2
          go_ret2
          exact ⟨_, _, rfl, escP_none HN.out, Below.refl _ _⟩
        · have e1 : (i : Int) + 3 + d < (i : Int) + 9 := by omega
          have e2 : ¬ 0 ≤ hexV (byt s (i + 3 + d)) := fun h => hgo ⟨by omega, h⟩
          clear hgo h6
          go_wp2_with (go_at_call 240; refine (refDigit_at s (i + 3 + d) _ (by omega) _).mono ?_; rintro e w9 ⟨rfl, rfl⟩)
          go_ret2
          exact ⟨_, _, rfl, escP_none HN.out, Below.refl _ _⟩
theorem refEscape_any (s : ByteArray) (hs : s.size ≤ 1048576) (i : Nat) (hi : i < s.size) (w : World) :
   Calls Tryz.prog 224 #[.string s, .int .i64 i] w fun e w' => ∃ v n, e = .returned (.tuple #[v, .int .i64 (n : Nat)]) ∧ EscP w.heap.size (esc (fun k => byt s (i + k))) v n w' ∧ Below w.heap.size w w' := by
 by_cases c5 : byt s (i + 1) = 120
 · exact refEscape_x s hs i (byt_in (by omega)) c5 w
 by_cases c6 : byt s (i + 1) = 117
 · exact refEscape_u s hs i (byt_in (by omega)) c6 w
 obtain ⟨o, ho⟩ : ∃ o, o = esc (fun k => byt s (i + k)) := ⟨_, rfl⟩
 rw [← ho]
 rw [esc] at ho
 have HX : Hid (o = _) := ho
 clear ho
 by_cases h1 : i + 1 < s.size
 case neg =>
   have hb := byt_out h1
   have HN : Hid (o = none) := by
     show o = none
     rw [HX.out, if_neg (by omega), if_neg (by omega), if_neg (by omega), if_neg (by omega), if_neg (by omega), if_neg (by omega)]
   clear HX
   have h1i : ¬ (i : Int) + 1 < (s.size : Int) := by omega
   go_enter Tryz.func224, Tryz.ntmps224
   go_wp2
   go_ret2
   exact ⟨_, _, rfl, escP_none HN.out, Below.refl _ _⟩
 have h1i : (i : Int) + 1 < (s.size : Int) := by omega
 have hb := byt_get h1
 have hlt := (s[i + 1]'h1).toNat_lt
 have hidx := idx_any s (i + 1) ((i : Int) + 1) (by omega) h1
 by_cases c1 : byt s (i + 1) = 34 ∨ byt s (i + 1) = 92
 · have HS : Hid (o = some ([UInt8.ofNat (byt s (i + 1))], 2)) := by show o = _; rw [HX.out, if_pos c1]
   clear HX
   rcases c1 with c1 | c1
   · rw [c1] at HS
     have hq : (s[i + 1]'h1).toNat = 34 := by omega
     go_enter Tryz.func224, Tryz.ntmps224
     go_wp2
     go_ret2
     exact ⟨_, _, rfl, escP_some HS.out (one_row w _ 34 rfl (by omega)), (Below.refl _ _).alloc (Nat.le_refl _) _⟩
   · rw [c1] at HS
     have hq : (s[i + 1]'h1).toNat = 92 := by omega
     go_enter Tryz.func224, Tryz.ntmps224
     go_wp2
     go_ret2
     exact ⟨_, _, rfl, escP_some HS.out (one_row w _ 92 rfl (by omega)), (Below.refl _ _).alloc (Nat.le_refl _) _⟩
 by_cases c2 : byt s (i + 1) = 110
 · have HS : Hid (o = some ([10], 2)) := by show o = _; rw [HX.out, if_neg c1, if_pos c2]
   clear HX c1
   have hq : (s[i + 1]'h1).toNat = 110 := by omega
   go_enter Tryz.func224, Tryz.ntmps224
   go_wp2
   go_ret2
   exact ⟨_, _, rfl, escP_some HS.out (one_row w _ 10 rfl (by omega)), (Below.refl _ _).alloc (Nat.le_refl _) _⟩
 by_cases c3 : byt s (i + 1) = 116
 · have HS : Hid (o = some ([9], 2)) := by show o = _; rw [HX.out, if_neg c1, if_neg c2, if_pos c3]
   clear HX c1
   have hq : (s[i + 1]'h1).toNat = 116 := by omega
   go_enter Tryz.func224, Tryz.ntmps224
   go_wp2
   go_ret2
   exact ⟨_, _, rfl, escP_some HS.out (one_row w _ 9 rfl (by omega)), (Below.refl _ _).alloc (Nat.le_refl _) _⟩
 by_cases c4 : byt s (i + 1) = 114
 · have HS : Hid (o = some ([13], 2)) := by show o = _; rw [HX.out, if_neg c1, if_neg c2, if_neg c3, if_pos c4]
   clear HX c1
   have hq : (s[i + 1]'h1).toNat = 114 := by omega
   go_enter Tryz.func224, Tryz.ntmps224
   go_wp2
   go_ret2
   exact ⟨_, _, rfl, escP_some HS.out (one_row w _ 13 rfl (by omega)), (Below.refl _ _).alloc (Nat.le_refl _) _⟩
 have HN : Hid (o = none) := by show o = _; rw [HX.out, if_neg c1, if_neg c2, if_neg c3, if_neg c4, if_neg c5, if_neg c6]
 have g1 : ¬ ((s[i + 1]'h1).toNat : Int) = 34 := by omega
 have g2 : ¬ ((s[i + 1]'h1).toNat : Int) = 92 := by omega
 have g3 : ¬ ((s[i + 1]'h1).toNat : Int) = 110 := by omega
 have g4 : ¬ ((s[i + 1]'h1).toNat : Int) = 116 := by omega
 have g5 : ¬ ((s[i + 1]'h1).toNat : Int) = 114 := by omega
 have g6 : ¬ ((s[i + 1]'h1).toNat : Int) = 120 := by omega
 have g7 : ¬ ((s[i + 1]'h1).toNat : Int) = 117 := by omega
 clear HX c1 c2 c3 c4 c5 c6 hb
 go_enter Tryz.func224, Tryz.ntmps224
 go_wp2
 go_ret2
 exact ⟨_, _, rfl, escP_none HN.out, Below.refl _ _⟩
theorem ext_chB (s : ByteArray) (p : Nat) : (s.extract p (p + wdt s p)).data.toList = (s.data.toList.drop p).take (wdt s p) := by
 rw [ByteArray.data_extract, Array.toList_extract]
 simp [List.extract]
theorem ba_len (T : ByteArray) : T.data.toList.length = T.size := by rw [Array.length_toList]; rfl
def pieceR (s : ByteArray) (p : Nat) : (List UInt8 × Nat) ⊕ Nat :=
 if byt s p = 92 then (match esc (fun k => byt s (p + k)) with | none => .inr 12 | some x => .inl x)
 else if ctl (rn s p : Int) = true ∨ looseB s p = true then .inr 10 else .inl ((Utf8.encode (rn s p : Int)).data.toList, wdt s p)
def RdP (l : List UInt8) (v : Value) (w' : World) : Prop := ∃ g cap, v = .slice (some ⟨g, 0, none⟩) l.length cap ∧ ∀ j u, (Lib.byteCells l)[j]? = some u → w'.cell? ((⟨g, 0, none⟩ : Addr).add j) = some u
theorem addr_add (g j : Nat) : (⟨g, 0, none⟩ : Addr).add j = ⟨g, j, none⟩ := by unfold Addr.add; split <;> simp_all
theorem rd_of {w' : World} {B : Nat} {v : Value} {l : List UInt8} (hl : 0 < l.length) (h : w'.ownsRow B 5 1 v l.length (Lib.byteCells l)) : RdP l v w' := by
 obtain ⟨ad, cap, rfl, hc⟩ := ownsRow_form h
 obtain ⟨g, rfl, _, _, _, hg⟩ := hc hl
 exact ⟨g, cap, rfl, fun j u hu => by rw [addr_add]; exact hg j u hu⟩
theorem esc_len (b : Nat → Nat) (l : List UInt8) (n : Nat) (h : esc b = some (l, n)) : 0 < l.length := by
 unfold esc at h
 repeat' split at h
 all_goals first | (cases h; done) | (cases h; simp; done) | skip
 all_goals
  rw [Option.map_eq_some_iff] at h
  obtain ⟨x, hx, he⟩ := h
  simp only [Prod.mk.injEq] at he
  obtain ⟨e1, e2⟩ := he
  rw [← e1, enc_len]
  exact (clen_pos _).1
def PieP (o : (List UInt8 × Nat) ⊕ Nat) (v : Value) (n e : Nat) (w' : World) : Prop :=
 match o with
 | .inr k => v = .slice none 0 0 ∧ n = 0 ∧ e = k
 | .inl x => n = x.2 ∧ e = 0 ∧ RdP x.1 v w'
theorem rd_bytes (W : World) (T : ByteArray) (cap : Nat) (fr : Nat × Nat) : RdP T.data.toList (.slice (some ⟨W.heap.size, 0, none⟩) T.size cap) ((W.alloc (.cells (bytesRow T cap) 5 fr)).drew) := by
 refine ⟨W.heap.size, cap, by rw [ba_len], fun j u hu => ?_⟩
 have hj : j < T.data.toList.length := by
  have := (List.getElem?_eq_some_iff.1 hu).1
  rwa [Lib.byteCells_length] at this
 have hj2 : j < T.data.size := by rwa [Array.length_toList] at hj
 have h1 := World.cell?_alloc_mark W (bytesRow T cap) 5 fr j
 rw [bytesRow_at T cap j hj2] at h1
 rw [addr_add]
 have h2 : (Lib.byteCells T.data.toList)[j]? = some (.int .u8 (T.data[j].toNat : Int)) := by
  simp only [Lib.byteCells, List.getElem?_map, Array.getElem?_toList, Array.getElem?_eq_getElem hj2, Option.map_some]
 rw [h2] at hu
 cases hu
 exact h1
set_option maxRecDepth 1000000 in
theorem refPiece_any (s : ByteArray) (hs : s.size ≤ 1048576) (p : Nat) (hp : p < s.size) (w : World) :
   Calls Tryz.prog 202 #[.string s, .int .i64 p] w fun e w' => ∃ v n k, e = .returned (.tuple #[v, .int .i64 (n : Nat), .int .i64 (k : Nat)]) ∧ PieP (pieceR s p) v n k w' ∧ Below w.heap.size w w' := by
 have hb := byt_get hp
 have hpi : (p : Int) < (s.size : Int) := by omega
 by_cases c1 : byt s p = 92
 · have hq : (s[p]'hp).toNat = 92 := by omega
   have HR : pieceR s p = (match esc (fun k => byt s (p + k)) with | none => .inr 12 | some x => .inl x) := by
     rw [pieceR, if_pos c1]
   have HE := refEscape_any s hs p hp
   clear hb c1
   cases ho : esc (fun k => byt s (p + k)) with
   | none =>
     rw [ho] at HE HR
     have H2 : Hid (pieceR s p = .inr 12) := HR
     clear HR
     go_enter Tryz.func202, Tryz.ntmps202
     go_wp2_with (go_at_call 224; refine (HE _).mono ?_; rintro e W1 ⟨v, n, rfl, ⟨rfl, rfl⟩, hbl⟩)
     go_ret3
     exact ⟨_, 0, 12, rfl, by rw [H2.out]; exact ⟨rfl, rfl, rfl⟩, hbl⟩
   | some x =>
     rw [ho] at HE HR
     have H2 : Hid (pieceR s p = .inl x) := HR
     clear HR
     obtain ⟨l, m⟩ := x
     have hm := (esc_ok _ l m ho).1
     have hl0 := esc_len _ l m ho
     have hx : ((m : Int) == 0) = false := beq_eq_false_iff_ne.2 (by omega)
     clear ho
     go_enter Tryz.func202, Tryz.ntmps202
     go_wp2_with (go_at_call 224; refine (HE _).mono ?_; rintro e W1 ⟨v, n, rfl, ⟨rfl, hrow⟩, hbl⟩)
     go_ret3
     exact ⟨_, _, 0, rfl, by rw [H2.out]; exact ⟨rfl, rfl, rd_of hl0 hrow⟩, hbl⟩
 · have hq : (((s[p]'hp).toNat : Int) == 92) = false := beq_eq_false_iff_ne.2 (by omega)
   have HA := at_any s (by omega) p hp
   have hwl := wdt_le s p hp
   have hw0 := wdt_pos s p
   have hr8 := rn_le s p
   by_cases hbad : ctl (rn s p : Int) = true ∨ looseB s p = true
   · have H2 : Hid (pieceR s p = .inr 10) := by show pieceR s p = _; rw [pieceR, if_neg c1, if_pos hbad]
     clear hb c1
     cases hL : looseB s p with
     | true =>
      rw [hL] at HA
      clear hbad
      go_enter Tryz.func202, Tryz.ntmps202
      go_wp2_with (go_at_call 33; refine (HA _).mono ?_; rintro e W1 ⟨rfl, nq, rfl⟩)
      go_ret3
      exact ⟨_, 0, 10, rfl, by rw [H2.out]; exact ⟨rfl, rfl, rfl⟩, below_drewN (Below.refl _ _) nq⟩
     | false =>
      rw [hL] at HA
      have hc : (rn s p : Int) < 32 ∨ (rn s p : Int) = 127 := by
        rcases hbad with h | h
        · exact of_decide_eq_true h
        · rw [hL] at h; cases h
      clear hbad
      rcases hc with hc | hc
      · go_enter Tryz.func202, Tryz.ntmps202
        go_wp2_with (go_at_call 33; refine (HA _).mono ?_; rintro e W1 ⟨rfl, nq, rfl⟩)
        go_ret3
        exact ⟨_, 0, 10, rfl, by rw [H2.out]; exact ⟨rfl, rfl, rfl⟩, below_drewN (Below.refl _ _) nq⟩
      · rw [hc] at HA
        go_enter Tryz.func202, Tryz.ntmps202
        go_wp2_with (go_at_call 33; refine (HA _).mono ?_; rintro e W1 ⟨rfl, nq, rfl⟩)
        go_ret3
        exact ⟨_, 0, 10, rfl, by rw [H2.out]; exact ⟨rfl, rfl, rfl⟩, below_drewN (Below.refl _ _) nq⟩
   · have H2 : Hid (pieceR s p = .inl ((Utf8.encode (rn s p : Int)).data.toList, wdt s p)) := by show pieceR s p = _; rw [pieceR, if_neg c1, if_neg hbad]
     have hL : looseB s p = false := by
      cases h : looseB s p with
      | false => rfl
      | true => exact absurd (Or.inr h) hbad
     have hc : ¬ ((rn s p : Int) < 32 ∨ (rn s p : Int) = 127) := fun h => hbad (Or.inl (decide_eq_true h))
     have HX : Hid ((s.extract p (p + wdt s p)).data.toList = (Utf8.encode (rn s p : Int)).data.toList) := (ext_chB s p).trans (char_bytes s p hp hL).symm
     have hc1 : ¬ (rn s p : Int) < 32 := fun h => hc (Or.inl h)
     have hc2 : ((rn s p : Int) == 127) = false := beq_eq_false_iff_ne.2 (fun h => hc (Or.inr h))
     have hez : (s.extract p (p + wdt s p)).size = wdt s p := by rw [ByteArray.size_extract]; omega
     rw [hL] at HA
     have hsl : (p : Int) + wdt s p ≤ (s.size : Int) := by omega
     clear hbad hc hb c1
     generalize (Utf8.encode (rn s p : Int)).data.toList = L at H2 HX
     have hd := fun (W : World) (cap : Nat) (fr : Nat × Nat) => rd_bytes W (s.extract p (p + wdt s p)) cap fr
     rw [hez, HX.out] at hd
     have HD : Hid (∀ (W : World) (cap : Nat) (fr : Nat × Nat), RdP L (.slice (some ⟨W.heap.size, 0, none⟩) (wdt s p) cap) ((W.alloc (.cells (bytesRow (s.extract p (p + wdt s p)) cap) 5 fr)).drew)) := hd
     clear hd
     have hcv := fun W : World => run_bytes_of_string (P := Tryz.prog) W 9 116 5 (s.extract p (p + wdt s p)) Tryz.underlying9 Tryz.underlying116 Tryz.underlying5
     rw [hez] at hcv
     clear hL HX hez
     generalize wdt s p = nn at *
     generalize rn s p = rr at *
     go_enter Tryz.func202, Tryz.ntmps202
     go_wp2_with (go_at_call 33; refine (HA _).mono ?_; rintro e W1 ⟨rfl, nq, rfl⟩; have hb1 := below_drewN (Below.refl w.heap.size w) nq; generalize w.drewN nq = W at *)
     go_ret3
     refine ⟨_, nn, 0, rfl, ?_, (hb1.alloc hb1.size _).trans ⟨rfl, rfl, rfl, Nat.le_refl _, fun _ _ => rfl⟩⟩
     rw [H2.out]
     exact ⟨rfl, rfl, HD.out W _ _⟩
theorem piece_ok (s : ByteArray) (f p : Nat) (acc l : List UInt8) (n : Nat) (hp : p < s.size) (h34 : byt s p ≠ 34) (h : pieceR s p = .inl (l, n)) :
   lead s (f + 1) p acc = lead s f (p + n) (acc ++ l) ∧ p + n ≤ s.size ∧ 1 ≤ n ∧ l.length ≤ 4 ∧ 0 < l.length := by
 unfold pieceR at h
 by_cases c1 : byt s p = 92
 · rw [if_pos c1] at h
   cases ho : esc (fun k => byt s (p + k)) with
   | none => rw [ho] at h; cases h
   | some x =>
     rw [ho] at h
     have e : x = (l, n) := Sum.inl.inj h
     subst e
     obtain ⟨k1, k2, k3, k4⟩ := esc_ok _ l n ho
     have := (k4 (n - 1) (by omega) (by omega)).1
     have := byt_in (s := s) (i := p + (n - 1)) (by omega)
     exact ⟨lead_some s f p acc l n hp c1 ho, by omega, by omega, k3, esc_len _ l n ho⟩
 · rw [if_neg c1] at h
   by_cases hb : ctl (rn s p : Int) = true ∨ looseB s p = true
   · rw [if_pos hb] at h; cases h
   · rw [if_neg hb] at h
     have e := Sum.inl.inj h
     simp only [Prod.mk.injEq] at e
     obtain ⟨e1, e2⟩ := e
     have h1 := lead_char s f p acc hp h34 c1 hb
     have h2 := wdt_le s p hp
     have h3 := wdt_pos s p
     have h4 : l.length = clen (code (rn s p : Int)) := by rw [← e1, enc_len]
     have h5 := clen_pos (code (rn s p : Int))
     rw [e1, e2] at h1
     exact ⟨h1, by omega, by omega, by omega, by omega⟩
theorem piece_err (s : ByteArray) (f p : Nat) (acc : List UInt8) (k : Nat) (hp : p < s.size) (h34 : byt s p ≠ 34) (h : pieceR s p = .inr k) : lead s (f + 1) p acc = ([], p, k) ∧ k ≠ 0 := by
 unfold pieceR at h
 by_cases c1 : byt s p = 92
 · rw [if_pos c1] at h
   cases ho : esc (fun k => byt s (p + k)) with
   | none =>
     rw [ho] at h
     cases h
     exact ⟨lead_none s f p acc hp c1 ho, by omega⟩
   | some x => rw [ho] at h; cases h
 · rw [if_neg c1] at h
   by_cases hb : ctl (rn s p : Int) = true ∨ looseB s p = true
   · rw [if_pos hb] at h
     cases h
     exact ⟨lead_bad s f p acc hp h34 c1 hb, by omega⟩
   · rw [if_neg hb] at h
     have hn : ∀ x : List UInt8 × Nat, (Sum.inl x : (List UInt8 × Nat) ⊕ Nat) = .inr k → False := fun x hx => by cases hx
     exact (hn _ h).elim
end Go.Proofs.YtmahamdmapbilaaGreatDoor
