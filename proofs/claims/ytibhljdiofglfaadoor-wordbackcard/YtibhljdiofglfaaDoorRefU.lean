/- What the document's digit, Put, Escape answer: at every text of at most 2^20 bytes. -/
import Derived.Test.YtibhljdiofglfaaDoorEso
import Derived.Test.YtibhljdiofglfaaDoorRct
import Derived.Test.YtibhljdiofglfaaDoorTak
namespace Go.Proofs.YtibhljdiofglfaaDoor
open Go.RowKit Go.Shelf

theorem one_new (W : World) (a : Value) (t : TypeId) : ∀ j u, [a][j]? = some u → (W.alloc (.cells #[a] t)).cell? ((⟨W.heap.size, 0, none⟩ : Addr).add j) = some u := by
  intro j u h
  have hg : (W.alloc (.cells #[a] t)).heap[W.heap.size]? = some (.cells #[a] t) := get_new rfl
  have ha : (⟨W.heap.size, 0, none⟩ : Addr).add j = ⟨W.heap.size, j, none⟩ := by unfold Addr.add; split <;> simp_all
  rw [ha, cell_of hg j, ← h]
  simp
theorem two_new (W : World) (a b : Value) (t : TypeId) : ∀ j u, [a, b][j]? = some u → (W.alloc (.cells #[a, b] t)).cell? ((⟨W.heap.size, 0, none⟩ : Addr).add j) = some u := by
  intro j u h
  have hg : (W.alloc (.cells #[a, b] t)).heap[W.heap.size]? = some (.cells #[a, b] t) := get_new rfl
  have ha : (⟨W.heap.size, 0, none⟩ : Addr).add j = ⟨W.heap.size, j, none⟩ := by unfold Addr.add; split <;> simp_all
  rw [ha, cell_of hg j, ← h]
  simp
/-- A block of one byte that was just made is a row. -/
theorem three_new (W : World) (a b c : Value) (t : TypeId) : ∀ j u, [a, b, c][j]? = some u → (W.alloc (.cells #[a, b, c] t)).cell? ((⟨W.heap.size, 0, none⟩ : Addr).add j) = some u := by
  intro j u h
  have hg : (W.alloc (.cells #[a, b, c] t)).heap[W.heap.size]? = some (.cells #[a, b, c] t) := get_new rfl
  have ha : (⟨W.heap.size, 0, none⟩ : Addr).add j = ⟨W.heap.size, j, none⟩ := by unfold Addr.add; split <;> simp_all
  rw [ha, cell_of hg j, ← h]
  simp

theorem one_row (W : World) (v : Int) (n : Nat) (h : v = n) (hn : n < 256) : (W.alloc (.cells #[.int .u8 v] 5)).ownsRow W.heap.size 5 1 (.slice (some ⟨W.heap.size, 0, none⟩) 1 1) 1 (Lib.byteCells [UInt8.ofNat n]) := by
  have e : Lib.byteCells [UInt8.ofNat n] = [.int .u8 v] := by
    show [Value.int .u8 ((UInt8.ofNat n).toNat : Int)] = _
    rw [ofNat8 n hn, h]
  rw [e]
  refine ⟨rfl, Or.inr ⟨W.heap.size, 1, #[.int .u8 v], rfl, Nat.le_refl _, get_new rfl, ?_, ?_, ?_, ?_⟩⟩
  all_goals first | rfl | (unfold maxLen; omega) | decide | skip
theorem ret_i64 {a b : Int} (h : a = b) : Ending.returned (.int .i64 a) = .returned (.int .i64 b) := by rw [h]
set_option maxHeartbeats 1000000 in
set_option maxRecDepth 100000 in
theorem refDigit_any (s : ByteArray) (k : Nat) (w : World) :
    Calls Tryd.prog 68 #[.string s, .int .i64 k] w fun e w' => e = .returned (.int .i64 (hexV (byt s k))) ∧ w' = w := by
  by_cases h : k < s.size
  · have hb := byt_get h
    have hi : (k : Int) < (s.size : Int) := by omega
    have hlt := (s[k]'h).toNat_lt
    have HB : Hid (byt s k = (s[k]'h).toNat) := hb
    have HV : Hid (∀ z : Int, (∀ b : Nat, b = (s[k]'h).toNat → hexV b = z) → hexV (byt s k) = z) := fun z hz => hz _ hb
    clear hb
    go_enter Tryd.func68, Tryd.ntmps68
    go_wp2
    all_goals
      go_ret
      refine ⟨ret_i64 ?_, rfl⟩
      rw [HB.out]
      unfold hexV
      (repeat' split) <;> omega
  · have HB : Hid (hexV (byt s k) = -1) := by show hexV (byt s k) = -1; rw [byt_out h]; rfl
    have hi : ¬ (k : Int) < (s.size : Int) := by omega
    go_enter Tryd.func68, Tryd.ntmps68
    go_wp2
    go_ret
    rw [HB.out]
    exact ⟨rfl, rfl⟩

theorem okR_code (r : Nat) (h : okR r = true) : code (r : Int) = r := by
  unfold okR at h
  have h := of_decide_eq_true h
  unfold code Utf8.valid
  rw [if_pos]
  · rfl
  · simp only [Bool.or_eq_true, Bool.and_eq_true, decide_eq_true_eq]
    omega
theorem infoB : (Tryd.prog.info? 5).map (fun i => (i.zero, i.size, i.bytes)) = some (some (.int .u8 0), 1, 1) := by kernel_rfl
theorem cell8 (v : Int) (n : Nat) (h : v = n) (hn : n < 256) : Value.int .u8 v = .int .u8 ((UInt8.ofNat n).toNat : Int) := by rw [ofNat8 n hn, h]

set_option maxHeartbeats 2000000 in
set_option maxRecDepth 100000 in
theorem refPut_any (r : Nat) (hr : okR r = true) (w : World) :
    Calls Tryd.prog 69 #[.slice none 0 0, .int .i64 r] w fun e w' => ∃ v, e = .returned v ∧ w'.ownsRow w.heap.size 5 1 v (Utf8.encode (r : Int)).data.toList.length (Lib.byteCells (Utf8.encode (r : Int)).data.toList) ∧ Below w.heap.size w w' := by
  have hle : r ≤ 1114111 := by unfold okR at hr; have := of_decide_eq_true hr; omega
  have HC := okR_code r hr
  obtain ⟨ic, hic, hz0, hz1, hz2⟩ := info_parts infoB
  have HE := enc_list (r : Int)
  rw [HC] at HE
  generalize (Utf8.encode (r : Int)).data.toList = L at HE ⊢
  by_cases c1 : r < 128
  · rw [if_pos c1] at HE
    have HL : Hid (L = _) := HE
    clear HE
    have c1i : (r : Int) < 128 := by omega
    go_enter Tryd.func69, Tryd.ntmps69
    go_wp2_with (at_builtin; refine wpList_append_own _ rfl _ _ 46 rfl w.heap.size 5 ic _ 1 1 Tryd.underlying46 hic hz0 hz1 hz2 rfl (by decide) _ _ _ rfl (World.ownsRow_nil _ _ _ _) ⟨w.heap.size, 0, none⟩ 1 1 [_] rfl rfl (one_new _ _ _) (by simp [Value.oneCell']) (by unfold maxLen; omega) (by omega) (by simp) ?_; intro v' w2 hown' hgrow _)
    go_ret
    refine ⟨_, rfl, ?_, ((Below.refl _ w).alloc (Nat.le_refl _) _).grown hgrow (by simp) (fun k hk => by cases hk)⟩
    have e : Lib.byteCells [UInt8.ofNat (r)] = [.int .u8 (((r : Nat) : Int))] := by
      unfold Lib.byteCells
      simp only [List.map_cons, List.map_nil]
      rw [ofNat8 (r) (by omega)]
    rw [HL.out, e]
    simp only [List.nil_append] at hown'
    exact hown'
  rw [if_neg c1] at HE
  have c1i : ¬ (r : Int) < 128 := by omega
  by_cases c2 : r < 2048
  · rw [if_pos c2] at HE
    have HL : Hid (L = _) := HE
    clear HE
    have c2i : (r : Int) < 2048 := by omega
    go_enter Tryd.func69, Tryd.ntmps69
    go_wp2_with (at_builtin; refine wpList_append_own _ rfl _ _ 46 rfl w.heap.size 5 ic _ 1 1 Tryd.underlying46 hic hz0 hz1 hz2 rfl (by decide) _ _ _ rfl (World.ownsRow_nil _ _ _ _) ⟨w.heap.size, 0, none⟩ 2 2 [_, _] rfl rfl (two_new _ _ _ _) (by simp [Value.oneCell']) (by unfold maxLen; omega) (by omega) (by simp) ?_; intro v' w2 hown' hgrow _)
    go_ret
    refine ⟨_, rfl, ?_, ((Below.refl _ w).alloc (Nat.le_refl _) _).grown hgrow (by simp) (fun k hk => by cases hk)⟩
    have e : Lib.byteCells [UInt8.ofNat (192 + r / 64), UInt8.ofNat (128 + r % 64)] = [.int .u8 (((192 + r / 64 : Nat) : Int)), .int .u8 (((128 + r % 64 : Nat) : Int))] := by
      unfold Lib.byteCells
      simp only [List.map_cons, List.map_nil]
      rw [ofNat8 (192 + r / 64) (by omega), ofNat8 (128 + r % 64) (by omega)]
    rw [HL.out, e]
    simp only [List.nil_append] at hown'
    exact hown'
  rw [if_neg c2] at HE
  have c2i : ¬ (r : Int) < 2048 := by omega
  by_cases c3 : r < 65536
  · rw [if_pos c3] at HE
    have HL : Hid (L = _) := HE
    clear HE
    have c3i : (r : Int) < 65536 := by omega
    go_enter Tryd.func69, Tryd.ntmps69
    go_wp2_with (at_builtin; refine wpList_append_own _ rfl _ _ 46 rfl w.heap.size 5 ic _ 1 1 Tryd.underlying46 hic hz0 hz1 hz2 rfl (by decide) _ _ _ rfl (World.ownsRow_nil _ _ _ _) ⟨w.heap.size, 0, none⟩ 3 3 [_, _, _] rfl rfl (three_new _ _ _ _ _) (by simp [Value.oneCell']) (by unfold maxLen; omega) (by omega) (by simp) ?_; intro v' w2 hown' hgrow _)
    go_ret
    refine ⟨_, rfl, ?_, ((Below.refl _ w).alloc (Nat.le_refl _) _).grown hgrow (by simp) (fun k hk => by cases hk)⟩
    have e : Lib.byteCells [UInt8.ofNat (224 + r / 4096), UInt8.ofNat (128 + r / 64 % 64), UInt8.ofNat (128 + r % 64)] = [.int .u8 (((224 + r / 4096 : Nat) : Int)), .int .u8 (((128 + r / 64 % 64 : Nat) : Int)), .int .u8 (((128 + r % 64 : Nat) : Int))] := by
      unfold Lib.byteCells
      simp only [List.map_cons, List.map_nil]
      rw [ofNat8 (224 + r / 4096) (by omega), ofNat8 (128 + r / 64 % 64) (by omega), ofNat8 (128 + r % 64) (by omega)]
    rw [HL.out, e]
    simp only [List.nil_append] at hown'
    exact hown'
  · rw [if_neg c3] at HE
    have HL : Hid (L = _) := HE
    clear HE
    have c3i : ¬ (r : Int) < 65536 := by omega
    go_enter Tryd.func69, Tryd.ntmps69
    go_wp2_with (at_builtin; refine wpList_append_own _ rfl _ _ 46 rfl w.heap.size 5 ic _ 1 1 Tryd.underlying46 hic hz0 hz1 hz2 rfl (by decide) _ _ _ rfl (World.ownsRow_nil _ _ _ _) ⟨w.heap.size, 0, none⟩ 4 4 [_, _, _, _] rfl rfl (four_new _ _ _ _ _ _) (by simp [Value.oneCell']) (by unfold maxLen; omega) (by omega) (by simp) ?_; intro v' w2 hown' hgrow _)
    go_ret
    refine ⟨_, rfl, ?_, ((Below.refl _ w).alloc (Nat.le_refl _) _).grown hgrow (by simp) (fun k hk => by cases hk)⟩
    have e : Lib.byteCells [UInt8.ofNat (240 + r / 262144), UInt8.ofNat (128 + r / 4096 % 64), UInt8.ofNat (128 + r / 64 % 64), UInt8.ofNat (128 + r % 64)] = [.int .u8 (((240 + r / 262144 : Nat) : Int)), .int .u8 (((128 + r / 4096 % 64 : Nat) : Int)), .int .u8 (((128 + r / 64 % 64 : Nat) : Int)), .int .u8 (((128 + r % 64 : Nat) : Int))] := by
      unfold Lib.byteCells
      simp only [List.map_cons, List.map_nil]
      rw [ofNat8 (240 + r / 262144) (by omega), ofNat8 (128 + r / 4096 % 64) (by omega), ofNat8 (128 + r / 64 % 64) (by omega), ofNat8 (128 + r % 64) (by omega)]
    rw [HL.out, e]
    simp only [List.nil_append] at hown'
    exact hown'
end Go.Proofs.YtibhljdiofglfaaDoor
