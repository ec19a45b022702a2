/- What Mend and Back of the document answer: at every text of at most 2^20 bytes; and how two lists of characters are compared. -/
import Derived.Test.YtgihafldphpncabRefM
import Derived.Test.YtgihafldphpncabMnd
import Derived.Test.YtgihafldphpncabBck
import Derived.Lib.AppendStr
import Derived.Laws.BytesArg
namespace Go.Proofs.Ytgihafldphpncab
open Go.RowKit Go.Shelf

theorem conv_own {W : World} {base n : Nat} {v : Value} {l : List UInt8} (h : W.ownsRow base 5 1 v n (Lib.byteCells l)) (hl : l.length = n) :
    (convert 54 9 v).run Try.prog W = .ok (.string ⟨l.toArray⟩) W := by
  obtain ⟨ad, cap, rfl, hc⟩ := ownsRow_form h
  by_cases h0 : 0 < n
  · obtain ⟨g, rfl, _, _, _, hcell⟩ := hc h0
    have := run_convert_bytes_back (P := Try.prog) W 54 9 5 ⟨g, 0, none⟩ cap l Try.underlying54 Try.underlying5 Try.underlying9 (fun j hj => by
      have ha : (⟨g, 0, none⟩ : Addr).add j = ⟨g, j, none⟩ := by unfold Addr.add; split <;> simp_all
      rw [ha]
      exact hcell j _ (by simp [Lib.byteCells, hj]))
    rw [hl] at this
    exact this
  · have hl0 : l = [] := List.length_eq_zero_iff.1 (by omega)
    obtain rfl : n = 0 := by omega
    subst hl0
    cases ad with
    | none => exact run_convert_bytes_nil (P := Try.prog) W 54 5 Try.underlying54 Try.underlying5 0 cap 9 Try.underlying9
    | some a => exact run_convert_bytes_back (P := Try.prog) W 54 9 5 a cap [] Try.underlying54 Try.underlying5 Try.underlying9 (fun j hj => by simp at hj)

theorem ext_chB (s : ByteArray) (p : Nat) : (s.extract p (p + wd s p)).data.toList = chB s p := by
  rw [ByteArray.data_extract, Array.toList_extract]
  unfold chB
  simp [List.extract]
theorem three_new (W : World) (a b c : Value) (t : TypeId) : ∀ j u, [a, b, c][j]? = some u → (W.alloc (.cells #[a, b, c] t)).cell? ((⟨W.heap.size, 0, none⟩ : Addr).add j) = some u := by
  intro j u h
  have hg : (W.alloc (.cells #[a, b, c] t)).heap[W.heap.size]? = some (.cells #[a, b, c] t) := get_new rfl
  have ha : (⟨W.heap.size, 0, none⟩ : Addr).add j = ⟨W.heap.size, j, none⟩ := by unfold Addr.add; split <;> simp_all
  rw [ha, cell_of hg j, ← h]
  simp

theorem enl_snoc (s : ByteArray) (pre : List Nat) (p : Nat) : enl (runes s (pre ++ [p])) = enl (runes s pre) ++ (Utf8.encode (rn s p : Int)).data.toList := by
  unfold runes
  rw [List.map_append, enl_append, List.map_cons, List.map_nil]
  unfold enl
  rw [wr, wr, List.append_nil]
theorem enc_fffd : (Utf8.encode 65533).data.toList = [239, 191, 189] := by decide +kernel

set_option maxHeartbeats 2000000 in
theorem refMend_any (s : ByteArray) (hs : s.size ≤ 1048576) (w : World) :
    Calls Try.prog 17 #[.string s] w fun e w' => e = .returned (.string (mendB s)) ∧ Below w.heap.size w w' := by
  have hlen := starts_length s
  obtain ⟨ic, hic, hz0, hz1, hz2⟩ := info_parts infoByte8
  go_enter Try.func17, Try.ntmps17
  go_wp2
  go_loopw [3, 4] (fun b i wx => ∃ (pos fuel : Nat) (pre : List Nat), starts s = pre ++ startsFrom s fuel pos ∧ s.size ≤ pos + fuel ∧ i = .int .i64 pos ∧ wx.ownsRow w.heap.size 5 1 b (enl (runes s pre)).length (Lib.byteCells (enl (runes s pre))) ∧ Below w.heap.size w wx) (fun _ i _ => s.size - (intOf i).toNat)
  case atStart =>
    exact ⟨0, s.size, [], rfl, by omega, rfl, World.ownsRow_nil _ _ _ _, Below.refl _ w⟩
  case round =>
    obtain ⟨pos, fuel, pre, hst, hfu, rfl, hrow, hb⟩ := hrel
    by_cases hp : pos < s.size
    · obtain ⟨f, rfl⟩ : ∃ f, fuel = f + 1 := ⟨fuel - 1, by omega⟩
      rw [startsFrom_step s f pos hp] at hst
      have hll : pre.length + 1 ≤ s.size := by rw [hst] at hlen; simp at hlen; omega
      have hwl : (enl (runes s pre)).length ≤ 4 * pre.length := by have := wr_len (runes s pre); rwa [show (runes s pre).length = pre.length by simp [runes]] at this
      have hw1 := wd_le s pos hp
      have hw0 := wd_pos s pos
      have hpi : (pos : Int) < (s.size : Int) := by omega
      have HS : Hid (starts s = pre ++ pos :: startsFrom s f (pos + wd s pos)) := hst
      have HE : Hid (enl (runes s (pre ++ [pos])) = enl (runes s pre) ++ (Utf8.encode (rn s pos : Int)).data.toList) := enl_snoc s pre pos
      clear hst
      have ha := at_any s (by omega) pos hp
      cases hL : looseB s pos with
      | true =>
        have hr3 : rn s pos = 65533 ∧ wd s pos = 1 := by unfold looseB at hL; exact of_decide_eq_true hL
        have HC : Hid ((Utf8.encode (rn s pos : Int)).data.toList = [239, 191, 189]) := by
          show (Utf8.encode (rn s pos : Int)).data.toList = [239, 191, 189]
          rw [hr3.1]
          exact enc_fffd
        rw [hL] at ha
        go_wp2_with fail
        refine (ha _).mono ?_
        rintro e w1 ⟨rfl, nq, rfl⟩
        have hrow1 : (wr.drewN nq).ownsRow w.heap.size 5 1 u3 (enl (runes s pre)).length (Lib.byteCells (enl (runes s pre))) := hrow
        have hb1 := below_drewN hb nq
        clear hrow hb
        generalize wr.drewN nq = wx at *
        have hsx := hb1.size
        go_wp2_with (at_builtin; refine wpList_append_own _ rfl _ _ 54 rfl w.heap.size 5 ic _ 1 1 Try.underlying54 hic hz0 hz1 hz2 rfl (by decide) _ _ _ rfl (hrow1.alloc _) ⟨wx.heap.size, 0, none⟩ 3 3 [.int .u8 239, .int .u8 191, .int .u8 189] rfl rfl (three_new _ _ _ _ _) (by simp [Value.oneCell']) (by unfold maxLen; omega) (by omega) (by simp; omega) ?_; intro v' w2 hown' hgrow _)
        go_roundw
        case rel =>
          refine ⟨pos + 1, f, pre ++ [pos], by rw [HS.out, hr3.2]; simp, by omega, by go_num, ?_, ?_⟩
          · rw [HE.out, HC.out, List.length_append, Lib.byteCells_append]
            exact hown'
          · exact (hb1.alloc (by omega) _).grown hgrow (by simp; omega) (fun k hk => (ownsRow_block hrow1 k hk).1)
        case measure =>
          simp [intOf]
          omega
      | false =>
        rw [hL] at ha
        go_wp2_with fail
        refine (ha _).mono ?_
        rintro e w1 ⟨rfl, nq, rfl⟩
        have hrow1 : (wr.drewN nq).ownsRow w.heap.size 5 1 u3 (enl (runes s pre)).length (Lib.byteCells (enl (runes s pre))) := hrow
        have hb1 := below_drewN hb nq
        clear hrow hb
        generalize wr.drewN nq = wx at *
        have hsx := hb1.size
        have hez : (s.extract pos (pos + wd s pos)).size = wd s pos := by rw [ByteArray.size_extract]; omega
        go_wp2_with (at_builtin; refine Lib.wpList_append_own_string _ rfl _ _ 54 9 rfl w.heap.size 5 ic Try.underlying54 Try.underlying9 hic hz0 hz1 hz2 _ _ _ rfl hrow1 (s.extract pos (pos + wd s pos)) rfl (by unfold maxLen; omega) (by omega) (by omega) ?_; intro v' w2 hown' hgrow _)
        have HX : Hid ((s.extract pos (pos + wd s pos)).data.toList = (Utf8.encode (rn s pos : Int)).data.toList) := (ext_chB s pos).trans (char_bytes s pos hp hL).symm
        go_roundw
        case rel =>
          refine ⟨pos + wd s pos, f, pre ++ [pos], by rw [HS.out]; simp, by omega, by go_num, ?_, ?_⟩
          · have hl : (Utf8.encode (rn s pos : Int)).data.toList.length = (s.extract pos (pos + wd s pos)).size := by rw [← HX.out, Array.length_toList]; rfl
            rw [HE.out, List.length_append, hl, Lib.byteCells_append, ← HX.out]
            exact hown'
          · exact hb1.grown hgrow (by omega) (fun k hk => (ownsRow_block hrow1 k hk).1)
        case measure =>
          simp [intOf]
          omega
    · rw [startsFrom_end s fuel pos hp, List.append_nil] at hst
      subst hst
      have hcv := conv_own hrow rfl
      go_wp2
      go_ret
      exact ⟨rfl, hb⟩

theorem step_append_string_in {F : Fence} {n : Nat} {P : Program} {ops : Array Oper} {o : Oper} {a : Act} {w : World} {K : Act → World → Prop} {Q : Exit → Act → World → Prop} {E : Prop} (hro : F.round = none) (hg : o.guard = none)
    (sl x : Operand) (t u : TypeId) (ho : o.op = .call { callee := .builtin .append, args := #[sl, x], argTypes := #[t, u] }) (v : Value) (s : ByteArray) (hs : a.eval sl = v) (hx : a.eval x = .string s)
    (v' : Value) (w' : World) (hr : (Builtin.append_ #[t, u] o.type #[v, .string s]).run P w = .ok v' w') (hK : K (a.put o.dst v') w') : if Region.wanted o (yielded ops a.tmps) = true then Oper.wpIn F n P o a w K Q else E := by
  rw [if_pos (by simp [Region.wanted, hg])]
  unfold Oper.wpIn
  rw [hro, Oper.semAt_none]
  refine ⟨fun f hf => ?_, ?_⟩
  · simp [Oper.about, ho, resolve, Target.leads] at hf
  · unfold execOp
    simp only [ho, resolve, invoke, builtin, Sem.run_bind, Sem.run_pure, Result.andThen_ok, List.map_toArray, List.map_cons, List.map_nil, hs, hx, hr]
    exact hK
theorem backL_le (s : ByteArray) : ∀ l : List Nat, (backL s l).length ≤ 4 * l.length
  | [] => Nat.le_refl _
  | p :: r => by
    have h1 := backL_le s r
    have h2 : (chB s p).length ≤ wd s p := List.length_take_le _ _
    have h3 := wd_le4 s p
    rw [backL, List.length_append, List.length_cons]
    omega

set_option maxHeartbeats 2000000 in
theorem refBack_any (s : ByteArray) (hs : s.size ≤ 1048576) (w : World) :
    Calls Try.prog 19 #[.string s] w fun e w' => e = .returned (.string (backB s)) ∧ Below w.heap.size w w' := by
  have hlen := starts_length s
  obtain ⟨ic, hic, hz0, hz1, hz2⟩ := info_parts infoByte8
  go_enter Try.func19, Try.ntmps19
  go_wp2_with fail
  refine (list_any s hs _).mono ?_
  rintro e w1 ⟨v, rfl, hrow, hb⟩
  obtain ⟨ad, cap, rfl, hform⟩ := ownsRow_form hrow
  clear hrow
  have hwr : IntKind.i64.wrap (((starts s).length : Int) - 1) = ((starts s).length : Int) - 1 := by rw [IntKind.wrap_i64]; omega
  go_wp2
  go_loopw [4, 5] (fun b i wx => ∃ (k : Nat) (z : Int), k ≤ (starts s).length ∧ z = (k : Int) - 1 ∧ i = .int .i64 z ∧ wx.ownsRow w1.heap.size 5 1 b (backL s ((starts s).drop k)).length (Lib.byteCells (backL s ((starts s).drop k))) ∧ Below w1.heap.size w1 wx) (fun _ i _ => (intOf i + 1).toNat)
  case atStart =>
    refine ⟨(starts s).length, _, Nat.le_refl _, rfl, rfl, ?_, Below.refl _ w1⟩
    rw [List.drop_length]
    exact World.ownsRow_nil _ _ _ _
  case round =>
    obtain ⟨k, z, hk, hz, rfl, hrow, hbx⟩ := hrel
    by_cases h0 : 0 < k
    · obtain ⟨j, rfl⟩ : ∃ j, k = j + 1 := ⟨k - 1, by omega⟩
      obtain rfl : z = (j : Int) := by omega
      clear hz
      obtain ⟨g, rfl, hg1, hg2, hg3, hcells⟩ := hform (by omega)
      have hjl : j < (starts s).length := by omega
      have hget : (starts s)[j]? = some (starts s)[j] := List.getElem?_eq_getElem hjl
      have hp : (starts s)[j] < s.size := starts_lt s _ (List.getElem_mem hjl)
      have HD : Hid (backL s ((starts s).drop j) = backL s ((starts s).drop (j + 1)) ++ chB s (starts s)[j]) := by
        show backL s ((starts s).drop j) = _
        rw [List.drop_eq_getElem_cons hjl, backL]
      have hle := backL_le s ((starts s).drop (j + 1))
      rw [List.length_drop] at hle
      generalize (starts s)[j] = p at *
      have hwd := wd_le s p hp
      have hwp := wd_pos s p
      have c1 : wr.cell? ⟨g, j * 4 + 1, none⟩ = some (.int .i64 p) := (hbx.cell (p := ⟨g, j * 4 + 1, none⟩) hg2).trans (hcells _ _ (flat_get s _ j 1 p hget (by omega)))
      have c2 : wr.cell? ⟨g, j * 4 + 2, none⟩ = some (.int .i64 (wd s p)) := (hbx.cell (p := ⟨g, j * 4 + 2, none⟩) hg2).trans (hcells _ _ (flat_get s _ j 2 p hget (by omega)))
      have hji : (j : Int) < ((starts s).length : Int) := by omega
      have hez : (s.extract p (p + wd s p)).size = wd s p := by rw [ByteArray.size_extract]; omega
      have hsx := hbx.size
      have HX : Hid ((s.extract p (p + wd s p)).data.toList = chB s p) := ext_chB s p
      clear hform hcells hget
      have hwr2 : IntKind.i64.wrap ((j : Int) - 1) = (j : Int) - 1 := by rw [IntKind.wrap_i64]; omega
      go_wp2_with fail
      refine wp_mono (Q := fun e a w2 => e = .normal ∧ ∃ v2, a = { tmps := #[.string s, undef, .string ⟨#[]⟩, .slice (some ⟨g, 0, none⟩) (starts s).length cap, v2, .int .i64 (j : Int), .string s, .slice (some ⟨g, 0, none⟩) (starts s).length cap, .slice (some ⟨g, 0, none⟩) (starts s).length cap, .int .i64 ((starts s).length : Int), .int .i64 (((starts s).length : Int) - 1), .int .i64 (j : Int), .bool true, u13, u14, u4, .string s, .slice (some ⟨g, 0, none⟩) (starts s).length cap, .int .i64 (j : Int), .pointer (some ⟨g, j * 4, none⟩), .pointer (some ⟨g, j * 4 + 1, none⟩), .int .i64 (p : Int), .slice (some ⟨g, 0, none⟩) (starts s).length cap, .int .i64 (j : Int), .pointer (some ⟨g, j * 4, none⟩), .pointer (some ⟨g, j * 4 + 1, none⟩), .int .i64 (p : Int), .slice (some ⟨g, 0, none⟩) (starts s).length cap, .int .i64 (j : Int), .pointer (some ⟨g, j * 4, none⟩), .pointer (some ⟨g, j * 4 + 2, none⟩), .int .i64 (wd s p : Int), .int .i64 ((p : Int) + (wd s p : Int)), .string (s.extract p (p + wd s p)), v2, undef, undef], defers := [] } ∧ w2.ownsRow w1.heap.size 5 1 v2 ((backL s ((starts s).drop (j + 1))).length + (s.extract p (p + wd s p)).size) (Lib.byteCells (backL s ((starts s).drop (j + 1))) ++ Lib.strCells (s.extract p (p + wd s p))) ∧ Below w1.heap.size w1 w2) ?_ ?_
      · have hmx : Try.prog.follows .mixedOrders = true := by kernel_rfl
        rename_i Q1 K1 hK1
        clear hK1 K1 hwr hwr2 HD HX
        refine (wpIn_wide (n := 0)).1 ?_
        refine wpIn_region_any hmx ?_
        show wpAnyIn _ _ _ _ _ _ 21 _ _ wr.drew
        have d1 : wr.drew.cell? ⟨g, j * 4 + 1, none⟩ = some (.int .i64 (p : Int)) := c1
        have d2 : wr.drew.cell? ⟨g, j * 4 + 2, none⟩ = some (.int .i64 (wd s p : Int)) := c2
        have hbV : Below w1.heap.size w1 wr.drew := hbx.trans ⟨rfl, rfl, rfl, Nat.le_refl _, fun _ _ => rfl⟩
        have hrV : wr.drew.ownsRow w1.heap.size 5 1 u4 (backL s ((starts s).drop (j + 1))).length (Lib.byteCells (backL s ((starts s).drop (j + 1)))) := hrow
        clear c1 c2 hbx hrow
        generalize wr.drew = V at *
        have hap := Lib.run_append_own_string (P := Try.prog) V w1.heap.size 54 9 54 5 ic Try.underlying54 Try.underlying9 hic hz0 hz1 hz2 _ _ _ hrV (s.extract p (p + wd s p)) (by unfold maxLen; omega) (by omega) (by have := hbV.size; omega)
        obtain ⟨v2, w3, hrun, hown, hgrow, _⟩ := hap
        have hfin : w3.ownsRow w1.heap.size 5 1 v2 ((backL s ((starts s).drop (j + 1))).length + (s.extract p (p + wd s p)).size) (Lib.byteCells (backL s ((starts s).drop (j + 1))) ++ Lib.strCells (s.extract p (p + wd s p))) ∧ Below w1.heap.size w1 w3 := ⟨hown, hbV.grown hgrow (by have := hbV.size; omega) (fun k hk => (ownsRow_block hrV k hk).1)⟩
        clear hown hgrow hbV hrV
        have hc2 : 0 ≤ (p : Int) + (wd s p : Int) ∧ (p : Int) + (wd s p : Int) ≤ (s.size : Int) := by omega
        have hwr3 : IntKind.i64.wrap ((p : Int) + (wd s p : Int)) = (p : Int) + (wd s p : Int) := by rw [IntKind.wrap_i64]; omega
        have hc3 : (p : Int) ≤ (p : Int) + (wd s p : Int) := by omega
        have htm : ((p : Int) + (wd s p : Int)).toNat = p + wd s p := by omega
        refine wpAnyIn_inv (fun k listed a w2 => (∃ b0 b1 b2 b3 b4 b5 b6 b7 b8 b9 b10 b11 b12 b13 b14 b15 b16 b17 b18 : Bool, (b4 = true → b2 = true ∧ b3 = true) ∧ (b5 = true → b4 = true) ∧ (b6 = true → b5 = true) ∧ (b9 = true → b7 = true ∧ b8 = true) ∧ (b10 = true → b9 = true) ∧ (b11 = true → b10 = true) ∧ (b14 = true → b12 = true ∧ b13 = true) ∧ (b15 = true → b14 = true) ∧ (b16 = true → b15 = true) ∧ (b17 = true → b11 = true ∧ b16 = true) ∧ (b18 = true → b1 = true ∧ b6 = true ∧ b17 = true) ∧ fls b0 + fls b1 + fls b2 + fls b3 + fls b4 + fls b5 + fls b6 + fls b7 + fls b8 + fls b9 + fls b10 + fls b11 + fls b12 + fls b13 + fls b14 + fls b15 + fls b16 + fls b17 + fls b18 + 2 = k ∧ listed = #[b0, b1, b2, b3, b4, b5, b6, b7, b8, b9, b10, b11, b12, b13, b14, b15, b16, b17, b18, false, false] ∧ a = { tmps := #[.string s, undef, .string ⟨#[]⟩, .slice (some ⟨g, 0, none⟩) (starts s).length cap, u4, .int .i64 (j : Int), .string s, .slice (some ⟨g, 0, none⟩) (starts s).length cap, .slice (some ⟨g, 0, none⟩) (starts s).length cap, .int .i64 ((starts s).length : Int), .int .i64 (((starts s).length : Int) - 1), .int .i64 (j : Int), .bool true, u13, u14, bif b0 then u4 else u15, bif b1 then .string s else u16, bif b2 then .slice (some ⟨g, 0, none⟩) (starts s).length cap else u17, bif b3 then .int .i64 (j : Int) else u18, bif b4 then .pointer (some ⟨g, j * 4, none⟩) else u19, bif b5 then .pointer (some ⟨g, j * 4 + 1, none⟩) else u20, bif b6 then .int .i64 (p : Int) else u21, bif b7 then .slice (some ⟨g, 0, none⟩) (starts s).length cap else u22, bif b8 then .int .i64 (j : Int) else u23, bif b9 then .pointer (some ⟨g, j * 4, none⟩) else u24, bif b10 then .pointer (some ⟨g, j * 4 + 1, none⟩) else u25, bif b11 then .int .i64 (p : Int) else u26, bif b12 then .slice (some ⟨g, 0, none⟩) (starts s).length cap else u27, bif b13 then .int .i64 (j : Int) else u28, bif b14 then .pointer (some ⟨g, j * 4, none⟩) else u29, bif b15 then .pointer (some ⟨g, j * 4 + 2, none⟩) else u30, bif b16 then .int .i64 (wd s p : Int) else u31, bif b17 then .int .i64 ((p : Int) + (wd s p : Int)) else u32, bif b18 then .string (s.extract p (p + wd s p)) else u33, u34, undef, undef], defers := [] } ∧ w2 = V) ∨ (k = 1 ∧ listed = #[true, true, true, true, true, true, true, true, true, true, true, true, true, true, true, true, true, true, true, true, false] ∧ ∃ v2, a = { tmps := #[.string s, undef, .string ⟨#[]⟩, .slice (some ⟨g, 0, none⟩) (starts s).length cap, u4, .int .i64 (j : Int), .string s, .slice (some ⟨g, 0, none⟩) (starts s).length cap, .slice (some ⟨g, 0, none⟩) (starts s).length cap, .int .i64 ((starts s).length : Int), .int .i64 (((starts s).length : Int) - 1), .int .i64 (j : Int), .bool true, u13, u14, u4, .string s, .slice (some ⟨g, 0, none⟩) (starts s).length cap, .int .i64 (j : Int), .pointer (some ⟨g, j * 4, none⟩), .pointer (some ⟨g, j * 4 + 1, none⟩), .int .i64 (p : Int), .slice (some ⟨g, 0, none⟩) (starts s).length cap, .int .i64 (j : Int), .pointer (some ⟨g, j * 4, none⟩), .pointer (some ⟨g, j * 4 + 1, none⟩), .int .i64 (p : Int), .slice (some ⟨g, 0, none⟩) (starts s).length cap, .int .i64 (j : Int), .pointer (some ⟨g, j * 4, none⟩), .pointer (some ⟨g, j * 4 + 2, none⟩), .int .i64 (wd s p : Int), .int .i64 ((p : Int) + (wd s p : Int)), .string (s.extract p (p + wd s p)), v2, undef, undef], defers := [] } ∧ w2.ownsRow w1.heap.size 5 1 v2 ((backL s ((starts s).drop (j + 1))).length + (s.extract p (p + wd s p)).size) (Lib.byteCells (backL s ((starts s).drop (j + 1))) ++ Lib.strCells (s.extract p (p + wd s p))) ∧ Below w1.heap.size w1 w2) ∨ (k = 0 ∧ listed = #[true, true, true, true, true, true, true, true, true, true, true, true, true, true, true, true, true, true, true, true, true] ∧ ∃ v2, a = { tmps := #[.string s, undef, .string ⟨#[]⟩, .slice (some ⟨g, 0, none⟩) (starts s).length cap, v2, .int .i64 (j : Int), .string s, .slice (some ⟨g, 0, none⟩) (starts s).length cap, .slice (some ⟨g, 0, none⟩) (starts s).length cap, .int .i64 ((starts s).length : Int), .int .i64 (((starts s).length : Int) - 1), .int .i64 (j : Int), .bool true, u13, u14, u4, .string s, .slice (some ⟨g, 0, none⟩) (starts s).length cap, .int .i64 (j : Int), .pointer (some ⟨g, j * 4, none⟩), .pointer (some ⟨g, j * 4 + 1, none⟩), .int .i64 (p : Int), .slice (some ⟨g, 0, none⟩) (starts s).length cap, .int .i64 (j : Int), .pointer (some ⟨g, j * 4, none⟩), .pointer (some ⟨g, j * 4 + 1, none⟩), .int .i64 (p : Int), .slice (some ⟨g, 0, none⟩) (starts s).length cap, .int .i64 (j : Int), .pointer (some ⟨g, j * 4, none⟩), .pointer (some ⟨g, j * 4 + 2, none⟩), .int .i64 (wd s p : Int), .int .i64 ((p : Int) + (wd s p : Int)), .string (s.extract p (p + wd s p)), v2, undef, undef], defers := [] } ∧ w2.ownsRow w1.heap.size 5 1 v2 ((backL s ((starts s).drop (j + 1))).length + (s.extract p (p + wd s p)).size) (Lib.byteCells (backL s ((starts s).drop (j + 1))) ++ Lib.strCells (s.extract p (p + wd s p))) ∧ Below w1.heap.size w1 w2)) ?h0 ?hs 21 _ _ _ (Or.inl ⟨false, false, false, false, false, false, false, false, false, false, false, false, false, false, false, false, false, false, false, by simp, by simp, by simp, by simp, by simp, by simp, by simp, by simp, by simp, by simp, by simp, rfl, rfl, rfl, rfl⟩)
        case h0 =>
          rintro listed a w2 (⟨b0, b1, b2, b3, b4, b5, b6, b7, b8, b9, b10, b11, b12, b13, b14, b15, b16, b17, b18, _, _, _, _, _, _, _, _, _, _, _, h, _⟩ | ⟨h, _⟩ | ⟨_, rfl, v2, rfl, h⟩)
          · omega
          · omega
          · exact ⟨by kernel_rfl, rfl, v2, rfl, h⟩
        case hs =>
          rintro k listed a w2 (⟨b0, b1, b2, b3, b4, b5, b6, b7, b8, b9, b10, b11, b12, b13, b14, b15, b16, b17, b18, q4, q5, q6, q9, q10, q11, q14, q15, q16, q17, q18, hk, rfl, rfl, rfl⟩ | ⟨hk, rfl, v2, rfl, h⟩ | ⟨hk, _⟩)
          · refine ⟨fun h => ?_, fun i hi => ?_⟩
            · have nr := List.eq_nil_iff_forall_not_mem.1 h
              cases b0 with
              | false => exact absurd (mem_ready.2 ⟨rfl, _, rfl, by simp [Region.binds]⟩) (nr 0)
              | true =>
              cases b1 with
              | false => exact absurd (mem_ready.2 ⟨rfl, _, rfl, by simp [Region.binds]⟩) (nr 1)
              | true =>
              cases b2 with
              | false => exact absurd (mem_ready.2 ⟨rfl, _, rfl, by simp [Region.binds]⟩) (nr 2)
              | true =>
              cases b3 with
              | false => exact absurd (mem_ready.2 ⟨rfl, _, rfl, by simp [Region.binds]⟩) (nr 3)
              | true =>
              cases b4 with
              | false => exact absurd (mem_ready.2 ⟨rfl, _, rfl, by simp [Region.binds]⟩) (nr 4)
              | true =>
              cases b5 with
              | false => exact absurd (mem_ready.2 ⟨rfl, _, rfl, by simp [Region.binds]⟩) (nr 5)
              | true =>
              cases b6 with
              | false => exact absurd (mem_ready.2 ⟨rfl, _, rfl, by simp [Region.binds]⟩) (nr 6)
              | true =>
              cases b7 with
              | false => exact absurd (mem_ready.2 ⟨rfl, _, rfl, by simp [Region.binds]⟩) (nr 7)
              | true =>
              cases b8 with
              | false => exact absurd (mem_ready.2 ⟨rfl, _, rfl, by simp [Region.binds]⟩) (nr 8)
              | true =>
              cases b9 with
              | false => exact absurd (mem_ready.2 ⟨rfl, _, rfl, by simp [Region.binds]⟩) (nr 9)
              | true =>
              cases b10 with
              | false => exact absurd (mem_ready.2 ⟨rfl, _, rfl, by simp [Region.binds]⟩) (nr 10)
              | true =>
              cases b11 with
              | false => exact absurd (mem_ready.2 ⟨rfl, _, rfl, by simp [Region.binds]⟩) (nr 11)
              | true =>
              cases b12 with
              | false => exact absurd (mem_ready.2 ⟨rfl, _, rfl, by simp [Region.binds]⟩) (nr 12)
              | true =>
              cases b13 with
              | false => exact absurd (mem_ready.2 ⟨rfl, _, rfl, by simp [Region.binds]⟩) (nr 13)
              | true =>
              cases b14 with
              | false => exact absurd (mem_ready.2 ⟨rfl, _, rfl, by simp [Region.binds]⟩) (nr 14)
              | true =>
              cases b15 with
              | false => exact absurd (mem_ready.2 ⟨rfl, _, rfl, by simp [Region.binds]⟩) (nr 15)
              | true =>
              cases b16 with
              | false => exact absurd (mem_ready.2 ⟨rfl, _, rfl, by simp [Region.binds]⟩) (nr 16)
              | true =>
              cases b17 with
              | false => exact absurd (mem_ready.2 ⟨rfl, _, rfl, by simp [Region.binds]⟩) (nr 17)
              | true =>
              cases b18 with
              | false => exact absurd (mem_ready.2 ⟨rfl, _, rfl, by simp [Region.binds]⟩) (nr 18)
              | true =>
              exact absurd (mem_ready.2 ⟨rfl, _, rfl, by simp [Region.binds]⟩) (nr 19)
            · obtain ⟨hun, o, ho, haf⟩ := mem_ready.1 hi
              have ef : fls false = 1 := rfl
              have et : fls true = 0 := rfl
              have hi21 : i < 21 := by
                have := (Array.getElem?_eq_some_iff.1 ho).1
                simpa using this
              match i, hi21 with
              | 0, _ =>
                simp at hun; subst hun
                clear hi
                refine wpOpIn_step rfl (fun K hK => ?_)
                go_simp
                exact hK _ _ (Or.inl ⟨true, b1, b2, b3, b4, b5, b6, b7, b8, b9, b10, b11, b12, b13, b14, b15, b16, b17, b18, (q4), (q5), (q6), (q9), (q10), (q11), (q14), (q15), (q16), (q17), (q18), by omega, rfl, rfl, rfl⟩)
              | 1, _ =>
                simp at hun; subst hun
                clear hi
                refine wpOpIn_step rfl (fun K hK => ?_)
                go_simp
                exact hK _ _ (Or.inl ⟨b0, true, b2, b3, b4, b5, b6, b7, b8, b9, b10, b11, b12, b13, b14, b15, b16, b17, b18, (q4), (q5), (q6), (q9), (q10), (q11), (q14), (q15), (q16), (q17), (fun h => ⟨rfl, (q18 h).2.1, (q18 h).2.2⟩), by omega, rfl, rfl, rfl⟩)
              | 2, _ =>
                simp at hun; subst hun
                clear hi
                refine wpOpIn_step rfl (fun K hK => ?_)
                go_simp
                exact hK _ _ (Or.inl ⟨b0, b1, true, b3, b4, b5, b6, b7, b8, b9, b10, b11, b12, b13, b14, b15, b16, b17, b18, (fun h => ⟨rfl, (q4 h).2⟩), (q5), (q6), (q9), (q10), (q11), (q14), (q15), (q16), (q17), (q18), by omega, rfl, rfl, rfl⟩)
              | 3, _ =>
                simp at hun; subst hun
                clear hi
                refine wpOpIn_step rfl (fun K hK => ?_)
                go_simp
                exact hK _ _ (Or.inl ⟨b0, b1, b2, true, b4, b5, b6, b7, b8, b9, b10, b11, b12, b13, b14, b15, b16, b17, b18, (fun h => ⟨(q4 h).1, rfl⟩), (q5), (q6), (q9), (q10), (q11), (q14), (q15), (q16), (q17), (q18), by omega, rfl, rfl, rfl⟩)
              | 4, _ =>
                simp at hun; subst hun
                simp at ho; subst ho
                simp [Region.binds] at haf
                obtain ⟨rfl, rfl⟩ := haf
                clear hi
                refine wpOpIn_step rfl (fun K hK => ?_)
                go_simp
                exact hK _ _ (Or.inl ⟨b0, b1, true, true, true, b5, b6, b7, b8, b9, b10, b11, b12, b13, b14, b15, b16, b17, b18, (fun _ => ⟨rfl, rfl⟩), (fun h => rfl), (q6), (q9), (q10), (q11), (q14), (q15), (q16), (q17), (q18), by omega, rfl, rfl, rfl⟩)
              | 5, _ =>
                simp at hun; subst hun
                simp at ho; subst ho
                simp [Region.binds] at haf
                obtain rfl := haf
                obtain ⟨rfl, rfl⟩ := q4 rfl
                clear hi
                refine wpOpIn_step rfl (fun K hK => ?_)
                go_simp
                exact hK _ _ (Or.inl ⟨b0, b1, true, true, true, true, b6, b7, b8, b9, b10, b11, b12, b13, b14, b15, b16, b17, b18, (q4), (fun _ => rfl), (fun h => rfl), (q9), (q10), (q11), (q14), (q15), (q16), (q17), (q18), by omega, rfl, rfl, rfl⟩)
              | 6, _ =>
                simp at hun; subst hun
                simp at ho; subst ho
                simp [Region.binds] at haf
                obtain rfl := haf
                obtain rfl := q5 rfl
                obtain ⟨rfl, rfl⟩ := q4 rfl
                clear hi
                refine wpOpIn_step rfl (fun K hK => ?_)
                go_simp
                exact hK _ _ (Or.inl ⟨b0, b1, true, true, true, true, true, b7, b8, b9, b10, b11, b12, b13, b14, b15, b16, b17, b18, (q4), (q5), (fun _ => rfl), (q9), (q10), (q11), (q14), (q15), (q16), (q17), (fun h => ⟨(q18 h).1, rfl, (q18 h).2.2⟩), by omega, rfl, rfl, rfl⟩)
              | 7, _ =>
                simp at hun; subst hun
                clear hi
                refine wpOpIn_step rfl (fun K hK => ?_)
                go_simp
                exact hK _ _ (Or.inl ⟨b0, b1, b2, b3, b4, b5, b6, true, b8, b9, b10, b11, b12, b13, b14, b15, b16, b17, b18, (q4), (q5), (q6), (fun h => ⟨rfl, (q9 h).2⟩), (q10), (q11), (q14), (q15), (q16), (q17), (q18), by omega, rfl, rfl, rfl⟩)
              | 8, _ =>
                simp at hun; subst hun
                clear hi
                refine wpOpIn_step rfl (fun K hK => ?_)
                go_simp
                exact hK _ _ (Or.inl ⟨b0, b1, b2, b3, b4, b5, b6, b7, true, b9, b10, b11, b12, b13, b14, b15, b16, b17, b18, (q4), (q5), (q6), (fun h => ⟨(q9 h).1, rfl⟩), (q10), (q11), (q14), (q15), (q16), (q17), (q18), by omega, rfl, rfl, rfl⟩)
              | 9, _ =>
                simp at hun; subst hun
                simp at ho; subst ho
                simp [Region.binds] at haf
                obtain ⟨rfl, rfl⟩ := haf
                clear hi
                refine wpOpIn_step rfl (fun K hK => ?_)
                go_simp
                exact hK _ _ (Or.inl ⟨b0, b1, b2, b3, b4, b5, b6, true, true, true, b10, b11, b12, b13, b14, b15, b16, b17, b18, (q4), (q5), (q6), (fun _ => ⟨rfl, rfl⟩), (fun h => rfl), (q11), (q14), (q15), (q16), (q17), (q18), by omega, rfl, rfl, rfl⟩)
              | 10, _ =>
                simp at hun; subst hun
                simp at ho; subst ho
                simp [Region.binds] at haf
                obtain rfl := haf
                obtain ⟨rfl, rfl⟩ := q9 rfl
                clear hi
                refine wpOpIn_step rfl (fun K hK => ?_)
                go_simp
                exact hK _ _ (Or.inl ⟨b0, b1, b2, b3, b4, b5, b6, true, true, true, true, b11, b12, b13, b14, b15, b16, b17, b18, (q4), (q5), (q6), (q9), (fun _ => rfl), (fun h => rfl), (q14), (q15), (q16), (q17), (q18), by omega, rfl, rfl, rfl⟩)
              | 11, _ =>
                simp at hun; subst hun
                simp at ho; subst ho
                simp [Region.binds] at haf
                obtain rfl := haf
                obtain rfl := q10 rfl
                obtain ⟨rfl, rfl⟩ := q9 rfl
                clear hi
                refine wpOpIn_step rfl (fun K hK => ?_)
                go_simp
                exact hK _ _ (Or.inl ⟨b0, b1, b2, b3, b4, b5, b6, true, true, true, true, true, b12, b13, b14, b15, b16, b17, b18, (q4), (q5), (q6), (q9), (q10), (fun _ => rfl), (q14), (q15), (q16), (fun h => ⟨rfl, (q17 h).2⟩), (q18), by omega, rfl, rfl, rfl⟩)
              | 12, _ =>
                simp at hun; subst hun
                clear hi
                refine wpOpIn_step rfl (fun K hK => ?_)
                go_simp
                exact hK _ _ (Or.inl ⟨b0, b1, b2, b3, b4, b5, b6, b7, b8, b9, b10, b11, true, b13, b14, b15, b16, b17, b18, (q4), (q5), (q6), (q9), (q10), (q11), (fun h => ⟨rfl, (q14 h).2⟩), (q15), (q16), (q17), (q18), by omega, rfl, rfl, rfl⟩)
              | 13, _ =>
                simp at hun; subst hun
                clear hi
                refine wpOpIn_step rfl (fun K hK => ?_)
                go_simp
                exact hK _ _ (Or.inl ⟨b0, b1, b2, b3, b4, b5, b6, b7, b8, b9, b10, b11, b12, true, b14, b15, b16, b17, b18, (q4), (q5), (q6), (q9), (q10), (q11), (fun h => ⟨(q14 h).1, rfl⟩), (q15), (q16), (q17), (q18), by omega, rfl, rfl, rfl⟩)
              | 14, _ =>
                simp at hun; subst hun
                simp at ho; subst ho
                simp [Region.binds] at haf
                obtain ⟨rfl, rfl⟩ := haf
                clear hi
                refine wpOpIn_step rfl (fun K hK => ?_)
                go_simp
                exact hK _ _ (Or.inl ⟨b0, b1, b2, b3, b4, b5, b6, b7, b8, b9, b10, b11, true, true, true, b15, b16, b17, b18, (q4), (q5), (q6), (q9), (q10), (q11), (fun _ => ⟨rfl, rfl⟩), (fun h => rfl), (q16), (q17), (q18), by omega, rfl, rfl, rfl⟩)
              | 15, _ =>
                simp at hun; subst hun
                simp at ho; subst ho
                simp [Region.binds] at haf
                obtain rfl := haf
                obtain ⟨rfl, rfl⟩ := q14 rfl
                clear hi
                refine wpOpIn_step rfl (fun K hK => ?_)
                go_simp
                exact hK _ _ (Or.inl ⟨b0, b1, b2, b3, b4, b5, b6, b7, b8, b9, b10, b11, true, true, true, true, b16, b17, b18, (q4), (q5), (q6), (q9), (q10), (q11), (q14), (fun _ => rfl), (fun h => rfl), (q17), (q18), by omega, rfl, rfl, rfl⟩)
              | 16, _ =>
                simp at hun; subst hun
                simp at ho; subst ho
                simp [Region.binds] at haf
                obtain rfl := haf
                obtain rfl := q15 rfl
                obtain ⟨rfl, rfl⟩ := q14 rfl
                clear hi
                refine wpOpIn_step rfl (fun K hK => ?_)
                go_simp
                exact hK _ _ (Or.inl ⟨b0, b1, b2, b3, b4, b5, b6, b7, b8, b9, b10, b11, true, true, true, true, true, b17, b18, (q4), (q5), (q6), (q9), (q10), (q11), (q14), (q15), (fun _ => rfl), (fun h => ⟨(q17 h).1, rfl⟩), (q18), by omega, rfl, rfl, rfl⟩)
              | 17, _ =>
                simp at hun; subst hun
                simp at ho; subst ho
                simp [Region.binds] at haf
                obtain ⟨rfl, rfl⟩ := haf
                obtain rfl := q11 rfl
                obtain rfl := q16 rfl
                obtain rfl := q10 rfl
                obtain rfl := q15 rfl
                obtain ⟨rfl, rfl⟩ := q9 rfl
                obtain ⟨rfl, rfl⟩ := q14 rfl
                clear hi
                refine wpOpIn_step rfl (fun K hK => ?_)
                go_simp
                exact hK _ _ (Or.inl ⟨b0, b1, b2, b3, b4, b5, b6, true, true, true, true, true, true, true, true, true, true, true, b18, (q4), (q5), (q6), (q9), (q10), (q11), (q14), (q15), (q16), (fun _ => ⟨rfl, rfl⟩), (fun h => ⟨(q18 h).1, (q18 h).2.1, rfl⟩), by omega, rfl, rfl, rfl⟩)
              | 18, _ =>
                simp at hun; subst hun
                simp at ho; subst ho
                simp [Region.binds] at haf
                obtain ⟨rfl, rfl, rfl⟩ := haf
                obtain rfl := q6 rfl
                obtain ⟨rfl, rfl⟩ := q17 rfl
                obtain rfl := q5 rfl
                obtain rfl := q11 rfl
                obtain rfl := q16 rfl
                obtain ⟨rfl, rfl⟩ := q4 rfl
                obtain rfl := q10 rfl
                obtain rfl := q15 rfl
                obtain ⟨rfl, rfl⟩ := q9 rfl
                obtain ⟨rfl, rfl⟩ := q14 rfl
                clear hi
                refine wpOpIn_step rfl (fun K hK => ?_)
                go_simp
                exact hK _ _ (Or.inl ⟨b0, true, true, true, true, true, true, true, true, true, true, true, true, true, true, true, true, true, true, (q4), (q5), (q6), (q9), (q10), (q11), (q14), (q15), (q16), (q17), (fun _ => ⟨rfl, rfl, rfl⟩), by omega, rfl, rfl, rfl⟩)
              | 19, _ =>
                simp at ho; subst ho
                simp [Region.binds] at haf
                obtain ⟨rfl, rfl⟩ := haf
                obtain ⟨rfl, rfl, rfl⟩ := q18 rfl
                obtain rfl := q6 rfl
                obtain ⟨rfl, rfl⟩ := q17 rfl
                obtain rfl := q5 rfl
                obtain rfl := q11 rfl
                obtain rfl := q16 rfl
                obtain ⟨rfl, rfl⟩ := q4 rfl
                obtain rfl := q10 rfl
                obtain rfl := q15 rfl
                obtain ⟨rfl, rfl⟩ := q9 rfl
                obtain ⟨rfl, rfl⟩ := q14 rfl
                clear hi
                refine wpOpIn_step rfl (fun K hK => ?_)
                refine step_append_string_in rfl rfl (.tmp 15) (.tmp 33) 54 9 rfl u4 (s.extract p (p + wd s p)) rfl rfl v2 w3 hrun ?_
                exact hK _ _ (Or.inr (Or.inl ⟨by omega, rfl, v2, rfl, hfin⟩))
              | 20, _ =>
                simp at ho; subst ho
                simp [Region.binds] at haf
          · obtain rfl : k = 0 := by omega
            refine ⟨fun h => ?_, fun i hi => ?_⟩
            · exact absurd (mem_ready.2 ⟨rfl, _, rfl, by simp [Region.binds]⟩) (List.eq_nil_iff_forall_not_mem.1 h 20)
            · obtain ⟨hun, o, ho, haf⟩ := mem_ready.1 hi
              have hi21 : i < 21 := by
                have := (Array.getElem?_eq_some_iff.1 ho).1
                simpa using this
              have h20 : i = 20 := by
                rcases Nat.lt_or_ge i 20 with h' | h'
                · have : ∀ m, m < 20 → (#[true, true, true, true, true, true, true, true, true, true, true, true, true, true, true, true, true, true, true, true, false] : Array Bool).getD m true = true := by decide
                  rw [this i h'] at hun
                  cases hun
                · omega
              subst h20
              clear hi
              refine wpOpIn_step rfl (fun K hK => ?_)
              go_simp
              exact hK _ _ (Or.inr (Or.inr ⟨rfl, rfl, v2, rfl, h⟩))
          · omega
      · rintro e a2 w2 ⟨rfl, v2, rfl, hown', hb2⟩
        go_wp2
        go_roundw
        case rel =>
          refine ⟨j, _, by omega, rfl, rfl, ?_, hb2⟩
          have hl : (chB s p).length = (s.extract p (p + wd s p)).size := by rw [← HX.out, Array.length_toList]; rfl
          rw [HD.out, List.length_append, hl, Lib.byteCells_append, ← HX.out]
          exact hown'
        case measure =>
          simp [intOf]
    · obtain rfl : k = 0 := by omega
      obtain rfl : z = -1 := by omega
      clear hz
      rw [List.drop_zero] at hrow
      have hcv := conv_own hrow rfl
      clear hform
      go_wp2
      go_ret
      exact ⟨rfl, hb.trans (hbx.mono hb.size)⟩

set_option maxHeartbeats 2000000 in
theorem same_any (s : ByteArray) (ad bd : Option Addr) (ca cb : Nat) (w : World)
    (ha : 0 < (starts s).length → ∃ g, ad = some ⟨g, 0, none⟩ ∧ ∀ j u, (flat s (starts s))[j]? = some u → w.cell? ⟨g, j, none⟩ = some u)
    (hb : 0 < (starts s).length → ∃ g, bd = some ⟨g, 0, none⟩ ∧ ∀ j u, (flat s (starts s))[j]? = some u → w.cell? ⟨g, j, none⟩ = some u) (hs : s.size ≤ 65536) :
    Calls Try.prog 11 #[.slice ad (starts s).length ca, .slice bd (starts s).length cb] w fun e w' => e = .returned (.bool true) ∧ ∃ k, w' = w.drewN k := by
  have hlen := starts_length s
  go_enter Try.func11, Try.ntmps11
  go_wp2
  go_loopw [5] (fun i wx => ∃ (k q : Nat), k ≤ (starts s).length ∧ i = .int .i64 k ∧ wx = w.drewN q) (fun i _ => (starts s).length - (intOf i).toNat)
  case atStart => exact ⟨0, 0, Nat.zero_le _, rfl, rfl⟩
  case round =>
    obtain ⟨k, q, hk, rfl, rfl⟩ := hrel
    by_cases hkl : k < (starts s).length
    · obtain ⟨g, rfl, hg⟩ := ha (by omega)
      obtain ⟨h, rfl, hh⟩ := hb (by omega)
      have hget : (starts s)[k]? = some (starts s)[k] := List.getElem?_eq_getElem hkl
      generalize (starts s)[k] = p at *
      have a0 : w.cell? ⟨g, k * 4, none⟩ = some (.int .i32 (rn s p)) := hg _ _ (flat_get s _ k 0 p hget (by omega))
      have a1 : w.cell? ⟨g, k * 4 + 1, none⟩ = some (.int .i64 p) := hg _ _ (flat_get s _ k 1 p hget (by omega))
      have a2 : w.cell? ⟨g, k * 4 + 2, none⟩ = some (.int .i64 (wd s p)) := hg _ _ (flat_get s _ k 2 p hget (by omega))
      have a3 : w.cell? ⟨g, k * 4 + 3, none⟩ = some (.bool (looseB s p)) := hg _ _ (flat_get s _ k 3 p hget (by omega))
      have b0 : w.cell? ⟨h, k * 4, none⟩ = some (.int .i32 (rn s p)) := hh _ _ (flat_get s _ k 0 p hget (by omega))
      have b1 : w.cell? ⟨h, k * 4 + 1, none⟩ = some (.int .i64 p) := hh _ _ (flat_get s _ k 1 p hget (by omega))
      have b2 : w.cell? ⟨h, k * 4 + 2, none⟩ = some (.int .i64 (wd s p)) := hh _ _ (flat_get s _ k 2 p hget (by omega))
      have b3 : w.cell? ⟨h, k * 4 + 3, none⟩ = some (.bool (looseB s p)) := hh _ _ (flat_get s _ k 3 p hget (by omega))
      have hki : (k : Int) < ((starts s).length : Int) := by omega
      clear ha hb hg hh hget
      go_wp2_with fail
      go_quiet (fail)
      go_wp2
      go_roundw
      case rel => exact ⟨k + 1, q + nq, by omega, by go_num, by simp [World.drewN]⟩
      case measure =>
        simp [intOf]
        omega
    · clear ha hb
      go_wp2
      go_ret
      exact ⟨rfl, _, rfl⟩
end Go.Proofs.Ytgihafldphpncab
