/- The document's Digits and Sign: what they answer. -/
import Derived.Test.YtebpngapkkdifabDoorRfb
import Derived.Test.YtebpngapkkdifabDoorNtc
import Derived.Lib.ItoaNum
import Derived.Lib.ItoaLen
import Derived.Laws.OwnMore
namespace Go.Proofs.YtebpngapkkdifabDoor
open Go.RowKit Go.Shelf Go.Lib

def vnatP (v : Value) : Nat := match v with | .int _ n => n.toNat | _ => 0
/-- The digits ahead. -/
def digF (y : Nat) : List UInt8 := if y = 0 then [] else decDigits y
theorem digF_zero : digF 0 = [] := rfl
theorem digF_step (y : Nat) (h : y ≠ 0) : digF y = digF (y / 10) ++ [UInt8.ofNat (48 + y % 10)] := by
  unfold digF
  rw [if_neg h]
  rw [decDigits]
  by_cases h10 : y < 10
  · rw [dif_pos h10, if_pos (by omega), Nat.mod_eq_of_lt h10]
    rfl
  · rw [dif_neg h10, if_neg (by omega)]
theorem dig_zero : decDigits 0 = [48] := decDigits_one (by omega)
set_option maxHeartbeats 2000000 in
set_option maxRecDepth 100000 in
theorem digits_any (x : Nat) (hx : x ≤ 1048576) (w : World) : Calls Tryd.prog 35 #[.int .i64 (x : Int)] w fun e w' => e = .returned (.string ⟨(decDigits x).toArray⟩) ∧ Below w.heap.size w w' := by
  obtain ⟨ic, hic, hz0, hz1, hz2⟩ := info_parts infoB
  by_cases h0 : x = 0
  · subst h0
    rw [dig_zero]
    go_enter Tryd.func35, Tryd.ntmps35
    go_wp2
    go_ret
    exact ⟨rfl, Below.refl _ _⟩
  have hlen : (decDigits x).length ≤ 20 := by rw [decDigits_length]; exact nDigits_le20 x (by omega)
  have hdx : decDigits x = digF x := by unfold digF; rw [if_neg h0]
  rw [hdx] at hlen ⊢
  have h0i : ¬ (x : Int) = 0 := by omega
  have HL : Hid ((digF x).length ≤ 20) := hlen
  clear hlen hdx
  go_enter Tryd.func35, Tryd.ntmps35
  go_wp2
  go_loopw [0, 3] (fun c b wz => ∃ (y : Nat) (L : List UInt8), c = .int .i64 y ∧ y ≤ x ∧ Hid (digF x = digF y ++ L) ∧ L.length ≤ 20 ∧ wz.ownsRow w.heap.size 5 1 b L.length (Lib.byteCells L) ∧ Below w.heap.size w wz) (fun c _ _ => vnatP c)
  case atStart =>
    have q0 : Hid (digF x = digF x ++ []) := (List.append_nil _).symm
    exact ⟨x, [], rfl, Nat.le_refl _, q0, by simp, ⟨rfl, .inl ⟨rfl, rfl⟩⟩, Below.refl _ _⟩
  case round =>
    obtain ⟨y, L, rfl, hyx, HD, hLl, hrow, hbw⟩ := hrel
    obtain ⟨ab, cb, rfl, hcb⟩ := row_form hrow
    have hsw := hbw.size
    by_cases hy : y = 0
    · subst hy
      have hcv := conv_own hrow rfl
      have HX : Hid (digF x = L) := by have := HD.out; rw [digF_zero, List.nil_append] at this; exact this
      go_wp2
      go_ret
      rw [HX.out]
      exact ⟨rfl, hbw⟩
    · have hN : digF x = digF (y / 10) ++ ([UInt8.ofNat (48 + y % 10)] ++ L) := by rw [HD.out, digF_step y hy, List.append_assoc]
      have HN : Hid (digF x = digF (y / 10) ++ ([UInt8.ofNat (48 + y % 10)] ++ L)) := hN
      have hl2 : ([UInt8.ofNat (48 + y % 10)] ++ L).length ≤ 20 := by
        have h1 := congrArg List.length hN
        have h2 := HL.out
        rw [List.length_append] at h1
        omega
      have hyi : (0 : Int) < (y : Int) := by omega
      clear hN HD
      have hd : Lib.byteCells ([UInt8.ofNat (48 + y % 10)] ++ L) = [Value.int .u8 ((48 + y % 10 : Nat) : Int)] ++ Lib.byteCells L := by
        rw [Lib.byteCells_append]
        congr 1
        unfold Lib.byteCells
        simp only [List.map_cons, List.map_nil]
        rw [ofNat8 (48 + y % 10) (by omega)]
      have hcv : ((48 : Int) + (y : Int) % 10) = ((48 + y % 10 : Nat) : Int) := by omega
      have hmo : ((48 : Int) + (y : Int) % 10) % 256 = ((48 + y % 10 : Nat) : Int) := by omega
      have hown := World.ownsRow_lit (base := w.heap.size) (e := 5) (size := 1) wr #[Value.int .u8 ((48 + y % 10 : Nat) : Int)] 1 hsw (by unfold maxLen; omega) (by simp)
      obtain ⟨D, hD⟩ : ∃ D : Int, D = ((48 + y % 10 : Nat) : Int) := ⟨_, rfl⟩
      rw [← hD] at hd hcv hmo hown
      have HD2 : Hid (D = ((48 + y % 10 : Nat) : Int)) := hD
      clear hD
      cases ab with
      | none =>
        have hL0 : L = [] := by
          rcases Nat.lt_or_ge 0 L.length with h | h
          · obtain ⟨g, hg, _⟩ := hcb h
            cases hg
          · exact List.length_eq_zero_iff.1 (by omega)
        subst hL0
        have hcb0 : cb = 0 := by
          rcases hrow.2 with ⟨e1, _⟩ | ⟨g, cap, cur, e1, _⟩
          · simpa using e1
          · simp at e1
        subst hcb0
        have hap := run_append_owned_none (P := Tryd.prog) _ w.heap.size 75 75 5 ic 1 Tryd.underlying75 hic _ _ _ hown
        go_wp2
        go_roundw
        case rel =>
          refine ⟨y / 10, [UInt8.ofNat (48 + y % 10)] ++ [], by simp, by omega, HN, hl2, ?_, hbw.alloc hsw _⟩
          rw [hd]
          exact hown
        case measure => simp [vnatP]; omega
      | some a =>
        have hnews : ∀ j u, (Lib.byteCells L)[j]? = some u → (wr.alloc (.cells #[Value.int .u8 D] 5)).cell? (a.add j) = some u := by
          intro j u hj
          have hjl : j < L.length := by have := (List.getElem?_eq_some_iff.1 hj).1; simpa [Lib.byteCells] using this
          obtain ⟨g, hg, _, hgl, _, hcell⟩ := hcb (by omega)
          obtain rfl := Option.some.inj hg
          have ha : (⟨g, 0, none⟩ : Addr).add j = ⟨g, j, none⟩ := by unfold Addr.add; split <;> simp_all
          rw [ha, ← hcell j u hj]
          exact ((Below.refl _ wr).alloc (Nat.le_refl _) _).cell (p := ⟨g, j, none⟩) hgl
        go_wp2_with (at_builtin; refine wpList_append_own _ rfl _ _ 75 rfl w.heap.size 5 ic _ 1 1 Tryd.underlying75 hic hz0 hz1 hz2 rfl (by decide) _ 1 [_] rfl hown a L.length cb (Lib.byteCells L) rfl (by simp [Lib.byteCells]) hnews (by intro u hu; unfold Lib.byteCells at hu; obtain ⟨b, _, rfl⟩ := List.mem_map.1 hu; rfl) (by unfold maxLen; omega) (by omega) (Nat.le_trans hsw (by simp)) ?_; intro v' w2 hown' hgrow _)
        go_roundw
        case rel =>
          refine ⟨y / 10, by simp, by omega, [UInt8.ofNat (48 + y % 10)] ++ L, HN, hl2, ?_, (hbw.alloc hsw _).grown hgrow (by simp; omega) (fun k e => row_block hown k e)⟩
          rw [hd, List.length_append]
          exact hown'
        case measure => simp [vnatP]; omega
set_option maxHeartbeats 1000000 in
theorem rSign_any {M : Nat} {v : Value} {l : List Int} (w : World) (h : RosR M w v l) (hM : M ≤ w.heap.size) (k : Nat) (hk : k < l.length) : Calls Tryd.prog 34 #[v, .int .i64 (k : Int)] w fun e w' => e = .returned (.string ⟨(Utf8.encode l[k]).data.toList.toArray⟩) ∧ Below w.heap.size w w' := by
  obtain ⟨h0, sl, rfl, hS⟩ := h
  have hls := h0.short
  have hc := cls_letter (h0.letter l[k] (List.getElem_mem hk))
  obtain ⟨ad, cap, rfl, hf⟩ := hS
  obtain ⟨g, rfl, g1, g2, g3⟩ := hf (fun e => by subst e; simp at hk)
  have gk := g3 k l[k] (List.getElem?_eq_getElem hk)
  have hgl : g < w.heap.size := by omega
  have hki : (k : Int) < (l.length : Int) := by omega
  have hput := refPut_any (w.heap.size + 1) (.slice none 0 0) [] l[k] hc (w.alloc (.cells #[.slice (some ⟨g, 0, none⟩) l.length cap] 33)) (by simp) (by simp) ⟨rfl, .inl ⟨rfl, rfl⟩⟩
  rw [List.nil_append] at hput
  generalize l[k] = c at *
  generalize (Utf8.encode c).data.toList = E at *
  clear hf g3 h0
  go_enter Tryd.func34, Tryd.ntmps34
  go_wp2_with (go_at_call 41; refine hput.mono ?_; rintro e w1 ⟨v', rfl, hrow1, hb1, hz1⟩; have hcv := conv_own hrow1 rfl)
  go_ret
  exact ⟨rfl, (al1 w _).trans (hb1.mono (by omega))⟩
end Go.Proofs.YtebpngapkkdifabDoor
