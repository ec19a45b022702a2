/- The document's Put and Text: what they answer, at every input. -/
import Derived.Test.YtebpngapkkdifabDoorRfa
import Derived.Lib.AppendStr
import Derived.Laws.BytesArg
namespace Go.Proofs.YtebpngapkkdifabDoor
open Go.RowKit Go.Shelf Go.Lib

theorem row_new (W : World) (cs : Array Value) (t : TypeId) : ∀ j u, cs.toList[j]? = some u → (W.alloc (.cells cs t)).cell? ((⟨W.heap.size, 0, none⟩ : Addr).add j) = some u := by
  intro j u h
  have hg : (W.alloc (.cells cs t)).heap[W.heap.size]? = some (.cells cs t) := new_at rfl
  have ha : (⟨W.heap.size, 0, none⟩ : Addr).add j = ⟨W.heap.size, j, none⟩ := by unfold Addr.add; split <;> simp_all
  rw [ha, cell_at hg j, ← h]
  simp
theorem infoB : (Tryd.prog.info? 5).map (fun i => (i.zero, i.size, i.bytes)) = some (some (.int .u8 0), 1, 1) := by kernel_rfl
/-- What Put answers, and where it lies. -/
def PutV (B : Nat) (L : List UInt8) (w : World) (e : Ending) (w' : World) : Prop := ∃ v, e = .returned v ∧ w'.ownsRow B 5 1 v L.length (Lib.byteCells L) ∧ Below B w w' ∧ w.heap.size ≤ w'.heap.size
theorem putV_mk {B : Nat} {L E : List UInt8} {w w1 w2 : World} {v0 v : Value} {o : Obj} {n : Nat} {xs : List Value} (hB : B ≤ w.heap.size) (hw1 : w1 = w.alloc o) (hr : w.ownsRow B 5 1 v0 n xs) (hE : xs = Lib.byteCells L) (hn : n = L.length) {m : Nat} {ys : List Value} (hys : ys = Lib.byteCells E) (hm : m = E.length)
    (hown : w2.ownsRow B 5 1 v (n + m) (xs ++ ys)) (hg : w1.grownBy w2 v0.ownBlock) : PutV B (L ++ E) w (.returned v) w2 := by
  subst hw1 hE hn hys hm
  refine ⟨v, rfl, ?_, ((Below.refl B w).alloc hB _).grown hg (by simp; omega) (fun k e => row_block hr k e), ?_⟩
  · rw [List.length_append, Lib.byteCells_append]
    exact hown
  · have := hg.size
    simp at this
    omega
set_option maxHeartbeats 4000000 in
theorem refPut_any (B : Nat) (v : Value) (L : List UInt8) (c : Int) (hc : 65 ≤ c ∧ c ≤ 129791 ∧ (c < 55296 ∨ 57343 < c)) (w : World) (hB : B ≤ w.heap.size) (hL : L.length ≤ 1000000) (h : w.ownsRow B 5 1 v L.length (Lib.byteCells L)) :
    Calls Tryd.prog 41 #[v, .int .i64 c] w fun e w' => PutV B (L ++ (Utf8.encode c).data.toList) w e w' := by
  obtain ⟨r, rfl⟩ := Int.eq_ofNat_of_zero_le (show 0 ≤ c by omega)
  have HC : code (r : Int) = r := by
    unfold code Utf8.valid
    rw [if_pos]
    · rfl
    · simp only [Bool.or_eq_true, Bool.and_eq_true, decide_eq_true_eq]
      omega
  obtain ⟨ic, hic, hz0, hz1, hz2⟩ := info_parts infoB
  have HE := enc_list (r : Int)
  rw [HC] at HE
  generalize (Utf8.encode (r : Int)).data.toList = E at HE ⊢
  obtain ⟨ad, cap, rfl, _⟩ := row_form h
  by_cases c1 : r < 128
  · rw [if_pos c1] at HE
    have HL : Hid (E = _) := HE
    clear HE
    have c1i : (r : Int) < 128 := by omega
    go_enter Tryd.func41, Tryd.ntmps41
    go_wp2_with (at_builtin; refine wpList_append_own _ rfl _ _ 75 rfl B 5 ic _ 1 1 Tryd.underlying75 hic hz0 hz1 hz2 rfl (by decide) _ _ _ rfl (h.alloc _) ⟨w.heap.size, 0, none⟩ 1 1 [_] rfl rfl (row_new _ #[_] _) (by simp [Value.oneCell']) (by unfold maxLen; omega) (by omega) (by simp; omega) ?_; intro v' w2 hown' hgrow _)
    go_ret
    refine putV_mk hB rfl h rfl rfl (E := E) ?_ (by rw [HL.out]; rfl) hown' hgrow
    rw [HL.out]
    unfold Lib.byteCells
    simp only [List.map_cons, List.map_nil]
    rw [ofNat8 r (by omega)]
  rw [if_neg c1] at HE
  have c1i : ¬ (r : Int) < 128 := by omega
  by_cases c2 : r < 2048
  · rw [if_pos c2] at HE
    have HL : Hid (E = _) := HE
    clear HE
    have c2i : (r : Int) < 2048 := by omega
    go_enter Tryd.func41, Tryd.ntmps41
    go_wp2_with (at_builtin; refine wpList_append_own _ rfl _ _ 75 rfl B 5 ic _ 1 1 Tryd.underlying75 hic hz0 hz1 hz2 rfl (by decide) _ _ _ rfl (h.alloc _) ⟨w.heap.size, 0, none⟩ 2 2 [_, _] rfl rfl (row_new _ #[_, _] _) (by simp [Value.oneCell']) (by unfold maxLen; omega) (by omega) (by simp; omega) ?_; intro v' w2 hown' hgrow _)
    go_ret
    refine putV_mk hB rfl h rfl rfl (E := E) ?_ (by rw [HL.out]; rfl) hown' hgrow
    rw [HL.out]
    unfold Lib.byteCells
    simp only [List.map_cons, List.map_nil]
    rw [ofNat8 (192 + r / 64) (by omega), ofNat8 (128 + r % 64) (by omega)]
    rfl
  rw [if_neg c2] at HE
  have c2i : ¬ (r : Int) < 2048 := by omega
  by_cases c3 : r < 65536
  · rw [if_pos c3] at HE
    have HL : Hid (E = _) := HE
    clear HE
    have c3i : (r : Int) < 65536 := by omega
    go_enter Tryd.func41, Tryd.ntmps41
    go_wp2_with (at_builtin; refine wpList_append_own _ rfl _ _ 75 rfl B 5 ic _ 1 1 Tryd.underlying75 hic hz0 hz1 hz2 rfl (by decide) _ _ _ rfl (h.alloc _) ⟨w.heap.size, 0, none⟩ 3 3 [_, _, _] rfl rfl (row_new _ #[_, _, _] _) (by simp [Value.oneCell']) (by unfold maxLen; omega) (by omega) (by simp; omega) ?_; intro v' w2 hown' hgrow _)
    go_ret
    refine putV_mk hB rfl h rfl rfl (E := E) ?_ (by rw [HL.out]; rfl) hown' hgrow
    rw [HL.out]
    unfold Lib.byteCells
    simp only [List.map_cons, List.map_nil]
    rw [ofNat8 (224 + r / 4096) (by omega), ofNat8 (128 + r / 64 % 64) (by omega), ofNat8 (128 + r % 64) (by omega)]
    rfl
  · rw [if_neg c3] at HE
    have HL : Hid (E = _) := HE
    clear HE
    have c3i : ¬ (r : Int) < 65536 := by omega
    go_enter Tryd.func41, Tryd.ntmps41
    go_wp2_with (at_builtin; refine wpList_append_own _ rfl _ _ 75 rfl B 5 ic _ 1 1 Tryd.underlying75 hic hz0 hz1 hz2 rfl (by decide) _ _ _ rfl (h.alloc _) ⟨w.heap.size, 0, none⟩ 4 4 [_, _, _, _] rfl rfl (row_new _ #[_, _, _, _] _) (by simp [Value.oneCell']) (by unfold maxLen; omega) (by omega) (by simp; omega) ?_; intro v' w2 hown' hgrow _)
    go_ret
    refine putV_mk hB rfl h rfl rfl (E := E) ?_ (by rw [HL.out]; rfl) hown' hgrow
    rw [HL.out]
    unfold Lib.byteCells
    simp only [List.map_cons, List.map_nil]
    rw [ofNat8 (240 + r / 262144) (by omega), ofNat8 (128 + r / 4096 % 64) (by omega), ofNat8 (128 + r / 64 % 64) (by omega), ofNat8 (128 + r % 64) (by omega)]
    rfl
theorem conv_own {W : World} {base n : Nat} {v : Value} {l : List UInt8} (h : W.ownsRow base 5 1 v n (Lib.byteCells l)) (hl : l.length = n) :
    (convert 75 9 v).run Tryd.prog W = .ok (.string ⟨l.toArray⟩) W := by
  obtain ⟨ad, cap, rfl, hc⟩ := row_form h
  by_cases h0 : 0 < n
  · obtain ⟨g, rfl, _, _, _, hcell⟩ := hc h0
    have := run_convert_bytes_back (P := Tryd.prog) W 75 9 5 ⟨g, 0, none⟩ cap l Tryd.underlying75 Tryd.underlying5 Tryd.underlying9 (fun j hj => by
      have ha : (⟨g, 0, none⟩ : Addr).add j = ⟨g, j, none⟩ := by unfold Addr.add; split <;> simp_all
      rw [ha]
      exact hcell j _ (by simp [Lib.byteCells, hj]))
    rw [hl] at this
    exact this
  · have hl0 : l = [] := List.length_eq_zero_iff.1 (by omega)
    obtain rfl : n = 0 := by omega
    subst hl0
    cases ad with
    | none => exact run_convert_bytes_nil (P := Tryd.prog) W 75 5 Tryd.underlying75 Tryd.underlying5 0 cap 9 Tryd.underlying9
    | some a => exact run_convert_bytes_back (P := Tryd.prog) W 75 9 5 a cap [] Tryd.underlying75 Tryd.underlying5 Tryd.underlying9 (fun j hj => by simp at hj)

theorem txt_snoc (l : List Int) (c : Int) : (txt (l ++ [c])).data.toList = (txt l).data.toList ++ (Utf8.encode c).data.toList := by
  rw [txt_data, txt_data, wr_append]
  simp [wr]
theorem txt_back (l : List Int) : (⟨(txt l).data.toList.toArray⟩ : ByteArray) = txt l := by
  apply ByteArray.ext
  simp
theorem take_snoc {l : List Int} {k : Nat} (h : k < l.length) : l.take (k + 1) = l.take k ++ [l[k]] := by rw [List.take_add_one, List.getElem?_eq_getElem h]; rfl
end Go.Proofs.YtebpngapkkdifabDoor
