/- The document's Put and Text: what they answer, at every input. -/
import Derived.Test.YtnkpohkodkjkfaaGreatDoorJpJ43
import Derived.Lib.AppendStr
import Derived.Laws.BytesArg
import Derived.Test.YtnkpohkodkjkfaaGreatDoorJpJ13
import Derived.Lib.ItoaNum
import Derived.Lib.ItoaLen
import Derived.Laws.OwnMore
import Derived.Test.YtnkpohkodkjkfaaGreatDoorJpJ17
import Derived.Test.YtnkpohkodkjkfaaGreatDoorJpJ29
set_option maxHeartbeats 40000000
set_option maxRecDepth 100000
set_option linter.unusedVariables false
namespace Go.Proofs.YtnkpohkodkjkfaaGreatDoor
open Go.RowKit Go.Shelf Go.Lib

theorem row_new (W : World) (cs : Array Value) (t : TypeId) : ∀ j u, cs.toList[j]? = some u → (W.alloc (.cells cs t)).cell? ((⟨W.heap.size, 0, none⟩ : Addr).add j) = some u := by
  intro j u h
  have hg : (W.alloc (.cells cs t)).heap[W.heap.size]? = some (.cells cs t) := new_at rfl
  have ha : (⟨W.heap.size, 0, none⟩ : Addr).add j = ⟨W.heap.size, j, none⟩ := by unfold Addr.add; split <;> simp_all
  rw [ha, cell_at hg j, ← h]
  simp
theorem infoBQ : (Tryz.prog.info? 5).map (fun i => (i.zero, i.size, i.bytes)) = some (some (.int .u8 0), 1, 1) := by kernel_rfl
/-- What Put answers, and where it lies. -/
def PutV (B : Nat) (L : List UInt8) (w : World) (e : Ending) (w' : World) : Prop := ∃ v, e = .returned v ∧ w'.ownsRow B 5 1 v L.length (Lib.byteCells L) ∧ Below B w w' ∧ w.heap.size ≤ w'.heap.size
theorem putV_mk {B : Nat} {L E : List UInt8} {w w1 w2 : World} {v0 v : Value} {o : Obj} {n : Nat} {xs : List Value} (hB : B ≤ w.heap.size) (hw1 : w1 = w.alloc o) (hr : w.ownsRow B 5 1 v0 n xs) (hE : xs = Lib.byteCells L) (hn : n = L.length) {m : Nat} {ys : List Value} (hys : ys = Lib.byteCells E) (hm : m = E.length)
    (hown : w2.ownsRow B 5 1 v (n + m) (xs ++ ys)) (hg : w1.grownBy w2 v0.ownBlock) : PutV B (L ++ E) w (.returned v) w2 := by
  subst hw1 hE hn hys hm
  refine ⟨v, rfl, ?_, ((Below.refl B w).alloc hB _).grown hg (by simp; omega) (fun k e => row_block hr k e), ?_⟩
  · rw [List.length_append, Lib.byteCells_append]
    exact hown
  · have := hg.size
    simp at this
    omega
set_option maxHeartbeats 4000000 in
theorem refPut_any (B : Nat) (v : Value) (L : List UInt8) (c : Int) (hc : 65 ≤ c ∧ c ≤ 129791 ∧ (c < 55296 ∨ 57343 < c)) (w : World) (hB : B ≤ w.heap.size) (hL : L.length ≤ 1000000) (h : w.ownsRow B 5 1 v L.length (Lib.byteCells L)) :
    Calls Tryz.prog 67 #[v, .int .i64 c] w fun e w' => PutV B (L ++ (Utf8.encode c).data.toList) w e w' := by
  obtain ⟨r, rfl⟩ := Int.eq_ofNat_of_zero_le (show 0 ≤ c by omega)
  have HC : code (r : Int) = r := by
    unfold code Utf8.valid
    rw [if_pos]
    · rfl
    · simp only [Bool.or_eq_true, Bool.and_eq_true, decide_eq_true_eq]
      omega
  obtain ⟨ic, hic, hz0, hz1, hz2⟩ := info_parts infoBQ
  have HE := enc_list (r : Int)
  rw [HC] at HE
  generalize (Utf8.encode (r : Int)).data.toList = E at HE ⊢
  obtain ⟨ad, cap, rfl, _⟩ := row_form h
  by_cases c1 : r < 128
  · rw [if_pos c1] at HE
    have HL : Hid (E = _) := HE
    clear HE
    have c1i : (r : Int) < 128 := by omega
    go_enter Tryz.func67, Tryz.ntmps67
    go_wp2_with (at_builtin; refine wpList_append_own _ rfl _ _ 47 rfl B 5 ic _ 1 1 Tryz.underlying47 hic hz0 hz1 hz2 rfl (by decide) _ _ _ rfl (h.alloc _) ⟨w.heap.size, 0, none⟩ 1 1 [_] rfl rfl (row_new _ #[_] _) (by simp [Value.oneCell']) (by unfold maxLen; omega) (by omega) (by simp; omega) ?_; intro v' w2 hown' hgrow _)
    go_ret
    refine putV_mk hB rfl h rfl rfl (E := E) ?_ (by rw [HL.out]; rfl) hown' hgrow
    rw [HL.out]
    unfold Lib.byteCells
    simp only [List.map_cons, List.map_nil]
    rw [ofNat8 r (by omega)]
  rw [if_neg c1] at HE
  have c1i : ¬ (r : Int) < 128 := by omega
  by_cases c2 : r < 2048
  · rw [if_pos c2] at HE
    have HL : Hid (E = _) := HE
    clear HE
    have c2i : (r : Int) < 2048 := by omega
    go_enter Tryz.func67, Tryz.ntmps67
    go_wp2_with (at_builtin; refine wpList_append_own _ rfl _ _ 47 rfl B 5 ic _ 1 1 Tryz.underlying47 hic hz0 hz1 hz2 rfl (by decide) _ _ _ rfl (h.alloc _) ⟨w.heap.size, 0, none⟩ 2 2 [_, _] rfl rfl (row_new _ #[_, _] _) (by simp [Value.oneCell']) (by unfold maxLen; omega) (by omega) (by simp; omega) ?_; intro v' w2 hown' hgrow _)
    go_ret
    refine putV_mk hB rfl h rfl rfl (E := E) ?_ (by rw [HL.out]; rfl) hown' hgrow
    rw [HL.out]
    unfold Lib.byteCells
    simp only [List.map_cons, List.map_nil]
    rw [ofNat8 (192 + r / 64) (by omega), ofNat8 (128 + r % 64) (by omega)]
    rfl
  rw [if_neg c2] at HE
  have c2i : ¬ (r : Int) < 2048 := by omega
  by_cases c3 : r < 65536
  · rw [if_pos c3] at HE
    have HL : Hid (E = _) := HE
    clear HE
    have c3i : (r : Int) < 65536 := by omega
    go_enter Tryz.func67, Tryz.ntmps67
    go_wp2_with (at_builtin; refine wpList_append_own _ rfl _ _ 47 rfl B 5 ic _ 1 1 Tryz.underlying47 hic hz0 hz1 hz2 rfl (by decide) _ _ _ rfl (h.alloc _) ⟨w.heap.size, 0, none⟩ 3 3 [_, _, _] rfl rfl (row_new _ #[_, _, _] _) (by simp [Value.oneCell']) (by unfold maxLen; omega) (by omega) (by simp; omega) ?_; intro v' w2 hown' hgrow _)
    go_ret
    refine putV_mk hB rfl h rfl rfl (E := E) ?_ (by rw [HL.out]; rfl) hown' hgrow
    rw [HL.out]
    unfold Lib.byteCells
    simp only [List.map_cons, List.map_nil]
    rw [ofNat8 (224 + r / 4096) (by omega), ofNat8 (128 + r / 64 % 64) (by omega), ofNat8 (128 + r % 64) (by omega)]
    rfl
  · rw [if_neg c3] at HE
    have HL : Hid (E = _) := HE
    clear HE
    have c3i : ¬ (r : Int) < 65536 := by omega
    go_enter Tryz.func67, Tryz.ntmps67
    go_wp2_with (at_builtin; refine wpList_append_own _ rfl _ _ 47 rfl B 5 ic _ 1 1 Tryz.underlying47 hic hz0 hz1 hz2 rfl (by decide) _ _ _ rfl (h.alloc _) ⟨w.heap.size, 0, none⟩ 4 4 [_, _, _, _] rfl rfl (row_new _ #[_, _, _, _] _) (by simp [Value.oneCell']) (by unfold maxLen; omega) (by omega) (by simp; omega) ?_; intro v' w2 hown' hgrow _)
    go_ret
    refine putV_mk hB rfl h rfl rfl (E := E) ?_ (by rw [HL.out]; rfl) hown' hgrow
    rw [HL.out]
    unfold Lib.byteCells
    simp only [List.map_cons, List.map_nil]
    rw [ofNat8 (240 + r / 262144) (by omega), ofNat8 (128 + r / 4096 % 64) (by omega), ofNat8 (128 + r / 64 % 64) (by omega), ofNat8 (128 + r % 64) (by omega)]
    rfl
theorem conv_own {W : World} {base n : Nat} {v : Value} {l : List UInt8} (h : W.ownsRow base 5 1 v n (Lib.byteCells l)) (hl : l.length = n) :
    (convert 47 9 v).run Tryz.prog W = .ok (.string ⟨l.toArray⟩) W := by
  obtain ⟨ad, cap, rfl, hc⟩ := row_form h
  by_cases h0 : 0 < n
  · obtain ⟨g, rfl, _, _, _, hcell⟩ := hc h0
    have := run_convert_bytes_back (P := Tryz.prog) W 47 9 5 ⟨g, 0, none⟩ cap l Tryz.underlying47 Tryz.underlying5 Tryz.underlying9 (fun j hj => by
      have ha : (⟨g, 0, none⟩ : Addr).add j = ⟨g, j, none⟩ := by unfold Addr.add; split <;> simp_all
      rw [ha]
      exact hcell j _ (by simp [Lib.byteCells, hj]))
    rw [hl] at this
    exact this
  · have hl0 : l = [] := List.length_eq_zero_iff.1 (by omega)
    obtain rfl : n = 0 := by omega
    subst hl0
    cases ad with
    | none => exact run_convert_bytes_nil (P := Tryz.prog) W 47 5 Tryz.underlying47 Tryz.underlying5 0 cap 9 Tryz.underlying9
    | some a => exact run_convert_bytes_back (P := Tryz.prog) W 47 9 5 a cap [] Tryz.underlying47 Tryz.underlying5 Tryz.underlying9 (fun j hj => by simp at hj)

theorem txt_snoc (l : List Int) (c : Int) : (txt (l ++ [c])).data.toList = (txt l).data.toList ++ (Utf8.encode c).data.toList := by
  rw [txt_data, txt_data, wr_append]
  simp [wr]

def vnatP (v : Value) : Nat := match v with | .int _ n => n.toNat | _ => 0
/-- The digits ahead. -/
def digF (y : Nat) : List UInt8 := if y = 0 then [] else decDigits y
theorem digF_zero : digF 0 = [] := rfl
theorem digF_step (y : Nat) (h : y ≠ 0) : digF y = digF (y / 10) ++ [UInt8.ofNat (48 + y % 10)] := by
  unfold digF
  rw [if_neg h]
  rw [decDigits]
  by_cases h10 : y < 10
  · rw [dif_pos h10, if_pos (by omega), Nat.mod_eq_of_lt h10]
    rfl
  · rw [dif_neg h10, if_neg (by omega)]
theorem dig_zero : decDigits 0 = [48] := decDigits_one (by omega)
set_option maxHeartbeats 2000000 in
set_option maxRecDepth 100000 in
theorem digits_any (x : Nat) (hx : x ≤ 1099511627775) (w : World) : Calls Tryz.prog 40 #[.int .i64 (x : Int)] w fun e w' => e = .returned (.string ⟨(decDigits x).toArray⟩) ∧ Below w.heap.size w w' := by
  obtain ⟨ic, hic, hz0, hz1, hz2⟩ := info_parts infoBQ
  by_cases h0 : x = 0
  · subst h0
    rw [dig_zero]
    go_enter Tryz.func40, Tryz.ntmps40
    go_wp2
    go_ret
    exact ⟨rfl, Below.refl _ _⟩
  have hlen : (decDigits x).length ≤ 20 := by rw [decDigits_length]; exact nDigits_le20 x (by omega)
  have hdx : decDigits x = digF x := by unfold digF; rw [if_neg h0]
  rw [hdx] at hlen ⊢
  have h0i : ¬ (x : Int) = 0 := by omega
  have HL : Hid ((digF x).length ≤ 20) := hlen
  clear hlen hdx
  go_enter Tryz.func40, Tryz.ntmps40
  go_wp2
  go_loopw [0, 3] (fun c b wz => ∃ (y : Nat) (L : List UInt8), c = .int .i64 y ∧ y ≤ x ∧ Hid (digF x = digF y ++ L) ∧ L.length ≤ 20 ∧ wz.ownsRow w.heap.size 5 1 b L.length (Lib.byteCells L) ∧ Below w.heap.size w wz) (fun c _ _ => vnatP c)
  case atStart =>
    have q0 : Hid (digF x = digF x ++ []) := (List.append_nil _).symm
    exact ⟨x, [], rfl, Nat.le_refl _, q0, by simp, ⟨rfl, .inl ⟨rfl, rfl⟩⟩, Below.refl _ _⟩
  case round =>
    obtain ⟨y, L, rfl, hyx, HD, hLl, hrow, hbw⟩ := hrel
    obtain ⟨ab, cb, rfl, hcb⟩ := row_form hrow
    have hsw := hbw.size
    by_cases hy : y = 0
    · subst hy
      have hcv := conv_own hrow rfl
      have HX : Hid (digF x = L) := by have := HD.out; rw [digF_zero, List.nil_append] at this; exact this
      go_wp2
      go_ret
      rw [HX.out]
      exact ⟨rfl, hbw⟩
    · have hN : digF x = digF (y / 10) ++ ([UInt8.ofNat (48 + y % 10)] ++ L) := by rw [HD.out, digF_step y hy, List.append_assoc]
      have HN : Hid (digF x = digF (y / 10) ++ ([UInt8.ofNat (48 + y % 10)] ++ L)) := hN
      have hl2 : ([UInt8.ofNat (48 + y % 10)] ++ L).length ≤ 20 := by
        have h1 := congrArg List.length hN
        have h2 := HL.out
        rw [List.length_append] at h1
        omega
      have hyi : (0 : Int) < (y : Int) := by omega
      clear hN HD
      have hd : Lib.byteCells ([UInt8.ofNat (48 + y % 10)] ++ L) = [Value.int .u8 ((48 + y % 10 : Nat) : Int)] ++ Lib.byteCells L := by
        rw [Lib.byteCells_append]
        congr 1
        unfold Lib.byteCells
        simp only [List.map_cons, List.map_nil]
        rw [ofNat8 (48 + y % 10) (by omega)]
      have hcv : ((48 : Int) + (y : Int) % 10) = ((48 + y % 10 : Nat) : Int) := by omega
      have hmo : ((48 : Int) + (y : Int) % 10) % 256 = ((48 + y % 10 : Nat) : Int) := by omega
      have hown := World.ownsRow_lit (base := w.heap.size) (e := 5) (size := 1) wr #[Value.int .u8 ((48 + y % 10 : Nat) : Int)] 1 hsw (by unfold maxLen; omega) (by simp)
      obtain ⟨D, hD⟩ : ∃ D : Int, D = ((48 + y % 10 : Nat) : Int) := ⟨_, rfl⟩
      rw [← hD] at hd hcv hmo hown
      have HD2 : Hid (D = ((48 + y % 10 : Nat) : Int)) := hD
      clear hD
      cases ab with
      | none =>
        have hL0 : L = [] := by
          rcases Nat.lt_or_ge 0 L.length with h | h
          · obtain ⟨g, hg, _⟩ := hcb h
            cases hg
          · exact List.length_eq_zero_iff.1 (by omega)
        subst hL0
        have hcb0 : cb = 0 := by
          rcases hrow.2 with ⟨e1, _⟩ | ⟨g, cap, cur, e1, _⟩
          · simpa using e1
          · simp at e1
        subst hcb0
        have hap := run_append_owned_none (P := Tryz.prog) _ w.heap.size 47 47 5 ic 1 Tryz.underlying47 hic _ _ _ hown
        go_wp2
        go_roundw
        case rel =>
          refine ⟨y / 10, [UInt8.ofNat (48 + y % 10)] ++ [], by simp, by omega, HN, hl2, ?_, hbw.alloc hsw _⟩
          rw [hd]
          exact hown
        case measure => simp [vnatP]; omega
      | some a =>
        have hnews : ∀ j u, (Lib.byteCells L)[j]? = some u → (wr.alloc (.cells #[Value.int .u8 D] 5)).cell? (a.add j) = some u := by
          intro j u hj
          have hjl : j < L.length := by have := (List.getElem?_eq_some_iff.1 hj).1; simpa [Lib.byteCells] using this
          obtain ⟨g, hg, _, hgl, _, hcell⟩ := hcb (by omega)
          obtain rfl := Option.some.inj hg
          have ha : (⟨g, 0, none⟩ : Addr).add j = ⟨g, j, none⟩ := by unfold Addr.add; split <;> simp_all
          rw [ha, ← hcell j u hj]
          exact ((Below.refl _ wr).alloc (Nat.le_refl _) _).cell (p := ⟨g, j, none⟩) hgl
        go_wp2_with (at_builtin; refine wpList_append_own _ rfl _ _ 47 rfl w.heap.size 5 ic _ 1 1 Tryz.underlying47 hic hz0 hz1 hz2 rfl (by decide) _ 1 [_] rfl hown a L.length cb (Lib.byteCells L) rfl (by simp [Lib.byteCells]) hnews (by intro u hu; unfold Lib.byteCells at hu; obtain ⟨b, _, rfl⟩ := List.mem_map.1 hu; rfl) (by unfold maxLen; omega) (by omega) (Nat.le_trans hsw (by simp)) ?_; intro v' w2 hown' hgrow _)
        go_roundw
        case rel =>
          refine ⟨y / 10, by simp, by omega, [UInt8.ofNat (48 + y % 10)] ++ L, HN, hl2, ?_, (hbw.alloc hsw _).grown hgrow (by simp; omega) (fun k e => row_block hown k e)⟩
          rw [hd, List.length_append]
          exact hown'
        case measure => simp [vnatP]; omega
set_option maxHeartbeats 1000000 in
theorem rSign_any {M : Nat} {v : Value} {l : List Int} (w : World) (h : RosR M w v l) (hM : M ≤ w.heap.size) (k : Nat) (hk : k < l.length) : Calls Tryz.prog 39 #[v, .int .i64 (k : Int)] w fun e w' => e = .returned (.string ⟨(Utf8.encode l[k]).data.toList.toArray⟩) ∧ Below w.heap.size w w' := by
  obtain ⟨h0, sl, rfl, hS⟩ := h
  have hls := h0.short
  have hc := cls_letter (h0.letter l[k] (List.getElem_mem hk))
  obtain ⟨ad, cap, rfl, hf⟩ := hS
  obtain ⟨g, rfl, g1, g2, g3⟩ := hf (fun e => by subst e; simp at hk)
  have gk := g3 k l[k] (List.getElem?_eq_getElem hk)
  have hgl : g < w.heap.size := by omega
  have hki : (k : Int) < (l.length : Int) := by omega
  have hput := refPut_any (w.heap.size + 1) (.slice none 0 0) [] l[k] hc (w.alloc (.cells #[.slice (some ⟨g, 0, none⟩) l.length cap] 60)) (by simp) (by simp) ⟨rfl, .inl ⟨rfl, rfl⟩⟩
  rw [List.nil_append] at hput
  generalize l[k] = c at *
  generalize (Utf8.encode c).data.toList = E at *
  clear hf g3 h0
  go_enter Tryz.func39, Tryz.ntmps39
  go_wp2_with (go_at_call 67; refine hput.mono ?_; rintro e w1 ⟨v', rfl, hrow1, hb1, hz1⟩; have hcv := conv_own hrow1 rfl)
  go_ret
  exact ⟨rfl, (al1 w _).trans (hb1.mono (by omega))⟩

/-- What lies there as the document tells a notice. -/
structure JV (w : World) (ad : Option Addr) (cap : Nat) (l : List Int) (o t k : Int) (W : World) : Prop where
  box : W.heap[w.heap.size]? = some (.cells #[.slice ad l.length cap] 60 (0, 0))
  ros : RosR w.heap.size W (.agg #[.slice ad l.length cap]) l
  j : JL w [(w.heap.size + 1, o, t, k)] W
theorem JV.carry {w : World} {ad : Option Addr} {cap : Nat} {l : List Int} {o t k : Int} {W W' : World} (h : JV w ad cap l o t k W) (hb : Below W.heap.size W W') : JV w ad cap l o t k W' :=
  ⟨(hb.block _ (lt_at h.box)).trans h.box, h.ros.call (Nat.le_of_lt (lt_at h.box)) hb, h.j.carry hb⟩
theorem RosR.liftP {M M' : Nat} {W : World} {v : Value} {l : List Int} (h : RosR M W v l) (hM : M ≤ M') : RosR M' W v l := by
  obtain ⟨h0, sl, rfl, ⟨ad, cap, rfl, hf⟩⟩ := h
  refine ⟨h0, _, rfl, ⟨ad, cap, rfl, fun hl => ?_⟩⟩
  obtain ⟨g, h1, h2, h3⟩ := hf hl
  exact ⟨g, h1, Nat.lt_of_lt_of_le h2 hM, h3⟩
theorem load_rosR {W : World} {B : Nat} {u : Value} (h : W.heap[B]? = some (.cells #[u] 60 (0, 0))) : (Instr.loadAt 60 (.pointer (some ⟨B, 0, none⟩))).run Tryz.prog W = .ok (.agg #[u]) W := by
  have c0 := cell_at h 0
  go_simp
theorem JV.start {M : Nat} {ad : Option Addr} {cap : Nat} {l : List Int} (w : World) (h : RosR M w (.agg #[.slice ad l.length cap]) l) (hM : M ≤ w.heap.size) (o t k : Int) : JV w ad cap l o t k ((w.alloc (.cells #[.slice ad l.length cap] 60)).alloc (.cells #[.int .i64 o, .int .i64 t, .int .i64 k] 99)) :=
  ⟨old_at (new_at rfl), (h.below ((al2 w _ _).mono hM)).liftP hM, by simpa using ((JL.nil w).old _).new o t k⟩
theorem mkS_size (k : Int) : (mkS k).size = 1 := by
  unfold mkS
  split <;> rfl
set_option maxHeartbeats 4000000 in
set_option maxRecDepth 100000 in
theorem rNtext_any {M : Nat} {v : Value} {l : List Int} (w : World) (h : RosR M w v l) (hM : M ≤ w.heap.size) (n : Nat) (hn : n < l.length) (t k : Int) (ht : 0 ≤ t ∧ t ≤ 1048576) : Calls Tryz.prog 42 #[v, nt (n : Int) t k] w fun e w' => e = .returned (.string (prT (l.getD n 0) t k)) ∧ Below w.heap.size w w' := by
  have hmx : Tryz.prog.follows .mixedOrders = true := by kernel_rfl
  obtain ⟨ad, cap, rfl⟩ := h.form
  obtain ⟨x, rfl⟩ := Int.eq_ofNat_of_zero_le ht.1
  have hj0 := JV.start w h hM (n : Int) (x : Int) k
  have hdg := digits_any x (by omega)
  have hgd : l.getD n 0 = l[n] := by rw [List.getD_eq_getElem?_getD, List.getElem?_eq_getElem hn]; rfl
  have hsn : ∀ W, RosR w.heap.size W (.agg #[.slice ad l.length cap]) l → w.heap.size ≤ W.heap.size → Calls Tryz.prog 39 #[.agg #[.slice ad l.length cap], .int .i64 (n : Int)] W fun e w' => e = .returned (.string ⟨(Utf8.encode (l.getD n 0)).data.toList.toArray⟩) ∧ Below W.heap.size W w' := fun W hr hl => by
    rw [hgd]
    exact rSign_any W hr hl n hn
  have hel : (Utf8.encode (l.getD n 0)).data.toList.length ≤ 4 := by rw [enc_len]; exact (clen_pos _).2
  have hdl : (decDigits x).length ≤ 20 := by rw [decDigits_length]; exact nDigits_le20 x (by omega)
  have HX : Hid (prT (l.getD n 0) (x : Int) k = (⟨(Utf8.encode (l.getD n 0)).data.toList.toArray⟩ ++ mkS k) ++ ⟨(decDigits x).toArray⟩) := by
    show prT (l.getD n 0) (x : Int) k = _
    unfold prT
    rw [Int.toNat_natCast]
  generalize prT (l.getD n 0) (x : Int) k = X at *
  generalize (Utf8.encode (l.getD n 0)).data.toList = E at *
  have hs1 : (⟨E.toArray⟩ : ByteArray).size + (mkS k).size ≤ 9223372036854775807 := by
    have : (⟨E.toArray⟩ : ByteArray).size = E.length := by simp [ByteArray.size]
    rw [mkS_size]
    omega
  have hs2 : ((⟨E.toArray⟩ : ByteArray) ++ mkS k).size + (⟨(decDigits x).toArray⟩ : ByteArray).size ≤ 9223372036854775807 := by
    have h1 : (⟨E.toArray⟩ : ByteArray).size = E.length := by simp [ByteArray.size]
    have h2 : (⟨(decDigits x).toArray⟩ : ByteArray).size = (decDigits x).length := by simp [ByteArray.size]
    rw [ByteArray.size_append, mkS_size]
    omega
  clear hgd h hel hdl ht
  by_cases hk : k = 2
  · subst hk
    have hm : mkS 2 = ⟨#[63]⟩ := rfl
    rw [hm] at HX hs1 hs2
    clear hm
    go_enter Tryz.func42, Tryz.ntmps42
    unfold nt
    go_wp2
    rename_i Q0 K0 hK
    refine wp_region_any hmx ?_
    refine wpAny_pure (fun i__ => ([(.agg #[.slice ad l.length cap]), (.pointer (some ⟨w.heap.size + 1, 0, none⟩)), (.int .i64 (n : Int)), (.string ⟨E.toArray⟩), (.string ⟨#[63]⟩), (.string (⟨E.toArray⟩ ++ ⟨#[63]⟩)), (.pointer (some ⟨w.heap.size + 1, 1, none⟩)), (.int .i64 (x : Int)), (.string ⟨(decDigits x).toArray⟩), (.string X), (.string X)] : List Value).getD i__ undef) (fun W => JV w ad cap l (n : Int) (x : Int) 2 W) (by kernel_rfl) (hj0.carry (Below.refl _ _).drew) ?_ ?_
    · refine (stepsFrom_cons ?_ (stepsFrom_cons ?_ (stepsFrom_cons ?_ (stepsFrom_cons ?_ (stepsFrom_cons ?_ (stepsFrom_cons ?_ (stepsFrom_cons ?_ (stepsFrom_cons ?_ (stepsFrom_cons ?_ (stepsFrom_cons ?_ (stepsFrom_cons ?_ trivial)))))))))))
      · exact step_load rfl trivial _ _ _ rfl rfl (fun w hw => load_rosR hw.box)
      · exact step_fieldAddr rfl trivial _ _ _ _ rfl rfl (fun w hw => field_n0 w _)
      · exact step_load rfl trivial _ _ _ rfl rfl (fun w hw => load_n0 (hw.j.get 0 rfl))
      · exact step_call rfl trivial 39 _ _ [(.agg #[.slice ad l.length cap]), (.int .i64 (n : Int))] rfl (by kernel_rfl) (enters_of Tryz.func39 (by kernel_rfl) rfl) (fun w hw => (hsn w hw.ros (Nat.le_of_lt (lt_at hw.box))).mono (by rintro e w' ⟨rfl, hb⟩; exact ⟨rfl, hw.carry hb⟩))
      · exact step_move rfl trivial _ rfl (by kernel_rfl)
      · exact step_binOp rfl trivial _ _ _ _ _ _ _ rfl rfl rfl (fun w hw => bin_adds _ _ hs1)
      · exact step_fieldAddr rfl trivial _ _ _ _ rfl rfl (fun w hw => field_n1 w _)
      · exact step_load rfl trivial _ _ _ rfl rfl (fun w hw => load_n1 (hw.j.get 0 rfl))
      · exact step_call rfl trivial 40 _ _ [(.int .i64 (x : Int))] rfl (by kernel_rfl) (enters_of Tryz.func40 (by kernel_rfl) rfl) (fun w hw => (hdg w).mono (by rintro e w' ⟨rfl, hb⟩; exact ⟨rfl, hw.carry hb⟩))
      · exact step_binOp rfl trivial _ _ _ _ _ _ _ rfl rfl rfl (fun w hw => (bin_adds _ _ hs2).trans (by rw [HX.out]; rfl))
      · exact step_assign rfl trivial _ rfl (by kernel_rfl) (fun _ h => h)
    intro W hW
    first | refine hK _ _ ?_ | refine (‹∀ (a : Act) (w : World), Code.wp Tryz.prog _ _ a w → _›) _ _ ?_ | skip
    simp only [finL, List.getD_cons_zero, List.getD_cons_succ, Nat.zero_add, Nat.reduceAdd, List.setIfInBounds_toArray, List.set_cons_zero, List.set_cons_succ]
    go_wp2
    go_ret
    exact ⟨rfl, hW.j.below⟩
  · have hm : mkS k = ⟨#[33]⟩ := if_neg hk
    rw [hm] at HX hs1 hs2
    clear hm
    go_enter Tryz.func42, Tryz.ntmps42
    unfold nt
    go_wp2
    rename_i Q0 K0 hK
    refine wp_region_any hmx ?_
    refine wpAny_pure (fun i__ => ([(.agg #[.slice ad l.length cap]), (.pointer (some ⟨w.heap.size + 1, 0, none⟩)), (.int .i64 (n : Int)), (.string ⟨E.toArray⟩), (.string ⟨#[33]⟩), (.string (⟨E.toArray⟩ ++ ⟨#[33]⟩)), (.pointer (some ⟨w.heap.size + 1, 1, none⟩)), (.int .i64 (x : Int)), (.string ⟨(decDigits x).toArray⟩), (.string X), (.string X)] : List Value).getD i__ undef) (fun W => JV w ad cap l (n : Int) (x : Int) k W) (by kernel_rfl) (hj0.carry (Below.refl _ _).drew) ?_ ?_
    · refine (stepsFrom_cons ?_ (stepsFrom_cons ?_ (stepsFrom_cons ?_ (stepsFrom_cons ?_ (stepsFrom_cons ?_ (stepsFrom_cons ?_ (stepsFrom_cons ?_ (stepsFrom_cons ?_ (stepsFrom_cons ?_ (stepsFrom_cons ?_ (stepsFrom_cons ?_ trivial)))))))))))
      · exact step_load rfl trivial _ _ _ rfl rfl (fun w hw => load_rosR hw.box)
      · exact step_fieldAddr rfl trivial _ _ _ _ rfl rfl (fun w hw => field_n0 w _)
      · exact step_load rfl trivial _ _ _ rfl rfl (fun w hw => load_n0 (hw.j.get 0 rfl))
      · exact step_call rfl trivial 39 _ _ [(.agg #[.slice ad l.length cap]), (.int .i64 (n : Int))] rfl (by kernel_rfl) (enters_of Tryz.func39 (by kernel_rfl) rfl) (fun w hw => (hsn w hw.ros (Nat.le_of_lt (lt_at hw.box))).mono (by rintro e w' ⟨rfl, hb⟩; exact ⟨rfl, hw.carry hb⟩))
      · exact step_move rfl trivial _ rfl (by kernel_rfl)
      · exact step_binOp rfl trivial _ _ _ _ _ _ _ rfl rfl rfl (fun w hw => bin_adds _ _ hs1)
      · exact step_fieldAddr rfl trivial _ _ _ _ rfl rfl (fun w hw => field_n1 w _)
      · exact step_load rfl trivial _ _ _ rfl rfl (fun w hw => load_n1 (hw.j.get 0 rfl))
      · exact step_call rfl trivial 40 _ _ [(.int .i64 (x : Int))] rfl (by kernel_rfl) (enters_of Tryz.func40 (by kernel_rfl) rfl) (fun w hw => (hdg w).mono (by rintro e w' ⟨rfl, hb⟩; exact ⟨rfl, hw.carry hb⟩))
      · exact step_binOp rfl trivial _ _ _ _ _ _ _ rfl rfl rfl (fun w hw => (bin_adds _ _ hs2).trans (by rw [HX.out]; rfl))
      · exact step_assign rfl trivial _ rfl (by kernel_rfl) (fun _ h => h)
    intro W hW
    first | refine hK _ _ ?_ | refine (‹∀ (a : Act) (w : World), Code.wp Tryz.prog _ _ a w → _›) _ _ ?_ | skip
    simp only [finL, List.getD_cons_zero, List.getD_cons_succ, Nat.zero_add, Nat.reduceAdd, List.setIfInBounds_toArray, List.set_cons_zero, List.set_cons_succ]
    go_wp2
    go_ret
    exact ⟨rfl, hW.j.below⟩
end Go.Proofs.YtnkpohkodkjkfaaGreatDoor
