/- earshotbook's Lent and Stays of bytes: what they answer. -/
import Derived.Test.YtjfbnikbmadgkaaGreatBgl
import Derived.Laws.CopyOwn
import Derived.Deep.OwnRows
namespace Go.Proofs.YtjfbnikbmadgkaaGreat
open Go.RowKit Go.Shelf
theorem infoB1 : (Tryz.prog.info? 5).map (·.size) = some 1 := by kernel_rfl

theorem set_get {W : World} {B : Nat} {cs : Array Value} {t : TypeId} (j : Nat) (v : Value) (h : W.heap[B]? = some (.cells cs t (0, 0))) : (W.setCell ⟨B, j, none⟩ v).heap[B]? = some (.cells (cs.setIfInBounds j v) t (0, 0)) := heap_setCell_same _ _ j _ _ v h
/-- Bytes with nine marks behind them. -/
def mk9 (l : List Nat) : List Nat := l ++ List.replicate 9 167
theorem mk9_len (l : List Nat) : (mk9 l).length = l.length + 9 := by simp [mk9]
theorem mk9_at (l : List Nat) (k : Nat) (h1 : l.length ≤ k) (h2 : k < l.length + 9) : (mk9 l)[k]? = some 167 := by
  rw [mk9, List.getElem?_append_right h1, List.getElem?_replicate, if_pos (by omega)]
theorem mk9_old {l : List Nat} {k x : Nat} (h : l[k]? = some x) : (mk9 l)[k]? = some x := by
  rw [mk9, List.getElem?_append_left (List.getElem?_eq_some_iff.1 h).1]
  exact h
set_option maxHeartbeats 1000000 in
set_option maxRecDepth 100000 in
theorem staysB_any (g : Nat) (ad2 : Option Addr) (cap cap2 : Nat) (l : List Nat) (w : World) (hg : g < w.heap.size) (h : BAt w g 0 (mk9 l)) (hc : l.length + 9 ≤ cap) (h2 : RdB w ad2 l) (hl : l.length ≤ 140737488355328) : Calls Tryz.prog 15 #[.slice (some ⟨g, 0, none⟩) l.length cap, .slice ad2 l.length cap2] w fun e w' => e = .returned (.bool true) ∧ Below w.heap.size w w' := by
  have hsm := sameB_yes (some ⟨g, 0, none⟩) ad2 cap cap2 l w (fun _ => ⟨g, 0, rfl, hg, fun k x hx => h k x (mk9_old hx)⟩) h2 (by omega)
  have hci : (l.length : Int) + 9 ≤ (cap : Int) := by omega
  go_enter Tryz.func15, Tryz.ntmps15
  go_wp2_with (go_at_call 83; (with_reducible refine hsm.mono ?_); rintro e u1 ⟨rfl, hb1⟩)
  go_loopw [6] (fun c wz => ∃ k : Nat, c = .int .i64 k ∧ l.length ≤ k ∧ k ≤ l.length + 9 ∧ wz = u1) (fun c _ => l.length + 9 - vnat c)
  case atStart => exact ⟨l.length, rfl, Nat.le_refl _, by omega, rfl⟩
  case round =>
    obtain ⟨k, rfl, hk1, hk2, rfl⟩ := hrel
    by_cases hkl : k < l.length + 9
    · have hki : (k : Int) < (l.length : Int) + 9 := by omega
      have c0 := (hb1.cell (p := ⟨g, 0 + k, none⟩) hg).trans (h k 167 (mk9_at l k hk1 hkl))
      rw [Nat.zero_add] at c0
      go_wp2
      go_roundw
      case rel => exact ⟨k + 1, by simp, by omega, by omega, trivial⟩
      case measure => simp [vnat]; omega
    · have hki : ¬ ((k : Int) < (l.length : Int) + 9) := by omega
      go_wp2
      go_ret
      exact ⟨rfl, hb1⟩
theorem al1x (w : World) (o : Obj) : Below w.heap.size w (w.alloc o) := (Below.refl _ w).alloc (Nat.le_refl _) o
/-- The marks so far. -/
def mkK (l : List Nat) (k : Nat) : List Nat := l ++ (List.replicate k 167 ++ List.replicate (9 - k) 0)
theorem mkK_0 (l : List Nat) : mkK l 0 = l ++ List.replicate 9 0 := rfl
theorem mkK_9 (l : List Nat) : mkK l 9 = mk9 l := by simp [mkK, mk9]
theorem mkK_len (l : List Nat) (k : Nat) (h : k ≤ 9) : (mkK l k).length = l.length + 9 := by simp [mkK]; omega
theorem mkK_at (l : List Nat) (k : Nat) (h : k < 9) : (mkK l k)[l.length + k]? = some 0 := by
  rw [mkK, List.getElem?_append_right (by omega), List.getElem?_append_right (by simp), List.getElem?_replicate, if_pos (by simp; omega)]
theorem mkK_step (l : List Nat) (k : Nat) (h : k < 9) : (mkK l k).set (l.length + k) 167 = mkK l (k + 1) := by
  apply List.ext_getElem?
  intro j
  by_cases e : l.length + k = j
  · subst e
    rw [List.getElem?_set_self (by rw [mkK_len l k (by omega)]; omega), mkK, List.getElem?_append_right (by omega), List.getElem?_append_left (by simp), List.getElem?_replicate, if_pos (by omega)]
  · rw [List.getElem?_set_ne e]
    simp only [mkK, List.getElem?_append, List.getElem?_replicate, List.length_replicate]
    by_cases h1 : j < l.length
    · simp [h1]
    · by_cases h2 : j - l.length < k
      · simp [h1, h2, show j - l.length < k + 1 by omega]
      · simp only [if_neg h1, if_neg h2, if_neg (show ¬ j - l.length < k + 1 by omega)]
        by_cases h3 : j - l.length < 9
        · rw [if_pos (by omega), if_pos (by omega)]
        · rw [if_neg (by omega), if_neg (by omega)]
theorem madeB (n : Nat) : madeCells #[.int .u8 0] n = (cB (List.replicate n 0)).toArray := by
  apply Array.ext'
  have e : ∀ x : Nat, ([Value.int .u8 0][x % 1]?).getD default = .int .u8 0 := fun x => by rw [Nat.mod_one]; rfl
  simp [madeCells, cB, e, List.map_const']
theorem splB (l : List Nat) (n : Nat) (h : n = l.length + 9) : splice (cB (List.replicate n 0)) 0 (cB l) = cB (mkK l 0) := by
  subst h
  simp [splice, cB, mkK]
set_option maxHeartbeats 1000000 in
set_option maxRecDepth 100000 in
theorem lentB_any (ad : Option Addr) (cap : Nat) (l : List Nat) (w : World) (h : RdB w ad l) (hl : l.length ≤ 140737488355000) : Calls Tryz.prog 13 #[.slice ad l.length cap] w fun e w' => e = .returned (.slice (some ⟨w.heap.size, 0, none⟩) l.length (l.length + 9)) ∧ w'.heap[w.heap.size]? = some (.cells (cB (mk9 l)).toArray 5 (0, 0)) ∧ Below w.heap.size w w' := by
  have hmk : ∀ w : World, (Instr.makeSlice 55 (.int .i64 ((l.length : Int) + 9)) (.int .i64 ((l.length : Int) + 9))).run Tryz.prog w = .ok (.slice (some ⟨w.heap.size, 0, none⟩) (l.length + 9) (l.length + 9)) (w.alloc (.cells (cB (List.replicate (l.length + 9) 0)).toArray 5)) := fun w => by
    have := run_make_row' (P := Tryz.prog) 55 5 (.int .u8 0) 1 Tryz.underlying55 infoB rfl .i64 .i64 (l.length + 9) (by omega) (by omega) w
    rw [madeB, show (((l.length + 9 : Nat) : Int)) = (l.length : Int) + 9 by omega] at this
    exact this
  have hb0 := al1x w (.cells (cB (List.replicate (l.length + 9) 0)).toArray 5)
  have hH0 : (w.alloc (.cells (cB (List.replicate (l.length + 9) 0)).toArray 5)).heap[w.heap.size]? = some (.cells (cB (List.replicate (l.length + 9) 0)).toArray 5 (0, 0)) := new_at rfl
  have hsrc : 0 < (cB l).length → some (⟨w.heap.size, 0, none⟩ : Addr) = some ⟨w.heap.size, 0, none⟩ ∧ ∃ a, ad = some a ∧ ∀ j v, (cB l)[j]? = some v → (w.alloc (.cells (cB (List.replicate (l.length + 9) 0)).toArray 5)).cell? (a.add j) = some v := fun hp => by
    obtain ⟨b, off, rfl, hbl, hat⟩ := h (fun e => by subst e; simp [cB] at hp)
    exact ⟨rfl, _, rfl, b_src (hat.carry (hb0.block b hbl))⟩
  go_enter Tryz.func13, Tryz.ntmps13
  go_wp2_with (refine wpList_copy_splice rfl _ _ _ _ rfl 5 Tryz.underlying55 infoB1 _ ad _ _ l.length cap rfl rfl w.heap.size 0 (cB (List.replicate (l.length + 9) 0)) 5 hH0 (cB l) (by rw [cB_len]; exact (Nat.min_eq_left (by omega)).symm) hsrc (by rw [cB_len, cB_len, List.length_replicate]; omega) (cB_one l) w.heap.size w hb0 (Nat.le_refl _) ?_; intro u1 HU hbu; rw [splB l _ rfl] at HU)
  go_loopw [4] (fun c wz => ∃ q k : Nat, c = .int .i64 (q : Int) ∧ Hid (q = l.length + k) ∧ q ≤ l.length + 9 ∧ wz.heap[w.heap.size]? = some (.cells (cB (mkK l k)).toArray 5 (0, 0)) ∧ Below w.heap.size w wz) (fun c _ => l.length + 9 - vnat c)
  case atStart => exact ⟨l.length, 0, rfl, rfl, by omega, HU.out, hbu⟩
  case round =>
    obtain ⟨q, k, rfl, HQ, hq, hh, hbw⟩ := hrel
    by_cases hkl : q < l.length + 9
    · have hki : (q : Int) < (l.length : Int) + 9 := by omega
      have hk9 : k < 9 := by have := HQ.out; omega
      have c0 : wr.cell? ⟨w.heap.size, q, none⟩ = some (.int .u8 ((0 : Nat) : Int)) := by
        rw [HQ.out, cell_at hh]
        rw [List.getElem?_toArray]
        exact cB_get (mkK_at l k hk9)
      have z0 := thaw_at hh q
      have HS := set_get (W := wr) q (.int .u8 167) hh
      have HS2 : Hid ((wr.setCell ⟨w.heap.size, q, none⟩ (.int .u8 167)).heap[w.heap.size]? = some (.cells (cB (mkK l (k + 1))).toArray 5 (0, 0))) := by
        refine HS.trans ?_
        rw [HQ.out, ← mkK_step l k hk9]
        simp [cB, List.map_set]
      have HBW : Hid (Below w.heap.size w (wr.setCell ⟨w.heap.size, q, none⟩ (.int .u8 167))) := hbw.setCell (p := ⟨w.heap.size, q, none⟩) (Nat.le_refl _) _
      clear HS hh
      go_wp2
      go_roundw
      case rel => exact ⟨q + 1, k + 1, by simp, by show q + 1 = l.length + (k + 1); have := HQ.out; omega, by omega, HS2.out, HBW.out⟩
      case measure => simp [vnat]; omega
    · have hki : ¬ (q : Int) < (l.length : Int) + 9 := by omega
      have hk9 : k = 9 := by have := HQ.out; omega
      subst hk9
      rw [mkK_9] at hh
      have hcl : (l.length : Int) ≤ (l.length : Int) + 9 := by omega
      have HH : Hid (wr.heap[w.heap.size]? = some (.cells (cB (mk9 l)).toArray 5 (0, 0))) := hh
      clear hh HQ
      go_wp2
      go_ret
      exact ⟨rfl, HH.out, hbw⟩
end Go.Proofs.YtjfbnikbmadgkaaGreat
