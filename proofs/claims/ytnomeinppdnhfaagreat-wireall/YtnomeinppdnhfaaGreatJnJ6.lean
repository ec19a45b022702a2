/- wire.Open of bytes that are refused; a byte that is turned. -/
import Derived.Test.YtnomeinppdnhfaaGreatJnJ4
import Derived.Test.YtnomeinppdnhfaaGreatJnJ5
import Derived.Stop.Asserts
import Derived.Laws.CopyOwn
import Derived.Deep.OwnRows
namespace Go.Proofs.YtnomeinppdnhfaaGreat
open Go.RowKit Go.Shelf

theorem res2o {tmps : Array Value} {W : World} {a : Nat} {x : Value} {y : Value} (h4 : tmps[4]?.getD undef = .pointer (some ⟨a, 0, none⟩)) (h5 : tmps[5]?.getD undef = y) (hx : W.heap[a]? = some (.cells #[x] 61 (0, 0))) : (results Tryz.f12 tmps).run Tryz.prog W = .ok (.tuple #[.agg #[x], y]) W := by
  have c0 := cell_at hx 0
  simp at c0
  simp [results, Tryz.results12, go_sem, h4, h5, c0]
set_option maxHeartbeats 1000000 in
theorem open_err (ad : Option Addr) (cap : Nat) (bs : List Nat) (n : Int) (w : World) (h : RdB w ad bs) (hb : Byt bs) (hc : bs.length ≤ cap) (er : Int) (hd : dec n bs = .error er) : Calls Tryz.prog 12 #[.slice ad bs.length cap, .int .i64 n] w fun e w' => e = .returned (.tuple #[.agg #[.nilIface], .int .i64 er]) ∧ Below w.heap.size w w' := by
  have hb0 := al1' w (.cells #[.nilIface] 61)
  have hde := decode_any ad cap bs n (w.alloc (.cells #[.nilIface] 61)) (h.carry hb0) hb hc
  unfold DcO at hde
  rw [hd] at hde
  have her : (er != 0) = true := by simpa using dec_err hd
  have hB : (w.alloc (.cells #[.nilIface] 61)).heap[w.heap.size]? = some (.cells #[.nilIface] 61 (0, 0)) := new_at rfl
  go_enter Tryz.func12, Tryz.ntmps12
  go_wp2_with (go_at_call 10; (with_reducible refine hde.mono ?_); rintro e u1 ⟨rfl, hb1⟩; have hB1 := (hb1.block _ (lt_at hB)).trans hB; have c0 := cell_at hB1 0; simp at c0; have z0 := thaw_at hB1 0)
  exact bodyPost_ret (res2o rfl rfl ((set_get 0 _ hB1).trans (by simp))) rfl ⟨rfl, (bel2 hb0 hb1).setCell (p := ⟨w.heap.size, 0, none⟩) (Nat.le_refl _) _⟩
theorem BAt.set {W : World} {g : Nat} {l : List Nat} (h : BAt W g 0 l) {k y x : Nat} (hx : l[k]? = some x) : BAt (W.setCell ⟨g, k, none⟩ (.int .u8 (y : Int))) g 0 (l.set k y) := by
  intro j z hz
  have hk := (List.getElem?_eq_some_iff.1 hx).1
  rw [Nat.zero_add]
  by_cases e : k = j
  · subst e
    rw [List.getElem?_set_self hk] at hz
    cases hz
    have c := h k x hx
    rw [Nat.zero_add] at c
    exact World.cell?_setCell_same _ _ _ c
  · rw [List.getElem?_set_ne e] at hz
    have c := h j z hz
    rw [Nat.zero_add] at c
    rw [World.cell?_setCell_other _ ⟨g, k, none⟩ ⟨g, j, none⟩ _ (fun q => e (by cases q; rfl))]
    exact c
theorem xor_ne (x z : Nat) (h : z ≠ 0) : x ^^^ z ≠ x := by
  intro e
  apply h
  have e2 : x ^^^ (x ^^^ z) = z := by rw [← Nat.xor_assoc, Nat.xor_self, Nat.zero_xor]
  rw [← e2, e, Nat.xor_self]
end Go.Proofs.YtnomeinppdnhfaaGreat
namespace Go.Proofs.YtnomeinppdnhfaaGreat
open Go.RowKit Go.Shelf

theorem open_ok (ad : Option Addr) (cap : Nat) (bs : List Nat) (n : Int) (w : World) (h : RdB w ad bs) (hb : Byt bs) (hc : bs.length ≤ cap) (kd fr rd N : Nat) (l : List (Int × Int × Int)) (hd : dec n bs = .ok (kd, fr, rd, N, l)) : Calls Tryz.prog 12 #[.slice ad bs.length cap, .int .i64 n] w fun e w' => ∃ a c, e = .returned (.tuple #[.agg #[noteV kd fr rd N (.slice a l.length c)], .int .i64 0]) ∧ w'.ownsRow w.heap.size 80 3 (.slice a l.length c) l.length (fl l) ∧ Below w.heap.size w w' := by
  have hb0 := al1' w (.cells #[.nilIface] 61)
  have hde := decode_any ad cap bs n (w.alloc (.cells #[.nilIface] 61)) (h.carry hb0) hb hc
  unfold DcO at hde
  rw [hd] at hde
  have hde2 : Calls Tryz.prog 10 #[.slice ad bs.length cap, .int .i64 n] (w.alloc (.cells #[.nilIface] 61)) fun e w' => ∃ a c t x, e = .returned (.tuple #[.iface t x, .int .i64 0]) ∧ Hid (noteV kd (fr : Int) (rd : Int) N (.slice a l.length c) = .iface t x) ∧ w'.ownsRow (w.alloc (.cells #[.nilIface] 61)).heap.size 80 3 (.slice a l.length c) l.length (fl l) ∧ Below (w.alloc (.cells #[.nilIface] 61)).heap.size (w.alloc (.cells #[.nilIface] 61)) w' := hde.mono (by
    rintro e w' ⟨a, c, rfl, h1, h2⟩
    obtain ⟨t, x, hx⟩ := noteV_form kd fr rd N (.slice a l.length c)
    exact ⟨a, c, t, x, by rw [hx], hx, h1, h2⟩)
  have hB : (w.alloc (.cells #[.nilIface] 61)).heap[w.heap.size]? = some (.cells #[.nilIface] 61 (0, 0)) := new_at rfl
  clear hde hd
  go_enter Tryz.func12, Tryz.ntmps12
  go_wp2_with (go_at_call 10; (with_reducible refine hde2.mono ?_); rintro e u1 ⟨a, c, t, x, rfl, HX, ho, hb1⟩; have hB1 := (hb1.block _ (lt_at hB)).trans hB; have c0 := cell_at hB1 0; simp at c0; have z0 := thaw_at hB1 0)
  exact bodyPost_ret (res2o (x := .iface t x) (y := .int .i64 0) rfl rfl ((set_get 0 _ hB1).trans (by simp))) rfl ⟨a, c, by rw [HX.out], ownsRow_base (ownsRow_setCell_below ho (a := ⟨w.heap.size, 0, none⟩) (by simp) _) (by simp), (bel2 hb0 hb1).setCell (p := ⟨w.heap.size, 0, none⟩) (Nat.le_refl _) _⟩
theorem pnote_nil (w : World) : Calls Tryz.prog 13 #[.agg #[.nilIface]] w fun e w' => e = .returned .nilIface ∧ Below w.heap.size w w' := by
  have ny := nil_yes
  go_enter Tryz.func13, Tryz.ntmps13
  go_wp2
  go_ret
  exact ⟨rfl, al1' w _⟩
set_option maxHeartbeats 1000000 in
theorem pnoteQ (f r : Int) (ad : Option Addr) (cap : Nat) (l : List (Int × Int × Int)) (w : World) (h : RdN w ad l) (hl : l.length ≤ 5000000000000) : Calls Tryz.prog 13 #[.agg #[.iface 70 (.agg #[.int .i64 f, .int .i64 r, .slice ad l.length cap])]] w fun e w' => ∃ a c, e = .returned (.iface 70 (.agg #[.int .i64 f, .int .i64 r, .slice a l.length c])) ∧ w'.ownsRow w.heap.size 80 3 (.slice a l.length c) l.length (fl l) ∧ Below w.heap.size w w' := by
  have nn := nil_no
  have iv := invQ_twin
  have hb0 := al1' w (.cells #[.iface 70 (.agg #[.int .i64 f, .int .i64 r, .slice ad l.length cap])] 61)
  have htw := twinQ_any f r ad cap l _ (h.carry hb0) hl
  go_enter Tryz.func13, Tryz.ntmps13
  go_wp2_with (go_at_call 140; (with_reducible refine htw.mono ?_); rintro e u1 ⟨a, c, rfl, ho, hb1⟩)
  go_ret
  exact ⟨a, c, rfl, ownsRow_base ho hb0.size, bel2 hb0 hb1⟩
set_option maxHeartbeats 1000000 in
theorem pnoteP (f r x0 x1 x2 x3 : Int) (ad : Option Addr) (cap : Nat) (l : List (Int × Int × Int)) (w : World) (h : RdN w ad l) (hl : l.length ≤ 5000000000000) : Calls Tryz.prog 13 #[.agg #[.iface 73 (.agg #[.int .i64 f, .int .i64 r, .int .u32 x0, .int .u32 x1, .int .u32 x2, .int .u32 x3, .slice ad l.length cap])]] w fun e w' => ∃ a c, e = .returned (.iface 73 (.agg #[.int .i64 f, .int .i64 r, .int .u32 x0, .int .u32 x1, .int .u32 x2, .int .u32 x3, .slice a l.length c])) ∧ w'.ownsRow w.heap.size 80 3 (.slice a l.length c) l.length (fl l) ∧ Below w.heap.size w w' := by
  have nn := nil_no
  have iv := invP_twin
  have hb0 := al1' w (.cells #[.iface 73 (.agg #[.int .i64 f, .int .i64 r, .int .u32 x0, .int .u32 x1, .int .u32 x2, .int .u32 x3, .slice ad l.length cap])] 61)
  have htw := twinP_any f r x0 x1 x2 x3 ad cap l _ (h.carry hb0) hl
  go_enter Tryz.func13, Tryz.ntmps13
  go_wp2_with (go_at_call 147; (with_reducible refine htw.mono ?_); rintro e u1 ⟨a, c, rfl, ho, hb1⟩)
  go_ret
  exact ⟨a, c, rfl, ownsRow_base ho hb0.size, bel2 hb0 hb1⟩
set_option maxHeartbeats 1000000 in
theorem pnoteU (f : Int) (ad : Option Addr) (cap : Nat) (l : List (Int × Int × Int)) (w : World) (h : RdN w ad l) (hl : l.length ≤ 5000000000000) : Calls Tryz.prog 13 #[.agg #[.iface 75 (.agg #[.int .i64 f, .slice ad l.length cap])]] w fun e w' => ∃ a c, e = .returned (.iface 75 (.agg #[.int .i64 f, .slice a l.length c])) ∧ w'.ownsRow w.heap.size 80 3 (.slice a l.length c) l.length (fl l) ∧ Below w.heap.size w w' := by
  have nn := nil_no
  have iv := invU_twin
  have hb0 := al1' w (.cells #[.iface 75 (.agg #[.int .i64 f, .slice ad l.length cap])] 61)
  have htw := twinU_any f ad cap l _ (h.carry hb0) hl
  go_enter Tryz.func13, Tryz.ntmps13
  go_wp2_with (go_at_call 153; (with_reducible refine htw.mono ?_); rintro e u1 ⟨a, c, rfl, ho, hb1⟩)
  go_ret
  exact ⟨a, c, rfl, ownsRow_base ho hb0.size, bel2 hb0 hb1⟩
end Go.Proofs.YtnomeinppdnhfaaGreat
namespace Go.Proofs.YtnomeinppdnhfaaGreat
open Go.RowKit Go.Shelf

set_option maxHeartbeats 1000000 in
set_option maxRecDepth 100000 in
theorem rSum_any (ad : Option Addr) (cap : Nat) (l : List Nat) (w : World) (h : RdB w ad l) (hb : Byt l) (hl : l.length ≤ 140737488355328) : Calls Tryz.prog 23 #[.slice ad l.length cap] w fun e w' => e = .returned (.int .i64 (sumV l : Nat)) ∧ w' = w := by
  obtain ⟨R, hR⟩ : ∃ R, sumF 1 0 l = R := ⟨_, rfl⟩
  have hlt := sumF_lt l 1 0 (by decide) (by decide)
  rw [sumV, hR]
  rw [hR] at hlt
  have HR : Hid (sumF 1 0 (l.drop 0) = R) := hR
  clear hR
  go_enter Tryz.func23, Tryz.ntmps23
  go_wp2
  go_loopw [3, 4, 5] (fun p q i wz => ∃ (k a b : Nat), p = .int .i64 a ∧ q = .int .i64 b ∧ i = .int .i64 k ∧ k ≤ l.length ∧ a < 65521 ∧ b < 65521 ∧ Hid (sumF a b (l.drop k) = R) ∧ wz = w) (fun _ _ i _ => l.length - vnatW i)
  case atStart => exact ⟨0, 1, 0, rfl, rfl, rfl, Nat.zero_le _, by decide, by decide, HR, rfl⟩
  case round =>
    obtain ⟨k, a, b, rfl, rfl, rfl, hk, ha, hbb, HK, rfl⟩ := hrel
    by_cases hkl : k < l.length
    · obtain ⟨g, off, e1, hbl, hat⟩ := h (fun e => by subst e; simp at hkl)
      subst e1
      obtain ⟨x, hx⟩ := get_lt hkl
      have c0 := hat k _ hx
      have hx8 := byt_get8 hb hx
      have HS := sumF_drop l k a b x hx
      rw [HK.out] at HS
      have HS2 : Hid (R = sumF ((a + x) % 65521) ((b + (a + x) % 65521) % 65521) (l.drop (k + 1))) := HS
      clear HS HK HR
      have hki : (k : Int) < (l.length : Int) := by omega
      go_wp2
      go_roundw
      case rel => exact ⟨k + 1, (a + x) % 65521, (b + (a + x) % 65521) % 65521, by simp, by simp, by simp, by omega, Nat.mod_lt _ (by decide), Nat.mod_lt _ (by decide), HS2.out.symm, trivial⟩
      case measure => simp [vnatW]; omega
    · have hkk : k = l.length := by omega
      subst hkk
      have hki : ¬ ((l.length : Int) < (l.length : Int)) := by omega
      have HE : Hid (R = (a, b)) := by have := HK.out; rw [List.drop_length] at this; exact this.symm
      clear HK HR h hb
      go_wp2
      go_ret
      rw [HE.out]
      exact ⟨by simp, rfl⟩
end Go.Proofs.YtnomeinppdnhfaaGreat
