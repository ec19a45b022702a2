/- slot's write: what it answers. -/
import Derived.Test.YtjleggnkacmbbaaLtf
namespace Go.Proofs.Ytjleggnkacmbbaa
open Go.RowKit Go.Shelf Go.Lib

theorem wr_at {V : World} {p : Nat} {d : Dst} (h : Dk V p d) (z : Int) (g off cap : Nat) (x : List Nat) (hg : g < V.heap.size) (hx : BAt V g off x) (hl : x.length = 32) (hb : Byt x) (hf : Fz d) (hw0 : 0 ≤ d.writes) (hw : d.writes ≤ 4611686018427387904) : Calls Try.prog 65 #[.pointer (some ⟨p, 0, none⟩), .int .i64 z, .slice (some ⟨g, off, none⟩) 32 cap] V fun e w' => e = .returned (.int .i64 (dWr d z x).1) ∧ Dk w' p (dWr d z x).2 ∧ Tp p V w' := by
  have := write_any h z (some ⟨g, off, none⟩) cap x (fun _ => ⟨g, off, rfl, hg, hx⟩) hb hf hw0 hw
  rw [hl] at this
  exact this
/-- A slot is written: what is answered, and the disk behind it. -/
def dW2 (d : Dst) (q : Nat) (S : List Nat) : Int × Dst := if (dWr d (2 * q : Nat) (S.take 32)).1 = 0 then dWr (dWr d (2 * q : Nat) (S.take 32)).2 (2 * q + 1 : Nat) (S.drop 32) else dWr d (2 * q : Nat) (S.take 32)
theorem dFuse_fz (d : Dst) (k : Int) (hk : k ≤ 9223372036854775807) : Fz (dFuse d k) := fun h => by
  have h1 : 0 ≤ k := of_decide_eq_true h
  show 0 ≤ (if 0 ≤ k then k else 0) ∧ (if 0 ≤ k then k else 0) ≤ 9223372036854775807
  rw [if_pos h1]
  exact ⟨h1, hk⟩
theorem dWr_fz {d : Dst} (hf : Fz d) (s : Int) (x : List Nat) : Fz (dWr d s x).2 := by
  unfold dWr
  split
  · exact hf
  · split
    · exact hf
    · split
      · exact hf
      · split
        · exact dFuse_fz _ _ (by omega)
        · rename_i h1
          intro hq
          have hq : d.fused = true := hq
          have h2 := hf hq
          have h3 : ¬ d.fuse = 0 := fun e => h1 (by unfold left; rw [if_pos hq]; exact e)
          show 0 ≤ (if d.fused then d.fuse - 1 else d.fuse) ∧ (if d.fused then d.fuse - 1 else d.fuse) ≤ 9223372036854775807
          rw [if_pos hq]
          omega
theorem dWr_wr {d : Dst} (s : Int) (x : List Nat) : d.writes ≤ (dWr d s x).2.writes ∧ (dWr d s x).2.writes ≤ d.writes + 1 := by
  unfold dWr
  split
  · exact ⟨by show d.writes ≤ d.writes; omega, by show d.writes ≤ d.writes + 1; omega⟩
  · split
    · exact ⟨by show d.writes ≤ d.writes; omega, by show d.writes ≤ d.writes + 1; omega⟩
    · split
      · exact ⟨by show d.writes ≤ d.writes; omega, by show d.writes ≤ d.writes + 1; omega⟩
      · split
        · exact ⟨by show d.writes ≤ d.writes; omega, by show d.writes ≤ d.writes + 1; omega⟩
        · exact ⟨by show d.writes ≤ d.writes + 1; omega, by show d.writes + 1 ≤ d.writes + 1; omega⟩
theorem dW2_fz {d : Dst} (hf : Fz d) (q : Nat) (S : List Nat) : Fz (dW2 d q S).2 := by
  unfold dW2
  split
  · exact dWr_fz (dWr_fz hf _ _) _ _
  · exact dWr_fz hf _ _
theorem dW2_wr {d : Dst} (q : Nat) (S : List Nat) : d.writes ≤ (dW2 d q S).2.writes ∧ (dW2 d q S).2.writes ≤ d.writes + 2 := by
  have h1 := dWr_wr (d := d) (2 * q : Nat) (S.take 32)
  have h2 := dWr_wr (d := (dWr d (2 * q : Nat) (S.take 32)).2) (2 * q + 1 : Nat) (S.drop 32)
  unfold dW2
  split <;> constructor <;> omega
/-- While a slot is written. -/
def JW (W : World) (p : Nat) (S : List Nat) (D : Dst) (V : World) : Prop := ImB V W.heap.size S ∧ Dk V p D ∧ Tp p W V
theorem JW.turn {W V V' : World} {p : Nat} {S : List Nat} {D D' : Dst} (hp : p < W.heap.size) (h : JW W p S D V) (hd : Dk V' p D') (ht : Tp p V V') : JW W p S D' V' :=
  ⟨(ht.block _ (lt_at h.1) (by omega)).trans h.1, hd, h.2.2.trans ht⟩
section
variable {W : World} {p : Nat} {d : Dst}
set_option maxHeartbeats 4000000 in
set_option maxRecDepth 100000 in
theorem swrite_any (h : Dk W p d) (q : Nat) (hq : q < 2) (S : List Nat) (hS : S.length = 64) (hB : Byt S) (hf : Fz d) (hw0 : 0 ≤ d.writes) (hw : d.writes ≤ 4611686018427387903) : Calls Try.prog 57 #[.pointer (some ⟨p, 0, none⟩), .int .i64 (q : Int), .agg (cB S).toArray] W fun e w' => e = .returned (.int .i64 (dW2 d q S).1) ∧ Dk w' p (dW2 d q S).2 ∧ Tp p W w' := by
  have hbox := boxI
  obtain ⟨C, hC⟩ : ∃ C, (cB S).toArray = C := ⟨_, rfl⟩
  obtain ⟨w1, hw1⟩ : ∃ w1, W.alloc (.cells C 100) = w1 := ⟨_, rfl⟩
  have hj : JW W p S d w1 := by
    rw [← hw1, ← hC]
    exact ⟨new_at rfl, h.carry (al1' _ _), Tp.of _ (al1' _ _)⟩
  rw [hC]
  have hpl := h.lt
  obtain ⟨A, hA⟩ : ∃ A, S.take 32 = A := ⟨_, rfl⟩
  obtain ⟨B, hBB⟩ : ∃ B, S.drop 32 = B := ⟨_, rfl⟩
  have hAl : A.length = 32 := by rw [← hA, List.length_take]; omega
  have hBl : B.length = 32 := by rw [← hBB, List.length_drop]; omega
  have hAb : Byt A := by rw [← hA]; exact hB.take 32
  have hBb : Byt B := by rw [← hBB]; exact hB.drop 32
  have hat : ∀ V, ImB V W.heap.size S → BAt V W.heap.size 0 A ∧ BAt V W.heap.size 32 B := fun V hV => by
    have h1 := hV.at.sub 0 32
    have h2 := hV.at.sub 32 32
    rw [List.drop_zero, hA] at h1
    rw [hBB, List.take_of_length_le (by omega)] at h2
    exact ⟨h1, h2⟩
  have HU : Hid (∀ q : Nat, dW2 d q S = if (dWr d (2 * q : Nat) A).1 = 0 then dWr (dWr d (2 * q : Nat) A).2 (2 * q + 1 : Nat) B else dWr d (2 * q : Nat) A) := by intro q; rw [← hA, ← hBB]; rfl
  clear hA hBB
  have hq : q = 0 ∨ q = 1 := by omega
  rcases hq with rfl | rfl
  · change Calls Try.prog 57 #[.pointer (some ⟨p, 0, none⟩), .int .i64 0, .agg C] W _
    have HE : Hid (dW2 d 0 S = if (dWr d 0 A).1 = 0 then dWr (dWr d 0 A).2 1 B else dWr d 0 A) := HU.out 0
    obtain ⟨e1, he1⟩ : ∃ e1, (dWr d 0 A).1 = e1 := ⟨_, rfl⟩
    obtain ⟨d1, hd1⟩ : ∃ d1, (dWr d 0 A).2 = d1 := ⟨_, rfl⟩
    obtain ⟨e2, he2⟩ : ∃ e2, (dWr d1 1 B).1 = e2 := ⟨_, rfl⟩
    obtain ⟨d2, hd2⟩ : ∃ d2, (dWr d1 1 B).2 = d2 := ⟨_, rfl⟩
    have hf1 : Fz d1 := by rw [← hd1]; exact dWr_fz hf _ _
    have hw1' := dWr_wr (d := d) 0 A
    rw [hd1] at hw1'
    have hwr1 := fun V (hV : JW W p S d V) => wr_at hV.2.1 0 W.heap.size 0 64 A (lt_at hV.1) (hat V hV.1).1 hAl hAb hf hw0 (by omega)
    rw [he1, hd1] at hwr1
    have hwr2 := fun V (hV : JW W p S d1 V) => wr_at hV.2.1 1 W.heap.size 32 32 B (lt_at hV.1) (hat V hV.1).2 hBl hBb hf1 (by omega) (by omega)
    rw [he2, hd2] at hwr2
    have HX : Hid ((e1 = 0 → dW2 d 0 S = (e2, d2)) ∧ (¬ e1 = 0 → dW2 d 0 S = (e1, d1))) := by
      refine ⟨fun z => ?_, fun z => ?_⟩
      · rw [HE.out, he1, if_pos z, hd1, ← he2, ← hd2]
      · rw [HE.out, he1, if_neg z, ← he1, ← hd1]
    clear HE HU he1 hd1 he2 hd2 hw1' hf1 hw hw0
    go_enter Try.func57, Try.ntmps57
    go_wp2
    go_loopw [10] (fun i wz => ∃ (k : Nat) (D : Dst), i = .int .i64 k ∧ Hid ((k = 0 ∧ D = d) ∨ (k = 1 ∧ D = d1 ∧ e1 = 0) ∨ (k = 2 ∧ D = d2 ∧ e1 = 0 ∧ e2 = 0)) ∧ JW W p S D wz) (fun i _ => 2 - vnat i)
    case atStart => exact ⟨0, d, rfl, .inl ⟨rfl, rfl⟩, hj⟩
    case round =>
      obtain ⟨k, D, rfl, HC, hjr⟩ := hrel
      rcases HC.out with ⟨rfl, rfl⟩ | ⟨rfl, rfl, z1⟩ | ⟨rfl, rfl, z1, z2⟩
      · have hwr := hwr1 _ hjr
        clear HC
        by_cases z : e1 = 0
        · subst z
          go_wp2_with (go_at_call 65; (with_reducible refine hwr.mono ?_); rintro e u1 ⟨rfl, hd1, ht1⟩)
          go_roundw
          case rel => exact ⟨1, d1, rfl, .inr (.inl ⟨rfl, rfl, by simp⟩), hjr.turn hpl hd1 ht1⟩
          case measure => simp [vnat]
        · go_wp2_with (go_at_call 65; (with_reducible refine hwr.mono ?_); rintro e u1 ⟨rfl, hd1, ht1⟩)
          go_ret
          rw [HX.out.2 z]
          exact ⟨rfl, hd1, hjr.2.2.trans ht1⟩
      · have hwr := hwr2 _ hjr
        clear HC
        subst z1
        by_cases z : e2 = 0
        · subst z
          go_wp2_with (go_at_call 65; (with_reducible refine hwr.mono ?_); rintro e u1 ⟨rfl, hd1, ht1⟩)
          go_roundw
          case rel => exact ⟨2, d2, rfl, .inr (.inr ⟨rfl, rfl, by simp⟩), hjr.turn hpl hd1 ht1⟩
          case measure => simp [vnat]
        · go_wp2_with (go_at_call 65; (with_reducible refine hwr.mono ?_); rintro e u1 ⟨rfl, hd1, ht1⟩)
          go_ret
          rw [HX.out.1 (by trivial)]
          exact ⟨rfl, hd1, hjr.2.2.trans ht1⟩
      · clear HC
        go_wp2
        go_ret
        rw [HX.out.1 z1, ← z2]
        exact ⟨rfl, hjr.2.1, hjr.2.2⟩
  · change Calls Try.prog 57 #[.pointer (some ⟨p, 0, none⟩), .int .i64 1, .agg C] W _
    have HE : Hid (dW2 d 1 S = if (dWr d 2 A).1 = 0 then dWr (dWr d 2 A).2 3 B else dWr d 2 A) := HU.out 1
    obtain ⟨e1, he1⟩ : ∃ e1, (dWr d 2 A).1 = e1 := ⟨_, rfl⟩
    obtain ⟨d1, hd1⟩ : ∃ d1, (dWr d 2 A).2 = d1 := ⟨_, rfl⟩
    obtain ⟨e2, he2⟩ : ∃ e2, (dWr d1 3 B).1 = e2 := ⟨_, rfl⟩
    obtain ⟨d2, hd2⟩ : ∃ d2, (dWr d1 3 B).2 = d2 := ⟨_, rfl⟩
    have hf1 : Fz d1 := by rw [← hd1]; exact dWr_fz hf _ _
    have hw1' := dWr_wr (d := d) 2 A
    rw [hd1] at hw1'
    have hwr1 := fun V (hV : JW W p S d V) => wr_at hV.2.1 2 W.heap.size 0 64 A (lt_at hV.1) (hat V hV.1).1 hAl hAb hf hw0 (by omega)
    rw [he1, hd1] at hwr1
    have hwr2 := fun V (hV : JW W p S d1 V) => wr_at hV.2.1 3 W.heap.size 32 32 B (lt_at hV.1) (hat V hV.1).2 hBl hBb hf1 (by omega) (by omega)
    rw [he2, hd2] at hwr2
    have HX : Hid ((e1 = 0 → dW2 d 1 S = (e2, d2)) ∧ (¬ e1 = 0 → dW2 d 1 S = (e1, d1))) := by
      refine ⟨fun z => ?_, fun z => ?_⟩
      · rw [HE.out, he1, if_pos z, hd1, ← he2, ← hd2]
      · rw [HE.out, he1, if_neg z, ← he1, ← hd1]
    clear HE HU he1 hd1 he2 hd2 hw1' hf1 hw hw0
    go_enter Try.func57, Try.ntmps57
    go_wp2
    go_loopw [10] (fun i wz => ∃ (k : Nat) (D : Dst), i = .int .i64 k ∧ Hid ((k = 0 ∧ D = d) ∨ (k = 1 ∧ D = d1 ∧ e1 = 0) ∨ (k = 2 ∧ D = d2 ∧ e1 = 0 ∧ e2 = 0)) ∧ JW W p S D wz) (fun i _ => 2 - vnat i)
    case atStart => exact ⟨0, d, rfl, .inl ⟨rfl, rfl⟩, hj⟩
    case round =>
      obtain ⟨k, D, rfl, HC, hjr⟩ := hrel
      rcases HC.out with ⟨rfl, rfl⟩ | ⟨rfl, rfl, z1⟩ | ⟨rfl, rfl, z1, z2⟩
      · have hwr := hwr1 _ hjr
        clear HC
        by_cases z : e1 = 0
        · subst z
          go_wp2_with (go_at_call 65; (with_reducible refine hwr.mono ?_); rintro e u1 ⟨rfl, hd1, ht1⟩)
          go_roundw
          case rel => exact ⟨1, d1, rfl, .inr (.inl ⟨rfl, rfl, by simp⟩), hjr.turn hpl hd1 ht1⟩
          case measure => simp [vnat]
        · go_wp2_with (go_at_call 65; (with_reducible refine hwr.mono ?_); rintro e u1 ⟨rfl, hd1, ht1⟩)
          go_ret
          rw [HX.out.2 z]
          exact ⟨rfl, hd1, hjr.2.2.trans ht1⟩
      · have hwr := hwr2 _ hjr
        clear HC
        subst z1
        by_cases z : e2 = 0
        · subst z
          go_wp2_with (go_at_call 65; (with_reducible refine hwr.mono ?_); rintro e u1 ⟨rfl, hd1, ht1⟩)
          go_roundw
          case rel => exact ⟨2, d2, rfl, .inr (.inr ⟨rfl, rfl, by simp⟩), hjr.turn hpl hd1 ht1⟩
          case measure => simp [vnat]
        · go_wp2_with (go_at_call 65; (with_reducible refine hwr.mono ?_); rintro e u1 ⟨rfl, hd1, ht1⟩)
          go_ret
          rw [HX.out.1 (by trivial)]
          exact ⟨rfl, hd1, hjr.2.2.trans ht1⟩
      · clear HC
        go_wp2
        go_ret
        rw [HX.out.1 z1, ← z2]
        exact ⟨rfl, hjr.2.1, hjr.2.2⟩
end
end Go.Proofs.Ytjleggnkacmbbaa
