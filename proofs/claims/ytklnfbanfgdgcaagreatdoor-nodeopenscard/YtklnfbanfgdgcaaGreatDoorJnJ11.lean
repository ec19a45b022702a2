/- slot's write: what it answers. -/
import Derived.Test.YtklnfbanfgdgcaaGreatDoorJnJ10
import Derived.Test.YtklnfbanfgdgcaaGreatDoorJnJ9
set_option maxHeartbeats 40000000
set_option maxRecDepth 100000
set_option linter.unusedVariables false
namespace Go.Proofs.YtklnfbanfgdgcaaGreatDoor
open Go.RowKit Go.Shelf Go.Lib

theorem wr_at {V : World} {p : Nat} {d : Dst} (h : Dk V p d) (z : Int) (g off cap : Nat) (x : List Nat) (hg : g < V.heap.size) (hx : BAt V g off x) (hl : x.length = 32) (hb : Byt x) (hf : Fz d) (hw0 : 0 ≤ d.writes) (hw : d.writes ≤ 4611686018427387904) : Calls Tryz.prog 271 #[.pointer (some ⟨p, 0, none⟩), .int .i64 z, .slice (some ⟨g, off, none⟩) 32 cap] V fun e w' => e = .returned (.int .i64 (dWr d z x).1) ∧ Dk w' p (dWr d z x).2 ∧ TpZ p V w' := by
  have := write_any h z (some ⟨g, off, none⟩) cap x (fun _ => ⟨g, off, rfl, hg, hx⟩) hb hf hw0 hw
  rw [hl] at this
  exact this
/-- A slot is written: what is answered, and the disk behind it. -/
def dW2 (d : Dst) (q : Nat) (S : List Nat) : Int × Dst := if (dWr d (2 * q : Nat) (S.take 32)).1 = 0 then dWr (dWr d (2 * q : Nat) (S.take 32)).2 (2 * q + 1 : Nat) (S.drop 32) else dWr d (2 * q : Nat) (S.take 32)
theorem dFuse_fz (d : Dst) (k : Int) (hk : k ≤ 9223372036854775807) : Fz (dFuse d k) := fun h => by
  have h1 : 0 ≤ k := of_decide_eq_true h
  show 0 ≤ (if 0 ≤ k then k else 0) ∧ (if 0 ≤ k then k else 0) ≤ 9223372036854775807
  rw [if_pos h1]
  exact ⟨h1, hk⟩
theorem dWr_fz {d : Dst} (hf : Fz d) (s : Int) (x : List Nat) : Fz (dWr d s x).2 := by
  unfold dWr
  split
  · exact hf
  · split
    · exact hf
    · split
      · exact hf
      · split
        · exact dFuse_fz _ _ (by omega)
        · rename_i h1
          intro hq
          have hq : d.fused = true := hq
          have h2 := hf hq
          have h3 : ¬ d.fuse = 0 := fun e => h1 (by unfold left; rw [if_pos hq]; exact e)
          show 0 ≤ (if d.fused then d.fuse - 1 else d.fuse) ∧ (if d.fused then d.fuse - 1 else d.fuse) ≤ 9223372036854775807
          rw [if_pos hq]
          omega
theorem dWr_wr {d : Dst} (s : Int) (x : List Nat) : d.writes ≤ (dWr d s x).2.writes ∧ (dWr d s x).2.writes ≤ d.writes + 1 := by
  unfold dWr
  split
  · exact ⟨by show d.writes ≤ d.writes; omega, by show d.writes ≤ d.writes + 1; omega⟩
  · split
    · exact ⟨by show d.writes ≤ d.writes; omega, by show d.writes ≤ d.writes + 1; omega⟩
    · split
      · exact ⟨by show d.writes ≤ d.writes; omega, by show d.writes ≤ d.writes + 1; omega⟩
      · split
        · exact ⟨by show d.writes ≤ d.writes; omega, by show d.writes ≤ d.writes + 1; omega⟩
        · exact ⟨by show d.writes ≤ d.writes + 1; omega, by show d.writes + 1 ≤ d.writes + 1; omega⟩
theorem dW2_fz {d : Dst} (hf : Fz d) (q : Nat) (S : List Nat) : Fz (dW2 d q S).2 := by
  unfold dW2
  split
  · exact dWr_fz (dWr_fz hf _ _) _ _
  · exact dWr_fz hf _ _
theorem dW2_wr {d : Dst} (q : Nat) (S : List Nat) : d.writes ≤ (dW2 d q S).2.writes ∧ (dW2 d q S).2.writes ≤ d.writes + 2 := by
  have h1 := dWr_wr (d := d) (2 * q : Nat) (S.take 32)
  have h2 := dWr_wr (d := (dWr d (2 * q : Nat) (S.take 32)).2) (2 * q + 1 : Nat) (S.drop 32)
  unfold dW2
  split <;> constructor <;> omega
/-- While a slot is written. -/
def JW (W : World) (p : Nat) (S : List Nat) (D : Dst) (V : World) : Prop := ImB V W.heap.size S ∧ Dk V p D ∧ TpZ p W V
theorem JW.turn {W V V' : World} {p : Nat} {S : List Nat} {D D' : Dst} (hp : p < W.heap.size) (h : JW W p S D V) (hd : Dk V' p D') (ht : TpZ p V V') : JW W p S D' V' :=
  ⟨(ht.block _ (lt_at h.1) (by omega)).trans h.1, hd, h.2.2.trans ht⟩
section
variable {W : World} {p : Nat} {d : Dst}
set_option maxHeartbeats 4000000 in
set_option maxRecDepth 100000 in
theorem swrite_any (h : Dk W p d) (q : Nat) (hq : q < 2) (S : List Nat) (hS : S.length = 64) (hB : Byt S) (hf : Fz d) (hw0 : 0 ≤ d.writes) (hw : d.writes ≤ 4611686018427387903) : Calls Tryz.prog 229 #[.pointer (some ⟨p, 0, none⟩), .int .i64 (q : Int), .agg (cB S).toArray] W fun e w' => e = .returned (.int .i64 (dW2 d q S).1) ∧ Dk w' p (dW2 d q S).2 ∧ TpZ p W w' := by
  have hbox := boxI
  obtain ⟨C, hC⟩ : ∃ C, (cB S).toArray = C := ⟨_, rfl⟩
  obtain ⟨w1, hw1⟩ : ∃ w1, W.alloc (.cells C 334) = w1 := ⟨_, rfl⟩
  have hj : JW W p S d w1 := by
    rw [← hw1, ← hC]
    exact ⟨new_at rfl, h.carry (al1'Z _ _), TpZ.of _ (al1'Z _ _)⟩
  rw [hC]
  have hpl := h.lt
  obtain ⟨A, hA⟩ : ∃ A, S.take 32 = A := ⟨_, rfl⟩
  obtain ⟨B, hBB⟩ : ∃ B, S.drop 32 = B := ⟨_, rfl⟩
  have hAl : A.length = 32 := by rw [← hA, List.length_take]; omega
  have hBl : B.length = 32 := by rw [← hBB, List.length_drop]; omega
  have hAb : Byt A := by rw [← hA]; exact hB.take 32
  have hBb : Byt B := by rw [← hBB]; exact hB.drop 32
  have hat : ∀ V, ImB V W.heap.size S → BAt V W.heap.size 0 A ∧ BAt V W.heap.size 32 B := fun V hV => by
    have h1 := hV.at.sub 0 32
    have h2 := hV.at.sub 32 32
    rw [List.drop_zero, hA] at h1
    rw [hBB, List.take_of_length_le (by omega)] at h2
    exact ⟨h1, h2⟩
  have HU : Hid (∀ q : Nat, dW2 d q S = if (dWr d (2 * q : Nat) A).1 = 0 then dWr (dWr d (2 * q : Nat) A).2 (2 * q + 1 : Nat) B else dWr d (2 * q : Nat) A) := by intro q; rw [← hA, ← hBB]; rfl
  clear hA hBB
  have hq : q = 0 ∨ q = 1 := by omega
  rcases hq with rfl | rfl
  · change Calls Tryz.prog 229 #[.pointer (some ⟨p, 0, none⟩), .int .i64 0, .agg C] W _
    have HE : Hid (dW2 d 0 S = if (dWr d 0 A).1 = 0 then dWr (dWr d 0 A).2 1 B else dWr d 0 A) := HU.out 0
    obtain ⟨e1, he1⟩ : ∃ e1, (dWr d 0 A).1 = e1 := ⟨_, rfl⟩
    obtain ⟨d1, hd1⟩ : ∃ d1, (dWr d 0 A).2 = d1 := ⟨_, rfl⟩
    obtain ⟨e2, he2⟩ : ∃ e2, (dWr d1 1 B).1 = e2 := ⟨_, rfl⟩
    obtain ⟨d2, hd2⟩ : ∃ d2, (dWr d1 1 B).2 = d2 := ⟨_, rfl⟩
    have hf1 : Fz d1 := by rw [← hd1]; exact dWr_fz hf _ _
    have hw1' := dWr_wr (d := d) 0 A
    rw [hd1] at hw1'
    have hwr1 := fun V (hV : JW W p S d V) => wr_at hV.2.1 0 W.heap.size 0 64 A (lt_at hV.1) (hat V hV.1).1 hAl hAb hf hw0 (by omega)
    rw [he1, hd1] at hwr1
    have hwr2 := fun V (hV : JW W p S d1 V) => wr_at hV.2.1 1 W.heap.size 32 32 B (lt_at hV.1) (hat V hV.1).2 hBl hBb hf1 (by omega) (by omega)
    rw [he2, hd2] at hwr2
    have HX : Hid ((e1 = 0 → dW2 d 0 S = (e2, d2)) ∧ (¬ e1 = 0 → dW2 d 0 S = (e1, d1))) := by
      refine ⟨fun z => ?_, fun z => ?_⟩
      · rw [HE.out, he1, if_pos z, hd1, ← he2, ← hd2]
      · rw [HE.out, he1, if_neg z, ← he1, ← hd1]
    clear HE HU he1 hd1 he2 hd2 hw1' hf1 hw hw0
    go_enter Tryz.func229, Tryz.ntmps229
    go_wp2
    go_loopw [10] (fun i wz => ∃ (k : Nat) (D : Dst), i = .int .i64 k ∧ Hid ((k = 0 ∧ D = d) ∨ (k = 1 ∧ D = d1 ∧ e1 = 0) ∨ (k = 2 ∧ D = d2 ∧ e1 = 0 ∧ e2 = 0)) ∧ JW W p S D wz) (fun i _ => 2 - vnatZ i)
    case atStart => exact ⟨0, d, rfl, .inl ⟨rfl, rfl⟩, hj⟩
    case round =>
      obtain ⟨k, D, rfl, HC, hjr⟩ := hrel
      rcases HC.out with ⟨rfl, rfl⟩ | ⟨rfl, rfl, z1⟩ | ⟨rfl, rfl, z1, z2⟩
      · have hwr := hwr1 _ hjr
        clear HC
        by_cases z : e1 = 0
        · subst z
          go_wp2_with (go_at_call 271; (with_reducible refine hwr.mono ?_); rintro e u1 ⟨rfl, hd1, ht1⟩)
          go_roundw
          case rel => exact ⟨1, d1, rfl, .inr (.inl ⟨rfl, rfl, by simp⟩), hjr.turn hpl hd1 ht1⟩
          case measure => simp [vnatZ]
        · go_wp2_with (go_at_call 271; (with_reducible refine hwr.mono ?_); rintro e u1 ⟨rfl, hd1, ht1⟩)
          go_ret
          rw [HX.out.2 z]
          exact ⟨rfl, hd1, hjr.2.2.trans ht1⟩
      · have hwr := hwr2 _ hjr
        clear HC
        subst z1
        by_cases z : e2 = 0
        · subst z
          go_wp2_with (go_at_call 271; (with_reducible refine hwr.mono ?_); rintro e u1 ⟨rfl, hd1, ht1⟩)
          go_roundw
          case rel => exact ⟨2, d2, rfl, .inr (.inr ⟨rfl, rfl, by simp⟩), hjr.turn hpl hd1 ht1⟩
          case measure => simp [vnatZ]
        · go_wp2_with (go_at_call 271; (with_reducible refine hwr.mono ?_); rintro e u1 ⟨rfl, hd1, ht1⟩)
          go_ret
          rw [HX.out.1 (by trivial)]
          exact ⟨rfl, hd1, hjr.2.2.trans ht1⟩
      · clear HC
        go_wp2
        go_ret
        rw [HX.out.1 z1, ← z2]
        exact ⟨rfl, hjr.2.1, hjr.2.2⟩
  · change Calls Tryz.prog 229 #[.pointer (some ⟨p, 0, none⟩), .int .i64 1, .agg C] W _
    have HE : Hid (dW2 d 1 S = if (dWr d 2 A).1 = 0 then dWr (dWr d 2 A).2 3 B else dWr d 2 A) := HU.out 1
    obtain ⟨e1, he1⟩ : ∃ e1, (dWr d 2 A).1 = e1 := ⟨_, rfl⟩
    obtain ⟨d1, hd1⟩ : ∃ d1, (dWr d 2 A).2 = d1 := ⟨_, rfl⟩
    obtain ⟨e2, he2⟩ : ∃ e2, (dWr d1 3 B).1 = e2 := ⟨_, rfl⟩
    obtain ⟨d2, hd2⟩ : ∃ d2, (dWr d1 3 B).2 = d2 := ⟨_, rfl⟩
    have hf1 : Fz d1 := by rw [← hd1]; exact dWr_fz hf _ _
    have hw1' := dWr_wr (d := d) 2 A
    rw [hd1] at hw1'
    have hwr1 := fun V (hV : JW W p S d V) => wr_at hV.2.1 2 W.heap.size 0 64 A (lt_at hV.1) (hat V hV.1).1 hAl hAb hf hw0 (by omega)
    rw [he1, hd1] at hwr1
    have hwr2 := fun V (hV : JW W p S d1 V) => wr_at hV.2.1 3 W.heap.size 32 32 B (lt_at hV.1) (hat V hV.1).2 hBl hBb hf1 (by omega) (by omega)
    rw [he2, hd2] at hwr2
    have HX : Hid ((e1 = 0 → dW2 d 1 S = (e2, d2)) ∧ (¬ e1 = 0 → dW2 d 1 S = (e1, d1))) := by
      refine ⟨fun z => ?_, fun z => ?_⟩
      · rw [HE.out, he1, if_pos z, hd1, ← he2, ← hd2]
      · rw [HE.out, he1, if_neg z, ← he1, ← hd1]
    clear HE HU he1 hd1 he2 hd2 hw1' hf1 hw hw0
    go_enter Tryz.func229, Tryz.ntmps229
    go_wp2
    go_loopw [10] (fun i wz => ∃ (k : Nat) (D : Dst), i = .int .i64 k ∧ Hid ((k = 0 ∧ D = d) ∨ (k = 1 ∧ D = d1 ∧ e1 = 0) ∨ (k = 2 ∧ D = d2 ∧ e1 = 0 ∧ e2 = 0)) ∧ JW W p S D wz) (fun i _ => 2 - vnatZ i)
    case atStart => exact ⟨0, d, rfl, .inl ⟨rfl, rfl⟩, hj⟩
    case round =>
      obtain ⟨k, D, rfl, HC, hjr⟩ := hrel
      rcases HC.out with ⟨rfl, rfl⟩ | ⟨rfl, rfl, z1⟩ | ⟨rfl, rfl, z1, z2⟩
      · have hwr := hwr1 _ hjr
        clear HC
        by_cases z : e1 = 0
        · subst z
          go_wp2_with (go_at_call 271; (with_reducible refine hwr.mono ?_); rintro e u1 ⟨rfl, hd1, ht1⟩)
          go_roundw
          case rel => exact ⟨1, d1, rfl, .inr (.inl ⟨rfl, rfl, by simp⟩), hjr.turn hpl hd1 ht1⟩
          case measure => simp [vnatZ]
        · go_wp2_with (go_at_call 271; (with_reducible refine hwr.mono ?_); rintro e u1 ⟨rfl, hd1, ht1⟩)
          go_ret
          rw [HX.out.2 z]
          exact ⟨rfl, hd1, hjr.2.2.trans ht1⟩
      · have hwr := hwr2 _ hjr
        clear HC
        subst z1
        by_cases z : e2 = 0
        · subst z
          go_wp2_with (go_at_call 271; (with_reducible refine hwr.mono ?_); rintro e u1 ⟨rfl, hd1, ht1⟩)
          go_roundw
          case rel => exact ⟨2, d2, rfl, .inr (.inr ⟨rfl, rfl, by simp⟩), hjr.turn hpl hd1 ht1⟩
          case measure => simp [vnatZ]
        · go_wp2_with (go_at_call 271; (with_reducible refine hwr.mono ?_); rintro e u1 ⟨rfl, hd1, ht1⟩)
          go_ret
          rw [HX.out.1 (by trivial)]
          exact ⟨rfl, hd1, hjr.2.2.trans ht1⟩
      · clear HC
        go_wp2
        go_ret
        rw [HX.out.1 z1, ← z2]
        exact ⟨rfl, hjr.2.1, hjr.2.2⟩
end

/-- The newest record of a disk's bytes, its seq, its slot. -/
def nwo (a b : Option (Rec × Int)) : Option ((Rec × Int) × Nat) := match a, b with
  | none, none => none
  | some x, none => some (x, 0)
  | none, some y => some (y, 1)
  | some x, some y => if x.2 < y.2 then some (y, 1) else some (x, 0)
def nw (l : List Nat) : Option ((Rec × Int) × Nat) := nwo (say (slt l 0)) (say (slt l 1))
structure Nt where
  r : Rec
  s : Int
  a : Int
  e : Int
def rec0 : Rec := ⟨0, 0, 0⟩
def ntO : Option ((Rec × Int) × Nat) → Nt
  | none => ⟨rec0, 0, 0, 40⟩
  | some ((r, s), k) => ⟨r, s, (k : Int), 0⟩
/-- What newest tells. -/
def nwTZ (d : Dst) : Nt := if d.off = true then ⟨rec0, 0, 0, 100⟩ else ntO (nw d.l)
def ntV (t : Nt) : Value := .tuple #[eV t.r t.s, .int .i64 t.a, .int .i64 t.e]
/-- While the newest is looked for. -/
def JN (W : World) (t : Nt) (V : World) : Prop := V.heap[W.heap.size]? = some (.cells (eA t.r t.s) 269 (0, 0)) ∧ Below W.heap.size W V
theorem JN.carry {w V V' : World} {t : Nt} (h : JN w t V) (hb : Below V.heap.size V V') : JN w t V' := ⟨(hb.block _ (lt_at h.1)).trans h.1, bel2Z h.2 hb⟩
theorem JN.put {w V : World} {t t' : Nt} (h : JN w t V) : JN w t' (V.setRow w.heap.size (eA t'.r t'.s)) := ⟨setRow_heap _ _ _ _ _ _ h.1, below_setRow h.2 (Nat.le_refl _) _⟩
theorem JN.c3 {w V : World} {t : Nt} (h : JN w t V) : V.cell? ⟨w.heap.size, 3, none⟩ = some (.int .i64 t.s) := by rw [cell_at h.1]; rfl
theorem eA_one (r : Rec) (s : Int) : (eA r s).all (·.oneCell') = true := by simp [eA, Value.oneCell']
section
variable {W : World} {p : Nat} {d : Dst}
set_option maxHeartbeats 4000000 in
set_option maxRecDepth 100000 in
theorem newest_off (h : Dk W p d) (ho : d.off = true) : Calls Tryz.prog 181 #[.pointer (some ⟨p, 0, none⟩)] W fun e w' => e = .returned (ntV (nwTZ d)) ∧ Below W.heap.size W w' := by
  rw [nwTZ, if_pos ho]
  obtain ⟨w1, hw1⟩ : ∃ w1, W.alloc (.cells #[.int .i64 0, .int .i64 0, .int .i64 0, .int .i64 0] 269) = w1 := ⟨_, rfl⟩
  have hj : JN W ⟨rec0, 0, 0, 40⟩ w1 := by rw [← hw1]; exact ⟨new_at rfl, al1'Z _ _⟩
  have hon := on_any (h.carry hj.2)
  rw [ho] at hon
  go_enter Tryz.func181, Tryz.ntmps181
  go_wp2_with (first | (go_at_call 15; (with_reducible refine hon.mono ?_); rintro e u1 ⟨rfl, hu⟩; obtain rfl := hu.symm) | (refine wpList_store_row rfl 269 (.tmp 2) (.tmp 11) rfl W.heap.size #[.int .i64 0, .int .i64 0, .int .i64 0, .int .i64 0] rfl rfl 269 _ hj.1 infoEZ rfl (by simp [Value.oneCell']) ?_; obtain ⟨v, hv⟩ : ∃ v, w1.setRow W.heap.size #[.int .i64 0, .int .i64 0, .int .i64 0, .int .i64 0] = v := ⟨_, rfl⟩; have hjv : JN W ⟨rec0, 0, 0, 40⟩ v := (by rw [← hv]; exact hj.put); rw [hv]))
  (try simp only [Exit.inBlock, Exit.then])
  exact retC3 rfl rfl rfl rfl rfl hjv.1 undE infoEZ ⟨rfl, hjv.2⟩
set_option maxHeartbeats 4000000 in
set_option maxRecDepth 100000 in
theorem newest_on (h : Dk W p d) (ho : d.off = false) : Calls Tryz.prog 181 #[.pointer (some ⟨p, 0, none⟩)] W fun e w' => e = .returned (ntV (nwTZ d)) ∧ Below W.heap.size W w' := by
  rw [nwTZ, if_neg (by rw [ho]; decide)]
  obtain ⟨T, hT⟩ : ∃ T, ntO (nw d.l) = T := ⟨_, rfl⟩
  rw [hT]
  obtain ⟨w1, hw1⟩ : ∃ w1, W.alloc (.cells #[.int .i64 0, .int .i64 0, .int .i64 0, .int .i64 0] 269) = w1 := ⟨_, rfl⟩
  have hj : JN W ⟨rec0, 0, 0, 40⟩ w1 := by rw [← hw1]; exact ⟨new_at rfl, al1'Z _ _⟩
  have hon := on_any (h.carry hj.2)
  rw [ho] at hon
  have hsa0 := says_any (slt d.l 0) (slt_len h.len (by omega)) (slt_byt h.byt 0)
  have hsa1 := says_any (slt d.l 1) (slt_len h.len (by omega)) (slt_byt h.byt 1)
  have hr0 : ∀ V, Below W.heap.size W V → Calls Tryz.prog 226 #[.pointer (some ⟨p, 0, none⟩), .int .i64 0] V fun e w' => e = .returned (.agg (cB (slt d.l 0)).toArray) ∧ Below V.heap.size V w' := fun V hV => sread_any (h.carry hV) ho 0 (by omega)
  have hr1 : ∀ V, Below W.heap.size W V → Calls Tryz.prog 226 #[.pointer (some ⟨p, 0, none⟩), .int .i64 1] V fun e w' => e = .returned (.agg (cB (slt d.l 1)).toArray) ∧ Below V.heap.size V w' := fun V hV => sread_any (h.carry hV) ho 1 (by omega)
  obtain ⟨A, hA⟩ : ∃ A, say (slt d.l 0) = A := ⟨_, rfl⟩
  obtain ⟨B, hB⟩ : ∃ B, say (slt d.l 1) = B := ⟨_, rfl⟩
  have hfA : ∀ r s, A = some (r, s) → 0 < s := fun r s e => by
    obtain ⟨⟨_, q⟩, _⟩ := say_some (hA.trans e)
    omega
  have hfB : ∀ r s, B = some (r, s) → 0 < s := fun r s e => by
    obtain ⟨⟨_, q⟩, _⟩ := say_some (hB.trans e)
    omega
  have HT : Hid (T = ntO (nwo A B)) := by show T = _; rw [← hT, nw, hA, hB]
  rw [hA] at hsa0
  rw [hB] at hsa1
  clear hA hB hT
  generalize slt d.l 0 = L0 at *
  generalize slt d.l 1 = L1 at *
  go_enter Tryz.func181, Tryz.ntmps181
  go_wp2_with (go_at_call 15; (with_reducible refine hon.mono ?_); rintro e u1 ⟨rfl, hu⟩; obtain rfl := hu.symm)
  go_loopw [3, 4, 12] (fun a e i wz => ∃ (k : Nat) (t : Nt), i = .int .i64 k ∧ a = .int .i64 t.a ∧ e = .int .i64 t.e ∧ Hid ((k = 0 ∧ t = ⟨rec0, 0, 0, 40⟩) ∨ (k = 1 ∧ t = ntO (nwo A none)) ∨ (k = 2 ∧ t = T)) ∧ JN W t wz) (fun _ _ i _ => 2 - vnatZ i)
  case atStart => exact ⟨0, ⟨rec0, 0, 0, 40⟩, rfl, rfl, rfl, .inl ⟨rfl, rfl⟩, hj⟩
  case round =>
    obtain ⟨k, t, rfl, rfl, rfl, HC, hjr⟩ := hrel
    rcases HC.out with ⟨rfl, rfl⟩ | ⟨rfl, rfl⟩ | ⟨rfl, rfl⟩
    · clear HC
      have hr := hr0 _ hjr.2
      cases A with
      | none =>
        unfold sayV e0V at hsa0
        go_wp2_with (first | (go_at_call 226; (with_reducible refine hr.mono ?_); rintro e u1 ⟨rfl, hu1⟩) | (go_at_call 227; (with_reducible refine (hsa0 _).mono ?_); rintro e u2 ⟨rfl, hu2⟩))
        go_roundw
        case rel => exact ⟨1, ⟨rec0, 0, 0, 40⟩, rfl, rfl, rfl, .inr (.inl ⟨rfl, rfl⟩), (hjr.carry hu1).carry (bel2Z hu2 (al1'Z _ _))⟩
        case measure => simp [vnatZ]
      | some x =>
        obtain ⟨r, s⟩ := x
        have hpos : 0 < s := hfA r s rfl
        unfold sayV eV at hsa0
        have hjk : ∀ V, JN W ⟨r, s, 0, 0⟩ V → JN W (ntO (nwo (some (r, s)) none)) V := fun V q => q
        go_wp2_with (first | (go_at_call 226; (with_reducible refine hr.mono ?_); rintro e u1 ⟨rfl, hu1⟩) | (go_at_call 227; (with_reducible refine (hsa0 _).mono ?_); rintro e u2 ⟨rfl, hu2⟩; obtain ⟨u3, hu3⟩ : ∃ u3, u2.alloc (.cells #[.int .i64 r.li, .int .i64 r.ro, .int .i64 r.ta, .int .i64 s] 269) = u3 := ⟨_, rfl⟩; have j3 := (hjr.carry hu1).carry (bel2Z hu2 (al1'Z u2 (.cells #[.int .i64 r.li, .int .i64 r.ro, .int .i64 r.ta, .int .i64 s] 269))); rw [hu3] at j3; have hx3 : u3.heap[u2.heap.size]? = some (.cells #[.int .i64 r.li, .int .i64 r.ro, .int .i64 r.ta, .int .i64 s] 269 (0, 0)) := (by rw [← hu3]; exact new_at rfl); have cx : u3.cell? ⟨u2.heap.size, 3, none⟩ = some (.int .i64 s) := (by rw [cell_at hx3]; rfl); have cb := j3.c3; (try dsimp only [ntO, nwo] at cb)) | (refine wpList_load_row rfl 269 (.tmp 6) rfl u2.heap.size rfl 269 _ (0, 0) _ hx3 undE rfl infoEZ ?_) | (refine wpList_store_row rfl 269 (.tmp 2) (.tmp 30) rfl W.heap.size #[.int .i64 r.li, .int .i64 r.ro, .int .i64 r.ta, .int .i64 s] rfl rfl 269 _ j3.1 infoEZ rfl (by simp [Value.oneCell']) ?_; obtain ⟨v, hv⟩ : ∃ v, u3.setRow W.heap.size #[.int .i64 r.li, .int .i64 r.ro, .int .i64 r.ta, .int .i64 s] = v := ⟨_, rfl⟩; have hjv : JN W ⟨r, s, 0, 0⟩ v := (by rw [← hv]; exact j3.put); rw [hv]))
        go_roundw
        case rel => exact ⟨1, ⟨r, s, 0, 0⟩, rfl, rfl, rfl, .inr (.inl ⟨rfl, rfl⟩), hjv⟩
        case measure => simp [vnatZ]
    · clear HC
      have hr := hr1 _ hjr.2
      cases A with
      | none =>
        cases B with
        | none =>
          unfold sayV e0V at hsa1
          go_wp2_with (first | (go_at_call 226; (with_reducible refine hr.mono ?_); rintro e u1 ⟨rfl, hu1⟩) | (go_at_call 227; (with_reducible refine (hsa1 _).mono ?_); rintro e u2 ⟨rfl, hu2⟩))
          go_roundw
          case rel => exact ⟨2, ⟨rec0, 0, 0, 40⟩, rfl, rfl, rfl, .inr (.inr ⟨rfl, HT.out.symm⟩), (hjr.carry hu1).carry (bel2Z hu2 (al1'Z _ _))⟩
          case measure => simp [vnatZ]
        | some x =>
          obtain ⟨r, s⟩ := x
          have hpos : 0 < s := hfB r s rfl
          unfold sayV eV at hsa1
          go_wp2_with (first | (go_at_call 226; (with_reducible refine hr.mono ?_); rintro e u1 ⟨rfl, hu1⟩) | (go_at_call 227; (with_reducible refine (hsa1 _).mono ?_); rintro e u2 ⟨rfl, hu2⟩; obtain ⟨u3, hu3⟩ : ∃ u3, u2.alloc (.cells #[.int .i64 r.li, .int .i64 r.ro, .int .i64 r.ta, .int .i64 s] 269) = u3 := ⟨_, rfl⟩; have j3 := (hjr.carry hu1).carry (bel2Z hu2 (al1'Z u2 (.cells #[.int .i64 r.li, .int .i64 r.ro, .int .i64 r.ta, .int .i64 s] 269))); rw [hu3] at j3; have hx3 : u3.heap[u2.heap.size]? = some (.cells #[.int .i64 r.li, .int .i64 r.ro, .int .i64 r.ta, .int .i64 s] 269 (0, 0)) := (by rw [← hu3]; exact new_at rfl); have cx : u3.cell? ⟨u2.heap.size, 3, none⟩ = some (.int .i64 s) := (by rw [cell_at hx3]; rfl); have cb := j3.c3; (try dsimp only [ntO, nwo] at cb)) | (refine wpList_load_row rfl 269 (.tmp 6) rfl u2.heap.size rfl 269 _ (0, 0) _ hx3 undE rfl infoEZ ?_) | (refine wpList_store_row rfl 269 (.tmp 2) (.tmp 30) rfl W.heap.size #[.int .i64 r.li, .int .i64 r.ro, .int .i64 r.ta, .int .i64 s] rfl rfl 269 _ j3.1 infoEZ rfl (by simp [Value.oneCell']) ?_; obtain ⟨v, hv⟩ : ∃ v, u3.setRow W.heap.size #[.int .i64 r.li, .int .i64 r.ro, .int .i64 r.ta, .int .i64 s] = v := ⟨_, rfl⟩; have hjv : JN W ⟨r, s, 1, 0⟩ v := (by rw [← hv]; exact j3.put); rw [hv]))
          go_roundw
          case rel => exact ⟨2, ⟨r, s, 1, 0⟩, rfl, rfl, rfl, .inr (.inr ⟨rfl, HT.out.symm⟩), hjv⟩
          case measure => simp [vnatZ]
      | some y =>
        obtain ⟨r', s'⟩ := y
        cases B with
        | none =>
          unfold sayV e0V at hsa1
          go_wp2_with (first | (go_at_call 226; (with_reducible refine hr.mono ?_); rintro e u1 ⟨rfl, hu1⟩) | (go_at_call 227; (with_reducible refine (hsa1 _).mono ?_); rintro e u2 ⟨rfl, hu2⟩))
          go_roundw
          case rel => exact ⟨2, ⟨r', s', 0, 0⟩, rfl, rfl, rfl, .inr (.inr ⟨rfl, HT.out.symm⟩), (hjr.carry hu1).carry (bel2Z hu2 (al1'Z _ _))⟩
          case measure => simp [vnatZ]
        | some x =>
          obtain ⟨r, s⟩ := x
          unfold sayV eV at hsa1
          by_cases hpos : s' < s
          · have HT2 : Hid (T = ⟨r, s, 1, 0⟩) := by show T = _; rw [HT.out]; show ntO (if s' < s then some ((r, s), 1) else some ((r', s'), 0)) = _; rw [if_pos hpos]; rfl
            clear HT
            go_wp2_with (first | (go_at_call 226; (with_reducible refine hr.mono ?_); rintro e u1 ⟨rfl, hu1⟩) | (go_at_call 227; (with_reducible refine (hsa1 _).mono ?_); rintro e u2 ⟨rfl, hu2⟩; obtain ⟨u3, hu3⟩ : ∃ u3, u2.alloc (.cells #[.int .i64 r.li, .int .i64 r.ro, .int .i64 r.ta, .int .i64 s] 269) = u3 := ⟨_, rfl⟩; have j3 := (hjr.carry hu1).carry (bel2Z hu2 (al1'Z u2 (.cells #[.int .i64 r.li, .int .i64 r.ro, .int .i64 r.ta, .int .i64 s] 269))); rw [hu3] at j3; have hx3 : u3.heap[u2.heap.size]? = some (.cells #[.int .i64 r.li, .int .i64 r.ro, .int .i64 r.ta, .int .i64 s] 269 (0, 0)) := (by rw [← hu3]; exact new_at rfl); have cx : u3.cell? ⟨u2.heap.size, 3, none⟩ = some (.int .i64 s) := (by rw [cell_at hx3]; rfl); have cb := j3.c3; (try dsimp only [ntO, nwo] at cb)) | (refine wpList_load_row rfl 269 (.tmp 6) rfl u2.heap.size rfl 269 _ (0, 0) _ hx3 undE rfl infoEZ ?_) | (refine wpList_store_row rfl 269 (.tmp 2) (.tmp 30) rfl W.heap.size #[.int .i64 r.li, .int .i64 r.ro, .int .i64 r.ta, .int .i64 s] rfl rfl 269 _ j3.1 infoEZ rfl (by simp [Value.oneCell']) ?_; obtain ⟨v, hv⟩ : ∃ v, u3.setRow W.heap.size #[.int .i64 r.li, .int .i64 r.ro, .int .i64 r.ta, .int .i64 s] = v := ⟨_, rfl⟩; have hjv : JN W ⟨r, s, 1, 0⟩ v := (by rw [← hv]; exact j3.put); rw [hv]))
            go_roundw
            case rel => exact ⟨2, ⟨r, s, 1, 0⟩, rfl, rfl, rfl, .inr (.inr ⟨rfl, HT2.out.symm⟩), hjv⟩
            case measure => simp [vnatZ]
          · have HT2 : Hid (T = ⟨r', s', 0, 0⟩) := by show T = _; rw [HT.out]; show ntO (if s' < s then some ((r, s), 1) else some ((r', s'), 0)) = _; rw [if_neg hpos]; rfl
            clear HT
            go_wp2_with (first | (go_at_call 226; (with_reducible refine hr.mono ?_); rintro e u1 ⟨rfl, hu1⟩) | (go_at_call 227; (with_reducible refine (hsa1 _).mono ?_); rintro e u2 ⟨rfl, hu2⟩; obtain ⟨u3, hu3⟩ : ∃ u3, u2.alloc (.cells #[.int .i64 r.li, .int .i64 r.ro, .int .i64 r.ta, .int .i64 s] 269) = u3 := ⟨_, rfl⟩; have j3 := (hjr.carry hu1).carry (bel2Z hu2 (al1'Z u2 (.cells #[.int .i64 r.li, .int .i64 r.ro, .int .i64 r.ta, .int .i64 s] 269))); rw [hu3] at j3; have hx3 : u3.heap[u2.heap.size]? = some (.cells #[.int .i64 r.li, .int .i64 r.ro, .int .i64 r.ta, .int .i64 s] 269 (0, 0)) := (by rw [← hu3]; exact new_at rfl); have cx : u3.cell? ⟨u2.heap.size, 3, none⟩ = some (.int .i64 s) := (by rw [cell_at hx3]; rfl); have cb := j3.c3; (try dsimp only [ntO, nwo] at cb)))
            go_roundw
            case rel => exact ⟨2, ⟨r', s', 0, 0⟩, rfl, rfl, rfl, .inr (.inr ⟨rfl, HT2.out.symm⟩), j3⟩
            case measure => simp [vnatZ]
    · clear HC
      go_wp2_with (first | (refine wpList_load_row rfl 269 (.tmp 2) rfl W.heap.size rfl 269 _ (0, 0) _ hjr.1 undE rfl infoEZ ?_) | (refine wpList_store_row rfl 269 (.tmp 2) (.tmp 33) rfl W.heap.size (eA t.r t.s) rfl rfl 269 _ hjr.1 infoEZ rfl (eA_one _ _) ?_; obtain ⟨v, hv⟩ : ∃ v, wr.setRow W.heap.size (eA t.r t.s) = v := ⟨_, rfl⟩; have hjv : JN W t v := (by rw [← hv]; exact hjr.put); rw [hv]))
      (try simp only [Exit.inBlock, Exit.then])
      exact retC3 rfl rfl rfl rfl rfl hjv.1 undE infoEZ ⟨rfl, hjv.2⟩
end

section
variable {W : World} {p : Nat} {d : Dst}
theorem newest_any (h : Dk W p d) : Calls Tryz.prog 181 #[.pointer (some ⟨p, 0, none⟩)] W fun e w' => e = .returned (ntV (nwTZ d)) ∧ Below W.heap.size W w' := by
  cases ho : d.off with
  | true => exact newest_off h ho
  | false => exact newest_on h ho
/-- What Load tells. -/
def ldV (t : Nt) : Value := .tuple #[rV t.r, .int .i64 t.s, .int .i64 t.e]
set_option maxHeartbeats 4000000 in
set_option maxRecDepth 100000 in
theorem load_ofZ (P : Value) (t : Nt) (hn : ∀ V, Below W.heap.size W V → Calls Tryz.prog 181 #[P] V fun e w' => e = .returned (ntV t) ∧ Below V.heap.size V w') : Calls Tryz.prog 110 #[P] W fun e w' => e = .returned (ldV t) ∧ Below W.heap.size W w' := by
  have hmx : Tryz.prog.follows .mixedOrders = true := by kernel_rfl
  obtain ⟨r, s, a, er⟩ := t
  unfold ntV eV at hn
  dsimp only at hn
  obtain ⟨w1, hw1⟩ : ∃ w1, W.alloc (.cells #[.int .i64 0, .int .i64 0, .int .i64 0] 23) = w1 := ⟨_, rfl⟩
  have hb1 : Below W.heap.size W w1 := by rw [← hw1]; exact al1'Z _ _
  have hg1 : w1.heap[W.heap.size]? = some (.cells #[.int .i64 0, .int .i64 0, .int .i64 0] 23 (0, 0)) := by rw [← hw1]; exact new_at rfl
  have hn1 := hn w1 hb1
  go_enter Tryz.func110, Tryz.ntmps110
  go_wp2_with (go_at_call 181; (with_reducible refine hn1.mono ?_); rintro e u1 ⟨rfl, hu1⟩; obtain ⟨u2, hu2⟩ : ∃ u2, u1.alloc (.cells #[.int .i64 r.li, .int .i64 r.ro, .int .i64 r.ta, .int .i64 s] 269) = u2 := ⟨_, rfl⟩; have hjp : JP W u1.heap.size r s false u2 := (by rw [← hu2]; exact ⟨old_at ((hu1.block _ (lt_at hg1)).trans hg1), new_at rfl, bel2Z (bel2Z hb1 hu1) (al1'Z _ _)⟩))
  rename_i hK
  refine wp_region_any hmx ?_
  refine wpAny_tabG (G := Unit) (fun g i__ => ([(.pointer (some ⟨u1.heap.size, 0, none⟩)), (rV r), (.pointer (some ⟨u1.heap.size, 3, none⟩)), (.int .i64 s), (.int .i64 er), undef, (.int .i64 s), (.int .i64 er)] : List Value).getD i__ undef) (fun g d W' => JP W u1.heap.size r s (d 5) W') (by kernel_rfl) (()) (show JP W u1.heap.size r s false _ from hjp.drew) ?step2 ?fin2
  case step2 =>
    intro i o ho
    have hi : i < 8 := getElem?_lt ho
    match i, hi, ho with
    | 0, _, ho =>
      cases ho
      refine stepG_of (fun g d hdep => ?_)
      exact step_fieldAddr rfl trivial _ _ _ _ rfl rfl (fun v hw => field_e0 v _)
    | 1, _, ho =>
      cases ho
      refine stepG_of (fun g d hdep => ?_)
      exact step_load rfl trivial _ _ _ rfl rfl (fun v hw => load_er hw.2.1)
    | 2, _, ho =>
      cases ho
      refine stepG_of (fun g d hdep => ?_)
      exact step_fieldAddr rfl trivial _ _ _ _ rfl rfl (fun v hw => field_e1 v _)
    | 3, _, ho =>
      cases ho
      refine stepG_of (fun g d hdep => ?_)
      exact step_load rfl trivial _ _ _ rfl rfl (fun v hw => load_i64Z (by rw [cell_at hw.2.1]; rfl))
    | 4, _, ho =>
      cases ho
      refine stepG_of (fun g d hdep => ?_)
      exact step_move rfl trivial _ rfl (by kernel_rfl)
    | 5, _, ho =>
      cases ho
      refine stepG_of (fun g d hdep => ?_)
      exact step_store rfl trivial rfl _ _ _ _ _ rfl rfl rfl (fun v hw => hw.store)
    | 6, _, ho =>
      cases ho
      refine stepG_of (fun g d hdep => ?_)
      exact step_assign rfl trivial _ rfl (by kernel_rfl) (fun _ h => h)
    | 7, _, ho =>
      cases ho
      refine stepG_of (fun g d hdep => ?_)
      exact step_assign rfl trivial _ rfl (by kernel_rfl) (fun _ h => h)
  intro g d W hall hW
  first | refine hK _ _ ?_ | refine (‹∀ (a : Act) (w : World), Code.wp Tryz.prog _ _ a w → _›) _ _ ?_ | skip
  simp only [finL, List.getD_cons_zero, List.getD_cons_succ, Nat.zero_add, Nat.reduceAdd, List.setIfInBounds_toArray, List.set_cons_zero, List.set_cons_succ]
  rw [hall 5 (by decide)] at hW
  clear hK
  go_wp2
  (try simp only [Exit.inBlock, Exit.then])
  exact retC3 rfl rfl rfl rfl rfl hW.1 undR infoR ⟨rfl, hW.2.2⟩
theorem load_any (h : Dk W p d) : Calls Tryz.prog 110 #[.pointer (some ⟨p, 0, none⟩)] W fun e w' => e = .returned (ldV (nwTZ d)) ∧ Below W.heap.size W w' :=
  load_ofZ _ _ fun _ hV => newest_any (h.carry hV)
/-- A record is saved: what is answered, and the disk behind it. -/
def dSv (d : Dst) (r : Rec) : Int × Dst := if ¬ May r then (1, d) else if d.off = true then (100, d) else if (nwTZ d).s = 1099511627776 then (120, d) else dW2 d (if (nwTZ d).e = 0 then 1 - (nwTZ d).a else 0).toNat (slB r ((nwTZ d).s + 1))
theorem nw_fit {l : List Nat} {r : Rec} {s : Int} {k : Nat} (h : nw l = some ((r, s), k)) : Fit r s ∧ k < 2 ∧ say (slt l k) = some (r, s) := by
  unfold nw nwo at h
  split at h
  · cases h
  · rename_i x e1 e2
    cases h
    exact ⟨(say_some e1).1, by omega, e1⟩
  · rename_i x e1 e2
    cases h
    exact ⟨(say_some e2).1, by omega, e2⟩
  · rename_i x y e1 e2
    split at h
    · cases h
      exact ⟨(say_some e2).1, by omega, e2⟩
    · cases h
      exact ⟨(say_some e1).1, by omega, e1⟩
theorem nwT_s (d : Dst) : 0 ≤ (nwTZ d).s ∧ (nwTZ d).s ≤ 1099511627776 := by
  unfold nwTZ
  split
  · exact ⟨Int.le_refl _, by show (0 : Int) ≤ _; omega⟩
  · cases h : nw d.l with
    | none => exact ⟨Int.le_refl _, by show (0 : Int) ≤ _; omega⟩
    | some x =>
      obtain ⟨⟨r, s⟩, k⟩ := x
      obtain ⟨⟨_, h1, h2⟩, _⟩ := nw_fit h
      exact ⟨by show 0 ≤ s; omega, h2⟩
theorem nwT_a (d : Dst) : (nwTZ d).a = 0 ∨ (nwTZ d).a = 1 := by
  unfold nwTZ
  split
  · exact .inl rfl
  · cases h : nw d.l with
    | none => exact .inl rfl
    | some x =>
      obtain ⟨⟨r, s⟩, k⟩ := x
      obtain ⟨_, h1, _⟩ := nw_fit h
      show (k : Int) = 0 ∨ (k : Int) = 1
      omega
theorem nwT_e (d : Dst) : (nwTZ d).e = 100 ↔ d.off = true := by
  unfold nwTZ
  split
  · rename_i h
    exact ⟨fun _ => h, fun _ => rfl⟩
  · rename_i h
    refine ⟨fun q => ?_, fun q => absurd q h⟩
    cases hh : nw d.l with
    | none => rw [hh] at q; exact absurd q (by decide)
    | some x => obtain ⟨⟨r, s⟩, k⟩ := x; rw [hh] at q; exact absurd (show (0 : Int) = 100 from q) (by decide)
set_option maxHeartbeats 4000000 in
set_option maxRecDepth 100000 in
theorem save_any (h : Dk W p d) (r : Rec) (hf : Fz d) (hw0 : 0 ≤ d.writes) (hw : d.writes ≤ 4611686018427387903) : Calls Tryz.prog 182 #[.pointer (some ⟨p, 0, none⟩), rV r] W fun e w' => e = .returned (.int .i64 (dSv d r).1) ∧ Dk w' p (dSv d r).2 ∧ TpZ p W w' := by
  have hmay := mayBe_any r
  unfold rV at hmay ⊢
  obtain ⟨w1, hw1⟩ : ∃ w1, W.alloc (.cells #[.int .i64 r.li, .int .i64 r.ro, .int .i64 r.ta] 23) = w1 := ⟨_, rfl⟩
  have hb1 : Below W.heap.size W w1 := by rw [← hw1]; exact al1'Z _ _
  have hg1 : w1.heap[W.heap.size]? = some (.cells #[.int .i64 r.li, .int .i64 r.ro, .int .i64 r.ta] 23 (0, 0)) := by rw [← hw1]; exact new_at rfl
  by_cases hm : May r
  case neg =>
    rw [dSv, if_pos hm]
    rw [decide_eq_false hm] at hmay
    go_enter Tryz.func182, Tryz.ntmps182
    go_wp2_with (first | (refine wpList_load_row rfl 23 (.tmp 3) rfl W.heap.size rfl 23 _ (0, 0) _ hg1 undR rfl infoR ?_) | (go_at_call 228; (with_reducible refine (hmay _).mono ?_); rintro e u1 ⟨rfl, hu1⟩))
    go_ret
    exact ⟨rfl, h.carry (bel2Z hb1 hu1), TpZ.of _ (bel2Z hb1 hu1)⟩
  rw [dSv, if_neg (fun q => q hm)]
  rw [decide_eq_true hm] at hmay
  have hne := fun V hV => newest_any (W := V) (h.carry hV)
  have hoe := nwT_e d
  have hts := nwT_s d
  have hta := nwT_a d
  obtain ⟨t, ht⟩ : ∃ t, nwTZ d = t := ⟨_, rfl⟩
  rw [ht] at hne hoe hts hta ⊢
  clear ht
  obtain ⟨r', s, a, er⟩ := t
  unfold ntV eV at hne
  dsimp only at hne hoe hts hta ⊢
  by_cases hof : d.off = true
  case pos =>
    obtain rfl : er = 100 := hoe.2 hof
    rw [if_pos hof]
    clear hoe hts hta
    go_enter Tryz.func182, Tryz.ntmps182
    go_wp2_with (first | (refine wpList_load_row rfl 23 (.tmp 3) rfl W.heap.size rfl 23 _ (0, 0) _ hg1 undR rfl infoR ?_) | (go_at_call 228; (with_reducible refine (hmay _).mono ?_); rintro e u1 ⟨rfl, hu1⟩; have hn1 := hne _ (bel2Z hb1 hu1)) | (go_at_call 181; (with_reducible refine hn1.mono ?_); rintro e u2 ⟨rfl, hu2⟩))
    go_ret
    exact ⟨rfl, h.carry (bel2Z (bel2Z (bel2Z hb1 hu1) hu2) (al1'Z _ _)), TpZ.of _ (bel2Z (bel2Z (bel2Z hb1 hu1) hu2) (al1'Z _ _))⟩
  rw [if_neg hof]
  have her : ¬ er = 100 := fun q => hof (hoe.1 q)
  clear hoe hof
  by_cases hse : s = 1099511627776
  case pos =>
    rw [if_pos hse]
    subst hse
    go_enter Tryz.func182, Tryz.ntmps182
    go_wp2_with (first | (refine wpList_load_row rfl 23 (.tmp 3) rfl W.heap.size rfl 23 _ (0, 0) _ hg1 undR rfl infoR ?_) | (go_at_call 228; (with_reducible refine (hmay _).mono ?_); rintro e u1 ⟨rfl, hu1⟩; have hn1 := hne _ (bel2Z hb1 hu1)) | (go_at_call 181; (with_reducible refine hn1.mono ?_); rintro e u2 ⟨rfl, hu2⟩))
    go_ret
    exact ⟨rfl, h.carry (bel2Z (bel2Z (bel2Z hb1 hu1) hu2) (al1'Z _ _)), TpZ.of _ (bel2Z (bel2Z (bel2Z hb1 hu1) hu2) (al1'Z _ _))⟩
  rw [if_neg hse]
  have hfit : Fit r (s + 1) := ⟨hm, by omega, by omega⟩
  have him := eimage_fit hfit
  have hwi : IntKind.i64.wrap (s + 1) = s + 1 := i64_idZ _ (by omega) (by omega)
  have hlo : -9223372036854775808 ≤ s + 1 := by omega
  have hhi : s + 1 ≤ 9223372036854775807 := by omega
  unfold eV at him
  have hwr := fun V (q : Nat) (hq : q < 2) (hV : Below W.heap.size W V) => swrite_any (h.carry hV) q hq (slB r (s + 1)) (slB_len _ _) (slB_byt _ _) hf hw0 hw
  obtain ⟨S, hS⟩ : ∃ S, slB r (s + 1) = S := ⟨_, rfl⟩
  rw [hS] at him hwr ⊢
  clear hS hfit hts
  by_cases hz : er = 0
  case neg =>
    rw [if_neg hz]
    change Calls Tryz.prog _ _ W fun e w' => e = .returned (.int .i64 (dW2 d 0 S).1) ∧ Dk w' p (dW2 d 0 S).2 ∧ TpZ p W w'
    go_enter Tryz.func182, Tryz.ntmps182
    go_wp2_with (first | (refine wpList_load_row rfl 23 (.tmp 3) rfl W.heap.size rfl 23 _ (0, 0) _ hg5 undR rfl infoR ?_) | (refine wpList_load_row rfl 23 (.tmp 3) rfl W.heap.size rfl 23 _ (0, 0) _ hg1 undR rfl infoR ?_) | (go_at_call 228; (with_reducible refine (hmay _).mono ?_); rintro e u1 ⟨rfl, hu1⟩; have hn1 := hne _ (bel2Z hb1 hu1)) | (go_at_call 181; (with_reducible refine hn1.mono ?_); rintro e u2 ⟨rfl, hu2⟩; obtain ⟨u3, hu3⟩ : ∃ u3, u2.alloc (.cells #[.int .i64 r'.li, .int .i64 r'.ro, .int .i64 r'.ta, .int .i64 s] 269) = u3 := ⟨_, rfl⟩; have hb3 := bel2Z (bel2Z (bel2Z hb1 hu1) hu2) (al1'Z u2 (.cells #[.int .i64 r'.li, .int .i64 r'.ro, .int .i64 r'.ta, .int .i64 s] 269)); rw [hu3] at hb3; have hx3 : u3.heap[u2.heap.size]? = some (.cells #[.int .i64 r'.li, .int .i64 r'.ro, .int .i64 r'.ta, .int .i64 s] 269 (0, 0)) := (by rw [← hu3]; exact new_at rfl); have cx : u3.cell? ⟨u2.heap.size, 3, none⟩ = some (.int .i64 s) := (by rw [cell_at hx3]; rfl); have hg5 : u3.heap[W.heap.size]? = some (.cells #[.int .i64 r.li, .int .i64 r.ro, .int .i64 r.ta] 23 (0, 0)) := (by rw [← hu3]; exact old_at ((hu2.block _ (lt_at ((hu1.block _ (lt_at hg1)).trans hg1))).trans ((hu1.block _ (lt_at hg1)).trans hg1)))) | (go_at_call 230; (with_reducible refine (him _).mono ?_); rintro e u4 ⟨rfl, hu4⟩; have hb4 := bel2Z hb3 hu4; have hwr4 : Calls Tryz.prog 229 #[.pointer (some ⟨p, 0, none⟩), .int .i64 0, .agg (cB S).toArray] u4 (fun e w' => e = .returned (.int .i64 (dW2 d 0 S).1) ∧ Dk w' p (dW2 d 0 S).2 ∧ TpZ p u4 w') := hwr u4 0 (by omega) hb4) | (go_at_call 229; (with_reducible refine hwr4.mono ?_); rintro e u5 ⟨rfl, hd5, ht5⟩))
    go_ret
    exact ⟨rfl, hd5, (TpZ.of p hb4).trans ht5⟩
  subst hz
  rw [if_pos rfl]
  rcases hta with rfl | rfl
  · change Calls Tryz.prog _ _ W fun e w' => e = .returned (.int .i64 (dW2 d 1 S).1) ∧ Dk w' p (dW2 d 1 S).2 ∧ TpZ p W w'
    go_enter Tryz.func182, Tryz.ntmps182
    go_wp2_with (first | (refine wpList_load_row rfl 23 (.tmp 3) rfl W.heap.size rfl 23 _ (0, 0) _ hg5 undR rfl infoR ?_) | (refine wpList_load_row rfl 23 (.tmp 3) rfl W.heap.size rfl 23 _ (0, 0) _ hg1 undR rfl infoR ?_) | (go_at_call 228; (with_reducible refine (hmay _).mono ?_); rintro e u1 ⟨rfl, hu1⟩; have hn1 := hne _ (bel2Z hb1 hu1)) | (go_at_call 181; (with_reducible refine hn1.mono ?_); rintro e u2 ⟨rfl, hu2⟩; obtain ⟨u3, hu3⟩ : ∃ u3, u2.alloc (.cells #[.int .i64 r'.li, .int .i64 r'.ro, .int .i64 r'.ta, .int .i64 s] 269) = u3 := ⟨_, rfl⟩; have hb3 := bel2Z (bel2Z (bel2Z hb1 hu1) hu2) (al1'Z u2 (.cells #[.int .i64 r'.li, .int .i64 r'.ro, .int .i64 r'.ta, .int .i64 s] 269)); rw [hu3] at hb3; have hx3 : u3.heap[u2.heap.size]? = some (.cells #[.int .i64 r'.li, .int .i64 r'.ro, .int .i64 r'.ta, .int .i64 s] 269 (0, 0)) := (by rw [← hu3]; exact new_at rfl); have cx : u3.cell? ⟨u2.heap.size, 3, none⟩ = some (.int .i64 s) := (by rw [cell_at hx3]; rfl); have hg5 : u3.heap[W.heap.size]? = some (.cells #[.int .i64 r.li, .int .i64 r.ro, .int .i64 r.ta] 23 (0, 0)) := (by rw [← hu3]; exact old_at ((hu2.block _ (lt_at ((hu1.block _ (lt_at hg1)).trans hg1))).trans ((hu1.block _ (lt_at hg1)).trans hg1)))) | (go_at_call 230; (with_reducible refine (him _).mono ?_); rintro e u4 ⟨rfl, hu4⟩; have hb4 := bel2Z hb3 hu4; have hwr4 : Calls Tryz.prog 229 #[.pointer (some ⟨p, 0, none⟩), .int .i64 1, .agg (cB S).toArray] u4 (fun e w' => e = .returned (.int .i64 (dW2 d 1 S).1) ∧ Dk w' p (dW2 d 1 S).2 ∧ TpZ p u4 w') := hwr u4 1 (by omega) hb4) | (go_at_call 229; (with_reducible refine hwr4.mono ?_); rintro e u5 ⟨rfl, hd5, ht5⟩))
    go_ret
    exact ⟨rfl, hd5, (TpZ.of p hb4).trans ht5⟩
  · change Calls Tryz.prog _ _ W fun e w' => e = .returned (.int .i64 (dW2 d 0 S).1) ∧ Dk w' p (dW2 d 0 S).2 ∧ TpZ p W w'
    go_enter Tryz.func182, Tryz.ntmps182
    go_wp2_with (first | (refine wpList_load_row rfl 23 (.tmp 3) rfl W.heap.size rfl 23 _ (0, 0) _ hg5 undR rfl infoR ?_) | (refine wpList_load_row rfl 23 (.tmp 3) rfl W.heap.size rfl 23 _ (0, 0) _ hg1 undR rfl infoR ?_) | (go_at_call 228; (with_reducible refine (hmay _).mono ?_); rintro e u1 ⟨rfl, hu1⟩; have hn1 := hne _ (bel2Z hb1 hu1)) | (go_at_call 181; (with_reducible refine hn1.mono ?_); rintro e u2 ⟨rfl, hu2⟩; obtain ⟨u3, hu3⟩ : ∃ u3, u2.alloc (.cells #[.int .i64 r'.li, .int .i64 r'.ro, .int .i64 r'.ta, .int .i64 s] 269) = u3 := ⟨_, rfl⟩; have hb3 := bel2Z (bel2Z (bel2Z hb1 hu1) hu2) (al1'Z u2 (.cells #[.int .i64 r'.li, .int .i64 r'.ro, .int .i64 r'.ta, .int .i64 s] 269)); rw [hu3] at hb3; have hx3 : u3.heap[u2.heap.size]? = some (.cells #[.int .i64 r'.li, .int .i64 r'.ro, .int .i64 r'.ta, .int .i64 s] 269 (0, 0)) := (by rw [← hu3]; exact new_at rfl); have cx : u3.cell? ⟨u2.heap.size, 3, none⟩ = some (.int .i64 s) := (by rw [cell_at hx3]; rfl); have hg5 : u3.heap[W.heap.size]? = some (.cells #[.int .i64 r.li, .int .i64 r.ro, .int .i64 r.ta] 23 (0, 0)) := (by rw [← hu3]; exact old_at ((hu2.block _ (lt_at ((hu1.block _ (lt_at hg1)).trans hg1))).trans ((hu1.block _ (lt_at hg1)).trans hg1)))) | (go_at_call 230; (with_reducible refine (him _).mono ?_); rintro e u4 ⟨rfl, hu4⟩; have hb4 := bel2Z hb3 hu4; have hwr4 : Calls Tryz.prog 229 #[.pointer (some ⟨p, 0, none⟩), .int .i64 0, .agg (cB S).toArray] u4 (fun e w' => e = .returned (.int .i64 (dW2 d 0 S).1) ∧ Dk w' p (dW2 d 0 S).2 ∧ TpZ p u4 w') := hwr u4 0 (by omega) hb4) | (go_at_call 229; (with_reducible refine hwr4.mono ?_); rintro e u5 ⟨rfl, hd5, ht5⟩))
    go_ret
    exact ⟨rfl, hd5, (TpZ.of p hb4).trans ht5⟩
end

/-- A slot's bytes are put. -/
def put2 (l : List Nat) (q : Nat) (S : List Nat) : List Nat := putS (putS l (2 * q) (S.take 32)) (2 * q + 1) (S.drop 32)
section
variable {l S : List Nat} {q : Nat}
theorem half_len (hS : S.length = 64) : (S.take 32).length = 32 ∧ (S.drop 32).length = 32 := ⟨by rw [List.length_take]; omega, by rw [List.length_drop]; omega⟩
theorem put1_len (h : l.length = 256) (hS : S.length = 64) (hq : q < 2) : (putS l (2 * q) (S.take 32)).length = 256 := (putS_len (by rw [(half_len hS).1, h]; omega)).trans h
theorem put2_len (h : l.length = 256) (hS : S.length = 64) (hq : q < 2) : (put2 l q S).length = 256 := (putS_len (by rw [(half_len hS).2, put1_len h hS hq]; omega)).trans (put1_len h hS hq)
theorem slt_put (h : l.length = 256) (hS : S.length = 64) (hq : q < 2) : slt (put2 l q S) q = S := by
  obtain ⟨e1, e2⟩ := half_len hS
  rw [slt_secs, put2, secs_put_ne (put1_len h hS hq) e2 (by omega) (by omega), secs_put h e1 (by omega), secs_put (put1_len h hS hq) e2 (by omega), List.take_append_drop]
theorem slt_put_ne (h : l.length = 256) (hS : S.length = 64) (hq : q < 2) {t : Nat} (ht : t ≠ q) : slt (put2 l q S) t = slt l t := by
  obtain ⟨e1, e2⟩ := half_len hS
  rw [slt_secs, slt_secs, put2, secs_put_ne (put1_len h hS hq) e2 (by omega) (by omega), secs_put_ne h e1 (by omega) (by omega), secs_put_ne (put1_len h hS hq) e2 (by omega) (by omega), secs_put_ne h e1 (by omega) (by omega)]
theorem slt_torn (h : l.length = 256) (hS : S.length = 64) (hq : q < 2) : slt (putS l (2 * q) (S.take 32)) q = S.take 32 ++ (slt l q).drop 32 := by
  obtain ⟨e1, e2⟩ := half_len hS
  rw [slt_secs, secs_put h e1 (by omega), secs_put_ne h e1 (by omega) (by omega), slt_secs, List.drop_append, List.drop_of_length_le (by rw [secs_len h (by omega)]; omega), secs_len h (by omega), List.nil_append]
  rfl
theorem slt_torn_ne (h : l.length = 256) (hS : S.length = 64) (hq : q < 2) {t : Nat} (ht : t ≠ q) : slt (putS l (2 * q) (S.take 32)) t = slt l t := by
  obtain ⟨e1, e2⟩ := half_len hS
  rw [slt_secs, slt_secs, secs_put_ne h e1 (by omega) (by omega), secs_put_ne h e1 (by omega) (by omega)]
end
theorem numB_inj {a b : Nat} (ha : a < 18446744073709551616) (hb : b < 18446744073709551616) (h : numB a 8 = numB b 8) : a = b := by
  have h1 : valB 0 (numB a 8) = a := val_num (by show a < 18446744073709551616; exact ha)
  have h2 : valB 0 (numB b 8) = b := val_num (by show b < 18446744073709551616; exact hb)
  rw [← h1, h, h2]
/-- A torn slot says nothing. -/
theorem say_torn {r : Rec} {s : Int} {X : List Nat} {m : Nat} (hs : 0 ≤ s ∧ s < 9223372036854775808) (hX : (X.drop 36).take 8 = numB m 8) (hm : m < 9223372036854775808) (hn : s ≠ (m : Int)) : say ((slB r s).take 32 ++ X.drop 32) = none := by
  cases h : say ((slB r s).take 32 ++ X.drop 32) with
  | none => rfl
  | some x =>
    exfalso
    obtain ⟨r', s'⟩ := x
    obtain ⟨h1, h2⟩ := say_seq h
    have e1 : (((slB r s).take 32 ++ X.drop 32).drop 4).take 8 = numB s.toNat 8 := rfl
    have hl : ((slB r s).take 32).length = 32 := rfl
    have e2 : (((slB r s).take 32 ++ X.drop 32).drop 36).take 8 = numB m 8 := by
      rw [List.drop_append, List.drop_of_length_le (by rw [hl]; omega), List.nil_append, hl, List.drop_drop]
      exact hX
    have e3 : numB s.toNat 8 = numB m 8 := by rw [← e1, ← e2, h1, h2]
    have := numB_inj (by omega) (by omega) e3
    omega
theorem say_zero : say (slt (List.replicate 256 0) 0) = none ∧ say (slt (List.replicate 256 0) 1) = none := ⟨by kernel_rfl, by kernel_rfl⟩
theorem nw_of {l : List Nat} {n : Nat} {r : Rec} (h1 : say (slt l ((n + 1) % 2)) = some (r, (n : Int))) (h2 : ∀ x, say (slt l (n % 2)) = some x → x.2 < (n : Int)) : nw l = some ((r, (n : Int)), (n + 1) % 2) := by
  unfold nw
  rcases Nat.mod_two_eq_zero_or_one n with e | e
  · have e2 : (n + 1) % 2 = 1 := by omega
    rw [e2] at h1 ⊢
    rw [e] at h2
    rw [h1]
    cases hs : say (slt l 0) with
    | none => rfl
    | some x =>
      have := h2 x hs
      show (if x.2 < (n : Int) then some ((r, (n : Int)), 1) else some (x, 0)) = _
      rw [if_pos this]
  · have e2 : (n + 1) % 2 = 0 := by omega
    rw [e2] at h1 ⊢
    rw [e] at h2
    rw [h1]
    cases hs : say (slt l 1) with
    | none => rfl
    | some x =>
      have := h2 x hs
      show (if (n : Int) < x.2 then some (x, 1) else some ((r, (n : Int)), 0)) = _
      rw [if_neg (by omega)]
theorem dW2_ok {d : Dst} {q : Nat} {S : List Nat} (ho : d.off = false) (hq : q < 2) (hS : S.length = 64) (hf : d.fused = true → 2 ≤ d.fuse) : dW2 d q S = (0, ⟨put2 d.l q S, false, d.fused, if d.fused then d.fuse - 2 else d.fuse, d.writes + 2⟩) := by
  obtain ⟨e1, e2⟩ := half_len hS
  obtain ⟨l, of, fd, fu, wr⟩ := d
  dsimp only at ho hf ⊢
  subst ho
  have h1 : ¬ left ⟨l, false, fd, fu, wr⟩ = 0 := by
    unfold left
    cases fd
    · simp
    · have := hf rfl
      simp
      omega
  have w1 : dWr ⟨l, false, fd, fu, wr⟩ (2 * q : Nat) (S.take 32) = (0, ⟨putS l (2 * q) (S.take 32), false, fd, if fd then fu - 1 else fu, wr + 1⟩) := by
    rw [dWr_ok rfl (by omega) e1 h1, Int.toNat_natCast]
    rfl
  have h2 : ¬ left ⟨putS l (2 * q) (S.take 32), false, fd, if fd then fu - 1 else fu, wr + 1⟩ = 0 := by
    unfold left
    cases fd
    · simp
    · have := hf rfl
      simp
      omega
  rw [dW2, w1, if_pos rfl]
  dsimp only
  rw [dWr_ok rfl (by omega) e2 h2, Int.toNat_natCast]
  unfold dBurn put2
  cases fd
  · simp
    omega
  · simp
    constructor <;> omega
theorem dW2_cut0 {d : Dst} {q : Nat} {S : List Nat} (ho : d.off = false) (hq : q < 2) (hS : S.length = 64) (hf : d.fused = true) (h0 : d.fuse = 0) : dW2 d q S = (100, ⟨d.l, true, false, 0, d.writes⟩) := by
  obtain ⟨e1, e2⟩ := half_len hS
  have w1 : dWr d (2 * q : Nat) (S.take 32) = (100, dFuse { d with off := true } (-1)) := dWr_blow ho (by omega) e1 (by unfold left; rw [if_pos hf, h0])
  rw [dW2, w1, if_neg (by show ¬ (100 : Int) = 0; decide)]
  rfl
theorem dW2_cut1 {d : Dst} {q : Nat} {S : List Nat} (ho : d.off = false) (hq : q < 2) (hS : S.length = 64) (hf : d.fused = true) (h0 : d.fuse = 1) : dW2 d q S = (100, ⟨putS d.l (2 * q) (S.take 32), true, false, 0, d.writes + 1⟩) := by
  obtain ⟨e1, e2⟩ := half_len hS
  obtain ⟨l, of, fd, fu, wr⟩ := d
  dsimp only at ho hf h0 ⊢
  subst ho hf h0
  have w1 : dWr ⟨l, false, true, 1, wr⟩ (2 * q : Nat) (S.take 32) = (0, ⟨putS l (2 * q) (S.take 32), false, true, 0, wr + 1⟩) := by
    rw [dWr_ok rfl (by omega) e1 (by show ¬ (1 : Int) = 0; decide), Int.toNat_natCast]
    rfl
  rw [dW2, w1, if_pos rfl]
  dsimp only
  rw [dWr_blow rfl (by omega) e2 rfl]
  rfl
end Go.Proofs.YtklnfbanfgdgcaaGreatDoor
