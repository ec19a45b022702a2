/- slot's read and write: what they answer. -/
import Derived.Test.YtjleggnkacmbbaaLte
namespace Go.Proofs.Ytjleggnkacmbbaa
open Go.RowKit Go.Shelf Go.Lib

/-- A slot's bytes on a disk. -/
def slt (l : List Nat) (q : Nat) : List Nat := (l.drop (64 * q)).take 64
theorem slt_len {l : List Nat} (h : l.length = 256) {q : Nat} (hq : q < 2) : (slt l q).length = 64 := by rw [slt, List.length_take, List.length_drop, h]; omega
theorem slt_byt {l : List Nat} (h : Byt l) (q : Nat) : Byt (slt l q) := (h.drop _).take _
theorem slt_secs (l : List Nat) (q : Nat) : slt l q = secs l (2 * q) ++ secs l (2 * q + 1) := by
  unfold slt secs
  rw [show 32 * (2 * q) = 64 * q by omega, show 32 * (2 * q + 1) = 64 * q + 32 by omega, ← List.drop_drop, show 64 = 32 + 32 from rfl, List.take_add]
theorem rd_at {V : World} {p : Nat} {d : Dst} (h : Dk V p d) (ho : d.off = false) (n : Nat) (z : Int) (hz : z = (n : Int)) (hn : n < 8) : Calls Try.prog 61 #[.pointer (some ⟨p, 0, none⟩), .int .i64 z] V fun e w' => ∃ g, e = .returned (.tuple #[.slice (some ⟨g, 32 * n, none⟩) 32 32, .int .i64 0]) ∧ RdB w' (some ⟨g, 32 * n, none⟩) (secs d.l n) ∧ Below V.heap.size V w' := by
  subst hz
  refine (read_ok h n ho hn).mono ?_
  rintro e w' ⟨g, c, rfl, _, hr, hb⟩
  exact ⟨g, rfl, hr.rd, hb⟩
theorem half0 (A : List Nat) (h : A.length = 32) : splice (cB z64) 0 (cB A) = cB (A ++ z64.drop 32) := by
  have e : (cB A).length = 32 := by rw [cB_len, h]
  simp [splice, e, cB_app]
  simp [cB, List.map_drop]
theorem half1 (A B : List Nat) (h : A.length = 32) (k : B.length = 32) : splice (cB (A ++ z64.drop 32)) 32 (cB B) = cB (A ++ B) := by
  have e : (cB A).length = 32 := by rw [cB_len, h]
  have e2 : (cB B).length = 32 := by rw [cB_len, k]
  have e3 : (cB (z64.drop 32)).length = 32 := by rw [cB_len]; rfl
  rw [cB_app, cB_app, splice, List.take_append_of_le_length (by omega), List.take_of_length_le (by omega), e2, List.drop_append, List.drop_of_length_le (by omega), List.nil_append, e, List.drop_of_length_le (by rw [e3]; omega), List.append_nil]
def vfst (v : Value) : Nat := vnat v
/-- While a slot is read. -/
def JR (w : World) (C : List Nat) (V : World) : Prop := V.heap[w.heap.size]? = some (.cells (cB z64).toArray 100 (0, 0)) ∧ V.heap[w.heap.size + 1]? = some (.cells (cB C).toArray 100 (0, 0)) ∧ Below w.heap.size w V
theorem JR.carry {w V V' : World} {C : List Nat} (h : JR w C V) (hb : Below V.heap.size V V') : JR w C V' := ⟨(hb.block _ (lt_at h.1)).trans h.1, (hb.block _ (lt_at h.2.1)).trans h.2.1, bel2 h.2.2 hb⟩
theorem JR.put {w V V' : World} {C C' : List Nat} (h : JR w C V) (hu : V'.heap[w.heap.size + 1]? = some (.cells (cB C').toArray 100 (0, 0))) (hb : Below (w.heap.size + 1) V V') : JR w C' V' := ⟨(hb.block _ (by omega)).trans h.1, hu, h.2.2.trans (hb.mono (by omega))⟩
section
variable {W : World} {p : Nat} {d : Dst}
set_option maxHeartbeats 4000000 in
set_option maxRecDepth 100000 in
theorem sread_any (h : Dk W p d) (ho : d.off = false) (q : Nat) (hq : q < 2) : Calls Try.prog 54 #[.pointer (some ⟨p, 0, none⟩), .int .i64 (q : Int)] W fun e w' => e = .returned (.agg (cB (slt d.l q)).toArray) ∧ Below W.heap.size W w' := by
  have hz := zerI
  obtain ⟨Z, hZ⟩ : ∃ Z, (cB z64).toArray = Z := ⟨_, rfl⟩
  rw [hZ] at hz
  obtain ⟨w2, hw2⟩ : ∃ w2, (W.alloc (.cells Z 100)).alloc (.cells Z 100) = w2 := ⟨_, rfl⟩
  have hj : JR W z64 w2 := by
    rw [← hw2]
    refine ⟨?_, ?_, bel2 (al1' _ _) (al1' _ _)⟩
    · rw [hZ]
      exact old_at (new_at rfl)
    · rw [hZ]
      exact new_at (by simp)
  have hq : q = 0 ∨ q = 1 := by omega
  rcases hq with rfl | rfl
  · change Calls Try.prog 54 #[.pointer (some ⟨p, 0, none⟩), .int .i64 0] W _
    obtain ⟨ZZ, hZZ⟩ : ∃ ZZ, secs d.l 0 = ZZ := ⟨_, rfl⟩
    obtain ⟨YY, hYY⟩ : ∃ YY, secs d.l 1 = YY := ⟨_, rfl⟩
    have hl0 : ZZ.length = 32 := by rw [← hZZ]; exact secs_len h.len (by omega)
    have hl1 : YY.length = 32 := by rw [← hYY]; exact secs_len h.len (by omega)
    have HS : Hid (slt d.l 0 = ZZ ++ YY) := by show slt d.l 0 = _; rw [slt_secs d.l 0, hZZ, hYY]
    have HZ : Hid (secs d.l 0 = ZZ) := hZZ
    have HY : Hid (secs d.l 1 = YY) := hYY
    clear hZZ hYY
    go_enter Try.func54, Try.ntmps54
    go_wp2
    go_loopw [9] (fun i wz => ∃ (k : Nat) (C : List Nat), i = .int .i64 k ∧ Hid ((k = 0 ∧ C = z64) ∨ (k = 1 ∧ C = ZZ ++ z64.drop 32) ∨ (k = 2 ∧ C = ZZ ++ YY)) ∧ JR W C wz) (fun i _ => 2 - vnat i)
    case atStart => exact ⟨0, z64, rfl, .inl ⟨rfl, rfl⟩, hj⟩
    case round =>
      obtain ⟨k, C, rfl, HC, hjr⟩ := hrel
      rcases HC.out with ⟨rfl, rfl⟩ | ⟨rfl, rfl⟩ | ⟨rfl, rfl⟩
      · have hD := h.carry hjr.2.2
        have hr := rd_at hD ho 0 0 rfl (by omega)
        rw [HZ.out] at hr
        go_wp2_with (first | (go_at_call 61; (with_reducible refine hr.mono ?_); rintro e u1 ⟨g, rfl, hrd, hu1⟩; have j1 := hjr.carry hu1) | (refine wpList_copy_splice rfl _ _ _ _ rfl 5 Try.underlying62 infoB1 _ _ _ _ 32 32 rfl rfl (W.heap.size + 1) 0 (cB z64) 100 j1.2.1 (cB ZZ) (by rw [cB_len, hl0]; rfl) (fun hp => by obtain ⟨b, off, e1, hbl, hat⟩ := hrd (fun e => by subst e; simp [cB] at hp); cases e1; exact ⟨rfl, _, rfl, b_src hat⟩) (by rw [cB_len, cB_len, hl0]; first | (simp [z64]; done) | simp [z64, hl0]) (cB_one ZZ) (W.heap.size + 1) u1 (Below.refl _ _) (Nat.le_refl _) ?_; intro u HU hbu; rw [half0 ZZ hl0] at HU; have HJ := j1.put HU.out hbu))
        go_roundw
        case rel => exact ⟨1, _, rfl, .inr (.inl ⟨rfl, rfl⟩), HJ⟩
        case measure => simp [vnat]
      · have hD := h.carry hjr.2.2
        have hr := rd_at hD ho 1 1 rfl (by omega)
        rw [HY.out] at hr
        go_wp2_with (first | (go_at_call 61; (with_reducible refine hr.mono ?_); rintro e u1 ⟨g, rfl, hrd, hu1⟩; have j1 := hjr.carry hu1) | (refine wpList_copy_splice rfl _ _ _ _ rfl 5 Try.underlying62 infoB1 _ _ _ _ 32 32 rfl rfl (W.heap.size + 1) 32 (cB (ZZ ++ z64.drop 32)) 100 j1.2.1 (cB YY) (by rw [cB_len, hl1]; rfl) (fun hp => by obtain ⟨b, off, e1, hbl, hat⟩ := hrd (fun e => by subst e; simp [cB] at hp); cases e1; exact ⟨rfl, _, rfl, b_src hat⟩) (by rw [cB_len, cB_len, hl1]; first | (simp [z64]; done) | simp [z64, hl0]) (cB_one YY) (W.heap.size + 1) u1 (Below.refl _ _) (Nat.le_refl _) ?_; intro u HU hbu; rw [half1 ZZ YY hl0 hl1] at HU; have HJ := j1.put HU.out hbu))
        go_roundw
        case rel => exact ⟨2, _, rfl, .inr (.inr ⟨rfl, rfl⟩), HJ⟩
        case measure => simp [vnat]
      · have hzl : (Try.prog.info? 100).map (·.size) = some (cB (ZZ ++ YY)).toArray.size := by rw [List.size_toArray, cB_len, List.length_append, hl0, hl1]; exact infoI
        have hzo : (cB z64).toArray.size = (cB (ZZ ++ YY)).toArray.size := by rw [List.size_toArray, List.size_toArray, cB_len, cB_len, List.length_append, hl0, hl1]; rfl
        go_wp2_with (first | (refine wpList_load_row rfl 100 (.tmp 5) rfl (W.heap.size + 1) rfl 100 (cB (ZZ ++ YY)).toArray (0, 0) _ hjr.2.1 undI rfl hzl ?_) | (refine wpList_store_row rfl 100 (.tmp 4) (.tmp 27) rfl W.heap.size (cB (ZZ ++ YY)).toArray rfl rfl 100 (cB z64).toArray hjr.1 hzl hzo (all_one (ZZ ++ YY)) ?_; obtain ⟨v, hv⟩ : ∃ v, wr.setRow W.heap.size (cB (ZZ ++ YY)).toArray = v := ⟨_, rfl⟩; have HV : Hid (v.heap[W.heap.size]? = some (.cells (cB (ZZ ++ YY)).toArray 100 (0, 0))) := (by rw [← hv]; exact setRow_heap _ _ _ _ _ _ hjr.1); have HB : Hid (Below W.heap.size W v) := (by rw [← hv]; exact below_setRow hjr.2.2 (Nat.le_refl _) _); rw [hv]))
        (try simp only [Exit.inBlock, Exit.then])
        refine bodyPost_ret (results_cell_row rfl _ _ W.heap.size _ (cB (ZZ ++ YY)).toArray (0, 0) _ rfl HV.out undI rfl hzl) rfl ?_
        exact ⟨by rw [HS.out], HB.out⟩
  · change Calls Try.prog 54 #[.pointer (some ⟨p, 0, none⟩), .int .i64 1] W _
    obtain ⟨ZZ, hZZ⟩ : ∃ ZZ, secs d.l 2 = ZZ := ⟨_, rfl⟩
    obtain ⟨YY, hYY⟩ : ∃ YY, secs d.l 3 = YY := ⟨_, rfl⟩
    have hl0 : ZZ.length = 32 := by rw [← hZZ]; exact secs_len h.len (by omega)
    have hl1 : YY.length = 32 := by rw [← hYY]; exact secs_len h.len (by omega)
    have HS : Hid (slt d.l 1 = ZZ ++ YY) := by show slt d.l 1 = _; rw [slt_secs d.l 1, hZZ, hYY]
    have HZ : Hid (secs d.l 2 = ZZ) := hZZ
    have HY : Hid (secs d.l 3 = YY) := hYY
    clear hZZ hYY
    go_enter Try.func54, Try.ntmps54
    go_wp2
    go_loopw [9] (fun i wz => ∃ (k : Nat) (C : List Nat), i = .int .i64 k ∧ Hid ((k = 0 ∧ C = z64) ∨ (k = 1 ∧ C = ZZ ++ z64.drop 32) ∨ (k = 2 ∧ C = ZZ ++ YY)) ∧ JR W C wz) (fun i _ => 2 - vnat i)
    case atStart => exact ⟨0, z64, rfl, .inl ⟨rfl, rfl⟩, hj⟩
    case round =>
      obtain ⟨k, C, rfl, HC, hjr⟩ := hrel
      rcases HC.out with ⟨rfl, rfl⟩ | ⟨rfl, rfl⟩ | ⟨rfl, rfl⟩
      · have hD := h.carry hjr.2.2
        have hr := rd_at hD ho 2 2 rfl (by omega)
        rw [HZ.out] at hr
        go_wp2_with (first | (go_at_call 61; (with_reducible refine hr.mono ?_); rintro e u1 ⟨g, rfl, hrd, hu1⟩; have j1 := hjr.carry hu1) | (refine wpList_copy_splice rfl _ _ _ _ rfl 5 Try.underlying62 infoB1 _ _ _ _ 32 32 rfl rfl (W.heap.size + 1) 0 (cB z64) 100 j1.2.1 (cB ZZ) (by rw [cB_len, hl0]; rfl) (fun hp => by obtain ⟨b, off, e1, hbl, hat⟩ := hrd (fun e => by subst e; simp [cB] at hp); cases e1; exact ⟨rfl, _, rfl, b_src hat⟩) (by rw [cB_len, cB_len, hl0]; first | (simp [z64]; done) | simp [z64, hl0]) (cB_one ZZ) (W.heap.size + 1) u1 (Below.refl _ _) (Nat.le_refl _) ?_; intro u HU hbu; rw [half0 ZZ hl0] at HU; have HJ := j1.put HU.out hbu))
        go_roundw
        case rel => exact ⟨1, _, rfl, .inr (.inl ⟨rfl, rfl⟩), HJ⟩
        case measure => simp [vnat]
      · have hD := h.carry hjr.2.2
        have hr := rd_at hD ho 3 3 rfl (by omega)
        rw [HY.out] at hr
        go_wp2_with (first | (go_at_call 61; (with_reducible refine hr.mono ?_); rintro e u1 ⟨g, rfl, hrd, hu1⟩; have j1 := hjr.carry hu1) | (refine wpList_copy_splice rfl _ _ _ _ rfl 5 Try.underlying62 infoB1 _ _ _ _ 32 32 rfl rfl (W.heap.size + 1) 32 (cB (ZZ ++ z64.drop 32)) 100 j1.2.1 (cB YY) (by rw [cB_len, hl1]; rfl) (fun hp => by obtain ⟨b, off, e1, hbl, hat⟩ := hrd (fun e => by subst e; simp [cB] at hp); cases e1; exact ⟨rfl, _, rfl, b_src hat⟩) (by rw [cB_len, cB_len, hl1]; first | (simp [z64]; done) | simp [z64, hl0]) (cB_one YY) (W.heap.size + 1) u1 (Below.refl _ _) (Nat.le_refl _) ?_; intro u HU hbu; rw [half1 ZZ YY hl0 hl1] at HU; have HJ := j1.put HU.out hbu))
        go_roundw
        case rel => exact ⟨2, _, rfl, .inr (.inr ⟨rfl, rfl⟩), HJ⟩
        case measure => simp [vnat]
      · have hzl : (Try.prog.info? 100).map (·.size) = some (cB (ZZ ++ YY)).toArray.size := by rw [List.size_toArray, cB_len, List.length_append, hl0, hl1]; exact infoI
        have hzo : (cB z64).toArray.size = (cB (ZZ ++ YY)).toArray.size := by rw [List.size_toArray, List.size_toArray, cB_len, cB_len, List.length_append, hl0, hl1]; rfl
        go_wp2_with (first | (refine wpList_load_row rfl 100 (.tmp 5) rfl (W.heap.size + 1) rfl 100 (cB (ZZ ++ YY)).toArray (0, 0) _ hjr.2.1 undI rfl hzl ?_) | (refine wpList_store_row rfl 100 (.tmp 4) (.tmp 27) rfl W.heap.size (cB (ZZ ++ YY)).toArray rfl rfl 100 (cB z64).toArray hjr.1 hzl hzo (all_one (ZZ ++ YY)) ?_; obtain ⟨v, hv⟩ : ∃ v, wr.setRow W.heap.size (cB (ZZ ++ YY)).toArray = v := ⟨_, rfl⟩; have HV : Hid (v.heap[W.heap.size]? = some (.cells (cB (ZZ ++ YY)).toArray 100 (0, 0))) := (by rw [← hv]; exact setRow_heap _ _ _ _ _ _ hjr.1); have HB : Hid (Below W.heap.size W v) := (by rw [← hv]; exact below_setRow hjr.2.2 (Nat.le_refl _) _); rw [hv]))
        (try simp only [Exit.inBlock, Exit.then])
        refine bodyPost_ret (results_cell_row rfl _ _ W.heap.size _ (cB (ZZ ++ YY)).toArray (0, 0) _ rfl HV.out undI rfl hzl) rfl ?_
        exact ⟨by rw [HS.out], HB.out⟩
end
end Go.Proofs.Ytjleggnkacmbbaa
