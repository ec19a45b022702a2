/- The document's found, Load, Save: what they answer. -/
import Derived.Test.YtjleggnkacmbbaaRtb
import Derived.Test.YtjleggnkacmbbaaDrd
import Derived.Test.YtjleggnkacmbbaaLti
namespace Go.Proofs.Ytjleggnkacmbbaa
open Go.RowKit Go.Shelf Go.Lib

theorem RfD.lt {W : World} {lb o base r c : Nat} {d : Dst} (h : RfD W lb o base r c d) : lb < W.heap.size ∧ r < W.heap.size := by
  obtain ⟨cur, h1⟩ := h.lk
  obtain ⟨_, cur2, h2⟩ := h.rb
  exact ⟨lt_at h1, lt_at h2⟩
theorem RfD.carry {W V : World} {lb o base r c : Nat} {d : Dst} (h : RfD W lb o base r c d) (hb : Below W.heap.size W V) : RfD V lb o base r c d := by
  have e := hb.block lb h.lt.1
  obtain ⟨cur, h1⟩ := h.lk
  exact ⟨(World.cell?_of_block (a := ⟨lb, _, none⟩) e).trans h.b, (World.cell?_of_block (a := ⟨lb, _, none⟩) e).trans h.f, (World.cell?_of_block (a := ⟨lb, _, none⟩) e).trans h.u, (World.cell?_of_block (a := ⟨lb, _, none⟩) e).trans h.n, row_below h.row hb, ⟨cur, e.trans h1⟩, h.len, h.byt⟩
theorem RfD.slt {W : World} {lb o base r c : Nat} {d : Dst} (h : RfD W lb o base r c d) (q : Nat) : RdB W (some ⟨r, 64 * q, none⟩) (slt d.l q) := fun _ => ⟨r, 64 * q, rfl, h.lt.2, by have := h.at.sub (64 * q) 64; rw [Nat.zero_add] at this; exact this⟩
structure Fd where
  r : Rec
  s : Int
  k : Int
def fdO : Option ((Rec × Int) × Nat) → Fd
  | none => ⟨rec0, 0, -1⟩
  | some ((r, s), k) => ⟨r, s, (k : Int)⟩
def fdV (t : Fd) : Value := .tuple #[rV t.r, .int .i64 t.s, .int .i64 t.k]
/-- While the document looks for the newest. -/
def JF (W : World) (t : Fd) (V : World) : Prop := V.heap[W.heap.size]? = some (.cells #[.int .i64 0, .int .i64 0, .int .i64 0] 36 (0, 0)) ∧ V.heap[W.heap.size + 1]? = some (.cells #[.int .i64 t.r.li, .int .i64 t.r.ro, .int .i64 t.r.ta] 36 (0, 0)) ∧ Below W.heap.size W V
theorem JF.carry {w V V' : World} {t : Fd} (h : JF w t V) (hb : Below V.heap.size V V') : JF w t V' := ⟨(hb.block _ (lt_at h.1)).trans h.1, (hb.block _ (lt_at h.2.1)).trans h.2.1, bel2 h.2.2 hb⟩
theorem JF.put {w V : World} {t t' : Fd} (h : JF w t V) : JF w t' (V.setRow (w.heap.size + 1) #[.int .i64 t'.r.li, .int .i64 t'.r.ro, .int .i64 t'.r.ta]) := ⟨(setRow_other _ _ _ _ (by omega)).trans h.1, setRow_heap _ _ _ _ _ _ h.2.1, below_setRow h.2.2 (by omega) _⟩
section
variable {W : World} {lb base r c : Nat} {d : Dst}
set_option maxHeartbeats 8000000 in
set_option maxRecDepth 100000 in
theorem found_any (h : RfD W lb 0 base r c d) : Calls Try.prog 59 #[.pointer (some ⟨lb, 0, none⟩)] W fun e w' => e = .returned (fdV (fdO (nw d.l))) ∧ Below W.heap.size W w' := by
  obtain ⟨T, hT⟩ : ∃ T, fdO (nw d.l) = T := ⟨_, rfl⟩
  rw [hT]
  obtain ⟨w1, hw1⟩ : ∃ w1, (W.alloc (.cells #[.int .i64 0, .int .i64 0, .int .i64 0] 36)).alloc (.cells #[.int .i64 0, .int .i64 0, .int .i64 0] 36) = w1 := ⟨_, rfl⟩
  have hj : JF W ⟨rec0, 0, -1⟩ w1 := by rw [← hw1]; exact ⟨old_at (new_at rfl), new_at (by simp), bel2 (al1' _ _) (al1' _ _)⟩
  have hc := own_cap h.row
  have hc1 : (64 : Int) ≤ (c : Int) := by omega
  have hc2 : (128 : Int) ≤ (c : Int) := by omega
  have hd0 : ∀ V, Below W.heap.size W V → Calls Try.prog 67 #[.slice (some ⟨r, 0, none⟩) 64 c] V fun e w' => e = .returned (decV (say (slt d.l 0))) ∧ Below V.heap.size V w' := fun V hV => rdec_any _ _ _ V ((h.carry hV).slt 0) (slt_len h.len (by omega)) (slt_byt h.byt 0)
  have hd1 : ∀ V, Below W.heap.size W V → Calls Try.prog 67 #[.slice (some ⟨r, 64, none⟩) 64 (c - 64)] V fun e w' => e = .returned (decV (say (slt d.l 1))) ∧ Below V.heap.size V w' := fun V hV => rdec_any _ _ _ V ((h.carry hV).slt 1) (slt_len h.len (by omega)) (slt_byt h.byt 1)
  have hcb : ∀ V, Below W.heap.size W V → V.cell? ⟨lb, 0, none⟩ = some (.slice (some ⟨r, 0, none⟩) 256 c) := fun V hV => (h.carry hV).b
  obtain ⟨A, hA⟩ : ∃ A, say (slt d.l 0) = A := ⟨_, rfl⟩
  obtain ⟨B, hB⟩ : ∃ B, say (slt d.l 1) = B := ⟨_, rfl⟩
  have hfA : ∀ r s, A = some (r, s) → 0 < s := fun r s e => by
    obtain ⟨⟨_, q⟩, _⟩ := say_some (hA.trans e)
    omega
  have hfB : ∀ r s, B = some (r, s) → 0 < s := fun r s e => by
    obtain ⟨⟨_, q⟩, _⟩ := say_some (hB.trans e)
    omega
  have HT : Hid (T = fdO (nwo A B)) := by show T = _; rw [← hT, nw, hA, hB]
  rw [hA] at hd0
  rw [hB] at hd1
  clear hA hB hT hc
  go_enter Try.func59, Try.ntmps59
  go_wp2
  go_loopw [6, 7, 8] (fun a e i wz => ∃ (k : Nat) (t : Fd), i = .int .i64 k ∧ a = .int .i64 t.s ∧ e = .int .i64 t.k ∧ Hid ((k = 0 ∧ t = ⟨rec0, 0, -1⟩) ∨ (k = 1 ∧ t = fdO (nwo A none)) ∨ (k = 2 ∧ t = T)) ∧ JF W t wz) (fun _ _ i _ => 2 - vnat i)
  case atStart => exact ⟨0, ⟨rec0, 0, -1⟩, rfl, rfl, rfl, .inl ⟨rfl, rfl⟩, hj⟩
  case round =>
    obtain ⟨k, t, rfl, rfl, rfl, HC, hjr⟩ := hrel
    rcases HC.out with ⟨rfl, rfl⟩ | ⟨rfl, rfl⟩ | ⟨rfl, rfl⟩
    · clear HC
      have hr := hd0 _ hjr.2.2
      have cb := hcb _ hjr.2.2
      cases A with
      | none =>
        unfold decV r0A at hr
        go_wp2_with (go_at_call 67; (with_reducible refine hr.mono ?_); rintro e v1 ⟨rfl, v1h⟩)
        go_roundw
        case rel => exact ⟨1, ⟨rec0, 0, -1⟩, rfl, rfl, rfl, .inr (.inl ⟨rfl, rfl⟩), (hjr.carry v1h).carry (al1' _ _)⟩
        case measure => simp [vnat]
      | some x =>
        obtain ⟨q, s⟩ := x
        have hpos : 0 < s := hfA q s rfl
        unfold decV rV at hr
        go_wp2_with (first | (go_at_call 67; (with_reducible refine hr.mono ?_); rintro e v1 ⟨rfl, v1h⟩; obtain ⟨v3, hv3⟩ : ∃ v3, v1.alloc (.cells #[.int .i64 q.li, .int .i64 q.ro, .int .i64 q.ta] 36) = v3 := ⟨_, rfl⟩; have j3 := (hjr.carry v1h).carry (al1' v1 (.cells #[.int .i64 q.li, .int .i64 q.ro, .int .i64 q.ta] 36)); rw [hv3] at j3; have hx3 : v3.heap[v1.heap.size]? = some (.cells #[.int .i64 q.li, .int .i64 q.ro, .int .i64 q.ta] 36 (0, 0)) := (by rw [← hv3]; exact new_at rfl)) | (refine wpList_load_row rfl 36 (.tmp 9) rfl v1.heap.size rfl 36 _ (0, 0) _ hx3 undR rfl infoR ?_) | (refine wpList_store_row rfl 36 (.tmp 5) (.tmp 38) rfl (W.heap.size + 1) #[.int .i64 q.li, .int .i64 q.ro, .int .i64 q.ta] rfl rfl 36 _ j3.2.1 infoR rfl (by simp [Value.oneCell']) ?_; obtain ⟨v, hv⟩ : ∃ v, v3.setRow (W.heap.size + 1) #[.int .i64 q.li, .int .i64 q.ro, .int .i64 q.ta] = v := ⟨_, rfl⟩; have hjv : JF W ⟨q, s, 0⟩ v := (by rw [← hv]; exact j3.put); rw [hv]))
        go_roundw
        case rel => exact ⟨1, ⟨q, s, 0⟩, rfl, rfl, rfl, .inr (.inl ⟨rfl, rfl⟩), hjv⟩
        case measure => simp [vnat]
    · clear HC
      have hr := hd1 _ hjr.2.2
      have cb := hcb _ hjr.2.2
      cases A with
      | none =>
        dsimp only [fdO, nwo] at hjr ⊢
        cases B with
        | none =>
          unfold decV r0A at hr
          go_wp2_with (go_at_call 67; (with_reducible refine hr.mono ?_); rintro e v1 ⟨rfl, v1h⟩)
          go_roundw
          case rel => exact ⟨2, ⟨rec0, 0, -1⟩, rfl, rfl, rfl, .inr (.inr ⟨rfl, HT.out.symm⟩), (hjr.carry v1h).carry (al1' _ _)⟩
          case measure => simp [vnat]
        | some x =>
          obtain ⟨q, s⟩ := x
          have hpos : 0 < s := hfB q s rfl
          unfold decV rV at hr
          go_wp2_with (first | (go_at_call 67; (with_reducible refine hr.mono ?_); rintro e v1 ⟨rfl, v1h⟩; obtain ⟨v3, hv3⟩ : ∃ v3, v1.alloc (.cells #[.int .i64 q.li, .int .i64 q.ro, .int .i64 q.ta] 36) = v3 := ⟨_, rfl⟩; have j3 := (hjr.carry v1h).carry (al1' v1 (.cells #[.int .i64 q.li, .int .i64 q.ro, .int .i64 q.ta] 36)); rw [hv3] at j3; have hx3 : v3.heap[v1.heap.size]? = some (.cells #[.int .i64 q.li, .int .i64 q.ro, .int .i64 q.ta] 36 (0, 0)) := (by rw [← hv3]; exact new_at rfl)) | (refine wpList_load_row rfl 36 (.tmp 9) rfl v1.heap.size rfl 36 _ (0, 0) _ hx3 undR rfl infoR ?_) | (refine wpList_store_row rfl 36 (.tmp 5) (.tmp 38) rfl (W.heap.size + 1) #[.int .i64 q.li, .int .i64 q.ro, .int .i64 q.ta] rfl rfl 36 _ j3.2.1 infoR rfl (by simp [Value.oneCell']) ?_; obtain ⟨v, hv⟩ : ∃ v, v3.setRow (W.heap.size + 1) #[.int .i64 q.li, .int .i64 q.ro, .int .i64 q.ta] = v := ⟨_, rfl⟩; have hjv : JF W ⟨q, s, 1⟩ v := (by rw [← hv]; exact j3.put); rw [hv]))
          go_roundw
          case rel => exact ⟨2, ⟨q, s, 1⟩, rfl, rfl, rfl, .inr (.inr ⟨rfl, HT.out.symm⟩), hjv⟩
          case measure => simp [vnat]
      | some y =>
        obtain ⟨q', s'⟩ := y
        dsimp only [fdO, nwo] at hjr ⊢
        cases B with
        | none =>
          unfold decV r0A at hr
          go_wp2_with (go_at_call 67; (with_reducible refine hr.mono ?_); rintro e v1 ⟨rfl, v1h⟩)
          go_roundw
          case rel => exact ⟨2, ⟨q', s', 0⟩, rfl, rfl, rfl, .inr (.inr ⟨rfl, HT.out.symm⟩), (hjr.carry v1h).carry (al1' _ _)⟩
          case measure => simp [vnat]
        | some x =>
          obtain ⟨q, s⟩ := x
          unfold decV rV at hr
          by_cases hpos : s' < s
          · have HT2 : Hid (T = ⟨q, s, 1⟩) := by show T = _; rw [HT.out]; show fdO (if s' < s then some ((q, s), 1) else some ((q', s'), 0)) = _; rw [if_pos hpos]; rfl
            clear HT
            go_wp2_with (first | (go_at_call 67; (with_reducible refine hr.mono ?_); rintro e v1 ⟨rfl, v1h⟩; obtain ⟨v3, hv3⟩ : ∃ v3, v1.alloc (.cells #[.int .i64 q.li, .int .i64 q.ro, .int .i64 q.ta] 36) = v3 := ⟨_, rfl⟩; have j3 := (hjr.carry v1h).carry (al1' v1 (.cells #[.int .i64 q.li, .int .i64 q.ro, .int .i64 q.ta] 36)); rw [hv3] at j3; have hx3 : v3.heap[v1.heap.size]? = some (.cells #[.int .i64 q.li, .int .i64 q.ro, .int .i64 q.ta] 36 (0, 0)) := (by rw [← hv3]; exact new_at rfl)) | (refine wpList_load_row rfl 36 (.tmp 9) rfl v1.heap.size rfl 36 _ (0, 0) _ hx3 undR rfl infoR ?_) | (refine wpList_store_row rfl 36 (.tmp 5) (.tmp 38) rfl (W.heap.size + 1) #[.int .i64 q.li, .int .i64 q.ro, .int .i64 q.ta] rfl rfl 36 _ j3.2.1 infoR rfl (by simp [Value.oneCell']) ?_; obtain ⟨v, hv⟩ : ∃ v, v3.setRow (W.heap.size + 1) #[.int .i64 q.li, .int .i64 q.ro, .int .i64 q.ta] = v := ⟨_, rfl⟩; have hjv : JF W ⟨q, s, 1⟩ v := (by rw [← hv]; exact j3.put); rw [hv]))
            go_roundw
            case rel => exact ⟨2, ⟨q, s, 1⟩, rfl, rfl, rfl, .inr (.inr ⟨rfl, HT2.out.symm⟩), hjv⟩
            case measure => simp [vnat]
          · have HT2 : Hid (T = ⟨q', s', 0⟩) := by show T = _; rw [HT.out]; show fdO (if s' < s then some ((q, s), 1) else some ((q', s'), 0)) = _; rw [if_neg hpos]; rfl
            clear HT
            go_wp2_with (first | (go_at_call 67; (with_reducible refine hr.mono ?_); rintro e v1 ⟨rfl, v1h⟩; obtain ⟨v3, hv3⟩ : ∃ v3, v1.alloc (.cells #[.int .i64 q.li, .int .i64 q.ro, .int .i64 q.ta] 36) = v3 := ⟨_, rfl⟩; have j3 := (hjr.carry v1h).carry (al1' v1 (.cells #[.int .i64 q.li, .int .i64 q.ro, .int .i64 q.ta] 36)); rw [hv3] at j3; have hx3 : v3.heap[v1.heap.size]? = some (.cells #[.int .i64 q.li, .int .i64 q.ro, .int .i64 q.ta] 36 (0, 0)) := (by rw [← hv3]; exact new_at rfl)))
            go_roundw
            case rel => exact ⟨2, ⟨q', s', 0⟩, rfl, rfl, rfl, .inr (.inr ⟨rfl, HT2.out.symm⟩), j3⟩
            case measure => simp [vnat]
    · clear HC
      go_wp2_with (first | (refine wpList_load_row rfl 36 (.tmp 5) rfl (W.heap.size + 1) rfl 36 _ (0, 0) _ hjr.2.1 undR rfl infoR ?_) | (refine wpList_store_row rfl 36 (.tmp 2) (.tmp 41) rfl W.heap.size #[.int .i64 t.r.li, .int .i64 t.r.ro, .int .i64 t.r.ta] rfl rfl 36 _ hjr.1 infoR rfl (by simp [Value.oneCell']) ?_; obtain ⟨v, hv⟩ : ∃ v, wr.setRow W.heap.size #[.int .i64 t.r.li, .int .i64 t.r.ro, .int .i64 t.r.ta] = v := ⟨_, rfl⟩; have HV : Hid (v.heap[W.heap.size]? = some (.cells #[.int .i64 t.r.li, .int .i64 t.r.ro, .int .i64 t.r.ta] 36 (0, 0))) := (by rw [← hv]; exact setRow_heap _ _ _ _ _ _ hjr.1); have HB : Hid (Below W.heap.size W v) := (by rw [← hv]; exact below_setRow hjr.2.2 (Nat.le_refl _) _); rw [hv]))
      (try simp only [Exit.inBlock, Exit.then])
      exact retC3 rfl rfl rfl rfl rfl HV.out undR infoR ⟨rfl, HB.out⟩
end
end Go.Proofs.Ytjleggnkacmbbaa
