/- The document's Of: what it answers. -/
import Derived.Test.YtklnfbanfgdgcaaGreatDoorJnJ38
import Derived.Test.YtklnfbanfgdgcaaGreatDoorJnJ11
import Derived.Test.YtklnfbanfgdgcaaGreatDoorJnJ24
import Derived.Test.YtklnfbanfgdgcaaGreatDoorJnJ23
set_option maxHeartbeats 40000000
set_option maxRecDepth 100000
set_option linter.unusedVariables false
namespace Go.Proofs.YtklnfbanfgdgcaaGreatDoor
open Go.RowKit Go.Shelf

theorem row_lt0 {W : World} {base g n c : Nat} {e : TypeId} {xs : List Value} (h : W.ownsRow base e 1 (.slice (some ⟨g, 0, none⟩) n c) n xs) : g < W.heap.size := by
  rcases h.2 with ⟨e1, _⟩ | ⟨g1, c1, cur, e1, _, h3, _⟩
  · cases e1
  · cases e1
    exact lt_at h3
end Go.Proofs.YtklnfbanfgdgcaaGreatDoor
namespace Go.Proofs.YtklnfbanfgdgcaaGreatDoor
open Go.RowKit Go.Shelf Go.Lib

theorem RfD.lt {W : World} {lb o base r c : Nat} {d : Dst} (h : RfD W lb o base r c d) : lb < W.heap.size ∧ r < W.heap.size := by
  obtain ⟨cur, h1⟩ := h.lk
  obtain ⟨_, cur2, h2⟩ := h.rb
  exact ⟨lt_at h1, lt_at h2⟩
theorem RfD.carry {W V : World} {lb o base r c : Nat} {d : Dst} (h : RfD W lb o base r c d) (hb : Below W.heap.size W V) : RfD V lb o base r c d := by
  have e := hb.block lb h.lt.1
  obtain ⟨cur, h1⟩ := h.lk
  exact ⟨(World.cell?_of_block (a := ⟨lb, _, none⟩) e).trans h.b, (World.cell?_of_block (a := ⟨lb, _, none⟩) e).trans h.f, (World.cell?_of_block (a := ⟨lb, _, none⟩) e).trans h.u, (World.cell?_of_block (a := ⟨lb, _, none⟩) e).trans h.n, row_belowZ h.row hb, ⟨cur, e.trans h1⟩, h.len, h.byt⟩
theorem RfD.slt {W : World} {lb o base r c : Nat} {d : Dst} (h : RfD W lb o base r c d) (q : Nat) : RdB W (some ⟨r, 64 * q, none⟩) (slt d.l q) := fun _ => ⟨r, 64 * q, rfl, h.lt.2, by have := h.at.sub (64 * q) 64; rw [Nat.zero_add] at this; exact this⟩
structure Fd where
  r : Rec
  s : Int
  k : Int
def fdO : Option ((Rec × Int) × Nat) → Fd
  | none => ⟨rec0, 0, -1⟩
  | some ((r, s), k) => ⟨r, s, (k : Int)⟩
def fdV (t : Fd) : Value := .tuple #[rV t.r, .int .i64 t.s, .int .i64 t.k]
/-- While the document looks for the newest. -/
def JF (W : World) (t : Fd) (V : World) : Prop := V.heap[W.heap.size]? = some (.cells #[.int .i64 0, .int .i64 0, .int .i64 0] 23 (0, 0)) ∧ V.heap[W.heap.size + 1]? = some (.cells #[.int .i64 t.r.li, .int .i64 t.r.ro, .int .i64 t.r.ta] 23 (0, 0)) ∧ Below W.heap.size W V
theorem JF.carry {w V V' : World} {t : Fd} (h : JF w t V) (hb : Below V.heap.size V V') : JF w t V' := ⟨(hb.block _ (lt_at h.1)).trans h.1, (hb.block _ (lt_at h.2.1)).trans h.2.1, bel2Z h.2.2 hb⟩
theorem JF.put {w V : World} {t t' : Fd} (h : JF w t V) : JF w t' (V.setRow (w.heap.size + 1) #[.int .i64 t'.r.li, .int .i64 t'.r.ro, .int .i64 t'.r.ta]) := ⟨(setRow_other _ _ _ _ (by omega)).trans h.1, setRow_heap _ _ _ _ _ _ h.2.1, below_setRow h.2.2 (by omega) _⟩
section
variable {W : World} {lb base r c : Nat} {d : Dst}
set_option maxHeartbeats 8000000 in
set_option maxRecDepth 100000 in
theorem found_any (h : RfD W lb 0 base r c d) : Calls Tryz.prog 186 #[.pointer (some ⟨lb, 0, none⟩)] W fun e w' => e = .returned (fdV (fdO (nw d.l))) ∧ Below W.heap.size W w' := by
  obtain ⟨T, hT⟩ : ∃ T, fdO (nw d.l) = T := ⟨_, rfl⟩
  rw [hT]
  obtain ⟨w1, hw1⟩ : ∃ w1, (W.alloc (.cells #[.int .i64 0, .int .i64 0, .int .i64 0] 23)).alloc (.cells #[.int .i64 0, .int .i64 0, .int .i64 0] 23) = w1 := ⟨_, rfl⟩
  have hj : JF W ⟨rec0, 0, -1⟩ w1 := by rw [← hw1]; exact ⟨old_at (new_at rfl), new_at (by simp), bel2Z (al1'Z _ _) (al1'Z _ _)⟩
  have hc := own_cap h.row
  have hc1 : (64 : Int) ≤ (c : Int) := by omega
  have hc2 : (128 : Int) ≤ (c : Int) := by omega
  have hd0 : ∀ V, Below W.heap.size W V → Calls Tryz.prog 233 #[.slice (some ⟨r, 0, none⟩) 64 c] V fun e w' => e = .returned (decV (say (slt d.l 0))) ∧ Below V.heap.size V w' := fun V hV => rdec_any _ _ _ V ((h.carry hV).slt 0) (slt_len h.len (by omega)) (slt_byt h.byt 0)
  have hd1 : ∀ V, Below W.heap.size W V → Calls Tryz.prog 233 #[.slice (some ⟨r, 64, none⟩) 64 (c - 64)] V fun e w' => e = .returned (decV (say (slt d.l 1))) ∧ Below V.heap.size V w' := fun V hV => rdec_any _ _ _ V ((h.carry hV).slt 1) (slt_len h.len (by omega)) (slt_byt h.byt 1)
  have hcb : ∀ V, Below W.heap.size W V → V.cell? ⟨lb, 0, none⟩ = some (.slice (some ⟨r, 0, none⟩) 256 c) := fun V hV => (h.carry hV).b
  obtain ⟨A, hA⟩ : ∃ A, say (slt d.l 0) = A := ⟨_, rfl⟩
  obtain ⟨B, hB⟩ : ∃ B, say (slt d.l 1) = B := ⟨_, rfl⟩
  have hfA : ∀ r s, A = some (r, s) → 0 < s := fun r s e => by
    obtain ⟨⟨_, q⟩, _⟩ := say_some (hA.trans e)
    omega
  have hfB : ∀ r s, B = some (r, s) → 0 < s := fun r s e => by
    obtain ⟨⟨_, q⟩, _⟩ := say_some (hB.trans e)
    omega
  have HT : Hid (T = fdO (nwo A B)) := by show T = _; rw [← hT, nw, hA, hB]
  rw [hA] at hd0
  rw [hB] at hd1
  clear hA hB hT hc
  go_enter Tryz.func186, Tryz.ntmps186
  go_wp2
  go_loopw [6, 7, 8] (fun a e i wz => ∃ (k : Nat) (t : Fd), i = .int .i64 k ∧ a = .int .i64 t.s ∧ e = .int .i64 t.k ∧ Hid ((k = 0 ∧ t = ⟨rec0, 0, -1⟩) ∨ (k = 1 ∧ t = fdO (nwo A none)) ∨ (k = 2 ∧ t = T)) ∧ JF W t wz) (fun _ _ i _ => 2 - vnatZ i)
  case atStart => exact ⟨0, ⟨rec0, 0, -1⟩, rfl, rfl, rfl, .inl ⟨rfl, rfl⟩, hj⟩
  case round =>
    obtain ⟨k, t, rfl, rfl, rfl, HC, hjr⟩ := hrel
    rcases HC.out with ⟨rfl, rfl⟩ | ⟨rfl, rfl⟩ | ⟨rfl, rfl⟩
    · clear HC
      have hr := hd0 _ hjr.2.2
      have cb := hcb _ hjr.2.2
      cases A with
      | none =>
        unfold decV r0A at hr
        go_wp2_with (go_at_call 233; (with_reducible refine hr.mono ?_); rintro e v1 ⟨rfl, v1h⟩)
        go_roundw
        case rel => exact ⟨1, ⟨rec0, 0, -1⟩, rfl, rfl, rfl, .inr (.inl ⟨rfl, rfl⟩), (hjr.carry v1h).carry (al1'Z _ _)⟩
        case measure => simp [vnatZ]
      | some x =>
        obtain ⟨q, s⟩ := x
        have hpos : 0 < s := hfA q s rfl
        unfold decV rV at hr
        go_wp2_with (first | (go_at_call 233; (with_reducible refine hr.mono ?_); rintro e v1 ⟨rfl, v1h⟩; obtain ⟨v3, hv3⟩ : ∃ v3, v1.alloc (.cells #[.int .i64 q.li, .int .i64 q.ro, .int .i64 q.ta] 23) = v3 := ⟨_, rfl⟩; have j3 := (hjr.carry v1h).carry (al1'Z v1 (.cells #[.int .i64 q.li, .int .i64 q.ro, .int .i64 q.ta] 23)); rw [hv3] at j3; have hx3 : v3.heap[v1.heap.size]? = some (.cells #[.int .i64 q.li, .int .i64 q.ro, .int .i64 q.ta] 23 (0, 0)) := (by rw [← hv3]; exact new_at rfl)) | (refine wpList_load_row rfl 23 (.tmp 9) rfl v1.heap.size rfl 23 _ (0, 0) _ hx3 undR rfl infoR ?_) | (refine wpList_store_row rfl 23 (.tmp 5) (.tmp 38) rfl (W.heap.size + 1) #[.int .i64 q.li, .int .i64 q.ro, .int .i64 q.ta] rfl rfl 23 _ j3.2.1 infoR rfl (by simp [Value.oneCell']) ?_; obtain ⟨v, hv⟩ : ∃ v, v3.setRow (W.heap.size + 1) #[.int .i64 q.li, .int .i64 q.ro, .int .i64 q.ta] = v := ⟨_, rfl⟩; have hjv : JF W ⟨q, s, 0⟩ v := (by rw [← hv]; exact j3.put); rw [hv]))
        go_roundw
        case rel => exact ⟨1, ⟨q, s, 0⟩, rfl, rfl, rfl, .inr (.inl ⟨rfl, rfl⟩), hjv⟩
        case measure => simp [vnatZ]
    · clear HC
      have hr := hd1 _ hjr.2.2
      have cb := hcb _ hjr.2.2
      cases A with
      | none =>
        dsimp only [fdO, nwo] at hjr ⊢
        cases B with
        | none =>
          unfold decV r0A at hr
          go_wp2_with (go_at_call 233; (with_reducible refine hr.mono ?_); rintro e v1 ⟨rfl, v1h⟩)
          go_roundw
          case rel => exact ⟨2, ⟨rec0, 0, -1⟩, rfl, rfl, rfl, .inr (.inr ⟨rfl, HT.out.symm⟩), (hjr.carry v1h).carry (al1'Z _ _)⟩
          case measure => simp [vnatZ]
        | some x =>
          obtain ⟨q, s⟩ := x
          have hpos : 0 < s := hfB q s rfl
          unfold decV rV at hr
          go_wp2_with (first | (go_at_call 233; (with_reducible refine hr.mono ?_); rintro e v1 ⟨rfl, v1h⟩; obtain ⟨v3, hv3⟩ : ∃ v3, v1.alloc (.cells #[.int .i64 q.li, .int .i64 q.ro, .int .i64 q.ta] 23) = v3 := ⟨_, rfl⟩; have j3 := (hjr.carry v1h).carry (al1'Z v1 (.cells #[.int .i64 q.li, .int .i64 q.ro, .int .i64 q.ta] 23)); rw [hv3] at j3; have hx3 : v3.heap[v1.heap.size]? = some (.cells #[.int .i64 q.li, .int .i64 q.ro, .int .i64 q.ta] 23 (0, 0)) := (by rw [← hv3]; exact new_at rfl)) | (refine wpList_load_row rfl 23 (.tmp 9) rfl v1.heap.size rfl 23 _ (0, 0) _ hx3 undR rfl infoR ?_) | (refine wpList_store_row rfl 23 (.tmp 5) (.tmp 38) rfl (W.heap.size + 1) #[.int .i64 q.li, .int .i64 q.ro, .int .i64 q.ta] rfl rfl 23 _ j3.2.1 infoR rfl (by simp [Value.oneCell']) ?_; obtain ⟨v, hv⟩ : ∃ v, v3.setRow (W.heap.size + 1) #[.int .i64 q.li, .int .i64 q.ro, .int .i64 q.ta] = v := ⟨_, rfl⟩; have hjv : JF W ⟨q, s, 1⟩ v := (by rw [← hv]; exact j3.put); rw [hv]))
          go_roundw
          case rel => exact ⟨2, ⟨q, s, 1⟩, rfl, rfl, rfl, .inr (.inr ⟨rfl, HT.out.symm⟩), hjv⟩
          case measure => simp [vnatZ]
      | some y =>
        obtain ⟨q', s'⟩ := y
        dsimp only [fdO, nwo] at hjr ⊢
        cases B with
        | none =>
          unfold decV r0A at hr
          go_wp2_with (go_at_call 233; (with_reducible refine hr.mono ?_); rintro e v1 ⟨rfl, v1h⟩)
          go_roundw
          case rel => exact ⟨2, ⟨q', s', 0⟩, rfl, rfl, rfl, .inr (.inr ⟨rfl, HT.out.symm⟩), (hjr.carry v1h).carry (al1'Z _ _)⟩
          case measure => simp [vnatZ]
        | some x =>
          obtain ⟨q, s⟩ := x
          unfold decV rV at hr
          by_cases hpos : s' < s
          · have HT2 : Hid (T = ⟨q, s, 1⟩) := by show T = _; rw [HT.out]; show fdO (if s' < s then some ((q, s), 1) else some ((q', s'), 0)) = _; rw [if_pos hpos]; rfl
            clear HT
            go_wp2_with (first | (go_at_call 233; (with_reducible refine hr.mono ?_); rintro e v1 ⟨rfl, v1h⟩; obtain ⟨v3, hv3⟩ : ∃ v3, v1.alloc (.cells #[.int .i64 q.li, .int .i64 q.ro, .int .i64 q.ta] 23) = v3 := ⟨_, rfl⟩; have j3 := (hjr.carry v1h).carry (al1'Z v1 (.cells #[.int .i64 q.li, .int .i64 q.ro, .int .i64 q.ta] 23)); rw [hv3] at j3; have hx3 : v3.heap[v1.heap.size]? = some (.cells #[.int .i64 q.li, .int .i64 q.ro, .int .i64 q.ta] 23 (0, 0)) := (by rw [← hv3]; exact new_at rfl)) | (refine wpList_load_row rfl 23 (.tmp 9) rfl v1.heap.size rfl 23 _ (0, 0) _ hx3 undR rfl infoR ?_) | (refine wpList_store_row rfl 23 (.tmp 5) (.tmp 38) rfl (W.heap.size + 1) #[.int .i64 q.li, .int .i64 q.ro, .int .i64 q.ta] rfl rfl 23 _ j3.2.1 infoR rfl (by simp [Value.oneCell']) ?_; obtain ⟨v, hv⟩ : ∃ v, v3.setRow (W.heap.size + 1) #[.int .i64 q.li, .int .i64 q.ro, .int .i64 q.ta] = v := ⟨_, rfl⟩; have hjv : JF W ⟨q, s, 1⟩ v := (by rw [← hv]; exact j3.put); rw [hv]))
            go_roundw
            case rel => exact ⟨2, ⟨q, s, 1⟩, rfl, rfl, rfl, .inr (.inr ⟨rfl, HT2.out.symm⟩), hjv⟩
            case measure => simp [vnatZ]
          · have HT2 : Hid (T = ⟨q', s', 0⟩) := by show T = _; rw [HT.out]; show fdO (if s' < s then some ((q, s), 1) else some ((q', s'), 0)) = _; rw [if_neg hpos]; rfl
            clear HT
            go_wp2_with (first | (go_at_call 233; (with_reducible refine hr.mono ?_); rintro e v1 ⟨rfl, v1h⟩; obtain ⟨v3, hv3⟩ : ∃ v3, v1.alloc (.cells #[.int .i64 q.li, .int .i64 q.ro, .int .i64 q.ta] 23) = v3 := ⟨_, rfl⟩; have j3 := (hjr.carry v1h).carry (al1'Z v1 (.cells #[.int .i64 q.li, .int .i64 q.ro, .int .i64 q.ta] 23)); rw [hv3] at j3; have hx3 : v3.heap[v1.heap.size]? = some (.cells #[.int .i64 q.li, .int .i64 q.ro, .int .i64 q.ta] 23 (0, 0)) := (by rw [← hv3]; exact new_at rfl)))
            go_roundw
            case rel => exact ⟨2, ⟨q', s', 0⟩, rfl, rfl, rfl, .inr (.inr ⟨rfl, HT2.out.symm⟩), j3⟩
            case measure => simp [vnatZ]
    · clear HC
      go_wp2_with (first | (refine wpList_load_row rfl 23 (.tmp 5) rfl (W.heap.size + 1) rfl 23 _ (0, 0) _ hjr.2.1 undR rfl infoR ?_) | (refine wpList_store_row rfl 23 (.tmp 2) (.tmp 41) rfl W.heap.size #[.int .i64 t.r.li, .int .i64 t.r.ro, .int .i64 t.r.ta] rfl rfl 23 _ hjr.1 infoR rfl (by simp [Value.oneCell']) ?_; obtain ⟨v, hv⟩ : ∃ v, wr.setRow W.heap.size #[.int .i64 t.r.li, .int .i64 t.r.ro, .int .i64 t.r.ta] = v := ⟨_, rfl⟩; have HV : Hid (v.heap[W.heap.size]? = some (.cells #[.int .i64 t.r.li, .int .i64 t.r.ro, .int .i64 t.r.ta] 23 (0, 0))) := (by rw [← hv]; exact setRow_heap _ _ _ _ _ _ hjr.1); have HB : Hid (Below W.heap.size W v) := (by rw [← hv]; exact below_setRow hjr.2.2 (Nat.le_refl _) _); rw [hv]))
      (try simp only [Exit.inBlock, Exit.then])
      exact retC3 rfl rfl rfl rfl rfl HV.out undR infoR ⟨rfl, HB.out⟩
end

section
variable {W : World} {lb base r c : Nat} {d : Dst}
set_option maxHeartbeats 8000000 in
set_option maxRecDepth 100000 in
theorem rLoad_any (h : RfD W lb 0 base r c d) : Calls Tryz.prog 120 #[.pointer (some ⟨lb, 0, none⟩)] W fun e w' => e = .returned (ldV (nwTZ d)) ∧ Below W.heap.size W w' := by
  obtain ⟨w1, hw1⟩ : ∃ w1, W.alloc (.cells #[.int .i64 0, .int .i64 0, .int .i64 0] 23) = w1 := ⟨_, rfl⟩
  have hb1 : Below W.heap.size W w1 := by rw [← hw1]; exact al1'Z _ _
  have hg1 : w1.heap[W.heap.size]? = some (.cells #[.int .i64 0, .int .i64 0, .int .i64 0] 23 (0, 0)) := by rw [← hw1]; exact new_at rfl
  have h1 := h.carry hb1
  have cf := h1.f
  rw [Nat.zero_add] at cf
  unfold nwTZ
  cases ho : d.off with
  | true =>
    rw [if_pos rfl]
    rw [ho] at cf
    go_enter Tryz.func120, Tryz.ntmps120
    go_wp2_with (refine wpList_store_row rfl 23 (.tmp 2) (.tmp 12) rfl W.heap.size #[.int .i64 0, .int .i64 0, .int .i64 0] rfl rfl 23 _ hg1 infoR rfl (by simp [Value.oneCell']) ?_; obtain ⟨v, hv⟩ : ∃ v, w1.setRow W.heap.size #[.int .i64 0, .int .i64 0, .int .i64 0] = v := ⟨_, rfl⟩; have HV : Hid (v.heap[W.heap.size]? = some (.cells #[.int .i64 0, .int .i64 0, .int .i64 0] 23 (0, 0))) := (by rw [← hv]; exact setRow_heap _ _ _ _ _ _ hg1); have HB : Hid (Below W.heap.size W v) := (by rw [← hv]; exact below_setRow hb1 (Nat.le_refl _) _); rw [hv])
    (try simp only [Exit.inBlock, Exit.then])
    exact retC3 rfl rfl rfl rfl rfl HV.out undR infoR ⟨rfl, HB.out⟩
  | false =>
  rw [if_neg (by decide)]
  rw [ho] at cf
  have hfo := found_any h1
  cases hn : nw d.l with
  | none =>
    rw [hn] at hfo
    unfold fdV fdO rV rec0 at hfo
    dsimp only at hfo
    go_enter Tryz.func120, Tryz.ntmps120
    go_wp2_with (first | (go_at_call 186; (with_reducible refine hfo.mono ?_); rintro e v1 ⟨rfl, hv1⟩; obtain ⟨v2, hv2⟩ : ∃ v2, v1.alloc (.cells #[.int .i64 0, .int .i64 0, .int .i64 0] 23) = v2 := ⟨_, rfl⟩; have hb2 : Below W.heap.size W v2 := (by rw [← hv2]; exact bel2Z (bel2Z hb1 hv1) (al1'Z _ _)); have hg2 : v2.heap[W.heap.size]? = some (.cells #[.int .i64 0, .int .i64 0, .int .i64 0] 23 (0, 0)) := (by rw [← hv2]; exact old_at ((hv1.block _ (lt_at hg1)).trans hg1)); have hx2 : v2.heap[v1.heap.size]? = some (.cells #[.int .i64 0, .int .i64 0, .int .i64 0] 23 (0, 0)) := (by rw [← hv2]; exact new_at rfl); have hn2 := Nat.lt_of_lt_of_le (lt_at hg1) hv1.size) | (refine wpList_store_row rfl 23 (.tmp 5) (.tmp 16) rfl v1.heap.size #[.int .i64 0, .int .i64 0, .int .i64 0] rfl rfl 23 _ hx2 infoR rfl (by simp [Value.oneCell']) ?_; obtain ⟨v3, hv3⟩ : ∃ v3, v2.setRow v1.heap.size #[.int .i64 0, .int .i64 0, .int .i64 0] = v3 := ⟨_, rfl⟩; have hb3 : Below W.heap.size W v3 := (by rw [← hv3]; exact below_setRow hb2 (by omega) _); have hg3 : v3.heap[W.heap.size]? = some (.cells #[.int .i64 0, .int .i64 0, .int .i64 0] 23 (0, 0)) := (by rw [← hv3]; exact (setRow_other _ _ _ _ (by omega)).trans hg2); rw [hv3]) | (refine wpList_store_row rfl 23 (.tmp 2) (.tmp 21) rfl W.heap.size #[.int .i64 0, .int .i64 0, .int .i64 0] rfl rfl 23 _ hg3 infoR rfl (by simp [Value.oneCell']) ?_; obtain ⟨v, hv⟩ : ∃ v, v3.setRow W.heap.size #[.int .i64 0, .int .i64 0, .int .i64 0] = v := ⟨_, rfl⟩; have HV : Hid (v.heap[W.heap.size]? = some (.cells #[.int .i64 0, .int .i64 0, .int .i64 0] 23 (0, 0))) := (by rw [← hv]; exact setRow_heap _ _ _ _ _ _ hg3); have HB : Hid (Below W.heap.size W v) := (by rw [← hv]; exact below_setRow hb3 (Nat.le_refl _) _); rw [hv]))
    (try simp only [Exit.inBlock, Exit.then])
    exact retC3 rfl rfl rfl rfl rfl HV.out undR infoR ⟨rfl, HB.out⟩
  | some y =>
    obtain ⟨⟨x, s⟩, k⟩ := y
    rw [hn] at hfo
    unfold fdV fdO rV at hfo
    dsimp only at hfo
    have hki : ¬ (k : Int) < 0 := by omega
    go_enter Tryz.func120, Tryz.ntmps120
    go_wp2_with (first | (go_at_call 186; (with_reducible refine hfo.mono ?_); rintro e v1 ⟨rfl, hv1⟩; obtain ⟨v3, hv3⟩ : ∃ v3, v1.alloc (.cells #[.int .i64 x.li, .int .i64 x.ro, .int .i64 x.ta] 23) = v3 := ⟨_, rfl⟩; have hb3 : Below W.heap.size W v3 := (by rw [← hv3]; exact bel2Z (bel2Z hb1 hv1) (al1'Z _ _)); have hg3 : v3.heap[W.heap.size]? = some (.cells #[.int .i64 0, .int .i64 0, .int .i64 0] 23 (0, 0)) := (by rw [← hv3]; exact old_at ((hv1.block _ (lt_at hg1)).trans hg1)); have hx3 : v3.heap[v1.heap.size]? = some (.cells #[.int .i64 x.li, .int .i64 x.ro, .int .i64 x.ta] 23 (0, 0)) := (by rw [← hv3]; exact new_at rfl)) | (refine wpList_load_row rfl 23 (.tmp 5) rfl v1.heap.size rfl 23 _ (0, 0) _ hx3 undR rfl infoR ?_) | (refine wpList_store_row rfl 23 (.tmp 2) (.tmp 22) rfl W.heap.size #[.int .i64 x.li, .int .i64 x.ro, .int .i64 x.ta] rfl rfl 23 _ hg3 infoR rfl (by simp [Value.oneCell']) ?_; obtain ⟨v, hv⟩ : ∃ v, v3.setRow W.heap.size #[.int .i64 x.li, .int .i64 x.ro, .int .i64 x.ta] = v := ⟨_, rfl⟩; have HV : Hid (v.heap[W.heap.size]? = some (.cells #[.int .i64 x.li, .int .i64 x.ro, .int .i64 x.ta] 23 (0, 0))) := (by rw [← hv]; exact setRow_heap _ _ _ _ _ _ hg3); have HB : Hid (Below W.heap.size W v) := (by rw [← hv]; exact below_setRow hb3 (Nat.le_refl _) _); rw [hv]))
    (try simp only [Exit.inBlock, Exit.then])
    exact retC3 rfl rfl rfl rfl rfl HV.out undR infoR ⟨rfl, HB.out⟩
theorem nw_k {l : List Nat} {x : Rec} {s : Int} {k : Nat} (h : nw l = some ((x, s), k)) : k = 0 ∨ k = 1 := by
  obtain ⟨_, h1, _⟩ := nw_fit h
  omega
theorem dW2_first {d : Dst} {q : Nat} {S : List Nat} {e1 : Int} {d1 : Dst} (h : dWr d (2 * q : Nat) (S.take 32) = (e1, d1)) : dW2 d q S = if e1 = 0 then dWr d1 (2 * q + 1 : Nat) (S.drop 32) else (e1, d1) := by
  unfold dW2
  rw [h]
theorem sl_lo (g : Nat) (w : World) : (Instr.sliceAt 30 (.slice (some ⟨g, 0, none⟩) 64 64) none (some (.int .i64 32)) none).run Tryz.prog w = .ok (.slice (some ⟨g, 0, none⟩) 32 64) w := by go_simp
theorem sl_hi (g : Nat) (w : World) : (Instr.sliceAt 30 (.slice (some ⟨g, 0, none⟩) 64 64) (some (.int .i64 32)) none none).run Tryz.prog w = .ok (.slice (some ⟨g, 32, none⟩) 32 32) w := by go_simp
set_option maxHeartbeats 8000000 in
set_option maxRecDepth 100000 in
theorem rSave_any (h : RfD W lb 0 base r c d) (x : Rec) (hf : Fz d) (hw0 : 0 ≤ d.writes) (hw : d.writes ≤ 4611686018427387903) : Calls Tryz.prog 122 #[.pointer (some ⟨lb, 0, none⟩), rV x] W fun e w' => e = .returned (.int .i64 (dSv d x).1) ∧ RfD w' lb 0 base r c (dSv d x).2 ∧ Tf lb 0 r W w' := by
  have hmy := rMay_any x
  unfold rV at hmy ⊢
  obtain ⟨w1, hw1⟩ : ∃ w1, W.alloc (.cells #[.int .i64 x.li, .int .i64 x.ro, .int .i64 x.ta] 23) = w1 := ⟨_, rfl⟩
  have hb1 : Below W.heap.size W w1 := by rw [← hw1]; exact al1'Z _ _
  have hg1 : w1.heap[W.heap.size]? = some (.cells #[.int .i64 x.li, .int .i64 x.ro, .int .i64 x.ta] 23 (0, 0)) := by rw [← hw1]; exact new_at rfl
  unfold dSv
  by_cases hm : May x
  case neg =>
    rw [if_pos hm]
    rw [decide_eq_false hm] at hmy
    go_enter Tryz.func122, Tryz.ntmps122
    go_wp2_with (first | (refine wpList_load_row rfl 23 (.tmp 3) rfl W.heap.size rfl 23 _ (0, 0) _ hg1 undR rfl infoR ?_) | (go_at_call 20; (with_reducible refine (hmy _).mono ?_); rintro e v1 ⟨rfl, hv1⟩; have hbu := bel2Z hb1 hv1))
    go_ret
    exact ⟨rfl, h.carry hbu, Tf.of _ _ _ hbu⟩
  rw [if_neg (fun q => q hm)]
  rw [decide_eq_true hm] at hmy
  have hoffs : ∀ V, Below W.heap.size W V → V.cell? ⟨lb, 1, none⟩ = some (.bool d.off) := fun V hV => by
    have := (h.carry hV).f
    rw [Nat.zero_add] at this
    exact this
  cases ho : d.off with
  | true =>
    rw [if_pos rfl]
    rw [ho] at hoffs
    go_enter Tryz.func122, Tryz.ntmps122
    go_wp2_with (first | (refine wpList_load_row rfl 23 (.tmp 3) rfl W.heap.size rfl 23 _ (0, 0) _ hg1 undR rfl infoR ?_) | (go_at_call 20; (with_reducible refine (hmy _).mono ?_); rintro e v1 ⟨rfl, hv1⟩; have hbu := bel2Z hb1 hv1; have cf := hoffs _ hbu))
    go_ret
    exact ⟨rfl, h.carry hbu, Tf.of _ _ _ hbu⟩
  | false =>
  rw [if_neg (by decide)]
  rw [ho] at hoffs
  have hfo := fun V (hV : Below W.heap.size W V) => found_any (h.carry hV)
  have hts := nwT_s d
  have hnt : nwTZ d = ntO (nw d.l) := by rw [nwTZ, if_neg (by rw [ho]; decide)]
  rw [hnt] at hts ⊢
  have key : ∀ (q : Nat) (t : Fd) (hq : q < 2), fdO (nw d.l) = t → (ntO (nw d.l)).s = t.s → ¬ t.s = 1099511627776 → ((t.k = 0 ∧ q = 1) ∨ (¬ t.k = 0 ∧ q = 0)) →
      Calls Tryz.prog 122 #[.pointer (some ⟨lb, 0, none⟩), .agg #[.int .i64 x.li, .int .i64 x.ro, .int .i64 x.ta]] W fun e w' => e = .returned (.int .i64 (dW2 d q (slB x (t.s + 1))).1) ∧ RfD w' lb 0 base r c (dW2 d q (slB x (t.s + 1))).2 ∧ Tf lb 0 r W w' := by
    intro q t hq ht hsx hse hkq
    rw [ht] at hfo
    rw [hsx] at hts
    obtain ⟨y, s, k⟩ := t
    dsimp only at hts hse hkq ⊢
    unfold fdV rV at hfo
    dsimp only at hfo
    have hfit : Fit x (s + 1) := ⟨hm, by omega, by omega⟩
    have hen := rEnc_any x (s + 1)
    unfold rV at hen
    have hlo : -9223372036854775808 ≤ s + 1 := by omega
    have hhi : s + 1 ≤ 9223372036854775807 := by omega
    have hSl := slB_len x (s + 1)
    have hSb := slB_byt x (s + 1)
    obtain ⟨S, hS⟩ : ∃ S, slB x (s + 1) = S := ⟨_, rfl⟩
    rw [hS] at hSl hSb hen ⊢
    obtain ⟨A, hA⟩ : ∃ A, S.take 32 = A := ⟨_, rfl⟩
    obtain ⟨B, hBB⟩ : ∃ B, S.drop 32 = B := ⟨_, rfl⟩
    have hAl : A.length = 32 := by rw [← hA, List.length_take]; omega
    have hBl : B.length = 32 := by rw [← hBB, List.length_drop]; omega
    have hAb : Byt A := by rw [← hA]; exact hSb.take 32
    have hBb : Byt B := by rw [← hBB]; exact hSb.drop 32
    have hAt : ∀ (V : World) (g : Nat), V.heap[g]? = some (.cells (cB S).toArray 5 (0, 0)) → BAt V g 0 A ∧ BAt V g 32 B := fun V g hV => by
      have hat : BAt V g 0 S := fun k x hk => by
        rw [Nat.zero_add, cell_at hV, List.getElem?_toArray]
        exact cB_get hk
      have h1 := hat.sub 0 32
      have h2 := hat.sub 32 32
      rw [List.drop_zero, hA] at h1
      rw [hBB, List.take_of_length_le (by omega)] at h2
      exact ⟨h1, h2⟩
    obtain ⟨e1, he1⟩ : ∃ e1, (dWr d (2 * q : Nat) A).1 = e1 := ⟨_, rfl⟩
    obtain ⟨d1, hd1⟩ : ∃ d1, (dWr d (2 * q : Nat) A).2 = d1 := ⟨_, rfl⟩
    have hf1 : Fz d1 := by rw [← hd1]; exact dWr_fz hf _ _
    have hw1' := dWr_wr (d := d) (2 * q : Nat) A
    rw [hd1] at hw1'
    have HX : Hid (dW2 d q S = if e1 = 0 then dWr d1 (2 * q + 1 : Nat) B else (e1, d1)) := by
      show dW2 d q S = _
      rw [← hBB]
      exact dW2_first (by rw [hA, ← he1, ← hd1])
    have hlbr := h.lt
    have hwA : ∀ (V : World) (g : Nat), RfD V lb 0 base r c d → W.heap.size ≤ g → V.heap[g]? = some (.cells (cB S).toArray 5 (0, 0)) → ∀ z : Int, z = (2 * q : Nat) → Calls Tryz.prog 187 #[.pointer (some ⟨lb, 0, none⟩), .int .i64 z, .slice (some ⟨g, 0, none⟩) 32 64] V fun e w' => e = .returned (.int .i64 e1) ∧ RfD w' lb 0 base r c d1 ∧ Tf lb 0 r V w' := fun V g hR hg hV z hz => by
      have := rwrite_any hR z (some ⟨g, 0, none⟩) 64 A (fun _ => ⟨g, 0, rfl, lt_at hV, by omega, by omega, (hAt V g hV).1⟩) hAb hf hw0 (by omega)
      rw [hAl, hz, he1, hd1] at this
      rw [hz]
      exact this
    have hwB : ∀ (V : World) (g : Nat), RfD V lb 0 base r c d1 → W.heap.size ≤ g → V.heap[g]? = some (.cells (cB S).toArray 5 (0, 0)) → ∀ z : Int, z = (2 * q + 1 : Nat) → Calls Tryz.prog 187 #[.pointer (some ⟨lb, 0, none⟩), .int .i64 z, .slice (some ⟨g, 32, none⟩) 32 32] V fun e w' => e = .returned (.int .i64 (dWr d1 (2 * q + 1 : Nat) B).1) ∧ RfD w' lb 0 base r c (dWr d1 (2 * q + 1 : Nat) B).2 ∧ Tf lb 0 r V w' := fun V g hR hg hV z hz => by
      have := rwrite_any hR z (some ⟨g, 32, none⟩) 32 B (fun _ => ⟨g, 32, rfl, lt_at hV, by omega, by omega, (hAt V g hV).2⟩) hBb hf1 (by omega) (by omega)
      rw [hBl] at this
      rw [hz] at this ⊢
      exact this
    obtain ⟨e2, he2⟩ : ∃ e2, (dWr d1 (2 * q + 1 : Nat) B).1 = e2 := ⟨_, rfl⟩
    obtain ⟨d2, hd2⟩ : ∃ d2, (dWr d1 (2 * q + 1 : Nat) B).2 = d2 := ⟨_, rfl⟩
    rw [he2, hd2] at hwB
    have HX2 : Hid ((e1 = 0 → dW2 d q S = (e2, d2)) ∧ (¬ e1 = 0 → dW2 d q S = (e1, d1))) := by
      refine ⟨fun z => ?_, fun z => ?_⟩
      · rw [HX.out, if_pos z, ← he2, ← hd2]
      · rw [HX.out, if_neg z]
    have hsl := sl_lo
    have hsh := sl_hi
    clear HX he1 hd1 he2 hd2 hw1' hf1 hAt hS hA hBB hts ht hsx hnt
    rcases hkq with ⟨hk, rfl⟩ | ⟨hk, rfl⟩
    · subst hk
      by_cases z : e1 = 0
      · subst z
        go_enter Tryz.func122, Tryz.ntmps122
        go_wp2_with (first | (refine wpList_load_row rfl 23 (.tmp 3) rfl W.heap.size rfl 23 _ (0, 0) _ hg5 undR rfl infoR ?_) | (refine wpList_load_row rfl 23 (.tmp 3) rfl W.heap.size rfl 23 _ (0, 0) _ hg1 undR rfl infoR ?_) | (go_at_call 20; (with_reducible refine (hmy _).mono ?_); rintro e v1 ⟨rfl, hv1⟩; have hbu := bel2Z hb1 hv1; have cf := hoffs _ hbu) | (go_at_call 186; (with_reducible refine (hfo _ hbu).mono ?_); rintro e v2 ⟨rfl, hv2⟩; obtain ⟨v3, hv3⟩ : ∃ v3, v2.alloc (.cells #[.int .i64 y.li, .int .i64 y.ro, .int .i64 y.ta] 23) = v3 := ⟨_, rfl⟩; have hbf : Below W.heap.size W v3 := (by rw [← hv3]; exact bel2Z (bel2Z hbu hv2) (al1'Z _ _)); have hg5 : v3.heap[W.heap.size]? = some (.cells #[.int .i64 x.li, .int .i64 x.ro, .int .i64 x.ta] 23 (0, 0)) := (by rw [← hv3]; exact old_at ((hv2.block _ (lt_at ((hv1.block _ (lt_at hg1)).trans hg1))).trans ((hv1.block _ (lt_at hg1)).trans hg1))); have hen3 := hen v3) | (go_at_call 7; (with_reducible refine hen3.mono ?_); rintro e v4 ⟨hyes, -, hv4⟩; obtain ⟨g, rfl, hgg, hI4⟩ := hyes hfit; have hgW : W.heap.size ≤ g := Nat.le_trans hbf.size hgg; have hb4 := bel2Z hbf hv4; have hwa := hwA v4 g (h.carry hb4) hgW hI4 2 rfl) | (go_at_call 187; (with_reducible refine hwa.mono ?_); rintro e v5 ⟨rfl, hR5, ht5⟩; clear hwa; have hT5 := (Tf.of lb 0 r hb4).trans ht5; have hI5 := (ht5.block g (lt_at hI4) (by omega) (by omega)).trans hI4; have hwb := hwB v5 g hR5 hgW hI5 3 rfl) | (go_at_call 187; (with_reducible refine hwb.mono ?_); rintro e v6 ⟨rfl, hR6, ht6⟩; have hT6 := hT5.trans ht6))
        go_ret
        rw [HX2.out.1 (by trivial)]
        exact ⟨rfl, hR6, hT6⟩
      · go_enter Tryz.func122, Tryz.ntmps122
        go_wp2_with (first | (refine wpList_load_row rfl 23 (.tmp 3) rfl W.heap.size rfl 23 _ (0, 0) _ hg5 undR rfl infoR ?_) | (refine wpList_load_row rfl 23 (.tmp 3) rfl W.heap.size rfl 23 _ (0, 0) _ hg1 undR rfl infoR ?_) | (go_at_call 20; (with_reducible refine (hmy _).mono ?_); rintro e v1 ⟨rfl, hv1⟩; have hbu := bel2Z hb1 hv1; have cf := hoffs _ hbu) | (go_at_call 186; (with_reducible refine (hfo _ hbu).mono ?_); rintro e v2 ⟨rfl, hv2⟩; obtain ⟨v3, hv3⟩ : ∃ v3, v2.alloc (.cells #[.int .i64 y.li, .int .i64 y.ro, .int .i64 y.ta] 23) = v3 := ⟨_, rfl⟩; have hbf : Below W.heap.size W v3 := (by rw [← hv3]; exact bel2Z (bel2Z hbu hv2) (al1'Z _ _)); have hg5 : v3.heap[W.heap.size]? = some (.cells #[.int .i64 x.li, .int .i64 x.ro, .int .i64 x.ta] 23 (0, 0)) := (by rw [← hv3]; exact old_at ((hv2.block _ (lt_at ((hv1.block _ (lt_at hg1)).trans hg1))).trans ((hv1.block _ (lt_at hg1)).trans hg1))); have hen3 := hen v3) | (go_at_call 7; (with_reducible refine hen3.mono ?_); rintro e v4 ⟨hyes, -, hv4⟩; obtain ⟨g, rfl, hgg, hI4⟩ := hyes hfit; have hgW : W.heap.size ≤ g := Nat.le_trans hbf.size hgg; have hb4 := bel2Z hbf hv4; have hwa := hwA v4 g (h.carry hb4) hgW hI4 2 rfl) | (go_at_call 187; (with_reducible refine hwa.mono ?_); rintro e v5 ⟨rfl, hR5, ht5⟩; clear hwa; have hT5 := (Tf.of lb 0 r hb4).trans ht5; have hI5 := (ht5.block g (lt_at hI4) (by omega) (by omega)).trans hI4; have hwb := hwB v5 g hR5 hgW hI5 3 rfl))
        go_ret
        rw [HX2.out.2 z]
        exact ⟨rfl, hR5, hT5⟩
    · by_cases z : e1 = 0
      · subst z
        go_enter Tryz.func122, Tryz.ntmps122
        go_wp2_with (first | (refine wpList_load_row rfl 23 (.tmp 3) rfl W.heap.size rfl 23 _ (0, 0) _ hg5 undR rfl infoR ?_) | (refine wpList_load_row rfl 23 (.tmp 3) rfl W.heap.size rfl 23 _ (0, 0) _ hg1 undR rfl infoR ?_) | (go_at_call 20; (with_reducible refine (hmy _).mono ?_); rintro e v1 ⟨rfl, hv1⟩; have hbu := bel2Z hb1 hv1; have cf := hoffs _ hbu) | (go_at_call 186; (with_reducible refine (hfo _ hbu).mono ?_); rintro e v2 ⟨rfl, hv2⟩; obtain ⟨v3, hv3⟩ : ∃ v3, v2.alloc (.cells #[.int .i64 y.li, .int .i64 y.ro, .int .i64 y.ta] 23) = v3 := ⟨_, rfl⟩; have hbf : Below W.heap.size W v3 := (by rw [← hv3]; exact bel2Z (bel2Z hbu hv2) (al1'Z _ _)); have hg5 : v3.heap[W.heap.size]? = some (.cells #[.int .i64 x.li, .int .i64 x.ro, .int .i64 x.ta] 23 (0, 0)) := (by rw [← hv3]; exact old_at ((hv2.block _ (lt_at ((hv1.block _ (lt_at hg1)).trans hg1))).trans ((hv1.block _ (lt_at hg1)).trans hg1))); have hen3 := hen v3) | (go_at_call 7; (with_reducible refine hen3.mono ?_); rintro e v4 ⟨hyes, -, hv4⟩; obtain ⟨g, rfl, hgg, hI4⟩ := hyes hfit; have hgW : W.heap.size ≤ g := Nat.le_trans hbf.size hgg; have hb4 := bel2Z hbf hv4; have hwa := hwA v4 g (h.carry hb4) hgW hI4 0 rfl) | (go_at_call 187; (with_reducible refine hwa.mono ?_); rintro e v5 ⟨rfl, hR5, ht5⟩; clear hwa; have hT5 := (Tf.of lb 0 r hb4).trans ht5; have hI5 := (ht5.block g (lt_at hI4) (by omega) (by omega)).trans hI4; have hwb := hwB v5 g hR5 hgW hI5 1 rfl) | (go_at_call 187; (with_reducible refine hwb.mono ?_); rintro e v6 ⟨rfl, hR6, ht6⟩; have hT6 := hT5.trans ht6))
        go_ret
        rw [HX2.out.1 (by trivial)]
        exact ⟨rfl, hR6, hT6⟩
      · go_enter Tryz.func122, Tryz.ntmps122
        go_wp2_with (first | (refine wpList_load_row rfl 23 (.tmp 3) rfl W.heap.size rfl 23 _ (0, 0) _ hg5 undR rfl infoR ?_) | (refine wpList_load_row rfl 23 (.tmp 3) rfl W.heap.size rfl 23 _ (0, 0) _ hg1 undR rfl infoR ?_) | (go_at_call 20; (with_reducible refine (hmy _).mono ?_); rintro e v1 ⟨rfl, hv1⟩; have hbu := bel2Z hb1 hv1; have cf := hoffs _ hbu) | (go_at_call 186; (with_reducible refine (hfo _ hbu).mono ?_); rintro e v2 ⟨rfl, hv2⟩; obtain ⟨v3, hv3⟩ : ∃ v3, v2.alloc (.cells #[.int .i64 y.li, .int .i64 y.ro, .int .i64 y.ta] 23) = v3 := ⟨_, rfl⟩; have hbf : Below W.heap.size W v3 := (by rw [← hv3]; exact bel2Z (bel2Z hbu hv2) (al1'Z _ _)); have hg5 : v3.heap[W.heap.size]? = some (.cells #[.int .i64 x.li, .int .i64 x.ro, .int .i64 x.ta] 23 (0, 0)) := (by rw [← hv3]; exact old_at ((hv2.block _ (lt_at ((hv1.block _ (lt_at hg1)).trans hg1))).trans ((hv1.block _ (lt_at hg1)).trans hg1))); have hen3 := hen v3) | (go_at_call 7; (with_reducible refine hen3.mono ?_); rintro e v4 ⟨hyes, -, hv4⟩; obtain ⟨g, rfl, hgg, hI4⟩ := hyes hfit; have hgW : W.heap.size ≤ g := Nat.le_trans hbf.size hgg; have hb4 := bel2Z hbf hv4; have hwa := hwA v4 g (h.carry hb4) hgW hI4 0 rfl) | (go_at_call 187; (with_reducible refine hwa.mono ?_); rintro e v5 ⟨rfl, hR5, ht5⟩; clear hwa; have hT5 := (Tf.of lb 0 r hb4).trans ht5; have hI5 := (ht5.block g (lt_at hI4) (by omega) (by omega)).trans hI4; have hwb := hwB v5 g hR5 hgW hI5 1 rfl))
        go_ret
        rw [HX2.out.2 z]
        exact ⟨rfl, hR5, hT5⟩
  cases hn : nw d.l with
  | none =>
    rw [hn] at key
    rw [if_neg (by decide), if_neg (by decide)]
    exact key 0 ⟨rec0, 0, -1⟩ (by omega) rfl rfl (by decide) (.inr ⟨by decide, rfl⟩)
  | some y =>
    obtain ⟨⟨x', s⟩, k⟩ := y
    have hk := nw_k hn
    rw [hn] at key hfo
    by_cases hse : s = 1099511627776
    · subst hse
      rw [if_pos (show (ntO (some ((x', 1099511627776), k))).s = 1099511627776 from rfl)]
      unfold fdV fdO rV at hfo
      dsimp only at hfo
      go_enter Tryz.func122, Tryz.ntmps122
      go_wp2_with (first | (refine wpList_load_row rfl 23 (.tmp 3) rfl W.heap.size rfl 23 _ (0, 0) _ hg1 undR rfl infoR ?_) | (go_at_call 20; (with_reducible refine (hmy _).mono ?_); rintro e v1 ⟨rfl, hv1⟩; have hbu := bel2Z hb1 hv1; have cf := hoffs _ hbu) | (go_at_call 186; (with_reducible refine (hfo _ hbu).mono ?_); rintro e v2 ⟨rfl, hv2⟩; have hbf := bel2Z (bel2Z hbu hv2) (al1'Z v2 (.cells #[.int .i64 x'.li, .int .i64 x'.ro, .int .i64 x'.ta] 23))))
      go_ret
      exact ⟨rfl, h.carry hbf, Tf.of _ _ _ hbf⟩
    · rw [if_neg (show ¬ (ntO (some ((x', s), k))).s = 1099511627776 from hse), if_pos (show (ntO (some ((x', s), k))).e = 0 from rfl)]
      rcases hk with rfl | rfl
      · exact key 1 ⟨x', s, 0⟩ (by omega) rfl rfl hse (.inl ⟨rfl, rfl⟩)
      · exact key 0 ⟨x', s, 1⟩ (by omega) rfl rfl hse (.inr ⟨by show ¬ (1 : Int) = 0; decide, rfl⟩)
end

section
variable {x y z base : Nat} {W W' W'' : World}
end
theorem RfD.same {W V : World} {lb o base r c : Nat} {d : Dst} (h : RfD W lb o base r c d) (e : V.heap[lb]? = W.heap[lb]?) (e2 : V.heap[r]? = W.heap[r]?) : RfD V lb o base r c d := by
  obtain ⟨cur, h1⟩ := h.lk
  refine ⟨(World.cell?_of_block (a := ⟨lb, _, none⟩) e).trans h.b, (World.cell?_of_block (a := ⟨lb, _, none⟩) e).trans h.f, (World.cell?_of_block (a := ⟨lb, _, none⟩) e).trans h.u, (World.cell?_of_block (a := ⟨lb, _, none⟩) e).trans h.n, ?_, ⟨cur, e.trans h1⟩, h.len, h.byt⟩
  refine ⟨h.row.1, ?_⟩
  rcases h.row.2 with ⟨q, _⟩ | ⟨g1, c1, cur1, q, h2, h3, h4⟩
  · cases q
  · cases q
    exact .inr ⟨r, c, cur1, rfl, h2, e2.trans h3, h4⟩
section
variable {W V : World} {g q p lb base r c : Nat} {b : Bo} {d : Dst}
theorem field_rbZF (W : World) (B o : Nat) : (Instr.fieldAt 45 (.pointer (some ⟨B, o, none⟩)) 0).run Tryz.prog W = .ok (.pointer (some ⟨B, o, none⟩)) W ∧ (Instr.fieldAt 45 (.pointer (some ⟨B, o, none⟩)) 1).run Tryz.prog W = .ok (.pointer (some ⟨B, o + 3, none⟩)) W ∧ (Instr.fieldAt 45 (.pointer (some ⟨B, o, none⟩)) 2).run Tryz.prog W = .ok (.pointer (some ⟨B, o + 4, none⟩)) W ∧ (Instr.fieldAt 45 (.pointer (some ⟨B, o, none⟩)) 3).run Tryz.prog W = .ok (.pointer (some ⟨B, o + 5, none⟩)) W := by
  refine ⟨?_, ?_, ?_, ?_⟩ <;> go_simp
set_option maxHeartbeats 1000000 in
theorem least_anyF (a b : Int) (W : World) : Calls Tryz.prog 121 #[.int .i64 a, .int .i64 b] W fun e w' => e = .returned (.int .i64 (if b < a then b else a)) ∧ w' = W := by
  by_cases h : a < b
  · rw [if_neg (by omega)]
    go_enter Tryz.func121, Tryz.ntmps121
    go_wp2
    go_ret
    exact ⟨rfl, rfl⟩
  · have e : (if b < a then b else a) = b := by split <;> omega
    rw [e]
    go_enter Tryz.func121, Tryz.ntmps121
    go_wp2
    go_ret
    exact ⟨rfl, rfl⟩
end
end Go.Proofs.YtklnfbanfgdgcaaGreatDoor
