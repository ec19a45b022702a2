/- slot's newest: what it answers. -/
import Derived.Test.YtjleggnkacmbbaaLtg
namespace Go.Proofs.Ytjleggnkacmbbaa
open Go.RowKit Go.Shelf Go.Lib

/-- The newest record of a disk's bytes, its seq, its slot. -/
def nwo (a b : Option (Rec × Int)) : Option ((Rec × Int) × Nat) := match a, b with
  | none, none => none
  | some x, none => some (x, 0)
  | none, some y => some (y, 1)
  | some x, some y => if x.2 < y.2 then some (y, 1) else some (x, 0)
def nw (l : List Nat) : Option ((Rec × Int) × Nat) := nwo (say (slt l 0)) (say (slt l 1))
structure Nt where
  r : Rec
  s : Int
  a : Int
  e : Int
def rec0 : Rec := ⟨0, 0, 0⟩
def ntO : Option ((Rec × Int) × Nat) → Nt
  | none => ⟨rec0, 0, 0, 40⟩
  | some ((r, s), k) => ⟨r, s, (k : Int), 0⟩
/-- What newest tells. -/
def nwT (d : Dst) : Nt := if d.off = true then ⟨rec0, 0, 0, 100⟩ else ntO (nw d.l)
def ntV (t : Nt) : Value := .tuple #[eV t.r t.s, .int .i64 t.a, .int .i64 t.e]
/-- While the newest is looked for. -/
def JN (W : World) (t : Nt) (V : World) : Prop := V.heap[W.heap.size]? = some (.cells (eA t.r t.s) 84 (0, 0)) ∧ Below W.heap.size W V
theorem JN.carry {w V V' : World} {t : Nt} (h : JN w t V) (hb : Below V.heap.size V V') : JN w t V' := ⟨(hb.block _ (lt_at h.1)).trans h.1, bel2 h.2 hb⟩
theorem JN.put {w V : World} {t t' : Nt} (h : JN w t V) : JN w t' (V.setRow w.heap.size (eA t'.r t'.s)) := ⟨setRow_heap _ _ _ _ _ _ h.1, below_setRow h.2 (Nat.le_refl _) _⟩
theorem JN.c3 {w V : World} {t : Nt} (h : JN w t V) : V.cell? ⟨w.heap.size, 3, none⟩ = some (.int .i64 t.s) := by rw [cell_at h.1]; rfl
theorem eA_one (r : Rec) (s : Int) : (eA r s).all (·.oneCell') = true := by simp [eA, Value.oneCell']
def vfst3 (v : Value) : Nat := vnat v
section
variable {W : World} {p : Nat} {d : Dst}
set_option maxHeartbeats 4000000 in
set_option maxRecDepth 100000 in
theorem newest_off (h : Dk W p d) (ho : d.off = true) : Calls Try.prog 41 #[.pointer (some ⟨p, 0, none⟩)] W fun e w' => e = .returned (ntV (nwT d)) ∧ Below W.heap.size W w' := by
  rw [nwT, if_pos ho]
  obtain ⟨w1, hw1⟩ : ∃ w1, W.alloc (.cells #[.int .i64 0, .int .i64 0, .int .i64 0, .int .i64 0] 84) = w1 := ⟨_, rfl⟩
  have hj : JN W ⟨rec0, 0, 0, 40⟩ w1 := by rw [← hw1]; exact ⟨new_at rfl, al1' _ _⟩
  have hon := on_any (h.carry hj.2)
  rw [ho] at hon
  go_enter Try.func41, Try.ntmps41
  go_wp2_with (first | (go_at_call 38; (with_reducible refine hon.mono ?_); rintro e u1 ⟨rfl, hu⟩; obtain rfl := hu.symm) | (refine wpList_store_row rfl 84 (.tmp 2) (.tmp 11) rfl W.heap.size #[.int .i64 0, .int .i64 0, .int .i64 0, .int .i64 0] rfl rfl 84 _ hj.1 infoE rfl (by simp [Value.oneCell']) ?_; obtain ⟨v, hv⟩ : ∃ v, w1.setRow W.heap.size #[.int .i64 0, .int .i64 0, .int .i64 0, .int .i64 0] = v := ⟨_, rfl⟩; have hjv : JN W ⟨rec0, 0, 0, 40⟩ v := (by rw [← hv]; exact hj.put); rw [hv]))
  (try simp only [Exit.inBlock, Exit.then])
  exact retC3 rfl rfl rfl rfl rfl hjv.1 undE infoE ⟨rfl, hjv.2⟩
set_option maxHeartbeats 4000000 in
set_option maxRecDepth 100000 in
theorem newest_on (h : Dk W p d) (ho : d.off = false) : Calls Try.prog 41 #[.pointer (some ⟨p, 0, none⟩)] W fun e w' => e = .returned (ntV (nwT d)) ∧ Below W.heap.size W w' := by
  rw [nwT, if_neg (by rw [ho]; decide)]
  obtain ⟨T, hT⟩ : ∃ T, ntO (nw d.l) = T := ⟨_, rfl⟩
  rw [hT]
  obtain ⟨w1, hw1⟩ : ∃ w1, W.alloc (.cells #[.int .i64 0, .int .i64 0, .int .i64 0, .int .i64 0] 84) = w1 := ⟨_, rfl⟩
  have hj : JN W ⟨rec0, 0, 0, 40⟩ w1 := by rw [← hw1]; exact ⟨new_at rfl, al1' _ _⟩
  have hon := on_any (h.carry hj.2)
  rw [ho] at hon
  have hsa0 := says_any (slt d.l 0) (slt_len h.len (by omega)) (slt_byt h.byt 0)
  have hsa1 := says_any (slt d.l 1) (slt_len h.len (by omega)) (slt_byt h.byt 1)
  have hr0 : ∀ V, Below W.heap.size W V → Calls Try.prog 54 #[.pointer (some ⟨p, 0, none⟩), .int .i64 0] V fun e w' => e = .returned (.agg (cB (slt d.l 0)).toArray) ∧ Below V.heap.size V w' := fun V hV => sread_any (h.carry hV) ho 0 (by omega)
  have hr1 : ∀ V, Below W.heap.size W V → Calls Try.prog 54 #[.pointer (some ⟨p, 0, none⟩), .int .i64 1] V fun e w' => e = .returned (.agg (cB (slt d.l 1)).toArray) ∧ Below V.heap.size V w' := fun V hV => sread_any (h.carry hV) ho 1 (by omega)
  obtain ⟨A, hA⟩ : ∃ A, say (slt d.l 0) = A := ⟨_, rfl⟩
  obtain ⟨B, hB⟩ : ∃ B, say (slt d.l 1) = B := ⟨_, rfl⟩
  have hfA : ∀ r s, A = some (r, s) → 0 < s := fun r s e => by
    obtain ⟨⟨_, q⟩, _⟩ := say_some (hA.trans e)
    omega
  have hfB : ∀ r s, B = some (r, s) → 0 < s := fun r s e => by
    obtain ⟨⟨_, q⟩, _⟩ := say_some (hB.trans e)
    omega
  have HT : Hid (T = ntO (nwo A B)) := by show T = _; rw [← hT, nw, hA, hB]
  rw [hA] at hsa0
  rw [hB] at hsa1
  clear hA hB hT
  generalize slt d.l 0 = L0 at *
  generalize slt d.l 1 = L1 at *
  go_enter Try.func41, Try.ntmps41
  go_wp2_with (go_at_call 38; (with_reducible refine hon.mono ?_); rintro e u1 ⟨rfl, hu⟩; obtain rfl := hu.symm)
  go_loopw [3, 4, 12] (fun a e i wz => ∃ (k : Nat) (t : Nt), i = .int .i64 k ∧ a = .int .i64 t.a ∧ e = .int .i64 t.e ∧ Hid ((k = 0 ∧ t = ⟨rec0, 0, 0, 40⟩) ∨ (k = 1 ∧ t = ntO (nwo A none)) ∨ (k = 2 ∧ t = T)) ∧ JN W t wz) (fun _ _ i _ => 2 - vnat i)
  case atStart => exact ⟨0, ⟨rec0, 0, 0, 40⟩, rfl, rfl, rfl, .inl ⟨rfl, rfl⟩, hj⟩
  case round =>
    obtain ⟨k, t, rfl, rfl, rfl, HC, hjr⟩ := hrel
    rcases HC.out with ⟨rfl, rfl⟩ | ⟨rfl, rfl⟩ | ⟨rfl, rfl⟩
    · clear HC
      have hr := hr0 _ hjr.2
      cases A with
      | none =>
        unfold sayV e0V at hsa0
        go_wp2_with (first | (go_at_call 54; (with_reducible refine hr.mono ?_); rintro e u1 ⟨rfl, hu1⟩) | (go_at_call 55; (with_reducible refine (hsa0 _).mono ?_); rintro e u2 ⟨rfl, hu2⟩))
        go_roundw
        case rel => exact ⟨1, ⟨rec0, 0, 0, 40⟩, rfl, rfl, rfl, .inr (.inl ⟨rfl, rfl⟩), (hjr.carry hu1).carry (bel2 hu2 (al1' _ _))⟩
        case measure => simp [vnat]
      | some x =>
        obtain ⟨r, s⟩ := x
        have hpos : 0 < s := hfA r s rfl
        unfold sayV eV at hsa0
        have hjk : ∀ V, JN W ⟨r, s, 0, 0⟩ V → JN W (ntO (nwo (some (r, s)) none)) V := fun V q => q
        go_wp2_with (first | (go_at_call 54; (with_reducible refine hr.mono ?_); rintro e u1 ⟨rfl, hu1⟩) | (go_at_call 55; (with_reducible refine (hsa0 _).mono ?_); rintro e u2 ⟨rfl, hu2⟩; obtain ⟨u3, hu3⟩ : ∃ u3, u2.alloc (.cells #[.int .i64 r.li, .int .i64 r.ro, .int .i64 r.ta, .int .i64 s] 84) = u3 := ⟨_, rfl⟩; have j3 := (hjr.carry hu1).carry (bel2 hu2 (al1' u2 (.cells #[.int .i64 r.li, .int .i64 r.ro, .int .i64 r.ta, .int .i64 s] 84))); rw [hu3] at j3; have hx3 : u3.heap[u2.heap.size]? = some (.cells #[.int .i64 r.li, .int .i64 r.ro, .int .i64 r.ta, .int .i64 s] 84 (0, 0)) := (by rw [← hu3]; exact new_at rfl); have cx : u3.cell? ⟨u2.heap.size, 3, none⟩ = some (.int .i64 s) := (by rw [cell_at hx3]; rfl); have cb := j3.c3; (try dsimp only [ntO, nwo] at cb)) | (refine wpList_load_row rfl 84 (.tmp 6) rfl u2.heap.size rfl 84 _ (0, 0) _ hx3 undE rfl infoE ?_) | (refine wpList_store_row rfl 84 (.tmp 2) (.tmp 30) rfl W.heap.size #[.int .i64 r.li, .int .i64 r.ro, .int .i64 r.ta, .int .i64 s] rfl rfl 84 _ j3.1 infoE rfl (by simp [Value.oneCell']) ?_; obtain ⟨v, hv⟩ : ∃ v, u3.setRow W.heap.size #[.int .i64 r.li, .int .i64 r.ro, .int .i64 r.ta, .int .i64 s] = v := ⟨_, rfl⟩; have hjv : JN W ⟨r, s, 0, 0⟩ v := (by rw [← hv]; exact j3.put); rw [hv]))
        go_roundw
        case rel => exact ⟨1, ⟨r, s, 0, 0⟩, rfl, rfl, rfl, .inr (.inl ⟨rfl, rfl⟩), hjv⟩
        case measure => simp [vnat]
    · clear HC
      have hr := hr1 _ hjr.2
      cases A with
      | none =>
        cases B with
        | none =>
          unfold sayV e0V at hsa1
          go_wp2_with (first | (go_at_call 54; (with_reducible refine hr.mono ?_); rintro e u1 ⟨rfl, hu1⟩) | (go_at_call 55; (with_reducible refine (hsa1 _).mono ?_); rintro e u2 ⟨rfl, hu2⟩))
          go_roundw
          case rel => exact ⟨2, ⟨rec0, 0, 0, 40⟩, rfl, rfl, rfl, .inr (.inr ⟨rfl, HT.out.symm⟩), (hjr.carry hu1).carry (bel2 hu2 (al1' _ _))⟩
          case measure => simp [vnat]
        | some x =>
          obtain ⟨r, s⟩ := x
          have hpos : 0 < s := hfB r s rfl
          unfold sayV eV at hsa1
          go_wp2_with (first | (go_at_call 54; (with_reducible refine hr.mono ?_); rintro e u1 ⟨rfl, hu1⟩) | (go_at_call 55; (with_reducible refine (hsa1 _).mono ?_); rintro e u2 ⟨rfl, hu2⟩; obtain ⟨u3, hu3⟩ : ∃ u3, u2.alloc (.cells #[.int .i64 r.li, .int .i64 r.ro, .int .i64 r.ta, .int .i64 s] 84) = u3 := ⟨_, rfl⟩; have j3 := (hjr.carry hu1).carry (bel2 hu2 (al1' u2 (.cells #[.int .i64 r.li, .int .i64 r.ro, .int .i64 r.ta, .int .i64 s] 84))); rw [hu3] at j3; have hx3 : u3.heap[u2.heap.size]? = some (.cells #[.int .i64 r.li, .int .i64 r.ro, .int .i64 r.ta, .int .i64 s] 84 (0, 0)) := (by rw [← hu3]; exact new_at rfl); have cx : u3.cell? ⟨u2.heap.size, 3, none⟩ = some (.int .i64 s) := (by rw [cell_at hx3]; rfl); have cb := j3.c3; (try dsimp only [ntO, nwo] at cb)) | (refine wpList_load_row rfl 84 (.tmp 6) rfl u2.heap.size rfl 84 _ (0, 0) _ hx3 undE rfl infoE ?_) | (refine wpList_store_row rfl 84 (.tmp 2) (.tmp 30) rfl W.heap.size #[.int .i64 r.li, .int .i64 r.ro, .int .i64 r.ta, .int .i64 s] rfl rfl 84 _ j3.1 infoE rfl (by simp [Value.oneCell']) ?_; obtain ⟨v, hv⟩ : ∃ v, u3.setRow W.heap.size #[.int .i64 r.li, .int .i64 r.ro, .int .i64 r.ta, .int .i64 s] = v := ⟨_, rfl⟩; have hjv : JN W ⟨r, s, 1, 0⟩ v := (by rw [← hv]; exact j3.put); rw [hv]))
          go_roundw
          case rel => exact ⟨2, ⟨r, s, 1, 0⟩, rfl, rfl, rfl, .inr (.inr ⟨rfl, HT.out.symm⟩), hjv⟩
          case measure => simp [vnat]
      | some y =>
        obtain ⟨r', s'⟩ := y
        cases B with
        | none =>
          unfold sayV e0V at hsa1
          go_wp2_with (first | (go_at_call 54; (with_reducible refine hr.mono ?_); rintro e u1 ⟨rfl, hu1⟩) | (go_at_call 55; (with_reducible refine (hsa1 _).mono ?_); rintro e u2 ⟨rfl, hu2⟩))
          go_roundw
          case rel => exact ⟨2, ⟨r', s', 0, 0⟩, rfl, rfl, rfl, .inr (.inr ⟨rfl, HT.out.symm⟩), (hjr.carry hu1).carry (bel2 hu2 (al1' _ _))⟩
          case measure => simp [vnat]
        | some x =>
          obtain ⟨r, s⟩ := x
          unfold sayV eV at hsa1
          by_cases hpos : s' < s
          · have HT2 : Hid (T = ⟨r, s, 1, 0⟩) := by show T = _; rw [HT.out]; show ntO (if s' < s then some ((r, s), 1) else some ((r', s'), 0)) = _; rw [if_pos hpos]; rfl
            clear HT
            go_wp2_with (first | (go_at_call 54; (with_reducible refine hr.mono ?_); rintro e u1 ⟨rfl, hu1⟩) | (go_at_call 55; (with_reducible refine (hsa1 _).mono ?_); rintro e u2 ⟨rfl, hu2⟩; obtain ⟨u3, hu3⟩ : ∃ u3, u2.alloc (.cells #[.int .i64 r.li, .int .i64 r.ro, .int .i64 r.ta, .int .i64 s] 84) = u3 := ⟨_, rfl⟩; have j3 := (hjr.carry hu1).carry (bel2 hu2 (al1' u2 (.cells #[.int .i64 r.li, .int .i64 r.ro, .int .i64 r.ta, .int .i64 s] 84))); rw [hu3] at j3; have hx3 : u3.heap[u2.heap.size]? = some (.cells #[.int .i64 r.li, .int .i64 r.ro, .int .i64 r.ta, .int .i64 s] 84 (0, 0)) := (by rw [← hu3]; exact new_at rfl); have cx : u3.cell? ⟨u2.heap.size, 3, none⟩ = some (.int .i64 s) := (by rw [cell_at hx3]; rfl); have cb := j3.c3; (try dsimp only [ntO, nwo] at cb)) | (refine wpList_load_row rfl 84 (.tmp 6) rfl u2.heap.size rfl 84 _ (0, 0) _ hx3 undE rfl infoE ?_) | (refine wpList_store_row rfl 84 (.tmp 2) (.tmp 30) rfl W.heap.size #[.int .i64 r.li, .int .i64 r.ro, .int .i64 r.ta, .int .i64 s] rfl rfl 84 _ j3.1 infoE rfl (by simp [Value.oneCell']) ?_; obtain ⟨v, hv⟩ : ∃ v, u3.setRow W.heap.size #[.int .i64 r.li, .int .i64 r.ro, .int .i64 r.ta, .int .i64 s] = v := ⟨_, rfl⟩; have hjv : JN W ⟨r, s, 1, 0⟩ v := (by rw [← hv]; exact j3.put); rw [hv]))
            go_roundw
            case rel => exact ⟨2, ⟨r, s, 1, 0⟩, rfl, rfl, rfl, .inr (.inr ⟨rfl, HT2.out.symm⟩), hjv⟩
            case measure => simp [vnat]
          · have HT2 : Hid (T = ⟨r', s', 0, 0⟩) := by show T = _; rw [HT.out]; show ntO (if s' < s then some ((r, s), 1) else some ((r', s'), 0)) = _; rw [if_neg hpos]; rfl
            clear HT
            go_wp2_with (first | (go_at_call 54; (with_reducible refine hr.mono ?_); rintro e u1 ⟨rfl, hu1⟩) | (go_at_call 55; (with_reducible refine (hsa1 _).mono ?_); rintro e u2 ⟨rfl, hu2⟩; obtain ⟨u3, hu3⟩ : ∃ u3, u2.alloc (.cells #[.int .i64 r.li, .int .i64 r.ro, .int .i64 r.ta, .int .i64 s] 84) = u3 := ⟨_, rfl⟩; have j3 := (hjr.carry hu1).carry (bel2 hu2 (al1' u2 (.cells #[.int .i64 r.li, .int .i64 r.ro, .int .i64 r.ta, .int .i64 s] 84))); rw [hu3] at j3; have hx3 : u3.heap[u2.heap.size]? = some (.cells #[.int .i64 r.li, .int .i64 r.ro, .int .i64 r.ta, .int .i64 s] 84 (0, 0)) := (by rw [← hu3]; exact new_at rfl); have cx : u3.cell? ⟨u2.heap.size, 3, none⟩ = some (.int .i64 s) := (by rw [cell_at hx3]; rfl); have cb := j3.c3; (try dsimp only [ntO, nwo] at cb)))
            go_roundw
            case rel => exact ⟨2, ⟨r', s', 0, 0⟩, rfl, rfl, rfl, .inr (.inr ⟨rfl, HT2.out.symm⟩), j3⟩
            case measure => simp [vnat]
    · clear HC
      go_wp2_with (first | (refine wpList_load_row rfl 84 (.tmp 2) rfl W.heap.size rfl 84 _ (0, 0) _ hjr.1 undE rfl infoE ?_) | (refine wpList_store_row rfl 84 (.tmp 2) (.tmp 33) rfl W.heap.size (eA t.r t.s) rfl rfl 84 _ hjr.1 infoE rfl (eA_one _ _) ?_; obtain ⟨v, hv⟩ : ∃ v, wr.setRow W.heap.size (eA t.r t.s) = v := ⟨_, rfl⟩; have hjv : JN W t v := (by rw [← hv]; exact hjr.put); rw [hv]))
      (try simp only [Exit.inBlock, Exit.then])
      exact retC3 rfl rfl rfl rfl rfl hjv.1 undE infoE ⟨rfl, hjv.2⟩
end
end Go.Proofs.Ytjleggnkacmbbaa
