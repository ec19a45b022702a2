/- DiskWhole: at every fuse and row of places: a sector is as the last write to it that was done has it, all others as they were; no condition. -/
import Derived.Test.YtcnkpkdnpjhogaaRows
import Derived.WalkKit
import Derived.ProofKit
import Derived.OpenShut
import Derived.Test.YtcnkpkdnpjhogaaDkh
import Derived.Test.YtcnkpkdnpjhogaaOpd
namespace Go.Proofs.Ytcnkpkdnpjhogaa
open Go.ChangeShapes Go.WideShapes Go.ChangeAt Go.RowKit
set_option linter.unusedVariables false

theorem laidOut : laidOutB Try.prog = true := by kernel_rfl
theorem own : ownKnob Try.prog.godebug = none := by kernel_rfl
open Go.Shelf
theorem dWr_two {d : Dst} {s : Nat} {x : List Nat} (hs : s < 8) (hx : x.length = 32) : ((dWr d (s : Int) x).1 = 100 ∧ (dWr d (s : Int) x).2.l = d.l) ∨ ((dWr d (s : Int) x).1 = 0 ∧ (dWr d (s : Int) x).2.l = putS d.l s x) := by
  have hs2 : 0 ≤ (s : Int) ∧ (s : Int) < 8 := by omega
  cases ho : d.off with
  | true => rw [dWr_off _ _ ho]; exact .inl ⟨rfl, rfl⟩
  | false =>
    by_cases hl : left d = 0
    · rw [dWr_blow ho hs2 hx hl]; exact .inl ⟨rfl, rfl⟩
    · rw [dWr_ok ho hs2 hx hl]; exact .inr ⟨rfl, rfl⟩
def cI (L : List Int) : List Value := L.map fun x => .int .i64 x
/-- The array of the last writes. -/
structure Ls (W : World) (q : Nat) (L : List Int) : Prop where
  obj : W.heap[q]? = some (.cells (cI L).toArray 33 (0, 0))
  len : L.length = 8
theorem Ls.carry {W W' : World} {q : Nat} {L : List Int} (h : Ls W q L) (hb : Below W.heap.size W W') : Ls W' q L := ⟨(hb.block _ (lt_at h.obj)).trans h.obj, h.len⟩
theorem Ls.tp {W W' : World} {p q : Nat} {L : List Int} (h : Ls W q L) (ht : Tp p W W') (hn : q ≠ p) : Ls W' q L := ⟨(ht.block _ (lt_at h.obj) hn).trans h.obj, h.len⟩
theorem Ls.at {W : World} {q : Nat} {L : List Int} (h : Ls W q L) {k : Nat} {x : Int} (hk : L[k]? = some x) : W.cell? ⟨q, k, none⟩ = some (.int .i64 x) := by
  rw [cell_at h.obj, List.getElem?_toArray]
  simp [cI, hk]
theorem Ls.set {W : World} {q : Nat} {L : List Int} (h : Ls W q L) (k : Nat) (x : Int) : Ls (W.setCell ⟨q, k, none⟩ (.int .i64 x)) q (L.set k x) := by
  refine ⟨(heap_setCell_same W q k _ _ _ h.obj).trans ?_, by rw [List.length_set]; exact h.len⟩
  rw [List.setIfInBounds_toArray]
  simp [cI, List.map_set]
/-- Each sector is as the last write to it has it. -/
def Wh (l : List Nat) (L : List Int) : Prop := ∀ (s : Nat) (x : Int), s < 8 → L[s]? = some x → 0 ≤ x ∧ secs l s = if x > 0 then secB x else List.replicate 32 0
theorem wh_0 : Wh d0.l (List.replicate 8 0) := by
  intro s x hs hx
  rw [List.getElem?_replicate, if_pos hs] at hx
  cases hx
  refine ⟨by decide, ?_⟩
  rw [if_neg (by decide)]
  show secs (List.replicate 256 0) s = _
  rw [secs, List.drop_replicate, List.take_replicate]
  congr 1
  omega
theorem wh_put {l : List Nat} {L : List Int} (h : Wh l L) (hl : l.length = 256) (s : Nat) (hs : s < 8) (y : Int) (hy : 0 < y) : Wh (putS l s (secB y)) (L.set s y) := by
  intro t x ht hx
  by_cases e : s = t
  · subst e
    have hlt : s < L.length := by
      have := (List.getElem?_eq_some_iff.1 hx).1
      rwa [List.length_set] at this
    rw [List.getElem?_set_self hlt] at hx
    cases hx
    rw [if_pos hy, secs_put hl (secB_len _) hs]
    exact ⟨by omega, rfl⟩
  · rw [List.getElem?_set_ne e] at hx
    rw [secs_put_ne hl (secB_len _) hs (Ne.symm e)]
    exact h t x ht hx
theorem slc (g c k : Nat) (hk : k < 8) (hc : 256 ≤ c) (w : World) : (Instr.sliceAt 28 (.slice (some ⟨g, 0, none⟩) 256 c) (some (.int .i64 ((k : Int) * 32))) (some (.int .i64 (((k : Int) + 1) * 32))) none).run Try.prog w = .ok (.slice (some ⟨g, 32 * k, none⟩) 32 (c - 32 * k)) w := by
  have h1 : (32 : Int) ≤ (c : Int) := by omega
  have h2 : (64 : Int) ≤ (c : Int) := by omega
  have h3 : (96 : Int) ≤ (c : Int) := by omega
  have h4 : (128 : Int) ≤ (c : Int) := by omega
  have h5 : (160 : Int) ≤ (c : Int) := by omega
  have h6 : (192 : Int) ≤ (c : Int) := by omega
  have h7 : (224 : Int) ≤ (c : Int) := by omega
  have h8 : (256 : Int) ≤ (c : Int) := by omega
  have z0 : ¬ c = 0 := by omega
  have z1 : ¬ c = 32 := by omega
  have z2 : ¬ c = 64 := by omega
  have z3 : ¬ c = 96 := by omega
  have z4 : ¬ c = 128 := by omega
  have z5 : ¬ c = 160 := by omega
  have z6 : ¬ c = 192 := by omega
  have z7 : ¬ c = 224 := by omega
  clear hc
  have hq : k = 0 ∨ k = 1 ∨ k = 2 ∨ k = 3 ∨ k = 4 ∨ k = 5 ∨ k = 6 ∨ k = 7 := by omega
  rcases hq with rfl | rfl | rfl | rfl | rfl | rfl | rfl | rfl
  all_goals go_simp
theorem lit8 : (#[.int .i64 0, .int .i64 0, .int .i64 0, .int .i64 0, .int .i64 0, .int .i64 0, .int .i64 0, .int .i64 0] : Array Value) = (cI (List.replicate 8 0)).toArray := rfl
/-- Of a place a sector. -/
theorem tm8 (x : Int) : ∃ s : Nat, s < 8 ∧ ((x.tmod 8 < 0 ∧ (s : Int) = x.tmod 8 + 8) ∨ (¬ x.tmod 8 < 0 ∧ (s : Int) = x.tmod 8)) := by
  have h1 := Int.tmod_lt_of_pos x (show (0 : Int) < 8 by decide)
  have h2 : -8 < x.tmod 8 := by
    rcases Int.le_total 0 x with h | h
    · rw [Int.tmod_eq_emod_of_nonneg h]
      omega
    · have e : x.tmod 8 = -((-x).tmod 8) := by rw [Int.neg_tmod]; omega
      rw [e, Int.tmod_eq_emod_of_nonneg (by omega)]
      omega
  by_cases h : x.tmod 8 < 0
  · exact ⟨(x.tmod 8 + 8).toNat, by omega, .inl ⟨h, by omega⟩⟩
  · exact ⟨(x.tmod 8).toNat, by omega, .inr ⟨h, by omega⟩⟩
theorem bounds_i64 {a : Int} (h : (Lit.int .i64 a).wf = true) : a ≤ 9223372036854775807 := by
  simp only [Lit.wf, Bool.and_eq_true, decide_eq_true_eq] at h
  have h2 : IntKind.i64.max = 9223372036854775807 := rfl
  omega
theorem fz_fuse (d : Dst) {k : Int} (hk : k ≤ 9223372036854775807) : Fz (dFuse d k) := by
  intro q
  have h1 : 0 ≤ k := by simpa [dFuse] using q
  have e : (dFuse d k).fuse = k := by simp [dFuse, h1]
  rw [e]
  exact ⟨h1, hk⟩
set_option maxHeartbeats 8000000 in
set_option maxRecDepth 100000 in
theorem walk (w : World) (a0 : Int) (w0 : (Lit.int .i64 a0).wf = true) (ad1 : Option Addr) (cap1 : Nat) (l1 : List Int) (w1 : l1 ≠ [] → ∃ a, ad1 = some a ∧ Ints w a l1) (hl1 : l1.length ≤ maxLen) :
    Calls Try.prog 4 #[.int .i64 a0, .slice ad1 l1.length cap1] w fun e w' => e = .returned (.bool true) ∧ Below w.heap.size w w' := by
  have hal := alive_any
  by_cases hg : l1.length ≤ 100
  case neg =>
    have hgi : (l1.length : Int) > 100 := by omega
    go_enter Try.func4, Try.ntmps4
    go_wp2_with (go_at_call 7; (with_reducible refine (hal _).mono ?_); rintro e u2 ⟨rfl, hb2⟩)
    go_ret
    exact ⟨rfl, hb2⟩
  have hgi : ¬ (l1.length : Int) > 100 := by omega
  have hne := dnew_any w
  have hka := bounds_i64 w0
  clear w0
  go_enter Try.func4, Try.ntmps4
  go_wp2_with (first | (go_at_call 8; (with_reducible refine hne.mono ?_); rintro e u1 ⟨rfl, h1, hlt, hb1⟩; have hfu := fuse_any h1 a0) | (go_at_call 9; (with_reducible refine hfu.mono ?_); rintro e u2 ⟨rfl, h2, t2⟩; have hB2 : Below w.heap.size w u2 := hb1.trans (t2.below (Nat.le_refl _) (Nat.le_of_lt hlt)); obtain ⟨u3, hu3⟩ : ∃ u3, u2.alloc (.cells #[.int .i64 0, .int .i64 0, .int .i64 0, .int .i64 0, .int .i64 0, .int .i64 0, .int .i64 0, .int .i64 0] 33) = u3 := ⟨_, rfl⟩; have hb3 : Below u2.heap.size u2 u3 := (by rw [← hu3]; exact al1' _ _); have hL3 : Ls u3 u2.heap.size (List.replicate 8 0) := ⟨(by rw [← hu3, ← lit8]; exact new_at rfl), rfl⟩; have hqp : w.heap.size < u2.heap.size := h2.lt))
  have h3 := h2.carry hb3
  have hB3 := bel2 hB2 hb3
  have hfz3 : Fz (dFuse d0 a0) := fz_fuse d0 hka
  have hwh3 : Wh (dFuse d0 a0).l (List.replicate 8 0) := wh_0
  have hwr3 : (dFuse d0 a0).writes = 0 := rfl
  go_loopw [7] (fun i wz => ∃ (m : Nat) (d : Dst) (L : List Int), i = .int .i64 (m : Int) ∧ m ≤ l1.length ∧ Dk wz w.heap.size d ∧ Ls wz u2.heap.size L ∧ Fz d ∧ 0 ≤ d.writes ∧ d.writes ≤ (m : Int) ∧ Wh d.l L ∧ Below w.heap.size w wz) (fun i _ => l1.length - vnat i)
  case atStart => exact ⟨0, _, _, rfl, Nat.zero_le _, h3, hL3, hfz3, by rw [hwr3]; decide, by rw [hwr3]; decide, hwh3, hB3⟩
  case round =>
    obtain ⟨m, d, L, rfl, hm, hD, hL, hfz, hw0, hwm, hwh, hB⟩ := hrel
    by_cases hmn : m < l1.length
    · have hmi : (m : Int) < (l1.length : Int) := by omega
      obtain ⟨a, rfl, hI⟩ := w1 (fun e => by subst e; simp at hmn)
      obtain ⟨x, hx⟩ : ∃ x, l1[m]? = some x := ⟨_, List.getElem?_eq_getElem hmn⟩
      obtain ⟨ab, ao, sp⟩ := a
      obtain rfl : sp = none := hI.spot
      have c0 := (hB.cell (p := ⟨ab, ao + m, none⟩) hI.lt).trans (hI.cell m x hx)
      obtain ⟨s, hs8, hsx⟩ := tm8 x
      have hse := sector_any ((m : Int) + 1) wr
      have htw := dWr_two (d := d) hs8 (secB_len ((m : Int) + 1))
      have hfz2 := dWr_fz (s := (s : Int)) (x := secB ((m : Int) + 1)) hfz
      have hw2 := dWr_writes (s := (s : Int)) (x := secB ((m : Int) + 1)) hw0
      obtain ⟨d2, hd2⟩ : ∃ d2, (dWr d (s : Int) (secB ((m : Int) + 1))).2 = d2 := ⟨_, rfl⟩
      rw [hd2] at htw hfz2 hw2
      have HM : Hid ((dWr d (s : Int) (secB ((m : Int) + 1))).2 = d2) := hd2
      obtain ⟨r, hr⟩ : ∃ r, x.tmod 8 = r := ⟨_, rfl⟩
      rw [hr] at hsx
      have hlen := hD.len
      clear hd2 hx
      have hsi : (s : Int) < 8 := by omega
      rcases htw with ⟨e1, e2⟩ | ⟨e1, e2⟩ <;> rcases hsx with ⟨q1, q2⟩ | ⟨q1, q2⟩
      · skip
        have HR : Hid ((dWr d (s : Int) (secB ((m : Int) + 1))).1 = 100) := e1
        rw [← e2] at hwh
        clear e1 e2
        have hwp : IntKind.i64.wrap (r + 8) = (s : Int) := by rw [← q2]; exact i64_id _ (by omega) (by omega)
        have hwp2 : wrap64 (r + 8) = (s : Int) := by unfold wrap64; omega
        clear q2
        go_wp2_with (first | (go_at_call 11; (with_reducible refine hse.mono ?_); rintro e u3 ⟨rfl, hs3, hb3⟩; have hwr := write_any (hD.carry hb3) (s : Int) (some ⟨wr.heap.size, 0, none⟩) 32 (secB ((m : Int) + 1)) hs3.rd.rd hs3.byt hfz hw0 (by omega); rw [HR.out, HM.out, secB_len] at hwr) | (go_at_call 10; (with_reducible refine hwr.mono ?_); rintro e u4 ⟨rfl, h4, t4⟩; have hB4 : Below w.heap.size w u4 := (bel2 hB hb3).trans (t4.below (Nat.le_refl _) (Nat.le_trans hB.size hb3.size)); have hL4 := (hL.carry hb3).tp t4 (by omega)))
        go_roundw
        case rel => exact ⟨m + 1, d2, L, by simp, by omega, h4, hL4, hfz2, hw2.1, by have := hw2.2; omega, hwh, hB4⟩
        case measure => simp [vnat]; omega
      · skip
        have HR : Hid ((dWr d (s : Int) (secB ((m : Int) + 1))).1 = 100) := e1
        rw [← e2] at hwh
        clear e1 e2
        obtain rfl : (s : Int) = r := q2
        go_wp2_with (first | (go_at_call 11; (with_reducible refine hse.mono ?_); rintro e u3 ⟨rfl, hs3, hb3⟩; have hwr := write_any (hD.carry hb3) (s : Int) (some ⟨wr.heap.size, 0, none⟩) 32 (secB ((m : Int) + 1)) hs3.rd.rd hs3.byt hfz hw0 (by omega); rw [HR.out, HM.out, secB_len] at hwr) | (go_at_call 10; (with_reducible refine hwr.mono ?_); rintro e u4 ⟨rfl, h4, t4⟩; have hB4 : Below w.heap.size w u4 := (bel2 hB hb3).trans (t4.below (Nat.le_refl _) (Nat.le_trans hB.size hb3.size)); have hL4 := (hL.carry hb3).tp t4 (by omega)))
        go_roundw
        case rel => exact ⟨m + 1, d2, L, by simp, by omega, h4, hL4, hfz2, hw2.1, by have := hw2.2; omega, hwh, hB4⟩
        case measure => simp [vnat]; omega
      · skip
        have HR : Hid ((dWr d (s : Int) (secB ((m : Int) + 1))).1 = 0) := e1
        have hwh2 := wh_put hwh hlen s hs8 ((m : Int) + 1) (by omega)
        rw [← e2] at hwh2
        clear e1 e2 hwh
        have hwp : IntKind.i64.wrap (r + 8) = (s : Int) := by rw [← q2]; exact i64_id _ (by omega) (by omega)
        have hwp2 : wrap64 (r + 8) = (s : Int) := by unfold wrap64; omega
        clear q2
        go_wp2_with (first | (go_at_call 11; (with_reducible refine hse.mono ?_); rintro e u3 ⟨rfl, hs3, hb3⟩; have hwr := write_any (hD.carry hb3) (s : Int) (some ⟨wr.heap.size, 0, none⟩) 32 (secB ((m : Int) + 1)) hs3.rd.rd hs3.byt hfz hw0 (by omega); rw [HR.out, HM.out, secB_len] at hwr) | (go_at_call 10; (with_reducible refine hwr.mono ?_); rintro e u4 ⟨rfl, h4, t4⟩; have hB4 : Below w.heap.size w u4 := (bel2 hB hb3).trans (t4.below (Nat.le_refl _) (Nat.le_trans hB.size hb3.size)); have hL4 := (hL.carry hb3).tp t4 (by omega); have ly := hL4.at (List.getElem?_eq_getElem (show s < L.length by rw [hL4.len]; exact hs8)); have lz := thaw_at hL4.obj s))
        go_roundw
        case rel => exact ⟨m + 1, d2, L.set s ((m : Int) + 1), by simp, by omega, h4.tp (Tp.set _ _ _ _) (by omega), hL4.set s _, hfz2, hw2.1, by have := hw2.2; omega, hwh2, hB4.setCell (p := ⟨u2.heap.size, s, none⟩) (Nat.le_of_lt hqp) _⟩
        case measure => simp [vnat]; omega
      · skip
        have HR : Hid ((dWr d (s : Int) (secB ((m : Int) + 1))).1 = 0) := e1
        have hwh2 := wh_put hwh hlen s hs8 ((m : Int) + 1) (by omega)
        rw [← e2] at hwh2
        clear e1 e2 hwh
        obtain rfl : (s : Int) = r := q2
        go_wp2_with (first | (go_at_call 11; (with_reducible refine hse.mono ?_); rintro e u3 ⟨rfl, hs3, hb3⟩; have hwr := write_any (hD.carry hb3) (s : Int) (some ⟨wr.heap.size, 0, none⟩) 32 (secB ((m : Int) + 1)) hs3.rd.rd hs3.byt hfz hw0 (by omega); rw [HR.out, HM.out, secB_len] at hwr) | (go_at_call 10; (with_reducible refine hwr.mono ?_); rintro e u4 ⟨rfl, h4, t4⟩; have hB4 : Below w.heap.size w u4 := (bel2 hB hb3).trans (t4.below (Nat.le_refl _) (Nat.le_trans hB.size hb3.size)); have hL4 := (hL.carry hb3).tp t4 (by omega); have ly := hL4.at (List.getElem?_eq_getElem (show s < L.length by rw [hL4.len]; exact hs8)); have lz := thaw_at hL4.obj s))
        go_roundw
        case rel => exact ⟨m + 1, d2, L.set s ((m : Int) + 1), by simp, by omega, h4.tp (Tp.set _ _ _ _) (by omega), hL4.set s _, hfz2, hw2.1, by have := hw2.2; omega, hwh2, hB4.setCell (p := ⟨u2.heap.size, s, none⟩) (Nat.le_of_lt hqp) _⟩
        case measure => simp [vnat]; omega
    · have hmm : m = l1.length := by omega
      subst hmm
      have hmi : ¬ ((l1.length : Int) < (l1.length : Int)) := by omega
      have him := image_any hD
      have hlen := hD.len
      have HLN : Hid (d.l.length = 256) := hlen
      clear hlen
      have hst := hB.size
      go_wp2_with (go_at_call 16; (with_reducible refine him.mono ?_); rintro e u5 ⟨g, c, rfl, ho5, hb5⟩)
      have hL5 := hL.carry hb5
      have hB5 := bel2 hB hb5
      have hc := own_cap ho5
      have hat5 := b_own ho5 HLN.out.symm
      have hg5 : g < u5.heap.size := by
        rcases own_form ho5 with ⟨_, e2⟩ | ⟨g', c', e1, _, h6, _⟩
        · cases e2
        · cases e1
          exact h6
      have hsl := fun k hk v => slc g c k hk hc v
      go_loopw [10] (fun i wz => ∃ k : Nat, i = .int .i64 (k : Int) ∧ k ≤ 8 ∧ Below u5.heap.size u5 wz) (fun i _ => 8 - vnat i)
      case atStart => exact ⟨0, rfl, by omega, Below.refl _ _⟩
      case round =>
        obtain ⟨k, rfl, hk, hbk⟩ := hrel
        by_cases hk8 : k < 8
        · have hki : (k : Int) < 8 := by omega
          have hsl2 := hsl k hk8
          obtain ⟨x, hx⟩ : ∃ x, L[k]? = some x := ⟨_, List.getElem?_eq_getElem (by rw [hL.len]; exact hk8)⟩
          obtain ⟨hx0, hxs⟩ := hwh k x hk8 hx
          have hm := mk32
          obtain ⟨w6, hw6⟩ : ∃ w6, wr.alloc (.cells zS 5) = w6 := ⟨_, rfl⟩
          have hb6 : Below wr.heap.size wr w6 := by rw [← hw6]; exact al1' _ _
          have hs6 : Sc w6 wr.heap.size (List.replicate 32 0) := by rw [← hw6]; exact sc_new wr
          have lx := (hL5.carry (bel2 hbk hb6)).at hx
          have hrd : ∀ V : World, Below u5.heap.size u5 V → RdB V (some ⟨g, 32 * k, none⟩) (secs d.l k) := fun V hV _ => ⟨g, 32 * k, rfl, Nat.lt_of_lt_of_le hg5 hV.size, by have := (hat5.carry (hV.block g hg5)).sub (32 * k) 32; rw [Nat.zero_add] at this; exact this⟩
          have HRD : Hid (∀ V : World, Below u5.heap.size u5 V → RdB V (some ⟨g, 32 * k, none⟩) (secs d.l k)) := hrd
          by_cases hx1 : x > 0
          · rw [if_pos hx1] at hxs
            have HX : Hid (secs d.l k = secB x) := hxs
            have hse := sector_any x w6
            clear hrd hxs hwh hsl hL5 hat5
            go_wp2_with (first | (go_at_call 11; (with_reducible refine hse.mono ?_); rintro e u7 ⟨rfl, hs7, hb7⟩; have hb67 := bel2 hb6 hb7; have hsa := sameB_yes (some ⟨g, 32 * k, none⟩) (some ⟨w6.heap.size, 0, none⟩) (c - 32 * k) 32 (secB x) u7 (by have := HRD.out u7 (bel2 hbk hb67); rw [HX.out] at this; exact this) hs7.rd.rd (by rw [secB_len]; omega); rw [secB_len] at hsa) | (go_at_call 17; (with_reducible refine hsa.mono ?_); rintro e u8 ⟨rfl, hb8⟩))
            go_roundw
            case rel => exact ⟨k + 1, by simp, by omega, bel2 (bel2 hbk hb67) hb8⟩
            case measure => simp [vnat]; omega
          · rw [if_neg hx1] at hxs
            have HX : Hid (secs d.l k = List.replicate 32 0) := hxs
            have hsa := sameB_yes (some ⟨g, 32 * k, none⟩) (some ⟨wr.heap.size, 0, none⟩) (c - 32 * k) 32 (List.replicate 32 0) w6 (by have := HRD.out w6 (bel2 hbk hb6); rw [HX.out] at this; exact this) hs6.rd.rd (by rw [List.length_replicate]; omega)
            rw [List.length_replicate] at hsa
            clear hrd hxs hwh hsl hL5 hat5
            go_wp2_with (go_at_call 17; (with_reducible refine hsa.mono ?_); rintro e u8 ⟨rfl, hb8⟩)
            go_roundw
            case rel => exact ⟨k + 1, by simp, by omega, bel2 (bel2 hbk hb6) hb8⟩
            case measure => simp [vnat]; omega
        · have hkk : k = 8 := by omega
          subst hkk
          go_wp2_with (go_at_call 7; (with_reducible refine (hal _).mono ?_); rintro e u9 ⟨rfl, hb9⟩)
          go_ret
          exact ⟨rfl, bel2 (bel2 hB5 hbk) hb9⟩

set_option maxRecDepth 100000 in
theorem lifted (os : Os) (started : os.Started) (H : Type) (enc : TypeId × Value → H) :
    ReturnsInHanded {} Try.checked os 4 .any (Rows.diskWholeSpec.pre6 enc Try.prog Try.f4 Rows.diskWholeRow.domain false) (Rows.diskWholeSpec.post enc Try.prog Try.f4 false true false false) := by
  refine returnsInHanded_of_change (C := Try.checked) own started (by kernel_rfl) Try.func4
    (ChangeSpec.witness6 (enc := enc) (C := Try.checked) false ⟨#[], #[.int .i64 0, .slice none 0 0], []⟩ 8 (by kernel_rfl) (by kernel_rfl) (by kernel_rfl) (by kernel_rfl)) ?_
  intro W base args ds gs before hval0 hW hcnd _
  have hval : ∀ (j : Nat) t v, Try.f4.params[j]? = some t → args[j]? = some v → Value.okWide Try.prog W .any base t v := hval0
  have hW' := hW
  obtain ⟨p, q, hA0, hV, rfl, hfz, hnd⟩ := hW
  have hA : DataW.TrodAll enc Try.prog W 0 (fun _ => true) true Try.f4.params.toList args.toList ds p := hA0
  rw [Try.params4] at hA hval
  obtain ⟨v0, vs0, d0, ds0, p0, q0, hargs, rfl, rfl, h0, r0⟩ := trodAll_cons hA
  obtain ⟨v1, vs1, d1, ds1, p1, q1, rfl, rfl, rfl, h1, r1⟩ := trodAll_cons r0
  obtain ⟨rfl, rfl, rfl⟩ := trodAll_nil r1
  obtain rfl : args = #[v0, v1] := by cases args; simp_all
  obtain ⟨rfl, rfl⟩ := trodVars_none hV
  obtain ⟨a0, rfl, rfl, rfl, w0⟩ := open_int Try.underlying3 (hval 0 3 v0 rfl rfl) h0
  have k1 := h1
  have lt1 : ∀ x ∈ p1, x.block < W.heap.size := by obtain ⟨m, hm⟩ := k1; exact DataW.trod_lt m _ _ _ hm
  obtain ⟨ad1, cap1, l1, rfl, w1, hl1⟩ := open_list (hval 1 32 v1 rfl rfl) h1
  clear hA0 hval0
  refine (walk W a0 w0 ad1 cap1 l1 w1 hl1).mono fun e W' ⟨he, hg⟩ => ?_
  subst he
  exact ⟨_, rfl, _, _, _, [], _, [], hW', (trodAll_cons_mk (shut_bool Try.underlying4 _) trodAll_mk0), (trodAll_cons_mk (shut_int Try.underlying3 w0) (trodAll_cons_mk (Below.trod laidOut (by kernel_rfl) (of_decide_eq_true (by kernel_rfl)) k1 hg lt1) trodAll_mk0)), rfl, hg.frame _, fun h => by cases h⟩

theorem over : Rows.diskWholeRow.holds Try.pinned (OpenSpec.ofChange Rows.diskWholeSpec) :=
  OpenClaim.holds_of_wide 4 Try.f4 rfl rfl rfl rfl rfl rfl rfl ⟨rfl, rfl, rfl, rfl, rfl⟩ rfl rfl rfl rfl rfl (by kernel_rfl) Try.func4 (by kernel_rfl)
    (of_decide_eq_true (by kernel_rfl)) (by unfold Func.isWrapper; first | (rw [if_pos (by decide +kernel)]; kernel_rfl) | (rw [if_neg (by decide +kernel)]; exact ⟨rfl, rfl⟩))
    (fun os started H enc _ => lifted os started H enc)

theorem proved : Rows.DiskWholeSaid :=
  over
#print axioms proved
end Go.Proofs.Ytcnkpkdnpjhogaa
