/- spread.Absorb: what it answers, at every book and list. -/
import Derived.Test.YtddblfffjhoiaaaSpd
namespace Go.Proofs.Ytddblfffjhoiaaa
open Go.RowKit Go.Shelf Go.Lib
attribute [local go_sem] Oper.semAt_some

/-- The book behind Absorb. -/
def abs (l : List N3) (self : Int) (m : List N3) : List N3 := if m.all (vlx l.length) = true then mrg l (m.filter (nm self)) else l
/-- What Absorb tells. -/
def abr (l : List N3) (self : Int) (m : List N3) : Nat := if m.all (vlx l.length) = true then mrs l (m.filter (nm self)) else 0
theorem abs_bok {l : List N3} (hb : Bok l) (self : Int) (m : List N3) : Bok (abs l self m) := by
  unfold abs
  split
  · exact mrg_bok hb _
  · exact hb
theorem abs_len {l : List N3} (hb : Bok l) (self : Int) (m : List N3) : (abs l self m).length = l.length := by
  unfold abs
  split
  · exact mrg_len hb _
  · rfl
set_option maxHeartbeats 4000000 in
set_option maxRecDepth 100000 in
theorem absorb_any {w : World} {p g : Nat} {l : List N3} (hB : Bk w p g l) (self : Int) (ad : Option Addr) (cap : Nat) (m : List N3) (hm : RdN w ad m) (hl : m.length ≤ 1000000) : Calls Try.prog 13 #[.pointer (some ⟨p, 0, none⟩), .int .i64 self, .slice ad m.length cap] w fun e w' => e = .returned (.tuple #[sv (abr l self m), .int .i64 (if m.all (vlx l.length) = true then 0 else 50)]) ∧ Bk w' p g (abs l self m) ∧ w.grownBy w' (some g) := by
  obtain ⟨w1, hw1⟩ : ∃ w1, (w.alloc (.cells #[.int .i64 self] 3)).alloc (.cells #[.int .u32 0, .int .u32 0, .int .u32 0, .int .u32 0] 37) = w1 := ⟨_, rfl⟩
  have hb1 : Below w.heap.size w w1 := by rw [← hw1]; exact al2 _ _ _
  have hz1 : w1.heap.size = w.heap.size + 2 := by rw [← hw1]; simp
  have HZ1 : Hid (w1.heap.size = w.heap.size + 2) := hz1
  have hs1 : w1.heap[w.heap.size]? = some (.cells #[.int .i64 self] 3 (0, 0)) := by rw [← hw1]; exact old_at (new_at rfl)
  have hr1 : Holds4 w1 (w.heap.size + 1) (fun _ => 0) := by rw [← hw1]; exact new_at (by simp)
  clear hz1
  have hsz := bsize_any (hB.carry hb1)
  generalize hA : m.all (vlx l.length) = A
  have HA : Hid (m.all (vlx l.length) = A) := hA
  have HR : Hid (abr l self m = if A = true then mrs l (m.filter (nm self)) else 0) := by show _ = _; unfold abr; rw [hA]
  have HB : Hid (abs l self m = if A = true then mrg l (m.filter (nm self)) else l) := by show _ = _; unfold abs; rw [hA]
  clear hA
  cases A with
  | false =>
    go_enter Try.func13, Try.ntmps13
    go_wp2_with (first | (go_at_call 23; (with_reducible refine hsz.mono ?_); rintro e u2 ⟨rfl, hb2⟩; have hav := allv_any (l.length : Int) ad cap m u2 ((hm.carry hb1).carry hb2) (by omega); have hva : m.all (vln (l.length : Int)) = false := HA.out; rw [hva] at hav; clear hva) | (go_at_call 30; (with_reducible refine hav.mono ?_); rintro e u3 ⟨rfl, hb3⟩; have hr3 := (hr1.carry hb2).carry hb3; obtain ⟨x0, x1, x2, x3, y0, y1, y2, y3⟩ := hr3.facts))
    refine ret4t (M := 0) (x := .int .i64 50) rfl rfl rfl rfl (fin4 hr3 0) ?_
    rw [HR.out, HB.out, if_neg (by decide), if_neg (by decide)]
    have hbb : Below w.heap.size w u3 := bel2 (bel2 hb1 hb2) hb3
    have hk3 := hB.carry hbb
    have hne := hk3.ne4 hr3
    exact ⟨rfl, hk3.set_ne (M := 0) hne.1 hne.2, grown_res (M := 0) (grown_below0 hbb g) (Nat.le_succ _)⟩
  | true =>
    have HF : Hid ((m.filter (nm self)).all (vlx l.length) = true) := by
      show _ = _
      rw [List.all_eq_true]
      intro x hx
      exact List.all_eq_true.1 HA.out x (List.mem_filter.1 hx).1
    have hfl : (m.filter (nm self)).length ≤ 1000000 := Nat.le_trans (List.length_filter_le _ _) hl
    go_enter Try.func13, Try.ntmps13
    go_wp2_with (first | (go_at_call 23; (with_reducible refine hsz.mono ?_); rintro e u2 ⟨rfl, hb2⟩; have hav := allv_any (l.length : Int) ad cap m u2 ((hm.carry hb1).carry hb2) (by omega); have hva : m.all (vln (l.length : Int)) = true := HA.out; rw [hva] at hav; clear hva) | (go_at_call 30; (with_reducible refine hav.mono ?_); rintro e u3 ⟨rfl, hb3⟩; have hvs := vals_any u3 ad m.length cap) | (go_at_call 32; (with_reducible refine hvs.mono ?_); rintro e u4 ⟨rfl, hv4, hb4⟩; have hps := pass_any u4 54 31 #[.pointer (some ⟨u3.heap.size, 0, none⟩)] #[.pointer (some ⟨w.heap.size, 0, none⟩)]) | (go_at_call 28; (with_reducible refine hps.mono ?_); rintro e u5 ⟨rfl, hp5, hq5, hb5⟩; have hbb : Below w1.heap.size w1 u5 := bel2 (bel2 (bel2 hb2 hb3) hb4) hb5; have hs5 := (hbb.block _ (lt_at hs1)).trans hs1; have hm5 := (hm.carry hb1).carry hbb; have hsq := passV_seq (w := u5) m u4.heap.size (u4.heap.size + 1) u3.heap.size w.heap.size w.heap.size (nm self) _ (fun W => W.heap[w.heap.size]? = some (.cells #[.int .i64 self] 3 (0, 0))) (vals_seq m u3.heap.size w.heap.size ad cap u5 (by omega) ((hb5.block _ (lt_at hv4)).trans hv4)) hp5 (lt_at hs5) (fun x _ W hW => own1_any w.heap.size self x.1 x.2.1 x.2.2 hW); have hco := collect_any u4.heap.size (u4.heap.size + 1) hsq (lt_at hs5) (fun W hW => ⟨hm5.carry hW, (hW.block _ (lt_at hs5)).trans hs5, (hW.block _ (lt_at hq5)).trans hq5⟩) hfl; clear hsq) | (go_at_call 27; (with_reducible refine hco.mono ?_); rintro e u6 ⟨v, rfl, hmd, hb6⟩; obtain ⟨ad6, cap6, rfl, hrd, hnew⟩ := hmd.rd; have hb16 : Below w1.heap.size w1 u6 := bel2 hbb hb6; have hk6 := (hB.carry hb1).carry hb16; have hmg := merge_any hk6 ad6 cap6 (m.filter (nm self)) hrd (fun _ a e => (by have h1 := hnew a e; have h2 := hB.glt; have h3 := hbb.size; have h4 := HZ1.out; omega)) (by omega); rw [if_pos HF.out] at hmg; unfold sv at hmg) | (go_at_call 21; (with_reducible refine hmg.mono ?_); rintro e u7 ⟨rfl, hk7, hg7⟩; have hr6 := hr1.carry hb16; have hr7 := hr6.turn hk6 hg7; obtain ⟨x0, x1, x2, x3, y0, y1, y2, y3⟩ := hr7.facts))
    refine ret4t (M := mrs l (m.filter (nm self))) (x := .int .i64 0) rfl rfl rfl rfl (fin4 hr7 _) ?_
    rw [HR.out, HB.out]
    simp only [if_true]
    have hne := hk7.ne4 hr7
    exact ⟨trivial, hk7.set_ne hne.1 hne.2, grown_res (grown_then (bel2 hb1 hb16) hg7) (Nat.le_succ _)⟩
end Go.Proofs.Ytddblfffjhoiaaa
