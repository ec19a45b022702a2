/- spread.Ride; the laws' own made, light, alive. -/
import Derived.Test.YtddblfffjhoiaaaSpi
namespace Go.Proofs.Ytddblfffjhoiaaa
open Go.RowKit Go.Shelf Go.Lib
attribute [local go_sem] Oper.semAt_some

set_option maxHeartbeats 1000000 in
theorem ride_any {w : World} {p g : Nat} {l : List N3} (h : Bk w p g l) (h0 : 0 < l.length) (h1 : l.length ≤ 100) : Calls Try.prog 17 #[.pointer (some ⟨p, 0, none⟩)] w fun e w' => ∃ v, e = .returned v ∧ Made w w' v (l.filter pNew) ∧ Below w.heap.size w w' := by
  have hn := bnews_any h h0 h1
  go_enter Try.func17, Try.ntmps17
  go_wp2_with (go_at_call 39; (with_reducible refine hn.mono ?_); rintro e u1 ⟨v, rfl, hm, hb1⟩)
  go_ret
  exact ⟨v, rfl, hm, hb1⟩
theorem grown_new {w W V : World} {g : Nat} (hb : Below w.heap.size w W) (hg : W.grownBy V (some g)) (h : w.heap.size ≤ g) : Below w.heap.size w V :=
  hb.trans ⟨hg.os, hg.tape, hg.output, hg.size, fun k hk => hg.block k (Nat.lt_of_lt_of_le hk hb.size) (by simp; omega)⟩
set_option maxHeartbeats 4000000 in
set_option maxRecDepth 100000 in
theorem made_any {w : World} (N s : Nat) (h0 : 1 ≤ N) (h1 : N ≤ 100) (hs : s < N) (ad : Option Addr) (cap : Nat) (l : List N3) (h : RdN w ad l) (hl : l.length ≤ 1000000) : Calls Try.prog 9 #[.int .i64 (N : Int), .int .i64 (s : Int), .slice ad l.length cap] w fun e w' => ∃ p g, e = .returned (.pointer (some ⟨p, 0, none⟩)) ∧ w.heap.size ≤ p ∧ w.heap.size ≤ g ∧ Bk w' p g (mrg (bk0 N s 0) l) ∧ Below w.heap.size w w' := by
  have hn := new_any (N : Int) (s : Int) 0 w
  have HOK : Hid (∀ (V : World) (e : Ending), NewV (N : Int) (s : Int) 0 w e V → ∃ p g, e = .returned (.tuple #[.pointer (some ⟨p, 0, none⟩), .int .i64 0]) ∧ w.heap.size ≤ p ∧ w.heap.size ≤ g ∧ Bk V p g (bk0 N s 0)) := fun V e hV => by simpa using hV.ok (by omega) (by omega) (by omega)
  clear h0 h1 hs
  go_enter Try.func9, Try.ntmps9
  go_wp2_with (first | (go_at_call 20; (with_reducible refine hn.mono ?_); rintro e u1 hV; obtain ⟨p, g, rfl, hp, hg, hk⟩ := HOK.out _ _ hV; have hb1 := hV.1; clear hV; have hm := merge_some hk ad cap l (h.carry hb1) (h.ne hg) (by omega)) | (go_at_call 21; (with_reducible refine hm.mono ?_); rintro e u2 ⟨⟨NN, EE, rfl⟩, hk2, hg2⟩))
  go_ret
  exact ⟨p, g, rfl, hp, hg, hk2, grown_new hb1 hg2 hg⟩
set_option maxHeartbeats 1000000 in
theorem light_any (w : World) (ad : Option Addr) (n cap : Nat) : Calls Try.prog 7 #[.slice ad n cap] w fun e w' => e = .returned (.bool (decide (n ≤ 300))) ∧ w' = w := by
  go_enter Try.func7, Try.ntmps7
  go_wp2
  go_ret
  refine ⟨?_, rfl⟩
  simp
  omega
set_option maxHeartbeats 4000000 in
set_option maxRecDepth 100000 in
theorem alive_any (w : World) : Calls Try.prog 8 #[] w fun e w' => e = .returned (.bool true) ∧ Below w.heap.size w w' := by
  have hn := new_any 3 0 0 w
  have e4 : sv 4 = .agg #[.int .u32 4, .int .u32 0, .int .u32 0, .int .u32 0] := by kernel_rfl
  have hq := eqn4 4 4 (by decide) (by decide)
  rw [e4] at hq
  have HA : Hid (∀ (W : World) (p g B : Nat), Bk W p g (bk0 3 0 0) → NB W B 2 1 1 → Calls Try.prog 13 #[.pointer (some ⟨p, 0, none⟩), .int .i64 0, .slice (some ⟨B, 0, none⟩) 1 1] W fun e w' => e = .returned (.tuple #[.agg #[.int .u32 4, .int .u32 0, .int .u32 0, .int .u32 0], .int .i64 0]) ∧ Bk w' p g [(0, 0, 1), (1, 0, 1), (2, 1, 1)] ∧ W.grownBy w' (some g)) := fun W p g B h hB => by
    have hr : RdN W (some ⟨B, 0, none⟩) [((2 : Int), (1 : Int), (1 : Int))] := fun _ => ⟨B, 0, rfl, lt_at hB, fun k x hk => by
      match k, hk with
      | 0, hk => cases hk; exact ⟨hB.c0, hB.c1, hB.c2⟩
      | k + 1, hk => simp at hk⟩
    have := absorb_any h 0 (some ⟨B, 0, none⟩) 1 _ hr (by simp)
    have e1 : abs (bk0 3 0 0) 0 [(2, 1, 1)] = [(0, 0, 1), (1, 0, 1), (2, 1, 1)] := by decide
    have e2 : abr (bk0 3 0 0) 0 [(2, 1, 1)] = 4 := by decide
    have e3 : (if ([((2 : Int), (1 : Int), (1 : Int))]).all (vlx (bk0 3 0 0).length) = true then (0 : Int) else 50) = 0 := by decide
    rw [e1, e2, e3, e4] at this
    exact this
  have HR : Hid (∀ (W : World) (p g : Nat), Bk W p g [(0, 0, 1), (1, 0, 1), (2, 1, 1)] → Calls Try.prog 17 #[.pointer (some ⟨p, 0, none⟩)] W fun e w' => ∃ B cap, e = .returned (.slice (some ⟨B, 0, none⟩) 1 cap) ∧ w'.cell? ⟨B, 0, none⟩ = some (.int .i64 2) ∧ Below W.heap.size W w') := fun W p g h => (ride_any h (by decide) (by decide)).mono (by
    rintro e w' ⟨v, rfl, hm, hb⟩
    have e1 : ([((0 : Int), (0 : Int), (1 : Int)), (1, 0, 1), (2, 1, 1)]).filter pNew = [(2, 1, 1)] := by decide
    rw [e1] at hm
    obtain ⟨B, cap, rfl⟩ := ownsRow_succ hm
    exact ⟨B, cap, rfl, by have := (nts_own hm rfl 0 _ rfl).1; simpa using this, hb⟩)
  go_enter Try.func8, Try.ntmps8
  go_wp2_with (first | (go_at_call 20; (with_reducible refine hn.mono ?_); rintro e u1 hV; obtain ⟨p, g, rfl, hp, hg, hk⟩ := hV.ok (by decide) (by decide) (by decide); have hb1 := hV.1; clear hV; obtain ⟨u2, hu2⟩ : ∃ u2, u1.alloc (.cells #[.int .i64 2, .int .i64 1, .int .i64 1] 32) = u2 := ⟨_, rfl⟩; have hb2 : Below u1.heap.size u1 u2 := (by rw [← hu2]; exact al1 _ _); have hB : NB u2 u1.heap.size 2 1 1 := (by rw [← hu2]; exact NB.new _ _ _ _); have k1 := HA.out u2 p g u1.heap.size (hk.carry hb2) hB) | (go_at_call 13; (with_reducible refine k1.mono ?_); rintro e u3 ⟨rfl, hk3, hg3⟩; have hb3 : Below w.heap.size w u3 := grown_new (bel2 hb1 hb2) hg3 hg; have k2 := HR.out _ p g (hk3.alloc (.cells #[.int .u32 4, .int .u32 0, .int .u32 0, .int .u32 0] 37)); have hs4 : Holds4 (u3.alloc (.cells #[.int .u32 4, .int .u32 0, .int .u32 0, .int .u32 0] 37)) u3.heap.size (wd 4) := new_at rfl) | (go_at_call 17; (with_reducible refine k2.mono ?_); rintro e u4 ⟨B, cap, rfl, hc, hb4⟩; obtain ⟨x0, x1, x2, x3, _, _, _, _⟩ := (hs4.carry hb4).facts; rw [show wd 4 0 = 4 by kernel_rfl] at x0; rw [show wd 4 1 = 0 by kernel_rfl] at x1; rw [show wd 4 2 = 0 by kernel_rfl] at x2; rw [show wd 4 3 = 0 by kernel_rfl] at x3))
  go_ret
  exact ⟨rfl, bel2 (hb3.alloc hb3.size _) hb4⟩
end Go.Proofs.Ytddblfffjhoiaaa
