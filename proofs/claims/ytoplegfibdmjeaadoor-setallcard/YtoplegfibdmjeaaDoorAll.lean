/- The words of idset.All and of its function, as an iterator: at every set. -/
import Derived.Test.YtoplegfibdmjeaaDoorTz
import Derived.Shelf.Abstract
import Derived.Shelf.RegionOpen
import Derived.WalkKit
import Derived.WalkSpells
import Derived.OwnWalkIn
import Derived.TacticsInMore
import Derived.LoopNIn
import Derived.LoopIn
import Derived.Lib.OthersKept
namespace Go.Proofs.YtoplegfibdmjeaaDoor
open Go.RowKit Go.Shelf Go.Lib
attribute [local go_sem] Oper.semAt_some

theorem wfn (k : Nat) : Fence.wide.fn k := trivial
theorem wdep : Fence.wide.depth = none := rfl
theorem ownFrom_le {β : Type} {B B' : Nat} {I : β → World → Prop} (h : OwnFrom B I) (hle : B ≤ B') : OwnFrom B' I := fun s W W' row hs hg hr => h s W W' row hs hg (fun r e => ⟨Nat.le_trans hle (hr r e).1, (hr r e).2⟩)
theorem blk_own {β : Type} (B : Nat) (f : β → Obj) (hc : ∀ s, (f s).isCells = true) : Own (fun s W => W.heap[B]? = some (f s)) := fun s _ _ _ hs hg hrow => (grownBy_keeps_cells hg hrow hs (hc s)).trans hs

set_option maxHeartbeats 1000000 in
set_option maxRecDepth 100000 in
theorem all1_seq (M : Nat) (bx : Nat) (w : World) (hbx : Holds4 w bx (wd M)) :
    SeqE Tryd.prog Tab 19 #[.pointer (some ⟨bx, 0, none⟩)] (fun i : Nat => #[.int .i64 (i : Int)]) bx 0 (idsTo M 128) w := by
  intro l J Jx W hW hJ hJx hE hY h0
  have hmx : Tryd.prog.follows .mixedOrders = true := by kernel_rfl
  have hbW : Holds4 W bx (wd M) := (hW.block bx hbx.lt).trans hbx
  refine callsIn_of_wp Tryd.func19 rfl trivial ?_ rfl
  simp only [Tryd.ntmps19, List.size_toArray, List.length_cons, List.length_nil, Nat.reduceAdd, Nat.reduceSub, Array.replicate_succ, Array.replicate_zero, List.push_toArray, List.append_toArray, List.nil_append, List.cons_append]
  gi_wp2
  gi_loopw [5] (fun c wr => ∃ k : Nat, c = .int .i64 k ∧ k ≤ 4 ∧ Holds4 wr bx (wd M) ∧ J (idsTo M (32 * k)) wr ∧ W.heap.size ≤ wr.heap.size) (fun c _ => 4 - vnat c)
  case atStart => exact ⟨0, rfl, by omega, hbW, h0, Nat.le_refl _⟩
  case round =>
    obtain ⟨k, rfl, hk, hb, hj, hsz⟩ := hrel
    by_cases hk4 : k < 4
    · have hki : (k : Int) < 4 := by omega
      have hix := idx4 bx k hk4
      have hld := hb.cell k hk4
      gi_wp2
      gi_loopw [4] (fun c wz => ∃ x p : Nat, c = .int .u32 (x : Int) ∧ x < 4294967296 ∧ High x (wd M k) p ∧ p ≤ 32 ∧ Holds4 wz bx (wd M) ∧ J (idsTo M (32 * k + p)) wz ∧ W.heap.size ≤ wz.heap.size) (fun c _ => vnat c)
      case atStart => exact ⟨wd M k, 0, rfl, wd_lt M k, fun i => by simp, by omega, hb, hj, hsz⟩
      case round =>
        rename_i wz _ _
        obtain ⟨x, p, rfl, hx, hH, hp, hb2, hj2, hsz2⟩ := hrel
        by_cases h0x : x = 0
        · subst h0x
          have e : idsTo M (32 * (k + 1)) = idsTo M (32 * k + p) := by
            rw [show 32 * (k + 1) = 32 * k + p + (32 - p) by omega]
            refine idsTo_gap M _ _ (fun i h1 h2 => ?_)
            have h3 := hH (i - 32 * k)
            rw [testBit_wd, show 32 * k + (i - 32 * k) = i by omega] at h3
            simpa [show p ≤ i - 32 * k by omega, show i - 32 * k < 32 by omega] using h3.symm
          gi_wp2
          exact ⟨⟨k + 1, by simp, by omega, hb2, by rw [e]; exact hj2, hsz2⟩, by simp only [vnat]; omega⟩
        · obtain ⟨n1, n2, n3, n4⟩ := hH.next h0x hx
          have hc32 := (testBit_ctz x h0x hx).2.2.1
          have n5 : M.testBit (32 * k + ctz 32 x) = true := by rw [testBit_wd] at n2; simpa [hc32] using n2
          have e : idsTo M (32 * k + (ctz 32 x + 1)) = idsTo M (32 * k + p) ++ [32 * k + ctz 32 x] := by
            refine idsTo_next M (32 * k + p) (32 * k + ctz 32 x) (by omega) (fun i h1 h2 => ?_) n5
            have h3 := n3 (i - 32 * k) (by omega) (by omega)
            rw [testBit_wd, show 32 * k + (i - 32 * k) = i by omega] at h3
            simpa [show i - 32 * k < 32 by omega] using h3
          have hpr : idsTo M (32 * k + p) ++ [32 * k + ctz 32 x] <+: idsTo M 128 := by rw [← e]; exact idsTo_prefix M (by omega)
          have hxne : ((x : Int) != 0) = true := by simp; omega
          have hyl := hY _ _ _ hj2 (by omega) hpr
          have htz := tz_any x hx h0x _ (hE _ _ hj2)
          have hlt := and_pred_lt x h0x
          have hbits : bits BinOp.and IntKind.u32 (x : Int) ((x : Int) - 1) = ((x &&& (x - 1) : Nat) : Int) := by
            rw [show (x : Int) - 1 = ((x - 1 : Nat) : Int) by omega]
            exact u32_and_nat x (x - 1) hx (by omega)
          generalize ctz 32 x = c at *
          have hv : (k : Int) * 32 + (c : Int) = 32 * (k : Int) + (c : Int) := by omega
          obtain ⟨fn, tmps, assign, body, hy, hR⟩ := hyl
          rw [show ((32 * k + c : Nat) : Int) = (k : Int) * 32 + (c : Int) by omega] at hy
          clear hH hY hv
          gi_wp2_with (refine ⟨trivial, rfl, ?_⟩; gi_at_call 20; refine (callsIn_wide.2 htz).mono ?_; rintro e w' ⟨rfl, rfl⟩)
          refine ⟨rfl, hR.mono ?_⟩
          rintro e' W3 ⟨hkp, (⟨rfl, hj3⟩ | ⟨rfl, hjx⟩)⟩
          · have hb3 : Holds4 W3 bx (wd M) := hkp.box.trans hb2
            have hsz3 := hkp.size
            gi_wp2
            go_roundw
            case rel => exact ⟨x &&& (x - 1), c + 1, rfl, by omega, n4, by omega, hb3, by rw [e]; exact hj3, by omega⟩
            case measure => simp only [vnat]; omega
          · gi_wp2
            refine bodyPost_ret (results_none rfl _ _ _) rfl ?_
            exact ⟨⟨_, rfl⟩, .inr ⟨_, hpr, hjx⟩⟩
    · have hk5 : k = 4 := by omega
      subst hk5
      gi_wp2
      go_end0
      exact ⟨⟨_, rfl⟩, .inl hj⟩

/-- All(s): the function, over a new box that holds the clean set. -/
theorem all_any (N : Nat) (w : World) :
    Calls Tryd.prog 11 #[sv N] w fun e w' => e = .returned (.func (.func 19) #[] #[.pointer (some ⟨w.heap.size, 0, none⟩)]) ∧ Below w.heap.size w w' ∧ Holds4 w' w.heap.size (wd (cln N)) := by
  have hc := clean_any N
  generalize cln N = M at *
  simp only [sv] at hc ⊢
  go_enter Tryd.func11, Tryd.ntmps11
  go_wp2_with (go_at_call 18; refine (hc _).mono ?_; rintro e w1 ⟨rfl, hb⟩; have q : Hid (Holds4 w1 w.heap.size (wd N)) := (hb.block _ (by simp)).trans (get_new (by simp)); obtain ⟨y0, y1, y2, y3, z0, z1, z2, z3⟩ := q.out.facts; have hb2 : Below w.heap.size w w1 := ((Below.refl _ w).alloc (by simp) _).trans (hb.mono (by simp)))
  go_ret
  exact ⟨rfl, below4 hb2 (Nat.le_refl _) M, fin4 q.out M⟩
end Go.Proofs.YtoplegfibdmjeaaDoor
