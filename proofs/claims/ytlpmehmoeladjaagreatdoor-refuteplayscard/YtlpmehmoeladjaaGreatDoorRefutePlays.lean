/- RefutePlays (promise P1502): every Defend, again and again, with a power that fails, answers what the document's answers; the book, the boot's tag and durable record, and the disk are the document's behind each. For every input; nothing is asked of it. -/
import Derived.Test.YtlpmehmoeladjaaGreatDoorRows
import Derived.WalkKit
import Derived.ProofKit
import Derived.OpenShut
import Derived.Stop.Joined
import Derived.Lay
import Derived.SevenTiedAt
import Derived.SizedLaws
import Derived.LaidMore
import Derived.Test.YtlpmehmoeladjaaGreatDoorTie
import Derived.Test.YtlpmehmoeladjaaGreatDoorCards
import Derived.Test.YtlpmehmoeladjaaGreatDoorJnJ22
import Derived.Test.YtlpmehmoeladjaaGreatDoorJnJ30
import Derived.Test.YtlpmehmoeladjaaGreatDoorJnJ31
namespace Go.Proofs.YtlpmehmoeladjaaGreatDoor
open Go.ChangeShapes Go.WideShapes Go.ChangeAt Go.RowKit
set_option linter.unusedVariables false

theorem laidOut : laidOutB Tryz.prog = true := by kernel_rfl
theorem own : ownKnob Tryz.prog.godebug = none := by kernel_rfl
open Go.Shelf Go.Lib
theorem infoBk6 : (Tryz.prog.info? 46).map (·.size) = some 1 := by kernel_rfl
theorem infoNt : (Tryz.prog.info? 60).map (·.size) = some 3 := by kernel_rfl
theorem setRow_oth (W : World) (b k : Nat) (cs : Array Value) (h : k ≠ b) : (W.setRow b cs).heap[k]? = W.heap[k]? := setRow_other h
theorem infoOp : (Tryz.prog.info? 50).map (·.size) = some 3 := by kernel_rfl
set_option maxHeartbeats 40000000 in
set_option maxRecDepth 100000 in
theorem walk (w : World) (a0 : Int) (w0 : (Lit.int .i64 a0).wf = true) (a1 : Int) (w1 : (Lit.int .i64 a1).wf = true) (ad2 : Option Addr) (cap2 : Nat) (l2 : List Op3) (w2 : RdO w w.heap.size ad2 l2) (hc2 : l2.length ≤ cap2) (hm2 : cap2 ≤ maxLen) (hL : laidMetH Tryz.prog Rows.refutePlaysRow.laid w) :
    Calls Tryz.prog 3 #[.int .i64 a0, .int .i64 a1, .slice ad2 l2.length cap2] w fun e w' => e = .returned (.bool true) ∧ Below w.heap.size w w' := by
  have hmx : Tryz.prog.follows .mixedOrders = true := by kernel_rfl
  obtain ⟨sa, hs⟩ := sn_of hL
  clear hL
  have w0' := hs.lt
  by_cases hl : l2.length ≤ 40
  case neg =>
    have hli : ((l2.length : Int) > 40) := by omega
    have st := alive_any hs
    go_enter Tryz.func3, Tryz.ntmps3
    go_wp2_with (go_at_call 4; (with_reducible refine st.mono ?_); rintro e u ⟨rfl, hb⟩)
    go_ret
    exact ⟨rfl, hb⟩
  have hli : ¬ ((l2.length : Int) > 40) := by omega
  have hdn := dnew_any w
  obtain ⟨b1, b2, b3, b4, b5, b6⟩ := op0
  have hro : ∀ V lb, ∀ {r : Nat}, RfD V lb 0 w.heap.size r 256 d0 → Calls Tryz.prog 8 #[.pointer (some ⟨lb, 0, none⟩)] V fun e w' => e = .returned (.tuple #[.agg #[.int .i64 1, .int .i64 16, .int .i64 4, .int .i64 1, .int .i64 0, .int .i64 0], .int .i64 0]) ∧ RfD w' lb 0 w.heap.size r 256 (dOp d0).d ∧ Tf lb 0 r V w' := fun V lb {r} hY => (rOpen_any hY (fun e => by cases e) (by decide) (by decide)).mono (by rintro e w' ⟨h1, _, h3, h4⟩; rw [b2] at h1; exact ⟨h1 b1, h3, h4⟩)
  clear b1 b2
  obtain ⟨DD, hDD⟩ : ∃ D, (dOp d0).d = D := ⟨_, rfl⟩
  rw [hDD] at b3 b4 b5 b6
  simp only [hDD] at hro
  by_cases hv : ¬ (a0 < 1 ∨ 100 < a0) ∧ ¬ (a1 < 0 ∨ a0 ≤ a1) ∧ ¬ ((0 : Int) < 0 ∨ 1048576 < (0 : Int))
  case neg =>
    obtain ⟨E, hE, hnw, hrn⟩ : ∃ E : Int, (E != 0) = true ∧ (∀ V, Calls Tryz.prog 9 #[.int .i64 a0, .int .i64 a1, .int .i64 0] V fun e w' => e = .returned (.tuple #[.pointer none, .int .i64 E]) ∧ Below V.heap.size V w') ∧ (∀ V, Calls Tryz.prog 10 #[.int .i64 a0, .int .i64 a1, .int .i64 0] V fun e w' => e = .returned (.tuple #[.agg #[.slice none 0 0], .int .i64 E]) ∧ Below V.heap.size V w') := by
      refine ⟨if a0 < 1 ∨ 100 < a0 then 1 else if a1 < 0 ∨ a0 ≤ a1 then 30 else 50, by split; decide; split <;> decide, fun V => (new_any a0 a1 0 V).mono ?_, fun V => (rNew_any a0 a1 0 V).mono ?_⟩
      all_goals
        rintro e w' ⟨hb, h⟩
        refine ⟨?_, hb⟩
        split at h
        · rename_i h1; rw [if_pos h1]; exact h
        · rename_i h1
          rw [if_neg h1]
          split at h
          · rename_i h2; rw [if_pos h2]; exact h
          · rename_i h2
            rw [if_neg h2]
            split at h
            · exact h
            · rename_i h3; exact absurd ⟨h1, h2, h3⟩ hv
    clear b3 b4 b5 b6 hv w2
    go_enter Tryz.func3, Tryz.ntmps3
    go_wp2_with (first
      | (have m := st7; go_at_call 4; (with_reducible refine st7.mono ?_); rintro e u8 ⟨rfl, hu8⟩)
      | (have m := st6; go_at_call 10; (with_reducible refine st6.mono ?_); rintro e u6 ⟨rfl, hu6⟩; obtain ⟨vr, hvr⟩ : ∃ vr, u6.alloc (.cells #[.slice none 0 0] 46) = vr := ⟨_, rfl⟩; have Gvr : RB vr u6.heap.size (.slice none 0 0) := (by rw [← hvr]; exact new_at rfl); have hbr : Below u6.heap.size u6 vr := (by rw [← hvr]; exact al1' _ _); have cr := Gvr.cell; have tr := Gvr.thaw; obtain ⟨x6, hx6⟩ : ∃ x, vr.setCell ⟨u6.heap.size, 0, none⟩ (.slice none 0 0) = x := ⟨_, rfl⟩; have hbs : Below u6.heap.size u6 x6 := (by rw [← hx6]; exact hbr.setCell (Nat.le_refl _) _); have Y6 := bel2 (bel2 (bel2 Y5 hu5) hu6) hbs; have st7 := alive_any (hs.carry Y6))
      | (have m := st5; go_at_call 9; (with_reducible refine st5.mono ?_); rintro e u5 ⟨rfl, hu5⟩; have st6 := hrn u5)
      | (refine wpList_store_row rfl 37 (.tmp 11) (.tmp 39) rfl u4.heap.size #[.int .i64 1, .int .i64 16, .int .i64 4, .int .i64 1, .int .i64 0, .int .i64 0] rfl rfl 37 _ hgk infoRB rfl (by simp [Value.oneCell']) ?_; obtain ⟨x4, hx4⟩ : ∃ x, vk.setRow u4.heap.size #[.int .i64 1, .int .i64 16, .int .i64 4, .int .i64 1, .int .i64 0, .int .i64 0] = x := ⟨_, rfl⟩; have Gx4 : x4.heap[u4.heap.size]? = some (.cells #[.int .i64 1, .int .i64 16, .int .i64 4, .int .i64 1, .int .i64 0, .int .i64 0] 37 (0, 0)) := (by rw [← hx4]; exact setRow_heap _ _ _ _ _ _ hgk); have hbx : Below u4.heap.size u4 x4 := (by rw [← hx4]; exact below_setRow hbk (Nat.le_refl _)); have Y5 : Below w.heap.size w x4 := bel2 Y4 hbx; have K5 : BB x4 u4.heap.size 0 0 u2.heap.size ⟨⟨1, 16, 4⟩, 0, 0⟩ := Gx4; have R5 := hR4.carry hbx; have B5 := hB4.carry hbx; have D5 := hD4.carry hbx; have s5 := hT4.size; have s6 := hbx.size; have st5 := hnw x4; rw [hx4])
      | (have m := st4; go_at_call 8; (with_reducible refine st4.mono ?_); rintro e u4 ⟨rfl, hR4, hT4⟩; obtain ⟨vk, hvk⟩ : ∃ vk, u4.alloc (.cells #[.int .i64 0, .int .i64 0, .int .i64 0, .int .i64 0, .int .i64 0, .int .i64 0] 37) = vk := ⟨_, rfl⟩; have hgk : vk.heap[u4.heap.size]? = some (.cells #[.int .i64 0, .int .i64 0, .int .i64 0, .int .i64 0, .int .i64 0, .int .i64 0] 37 (0, 0)) := (by rw [← hvk]; exact new_at rfl); have hbk : Below u4.heap.size u4 vk := (by rw [← hvk]; exact al1' _ _); have Y4 : Below w.heap.size w u4 := Y3.trans (hT4.below (by omega) (by omega) Y3.size); have ql : q < u3.heap.size := lt_at hB3; have hl3 := hR3.lt; have s4 := hT3.size; obtain ⟨_, lk3⟩ := hR3.lk; obtain ⟨_, _, rb3⟩ := hR3.rb; have hB4 : Bt u4 q (some ⟨w.heap.size, 0, none⟩) ⟨⟨1, 16, 4⟩, 0, 0⟩ := (hT4.block _ ql (ty_ne hB3 lk3 (by decide)) (ty_ne hB3 rb3 (by decide))).trans hB3; have hD4 : Dk u4 w.heap.size DD := ⟨(hT4.block _ hD3.lt (ty_ne hD3.obj lk3 (by decide)) (ty_ne hD3.obj rb3 (by decide))).trans hD3.obj, hD3.len, hD3.byt⟩)
      | (have m := st3; go_at_call 7; (with_reducible refine st3.mono ?_); rintro e u3 ⟨q, rfl, hq, hB3, hD3, hT3⟩; have s1 := hu1.size; have s2 := hu2.size; have s3 := hbc.size; have Y3 : Below w.heap.size w u3 := Yc.trans (hT3.below (Nat.le_refl _) Yc.size); have hR3 : RfD u3 u2.heap.size 0 w.heap.size r 256 d0 := hRc.same (hT3.block _ hRc.lt.1 (by omega)) (hT3.block _ hRc.lt.2 (by omega)); have st4 := hro u3 _ hR3)
      | (refine wpList_store_row rfl 28 (.tmp 8) (.tmp 31) rfl u2.heap.size #[.slice (some ⟨r, 0, none⟩) 256 256, .bool false, .int .i64 (-1), .int .i64 0] rfl rfl 28 _ hgz info_rd rfl (by simp [Value.oneCell']) ?_; obtain ⟨vc, hvc⟩ : ∃ x, vz.setRow u2.heap.size #[.slice (some ⟨r, 0, none⟩) 256 256, .bool false, .int .i64 (-1), .int .i64 0] = x := ⟨_, rfl⟩; have Gvc : vc.heap[u2.heap.size]? = some (.cells #[.slice (some ⟨r, 0, none⟩) 256 256, .bool false, .int .i64 (-1), .int .i64 0] 28 (0, 0)) := (by rw [← hvc]; exact setRow_heap _ _ _ _ _ _ hgz); have hbc : Below u2.heap.size u2 vc := (by rw [← hvc]; exact below_setRow hbz (Nat.le_refl _)); have hDc := (hD1.carry hu2).carry hbc; have hRc : RfD vc u2.heap.size 0 w.heap.size r 256 d0 := ⟨cell_at Gvc 0, cell_at Gvc 1, cell_at Gvc 2, cell_at Gvc 3, row_base (row_belowZ hrow hbc) hu1.size, ⟨_, Gvc⟩, d0_len, byt_zero 256⟩; have Yc : Below w.heap.size w vc := bel2 (bel2 hu1 hu2) hbc; have st3 := open0_any hDc; rw [hDD] at st3; rw [hvc])
      | (have m := st1; go_at_call 6; (with_reducible refine st1.mono ?_); rintro e u2 ⟨r, rfl, hrg, hrow, hu2⟩; obtain ⟨vz, hvz⟩ : ∃ vz, u2.alloc (.cells #[.slice none 0 0, .bool false, .int .i64 0, .int .i64 0] 28) = vz := ⟨_, rfl⟩; have hgz : vz.heap[u2.heap.size]? = some (.cells #[.slice none 0 0, .bool false, .int .i64 0, .int .i64 0] 28 (0, 0)) := (by rw [← hvz]; exact new_at rfl); have hbz : Below u2.heap.size u2 vz := (by rw [← hvz]; exact al1' _ _))
      | (go_at_call 5; (with_reducible refine hdn.mono ?_); rintro e u1 ⟨rfl, hD1, hlt, hu1⟩; have st1 := rnew_any u1; unfold rdV at st1))
    go_ret
    exact ⟨rfl, bel2 Y6 hu8⟩
  obtain ⟨v1, v2, v3⟩ := hv
  have hnw := new_ok v1 v2 v3
  obtain ⟨L0, hL0⟩ : ∃ L, bk0 a0.toNat a1.toNat 0 = L := ⟨_, rfl⟩
  have hbo0 : Bok L0 := by rw [← hL0]; exact bk0_bok (by omega) (by omega)
  have hlen0 : L0.length = a0.toNat := by rw [← hL0]; exact bk0_len _ _ _
  rw [hL0] at hnw
  obtain ⟨N, hN⟩ : ∃ N, a0.toNat = N := ⟨_, rfl⟩
  have hrn : ∀ V, Calls Tryz.prog 10 #[.int .i64 a0, .int .i64 a1, .int .i64 0] V fun e w' => ∃ ad cap, e = .returned (.tuple #[.agg #[.slice ad N cap], .int .i64 0]) ∧ RdN w' ad L0 ∧ N ≤ cap ∧ (∀ a, ad = some a → V.heap.size ≤ a.block ∧ ∃ cur, w'.heap[a.block]? = some (.cells cur 60 (0, 0))) ∧ Below V.heap.size V w' := fun V =>
    (rNew_any a0 a1 0 V).mono (by
      rintro e w' h
      obtain ⟨ad, cap, rfl, h1, h2, h3⟩ := h.ok v1 v2 v3
      rw [hL0] at h1
      rw [hN] at h2 ⊢
      exact ⟨ad, cap, rfl, h1, h2, h3, h.1⟩)
  have hN0 : 0 < N := by omega
  have hN100 : N ≤ 100 := by omega
  have HK0 : Hid (KP N L0 DD ⟨⟨1, 16, 4⟩, 0, 0⟩ 0) := ⟨hbo0, hlen0.trans hN, ⟨1, by omega, b5⟩, by omega, by omega⟩
  have HW2 : Hid (RdO w w.heap.size ad2 l2) := w2
  clear hL0 hN hbo0 hlen0 b3 b4 b5 b6 v1 v2 v3 w2
  go_enter Tryz.func3, Tryz.ntmps3
  go_wp2_with (first
    | (have m := st6; go_at_call 10; (with_reducible refine st6.mono ?_); rintro e u6 ⟨ad, cap, rfl, hR6, hc6, ha6, hu6⟩; obtain ⟨x6, hx6⟩ : ∃ x, u6.alloc (.cells #[.slice ad N cap] 46) = x := ⟨_, rfl⟩; have Gx6 : RB x6 u6.heap.size (.slice ad N cap) := (by rw [← hx6]; exact new_at rfl); have hbs : Below u6.heap.size u6 x6 := (by rw [← hx6]; exact al1' _ _); have gl := hK5.glt; have hPL : Pl w w.heap.size p g q u2.heap.size r 256 u4.heap.size u6.heap.size N L0 DD ⟨⟨1, 16, 4⟩, 0, 0⟩ L0 DD ⟨⟨1, 16, 4⟩, 0, 0⟩ ad cap x6 := ⟨(hK5.carry hu6).carry hbs, ((B5.carry hu5).carry hu6).carry hbs, ((D5.carry hu5).carry hu6).carry hbs, ((R5.carry hu5).carry hu6).carry hbs, ((K5.carry hu5).carry hu6).carry hbs, Gx6, hR6.carry hbs, fun a ha => (by obtain ⟨e1, cur, e2⟩ := ha6 a ha; exact ⟨by omega, cur, (hbs.block _ (lt_at e2)).trans e2⟩), bel2 (bel2 (bel2 Y5 hu5) hu6) hbs⟩; have hHi : Hi w w.heap.size g q u2.heap.size u4.heap.size u6.heap.size := ⟨Nat.le_refl _, by omega, by omega, by omega, by omega, (by have := hu5.size; have := hu6.size; omega), w0'⟩)
    | (have m := st5; go_at_call 9; (with_reducible refine st5.mono ?_); rintro e u5 ⟨p, g, rfl, hp5, hg5, hK5, hu5⟩; have st6 := hrn u5)
    | (refine wpList_store_row rfl 37 (.tmp 11) (.tmp 39) rfl u4.heap.size #[.int .i64 1, .int .i64 16, .int .i64 4, .int .i64 1, .int .i64 0, .int .i64 0] rfl rfl 37 _ hgk infoRB rfl (by simp [Value.oneCell']) ?_; obtain ⟨x4, hx4⟩ : ∃ x, vk.setRow u4.heap.size #[.int .i64 1, .int .i64 16, .int .i64 4, .int .i64 1, .int .i64 0, .int .i64 0] = x := ⟨_, rfl⟩; have Gx4 : x4.heap[u4.heap.size]? = some (.cells #[.int .i64 1, .int .i64 16, .int .i64 4, .int .i64 1, .int .i64 0, .int .i64 0] 37 (0, 0)) := (by rw [← hx4]; exact setRow_heap _ _ _ _ _ _ hgk); have hbx : Below u4.heap.size u4 x4 := (by rw [← hx4]; exact below_setRow hbk (Nat.le_refl _)); have Y5 : Below w.heap.size w x4 := bel2 Y4 hbx; have K5 : BB x4 u4.heap.size 0 0 u2.heap.size ⟨⟨1, 16, 4⟩, 0, 0⟩ := Gx4; have R5 := hR4.carry hbx; have B5 := hB4.carry hbx; have D5 := hD4.carry hbx; have s5 := hT4.size; have s6 := hbx.size; have st5 := hnw x4; rw [hx4])
    | (have m := st4; go_at_call 8; (with_reducible refine st4.mono ?_); rintro e u4 ⟨rfl, hR4, hT4⟩; obtain ⟨vk, hvk⟩ : ∃ vk, u4.alloc (.cells #[.int .i64 0, .int .i64 0, .int .i64 0, .int .i64 0, .int .i64 0, .int .i64 0] 37) = vk := ⟨_, rfl⟩; have hgk : vk.heap[u4.heap.size]? = some (.cells #[.int .i64 0, .int .i64 0, .int .i64 0, .int .i64 0, .int .i64 0, .int .i64 0] 37 (0, 0)) := (by rw [← hvk]; exact new_at rfl); have hbk : Below u4.heap.size u4 vk := (by rw [← hvk]; exact al1' _ _); have Y4 : Below w.heap.size w u4 := Y3.trans (hT4.below (by omega) (by omega) Y3.size); have ql : q < u3.heap.size := lt_at hB3; have hl3 := hR3.lt; have s4 := hT3.size; obtain ⟨_, lk3⟩ := hR3.lk; obtain ⟨_, _, rb3⟩ := hR3.rb; have hB4 : Bt u4 q (some ⟨w.heap.size, 0, none⟩) ⟨⟨1, 16, 4⟩, 0, 0⟩ := (hT4.block _ ql (ty_ne hB3 lk3 (by decide)) (ty_ne hB3 rb3 (by decide))).trans hB3; have hD4 : Dk u4 w.heap.size DD := ⟨(hT4.block _ hD3.lt (ty_ne hD3.obj lk3 (by decide)) (ty_ne hD3.obj rb3 (by decide))).trans hD3.obj, hD3.len, hD3.byt⟩)
    | (have m := st3; go_at_call 7; (with_reducible refine st3.mono ?_); rintro e u3 ⟨q, rfl, hq, hB3, hD3, hT3⟩; have s1 := hu1.size; have s2 := hu2.size; have s3 := hbc.size; have Y3 : Below w.heap.size w u3 := Yc.trans (hT3.below (Nat.le_refl _) Yc.size); have hR3 : RfD u3 u2.heap.size 0 w.heap.size r 256 d0 := hRc.same (hT3.block _ hRc.lt.1 (by omega)) (hT3.block _ hRc.lt.2 (by omega)); have st4 := hro u3 _ hR3)
    | (refine wpList_store_row rfl 28 (.tmp 8) (.tmp 31) rfl u2.heap.size #[.slice (some ⟨r, 0, none⟩) 256 256, .bool false, .int .i64 (-1), .int .i64 0] rfl rfl 28 _ hgz info_rd rfl (by simp [Value.oneCell']) ?_; obtain ⟨vc, hvc⟩ : ∃ x, vz.setRow u2.heap.size #[.slice (some ⟨r, 0, none⟩) 256 256, .bool false, .int .i64 (-1), .int .i64 0] = x := ⟨_, rfl⟩; have Gvc : vc.heap[u2.heap.size]? = some (.cells #[.slice (some ⟨r, 0, none⟩) 256 256, .bool false, .int .i64 (-1), .int .i64 0] 28 (0, 0)) := (by rw [← hvc]; exact setRow_heap _ _ _ _ _ _ hgz); have hbc : Below u2.heap.size u2 vc := (by rw [← hvc]; exact below_setRow hbz (Nat.le_refl _)); have hDc := (hD1.carry hu2).carry hbc; have hRc : RfD vc u2.heap.size 0 w.heap.size r 256 d0 := ⟨cell_at Gvc 0, cell_at Gvc 1, cell_at Gvc 2, cell_at Gvc 3, row_base (row_belowZ hrow hbc) hu1.size, ⟨_, Gvc⟩, d0_len, byt_zero 256⟩; have Yc : Below w.heap.size w vc := bel2 (bel2 hu1 hu2) hbc; have st3 := open0_any hDc; rw [hDD] at st3; rw [hvc])
    | (have m := st1; go_at_call 6; (with_reducible refine st1.mono ?_); rintro e u2 ⟨r, rfl, hrg, hrow, hu2⟩; obtain ⟨vz, hvz⟩ : ∃ vz, u2.alloc (.cells #[.slice none 0 0, .bool false, .int .i64 0, .int .i64 0] 28) = vz := ⟨_, rfl⟩; have hgz : vz.heap[u2.heap.size]? = some (.cells #[.slice none 0 0, .bool false, .int .i64 0, .int .i64 0] 28 (0, 0)) := (by rw [← hvz]; exact new_at rfl); have hbz : Below u2.heap.size u2 vz := (by rw [← hvz]; exact al1' _ _))
    | (go_at_call 5; (with_reducible refine hdn.mono ?_); rintro e u1 ⟨rfl, hD1, hlt, hu1⟩; have st1 := rnew_any u1; unfold rdV at st1))
  have HPL : Hid (Pl w w.heap.size p g q u2.heap.size r 256 u4.heap.size u6.heap.size N L0 DD ⟨⟨1, 16, 4⟩, 0, 0⟩ L0 DD ⟨⟨1, 16, 4⟩, 0, 0⟩ ad cap x6) := hPL
  clear hPL hdn hro hnw hrn st1 st3 st4 st5 st6 hD1 hlt hu1 hrg hrow hu2 hgz hbz hvz Gvc hvc hbc hDc hRc Yc hq hB3 hD3 hT3 s1 s2 s3 Y3 hR3 hR4 hT4 hvk hgk hbk Y4 ql hl3 s4 lk3 rb3 hB4 hD4 hx4 Gx4 hbx Y5 K5 R5 B5 D5 s5 s6 hp5 hg5 hK5 hu5 hR6 ha6 hu6 hx6 Gx6 hbs gl hDD
  obtain ⟨lb, hlb⟩ : ∃ lb, u2.heap.size = lb := ⟨_, rfl⟩
  obtain ⟨kb, hkb⟩ : ∃ kb, u4.heap.size = kb := ⟨_, rfl⟩
  obtain ⟨rx, hrx⟩ : ∃ rx, u6.heap.size = rx := ⟨_, rfl⟩
  rw [hlb, hkb, hrx] at HPL hHi ⊢
  clear hlb hkb hrx
  generalize (⟨⟨1, 16, 4⟩, 0, 0⟩ : Bo) = B0 at HK0 HPL
  go_loopw [17] (fun i wz => ∃ (j : Nat) (L : List N3) (d : Dst) (b : Bo) (ad : Option Addr) (cap : Nat), i = .int .i64 j ∧ j ≤ l2.length ∧ N ≤ cap ∧ Hid (KP N L d b j) ∧ Hid (Pl w w.heap.size p g q lb r 256 kb rx N L d b L d b ad cap wz)) (fun i _ => l2.length - vnat i)
  case atStart => exact ⟨0, L0, DD, B0, ad, cap, rfl, Nat.zero_le _, hc6, HK0, HPL⟩
  case round =>
    clear HK0 HPL hc6
    obtain ⟨j, L, d, b, ad, cap, rfl, hjl, hcap, HKP, HPW⟩ := hrel
    by_cases hjn : j < l2.length
    case neg =>
      have hji : ¬ (j : Int) < (l2.length : Int) := by omega
      have hbl := HPW.out.bl
      have st := alive_any (hs.carry hbl)
      go_wp2_with (go_at_call 4; (with_reducible refine st.mono ?_); rintro e u ⟨rfl, hb⟩)
      go_ret
      exact ⟨rfl, bel2 hbl hb⟩
    have hji : (j : Int) < (l2.length : Int) := by omega
    obtain ⟨⟨lo, fu, bk⟩, hx⟩ : ∃ x, l2[j]? = some x := ⟨_, List.getElem?_eq_getElem hjn⟩
    obtain ⟨b0, off, ao, co, e1, hb0, c0, c1, c2, hro, hwf⟩ := HW2.out j _ hx
    subst e1
    dsimp only at c0 c1 c2 hro hwf
    have HRO : Hid (RdN w ao lo) := hro
    have hfb : fu ≤ 9223372036854775807 := by
      simp only [Lit.wf, Bool.and_eq_true, decide_eq_true_eq] at hwf
      have h2 : IntKind.i64.max = 9223372036854775807 := rfl
      omega
    have hbl := HPW.out.bl
    have q0 : wr.cell? ⟨b0, off + j * 3, none⟩ = some (.slice ao lo.length co) := (hbl.cell (p := ⟨b0, _, none⟩) hb0).trans c0
    have q1 : wr.cell? ⟨b0, off + j * 3 + 1, none⟩ = some (.int .i64 fu) := (hbl.cell (p := ⟨b0, _, none⟩) hb0).trans c1
    have q2 : wr.cell? ⟨b0, off + j * 3 + 2, none⟩ = some (.bool bk) := (hbl.cell (p := ⟨b0, _, none⟩) hb0).trans c2
    have HLN : Hid (L.length = N) := HKP.out.len
    clear c0 c1 c2 hro hwf hx
    obtain ⟨y0, hy0e⟩ : ∃ y0, wr.alloc (.cells #[.slice none 0 0, .int .i64 0, .bool false] 50) = y0 := ⟨_, rfl⟩
    have hy0 : y0.heap[wr.heap.size]? = some (.cells #[.slice none 0 0, .int .i64 0, .bool false] 50 (0, 0)) := by rw [← hy0e]; exact new_at rfl
    have hby0 : Below wr.heap.size wr y0 := by rw [← hy0e]; exact al1 _ _
    by_cases hlo : lo.length ≤ 300
    case neg =>
      have hloi : ((lo.length : Int) > 300) := by omega
      go_wp2_with (first
        | (refine wpList_store_row rfl 50 (.tmp 18) (.tmp 68) rfl wr.heap.size #[.slice ao lo.length co, .int .i64 fu, .bool bk] rfl rfl 50 _ hy0 infoOp rfl (by simp [Value.oneCell']) ?_; obtain ⟨y1, hy1⟩ : ∃ x, y0.setRow wr.heap.size #[.slice ao lo.length co, .int .i64 fu, .bool bk] = x := ⟨_, rfl⟩; have Gy1 : y1.heap[wr.heap.size]? = some (.cells #[.slice ao lo.length co, .int .i64 fu, .bool bk] 50 (0, 0)) := (by rw [← hy1]; exact setRow_heap _ _ _ _ _ _ hy0); have By1 : Below wr.heap.size wr y1 := (by rw [← hy1]; exact below_setRow hby0 (Nat.le_refl _)); have o0 := cell_at Gy1 0; have o1 := cell_at Gy1 1; have o2 := cell_at Gy1 2; simp at o0 o1 o2; rw [hy1]))
      go_ret
      exact ⟨rfl, bel2 hbl By1⟩
    have hloi : ¬ ((lo.length : Int) > 300) := by omega
    cases bk with
    | true =>
      by_cases hfu : 0 ≤ fu
      case pos =>
        have HKM : Hid (KP N (mrg L lo) (dFuse { d with off := false } fu) b j) := (((HKP.out).back).fuse hfb).merge lo
        obtain ⟨D, hD⟩ : ∃ D, dDf (mrg L lo) a1 (dFuse { d with off := false } fu) b = D := ⟨_, rfl⟩
        have HD : Hid (dDf (mrg L lo) a1 (dFuse { d with off := false } fu) b = D) := hD
        have HKD : Hid (KP N D.l D.d D.b (j + 1)) := (by rw [← hD]; exact HKM.out.defend hN100 (by omega) a1)
        clear hD
        have hli2 : ∀ V, Bk V p g D.l → Calls Tryz.prog 19 #[.pointer (some ⟨p, 0, none⟩)] V fun e w' => ∃ a c, e = .returned (.slice a N c) ∧ RdN w' a D.l ∧ Below V.heap.size V w' := fun V hV => (blist_any hV (by rw [HKD.out.len]; exact hN0) (by rw [HKD.out.len]; exact hN100)).mono (by
          rintro e w' ⟨v, rfl, hm, hb⟩
          rw [filter_all] at hm
          obtain ⟨a, c, rfl, hr, _⟩ := hm.rd
          exact ⟨a, c, by rw [HKD.out.len], hr, hb⟩)
        have hsm : ∀ (aX : Option Addr) V cX cY {aY : Option Addr}, RdN V aX D.l → RdN V aY D.l → Calls Tryz.prog 18 #[.slice aX N cX, .slice aY N cY] V fun e w' => e = .returned (.bool true) ∧ Below V.heap.size V w' := fun aX V cX cY {aY} h1 h2 => (by
          have := same_any aX aY cX cY D.l V h1 h2 (by rw [HKD.out.len]; omega)
          rw [HKD.out.len] at this
          exact this)
        have him : ∀ (V V' : World) (gX cX : Nat), D.d.l.length = 256 → V'.ownsRow V.heap.size 5 1 (.slice (some ⟨gX, 0, none⟩) 256 cX) 256 (cB D.d.l) → RdB V' (some ⟨gX, 0, none⟩) D.d.l := fun V V' gX cX hn h => (fun _ => ⟨gX, 0, rfl, (by obtain ⟨_, cur, e⟩ := ownsRow_blockZ h gX rfl; exact lt_at e), b_own h hn.symm⟩)
        have hsb : ∀ V (gX cX : Nat), RdB V (some ⟨gX, 0, none⟩) D.d.l → RfD V lb 0 w.heap.size r 256 D.d → Calls Tryz.prog 22 #[.slice (some ⟨gX, 0, none⟩) 256 cX, .slice (some ⟨r, 0, none⟩) 256 256] V fun e w' => e = .returned (.bool true) ∧ Below V.heap.size V w' := fun V gX cX h1 h2 => (by
          have := sameB_yes (some ⟨gX, 0, none⟩) (some ⟨r, 0, none⟩) cX 256 D.d.l V h1 (fun _ => ⟨r, 0, rfl, h2.lt.2, h2.at⟩) (by rw [h2.len]; omega)
          rw [h2.len] at this
          exact this)
        go_wp2_with (first
          | (refine wpList_store_row rfl 60 (.tmp 23) (.tmp 113) rfl (z6.heap.size + 1) #[.int .i64 D.x.1, .int .i64 D.x.2.1, .int .i64 D.x.2.2] rfl rfl 60 _ GB1 infoNt rfl (by simp [Value.oneCell']) ?_; obtain ⟨zC, hzC⟩ : ∃ x, zB.setRow (z6.heap.size + 1) #[.int .i64 D.x.1, .int .i64 D.x.2.1, .int .i64 D.x.2.2] = x := ⟨_, rfl⟩; have GzC : zC.heap[(z6.heap.size + 1)]? = some (.cells #[.int .i64 D.x.1, .int .i64 D.x.2.1, .int .i64 D.x.2.2] 60 (0, 0)) := (by rw [← hzC]; exact setRow_heap _ _ _ _ _ _ GB1); have BC : Below z6.heap.size z6 zC := (by rw [← hzC]; exact below_setRow BB1 (by omega)); have GC0 : RB zC z6.heap.size (.slice adD N capD) := (by rw [← hzC]; exact (setRow_oth _ _ _ _ (show z6.heap.size ≠ z6.heap.size + 1 by omega)).trans GzB); have NC1 : NB zC (z6.heap.size + 1) D.x.1 D.x.2.1 D.x.2.2 := GzC; have NC0 := N6.carry BC; have plC := pl6.carry BC; have kk0 := GC0.cell; have kk1 := plC.rb.cell; have kk2 := plC.rb.thaw; obtain ⟨zD, hzD⟩ : ∃ x, zC.setCell ⟨rx, 0, none⟩ (.slice adD N capD) = x := ⟨_, rfl⟩; have plD := plC.put (cap' := capD) hHi.x (hRD.carry BC) (fun a ha => (by obtain ⟨e1, cur, e2⟩ := haD a ha; exact ⟨e1, cur, (BC.block _ (lt_at e2)).trans e2⟩)); rw [hzD] at plD; have kqD : Kq g zC zD := (by rw [← hzD]; exact plC.kq (fun k hk _ _ _ _ _ _ n => Below.heap_setCell _ _ _ _ n)); have ND0 := kqD.nb NC0 (by omega); have ND1 := kqD.nb NC1 (by have := pl6.bk.glt; omega); rw [hzC])
          | (refine wpList_store_row rfl 46 (.tmp 22) (.tmp 112) rfl z6.heap.size #[.slice adD N capD] rfl rfl 46 _ GA0 infoBk6 rfl (by simp [Value.oneCell']) ?_; obtain ⟨zB, hzB⟩ : ∃ x, zA.setRow z6.heap.size #[.slice adD N capD] = x := ⟨_, rfl⟩; have GzB : zB.heap[z6.heap.size]? = some (.cells #[.slice adD N capD] 46 (0, 0)) := (by rw [← hzB]; exact setRow_heap _ _ _ _ _ _ GA0); have BB1 : Below z6.heap.size z6 zB := (by rw [← hzB]; exact below_setRow BA (Nat.le_refl _)); have GB1 : zB.heap[z6.heap.size + 1]? = some (.cells #[.int .i64 0, .int .i64 0, .int .i64 0] 60 (0, 0)) := (by rw [← hzB]; exact (setRow_oth _ _ _ _ (show z6.heap.size + 1 ≠ z6.heap.size by omega)).trans GA1); rw [hzB])
          | (have m := st4; go_at_call 17; (with_reducible refine st4.mono ?_); rintro e z6 ⟨adD, capD, rfl, hRD, hcD, haD, pl6, kq6⟩; have gz : g < z4.heap.size := pl4'.bk.glt; have N6 := kq6.nb Nz5 (by omega); obtain ⟨zA, hzA⟩ : ∃ x, (z6.alloc (.cells #[.slice none 0 0] 46)).alloc (.cells #[.int .i64 0, .int .i64 0, .int .i64 0] 60) = x := ⟨_, rfl⟩; have GA0 : zA.heap[z6.heap.size]? = some (.cells #[.slice none 0 0] 46 (0, 0)) := (by rw [← hzA]; exact old_at (new_at rfl)); have GA1 : zA.heap[z6.heap.size + 1]? = some (.cells #[.int .i64 0, .int .i64 0, .int .i64 0] 60 (0, 0)) := (by rw [← hzA]; exact new_at (by simp)); have BA : Below z6.heap.size z6 zA := (by rw [← hzA]; exact al2 _ _ _))
          | (have m := st3; go_at_call 16; (with_reducible refine st3.mono ?_); rintro e z4 ⟨rfl, pl4', kq4'⟩; obtain ⟨z5, hz5⟩ : ∃ z5, z4.alloc (.cells #[.int .i64 D.x.1, .int .i64 D.x.2.1, .int .i64 D.x.2.2] 60) = z5 := ⟨_, rfl⟩; have Bz5 : Below z4.heap.size z4 z5 := (by rw [← hz5]; exact al1 _ _); have Nz5 : NB z5 z4.heap.size D.x.1 D.x.2.1 D.x.2.2 := (by rw [← hz5]; exact NB.new _ _ _ _); have pl5' := pl4'.carry Bz5; have cz5 := pl5'.rb.cell; have st4 := pl5'.rdefend (self := a1) hHi HKM.out hN0 hN100 (by omega) hcM; rw [HD.out] at st4; unfold nt at st4)
          | (have m := st2; go_at_call 15; (with_reducible refine st2.mono ?_); rintro e z2 ⟨adM, capM, SM, EM, rfl, hRM, hcM, haM, plr, kqr⟩; have cz2 := plr.rb.cell; have tz2 := plr.rb.thaw; obtain ⟨z3, hz3⟩ : ∃ x, z2.setCell ⟨rx, 0, none⟩ (.slice adM N capM) = x := ⟨_, rfl⟩; have pl3' := plr.put (cap' := capM) hHi.x hRM haM; rw [hz3] at pl3'; have st3 := pl3'.defend (self := a1) hHi hs HKM.out hN100 (by omega); rw [HD.out] at st3; unfold Df.v nt at st3)
          | (have m := st1; go_at_call 14; (with_reducible refine st1.mono ?_); rintro e z1 ⟨⟨NN, EE, rfl⟩, plm, kqm⟩; have Gz1 : z1.heap[wr.heap.size]? = some (.cells #[.slice ao lo.length co, .int .i64 fu, .bool true] 50 (0, 0)) := kqm.op Gy5; have t0 := cell_at Gz1 0; have t1 := cell_at Gz1 1; have t2 := cell_at Gz1 2; simp at t0 t1 t2; have cz1 := plm.rb.cell; have st2 := plm.rmerge (cL := co) HRO.out hlo HLN.out hN0 hN100 hcap)
          | (have m := sts; go_at_call 13; (with_reducible refine sts.mono ?_); rintro e y5 ⟨rfl, pl5, kq5⟩; have Gy5 : y5.heap[wr.heap.size]? = some (.cells #[.slice ao lo.length co, .int .i64 fu, .bool true] 50 (0, 0)) := kq5.op Gy4; have s0 := cell_at Gy5 0; have s1 := cell_at Gy5 1; have s2 := cell_at Gy5 2; simp at s0 s1 s2; have PLc := pl5; have st1 := PLc.merge hHi (cL := co) HRO.out hlo)
          | (have m := stf; go_at_call 12; (with_reducible refine stf.mono ?_); rintro e y4 ⟨rfl, pl4, kq4⟩; have Gy4 : y4.heap[wr.heap.size]? = some (.cells #[.slice ao lo.length co, .int .i64 fu, .bool true] 50 (0, 0)) := kq4.op Gy3; have q0 := cell_at Gy4 0; have q1 := cell_at Gy4 1; have q2 := cell_at Gy4 2; simp at q0 q1 q2; have sts := pl4.set hHi fu)
          | (have m := stb; go_at_call 11; (with_reducible refine stb.mono ?_); rintro e y2 ⟨rfl, pl2, kq2⟩; have f2 := pl2.rf.f; have t2 := pl2.rf.zaw 1; rw [Nat.zero_add] at f2; obtain ⟨y3, hy3⟩ : ∃ x, y2.setCell ⟨lb, 1, none⟩ (.bool false) = x := ⟨_, rfl⟩; have pl3 := pl2.on hHi; have kq3 : Kq g y2 y3 := (by rw [← hy3]; exact pl2.kq (fun k hk _ _ _ n _ _ _ => Below.heap_setCell _ _ _ _ n)); rw [hy3] at pl3; have Gy3 : y3.heap[wr.heap.size]? = some (.cells #[.slice ao lo.length co, .int .i64 fu, .bool true] 50 (0, 0)) := kq3.op (kq2.op Gy1); have p0 := cell_at Gy3 0; have p1 := cell_at Gy3 1; have p2 := cell_at Gy3 2; simp at p0 p1 p2; have stf := pl3.fuse hHi fu)
          | (refine wpList_store_row rfl 50 (.tmp 18) (.tmp 68) rfl wr.heap.size #[.slice ao lo.length co, .int .i64 fu, .bool true] rfl rfl 50 _ hy0 infoOp rfl (by simp [Value.oneCell']) ?_; obtain ⟨y1, hy1⟩ : ∃ x, y0.setRow wr.heap.size #[.slice ao lo.length co, .int .i64 fu, .bool true] = x := ⟨_, rfl⟩; have Gy1 : y1.heap[wr.heap.size]? = some (.cells #[.slice ao lo.length co, .int .i64 fu, .bool true] 50 (0, 0)) := (by rw [← hy1]; exact setRow_heap _ _ _ _ _ _ hy0); have By1 : Below wr.heap.size wr y1 := (by rw [← hy1]; exact below_setRow hby0 (Nat.le_refl _)); have pl1 := HPW.out.carry By1; have o0 := cell_at Gy1 0; have o1 := cell_at Gy1 1; have o2 := cell_at Gy1 2; simp at o0 o1 o2; have stb := pl1.restore hHi; rw [hy1]))
        rename_i hK
        refine wp_region_any hmx ?_
        refine wpAny_tabG (G := ((Option Addr × Nat) × (Nat × Nat))) (fun g i__ => ([(nt D.x.1 D.x.2.1 D.x.2.2), (nt D.x.1 D.x.2.1 D.x.2.2), (.bool false), (.bool false), (.bool D.did), (.bool D.did), (.bool false), (.bool false), (.bool false), (.int .i64 D.e), (.int .i64 D.e), (.bool false), (.bool false), (.bool false), (.pointer (some ⟨p, 0, none⟩)), (.slice g.1.1 N g.1.2), (.pointer (some ⟨rx, 0, none⟩)), (.slice adD N capD), (.bool true), (.bool false), (.bool false), (.bool false), (.pointer (some ⟨q, 0, none⟩)), (.int .i64 D.b.ta), (.pointer (some ⟨kb, 5, none⟩)), (.int .i64 D.b.ta), (.bool false), (.bool false), (.bool false), (.pointer (some ⟨q, 0, none⟩)), (.agg #[.int .i64 D.b.r.li, .int .i64 D.b.r.ro, .int .i64 D.b.r.ta]), (.pointer (some ⟨kb, 0, none⟩)), (.agg #[.int .i64 D.b.r.li, .int .i64 D.b.r.ro, .int .i64 D.b.r.ta]), (.bool false), (.bool false), (.bool false), (.pointer (some ⟨w.heap.size, 0, none⟩)), (.slice (some ⟨g.2.1, 0, none⟩) 256 g.2.2), (.pointer (some ⟨lb, 0, none⟩)), (.slice (some ⟨r, 0, none⟩) 256 256), (.bool true), (.bool false), (.bool false)] : List Value).getD i__ undef) (fun g__ d V => JPq zD D.l D.d.l g__ (d 15) (d 37) V) (by kernel_rfl) (((none, 0), (0, 0))) (show JPq zD D.l D.d.l ((none, 0), (0, 0)) false false _ from ⟨(Below.refl _ _).drew, fun e => (by cases e), fun e => (by cases e)⟩) ?step1 ?fin1
        case step1 =>
          intro i o ho
          have hi : i < 43 := getElem?_lt ho
          match i, hi, ho with
          | 0, _, ho =>
            cases ho
            refine stepG_of (fun g d hdep => ?_)
            exact step_load rfl trivial _ _ _ rfl rfl (fun v hw => load_nt (ND0.carry hw.bl))
          | 1, _, ho =>
            cases ho
            refine stepG_of (fun g d hdep => ?_)
            exact step_load rfl trivial _ _ _ rfl rfl (fun v hw => load_nt (ND1.carry hw.bl))
          | 2, _, ho =>
            cases ho
            refine stepG_of (fun g d hdep => ?_)
            exact step_binOp rfl trivial _ _ _ _ _ _ _ rfl rfl rfl (fun v hw => bin_neqN _ _ _)
          | 3, _, ho =>
            cases ho
            refine stepG_of (fun g d hdep => ?_)
            exact step_move rfl trivial _ rfl (by kernel_rfl)
          | 4, _, ho =>
            cases ho
            refine stepG_of (fun g d hdep => ?_)
            exact step_move rfl (by exact ⟨_, rfl, by kernel_rfl⟩) _ rfl (by kernel_rfl)
          | 5, _, ho =>
            cases ho
            refine stepG_of (fun g d hdep => ?_)
            exact step_move rfl (by exact ⟨_, rfl, by kernel_rfl⟩) _ rfl (by kernel_rfl)
          | 6, _, ho =>
            cases ho
            refine stepG_of (fun g d hdep => ?_)
            exact step_binOp rfl (by exact ⟨_, rfl, by kernel_rfl⟩) _ _ _ _ _ _ _ rfl rfl rfl (fun v hw => bin_neqB _)
          | 7, _, ho =>
            cases ho
            refine stepG_of (fun g d hdep => ?_)
            exact step_pick rfl trivial _ _ _ false rfl (by kernel_rfl) (by kernel_rfl)
          | 8, _, ho =>
            cases ho
            refine stepG_of (fun g d hdep => ?_)
            exact step_move rfl trivial _ rfl (by kernel_rfl)
          | 9, _, ho =>
            cases ho
            refine stepG_of (fun g d hdep => ?_)
            exact step_move rfl (by exact ⟨_, rfl, by kernel_rfl⟩) _ rfl (by kernel_rfl)
          | 10, _, ho =>
            cases ho
            refine stepG_of (fun g d hdep => ?_)
            exact step_move rfl (by exact ⟨_, rfl, by kernel_rfl⟩) _ rfl (by kernel_rfl)
          | 11, _, ho =>
            cases ho
            refine stepG_of (fun g d hdep => ?_)
            exact step_binOp rfl (by exact ⟨_, rfl, by kernel_rfl⟩) _ _ _ _ _ _ _ rfl rfl rfl (fun v hw => bin_neqI _)
          | 12, _, ho =>
            cases ho
            refine stepG_of (fun g d hdep => ?_)
            exact step_pick rfl trivial _ _ _ false rfl (by kernel_rfl) (by kernel_rfl)
          | 13, _, ho =>
            cases ho
            refine stepG_of (fun g d hdep => ?_)
            exact step_move rfl trivial _ rfl (by kernel_rfl)
          | 14, _, ho =>
            cases ho
            refine stepG_of (fun g d hdep => ?_)
            exact step_move rfl (by exact ⟨_, rfl, by kernel_rfl⟩) _ rfl (by kernel_rfl)
          | 15, _, ho =>
            cases ho
            exact stepG_call rfl (fun _ => (by exact ⟨_, rfl, by kernel_rfl⟩)) 19 _ _ (fun _ => [(.pointer (some ⟨p, 0, none⟩))]) rfl (fun g => by kernel_rfl) (enters_of Tryz.func19 (by kernel_rfl) rfl) (fun g d V hJ hun hdep hcl => (hli2 V (plD.bk.carry hJ.bl)).mono (by have h37 : d 37 = false := (by cases h : d 37 with | false => rfl | true => exact absurd (hcl 18 _ rfl (hcl 21 _ rfl (hcl 27 _ rfl (hcl 28 _ rfl (hcl 34 _ rfl (hcl 35 _ rfl (hcl 37 _ rfl h 35 (by kernel_rfl)) 34 (by kernel_rfl)) 28 (by kernel_rfl)) 27 (by kernel_rfl)) 21 (by kernel_rfl)) 18 (by kernel_rfl)) 15 (by kernel_rfl)) (by rw [hun]; simp)); have hJ' := hJ; rw [hun, h37] at hJ'; rintro e V' ⟨aX, cX, rfl, e1, e2⟩; refine ⟨((aX, cX), g.2), rfl, (fun j hj => match j, hj with | 15, hj => (by rw [hj] at hun; cases hun)  | 0, _ => rfl | 1, _ => rfl | 2, _ => rfl | 3, _ => rfl | 4, _ => rfl | 5, _ => rfl | 6, _ => rfl | 7, _ => rfl | 8, _ => rfl | 9, _ => rfl | 10, _ => rfl | 11, _ => rfl | 12, _ => rfl | 13, _ => rfl | 14, _ => rfl | 16, _ => rfl | 17, _ => rfl | 18, _ => rfl | 19, _ => rfl | 20, _ => rfl | 21, _ => rfl | 22, _ => rfl | 23, _ => rfl | 24, _ => rfl | 25, _ => rfl | 26, _ => rfl | 27, _ => rfl | 28, _ => rfl | 29, _ => rfl | 30, _ => rfl | 31, _ => rfl | 32, _ => rfl | 33, _ => rfl | 34, _ => rfl | 35, _ => rfl | 36, _ => rfl | 37, _ => rfl | 38, _ => rfl | 39, _ => rfl | 40, _ => rfl | 41, _ => rfl | 42, _ => rfl | _ + 43, _ => rfl), ?_⟩; show JPq zD D.l D.d.l _ true (d 37) V'; rw [h37]; exact ⟨bel2 hJ'.bl e2, fun _ => e1, fun e => (by cases e)⟩))
          | 16, _, ho =>
            cases ho
            refine stepG_of (fun g d hdep => ?_)
            exact step_fieldAddr rfl (by exact ⟨_, rfl, by kernel_rfl⟩) _ _ _ _ rfl rfl (fun v hw => field_rb v _)
          | 17, _, ho =>
            cases ho
            refine stepG_of (fun g d hdep => ?_)
            exact step_load rfl (by exact ⟨_, rfl, by kernel_rfl⟩) _ _ _ rfl rfl (fun v hw => load_rb (plD.rb.carry hw.bl))
          | 18, _, ho =>
            cases ho
            refine stepG_of (fun g d hdep => ?_)
            exact step_call rfl (by exact ⟨_, rfl, by kernel_rfl⟩) 18 _ _ [(.slice g.1.1 N g.1.2), (.slice adD N capD)] rfl (by kernel_rfl) (enters_of Tryz.func18 (by kernel_rfl) rfl) (fun v hw => (hsm _ v _ _ (hw.li (hdep 15 (by kernel_rfl))) (plD.rl.carry hw.bl)).mono (by rintro e w' ⟨rfl, hb⟩; exact ⟨rfl, hw.carry hb⟩))
          | 19, _, ho =>
            cases ho
            refine stepG_of (fun g d hdep => ?_)
            exact step_unOp rfl (by exact ⟨_, rfl, by kernel_rfl⟩) _ _ _ _ rfl rfl (fun v hw => un_notZ true v)
          | 20, _, ho =>
            cases ho
            refine stepG_of (fun g d hdep => ?_)
            exact step_pick rfl trivial _ _ _ false rfl (by kernel_rfl) (by kernel_rfl)
          | 21, _, ho =>
            cases ho
            refine stepG_of (fun g d hdep => ?_)
            exact step_move rfl trivial _ rfl (by kernel_rfl)
          | 22, _, ho =>
            cases ho
            refine stepG_of (fun g d hdep => ?_)
            exact step_move rfl (by exact ⟨_, rfl, by kernel_rfl⟩) _ rfl (by kernel_rfl)
          | 23, _, ho =>
            cases ho
            refine stepG_of (fun g d hdep => ?_)
            exact step_call rfl (by exact ⟨_, rfl, by kernel_rfl⟩) 20 _ _ [(.pointer (some ⟨q, 0, none⟩))] rfl (by kernel_rfl) (enters_of Tryz.func20 (by kernel_rfl) rfl) (fun v hw => (btag_any (plD.bt.carry hw.bl)).mono (by rintro e w' ⟨rfl, rfl⟩; exact ⟨rfl, hw⟩))
          | 24, _, ho =>
            cases ho
            refine stepG_of (fun g d hdep => ?_)
            exact step_fieldAddr rfl (by exact ⟨_, rfl, by kernel_rfl⟩) _ _ _ _ rfl rfl (fun v hw => field_k3 v _)
          | 25, _, ho =>
            cases ho
            refine stepG_of (fun g d hdep => ?_)
            exact step_load rfl (by exact ⟨_, rfl, by kernel_rfl⟩) _ _ _ rfl rfl (fun v hw => load_i64 ((plD.bb.carry hw.bl).cs.2.2.2.2.2.2.2.1))
          | 26, _, ho =>
            cases ho
            refine stepG_of (fun g d hdep => ?_)
            exact step_binOp rfl (by exact ⟨_, rfl, by kernel_rfl⟩) _ _ _ _ _ _ _ rfl rfl rfl (fun v hw => bin_neqI _)
          | 27, _, ho =>
            cases ho
            refine stepG_of (fun g d hdep => ?_)
            exact step_pick rfl trivial _ _ _ false rfl (by kernel_rfl) (by kernel_rfl)
          | 28, _, ho =>
            cases ho
            refine stepG_of (fun g d hdep => ?_)
            exact step_move rfl trivial _ rfl (by kernel_rfl)
          | 29, _, ho =>
            cases ho
            refine stepG_of (fun g d hdep => ?_)
            exact step_move rfl (by exact ⟨_, rfl, by kernel_rfl⟩) _ rfl (by kernel_rfl)
          | 30, _, ho =>
            cases ho
            refine stepG_of (fun g d hdep => ?_)
            exact step_call rfl (by exact ⟨_, rfl, by kernel_rfl⟩) 21 _ _ [(.pointer (some ⟨q, 0, none⟩))] rfl (by kernel_rfl) (enters_of Tryz.func21 (by kernel_rfl) rfl) (fun v hw => (durable_any (plD.bt.carry hw.bl)).mono (by rintro e w' ⟨rfl, hb⟩; exact ⟨rfl, hw.carry hb⟩))
          | 31, _, ho =>
            cases ho
            refine stepG_of (fun g d hdep => ?_)
            exact step_fieldAddr rfl (by exact ⟨_, rfl, by kernel_rfl⟩) _ _ _ _ rfl rfl (fun v hw => field_k0 v _)
          | 32, _, ho =>
            cases ho
            refine stepG_of (fun g d hdep => ?_)
            exact step_load rfl (by exact ⟨_, rfl, by kernel_rfl⟩) _ _ _ rfl rfl (fun v hw => load_kR (plD.bb.carry hw.bl))
          | 33, _, ho =>
            cases ho
            refine stepG_of (fun g d hdep => ?_)
            exact step_binOp rfl (by exact ⟨_, rfl, by kernel_rfl⟩) _ _ _ _ _ _ _ rfl rfl rfl (fun v hw => bin_neqR _ _ _)
          | 34, _, ho =>
            cases ho
            refine stepG_of (fun g d hdep => ?_)
            exact step_pick rfl trivial _ _ _ false rfl (by kernel_rfl) (by kernel_rfl)
          | 35, _, ho =>
            cases ho
            refine stepG_of (fun g d hdep => ?_)
            exact step_move rfl trivial _ rfl (by kernel_rfl)
          | 36, _, ho =>
            cases ho
            refine stepG_of (fun g d hdep => ?_)
            exact step_move rfl (by exact ⟨_, rfl, by kernel_rfl⟩) _ rfl (by kernel_rfl)
          | 37, _, ho =>
            cases ho
            exact stepG_call rfl (fun _ => (by exact ⟨_, rfl, by kernel_rfl⟩)) 23 _ _ (fun _ => [(.pointer (some ⟨w.heap.size, 0, none⟩))]) rfl (fun g => by kernel_rfl) (enters_of Tryz.func23 (by kernel_rfl) rfl) (fun g d V hJ hun hdep hcl => (image_any (plD.dk.carry hJ.bl)).mono (by rintro e V' ⟨gX, cX, rfl, e1, e2⟩; refine ⟨(g.1, (gX, cX)), rfl, (fun j hj => match j, hj with | 37, hj => (by rw [hj] at hun; cases hun)  | 0, _ => rfl | 1, _ => rfl | 2, _ => rfl | 3, _ => rfl | 4, _ => rfl | 5, _ => rfl | 6, _ => rfl | 7, _ => rfl | 8, _ => rfl | 9, _ => rfl | 10, _ => rfl | 11, _ => rfl | 12, _ => rfl | 13, _ => rfl | 14, _ => rfl | 15, _ => rfl | 16, _ => rfl | 17, _ => rfl | 18, _ => rfl | 19, _ => rfl | 20, _ => rfl | 21, _ => rfl | 22, _ => rfl | 23, _ => rfl | 24, _ => rfl | 25, _ => rfl | 26, _ => rfl | 27, _ => rfl | 28, _ => rfl | 29, _ => rfl | 30, _ => rfl | 31, _ => rfl | 32, _ => rfl | 33, _ => rfl | 34, _ => rfl | 35, _ => rfl | 36, _ => rfl | 38, _ => rfl | 39, _ => rfl | 40, _ => rfl | 41, _ => rfl | 42, _ => rfl | _ + 43, _ => rfl), ?_⟩; show JPq zD D.l D.d.l _ (d 15) true V'; exact ⟨bel2 hJ.bl e2, fun e => (hJ.li e).carry e2, fun _ => him _ _ _ _ plD.dk.len e1⟩))
          | 38, _, ho =>
            cases ho
            refine stepG_of (fun g d hdep => ?_)
            exact step_fieldAddr rfl (by exact ⟨_, rfl, by kernel_rfl⟩) _ _ _ _ rfl rfl (fun v hw => field_rd0 v _ _)
          | 39, _, ho =>
            cases ho
            refine stepG_of (fun g d hdep => ?_)
            exact step_load rfl (by exact ⟨_, rfl, by kernel_rfl⟩) _ _ _ rfl rfl (fun v hw => load_rB (plD.rf.carry hw.bl))
          | 40, _, ho =>
            cases ho
            refine stepG_of (fun g d hdep => ?_)
            exact step_call rfl (by exact ⟨_, rfl, by kernel_rfl⟩) 22 _ _ [(.slice (some ⟨g.2.1, 0, none⟩) 256 g.2.2), (.slice (some ⟨r, 0, none⟩) 256 256)] rfl (by kernel_rfl) (enters_of Tryz.func22 (by kernel_rfl) rfl) (fun v hw => (hsb v _ _ (hw.im (hdep 37 (by kernel_rfl))) (plD.rf.carry hw.bl)).mono (by rintro e w' ⟨rfl, hb⟩; exact ⟨rfl, hw.carry hb⟩))
          | 41, _, ho =>
            cases ho
            refine stepG_of (fun g d hdep => ?_)
            exact step_unOp rfl (by exact ⟨_, rfl, by kernel_rfl⟩) _ _ _ _ rfl rfl (fun v hw => un_notZ true v)
          | 42, _, ho =>
            cases ho
            refine stepG_of (fun g d hdep => ?_)
            exact step_pick rfl trivial _ _ _ false rfl (by kernel_rfl) (by kernel_rfl)
        intro g d W hall hW
        first | refine hK _ _ ?_ | refine (‹∀ (a : Act) (w : World), Code.wp Tryz.prog _ _ a w → _›) _ _ ?_ | skip
        simp only [finL, List.getD_cons_zero, List.getD_cons_succ, Nat.zero_add, Nat.reduceAdd, List.setIfInBounds_toArray, List.set_cons_zero, List.set_cons_succ]
        clear hK
        have hb9 := hW.bl
        have PLE := plD.carry hb9
        go_wp2
        go_roundw
        case rel => exact ⟨j + 1, D.l, D.d, D.b, adD, capD, by simp, by omega, hcD, HKD, PLE⟩
        case measure => simp [vnat]; omega
      case neg =>
        have HKM : Hid (KP N (mrg L lo) { d with off := false } b j) := ((HKP.out).back).merge lo
        obtain ⟨D, hD⟩ : ∃ D, dDf (mrg L lo) a1 { d with off := false } b = D := ⟨_, rfl⟩
        have HD : Hid (dDf (mrg L lo) a1 { d with off := false } b = D) := hD
        have HKD : Hid (KP N D.l D.d D.b (j + 1)) := (by rw [← hD]; exact HKM.out.defend hN100 (by omega) a1)
        clear hD
        have hli2 : ∀ V, Bk V p g D.l → Calls Tryz.prog 19 #[.pointer (some ⟨p, 0, none⟩)] V fun e w' => ∃ a c, e = .returned (.slice a N c) ∧ RdN w' a D.l ∧ Below V.heap.size V w' := fun V hV => (blist_any hV (by rw [HKD.out.len]; exact hN0) (by rw [HKD.out.len]; exact hN100)).mono (by
          rintro e w' ⟨v, rfl, hm, hb⟩
          rw [filter_all] at hm
          obtain ⟨a, c, rfl, hr, _⟩ := hm.rd
          exact ⟨a, c, by rw [HKD.out.len], hr, hb⟩)
        have hsm : ∀ (aX : Option Addr) V cX cY {aY : Option Addr}, RdN V aX D.l → RdN V aY D.l → Calls Tryz.prog 18 #[.slice aX N cX, .slice aY N cY] V fun e w' => e = .returned (.bool true) ∧ Below V.heap.size V w' := fun aX V cX cY {aY} h1 h2 => (by
          have := same_any aX aY cX cY D.l V h1 h2 (by rw [HKD.out.len]; omega)
          rw [HKD.out.len] at this
          exact this)
        have him : ∀ (V V' : World) (gX cX : Nat), D.d.l.length = 256 → V'.ownsRow V.heap.size 5 1 (.slice (some ⟨gX, 0, none⟩) 256 cX) 256 (cB D.d.l) → RdB V' (some ⟨gX, 0, none⟩) D.d.l := fun V V' gX cX hn h => (fun _ => ⟨gX, 0, rfl, (by obtain ⟨_, cur, e⟩ := ownsRow_blockZ h gX rfl; exact lt_at e), b_own h hn.symm⟩)
        have hsb : ∀ V (gX cX : Nat), RdB V (some ⟨gX, 0, none⟩) D.d.l → RfD V lb 0 w.heap.size r 256 D.d → Calls Tryz.prog 22 #[.slice (some ⟨gX, 0, none⟩) 256 cX, .slice (some ⟨r, 0, none⟩) 256 256] V fun e w' => e = .returned (.bool true) ∧ Below V.heap.size V w' := fun V gX cX h1 h2 => (by
          have := sameB_yes (some ⟨gX, 0, none⟩) (some ⟨r, 0, none⟩) cX 256 D.d.l V h1 (fun _ => ⟨r, 0, rfl, h2.lt.2, h2.at⟩) (by rw [h2.len]; omega)
          rw [h2.len] at this
          exact this)
        go_wp2_with (first
          | (refine wpList_store_row rfl 60 (.tmp 23) (.tmp 113) rfl (z6.heap.size + 1) #[.int .i64 D.x.1, .int .i64 D.x.2.1, .int .i64 D.x.2.2] rfl rfl 60 _ GB1 infoNt rfl (by simp [Value.oneCell']) ?_; obtain ⟨zC, hzC⟩ : ∃ x, zB.setRow (z6.heap.size + 1) #[.int .i64 D.x.1, .int .i64 D.x.2.1, .int .i64 D.x.2.2] = x := ⟨_, rfl⟩; have GzC : zC.heap[(z6.heap.size + 1)]? = some (.cells #[.int .i64 D.x.1, .int .i64 D.x.2.1, .int .i64 D.x.2.2] 60 (0, 0)) := (by rw [← hzC]; exact setRow_heap _ _ _ _ _ _ GB1); have BC : Below z6.heap.size z6 zC := (by rw [← hzC]; exact below_setRow BB1 (by omega)); have GC0 : RB zC z6.heap.size (.slice adD N capD) := (by rw [← hzC]; exact (setRow_oth _ _ _ _ (show z6.heap.size ≠ z6.heap.size + 1 by omega)).trans GzB); have NC1 : NB zC (z6.heap.size + 1) D.x.1 D.x.2.1 D.x.2.2 := GzC; have NC0 := N6.carry BC; have plC := pl6.carry BC; have kk0 := GC0.cell; have kk1 := plC.rb.cell; have kk2 := plC.rb.thaw; obtain ⟨zD, hzD⟩ : ∃ x, zC.setCell ⟨rx, 0, none⟩ (.slice adD N capD) = x := ⟨_, rfl⟩; have plD := plC.put (cap' := capD) hHi.x (hRD.carry BC) (fun a ha => (by obtain ⟨e1, cur, e2⟩ := haD a ha; exact ⟨e1, cur, (BC.block _ (lt_at e2)).trans e2⟩)); rw [hzD] at plD; have kqD : Kq g zC zD := (by rw [← hzD]; exact plC.kq (fun k hk _ _ _ _ _ _ n => Below.heap_setCell _ _ _ _ n)); have ND0 := kqD.nb NC0 (by omega); have ND1 := kqD.nb NC1 (by have := pl6.bk.glt; omega); rw [hzC])
          | (refine wpList_store_row rfl 46 (.tmp 22) (.tmp 112) rfl z6.heap.size #[.slice adD N capD] rfl rfl 46 _ GA0 infoBk6 rfl (by simp [Value.oneCell']) ?_; obtain ⟨zB, hzB⟩ : ∃ x, zA.setRow z6.heap.size #[.slice adD N capD] = x := ⟨_, rfl⟩; have GzB : zB.heap[z6.heap.size]? = some (.cells #[.slice adD N capD] 46 (0, 0)) := (by rw [← hzB]; exact setRow_heap _ _ _ _ _ _ GA0); have BB1 : Below z6.heap.size z6 zB := (by rw [← hzB]; exact below_setRow BA (Nat.le_refl _)); have GB1 : zB.heap[z6.heap.size + 1]? = some (.cells #[.int .i64 0, .int .i64 0, .int .i64 0] 60 (0, 0)) := (by rw [← hzB]; exact (setRow_oth _ _ _ _ (show z6.heap.size + 1 ≠ z6.heap.size by omega)).trans GA1); rw [hzB])
          | (have m := st4; go_at_call 17; (with_reducible refine st4.mono ?_); rintro e z6 ⟨adD, capD, rfl, hRD, hcD, haD, pl6, kq6⟩; have gz : g < z4.heap.size := pl4'.bk.glt; have N6 := kq6.nb Nz5 (by omega); obtain ⟨zA, hzA⟩ : ∃ x, (z6.alloc (.cells #[.slice none 0 0] 46)).alloc (.cells #[.int .i64 0, .int .i64 0, .int .i64 0] 60) = x := ⟨_, rfl⟩; have GA0 : zA.heap[z6.heap.size]? = some (.cells #[.slice none 0 0] 46 (0, 0)) := (by rw [← hzA]; exact old_at (new_at rfl)); have GA1 : zA.heap[z6.heap.size + 1]? = some (.cells #[.int .i64 0, .int .i64 0, .int .i64 0] 60 (0, 0)) := (by rw [← hzA]; exact new_at (by simp)); have BA : Below z6.heap.size z6 zA := (by rw [← hzA]; exact al2 _ _ _))
          | (have m := st3; go_at_call 16; (with_reducible refine st3.mono ?_); rintro e z4 ⟨rfl, pl4', kq4'⟩; obtain ⟨z5, hz5⟩ : ∃ z5, z4.alloc (.cells #[.int .i64 D.x.1, .int .i64 D.x.2.1, .int .i64 D.x.2.2] 60) = z5 := ⟨_, rfl⟩; have Bz5 : Below z4.heap.size z4 z5 := (by rw [← hz5]; exact al1 _ _); have Nz5 : NB z5 z4.heap.size D.x.1 D.x.2.1 D.x.2.2 := (by rw [← hz5]; exact NB.new _ _ _ _); have pl5' := pl4'.carry Bz5; have cz5 := pl5'.rb.cell; have st4 := pl5'.rdefend (self := a1) hHi HKM.out hN0 hN100 (by omega) hcM; rw [HD.out] at st4; unfold nt at st4)
          | (have m := st2; go_at_call 15; (with_reducible refine st2.mono ?_); rintro e z2 ⟨adM, capM, SM, EM, rfl, hRM, hcM, haM, plr, kqr⟩; have cz2 := plr.rb.cell; have tz2 := plr.rb.thaw; obtain ⟨z3, hz3⟩ : ∃ x, z2.setCell ⟨rx, 0, none⟩ (.slice adM N capM) = x := ⟨_, rfl⟩; have pl3' := plr.put (cap' := capM) hHi.x hRM haM; rw [hz3] at pl3'; have st3 := pl3'.defend (self := a1) hHi hs HKM.out hN100 (by omega); rw [HD.out] at st3; unfold Df.v nt at st3)
          | (have m := st1; go_at_call 14; (with_reducible refine st1.mono ?_); rintro e z1 ⟨⟨NN, EE, rfl⟩, plm, kqm⟩; have Gz1 : z1.heap[wr.heap.size]? = some (.cells #[.slice ao lo.length co, .int .i64 fu, .bool true] 50 (0, 0)) := kqm.op Gy3; have t0 := cell_at Gz1 0; have t1 := cell_at Gz1 1; have t2 := cell_at Gz1 2; simp at t0 t1 t2; have cz1 := plm.rb.cell; have st2 := plm.rmerge (cL := co) HRO.out hlo HLN.out hN0 hN100 hcap)
          | (have m := stb; go_at_call 11; (with_reducible refine stb.mono ?_); rintro e y2 ⟨rfl, pl2, kq2⟩; have f2 := pl2.rf.f; have t2 := pl2.rf.zaw 1; rw [Nat.zero_add] at f2; obtain ⟨y3, hy3⟩ : ∃ x, y2.setCell ⟨lb, 1, none⟩ (.bool false) = x := ⟨_, rfl⟩; have pl3 := pl2.on hHi; have kq3 : Kq g y2 y3 := (by rw [← hy3]; exact pl2.kq (fun k hk _ _ _ n _ _ _ => Below.heap_setCell _ _ _ _ n)); rw [hy3] at pl3; have Gy3 : y3.heap[wr.heap.size]? = some (.cells #[.slice ao lo.length co, .int .i64 fu, .bool true] 50 (0, 0)) := kq3.op (kq2.op Gy1); have p0 := cell_at Gy3 0; have p1 := cell_at Gy3 1; have p2 := cell_at Gy3 2; simp at p0 p1 p2; have PLc := pl3; have st1 := PLc.merge hHi (cL := co) HRO.out hlo)
          | (refine wpList_store_row rfl 50 (.tmp 18) (.tmp 68) rfl wr.heap.size #[.slice ao lo.length co, .int .i64 fu, .bool true] rfl rfl 50 _ hy0 infoOp rfl (by simp [Value.oneCell']) ?_; obtain ⟨y1, hy1⟩ : ∃ x, y0.setRow wr.heap.size #[.slice ao lo.length co, .int .i64 fu, .bool true] = x := ⟨_, rfl⟩; have Gy1 : y1.heap[wr.heap.size]? = some (.cells #[.slice ao lo.length co, .int .i64 fu, .bool true] 50 (0, 0)) := (by rw [← hy1]; exact setRow_heap _ _ _ _ _ _ hy0); have By1 : Below wr.heap.size wr y1 := (by rw [← hy1]; exact below_setRow hby0 (Nat.le_refl _)); have pl1 := HPW.out.carry By1; have o0 := cell_at Gy1 0; have o1 := cell_at Gy1 1; have o2 := cell_at Gy1 2; simp at o0 o1 o2; have stb := pl1.restore hHi; rw [hy1]))
        rename_i hK
        refine wp_region_any hmx ?_
        refine wpAny_tabG (G := ((Option Addr × Nat) × (Nat × Nat))) (fun g i__ => ([(nt D.x.1 D.x.2.1 D.x.2.2), (nt D.x.1 D.x.2.1 D.x.2.2), (.bool false), (.bool false), (.bool D.did), (.bool D.did), (.bool false), (.bool false), (.bool false), (.int .i64 D.e), (.int .i64 D.e), (.bool false), (.bool false), (.bool false), (.pointer (some ⟨p, 0, none⟩)), (.slice g.1.1 N g.1.2), (.pointer (some ⟨rx, 0, none⟩)), (.slice adD N capD), (.bool true), (.bool false), (.bool false), (.bool false), (.pointer (some ⟨q, 0, none⟩)), (.int .i64 D.b.ta), (.pointer (some ⟨kb, 5, none⟩)), (.int .i64 D.b.ta), (.bool false), (.bool false), (.bool false), (.pointer (some ⟨q, 0, none⟩)), (.agg #[.int .i64 D.b.r.li, .int .i64 D.b.r.ro, .int .i64 D.b.r.ta]), (.pointer (some ⟨kb, 0, none⟩)), (.agg #[.int .i64 D.b.r.li, .int .i64 D.b.r.ro, .int .i64 D.b.r.ta]), (.bool false), (.bool false), (.bool false), (.pointer (some ⟨w.heap.size, 0, none⟩)), (.slice (some ⟨g.2.1, 0, none⟩) 256 g.2.2), (.pointer (some ⟨lb, 0, none⟩)), (.slice (some ⟨r, 0, none⟩) 256 256), (.bool true), (.bool false), (.bool false)] : List Value).getD i__ undef) (fun g__ d V => JPq zD D.l D.d.l g__ (d 15) (d 37) V) (by kernel_rfl) (((none, 0), (0, 0))) (show JPq zD D.l D.d.l ((none, 0), (0, 0)) false false _ from ⟨(Below.refl _ _).drew, fun e => (by cases e), fun e => (by cases e)⟩) ?step2 ?fin2
        case step2 =>
          intro i o ho
          have hi : i < 43 := getElem?_lt ho
          match i, hi, ho with
          | 0, _, ho =>
            cases ho
            refine stepG_of (fun g d hdep => ?_)
            exact step_load rfl trivial _ _ _ rfl rfl (fun v hw => load_nt (ND0.carry hw.bl))
          | 1, _, ho =>
            cases ho
            refine stepG_of (fun g d hdep => ?_)
            exact step_load rfl trivial _ _ _ rfl rfl (fun v hw => load_nt (ND1.carry hw.bl))
          | 2, _, ho =>
            cases ho
            refine stepG_of (fun g d hdep => ?_)
            exact step_binOp rfl trivial _ _ _ _ _ _ _ rfl rfl rfl (fun v hw => bin_neqN _ _ _)
          | 3, _, ho =>
            cases ho
            refine stepG_of (fun g d hdep => ?_)
            exact step_move rfl trivial _ rfl (by kernel_rfl)
          | 4, _, ho =>
            cases ho
            refine stepG_of (fun g d hdep => ?_)
            exact step_move rfl (by exact ⟨_, rfl, by kernel_rfl⟩) _ rfl (by kernel_rfl)
          | 5, _, ho =>
            cases ho
            refine stepG_of (fun g d hdep => ?_)
            exact step_move rfl (by exact ⟨_, rfl, by kernel_rfl⟩) _ rfl (by kernel_rfl)
          | 6, _, ho =>
            cases ho
            refine stepG_of (fun g d hdep => ?_)
            exact step_binOp rfl (by exact ⟨_, rfl, by kernel_rfl⟩) _ _ _ _ _ _ _ rfl rfl rfl (fun v hw => bin_neqB _)
          | 7, _, ho =>
            cases ho
            refine stepG_of (fun g d hdep => ?_)
            exact step_pick rfl trivial _ _ _ false rfl (by kernel_rfl) (by kernel_rfl)
          | 8, _, ho =>
            cases ho
            refine stepG_of (fun g d hdep => ?_)
            exact step_move rfl trivial _ rfl (by kernel_rfl)
          | 9, _, ho =>
            cases ho
            refine stepG_of (fun g d hdep => ?_)
            exact step_move rfl (by exact ⟨_, rfl, by kernel_rfl⟩) _ rfl (by kernel_rfl)
          | 10, _, ho =>
            cases ho
            refine stepG_of (fun g d hdep => ?_)
            exact step_move rfl (by exact ⟨_, rfl, by kernel_rfl⟩) _ rfl (by kernel_rfl)
          | 11, _, ho =>
            cases ho
            refine stepG_of (fun g d hdep => ?_)
            exact step_binOp rfl (by exact ⟨_, rfl, by kernel_rfl⟩) _ _ _ _ _ _ _ rfl rfl rfl (fun v hw => bin_neqI _)
          | 12, _, ho =>
            cases ho
            refine stepG_of (fun g d hdep => ?_)
            exact step_pick rfl trivial _ _ _ false rfl (by kernel_rfl) (by kernel_rfl)
          | 13, _, ho =>
            cases ho
            refine stepG_of (fun g d hdep => ?_)
            exact step_move rfl trivial _ rfl (by kernel_rfl)
          | 14, _, ho =>
            cases ho
            refine stepG_of (fun g d hdep => ?_)
            exact step_move rfl (by exact ⟨_, rfl, by kernel_rfl⟩) _ rfl (by kernel_rfl)
          | 15, _, ho =>
            cases ho
            exact stepG_call rfl (fun _ => (by exact ⟨_, rfl, by kernel_rfl⟩)) 19 _ _ (fun _ => [(.pointer (some ⟨p, 0, none⟩))]) rfl (fun g => by kernel_rfl) (enters_of Tryz.func19 (by kernel_rfl) rfl) (fun g d V hJ hun hdep hcl => (hli2 V (plD.bk.carry hJ.bl)).mono (by have h37 : d 37 = false := (by cases h : d 37 with | false => rfl | true => exact absurd (hcl 18 _ rfl (hcl 21 _ rfl (hcl 27 _ rfl (hcl 28 _ rfl (hcl 34 _ rfl (hcl 35 _ rfl (hcl 37 _ rfl h 35 (by kernel_rfl)) 34 (by kernel_rfl)) 28 (by kernel_rfl)) 27 (by kernel_rfl)) 21 (by kernel_rfl)) 18 (by kernel_rfl)) 15 (by kernel_rfl)) (by rw [hun]; simp)); have hJ' := hJ; rw [hun, h37] at hJ'; rintro e V' ⟨aX, cX, rfl, e1, e2⟩; refine ⟨((aX, cX), g.2), rfl, (fun j hj => match j, hj with | 15, hj => (by rw [hj] at hun; cases hun)  | 0, _ => rfl | 1, _ => rfl | 2, _ => rfl | 3, _ => rfl | 4, _ => rfl | 5, _ => rfl | 6, _ => rfl | 7, _ => rfl | 8, _ => rfl | 9, _ => rfl | 10, _ => rfl | 11, _ => rfl | 12, _ => rfl | 13, _ => rfl | 14, _ => rfl | 16, _ => rfl | 17, _ => rfl | 18, _ => rfl | 19, _ => rfl | 20, _ => rfl | 21, _ => rfl | 22, _ => rfl | 23, _ => rfl | 24, _ => rfl | 25, _ => rfl | 26, _ => rfl | 27, _ => rfl | 28, _ => rfl | 29, _ => rfl | 30, _ => rfl | 31, _ => rfl | 32, _ => rfl | 33, _ => rfl | 34, _ => rfl | 35, _ => rfl | 36, _ => rfl | 37, _ => rfl | 38, _ => rfl | 39, _ => rfl | 40, _ => rfl | 41, _ => rfl | 42, _ => rfl | _ + 43, _ => rfl), ?_⟩; show JPq zD D.l D.d.l _ true (d 37) V'; rw [h37]; exact ⟨bel2 hJ'.bl e2, fun _ => e1, fun e => (by cases e)⟩))
          | 16, _, ho =>
            cases ho
            refine stepG_of (fun g d hdep => ?_)
            exact step_fieldAddr rfl (by exact ⟨_, rfl, by kernel_rfl⟩) _ _ _ _ rfl rfl (fun v hw => field_rb v _)
          | 17, _, ho =>
            cases ho
            refine stepG_of (fun g d hdep => ?_)
            exact step_load rfl (by exact ⟨_, rfl, by kernel_rfl⟩) _ _ _ rfl rfl (fun v hw => load_rb (plD.rb.carry hw.bl))
          | 18, _, ho =>
            cases ho
            refine stepG_of (fun g d hdep => ?_)
            exact step_call rfl (by exact ⟨_, rfl, by kernel_rfl⟩) 18 _ _ [(.slice g.1.1 N g.1.2), (.slice adD N capD)] rfl (by kernel_rfl) (enters_of Tryz.func18 (by kernel_rfl) rfl) (fun v hw => (hsm _ v _ _ (hw.li (hdep 15 (by kernel_rfl))) (plD.rl.carry hw.bl)).mono (by rintro e w' ⟨rfl, hb⟩; exact ⟨rfl, hw.carry hb⟩))
          | 19, _, ho =>
            cases ho
            refine stepG_of (fun g d hdep => ?_)
            exact step_unOp rfl (by exact ⟨_, rfl, by kernel_rfl⟩) _ _ _ _ rfl rfl (fun v hw => un_notZ true v)
          | 20, _, ho =>
            cases ho
            refine stepG_of (fun g d hdep => ?_)
            exact step_pick rfl trivial _ _ _ false rfl (by kernel_rfl) (by kernel_rfl)
          | 21, _, ho =>
            cases ho
            refine stepG_of (fun g d hdep => ?_)
            exact step_move rfl trivial _ rfl (by kernel_rfl)
          | 22, _, ho =>
            cases ho
            refine stepG_of (fun g d hdep => ?_)
            exact step_move rfl (by exact ⟨_, rfl, by kernel_rfl⟩) _ rfl (by kernel_rfl)
          | 23, _, ho =>
            cases ho
            refine stepG_of (fun g d hdep => ?_)
            exact step_call rfl (by exact ⟨_, rfl, by kernel_rfl⟩) 20 _ _ [(.pointer (some ⟨q, 0, none⟩))] rfl (by kernel_rfl) (enters_of Tryz.func20 (by kernel_rfl) rfl) (fun v hw => (btag_any (plD.bt.carry hw.bl)).mono (by rintro e w' ⟨rfl, rfl⟩; exact ⟨rfl, hw⟩))
          | 24, _, ho =>
            cases ho
            refine stepG_of (fun g d hdep => ?_)
            exact step_fieldAddr rfl (by exact ⟨_, rfl, by kernel_rfl⟩) _ _ _ _ rfl rfl (fun v hw => field_k3 v _)
          | 25, _, ho =>
            cases ho
            refine stepG_of (fun g d hdep => ?_)
            exact step_load rfl (by exact ⟨_, rfl, by kernel_rfl⟩) _ _ _ rfl rfl (fun v hw => load_i64 ((plD.bb.carry hw.bl).cs.2.2.2.2.2.2.2.1))
          | 26, _, ho =>
            cases ho
            refine stepG_of (fun g d hdep => ?_)
            exact step_binOp rfl (by exact ⟨_, rfl, by kernel_rfl⟩) _ _ _ _ _ _ _ rfl rfl rfl (fun v hw => bin_neqI _)
          | 27, _, ho =>
            cases ho
            refine stepG_of (fun g d hdep => ?_)
            exact step_pick rfl trivial _ _ _ false rfl (by kernel_rfl) (by kernel_rfl)
          | 28, _, ho =>
            cases ho
            refine stepG_of (fun g d hdep => ?_)
            exact step_move rfl trivial _ rfl (by kernel_rfl)
          | 29, _, ho =>
            cases ho
            refine stepG_of (fun g d hdep => ?_)
            exact step_move rfl (by exact ⟨_, rfl, by kernel_rfl⟩) _ rfl (by kernel_rfl)
          | 30, _, ho =>
            cases ho
            refine stepG_of (fun g d hdep => ?_)
            exact step_call rfl (by exact ⟨_, rfl, by kernel_rfl⟩) 21 _ _ [(.pointer (some ⟨q, 0, none⟩))] rfl (by kernel_rfl) (enters_of Tryz.func21 (by kernel_rfl) rfl) (fun v hw => (durable_any (plD.bt.carry hw.bl)).mono (by rintro e w' ⟨rfl, hb⟩; exact ⟨rfl, hw.carry hb⟩))
          | 31, _, ho =>
            cases ho
            refine stepG_of (fun g d hdep => ?_)
            exact step_fieldAddr rfl (by exact ⟨_, rfl, by kernel_rfl⟩) _ _ _ _ rfl rfl (fun v hw => field_k0 v _)
          | 32, _, ho =>
            cases ho
            refine stepG_of (fun g d hdep => ?_)
            exact step_load rfl (by exact ⟨_, rfl, by kernel_rfl⟩) _ _ _ rfl rfl (fun v hw => load_kR (plD.bb.carry hw.bl))
          | 33, _, ho =>
            cases ho
            refine stepG_of (fun g d hdep => ?_)
            exact step_binOp rfl (by exact ⟨_, rfl, by kernel_rfl⟩) _ _ _ _ _ _ _ rfl rfl rfl (fun v hw => bin_neqR _ _ _)
          | 34, _, ho =>
            cases ho
            refine stepG_of (fun g d hdep => ?_)
            exact step_pick rfl trivial _ _ _ false rfl (by kernel_rfl) (by kernel_rfl)
          | 35, _, ho =>
            cases ho
            refine stepG_of (fun g d hdep => ?_)
            exact step_move rfl trivial _ rfl (by kernel_rfl)
          | 36, _, ho =>
            cases ho
            refine stepG_of (fun g d hdep => ?_)
            exact step_move rfl (by exact ⟨_, rfl, by kernel_rfl⟩) _ rfl (by kernel_rfl)
          | 37, _, ho =>
            cases ho
            exact stepG_call rfl (fun _ => (by exact ⟨_, rfl, by kernel_rfl⟩)) 23 _ _ (fun _ => [(.pointer (some ⟨w.heap.size, 0, none⟩))]) rfl (fun g => by kernel_rfl) (enters_of Tryz.func23 (by kernel_rfl) rfl) (fun g d V hJ hun hdep hcl => (image_any (plD.dk.carry hJ.bl)).mono (by rintro e V' ⟨gX, cX, rfl, e1, e2⟩; refine ⟨(g.1, (gX, cX)), rfl, (fun j hj => match j, hj with | 37, hj => (by rw [hj] at hun; cases hun)  | 0, _ => rfl | 1, _ => rfl | 2, _ => rfl | 3, _ => rfl | 4, _ => rfl | 5, _ => rfl | 6, _ => rfl | 7, _ => rfl | 8, _ => rfl | 9, _ => rfl | 10, _ => rfl | 11, _ => rfl | 12, _ => rfl | 13, _ => rfl | 14, _ => rfl | 15, _ => rfl | 16, _ => rfl | 17, _ => rfl | 18, _ => rfl | 19, _ => rfl | 20, _ => rfl | 21, _ => rfl | 22, _ => rfl | 23, _ => rfl | 24, _ => rfl | 25, _ => rfl | 26, _ => rfl | 27, _ => rfl | 28, _ => rfl | 29, _ => rfl | 30, _ => rfl | 31, _ => rfl | 32, _ => rfl | 33, _ => rfl | 34, _ => rfl | 35, _ => rfl | 36, _ => rfl | 38, _ => rfl | 39, _ => rfl | 40, _ => rfl | 41, _ => rfl | 42, _ => rfl | _ + 43, _ => rfl), ?_⟩; show JPq zD D.l D.d.l _ (d 15) true V'; exact ⟨bel2 hJ.bl e2, fun e => (hJ.li e).carry e2, fun _ => him _ _ _ _ plD.dk.len e1⟩))
          | 38, _, ho =>
            cases ho
            refine stepG_of (fun g d hdep => ?_)
            exact step_fieldAddr rfl (by exact ⟨_, rfl, by kernel_rfl⟩) _ _ _ _ rfl rfl (fun v hw => field_rd0 v _ _)
          | 39, _, ho =>
            cases ho
            refine stepG_of (fun g d hdep => ?_)
            exact step_load rfl (by exact ⟨_, rfl, by kernel_rfl⟩) _ _ _ rfl rfl (fun v hw => load_rB (plD.rf.carry hw.bl))
          | 40, _, ho =>
            cases ho
            refine stepG_of (fun g d hdep => ?_)
            exact step_call rfl (by exact ⟨_, rfl, by kernel_rfl⟩) 22 _ _ [(.slice (some ⟨g.2.1, 0, none⟩) 256 g.2.2), (.slice (some ⟨r, 0, none⟩) 256 256)] rfl (by kernel_rfl) (enters_of Tryz.func22 (by kernel_rfl) rfl) (fun v hw => (hsb v _ _ (hw.im (hdep 37 (by kernel_rfl))) (plD.rf.carry hw.bl)).mono (by rintro e w' ⟨rfl, hb⟩; exact ⟨rfl, hw.carry hb⟩))
          | 41, _, ho =>
            cases ho
            refine stepG_of (fun g d hdep => ?_)
            exact step_unOp rfl (by exact ⟨_, rfl, by kernel_rfl⟩) _ _ _ _ rfl rfl (fun v hw => un_notZ true v)
          | 42, _, ho =>
            cases ho
            refine stepG_of (fun g d hdep => ?_)
            exact step_pick rfl trivial _ _ _ false rfl (by kernel_rfl) (by kernel_rfl)
        intro g d W hall hW
        first | refine hK _ _ ?_ | refine (‹∀ (a : Act) (w : World), Code.wp Tryz.prog _ _ a w → _›) _ _ ?_ | skip
        simp only [finL, List.getD_cons_zero, List.getD_cons_succ, Nat.zero_add, Nat.reduceAdd, List.setIfInBounds_toArray, List.set_cons_zero, List.set_cons_succ]
        clear hK
        have hb9 := hW.bl
        have PLE := plD.carry hb9
        go_wp2
        go_roundw
        case rel => exact ⟨j + 1, D.l, D.d, D.b, adD, capD, by simp, by omega, hcD, HKD, PLE⟩
        case measure => simp [vnat]; omega
    | false =>
      by_cases hfu : 0 ≤ fu
      case pos =>
        have HKM : Hid (KP N (mrg L lo) (dFuse d fu) b j) := ((HKP.out).fuse hfb).merge lo
        obtain ⟨D, hD⟩ : ∃ D, dDf (mrg L lo) a1 (dFuse d fu) b = D := ⟨_, rfl⟩
        have HD : Hid (dDf (mrg L lo) a1 (dFuse d fu) b = D) := hD
        have HKD : Hid (KP N D.l D.d D.b (j + 1)) := (by rw [← hD]; exact HKM.out.defend hN100 (by omega) a1)
        clear hD
        have hli2 : ∀ V, Bk V p g D.l → Calls Tryz.prog 19 #[.pointer (some ⟨p, 0, none⟩)] V fun e w' => ∃ a c, e = .returned (.slice a N c) ∧ RdN w' a D.l ∧ Below V.heap.size V w' := fun V hV => (blist_any hV (by rw [HKD.out.len]; exact hN0) (by rw [HKD.out.len]; exact hN100)).mono (by
          rintro e w' ⟨v, rfl, hm, hb⟩
          rw [filter_all] at hm
          obtain ⟨a, c, rfl, hr, _⟩ := hm.rd
          exact ⟨a, c, by rw [HKD.out.len], hr, hb⟩)
        have hsm : ∀ (aX : Option Addr) V cX cY {aY : Option Addr}, RdN V aX D.l → RdN V aY D.l → Calls Tryz.prog 18 #[.slice aX N cX, .slice aY N cY] V fun e w' => e = .returned (.bool true) ∧ Below V.heap.size V w' := fun aX V cX cY {aY} h1 h2 => (by
          have := same_any aX aY cX cY D.l V h1 h2 (by rw [HKD.out.len]; omega)
          rw [HKD.out.len] at this
          exact this)
        have him : ∀ (V V' : World) (gX cX : Nat), D.d.l.length = 256 → V'.ownsRow V.heap.size 5 1 (.slice (some ⟨gX, 0, none⟩) 256 cX) 256 (cB D.d.l) → RdB V' (some ⟨gX, 0, none⟩) D.d.l := fun V V' gX cX hn h => (fun _ => ⟨gX, 0, rfl, (by obtain ⟨_, cur, e⟩ := ownsRow_blockZ h gX rfl; exact lt_at e), b_own h hn.symm⟩)
        have hsb : ∀ V (gX cX : Nat), RdB V (some ⟨gX, 0, none⟩) D.d.l → RfD V lb 0 w.heap.size r 256 D.d → Calls Tryz.prog 22 #[.slice (some ⟨gX, 0, none⟩) 256 cX, .slice (some ⟨r, 0, none⟩) 256 256] V fun e w' => e = .returned (.bool true) ∧ Below V.heap.size V w' := fun V gX cX h1 h2 => (by
          have := sameB_yes (some ⟨gX, 0, none⟩) (some ⟨r, 0, none⟩) cX 256 D.d.l V h1 (fun _ => ⟨r, 0, rfl, h2.lt.2, h2.at⟩) (by rw [h2.len]; omega)
          rw [h2.len] at this
          exact this)
        go_wp2_with (first
          | (refine wpList_store_row rfl 60 (.tmp 23) (.tmp 113) rfl (z6.heap.size + 1) #[.int .i64 D.x.1, .int .i64 D.x.2.1, .int .i64 D.x.2.2] rfl rfl 60 _ GB1 infoNt rfl (by simp [Value.oneCell']) ?_; obtain ⟨zC, hzC⟩ : ∃ x, zB.setRow (z6.heap.size + 1) #[.int .i64 D.x.1, .int .i64 D.x.2.1, .int .i64 D.x.2.2] = x := ⟨_, rfl⟩; have GzC : zC.heap[(z6.heap.size + 1)]? = some (.cells #[.int .i64 D.x.1, .int .i64 D.x.2.1, .int .i64 D.x.2.2] 60 (0, 0)) := (by rw [← hzC]; exact setRow_heap _ _ _ _ _ _ GB1); have BC : Below z6.heap.size z6 zC := (by rw [← hzC]; exact below_setRow BB1 (by omega)); have GC0 : RB zC z6.heap.size (.slice adD N capD) := (by rw [← hzC]; exact (setRow_oth _ _ _ _ (show z6.heap.size ≠ z6.heap.size + 1 by omega)).trans GzB); have NC1 : NB zC (z6.heap.size + 1) D.x.1 D.x.2.1 D.x.2.2 := GzC; have NC0 := N6.carry BC; have plC := pl6.carry BC; have kk0 := GC0.cell; have kk1 := plC.rb.cell; have kk2 := plC.rb.thaw; obtain ⟨zD, hzD⟩ : ∃ x, zC.setCell ⟨rx, 0, none⟩ (.slice adD N capD) = x := ⟨_, rfl⟩; have plD := plC.put (cap' := capD) hHi.x (hRD.carry BC) (fun a ha => (by obtain ⟨e1, cur, e2⟩ := haD a ha; exact ⟨e1, cur, (BC.block _ (lt_at e2)).trans e2⟩)); rw [hzD] at plD; have kqD : Kq g zC zD := (by rw [← hzD]; exact plC.kq (fun k hk _ _ _ _ _ _ n => Below.heap_setCell _ _ _ _ n)); have ND0 := kqD.nb NC0 (by omega); have ND1 := kqD.nb NC1 (by have := pl6.bk.glt; omega); rw [hzC])
          | (refine wpList_store_row rfl 46 (.tmp 22) (.tmp 112) rfl z6.heap.size #[.slice adD N capD] rfl rfl 46 _ GA0 infoBk6 rfl (by simp [Value.oneCell']) ?_; obtain ⟨zB, hzB⟩ : ∃ x, zA.setRow z6.heap.size #[.slice adD N capD] = x := ⟨_, rfl⟩; have GzB : zB.heap[z6.heap.size]? = some (.cells #[.slice adD N capD] 46 (0, 0)) := (by rw [← hzB]; exact setRow_heap _ _ _ _ _ _ GA0); have BB1 : Below z6.heap.size z6 zB := (by rw [← hzB]; exact below_setRow BA (Nat.le_refl _)); have GB1 : zB.heap[z6.heap.size + 1]? = some (.cells #[.int .i64 0, .int .i64 0, .int .i64 0] 60 (0, 0)) := (by rw [← hzB]; exact (setRow_oth _ _ _ _ (show z6.heap.size + 1 ≠ z6.heap.size by omega)).trans GA1); rw [hzB])
          | (have m := st4; go_at_call 17; (with_reducible refine st4.mono ?_); rintro e z6 ⟨adD, capD, rfl, hRD, hcD, haD, pl6, kq6⟩; have gz : g < z4.heap.size := pl4'.bk.glt; have N6 := kq6.nb Nz5 (by omega); obtain ⟨zA, hzA⟩ : ∃ x, (z6.alloc (.cells #[.slice none 0 0] 46)).alloc (.cells #[.int .i64 0, .int .i64 0, .int .i64 0] 60) = x := ⟨_, rfl⟩; have GA0 : zA.heap[z6.heap.size]? = some (.cells #[.slice none 0 0] 46 (0, 0)) := (by rw [← hzA]; exact old_at (new_at rfl)); have GA1 : zA.heap[z6.heap.size + 1]? = some (.cells #[.int .i64 0, .int .i64 0, .int .i64 0] 60 (0, 0)) := (by rw [← hzA]; exact new_at (by simp)); have BA : Below z6.heap.size z6 zA := (by rw [← hzA]; exact al2 _ _ _))
          | (have m := st3; go_at_call 16; (with_reducible refine st3.mono ?_); rintro e z4 ⟨rfl, pl4', kq4'⟩; obtain ⟨z5, hz5⟩ : ∃ z5, z4.alloc (.cells #[.int .i64 D.x.1, .int .i64 D.x.2.1, .int .i64 D.x.2.2] 60) = z5 := ⟨_, rfl⟩; have Bz5 : Below z4.heap.size z4 z5 := (by rw [← hz5]; exact al1 _ _); have Nz5 : NB z5 z4.heap.size D.x.1 D.x.2.1 D.x.2.2 := (by rw [← hz5]; exact NB.new _ _ _ _); have pl5' := pl4'.carry Bz5; have cz5 := pl5'.rb.cell; have st4 := pl5'.rdefend (self := a1) hHi HKM.out hN0 hN100 (by omega) hcM; rw [HD.out] at st4; unfold nt at st4)
          | (have m := st2; go_at_call 15; (with_reducible refine st2.mono ?_); rintro e z2 ⟨adM, capM, SM, EM, rfl, hRM, hcM, haM, plr, kqr⟩; have cz2 := plr.rb.cell; have tz2 := plr.rb.thaw; obtain ⟨z3, hz3⟩ : ∃ x, z2.setCell ⟨rx, 0, none⟩ (.slice adM N capM) = x := ⟨_, rfl⟩; have pl3' := plr.put (cap' := capM) hHi.x hRM haM; rw [hz3] at pl3'; have st3 := pl3'.defend (self := a1) hHi hs HKM.out hN100 (by omega); rw [HD.out] at st3; unfold Df.v nt at st3)
          | (have m := st1; go_at_call 14; (with_reducible refine st1.mono ?_); rintro e z1 ⟨⟨NN, EE, rfl⟩, plm, kqm⟩; have Gz1 : z1.heap[wr.heap.size]? = some (.cells #[.slice ao lo.length co, .int .i64 fu, .bool false] 50 (0, 0)) := kqm.op Gy5; have t0 := cell_at Gz1 0; have t1 := cell_at Gz1 1; have t2 := cell_at Gz1 2; simp at t0 t1 t2; have cz1 := plm.rb.cell; have st2 := plm.rmerge (cL := co) HRO.out hlo HLN.out hN0 hN100 hcap)
          | (have m := sts; go_at_call 13; (with_reducible refine sts.mono ?_); rintro e y5 ⟨rfl, pl5, kq5⟩; have Gy5 : y5.heap[wr.heap.size]? = some (.cells #[.slice ao lo.length co, .int .i64 fu, .bool false] 50 (0, 0)) := kq5.op Gy4; have s0 := cell_at Gy5 0; have s1 := cell_at Gy5 1; have s2 := cell_at Gy5 2; simp at s0 s1 s2; have PLc := pl5; have st1 := PLc.merge hHi (cL := co) HRO.out hlo)
          | (have m := stf; go_at_call 12; (with_reducible refine stf.mono ?_); rintro e y4 ⟨rfl, pl4, kq4⟩; have Gy4 : y4.heap[wr.heap.size]? = some (.cells #[.slice ao lo.length co, .int .i64 fu, .bool false] 50 (0, 0)) := kq4.op Gy1; have q0 := cell_at Gy4 0; have q1 := cell_at Gy4 1; have q2 := cell_at Gy4 2; simp at q0 q1 q2; have sts := pl4.set hHi fu)
          | (refine wpList_store_row rfl 50 (.tmp 18) (.tmp 68) rfl wr.heap.size #[.slice ao lo.length co, .int .i64 fu, .bool false] rfl rfl 50 _ hy0 infoOp rfl (by simp [Value.oneCell']) ?_; obtain ⟨y1, hy1⟩ : ∃ x, y0.setRow wr.heap.size #[.slice ao lo.length co, .int .i64 fu, .bool false] = x := ⟨_, rfl⟩; have Gy1 : y1.heap[wr.heap.size]? = some (.cells #[.slice ao lo.length co, .int .i64 fu, .bool false] 50 (0, 0)) := (by rw [← hy1]; exact setRow_heap _ _ _ _ _ _ hy0); have By1 : Below wr.heap.size wr y1 := (by rw [← hy1]; exact below_setRow hby0 (Nat.le_refl _)); have pl1 := HPW.out.carry By1; have o0 := cell_at Gy1 0; have o1 := cell_at Gy1 1; have o2 := cell_at Gy1 2; simp at o0 o1 o2; have stf := pl1.fuse hHi fu; rw [hy1]))
        rename_i hK
        refine wp_region_any hmx ?_
        refine wpAny_tabG (G := ((Option Addr × Nat) × (Nat × Nat))) (fun g i__ => ([(nt D.x.1 D.x.2.1 D.x.2.2), (nt D.x.1 D.x.2.1 D.x.2.2), (.bool false), (.bool false), (.bool D.did), (.bool D.did), (.bool false), (.bool false), (.bool false), (.int .i64 D.e), (.int .i64 D.e), (.bool false), (.bool false), (.bool false), (.pointer (some ⟨p, 0, none⟩)), (.slice g.1.1 N g.1.2), (.pointer (some ⟨rx, 0, none⟩)), (.slice adD N capD), (.bool true), (.bool false), (.bool false), (.bool false), (.pointer (some ⟨q, 0, none⟩)), (.int .i64 D.b.ta), (.pointer (some ⟨kb, 5, none⟩)), (.int .i64 D.b.ta), (.bool false), (.bool false), (.bool false), (.pointer (some ⟨q, 0, none⟩)), (.agg #[.int .i64 D.b.r.li, .int .i64 D.b.r.ro, .int .i64 D.b.r.ta]), (.pointer (some ⟨kb, 0, none⟩)), (.agg #[.int .i64 D.b.r.li, .int .i64 D.b.r.ro, .int .i64 D.b.r.ta]), (.bool false), (.bool false), (.bool false), (.pointer (some ⟨w.heap.size, 0, none⟩)), (.slice (some ⟨g.2.1, 0, none⟩) 256 g.2.2), (.pointer (some ⟨lb, 0, none⟩)), (.slice (some ⟨r, 0, none⟩) 256 256), (.bool true), (.bool false), (.bool false)] : List Value).getD i__ undef) (fun g__ d V => JPq zD D.l D.d.l g__ (d 15) (d 37) V) (by kernel_rfl) (((none, 0), (0, 0))) (show JPq zD D.l D.d.l ((none, 0), (0, 0)) false false _ from ⟨(Below.refl _ _).drew, fun e => (by cases e), fun e => (by cases e)⟩) ?step3 ?fin3
        case step3 =>
          intro i o ho
          have hi : i < 43 := getElem?_lt ho
          match i, hi, ho with
          | 0, _, ho =>
            cases ho
            refine stepG_of (fun g d hdep => ?_)
            exact step_load rfl trivial _ _ _ rfl rfl (fun v hw => load_nt (ND0.carry hw.bl))
          | 1, _, ho =>
            cases ho
            refine stepG_of (fun g d hdep => ?_)
            exact step_load rfl trivial _ _ _ rfl rfl (fun v hw => load_nt (ND1.carry hw.bl))
          | 2, _, ho =>
            cases ho
            refine stepG_of (fun g d hdep => ?_)
            exact step_binOp rfl trivial _ _ _ _ _ _ _ rfl rfl rfl (fun v hw => bin_neqN _ _ _)
          | 3, _, ho =>
            cases ho
            refine stepG_of (fun g d hdep => ?_)
            exact step_move rfl trivial _ rfl (by kernel_rfl)
          | 4, _, ho =>
            cases ho
            refine stepG_of (fun g d hdep => ?_)
            exact step_move rfl (by exact ⟨_, rfl, by kernel_rfl⟩) _ rfl (by kernel_rfl)
          | 5, _, ho =>
            cases ho
            refine stepG_of (fun g d hdep => ?_)
            exact step_move rfl (by exact ⟨_, rfl, by kernel_rfl⟩) _ rfl (by kernel_rfl)
          | 6, _, ho =>
            cases ho
            refine stepG_of (fun g d hdep => ?_)
            exact step_binOp rfl (by exact ⟨_, rfl, by kernel_rfl⟩) _ _ _ _ _ _ _ rfl rfl rfl (fun v hw => bin_neqB _)
          | 7, _, ho =>
            cases ho
            refine stepG_of (fun g d hdep => ?_)
            exact step_pick rfl trivial _ _ _ false rfl (by kernel_rfl) (by kernel_rfl)
          | 8, _, ho =>
            cases ho
            refine stepG_of (fun g d hdep => ?_)
            exact step_move rfl trivial _ rfl (by kernel_rfl)
          | 9, _, ho =>
            cases ho
            refine stepG_of (fun g d hdep => ?_)
            exact step_move rfl (by exact ⟨_, rfl, by kernel_rfl⟩) _ rfl (by kernel_rfl)
          | 10, _, ho =>
            cases ho
            refine stepG_of (fun g d hdep => ?_)
            exact step_move rfl (by exact ⟨_, rfl, by kernel_rfl⟩) _ rfl (by kernel_rfl)
          | 11, _, ho =>
            cases ho
            refine stepG_of (fun g d hdep => ?_)
            exact step_binOp rfl (by exact ⟨_, rfl, by kernel_rfl⟩) _ _ _ _ _ _ _ rfl rfl rfl (fun v hw => bin_neqI _)
          | 12, _, ho =>
            cases ho
            refine stepG_of (fun g d hdep => ?_)
            exact step_pick rfl trivial _ _ _ false rfl (by kernel_rfl) (by kernel_rfl)
          | 13, _, ho =>
            cases ho
            refine stepG_of (fun g d hdep => ?_)
            exact step_move rfl trivial _ rfl (by kernel_rfl)
          | 14, _, ho =>
            cases ho
            refine stepG_of (fun g d hdep => ?_)
            exact step_move rfl (by exact ⟨_, rfl, by kernel_rfl⟩) _ rfl (by kernel_rfl)
          | 15, _, ho =>
            cases ho
            exact stepG_call rfl (fun _ => (by exact ⟨_, rfl, by kernel_rfl⟩)) 19 _ _ (fun _ => [(.pointer (some ⟨p, 0, none⟩))]) rfl (fun g => by kernel_rfl) (enters_of Tryz.func19 (by kernel_rfl) rfl) (fun g d V hJ hun hdep hcl => (hli2 V (plD.bk.carry hJ.bl)).mono (by have h37 : d 37 = false := (by cases h : d 37 with | false => rfl | true => exact absurd (hcl 18 _ rfl (hcl 21 _ rfl (hcl 27 _ rfl (hcl 28 _ rfl (hcl 34 _ rfl (hcl 35 _ rfl (hcl 37 _ rfl h 35 (by kernel_rfl)) 34 (by kernel_rfl)) 28 (by kernel_rfl)) 27 (by kernel_rfl)) 21 (by kernel_rfl)) 18 (by kernel_rfl)) 15 (by kernel_rfl)) (by rw [hun]; simp)); have hJ' := hJ; rw [hun, h37] at hJ'; rintro e V' ⟨aX, cX, rfl, e1, e2⟩; refine ⟨((aX, cX), g.2), rfl, (fun j hj => match j, hj with | 15, hj => (by rw [hj] at hun; cases hun)  | 0, _ => rfl | 1, _ => rfl | 2, _ => rfl | 3, _ => rfl | 4, _ => rfl | 5, _ => rfl | 6, _ => rfl | 7, _ => rfl | 8, _ => rfl | 9, _ => rfl | 10, _ => rfl | 11, _ => rfl | 12, _ => rfl | 13, _ => rfl | 14, _ => rfl | 16, _ => rfl | 17, _ => rfl | 18, _ => rfl | 19, _ => rfl | 20, _ => rfl | 21, _ => rfl | 22, _ => rfl | 23, _ => rfl | 24, _ => rfl | 25, _ => rfl | 26, _ => rfl | 27, _ => rfl | 28, _ => rfl | 29, _ => rfl | 30, _ => rfl | 31, _ => rfl | 32, _ => rfl | 33, _ => rfl | 34, _ => rfl | 35, _ => rfl | 36, _ => rfl | 37, _ => rfl | 38, _ => rfl | 39, _ => rfl | 40, _ => rfl | 41, _ => rfl | 42, _ => rfl | _ + 43, _ => rfl), ?_⟩; show JPq zD D.l D.d.l _ true (d 37) V'; rw [h37]; exact ⟨bel2 hJ'.bl e2, fun _ => e1, fun e => (by cases e)⟩))
          | 16, _, ho =>
            cases ho
            refine stepG_of (fun g d hdep => ?_)
            exact step_fieldAddr rfl (by exact ⟨_, rfl, by kernel_rfl⟩) _ _ _ _ rfl rfl (fun v hw => field_rb v _)
          | 17, _, ho =>
            cases ho
            refine stepG_of (fun g d hdep => ?_)
            exact step_load rfl (by exact ⟨_, rfl, by kernel_rfl⟩) _ _ _ rfl rfl (fun v hw => load_rb (plD.rb.carry hw.bl))
          | 18, _, ho =>
            cases ho
            refine stepG_of (fun g d hdep => ?_)
            exact step_call rfl (by exact ⟨_, rfl, by kernel_rfl⟩) 18 _ _ [(.slice g.1.1 N g.1.2), (.slice adD N capD)] rfl (by kernel_rfl) (enters_of Tryz.func18 (by kernel_rfl) rfl) (fun v hw => (hsm _ v _ _ (hw.li (hdep 15 (by kernel_rfl))) (plD.rl.carry hw.bl)).mono (by rintro e w' ⟨rfl, hb⟩; exact ⟨rfl, hw.carry hb⟩))
          | 19, _, ho =>
            cases ho
            refine stepG_of (fun g d hdep => ?_)
            exact step_unOp rfl (by exact ⟨_, rfl, by kernel_rfl⟩) _ _ _ _ rfl rfl (fun v hw => un_notZ true v)
          | 20, _, ho =>
            cases ho
            refine stepG_of (fun g d hdep => ?_)
            exact step_pick rfl trivial _ _ _ false rfl (by kernel_rfl) (by kernel_rfl)
          | 21, _, ho =>
            cases ho
            refine stepG_of (fun g d hdep => ?_)
            exact step_move rfl trivial _ rfl (by kernel_rfl)
          | 22, _, ho =>
            cases ho
            refine stepG_of (fun g d hdep => ?_)
            exact step_move rfl (by exact ⟨_, rfl, by kernel_rfl⟩) _ rfl (by kernel_rfl)
          | 23, _, ho =>
            cases ho
            refine stepG_of (fun g d hdep => ?_)
            exact step_call rfl (by exact ⟨_, rfl, by kernel_rfl⟩) 20 _ _ [(.pointer (some ⟨q, 0, none⟩))] rfl (by kernel_rfl) (enters_of Tryz.func20 (by kernel_rfl) rfl) (fun v hw => (btag_any (plD.bt.carry hw.bl)).mono (by rintro e w' ⟨rfl, rfl⟩; exact ⟨rfl, hw⟩))
          | 24, _, ho =>
            cases ho
            refine stepG_of (fun g d hdep => ?_)
            exact step_fieldAddr rfl (by exact ⟨_, rfl, by kernel_rfl⟩) _ _ _ _ rfl rfl (fun v hw => field_k3 v _)
          | 25, _, ho =>
            cases ho
            refine stepG_of (fun g d hdep => ?_)
            exact step_load rfl (by exact ⟨_, rfl, by kernel_rfl⟩) _ _ _ rfl rfl (fun v hw => load_i64 ((plD.bb.carry hw.bl).cs.2.2.2.2.2.2.2.1))
          | 26, _, ho =>
            cases ho
            refine stepG_of (fun g d hdep => ?_)
            exact step_binOp rfl (by exact ⟨_, rfl, by kernel_rfl⟩) _ _ _ _ _ _ _ rfl rfl rfl (fun v hw => bin_neqI _)
          | 27, _, ho =>
            cases ho
            refine stepG_of (fun g d hdep => ?_)
            exact step_pick rfl trivial _ _ _ false rfl (by kernel_rfl) (by kernel_rfl)
          | 28, _, ho =>
            cases ho
            refine stepG_of (fun g d hdep => ?_)
            exact step_move rfl trivial _ rfl (by kernel_rfl)
          | 29, _, ho =>
            cases ho
            refine stepG_of (fun g d hdep => ?_)
            exact step_move rfl (by exact ⟨_, rfl, by kernel_rfl⟩) _ rfl (by kernel_rfl)
          | 30, _, ho =>
            cases ho
            refine stepG_of (fun g d hdep => ?_)
            exact step_call rfl (by exact ⟨_, rfl, by kernel_rfl⟩) 21 _ _ [(.pointer (some ⟨q, 0, none⟩))] rfl (by kernel_rfl) (enters_of Tryz.func21 (by kernel_rfl) rfl) (fun v hw => (durable_any (plD.bt.carry hw.bl)).mono (by rintro e w' ⟨rfl, hb⟩; exact ⟨rfl, hw.carry hb⟩))
          | 31, _, ho =>
            cases ho
            refine stepG_of (fun g d hdep => ?_)
            exact step_fieldAddr rfl (by exact ⟨_, rfl, by kernel_rfl⟩) _ _ _ _ rfl rfl (fun v hw => field_k0 v _)
          | 32, _, ho =>
            cases ho
            refine stepG_of (fun g d hdep => ?_)
            exact step_load rfl (by exact ⟨_, rfl, by kernel_rfl⟩) _ _ _ rfl rfl (fun v hw => load_kR (plD.bb.carry hw.bl))
          | 33, _, ho =>
            cases ho
            refine stepG_of (fun g d hdep => ?_)
            exact step_binOp rfl (by exact ⟨_, rfl, by kernel_rfl⟩) _ _ _ _ _ _ _ rfl rfl rfl (fun v hw => bin_neqR _ _ _)
          | 34, _, ho =>
            cases ho
            refine stepG_of (fun g d hdep => ?_)
            exact step_pick rfl trivial _ _ _ false rfl (by kernel_rfl) (by kernel_rfl)
          | 35, _, ho =>
            cases ho
            refine stepG_of (fun g d hdep => ?_)
            exact step_move rfl trivial _ rfl (by kernel_rfl)
          | 36, _, ho =>
            cases ho
            refine stepG_of (fun g d hdep => ?_)
            exact step_move rfl (by exact ⟨_, rfl, by kernel_rfl⟩) _ rfl (by kernel_rfl)
          | 37, _, ho =>
            cases ho
            exact stepG_call rfl (fun _ => (by exact ⟨_, rfl, by kernel_rfl⟩)) 23 _ _ (fun _ => [(.pointer (some ⟨w.heap.size, 0, none⟩))]) rfl (fun g => by kernel_rfl) (enters_of Tryz.func23 (by kernel_rfl) rfl) (fun g d V hJ hun hdep hcl => (image_any (plD.dk.carry hJ.bl)).mono (by rintro e V' ⟨gX, cX, rfl, e1, e2⟩; refine ⟨(g.1, (gX, cX)), rfl, (fun j hj => match j, hj with | 37, hj => (by rw [hj] at hun; cases hun)  | 0, _ => rfl | 1, _ => rfl | 2, _ => rfl | 3, _ => rfl | 4, _ => rfl | 5, _ => rfl | 6, _ => rfl | 7, _ => rfl | 8, _ => rfl | 9, _ => rfl | 10, _ => rfl | 11, _ => rfl | 12, _ => rfl | 13, _ => rfl | 14, _ => rfl | 15, _ => rfl | 16, _ => rfl | 17, _ => rfl | 18, _ => rfl | 19, _ => rfl | 20, _ => rfl | 21, _ => rfl | 22, _ => rfl | 23, _ => rfl | 24, _ => rfl | 25, _ => rfl | 26, _ => rfl | 27, _ => rfl | 28, _ => rfl | 29, _ => rfl | 30, _ => rfl | 31, _ => rfl | 32, _ => rfl | 33, _ => rfl | 34, _ => rfl | 35, _ => rfl | 36, _ => rfl | 38, _ => rfl | 39, _ => rfl | 40, _ => rfl | 41, _ => rfl | 42, _ => rfl | _ + 43, _ => rfl), ?_⟩; show JPq zD D.l D.d.l _ (d 15) true V'; exact ⟨bel2 hJ.bl e2, fun e => (hJ.li e).carry e2, fun _ => him _ _ _ _ plD.dk.len e1⟩))
          | 38, _, ho =>
            cases ho
            refine stepG_of (fun g d hdep => ?_)
            exact step_fieldAddr rfl (by exact ⟨_, rfl, by kernel_rfl⟩) _ _ _ _ rfl rfl (fun v hw => field_rd0 v _ _)
          | 39, _, ho =>
            cases ho
            refine stepG_of (fun g d hdep => ?_)
            exact step_load rfl (by exact ⟨_, rfl, by kernel_rfl⟩) _ _ _ rfl rfl (fun v hw => load_rB (plD.rf.carry hw.bl))
          | 40, _, ho =>
            cases ho
            refine stepG_of (fun g d hdep => ?_)
            exact step_call rfl (by exact ⟨_, rfl, by kernel_rfl⟩) 22 _ _ [(.slice (some ⟨g.2.1, 0, none⟩) 256 g.2.2), (.slice (some ⟨r, 0, none⟩) 256 256)] rfl (by kernel_rfl) (enters_of Tryz.func22 (by kernel_rfl) rfl) (fun v hw => (hsb v _ _ (hw.im (hdep 37 (by kernel_rfl))) (plD.rf.carry hw.bl)).mono (by rintro e w' ⟨rfl, hb⟩; exact ⟨rfl, hw.carry hb⟩))
          | 41, _, ho =>
            cases ho
            refine stepG_of (fun g d hdep => ?_)
            exact step_unOp rfl (by exact ⟨_, rfl, by kernel_rfl⟩) _ _ _ _ rfl rfl (fun v hw => un_notZ true v)
          | 42, _, ho =>
            cases ho
            refine stepG_of (fun g d hdep => ?_)
            exact step_pick rfl trivial _ _ _ false rfl (by kernel_rfl) (by kernel_rfl)
        intro g d W hall hW
        first | refine hK _ _ ?_ | refine (‹∀ (a : Act) (w : World), Code.wp Tryz.prog _ _ a w → _›) _ _ ?_ | skip
        simp only [finL, List.getD_cons_zero, List.getD_cons_succ, Nat.zero_add, Nat.reduceAdd, List.setIfInBounds_toArray, List.set_cons_zero, List.set_cons_succ]
        clear hK
        have hb9 := hW.bl
        have PLE := plD.carry hb9
        go_wp2
        go_roundw
        case rel => exact ⟨j + 1, D.l, D.d, D.b, adD, capD, by simp, by omega, hcD, HKD, PLE⟩
        case measure => simp [vnat]; omega
      case neg =>
        have HKM : Hid (KP N (mrg L lo) d b j) := (HKP.out).merge lo
        obtain ⟨D, hD⟩ : ∃ D, dDf (mrg L lo) a1 d b = D := ⟨_, rfl⟩
        have HD : Hid (dDf (mrg L lo) a1 d b = D) := hD
        have HKD : Hid (KP N D.l D.d D.b (j + 1)) := (by rw [← hD]; exact HKM.out.defend hN100 (by omega) a1)
        clear hD
        have hli2 : ∀ V, Bk V p g D.l → Calls Tryz.prog 19 #[.pointer (some ⟨p, 0, none⟩)] V fun e w' => ∃ a c, e = .returned (.slice a N c) ∧ RdN w' a D.l ∧ Below V.heap.size V w' := fun V hV => (blist_any hV (by rw [HKD.out.len]; exact hN0) (by rw [HKD.out.len]; exact hN100)).mono (by
          rintro e w' ⟨v, rfl, hm, hb⟩
          rw [filter_all] at hm
          obtain ⟨a, c, rfl, hr, _⟩ := hm.rd
          exact ⟨a, c, by rw [HKD.out.len], hr, hb⟩)
        have hsm : ∀ (aX : Option Addr) V cX cY {aY : Option Addr}, RdN V aX D.l → RdN V aY D.l → Calls Tryz.prog 18 #[.slice aX N cX, .slice aY N cY] V fun e w' => e = .returned (.bool true) ∧ Below V.heap.size V w' := fun aX V cX cY {aY} h1 h2 => (by
          have := same_any aX aY cX cY D.l V h1 h2 (by rw [HKD.out.len]; omega)
          rw [HKD.out.len] at this
          exact this)
        have him : ∀ (V V' : World) (gX cX : Nat), D.d.l.length = 256 → V'.ownsRow V.heap.size 5 1 (.slice (some ⟨gX, 0, none⟩) 256 cX) 256 (cB D.d.l) → RdB V' (some ⟨gX, 0, none⟩) D.d.l := fun V V' gX cX hn h => (fun _ => ⟨gX, 0, rfl, (by obtain ⟨_, cur, e⟩ := ownsRow_blockZ h gX rfl; exact lt_at e), b_own h hn.symm⟩)
        have hsb : ∀ V (gX cX : Nat), RdB V (some ⟨gX, 0, none⟩) D.d.l → RfD V lb 0 w.heap.size r 256 D.d → Calls Tryz.prog 22 #[.slice (some ⟨gX, 0, none⟩) 256 cX, .slice (some ⟨r, 0, none⟩) 256 256] V fun e w' => e = .returned (.bool true) ∧ Below V.heap.size V w' := fun V gX cX h1 h2 => (by
          have := sameB_yes (some ⟨gX, 0, none⟩) (some ⟨r, 0, none⟩) cX 256 D.d.l V h1 (fun _ => ⟨r, 0, rfl, h2.lt.2, h2.at⟩) (by rw [h2.len]; omega)
          rw [h2.len] at this
          exact this)
        go_wp2_with (first
          | (refine wpList_store_row rfl 60 (.tmp 23) (.tmp 113) rfl (z6.heap.size + 1) #[.int .i64 D.x.1, .int .i64 D.x.2.1, .int .i64 D.x.2.2] rfl rfl 60 _ GB1 infoNt rfl (by simp [Value.oneCell']) ?_; obtain ⟨zC, hzC⟩ : ∃ x, zB.setRow (z6.heap.size + 1) #[.int .i64 D.x.1, .int .i64 D.x.2.1, .int .i64 D.x.2.2] = x := ⟨_, rfl⟩; have GzC : zC.heap[(z6.heap.size + 1)]? = some (.cells #[.int .i64 D.x.1, .int .i64 D.x.2.1, .int .i64 D.x.2.2] 60 (0, 0)) := (by rw [← hzC]; exact setRow_heap _ _ _ _ _ _ GB1); have BC : Below z6.heap.size z6 zC := (by rw [← hzC]; exact below_setRow BB1 (by omega)); have GC0 : RB zC z6.heap.size (.slice adD N capD) := (by rw [← hzC]; exact (setRow_oth _ _ _ _ (show z6.heap.size ≠ z6.heap.size + 1 by omega)).trans GzB); have NC1 : NB zC (z6.heap.size + 1) D.x.1 D.x.2.1 D.x.2.2 := GzC; have NC0 := N6.carry BC; have plC := pl6.carry BC; have kk0 := GC0.cell; have kk1 := plC.rb.cell; have kk2 := plC.rb.thaw; obtain ⟨zD, hzD⟩ : ∃ x, zC.setCell ⟨rx, 0, none⟩ (.slice adD N capD) = x := ⟨_, rfl⟩; have plD := plC.put (cap' := capD) hHi.x (hRD.carry BC) (fun a ha => (by obtain ⟨e1, cur, e2⟩ := haD a ha; exact ⟨e1, cur, (BC.block _ (lt_at e2)).trans e2⟩)); rw [hzD] at plD; have kqD : Kq g zC zD := (by rw [← hzD]; exact plC.kq (fun k hk _ _ _ _ _ _ n => Below.heap_setCell _ _ _ _ n)); have ND0 := kqD.nb NC0 (by omega); have ND1 := kqD.nb NC1 (by have := pl6.bk.glt; omega); rw [hzC])
          | (refine wpList_store_row rfl 46 (.tmp 22) (.tmp 112) rfl z6.heap.size #[.slice adD N capD] rfl rfl 46 _ GA0 infoBk6 rfl (by simp [Value.oneCell']) ?_; obtain ⟨zB, hzB⟩ : ∃ x, zA.setRow z6.heap.size #[.slice adD N capD] = x := ⟨_, rfl⟩; have GzB : zB.heap[z6.heap.size]? = some (.cells #[.slice adD N capD] 46 (0, 0)) := (by rw [← hzB]; exact setRow_heap _ _ _ _ _ _ GA0); have BB1 : Below z6.heap.size z6 zB := (by rw [← hzB]; exact below_setRow BA (Nat.le_refl _)); have GB1 : zB.heap[z6.heap.size + 1]? = some (.cells #[.int .i64 0, .int .i64 0, .int .i64 0] 60 (0, 0)) := (by rw [← hzB]; exact (setRow_oth _ _ _ _ (show z6.heap.size + 1 ≠ z6.heap.size by omega)).trans GA1); rw [hzB])
          | (have m := st4; go_at_call 17; (with_reducible refine st4.mono ?_); rintro e z6 ⟨adD, capD, rfl, hRD, hcD, haD, pl6, kq6⟩; have gz : g < z4.heap.size := pl4'.bk.glt; have N6 := kq6.nb Nz5 (by omega); obtain ⟨zA, hzA⟩ : ∃ x, (z6.alloc (.cells #[.slice none 0 0] 46)).alloc (.cells #[.int .i64 0, .int .i64 0, .int .i64 0] 60) = x := ⟨_, rfl⟩; have GA0 : zA.heap[z6.heap.size]? = some (.cells #[.slice none 0 0] 46 (0, 0)) := (by rw [← hzA]; exact old_at (new_at rfl)); have GA1 : zA.heap[z6.heap.size + 1]? = some (.cells #[.int .i64 0, .int .i64 0, .int .i64 0] 60 (0, 0)) := (by rw [← hzA]; exact new_at (by simp)); have BA : Below z6.heap.size z6 zA := (by rw [← hzA]; exact al2 _ _ _))
          | (have m := st3; go_at_call 16; (with_reducible refine st3.mono ?_); rintro e z4 ⟨rfl, pl4', kq4'⟩; obtain ⟨z5, hz5⟩ : ∃ z5, z4.alloc (.cells #[.int .i64 D.x.1, .int .i64 D.x.2.1, .int .i64 D.x.2.2] 60) = z5 := ⟨_, rfl⟩; have Bz5 : Below z4.heap.size z4 z5 := (by rw [← hz5]; exact al1 _ _); have Nz5 : NB z5 z4.heap.size D.x.1 D.x.2.1 D.x.2.2 := (by rw [← hz5]; exact NB.new _ _ _ _); have pl5' := pl4'.carry Bz5; have cz5 := pl5'.rb.cell; have st4 := pl5'.rdefend (self := a1) hHi HKM.out hN0 hN100 (by omega) hcM; rw [HD.out] at st4; unfold nt at st4)
          | (have m := st2; go_at_call 15; (with_reducible refine st2.mono ?_); rintro e z2 ⟨adM, capM, SM, EM, rfl, hRM, hcM, haM, plr, kqr⟩; have cz2 := plr.rb.cell; have tz2 := plr.rb.thaw; obtain ⟨z3, hz3⟩ : ∃ x, z2.setCell ⟨rx, 0, none⟩ (.slice adM N capM) = x := ⟨_, rfl⟩; have pl3' := plr.put (cap' := capM) hHi.x hRM haM; rw [hz3] at pl3'; have st3 := pl3'.defend (self := a1) hHi hs HKM.out hN100 (by omega); rw [HD.out] at st3; unfold Df.v nt at st3)
          | (have m := st1; go_at_call 14; (with_reducible refine st1.mono ?_); rintro e z1 ⟨⟨NN, EE, rfl⟩, plm, kqm⟩; have Gz1 : z1.heap[wr.heap.size]? = some (.cells #[.slice ao lo.length co, .int .i64 fu, .bool false] 50 (0, 0)) := kqm.op Gy1; have t0 := cell_at Gz1 0; have t1 := cell_at Gz1 1; have t2 := cell_at Gz1 2; simp at t0 t1 t2; have cz1 := plm.rb.cell; have st2 := plm.rmerge (cL := co) HRO.out hlo HLN.out hN0 hN100 hcap)
          | (refine wpList_store_row rfl 50 (.tmp 18) (.tmp 68) rfl wr.heap.size #[.slice ao lo.length co, .int .i64 fu, .bool false] rfl rfl 50 _ hy0 infoOp rfl (by simp [Value.oneCell']) ?_; obtain ⟨y1, hy1⟩ : ∃ x, y0.setRow wr.heap.size #[.slice ao lo.length co, .int .i64 fu, .bool false] = x := ⟨_, rfl⟩; have Gy1 : y1.heap[wr.heap.size]? = some (.cells #[.slice ao lo.length co, .int .i64 fu, .bool false] 50 (0, 0)) := (by rw [← hy1]; exact setRow_heap _ _ _ _ _ _ hy0); have By1 : Below wr.heap.size wr y1 := (by rw [← hy1]; exact below_setRow hby0 (Nat.le_refl _)); have pl1 := HPW.out.carry By1; have o0 := cell_at Gy1 0; have o1 := cell_at Gy1 1; have o2 := cell_at Gy1 2; simp at o0 o1 o2; have PLc := pl1; have st1 := PLc.merge hHi (cL := co) HRO.out hlo; rw [hy1]))
        rename_i hK
        refine wp_region_any hmx ?_
        refine wpAny_tabG (G := ((Option Addr × Nat) × (Nat × Nat))) (fun g i__ => ([(nt D.x.1 D.x.2.1 D.x.2.2), (nt D.x.1 D.x.2.1 D.x.2.2), (.bool false), (.bool false), (.bool D.did), (.bool D.did), (.bool false), (.bool false), (.bool false), (.int .i64 D.e), (.int .i64 D.e), (.bool false), (.bool false), (.bool false), (.pointer (some ⟨p, 0, none⟩)), (.slice g.1.1 N g.1.2), (.pointer (some ⟨rx, 0, none⟩)), (.slice adD N capD), (.bool true), (.bool false), (.bool false), (.bool false), (.pointer (some ⟨q, 0, none⟩)), (.int .i64 D.b.ta), (.pointer (some ⟨kb, 5, none⟩)), (.int .i64 D.b.ta), (.bool false), (.bool false), (.bool false), (.pointer (some ⟨q, 0, none⟩)), (.agg #[.int .i64 D.b.r.li, .int .i64 D.b.r.ro, .int .i64 D.b.r.ta]), (.pointer (some ⟨kb, 0, none⟩)), (.agg #[.int .i64 D.b.r.li, .int .i64 D.b.r.ro, .int .i64 D.b.r.ta]), (.bool false), (.bool false), (.bool false), (.pointer (some ⟨w.heap.size, 0, none⟩)), (.slice (some ⟨g.2.1, 0, none⟩) 256 g.2.2), (.pointer (some ⟨lb, 0, none⟩)), (.slice (some ⟨r, 0, none⟩) 256 256), (.bool true), (.bool false), (.bool false)] : List Value).getD i__ undef) (fun g__ d V => JPq zD D.l D.d.l g__ (d 15) (d 37) V) (by kernel_rfl) (((none, 0), (0, 0))) (show JPq zD D.l D.d.l ((none, 0), (0, 0)) false false _ from ⟨(Below.refl _ _).drew, fun e => (by cases e), fun e => (by cases e)⟩) ?step4 ?fin4
        case step4 =>
          intro i o ho
          have hi : i < 43 := getElem?_lt ho
          match i, hi, ho with
          | 0, _, ho =>
            cases ho
            refine stepG_of (fun g d hdep => ?_)
            exact step_load rfl trivial _ _ _ rfl rfl (fun v hw => load_nt (ND0.carry hw.bl))
          | 1, _, ho =>
            cases ho
            refine stepG_of (fun g d hdep => ?_)
            exact step_load rfl trivial _ _ _ rfl rfl (fun v hw => load_nt (ND1.carry hw.bl))
          | 2, _, ho =>
            cases ho
            refine stepG_of (fun g d hdep => ?_)
            exact step_binOp rfl trivial _ _ _ _ _ _ _ rfl rfl rfl (fun v hw => bin_neqN _ _ _)
          | 3, _, ho =>
            cases ho
            refine stepG_of (fun g d hdep => ?_)
            exact step_move rfl trivial _ rfl (by kernel_rfl)
          | 4, _, ho =>
            cases ho
            refine stepG_of (fun g d hdep => ?_)
            exact step_move rfl (by exact ⟨_, rfl, by kernel_rfl⟩) _ rfl (by kernel_rfl)
          | 5, _, ho =>
            cases ho
            refine stepG_of (fun g d hdep => ?_)
            exact step_move rfl (by exact ⟨_, rfl, by kernel_rfl⟩) _ rfl (by kernel_rfl)
          | 6, _, ho =>
            cases ho
            refine stepG_of (fun g d hdep => ?_)
            exact step_binOp rfl (by exact ⟨_, rfl, by kernel_rfl⟩) _ _ _ _ _ _ _ rfl rfl rfl (fun v hw => bin_neqB _)
          | 7, _, ho =>
            cases ho
            refine stepG_of (fun g d hdep => ?_)
            exact step_pick rfl trivial _ _ _ false rfl (by kernel_rfl) (by kernel_rfl)
          | 8, _, ho =>
            cases ho
            refine stepG_of (fun g d hdep => ?_)
            exact step_move rfl trivial _ rfl (by kernel_rfl)
          | 9, _, ho =>
            cases ho
            refine stepG_of (fun g d hdep => ?_)
            exact step_move rfl (by exact ⟨_, rfl, by kernel_rfl⟩) _ rfl (by kernel_rfl)
          | 10, _, ho =>
            cases ho
            refine stepG_of (fun g d hdep => ?_)
            exact step_move rfl (by exact ⟨_, rfl, by kernel_rfl⟩) _ rfl (by kernel_rfl)
          | 11, _, ho =>
            cases ho
            refine stepG_of (fun g d hdep => ?_)
            exact step_binOp rfl (by exact ⟨_, rfl, by kernel_rfl⟩) _ _ _ _ _ _ _ rfl rfl rfl (fun v hw => bin_neqI _)
          | 12, _, ho =>
            cases ho
            refine stepG_of (fun g d hdep => ?_)
            exact step_pick rfl trivial _ _ _ false rfl (by kernel_rfl) (by kernel_rfl)
          | 13, _, ho =>
            cases ho
            refine stepG_of (fun g d hdep => ?_)
            exact step_move rfl trivial _ rfl (by kernel_rfl)
          | 14, _, ho =>
            cases ho
            refine stepG_of (fun g d hdep => ?_)
            exact step_move rfl (by exact ⟨_, rfl, by kernel_rfl⟩) _ rfl (by kernel_rfl)
          | 15, _, ho =>
            cases ho
            exact stepG_call rfl (fun _ => (by exact ⟨_, rfl, by kernel_rfl⟩)) 19 _ _ (fun _ => [(.pointer (some ⟨p, 0, none⟩))]) rfl (fun g => by kernel_rfl) (enters_of Tryz.func19 (by kernel_rfl) rfl) (fun g d V hJ hun hdep hcl => (hli2 V (plD.bk.carry hJ.bl)).mono (by have h37 : d 37 = false := (by cases h : d 37 with | false => rfl | true => exact absurd (hcl 18 _ rfl (hcl 21 _ rfl (hcl 27 _ rfl (hcl 28 _ rfl (hcl 34 _ rfl (hcl 35 _ rfl (hcl 37 _ rfl h 35 (by kernel_rfl)) 34 (by kernel_rfl)) 28 (by kernel_rfl)) 27 (by kernel_rfl)) 21 (by kernel_rfl)) 18 (by kernel_rfl)) 15 (by kernel_rfl)) (by rw [hun]; simp)); have hJ' := hJ; rw [hun, h37] at hJ'; rintro e V' ⟨aX, cX, rfl, e1, e2⟩; refine ⟨((aX, cX), g.2), rfl, (fun j hj => match j, hj with | 15, hj => (by rw [hj] at hun; cases hun)  | 0, _ => rfl | 1, _ => rfl | 2, _ => rfl | 3, _ => rfl | 4, _ => rfl | 5, _ => rfl | 6, _ => rfl | 7, _ => rfl | 8, _ => rfl | 9, _ => rfl | 10, _ => rfl | 11, _ => rfl | 12, _ => rfl | 13, _ => rfl | 14, _ => rfl | 16, _ => rfl | 17, _ => rfl | 18, _ => rfl | 19, _ => rfl | 20, _ => rfl | 21, _ => rfl | 22, _ => rfl | 23, _ => rfl | 24, _ => rfl | 25, _ => rfl | 26, _ => rfl | 27, _ => rfl | 28, _ => rfl | 29, _ => rfl | 30, _ => rfl | 31, _ => rfl | 32, _ => rfl | 33, _ => rfl | 34, _ => rfl | 35, _ => rfl | 36, _ => rfl | 37, _ => rfl | 38, _ => rfl | 39, _ => rfl | 40, _ => rfl | 41, _ => rfl | 42, _ => rfl | _ + 43, _ => rfl), ?_⟩; show JPq zD D.l D.d.l _ true (d 37) V'; rw [h37]; exact ⟨bel2 hJ'.bl e2, fun _ => e1, fun e => (by cases e)⟩))
          | 16, _, ho =>
            cases ho
            refine stepG_of (fun g d hdep => ?_)
            exact step_fieldAddr rfl (by exact ⟨_, rfl, by kernel_rfl⟩) _ _ _ _ rfl rfl (fun v hw => field_rb v _)
          | 17, _, ho =>
            cases ho
            refine stepG_of (fun g d hdep => ?_)
            exact step_load rfl (by exact ⟨_, rfl, by kernel_rfl⟩) _ _ _ rfl rfl (fun v hw => load_rb (plD.rb.carry hw.bl))
          | 18, _, ho =>
            cases ho
            refine stepG_of (fun g d hdep => ?_)
            exact step_call rfl (by exact ⟨_, rfl, by kernel_rfl⟩) 18 _ _ [(.slice g.1.1 N g.1.2), (.slice adD N capD)] rfl (by kernel_rfl) (enters_of Tryz.func18 (by kernel_rfl) rfl) (fun v hw => (hsm _ v _ _ (hw.li (hdep 15 (by kernel_rfl))) (plD.rl.carry hw.bl)).mono (by rintro e w' ⟨rfl, hb⟩; exact ⟨rfl, hw.carry hb⟩))
          | 19, _, ho =>
            cases ho
            refine stepG_of (fun g d hdep => ?_)
            exact step_unOp rfl (by exact ⟨_, rfl, by kernel_rfl⟩) _ _ _ _ rfl rfl (fun v hw => un_notZ true v)
          | 20, _, ho =>
            cases ho
            refine stepG_of (fun g d hdep => ?_)
            exact step_pick rfl trivial _ _ _ false rfl (by kernel_rfl) (by kernel_rfl)
          | 21, _, ho =>
            cases ho
            refine stepG_of (fun g d hdep => ?_)
            exact step_move rfl trivial _ rfl (by kernel_rfl)
          | 22, _, ho =>
            cases ho
            refine stepG_of (fun g d hdep => ?_)
            exact step_move rfl (by exact ⟨_, rfl, by kernel_rfl⟩) _ rfl (by kernel_rfl)
          | 23, _, ho =>
            cases ho
            refine stepG_of (fun g d hdep => ?_)
            exact step_call rfl (by exact ⟨_, rfl, by kernel_rfl⟩) 20 _ _ [(.pointer (some ⟨q, 0, none⟩))] rfl (by kernel_rfl) (enters_of Tryz.func20 (by kernel_rfl) rfl) (fun v hw => (btag_any (plD.bt.carry hw.bl)).mono (by rintro e w' ⟨rfl, rfl⟩; exact ⟨rfl, hw⟩))
          | 24, _, ho =>
            cases ho
            refine stepG_of (fun g d hdep => ?_)
            exact step_fieldAddr rfl (by exact ⟨_, rfl, by kernel_rfl⟩) _ _ _ _ rfl rfl (fun v hw => field_k3 v _)
          | 25, _, ho =>
            cases ho
            refine stepG_of (fun g d hdep => ?_)
            exact step_load rfl (by exact ⟨_, rfl, by kernel_rfl⟩) _ _ _ rfl rfl (fun v hw => load_i64 ((plD.bb.carry hw.bl).cs.2.2.2.2.2.2.2.1))
          | 26, _, ho =>
            cases ho
            refine stepG_of (fun g d hdep => ?_)
            exact step_binOp rfl (by exact ⟨_, rfl, by kernel_rfl⟩) _ _ _ _ _ _ _ rfl rfl rfl (fun v hw => bin_neqI _)
          | 27, _, ho =>
            cases ho
            refine stepG_of (fun g d hdep => ?_)
            exact step_pick rfl trivial _ _ _ false rfl (by kernel_rfl) (by kernel_rfl)
          | 28, _, ho =>
            cases ho
            refine stepG_of (fun g d hdep => ?_)
            exact step_move rfl trivial _ rfl (by kernel_rfl)
          | 29, _, ho =>
            cases ho
            refine stepG_of (fun g d hdep => ?_)
            exact step_move rfl (by exact ⟨_, rfl, by kernel_rfl⟩) _ rfl (by kernel_rfl)
          | 30, _, ho =>
            cases ho
            refine stepG_of (fun g d hdep => ?_)
            exact step_call rfl (by exact ⟨_, rfl, by kernel_rfl⟩) 21 _ _ [(.pointer (some ⟨q, 0, none⟩))] rfl (by kernel_rfl) (enters_of Tryz.func21 (by kernel_rfl) rfl) (fun v hw => (durable_any (plD.bt.carry hw.bl)).mono (by rintro e w' ⟨rfl, hb⟩; exact ⟨rfl, hw.carry hb⟩))
          | 31, _, ho =>
            cases ho
            refine stepG_of (fun g d hdep => ?_)
            exact step_fieldAddr rfl (by exact ⟨_, rfl, by kernel_rfl⟩) _ _ _ _ rfl rfl (fun v hw => field_k0 v _)
          | 32, _, ho =>
            cases ho
            refine stepG_of (fun g d hdep => ?_)
            exact step_load rfl (by exact ⟨_, rfl, by kernel_rfl⟩) _ _ _ rfl rfl (fun v hw => load_kR (plD.bb.carry hw.bl))
          | 33, _, ho =>
            cases ho
            refine stepG_of (fun g d hdep => ?_)
            exact step_binOp rfl (by exact ⟨_, rfl, by kernel_rfl⟩) _ _ _ _ _ _ _ rfl rfl rfl (fun v hw => bin_neqR _ _ _)
          | 34, _, ho =>
            cases ho
            refine stepG_of (fun g d hdep => ?_)
            exact step_pick rfl trivial _ _ _ false rfl (by kernel_rfl) (by kernel_rfl)
          | 35, _, ho =>
            cases ho
            refine stepG_of (fun g d hdep => ?_)
            exact step_move rfl trivial _ rfl (by kernel_rfl)
          | 36, _, ho =>
            cases ho
            refine stepG_of (fun g d hdep => ?_)
            exact step_move rfl (by exact ⟨_, rfl, by kernel_rfl⟩) _ rfl (by kernel_rfl)
          | 37, _, ho =>
            cases ho
            exact stepG_call rfl (fun _ => (by exact ⟨_, rfl, by kernel_rfl⟩)) 23 _ _ (fun _ => [(.pointer (some ⟨w.heap.size, 0, none⟩))]) rfl (fun g => by kernel_rfl) (enters_of Tryz.func23 (by kernel_rfl) rfl) (fun g d V hJ hun hdep hcl => (image_any (plD.dk.carry hJ.bl)).mono (by rintro e V' ⟨gX, cX, rfl, e1, e2⟩; refine ⟨(g.1, (gX, cX)), rfl, (fun j hj => match j, hj with | 37, hj => (by rw [hj] at hun; cases hun)  | 0, _ => rfl | 1, _ => rfl | 2, _ => rfl | 3, _ => rfl | 4, _ => rfl | 5, _ => rfl | 6, _ => rfl | 7, _ => rfl | 8, _ => rfl | 9, _ => rfl | 10, _ => rfl | 11, _ => rfl | 12, _ => rfl | 13, _ => rfl | 14, _ => rfl | 15, _ => rfl | 16, _ => rfl | 17, _ => rfl | 18, _ => rfl | 19, _ => rfl | 20, _ => rfl | 21, _ => rfl | 22, _ => rfl | 23, _ => rfl | 24, _ => rfl | 25, _ => rfl | 26, _ => rfl | 27, _ => rfl | 28, _ => rfl | 29, _ => rfl | 30, _ => rfl | 31, _ => rfl | 32, _ => rfl | 33, _ => rfl | 34, _ => rfl | 35, _ => rfl | 36, _ => rfl | 38, _ => rfl | 39, _ => rfl | 40, _ => rfl | 41, _ => rfl | 42, _ => rfl | _ + 43, _ => rfl), ?_⟩; show JPq zD D.l D.d.l _ (d 15) true V'; exact ⟨bel2 hJ.bl e2, fun e => (hJ.li e).carry e2, fun _ => him _ _ _ _ plD.dk.len e1⟩))
          | 38, _, ho =>
            cases ho
            refine stepG_of (fun g d hdep => ?_)
            exact step_fieldAddr rfl (by exact ⟨_, rfl, by kernel_rfl⟩) _ _ _ _ rfl rfl (fun v hw => field_rd0 v _ _)
          | 39, _, ho =>
            cases ho
            refine stepG_of (fun g d hdep => ?_)
            exact step_load rfl (by exact ⟨_, rfl, by kernel_rfl⟩) _ _ _ rfl rfl (fun v hw => load_rB (plD.rf.carry hw.bl))
          | 40, _, ho =>
            cases ho
            refine stepG_of (fun g d hdep => ?_)
            exact step_call rfl (by exact ⟨_, rfl, by kernel_rfl⟩) 22 _ _ [(.slice (some ⟨g.2.1, 0, none⟩) 256 g.2.2), (.slice (some ⟨r, 0, none⟩) 256 256)] rfl (by kernel_rfl) (enters_of Tryz.func22 (by kernel_rfl) rfl) (fun v hw => (hsb v _ _ (hw.im (hdep 37 (by kernel_rfl))) (plD.rf.carry hw.bl)).mono (by rintro e w' ⟨rfl, hb⟩; exact ⟨rfl, hw.carry hb⟩))
          | 41, _, ho =>
            cases ho
            refine stepG_of (fun g d hdep => ?_)
            exact step_unOp rfl (by exact ⟨_, rfl, by kernel_rfl⟩) _ _ _ _ rfl rfl (fun v hw => un_notZ true v)
          | 42, _, ho =>
            cases ho
            refine stepG_of (fun g d hdep => ?_)
            exact step_pick rfl trivial _ _ _ false rfl (by kernel_rfl) (by kernel_rfl)
        intro g d W hall hW
        first | refine hK _ _ ?_ | refine (‹∀ (a : Act) (w : World), Code.wp Tryz.prog _ _ a w → _›) _ _ ?_ | skip
        simp only [finL, List.getD_cons_zero, List.getD_cons_succ, Nat.zero_add, Nat.reduceAdd, List.setIfInBounds_toArray, List.set_cons_zero, List.set_cons_succ]
        clear hK
        have hb9 := hW.bl
        have PLE := plD.carry hb9
        go_wp2
        go_roundw
        case rel => exact ⟨j + 1, D.l, D.d, D.b, adD, capD, by simp, by omega, hcD, HKD, PLE⟩
        case measure => simp [vnat]; omega

set_option maxRecDepth 100000 in
theorem lifted (os : Os) (started : os.Started) (H : Type) (enc : TypeId × Value → H) :
    ReturnsInHanded {} Tryz.checked os 3 .any (fun w args => (Rows.refutePlaysSpec.pre enc Tryz.prog Tryz.f3 [] false w args ∧ laidMetH Tryz.prog Rows.refutePlaysRow.laid w) ∧ sizedMet enc Tryz.prog Tryz.f3 (OpenSpec.ofChange Rows.refutePlaysSpec) false w args)
      (Rows.refutePlaysSpec.post enc Tryz.prog Tryz.f3 false true false false) := by
  refine returnsInHanded_of_change_and (C := Tryz.checked) (X := fun w _ => laidMetH Tryz.prog Rows.refutePlaysRow.laid w) (fun _ _ _ hh h => h.of_heap hh) own started (by kernel_rfl) Tryz.func3
    (ChangeSpec.witness_shaped (enc := enc) (C := Tryz.checked) (os := os) (X := fun w _ => laidMetH Tryz.prog Rows.refutePlaysRow.laid w) false (World.laidAll Tryz.prog os Rows.refutePlaysRow.laid) #[.int .i64 0, .int .i64 0, .slice none 0 0] 8 (World.laidAll_os _ _ _)
      (World.shaped_of_ZipB (by kernel_rfl) (by kernel_rfl)) (by kernel_rfl) (by kernel_rfl) (by kernel_rfl)
      (by rw [MakeChecks.laidMetH_plain _ _ _ (by kernel_rfl)]; exact laidMet_laidAll _ (by kernel_rfl) (by kernel_rfl))) ?_
  intro W base args ds gs before hval0 hW _ hsz hL _
  have hval : ∀ (j : Nat) t v, Tryz.f3.params[j]? = some t → args[j]? = some v → Value.okWide Tryz.prog W .any base t v := hval0
  have hW' := hW
  obtain ⟨p, q, hA0, hV, rfl, hfz, hnd⟩ := hW
  have hA : DataW.TrodAll enc Tryz.prog W 0 (fun _ => true) true Tryz.f3.params.toList args.toList ds p := hA0
  rw [Tryz.params3] at hA hval
  obtain ⟨v0, vs0, d0, ds0, p0, q0, hargs, rfl, rfl, h0, r0⟩ := trodAll_cons hA
  obtain ⟨v1, vs1, d1, ds1, p1, q1, rfl, rfl, rfl, h1, r1⟩ := trodAll_cons r0
  obtain ⟨v2, vs2, d2, ds2, p2, q2, rfl, rfl, rfl, h2, r2⟩ := trodAll_cons r1
  obtain ⟨rfl, rfl, rfl⟩ := trodAll_nil r2
  obtain rfl : args = #[v0, v1, v2] := by cases args; simp_all
  obtain ⟨rfl, rfl⟩ := trodVars_none hV
  obtain ⟨a0, rfl, rfl, rfl, w0⟩ := open_int Tryz.underlying3 (hval 0 3 v0 rfl rfl) h0
  obtain ⟨a1, rfl, rfl, rfl, w1⟩ := open_int Tryz.underlying3 (hval 1 3 v1 rfl rfl) h1
  have k2 := h2
  have lt2 : ∀ x ∈ p2, x.block < W.heap.size := by obtain ⟨m, hm⟩ := k2; exact DataW.trod_lt m _ _ _ hm
  obtain ⟨ad2, cap2, l2, rfl, w2, hc2, hm2⟩ := open_ops (hval 2 22 v2 rfl rfl) h2
  clear hA0 hval0
  refine (walk W a0 w0 a1 w1 ad2 cap2 l2 w2 hc2 hm2 hL).mono fun e W' ⟨he, hg⟩ => ?_
  subst he
  exact ⟨_, rfl, _, _, _, [], _, [], hW', (trodAll_cons_mk (shut_bool Tryz.underlying4 _) trodAll_mk0), (trodAll_cons_mk (shut_int Tryz.underlying3 w0) (trodAll_cons_mk (shut_int Tryz.underlying3 w1) (trodAll_cons_mk (Below.trod laidOut (by kernel_rfl) (of_decide_eq_true (by kernel_rfl)) k2 hg lt2) trodAll_mk0))), rfl, hg.frame _, fun h => by cases h⟩

theorem over : Rows.refutePlaysRow.holds Tryz.pinned (OpenSpec.ofChange Rows.refutePlaysSpec) :=
  OpenClaim.holds_of_wide 3 Tryz.f3 rfl rfl rfl rfl rfl rfl rfl ⟨rfl, rfl, rfl, rfl, rfl⟩ rfl rfl rfl rfl rfl (by kernel_rfl) Tryz.func3 (by kernel_rfl)
    (of_decide_eq_true (by kernel_rfl)) (by unfold Func.isWrapper; first | (rw [if_pos (by decide +kernel)]; kernel_rfl) | (rw [if_neg (by decide +kernel)]; exact ⟨rfl, rfl⟩))
    (fun os started H enc _ => lifted os started H enc)

theorem row_proved : Rows.RefutePlaysSaid :=
  over
theorem proved : Rows.RefutePlaysCardSaid :=
  Claim7.holds_tied_plain_at .later [] [.sentinel] true (true, "dcef3a97597422e869c6f5f5b76c2c1d013b8a539920ded9e2fa9763455a5b24") true
    row_proved (fun _ h => by cases h) (by kernel_rfl) (fun _ h => by cases h) refutePlays_row_tie rfl ⟨rfl, rfl⟩ (by kernel_rfl) rfl
    (fun f fn hf hfn => by
      obtain rfl : f = 3 := Option.some.inj ((show Tryz.prog.funcNamed "earshot/earshotlaw15.RefutePlays" = some 3 by kernel_rfl).symm.trans hf) |>.symm
      obtain rfl : fn = Tryz.f3 := (Option.some.inj (Tryz.func3.symm.trans hfn)).symm
      exact ⟨by kernel_rfl, fun j t ht => by
        rw [Tryz.params3] at ht
        rcases j with _ | j
        · have e : t = 3 := by simpa using ht.symm
          subst e
          exact (show Tryz.prog.wantsStandIn 3 = false by kernel_rfl)
        rcases j with _ | j
        · have e : t = 3 := by simpa using ht.symm
          subst e
          exact (show Tryz.prog.wantsStandIn 3 = false by kernel_rfl)
        rcases j with _ | j
        · have e : t = 22 := by simpa using ht.symm
          subst e
          exact (show Tryz.prog.wantsStandIn 22 = false by kernel_rfl)
        simp at ht⟩)
    (by kernel_rfl)
#print axioms proved
end Go.Proofs.YtlpmehmoeladjaaGreatDoor
