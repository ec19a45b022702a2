/- RefuteDues (promise P1501): of every book and every list of at most 300 notices that it takes, at every id, refute.Due answers what the document's Due answers; of a nil and of a zero book nothing is due. For every input; nothing is asked of it. -/
import Derived.Test.YtlpmehmoeladjaaDoorRows
import Derived.WalkKit
import Derived.ProofKit
import Derived.OpenShut
import Derived.Stop.Joined
import Derived.Lay
import Derived.SevenTiedAt
import Derived.SizedLaws
import Derived.LaidMore
import Derived.Test.YtlpmehmoeladjaaDoorTie
import Derived.Test.YtlpmehmoeladjaaDoorCards
import Derived.Test.YtlpmehmoeladjaaDoorJnJ22
import Derived.Test.YtlpmehmoeladjaaDoorJnJ24
import Derived.Test.YtlpmehmoeladjaaDoorOpm
namespace Go.Proofs.YtlpmehmoeladjaaDoor
open Go.ChangeShapes Go.WideShapes Go.ChangeAt Go.RowKit
set_option linter.unusedVariables false

theorem laidOut : laidOutB Tryd.prog = true := by kernel_rfl
theorem own : ownKnob Tryd.prog.godebug = none := by kernel_rfl
open Go.Shelf Go.Lib
set_option maxHeartbeats 8000000 in
set_option maxRecDepth 100000 in
theorem walk (w : World) (a0 : Int) (w0 : (Lit.int .i64 a0).wf = true) (a1 : Int) (w1 : (Lit.int .i64 a1).wf = true) (a2 : Int) (w2 : (Lit.int .i64 a2).wf = true) (ad3 : Option Addr) (cap3 : Nat) (l3 : List (Int × Int × Int)) (w3 : RdN w ad3 l3) (hc3 : ad3 = none → cap3 = 0) (hq3 : l3.length ≤ cap3) (a4 : Int) (w4 : (Lit.int .i64 a4).wf = true) (hL : laidMetH Tryd.prog Rows.refuteDuesRow.laid w) :
    Calls Tryd.prog 5 #[.int .i64 a0, .int .i64 a1, .int .i64 a2, .slice ad3 l3.length cap3, .int .i64 a4] w fun e w' => e = .returned (.bool true) ∧ Below w.heap.size w w' := by
  obtain ⟨sa, hs⟩ := sn_of hL
  by_cases hl : l3.length ≤ 300
  case neg =>
    have hli : ((l3.length : Int) > 300) := by omega
    have st := alive_any hs
    go_enter Tryd.func5, Tryd.ntmps5
    go_wp2_with (go_at_call 10; (with_reducible refine st.mono ?_); rintro e u ⟨rfl, hb⟩)
    go_ret
    exact ⟨rfl, hb⟩
  have hli : ¬ ((l3.length : Int) > 300) := by omega
  have hed : ∀ V p, EB V (.pointer (some ⟨p, 0, none⟩)) → Calls Tryd.prog 26 #[.pointer (some ⟨p, 0, none⟩), .int .i64 a4] V fun e w' => e = .returned (.tuple #[.agg #[.int .i64 0, .int .i64 0, .int .i64 0], .bool false]) ∧ Below V.heap.size V w' := fun V p h => eDue_any h a4
  by_cases hv : ¬ (a0 < 1 ∨ 100 < a0) ∧ ¬ (a1 < 0 ∨ a0 ≤ a1) ∧ ¬ (a2 < 0 ∨ 1048576 < a2)
  case neg =>
    obtain ⟨E, hE, hn0, hr0⟩ : ∃ E : Int, (E != 0) = true ∧ (∀ V, Calls Tryd.prog 9 #[.int .i64 a0, .int .i64 a1, .int .i64 a2] V fun e w' => e = .returned (.tuple #[.pointer none, .int .i64 E]) ∧ Below V.heap.size V w') ∧ (∀ V, Calls Tryd.prog 24 #[.int .i64 a0, .int .i64 a1, .int .i64 a2] V fun e w' => e = .returned (.tuple #[.agg #[.slice none 0 0], .int .i64 E]) ∧ Below V.heap.size V w') := by
      refine ⟨if a0 < 1 ∨ 100 < a0 then 1 else if a1 < 0 ∨ a0 ≤ a1 then 30 else 50, by split; decide; split <;> decide, fun V => (new_any a0 a1 a2 V).mono ?_, fun V => (rNew_any a0 a1 a2 V).mono ?_⟩
      all_goals
        rintro e w' ⟨hb, h⟩
        refine ⟨?_, hb⟩
        split at h
        · rename_i h1; rw [if_pos h1]; exact h
        · rename_i h1
          rw [if_neg h1]
          split at h
          · rename_i h2; rw [if_pos h2]; exact h
          · rename_i h2
            rw [if_neg h2]
            split at h
            · exact h
            · rename_i h3; exact absurd ⟨h1, h2, h3⟩ hv
    have hE0 : (E == 0) = false := by simpa using hE
    have hnw := hn0 w
    have hrn := hr0
    have hmg := fun V (hV : RdN V ad3 l3) => emerge_any (w := V) (a := none) (.inl rfl) ad3 cap3 l3 hV
    obtain ⟨EM, hEM⟩ : ∃ EM : Int, (if 0 < l3.length then (50 : Int) else 0) = EM := ⟨_, rfl⟩
    simp only [hEM, sv_zero] at hmg
    have hdn := fun V => eDue_any (w := V) (.inl rfl) a4
    have hrd := fun V => rDue_any (w := V) none 0 0 [] (rd_nil V) rfl (fun i x h => (by simp at h)) a4
    rw [dueN_out (l := []) (by simp)] at hrd
    unfold dueV nt at hrd hdn
    clear hEM hv hn0 hr0 hE hL
    go_enter Tryd.func5, Tryd.ntmps5
    go_wp2_with (first
      | (have m := st7; go_at_call 10; (with_reducible refine st7.mono ?_); rintro e u8 ⟨rfl, hu8⟩; have n7' := Nx7.carry hu8; have n6' := n6.carry hu8; have n5' := n5.carry hu8; have ya0 := n7'.c0; have ya1 := n7'.c1; have ya2 := n7'.c2; have yb0 := n6'.c0; have yb1 := n6'.c1; have yb2 := n6'.c2; have yc0 := n5'.c0; have yc1 := n5'.c1; have yc2 := n5'.c2)
      | (have m := st6; go_at_call 26; (with_reducible refine st6.mono ?_); rintro e u7 ⟨rfl, hu7⟩; obtain ⟨v7, hv7⟩ : ∃ v7, u7.alloc (.cells #[.int .i64 0, .int .i64 0, .int .i64 0] 39) = v7 := ⟨_, rfl⟩; have Bv7 : Below u7.heap.size u7 v7 := (by rw [← hv7]; exact al1 _ _); have Nv7 : NB v7 u7.heap.size 0 0 0 := (by rw [← hv7]; exact NB.new _ _ _ _); have z0 := Nv7.c0; have z1 := Nv7.c1; have z2 := Nv7.c2; have z3 := Nv7.thaw 0; have z4 := Nv7.thaw 1; have z5 := Nv7.thaw 2; obtain ⟨x7, hx7⟩ : ∃ x7, W3 v7 u7.heap.size 0 0 0 = x7 := ⟨_, rfl⟩; have Bx7 : Below u7.heap.size u7 x7 := (by rw [← hx7]; exact below3 Bv7 (Nat.le_refl _) _ _ _); have Nx7 : NB x7 u7.heap.size 0 0 0 := (by rw [← hx7]; exact Nv7.set 0 0 0); unfold W3 at hx7; have Bw7 : Below w.heap.size w x7 := bel2 (bel2 (bel2 (bel2 (bel2 (bel2 (bel2 Bw3 hu5) Bx5) hu6) Bx6) By6) hu7) Bx7; have n6 := ((Nx6.carry By6).carry hu7).carry Bx7; have n5 := (((((Nx5.carry hu6).carry Bx6).carry By6).carry hu7).carry Bx7); have st7 := alive_any (hs.carry Bw7))
      | (have m := st5; go_at_call 27; (with_reducible refine st5.mono ?_); rintro e u6 ⟨rfl, hu6⟩; obtain ⟨v6, hv6⟩ : ∃ v6, u6.alloc (.cells #[.int .i64 0, .int .i64 0, .int .i64 0] 39) = v6 := ⟨_, rfl⟩; have Bv6 : Below u6.heap.size u6 v6 := (by rw [← hv6]; exact al1 _ _); have Nv6 : NB v6 u6.heap.size 0 0 0 := (by rw [← hv6]; exact NB.new _ _ _ _); have zy0 := Nv6.c0; have zy1 := Nv6.c1; have zy2 := Nv6.c2; have zy3 := Nv6.thaw 0; have zy4 := Nv6.thaw 1; have zy5 := Nv6.thaw 2; obtain ⟨x6, hx6⟩ : ∃ x6, W3 v6 u6.heap.size 0 0 0 = x6 := ⟨_, rfl⟩; have Bx6 : Below u6.heap.size u6 x6 := (by rw [← hx6]; exact below3 Bv6 (Nat.le_refl _) _ _ _); have Nx6 : NB x6 u6.heap.size 0 0 0 := (by rw [← hx6]; exact Nv6.set 0 0 0); unfold W3 at hx6; obtain ⟨y6, hy6⟩ : ∃ y6, x6.alloc (.cells #[.slice none 0 0] 70) = y6 := ⟨_, rfl⟩; have By6 : Below x6.heap.size x6 y6 := (by rw [← hy6]; exact al1 _ _); have EBy6 : EB y6 (.pointer (some ⟨x6.heap.size, 0, none⟩)) := .inr ⟨_, rfl, (by rw [← hy6]; exact new_at rfl)⟩; have st6 := hed y6 _ EBy6)
      | (have m := st4; go_at_call 26; (with_reducible refine st4.mono ?_); rintro e u5 ⟨rfl, hu5⟩; obtain ⟨v5, hv5⟩ : ∃ v5, u5.alloc (.cells #[.int .i64 0, .int .i64 0, .int .i64 0] 39) = v5 := ⟨_, rfl⟩; have Bv5 : Below u5.heap.size u5 v5 := (by rw [← hv5]; exact al1 _ _); have Nv5 : NB v5 u5.heap.size 0 0 0 := (by rw [← hv5]; exact NB.new _ _ _ _); have zx0 := Nv5.c0; have zx1 := Nv5.c1; have zx2 := Nv5.c2; have zx3 := Nv5.thaw 0; have zx4 := Nv5.thaw 1; have zx5 := Nv5.thaw 2; obtain ⟨x5, hx5⟩ : ∃ x5, W3 v5 u5.heap.size 0 0 0 = x5 := ⟨_, rfl⟩; have Bx5 : Below u5.heap.size u5 x5 := (by rw [← hx5]; exact below3 Bv5 (Nat.le_refl _) _ _ _); have Nx5 : NB x5 u5.heap.size 0 0 0 := (by rw [← hx5]; exact Nv5.set 0 0 0); unfold W3 at hx5; have RBx5 := (RBu3.carry hu5).carry Bx5; have c5 := RBx5.cell; have st5 := hrd x5)
      | (have m := st2; go_at_call 11; (with_reducible refine st2.mono ?_); rintro e u3 ⟨rfl, hu3⟩; have RBu3 := RBx2.carry hu3; have Bw3 := bel2 Bw2 hu3; have st4 := hdn u3)
      | (have m := st1; go_at_call 24; (with_reducible refine st1.mono ?_); rintro e u2 ⟨rfl, hu2⟩; obtain ⟨v2, hv2⟩ : ∃ v2, u2.alloc (.cells #[.slice none 0 0] 61) = v2 := ⟨_, rfl⟩; have Bv2 : Below u2.heap.size u2 v2 := (by rw [← hv2]; exact al1 _ _); have RBv2 : RB v2 u2.heap.size (.slice none 0 0) := (by rw [← hv2]; exact new_at rfl); have c2 := RBv2.cell; have t2 := RBv2.thaw; obtain ⟨x2, hx2⟩ : ∃ x2, v2.setCell ⟨u2.heap.size, 0, none⟩ (.slice none 0 0) = x2 := ⟨_, rfl⟩; have Bx2 : Below u2.heap.size u2 x2 := (by rw [← hx2]; exact Bv2.setCell (Nat.le_refl _) _); have RBx2 : RB x2 u2.heap.size (.slice none 0 0) := (by rw [← hx2]; exact RBv2.set _); have Bw2 : Below w.heap.size w x2 := bel2 (bel2 hu1 hu2) Bx2; have st2 := hmg x2 (w3.carry Bw2))
      | (go_at_call 9; (with_reducible refine hnw.mono ?_); rintro e u1 ⟨rfl, hu1⟩; have st1 := hrn u1))
    go_ret
    exact ⟨rfl, bel2 Bw7 hu8⟩
  obtain ⟨v1, v2, v3⟩ := hv
  obtain ⟨L0, hL0⟩ : ∃ L, bk0 a0.toNat a1.toNat a2 = L := ⟨_, rfl⟩
  have hbo0 : Bok L0 := by rw [← hL0]; exact bk0_bok (by omega) (by omega)
  have hlen0 : L0.length = a0.toNat := by rw [← hL0]; exact bk0_len _ _ _
  obtain ⟨L1, hL1⟩ : ∃ L, mrg L0 l3 = L := ⟨_, rfl⟩
  have hbo1 : Bok L1 := by rw [← hL1]; exact mrg_bok hbo0 _
  have hlen1 : L1.length = a0.toNat := by rw [← hL1, mrg_len hbo0, hlen0]
  have hne : L0 ≠ [] := fun e => by rw [e] at hlen0; simp at hlen0; omega
  have hnw : Calls Tryd.prog 9 #[.int .i64 a0, .int .i64 a1, .int .i64 a2] w fun e w' => ∃ p g, e = .returned (.tuple #[.pointer (some ⟨p, 0, none⟩), .int .i64 0]) ∧ w.heap.size ≤ p ∧ w.heap.size ≤ g ∧ Bk w' p g L0 ∧ Below w.heap.size w w' :=
    (new_any a0 a1 a2 w).mono (by
      rintro e w' h
      obtain ⟨p, g, rfl, h1, h2, h3⟩ := h.ok v1 v2 v3
      rw [hL0] at h3
      exact ⟨p, g, rfl, h1, h2, h3, h.1⟩)
  obtain ⟨N, hN⟩ : ∃ N, a0.toNat = N := ⟨_, rfl⟩
  have hrn : ∀ V, Calls Tryd.prog 24 #[.int .i64 a0, .int .i64 a1, .int .i64 a2] V fun e w' => ∃ ad cap, e = .returned (.tuple #[.agg #[.slice ad N cap], .int .i64 0]) ∧ RdN w' ad L0 ∧ N ≤ cap ∧ (∀ a, ad = some a → V.heap.size ≤ a.block) ∧ Below V.heap.size V w' := fun V =>
    (rNew_any a0 a1 a2 V).mono (by
      rintro e w' h
      obtain ⟨ad, cap, rfl, h1, h2, h3⟩ := h.ok v1 v2 v3
      rw [hL0] at h1
      rw [hN] at h2 ⊢
      exact ⟨ad, cap, rfl, h1, h2, fun a ha => (h3 a ha).1, h.1⟩)
  rw [hN] at hlen0 hlen1
  have hmg := fun V p g (hK : Bk V p g L0) (hR : RdN V ad3 l3) (hg : l3 ≠ [] → ∀ a, ad3 = some a → a.block ≠ g) => merge_some hK ad3 cap3 l3 hR hg (by omega)
  have hrm := fun V ad cap (hc : N ≤ cap) (hR : RdN V ad L0) (hR3 : RdN V ad3 l3) => rmerge_some ad N cap L0 hR hlen0 (by omega) (by omega) hc ad3 cap3 l3 hR3 (by omega)
  rw [hL1] at hmg hrm
  have hdu := fun V p g (hK : Bk V p g L1) => Due_any hK hbo1 a4
  have hrd := fun V ad cap (hR : RdN V ad L1) => rDue_any (w := V) ad N cap L1 hR hlen1 hbo1 a4
  obtain ⟨a, b, c, B, hx⟩ : ∃ a b c B, dueV (dueN L1 a4) = .tuple #[nt a b c, .bool B] := by
    cases dueN L1 a4 with
    | none => exact ⟨0, 0, 0, false, rfl⟩
    | some y => exact ⟨y.1, y.2.1, y.2.2, true, rfl⟩
  rw [hx] at hdu hrd
  unfold nt at hdu hrd
  clear hx hL0 hL1 hN hbo0 hbo1 hlen0 hlen1 v1 v2 v3 hL
  go_enter Tryd.func5, Tryd.ntmps5
  go_wp2_with (first
    | (have m := st7; go_at_call 10; (with_reducible refine st7.mono ?_); rintro e u8 ⟨rfl, hu8⟩; have n7' := Nx7.carry hu8; have n6' := n6.carry hu8; have n5' := n5.carry hu8; have ya0 := n7'.c0; have ya1 := n7'.c1; have ya2 := n7'.c2; have yb0 := n6'.c0; have yb1 := n6'.c1; have yb2 := n6'.c2; have yc0 := n5'.c0; have yc1 := n5'.c1; have yc2 := n5'.c2)
    | (have m := st6; go_at_call 26; (with_reducible refine st6.mono ?_); rintro e u7 ⟨rfl, hu7⟩; obtain ⟨v7, hv7⟩ : ∃ v7, u7.alloc (.cells #[.int .i64 0, .int .i64 0, .int .i64 0] 39) = v7 := ⟨_, rfl⟩; have Bv7 : Below u7.heap.size u7 v7 := (by rw [← hv7]; exact al1 _ _); have Nv7 : NB v7 u7.heap.size 0 0 0 := (by rw [← hv7]; exact NB.new _ _ _ _); have z0 := Nv7.c0; have z1 := Nv7.c1; have z2 := Nv7.c2; have z3 := Nv7.thaw 0; have z4 := Nv7.thaw 1; have z5 := Nv7.thaw 2; obtain ⟨x7, hx7⟩ : ∃ x7, W3 v7 u7.heap.size 0 0 0 = x7 := ⟨_, rfl⟩; have Bx7 : Below u7.heap.size u7 x7 := (by rw [← hx7]; exact below3 Bv7 (Nat.le_refl _) _ _ _); have Nx7 : NB x7 u7.heap.size 0 0 0 := (by rw [← hx7]; exact Nv7.set 0 0 0); unfold W3 at hx7; have Bw7 : Below w.heap.size w x7 := bel2 (bel2 (bel2 (bel2 (bel2 (bel2 (bel2 Bw4 hu5) Bx5) hu6) Bx6) By6) hu7) Bx7; have n6 := ((Nx6.carry By6).carry hu7).carry Bx7; have n5 := (((((Nx5.carry hu6).carry Bx6).carry By6).carry hu7).carry Bx7); have st7 := alive_any (hs.carry Bw7))
    | (have m := st5; go_at_call 27; (with_reducible refine st5.mono ?_); rintro e u6 ⟨rfl, hu6⟩; obtain ⟨x6, hx6⟩ : ∃ x6, u6.alloc (.cells #[.int .i64 a, .int .i64 b, .int .i64 c] 39) = x6 := ⟨_, rfl⟩; have Bx6 : Below u6.heap.size u6 x6 := (by rw [← hx6]; exact al1 _ _); have Nx6 : NB x6 u6.heap.size a b c := (by rw [← hx6]; exact NB.new _ _ _ _); obtain ⟨y6, hy6⟩ : ∃ y6, x6.alloc (.cells #[.slice none 0 0] 70) = y6 := ⟨_, rfl⟩; have By6 : Below x6.heap.size x6 y6 := (by rw [← hy6]; exact al1 _ _); have EBy6 : EB y6 (.pointer (some ⟨x6.heap.size, 0, none⟩)) := .inr ⟨_, rfl, (by rw [← hy6]; exact new_at rfl)⟩; have st6 := hed y6 _ EBy6)
    | (have m := st4; go_at_call 26; (with_reducible refine st4.mono ?_); rintro e u5 ⟨rfl, hu5⟩; obtain ⟨x5, hx5⟩ : ∃ x5, u5.alloc (.cells #[.int .i64 a, .int .i64 b, .int .i64 c] 39) = x5 := ⟨_, rfl⟩; have Bx5 : Below u5.heap.size u5 x5 := (by rw [← hx5]; exact al1 _ _); have Nx5 : NB x5 u5.heap.size a b c := (by rw [← hx5]; exact NB.new _ _ _ _); have RBx5 := (RBx4.carry hu5).carry Bx5; have c5 := RBx5.cell; have st5 := hrd x5 ad' cap' ((RL4.carry hu5).carry Bx5))
    | (have m := st3; go_at_call 25; (with_reducible refine st3.mono ?_); rintro e u4 ⟨ad', cap', S4, E4, rfl, hR4, hcap', had', hu4⟩; have RBu4 := RBu3.carry hu4; have c4 := RBu4.cell; have t4 := RBu4.thaw; obtain ⟨x4, hx4⟩ : ∃ x4, u4.setCell ⟨u2.heap.size, 0, none⟩ (.slice ad' N cap') = x4 := ⟨_, rfl⟩; have RBx4 : RB x4 u2.heap.size (.slice ad' N cap') := (by rw [← hx4]; exact RBu4.set _); have Bx4 : Below u2.heap.size u4 x4 := (by rw [← hx4]; have h0 := Below.refl u2.heap.size u4; exact h0.setCell (Nat.le_refl _) _); have RL4 : RdN x4 ad' L1 := (fun hn => (by obtain ⟨b, off, rfl, hbl, hat⟩ := hR4 hn; have hbn : b ≠ u2.heap.size := (by rcases had' with e | e; (obtain ⟨b2, off2, e2, hb2, _⟩ := hR2 hne; rw [e2] at e; obtain rfl : b = b2 := (by injection e with e; injection e); omega); (have := (e _ rfl).1; dsimp only at this; omega)); refine ⟨b, off, rfl, (by rw [← hx4]; simpa using hbl), ?_⟩; rw [← hx4]; exact hat.aside hbn)); have Kx4 : Bk x4 p g L1 := (hK3.carry hu4).low Bx4 (by omega) (by omega); have s5 := hu4.size; have Bw4 : Below w.heap.size w x4 := (bel2 Bw3 hu4).trans (Bx4.mono (by omega)); have s6 := Bx4.size; have st4 := hdu x4 p g Kx4)
    | (have m := st2; go_at_call 11; (with_reducible refine st2.mono ?_); rintro e u3 ⟨⟨NN, EE, rfl⟩, hK3, hg3⟩; have RBu3 : RB u3 u2.heap.size (.slice ad N cap) := (hg3.block _ s3 (by simp; omega)).trans RBx2; have RL3 : RdN u3 ad L0 := (hR2.carry Bx2).turn hg3 (fun _ a ha => (by have := had a ha; omega)); have R33 : RdN u3 ad3 l3 := (w3.carry Bw2).turn hg3 (w3.ne hg1); have Bw3 : Below w.heap.size w u3 := Bw2.trans (grown_low hg3 hg1 Bw2.size); have s4 := hg3.size; have c3 := RBu3.cell; have st3 := hrm u3 ad cap hcap RL3 R33)
    | (have m := st1; go_at_call 24; (with_reducible refine st1.mono ?_); rintro e u2 ⟨ad, cap, rfl, hR2, hcap, had, hu2⟩; obtain ⟨x2, hx2⟩ : ∃ x2, u2.alloc (.cells #[.slice ad N cap] 61) = x2 := ⟨_, rfl⟩; have Bx2 : Below u2.heap.size u2 x2 := (by rw [← hx2]; exact al1 _ _); have RBx2 : RB x2 u2.heap.size (.slice ad N cap) := (by rw [← hx2]; exact new_at rfl); have Bw2 : Below w.heap.size w x2 := bel2 (bel2 hu1 hu2) Bx2; have s1 := hu1.size; have s2 := hu2.size; have s3 : u2.heap.size < x2.heap.size := lt_at RBx2; have gl := hK1.glt; have pl := hK1.plt; have st2 := hmg x2 p g ((hK1.carry hu2).carry Bx2) (w3.carry Bw2) (w3.ne hg1))
    | (go_at_call 9; (with_reducible refine hnw.mono ?_); rintro e u1 ⟨p, g, rfl, hp1, hg1, hK1, hu1⟩; have st1 := hrn u1))
  go_ret
  exact ⟨by cases B <;> simp, bel2 Bw7 hu8⟩

set_option maxRecDepth 100000 in
theorem lifted (os : Os) (started : os.Started) (H : Type) (enc : TypeId × Value → H) :
    ReturnsInHanded {} Tryd.checked os 5 .any (fun w args => (Rows.refuteDuesSpec.pre enc Tryd.prog Tryd.f5 [] false w args ∧ laidMetH Tryd.prog Rows.refuteDuesRow.laid w) ∧ sizedMet enc Tryd.prog Tryd.f5 (OpenSpec.ofChange Rows.refuteDuesSpec) false w args)
      (Rows.refuteDuesSpec.post enc Tryd.prog Tryd.f5 false true false false) := by
  refine returnsInHanded_of_change_and (C := Tryd.checked) (X := fun w _ => laidMetH Tryd.prog Rows.refuteDuesRow.laid w) (fun _ _ _ hh h => h.of_heap hh) own started (by kernel_rfl) Tryd.func5
    (ChangeSpec.witness_shaped (enc := enc) (C := Tryd.checked) (os := os) (X := fun w _ => laidMetH Tryd.prog Rows.refuteDuesRow.laid w) false (World.laidAll Tryd.prog os Rows.refuteDuesRow.laid) #[.int .i64 0, .int .i64 0, .int .i64 0, .slice none 0 0, .int .i64 0] 8 (World.laidAll_os _ _ _)
      (World.shaped_of_ZipB (by kernel_rfl) (by kernel_rfl)) (by kernel_rfl) (by kernel_rfl) (by kernel_rfl)
      (by rw [MakeChecks.laidMetH_plain _ _ _ (by kernel_rfl)]; exact laidMet_laidAll _ (by kernel_rfl) (by kernel_rfl))) ?_
  intro W base args ds gs before hval0 hW _ hsz hL _
  have hval : ∀ (j : Nat) t v, Tryd.f5.params[j]? = some t → args[j]? = some v → Value.okWide Tryd.prog W .any base t v := hval0
  have hW' := hW
  obtain ⟨p, q, hA0, hV, rfl, hfz, hnd⟩ := hW
  have hA : DataW.TrodAll enc Tryd.prog W 0 (fun _ => true) true Tryd.f5.params.toList args.toList ds p := hA0
  rw [Tryd.params5] at hA hval
  obtain ⟨v0, vs0, d0, ds0, p0, q0, hargs, rfl, rfl, h0, r0⟩ := trodAll_cons hA
  obtain ⟨v1, vs1, d1, ds1, p1, q1, rfl, rfl, rfl, h1, r1⟩ := trodAll_cons r0
  obtain ⟨v2, vs2, d2, ds2, p2, q2, rfl, rfl, rfl, h2, r2⟩ := trodAll_cons r1
  obtain ⟨v3, vs3, d3, ds3, p3, q3, rfl, rfl, rfl, h3, r3⟩ := trodAll_cons r2
  obtain ⟨v4, vs4, d4, ds4, p4, q4, rfl, rfl, rfl, h4, r4⟩ := trodAll_cons r3
  obtain ⟨rfl, rfl, rfl⟩ := trodAll_nil r4
  obtain rfl : args = #[v0, v1, v2, v3, v4] := by cases args; simp_all
  obtain ⟨rfl, rfl⟩ := trodVars_none hV
  obtain ⟨a0, rfl, rfl, rfl, w0⟩ := open_int Tryd.underlying3 (hval 0 3 v0 rfl rfl) h0
  obtain ⟨a1, rfl, rfl, rfl, w1⟩ := open_int Tryd.underlying3 (hval 1 3 v1 rfl rfl) h1
  obtain ⟨a2, rfl, rfl, rfl, w2⟩ := open_int Tryd.underlying3 (hval 2 3 v2 rfl rfl) h2
  have k3 := h3
  have lt3 : ∀ x ∈ p3, x.block < W.heap.size := by obtain ⟨m, hm⟩ := k3; exact DataW.trod_lt m _ _ _ hm
  obtain ⟨ad3, cap3, l3, rfl, w3, hc3, hq3, hd3⟩ := open_nts (hval 3 22 v3 rfl rfl) h3
  obtain ⟨a4, rfl, rfl, rfl, w4⟩ := open_int Tryd.underlying3 (hval 4 3 v4 rfl rfl) h4
  clear hA0 hval0
  refine (walk W a0 w0 a1 w1 a2 w2 ad3 cap3 l3 w3 hc3 hq3 a4 w4 hL).mono fun e W' ⟨he, hg⟩ => ?_
  subst he
  exact ⟨_, rfl, _, _, _, [], _, [], hW', (trodAll_cons_mk (shut_bool Tryd.underlying4 _) trodAll_mk0), (trodAll_cons_mk (shut_int Tryd.underlying3 w0) (trodAll_cons_mk (shut_int Tryd.underlying3 w1) (trodAll_cons_mk (shut_int Tryd.underlying3 w2) (trodAll_cons_mk (Below.trod laidOut (by kernel_rfl) (of_decide_eq_true (by kernel_rfl)) k3 hg lt3) (trodAll_cons_mk (shut_int Tryd.underlying3 w4) trodAll_mk0))))), rfl, hg.frame _, fun h => by cases h⟩

theorem over : Rows.refuteDuesRow.holds Tryd.pinned (OpenSpec.ofChange Rows.refuteDuesSpec) :=
  OpenClaim.holds_of_wide 5 Tryd.f5 rfl rfl rfl rfl rfl rfl rfl ⟨rfl, rfl, rfl, rfl, rfl⟩ rfl rfl rfl rfl rfl (by kernel_rfl) Tryd.func5 (by kernel_rfl)
    (of_decide_eq_true (by kernel_rfl)) (by unfold Func.isWrapper; first | (rw [if_pos (by decide +kernel)]; kernel_rfl) | (rw [if_neg (by decide +kernel)]; exact ⟨rfl, rfl⟩))
    (fun os started H enc _ => lifted os started H enc)

theorem row_proved : Rows.RefuteDuesSaid :=
  over
theorem proved : Rows.RefuteDuesCardSaid :=
  Claim7.holds_tied_plain_at .later [] [.sentinel] true (true, "27a30db777e2e2083e8a5974727a1406e454a355e1787fd83c9a8439e2d84fd0") true
    row_proved (fun _ h => by cases h) (by kernel_rfl) (fun _ h => by cases h) refuteDues_row_tie rfl ⟨rfl, rfl⟩ (by kernel_rfl) rfl
    (fun f fn hf hfn => by
      obtain rfl : f = 5 := Option.some.inj ((show Tryd.prog.funcNamed "earshot/earshotlaw15.RefuteDues" = some 5 by kernel_rfl).symm.trans hf) |>.symm
      obtain rfl : fn = Tryd.f5 := (Option.some.inj (Tryd.func5.symm.trans hfn)).symm
      exact ⟨by kernel_rfl, fun j t ht => by
        rw [Tryd.params5] at ht
        rcases j with _ | j
        · have e : t = 3 := by simpa using ht.symm
          subst e
          exact (show Tryd.prog.wantsStandIn 3 = false by kernel_rfl)
        rcases j with _ | j
        · have e : t = 3 := by simpa using ht.symm
          subst e
          exact (show Tryd.prog.wantsStandIn 3 = false by kernel_rfl)
        rcases j with _ | j
        · have e : t = 3 := by simpa using ht.symm
          subst e
          exact (show Tryd.prog.wantsStandIn 3 = false by kernel_rfl)
        rcases j with _ | j
        · have e : t = 22 := by simpa using ht.symm
          subst e
          exact (show Tryd.prog.wantsStandIn 22 = false by kernel_rfl)
        rcases j with _ | j
        · have e : t = 3 := by simpa using ht.symm
          subst e
          exact (show Tryd.prog.wantsStandIn 3 = false by kernel_rfl)
        simp at ht⟩)
    (by kernel_rfl)
#print axioms proved
end Go.Proofs.YtlpmehmoeladjaaDoor
