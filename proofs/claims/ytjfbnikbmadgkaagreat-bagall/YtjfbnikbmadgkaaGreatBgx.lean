/- The document's Spoil: what it answers. -/
import Derived.Test.YtjfbnikbmadgkaaGreatBgw
namespace Go.Proofs.YtjfbnikbmadgkaaGreat
open Go.RowKit Go.Shelf

theorem own_lt' {W : World} {base : Nat} {e : TypeId} {size g n c : Nat} {xs : List Value} (h : W.ownsRow base e size (.slice (some ⟨g, 0, none⟩) n c) n xs) : g < W.heap.size := by
  obtain ⟨cur, hc⟩ := own_type h
  exact lt_at hc
section
variable {w : World} {base lb o : Nat} {ad : Option Addr} {cap : Nat} {last most : Int} {l : List Gr} {av : List (Option Addr × Nat)}
set_option maxHeartbeats 4000000 in
set_option maxRecDepth 100000 in
theorem rSpoil_any (h : Rg w base lb o ad cap last most l av) (i at_ b : Int) : Calls Tryz.prog 26 #[.pointer (some ⟨lb, o, none⟩), .int .i64 i, .int .i64 at_, .int .i64 b] w fun e w' => e = .returned (.int .i64 (sSp l i at_ b).1) ∧ ∃ ad' cap' av', Rg w' base lb o ad' cap' last most (sSp l i at_ b).2 av' ∧ Tr lb o (ob ad) (ob ad') w w' := by
  obtain ⟨ic, hic, hz0, hz1, hz2⟩ := info_parts infoB
  have hhs := has_any h i
  have hlt := h.lt
  by_cases hi : 0 ≤ i ∧ i < (l.length : Int)
  · rw [decide_eq_true hi] at hhs
    obtain ⟨k, rfl⟩ := Int.eq_ofNat_of_zero_le hi.1
    have hkl : k < l.length := by omega
    obtain ⟨x, hx⟩ : ∃ x, l[k]? = some x := ⟨_, List.getElem?_eq_getElem hkl⟩
    obtain ⟨gr, a, rfl, ha, c0, c1, c2, c3, hd, hnc⟩ := h.get hx
    have hfw := h.few _ (List.mem_of_getElem? hx)
    have hix := idx_Gz gr l.length cap k hkl
    have cL := h.cL
    by_cases hb1 : 1 ≤ b ∧ b ≤ 255
    · have q0 : ¬ b < 1 := by omega
      have q1 : ¬ b > 255 := by omega
      by_cases hxd : x.2.2.2 = []
      · rw [sSp_arg hx (by simp [hxd])]
        rw [hxd] at c3
        dsimp only [List.length_nil] at c3
        clear hi hx hb1 hxd
        go_enter Tryz.func26, Tryz.ntmps26
        go_wp2_with (go_at_call 84; (with_reducible refine hhs.mono ?_); rintro e u1 ⟨rfl, rfl⟩)
        go_ret
        exact ⟨rfl, _, cap, av, h, Tr.of _ _ (Below.refl _ _) hlt⟩
      · rw [sSp_ok hx ⟨hb1, hxd⟩]
        have hpos : 0 < x.2.2.2.length := List.length_pos_iff.2 hxd
        obtain ⟨n, hn⟩ : ∃ n, x.2.2.2.length = n := ⟨_, rfl⟩
        obtain ⟨bn, rfl⟩ := Int.eq_ofNat_of_zero_le (show 0 ≤ b by omega)
        obtain ⟨gd0, fd0, ead, hgl, hat⟩ := hd.rd hxd
        have hro := rRound_any at_ n (by omega) (by omega)
        have hm0 : 0 ≤ at_ % (n : Int) := Int.emod_nonneg _ (by omega)
        have hm1 : at_ % (n : Int) < (n : Int) := Int.emod_lt_of_pos _ (by omega)
        obtain ⟨j, hj⟩ := Int.eq_ofNat_of_zero_le hm0
        rw [hj] at hro hm1
        rw [hn, hj, Int.toNat_natCast, Int.toNat_natCast]
        have hjn : j < n := by omega
        have hjni : (j : Int) < (n : Int) := by omega
        obtain ⟨y, hy⟩ : ∃ y, x.2.2.2[j]? = some y := ⟨_, List.getElem?_eq_getElem (by omega)⟩
        have hy256 : y < 256 := hfw.2 y (List.mem_of_getElem? hy)
        have hbn : bn < 256 := by omega
        have hn0 : ¬ (n : Int) = 0 := by omega
        have hx8 := u8_xor_nat y bn hy256 hbn
        have hcv := conv_u8 bn hbn
        rw [hn, ead] at c3
        have hnil := World.ownsRow_nil w w.heap.size 5 1
        have hsrc := b_src hat
        have hlen : (cB x.2.2.2).length = n * 1 := by rw [cB_len, hn]; omega
        have HN : Hid (x.2.2.2.length = n) := hn
        have HX : Hid (l[k]? = some x) := hx
        have HY : Hid (x.2.2.2[j]? = some y) := hy
        have HL : Hid ((cB x.2.2.2).length = n * 1) := hlen
        have h1024 : n ≤ 1024 := by omega
        have hq0 : decide ((bn : Int) < 1) = false := decide_eq_false q0
        have hq1 : decide (255 < (bn : Int)) = false := decide_eq_false q1
        clear hi hx hb1 hn hj hy hm0 hxd hpos hlen hat
        go_enter Tryz.func26, Tryz.ntmps26
        go_wp2_with (first | (go_at_call 84; (with_reducible refine hhs.mono ?_); rintro e u1 ⟨rfl, rfl⟩) | (at_builtin; refine wpList_append_own_at _ rfl _ _ 55 rfl u1.heap.size 5 ic _ 1 1 Tryz.underlying55 hic hz0 hz1 hz2 rfl (by decide) (.slice none 0 0) 0 [] rfl hnil ⟨gd0, fd0, none⟩ n a.2 (cB x.2.2.2) rfl HL.out hsrc (cB_one _) (by unfold maxLen; omega) (by omega) (Nat.le_refl _) ?_; intro v u ho0 hgu hnn _; have hbu : Below u1.heap.size u1 u := (Below.refl _ u1).grown hgu (Nat.le_refl _) (fun q e => by cases e); have ho : u.ownsRow u1.heap.size 5 1 v n (cB x.2.2.2) := (by simpa using ho0); obtain ⟨gd, cd, rfl, hgd⟩ := own_some ho (by omega); have yj : u.cell? ⟨gd, j, none⟩ = some (.int .u8 (y : Int)) := (ho.cellAt j (by omega)).trans (cB_get HY.out); have zj := own_thaw ho j; have hixd := idx_b gd n cd j hjn; obtain ⟨u2, hu2⟩ : ∃ u2, u.setCell ⟨gd, j, none⟩ (.int .u8 ((y ^^^ bn : Nat) : Int)) = u2 := ⟨_, rfl⟩; have hbu2 : Below u1.heap.size u1 u2 := (by rw [← hu2]; exact hbu.setCell (p := ⟨gd, j, none⟩) hgd _); have ho2 : u2.ownsRow u1.heap.size 5 1 (.slice (some ⟨gd, 0, none⟩) n cd) n (cB (x.2.2.2.set j (y ^^^ bn))) := (by rw [← hu2]; have := row_put (j := j) ho (.int .u8 ((y ^^^ bn : Nat) : Int)); have e : (cB x.2.2.2).set j (.int .u8 ((y ^^^ bn : Nat) : Int)) = cB (x.2.2.2.set j (y ^^^ bn)) := (by simp [cB, List.map_set]); rw [e] at this; exact this); have hR2 := h.carry hbu2; have cL2 := hR2.cL; have c32 := (hbu2.cell (p := ⟨gr, k * 4 + 3, none⟩) (own_lt' h.row)).trans c3; have z32 : u2.frozen? ⟨gr, k * 4 + 3, none⟩ = false := own_thaw hR2.row _) | (go_at_call 88; (with_reducible refine (hro _).mono ?_); rintro e u5 ⟨rfl, rfl⟩))
        have hlen2 : (x.2.2.2.set j (y ^^^ bn)).length = n := by rw [List.length_set]; exact HN.out
        have hput := hR2.put HX.out (x.2.2.2.set j (y ^^^ bn)) (some ⟨gd, 0, none⟩, cd) (RdY.own (base := u1.heap.size) (c := cd) (by rw [hlen2]; exact ho2)) (fun e => by cases e) (by rw [List.length_set]) (fun z hz => by
          rcases List.mem_or_eq_of_mem_set hz with q | q
          · exact hfw.2 z q
          · rw [q]
            exact Nat.xor_lt_two_pow (n := 8) hy256 hbn)
        rw [HN.out] at hput
        have hspo : spo x j bn = (x.1, x.2.1, x.2.2.1, x.2.2.2.set j (y ^^^ bn)) := by unfold spo; rw [HY.out]; rfl
        go_ret
        rw [hspo]
        exact ⟨rfl, some ⟨gr, 0, none⟩, cap, _, hput.1, (Tr.of o (some gr) hbu2 hlt).trans hput.2⟩
    · rw [sSp_arg hx (fun h => hb1 h.1)]
      clear hi hx
      by_cases hq0 : b < 1
      · clear hb1
        go_enter Tryz.func26, Tryz.ntmps26
        go_wp2_with (go_at_call 84; (with_reducible refine hhs.mono ?_); rintro e u1 ⟨rfl, rfl⟩)
        go_ret
        exact ⟨rfl, _, cap, av, h, Tr.of _ _ (Below.refl _ _) hlt⟩
      · have hq1 : b > 255 := by omega
        clear hb1
        go_enter Tryz.func26, Tryz.ntmps26
        go_wp2_with (go_at_call 84; (with_reducible refine hhs.mono ?_); rintro e u1 ⟨rfl, rfl⟩)
        go_ret
        exact ⟨rfl, _, cap, av, h, Tr.of _ _ (Below.refl _ _) hlt⟩
  · rw [decide_eq_false hi] at hhs
    rw [sSp_no hi]
    clear hi
    go_enter Tryz.func26, Tryz.ntmps26
    go_wp2_with (go_at_call 84; (with_reducible refine hhs.mono ?_); rintro e u1 ⟨rfl, rfl⟩)
    go_ret
    exact ⟨rfl, ad, cap, av, h, Tr.of _ _ (Below.refl _ _) hlt⟩
end
end Go.Proofs.YtjfbnikbmadgkaaGreat
