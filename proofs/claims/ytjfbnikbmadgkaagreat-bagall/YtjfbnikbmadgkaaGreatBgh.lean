/- bag's round and Spoil: what they answer. -/
import Derived.Test.YtjfbnikbmadgkaaGreatBgg
import Derived.WalkMore
namespace Go.Proofs.YtjfbnikbmadgkaaGreat
open Go.RowKit Go.Shelf

theorem rem_pos {m : Nat} (hm : 0 < m) (v : Int) : ((v.tmod (m : Int)) + (m : Int)).tmod (m : Int) = v % (m : Int) := by
  have hm' : (0 : Int) < (m : Int) := by omega
  have h1 : -(m : Int) < v.tmod (m : Int) := by have := Int.lt_tmod_of_pos v hm'; omega
  rw [Int.tmod_eq_emod_of_nonneg (by omega), Int.add_emod_right]
  by_cases hv : 0 ≤ v
  · rw [Int.tmod_eq_emod_of_nonneg hv, Int.emod_emod]
  · have h3 := Int.emod_emod_of_dvd v (Int.dvd_refl (m : Int))
    rw [Int.tmod_def, Int.sub_emod, Int.mul_emod_right]
    simp
theorem bin_rem64' {P : Program} {t : TypeId} {x y : Operand} {w : World} (a : Int) (b : Nat) (hb : 0 < b) : binRun P .rem t x y (.int .i64 a) (.int .i64 (b : Int)) w = .ok (.int .i64 (a.tmod (b : Int))) w := by
  have e : ¬ b = 0 := by omega
  simp [binRun, go_sem, Op.intDiv, e]
set_option maxHeartbeats 1000000 in
set_option maxRecDepth 100000 in
theorem bround_any (v : Int) (m : Nat) (h0 : 0 < m) (h1 : m ≤ 1024) (w : World) : Calls Tryz.prog 87 #[.int .i64 v, .int .i64 (m : Int)] w fun e w' => e = .returned (.int .i64 (v % (m : Int))) ∧ w' = w := by
  have hm' : (0 : Int) < (m : Int) := by omega
  have hm0 : ¬ (m : Int) = 0 := by omega
  have hm1 : ¬ m = 0 := by omega
  have a1 : -(m : Int) < v.tmod (m : Int) := by have := Int.lt_tmod_of_pos v hm'; omega
  have a2 : v.tmod (m : Int) < (m : Int) := Int.tmod_lt_of_pos v hm'
  have hr := rem_pos h0 v
  have a3 : 0 ≤ v % (m : Int) := Int.emod_nonneg _ hm0
  have a4 : v % (m : Int) < (m : Int) := Int.emod_lt_of_pos _ hm'
  go_enter Tryz.func87, Tryz.ntmps87
  go_wp2
  go_ret
  exact ⟨by rw [← hr]; rfl, rfl⟩
section
variable {w : World} {base p : Nat} {ad : Option Addr} {cap : Nat} {room last : Int} {ps : List Nat} {l : List Gr}
/-- One byte turned. -/
def spo (x : Gr) (k b : Nat) : Gr := (x.1, x.2.1, x.2.2.1, x.2.2.2.set k ((x.2.2.2[k]?).getD 0 ^^^ b))
def sSp (l : List Gr) (i at_ b : Int) : Int × List Gr :=
  if 0 ≤ i ∧ i < (l.length : Int) then
    if (1 ≤ b ∧ b ≤ 255) ∧ ((l[i.toNat]?).getD g0).2.2.2 ≠ [] then (0, l.set i.toNat (spo ((l[i.toNat]?).getD g0) (at_ % (((l[i.toNat]?).getD g0).2.2.2.length : Int)).toNat b.toNat)) else (1, l)
  else (91, l)
theorem sSp_no {i at_ b : Int} (h : ¬ (0 ≤ i ∧ i < (l.length : Int))) : sSp l i at_ b = (91, l) := if_neg h
theorem sSp_arg {k : Nat} {x : Gr} {at_ b : Int} (h : l[k]? = some x) (hb : ¬ ((1 ≤ b ∧ b ≤ 255) ∧ x.2.2.2 ≠ [])) : sSp l (k : Int) at_ b = (1, l) := by
  have h1 := (List.getElem?_eq_some_iff.1 h).1
  rw [sSp, if_pos (by omega), Int.toNat_natCast, h]
  exact if_neg hb
theorem sSp_ok {k : Nat} {x : Gr} {at_ b : Int} (h : l[k]? = some x) (hb : (1 ≤ b ∧ b ≤ 255) ∧ x.2.2.2 ≠ []) : sSp l (k : Int) at_ b = (0, l.set k (spo x (at_ % (x.2.2.2.length : Int)).toNat b.toNat)) := by
  have h1 := (List.getElem?_eq_some_iff.1 h).1
  rw [sSp, if_pos (by omega), Int.toNat_natCast, h]
  exact if_pos hb
theorem Bg.put {σ : Nat → Prop} {g : Nat} (h : Bg σ w base p (some ⟨g, 0, none⟩) cap room last ps l) (k q : Nat) (x : Gr) (hx : GmAt σ w q x) : Bg σ (w.setCell ⟨g, k, none⟩ (.pointer (some ⟨q, 0, none⟩))) base p (some ⟨g, 0, none⟩) cap room last (ps.set k q) (l.set k x) ∧ Tn p (some g) (some g) w (w.setCell ⟨g, k, none⟩ (.pointer (some ⟨q, 0, none⟩))) := by
  have ht : Tn p (some g) (some g) w (w.setCell ⟨g, k, none⟩ (.pointer (some ⟨q, 0, none⟩))) := ⟨rfl, rfl, rfl, by simp, fun j _ _ h2 => Below.heap_setCell _ _ _ _ (fun e => h2 (congrArg some e)), .inl rfl⟩
  have hr := row_put (j := k) h.row (.pointer (some ⟨q, 0, none⟩))
  have hcp : (cP ps).set k (.pointer (some ⟨q, 0, none⟩)) = cP (ps.set k q) := by simp [cP, pt, List.map_set]
  rw [hcp] at hr
  refine ⟨⟨h.pb, ?_, by rw [List.length_set]; exact hr, by simpa using h.len, fun j q' x' h1 h2 => ?_, by simpa using h.le, h.most, fun b q => Nat.lt_of_lt_of_le (h.sg b q) ht.size⟩, ht⟩
  · rw [List.length_set]
    exact (Below.heap_setCell w ⟨g, k, none⟩ _ p (fun e => h.ne (congrArg some e.symm))).trans h.obj
  · by_cases hj : j = k
    · subst hj
      have a1 := (List.getElem?_eq_some_iff.1 h1).1
      have a2 := (List.getElem?_eq_some_iff.1 h2).1
      rw [List.getElem?_set_self (by simpa using a1)] at h1
      rw [List.getElem?_set_self (by simpa using a2)] at h2
      cases h1
      cases h2
      exact hx.tn h ht
    · rw [List.getElem?_set_ne (Ne.symm hj)] at h1 h2
      exact (h.gr j q' x' h1 h2).tn h ht
theorem conv_u8 (b : Nat) (hb : b < 256) (W : World) : (convert 3 5 (.int .i64 (b : Int))).run Tryz.prog W = .ok (.int .u8 (b : Int)) W := by
  have : IntKind.u8.wrap (b : Int) = (b : Int) := by rw [IntKind.wrap_u8']; omega
  go_simp
theorem bin_xor8 {P : Program} {t : TypeId} {x y : Operand} {w : World} (a b : Nat) (ha : a < 256) (hb : b < 256) : binRun P .xor t x y (.int .u8 (a : Int)) (.int .u8 (b : Int)) w = .ok (.int .u8 ((a ^^^ b : Nat) : Int)) w := by
  rw [← u8_xor_nat a b ha hb]; simp [binRun, go_sem]
theorem idx_b (g n cap k : Nat) (h : k < n) (w : World) : (Instr.indexAt 55 (.slice (some ⟨g, 0, none⟩) n cap) (.int .i64 (k : Int))).run Tryz.prog w = .ok (.pointer (some ⟨g, k, none⟩)) w := by
  have h1 : (k : Int) < (n : Int) := by omega
  go_simp
theorem load_u8 {V : World} {B j : Nat} {x : Int} (h : V.cell? ⟨B, j, none⟩ = some (.int .u8 x)) : (Instr.loadAt 5 (.pointer (some ⟨B, j, none⟩))).run Tryz.prog V = .ok (.int .u8 x) V := by go_simp
theorem store_u8 {V : World} {B j : Nat} {x y : Int} (h : V.cell? ⟨B, j, none⟩ = some (.int .u8 x)) (z : V.frozen? ⟨B, j, none⟩ = false) : (Instr.storeAt 5 (.pointer (some ⟨B, j, none⟩)) (.int .u8 y)).run Tryz.prog V = .ok () (V.setCell ⟨B, j, none⟩ (.int .u8 y)) := by go_simp
theorem bi_lenB (t : TypeId) (bs : Array Bool) (a : Option Addr) (n c : Nat) (w : World) : (builtin .len #[55] t bs #[.slice a n c]).run Tryz.prog w = .ok (.value (.int .i64 (n : Int))) w := by
  show ((do pure (.value (← Builtin.len_ #[55] t #[.slice a n c]))) : Sem Next).run Tryz.prog w = _
  go_simp
theorem own_thaw {W : World} {base : Nat} {e : TypeId} {size g n c : Nat} {xs : List Value} (h : W.ownsRow base e size (.slice (some ⟨g, 0, none⟩) n c) n xs) (j : Nat) : W.frozen? ⟨g, j, none⟩ = false := by
  rcases own_form h with ⟨e1, _⟩ | ⟨g', c', e1, _, _, _, _, cur, hc⟩
  · cases e1
  · cases e1
    exact thaw_at hc j
theorem own_type {W : World} {base : Nat} {e : TypeId} {size g n c : Nat} {xs : List Value} (h : W.ownsRow base e size (.slice (some ⟨g, 0, none⟩) n c) n xs) : ∃ cur, W.heap[g]? = some (.cells cur e (0, 0)) := by
  rcases own_form h with ⟨e1, _⟩ | ⟨g', c', e1, _, _, _, _, cur, hc⟩
  · cases e1
  · cases e1
    exact ⟨cur, hc⟩
set_option maxHeartbeats 4000000 in
set_option maxRecDepth 100000 in
theorem spoil_any {σ : Nat → Prop} (h : Bg σ w base p ad cap room last ps l) (i at_ b : Int) : Calls Tryz.prog 25 #[.pointer (some ⟨p, 0, none⟩), .int .i64 i, .int .i64 at_, .int .i64 b] w fun e w' => e = .returned (.int .i64 (sSp l i at_ b).1) ∧ ∃ ad' cap' ps', Bg σ w' base p ad' cap' room last ps' (sSp l i at_ b).2 ∧ Tn p (ob ad) (ob ad') w w' := by
  have hmx : Tryz.prog.follows .mixedOrders = true := by kernel_rfl
  obtain ⟨V0, hV⟩ : ∃ V, w.alloc (.cells #[.int .i64 i] 3) = V := ⟨_, rfl⟩
  have hbV : Below w.heap.size w V0 := by rw [← hV]; exact al1' _ _
  have hrf := refuse_1 h i hV
  have hB := h.carry hbV
  by_cases hi : 0 ≤ i ∧ i < (l.length : Int)
  · obtain ⟨k, q, g, x, rfl, hq, hx, hgm, rfl, hk, hc⟩ := hB.get hi
    rw [rfs_1ok hi] at hrf
    by_cases hb1 : 1 ≤ b ∧ b ≤ 255
    · have q0 : ¬ b < 1 := by omega
      have q1 : ¬ b > 255 := by omega
      have c2 := hB.c2
      have cq := hB.at hq
      unfold pt at cq
      have hix := idx_p g ps.length cap k hk
      have hto := told_any hgm
      have hfew : x.2.2.2.length ≤ 1024 := by obtain ⟨_, _, h, _⟩ := hgm; exact h.few
      have hby : Byt x.2.2.2 := by obtain ⟨_, _, h, _⟩ := hgm; exact h.byt
      by_cases hd : x.2.2.2 = []
      · rw [sSp_arg hx (by simp [hd])]
        obtain ⟨xi, xf, xt, xd⟩ := x
        dsimp only at hd
        subst hd
        unfold gV at hto
        dsimp only [List.length_nil] at hto
        clear hi hx hq hb1
        go_enter Tryz.func25, Tryz.ntmps25
        go_wp2
        go_step3
        go_wp2_with (go_at_call 80; (with_reducible refine hrf.mono ?_); rintro e u1 ⟨rfl, rfl⟩)
        go_step3
        go_wp2_with (go_at_call 81; (with_reducible refine hto.mono ?_); rintro e u2 ⟨a, c, rfl, ho, hb2⟩)
        try rw [Exit.noGoto_ret]
        go_ret
        have hbl := bel2 (bel2 hbV hb2) (al1' u2 (.cells #[.int .i64 xi, .int .i64 xf, .int .i64 xt, .slice a 0 c] 62))
        exact ⟨rfl, _, cap, ps, h.carry hbl, Tn.of p _ hbl⟩
      · rw [sSp_ok hx ⟨hb1, hd⟩]
        obtain ⟨xi, xf, xt, xd⟩ := x
        dsimp only at hd hto hfew hby ⊢
        have hpos : 0 < xd.length := List.length_pos_iff.2 hd
        obtain ⟨n, hn⟩ : ∃ n, xd.length = n := ⟨_, rfl⟩
        obtain ⟨bn, rfl⟩ := Int.eq_ofNat_of_zero_le (show 0 ≤ b by omega)
        rw [hn] at hpos hfew ⊢
        have hro := bround_any at_ n hpos hfew
        have hm0 : 0 ≤ at_ % (n : Int) := Int.emod_nonneg _ (by omega)
        have hm1 : at_ % (n : Int) < (n : Int) := Int.emod_lt_of_pos _ (by omega)
        obtain ⟨j, hj⟩ := Int.eq_ofNat_of_zero_le hm0
        rw [hj] at hro hm1 ⊢
        rw [Int.toNat_natCast, Int.toNat_natCast]
        have hjn : j < n := by omega
        obtain ⟨y, hy⟩ : ∃ y, xd[j]? = some y := ⟨_, List.getElem?_eq_getElem (by omega)⟩
        have hy256 : y < 256 := hby y (List.mem_of_getElem? hy)
        have hbn : bn < 256 := by omega
        unfold gV at hto
        dsimp only at hto
        rw [hn] at hto
        have hn0 : ¬ (n : Int) = 0 := by omega
        have HN : Hid (xd.length = n) := hn
        have HX : Hid (l[k]? = some (xi, xf, xt, xd)) := hx
        have HQ : Hid (ps[k]? = some q) := hq
        have HJ : Hid (at_ % (n : Int) = (j : Int)) := hj
        have HY : Hid (xd[j]? = some y) := hy
        clear hi hx hq hb1 hn hj hy hm0
        go_enter Tryz.func25, Tryz.ntmps25
        go_wp2
        go_step3
        go_wp2_with (go_at_call 80; (with_reducible refine hrf.mono ?_); rintro e u1 ⟨rfl, rfl⟩)
        go_step3
        go_wp2_with (go_at_call 81; (with_reducible refine hto.mono ?_); rintro e u2 ⟨a, c, rfl, ho, hb2⟩; obtain ⟨gd, c', e, hgd⟩ := own_some ho hpos; simp only [Value.slice.injEq] at e; obtain ⟨rfl, _, rfl⟩ := e; obtain ⟨u3, hu3⟩ : ∃ u3, u2.alloc (.cells #[.int .i64 xi, .int .i64 xf, .int .i64 xt, .slice (some ⟨gd, 0, none⟩) n c] 62) = u3 := ⟨_, rfl⟩; have hG3 : GB u3 u2.heap.size xi xf xt (.slice (some ⟨gd, 0, none⟩) n c) := (by rw [← hu3]; exact new_at rfl); have hb3 : Below u2.heap.size u2 u3 := (by rw [← hu3]; exact al1' _ _); have f3 := hG3.c3)
        have hb23 : Below w.heap.size w u3 := bel2 (bel2 hbV hb2) hb3
        have hsz2 : w.heap.size ≤ u2.heap.size := (bel2 hbV hb2).size
        have ho3 := row_below ho hb3
        have hgdw : w.heap.size ≤ gd := Nat.le_trans hbV.size hgd
        have hgdB : gd ≠ u2.heap.size := fun e => by have := ho.lt gd rfl; omega
        rename_i Q0 K0 hK
        refine wp_region_any hmx ?_
        refine wpAny_last 13 (fun i__ => ([(.pointer (some ⟨u2.heap.size, 3, none⟩)), (.slice (some ⟨gd, 0, none⟩) n c), (.int .i64 at_), (.pointer (some ⟨u2.heap.size, 3, none⟩)), (.slice (some ⟨gd, 0, none⟩) n c), (.int .i64 (n : Int)), (.int .i64 (j : Int)), (.pointer (some ⟨gd, j, none⟩)), (.int .u8 (y : Int)), (.int .i64 (bn : Int)), (.int .u8 (bn : Int)), (.int .u8 ((y ^^^ bn : Nat) : Int)), (.pointer (some ⟨gd, j, none⟩)), undef] : List Value).getD i__ undef) (fun V => GB V u2.heap.size xi xf xt (.slice (some ⟨gd, 0, none⟩) n c) ∧ V.ownsRow u1.heap.size 5 1 (.slice (some ⟨gd, 0, none⟩) n c) n (cB xd) ∧ Below w.heap.size w V) (fun V => GB V u2.heap.size xi xf xt (.slice (some ⟨gd, 0, none⟩) n c) ∧ V.ownsRow u1.heap.size 5 1 (.slice (some ⟨gd, 0, none⟩) n c) n (cB (xd.set j (y ^^^ bn))) ∧ Below w.heap.size w V) rfl (by kernel_rfl) (by kernel_rfl) ⟨hG3.carry (Below.refl _ _).drew, row_below ho3 (Below.refl _ _).drew, hb23.drew⟩ ?_ ?_  ?_
        · refine (stepsFrom_cons ?_ (stepsFrom_cons ?_ (stepsFrom_cons ?_ (stepsFrom_cons ?_ (stepsFrom_cons ?_ (stepsFrom_cons ?_ (stepsFrom_cons ?_ (stepsFrom_cons ?_ (stepsFrom_cons ?_ (stepsFrom_cons ?_ (stepsFrom_cons ?_ (stepsFrom_cons ?_ (stepsFrom_cons ?_ trivial)))))))))))))
          · exact step_fieldAddr rfl trivial _ _ _ _ rfl rfl (fun v hw => (field_g v _).2.2)
          · exact step_load rfl trivial _ _ _ rfl rfl (fun v hw => load_b hw.1.c3)
          · exact step_move rfl trivial _ rfl (by kernel_rfl)
          · exact step_fieldAddr rfl trivial _ _ _ _ rfl rfl (fun v hw => (field_g v _).2.2)
          · exact step_load rfl trivial _ _ _ rfl rfl (fun v hw => load_b hw.1.c3)
          · exact step_bi rfl trivial _ _ _ [(.slice (some ⟨gd, 0, none⟩) n c)] rfl (by kernel_rfl) (fun cs v hw => bi_lenB _ cs _ n c v)
          · exact step_call rfl trivial 87 _ _ [(.int .i64 at_), (.int .i64 (n : Int))] rfl (by kernel_rfl) (enters_of Tryz.func87 (by kernel_rfl) rfl) (fun v hw => (hro v).mono (by rintro e w' ⟨rfl, rfl⟩; exact ⟨rfl, hw⟩))
          · exact step_indexAddr rfl trivial _ _ _ _ _ rfl rfl rfl (fun v hw => idx_b gd n c j hjn v)
          · exact step_load rfl trivial _ _ _ rfl rfl (fun v hw => load_u8 ((hw.2.1.cellAt j (by omega)).trans (cB_get HY.out)))
          · exact step_move rfl trivial _ rfl (by kernel_rfl)
          · exact step_convert rfl trivial _ _ _ _ rfl rfl (fun v hw => conv_u8 bn hbn v)
          · exact step_binOp rfl trivial _ _ _ _ _ _ _ rfl rfl rfl (fun v hw => bin_xor8 y bn hy256 hbn)
          · exact step_indexAddr rfl trivial _ _ _ _ _ rfl rfl rfl (fun v hw => idx_b gd n c j hjn v)
        · intro o ho
          cases ho
          exact step_store rfl trivial rfl _ _ _ _ _ rfl rfl rfl (fun v hw => ⟨_, store_u8 ((hw.2.1.cellAt j (by omega)).trans (cB_get HY.out)) (own_thaw hw.2.1 j), (Below.heap_setCell v ⟨gd, j, none⟩ _ _ (Ne.symm hgdB)).trans hw.1, by have := row_put (j := j) hw.2.1 (.int .u8 ((y ^^^ bn : Nat) : Int)); have e : (cB xd).set j (.int .u8 ((y ^^^ bn : Nat) : Int)) = cB (xd.set j (y ^^^ bn)) := (by simp [cB, List.map_set]); rw [e] at this; exact this, hw.2.2.setCell hgdw _⟩)
        intro W hW
        first | refine hK _ _ ?_ | refine (‹∀ (a : Act) (w : World), Code.wp Tryz.prog _ _ a w → _›) _ _ ?_ | skip
        simp only [finL, List.getD_cons_zero, List.getD_cons_succ, Nat.zero_add, Nat.reduceAdd, List.setIfInBounds_toArray, List.set_cons_zero, List.set_cons_succ]
        obtain ⟨hG4, ho4, hb4⟩ := hW
        clear hK
        have hB4 := h.carry hb4
        have hd' : xd.set j (y ^^^ bn) = (spo (xi, xf, xt, xd) j bn).2.2.2 := by show _ = xd.set j ((xd[j]?).getD 0 ^^^ bn); rw [HY.out]; rfl
        have hlen' : (xd.set j (y ^^^ bn)).length = n := by rw [List.length_set]; exact HN.out
        have hgm' : GmAt σ W u2.heap.size (spo (xi, xf, xt, xd) j bn) := by
          refine ⟨some ⟨gd, 0, none⟩, c, ⟨?_, ?_, ?_, ?_⟩, (fun q => by have := h.sg _ q; omega), fun _ a e q => by cases e; have : gd < w.heap.size := h.sg _ q; omega⟩
          · rw [← hd', hlen']
            exact hG4
          · rw [← hd']
            exact RdY.own (base := u1.heap.size) (c := c) (by rw [hlen']; exact ho4)
          · rw [← hd']
            intro z hz
            rcases List.mem_or_eq_of_mem_set hz with q | q
            · exact hby z q
            · rw [q]
              exact Nat.xor_lt_two_pow (n := 8) hy256 hbn
          · rw [← hd', hlen']
            exact hfew
        have hfin := hB4.put k u2.heap.size _ hgm'
        have d2 := hB4.c2
        have dq := hB4.at HQ.out
        unfold pt at dq
        have zq : W.frozen? ⟨g, k, none⟩ = false := own_thaw hB4.row k
        clear hd' hlen'
        go_wp2
        try rw [Exit.noGoto_ret]
        go_ret
        exact ⟨rfl, _, cap, _, hfin.1, (Tn.of p _ hb4).trans hfin.2⟩
    · rw [sSp_arg hx (fun h => hb1 h.1)]
      clear hi hx hq
      by_cases hq0 : b < 1
      · clear hb1
        go_enter Tryz.func25, Tryz.ntmps25
        go_wp2
        go_step3
        go_wp2_with (go_at_call 80; (with_reducible refine hrf.mono ?_); rintro e u1 ⟨rfl, rfl⟩)
        go_step3
        go_wp2
        try rw [Exit.noGoto_ret]
        go_ret
        exact ⟨rfl, _, cap, ps, h.carry hbV, Tn.of p _ hbV⟩
      · have hq1 : b > 255 := by omega
        clear hb1
        go_enter Tryz.func25, Tryz.ntmps25
        go_wp2
        go_step3
        go_wp2_with (go_at_call 80; (with_reducible refine hrf.mono ?_); rintro e u1 ⟨rfl, rfl⟩)
        go_step3
        go_wp2
        try rw [Exit.noGoto_ret]
        go_ret
        exact ⟨rfl, _, cap, ps, h.carry hbV, Tn.of p _ hbV⟩
  · rw [rfs_1no hi] at hrf
    rw [sSp_no hi]
    clear hi
    go_enter Tryz.func25, Tryz.ntmps25
    go_wp2
    go_step3
    go_wp2_with (go_at_call 80; (with_reducible refine hrf.mono ?_); rintro e u1 ⟨rfl, rfl⟩)
    go_step3
    go_wp2
    try rw [Exit.noGoto_ret]
    go_ret
    exact ⟨rfl, ad, cap, ps, h.carry hbV, Tn.of p _ hbV⟩
end
end Go.Proofs.YtjfbnikbmadgkaaGreat
