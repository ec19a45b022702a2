/- The document's disk: Read, Write: what they answer. -/
import Derived.Test.YtkbeoliglnikiaaGreatDra
namespace Go.Proofs.YtkbeoliglnikiaaGreat
open Go.RowKit Go.Shelf

section
variable {W V : World} {lb o base r c : Nat} {d : Dst}
set_option maxHeartbeats 1000000 in
theorem rread_off (h : RfD W lb o base r c d) (s : Int) (ho : d.off = true) : Calls Tryz.prog 24 #[.pointer (some ⟨lb, o, none⟩), .int .i64 s] W fun e w' => e = .returned (.tuple #[.slice none 0 0, .int .i64 100]) ∧ w' = W := by
  have cf := h.f
  rw [ho] at cf
  go_enter Tryz.func24, Tryz.ntmps24
  go_wp2
  go_ret2
  exact ⟨rfl, rfl⟩
set_option maxHeartbeats 1000000 in
theorem rread_sec (h : RfD W lb o base r c d) (s : Int) (ho : d.off = false) (hs : ¬ (0 ≤ s ∧ s < 8)) : Calls Tryz.prog 24 #[.pointer (some ⟨lb, o, none⟩), .int .i64 s] W fun e w' => e = .returned (.tuple #[.slice none 0 0, .int .i64 101]) ∧ w' = W := by
  have cf := h.f
  rw [ho] at cf
  by_cases h0 : s < 0
  · clear hs
    go_enter Tryz.func24, Tryz.ntmps24
    go_wp2
    go_ret2
    exact ⟨rfl, rfl⟩
  · have h8 : s ≥ 8 := by omega
    clear hs
    go_enter Tryz.func24, Tryz.ntmps24
    go_wp2
    go_ret2
    exact ⟨rfl, rfl⟩
theorem slr (g c k : Nat) (hk : k < 8) (hc : 256 ≤ c) (w : World) : (Instr.sliceAt 22 (.slice (some ⟨g, 0, none⟩) 256 c) (some (.int .i64 (32 * (k : Int)))) (some (.int .i64 (32 * (k : Int) + 32))) none).run Tryz.prog w = .ok (.slice (some ⟨g, 32 * k, none⟩) 32 (c - 32 * k)) w := by
  have h1 : (32 : Int) ≤ (c : Int) := by omega
  have h2 : (64 : Int) ≤ (c : Int) := by omega
  have h3 : (96 : Int) ≤ (c : Int) := by omega
  have h4 : (128 : Int) ≤ (c : Int) := by omega
  have h5 : (160 : Int) ≤ (c : Int) := by omega
  have h6 : (192 : Int) ≤ (c : Int) := by omega
  have h7 : (224 : Int) ≤ (c : Int) := by omega
  have h8 : (256 : Int) ≤ (c : Int) := by omega
  have z0 : ¬ c = 0 := by omega
  have z1 : ¬ c = 32 := by omega
  have z2 : ¬ c = 64 := by omega
  have z3 : ¬ c = 96 := by omega
  have z4 : ¬ c = 128 := by omega
  have z5 : ¬ c = 160 := by omega
  have z6 : ¬ c = 192 := by omega
  have z7 : ¬ c = 224 := by omega
  clear hc
  have hq : k = 0 ∨ k = 1 ∨ k = 2 ∨ k = 3 ∨ k = 4 ∨ k = 5 ∨ k = 6 ∨ k = 7 := by omega
  rcases hq with rfl | rfl | rfl | rfl | rfl | rfl | rfl | rfl
  all_goals go_simp
set_option maxHeartbeats 1000000 in
set_option maxRecDepth 100000 in
theorem rread_ok (h : RfD W lb o base r c d) (k : Nat) (ho : d.off = false) (hk : k < 8) : Calls Tryz.prog 24 #[.pointer (some ⟨lb, o, none⟩), .int .i64 (k : Int)] W fun e w' => ∃ g cg, e = .returned (.tuple #[.slice (some ⟨g, 0, none⟩) 32 cg, .int .i64 0]) ∧ w'.ownsRow W.heap.size 5 1 (.slice (some ⟨g, 0, none⟩) 32 cg) 32 (cB (secs d.l k)) ∧ Below W.heap.size W w' := by
  have cf := h.f
  rw [ho] at cf
  have cb := h.b
  have hsl := slr r c k hk (own_cap h.row)
  have hki : (k : Int) < 8 := by omega
  have hkn : ¬ (k : Int) < 0 := by omega
  obtain ⟨ic, hic, hz0, hz1, hz2⟩ := info_parts infoB
  have hnil := World.ownsRow_nil W W.heap.size 5 1
  have hsub := h.at.sub (32 * k) 32
  rw [Nat.zero_add] at hsub
  have hln := secs_len h.len hk
  obtain ⟨X, hX⟩ : ∃ X, secs d.l k = X := ⟨_, rfl⟩
  have hsub2 : BAt W r (32 * k) X := by rw [← hX]; exact hsub
  rw [hX] at hln ⊢
  have hnews := b_src hsub2
  have hcl : (cB X).length = 32 * 1 := by rw [cB_len, hln]
  clear hX hsub hsub2
  go_enter Tryz.func24, Tryz.ntmps24
  go_wp2_with (at_builtin; refine wpList_append_own_at _ rfl _ _ 22 rfl W.heap.size 5 ic _ 1 1 Tryz.underlying22 hic hz0 hz1 hz2 rfl (by decide) _ 0 [] rfl hnil ⟨r, 32 * k, none⟩ 32 (c - 32 * k) (cB X) rfl (by rw [hcl]) hnews (cB_one X) (by unfold maxLen; omega) (by omega) (Nat.le_refl _) ?_; intro v u ho2 hgu hnn _; have hbu : Below W.heap.size W u := ⟨hgu.os, hgu.tape, hgu.output, hgu.size, fun q hq => hgu.block q hq (show some q ≠ none from by simp)⟩; rw [Nat.zero_add, List.nil_append] at ho2; obtain ⟨g2, c2, rfl⟩ := own_some ho2 (by omega))
  go_ret2
  exact ⟨g2, c2, rfl, ho2, hbu⟩
/-- A sector's bytes are put so far. -/
def putI (l : List Nat) (s : Nat) (x : List Nat) (i : Nat) : List Nat := splice l (32 * s) (x.take i)
theorem putI_0 (l : List Nat) (s : Nat) (x : List Nat) : putI l s x 0 = l := by simp [putI, splice]
theorem putI_32 {l : List Nat} {s : Nat} {x : List Nat} (h : x.length = 32) : putI l s x 32 = putS l s x := by rw [putI, putS, List.take_of_length_le (Nat.le_of_eq h)]
theorem putI_step {l : List Nat} {s : Nat} {x : List Nat} {i y : Nat} (hl : l.length = 256) (hs : s < 8) (hx : x.length = 32) (hy : x[i]? = some y) : (putI l s x i).set (32 * s + i) y = putI l s x (i + 1) := by
  have hi : i < 32 := by rw [← hx]; exact (List.getElem?_eq_some_iff.1 hy).1
  have e1 : (x.take i).length = i := by rw [List.length_take]; omega
  have e2 : (x.take (i + 1)).length = i + 1 := by rw [List.length_take]; omega
  have e0 : (l.take (32 * s)).length = 32 * s := by rw [List.length_take]; omega
  apply List.ext_getElem?
  intro j
  by_cases e : 32 * s + i = j
  · subst e
    rw [List.getElem?_set_self (by rw [putI, length_splice _ _ _ (by omega)]; omega)]
    simp only [putI, splice]
    rw [List.getElem?_append_right (by omega), e0, List.getElem?_append_left (by omega), Nat.add_sub_cancel_left, List.getElem?_take, if_pos (by omega), hy]
  · rw [List.getElem?_set_ne e]
    simp only [putI, splice, List.getElem?_append, e0, e1, e2, List.getElem?_take, List.getElem?_drop]
    by_cases h1 : j < 32 * s
    · simp [h1]
    · simp only [if_neg h1]
      by_cases h2 : j - 32 * s < i
      · rw [if_pos h2, if_pos (by omega)]
        simp only [if_pos (show j - 32 * s < i + 1 by omega)]
      · rw [if_neg h2, if_neg (by omega)]
        congr 1
        omega
theorem idx_bi (g n cap k : Nat) (z : Int) (hz : z = (k : Int)) (h : k < n) (w : World) : (Instr.indexAt 22 (.slice (some ⟨g, 0, none⟩) n cap) (.int .i64 z)).run Tryz.prog w = .ok (.pointer (some ⟨g, k, none⟩)) w := by
  subst hz
  have := idx_bz g 0 n cap k h w
  rw [Nat.zero_add] at this
  exact this
theorem load_sl {V : World} {B j n c : Nat} {a : Option Addr} (h : V.cell? ⟨B, j, none⟩ = some (.slice a n c)) : (Instr.loadAt 22 (.pointer (some ⟨B, j, none⟩))).run Tryz.prog V = .ok (.slice a n c) V := by go_simp
theorem field_rd0 (W : World) (B o : Nat) : (Instr.fieldAt 44 (.pointer (some ⟨B, o, none⟩)) 0).run Tryz.prog W = .ok (.pointer (some ⟨B, o, none⟩)) W := by go_simp
theorem store_u8 {V : World} {B j : Nat} {x y : Int} (h : V.cell? ⟨B, j, none⟩ = some (.int .u8 x)) (z : V.frozen? ⟨B, j, none⟩ = false) : (Instr.storeAt 5 (.pointer (some ⟨B, j, none⟩)) (.int .u8 y)).run Tryz.prog V = .ok () (V.setCell ⟨B, j, none⟩ (.int .u8 y)) := by go_simp
theorem left_burn {d : Dst} (hf : Fz d) (hl : ¬ left d = 0) (l : List Nat) (n : Int) : left { dBurn { d with l := l } with writes := n } = if left d > 0 then left d - 1 else left d := by
  cases hd : d.fused with
  | true =>
    obtain ⟨h1, _⟩ := hf hd
    have e : left d = d.fuse := by simp [left, hd]
    rw [e] at hl ⊢
    rw [if_pos (by omega)]
    simp [left, dBurn]
  | false =>
    have e : left d = -1 := by simp [left, hd]
    rw [e, if_neg (by decide)]
    simp [left, dBurn]
set_option maxHeartbeats 2000000 in
set_option maxRecDepth 100000 in
theorem rwrite_any {w0 : World} (h : RfD W lb o w0.heap.size r c d) (hlb : w0.heap.size ≤ lb) (hB : Below w0.heap.size w0 W) (s : Int) (ad : Option Addr) (cap : Nat) (x : List Nat) (hx : RdB w0 ad x) (hb : Byt x) (hf : Fz d) (hw0 : 0 ≤ d.writes) (hw : d.writes ≤ 4611686018427387904) : Calls Tryz.prog 22 #[.pointer (some ⟨lb, o, none⟩), .int .i64 s, .slice ad x.length cap] W fun e w' => e = .returned (.int .i64 (dWr d s x).1) ∧ RfD w' lb o w0.heap.size r c (dWr d s x).2 ∧ Tf lb o r W w' := by
  have cf := h.f
  have cu := h.u
  have cn := h.n
  cases hof : d.off with
  | true =>
    rw [dWr_off s x hof]
    rw [hof] at cf
    go_enter Tryz.func22, Tryz.ntmps22
    go_wp2
    go_ret
    exact ⟨rfl, h, Tf.refl _ _ _ _⟩
  | false =>
  rw [hof] at cf
  by_cases hs : 0 ≤ s ∧ s < 8
  case neg =>
    rw [dWr_sec x hof hs]
    by_cases h0 : s < 0
    · clear hs
      go_enter Tryz.func22, Tryz.ntmps22
      go_wp2
      go_ret
      exact ⟨rfl, h, Tf.refl _ _ _ _⟩
    · have h8 : s ≥ 8 := by omega
      clear hs
      go_enter Tryz.func22, Tryz.ntmps22
      go_wp2
      go_ret
      exact ⟨rfl, h, Tf.refl _ _ _ _⟩
  have s0 : ¬ s < 0 := by omega
  have s8 : ¬ s ≥ 8 := by omega
  by_cases hxl : x.length = 32
  case neg =>
    rw [dWr_len hof hs hxl]
    have hxi : ¬ ((x.length : Int) = 32) := by omega
    clear hs
    go_enter Tryz.func22, Tryz.ntmps22
    go_wp2
    go_ret
    exact ⟨rfl, h, Tf.refl _ _ _ _⟩
  by_cases hl0 : left d = 0
  case pos =>
    rw [dWr_blow hof hs hxl hl0, hxl]
    rw [hl0] at cu
    have z1 := h.zaw (o + 1)
    have h1 := h.set1 true
    have cu1 := h1.u
    have e0 : left { d with off := true } = 0 := hl0
    rw [e0] at cu1
    have z2 := h1.zaw (o + 2)
    have h2 := h1.set2 (dFuse { d with off := true } (-1)) rfl rfl rfl
    rw [left_fuse, if_neg (by decide)] at h2
    clear hs e0
    go_enter Tryz.func22, Tryz.ntmps22
    go_wp2
    go_ret
    exact ⟨rfl, h2, (Tf.set _ _ _ _ _ _ (by omega) (by omega)).trans (Tf.set _ _ _ _ _ _ (by omega) (by omega))⟩
  obtain ⟨k, rfl⟩ := Int.eq_ofNat_of_zero_le hs.1
  have hk8 : k < 8 := by omega
  rw [dWr_ok hof hs hxl hl0, hxl]
  have hmx : Tryz.prog.follows .mixedOrders = true := by kernel_rfl
  have hbu := left_burn (l := putS d.l k x) (n := d.writes + 1) hf hl0
  have HBU : Hid (left { dBurn { d with l := putS d.l k x } with writes := d.writes + 1 } = if left d > 0 then left d - 1 else left d) := hbu
  obtain ⟨L, hL⟩ : ∃ L, left d = L := ⟨_, rfl⟩
  have HL : Hid (left d = L) := hL
  rw [hL] at cu hl0
  obtain ⟨b, off, rfl, hbl, hat⟩ := hx (fun e => by rw [e] at hxl; cases hxl)
  have HX : Hid (x.length = 32) := hxl
  have hrr := h.rb.1
  have hln := h.len
  have HLN : Hid (d.l.length = 256) := hln
  have hlm : L ≤ 9223372036854775807 := by
    rw [← hL, left]
    split
    · rename_i q; exact (hf q).2
    · decide
  clear hbu hL hxl hs hln hof
  have hd0 : ({ d with l := putI d.l k x 0 } : Dst) = d := by rw [putI_0]
  go_enter Tryz.func22, Tryz.ntmps22
  go_wp2
  go_loopw [7] (fun i wz => ∃ m : Nat, i = .int .i64 (m : Int) ∧ m ≤ 32 ∧ RfD wz lb o w0.heap.size r c { d with l := putI d.l k x m } ∧ Tf lb o r W wz) (fun i _ => 32 - vnat i)
  case atStart => exact ⟨0, rfl, by omega, by rw [hd0]; exact h, Tf.refl _ _ _ _⟩
  case round =>
    obtain ⟨m, rfl, hm, hR, hT⟩ := hrel
    by_cases hm32 : m < 32
    · have hmi : (m : Int) < 32 := by omega
      obtain ⟨y, hy⟩ : ∃ y, x[m]? = some y := ⟨_, List.getElem?_eq_getElem (by rw [HX.out]; exact hm32)⟩
      have hy8 : y < 256 := hb y (List.mem_of_getElem? hy)
      have hst := putI_step HLN.out hk8 HX.out hy
      have hBw : Below w0.heap.size w0 wr := hB.trans (hT.below hlb hrr hB.size)
      have hc0 : ∀ V, Below w0.heap.size w0 V → V.cell? ⟨b, off + m, none⟩ = some (.int .u8 (y : Int)) := fun V hV => (hV.cell (p := ⟨b, off + m, none⟩) hbl).trans (hat m y hy)
      clear hy
      go_wp2
      rename_i Q0 K0 hK
      refine wp_region_any hmx ?_
      refine wpAny_last 13 (fun i__ => ([(.pointer (some ⟨lb, o, none⟩)), (.pointer (some ⟨lb, o, none⟩)), (.pointer (some ⟨lb, o, none⟩)), (.slice (some ⟨r, 0, none⟩) 256 c), (.int .i64 (k : Int)), (.int .i64 (32 * (k : Int))), (.int .i64 (m : Int)), (.int .i64 (32 * (k : Int) + (m : Int))), (.slice (some ⟨b, off, none⟩) 32 cap), (.int .i64 (m : Int)), (.pointer (some ⟨b, off + m, none⟩)), (.int .u8 (y : Int)), (.pointer (some ⟨r, 32 * k + m, none⟩)), undef] : List Value).getD i__ undef) (fun V => RfD V lb o w0.heap.size r c { d with l := putI d.l k x m } ∧ Below w0.heap.size w0 V ∧ Tf lb o r W V) (fun V => RfD V lb o w0.heap.size r c { d with l := putI d.l k x (m + 1) } ∧ Tf lb o r W V) rfl (by kernel_rfl) (by kernel_rfl) ⟨⟨hR.b, hR.f, hR.u, hR.n, hR.row, hR.lk, hR.len, hR.byt⟩, hBw.drew, hT.trans (Tf.of _ _ _ (Below.refl _ _).drew)⟩ ?_ ?_  ?_
      · refine (stepsFrom_cons ?_ (stepsFrom_cons ?_ (stepsFrom_cons ?_ (stepsFrom_cons ?_ (stepsFrom_cons ?_ (stepsFrom_cons ?_ (stepsFrom_cons ?_ (stepsFrom_cons ?_ (stepsFrom_cons ?_ (stepsFrom_cons ?_ (stepsFrom_cons ?_ (stepsFrom_cons ?_ (stepsFrom_cons ?_ trivial)))))))))))))
        · exact step_move rfl trivial _ rfl (by kernel_rfl)
        · exact step_nilCheck rfl trivial _ _ _ rfl rfl rfl
        · exact step_fieldAddr rfl trivial _ _ _ _ rfl rfl (fun v hw => field_rd0 v _ _)
        · exact step_load rfl trivial _ _ _ rfl rfl (fun v hw => load_sl hw.1.b)
        · exact step_move rfl trivial _ rfl (by kernel_rfl)
        · exact step_binOp rfl trivial _ _ _ _ _ _ _ rfl rfl rfl (fun v hw => bin_mul64 _ _ _ (i64_id _ (by omega) (by omega)))
        · exact step_move rfl trivial _ rfl (by kernel_rfl)
        · exact step_binOp rfl trivial _ _ _ _ _ _ _ rfl rfl rfl (fun v hw => bin_add64 _ _ _ (i64_id _ (by omega) (by omega)))
        · exact step_move rfl trivial _ rfl (by kernel_rfl)
        · exact step_move rfl trivial _ rfl (by kernel_rfl)
        · exact step_indexAddr rfl trivial _ _ _ _ _ rfl rfl rfl (fun v hw => idx_bz b off _ _ m hm32 v)
        · exact step_load rfl trivial _ _ _ rfl rfl (fun v hw => load_u8 (hc0 v hw.2.1))
        · exact step_indexAddr rfl trivial _ _ _ _ _ rfl rfl rfl (fun v hw => idx_bi r _ _ (32 * k + m) _ (by omega) (by omega) v)
      · intro o ho
        cases ho
        exact step_store rfl trivial rfl _ _ _ _ _ rfl rfl rfl (fun v hw => by obtain ⟨q, hq⟩ : ∃ q, (putI d.l k x m)[32 * k + m]? = some q := ⟨_, List.getElem?_eq_getElem (by have := hw.1.len; dsimp only at this; omega)⟩; have hcq := hw.1.at (32 * k + m) q hq; rw [Nat.zero_add] at hcq; obtain ⟨_, cur, hcu⟩ := hw.1.rb; have hpb := hw.1.putB (32 * k + m) y hy8; dsimp only at hpb; rw [hst] at hpb; exact ⟨_, store_u8 hcq (thaw_at hcu _), hpb, hw.2.2.trans (Tf.put _ _ _ _ _ _ hw.1.ne)⟩)
      intro W hW
      first | refine hK _ _ ?_ | refine (‹∀ (a : Act) (w : World), Code.wp Tryz.prog _ _ a w → _›) _ _ ?_
      simp only [finL, List.getD_cons_zero, List.getD_cons_succ, Nat.zero_add, Nat.reduceAdd, List.setIfInBounds_toArray, List.set_cons_zero, List.set_cons_succ]
      obtain ⟨hR2, hT2⟩ := hW
      clear hK
      go_wp2
      go_roundw
      case rel => exact ⟨m + 1, by simp, by omega, hR2, hT2⟩
      case measure => simp [vnat]; omega
    · have hmm : m = 32 := by omega
      subst hmm
      rw [putI_32 HX.out] at hR
      have cu2 := hR.u
      have cu3 : wr.cell? ⟨lb, o + 2, none⟩ = some (.int .i64 L) := by
        rw [← HL.out]
        exact cu2
      have z2 := hR.zaw (o + 2)
      by_cases hLp : L > 0
      · have h2 := hR.set2 (dBurn { d with l := putS d.l k x }) rfl rfl rfl
        have eL : left (dBurn { d with l := putS d.l k x }) = L - 1 := by
          have := HBU.out
          rw [HL.out, if_pos hLp] at this
          exact this
        rw [eL] at h2
        have cn2 := h2.n
        have z3 := h2.zaw (o + 3)
        have hwi : IntKind.i64.wrap (L - 1) = L - 1 := i64_id _ (by omega) (by omega)
        have hwj : IntKind.i64.wrap (d.writes + 1) = d.writes + 1 := i64_id _ (by omega) (by omega)
        have cn3 : (wr.setCell ⟨lb, o + 2, none⟩ (.int .i64 (L - 1))).cell? ⟨lb, o + 3, none⟩ = some (.int .i64 d.writes) := cn2
        clear cu cn cf cu2 cn2
        go_wp2
        go_ret
        exact ⟨rfl, h2.set3 (d.writes + 1), (hT.trans (Tf.set _ _ _ _ _ _ (by omega) (by omega))).trans (Tf.set _ _ _ _ _ _ (by omega) (by omega))⟩
      · have eL : left (dBurn { d with l := putS d.l k x }) = left { d with l := putS d.l k x } := by
          have := HBU.out
          rw [HL.out, if_neg hLp] at this
          exact this.trans HL.out.symm
        have h2 : RfD wr lb o w0.heap.size r c (dBurn { d with l := putS d.l k x }) := ⟨hR.b, hR.f, by rw [eL]; exact hR.u, hR.n, hR.row, hR.lk, hR.len, hR.byt⟩
        have cn3 : wr.cell? ⟨lb, o + 3, none⟩ = some (.int .i64 d.writes) := h2.n
        have z3 := h2.zaw (o + 3)
        have hwj : IntKind.i64.wrap (d.writes + 1) = d.writes + 1 := i64_id _ (by omega) (by omega)
        clear cu cn cf cu2
        go_wp2
        go_ret
        exact ⟨rfl, h2.set3 (d.writes + 1), hT.trans (Tf.set _ _ _ _ _ _ (by omega) (by omega))⟩
end
end Go.Proofs.YtkbeoliglnikiaaGreat
