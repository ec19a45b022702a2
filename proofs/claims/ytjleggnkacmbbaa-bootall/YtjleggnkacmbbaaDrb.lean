/- The document's disk: Read, Write: what they answer. -/
import Derived.Test.YtjleggnkacmbbaaDra
namespace Go.Proofs.Ytjleggnkacmbbaa
open Go.RowKit Go.Shelf

/-- A slice of these bytes, apart from the disk's own. -/
def RdX (W : World) (lb r : Nat) (ad : Option Addr) (l : List Nat) : Prop := l ≠ [] → ∃ b off, ad = some ⟨b, off, none⟩ ∧ b < W.heap.size ∧ b ≠ lb ∧ b ≠ r ∧ BAt W b off l
section
variable {W V : World} {lb o base r c : Nat} {d : Dst}
/-- A sector's bytes are put so far. -/
def putI (l : List Nat) (s : Nat) (x : List Nat) (i : Nat) : List Nat := splice l (32 * s) (x.take i)
theorem putI_0 (l : List Nat) (s : Nat) (x : List Nat) : putI l s x 0 = l := by simp [putI, splice]
theorem putI_32 {l : List Nat} {s : Nat} {x : List Nat} (h : x.length = 32) : putI l s x 32 = putS l s x := by rw [putI, putS, List.take_of_length_le (Nat.le_of_eq h)]
theorem putI_step {l : List Nat} {s : Nat} {x : List Nat} {i y : Nat} (hl : l.length = 256) (hs : s < 8) (hx : x.length = 32) (hy : x[i]? = some y) : (putI l s x i).set (32 * s + i) y = putI l s x (i + 1) := by
  have hi : i < 32 := by rw [← hx]; exact (List.getElem?_eq_some_iff.1 hy).1
  have e1 : (x.take i).length = i := by rw [List.length_take]; omega
  have e2 : (x.take (i + 1)).length = i + 1 := by rw [List.length_take]; omega
  have e0 : (l.take (32 * s)).length = 32 * s := by rw [List.length_take]; omega
  apply List.ext_getElem?
  intro j
  by_cases e : 32 * s + i = j
  · subst e
    rw [List.getElem?_set_self (by rw [putI, length_splice _ _ _ (by omega)]; omega)]
    simp only [putI, splice]
    rw [List.getElem?_append_right (by omega), e0, List.getElem?_append_left (by omega), Nat.add_sub_cancel_left, List.getElem?_take, if_pos (by omega), hy]
  · rw [List.getElem?_set_ne e]
    simp only [putI, splice, List.getElem?_append, e0, e1, e2, List.getElem?_take, List.getElem?_drop]
    by_cases h1 : j < 32 * s
    · simp [h1]
    · simp only [if_neg h1]
      by_cases h2 : j - 32 * s < i
      · rw [if_pos h2, if_pos (by omega)]
        simp only [if_pos (show j - 32 * s < i + 1 by omega)]
      · rw [if_neg h2, if_neg (by omega)]
        congr 1
        omega
theorem idx_bi (g n cap k : Nat) (z : Int) (hz : z = (k : Int)) (h : k < n) (w : World) : (Instr.indexAt 62 (.slice (some ⟨g, 0, none⟩) n cap) (.int .i64 z)).run Try.prog w = .ok (.pointer (some ⟨g, k, none⟩)) w := by
  subst hz
  have := idx_bz g 0 n cap k h w
  rw [Nat.zero_add] at this
  exact this
theorem load_sl {V : World} {B j n c : Nat} {a : Option Addr} (h : V.cell? ⟨B, j, none⟩ = some (.slice a n c)) : (Instr.loadAt 62 (.pointer (some ⟨B, j, none⟩))).run Try.prog V = .ok (.slice a n c) V := by go_simp
theorem field_rd0 (W : World) (B o : Nat) : (Instr.fieldAt 64 (.pointer (some ⟨B, o, none⟩)) 0).run Try.prog W = .ok (.pointer (some ⟨B, o, none⟩)) W := by go_simp
theorem store_u8 {V : World} {B j : Nat} {x y : Int} (h : V.cell? ⟨B, j, none⟩ = some (.int .u8 x)) (z : V.frozen? ⟨B, j, none⟩ = false) : (Instr.storeAt 5 (.pointer (some ⟨B, j, none⟩)) (.int .u8 y)).run Try.prog V = .ok () (V.setCell ⟨B, j, none⟩ (.int .u8 y)) := by go_simp
theorem left_burn {d : Dst} (hf : Fz d) (hl : ¬ left d = 0) (l : List Nat) (n : Int) : left { dBurn { d with l := l } with writes := n } = if left d > 0 then left d - 1 else left d := by
  cases hd : d.fused with
  | true =>
    obtain ⟨h1, _⟩ := hf hd
    have e : left d = d.fuse := by simp [left, hd]
    rw [e] at hl ⊢
    rw [if_pos (by omega)]
    simp [left, dBurn]
  | false =>
    have e : left d = -1 := by simp [left, hd]
    rw [e, if_neg (by decide)]
    simp [left, dBurn]
set_option maxHeartbeats 2000000 in
set_option maxRecDepth 100000 in
theorem rwrite_any (h : RfD W lb o base r c d) (s : Int) (ad : Option Addr) (cap : Nat) (x : List Nat) (hx : RdX W lb r ad x) (hb : Byt x) (hf : Fz d) (hw0 : 0 ≤ d.writes) (hw : d.writes ≤ 4611686018427387904) : Calls Try.prog 60 #[.pointer (some ⟨lb, o, none⟩), .int .i64 s, .slice ad x.length cap] W fun e w' => e = .returned (.int .i64 (dWr d s x).1) ∧ RfD w' lb o base r c (dWr d s x).2 ∧ Tf lb o r W w' := by
  have cf := h.f
  have cu := h.u
  have cn := h.n
  cases hof : d.off with
  | true =>
    rw [dWr_off s x hof]
    rw [hof] at cf
    go_enter Try.func60, Try.ntmps60
    go_wp2
    go_ret
    exact ⟨rfl, h, Tf.refl _ _ _ _⟩
  | false =>
  rw [hof] at cf
  by_cases hs : 0 ≤ s ∧ s < 8
  case neg =>
    rw [dWr_sec x hof hs]
    by_cases h0 : s < 0
    · clear hs
      go_enter Try.func60, Try.ntmps60
      go_wp2
      go_ret
      exact ⟨rfl, h, Tf.refl _ _ _ _⟩
    · have h8 : s ≥ 8 := by omega
      clear hs
      go_enter Try.func60, Try.ntmps60
      go_wp2
      go_ret
      exact ⟨rfl, h, Tf.refl _ _ _ _⟩
  have s0 : ¬ s < 0 := by omega
  have s8 : ¬ s ≥ 8 := by omega
  by_cases hxl : x.length = 32
  case neg =>
    rw [dWr_len hof hs hxl]
    have hxi : ¬ ((x.length : Int) = 32) := by omega
    clear hs
    go_enter Try.func60, Try.ntmps60
    go_wp2
    go_ret
    exact ⟨rfl, h, Tf.refl _ _ _ _⟩
  by_cases hl0 : left d = 0
  case pos =>
    rw [dWr_blow hof hs hxl hl0, hxl]
    rw [hl0] at cu
    have z1 := h.zaw (o + 1)
    have h1 := h.set1 true
    have cu1 := h1.u
    have e0 : left { d with off := true } = 0 := hl0
    rw [e0] at cu1
    have z2 := h1.zaw (o + 2)
    have h2 := h1.set2 (dFuse { d with off := true } (-1)) rfl rfl rfl
    rw [left_fuse, if_neg (by decide)] at h2
    clear hs e0
    go_enter Try.func60, Try.ntmps60
    go_wp2
    go_ret
    exact ⟨rfl, h2, (Tf.set _ _ _ _ _ _ (by omega) (by omega)).trans (Tf.set _ _ _ _ _ _ (by omega) (by omega))⟩
  obtain ⟨k, rfl⟩ := Int.eq_ofNat_of_zero_le hs.1
  have hk8 : k < 8 := by omega
  rw [dWr_ok hof hs hxl hl0, hxl]
  have hmx : Try.prog.follows .mixedOrders = true := by kernel_rfl
  have hbu := left_burn (l := putS d.l k x) (n := d.writes + 1) hf hl0
  have HBU : Hid (left { dBurn { d with l := putS d.l k x } with writes := d.writes + 1 } = if left d > 0 then left d - 1 else left d) := hbu
  obtain ⟨L, hL⟩ : ∃ L, left d = L := ⟨_, rfl⟩
  have HL : Hid (left d = L) := hL
  rw [hL] at cu hl0
  obtain ⟨b, off, rfl, hbl, hblb, hbr, hat⟩ := hx (fun e => by rw [e] at hxl; cases hxl)
  have HX : Hid (x.length = 32) := hxl
  have hrr := h.rb.1
  have hln := h.len
  have HLN : Hid (d.l.length = 256) := hln
  have hlm : L ≤ 9223372036854775807 := by
    rw [← hL, left]
    split
    · rename_i q; exact (hf q).2
    · decide
  clear hbu hL hxl hs hln hof
  have hd0 : ({ d with l := putI d.l k x 0 } : Dst) = d := by rw [putI_0]
  go_enter Try.func60, Try.ntmps60
  go_wp2
  go_loopw [7] (fun i wz => ∃ m : Nat, i = .int .i64 (m : Int) ∧ m ≤ 32 ∧ RfD wz lb o base r c { d with l := putI d.l k x m } ∧ Tf lb o r W wz) (fun i _ => 32 - vnat i)
  case atStart => exact ⟨0, rfl, by omega, by rw [hd0]; exact h, Tf.refl _ _ _ _⟩
  case round =>
    obtain ⟨m, rfl, hm, hR, hT⟩ := hrel
    by_cases hm32 : m < 32
    · have hmi : (m : Int) < 32 := by omega
      obtain ⟨y, hy⟩ : ∃ y, x[m]? = some y := ⟨_, List.getElem?_eq_getElem (by rw [HX.out]; exact hm32)⟩
      have hy8 : y < 256 := hb y (List.mem_of_getElem? hy)
      have hst := putI_step HLN.out hk8 HX.out hy
      have hc0 : ∀ V, Tf lb o r W V → V.cell? ⟨b, off + m, none⟩ = some (.int .u8 (y : Int)) := fun V hV => (World.cell?_of_block (a := ⟨b, off + m, none⟩) (hV.block b hbl hblb hbr)).trans (hat m y hy)
      clear hy
      go_wp2
      rename_i Q0 K0 hK
      refine wp_region_any hmx ?_
      refine wpAny_last 13 (fun i__ => ([(.pointer (some ⟨lb, o, none⟩)), (.pointer (some ⟨lb, o, none⟩)), (.pointer (some ⟨lb, o, none⟩)), (.slice (some ⟨r, 0, none⟩) 256 c), (.int .i64 (k : Int)), (.int .i64 (32 * (k : Int))), (.int .i64 (m : Int)), (.int .i64 (32 * (k : Int) + (m : Int))), (.slice (some ⟨b, off, none⟩) 32 cap), (.int .i64 (m : Int)), (.pointer (some ⟨b, off + m, none⟩)), (.int .u8 (y : Int)), (.pointer (some ⟨r, 32 * k + m, none⟩)), undef] : List Value).getD i__ undef) (fun V => RfD V lb o base r c { d with l := putI d.l k x m } ∧ Tf lb o r W V) (fun V => RfD V lb o base r c { d with l := putI d.l k x (m + 1) } ∧ Tf lb o r W V) rfl (by kernel_rfl) (by kernel_rfl) ⟨⟨hR.b, hR.f, hR.u, hR.n, hR.row, hR.lk, hR.len, hR.byt⟩, hT.trans (Tf.of _ _ _ (Below.refl _ _).drew)⟩ ?_ ?_  ?_
      · refine (stepsFrom_cons ?_ (stepsFrom_cons ?_ (stepsFrom_cons ?_ (stepsFrom_cons ?_ (stepsFrom_cons ?_ (stepsFrom_cons ?_ (stepsFrom_cons ?_ (stepsFrom_cons ?_ (stepsFrom_cons ?_ (stepsFrom_cons ?_ (stepsFrom_cons ?_ (stepsFrom_cons ?_ (stepsFrom_cons ?_ trivial)))))))))))))
        · exact step_move rfl trivial _ rfl (by kernel_rfl)
        · exact step_nilCheck rfl trivial _ _ _ rfl rfl rfl
        · exact step_fieldAddr rfl trivial _ _ _ _ rfl rfl (fun v hw => field_rd0 v _ _)
        · exact step_load rfl trivial _ _ _ rfl rfl (fun v hw => load_sl hw.1.b)
        · exact step_move rfl trivial _ rfl (by kernel_rfl)
        · exact step_binOp rfl trivial _ _ _ _ _ _ _ rfl rfl rfl (fun v hw => bin_mul64 _ _ _ (i64_id _ (by omega) (by omega)))
        · exact step_move rfl trivial _ rfl (by kernel_rfl)
        · exact step_binOp rfl trivial _ _ _ _ _ _ _ rfl rfl rfl (fun v hw => bin_add64 _ _ _ (i64_id _ (by omega) (by omega)))
        · exact step_move rfl trivial _ rfl (by kernel_rfl)
        · exact step_move rfl trivial _ rfl (by kernel_rfl)
        · exact step_indexAddr rfl trivial _ _ _ _ _ rfl rfl rfl (fun v hw => idx_bz b off _ _ m hm32 v)
        · exact step_load rfl trivial _ _ _ rfl rfl (fun v hw => load_u8 (hc0 v hw.2))
        · exact step_indexAddr rfl trivial _ _ _ _ _ rfl rfl rfl (fun v hw => idx_bi r _ _ (32 * k + m) _ (by omega) (by omega) v)
      · intro o ho
        cases ho
        exact step_store rfl trivial rfl _ _ _ _ _ rfl rfl rfl (fun v hw => by obtain ⟨q, hq⟩ : ∃ q, (putI d.l k x m)[32 * k + m]? = some q := ⟨_, List.getElem?_eq_getElem (by have := hw.1.len; dsimp only at this; omega)⟩; have hcq := hw.1.at (32 * k + m) q hq; rw [Nat.zero_add] at hcq; obtain ⟨_, cur, hcu⟩ := hw.1.rb; have hpb := hw.1.putB (32 * k + m) y hy8; dsimp only at hpb; rw [hst] at hpb; exact ⟨_, store_u8 hcq (thaw_at hcu _), hpb, hw.2.trans (Tf.put _ _ _ _ _ _ hw.1.ne)⟩)
      intro W hW
      first | refine hK _ _ ?_ | refine (‹∀ (a : Act) (w : World), Code.wp Try.prog _ _ a w → _›) _ _ ?_
      simp only [finL, List.getD_cons_zero, List.getD_cons_succ, Nat.zero_add, Nat.reduceAdd, List.setIfInBounds_toArray, List.set_cons_zero, List.set_cons_succ]
      obtain ⟨hR2, hT2⟩ := hW
      clear hK
      go_wp2
      go_roundw
      case rel => exact ⟨m + 1, by simp, by omega, hR2, hT2⟩
      case measure => simp [vnat]; omega
    · have hmm : m = 32 := by omega
      subst hmm
      rw [putI_32 HX.out] at hR
      have cu2 := hR.u
      have cu3 : wr.cell? ⟨lb, o + 2, none⟩ = some (.int .i64 L) := by
        rw [← HL.out]
        exact cu2
      have z2 := hR.zaw (o + 2)
      by_cases hLp : L > 0
      · have h2 := hR.set2 (dBurn { d with l := putS d.l k x }) rfl rfl rfl
        have eL : left (dBurn { d with l := putS d.l k x }) = L - 1 := by
          have := HBU.out
          rw [HL.out, if_pos hLp] at this
          exact this
        rw [eL] at h2
        have cn2 := h2.n
        have z3 := h2.zaw (o + 3)
        have hwi : IntKind.i64.wrap (L - 1) = L - 1 := i64_id _ (by omega) (by omega)
        have hwj : IntKind.i64.wrap (d.writes + 1) = d.writes + 1 := i64_id _ (by omega) (by omega)
        have cn3 : (wr.setCell ⟨lb, o + 2, none⟩ (.int .i64 (L - 1))).cell? ⟨lb, o + 3, none⟩ = some (.int .i64 d.writes) := cn2
        clear cu cn cf cu2 cn2
        go_wp2
        go_ret
        exact ⟨rfl, h2.set3 (d.writes + 1), (hT.trans (Tf.set _ _ _ _ _ _ (by omega) (by omega))).trans (Tf.set _ _ _ _ _ _ (by omega) (by omega))⟩
      · have eL : left (dBurn { d with l := putS d.l k x }) = left { d with l := putS d.l k x } := by
          have := HBU.out
          rw [HL.out, if_neg hLp] at this
          exact this.trans HL.out.symm
        have h2 : RfD wr lb o base r c (dBurn { d with l := putS d.l k x }) := ⟨hR.b, hR.f, by rw [eL]; exact hR.u, hR.n, hR.row, hR.lk, hR.len, hR.byt⟩
        have cn3 : wr.cell? ⟨lb, o + 3, none⟩ = some (.int .i64 d.writes) := h2.n
        have z3 := h2.zaw (o + 3)
        have hwj : IntKind.i64.wrap (d.writes + 1) = d.writes + 1 := i64_id _ (by omega) (by omega)
        clear cu cn cf cu2
        go_wp2
        go_ret
        exact ⟨rfl, h2.set3 (d.writes + 1), hT.trans (Tf.set _ _ _ _ _ _ (by omega) (by omega))⟩
end
end Go.Proofs.Ytjleggnkacmbbaa
