/- BagSpoilt: at every script and all numbers: what is spoilt twice in one way is as it was; once, just one byte of just one datagram is another one; no condition. -/
import Derived.Test.YtenahcdmdhlieaaRows
import Derived.WalkKit
import Derived.ProofKit
import Derived.OpenShut
import Derived.Test.YtenahcdmdhlieaaBgp
import Derived.Test.YtenahcdmdhlieaaOpo
namespace Go.Proofs.Ytenahcdmdhlieaa
open Go.ChangeShapes Go.WideShapes Go.ChangeAt Go.RowKit
set_option linter.unusedVariables false

theorem laidOut : laidOutB Try.prog = true := by kernel_rfl
theorem own : ownKnob Try.prog.godebug = none := by kernel_rfl
open Go.Shelf Go.Lib
theorem fld_G0 (W : World) (B o : Nat) : (Instr.fieldAt 37 (.pointer (some ⟨B, o, none⟩)) 0).run Try.prog W = .ok (.pointer (some ⟨B, o, none⟩)) W := by go_simp
theorem fld_G3 (W : World) (B o : Nat) : (Instr.fieldAt 37 (.pointer (some ⟨B, o, none⟩)) 3).run Try.prog W = .ok (.pointer (some ⟨B, o + 3, none⟩)) W := by go_simp
theorem xor_ne {y b : Nat} (hb : 0 < b) : y ≠ y ^^^ b := by
  intro e
  have : y ^^^ (y ^^^ b) = b := by rw [← Nat.xor_assoc, Nat.xor_self, Nat.zero_xor]
  rw [← e, Nat.xor_self] at this
  omega
theorem spo_twice {x : Gr} {j b : Nat} (hj : j < x.2.2.2.length) : spo (spo x j b) j b = x := by
  obtain ⟨xi, xf, xt, xd⟩ := x
  dsimp only at hj
  unfold spo
  dsimp only
  obtain ⟨y, hy⟩ : ∃ y, xd[j]? = some y := ⟨_, List.getElem?_eq_getElem hj⟩
  rw [List.getElem?_set_self hj, hy, Option.getD_some, Option.getD_some, List.set_set, Nat.xor_assoc, Nat.xor_self, Nat.xor_zero]
  obtain ⟨_, e⟩ := List.getElem?_eq_some_iff.1 hy
  rw [← e, List.set_getElem_self]
/-- What is counted. -/
def cnt (i k : Nat) : Nat := if i < k then 1 else 0
set_option maxHeartbeats 8000000 in
set_option maxRecDepth 100000 in
theorem walk (w : World) (ad0 : Option Addr) (cap0 : Nat) (l0 : List Op6) (w0 : RdO w w.heap.size ad0 l0) (hc0 : l0.length ≤ cap0) (hm0 : cap0 ≤ maxLen) (a1 : Int) (w1 : (Lit.int .i64 a1).wf = true) (a2 : Int) (w2 : (Lit.int .i64 a2).wf = true) (a3 : Int) (w3 : (Lit.int .i64 a3).wf = true) :
    Calls Try.prog 5 #[.slice ad0 l0.length cap0, .int .i64 a1, .int .i64 a2, .int .i64 a3] w fun e w' => e = .returned (.bool true) ∧ Below w.heap.size w w' := by
  have hmx : Try.prog.follows .mixedOrders = true := by kernel_rfl
  have hne := new_ok 60 w (by decide) (by decide)
  have hal := alive_any
  by_cases hlg : lgt l0 = true
  case neg =>
    have hlg2 : lgt l0 = false := by simpa using hlg
    go_enter Try.func5, Try.ntmps5
    go_wp2_with (first | (go_at_call 9; (with_reducible refine hne.mono ?_); rintro e u1 ⟨rfl, hB1, hb1⟩; have hli := light_any ad0 cap0 l0 u1 (w0.carry hb1); rw [hlg2] at hli) | (go_at_call 7; (with_reducible refine hli.mono ?_); rintro e u2 ⟨rfl, rfl⟩) | (go_at_call 8; (with_reducible refine (hal _).mono ?_); rintro e u3 ⟨rfl, hb3⟩))
    go_ret
    exact ⟨rfl, bel2 hb1 hb3⟩
  have hn150 : l0.length ≤ 150 := (of_decide_eq_true hlg).1
  have hri := rst_ri (room := 60) (by decide) l0
  obtain ⟨q, hq⟩ : ∃ q, rst 60 0 [] l0 = q := ⟨_, rfl⟩
  rw [hq] at hri
  obtain ⟨m, t, la, l⟩ := q
  have hl60 : (l.length : Int) ≤ 60 := hri.le
  have hlb : l.length ≤ 4611686018427387904 := by omega
  have hdt : ∀ x ∈ l, x.2.2.2.length ≤ 1024 := hri.dt
  by_cases hok : ∃ (i : Nat) (x : Gr), a1 = (i : Int) ∧ l[i]? = some x ∧ (1 ≤ a3 ∧ a3 ≤ 255) ∧ x.2.2.2 ≠ []
  case neg =>
    obtain ⟨E, hE, hE0⟩ : ∃ E, sSp l a1 a2 a3 = (E, l) ∧ (E != 0) = true := by
      by_cases hi : 0 ≤ a1 ∧ a1 < (l.length : Int)
      · obtain ⟨i, rfl⟩ := Int.eq_ofNat_of_zero_le hi.1
        obtain ⟨x, hx⟩ : ∃ x, l[i]? = some x := ⟨_, List.getElem?_eq_getElem (by omega)⟩
        exact ⟨1, sSp_arg hx (fun h => hok ⟨i, x, rfl, hx, h⟩), rfl⟩
      · exact ⟨91, sSp_no hi, rfl⟩
    have hE1 : ¬ E = 0 := by simpa using hE0
    clear hok
    go_enter Try.func5, Try.ntmps5
    go_wp2_with (first | (go_at_call 9; (with_reducible refine hne.mono ?_); rintro e u1 ⟨rfl, hB1, hb1⟩; have hO1 := w0.carry hb1; have hli := light_any ad0 cap0 l0 u1 hO1; rw [hlg] at hli; have hru := run_any hB1 (by decide) (by decide) ad0 cap0 l0 hO1 hn150; rw [hq] at hru; dsimp only at hru) | (go_at_call 7; (with_reducible refine hli.mono ?_); rintro e u2 ⟨rfl, rfl⟩) | (go_at_call 10; (with_reducible refine hru.mono ?_); rintro e u2 ⟨rfl, ad2, cap2, ps2, hB2, hT2⟩; have haa := all_any hB2) | (go_at_call 11; (with_reducible refine haa.mono ?_); rintro e u3 ⟨v3, av3, rfl, hg3, hb3⟩; obtain ⟨al3, cl3, rfl⟩ := row_form hg3.row; have hB3 := hB2.carry hb3; have hmv := spoil_any hB3 a1 a2 a3; rw [hE] at hmv; dsimp only at hmv; clear haa) | (go_at_call 18; (with_reducible refine hmv.mono ?_); rintro e u4 ⟨rfl, ad4, cap4, ps4, hB4, hT4⟩; have hg4 := (hB3.sv hT4).gs hg3; have hab := all_any hB4) | (go_at_call 11; (with_reducible refine hab.mono ?_); rintro e u5 ⟨v5, av5, rfl, hg5, hb5⟩; obtain ⟨al5, cl5, rfl⟩ := row_form hg5.row; have hg4' := hg4.carry hb5) | (go_at_call 8; (with_reducible refine (hal _).mono ?_); rintro e u6 ⟨rfl, hb6⟩; have hsb := sameBag_yes al3 al5 cl3 cl5 l u6 (hg4'.carry hb6).rd (hg5.carry hb6).rd hlb hdt) | (go_at_call 15; (with_reducible refine hsb.mono ?_); rintro e u7 ⟨rfl, hb7⟩))
    go_ret
    refine ⟨rfl, ?_⟩
    have k1 : Below w.heap.size w u2 := hb1.trans (hB1.below hT2)
    exact bel2 (bel2 (bel2 ((bel2 k1 hb3).trans (hB3.below hT4)) hb5) hb6) hb7
  obtain ⟨i, x, rfl, hx, hb, hxd⟩ := hok
  have hil := (List.getElem?_eq_some_iff.1 hx).1
  have hpos : 0 < x.2.2.2.length := List.length_pos_iff.2 hxd
  have hxl : x.2.2.2.length ≤ 1024 := hdt x (List.mem_of_getElem? hx)
  obtain ⟨bn, rfl⟩ := Int.eq_ofNat_of_zero_le (show 0 ≤ a3 by omega)
  have hbn0 : 0 < bn := by omega
  have hbn : bn < 256 := by omega
  have hs1 := sSp_ok (at_ := a2) hx ⟨hb, hxd⟩
  have hm0 : 0 ≤ a2 % (x.2.2.2.length : Int) := Int.emod_nonneg _ (by omega)
  have hm1 : a2 % (x.2.2.2.length : Int) < (x.2.2.2.length : Int) := Int.emod_lt_of_pos _ (by omega)
  obtain ⟨j0, hj0⟩ := Int.eq_ofNat_of_zero_le hm0
  have hj0l : j0 < x.2.2.2.length := by omega
  rw [hj0, Int.toNat_natCast, Int.toNat_natCast] at hs1
  obtain ⟨L, hL⟩ : ∃ L, l.set i (spo x j0 bn) = L := ⟨_, rfl⟩
  have hLl : L.length = l.length := by rw [← hL, List.length_set]
  have hLi : L[i]? = some (spo x j0 bn) := by rw [← hL]; exact List.getElem?_set_self hil
  have hLk : ∀ k, k ≠ i → L[k]? = l[k]? := fun k hk => by rw [← hL]; exact List.getElem?_set_ne (Ne.symm hk)
  have hsl : (spo x j0 bn).2.2.2.length = x.2.2.2.length := by show (List.set _ _ _).length = _; rw [List.length_set]
  have hs2 : sSp L (i : Int) a2 (bn : Int) = (0, l) := by
    have hne2 : (spo x j0 bn).2.2.2 ≠ [] := fun e => by rw [e] at hsl; simp at hsl; omega
    rw [sSp_ok hLi ⟨hb, hne2⟩, hsl, hj0, Int.toNat_natCast, Int.toNat_natCast, spo_twice hj0l, ← hL, List.set_set]
    obtain ⟨hk, e⟩ := List.getElem?_eq_some_iff.1 hx
    rw [← e, List.set_getElem_self]
  rw [hL] at hs1
  have hLdt : ∀ z ∈ L, z.2.2.2.length ≤ 1024 := fun z hz => by
    rw [← hL] at hz
    rcases List.mem_or_eq_of_mem_set hz with q | q
    · exact hdt z q
    · rw [q, hsl]; exact hxl
  /- what stands in both rows at a place -/
  have hrow : ∀ (k : Nat) (z : Gr), l[k]? = some z → ∃ z', L[k]? = some z' ∧ z'.1 = z.1 ∧ z'.2.2.2.length = z.2.2.2.length ∧ ∀ (j y : Nat), z.2.2.2[j]? = some y → (k = i ∧ j = j0 ∧ z'.2.2.2[j]? = some (y ^^^ bn)) ∨ (¬ (k = i ∧ j = j0) ∧ z'.2.2.2[j]? = some y) := by
    intro k z hz
    by_cases hk : k = i
    · subst hk
      rw [hx] at hz
      cases hz
      refine ⟨_, hLi, rfl, hsl, fun j y hy => ?_⟩
      by_cases hj : j = j0
      · subst hj
        refine .inl ⟨rfl, rfl, ?_⟩
        show (List.set _ _ _)[j]? = _
        rw [List.getElem?_set_self hj0l, hy]
        rfl
      · refine .inr ⟨fun e => hj e.2, ?_⟩
        show (List.set _ _ _)[j]? = _
        rw [List.getElem?_set_ne (Ne.symm hj)]
        exact hy
    · exact ⟨z, (hLk k hk).trans hz, rfl, rfl, fun j y hy => .inr ⟨fun e => hk e.1, hy⟩⟩
  have HROW : Hid (∀ (k : Nat) (z : Gr), l[k]? = some z → ∃ z', L[k]? = some z' ∧ z'.1 = z.1 ∧ z'.2.2.2.length = z.2.2.2.length ∧ ∀ (j y : Nat), z.2.2.2[j]? = some y → (k = i ∧ j = j0 ∧ z'.2.2.2[j]? = some (y ^^^ bn)) ∨ (¬ (k = i ∧ j = j0) ∧ z'.2.2.2[j]? = some y)) := hrow
  have HBY : Hid (i < l.length ∧ j0 < x.2.2.2.length ∧ l[i]? = some x) := ⟨hil, hj0l, hx⟩
  have HLL : Hid (L.length = l.length) := hLl
  clear hrow hLi hLk hsl hL hLl hx hxd hpos hxl hm0 hm1 hj0 hj0l hil hb hri hLdt
  go_enter Try.func5, Try.ntmps5
  go_wp2_with (first | (go_at_call 9; (with_reducible refine hne.mono ?_); rintro e u1 ⟨rfl, hB1, hb1⟩; have hO1 := w0.carry hb1; have hli := light_any ad0 cap0 l0 u1 hO1; rw [hlg] at hli; have hru := run_any hB1 (by decide) (by decide) ad0 cap0 l0 hO1 hn150; rw [hq] at hru; dsimp only at hru) | (go_at_call 7; (with_reducible refine hli.mono ?_); rintro e u2 ⟨rfl, rfl⟩) | (go_at_call 10; (with_reducible refine hru.mono ?_); rintro e u2 ⟨rfl, ad2, cap2, ps2, hB2, hT2⟩; have haa := all_any hB2) | (go_at_call 11; (with_reducible refine haa.mono ?_); rintro e u3 ⟨v3, av3, rfl, hg3, hb3⟩; obtain ⟨al3, cl3, rfl⟩ := row_form hg3.row; have hB3 := hB2.carry hb3; have hmv := spoil_any hB3 (i : Int) a2 (bn : Int); rw [hs1] at hmv; dsimp only at hmv; clear haa) | (go_at_call 18; (with_reducible refine hmv.mono ?_); rintro e u4 ⟨rfl, ad4, cap4, ps4, hB4, hT4⟩; have hg4 := (hB3.sv hT4).gs hg3; have hab := all_any hB4) | (go_at_call 11; (with_reducible refine hab.mono ?_); rintro e u5 ⟨v5, av5, rfl, hg5, hb5⟩; obtain ⟨al5, cl5, rfl⟩ := row_form hg5.row; have hg4' := hg4.carry hb5; rw [HLL.out]))
  have k1 : Below w.heap.size w u2 := hb1.trans (hB1.below hT2)
  have k5 : Below w.heap.size w u5 := bel2 ((bel2 k1 hb3).trans (hB3.below hT4)) hb5
  have hB5 := hB4.carry hb5
  have hr3 := hg4'.rd
  have hr5 := hg5.rd
  have hg6 := hg4'
  have HBYT : Hid (∀ (k : Nat) (z : Gr) (y : Nat), l[k]? = some z → y ∈ z.2.2.2 → y < 256) := fun k z y hz hy => by
    have hlt := (List.getElem?_eq_some_iff.1 hz).1
    obtain ⟨q, hq2⟩ : ∃ q, ps2[k]? = some q := ⟨_, List.getElem?_eq_getElem (by rw [hB2.len]; exact hlt)⟩
    obtain ⟨_, _, hh⟩ := hB2.gr k q z hq2 hz
    exact hh.byt y hy
  obtain ⟨n, hn⟩ : ∃ n, l.length = n := ⟨_, rfl⟩
  have HN : Hid (l.length = n) := hn
  rw [hn] at hl60 ⊢
  clear hn hg5 hg4' hg4 hg3 hmv hab hru hli
  go_loopw [16, 17] (fun c iv wz => ∃ k N : Nat, iv = .int .i64 k ∧ c = .int .i64 N ∧ N ≤ 1 ∧ Hid (N = cnt i k) ∧ k ≤ n ∧ Below u5.heap.size u5 wz) (fun _ iv _ => n - vnat iv)
  case atStart => exact ⟨0, 0, rfl, rfl, by omega, (if_neg (Nat.not_lt_zero _)).symm, Nat.zero_le _, Below.refl _ _⟩
  case round =>
    obtain ⟨k, N, rfl, rfl, hN1, HC, hk, hbw⟩ := hrel
    by_cases hkl : k < n
    · have hki : (k : Int) < (n : Int) := by omega
      obtain ⟨z, hz⟩ : ∃ z, l[k]? = some z := ⟨_, List.getElem?_eq_getElem (by rw [HN.out]; exact hkl)⟩
      obtain ⟨z', hz', hzi, hzl, hzd⟩ := HROW.out k z hz
      obtain ⟨b3, o3, a3, c3, rfl, hb3l, p0, _, _, p3, hd3⟩ := hr3 k z hz
      obtain ⟨b5, o5, a5, c5, rfl, hb5l, r0, _, _, r3, hd5⟩ := hr5 k z' hz'
      rw [hzl] at r3
      rw [hzi] at r0
      have hdl := hdt z (List.mem_of_getElem? hz)
      have hxz : k = i → z = x := fun e => by
        rw [e, HBY.out.2.2] at hz
        exact (Option.some.inj hz).symm
      obtain ⟨d, hd⟩ : ∃ d, z.2.2.2.length = d := ⟨_, rfl⟩
      have HD : Hid (z.2.2.2.length = d) := hd
      have HZD : Hid (∀ (j y : Nat), z.2.2.2[j]? = some y → (k = i ∧ j = j0 ∧ z'.2.2.2[j]? = some (y ^^^ bn)) ∨ (¬ (k = i ∧ j = j0) ∧ z'.2.2.2[j]? = some y)) := hzd
      have HXZ : Hid (k = i → z = x) := hxz
      have HZL : Hid (z'.2.2.2.length = z.2.2.2.length) := hzl
      rw [hd] at p3 r3 hdl
      have q3 := (hbw.cell (p := ⟨b3, o3 + k * 4 + 3, none⟩) hb3l).trans p3
      have hfd := fld_G3
      have hix := idx_G b3 o3 n cl3 k hkl
      have HZ : Hid (l[k]? = some z) := hz
      clear hz hz' hzi hzl hzd hxz hd
      go_wp2
      refine wp_region_any hmx ?_
      refine wpAny_pure (fun i__ => ([(.slice (some ⟨b3, o3, none⟩) n cl3), (.int .i64 (k : Int)), (.pointer (some ⟨b3, o3 + k * 4, none⟩)), (.pointer (some ⟨b3, o3 + k * 4 + 3, none⟩)), (.slice a3 d c3), (.int .i64 (d : Int)), (.slice (some ⟨b5, o5, none⟩) n cl5), (.int .i64 (k : Int)), (.pointer (some ⟨b5, o5 + k * 4, none⟩)), (.pointer (some ⟨b5, o5 + k * 4 + 3, none⟩)), (.slice a5 d c5), (.int .i64 (d : Int)), (.bool false), (.bool false), (.slice (some ⟨b3, o3, none⟩) n cl3), (.int .i64 (k : Int)), (.pointer (some ⟨b3, o3 + k * 4, none⟩)), (.pointer (some ⟨b3, o3 + k * 4, none⟩)), (.int .i64 z.1), (.slice (some ⟨b5, o5, none⟩) n cl5), (.int .i64 (k : Int)), (.pointer (some ⟨b5, o5 + k * 4, none⟩)), (.pointer (some ⟨b5, o5 + k * 4, none⟩)), (.int .i64 z.1), (.bool false), (.bool false)] : List Value).getD i__ undef) (fun V => Below u5.heap.size u5 V) (by kernel_rfl) hbw.drew ?_ ?_
      · refine (stepsFrom_cons ?_ (stepsFrom_cons ?_ (stepsFrom_cons ?_ (stepsFrom_cons ?_ (stepsFrom_cons ?_ (stepsFrom_cons ?_ (stepsFrom_cons ?_ (stepsFrom_cons ?_ (stepsFrom_cons ?_ (stepsFrom_cons ?_ (stepsFrom_cons ?_ (stepsFrom_cons ?_ (stepsFrom_cons ?_ (stepsFrom_cons ?_ (stepsFrom_cons ?_ (stepsFrom_cons ?_ (stepsFrom_cons ?_ (stepsFrom_cons ?_ (stepsFrom_cons ?_ (stepsFrom_cons ?_ (stepsFrom_cons ?_ (stepsFrom_cons ?_ (stepsFrom_cons ?_ (stepsFrom_cons ?_ (stepsFrom_cons ?_ (stepsFrom_cons ?_ trivial))))))))))))))))))))))))))
        · exact step_move rfl trivial _ rfl (by kernel_rfl)
        · exact step_move rfl trivial _ rfl (by kernel_rfl)
        · exact step_indexAddr rfl trivial _ _ _ _ _ rfl rfl rfl (fun v hw => idx_G b3 o3 _ _ k hkl v)
        · exact step_fieldAddr rfl trivial _ _ _ _ rfl rfl (fun v hw => fld_G3 v _ _)
        · exact step_load rfl trivial _ _ _ rfl rfl (fun v hw => load_b ((hw.cell (p := ⟨b3, _, none⟩) hb3l).trans p3))
        · exact step_bi rfl trivial _ _ _ [(.slice a3 d c3)] rfl (by kernel_rfl) (fun cs v hw => bi_lenB _ cs _ d c3 v)
        · exact step_move rfl trivial _ rfl (by kernel_rfl)
        · exact step_move rfl trivial _ rfl (by kernel_rfl)
        · exact step_indexAddr rfl trivial _ _ _ _ _ rfl rfl rfl (fun v hw => idx_G b5 o5 _ _ k hkl v)
        · exact step_fieldAddr rfl trivial _ _ _ _ rfl rfl (fun v hw => fld_G3 v _ _)
        · exact step_load rfl trivial _ _ _ rfl rfl (fun v hw => load_b ((hw.cell (p := ⟨b5, _, none⟩) hb5l).trans r3))
        · exact step_bi rfl trivial _ _ _ [(.slice a5 d c5)] rfl (by kernel_rfl) (fun cs v hw => bi_lenB _ cs _ d c5 v)
        · exact step_binOp rfl trivial _ _ _ _ _ _ _ rfl rfl rfl (fun v hw => (bin_neq .i64 _ _).trans (by simp))
        · exact step_move rfl trivial _ rfl (by kernel_rfl)
        · exact step_move rfl (by exact ⟨_, rfl, by kernel_rfl⟩) _ rfl (by kernel_rfl)
        · exact step_move rfl (by exact ⟨_, rfl, by kernel_rfl⟩) _ rfl (by kernel_rfl)
        · exact step_indexAddr rfl (by exact ⟨_, rfl, by kernel_rfl⟩) _ _ _ _ _ rfl rfl rfl (fun v hw => idx_G b3 o3 _ _ k hkl v)
        · exact step_fieldAddr rfl (by exact ⟨_, rfl, by kernel_rfl⟩) _ _ _ _ rfl rfl (fun v hw => fld_G0 v _ _)
        · exact step_load rfl (by exact ⟨_, rfl, by kernel_rfl⟩) _ _ _ rfl rfl (fun v hw => load_i ((hw.cell (p := ⟨b3, _, none⟩) hb3l).trans p0))
        · exact step_move rfl (by exact ⟨_, rfl, by kernel_rfl⟩) _ rfl (by kernel_rfl)
        · exact step_move rfl (by exact ⟨_, rfl, by kernel_rfl⟩) _ rfl (by kernel_rfl)
        · exact step_indexAddr rfl (by exact ⟨_, rfl, by kernel_rfl⟩) _ _ _ _ _ rfl rfl rfl (fun v hw => idx_G b5 o5 _ _ k hkl v)
        · exact step_fieldAddr rfl (by exact ⟨_, rfl, by kernel_rfl⟩) _ _ _ _ rfl rfl (fun v hw => fld_G0 v _ _)
        · exact step_load rfl (by exact ⟨_, rfl, by kernel_rfl⟩) _ _ _ rfl rfl (fun v hw => load_i ((hw.cell (p := ⟨b5, _, none⟩) hb5l).trans r0))
        · exact step_binOp rfl (by exact ⟨_, rfl, by kernel_rfl⟩) _ _ _ _ _ _ _ rfl rfl rfl (fun v hw => (bin_neq .i64 _ _).trans (by simp))
        · exact step_pick rfl trivial _ _ _ false rfl (by kernel_rfl) (by kernel_rfl)
      intro W hW
      first | refine hK _ _ ?_ | refine (‹∀ (a : Act) (w : World), Code.wp Try.prog _ _ a w → _›) _ _ ?_
      simp only [finL, List.getD_cons_zero, List.getD_cons_succ, Nat.zero_add, Nat.reduceAdd, List.setIfInBounds_toArray, List.set_cons_zero, List.set_cons_succ]
      go_wp2
      go_loopw [16, 18] (fun c jv wz => ∃ j M : Nat, jv = .int .i64 j ∧ c = .int .i64 M ∧ M ≤ 1 ∧ Hid (M = cnt i k + if k = i ∧ j0 < j then 1 else 0) ∧ j ≤ d ∧ Below u5.heap.size u5 wz) (fun _ jv _ => d - vnat jv)
      case atStart => exact ⟨0, N, rfl, rfl, hN1, by show _ = _; rw [HC.out, if_neg (fun e => Nat.not_lt_zero _ e.2)]; rfl, Nat.zero_le _, hW⟩
      case round =>
        obtain ⟨j, M, rfl, rfl, hM1, HM, hj, hbz⟩ := hrel
        have s3 := (hbz.cell (p := ⟨b3, o3 + k * 4 + 3, none⟩) hb3l).trans p3
        by_cases hjd : j < d
        · have hji : (j : Int) < (d : Int) := by omega
          obtain ⟨y, hy⟩ : ∃ y, z.2.2.2[j]? = some y := ⟨_, List.getElem?_eq_getElem (by rw [HD.out]; exact hjd)⟩
          have hne3 : z.2.2.2 ≠ [] := fun e => by rw [e] at hy; simp at hy
          obtain ⟨g3, f3, rfl, hg3l, hat3⟩ := hd3 hne3
          have y3 := hat3 j y hy
          have hcase := HZD.out j y hy
          have hne5 : z'.2.2.2 ≠ [] := fun e => by
            have := HZL.out
            rw [e, HD.out] at this
            simp at this
            omega
          obtain ⟨g5, f5, rfl, hg5l, hat5⟩ := hd5 hne5
          have HY : Hid (z.2.2.2[j]? = some y) := hy
          clear hy hne3 hne5
          rcases hcase with ⟨hkI, hjJ, hy'⟩ | ⟨hno, hy'⟩
          · have y5 := hat5 j _ hy'
            have hM0 : M = 0 := by rw [HM.out, hkI, hjJ]; simp [cnt]
            subst hM0
            have hneq : ((y : Int) != ((y ^^^ bn : Nat) : Int)) = true := by
              have := xor_ne (y := y) hbn0
              simp
              omega
            have hybt : y < 256 := HBYT.out k z y HZ.out (List.mem_of_getElem? HY.out)
            have HKI : Hid (k = i) := hkI
            have HJJ : Hid (j = j0) := hjJ
            clear hy' hkI hjJ
            go_wp2
            refine wp_region_any hmx ?_
            refine wpAny_pure (fun i__ => ([(.slice (some ⟨b3, o3, none⟩) n cl3), (.int .i64 (k : Int)), (.pointer (some ⟨b3, o3 + k * 4, none⟩)), (.pointer (some ⟨b3, o3 + k * 4 + 3, none⟩)), (.slice (some ⟨g3, f3, none⟩) d c3), (.int .i64 (j : Int)), (.pointer (some ⟨g3, f3 + j, none⟩)), (.int .u8 (y : Int)), (.slice (some ⟨b5, o5, none⟩) n cl5), (.int .i64 (k : Int)), (.pointer (some ⟨b5, o5 + k * 4, none⟩)), (.pointer (some ⟨b5, o5 + k * 4 + 3, none⟩)), (.slice (some ⟨g5, f5, none⟩) d c5), (.int .i64 (j : Int)), (.pointer (some ⟨g5, f5 + j, none⟩)), (.int .u8 ((y ^^^ bn : Nat) : Int)), (.bool true)] : List Value).getD i__ undef) (fun V => Below u5.heap.size u5 V) (by kernel_rfl) hbz.drew ?_ ?_
            · refine (stepsFrom_cons ?_ (stepsFrom_cons ?_ (stepsFrom_cons ?_ (stepsFrom_cons ?_ (stepsFrom_cons ?_ (stepsFrom_cons ?_ (stepsFrom_cons ?_ (stepsFrom_cons ?_ (stepsFrom_cons ?_ (stepsFrom_cons ?_ (stepsFrom_cons ?_ (stepsFrom_cons ?_ (stepsFrom_cons ?_ (stepsFrom_cons ?_ (stepsFrom_cons ?_ (stepsFrom_cons ?_ (stepsFrom_cons ?_ trivial)))))))))))))))))
              · exact step_move rfl trivial _ rfl (by kernel_rfl)
              · exact step_move rfl trivial _ rfl (by kernel_rfl)
              · exact step_indexAddr rfl trivial _ _ _ _ _ rfl rfl rfl (fun v hw => idx_G b3 o3 _ _ k hkl v)
              · exact step_fieldAddr rfl trivial _ _ _ _ rfl rfl (fun v hw => fld_G3 v _ _)
              · exact step_load rfl trivial _ _ _ rfl rfl (fun v hw => load_b ((hw.cell (p := ⟨b3, _, none⟩) hb3l).trans p3))
              · exact step_move rfl trivial _ rfl (by kernel_rfl)
              · exact step_indexAddr rfl trivial _ _ _ _ _ rfl rfl rfl (fun v hw => idx_bz g3 f3 _ _ j hjd v)
              · exact step_load rfl trivial _ _ _ rfl rfl (fun v hw => load_u8 ((hw.cell (p := ⟨g3, _, none⟩) hg3l).trans y3))
              · exact step_move rfl trivial _ rfl (by kernel_rfl)
              · exact step_move rfl trivial _ rfl (by kernel_rfl)
              · exact step_indexAddr rfl trivial _ _ _ _ _ rfl rfl rfl (fun v hw => idx_G b5 o5 _ _ k hkl v)
              · exact step_fieldAddr rfl trivial _ _ _ _ rfl rfl (fun v hw => fld_G3 v _ _)
              · exact step_load rfl trivial _ _ _ rfl rfl (fun v hw => load_b ((hw.cell (p := ⟨b5, _, none⟩) hb5l).trans r3))
              · exact step_move rfl trivial _ rfl (by kernel_rfl)
              · exact step_indexAddr rfl trivial _ _ _ _ _ rfl rfl rfl (fun v hw => idx_bz g5 f5 _ _ j hjd v)
              · exact step_load rfl trivial _ _ _ rfl rfl (fun v hw => load_u8 ((hw.cell (p := ⟨g5, _, none⟩) hg5l).trans y5))
              · exact step_binOp rfl trivial _ _ _ _ _ _ _ rfl rfl rfl (fun v hw => (bin_neq .u8 _ _).trans (by rw [hneq]; rfl))
            intro W hW
            first | refine hK _ _ ?_ | refine (‹∀ (a : Act) (w : World), Code.wp Try.prog _ _ a w → _›) _ _ ?_
            simp only [finL, List.getD_cons_zero, List.getD_cons_succ, Nat.zero_add, Nat.reduceAdd, List.setIfInBounds_toArray, List.set_cons_zero, List.set_cons_succ]
            clear hneq
            go_wp2
            refine wp_region_any hmx ?_
            refine wpAny_pure (fun i__ => ([(.int .i64 (k : Int)), (.int .i64 (i : Int)), (.bool false), (.bool false), (.slice (some ⟨b3, o3, none⟩) n cl3), (.int .i64 (k : Int)), (.pointer (some ⟨b3, o3 + k * 4, none⟩)), (.pointer (some ⟨b3, o3 + k * 4 + 3, none⟩)), (.slice (some ⟨g3, f3, none⟩) d c3), (.int .i64 (j : Int)), (.pointer (some ⟨g3, f3 + j, none⟩)), (.int .u8 (y : Int)), (.int .i64 (bn : Int)), (.int .u8 (bn : Int)), (.int .u8 ((y ^^^ bn : Nat) : Int)), (.slice (some ⟨b5, o5, none⟩) n cl5), (.int .i64 (k : Int)), (.pointer (some ⟨b5, o5 + k * 4, none⟩)), (.pointer (some ⟨b5, o5 + k * 4 + 3, none⟩)), (.slice (some ⟨g5, f5, none⟩) d c5), (.int .i64 (j : Int)), (.pointer (some ⟨g5, f5 + j, none⟩)), (.int .u8 ((y ^^^ bn : Nat) : Int)), (.bool false), (.bool false)] : List Value).getD i__ undef) (fun V => Below u5.heap.size u5 V) (by kernel_rfl) hW.drew ?_ ?_
            · refine (stepsFrom_cons ?_ (stepsFrom_cons ?_ (stepsFrom_cons ?_ (stepsFrom_cons ?_ (stepsFrom_cons ?_ (stepsFrom_cons ?_ (stepsFrom_cons ?_ (stepsFrom_cons ?_ (stepsFrom_cons ?_ (stepsFrom_cons ?_ (stepsFrom_cons ?_ (stepsFrom_cons ?_ (stepsFrom_cons ?_ (stepsFrom_cons ?_ (stepsFrom_cons ?_ (stepsFrom_cons ?_ (stepsFrom_cons ?_ (stepsFrom_cons ?_ (stepsFrom_cons ?_ (stepsFrom_cons ?_ (stepsFrom_cons ?_ (stepsFrom_cons ?_ (stepsFrom_cons ?_ (stepsFrom_cons ?_ (stepsFrom_cons ?_ trivial)))))))))))))))))))))))))
              · exact step_move rfl trivial _ rfl (by kernel_rfl)
              · exact step_move rfl trivial _ rfl (by kernel_rfl)
              · exact step_binOp rfl trivial _ _ _ _ _ _ _ rfl rfl rfl (fun v hw => (bin_neq .i64 _ _).trans (by rw [HKI.out]; simp))
              · exact step_move rfl trivial _ rfl (by kernel_rfl)
              · exact step_move rfl (by exact ⟨_, rfl, by kernel_rfl⟩) _ rfl (by kernel_rfl)
              · exact step_move rfl (by exact ⟨_, rfl, by kernel_rfl⟩) _ rfl (by kernel_rfl)
              · exact step_indexAddr rfl (by exact ⟨_, rfl, by kernel_rfl⟩) _ _ _ _ _ rfl rfl rfl (fun v hw => idx_G b3 o3 _ _ k hkl v)
              · exact step_fieldAddr rfl (by exact ⟨_, rfl, by kernel_rfl⟩) _ _ _ _ rfl rfl (fun v hw => fld_G3 v _ _)
              · exact step_load rfl (by exact ⟨_, rfl, by kernel_rfl⟩) _ _ _ rfl rfl (fun v hw => load_b ((hw.cell (p := ⟨b3, _, none⟩) hb3l).trans p3))
              · exact step_move rfl (by exact ⟨_, rfl, by kernel_rfl⟩) _ rfl (by kernel_rfl)
              · exact step_indexAddr rfl (by exact ⟨_, rfl, by kernel_rfl⟩) _ _ _ _ _ rfl rfl rfl (fun v hw => idx_bz g3 f3 _ _ j hjd v)
              · exact step_load rfl (by exact ⟨_, rfl, by kernel_rfl⟩) _ _ _ rfl rfl (fun v hw => load_u8 ((hw.cell (p := ⟨g3, _, none⟩) hg3l).trans y3))
              · exact step_move rfl (by exact ⟨_, rfl, by kernel_rfl⟩) _ rfl (by kernel_rfl)
              · exact step_convert rfl (by exact ⟨_, rfl, by kernel_rfl⟩) _ _ _ _ rfl rfl (fun v hw => conv_u8 bn hbn v)
              · exact step_binOp rfl (by exact ⟨_, rfl, by kernel_rfl⟩) _ _ _ _ _ _ _ rfl rfl rfl (fun v hw => bin_xor8 y bn hybt hbn)
              · exact step_move rfl (by exact ⟨_, rfl, by kernel_rfl⟩) _ rfl (by kernel_rfl)
              · exact step_move rfl (by exact ⟨_, rfl, by kernel_rfl⟩) _ rfl (by kernel_rfl)
              · exact step_indexAddr rfl (by exact ⟨_, rfl, by kernel_rfl⟩) _ _ _ _ _ rfl rfl rfl (fun v hw => idx_G b5 o5 _ _ k hkl v)
              · exact step_fieldAddr rfl (by exact ⟨_, rfl, by kernel_rfl⟩) _ _ _ _ rfl rfl (fun v hw => fld_G3 v _ _)
              · exact step_load rfl (by exact ⟨_, rfl, by kernel_rfl⟩) _ _ _ rfl rfl (fun v hw => load_b ((hw.cell (p := ⟨b5, _, none⟩) hb5l).trans r3))
              · exact step_move rfl (by exact ⟨_, rfl, by kernel_rfl⟩) _ rfl (by kernel_rfl)
              · exact step_indexAddr rfl (by exact ⟨_, rfl, by kernel_rfl⟩) _ _ _ _ _ rfl rfl rfl (fun v hw => idx_bz g5 f5 _ _ j hjd v)
              · exact step_load rfl (by exact ⟨_, rfl, by kernel_rfl⟩) _ _ _ rfl rfl (fun v hw => load_u8 ((hw.cell (p := ⟨g5, _, none⟩) hg5l).trans y5))
              · exact step_binOp rfl (by exact ⟨_, rfl, by kernel_rfl⟩) _ _ _ _ _ _ _ rfl rfl rfl (fun v hw => (bin_neq .u8 _ _).trans (by simp))
              · exact step_pick rfl trivial _ _ _ false rfl (by kernel_rfl) (by kernel_rfl)
            intro W hW
            first | refine hK _ _ ?_ | refine (‹∀ (a : Act) (w : World), Code.wp Try.prog _ _ a w → _›) _ _ ?_
            simp only [finL, List.getD_cons_zero, List.getD_cons_succ, Nat.zero_add, Nat.reduceAdd, List.setIfInBounds_toArray, List.set_cons_zero, List.set_cons_succ]
            go_wp2
            go_roundw
            case rel => exact ⟨j + 1, 1, by simp, by simp, by omega, by show _ = _; rw [HKI.out, HJJ.out, if_pos ⟨rfl, Nat.lt_succ_self _⟩]; simp [cnt], by omega, hW⟩
            case measure => simp [vnat]; omega
          · have y5 := hat5 j _ hy'
            clear hy'
            go_wp2
            refine wp_region_any hmx ?_
            refine wpAny_pure (fun i__ => ([(.slice (some ⟨b3, o3, none⟩) n cl3), (.int .i64 (k : Int)), (.pointer (some ⟨b3, o3 + k * 4, none⟩)), (.pointer (some ⟨b3, o3 + k * 4 + 3, none⟩)), (.slice (some ⟨g3, f3, none⟩) d c3), (.int .i64 (j : Int)), (.pointer (some ⟨g3, f3 + j, none⟩)), (.int .u8 (y : Int)), (.slice (some ⟨b5, o5, none⟩) n cl5), (.int .i64 (k : Int)), (.pointer (some ⟨b5, o5 + k * 4, none⟩)), (.pointer (some ⟨b5, o5 + k * 4 + 3, none⟩)), (.slice (some ⟨g5, f5, none⟩) d c5), (.int .i64 (j : Int)), (.pointer (some ⟨g5, f5 + j, none⟩)), (.int .u8 (y : Int)), (.bool false)] : List Value).getD i__ undef) (fun V => Below u5.heap.size u5 V) (by kernel_rfl) hbz.drew ?_ ?_
            · refine (stepsFrom_cons ?_ (stepsFrom_cons ?_ (stepsFrom_cons ?_ (stepsFrom_cons ?_ (stepsFrom_cons ?_ (stepsFrom_cons ?_ (stepsFrom_cons ?_ (stepsFrom_cons ?_ (stepsFrom_cons ?_ (stepsFrom_cons ?_ (stepsFrom_cons ?_ (stepsFrom_cons ?_ (stepsFrom_cons ?_ (stepsFrom_cons ?_ (stepsFrom_cons ?_ (stepsFrom_cons ?_ (stepsFrom_cons ?_ trivial)))))))))))))))))
              · exact step_move rfl trivial _ rfl (by kernel_rfl)
              · exact step_move rfl trivial _ rfl (by kernel_rfl)
              · exact step_indexAddr rfl trivial _ _ _ _ _ rfl rfl rfl (fun v hw => idx_G b3 o3 _ _ k hkl v)
              · exact step_fieldAddr rfl trivial _ _ _ _ rfl rfl (fun v hw => fld_G3 v _ _)
              · exact step_load rfl trivial _ _ _ rfl rfl (fun v hw => load_b ((hw.cell (p := ⟨b3, _, none⟩) hb3l).trans p3))
              · exact step_move rfl trivial _ rfl (by kernel_rfl)
              · exact step_indexAddr rfl trivial _ _ _ _ _ rfl rfl rfl (fun v hw => idx_bz g3 f3 _ _ j hjd v)
              · exact step_load rfl trivial _ _ _ rfl rfl (fun v hw => load_u8 ((hw.cell (p := ⟨g3, _, none⟩) hg3l).trans y3))
              · exact step_move rfl trivial _ rfl (by kernel_rfl)
              · exact step_move rfl trivial _ rfl (by kernel_rfl)
              · exact step_indexAddr rfl trivial _ _ _ _ _ rfl rfl rfl (fun v hw => idx_G b5 o5 _ _ k hkl v)
              · exact step_fieldAddr rfl trivial _ _ _ _ rfl rfl (fun v hw => fld_G3 v _ _)
              · exact step_load rfl trivial _ _ _ rfl rfl (fun v hw => load_b ((hw.cell (p := ⟨b5, _, none⟩) hb5l).trans r3))
              · exact step_move rfl trivial _ rfl (by kernel_rfl)
              · exact step_indexAddr rfl trivial _ _ _ _ _ rfl rfl rfl (fun v hw => idx_bz g5 f5 _ _ j hjd v)
              · exact step_load rfl trivial _ _ _ rfl rfl (fun v hw => load_u8 ((hw.cell (p := ⟨g5, _, none⟩) hg5l).trans y5))
              · exact step_binOp rfl trivial _ _ _ _ _ _ _ rfl rfl rfl (fun v hw => (bin_neq .u8 _ _).trans (by simp))
            intro W hW
            first | refine hK _ _ ?_ | refine (‹∀ (a : Act) (w : World), Code.wp Try.prog _ _ a w → _›) _ _ ?_
            simp only [finL, List.getD_cons_zero, List.getD_cons_succ, Nat.zero_add, Nat.reduceAdd, List.setIfInBounds_toArray, List.set_cons_zero, List.set_cons_succ]
            go_wp2
            go_roundw
            case rel => exact ⟨j + 1, M, by simp, rfl, hM1, by
              show _ = _
              rw [HM.out]
              by_cases hki2 : k = i
              · have hjj : ¬ j = j0 := fun e => hno ⟨hki2, e⟩
                by_cases hlt : j0 < j
                · rw [if_pos ⟨hki2, hlt⟩, if_pos ⟨hki2, by omega⟩]
                · rw [if_neg (fun e => hlt e.2), if_neg (fun e => hlt (by omega))]
              · rw [if_neg (fun e => hki2 e.1), if_neg (fun e => hki2 e.1)], by omega, hW⟩
            case measure => simp [vnat]; omega
        · have hjj : j = d := by omega
          subst hjj
          have hji : ¬ ((j : Int) < (j : Int)) := by omega
          have hfin : M = cnt i (k + 1) := by
            rw [HM.out]
            unfold cnt
            by_cases hki2 : k = i
            · have hx1 := HXZ.out hki2
              have hj0d : j0 < j := by rw [← HD.out, hx1]; exact HBY.out.2.1
              rw [if_neg (show ¬ i < k by omega), if_pos (show k = i ∧ j0 < j from ⟨hki2, hj0d⟩), if_pos (show i < k + 1 by omega)]
            · have hno2 : ¬ (k = i ∧ j0 < j) := fun e => hki2 e.1
              rw [if_neg hno2]
              by_cases hlt : i < k
              · rw [if_pos hlt, if_pos (show i < k + 1 by omega)]
              · rw [if_neg hlt, if_neg (show ¬ i < k + 1 by omega)]
          have HF : Hid (M = cnt i (k + 1)) := hfin
          clear hfin
          go_wp2
          go_roundw
          case rel => exact ⟨k + 1, M, by simp, rfl, hM1, HF, by omega, hbz⟩
          case measure => simp [vnat]; omega
    · have hkk : k = n := by omega
      subst hkk
      have hN : N = 1 := by rw [HC.out]; exact if_pos (by have := HBY.out.1; have := HN.out; omega)
      subst hN
      have hki : ¬ ((k : Int) < (k : Int)) := by omega
      have hsp := spoil_any (hB5.carry hbw) (i : Int) a2 (bn : Int)
      rw [hs2] at hsp
      dsimp only at hsp
      have hg7 := hg6.carry hbw
      go_wp2_with (first | (go_at_call 18; (with_reducible refine hsp.mono ?_); rintro e u8 ⟨rfl, ad8, cap8, ps8, hB8, hT8⟩; have hg8 := ((hB5.carry hbw).sv hT8).gs hg7; have haz := all_any hB8) | (go_at_call 11; (with_reducible refine haz.mono ?_); rintro e u9 ⟨v9, av9, rfl, hg9, hb9⟩; obtain ⟨al9, cl9, rfl⟩ := row_form hg9.row; have hg8' := hg8.carry hb9; rw [HN.out]) | (go_at_call 8; (with_reducible refine (hal _).mono ?_); rintro e u10 ⟨rfl, hb10⟩; have hsb := sameBag_yes al3 al9 cl3 cl9 l u10 (hg8'.carry hb10).rd (hg9.carry hb10).rd hlb hdt; rw [HN.out] at hsb) | (go_at_call 15; (with_reducible refine hsb.mono ?_); rintro e u11 ⟨rfl, hb11⟩))
      go_ret
      exact ⟨rfl, bel2 (bel2 (bel2 ((bel2 k5 hbw).trans ((hB5.carry hbw).below hT8)) hb9) hb10) hb11⟩

set_option maxRecDepth 100000 in
theorem lifted (os : Os) (started : os.Started) (H : Type) (enc : TypeId × Value → H) :
    ReturnsInHanded {} Try.checked os 5 .any (Rows.bagSpoiltSpec.pre6 enc Try.prog Try.f5 Rows.bagSpoiltRow.domain false) (Rows.bagSpoiltSpec.post enc Try.prog Try.f5 false true false false) := by
  refine returnsInHanded_of_change (C := Try.checked) own started (by kernel_rfl) Try.func5
    (ChangeSpec.witness6 (enc := enc) (C := Try.checked) false ⟨#[], #[.slice none 0 0, .int .i64 0, .int .i64 0, .int .i64 0], []⟩ 8 (by kernel_rfl) (by kernel_rfl) (by kernel_rfl) (by kernel_rfl)) ?_
  intro W base args ds gs before hval0 hW hcnd _
  have hval : ∀ (j : Nat) t v, Try.f5.params[j]? = some t → args[j]? = some v → Value.okWide Try.prog W .any base t v := hval0
  have hW' := hW
  obtain ⟨p, q, hA0, hV, rfl, hfz, hnd⟩ := hW
  have hA : DataW.TrodAll enc Try.prog W 0 (fun _ => true) true Try.f5.params.toList args.toList ds p := hA0
  rw [Try.params5] at hA hval
  obtain ⟨v0, vs0, d0, ds0, p0, q0, hargs, rfl, rfl, h0, r0⟩ := trodAll_cons hA
  obtain ⟨v1, vs1, d1, ds1, p1, q1, rfl, rfl, rfl, h1, r1⟩ := trodAll_cons r0
  obtain ⟨v2, vs2, d2, ds2, p2, q2, rfl, rfl, rfl, h2, r2⟩ := trodAll_cons r1
  obtain ⟨v3, vs3, d3, ds3, p3, q3, rfl, rfl, rfl, h3, r3⟩ := trodAll_cons r2
  obtain ⟨rfl, rfl, rfl⟩ := trodAll_nil r3
  obtain rfl : args = #[v0, v1, v2, v3] := by cases args; simp_all
  obtain ⟨rfl, rfl⟩ := trodVars_none hV
  have k0 := h0
  have lt0 : ∀ x ∈ p0, x.block < W.heap.size := by obtain ⟨m, hm⟩ := k0; exact DataW.trod_lt m _ _ _ hm
  obtain ⟨ad0, cap0, l0, rfl, w0, hc0, hm0⟩ := open_ops (hval 0 22 v0 rfl rfl) h0
  obtain ⟨a1, rfl, rfl, rfl, w1⟩ := open_int Try.underlying3 (hval 1 3 v1 rfl rfl) h1
  obtain ⟨a2, rfl, rfl, rfl, w2⟩ := open_int Try.underlying3 (hval 2 3 v2 rfl rfl) h2
  obtain ⟨a3, rfl, rfl, rfl, w3⟩ := open_int Try.underlying3 (hval 3 3 v3 rfl rfl) h3
  clear hA0 hval0
  refine (walk W ad0 cap0 l0 w0 hc0 hm0 a1 w1 a2 w2 a3 w3).mono fun e W' ⟨he, hg⟩ => ?_
  subst he
  exact ⟨_, rfl, _, _, _, [], _, [], hW', (trodAll_cons_mk (shut_bool Try.underlying4 _) trodAll_mk0), (trodAll_cons_mk (Below.trod laidOut (by kernel_rfl) (of_decide_eq_true (by kernel_rfl)) k0 hg lt0) (trodAll_cons_mk (shut_int Try.underlying3 w1) (trodAll_cons_mk (shut_int Try.underlying3 w2) (trodAll_cons_mk (shut_int Try.underlying3 w3) trodAll_mk0)))), rfl, hg.frame _, fun h => by cases h⟩

theorem over : Rows.bagSpoiltRow.holds Try.pinned (OpenSpec.ofChange Rows.bagSpoiltSpec) :=
  OpenClaim.holds_of_wide 5 Try.f5 rfl rfl rfl rfl rfl rfl rfl ⟨rfl, rfl, rfl, rfl, rfl⟩ rfl rfl rfl rfl rfl (by kernel_rfl) Try.func5 (by kernel_rfl)
    (of_decide_eq_true (by kernel_rfl)) (by unfold Func.isWrapper; first | (rw [if_pos (by decide +kernel)]; kernel_rfl) | (rw [if_neg (by decide +kernel)]; exact ⟨rfl, rfl⟩))
    (fun os started H enc _ => lifted os started H enc)

theorem proved : Rows.BagSpoiltSaid :=
  over
#print axioms proved
end Go.Proofs.Ytenahcdmdhlieaa
