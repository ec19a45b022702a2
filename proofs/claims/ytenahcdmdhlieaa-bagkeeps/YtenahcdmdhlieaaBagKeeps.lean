/- BagKeeps: at every room and script: a bag has what was made and not taken, each once, by an Id from 1 on, never more than its room; no condition. -/
import Derived.Test.YtenahcdmdhlieaaRows
import Derived.WalkKit
import Derived.ProofKit
import Derived.OpenShut
import Derived.Test.YtenahcdmdhlieaaBgp
import Derived.Test.YtenahcdmdhlieaaOpo
namespace Go.Proofs.Ytenahcdmdhlieaa
open Go.ChangeShapes Go.WideShapes Go.ChangeAt Go.RowKit
set_option linter.unusedVariables false

theorem laidOut : laidOutB Try.prog = true := by kernel_rfl
theorem own : ownKnob Try.prog.godebug = none := by kernel_rfl
open Go.Shelf Go.Lib
theorem fld_G0 (W : World) (B o : Nat) : (Instr.fieldAt 37 (.pointer (some ⟨B, o, none⟩)) 0).run Try.prog W = .ok (.pointer (some ⟨B, o, none⟩)) W := by go_simp
theorem nd_ne {l : List Gr} (h : (l.map (·.1)).Nodup) {k i : Nat} {x y : Gr} (hk : l[k]? = some x) (hi : l[i]? = some y) (hki : k < i) : (x.1 == y.1) = false := by
  have h1 : (l.map (·.1))[k]? = some x.1 := by simp [hk]
  have h2 : (l.map (·.1))[i]? = some y.1 := by simp [hi]
  obtain ⟨a1, b1⟩ := List.getElem?_eq_some_iff.1 h1
  obtain ⟨a2, b2⟩ := List.getElem?_eq_some_iff.1 h2
  have := (List.pairwise_iff_getElem.1 h) k i a1 a2 hki
  rw [b1, b2] at this
  simpa using this
set_option maxHeartbeats 8000000 in
set_option maxRecDepth 100000 in
theorem walk (w : World) (a0 : Int) (w0 : (Lit.int .i64 a0).wf = true) (ad1 : Option Addr) (cap1 : Nat) (l1 : List Op6) (w1 : RdO w w.heap.size ad1 l1) (hc1 : l1.length ≤ cap1) (hm1 : cap1 ≤ maxLen) :
    Calls Try.prog 3 #[.int .i64 a0, .slice ad1 l1.length cap1] w fun e w' => e = .returned (.bool true) ∧ Below w.heap.size w w' := by
  have hmx : Try.prog.follows .mixedOrders = true := by kernel_rfl
  have hal := alive_any
  have hli := light_any ad1 cap1 l1 w w1
  by_cases hr : 0 ≤ a0 ∧ a0 ≤ 60
  case neg =>
    by_cases hr0 : a0 < 0
    · clear hr
      go_enter Try.func3, Try.ntmps3
      go_wp2_with (go_at_call 8; (with_reducible refine (hal _).mono ?_); rintro e u3 ⟨rfl, hb3⟩)
      go_ret
      exact ⟨rfl, hb3⟩
    · have hr1 : a0 > 60 := by omega
      clear hr
      go_enter Try.func3, Try.ntmps3
      go_wp2_with (go_at_call 8; (with_reducible refine (hal _).mono ?_); rintro e u3 ⟨rfl, hb3⟩)
      go_ret
      exact ⟨rfl, hb3⟩
  have hr0 : ¬ a0 < 0 := by omega
  have hr1 : ¬ a0 > 60 := by omega
  by_cases hlg : lgt l1 = true
  case neg =>
    have hlg2 : lgt l1 = false := by simpa using hlg
    rw [hlg2] at hli
    clear hr
    go_enter Try.func3, Try.ntmps3
    go_wp2_with (first | (go_at_call 7; (with_reducible refine hli.mono ?_); rintro e u2 ⟨rfl, rfl⟩) | (go_at_call 8; (with_reducible refine (hal _).mono ?_); rintro e u3 ⟨rfl, hb3⟩))
    go_ret
    exact ⟨rfl, hb3⟩
  rw [hlg] at hli
  have hne := new_ok a0 w hr.1 (by omega)
  have hn150 : l1.length ≤ 150 := (of_decide_eq_true hlg).1
  have hri := rst_ri (room := a0) hr.1 l1
  have hrl := rst_le a0 l1
  obtain ⟨q, hq⟩ : ∃ q, rst a0 0 [] l1 = q := ⟨_, rfl⟩
  rw [hq] at hri hrl
  obtain ⟨m, t, la, l⟩ := q
  have hla := hri.la
  have hct := hri.ct
  have hle := hri.le
  have hids : ∀ x ∈ l, 1 ≤ x.1 ∧ x.1 ≤ (m : Int) := fun x hx => by have := hri.id x hx; dsimp only at hla this; rw [hla] at this; exact this
  have hnd : (l.map (·.1)).Nodup := hri.nd
  dsimp only at hla hct hle hrl
  have hmt : (m : Int) - (t : Int) = (l.length : Int) := by omega
  have hl60 : (l.length : Int) ≤ 60 := by omega
  have hgt : ¬ ((l.length : Int) > a0) := by omega
  have hA1 : a0 - (l.length : Int) ≤ 60 := by omega
  have hA0 : 0 ≤ a0 - (l.length : Int) := by omega
  have hm150 : (m : Int) ≤ 150 := by omega
  have ht150 : (t : Int) ≤ 150 := by omega
  have HLA : Hid (la = (m : Int)) := hla
  have HCT : Hid (l.length + t = m) := hct
  have HND : Hid ((l.map (·.1)).Nodup) := hnd
  have HID : Hid (∀ x ∈ l, 1 ≤ x.1 ∧ x.1 ≤ (m : Int)) := hids
  clear hla hct hrl hnd hids hri
  go_enter Try.func3, Try.ntmps3
  go_wp2_with (first | (go_at_call 7; (with_reducible refine hli.mono ?_); rintro e u2 ⟨rfl, rfl⟩) | (go_at_call 9; (with_reducible refine hne.mono ?_); rintro e u1 ⟨rfl, hB1, hb1⟩; have hru := run_any hB1 (by decide) (by decide) ad1 cap1 l1 (w1.carry hb1) hn150; rw [hq] at hru; dsimp only at hru) | (go_at_call 10; (with_reducible refine hru.mono ?_); rintro e u2 ⟨rfl, ad2, cap2, ps2, hB2, hT2⟩; have haa := all_any hB2) | (go_at_call 11; (with_reducible refine haa.mono ?_); rintro e u3 ⟨v3, av3, rfl, hg3, hb3⟩; obtain ⟨al3, cl3, rfl⟩ := row_form hg3.row; have hB3 := hB2.carry hb3; have hln := blen_any hB3; have hro := broom_any hB3) | (go_at_call 12; (with_reducible refine hln.mono ?_); rintro e u4 ⟨rfl, rfl⟩) | (go_at_call 13; (with_reducible refine hro.mono ?_); rintro e u5 ⟨rfl, hb5⟩; have hg5 := hg3.carry hb5))
  have k1 : Below _ _ u2 := hb1.trans (hB1.below hT2)
  have k5 := bel2 (bel2 k1 hb3) hb5
  have hrd := hg5.rd
  obtain ⟨n, hn⟩ : ∃ n, l.length = n := ⟨_, rfl⟩
  have HN : Hid (l.length = n) := hn
  rw [hn] at hl60 hgt hle hA0 hA1 ⊢
  clear hmt hn hg5 hg3 haa
  go_loopw [11] (fun i wz => ∃ k : Nat, i = .int .i64 k ∧ k ≤ n ∧ Below u5.heap.size u5 wz) (fun i _ => n - vnat i)
  case atStart => exact ⟨0, rfl, Nat.zero_le _, Below.refl _ _⟩
  case round =>
    obtain ⟨k, rfl, hk, hbw⟩ := hrel
    by_cases hkl : k < n
    · have hki : (k : Int) < (n : Int) := by omega
      obtain ⟨x, hx⟩ : ∃ x, l[k]? = some x := ⟨_, List.getElem?_eq_getElem (by rw [HN.out]; exact hkl)⟩
      obtain ⟨g, off, a, c, rfl, hgl, c0, c1, c2, c3, hr⟩ := hrd k x hx
      have hxid := HID.out x (List.mem_of_getElem? hx)
      have hx1 : ¬ x.1 < 1 := by omega
      have hx2 : ¬ x.1 > (m : Int) := by omega
      have hix := idx_G g off n cl3 k hkl
      have hfd := fld_G0
      have e0 := (hbw.cell (p := ⟨g, off + k * 4, none⟩) hgl).trans c0
      have HX : Hid (l[k]? = some x) := hx
      clear hx c0 c1 c2 c3 hr
      go_wp2
      go_loopw [12] (fun i wz => ∃ j : Nat, i = .int .i64 j ∧ j ≤ k ∧ Below u5.heap.size u5 wz) (fun i _ => k - vnat i)
      case atStart => exact ⟨0, rfl, Nat.zero_le _, hbw⟩
      case round =>
        obtain ⟨j, rfl, hj, hbz⟩ := hrel
        by_cases hjk : j < k
        · have hji : (j : Int) < (k : Int) := by omega
          obtain ⟨y, hy⟩ : ∃ y, l[j]? = some y := ⟨_, List.getElem?_eq_getElem (by rw [HN.out]; omega)⟩
          obtain ⟨g', off', a', c', e', hgl', d0, _⟩ := hrd j y hy
          simp only [Option.some.injEq, Addr.mk.injEq] at e'
          obtain ⟨rfl, rfl, _⟩ := e'
          have hdiff := nd_ne HND.out hy HX.out hjk
          go_wp2
          refine wp_region_any hmx ?_
          refine wpAny_pure (fun i__ => ([(.slice (some ⟨g, off, none⟩) n cl3), (.int .i64 (j : Int)), (.pointer (some ⟨g, off + j * 4, none⟩)), (.pointer (some ⟨g, off + j * 4, none⟩)), (.int .i64 y.1), (.slice (some ⟨g, off, none⟩) n cl3), (.int .i64 (k : Int)), (.pointer (some ⟨g, off + k * 4, none⟩)), (.pointer (some ⟨g, off + k * 4, none⟩)), (.int .i64 x.1), (.bool false)] : List Value).getD i__ undef) (fun V => Below u5.heap.size u5 V) (by kernel_rfl) hbz.drew ?_ ?_
          · refine (stepsFrom_cons ?_ (stepsFrom_cons ?_ (stepsFrom_cons ?_ (stepsFrom_cons ?_ (stepsFrom_cons ?_ (stepsFrom_cons ?_ (stepsFrom_cons ?_ (stepsFrom_cons ?_ (stepsFrom_cons ?_ (stepsFrom_cons ?_ (stepsFrom_cons ?_ trivial)))))))))))
            · exact step_move rfl trivial _ rfl (by kernel_rfl)
            · exact step_move rfl trivial _ rfl (by kernel_rfl)
            · exact step_indexAddr rfl trivial _ _ _ _ _ rfl rfl rfl (fun v hw => idx_G g off _ _ j (by omega) v)
            · exact step_fieldAddr rfl trivial _ _ _ _ rfl rfl (fun v hw => fld_G0 v _ _)
            · exact step_load rfl trivial _ _ _ rfl rfl (fun v hw => load_i ((hw.cell (p := ⟨g, _, none⟩) hgl').trans d0))
            · exact step_move rfl trivial _ rfl (by kernel_rfl)
            · exact step_move rfl trivial _ rfl (by kernel_rfl)
            · exact step_indexAddr rfl trivial _ _ _ _ _ rfl rfl rfl (fun v hw => idx_G g off _ _ k hkl v)
            · exact step_fieldAddr rfl trivial _ _ _ _ rfl rfl (fun v hw => fld_G0 v _ _)
            · exact step_load rfl trivial _ _ _ rfl rfl (fun v hw => load_i ((hw.cell (p := ⟨g, _, none⟩) hgl).trans ((hbw.cell (p := ⟨g, off + k * 4, none⟩) hgl).symm.trans e0)))
            · exact step_binOp rfl trivial _ _ _ _ _ _ _ rfl rfl rfl (fun v hw => (bin_eql .i64 _ _).trans (by rw [hdiff]; rfl))
          intro W hW
          first | refine hK _ _ ?_ | refine (‹∀ (a : Act) (w : World), Code.wp Try.prog _ _ a w → _›) _ _ ?_
          simp only [finL, List.getD_cons_zero, List.getD_cons_succ, Nat.zero_add, Nat.reduceAdd, List.setIfInBounds_toArray, List.set_cons_zero, List.set_cons_succ]
          go_wp2
          go_roundw
          case rel => exact ⟨j + 1, by simp, by omega, hW⟩
          case measure => simp [vnat]; omega
        · have hjj : j = k := by omega
          subst hjj
          have hji : ¬ ((j : Int) < (j : Int)) := by omega
          go_wp2
          go_roundw
          case rel => exact ⟨j + 1, by simp, by omega, hbz⟩
          case measure => simp [vnat]; omega
    · have hkk : k = n := by omega
      subst hkk
      have hki : ¬ ((k : Int) < (k : Int)) := by omega
      go_wp2_with (go_at_call 8; (with_reducible refine (hal _).mono ?_); rintro e u9 ⟨rfl, hb9⟩)
      go_ret
      exact ⟨rfl, bel2 (bel2 k5 hbw) hb9⟩

set_option maxRecDepth 100000 in
theorem lifted (os : Os) (started : os.Started) (H : Type) (enc : TypeId × Value → H) :
    ReturnsInHanded {} Try.checked os 3 .any (Rows.bagKeepsSpec.pre6 enc Try.prog Try.f3 Rows.bagKeepsRow.domain false) (Rows.bagKeepsSpec.post enc Try.prog Try.f3 false true false false) := by
  refine returnsInHanded_of_change (C := Try.checked) own started (by kernel_rfl) Try.func3
    (ChangeSpec.witness6 (enc := enc) (C := Try.checked) false ⟨#[], #[.int .i64 0, .slice none 0 0], []⟩ 8 (by kernel_rfl) (by kernel_rfl) (by kernel_rfl) (by kernel_rfl)) ?_
  intro W base args ds gs before hval0 hW hcnd _
  have hval : ∀ (j : Nat) t v, Try.f3.params[j]? = some t → args[j]? = some v → Value.okWide Try.prog W .any base t v := hval0
  have hW' := hW
  obtain ⟨p, q, hA0, hV, rfl, hfz, hnd⟩ := hW
  have hA : DataW.TrodAll enc Try.prog W 0 (fun _ => true) true Try.f3.params.toList args.toList ds p := hA0
  rw [Try.params3] at hA hval
  obtain ⟨v0, vs0, d0, ds0, p0, q0, hargs, rfl, rfl, h0, r0⟩ := trodAll_cons hA
  obtain ⟨v1, vs1, d1, ds1, p1, q1, rfl, rfl, rfl, h1, r1⟩ := trodAll_cons r0
  obtain ⟨rfl, rfl, rfl⟩ := trodAll_nil r1
  obtain rfl : args = #[v0, v1] := by cases args; simp_all
  obtain ⟨rfl, rfl⟩ := trodVars_none hV
  obtain ⟨a0, rfl, rfl, rfl, w0⟩ := open_int Try.underlying3 (hval 0 3 v0 rfl rfl) h0
  have k1 := h1
  have lt1 : ∀ x ∈ p1, x.block < W.heap.size := by obtain ⟨m, hm⟩ := k1; exact DataW.trod_lt m _ _ _ hm
  obtain ⟨ad1, cap1, l1, rfl, w1, hc1, hm1⟩ := open_ops (hval 1 22 v1 rfl rfl) h1
  clear hA0 hval0
  refine (walk W a0 w0 ad1 cap1 l1 w1 hc1 hm1).mono fun e W' ⟨he, hg⟩ => ?_
  subst he
  exact ⟨_, rfl, _, _, _, [], _, [], hW', (trodAll_cons_mk (shut_bool Try.underlying4 _) trodAll_mk0), (trodAll_cons_mk (shut_int Try.underlying3 w0) (trodAll_cons_mk (Below.trod laidOut (by kernel_rfl) (of_decide_eq_true (by kernel_rfl)) k1 hg lt1) trodAll_mk0)), rfl, hg.frame _, fun h => by cases h⟩

theorem over : Rows.bagKeepsRow.holds Try.pinned (OpenSpec.ofChange Rows.bagKeepsSpec) :=
  OpenClaim.holds_of_wide 3 Try.f3 rfl rfl rfl rfl rfl rfl rfl ⟨rfl, rfl, rfl, rfl, rfl⟩ rfl rfl rfl rfl rfl (by kernel_rfl) Try.func3 (by kernel_rfl)
    (of_decide_eq_true (by kernel_rfl)) (by unfold Func.isWrapper; first | (rw [if_pos (by decide +kernel)]; kernel_rfl) | (rw [if_neg (by decide +kernel)]; exact ⟨rfl, rfl⟩))
    (fun os started H enc _ => lifted os started H enc)

theorem proved : Rows.BagKeepsSaid :=
  over
#print axioms proved
end Go.Proofs.Ytenahcdmdhlieaa
