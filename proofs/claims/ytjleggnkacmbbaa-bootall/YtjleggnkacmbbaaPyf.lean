/- The step of the play: Next, Raise, Open; any step. -/
import Derived.Test.YtjleggnkacmbbaaPye
namespace Go.Proofs.Ytjleggnkacmbbaa
open Go.RowKit Go.Shelf Go.Lib

section
variable {w V V' : World} {x gb q p lb r c : Nat} {k a : Int} {b b' b1 : Bo} {d d' d1 : Dst}
theorem ext2_0 (x y : Value) (w : World) : (Instr.extract (.tuple #[x, y]) 0).run Try.prog w = .ok x w := by go_simp
theorem ext2_1 (x y : Value) (w : World) : (Instr.extract (.tuple #[x, y]) 1).run Try.prog w = .ok y w := by go_simp
set_option maxHeartbeats 16000000 in
set_option maxRecDepth 100000 in
theorem step_2 (h : P2 w gb q p lb r c b d b d V) {M : Int} (hI : Iv d b M) (hM : M ≤ 1000000) : Calls Try.prog 34 #[.pointer (some ⟨gb, 0, none⟩), .agg #[.int .i64 2, .int .i64 a]] V fun e w' => e = .returned (.bool true) ∧ P2 w gb q p lb r c ((dRa d b a).b) ((dRa d b a).d) ((dRa d b a).b) ((dRa d b a).d) w' := by
  have hmx : Try.prog.follows .mixedOrders = true := by kernel_rfl
  obtain ⟨w1, hw1⟩ : ∃ w1, V.alloc (.cells #[.int .i64 2, .int .i64 a] 80) = w1 := ⟨_, rfl⟩
  have hb1 : Below V.heap.size V w1 := by rw [← hw1]; exact al1' _ _
  have hX : JX w V.heap.size 2 a gb q p lb r c b d b d w1 := ⟨h.carry hb1, by rw [← hw1]; exact new_at rfl⟩
  have o0 := cell_at hX.2 0
  have o1 := cell_at hX.2 1
  simp at o0 o1
  obtain ⟨q0, q1, q2, q3, q4, q5, q6, q7, q8⟩ := hX.1.bb.cs
  obtain ⟨E, hE⟩ : ∃ E, (dRa d b a).e = E := ⟨_, rfl⟩
  obtain ⟨d1, hd1⟩ : ∃ d1, (dRa d b a).d = d1 := ⟨_, rfl⟩
  obtain ⟨b1, hb1e⟩ : ∃ b1, (dRa d b a).b = b1 := ⟨_, rfl⟩
  have hw0 := hI.w0
  have hwm := hI.wm
  have hfz := hI.fz
  rw [hd1, hb1e]
  go_enter Try.func34, Try.ntmps34
  go_wp2
  rename_i hK
  refine wp_region_any hmx ?_
  refine wpAny_tabG (G := Unit) (fun g i__ => ([(.pointer (some ⟨gb, 0, none⟩)), (.pointer (some ⟨gb, 0, none⟩)), (.pointer (some ⟨gb, 0, none⟩)), (.pointer (some ⟨q, 0, none⟩)), (.pointer (some ⟨V.heap.size, 1, none⟩)), (.int .i64 a), (.int .i64 E), (.pointer (some ⟨gb, 0, none⟩)), (.pointer (some ⟨gb, 0, none⟩)), (.pointer (some ⟨gb, 2, none⟩)), (.pointer (some ⟨gb, 0, none⟩)), (.pointer (some ⟨gb, 0, none⟩)), (.pointer (some ⟨gb, 8, none⟩)), (.pointer (some ⟨lb, 0, none⟩)), (.pointer (some ⟨V.heap.size, 1, none⟩)), (.int .i64 a), (.int .i64 E), (.bool true), (.bool true)] : List Value).getD i__ undef) (fun g_ f Y => JX w V.heap.size 2 a gb q p lb r c (if f 6 = true then b1 else b) (if f 6 = true then d1 else d) (if f 16 = true then b1 else b) (if f 16 = true then d1 else d) Y) (by kernel_rfl) (()) (show JX w V.heap.size 2 a gb q p lb r c b d b d _ from hX.drew) ?step1 ?fin1
  case step1 =>
    intro i o ho
    have hi : i < 19 := getElem?_lt ho
    match i, hi, ho with
    | 0, _, ho =>
      cases ho
      refine stepG_of (fun g d hdep => ?_)
      exact step_move rfl trivial _ rfl (by kernel_rfl)
    | 1, _, ho =>
      cases ho
      refine stepG_of (fun g d hdep => ?_)
      exact step_nilCheck rfl trivial _ _ _ rfl rfl rfl
    | 2, _, ho =>
      cases ho
      refine stepG_of (fun g d hdep => ?_)
      exact step_fieldAddr rfl trivial _ _ _ _ rfl rfl (fun v hw => (field_bo v _).1)
    | 3, _, ho =>
      cases ho
      refine stepG_of (fun g d hdep => ?_)
      exact step_load rfl trivial _ _ _ rfl rfl (fun v hw => load_b0 hw.1.bb)
    | 4, _, ho =>
      cases ho
      refine stepG_of (fun g d hdep => ?_)
      exact step_fieldAddr rfl trivial _ _ _ _ rfl rfl (fun v hw => field_op1 v _)
    | 5, _, ho =>
      cases ho
      refine stepG_of (fun g d hdep => ?_)
      exact step_load rfl trivial _ _ _ rfl rfl (fun v hw => load_i64 (by rw [cell_at hw.2]; rfl))
    | 6, _, ho =>
      cases ho
      exact stepG_ofC (fun _ f hun hdep hcl => step_call rfl trivial 22 _ _ [(.pointer (some ⟨q, 0, none⟩)), .int .i64 a] rfl (by kernel_rfl) (enters_of Try.func22 (by kernel_rfl) rfl) (fun v hw => by have h16 : f 16 = false := (by cases h : f 16 with | false => rfl | true => exact absurd (hcl 16 _ rfl h 6 (by kernel_rfl)) (by rw [hun]; simp)); have hw2 := hw; simp only [hun, h16, Bool.false_eq_true, if_false] at hw2; have hsv := raise_any hw2.1.bt hw2.1.dk hfz hw0 (by omega) a; rw [hE, hd1, hb1e] at hsv; exact hsv.mono (by rintro e v' ⟨rfl, h1, h2, h3⟩; refine ⟨rfl, ?_⟩; show JX w V.heap.size 2 a gb q p lb r c (if true = true then b1 else b) (if true = true then d1 else d) (if f 16 = true then b1 else b) (if f 16 = true then d1 else d) v'; rw [h16]; exact hw2.tq h2 h1 h3)))
    | 7, _, ho =>
      cases ho
      refine stepG_of (fun g d hdep => ?_)
      exact step_move rfl trivial _ rfl (by kernel_rfl)
    | 8, _, ho =>
      cases ho
      refine stepG_of (fun g d hdep => ?_)
      exact step_nilCheck rfl trivial _ _ _ rfl rfl rfl
    | 9, _, ho =>
      cases ho
      refine stepG_of (fun g d hdep => ?_)
      exact step_fieldAddr rfl trivial _ _ _ _ rfl rfl (fun v hw => (field_bo v _).2.2.1)
    | 10, _, ho =>
      cases ho
      refine stepG_of (fun g d hdep => ?_)
      exact step_move rfl trivial _ rfl (by kernel_rfl)
    | 11, _, ho =>
      cases ho
      refine stepG_of (fun g d hdep => ?_)
      exact step_nilCheck rfl trivial _ _ _ rfl rfl rfl
    | 12, _, ho =>
      cases ho
      refine stepG_of (fun g d hdep => ?_)
      exact step_fieldAddr rfl trivial _ _ _ _ rfl rfl (fun v hw => (field_bo v _).2.2.2)
    | 13, _, ho =>
      cases ho
      refine stepG_of (fun g d hdep => ?_)
      exact step_load rfl trivial _ _ _ rfl rfl (fun v hw => load_b8 hw.1.bb)
    | 14, _, ho =>
      cases ho
      refine stepG_of (fun g d hdep => ?_)
      exact step_fieldAddr rfl trivial _ _ _ _ rfl rfl (fun v hw => field_op1 v _)
    | 15, _, ho =>
      cases ho
      refine stepG_of (fun g d hdep => ?_)
      exact step_load rfl trivial _ _ _ rfl rfl (fun v hw => load_i64 (by rw [cell_at hw.2]; rfl))
    | 16, _, ho =>
      cases ho
      exact stepG_ofC (fun _ f hun hdep hcl => step_call rfl trivial 51 _ _ [(.pointer (some ⟨gb, 2, none⟩)), (.pointer (some ⟨lb, 0, none⟩)), .int .i64 a] rfl (by kernel_rfl) (enters_of Try.func51 (by kernel_rfl) rfl) (fun v hw => by have h6 : f 6 = true := hdep 6 (by kernel_rfl); have hw2 := hw; simp only [hun, h6, Bool.false_eq_true, if_false, if_true] at hw2; have hsv := rRaise_any hw2.1.bb hw2.1.rf hfz hw0 (by omega) a; rw [hE, hd1, hb1e] at hsv; exact hsv.mono (by rintro e v' ⟨rfl, h1, h2, h3⟩; refine ⟨rfl, ?_⟩; show JX w V.heap.size 2 a gb q p lb r c (if f 6 = true then b1 else b) (if f 6 = true then d1 else d) (if true = true then b1 else b) (if true = true then d1 else d) v'; rw [h6]; exact hw2.t3 h2 h1 h3)))
    | 17, _, ho =>
      cases ho
      refine stepG_of (fun g d hdep => ?_)
      exact step_binOp rfl trivial _ _ _ _ _ _ _ rfl rfl rfl (fun v hw => eqK_t)
    | 18, _, ho =>
      cases ho
      refine stepG_of (fun g d hdep => ?_)
      exact step_assign rfl trivial _ rfl (by kernel_rfl) (fun _ h => h)
  intro g d W hall hW
  first | refine hK _ _ ?_ | refine (‹∀ (a : Act) (w : World), Code.wp Try.prog _ _ a w → _›) _ _ ?_ | skip
  simp only [finL, List.getD_cons_zero, List.getD_cons_succ, Nat.zero_add, Nat.reduceAdd, List.setIfInBounds_toArray, List.set_cons_zero, List.set_cons_succ]
  simp only [hall 6 (by decide), hall 16 (by decide), if_true] at hW
  clear hK
  go_wp2
  go_ret
  exact ⟨rfl, hW.1⟩
set_option maxHeartbeats 16000000 in
set_option maxRecDepth 100000 in
theorem step_1 (h : P2 w gb q p lb r c b d b d V) {M : Int} (hI : Iv d b M) (hM : M ≤ 1000000) : Calls Try.prog 34 #[.pointer (some ⟨gb, 0, none⟩), .agg #[.int .i64 1, .int .i64 a]] V fun e w' => e = .returned (.bool true) ∧ P2 w gb q p lb r c ((nxI d b (nTo a)).2) ((nxI d b (nTo a)).1) ((nxI d b (nTo a)).2) ((nxI d b (nTo a)).1) w' := by
  have hmx : Try.prog.follows .mixedOrders = true := by kernel_rfl
  obtain ⟨w1, hw1⟩ : ∃ w1, V.alloc (.cells #[.int .i64 1, .int .i64 a] 80) = w1 := ⟨_, rfl⟩
  have hb1 : Below V.heap.size V w1 := by rw [← hw1]; exact al1' _ _
  have hX : JX w V.heap.size 1 a gb q p lb r c b d b d w1 := ⟨h.carry hb1, by rw [← hw1]; exact new_at rfl⟩
  have o0 := cell_at hX.2 0
  have o1 := cell_at hX.2 1
  simp at o0 o1
  obtain ⟨q0, q1, q2, q3, q4, q5, q6, q7, q8⟩ := hX.1.bb.cs
  go_enter Try.func34, Try.ntmps34
  go_wp2
  go_loopw [5] (fun i wz => ∃ n : Nat, i = .int .i64 (n : Int) ∧ n ≤ nTo a ∧ JX w V.heap.size 1 a gb q p lb r c (nxI d b n).2 (nxI d b n).1 (nxI d b n).2 (nxI d b n).1 wz) (fun i _ => nTo a - vnat i)
  case atStart => exact ⟨0, rfl, Nat.zero_le _, hX⟩
  case round =>
    clear q0 q1 q2 q3 q4 q5 q6 q7 q8 o0 o1
    obtain ⟨n, rfl, hn, hX⟩ := hrel
    obtain ⟨q0, q1, q2, q3, q4, q5, q6, q7, q8⟩ := hX.1.bb.cs
    have o1 := cell_at hX.2 1
    simp at o1
    by_cases hna : (n : Int) < a
    case neg =>
      have e : n = nTo a := by unfold nTo at hn ⊢; split at hn <;> split <;> omega
      subst e
      go_wp2
      go_ret
      exact ⟨rfl, hX.1⟩
    by_cases hn1 : n < 100
    case neg =>
      have e : n = nTo a := by unfold nTo at hn ⊢; split at hn <;> split <;> omega
      have hni : ¬ (n : Int) < 100 := by omega
      subst e
      go_wp2
      go_ret
      exact ⟨rfl, hX.1⟩
    have hni : (n : Int) < 100 := by omega
    have hlt : n < nTo a := by unfold nTo; split <;> omega
    have hJ := hI.nexts n
    have hJ0 := hJ.w0
    have hJm := hJ.wm
    have hw1 := next_any hX.1.bt hX.1.dk hJ.ok hJ.fz hJ0 (by omega)
    have hw2 := fun Y (h1 : BB Y gb q p lb (nxI d b n).2) (h2 : RfD Y lb 0 w.heap.size r c (nxI d b n).1) => rNext_any h1 h2 hJ.ok hJ.fz hJ0 (by omega)
    obtain ⟨X, hXe⟩ : ∃ X, (dNx (nxI d b n).1 (nxI d b n).2).x = X := ⟨_, rfl⟩
    obtain ⟨E, hE⟩ : ∃ E, (dNx (nxI d b n).1 (nxI d b n).2).e = E := ⟨_, rfl⟩
    rw [hXe, hE] at hw1 hw2
    obtain ⟨d1, hd1⟩ : ∃ d1, (nxI d b (n + 1)).1 = d1 := ⟨_, rfl⟩
    obtain ⟨b1, hb1e⟩ : ∃ b1, (nxI d b (n + 1)).2 = b1 := ⟨_, rfl⟩
    rw [show (dNx (nxI d b n).1 (nxI d b n).2).d = d1 from hd1, show (dNx (nxI d b n).1 (nxI d b n).2).b = b1 from hb1e] at hw1 hw2
    obtain ⟨d0, hd0⟩ : ∃ d0, (nxI d b n).1 = d0 := ⟨_, rfl⟩
    obtain ⟨b0, hb0⟩ : ∃ b0, (nxI d b n).2 = b0 := ⟨_, rfl⟩
    rw [hd0, hb0] at hX
    rw [hd0, hb0] at hw2
    have HD1 : Hid ((nxI d b (n + 1)).1 = d1) := hd1
    have HB1 : Hid ((nxI d b (n + 1)).2 = b1) := hb1e
    clear hd1 hb1e hd0 hb0 hXe hE hJ
    go_wp2_with (go_at_call 13; (with_reducible refine hw1.mono ?_); rintro e v1 ⟨rfl, h1, h2, h3⟩; have hX1 := hX.tq h2 h1 h3)
    rename_i hK
    refine wp_region_any hmx ?_
    refine wpAny_tabG (G := Unit) (fun g i__ => ([(.pointer (some ⟨gb, 0, none⟩)), (.pointer (some ⟨gb, 0, none⟩)), (.pointer (some ⟨gb, 2, none⟩)), (.pointer (some ⟨gb, 0, none⟩)), (.pointer (some ⟨gb, 0, none⟩)), (.pointer (some ⟨gb, 8, none⟩)), (.pointer (some ⟨lb, 0, none⟩)), (.tuple #[.int .i64 X, .int .i64 E]), (.tuple #[.int .i64 X, .int .i64 E]), (.int .i64 X), (.int .i64 E), (.int .i64 X), (.int .i64 E)] : List Value).getD i__ undef) (fun g_ f Y => JX w V.heap.size 1 a gb q p lb r c b1 d1 (if f 7 = true then b1 else b0) (if f 7 = true then d1 else d0) Y) (by kernel_rfl) (()) (show JX w V.heap.size 1 a gb q p lb r c b1 d1 b0 d0 _ from hX1.drew) ?step2 ?fin2
    case step2 =>
      intro i o ho
      have hi : i < 13 := getElem?_lt ho
      match i, hi, ho with
      | 0, _, ho =>
        cases ho
        refine stepG_of (fun g d hdep => ?_)
        exact step_move rfl trivial _ rfl (by kernel_rfl)
      | 1, _, ho =>
        cases ho
        refine stepG_of (fun g d hdep => ?_)
        exact step_nilCheck rfl trivial _ _ _ rfl rfl rfl
      | 2, _, ho =>
        cases ho
        refine stepG_of (fun g d hdep => ?_)
        exact step_fieldAddr rfl trivial _ _ _ _ rfl rfl (fun v hw => (field_bo v _).2.2.1)
      | 3, _, ho =>
        cases ho
        refine stepG_of (fun g d hdep => ?_)
        exact step_move rfl trivial _ rfl (by kernel_rfl)
      | 4, _, ho =>
        cases ho
        refine stepG_of (fun g d hdep => ?_)
        exact step_nilCheck rfl trivial _ _ _ rfl rfl rfl
      | 5, _, ho =>
        cases ho
        refine stepG_of (fun g d hdep => ?_)
        exact step_fieldAddr rfl trivial _ _ _ _ rfl rfl (fun v hw => (field_bo v _).2.2.2)
      | 6, _, ho =>
        cases ho
        refine stepG_of (fun g d hdep => ?_)
        exact step_load rfl trivial _ _ _ rfl rfl (fun v hw => load_b8 hw.1.bb)
      | 7, _, ho =>
        cases ho
        exact stepG_ofC (fun _ f hun hdep hcl => step_call rfl trivial 50 _ _ [(.pointer (some ⟨gb, 2, none⟩)), (.pointer (some ⟨lb, 0, none⟩))] rfl (by kernel_rfl) (enters_of Try.func50 (by kernel_rfl) rfl) (fun v hw => by have hw2' := hw; simp only [hun, Bool.false_eq_true, if_false] at hw2'; exact (hw2 v hw2'.1.bb hw2'.1.rf).mono (by rintro e v' ⟨rfl, h1, h2, h3⟩; exact ⟨rfl, hw2'.t3 h2 h1 h3⟩)))
      | 8, _, ho =>
        cases ho
        refine stepG_of (fun g d hdep => ?_)
        exact step_move rfl trivial _ rfl (by kernel_rfl)
      | 9, _, ho =>
        cases ho
        refine stepG_of (fun g d hdep => ?_)
        exact step_extract rfl trivial _ _ _ rfl rfl (fun v hw => ext2_0 _ _ _)
      | 10, _, ho =>
        cases ho
        refine stepG_of (fun g d hdep => ?_)
        exact step_extract rfl trivial _ _ _ rfl rfl (fun v hw => ext2_1 _ _ _)
      | 11, _, ho =>
        cases ho
        refine stepG_of (fun g d hdep => ?_)
        exact step_assign rfl trivial _ rfl (by kernel_rfl) (fun _ h => h)
      | 12, _, ho =>
        cases ho
        refine stepG_of (fun g d hdep => ?_)
        exact step_assign rfl trivial _ rfl (by kernel_rfl) (fun _ h => h)
    intro g d W hall hW
    first | refine hK _ _ ?_ | refine (‹∀ (a : Act) (w : World), Code.wp Try.prog _ _ a w → _›) _ _ ?_ | skip
    simp only [finL, List.getD_cons_zero, List.getD_cons_succ, Nat.zero_add, Nat.reduceAdd, List.setIfInBounds_toArray, List.set_cons_zero, List.set_cons_succ]
    simp only [hall 7 (by decide), if_true] at hW
    clear hK
    go_wp2
    go_roundw
    case rel => exact ⟨n + 1, by simp, hlt, by rw [HD1.out, HB1.out]; exact hW⟩
    case measure => simp [vnat]; omega
end
end Go.Proofs.Ytjleggnkacmbbaa
