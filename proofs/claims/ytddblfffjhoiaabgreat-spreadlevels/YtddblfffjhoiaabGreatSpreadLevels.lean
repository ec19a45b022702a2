/- SpreadLevels (promise P1602): of any number of books Level answers what the document's answers, twice, in new memory. For every input; nothing is asked of it. -/
import Derived.Test.YtddblfffjhoiaabGreatRows
import Derived.WalkKit
import Derived.ProofKit
import Derived.OpenShut
import Derived.Test.YtddblfffjhoiaabGreatJnJ9
import Derived.Test.YtddblfffjhoiaabGreatJnJ10
namespace Go.Proofs.YtddblfffjhoiaabGreat
open Go.ChangeShapes Go.WideShapes Go.ChangeAt Go.RowKit
set_option linter.unusedVariables false

theorem laidOut : laidOutB Tryz.prog = true := by kernel_rfl
theorem own : ownKnob Tryz.prog.godebug = none := by kernel_rfl
open Go.Shelf Go.Lib
section
variable {G : Type} {P : Program} {md : Region.Mode} {ops : Array Oper} {Q : Exit → Act → World → Prop} {X0 : Array Value} {val : G → Nat → Value} {J : G → (Nat → Bool) → World → Prop} {i : Nat} {o : Oper}
theorem stepG_bld (hi : ops[i]? = some o) (hg : o.guard = none) (t : TypeId) (x : Operand) (v : Value) (ho : o.op = .buildSlice t 1 #[(0, x)]) (hx : ∀ g, rdo md ops X0 (val g) i o x = some v)
    (h : ∀ g d w, J g d w → d i = false → (∀ j oj, ops[j]? = some oj → d j = true → ∀ k, bindsOn md oj k = true → d k = true) → ∃ g' w', (Instr.buildSlice t 1 #[(0, v)]).run P w = .ok (val g' i) w' ∧ (∀ j, d j = true → val g' j = val g j) ∧ J g' (fun j => if j = i then true else d j) w') : StepG P md ops Q X0 val J i o := by
  intro g d a w hJ hun hdep hcl hS
  have hS' : Seen md ops X0 (val g) i o a := hS
  obtain ⟨g', w', h1, h2, h3⟩ := h g d w hJ hun hcl
  unfold wpOp
  rw [hi]
  simp only [Region.wanted, hg, if_true]
  refine .inl ?_
  unfold Oper.wp execOp
  simp only [ho, List.map_toArray, List.map_cons, List.map_nil, hS'.eval (hx g), Sem.run_bind, h1, Result.andThen_ok, Sem.run_pure, Oper.upon_value]
  exact ⟨g', h2, rfl, h3⟩
theorem stepG_app (hi : ops[i]? = some o) (hg : o.guard = none) (t : TypeId) (x y : Operand) (vx vy : G → Value) (ho : o.op = .call { callee := .builtin .append, args := #[x, y], argTypes := #[t, t] }) (hx : ∀ g, rdo md ops X0 (val g) i o x = some (vx g)) (hy : ∀ g, rdo md ops X0 (val g) i o y = some (vy g))
    (h : ∀ g d w, J g d w → d i = false → (∀ j, bindsOn md o j = true → d j = true) → (∀ j oj, ops[j]? = some oj → d j = true → ∀ k, bindsOn md oj k = true → d k = true) → ∃ g' w', (Builtin.append_ #[t, t] o.type #[vx g, vy g]).run P w = .ok (val g' i) w' ∧ (∀ j, d j = true → val g' j = val g j) ∧ J g' (fun j => if j = i then true else d j) w') : StepG P md ops Q X0 val J i o := by
  intro g d a w hJ hun hdep hcl hS
  have hS' : Seen md ops X0 (val g) i o a := hS
  obtain ⟨g', w', h1, h2, h3⟩ := h g d w hJ hun hdep hcl
  unfold wpOp
  rw [hi]
  simp only [Region.wanted, hg, if_true]
  refine .inl ?_
  unfold Oper.wp execOp
  simp only [ho, resolve, invoke, builtin, List.map_toArray, List.map_cons, List.map_nil, hS'.eval (hx g), hS'.eval (hy g), Sem.run_bind, h1, Result.andThen_ok, Sem.run_pure, Oper.upon_value]
  exact ⟨g', h2, rfl, h3⟩
end
set_option maxHeartbeats 64000000 in
set_option maxRecDepth 100000 in
theorem walk (w : World) (a0 : Int) (w0 : (Lit.int .i64 a0).wf = true) (a1 : Int) (w1 : (Lit.int .i64 a1).wf = true) (ad2 : Option Addr) (cap2 : Nat) (l2 : List (List (Int × Int × Int))) (w2 : RdNN w ad2 l2) :
    Calls Tryz.prog 3 #[.int .i64 a0, .int .i64 a1, .slice ad2 l2.length cap2] w fun e w' => e = .returned (.bool true) ∧ Below w.heap.size w w' := by
  have hmx : Tryz.prog.follows .mixedOrders = true := by kernel_rfl
  have hal := alive_any
  have hbw : Below w.heap.size w w := Below.refl _ _
  have HW2 : Hid (RdNN w ad2 l2) := w2
  clear w2
  by_cases hok : l2.length ≤ 20
  case neg =>
    have hoki : (20 : Int) < (l2.length : Int) := by omega
    go_enter Tryz.func3, Tryz.ntmps3
    go_wp2_with (go_at_call 4; (with_reducible refine (hal _).mono ?_); rintro e u ⟨rfl, hb⟩)
    go_ret
    exact ⟨rfl, hb⟩
  have hoki : ¬ (20 : Int) < (l2.length : Int) := by omega
  obtain ⟨K, hK⟩ : ∃ M, l2.length = M := ⟨_, rfl⟩
  have HK : Hid (l2.length = K) := hK
  rw [hK] at hok hoki ⊢
  clear hK
  go_enter Tryz.func3, Tryz.ntmps3
  go_wp2
  go_loopw [7, 8, 9] (fun va vb i wz => ∃ (k : Nat) (vs : List Value) (ds : List (Option Addr × Nat × Nat)) (ls : List (List N3)), i = .int .i64 k ∧ k ≤ K ∧ ls.length = k ∧ JV w k vs ds ls va vb wz) (fun _ _ i _ => K - vnatR i)
  case atStart => exact ⟨0, [], [], [], rfl, Nat.zero_le _, rfl, ⟨⟨rfl, rfl, fun k v l h => (by simp at h), fun k d l h => (by simp at h)⟩, World.ownsRow_nil _ _ _ _, World.ownsRow_nil _ _ _ _, hbw⟩⟩
  case round =>
    obtain ⟨k, vs, ds, ls, rfl, hkK, hlsk, hJV⟩ := hrel
    by_cases hkl : k < K
    · have hkli : (k : Int) < (K : Int) := by omega
      have hk30 : k ≤ 30 := by omega
      have hjn2 : k < l2.length := by rw [HK.out]; exact hkl
      obtain ⟨m, hm⟩ : ∃ m, l2[k]? = some m := ⟨_, List.getElem?_eq_getElem hjn2⟩
      obtain ⟨gb, off, rfl, hgb, hat⟩ := HW2.out (fun e => by rw [e] at hjn2; simp at hjn2)
      obtain ⟨adm, capm, hcell, hrm, hcapm⟩ := hat k m hm
      obtain ⟨mlen, hml⟩ : ∃ k, m.length = k := ⟨_, rfl⟩
      rw [hml] at hcell
      have hce : wr.cell? ⟨gb, off + k, none⟩ = some (.slice adm mlen capm) := (hJV.be.cell (p := ⟨gb, _, none⟩) hgb).trans hcell
      clear hm hat hjn2
      by_cases h300 : mlen ≤ 300
      case neg =>
        have h300i : (300 : Int) < (mlen : Int) := by omega
        go_wp2
        go_ret
        exact ⟨rfl, hJV.be⟩
      have h300i : ¬ (300 : Int) < (mlen : Int) := by omega
      have hmk : ∀ a : Int, Calls Tryz.prog 5 #[.int .i64 a, .int .i64 0, .slice adm mlen capm] wr fun e w' => ∃ v ad' n' cap', e = .returned (.tuple #[v, .agg #[.slice ad' n' cap']]) ∧ M2 wr w' v ad' n' cap' (mk2 a 0 m) ∧ Below wr.heap.size wr w' := fun a => by
        have := make2_any (w := wr) a 0 adm capm m (hrm.carry hJV.be) (by omega)
        rw [hml] at this
        exact this
      by_cases hk2 : k = 2
      · have hki2 : ((k : Int) == 2) = true := by simp; omega
        clear hk2
        have st1 := hmk a1
        generalize mk2 a1 0 m = X at st1
        go_wp2_with (first
          | (have m := kk1; refine wpList_store_row rfl 29 (.tmp 12) (.tmp 48) rfl u1.heap.size #[.slice ar1 n1 cr1] rfl rfl 29 _ kk1.out infoR1 rfl (by simp [Value.oneCell']) ?_; obtain ⟨y1, hy1⟩ : ∃ x, x1.setRow u1.heap.size #[.slice ar1 n1 cr1] = x := ⟨_, rfl⟩; have rb1 : RB y1 u1.heap.size (.slice ar1 n1 cr1) := (by rw [← hy1]; exact setRow_heap _ _ _ _ _ _ kk1.out); have yb1 : Below u1.heap.size u1 y1 := (by rw [← hy1]; exact below_sr kb1.out (Nat.le_refl _)); have mm1 := hM1.carry yb1; have hy01 : Below wr.heap.size wr y1 := bel2 hu1 yb1; rw [hy1]; clear m kk1 kb1)
          | (have m := st1; go_at_call 5; (with_reducible refine st1.mono ?_); rintro e u1 ⟨v1, ar1, n1, cr1, rfl, hM1, hu1⟩; obtain ⟨x1, hx1⟩ : ∃ x, u1.alloc (.cells #[.slice none 0 0] 29) = x := ⟨_, rfl⟩; have kk1 : Hid (x1.heap[u1.heap.size]? = some (.cells #[.slice none 0 0] 29 (0, 0))) := (by rw [← hx1]; exact new_at rfl); have kb1 : Hid (Below u1.heap.size u1 x1) := (by rw [← hx1]; exact al1 _ _); clear m st1))
        rename_i Q0 K0 hK'
        have hbv := mm1.val
        obtain ⟨pv, hpv'⟩ := hbv.ptr
        have hpv : ∃ a, v1 = .pointer a := ⟨pv, hpv'⟩
        have h1c : v1.oneCell' = true := by rw [hpv']; rfl
        have hal1 := (hJV.al.carry hy01).add hbv (d := (ar1, n1, cr1)) ⟨mm1.rd, mm1.len, mm1.le, fun e => (by rcases mm1.bv with ⟨_, _, h3, h4⟩ | ⟨_, _, _, _, _, _, _, h5⟩; exact ⟨h3, h4⟩; exact absurd e (Nat.ne_of_gt h5)), mm1.ty⟩
        have hJ0 := jl2_start hal1 rb1 hJV.ra hJV.rc hy01 hJV.be hu1.size
        refine wp_region_any hmx ?_
        refine wpAny_tabG (G := (Nat × Nat × Value × Value)) (fun g i__ => ([u7, v1, (.slice (some ⟨g.1, 0, none⟩) 1 1), (g.2.2.1), u8, (.agg #[.slice ar1 n1 cr1]), (.slice (some ⟨g.2.1, 0, none⟩) 1 1), (g.2.2.2), (g.2.2.1), (g.2.2.2)] : List Value).getD i__ undef) (fun g d V => JL2 w k vs ds (ls ++ [X]) v1 (ar1, n1, cr1) u7 u8 u1.heap.size g (d 2) (d 3) (d 6) (d 7) V) (by kernel_rfl) ((0, 0, .slice none 0 0, .slice none 0 0)) (show JL2 w k vs ds (ls ++ [X]) v1 (ar1, n1, cr1) u7 u8 u1.heap.size _ false false false false _ from hJ0.carry (Below.refl _ _).drew) ?step1 ?fin1
        case step1 =>
          intro i o ho
          have hi : i < 10 := getElem?_lt ho
          match i, hi, ho with
          | 0, _, ho =>
            cases ho
            refine stepG_of (fun g d hdep => ?_)
            exact step_move rfl trivial _ rfl (by kernel_rfl)
          | 1, _, ho =>
            cases ho
            refine stepG_of (fun g d hdep => ?_)
            exact step_move rfl trivial _ rfl (by kernel_rfl)
          | 2, _, ho =>
            cases ho
            exact stepG_bld rfl rfl 24 _ v1 rfl (fun g => rfl) (fun g d V hJ hun hcl => by have h3 : d 3 = false := (by cases h : d 3 with | false => rfl | true => exact absurd (hcl 3 _ rfl h 2 (by kernel_rfl)) (by rw [hun]; simp)); obtain ⟨pa, rfl⟩ := hpv; exact ⟨(V.heap.size, g.2), _, bs_bp V pa, (fun j hj => match j, hj with | 2, hj => (by rw [hj] at hun; cases hun)  | 0, _ => rfl | 1, _ => rfl | 3, _ => rfl | 4, _ => rfl | 5, _ => rfl | 6, _ => rfl | 7, _ => rfl | 8, _ => rfl | 9, _ => rfl | _ + 10, _ => rfl), hJ.build1⟩)
          | 3, _, ho =>
            cases ho
            exact stepG_app rfl rfl 24 _ _ (fun _ => u7) (fun g => .slice (some ⟨g.1, 0, none⟩) 1 1) rfl (fun g => rfl) (fun g => rfl) (fun g d V hJ hun hdep hcl => by have h2 : d 2 = true := hdep 2 (by kernel_rfl); have hJ' := hJ; rw [h2, hun] at hJ'; obtain ⟨x, V', hr, hj⟩ := hJ'.app1 h1c hk30 _; refine ⟨(g.1, g.2.1, x, g.2.2.2), V', hr, (fun j hj => match j, hj with | 3, hj => (by rw [hj] at hun; cases hun) | 8, hj => absurd ((hcl 8 _ rfl hj 3 (by kernel_rfl))) (by rw [hun]; simp) | 0, _ => rfl | 1, _ => rfl | 2, _ => rfl | 4, _ => rfl | 5, _ => rfl | 6, _ => rfl | 7, _ => rfl | 9, _ => rfl | _ + 10, _ => rfl), ?_⟩; show JL2 w k vs ds (ls ++ [X]) v1 (ar1, n1, cr1) u7 u8 u1.heap.size _ (d 2) true (d 6) (d 7) V'; rw [h2]; exact hj)
          | 4, _, ho =>
            cases ho
            refine stepG_of (fun g d hdep => ?_)
            exact step_move rfl trivial _ rfl (by kernel_rfl)
          | 5, _, ho =>
            cases ho
            refine stepG_of (fun g d hdep => ?_)
            exact step_load rfl trivial _ _ _ rfl rfl (fun V hw => load_rbw hw.rb)
          | 6, _, ho =>
            cases ho
            exact stepG_bld rfl rfl 25 _ (.agg #[.slice ar1 n1 cr1]) rfl (fun g => rfl) (fun g d V hJ hun hcl => by exact ⟨(g.1, V.heap.size, g.2.2), _, bs_br V (ar1, n1, cr1), (fun j hj => match j, hj with | 6, hj => (by rw [hj] at hun; cases hun)  | 0, _ => rfl | 1, _ => rfl | 2, _ => rfl | 3, _ => rfl | 4, _ => rfl | 5, _ => rfl | 7, _ => rfl | 8, _ => rfl | 9, _ => rfl | _ + 10, _ => rfl), hJ.build2⟩)
          | 7, _, ho =>
            cases ho
            exact stepG_app rfl rfl 25 _ _ (fun _ => u8) (fun g => .slice (some ⟨g.2.1, 0, none⟩) 1 1) rfl (fun g => rfl) (fun g => rfl) (fun g d V hJ hun hdep hcl => by have h6 : d 6 = true := hdep 6 (by kernel_rfl); have hJ' := hJ; rw [h6, hun] at hJ'; obtain ⟨x, V', hr, hj⟩ := hJ'.app2 hk30 _; refine ⟨(g.1, g.2.1, g.2.2.1, x), V', hr, (fun j hj => match j, hj with | 7, hj => (by rw [hj] at hun; cases hun) | 9, hj => absurd ((hcl 9 _ rfl hj 7 (by kernel_rfl))) (by rw [hun]; simp) | 0, _ => rfl | 1, _ => rfl | 2, _ => rfl | 3, _ => rfl | 4, _ => rfl | 5, _ => rfl | 6, _ => rfl | 8, _ => rfl | _ + 10, _ => rfl), ?_⟩; show JL2 w k vs ds (ls ++ [X]) v1 (ar1, n1, cr1) u7 u8 u1.heap.size _ (d 2) (d 3) (d 6) true V'; rw [h6]; exact hj)
          | 8, _, ho =>
            cases ho
            refine stepG_of (fun g d hdep => ?_)
            exact step_assign rfl trivial _ rfl (by kernel_rfl) (fun _ h => h)
          | 9, _, ho =>
            cases ho
            refine stepG_of (fun g d hdep => ?_)
            exact step_assign rfl trivial _ rfl (by kernel_rfl) (fun _ h => h)
        intro g d W hall hW
        first | refine hK _ _ ?_ | refine (‹∀ (a : Act) (w : World), Code.wp Tryz.prog _ _ a w → _›) _ _ ?_ | skip
        simp only [finL, List.getD_cons_zero, List.getD_cons_succ, Nat.zero_add, Nat.reduceAdd, List.setIfInBounds_toArray, List.set_cons_zero, List.set_cons_succ]
        have hW' : JL2 w k vs ds (ls ++ [X]) v1 (ar1, n1, cr1) u7 u8 u1.heap.size g (d 2) (d 3) (d 6) (d 7) W := hW
        rw [hall 2 (by decide), hall 3 (by decide), hall 6 (by decide), hall 7 (by decide)] at hW'
        go_wp2
        go_roundw
        case rel => exact ⟨k + 1, vs ++ [v1], ds ++ [(ar1, n1, cr1)], ls ++ [X], by simp, by omega, by simp [hlsk], ⟨hW'.al, hW'.ra, hW'.rc, hW'.be⟩⟩
        case measure => simp [vnatR]; omega
      · have hki2 : ((k : Int) == 2) = false := by simp; omega
        clear hk2
        have st1 := hmk a0
        generalize mk2 a0 0 m = X at st1
        go_wp2_with (first
          | (have m := kk1; refine wpList_store_row rfl 29 (.tmp 12) (.tmp 48) rfl u1.heap.size #[.slice ar1 n1 cr1] rfl rfl 29 _ kk1.out infoR1 rfl (by simp [Value.oneCell']) ?_; obtain ⟨y1, hy1⟩ : ∃ x, x1.setRow u1.heap.size #[.slice ar1 n1 cr1] = x := ⟨_, rfl⟩; have rb1 : RB y1 u1.heap.size (.slice ar1 n1 cr1) := (by rw [← hy1]; exact setRow_heap _ _ _ _ _ _ kk1.out); have yb1 : Below u1.heap.size u1 y1 := (by rw [← hy1]; exact below_sr kb1.out (Nat.le_refl _)); have mm1 := hM1.carry yb1; have hy01 : Below wr.heap.size wr y1 := bel2 hu1 yb1; rw [hy1]; clear m kk1 kb1)
          | (have m := st1; go_at_call 5; (with_reducible refine st1.mono ?_); rintro e u1 ⟨v1, ar1, n1, cr1, rfl, hM1, hu1⟩; obtain ⟨x1, hx1⟩ : ∃ x, u1.alloc (.cells #[.slice none 0 0] 29) = x := ⟨_, rfl⟩; have kk1 : Hid (x1.heap[u1.heap.size]? = some (.cells #[.slice none 0 0] 29 (0, 0))) := (by rw [← hx1]; exact new_at rfl); have kb1 : Hid (Below u1.heap.size u1 x1) := (by rw [← hx1]; exact al1 _ _); clear m st1))
        rename_i Q0 K0 hK'
        have hbv := mm1.val
        obtain ⟨pv, hpv'⟩ := hbv.ptr
        have hpv : ∃ a, v1 = .pointer a := ⟨pv, hpv'⟩
        have h1c : v1.oneCell' = true := by rw [hpv']; rfl
        have hal1 := (hJV.al.carry hy01).add hbv (d := (ar1, n1, cr1)) ⟨mm1.rd, mm1.len, mm1.le, fun e => (by rcases mm1.bv with ⟨_, _, h3, h4⟩ | ⟨_, _, _, _, _, _, _, h5⟩; exact ⟨h3, h4⟩; exact absurd e (Nat.ne_of_gt h5)), mm1.ty⟩
        have hJ0 := jl2_start hal1 rb1 hJV.ra hJV.rc hy01 hJV.be hu1.size
        refine wp_region_any hmx ?_
        refine wpAny_tabG (G := (Nat × Nat × Value × Value)) (fun g i__ => ([u7, v1, (.slice (some ⟨g.1, 0, none⟩) 1 1), (g.2.2.1), u8, (.agg #[.slice ar1 n1 cr1]), (.slice (some ⟨g.2.1, 0, none⟩) 1 1), (g.2.2.2), (g.2.2.1), (g.2.2.2)] : List Value).getD i__ undef) (fun g d V => JL2 w k vs ds (ls ++ [X]) v1 (ar1, n1, cr1) u7 u8 u1.heap.size g (d 2) (d 3) (d 6) (d 7) V) (by kernel_rfl) ((0, 0, .slice none 0 0, .slice none 0 0)) (show JL2 w k vs ds (ls ++ [X]) v1 (ar1, n1, cr1) u7 u8 u1.heap.size _ false false false false _ from hJ0.carry (Below.refl _ _).drew) ?step2 ?fin2
        case step2 =>
          intro i o ho
          have hi : i < 10 := getElem?_lt ho
          match i, hi, ho with
          | 0, _, ho =>
            cases ho
            refine stepG_of (fun g d hdep => ?_)
            exact step_move rfl trivial _ rfl (by kernel_rfl)
          | 1, _, ho =>
            cases ho
            refine stepG_of (fun g d hdep => ?_)
            exact step_move rfl trivial _ rfl (by kernel_rfl)
          | 2, _, ho =>
            cases ho
            exact stepG_bld rfl rfl 24 _ v1 rfl (fun g => rfl) (fun g d V hJ hun hcl => by have h3 : d 3 = false := (by cases h : d 3 with | false => rfl | true => exact absurd (hcl 3 _ rfl h 2 (by kernel_rfl)) (by rw [hun]; simp)); obtain ⟨pa, rfl⟩ := hpv; exact ⟨(V.heap.size, g.2), _, bs_bp V pa, (fun j hj => match j, hj with | 2, hj => (by rw [hj] at hun; cases hun)  | 0, _ => rfl | 1, _ => rfl | 3, _ => rfl | 4, _ => rfl | 5, _ => rfl | 6, _ => rfl | 7, _ => rfl | 8, _ => rfl | 9, _ => rfl | _ + 10, _ => rfl), hJ.build1⟩)
          | 3, _, ho =>
            cases ho
            exact stepG_app rfl rfl 24 _ _ (fun _ => u7) (fun g => .slice (some ⟨g.1, 0, none⟩) 1 1) rfl (fun g => rfl) (fun g => rfl) (fun g d V hJ hun hdep hcl => by have h2 : d 2 = true := hdep 2 (by kernel_rfl); have hJ' := hJ; rw [h2, hun] at hJ'; obtain ⟨x, V', hr, hj⟩ := hJ'.app1 h1c hk30 _; refine ⟨(g.1, g.2.1, x, g.2.2.2), V', hr, (fun j hj => match j, hj with | 3, hj => (by rw [hj] at hun; cases hun) | 8, hj => absurd ((hcl 8 _ rfl hj 3 (by kernel_rfl))) (by rw [hun]; simp) | 0, _ => rfl | 1, _ => rfl | 2, _ => rfl | 4, _ => rfl | 5, _ => rfl | 6, _ => rfl | 7, _ => rfl | 9, _ => rfl | _ + 10, _ => rfl), ?_⟩; show JL2 w k vs ds (ls ++ [X]) v1 (ar1, n1, cr1) u7 u8 u1.heap.size _ (d 2) true (d 6) (d 7) V'; rw [h2]; exact hj)
          | 4, _, ho =>
            cases ho
            refine stepG_of (fun g d hdep => ?_)
            exact step_move rfl trivial _ rfl (by kernel_rfl)
          | 5, _, ho =>
            cases ho
            refine stepG_of (fun g d hdep => ?_)
            exact step_load rfl trivial _ _ _ rfl rfl (fun V hw => load_rbw hw.rb)
          | 6, _, ho =>
            cases ho
            exact stepG_bld rfl rfl 25 _ (.agg #[.slice ar1 n1 cr1]) rfl (fun g => rfl) (fun g d V hJ hun hcl => by exact ⟨(g.1, V.heap.size, g.2.2), _, bs_br V (ar1, n1, cr1), (fun j hj => match j, hj with | 6, hj => (by rw [hj] at hun; cases hun)  | 0, _ => rfl | 1, _ => rfl | 2, _ => rfl | 3, _ => rfl | 4, _ => rfl | 5, _ => rfl | 7, _ => rfl | 8, _ => rfl | 9, _ => rfl | _ + 10, _ => rfl), hJ.build2⟩)
          | 7, _, ho =>
            cases ho
            exact stepG_app rfl rfl 25 _ _ (fun _ => u8) (fun g => .slice (some ⟨g.2.1, 0, none⟩) 1 1) rfl (fun g => rfl) (fun g => rfl) (fun g d V hJ hun hdep hcl => by have h6 : d 6 = true := hdep 6 (by kernel_rfl); have hJ' := hJ; rw [h6, hun] at hJ'; obtain ⟨x, V', hr, hj⟩ := hJ'.app2 hk30 _; refine ⟨(g.1, g.2.1, g.2.2.1, x), V', hr, (fun j hj => match j, hj with | 7, hj => (by rw [hj] at hun; cases hun) | 9, hj => absurd ((hcl 9 _ rfl hj 7 (by kernel_rfl))) (by rw [hun]; simp) | 0, _ => rfl | 1, _ => rfl | 2, _ => rfl | 3, _ => rfl | 4, _ => rfl | 5, _ => rfl | 6, _ => rfl | 8, _ => rfl | _ + 10, _ => rfl), ?_⟩; show JL2 w k vs ds (ls ++ [X]) v1 (ar1, n1, cr1) u7 u8 u1.heap.size _ (d 2) (d 3) (d 6) true V'; rw [h6]; exact hj)
          | 8, _, ho =>
            cases ho
            refine stepG_of (fun g d hdep => ?_)
            exact step_assign rfl trivial _ rfl (by kernel_rfl) (fun _ h => h)
          | 9, _, ho =>
            cases ho
            refine stepG_of (fun g d hdep => ?_)
            exact step_assign rfl trivial _ rfl (by kernel_rfl) (fun _ h => h)
        intro g d W hall hW
        first | refine hK _ _ ?_ | refine (‹∀ (a : Act) (w : World), Code.wp Tryz.prog _ _ a w → _›) _ _ ?_ | skip
        simp only [finL, List.getD_cons_zero, List.getD_cons_succ, Nat.zero_add, Nat.reduceAdd, List.setIfInBounds_toArray, List.set_cons_zero, List.set_cons_succ]
        have hW' : JL2 w k vs ds (ls ++ [X]) v1 (ar1, n1, cr1) u7 u8 u1.heap.size g (d 2) (d 3) (d 6) (d 7) W := hW
        rw [hall 2 (by decide), hall 3 (by decide), hall 6 (by decide), hall 7 (by decide)] at hW'
        go_wp2
        go_roundw
        case rel => exact ⟨k + 1, vs ++ [v1], ds ++ [(ar1, n1, cr1)], ls ++ [X], by simp, by omega, by simp [hlsk], ⟨hW'.al, hW'.ra, hW'.rc, hW'.be⟩⟩
        case measure => simp [vnatR]; omega
    · have hkk : k = K := by omega
      subst hkk
      have hkli : ¬ ((k : Int) < (k : Int)) := by omega
      obtain ⟨⟨a7, c7, rfl, hB7⟩, ⟨a8, c8, rfl, hD8⟩⟩ := hJV.bvs hlsk
      have hD100 : (lvl ls).length ≤ 100 := lvl_le hB7
      have HAB : Hid (∀ (V : World), Below wr.heap.size wr V → Calls Tryz.prog 6 #[.slice a7 k c7] V fun e w' => ∃ a c, e = .returned (.tuple #[.slice a (lvl ls).length c, .int .i64 (lvE ls)]) ∧ w'.ownsRow V.heap.size 61 3 (.slice a (lvl ls).length c) (lvl ls).length (fl (lvl ls)) ∧ (a = none → c = 0) ∧ Below V.heap.size V w') := fun V hV => by
        have := level_any a7 c7 vs ls (hB7.carry hV) (by omega)
        rw [hlsk] at this
        refine this.mono ?_
        rintro e w' ⟨v, rfl, hm, hb⟩
        obtain ⟨a, c, rfl, hr, hc⟩ := made_form hm
        exact ⟨a, c, rfl, hr, hc, hb⟩
      have HRA : Hid (∀ (V : World), Below wr.heap.size wr V → Calls Tryz.prog 7 #[.slice a8 k c8] V fun e w' => ∃ a c, e = .returned (.tuple #[.slice a (lvl ls).length c, .int .i64 (lvE ls)]) ∧ w'.ownsRow V.heap.size 61 3 (.slice a (lvl ls).length c) (lvl ls).length (fl (lvl ls)) ∧ Below V.heap.size V w') := fun V hV => by
        have := rLevel_any a8 c8 ds ls (hD8.carry hV) (by omega)
        rw [hlsk] at this
        refine this.mono ?_
        rintro e w' ⟨v, rfl, hm, hb⟩
        obtain ⟨a, c, rfl, hr, _⟩ := made_form hm
        exact ⟨a, c, rfl, hr, hb⟩
      have hbe := hJV.be
      generalize lvE ls = E at HAB HRA
      generalize lvl ls = D at HAB HRA hD100
      clear hB7 hD8 hJV
      have st3 := HAB.out wr (Below.refl _ _)
      go_wp2_with (first
        | (have m := hap; go_at_call 10; (with_reducible refine hap.mono ?_); rintro e z3 ⟨rfl, hz3⟩; clear m)
        | (have m := hsm; go_at_call 9; (with_reducible refine hsm.mono ?_); rintro e z2 ⟨rfl, hz2⟩; have hb12z := bel2 hz1 hz2; have hNV : NK noS wr.heap.size W9.heap.size z2 := (by obtain ⟨h0, kk, x, y, LL, h1, h2, h3⟩ := hNK; exact ⟨fun _ q => q.elim, kk, x, y, LL, h1.carry hb12z, h2, h3.carry (fun g cur _ hg => (hb12z.block g (lt_at hg)).trans hg)⟩); have hap := hNV.apart (Nat.le_trans hB212.size hb12z.size); clear m hsm)
        | (have m := k0; go_at_call 4; (with_reducible refine k0.mono ?_); rintro e z1 ⟨rfl, hz1⟩; have hsm := same_any aX aw cX cw D z1 (hRX.carry hz1) (hRw.carry hz1) (by omega); clear m k0)
        | (have m := hk2; go_at_call 8; (with_reducible refine hk2.mono ?_); rintro e W12 ⟨⟨v12, rfl⟩, ⟨z12, hN2, hL2⟩, hKp2, hat2⟩; have hB210 : Below wr.heap.size wr W10 := bel2 hb29 hb910; have hB212 : Below wr.heap.size wr W12 := hKp2.below (hKp1.below hB210 hz9 (Nat.le_refl _)) hz9 (Nat.le_refl _); have hRX := own_rdn (row_at (row_at hX10 (fun g cur _ hg => hat1 g cur hg)) (fun g cur _ hg => hat2 g cur hg)); have hRw := own_rdn (row_at (row_at hw10 (fun g cur _ hg => hat1 g cur hg)) (fun g cur _ hg => hat2 g cur hg)); have hNK := nk_of hN2 hL2; have k0 := hal W12; clear m)
        | (have m := hk1; go_at_call 8; (with_reducible refine hk1.mono ?_); rintro e W11 ⟨⟨v11, rfl⟩, ⟨z11, hN1, hL1⟩, hKp1, hat1⟩; have hY11 : W11.ownsRow wr.heap.size 61 3 (.slice aY D.length cY) D.length (fl D) := row_at hY10 (fun g cur _ hg => hat1 g cur hg); have hk2 := keep_one hN1 hL1 (Nat.le_trans (Nat.le_trans hz9 hb910.size) hKp1.size) (by simp) aY cY D (own_rdn hY11) hY11 hD100 hYc (fun i g z' h1 h2 h3 => (by cases i with | zero => (simp at h1; subst h1; exact hXY g h3 h2) | succ i => simp at h1)); clear m hk1)
        | (have m := st5; go_at_call 6; (with_reducible refine st5.mono ?_); rintro e W9 ⟨aY, cY, rfl, hY, hYc, hb9⟩; have hb29 := bel2 hb24 hb9; have hX9 := row_below hX (bel2 hb4 hb9); have hY9 : W9.ownsRow wr.heap.size 61 3 (.slice aY D.length cY) D.length (fl D) := row_from hY hb24.size; have hw9 := row_below hw4 hb9; have hXY : ∀ q, (Value.slice aX D.length cX).ownBlock = some q → (Value.slice aY D.length cY).ownBlock ≠ some q := fun q h1 h2 => (by have k1 := (row_lt2 hX q h1).2; have k2 := (row_lt2 hY q h2).1; have := hb4.size; omega); obtain ⟨W10, hW10⟩ : ∃ W10, W9.alloc (.cells (bkc (.slice none 0 0) (.slice none 0 0)) 49) = W10 := ⟨_, rfl⟩; have hW10' : W9.alloc (.cells #[.slice none 0 0, .slice none 0 0, .slice none 0 0, .slice none 0 0, .slice none 0 0, .slice none 0 0, .slice none 0 0, .slice none 0 0, .slice none 0 0, .slice none 0 0, .slice none 0 0, .slice none 0 0, .slice none 0 0, .slice none 0 0, .slice none 0 0, .slice none 0 0, .slice none 0 0, .slice none 0 0, .slice none 0 0, .slice none 0 0, .slice none 0 0, .slice none 0 0, .slice none 0 0, .slice none 0 0] 49) = W10 := hW10; have hb910 : Below W9.heap.size W9 W10 := (by rw [← hW10]; exact al1 _ _); have hKB0 : KB W10 W9.heap.size (.slice none 0 0) (.slice none 0 0) := (by rw [← hW10]; exact new_at rfl); have hz9 : wr.heap.size ≤ W9.heap.size := hb29.size; have hN0 : NKx wr.heap.size W9.heap.size W10 ([] : List (List N3)).length [] [] := ⟨_, _, by simp, hKB0, World.ownsRow_nil _ _ _ _, World.ownsRow_nil _ _ _ _, fun q e => (by cases e), hz9⟩; have hL0 : Lx noS wr.heap.size W10 [] [] [] := ⟨fun i l h => (by simp at h), rfl, rfl, fun i j g z z' h => (by simp at h)⟩; have hX10 := row_below hX9 hb910; have hY10 := row_below hY9 hb910; have hw10 := row_below hw9 hb910; have hk1 := keep_one hN0 hL0 (Nat.le_trans hz9 hb910.size) (by simp) aX cX D (own_rdn hX10) hX10 hD100 hXc (fun i g z' h => (by simp at h)); clear m st5)
        | (have m := st4; go_at_call 7; (with_reducible refine st4.mono ?_); rintro e W4 ⟨aw, cw, rfl, hw4, hb4⟩; have hb24 := bel2 hb3 hb4; have st5 := HAB.out W4 hb24; clear m st4)
        | (have m := st3; go_at_call 6; (with_reducible refine st3.mono ?_); rintro e W3 ⟨aX, cX, rfl, hX, hXc, hb3⟩; have st4 := HRA.out W3 hb3; clear m st3))
      go_ret
      exact ⟨by simp, bel2 hbe ((bel2 hB212 hb12z).trans hz3)⟩

set_option maxRecDepth 100000 in
theorem lifted (os : Os) (started : os.Started) (H : Type) (enc : TypeId × Value → H) :
    ReturnsInHanded {} Tryz.checked os 3 .any (Rows.spreadLevelsSpec.pre6 enc Tryz.prog Tryz.f3 Rows.spreadLevelsRow.domain false) (Rows.spreadLevelsSpec.post enc Tryz.prog Tryz.f3 false true false false) := by
  refine returnsInHanded_of_change (C := Tryz.checked) own started (by kernel_rfl) Tryz.func3
    (ChangeSpec.witness6 (enc := enc) (C := Tryz.checked) false ⟨#[], #[.int .i64 0, .int .i64 0, .slice none 0 0], []⟩ 8 (by kernel_rfl) (by kernel_rfl) (by kernel_rfl) (by kernel_rfl)) ?_
  intro W base args ds gs before hval0 hW hcnd _
  have hval : ∀ (j : Nat) t v, Tryz.f3.params[j]? = some t → args[j]? = some v → Value.okWide Tryz.prog W .any base t v := hval0
  have hW' := hW
  obtain ⟨p, q, hA0, hV, rfl, hfz, hnd⟩ := hW
  have hA : DataW.TrodAll enc Tryz.prog W 0 (fun _ => true) true Tryz.f3.params.toList args.toList ds p := hA0
  rw [Tryz.params3] at hA hval
  obtain ⟨v0, vs0, d0, ds0, p0, q0, hargs, rfl, rfl, h0, r0⟩ := trodAll_cons hA
  obtain ⟨v1, vs1, d1, ds1, p1, q1, rfl, rfl, rfl, h1, r1⟩ := trodAll_cons r0
  obtain ⟨v2, vs2, d2, ds2, p2, q2, rfl, rfl, rfl, h2, r2⟩ := trodAll_cons r1
  obtain ⟨rfl, rfl, rfl⟩ := trodAll_nil r2
  obtain rfl : args = #[v0, v1, v2] := by cases args; simp_all
  obtain ⟨rfl, rfl⟩ := trodVars_none hV
  obtain ⟨a0, rfl, rfl, rfl, w0⟩ := open_int Tryz.underlying3 (hval 0 3 v0 rfl rfl) h0
  obtain ⟨a1, rfl, rfl, rfl, w1⟩ := open_int Tryz.underlying3 (hval 1 3 v1 rfl rfl) h1
  have k2 := h2
  have lt2 : ∀ x ∈ p2, x.block < W.heap.size := by obtain ⟨m, hm⟩ := k2; exact DataW.trod_lt m _ _ _ hm
  obtain ⟨ad2, cap2, l2, rfl, w2⟩ := open_ntss (hval 2 22 v2 rfl rfl) h2
  clear hA0 hval0
  refine (walk W a0 w0 a1 w1 ad2 cap2 l2 w2).mono fun e W' ⟨he, hg⟩ => ?_
  subst he
  exact ⟨_, rfl, _, _, _, [], _, [], hW', (trodAll_cons_mk (shut_bool Tryz.underlying4 _) trodAll_mk0), (trodAll_cons_mk (shut_int Tryz.underlying3 w0) (trodAll_cons_mk (shut_int Tryz.underlying3 w1) (trodAll_cons_mk (Below.trod laidOut (by kernel_rfl) (of_decide_eq_true (by kernel_rfl)) k2 hg lt2) trodAll_mk0))), rfl, hg.frame _, fun h => by cases h⟩

theorem over : Rows.spreadLevelsRow.holds Tryz.pinned (OpenSpec.ofChange Rows.spreadLevelsSpec) :=
  OpenClaim.holds_of_wide 3 Tryz.f3 rfl rfl rfl rfl rfl rfl rfl ⟨rfl, rfl, rfl, rfl, rfl⟩ rfl rfl rfl rfl rfl (by kernel_rfl) Tryz.func3 (by kernel_rfl)
    (of_decide_eq_true (by kernel_rfl)) (by unfold Func.isWrapper; first | (rw [if_pos (by decide +kernel)]; kernel_rfl) | (rw [if_neg (by decide +kernel)]; exact ⟨rfl, rfl⟩))
    (fun os started H enc _ => lifted os started H enc)

theorem proved : Rows.SpreadLevelsSaid :=
  over
#print axioms proved
end Go.Proofs.YtddblfffjhoiaabGreat
