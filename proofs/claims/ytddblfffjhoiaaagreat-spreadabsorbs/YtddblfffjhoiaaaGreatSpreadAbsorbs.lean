/- SpreadAbsorbs (promise P1601): of every book every Ride and Absorb answers what the document's answers, again and again; what is handed in stays; the lists are new memory. For every input; nothing is asked of it. -/
import Derived.Test.YtddblfffjhoiaaaGreatRows
import Derived.WalkKit
import Derived.ProofKit
import Derived.OpenShut
import Derived.Test.YtddblfffjhoiaaaGreatJnJ11
namespace Go.Proofs.YtddblfffjhoiaaaGreat
open Go.ChangeShapes Go.WideShapes Go.ChangeAt Go.RowKit
set_option linter.unusedVariables false

theorem laidOut : laidOutB Tryz.prog = true := by kernel_rfl
theorem own : ownKnob Tryz.prog.godebug = none := by kernel_rfl
open Go.Shelf
set_option maxHeartbeats 64000000 in
set_option maxRecDepth 100000 in
theorem walk (w : World) (a0 : Int) (w0 : (Lit.int .i64 a0).wf = true) (a1 : Int) (w1 : (Lit.int .i64 a1).wf = true) (a2 : Int) (w2 : (Lit.int .i64 a2).wf = true) (ad3 : Option Addr) (cap3 : Nat) (l3 : List (Int × Int × Int)) (w3 : RdN w ad3 l3) (hc3 : ad3 = none → cap3 = 0) (hq3 : l3.length ≤ cap3) (ad4 : Option Addr) (cap4 : Nat) (l4 : List (List (Int × Int × Int))) (w4 : RdNN w ad4 l4) :
    Calls Tryz.prog 3 #[.int .i64 a0, .int .i64 a1, .int .i64 a2, .slice ad3 l3.length cap3, .slice ad4 l4.length cap4] w fun e w' => e = .returned (.bool true) ∧ Below w.heap.size w w' := by
  have hmx : Tryz.prog.follows .mixedOrders = true := by kernel_rfl
  have hal := alive_any
  have hbw : Below w.heap.size w w := Below.refl _ _
  have HW3 : Hid (RdN w ad3 l3) := w3
  have HW4 : Hid (RdNN w ad4 l4) := w4
  clear w3 w4
  by_cases hok : l3.length ≤ 300 ∧ l4.length ≤ 30
  case neg =>
    go_enter Tryz.func3, Tryz.ntmps3
    go_wp2_with (go_at_call 5; (with_reducible refine (hal _).mono ?_); rintro e u ⟨rfl, hb⟩)
    all_goals first | (go_ret; exact ⟨rfl, hb⟩) | (exfalso; first | omega | (simp at *; omega))
  obtain ⟨h5, h6⟩ := hok
  have h5i : ¬ (300 : Int) < (l3.length : Int) := by omega
  have h6i : ¬ (30 : Int) < (l4.length : Int) := by omega
  have st1 := make2_any (w := w) a0 a1 ad3 cap3 l3 HW3.out (by omega)
  generalize mk2 a0 a1 l3 = LA at st1
  obtain ⟨M4, hM4⟩ : ∃ M, l4.length = M := ⟨_, rfl⟩
  have HM4 : Hid (l4.length = M4) := hM4
  rw [hM4] at h6 h6i ⊢
  clear hM4
  go_enter Tryz.func3, Tryz.ntmps3
  go_wp2_with (first
    | (have m := kk1; refine wpList_store_row rfl 27 (.tmp 12) (.tmp 37) rfl u1.heap.size #[.slice ar1 n1 cr1] rfl rfl 27 _ kk1.out infoR1 rfl (by simp [Value.oneCell']) ?_; obtain ⟨y1, hy1⟩ : ∃ x, x1.setRow u1.heap.size #[.slice ar1 n1 cr1] = x := ⟨_, rfl⟩; have rb1 : RB y1 u1.heap.size (.slice ar1 n1 cr1) := (by rw [← hy1]; exact setRow_heap _ _ _ _ _ _ kk1.out); have yb1 : Below u1.heap.size u1 y1 := (by rw [← hy1]; exact below_sr kb1.out (Nat.le_refl _)); have mm1 := hM1.carry yb1; have Y1 := bel2 hu1 yb1; rw [hy1]; clear m kk1 kb1; obtain ⟨W0, hW0⟩ : ∃ x, y1.alloc (.cells (bkc (.slice none 0 0) (.slice none 0 0)) 43) = x := ⟨_, rfl⟩; have hW0' : y1.alloc (.cells #[.slice none 0 0, .slice none 0 0, .slice none 0 0, .slice none 0 0, .slice none 0 0, .slice none 0 0, .slice none 0 0, .slice none 0 0, .slice none 0 0, .slice none 0 0, .slice none 0 0, .slice none 0 0, .slice none 0 0, .slice none 0 0, .slice none 0 0, .slice none 0 0, .slice none 0 0, .slice none 0 0, .slice none 0 0, .slice none 0 0, .slice none 0 0, .slice none 0 0, .slice none 0 0, .slice none 0 0] 43) = W0 := hW0)
    | (have m := st1; go_at_call 6; (with_reducible refine st1.mono ?_); rintro e u1 ⟨v1, ar1, n1, cr1, rfl, hM1, hu1⟩; obtain ⟨x1, hx1⟩ : ∃ x, u1.alloc (.cells #[.slice none 0 0] 27) = x := ⟨_, rfl⟩; have kk1 : Hid (x1.heap[u1.heap.size]? = some (.cells #[.slice none 0 0] 27 (0, 0))) := (by rw [← hx1]; exact new_at rfl); have kb1 : Hid (Below u1.heap.size u1 x1) := (by rw [← hx1]; exact al1 _ _); clear m st1))
  obtain ⟨q, hA0, hlen0⟩ := ja_start mm1 rb1 hu1.size Y1 hW0
  have hn1 := mm1.le
  have hbs0 : u1.heap.size < W0.heap.size := Nat.lt_of_lt_of_le (lt_at rb1) (by rw [← hW0]; simp)
  obtain ⟨b12, hb12⟩ : ∃ b, u1.heap.size = b := ⟨_, rfl⟩
  obtain ⟨bb, hbb⟩ : ∃ b, y1.heap.size = b := ⟨_, rfl⟩
  rw [hb12, hbb] at hA0 ⊢
  clear hM1 mm1 rb1 hu1 yb1 Y1 hbs0 hW0' hW0
  go_loopw [14] (fun i wz => ∃ (j : Nat) (L : List N3) (ar : Option Addr) (cr : Nat), i = .int .i64 j ∧ j ≤ M4 ∧ L.length = n1 ∧ n1 ≤ cr ∧ (n1 = 0 → ar = none ∧ cr = 0) ∧ Bok L ∧ JA w bb bb b12 v1 q n1 ar cr L L wz) (fun i _ => M4 - vnatR i)
  case atStart => exact ⟨0, LA, ar1, cr1, rfl, Nat.zero_le _, hlen0.1, hlen0.2.1, hlen0.2.2.1, hlen0.2.2.2, hA0⟩
  case round =>
    obtain ⟨j, L, ar, cr, rfl, hjl, hLn, hcr, hzr, hbo, hA⟩ := hrel
    clear hA0 hlen0
    by_cases hjn : j < M4
    · have hji : (j : Int) < (M4 : Int) := by omega
      have hjn2 : j < l4.length := by rw [HM4.out]; exact hjn
      obtain ⟨m, hm⟩ : ∃ m, l4[j]? = some m := ⟨_, List.getElem?_eq_getElem hjn2⟩
      obtain ⟨gb, off, rfl, hgb, hat⟩ := HW4.out (fun e => by rw [e] at hjn2; simp at hjn2)
      obtain ⟨adm, capm, hcell, hrm, hcapm⟩ := hat j m hm
      obtain ⟨mlen, hml⟩ : ∃ k, m.length = k := ⟨_, rfl⟩
      rw [hml] at hcell
      have hce : wr.cell? ⟨gb, off + j, none⟩ = some (.slice adm mlen capm) := (hA.be.cell (p := ⟨gb, _, none⟩) hgb).trans hcell
      clear hm hat hjn2
      by_cases h300 : mlen ≤ 300
      case neg =>
        have h300i : (300 : Int) < (mlen : Int) := by omega
        go_wp2
        go_ret
        exact ⟨rfl, hA.be⟩
      have h300i : ¬ (300 : Int) < (mlen : Int) := by omega
      obtain ⟨E, hE⟩ : ∃ E, (if m.all (vlx L.length) = true then (0 : Int) else 50) = E := ⟨_, rfl⟩
      obtain ⟨R, hRR⟩ : ∃ R, abr L a2 m = R := ⟨_, rfl⟩
      obtain ⟨L', hL'⟩ : ∃ X, abs L a2 m = X := ⟨_, rfl⟩
      have hR : R < S128 := by rw [← hRR]; exact abr_lt L a2 m
      have hL'n : L'.length = n1 := by rw [← hL', abs_len hbo]; exact hLn
      have hL'b : Bok L' := by rw [← hL']; exact abs_bok hbo _ _
      have hle := lent2_any adm capm m wr (hrm.carry hA.be) hcapm (by omega)
      rw [hml] at hle
      have habs : ∀ (V : World) (gl cl : Nat), JA w bb bb b12 v1 q n1 ar cr L L V → NtsAt V gl 0 (m ++ mks) → gl < V.heap.size → Calls Tryz.prog 8 #[v1, .int .i64 a2, .slice (some ⟨gl, 0, none⟩) mlen cl] V fun e w' => e = .returned (.tuple #[.agg #[.int .u32 (wd R 0 : Nat), .int .u32 (wd R 1 : Nat), .int .u32 (wd R 2 : Nat), .int .u32 (wd R 3 : Nat)], .int .i64 E]) ∧ BQ w' v1 q L' ∧ V.grownBy w' q := fun V gl cl hj hnt hgl => by
        have := absorbQ_any hj.bq a2 (some ⟨gl, 0, none⟩) cl m (fun _ => ⟨gl, 0, rfl, hgl, nts_pre hnt⟩) (by omega)
        rw [hE, hRR, hL', hml] at this
        exact this
      go_wp2_with (first
        | (have m := hab; go_at_call 8; (with_reducible refine hab.mono ?_); rintro e u2 ⟨rfl, hq2, hg2⟩; obtain ⟨W2, hW2⟩ : ∃ x, u2.alloc (.cells #[.int .u32 (wd R 0 : Nat), .int .u32 (wd R 1 : Nat), .int .u32 (wd R 2 : Nat), .int .u32 (wd R 3 : Nat)] 47) = x := ⟨_, rfl⟩; have Bx2 : Below u2.heap.size u2 W2 := (by rw [← hW2]; exact al1 _ _); have hS2 : Holds4 W2 u2.heap.size (wd R) := (by rw [← hW2]; exact new_at rfl); have hA2 := (hA1.turn hq2 hg2).carry Bx2; obtain ⟨curl, hc1⟩ := hlt; have hcurl := (hg2.block _ (lt_at hc1) (fun e => (by have := (hA.lq _ e.symm).2; omega))).trans hc1; clear m hab)
        | (have m := hle; go_at_call 7; (with_reducible refine hle.mono ?_); rintro e u1' ⟨gl, capl, rfl, hcl', hgl, hnt, hb1', hgn, hlt⟩; have hA1 := hA.carry hb1'; have hab := habs u1' gl capl hA1 hnt hgl; clear m hle))
      have hwb : gb < w.heap.size := hgb
      have hcm : ∀ V, Below W2.heap.size W2 V → V.cell? ⟨gb, off + j, none⟩ = some (.slice adm mlen capm) := fun V hV => (((hA2.carry hV).be.cell (p := ⟨gb, _, none⟩) hgb)).trans hcell
      have hra : ∀ V, Below W2.heap.size W2 V → Calls Tryz.prog 9 #[.agg #[.slice ar n1 cr], .int .i64 a2, .slice adm mlen capm] V fun e w' => ∃ ad' cap', e = .returned (.tuple #[.agg #[.slice ad' n1 cap'], sv R, .int .i64 E]) ∧ RdN w' ad' L' ∧ n1 ≤ cap' ∧ (n1 = 0 → ad' = none ∧ cap' = 0) ∧ (ad' = ar ∨ ∀ a, ad' = some a → V.heap.size ≤ a.block ∧ ∃ cur, w'.heap[a.block]? = some (.cells cur 66 (0, 0))) ∧ Below V.heap.size V w' := fun V hV => by
        have := rAbsorb_any ar n1 cr L ((hA2.carry hV).rd) hLn hn1 hcr hzr a2 adm capm m (hrm.carry (hA2.carry hV).be) (by omega) E hE
        rw [hRR, hL', hml] at this
        exact this
      rename_i Q0 K0 hK
      refine wp_region_any hmx ?_
      refine wpAny_tabG (G := ((Option Addr × Nat) × (Nat × Nat))) (fun g i__ => ([(.agg #[.slice ar n1 cr]), (.int .i64 a2), (.slice (some ⟨gb, off, none⟩) M4 cap4), (.int .i64 (j : Int)), (.pointer (some ⟨gb, off + j, none⟩)), (.slice adm mlen capm), (.tuple #[.agg #[.slice g.1.1 n1 g.1.2], sv R, .int .i64 E]), (.tuple #[.agg #[.slice g.1.1 n1 g.1.2], sv R, .int .i64 E]), (.agg #[.slice g.1.1 n1 g.1.2]), (sv R), (.int .i64 E), (.pointer (some ⟨g.2.1, 0, none⟩)), (.pointer (some ⟨g.2.2, 0, none⟩)), undef, undef, (.int .i64 E)] : List Value).getD i__ undef) (fun g d V => JRr W2 n1 ar L' R g (d 6) (d 11) (d 12) (d 13) (d 14) V) (by kernel_rfl) (((none, 0), (0, 0))) (show JRr W2 n1 ar L' R ((none, 0), (0, 0)) false false false false false _ from ⟨(Below.refl _ _).drew, fun e => (by cases e), fun e => (by cases e), fun e => (by cases e)⟩) ?step1 ?fin1
      case step1 =>
        intro i o ho
        have hi : i < 16 := getElem?_lt ho
        match i, hi, ho with
        | 0, _, ho =>
          cases ho
          refine stepG_ofC (fun g d hun hdep hcl => ?_)
          exact step_load rfl trivial _ _ _ rfl rfl (fun V hw => load_rbw (hA2.rb.carry hw.be))
        | 1, _, ho =>
          cases ho
          refine stepG_ofC (fun g d hun hdep hcl => ?_)
          exact step_move rfl trivial _ rfl (by kernel_rfl)
        | 2, _, ho =>
          cases ho
          refine stepG_ofC (fun g d hun hdep hcl => ?_)
          exact step_move rfl trivial _ rfl (by kernel_rfl)
        | 3, _, ho =>
          cases ho
          refine stepG_ofC (fun g d hun hdep hcl => ?_)
          exact step_move rfl trivial _ rfl (by kernel_rfl)
        | 4, _, ho =>
          cases ho
          refine stepG_ofC (fun g d hun hdep hcl => ?_)
          exact step_indexAddr rfl trivial _ _ _ _ _ rfl rfl rfl (fun V hw => idx_n2 gb off M4 cap4 j hjn V)
        | 5, _, ho =>
          cases ho
          refine stepG_ofC (fun g d hun hdep hcl => ?_)
          exact step_load rfl trivial _ _ _ rfl rfl (fun V hw => load_n2x (hcm V hw.be))
        | 6, _, ho =>
          cases ho
          exact stepG_call rfl (fun _ => trivial) 9 _ _ (fun _ => [.agg #[.slice ar n1 cr], .int .i64 a2, .slice adm mlen capm]) rfl (fun g => by kernel_rfl) (enters_of Tryz.func9 (by kernel_rfl) rfl) (fun g d V hJ hun hdep hcl => by have h13 : d 13 = false := (by cases h : d 13 with | false => rfl | true => exact absurd (hcl 7 _ rfl (hcl 8 _ rfl (hcl 13 _ rfl h 8 (by kernel_rfl)) 7 (by kernel_rfl)) 6 (by kernel_rfl)) (by rw [hun]; simp)); have hJ' := hJ; rw [hun, h13] at hJ'; exact (hra V hJ'.be).mono (by rintro e V' ⟨a, c, rfl, h1, h2, h3, h4, hb⟩; refine ⟨((a, c), g.2), rfl, (fun j hj => match j, hj with | 6, hj => (by rw [hj] at hun; cases hun) | 7, hj => absurd ((hcl 7 _ rfl hj 6 (by kernel_rfl))) (by rw [hun]; simp) | 8, hj => absurd ((hcl 7 _ rfl (hcl 8 _ rfl hj 7 (by kernel_rfl)) 6 (by kernel_rfl))) (by rw [hun]; simp) | 0, _ => rfl | 1, _ => rfl | 2, _ => rfl | 3, _ => rfl | 4, _ => rfl | 5, _ => rfl | 9, _ => rfl | 10, _ => rfl | 11, _ => rfl | 12, _ => rfl | 13, _ => rfl | 14, _ => rfl | 15, _ => rfl | _ + 16, _ => rfl), ?_⟩; show JRr W2 n1 ar L' R _ true (d 11) (d 12) (d 13) (d 14) V'; rw [h13]; exact hJ'.call hb a c h1 h2 h3 h4))
        | 7, _, ho =>
          cases ho
          refine stepG_ofC (fun g d hun hdep hcl => ?_)
          exact step_move rfl trivial _ rfl (by kernel_rfl)
        | 8, _, ho =>
          cases ho
          refine stepG_ofC (fun g d hun hdep hcl => ?_)
          exact step_extract rfl trivial _ _ _ rfl rfl (fun V hw => ext3_0 _ _ _ V)
        | 9, _, ho =>
          cases ho
          refine stepG_ofC (fun g d hun hdep hcl => ?_)
          exact step_extract rfl trivial _ _ _ rfl rfl (fun V hw => ext3_1 _ _ _ V)
        | 10, _, ho =>
          cases ho
          refine stepG_ofC (fun g d hun hdep hcl => ?_)
          exact step_extract rfl trivial _ _ _ rfl rfl (fun V hw => ext3_2 _ _ _ V)
        | 11, _, ho =>
          cases ho
          exact stepG_newR2 rfl rfl rfl (fun g d V hJ hun hcl => by have h13 : d 13 = false := (by cases h : d 13 with | false => rfl | true => exact absurd (hcl 13 _ rfl h 11 (by kernel_rfl)) (by rw [hun]; simp)); have hJ' := hJ; rw [hun, h13] at hJ'; refine ⟨(g.1, (V.heap.size, g.2.2)), (fun j hj => match j, hj with | 11, hj => (by rw [hj] at hun; cases hun)  | 0, _ => rfl | 1, _ => rfl | 2, _ => rfl | 3, _ => rfl | 4, _ => rfl | 5, _ => rfl | 6, _ => rfl | 7, _ => rfl | 8, _ => rfl | 9, _ => rfl | 10, _ => rfl | 12, _ => rfl | 13, _ => rfl | 14, _ => rfl | 15, _ => rfl | _ + 16, _ => rfl), rfl, ?_⟩; show JRr W2 n1 ar L' R _ (d 6) true (d 12) (d 13) (d 14) _; rw [h13]; exact hJ'.new8)
        | 12, _, ho =>
          cases ho
          exact stepG_newS2 rfl rfl rfl (fun g d V hJ hun hcl => by have h14 : d 14 = false := (by cases h : d 14 with | false => rfl | true => exact absurd (hcl 14 _ rfl h 12 (by kernel_rfl)) (by rw [hun]; simp)); have hJ' := hJ; rw [hun, h14] at hJ'; refine ⟨(g.1, (g.2.1, V.heap.size)), (fun j hj => match j, hj with | 12, hj => (by rw [hj] at hun; cases hun)  | 0, _ => rfl | 1, _ => rfl | 2, _ => rfl | 3, _ => rfl | 4, _ => rfl | 5, _ => rfl | 6, _ => rfl | 7, _ => rfl | 8, _ => rfl | 9, _ => rfl | 10, _ => rfl | 11, _ => rfl | 13, _ => rfl | 14, _ => rfl | 15, _ => rfl | _ + 16, _ => rfl), rfl, ?_⟩; show JRr W2 n1 ar L' R _ (d 6) (d 11) true (d 13) (d 14) _; rw [h14]; exact hJ'.new9)
        | 13, _, ho =>
          cases ho
          refine stepG_ofC (fun g d hun hdep hcl => ?_)
          exact step_store rfl trivial rfl _ _ _ _ _ rfl rfl rfl (fun V hw => by have h6 : d 6 = true := (hcl 7 _ rfl (hcl 8 _ rfl (hdep 8 (by kernel_rfl)) 7 (by kernel_rfl)) 6 (by kernel_rfl)); have h11 : d 11 = true := hdep 11 (by kernel_rfl); have hw' := hw; rw [hun, h6, h11] at hw'; refine ⟨_, store_rb (hw'.x8 rfl).2, ?_⟩; show JRr W2 n1 ar L' R _ (d 6) (d 11) (d 12) true (d 14) _; rw [h6, h11]; exact hw'.st8)
        | 14, _, ho =>
          cases ho
          refine stepG_ofC (fun g d hun hdep hcl => ?_)
          exact step_store rfl trivial rfl _ _ _ _ _ rfl rfl rfl (fun V hw => by have h6 : d 6 = true := (hcl 7 _ rfl (hcl 9 _ rfl (hdep 9 (by kernel_rfl)) 7 (by kernel_rfl)) 6 (by kernel_rfl)); have h12 : d 12 = true := hdep 12 (by kernel_rfl); have hw' := hw; rw [hun, h6, h12] at hw'; refine ⟨_, store_set (hw'.x9 rfl).2, ?_⟩; show JRr W2 n1 ar L' R _ (d 6) (d 11) (d 12) (d 13) true _; rw [h6, h12]; exact hw'.st9)
        | 15, _, ho =>
          cases ho
          refine stepG_ofC (fun g d hun hdep hcl => ?_)
          exact step_assign rfl trivial _ rfl (by kernel_rfl) (fun _ h => h)
      intro g d W hall hW
      first | refine hK _ _ ?_ | refine (‹∀ (a : Act) (w : World), Code.wp Tryz.prog _ _ a w → _›) _ _ ?_ | skip
      simp only [finL, List.getD_cons_zero, List.getD_cons_succ, Nat.zero_add, Nat.reduceAdd, List.setIfInBounds_toArray, List.set_cons_zero, List.set_cons_succ]
      rw [hall 6 (by decide), hall 11 (by decide), hall 12 (by decide), hall 13 (by decide), hall 14 (by decide)] at hW
      obtain ⟨⟨ar', cr'⟩, ⟨bx8, bx9⟩⟩ := g
      have hA3 := hA2.carry hW.be
      obtain ⟨hrd8, hcr', hzr', hor'⟩ := hW.rs rfl
      have hs8 : RB W bx8 (.slice ar' n1 cr') := (hW.x8 rfl).2
      have hs9 : Holds4 W bx9 (wd R) := (hW.x9 rfl).2
      have hbx8 : W2.heap.size ≤ bx8 := (hW.x8 rfl).1
      have hbx9 : W2.heap.size ≤ bx9 := (hW.x9 rfl).1
      have hBW := hW.be
      dsimp only at hrd8 hcr' hzr' hor' ⊢
      have c8 := hs8.cell
      have hsz2 : b12 < W2.heap.size := lt_at hA2.rb
      have hsep8 : ∀ a, ar' = some a → q ≠ some a.block := fun a e e2 => by
        rcases hor' with h | h
        · exact hA3.sep a (by rw [← h]; exact e) e2
        · have h1 := (h a e).1
          have h2 := (hA2.lq _ e2).2
          omega
      have hty8 : ∀ a, ar' = some a → a.block < bb ∨ ∃ cur, W.heap[a.block]? = some (.cells cur 66 (0, 0)) := fun a e => by
        rcases hor' with h | h
        · exact hA3.ty a (by rw [← h]; exact e)
        · exact .inr (h a e).2
      have ride : ∀ V, W.setRow b12 #[.slice ar' n1 cr'] = V → Calls Tryz.prog 10 #[v1] V fun e w' => ∃ a c, e = .returned (.slice a (L'.filter pNew).length c) ∧ w'.ownsRow V.heap.size 66 3 (.slice a (L'.filter pNew).length c) (L'.filter pNew).length (fl (L'.filter pNew)) ∧ (a = none → c = 0) ∧ Below V.heap.size V w' := fun V hV => by
        have hp := hA3.put (cr' := cr') hrd8 hsep8 hty8
        rw [hV] at hp
        refine (rideQ_any hp.bq).mono ?_
        rintro e w' ⟨x, rfl, hmd, hb⟩
        obtain ⟨a, c, rfl, h1, h2⟩ := made_form hmd
        exact ⟨a, c, rfl, h1, h2, hb⟩
      obtain ⟨K, hKK⟩ : ∃ k, (L'.filter pNew).length = k := ⟨_, rfl⟩
      have hK100 : (L'.filter pNew).length ≤ 100 := Nat.le_trans (List.length_filter_le _ _) (by omega)
      have keep : ∀ V V', W.setRow b12 #[.slice ar' n1 cr'] = V → Below V.heap.size V V' → ∀ a c, V'.ownsRow V.heap.size 66 3 (.slice a (L'.filter pNew).length c) (L'.filter pNew).length (fl (L'.filter pNew)) → (a = none → c = 0) → Calls Tryz.prog 11 #[.pointer (some ⟨bb, 0, none⟩), .slice a (L'.filter pNew).length c] V' fun e w' => (∃ v, e = .returned v) ∧ NK (fun b => q = some b) bb bb w' ∧ Kp bb bb V' w' := fun V V' hV hb a c h1 h2 => by
        have hp := hA3.put (cr' := cr') hrd8 hsep8 hty8
        rw [hV] at hp
        exact kb_any hp.nk hp.low.2.1 hb a c (L'.filter pNew) (own_rdn h1) h1 hK100 h2
      rw [hKK] at ride keep hK100
      clear hW hall
      go_wp2_with (first
        | (have m := hkb; go_at_call 11; (with_reducible refine hkb.mono ?_); rintro e W5 ⟨⟨v5, rfl⟩, hNK5, hKp5⟩; clear m)
        | (have m := hri; go_at_call 10; (with_reducible refine hri.mono ?_); rintro e W4 ⟨aX, cX, rfl, hX, hXc, hb4⟩; have hkb := keep W3 W4 hW3 hb4 aX cX hX hXc; clear m hri)
        | (have m := hs8; refine wpList_store_row rfl 27 (.tmp 12) (.tmp 75) rfl b12 #[.slice ar' n1 cr'] rfl rfl 27 _ hA3.rb infoR1 rfl (by simp [Value.oneCell']) ?_; obtain ⟨W3, hW3⟩ : ∃ x, W.setRow b12 #[.slice ar' n1 cr'] = x := ⟨_, rfl⟩; rw [hW3]; have hri := ride W3 hW3; clear m))
      have hA4 : JA w bb bb b12 v1 q n1 ar' cr' L' L' W4 := by
        have hp := hA3.put (cr' := cr') hrd8 hsep8 hty8
        rw [hW3] at hp
        exact hp.carry hb4
      have hA5 := hA4.kept hKp5 hNK5
      have hw34 : ∀ {k : Nat} {cur : Array Value} {t : TypeId}, W.heap[k]? = some (.cells cur t (0, 0)) → t ≠ 27 → t ≠ 43 → t ≠ 22 → W5.heap[k]? = some (.cells cur t (0, 0)) := fun {k cur t} h1 h2 h3 h4 => by
        have e3 : W3.heap[k]? = some (.cells cur t (0, 0)) := by
          rw [← hW3]
          refine (setRow_other (fun e => ?_)).trans h1
          subst e
          have h5 : W.heap[k]? = some (.cells #[.slice ar n1 cr] 27 (0, 0)) := hA3.rb
          rw [h5] at h1
          cases h1
          exact h2 rfl
        exact kp_ty hKp5 hA4.nk ((hb4.block _ (lt_at e3)).trans e3) h3 h4
      have hS16 : Holds4 W5 u2.heap.size (wd R) := hw34 (hS2.carry hBW) (by decide) (by decide) (by decide)
      have hS19 : Holds4 W5 bx9 (wd R) := hw34 hs9 (by decide) (by decide) (by decide)
      have hl5 : W5.heap[gl]? = some (.cells curl 66 (0, 0)) := hw34 ((hBW.block _ (by have := lt_at hcurl; have := Bx2.size; omega)).trans ((Bx2.block _ (lt_at hcurl)).trans hcurl)) (by decide) (by decide) (by decide)
      have hnt5 : NtsAt W5 gl 0 (m ++ mks) := nts_blk hnt hc1 hl5
      have hX5 : W5.ownsRow W3.heap.size 66 3 (.slice aX K cX) K (fl (L'.filter pNew)) := row_at hX (fun g cur _ hg => kp_ty hKp5 hA4.nk hg (by decide) (by decide))
      have hRX : RdN W5 aX (L'.filter pNew) := by
        rw [← hKK] at hX5
        exact own_rdn hX5
      have hcm5 : ∀ V, Below W5.heap.size W5 V → V.cell? ⟨gb, off + j, none⟩ = some (.slice adm mlen capm) := fun V hV => (((hA5.carry hV).be.cell (p := ⟨gb, _, none⟩) hgb)).trans hcell
      have hst : ∀ V, Below W5.heap.size W5 V → Calls Tryz.prog 12 #[.slice (some ⟨gl, 0, none⟩) mlen capl, .slice adm mlen capm] V fun e w' => e = .returned (.bool true) ∧ Below V.heap.size V w' := fun V hV => by
        have hgV : gl < V.heap.size := Nat.lt_of_lt_of_le (lt_at hl5) hV.size
        have := stays_any gl adm capl capm m V hgV (hnt5.carry (lt_at hl5) hV) (by omega) (hrm.carry (hA5.carry hV).be) (by omega)
        rw [hml] at this
        exact this
      have hls : ∀ V, Below W5.heap.size W5 V → Calls Tryz.prog 14 #[v1] V fun e w' => ∃ a c, e = .returned (.slice a n1 c) ∧ RdN w' a L' ∧ Below V.heap.size V w' := fun V hV => by
        have := listV_any (hA5.carry hV).bq.val
        rw [hL'n] at this
        exact this
      have hsm1 : ∀ V a c, Below W5.heap.size W5 V → RdN V a L' → Calls Tryz.prog 13 #[.slice a n1 c, .slice ar' n1 cr'] V fun e w' => e = .returned (.bool true) ∧ Below V.heap.size V w' := fun V a c hV hr => by
        have := same_any a ar' c cr' L' V hr ((hA5.carry hV).rd) (by omega)
        rw [hL'n] at this
        exact this
      have hrn : ∀ V, Below W5.heap.size W5 V → Calls Tryz.prog 15 #[.agg #[.slice ar' n1 cr']] V fun e w' => ∃ a c, e = .returned (.slice a K c) ∧ RdN w' a (L'.filter pNew) ∧ Below V.heap.size V w' := fun V hV => by
        have := rNewsN ar' n1 cr' L' ((hA5.carry hV).rd) hL'n hn1 hzr' hL'b
        rw [hKK] at this
        exact this
      have hsm2 : ∀ V a c, Below W5.heap.size W5 V → RdN V a (L'.filter pNew) → Calls Tryz.prog 13 #[.slice aX K cX, .slice a K c] V fun e w' => e = .returned (.bool true) ∧ Below V.heap.size V w' := fun V a c hV hr => by
        have := same_any aX a cX c (L'.filter pNew) V (hRX.carry hV) hr (by omega)
        rw [hKK] at this
        exact this
      rename_i Q1 K1 hK1
      refine wp_region_any hmx ?_
      refine wpAny_tabG (G := ((Option Addr × Nat) × (Option Addr × Nat))) (fun g i__ => ([(sv R), (sv R), (.bool false), (.bool false), (.int .i64 E), (.int .i64 E), (.bool false), (.bool false), (.bool false), (.slice (some ⟨gl, 0, none⟩) mlen capl), (.slice (some ⟨gb, off, none⟩) M4 cap4), (.int .i64 (j : Int)), (.pointer (some ⟨gb, off + j, none⟩)), (.slice adm mlen capm), (.bool true), (.bool false), (.bool false), (.bool false), v1, (.slice g.1.1 n1 g.1.2), (.pointer (some ⟨b12, 0, none⟩)), (.slice ar' n1 cr'), (.bool true), (.bool false), (.bool false), (.bool false), (.slice aX K cX), (.agg #[.slice ar' n1 cr']), (.slice g.2.1 K g.2.2), (.bool true), (.bool false), (.bool false)] : List Value).getD i__ undef) (fun g d V => J9b W5 W5 L' (L'.filter pNew) g (d 19) (d 28) false V) (by kernel_rfl) (((none, 0), (none, 0))) (show J9b W5 W5 L' (L'.filter pNew) ((none, 0), (none, 0)) false false false _ from ⟨(Below.refl _ _).drew, fun e => (by cases e), fun e => (by cases e)⟩) ?step2 ?fin2
      case step2 =>
        intro i o ho
        have hi : i < 32 := getElem?_lt ho
        match i, hi, ho with
        | 0, _, ho =>
          cases ho
          refine stepG_ofC (fun g d hun hdep hcl => ?_)
          exact step_load rfl trivial _ _ _ rfl rfl (fun V hw => whole4 V _ R (hS16.carry hw.1))
        | 1, _, ho =>
          cases ho
          refine stepG_ofC (fun g d hun hdep hcl => ?_)
          exact step_load rfl trivial _ _ _ rfl rfl (fun V hw => whole4 V _ R (hS19.carry hw.1))
        | 2, _, ho =>
          cases ho
          refine stepG_ofC (fun g d hun hdep hcl => ?_)
          exact step_binOp rfl trivial _ _ _ _ _ _ _ rfl rfl rfl (fun V hw => neqs rfl hR V)
        | 3, _, ho =>
          cases ho
          refine stepG_ofC (fun g d hun hdep hcl => ?_)
          exact step_move rfl trivial _ rfl (by kernel_rfl)
        | 4, _, ho =>
          cases ho
          refine stepG_ofC (fun g d hun hdep hcl => ?_)
          exact step_move rfl (by exact ⟨_, rfl, by kernel_rfl⟩) _ rfl (by kernel_rfl)
        | 5, _, ho =>
          cases ho
          refine stepG_ofC (fun g d hun hdep hcl => ?_)
          exact step_move rfl (by exact ⟨_, rfl, by kernel_rfl⟩) _ rfl (by kernel_rfl)
        | 6, _, ho =>
          cases ho
          refine stepG_ofC (fun g d hun hdep hcl => ?_)
          exact step_binOp rfl (by exact ⟨_, rfl, by kernel_rfl⟩) _ _ _ _ _ _ _ rfl rfl rfl (fun V hw => bin_neqs _ _)
        | 7, _, ho =>
          cases ho
          refine stepG_ofC (fun g d hun hdep hcl => ?_)
          exact step_pick rfl trivial _ _ _ false rfl (by kernel_rfl) (by kernel_rfl)
        | 8, _, ho =>
          cases ho
          refine stepG_ofC (fun g d hun hdep hcl => ?_)
          exact step_move rfl trivial _ rfl (by kernel_rfl)
        | 9, _, ho =>
          cases ho
          refine stepG_ofC (fun g d hun hdep hcl => ?_)
          exact step_move rfl (by exact ⟨_, rfl, by kernel_rfl⟩) _ rfl (by kernel_rfl)
        | 10, _, ho =>
          cases ho
          refine stepG_ofC (fun g d hun hdep hcl => ?_)
          exact step_move rfl (by exact ⟨_, rfl, by kernel_rfl⟩) _ rfl (by kernel_rfl)
        | 11, _, ho =>
          cases ho
          refine stepG_ofC (fun g d hun hdep hcl => ?_)
          exact step_move rfl (by exact ⟨_, rfl, by kernel_rfl⟩) _ rfl (by kernel_rfl)
        | 12, _, ho =>
          cases ho
          refine stepG_ofC (fun g d hun hdep hcl => ?_)
          exact step_indexAddr rfl (by exact ⟨_, rfl, by kernel_rfl⟩) _ _ _ _ _ rfl rfl rfl (fun V hw => idx_n2 gb off M4 cap4 j hjn V)
        | 13, _, ho =>
          cases ho
          refine stepG_ofC (fun g d hun hdep hcl => ?_)
          exact step_load rfl (by exact ⟨_, rfl, by kernel_rfl⟩) _ _ _ rfl rfl (fun V hw => load_n2x (hcm5 V hw.1))
        | 14, _, ho =>
          cases ho
          refine stepG_ofC (fun g d hun hdep hcl => ?_)
          exact step_call rfl (by exact ⟨_, rfl, by kernel_rfl⟩) 12 _ _ [(.slice (some ⟨gl, 0, none⟩) mlen capl), (.slice adm mlen capm)] rfl (by kernel_rfl) (enters_of Tryz.func12 (by kernel_rfl) rfl) (fun v hw => (hst v hw.1).mono (by rintro e w2 ⟨rfl, hb⟩; exact ⟨rfl, hw.carry hb⟩))
        | 15, _, ho =>
          cases ho
          refine stepG_ofC (fun g d hun hdep hcl => ?_)
          exact step_unOp rfl (by exact ⟨_, rfl, by kernel_rfl⟩) _ _ _ _ rfl rfl (fun V hw => un_not true V)
        | 16, _, ho =>
          cases ho
          refine stepG_ofC (fun g d hun hdep hcl => ?_)
          exact step_pick rfl trivial _ _ _ false rfl (by kernel_rfl) (by kernel_rfl)
        | 17, _, ho =>
          cases ho
          refine stepG_ofC (fun g d hun hdep hcl => ?_)
          exact step_move rfl trivial _ rfl (by kernel_rfl)
        | 18, _, ho =>
          cases ho
          refine stepG_ofC (fun g d hun hdep hcl => ?_)
          exact step_move rfl (by exact ⟨_, rfl, by kernel_rfl⟩) _ rfl (by kernel_rfl)
        | 19, _, ho =>
          cases ho
          exact stepG_call rfl (fun _ => ⟨_, rfl, by kernel_rfl⟩) 14 _ _ (fun _ => [v1]) rfl (fun g => by kernel_rfl) (enters_of Tryz.func14 (by kernel_rfl) rfl) (fun g d V hJ hun hdep hcl => by have h28 : d 28 = false := (by cases h : d 28 with | false => rfl | true => exact absurd (hcl 22 _ rfl (hcl 25 _ rfl (hcl 28 _ rfl h 25 (by kernel_rfl)) 22 (by kernel_rfl)) 19 (by kernel_rfl)) (by rw [hun]; simp)); have hJ' := hJ; rw [h28] at hJ'; exact (hls V hJ'.1).mono (by rintro e V' ⟨a, c, rfl, h1, h2⟩; refine ⟨((a, c), g.2), rfl, (fun j hj => match j, hj with | 19, hj => (by rw [hj] at hun; cases hun)  | 0, _ => rfl | 1, _ => rfl | 2, _ => rfl | 3, _ => rfl | 4, _ => rfl | 5, _ => rfl | 6, _ => rfl | 7, _ => rfl | 8, _ => rfl | 9, _ => rfl | 10, _ => rfl | 11, _ => rfl | 12, _ => rfl | 13, _ => rfl | 14, _ => rfl | 15, _ => rfl | 16, _ => rfl | 17, _ => rfl | 18, _ => rfl | 20, _ => rfl | 21, _ => rfl | 22, _ => rfl | 23, _ => rfl | 24, _ => rfl | 25, _ => rfl | 26, _ => rfl | 27, _ => rfl | 28, _ => rfl | 29, _ => rfl | 30, _ => rfl | 31, _ => rfl | _ + 32, _ => rfl), ?_⟩; show J9b W5 W5 L' (L'.filter pNew) _ true (d 28) false V'; rw [h28]; exact ⟨bel2 hJ'.1 h2, fun _ => h1, fun e => (by cases e)⟩))
        | 20, _, ho =>
          cases ho
          refine stepG_ofC (fun g d hun hdep hcl => ?_)
          exact step_fieldAddr rfl (by exact ⟨_, rfl, by kernel_rfl⟩) _ _ _ _ rfl rfl (fun V hw => field_rb V _)
        | 21, _, ho =>
          cases ho
          refine stepG_ofC (fun g d hun hdep hcl => ?_)
          exact step_load rfl (by exact ⟨_, rfl, by kernel_rfl⟩) _ _ _ rfl rfl (fun V hw => load_rb (hA5.rb.carry hw.1))
        | 22, _, ho =>
          cases ho
          refine stepG_ofC (fun g d hun hdep hcl => ?_)
          exact step_call rfl (by exact ⟨_, rfl, by kernel_rfl⟩) 13 _ _ [(.slice g.1.1 n1 g.1.2), (.slice ar' n1 cr')] rfl (by kernel_rfl) (enters_of Tryz.func13 (by kernel_rfl) rfl) (fun v hw => (hsm1 v g.1.1 g.1.2 hw.1 (hw.2.1 (hdep 19 (by kernel_rfl)))).mono (by rintro e w2 ⟨rfl, hb⟩; exact ⟨rfl, hw.carry hb⟩))
        | 23, _, ho =>
          cases ho
          refine stepG_ofC (fun g d hun hdep hcl => ?_)
          exact step_unOp rfl (by exact ⟨_, rfl, by kernel_rfl⟩) _ _ _ _ rfl rfl (fun V hw => un_not true V)
        | 24, _, ho =>
          cases ho
          refine stepG_ofC (fun g d hun hdep hcl => ?_)
          exact step_pick rfl trivial _ _ _ false rfl (by kernel_rfl) (by kernel_rfl)
        | 25, _, ho =>
          cases ho
          refine stepG_ofC (fun g d hun hdep hcl => ?_)
          exact step_move rfl trivial _ rfl (by kernel_rfl)
        | 26, _, ho =>
          cases ho
          refine stepG_ofC (fun g d hun hdep hcl => ?_)
          exact step_move rfl (by exact ⟨_, rfl, by kernel_rfl⟩) _ rfl (by kernel_rfl)
        | 27, _, ho =>
          cases ho
          refine stepG_ofC (fun g d hun hdep hcl => ?_)
          exact step_load rfl (by exact ⟨_, rfl, by kernel_rfl⟩) _ _ _ rfl rfl (fun V hw => load_rbw (hA5.rb.carry hw.1))
        | 28, _, ho =>
          cases ho
          exact stepG_call rfl (fun _ => ⟨_, rfl, by kernel_rfl⟩) 15 _ _ (fun _ => [.agg #[.slice ar' n1 cr']]) rfl (fun g => by kernel_rfl) (enters_of Tryz.func15 (by kernel_rfl) rfl) (fun g d V hJ hun hdep hcl => (hrn V hJ.1).mono (by rintro e V' ⟨a, c, rfl, h1, h2⟩; refine ⟨(g.1, (a, c)), rfl, (fun j hj => match j, hj with | 28, hj => (by rw [hj] at hun; cases hun)  | 0, _ => rfl | 1, _ => rfl | 2, _ => rfl | 3, _ => rfl | 4, _ => rfl | 5, _ => rfl | 6, _ => rfl | 7, _ => rfl | 8, _ => rfl | 9, _ => rfl | 10, _ => rfl | 11, _ => rfl | 12, _ => rfl | 13, _ => rfl | 14, _ => rfl | 15, _ => rfl | 16, _ => rfl | 17, _ => rfl | 18, _ => rfl | 19, _ => rfl | 20, _ => rfl | 21, _ => rfl | 22, _ => rfl | 23, _ => rfl | 24, _ => rfl | 25, _ => rfl | 26, _ => rfl | 27, _ => rfl | 29, _ => rfl | 30, _ => rfl | 31, _ => rfl | _ + 32, _ => rfl), ?_⟩; show J9b W5 W5 L' (L'.filter pNew) _ (d 19) true false V'; exact ⟨bel2 hJ.1 h2, fun e => (hJ.2.1 e).carry h2, fun _ => h1⟩))
        | 29, _, ho =>
          cases ho
          refine stepG_ofC (fun g d hun hdep hcl => ?_)
          exact step_call rfl (by exact ⟨_, rfl, by kernel_rfl⟩) 13 _ _ [(.slice aX K cX), (.slice g.2.1 K g.2.2)] rfl (by kernel_rfl) (enters_of Tryz.func13 (by kernel_rfl) rfl) (fun v hw => (hsm2 v g.2.1 g.2.2 hw.1 (hw.2.2 (hdep 28 (by kernel_rfl)))).mono (by rintro e w2 ⟨rfl, hb⟩; exact ⟨rfl, hw.carry hb⟩))
        | 30, _, ho =>
          cases ho
          refine stepG_ofC (fun g d hun hdep hcl => ?_)
          exact step_unOp rfl (by exact ⟨_, rfl, by kernel_rfl⟩) _ _ _ _ rfl rfl (fun V hw => un_not true V)
        | 31, _, ho =>
          cases ho
          refine stepG_ofC (fun g d hun hdep hcl => ?_)
          exact step_pick rfl trivial _ _ _ false rfl (by kernel_rfl) (by kernel_rfl)
      intro g d W hall hW
      first | refine hK _ _ ?_ | refine (‹∀ (a : Act) (w : World), Code.wp Tryz.prog _ _ a w → _›) _ _ ?_ | skip
      simp only [finL, List.getD_cons_zero, List.getD_cons_succ, Nat.zero_add, Nat.reduceAdd, List.setIfInBounds_toArray, List.set_cons_zero, List.set_cons_succ]
      have hWb : Below W5.heap.size W5 _ := hW.1
      go_wp2
      go_roundw
      case rel => exact ⟨j + 1, L', ar', cr', by simp, by omega, hL'n, hcr', hzr', hL'b, hA5.carry hWb⟩
      case measure => simp [vnatR]; omega
    · have hkk : j = M4 := by omega
      subst hkk
      have k0 := hal wr
      go_wp2_with (first
        | (have m := hap; go_at_call 16; (with_reducible refine hap.mono ?_); rintro e z2 ⟨rfl, hz2⟩)
        | (go_at_call 5; (with_reducible refine k0.mono ?_); rintro e z1 ⟨rfl, hz1⟩; have hAz := hA.carry hz1; have hap := hAz.nk.apart hAz.low.2.1))
      go_ret
      exact ⟨rfl, hAz.be.trans (hz2.mono hA.low.1)⟩

set_option maxRecDepth 100000 in
theorem lifted (os : Os) (started : os.Started) (H : Type) (enc : TypeId × Value → H) :
    ReturnsInHanded {} Tryz.checked os 3 .any (Rows.spreadAbsorbsSpec.pre6 enc Tryz.prog Tryz.f3 Rows.spreadAbsorbsRow.domain false) (Rows.spreadAbsorbsSpec.post enc Tryz.prog Tryz.f3 false true false false) := by
  refine returnsInHanded_of_change (C := Tryz.checked) own started (by kernel_rfl) Tryz.func3
    (ChangeSpec.witness6 (enc := enc) (C := Tryz.checked) false ⟨#[], #[.int .i64 0, .int .i64 0, .int .i64 0, .slice none 0 0, .slice none 0 0], []⟩ 8 (by kernel_rfl) (by kernel_rfl) (by kernel_rfl) (by kernel_rfl)) ?_
  intro W base args ds gs before hval0 hW hcnd _
  have hval : ∀ (j : Nat) t v, Tryz.f3.params[j]? = some t → args[j]? = some v → Value.okWide Tryz.prog W .any base t v := hval0
  have hW' := hW
  obtain ⟨p, q, hA0, hV, rfl, hfz, hnd⟩ := hW
  have hA : DataW.TrodAll enc Tryz.prog W 0 (fun _ => true) true Tryz.f3.params.toList args.toList ds p := hA0
  rw [Tryz.params3] at hA hval
  obtain ⟨v0, vs0, d0, ds0, p0, q0, hargs, rfl, rfl, h0, r0⟩ := trodAll_cons hA
  obtain ⟨v1, vs1, d1, ds1, p1, q1, rfl, rfl, rfl, h1, r1⟩ := trodAll_cons r0
  obtain ⟨v2, vs2, d2, ds2, p2, q2, rfl, rfl, rfl, h2, r2⟩ := trodAll_cons r1
  obtain ⟨v3, vs3, d3, ds3, p3, q3, rfl, rfl, rfl, h3, r3⟩ := trodAll_cons r2
  obtain ⟨v4, vs4, d4, ds4, p4, q4, rfl, rfl, rfl, h4, r4⟩ := trodAll_cons r3
  obtain ⟨rfl, rfl, rfl⟩ := trodAll_nil r4
  obtain rfl : args = #[v0, v1, v2, v3, v4] := by cases args; simp_all
  obtain ⟨rfl, rfl⟩ := trodVars_none hV
  obtain ⟨a0, rfl, rfl, rfl, w0⟩ := open_int Tryz.underlying3 (hval 0 3 v0 rfl rfl) h0
  obtain ⟨a1, rfl, rfl, rfl, w1⟩ := open_int Tryz.underlying3 (hval 1 3 v1 rfl rfl) h1
  obtain ⟨a2, rfl, rfl, rfl, w2⟩ := open_int Tryz.underlying3 (hval 2 3 v2 rfl rfl) h2
  have k3 := h3
  have lt3 : ∀ x ∈ p3, x.block < W.heap.size := by obtain ⟨m, hm⟩ := k3; exact DataW.trod_lt m _ _ _ hm
  obtain ⟨ad3, cap3, l3, rfl, w3, hc3, hq3, hd3⟩ := open_nts (hval 3 22 v3 rfl rfl) h3
  have k4 := h4
  have lt4 : ∀ x ∈ p4, x.block < W.heap.size := by obtain ⟨m, hm⟩ := k4; exact DataW.trod_lt m _ _ _ hm
  obtain ⟨ad4, cap4, l4, rfl, w4⟩ := open_ntss (hval 4 23 v4 rfl rfl) h4
  clear hA0 hval0
  refine (walk W a0 w0 a1 w1 a2 w2 ad3 cap3 l3 w3 hc3 hq3 ad4 cap4 l4 w4).mono fun e W' ⟨he, hg⟩ => ?_
  subst he
  exact ⟨_, rfl, _, _, _, [], _, [], hW', (trodAll_cons_mk (shut_bool Tryz.underlying4 _) trodAll_mk0), (trodAll_cons_mk (shut_int Tryz.underlying3 w0) (trodAll_cons_mk (shut_int Tryz.underlying3 w1) (trodAll_cons_mk (shut_int Tryz.underlying3 w2) (trodAll_cons_mk (Below.trod laidOut (by kernel_rfl) (of_decide_eq_true (by kernel_rfl)) k3 hg lt3) (trodAll_cons_mk (Below.trod laidOut (by kernel_rfl) (of_decide_eq_true (by kernel_rfl)) k4 hg lt4) trodAll_mk0))))), rfl, hg.frame _, fun h => by cases h⟩

theorem over : Rows.spreadAbsorbsRow.holds Tryz.pinned (OpenSpec.ofChange Rows.spreadAbsorbsSpec) :=
  OpenClaim.holds_of_wide 3 Tryz.f3 rfl rfl rfl rfl rfl rfl rfl ⟨rfl, rfl, rfl, rfl, rfl⟩ rfl rfl rfl rfl rfl (by kernel_rfl) Tryz.func3 (by kernel_rfl)
    (of_decide_eq_true (by kernel_rfl)) (by unfold Func.isWrapper; first | (rw [if_pos (by decide +kernel)]; kernel_rfl) | (rw [if_neg (by decide +kernel)]; exact ⟨rfl, rfl⟩))
    (fun os started H enc _ => lifted os started H enc)

theorem proved : Rows.SpreadAbsorbsSaid :=
  over
#print axioms proved
end Go.Proofs.YtddblfffjhoiaaaGreat
