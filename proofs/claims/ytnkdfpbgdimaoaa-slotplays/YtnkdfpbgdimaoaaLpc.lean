/- SlotPlays: the play over an image of another size. -/
import Derived.Test.YtnkdfpbgdimaoaaLpb
namespace Go.Proofs.Ytnkdfpbgdimaoaa
open Go.RowKit Go.Shelf Go.Lib


set_option maxHeartbeats 40000000 in
set_option maxRecDepth 100000 in
theorem play_B (w : World) (ad0 : Option Addr) (n0 cap0 : Nat) (hn0 : ¬ n0 = 256) (hn1 : n0 ≤ 1000) (ad1 : Option Addr) (cap1 : Nat) (l1 : List OpS) (w1 : RdS w w.heap.size ad1 l1) (hl1 : l1.length ≤ 100) : Calls Try.prog 6 #[.slice ad0 n0 cap0, .slice ad1 l1.length cap1] w fun e w' => e = .returned (.bool true) ∧ Below w.heap.size w w' := by
  have hal := alive_any
  have hmx : Try.prog.follows .mixedOrders = true := by kernel_rfl
  have hl1i : ¬ (100 : Int) < (l1.length : Int) := by omega
  have hn1i : ¬ (1000 : Int) < (n0 : Int) := by omega
  have hof := of_no ad0 cap0 n0 w hn0
  have hro := rof_no ad0 cap0 n0 w hn0
  clear hn0
  go_enter Try.func6, Try.ntmps6
  go_wp2_with (first | (go_at_call 18; (with_reducible refine hof.mono ?_); rintro e va ⟨rfl, hva⟩; obtain rfl := hva.symm) | (go_at_call 19; (with_reducible refine hro.mono ?_); rintro e vb ⟨rfl, hBb⟩; obtain ⟨vc, hvc⟩ : ∃ vc, vb.alloc (.cells #[.slice none 0 0, .bool false, .int .i64 0, .int .i64 0] 47) = vc := ⟨_, rfl⟩; have hgc : vc.heap[vb.heap.size]? = some (.cells #[.slice none 0 0, .bool false, .int .i64 0, .int .i64 0] 47 (0, 0)) := (by rw [← hvc]; exact new_at rfl); have hBc : Below w.heap.size w vc := (by rw [← hvc]; exact bel2 hBb (al1' _ _))) | (refine wpList_store_row rfl 47 (.tmp 7) (.tmp 41) rfl vb.heap.size #[.slice none 0 0, .bool false, .int .i64 0, .int .i64 0] rfl rfl 47 _ hgc info_rd rfl (by simp [Value.oneCell']) ?_; obtain ⟨vd, hvd⟩ : ∃ vd, vc.setRow vb.heap.size #[.slice none 0 0, .bool false, .int .i64 0, .int .i64 0] = vd := ⟨_, rfl⟩; have hgd : vd.heap[vb.heap.size]? = some (.cells #[.slice none 0 0, .bool false, .int .i64 0, .int .i64 0] 47 (0, 0)) := (by rw [← hvd]; exact setRow_heap _ _ _ _ _ _ hgc); have hBd : Below w.heap.size w vd := (by rw [← hvd]; exact below_setRow hBc hBb.size _); rw [hvd]; have hnew := dnew_any vd) | (go_at_call 11; (with_reducible refine hnew.mono ?_); rintro e ve ⟨rfl, hDe, hlte, hBe⟩; have hrn := rnew_any ve; unfold rdV at hrn) | (go_at_call 20; (with_reducible refine hrn.mono ?_); rintro e vf ⟨r, rfl, hrg, hrow, hBf⟩; have hgf := ((bel2 hBe hBf).block _ (lt_at hgd)).trans hgd; have hDf := hDe.carry hBf; have hBwf : Below w.heap.size w vf := hBd.trans ((bel2 hBe hBf).mono hBd.size); have hlbd := lt_at hgd; have hrv := row_lt0 hrow; have hrb := own_block hrow r rfl) | (refine wpList_store_row rfl 47 (.tmp 7) (.tmp 49) rfl vb.heap.size #[.slice (some ⟨r, 0, none⟩) 256 256, .bool false, .int .i64 (-1), .int .i64 0] rfl rfl 47 _ hgf info_rd rfl (by simp [Value.oneCell']) ?_; obtain ⟨vg, hvg⟩ : ∃ vg, vf.setRow vb.heap.size #[.slice (some ⟨r, 0, none⟩) 256 256, .bool false, .int .i64 (-1), .int .i64 0] = vg := ⟨_, rfl⟩; have hgl : vg.heap[vb.heap.size]? = some (.cells #[.slice (some ⟨r, 0, none⟩) 256 256, .bool false, .int .i64 (-1), .int .i64 0] 47 (0, 0)) := (by rw [← hvg]; exact setRow_heap _ _ _ _ _ _ hgf); have hSst : Sp w vd.heap.size vb.heap.size r 256 d0 d0 vg := ⟨⟨(by rw [← hvg]; exact (setRow_other _ _ _ _ (by omega)).trans hDf.obj), hDf.len, hDf.byt⟩, ⟨cell_at hgl 0, cell_at hgl 1, cell_at hgl 2, cell_at hgl 3, row_base (by rw [← hvg]; exact row_setRow hrow (by have := hBe.size; omega) _) (Nat.le_trans hBd.size hBe.size), ⟨_, hgl⟩, d0_len, byt_zero 256⟩, (by rw [← hvg]; exact below_setRow hBwf hBb.size _), hBd.size, hBb.size⟩; clear hgl; rw [hvg]))
  go_loopw [9] (fun i wz => ∃ (m : Nat) (D0 : Dst), i = .int .i64 (m : Int) ∧ m ≤ l1.length ∧ Sp w vd.heap.size vb.heap.size r 256 D0 D0 wz ∧ Fz D0 ∧ 0 ≤ D0.writes ∧ D0.writes ≤ 2 * (m : Int)) (fun i _ => l1.length - vnat i)
  case atStart => exact ⟨0, d0, rfl, Nat.zero_le _, hSst, fun q => (by cases q), Int.le_refl _, Int.le_refl _⟩
  case round =>
    obtain ⟨m, D0, rfl, hm, hS, hfz, hwr0, hwr⟩ := hrel
    by_cases hml : m < l1.length
    case neg =>
      have hmi : ¬ (m : Int) < (l1.length : Int) := by omega
      have hln := load_nil wr
      go_wp2_with (first | (go_at_call 15; (with_reducible refine hln.mono ?_); rintro e vy ⟨rfl, hby⟩) | (go_at_call 8; (with_reducible refine (hal _).mono ?_); rintro e vz ⟨rfl, hbz⟩))
      go_ret
      exact ⟨rfl, hS.bl.trans ((bel2 (bel2 hby (al1' _ _)) hbz).mono hS.bl.size)⟩
    have hmi : (m : Int) < (l1.length : Int) := by omega
    obtain ⟨o, hx⟩ : ∃ o, l1[m]? = some o := ⟨_, List.getElem?_eq_getElem hml⟩
    obtain ⟨bo, offo, e1, hbl, hop, hwf⟩ := w1 m o hx
    subst e1
    obtain ⟨k, a, s, x⟩ := o
    obtain ⟨c0, c1, c2, c3, c4, c5⟩ := hop.carry hS.bl hbl
    have hab := bounds_hi hwf
    dsimp only at c0 c1 c2 c3 c4 c5 hab
    obtain ⟨v0, hv0⟩ : ∃ v0, wr.alloc (.cells #[.int .i64 k, .int .i64 a, .int .i64 s, .int .i64 x.li, .int .i64 x.ro, .int .i64 x.ta] 52) = v0 := ⟨_, rfl⟩
    have hS0 : Sp w vd.heap.size vb.heap.size r 256 D0 D0 v0 := by rw [← hv0]; exact hS.carry (al1' _ _)
    have hO0 : OpB v0 wr.heap.size ⟨k, a, s, x⟩ := by rw [← hv0]; exact new_at rfl
    have q0 := cell_at hO0 0
    have q1 := cell_at hO0 1
    have q2 := cell_at hO0 2
    have q3 := cell_at hO0 3
    have q4 := cell_at hO0 4
    have q5 := cell_at hO0 5
    have hkc : k = 1 ∨ k = 2 ∨ k = 3 ∨ k = 4 ∨ k = 5 ∨ k = 6 ∨ (¬ k = 1 ∧ ¬ k = 2 ∧ ¬ k = 3 ∧ ¬ k = 4 ∧ ¬ k = 5 ∧ ¬ k = 6) := by omega
    clear hx hop hwf hS
    rcases hkc with rfl | rfl | rfl | rfl | rfl | rfl | ⟨h1, h2, h3, h4, h5, h6⟩
    · obtain ⟨E, hE⟩ : ∃ E, (dSv D0 x).1 = E := ⟨_, rfl⟩
      have hfz1 := dSv_fz hfz x
      have hwr1 := dSv_wr (d := D0) x
      obtain ⟨D1, hD1⟩ : ∃ D1, (dSv D0 x).2 = D1 := ⟨_, rfl⟩
      rw [hD1] at hfz1 hwr1
      go_wp2
      rename_i hK
      refine wp_region_any hmx ?_
      refine wpAny_tabG (G := Unit) (fun g i__ => ([(.pointer (some ⟨vd.heap.size, 0, none⟩)), (.pointer (some ⟨wr.heap.size, 3, none⟩)), (rV x), (.int .i64 E), (.pointer (some ⟨wr.heap.size, 3, none⟩)), (rV x), (.int .i64 E), (.bool false)] : List Value).getD i__ undef) (fun g f V => So w vd.heap.size vb.heap.size r 256 wr.heap.size ⟨1, a, s, x⟩ (if f 3 = true then D1 else D0) (if f 6 = true then D1 else D0) V) (by kernel_rfl) (()) (show So w vd.heap.size vb.heap.size r 256 wr.heap.size ⟨1, a, s, x⟩ D0 D0 _ from So.drew ⟨hS0, hO0⟩) ?step1 ?fin1
      case step1 =>
        intro i o ho
        have hi : i < 8 := getElem?_lt ho
        match i, hi, ho with
        | 0, _, ho =>
          cases ho
          refine stepG_of (fun g d hdep => ?_)
          exact step_move rfl trivial _ rfl (by kernel_rfl)
        | 1, _, ho =>
          cases ho
          refine stepG_of (fun g d hdep => ?_)
          exact step_fieldAddr rfl trivial _ _ _ _ rfl rfl (fun v hw => field_o3 v _)
        | 2, _, ho =>
          cases ho
          refine stepG_of (fun g d hdep => ?_)
          exact step_load rfl trivial _ _ _ rfl rfl (fun v hw => load_o3 hw.2)
        | 3, _, ho =>
          cases ho
          exact stepG_ofC (fun _ d hun hdep hcl => step_call rfl trivial 13 _ _ [(.pointer (some ⟨vd.heap.size, 0, none⟩)), rV x] rfl (by kernel_rfl) (enters_of Try.func13 (by kernel_rfl) rfl) (fun v hw => by have h6 : d 6 = false := (by cases h : d 6 with | false => rfl | true => exact absurd (hcl 6 _ rfl h 3 (by kernel_rfl)) (by rw [hun]; simp)); have hw2 := hw; simp only [hun, h6, Bool.false_eq_true, if_false] at hw2; have hsv := save_any hw2.1.dk x hfz hwr0 (by omega); rw [hE, hD1] at hsv; exact hsv.mono (by rintro e v' ⟨rfl, hd, ht⟩; refine ⟨rfl, ?_⟩; show So w vd.heap.size vb.heap.size r 256 wr.heap.size ⟨1, a, s, x⟩ (if true = true then D1 else D0) (if d 6 = true then D1 else D0) v'; rw [h6]; exact ⟨hw2.1.tp hd ht, hw2.2.tp hw2.1 ht⟩)))
        | 4, _, ho =>
          cases ho
          refine stepG_of (fun g d hdep => ?_)
          exact step_fieldAddr rfl trivial _ _ _ _ rfl rfl (fun v hw => field_o3 v _)
        | 5, _, ho =>
          cases ho
          refine stepG_of (fun g d hdep => ?_)
          exact step_load rfl trivial _ _ _ rfl rfl (fun v hw => load_o3 hw.2)
        | 6, _, ho =>
          cases ho
          exact stepG_ofC (fun _ d hun hdep hcl => step_call rfl trivial 21 _ _ [(.pointer (some ⟨vb.heap.size, 0, none⟩)), rV x] rfl (by kernel_rfl) (enters_of Try.func21 (by kernel_rfl) rfl) (fun v hw => by have h3 : d 3 = true := hdep 3 (by kernel_rfl); have hw2 := hw; simp only [hun, h3, Bool.false_eq_true, if_false, if_true] at hw2; have hsv := rSave_any hw2.1.rf x hfz hwr0 (by omega); rw [hE, hD1] at hsv; exact hsv.mono (by rintro e v' ⟨rfl, hd, ht⟩; refine ⟨rfl, ?_⟩; show So w vd.heap.size vb.heap.size r 256 wr.heap.size ⟨1, a, s, x⟩ (if d 3 = true then D1 else D0) (if true = true then D1 else D0) v'; rw [h3]; exact ⟨hw2.1.tf hd ht, hw2.2.tf hw2.1 ht⟩)))
        | 7, _, ho =>
          cases ho
          refine stepG_of (fun g d hdep => ?_)
          exact step_binOp rfl trivial _ _ _ _ _ _ _ rfl rfl rfl (fun v hw => neqK_f _ _)
      intro g d W hall hW
      first | refine hK _ _ ?_ | refine (‹∀ (a : Act) (w : World), Code.wp Try.prog _ _ a w → _›) _ _ ?_ | skip
      simp only [finL, List.getD_cons_zero, List.getD_cons_succ, Nat.zero_add, Nat.reduceAdd, List.setIfInBounds_toArray, List.set_cons_zero, List.set_cons_succ]
      rw [hall 3 (by decide), hall 6 (by decide)] at hW
      have hSF : Sp w vd.heap.size vb.heap.size r 256 D1 D1 W := hW.1
      clear hK hW hall hE hD1 hS0 hO0
      go_wp2
      rename_i hK
      refine wp_region_any hmx ?_
      refine wpAny_tabG (G := (Nat × Nat)) (fun g i__ => ([(.pointer (some ⟨vd.heap.size, 0, none⟩)), (.slice (some ⟨g.1, 0, none⟩) 256 g.2), (.pointer (some ⟨vb.heap.size, 0, none⟩)), (.slice (some ⟨r, 0, none⟩) 256 256), (.bool true), (.bool false), (.bool false), (.pointer (some ⟨vd.heap.size, 0, none⟩)), (.bool (!D1.off)), (.pointer (some ⟨vb.heap.size, 1, none⟩)), (.bool D1.off), (.bool (!D1.off)), (.bool false), (.bool false), (.bool false), (.pointer (some ⟨vd.heap.size, 0, none⟩)), (.int .i64 D1.writes), (.pointer (some ⟨vb.heap.size, 3, none⟩)), (.int .i64 D1.writes), (.bool false), (.bool false), (.bool false), (.pointer (some ⟨vd.heap.size, 0, none⟩)), (.int .i64 (left D1)), (.pointer (some ⟨vb.heap.size, 2, none⟩)), (.int .i64 (left D1)), (.bool false), (.bool false)] : List Value).getD i__ undef) (fun g f V => Lk w vd.heap.size vb.heap.size r 256 D1 g (f 1) V) (by kernel_rfl) ((0, 0)) (Lk.start hSF (0, 0)) ?step2 ?fin2
      case step2 =>
        intro i o ho
        have hi : i < 28 := getElem?_lt ho
        match i, hi, ho with
        | 0, _, ho =>
          cases ho
          refine stepG_of (fun g d hdep => ?_)
          exact step_move rfl trivial _ rfl (by kernel_rfl)
        | 1, _, ho =>
          cases ho
          exact stepG_call rfl (fun _ => trivial) 16 _ _ (fun _ => [.pointer (some ⟨vd.heap.size, 0, none⟩)]) rfl (fun g => by kernel_rfl) (enters_of Try.func16 (by kernel_rfl) rfl) (fun g d V hJ hun hdep hcl => (image_any hJ.1.dk).mono (by rintro e V' ⟨g2, c2, rfl, ho, hb⟩; refine ⟨(g2, c2), rfl, (fun j hj => match j, hj with | 1, hj => (by rw [hj] at hun; cases hun)  | 0, _ => rfl | 2, _ => rfl | 3, _ => rfl | 4, _ => rfl | 5, _ => rfl | 6, _ => rfl | 7, _ => rfl | 8, _ => rfl | 9, _ => rfl | 10, _ => rfl | 11, _ => rfl | 12, _ => rfl | 13, _ => rfl | 14, _ => rfl | 15, _ => rfl | 16, _ => rfl | 17, _ => rfl | 18, _ => rfl | 19, _ => rfl | 20, _ => rfl | 21, _ => rfl | 22, _ => rfl | 23, _ => rfl | 24, _ => rfl | 25, _ => rfl | 26, _ => rfl | 27, _ => rfl | _ + 28, _ => rfl), ?_⟩; show Lk w vd.heap.size vb.heap.size r 256 D1 (g2, c2) true V'; exact ⟨hJ.1.carry hb, fun _ => ⟨b_own ho hJ.1.dk.len.symm, row_lt0 ho⟩⟩))
        | 2, _, ho =>
          cases ho
          refine stepG_of (fun g d hdep => ?_)
          exact step_fieldAddr rfl trivial _ _ _ _ rfl rfl (fun v hw => field_rd0 v _ _)
        | 3, _, ho =>
          cases ho
          refine stepG_of (fun g d hdep => ?_)
          exact step_load rfl trivial _ _ _ rfl rfl (fun v hw => load_sl hw.1.rf.b)
        | 4, _, ho =>
          cases ho
          refine stepG_of (fun g d hdep => ?_)
          exact step_call rfl trivial 10 _ _ [(.slice (some ⟨g.1, 0, none⟩) 256 g.2), (.slice (some ⟨r, 0, none⟩) 256 256)] rfl (by kernel_rfl) (enters_of Try.func10 (by kernel_rfl) rfl) (fun v hw => by have h1 : d 1 = true := hdep 1 (by kernel_rfl); have hw' := hw; rw [h1] at hw'; exact (sameB_lk hw').mono (by rintro e w' ⟨rfl, hb⟩; exact ⟨rfl, by show Lk w vd.heap.size vb.heap.size r 256 D1 g (d 1) w'; rw [h1]; exact hw'.carry hb⟩))
        | 5, _, ho =>
          cases ho
          refine stepG_of (fun g d hdep => ?_)
          exact step_unOp rfl trivial _ _ _ _ rfl rfl (fun v hw => un_not true v)
        | 6, _, ho =>
          cases ho
          refine stepG_of (fun g d hdep => ?_)
          exact step_move rfl trivial _ rfl (by kernel_rfl)
        | 7, _, ho =>
          cases ho
          refine stepG_of (fun g d hdep => ?_)
          exact step_move rfl (by exact ⟨_, rfl, by kernel_rfl⟩) _ rfl (by kernel_rfl)
        | 8, _, ho =>
          cases ho
          refine stepG_of (fun g d hdep => ?_)
          exact step_call rfl (by exact ⟨_, rfl, by kernel_rfl⟩) 28 _ _ [(.pointer (some ⟨vd.heap.size, 0, none⟩))] rfl (by kernel_rfl) (enters_of Try.func28 (by kernel_rfl) rfl) (fun v hw => (on_any hw.1.dk).mono (by rintro e w' ⟨rfl, rfl⟩; exact ⟨rfl, hw⟩))
        | 9, _, ho =>
          cases ho
          refine stepG_of (fun g d hdep => ?_)
          exact step_fieldAddr rfl (by exact ⟨_, rfl, by kernel_rfl⟩) _ _ _ _ rfl rfl (fun v hw => field_rd1 v _)
        | 10, _, ho =>
          cases ho
          refine stepG_of (fun g d hdep => ?_)
          exact step_load rfl (by exact ⟨_, rfl, by kernel_rfl⟩) _ _ _ rfl rfl (fun v hw => load_bo hw.1.rf.f)
        | 11, _, ho =>
          cases ho
          refine stepG_of (fun g d hdep => ?_)
          exact step_unOp rfl (by exact ⟨_, rfl, by kernel_rfl⟩) _ _ _ _ rfl rfl (fun v hw => un_not D1.off v)
        | 12, _, ho =>
          cases ho
          refine stepG_of (fun g d hdep => ?_)
          exact step_binOp rfl (by exact ⟨_, rfl, by kernel_rfl⟩) _ _ _ _ _ _ _ rfl rfl rfl (fun v hw => neqB_f _ _ _ _)
        | 13, _, ho =>
          cases ho
          refine stepG_of (fun g d hdep => ?_)
          exact step_pick rfl trivial _ _ _ false rfl (by kernel_rfl) (by kernel_rfl)
        | 14, _, ho =>
          cases ho
          refine stepG_of (fun g d hdep => ?_)
          exact step_move rfl trivial _ rfl (by kernel_rfl)
        | 15, _, ho =>
          cases ho
          refine stepG_of (fun g d hdep => ?_)
          exact step_move rfl (by exact ⟨_, rfl, by kernel_rfl⟩) _ rfl (by kernel_rfl)
        | 16, _, ho =>
          cases ho
          refine stepG_of (fun g d hdep => ?_)
          exact step_call rfl (by exact ⟨_, rfl, by kernel_rfl⟩) 17 _ _ [(.pointer (some ⟨vd.heap.size, 0, none⟩))] rfl (by kernel_rfl) (enters_of Try.func17 (by kernel_rfl) rfl) (fun v hw => (writes_any hw.1.dk).mono (by rintro e w' ⟨rfl, rfl⟩; exact ⟨rfl, hw⟩))
        | 17, _, ho =>
          cases ho
          refine stepG_of (fun g d hdep => ?_)
          exact step_fieldAddr rfl (by exact ⟨_, rfl, by kernel_rfl⟩) _ _ _ _ rfl rfl (fun v hw => field_rd3 v _)
        | 18, _, ho =>
          cases ho
          refine stepG_of (fun g d hdep => ?_)
          exact step_load rfl (by exact ⟨_, rfl, by kernel_rfl⟩) _ _ _ rfl rfl (fun v hw => load_i64 hw.1.rf.n)
        | 19, _, ho =>
          cases ho
          refine stepG_of (fun g d hdep => ?_)
          exact step_binOp rfl (by exact ⟨_, rfl, by kernel_rfl⟩) _ _ _ _ _ _ _ rfl rfl rfl (fun v hw => neqK_f _ _)
        | 20, _, ho =>
          cases ho
          refine stepG_of (fun g d hdep => ?_)
          exact step_pick rfl trivial _ _ _ false rfl (by kernel_rfl) (by kernel_rfl)
        | 21, _, ho =>
          cases ho
          refine stepG_of (fun g d hdep => ?_)
          exact step_move rfl trivial _ rfl (by kernel_rfl)
        | 22, _, ho =>
          cases ho
          refine stepG_of (fun g d hdep => ?_)
          exact step_move rfl (by exact ⟨_, rfl, by kernel_rfl⟩) _ rfl (by kernel_rfl)
        | 23, _, ho =>
          cases ho
          refine stepG_of (fun g d hdep => ?_)
          exact step_call rfl (by exact ⟨_, rfl, by kernel_rfl⟩) 29 _ _ [(.pointer (some ⟨vd.heap.size, 0, none⟩))] rfl (by kernel_rfl) (enters_of Try.func29 (by kernel_rfl) rfl) (fun v hw => (left_any hw.1.dk).mono (by rintro e w' ⟨rfl, rfl⟩; exact ⟨rfl, hw⟩))
        | 24, _, ho =>
          cases ho
          refine stepG_of (fun g d hdep => ?_)
          exact step_fieldAddr rfl (by exact ⟨_, rfl, by kernel_rfl⟩) _ _ _ _ rfl rfl (fun v hw => field_rd2 v _)
        | 25, _, ho =>
          cases ho
          refine stepG_of (fun g d hdep => ?_)
          exact step_load rfl (by exact ⟨_, rfl, by kernel_rfl⟩) _ _ _ rfl rfl (fun v hw => load_i64 hw.1.rf.u)
        | 26, _, ho =>
          cases ho
          refine stepG_of (fun g d hdep => ?_)
          exact step_binOp rfl (by exact ⟨_, rfl, by kernel_rfl⟩) _ _ _ _ _ _ _ rfl rfl rfl (fun v hw => neqK_f _ _)
        | 27, _, ho =>
          cases ho
          refine stepG_of (fun g d hdep => ?_)
          exact step_pick rfl trivial _ _ _ false rfl (by kernel_rfl) (by kernel_rfl)
      intro g d W hall hW
      first | refine hK _ _ ?_ | refine (‹∀ (a : Act) (w : World), Code.wp Try.prog _ _ a w → _›) _ _ ?_ | skip
      simp only [finL, List.getD_cons_zero, List.getD_cons_succ, Nat.zero_add, Nat.reduceAdd, List.setIfInBounds_toArray, List.set_cons_zero, List.set_cons_succ]
      have hSE := hW.1
      clear hK hall hW
      go_wp2
      go_roundw
      case rel => exact ⟨m + 1, D1, by simp, by omega, hSE, hfz1, by omega, by omega⟩
      case measure => simp [vnat]; omega
    · have hld := load_any hS0.dk
      obtain ⟨t, ht⟩ : ∃ t, nwT D0 = t := ⟨_, rfl⟩
      rw [ht] at hld
      have HT : Hid (nwT D0 = t) := ht
      obtain ⟨y, z, za, ze⟩ := t
      unfold ldV rV at hld
      dsimp only at hld
      clear ht
      go_wp2_with (first | (go_at_call 15; (with_reducible refine hld.mono ?_); rintro e v1 ⟨rfl, hb1⟩; obtain ⟨v2, hv2⟩ : ∃ v2, v1.alloc (.cells #[.int .i64 y.li, .int .i64 y.ro, .int .i64 y.ta] 23) = v2 := ⟨_, rfl⟩; have hb2 : Below v0.heap.size v0 v2 := (by rw [← hv2]; exact bel2 hb1 (al1' _ _)); have hS2 := hS0.carry hb2; have hy2 : v2.heap[v1.heap.size]? = some (.cells #[.int .i64 y.li, .int .i64 y.ro, .int .i64 y.ta] 23 (0, 0)) := (by rw [← hv2]; exact new_at rfl); have hrl := rLoad_any hS2.rf; rw [HT.out] at hrl; unfold ldV rV at hrl; dsimp only at hrl) | (go_at_call 22; (with_reducible refine hrl.mono ?_); rintro e v3 ⟨rfl, hb3⟩; obtain ⟨v4, hv4⟩ : ∃ v4, v3.alloc (.cells #[.int .i64 y.li, .int .i64 y.ro, .int .i64 y.ta] 23) = v4 := ⟨_, rfl⟩; have hb4 : Below v2.heap.size v2 v4 := (by rw [← hv4]; exact bel2 hb3 (al1' _ _)); have hSF := hS2.carry hb4; have hy4 := (hb4.block _ (lt_at hy2)).trans hy2; have hz4 : v4.heap[v3.heap.size]? = some (.cells #[.int .i64 y.li, .int .i64 y.ro, .int .i64 y.ta] 23 (0, 0)) := (by rw [← hv4]; exact new_at rfl); have y0 := cell_at hy4 0; have y1 := cell_at hy4 1; have y2 := cell_at hy4 2; have z0 := cell_at hz4 0; have z1 := cell_at hz4 1; have z2 := cell_at hz4 2))
      rename_i hK
      refine wp_region_any hmx ?_
      refine wpAny_tabG (G := (Nat × Nat)) (fun g i__ => ([(.pointer (some ⟨vd.heap.size, 0, none⟩)), (.slice (some ⟨g.1, 0, none⟩) 256 g.2), (.pointer (some ⟨vb.heap.size, 0, none⟩)), (.slice (some ⟨r, 0, none⟩) 256 256), (.bool true), (.bool false), (.bool false), (.pointer (some ⟨vd.heap.size, 0, none⟩)), (.bool (!D0.off)), (.pointer (some ⟨vb.heap.size, 1, none⟩)), (.bool D0.off), (.bool (!D0.off)), (.bool false), (.bool false), (.bool false), (.pointer (some ⟨vd.heap.size, 0, none⟩)), (.int .i64 D0.writes), (.pointer (some ⟨vb.heap.size, 3, none⟩)), (.int .i64 D0.writes), (.bool false), (.bool false), (.bool false), (.pointer (some ⟨vd.heap.size, 0, none⟩)), (.int .i64 (left D0)), (.pointer (some ⟨vb.heap.size, 2, none⟩)), (.int .i64 (left D0)), (.bool false), (.bool false)] : List Value).getD i__ undef) (fun g f V => Lk w vd.heap.size vb.heap.size r 256 D0 g (f 1) V) (by kernel_rfl) ((0, 0)) (Lk.start hSF (0, 0)) ?step3 ?fin3
      case step3 =>
        intro i o ho
        have hi : i < 28 := getElem?_lt ho
        match i, hi, ho with
        | 0, _, ho =>
          cases ho
          refine stepG_of (fun g d hdep => ?_)
          exact step_move rfl trivial _ rfl (by kernel_rfl)
        | 1, _, ho =>
          cases ho
          exact stepG_call rfl (fun _ => trivial) 16 _ _ (fun _ => [.pointer (some ⟨vd.heap.size, 0, none⟩)]) rfl (fun g => by kernel_rfl) (enters_of Try.func16 (by kernel_rfl) rfl) (fun g d V hJ hun hdep hcl => (image_any hJ.1.dk).mono (by rintro e V' ⟨g2, c2, rfl, ho, hb⟩; refine ⟨(g2, c2), rfl, (fun j hj => match j, hj with | 1, hj => (by rw [hj] at hun; cases hun)  | 0, _ => rfl | 2, _ => rfl | 3, _ => rfl | 4, _ => rfl | 5, _ => rfl | 6, _ => rfl | 7, _ => rfl | 8, _ => rfl | 9, _ => rfl | 10, _ => rfl | 11, _ => rfl | 12, _ => rfl | 13, _ => rfl | 14, _ => rfl | 15, _ => rfl | 16, _ => rfl | 17, _ => rfl | 18, _ => rfl | 19, _ => rfl | 20, _ => rfl | 21, _ => rfl | 22, _ => rfl | 23, _ => rfl | 24, _ => rfl | 25, _ => rfl | 26, _ => rfl | 27, _ => rfl | _ + 28, _ => rfl), ?_⟩; show Lk w vd.heap.size vb.heap.size r 256 D0 (g2, c2) true V'; exact ⟨hJ.1.carry hb, fun _ => ⟨b_own ho hJ.1.dk.len.symm, row_lt0 ho⟩⟩))
        | 2, _, ho =>
          cases ho
          refine stepG_of (fun g d hdep => ?_)
          exact step_fieldAddr rfl trivial _ _ _ _ rfl rfl (fun v hw => field_rd0 v _ _)
        | 3, _, ho =>
          cases ho
          refine stepG_of (fun g d hdep => ?_)
          exact step_load rfl trivial _ _ _ rfl rfl (fun v hw => load_sl hw.1.rf.b)
        | 4, _, ho =>
          cases ho
          refine stepG_of (fun g d hdep => ?_)
          exact step_call rfl trivial 10 _ _ [(.slice (some ⟨g.1, 0, none⟩) 256 g.2), (.slice (some ⟨r, 0, none⟩) 256 256)] rfl (by kernel_rfl) (enters_of Try.func10 (by kernel_rfl) rfl) (fun v hw => by have h1 : d 1 = true := hdep 1 (by kernel_rfl); have hw' := hw; rw [h1] at hw'; exact (sameB_lk hw').mono (by rintro e w' ⟨rfl, hb⟩; exact ⟨rfl, by show Lk w vd.heap.size vb.heap.size r 256 D0 g (d 1) w'; rw [h1]; exact hw'.carry hb⟩))
        | 5, _, ho =>
          cases ho
          refine stepG_of (fun g d hdep => ?_)
          exact step_unOp rfl trivial _ _ _ _ rfl rfl (fun v hw => un_not true v)
        | 6, _, ho =>
          cases ho
          refine stepG_of (fun g d hdep => ?_)
          exact step_move rfl trivial _ rfl (by kernel_rfl)
        | 7, _, ho =>
          cases ho
          refine stepG_of (fun g d hdep => ?_)
          exact step_move rfl (by exact ⟨_, rfl, by kernel_rfl⟩) _ rfl (by kernel_rfl)
        | 8, _, ho =>
          cases ho
          refine stepG_of (fun g d hdep => ?_)
          exact step_call rfl (by exact ⟨_, rfl, by kernel_rfl⟩) 28 _ _ [(.pointer (some ⟨vd.heap.size, 0, none⟩))] rfl (by kernel_rfl) (enters_of Try.func28 (by kernel_rfl) rfl) (fun v hw => (on_any hw.1.dk).mono (by rintro e w' ⟨rfl, rfl⟩; exact ⟨rfl, hw⟩))
        | 9, _, ho =>
          cases ho
          refine stepG_of (fun g d hdep => ?_)
          exact step_fieldAddr rfl (by exact ⟨_, rfl, by kernel_rfl⟩) _ _ _ _ rfl rfl (fun v hw => field_rd1 v _)
        | 10, _, ho =>
          cases ho
          refine stepG_of (fun g d hdep => ?_)
          exact step_load rfl (by exact ⟨_, rfl, by kernel_rfl⟩) _ _ _ rfl rfl (fun v hw => load_bo hw.1.rf.f)
        | 11, _, ho =>
          cases ho
          refine stepG_of (fun g d hdep => ?_)
          exact step_unOp rfl (by exact ⟨_, rfl, by kernel_rfl⟩) _ _ _ _ rfl rfl (fun v hw => un_not D0.off v)
        | 12, _, ho =>
          cases ho
          refine stepG_of (fun g d hdep => ?_)
          exact step_binOp rfl (by exact ⟨_, rfl, by kernel_rfl⟩) _ _ _ _ _ _ _ rfl rfl rfl (fun v hw => neqB_f _ _ _ _)
        | 13, _, ho =>
          cases ho
          refine stepG_of (fun g d hdep => ?_)
          exact step_pick rfl trivial _ _ _ false rfl (by kernel_rfl) (by kernel_rfl)
        | 14, _, ho =>
          cases ho
          refine stepG_of (fun g d hdep => ?_)
          exact step_move rfl trivial _ rfl (by kernel_rfl)
        | 15, _, ho =>
          cases ho
          refine stepG_of (fun g d hdep => ?_)
          exact step_move rfl (by exact ⟨_, rfl, by kernel_rfl⟩) _ rfl (by kernel_rfl)
        | 16, _, ho =>
          cases ho
          refine stepG_of (fun g d hdep => ?_)
          exact step_call rfl (by exact ⟨_, rfl, by kernel_rfl⟩) 17 _ _ [(.pointer (some ⟨vd.heap.size, 0, none⟩))] rfl (by kernel_rfl) (enters_of Try.func17 (by kernel_rfl) rfl) (fun v hw => (writes_any hw.1.dk).mono (by rintro e w' ⟨rfl, rfl⟩; exact ⟨rfl, hw⟩))
        | 17, _, ho =>
          cases ho
          refine stepG_of (fun g d hdep => ?_)
          exact step_fieldAddr rfl (by exact ⟨_, rfl, by kernel_rfl⟩) _ _ _ _ rfl rfl (fun v hw => field_rd3 v _)
        | 18, _, ho =>
          cases ho
          refine stepG_of (fun g d hdep => ?_)
          exact step_load rfl (by exact ⟨_, rfl, by kernel_rfl⟩) _ _ _ rfl rfl (fun v hw => load_i64 hw.1.rf.n)
        | 19, _, ho =>
          cases ho
          refine stepG_of (fun g d hdep => ?_)
          exact step_binOp rfl (by exact ⟨_, rfl, by kernel_rfl⟩) _ _ _ _ _ _ _ rfl rfl rfl (fun v hw => neqK_f _ _)
        | 20, _, ho =>
          cases ho
          refine stepG_of (fun g d hdep => ?_)
          exact step_pick rfl trivial _ _ _ false rfl (by kernel_rfl) (by kernel_rfl)
        | 21, _, ho =>
          cases ho
          refine stepG_of (fun g d hdep => ?_)
          exact step_move rfl trivial _ rfl (by kernel_rfl)
        | 22, _, ho =>
          cases ho
          refine stepG_of (fun g d hdep => ?_)
          exact step_move rfl (by exact ⟨_, rfl, by kernel_rfl⟩) _ rfl (by kernel_rfl)
        | 23, _, ho =>
          cases ho
          refine stepG_of (fun g d hdep => ?_)
          exact step_call rfl (by exact ⟨_, rfl, by kernel_rfl⟩) 29 _ _ [(.pointer (some ⟨vd.heap.size, 0, none⟩))] rfl (by kernel_rfl) (enters_of Try.func29 (by kernel_rfl) rfl) (fun v hw => (left_any hw.1.dk).mono (by rintro e w' ⟨rfl, rfl⟩; exact ⟨rfl, hw⟩))
        | 24, _, ho =>
          cases ho
          refine stepG_of (fun g d hdep => ?_)
          exact step_fieldAddr rfl (by exact ⟨_, rfl, by kernel_rfl⟩) _ _ _ _ rfl rfl (fun v hw => field_rd2 v _)
        | 25, _, ho =>
          cases ho
          refine stepG_of (fun g d hdep => ?_)
          exact step_load rfl (by exact ⟨_, rfl, by kernel_rfl⟩) _ _ _ rfl rfl (fun v hw => load_i64 hw.1.rf.u)
        | 26, _, ho =>
          cases ho
          refine stepG_of (fun g d hdep => ?_)
          exact step_binOp rfl (by exact ⟨_, rfl, by kernel_rfl⟩) _ _ _ _ _ _ _ rfl rfl rfl (fun v hw => neqK_f _ _)
        | 27, _, ho =>
          cases ho
          refine stepG_of (fun g d hdep => ?_)
          exact step_pick rfl trivial _ _ _ false rfl (by kernel_rfl) (by kernel_rfl)
      intro g d W hall hW
      first | refine hK _ _ ?_ | refine (‹∀ (a : Act) (w : World), Code.wp Try.prog _ _ a w → _›) _ _ ?_ | skip
      simp only [finL, List.getD_cons_zero, List.getD_cons_succ, Nat.zero_add, Nat.reduceAdd, List.setIfInBounds_toArray, List.set_cons_zero, List.set_cons_succ]
      have hSE := hW.1
      clear hK hall hW
      go_wp2
      go_roundw
      case rel => exact ⟨m + 1, D0, by simp, by omega, hSE, hfz, hwr0, by omega⟩
      case measure => simp [vnat]; omega
    · have hfu := fuse_any hS0.dk a
      obtain ⟨D1, hD1⟩ : ∃ D1, dFuse D0 a = D1 := ⟨_, rfl⟩
      have hfz1 : Fz D1 := by rw [← hD1]; exact dFuse_fz _ _ hab
      have hwr1 : D1.writes = D0.writes := by rw [← hD1]; rfl
      rw [hD1] at hfu
      have HD : Hid (dFuse D0 a = D1) := hD1
      clear hD1
      go_wp2_with (first | (go_at_call 12; (with_reducible refine hfu.mono ?_); rintro e v1 ⟨rfl, hd1, ht1⟩; have hS1 := hS0.tp hd1 ht1; have hO1 := hO0.tp hS0 ht1; have p1 := cell_at hO1 1; have hrs := rset_any hS1.rf a; rw [HD.out] at hrs) | (go_at_call 23; (with_reducible refine hrs.mono ?_); rintro e v2 ⟨rfl, hd2, ht2⟩; have hSF := hS1.tf hd2 ht2))
      rename_i hK
      refine wp_region_any hmx ?_
      refine wpAny_tabG (G := (Nat × Nat)) (fun g i__ => ([(.pointer (some ⟨vd.heap.size, 0, none⟩)), (.slice (some ⟨g.1, 0, none⟩) 256 g.2), (.pointer (some ⟨vb.heap.size, 0, none⟩)), (.slice (some ⟨r, 0, none⟩) 256 256), (.bool true), (.bool false), (.bool false), (.pointer (some ⟨vd.heap.size, 0, none⟩)), (.bool (!D1.off)), (.pointer (some ⟨vb.heap.size, 1, none⟩)), (.bool D1.off), (.bool (!D1.off)), (.bool false), (.bool false), (.bool false), (.pointer (some ⟨vd.heap.size, 0, none⟩)), (.int .i64 D1.writes), (.pointer (some ⟨vb.heap.size, 3, none⟩)), (.int .i64 D1.writes), (.bool false), (.bool false), (.bool false), (.pointer (some ⟨vd.heap.size, 0, none⟩)), (.int .i64 (left D1)), (.pointer (some ⟨vb.heap.size, 2, none⟩)), (.int .i64 (left D1)), (.bool false), (.bool false)] : List Value).getD i__ undef) (fun g f V => Lk w vd.heap.size vb.heap.size r 256 D1 g (f 1) V) (by kernel_rfl) ((0, 0)) (Lk.start hSF (0, 0)) ?step4 ?fin4
      case step4 =>
        intro i o ho
        have hi : i < 28 := getElem?_lt ho
        match i, hi, ho with
        | 0, _, ho =>
          cases ho
          refine stepG_of (fun g d hdep => ?_)
          exact step_move rfl trivial _ rfl (by kernel_rfl)
        | 1, _, ho =>
          cases ho
          exact stepG_call rfl (fun _ => trivial) 16 _ _ (fun _ => [.pointer (some ⟨vd.heap.size, 0, none⟩)]) rfl (fun g => by kernel_rfl) (enters_of Try.func16 (by kernel_rfl) rfl) (fun g d V hJ hun hdep hcl => (image_any hJ.1.dk).mono (by rintro e V' ⟨g2, c2, rfl, ho, hb⟩; refine ⟨(g2, c2), rfl, (fun j hj => match j, hj with | 1, hj => (by rw [hj] at hun; cases hun)  | 0, _ => rfl | 2, _ => rfl | 3, _ => rfl | 4, _ => rfl | 5, _ => rfl | 6, _ => rfl | 7, _ => rfl | 8, _ => rfl | 9, _ => rfl | 10, _ => rfl | 11, _ => rfl | 12, _ => rfl | 13, _ => rfl | 14, _ => rfl | 15, _ => rfl | 16, _ => rfl | 17, _ => rfl | 18, _ => rfl | 19, _ => rfl | 20, _ => rfl | 21, _ => rfl | 22, _ => rfl | 23, _ => rfl | 24, _ => rfl | 25, _ => rfl | 26, _ => rfl | 27, _ => rfl | _ + 28, _ => rfl), ?_⟩; show Lk w vd.heap.size vb.heap.size r 256 D1 (g2, c2) true V'; exact ⟨hJ.1.carry hb, fun _ => ⟨b_own ho hJ.1.dk.len.symm, row_lt0 ho⟩⟩))
        | 2, _, ho =>
          cases ho
          refine stepG_of (fun g d hdep => ?_)
          exact step_fieldAddr rfl trivial _ _ _ _ rfl rfl (fun v hw => field_rd0 v _ _)
        | 3, _, ho =>
          cases ho
          refine stepG_of (fun g d hdep => ?_)
          exact step_load rfl trivial _ _ _ rfl rfl (fun v hw => load_sl hw.1.rf.b)
        | 4, _, ho =>
          cases ho
          refine stepG_of (fun g d hdep => ?_)
          exact step_call rfl trivial 10 _ _ [(.slice (some ⟨g.1, 0, none⟩) 256 g.2), (.slice (some ⟨r, 0, none⟩) 256 256)] rfl (by kernel_rfl) (enters_of Try.func10 (by kernel_rfl) rfl) (fun v hw => by have h1 : d 1 = true := hdep 1 (by kernel_rfl); have hw' := hw; rw [h1] at hw'; exact (sameB_lk hw').mono (by rintro e w' ⟨rfl, hb⟩; exact ⟨rfl, by show Lk w vd.heap.size vb.heap.size r 256 D1 g (d 1) w'; rw [h1]; exact hw'.carry hb⟩))
        | 5, _, ho =>
          cases ho
          refine stepG_of (fun g d hdep => ?_)
          exact step_unOp rfl trivial _ _ _ _ rfl rfl (fun v hw => un_not true v)
        | 6, _, ho =>
          cases ho
          refine stepG_of (fun g d hdep => ?_)
          exact step_move rfl trivial _ rfl (by kernel_rfl)
        | 7, _, ho =>
          cases ho
          refine stepG_of (fun g d hdep => ?_)
          exact step_move rfl (by exact ⟨_, rfl, by kernel_rfl⟩) _ rfl (by kernel_rfl)
        | 8, _, ho =>
          cases ho
          refine stepG_of (fun g d hdep => ?_)
          exact step_call rfl (by exact ⟨_, rfl, by kernel_rfl⟩) 28 _ _ [(.pointer (some ⟨vd.heap.size, 0, none⟩))] rfl (by kernel_rfl) (enters_of Try.func28 (by kernel_rfl) rfl) (fun v hw => (on_any hw.1.dk).mono (by rintro e w' ⟨rfl, rfl⟩; exact ⟨rfl, hw⟩))
        | 9, _, ho =>
          cases ho
          refine stepG_of (fun g d hdep => ?_)
          exact step_fieldAddr rfl (by exact ⟨_, rfl, by kernel_rfl⟩) _ _ _ _ rfl rfl (fun v hw => field_rd1 v _)
        | 10, _, ho =>
          cases ho
          refine stepG_of (fun g d hdep => ?_)
          exact step_load rfl (by exact ⟨_, rfl, by kernel_rfl⟩) _ _ _ rfl rfl (fun v hw => load_bo hw.1.rf.f)
        | 11, _, ho =>
          cases ho
          refine stepG_of (fun g d hdep => ?_)
          exact step_unOp rfl (by exact ⟨_, rfl, by kernel_rfl⟩) _ _ _ _ rfl rfl (fun v hw => un_not D1.off v)
        | 12, _, ho =>
          cases ho
          refine stepG_of (fun g d hdep => ?_)
          exact step_binOp rfl (by exact ⟨_, rfl, by kernel_rfl⟩) _ _ _ _ _ _ _ rfl rfl rfl (fun v hw => neqB_f _ _ _ _)
        | 13, _, ho =>
          cases ho
          refine stepG_of (fun g d hdep => ?_)
          exact step_pick rfl trivial _ _ _ false rfl (by kernel_rfl) (by kernel_rfl)
        | 14, _, ho =>
          cases ho
          refine stepG_of (fun g d hdep => ?_)
          exact step_move rfl trivial _ rfl (by kernel_rfl)
        | 15, _, ho =>
          cases ho
          refine stepG_of (fun g d hdep => ?_)
          exact step_move rfl (by exact ⟨_, rfl, by kernel_rfl⟩) _ rfl (by kernel_rfl)
        | 16, _, ho =>
          cases ho
          refine stepG_of (fun g d hdep => ?_)
          exact step_call rfl (by exact ⟨_, rfl, by kernel_rfl⟩) 17 _ _ [(.pointer (some ⟨vd.heap.size, 0, none⟩))] rfl (by kernel_rfl) (enters_of Try.func17 (by kernel_rfl) rfl) (fun v hw => (writes_any hw.1.dk).mono (by rintro e w' ⟨rfl, rfl⟩; exact ⟨rfl, hw⟩))
        | 17, _, ho =>
          cases ho
          refine stepG_of (fun g d hdep => ?_)
          exact step_fieldAddr rfl (by exact ⟨_, rfl, by kernel_rfl⟩) _ _ _ _ rfl rfl (fun v hw => field_rd3 v _)
        | 18, _, ho =>
          cases ho
          refine stepG_of (fun g d hdep => ?_)
          exact step_load rfl (by exact ⟨_, rfl, by kernel_rfl⟩) _ _ _ rfl rfl (fun v hw => load_i64 hw.1.rf.n)
        | 19, _, ho =>
          cases ho
          refine stepG_of (fun g d hdep => ?_)
          exact step_binOp rfl (by exact ⟨_, rfl, by kernel_rfl⟩) _ _ _ _ _ _ _ rfl rfl rfl (fun v hw => neqK_f _ _)
        | 20, _, ho =>
          cases ho
          refine stepG_of (fun g d hdep => ?_)
          exact step_pick rfl trivial _ _ _ false rfl (by kernel_rfl) (by kernel_rfl)
        | 21, _, ho =>
          cases ho
          refine stepG_of (fun g d hdep => ?_)
          exact step_move rfl trivial _ rfl (by kernel_rfl)
        | 22, _, ho =>
          cases ho
          refine stepG_of (fun g d hdep => ?_)
          exact step_move rfl (by exact ⟨_, rfl, by kernel_rfl⟩) _ rfl (by kernel_rfl)
        | 23, _, ho =>
          cases ho
          refine stepG_of (fun g d hdep => ?_)
          exact step_call rfl (by exact ⟨_, rfl, by kernel_rfl⟩) 29 _ _ [(.pointer (some ⟨vd.heap.size, 0, none⟩))] rfl (by kernel_rfl) (enters_of Try.func29 (by kernel_rfl) rfl) (fun v hw => (left_any hw.1.dk).mono (by rintro e w' ⟨rfl, rfl⟩; exact ⟨rfl, hw⟩))
        | 24, _, ho =>
          cases ho
          refine stepG_of (fun g d hdep => ?_)
          exact step_fieldAddr rfl (by exact ⟨_, rfl, by kernel_rfl⟩) _ _ _ _ rfl rfl (fun v hw => field_rd2 v _)
        | 25, _, ho =>
          cases ho
          refine stepG_of (fun g d hdep => ?_)
          exact step_load rfl (by exact ⟨_, rfl, by kernel_rfl⟩) _ _ _ rfl rfl (fun v hw => load_i64 hw.1.rf.u)
        | 26, _, ho =>
          cases ho
          refine stepG_of (fun g d hdep => ?_)
          exact step_binOp rfl (by exact ⟨_, rfl, by kernel_rfl⟩) _ _ _ _ _ _ _ rfl rfl rfl (fun v hw => neqK_f _ _)
        | 27, _, ho =>
          cases ho
          refine stepG_of (fun g d hdep => ?_)
          exact step_pick rfl trivial _ _ _ false rfl (by kernel_rfl) (by kernel_rfl)
      intro g d W hall hW
      first | refine hK _ _ ?_ | refine (‹∀ (a : Act) (w : World), Code.wp Try.prog _ _ a w → _›) _ _ ?_ | skip
      simp only [finL, List.getD_cons_zero, List.getD_cons_succ, Nat.zero_add, Nat.reduceAdd, List.setIfInBounds_toArray, List.set_cons_zero, List.set_cons_succ]
      have hSE := hW.1
      clear hK hall hW
      go_wp2
      go_roundw
      case rel => exact ⟨m + 1, D1, by simp, by omega, hSE, hfz1, by omega, by omega⟩
      case measure => simp [vnat]; omega
    · have hcu := cut_any hS0.dk
      obtain ⟨D1, hD1⟩ : ∃ D1 : Dst, { D0 with off := true } = D1 := ⟨_, rfl⟩
      have hfz1 : Fz D1 := by rw [← hD1]; exact hfz
      have hwr1 : D1.writes = D0.writes := by rw [← hD1]
      rw [hD1] at hcu
      have HD : Hid ({ D0 with off := true } = D1) := hD1
      clear hD1
      go_wp2_with (go_at_call 24; (with_reducible refine hcu.mono ?_); rintro e v1 ⟨rfl, hd1, ht1⟩; have hS1 := hS0.tp hd1 ht1; have cf : v1.cell? ⟨vb.heap.size, 1, none⟩ = some (.bool D0.off) := hS1.rf.f; have zf := hS1.rf.zaw 1; obtain ⟨v2, hv2⟩ : ∃ v2, v1.setCell ⟨vb.heap.size, 1, none⟩ (.bool true) = v2 := ⟨_, rfl⟩; have hSF : Sp w vd.heap.size vb.heap.size r 256 D1 D1 v2 := (by rw [← hv2]; exact hS1.tf (by have q := hS1.rf.set1 true; rw [HD.out] at q; exact q) (Tf.set _ _ _ _ _ _ (by omega) (by omega))))
      rename_i hK
      refine wp_region_any hmx ?_
      refine wpAny_tabG (G := (Nat × Nat)) (fun g i__ => ([(.pointer (some ⟨vd.heap.size, 0, none⟩)), (.slice (some ⟨g.1, 0, none⟩) 256 g.2), (.pointer (some ⟨vb.heap.size, 0, none⟩)), (.slice (some ⟨r, 0, none⟩) 256 256), (.bool true), (.bool false), (.bool false), (.pointer (some ⟨vd.heap.size, 0, none⟩)), (.bool (!D1.off)), (.pointer (some ⟨vb.heap.size, 1, none⟩)), (.bool D1.off), (.bool (!D1.off)), (.bool false), (.bool false), (.bool false), (.pointer (some ⟨vd.heap.size, 0, none⟩)), (.int .i64 D1.writes), (.pointer (some ⟨vb.heap.size, 3, none⟩)), (.int .i64 D1.writes), (.bool false), (.bool false), (.bool false), (.pointer (some ⟨vd.heap.size, 0, none⟩)), (.int .i64 (left D1)), (.pointer (some ⟨vb.heap.size, 2, none⟩)), (.int .i64 (left D1)), (.bool false), (.bool false)] : List Value).getD i__ undef) (fun g f V => Lk w vd.heap.size vb.heap.size r 256 D1 g (f 1) V) (by kernel_rfl) ((0, 0)) (Lk.start hSF (0, 0)) ?step5 ?fin5
      case step5 =>
        intro i o ho
        have hi : i < 28 := getElem?_lt ho
        match i, hi, ho with
        | 0, _, ho =>
          cases ho
          refine stepG_of (fun g d hdep => ?_)
          exact step_move rfl trivial _ rfl (by kernel_rfl)
        | 1, _, ho =>
          cases ho
          exact stepG_call rfl (fun _ => trivial) 16 _ _ (fun _ => [.pointer (some ⟨vd.heap.size, 0, none⟩)]) rfl (fun g => by kernel_rfl) (enters_of Try.func16 (by kernel_rfl) rfl) (fun g d V hJ hun hdep hcl => (image_any hJ.1.dk).mono (by rintro e V' ⟨g2, c2, rfl, ho, hb⟩; refine ⟨(g2, c2), rfl, (fun j hj => match j, hj with | 1, hj => (by rw [hj] at hun; cases hun)  | 0, _ => rfl | 2, _ => rfl | 3, _ => rfl | 4, _ => rfl | 5, _ => rfl | 6, _ => rfl | 7, _ => rfl | 8, _ => rfl | 9, _ => rfl | 10, _ => rfl | 11, _ => rfl | 12, _ => rfl | 13, _ => rfl | 14, _ => rfl | 15, _ => rfl | 16, _ => rfl | 17, _ => rfl | 18, _ => rfl | 19, _ => rfl | 20, _ => rfl | 21, _ => rfl | 22, _ => rfl | 23, _ => rfl | 24, _ => rfl | 25, _ => rfl | 26, _ => rfl | 27, _ => rfl | _ + 28, _ => rfl), ?_⟩; show Lk w vd.heap.size vb.heap.size r 256 D1 (g2, c2) true V'; exact ⟨hJ.1.carry hb, fun _ => ⟨b_own ho hJ.1.dk.len.symm, row_lt0 ho⟩⟩))
        | 2, _, ho =>
          cases ho
          refine stepG_of (fun g d hdep => ?_)
          exact step_fieldAddr rfl trivial _ _ _ _ rfl rfl (fun v hw => field_rd0 v _ _)
        | 3, _, ho =>
          cases ho
          refine stepG_of (fun g d hdep => ?_)
          exact step_load rfl trivial _ _ _ rfl rfl (fun v hw => load_sl hw.1.rf.b)
        | 4, _, ho =>
          cases ho
          refine stepG_of (fun g d hdep => ?_)
          exact step_call rfl trivial 10 _ _ [(.slice (some ⟨g.1, 0, none⟩) 256 g.2), (.slice (some ⟨r, 0, none⟩) 256 256)] rfl (by kernel_rfl) (enters_of Try.func10 (by kernel_rfl) rfl) (fun v hw => by have h1 : d 1 = true := hdep 1 (by kernel_rfl); have hw' := hw; rw [h1] at hw'; exact (sameB_lk hw').mono (by rintro e w' ⟨rfl, hb⟩; exact ⟨rfl, by show Lk w vd.heap.size vb.heap.size r 256 D1 g (d 1) w'; rw [h1]; exact hw'.carry hb⟩))
        | 5, _, ho =>
          cases ho
          refine stepG_of (fun g d hdep => ?_)
          exact step_unOp rfl trivial _ _ _ _ rfl rfl (fun v hw => un_not true v)
        | 6, _, ho =>
          cases ho
          refine stepG_of (fun g d hdep => ?_)
          exact step_move rfl trivial _ rfl (by kernel_rfl)
        | 7, _, ho =>
          cases ho
          refine stepG_of (fun g d hdep => ?_)
          exact step_move rfl (by exact ⟨_, rfl, by kernel_rfl⟩) _ rfl (by kernel_rfl)
        | 8, _, ho =>
          cases ho
          refine stepG_of (fun g d hdep => ?_)
          exact step_call rfl (by exact ⟨_, rfl, by kernel_rfl⟩) 28 _ _ [(.pointer (some ⟨vd.heap.size, 0, none⟩))] rfl (by kernel_rfl) (enters_of Try.func28 (by kernel_rfl) rfl) (fun v hw => (on_any hw.1.dk).mono (by rintro e w' ⟨rfl, rfl⟩; exact ⟨rfl, hw⟩))
        | 9, _, ho =>
          cases ho
          refine stepG_of (fun g d hdep => ?_)
          exact step_fieldAddr rfl (by exact ⟨_, rfl, by kernel_rfl⟩) _ _ _ _ rfl rfl (fun v hw => field_rd1 v _)
        | 10, _, ho =>
          cases ho
          refine stepG_of (fun g d hdep => ?_)
          exact step_load rfl (by exact ⟨_, rfl, by kernel_rfl⟩) _ _ _ rfl rfl (fun v hw => load_bo hw.1.rf.f)
        | 11, _, ho =>
          cases ho
          refine stepG_of (fun g d hdep => ?_)
          exact step_unOp rfl (by exact ⟨_, rfl, by kernel_rfl⟩) _ _ _ _ rfl rfl (fun v hw => un_not D1.off v)
        | 12, _, ho =>
          cases ho
          refine stepG_of (fun g d hdep => ?_)
          exact step_binOp rfl (by exact ⟨_, rfl, by kernel_rfl⟩) _ _ _ _ _ _ _ rfl rfl rfl (fun v hw => neqB_f _ _ _ _)
        | 13, _, ho =>
          cases ho
          refine stepG_of (fun g d hdep => ?_)
          exact step_pick rfl trivial _ _ _ false rfl (by kernel_rfl) (by kernel_rfl)
        | 14, _, ho =>
          cases ho
          refine stepG_of (fun g d hdep => ?_)
          exact step_move rfl trivial _ rfl (by kernel_rfl)
        | 15, _, ho =>
          cases ho
          refine stepG_of (fun g d hdep => ?_)
          exact step_move rfl (by exact ⟨_, rfl, by kernel_rfl⟩) _ rfl (by kernel_rfl)
        | 16, _, ho =>
          cases ho
          refine stepG_of (fun g d hdep => ?_)
          exact step_call rfl (by exact ⟨_, rfl, by kernel_rfl⟩) 17 _ _ [(.pointer (some ⟨vd.heap.size, 0, none⟩))] rfl (by kernel_rfl) (enters_of Try.func17 (by kernel_rfl) rfl) (fun v hw => (writes_any hw.1.dk).mono (by rintro e w' ⟨rfl, rfl⟩; exact ⟨rfl, hw⟩))
        | 17, _, ho =>
          cases ho
          refine stepG_of (fun g d hdep => ?_)
          exact step_fieldAddr rfl (by exact ⟨_, rfl, by kernel_rfl⟩) _ _ _ _ rfl rfl (fun v hw => field_rd3 v _)
        | 18, _, ho =>
          cases ho
          refine stepG_of (fun g d hdep => ?_)
          exact step_load rfl (by exact ⟨_, rfl, by kernel_rfl⟩) _ _ _ rfl rfl (fun v hw => load_i64 hw.1.rf.n)
        | 19, _, ho =>
          cases ho
          refine stepG_of (fun g d hdep => ?_)
          exact step_binOp rfl (by exact ⟨_, rfl, by kernel_rfl⟩) _ _ _ _ _ _ _ rfl rfl rfl (fun v hw => neqK_f _ _)
        | 20, _, ho =>
          cases ho
          refine stepG_of (fun g d hdep => ?_)
          exact step_pick rfl trivial _ _ _ false rfl (by kernel_rfl) (by kernel_rfl)
        | 21, _, ho =>
          cases ho
          refine stepG_of (fun g d hdep => ?_)
          exact step_move rfl trivial _ rfl (by kernel_rfl)
        | 22, _, ho =>
          cases ho
          refine stepG_of (fun g d hdep => ?_)
          exact step_move rfl (by exact ⟨_, rfl, by kernel_rfl⟩) _ rfl (by kernel_rfl)
        | 23, _, ho =>
          cases ho
          refine stepG_of (fun g d hdep => ?_)
          exact step_call rfl (by exact ⟨_, rfl, by kernel_rfl⟩) 29 _ _ [(.pointer (some ⟨vd.heap.size, 0, none⟩))] rfl (by kernel_rfl) (enters_of Try.func29 (by kernel_rfl) rfl) (fun v hw => (left_any hw.1.dk).mono (by rintro e w' ⟨rfl, rfl⟩; exact ⟨rfl, hw⟩))
        | 24, _, ho =>
          cases ho
          refine stepG_of (fun g d hdep => ?_)
          exact step_fieldAddr rfl (by exact ⟨_, rfl, by kernel_rfl⟩) _ _ _ _ rfl rfl (fun v hw => field_rd2 v _)
        | 25, _, ho =>
          cases ho
          refine stepG_of (fun g d hdep => ?_)
          exact step_load rfl (by exact ⟨_, rfl, by kernel_rfl⟩) _ _ _ rfl rfl (fun v hw => load_i64 hw.1.rf.u)
        | 26, _, ho =>
          cases ho
          refine stepG_of (fun g d hdep => ?_)
          exact step_binOp rfl (by exact ⟨_, rfl, by kernel_rfl⟩) _ _ _ _ _ _ _ rfl rfl rfl (fun v hw => neqK_f _ _)
        | 27, _, ho =>
          cases ho
          refine stepG_of (fun g d hdep => ?_)
          exact step_pick rfl trivial _ _ _ false rfl (by kernel_rfl) (by kernel_rfl)
      intro g d W hall hW
      first | refine hK _ _ ?_ | refine (‹∀ (a : Act) (w : World), Code.wp Try.prog _ _ a w → _›) _ _ ?_ | skip
      simp only [finL, List.getD_cons_zero, List.getD_cons_succ, Nat.zero_add, Nat.reduceAdd, List.setIfInBounds_toArray, List.set_cons_zero, List.set_cons_succ]
      have hSE := hW.1
      clear hK hall hW
      go_wp2
      go_roundw
      case rel => exact ⟨m + 1, D1, by simp, by omega, hSE, hfz1, by omega, by omega⟩
      case measure => simp [vnat]; omega
    · have hcu := restore_any hS0.dk
      obtain ⟨D1, hD1⟩ : ∃ D1 : Dst, { D0 with off := false } = D1 := ⟨_, rfl⟩
      have hfz1 : Fz D1 := by rw [← hD1]; exact hfz
      have hwr1 : D1.writes = D0.writes := by rw [← hD1]
      rw [hD1] at hcu
      have HD : Hid ({ D0 with off := false } = D1) := hD1
      clear hD1
      go_wp2_with (go_at_call 14; (with_reducible refine hcu.mono ?_); rintro e v1 ⟨rfl, hd1, ht1⟩; have hS1 := hS0.tp hd1 ht1; have cf : v1.cell? ⟨vb.heap.size, 1, none⟩ = some (.bool D0.off) := hS1.rf.f; have zf := hS1.rf.zaw 1; obtain ⟨v2, hv2⟩ : ∃ v2, v1.setCell ⟨vb.heap.size, 1, none⟩ (.bool false) = v2 := ⟨_, rfl⟩; have hSF : Sp w vd.heap.size vb.heap.size r 256 D1 D1 v2 := (by rw [← hv2]; exact hS1.tf (by have q := hS1.rf.set1 false; rw [HD.out] at q; exact q) (Tf.set _ _ _ _ _ _ (by omega) (by omega))))
      rename_i hK
      refine wp_region_any hmx ?_
      refine wpAny_tabG (G := (Nat × Nat)) (fun g i__ => ([(.pointer (some ⟨vd.heap.size, 0, none⟩)), (.slice (some ⟨g.1, 0, none⟩) 256 g.2), (.pointer (some ⟨vb.heap.size, 0, none⟩)), (.slice (some ⟨r, 0, none⟩) 256 256), (.bool true), (.bool false), (.bool false), (.pointer (some ⟨vd.heap.size, 0, none⟩)), (.bool (!D1.off)), (.pointer (some ⟨vb.heap.size, 1, none⟩)), (.bool D1.off), (.bool (!D1.off)), (.bool false), (.bool false), (.bool false), (.pointer (some ⟨vd.heap.size, 0, none⟩)), (.int .i64 D1.writes), (.pointer (some ⟨vb.heap.size, 3, none⟩)), (.int .i64 D1.writes), (.bool false), (.bool false), (.bool false), (.pointer (some ⟨vd.heap.size, 0, none⟩)), (.int .i64 (left D1)), (.pointer (some ⟨vb.heap.size, 2, none⟩)), (.int .i64 (left D1)), (.bool false), (.bool false)] : List Value).getD i__ undef) (fun g f V => Lk w vd.heap.size vb.heap.size r 256 D1 g (f 1) V) (by kernel_rfl) ((0, 0)) (Lk.start hSF (0, 0)) ?step6 ?fin6
      case step6 =>
        intro i o ho
        have hi : i < 28 := getElem?_lt ho
        match i, hi, ho with
        | 0, _, ho =>
          cases ho
          refine stepG_of (fun g d hdep => ?_)
          exact step_move rfl trivial _ rfl (by kernel_rfl)
        | 1, _, ho =>
          cases ho
          exact stepG_call rfl (fun _ => trivial) 16 _ _ (fun _ => [.pointer (some ⟨vd.heap.size, 0, none⟩)]) rfl (fun g => by kernel_rfl) (enters_of Try.func16 (by kernel_rfl) rfl) (fun g d V hJ hun hdep hcl => (image_any hJ.1.dk).mono (by rintro e V' ⟨g2, c2, rfl, ho, hb⟩; refine ⟨(g2, c2), rfl, (fun j hj => match j, hj with | 1, hj => (by rw [hj] at hun; cases hun)  | 0, _ => rfl | 2, _ => rfl | 3, _ => rfl | 4, _ => rfl | 5, _ => rfl | 6, _ => rfl | 7, _ => rfl | 8, _ => rfl | 9, _ => rfl | 10, _ => rfl | 11, _ => rfl | 12, _ => rfl | 13, _ => rfl | 14, _ => rfl | 15, _ => rfl | 16, _ => rfl | 17, _ => rfl | 18, _ => rfl | 19, _ => rfl | 20, _ => rfl | 21, _ => rfl | 22, _ => rfl | 23, _ => rfl | 24, _ => rfl | 25, _ => rfl | 26, _ => rfl | 27, _ => rfl | _ + 28, _ => rfl), ?_⟩; show Lk w vd.heap.size vb.heap.size r 256 D1 (g2, c2) true V'; exact ⟨hJ.1.carry hb, fun _ => ⟨b_own ho hJ.1.dk.len.symm, row_lt0 ho⟩⟩))
        | 2, _, ho =>
          cases ho
          refine stepG_of (fun g d hdep => ?_)
          exact step_fieldAddr rfl trivial _ _ _ _ rfl rfl (fun v hw => field_rd0 v _ _)
        | 3, _, ho =>
          cases ho
          refine stepG_of (fun g d hdep => ?_)
          exact step_load rfl trivial _ _ _ rfl rfl (fun v hw => load_sl hw.1.rf.b)
        | 4, _, ho =>
          cases ho
          refine stepG_of (fun g d hdep => ?_)
          exact step_call rfl trivial 10 _ _ [(.slice (some ⟨g.1, 0, none⟩) 256 g.2), (.slice (some ⟨r, 0, none⟩) 256 256)] rfl (by kernel_rfl) (enters_of Try.func10 (by kernel_rfl) rfl) (fun v hw => by have h1 : d 1 = true := hdep 1 (by kernel_rfl); have hw' := hw; rw [h1] at hw'; exact (sameB_lk hw').mono (by rintro e w' ⟨rfl, hb⟩; exact ⟨rfl, by show Lk w vd.heap.size vb.heap.size r 256 D1 g (d 1) w'; rw [h1]; exact hw'.carry hb⟩))
        | 5, _, ho =>
          cases ho
          refine stepG_of (fun g d hdep => ?_)
          exact step_unOp rfl trivial _ _ _ _ rfl rfl (fun v hw => un_not true v)
        | 6, _, ho =>
          cases ho
          refine stepG_of (fun g d hdep => ?_)
          exact step_move rfl trivial _ rfl (by kernel_rfl)
        | 7, _, ho =>
          cases ho
          refine stepG_of (fun g d hdep => ?_)
          exact step_move rfl (by exact ⟨_, rfl, by kernel_rfl⟩) _ rfl (by kernel_rfl)
        | 8, _, ho =>
          cases ho
          refine stepG_of (fun g d hdep => ?_)
          exact step_call rfl (by exact ⟨_, rfl, by kernel_rfl⟩) 28 _ _ [(.pointer (some ⟨vd.heap.size, 0, none⟩))] rfl (by kernel_rfl) (enters_of Try.func28 (by kernel_rfl) rfl) (fun v hw => (on_any hw.1.dk).mono (by rintro e w' ⟨rfl, rfl⟩; exact ⟨rfl, hw⟩))
        | 9, _, ho =>
          cases ho
          refine stepG_of (fun g d hdep => ?_)
          exact step_fieldAddr rfl (by exact ⟨_, rfl, by kernel_rfl⟩) _ _ _ _ rfl rfl (fun v hw => field_rd1 v _)
        | 10, _, ho =>
          cases ho
          refine stepG_of (fun g d hdep => ?_)
          exact step_load rfl (by exact ⟨_, rfl, by kernel_rfl⟩) _ _ _ rfl rfl (fun v hw => load_bo hw.1.rf.f)
        | 11, _, ho =>
          cases ho
          refine stepG_of (fun g d hdep => ?_)
          exact step_unOp rfl (by exact ⟨_, rfl, by kernel_rfl⟩) _ _ _ _ rfl rfl (fun v hw => un_not D1.off v)
        | 12, _, ho =>
          cases ho
          refine stepG_of (fun g d hdep => ?_)
          exact step_binOp rfl (by exact ⟨_, rfl, by kernel_rfl⟩) _ _ _ _ _ _ _ rfl rfl rfl (fun v hw => neqB_f _ _ _ _)
        | 13, _, ho =>
          cases ho
          refine stepG_of (fun g d hdep => ?_)
          exact step_pick rfl trivial _ _ _ false rfl (by kernel_rfl) (by kernel_rfl)
        | 14, _, ho =>
          cases ho
          refine stepG_of (fun g d hdep => ?_)
          exact step_move rfl trivial _ rfl (by kernel_rfl)
        | 15, _, ho =>
          cases ho
          refine stepG_of (fun g d hdep => ?_)
          exact step_move rfl (by exact ⟨_, rfl, by kernel_rfl⟩) _ rfl (by kernel_rfl)
        | 16, _, ho =>
          cases ho
          refine stepG_of (fun g d hdep => ?_)
          exact step_call rfl (by exact ⟨_, rfl, by kernel_rfl⟩) 17 _ _ [(.pointer (some ⟨vd.heap.size, 0, none⟩))] rfl (by kernel_rfl) (enters_of Try.func17 (by kernel_rfl) rfl) (fun v hw => (writes_any hw.1.dk).mono (by rintro e w' ⟨rfl, rfl⟩; exact ⟨rfl, hw⟩))
        | 17, _, ho =>
          cases ho
          refine stepG_of (fun g d hdep => ?_)
          exact step_fieldAddr rfl (by exact ⟨_, rfl, by kernel_rfl⟩) _ _ _ _ rfl rfl (fun v hw => field_rd3 v _)
        | 18, _, ho =>
          cases ho
          refine stepG_of (fun g d hdep => ?_)
          exact step_load rfl (by exact ⟨_, rfl, by kernel_rfl⟩) _ _ _ rfl rfl (fun v hw => load_i64 hw.1.rf.n)
        | 19, _, ho =>
          cases ho
          refine stepG_of (fun g d hdep => ?_)
          exact step_binOp rfl (by exact ⟨_, rfl, by kernel_rfl⟩) _ _ _ _ _ _ _ rfl rfl rfl (fun v hw => neqK_f _ _)
        | 20, _, ho =>
          cases ho
          refine stepG_of (fun g d hdep => ?_)
          exact step_pick rfl trivial _ _ _ false rfl (by kernel_rfl) (by kernel_rfl)
        | 21, _, ho =>
          cases ho
          refine stepG_of (fun g d hdep => ?_)
          exact step_move rfl trivial _ rfl (by kernel_rfl)
        | 22, _, ho =>
          cases ho
          refine stepG_of (fun g d hdep => ?_)
          exact step_move rfl (by exact ⟨_, rfl, by kernel_rfl⟩) _ rfl (by kernel_rfl)
        | 23, _, ho =>
          cases ho
          refine stepG_of (fun g d hdep => ?_)
          exact step_call rfl (by exact ⟨_, rfl, by kernel_rfl⟩) 29 _ _ [(.pointer (some ⟨vd.heap.size, 0, none⟩))] rfl (by kernel_rfl) (enters_of Try.func29 (by kernel_rfl) rfl) (fun v hw => (left_any hw.1.dk).mono (by rintro e w' ⟨rfl, rfl⟩; exact ⟨rfl, hw⟩))
        | 24, _, ho =>
          cases ho
          refine stepG_of (fun g d hdep => ?_)
          exact step_fieldAddr rfl (by exact ⟨_, rfl, by kernel_rfl⟩) _ _ _ _ rfl rfl (fun v hw => field_rd2 v _)
        | 25, _, ho =>
          cases ho
          refine stepG_of (fun g d hdep => ?_)
          exact step_load rfl (by exact ⟨_, rfl, by kernel_rfl⟩) _ _ _ rfl rfl (fun v hw => load_i64 hw.1.rf.u)
        | 26, _, ho =>
          cases ho
          refine stepG_of (fun g d hdep => ?_)
          exact step_binOp rfl (by exact ⟨_, rfl, by kernel_rfl⟩) _ _ _ _ _ _ _ rfl rfl rfl (fun v hw => neqK_f _ _)
        | 27, _, ho =>
          cases ho
          refine stepG_of (fun g d hdep => ?_)
          exact step_pick rfl trivial _ _ _ false rfl (by kernel_rfl) (by kernel_rfl)
      intro g d W hall hW
      first | refine hK _ _ ?_ | refine (‹∀ (a : Act) (w : World), Code.wp Try.prog _ _ a w → _›) _ _ ?_ | skip
      simp only [finL, List.getD_cons_zero, List.getD_cons_succ, Nat.zero_add, Nat.reduceAdd, List.setIfInBounds_toArray, List.set_cons_zero, List.set_cons_succ]
      have hSE := hW.1
      clear hK hall hW
      go_wp2
      go_roundw
      case rel => exact ⟨m + 1, D1, by simp, by omega, hSE, hfz1, by omega, by omega⟩
      case measure => simp [vnat]; omega
    · have hen := rEnc_any x s v0
      unfold rV at hen
      by_cases hfit : Fit x s
      case neg =>
        go_wp2_with (go_at_call 25; (with_reducible refine hen.mono ?_); rintro e v1 ⟨-, hno, hb1⟩; obtain rfl := hno hfit; have hSF := hS0.carry hb1)
        rename_i hK
        refine wp_region_any hmx ?_
        refine wpAny_tabG (G := (Nat × Nat)) (fun g i__ => ([(.pointer (some ⟨vd.heap.size, 0, none⟩)), (.slice (some ⟨g.1, 0, none⟩) 256 g.2), (.pointer (some ⟨vb.heap.size, 0, none⟩)), (.slice (some ⟨r, 0, none⟩) 256 256), (.bool true), (.bool false), (.bool false), (.pointer (some ⟨vd.heap.size, 0, none⟩)), (.bool (!D0.off)), (.pointer (some ⟨vb.heap.size, 1, none⟩)), (.bool D0.off), (.bool (!D0.off)), (.bool false), (.bool false), (.bool false), (.pointer (some ⟨vd.heap.size, 0, none⟩)), (.int .i64 D0.writes), (.pointer (some ⟨vb.heap.size, 3, none⟩)), (.int .i64 D0.writes), (.bool false), (.bool false), (.bool false), (.pointer (some ⟨vd.heap.size, 0, none⟩)), (.int .i64 (left D0)), (.pointer (some ⟨vb.heap.size, 2, none⟩)), (.int .i64 (left D0)), (.bool false), (.bool false)] : List Value).getD i__ undef) (fun g f V => Lk w vd.heap.size vb.heap.size r 256 D0 g (f 1) V) (by kernel_rfl) ((0, 0)) (Lk.start hSF (0, 0)) ?step7 ?fin7
        case step7 =>
          intro i o ho
          have hi : i < 28 := getElem?_lt ho
          match i, hi, ho with
          | 0, _, ho =>
            cases ho
            refine stepG_of (fun g d hdep => ?_)
            exact step_move rfl trivial _ rfl (by kernel_rfl)
          | 1, _, ho =>
            cases ho
            exact stepG_call rfl (fun _ => trivial) 16 _ _ (fun _ => [.pointer (some ⟨vd.heap.size, 0, none⟩)]) rfl (fun g => by kernel_rfl) (enters_of Try.func16 (by kernel_rfl) rfl) (fun g d V hJ hun hdep hcl => (image_any hJ.1.dk).mono (by rintro e V' ⟨g2, c2, rfl, ho, hb⟩; refine ⟨(g2, c2), rfl, (fun j hj => match j, hj with | 1, hj => (by rw [hj] at hun; cases hun)  | 0, _ => rfl | 2, _ => rfl | 3, _ => rfl | 4, _ => rfl | 5, _ => rfl | 6, _ => rfl | 7, _ => rfl | 8, _ => rfl | 9, _ => rfl | 10, _ => rfl | 11, _ => rfl | 12, _ => rfl | 13, _ => rfl | 14, _ => rfl | 15, _ => rfl | 16, _ => rfl | 17, _ => rfl | 18, _ => rfl | 19, _ => rfl | 20, _ => rfl | 21, _ => rfl | 22, _ => rfl | 23, _ => rfl | 24, _ => rfl | 25, _ => rfl | 26, _ => rfl | 27, _ => rfl | _ + 28, _ => rfl), ?_⟩; show Lk w vd.heap.size vb.heap.size r 256 D0 (g2, c2) true V'; exact ⟨hJ.1.carry hb, fun _ => ⟨b_own ho hJ.1.dk.len.symm, row_lt0 ho⟩⟩))
          | 2, _, ho =>
            cases ho
            refine stepG_of (fun g d hdep => ?_)
            exact step_fieldAddr rfl trivial _ _ _ _ rfl rfl (fun v hw => field_rd0 v _ _)
          | 3, _, ho =>
            cases ho
            refine stepG_of (fun g d hdep => ?_)
            exact step_load rfl trivial _ _ _ rfl rfl (fun v hw => load_sl hw.1.rf.b)
          | 4, _, ho =>
            cases ho
            refine stepG_of (fun g d hdep => ?_)
            exact step_call rfl trivial 10 _ _ [(.slice (some ⟨g.1, 0, none⟩) 256 g.2), (.slice (some ⟨r, 0, none⟩) 256 256)] rfl (by kernel_rfl) (enters_of Try.func10 (by kernel_rfl) rfl) (fun v hw => by have h1 : d 1 = true := hdep 1 (by kernel_rfl); have hw' := hw; rw [h1] at hw'; exact (sameB_lk hw').mono (by rintro e w' ⟨rfl, hb⟩; exact ⟨rfl, by show Lk w vd.heap.size vb.heap.size r 256 D0 g (d 1) w'; rw [h1]; exact hw'.carry hb⟩))
          | 5, _, ho =>
            cases ho
            refine stepG_of (fun g d hdep => ?_)
            exact step_unOp rfl trivial _ _ _ _ rfl rfl (fun v hw => un_not true v)
          | 6, _, ho =>
            cases ho
            refine stepG_of (fun g d hdep => ?_)
            exact step_move rfl trivial _ rfl (by kernel_rfl)
          | 7, _, ho =>
            cases ho
            refine stepG_of (fun g d hdep => ?_)
            exact step_move rfl (by exact ⟨_, rfl, by kernel_rfl⟩) _ rfl (by kernel_rfl)
          | 8, _, ho =>
            cases ho
            refine stepG_of (fun g d hdep => ?_)
            exact step_call rfl (by exact ⟨_, rfl, by kernel_rfl⟩) 28 _ _ [(.pointer (some ⟨vd.heap.size, 0, none⟩))] rfl (by kernel_rfl) (enters_of Try.func28 (by kernel_rfl) rfl) (fun v hw => (on_any hw.1.dk).mono (by rintro e w' ⟨rfl, rfl⟩; exact ⟨rfl, hw⟩))
          | 9, _, ho =>
            cases ho
            refine stepG_of (fun g d hdep => ?_)
            exact step_fieldAddr rfl (by exact ⟨_, rfl, by kernel_rfl⟩) _ _ _ _ rfl rfl (fun v hw => field_rd1 v _)
          | 10, _, ho =>
            cases ho
            refine stepG_of (fun g d hdep => ?_)
            exact step_load rfl (by exact ⟨_, rfl, by kernel_rfl⟩) _ _ _ rfl rfl (fun v hw => load_bo hw.1.rf.f)
          | 11, _, ho =>
            cases ho
            refine stepG_of (fun g d hdep => ?_)
            exact step_unOp rfl (by exact ⟨_, rfl, by kernel_rfl⟩) _ _ _ _ rfl rfl (fun v hw => un_not D0.off v)
          | 12, _, ho =>
            cases ho
            refine stepG_of (fun g d hdep => ?_)
            exact step_binOp rfl (by exact ⟨_, rfl, by kernel_rfl⟩) _ _ _ _ _ _ _ rfl rfl rfl (fun v hw => neqB_f _ _ _ _)
          | 13, _, ho =>
            cases ho
            refine stepG_of (fun g d hdep => ?_)
            exact step_pick rfl trivial _ _ _ false rfl (by kernel_rfl) (by kernel_rfl)
          | 14, _, ho =>
            cases ho
            refine stepG_of (fun g d hdep => ?_)
            exact step_move rfl trivial _ rfl (by kernel_rfl)
          | 15, _, ho =>
            cases ho
            refine stepG_of (fun g d hdep => ?_)
            exact step_move rfl (by exact ⟨_, rfl, by kernel_rfl⟩) _ rfl (by kernel_rfl)
          | 16, _, ho =>
            cases ho
            refine stepG_of (fun g d hdep => ?_)
            exact step_call rfl (by exact ⟨_, rfl, by kernel_rfl⟩) 17 _ _ [(.pointer (some ⟨vd.heap.size, 0, none⟩))] rfl (by kernel_rfl) (enters_of Try.func17 (by kernel_rfl) rfl) (fun v hw => (writes_any hw.1.dk).mono (by rintro e w' ⟨rfl, rfl⟩; exact ⟨rfl, hw⟩))
          | 17, _, ho =>
            cases ho
            refine stepG_of (fun g d hdep => ?_)
            exact step_fieldAddr rfl (by exact ⟨_, rfl, by kernel_rfl⟩) _ _ _ _ rfl rfl (fun v hw => field_rd3 v _)
          | 18, _, ho =>
            cases ho
            refine stepG_of (fun g d hdep => ?_)
            exact step_load rfl (by exact ⟨_, rfl, by kernel_rfl⟩) _ _ _ rfl rfl (fun v hw => load_i64 hw.1.rf.n)
          | 19, _, ho =>
            cases ho
            refine stepG_of (fun g d hdep => ?_)
            exact step_binOp rfl (by exact ⟨_, rfl, by kernel_rfl⟩) _ _ _ _ _ _ _ rfl rfl rfl (fun v hw => neqK_f _ _)
          | 20, _, ho =>
            cases ho
            refine stepG_of (fun g d hdep => ?_)
            exact step_pick rfl trivial _ _ _ false rfl (by kernel_rfl) (by kernel_rfl)
          | 21, _, ho =>
            cases ho
            refine stepG_of (fun g d hdep => ?_)
            exact step_move rfl trivial _ rfl (by kernel_rfl)
          | 22, _, ho =>
            cases ho
            refine stepG_of (fun g d hdep => ?_)
            exact step_move rfl (by exact ⟨_, rfl, by kernel_rfl⟩) _ rfl (by kernel_rfl)
          | 23, _, ho =>
            cases ho
            refine stepG_of (fun g d hdep => ?_)
            exact step_call rfl (by exact ⟨_, rfl, by kernel_rfl⟩) 29 _ _ [(.pointer (some ⟨vd.heap.size, 0, none⟩))] rfl (by kernel_rfl) (enters_of Try.func29 (by kernel_rfl) rfl) (fun v hw => (left_any hw.1.dk).mono (by rintro e w' ⟨rfl, rfl⟩; exact ⟨rfl, hw⟩))
          | 24, _, ho =>
            cases ho
            refine stepG_of (fun g d hdep => ?_)
            exact step_fieldAddr rfl (by exact ⟨_, rfl, by kernel_rfl⟩) _ _ _ _ rfl rfl (fun v hw => field_rd2 v _)
          | 25, _, ho =>
            cases ho
            refine stepG_of (fun g d hdep => ?_)
            exact step_load rfl (by exact ⟨_, rfl, by kernel_rfl⟩) _ _ _ rfl rfl (fun v hw => load_i64 hw.1.rf.u)
          | 26, _, ho =>
            cases ho
            refine stepG_of (fun g d hdep => ?_)
            exact step_binOp rfl (by exact ⟨_, rfl, by kernel_rfl⟩) _ _ _ _ _ _ _ rfl rfl rfl (fun v hw => neqK_f _ _)
          | 27, _, ho =>
            cases ho
            refine stepG_of (fun g d hdep => ?_)
            exact step_pick rfl trivial _ _ _ false rfl (by kernel_rfl) (by kernel_rfl)
        intro g d W hall hW
        first | refine hK _ _ ?_ | refine (‹∀ (a : Act) (w : World), Code.wp Try.prog _ _ a w → _›) _ _ ?_ | skip
        simp only [finL, List.getD_cons_zero, List.getD_cons_succ, Nat.zero_add, Nat.reduceAdd, List.setIfInBounds_toArray, List.set_cons_zero, List.set_cons_succ]
        have hSE := hW.1
        clear hK hall hW
        go_wp2
        go_roundw
        case rel => exact ⟨m + 1, D0, by simp, by omega, hSE, hfz, hwr0, by omega⟩
        case measure => simp [vnat]; omega
      obtain ⟨kk, hkk⟩ := Int.eq_ofNat_of_zero_le (show 0 ≤ a % 4 by omega)
      have hk4 : kk < 4 := by omega
      have hand := i64_and3 a
      rw [hkk] at hand
      obtain ⟨ee, hee⟩ : ∃ ee, kk % 2 = ee := ⟨_, rfl⟩
      have he2 : ee < 2 := by omega
      have htm : ((kk : Int)).tmod 2 = (ee : Int) := by rw [Int.tmod_eq_emod_of_nonneg (by omega)]; omega
      obtain ⟨X, hX⟩ : ∃ X, ((slB x s).drop (32 * ee)).take 32 = X := ⟨_, rfl⟩
      have hXl : X.length = 32 := by rw [← hX, List.length_take, List.length_drop, slB_len]; omega
      have hXb : Byt X := by rw [← hX]; exact ((slB_byt _ _).drop _).take _
      have hXa : ∀ (V : World) (g : Nat), V.heap[g]? = some (.cells (cB (slB x s)).toArray 5 (0, 0)) → BAt V g (32 * ee) X := fun V g hV => by
        have hat : BAt V g 0 (slB x s) := fun k x hk => by
          rw [Nat.zero_add, cell_at hV, List.getElem?_toArray]
          exact cB_get hk
        have h1 := hat.sub (32 * ee) 32
        rw [Nat.zero_add, hX] at h1
        exact h1
      obtain ⟨D1, hD1⟩ : ∃ D1, (dWr D0 (kk : Int) X).2 = D1 := ⟨_, rfl⟩
      have hfz1 : Fz D1 := by rw [← hD1]; exact dWr_fz hfz _ _
      have hwr1 := dWr_wr (d := D0) (kk : Int) X
      rw [hD1] at hwr1
      have HD : Hid ((dWr D0 (kk : Int) X).2 = D1) := hD1
      have hsl := fun g w => sl_half g ee he2 w
      have hlt0 := hS0.rf.lt
      clear hX hD1 hee hkk
      go_wp2_with (first | (go_at_call 25; (with_reducible refine hen.mono ?_); rintro e v1 ⟨hyes, -, hb1⟩; obtain ⟨g, rfl, hg, hI1⟩ := hyes hfit; have hS1 := hS0.carry hb1; have hO1 := hO0.carry hb1; have p1 := cell_at hO1 1; have hgp : g ≠ (vd.heap.size) := (fun e => by have := hS0.dk.lt; omega); have hwp := wr_at hS1.dk (kk : Int) g (32 * ee) (64 - 32 * ee) X (lt_at hI1) (hXa v1 g hI1) hXl hXb hfz hwr0 (by omega); rw [HD.out] at hwp) | (go_at_call 26; (with_reducible refine hwp.mono ?_); rintro e v2 ⟨rfl, hd2, ht2⟩; have hS2 := hS1.tp hd2 ht2; have hI2 := (ht2.block g (lt_at hI1) hgp).trans hI1; have hwd := rwrite_any hS2.rf (kk : Int) (some ⟨g, 32 * ee, none⟩) (64 - 32 * ee) X (fun _ => ⟨g, 32 * ee, rfl, lt_at hI2, by omega, by omega, hXa v2 g hI2⟩) hXb hfz hwr0 (by omega); rw [HD.out, hXl] at hwd) | (go_at_call 27; (with_reducible refine hwd.mono ?_); rintro e v3 ⟨rfl, hd3, ht3⟩; have hSF := hS2.tf hd3 ht3))
      rename_i hK
      refine wp_region_any hmx ?_
      refine wpAny_tabG (G := (Nat × Nat)) (fun g i__ => ([(.pointer (some ⟨vd.heap.size, 0, none⟩)), (.slice (some ⟨g.1, 0, none⟩) 256 g.2), (.pointer (some ⟨vb.heap.size, 0, none⟩)), (.slice (some ⟨r, 0, none⟩) 256 256), (.bool true), (.bool false), (.bool false), (.pointer (some ⟨vd.heap.size, 0, none⟩)), (.bool (!D1.off)), (.pointer (some ⟨vb.heap.size, 1, none⟩)), (.bool D1.off), (.bool (!D1.off)), (.bool false), (.bool false), (.bool false), (.pointer (some ⟨vd.heap.size, 0, none⟩)), (.int .i64 D1.writes), (.pointer (some ⟨vb.heap.size, 3, none⟩)), (.int .i64 D1.writes), (.bool false), (.bool false), (.bool false), (.pointer (some ⟨vd.heap.size, 0, none⟩)), (.int .i64 (left D1)), (.pointer (some ⟨vb.heap.size, 2, none⟩)), (.int .i64 (left D1)), (.bool false), (.bool false)] : List Value).getD i__ undef) (fun g f V => Lk w vd.heap.size vb.heap.size r 256 D1 g (f 1) V) (by kernel_rfl) ((0, 0)) (Lk.start hSF (0, 0)) ?step8 ?fin8
      case step8 =>
        intro i o ho
        have hi : i < 28 := getElem?_lt ho
        match i, hi, ho with
        | 0, _, ho =>
          cases ho
          refine stepG_of (fun g d hdep => ?_)
          exact step_move rfl trivial _ rfl (by kernel_rfl)
        | 1, _, ho =>
          cases ho
          exact stepG_call rfl (fun _ => trivial) 16 _ _ (fun _ => [.pointer (some ⟨vd.heap.size, 0, none⟩)]) rfl (fun g => by kernel_rfl) (enters_of Try.func16 (by kernel_rfl) rfl) (fun g d V hJ hun hdep hcl => (image_any hJ.1.dk).mono (by rintro e V' ⟨g2, c2, rfl, ho, hb⟩; refine ⟨(g2, c2), rfl, (fun j hj => match j, hj with | 1, hj => (by rw [hj] at hun; cases hun)  | 0, _ => rfl | 2, _ => rfl | 3, _ => rfl | 4, _ => rfl | 5, _ => rfl | 6, _ => rfl | 7, _ => rfl | 8, _ => rfl | 9, _ => rfl | 10, _ => rfl | 11, _ => rfl | 12, _ => rfl | 13, _ => rfl | 14, _ => rfl | 15, _ => rfl | 16, _ => rfl | 17, _ => rfl | 18, _ => rfl | 19, _ => rfl | 20, _ => rfl | 21, _ => rfl | 22, _ => rfl | 23, _ => rfl | 24, _ => rfl | 25, _ => rfl | 26, _ => rfl | 27, _ => rfl | _ + 28, _ => rfl), ?_⟩; show Lk w vd.heap.size vb.heap.size r 256 D1 (g2, c2) true V'; exact ⟨hJ.1.carry hb, fun _ => ⟨b_own ho hJ.1.dk.len.symm, row_lt0 ho⟩⟩))
        | 2, _, ho =>
          cases ho
          refine stepG_of (fun g d hdep => ?_)
          exact step_fieldAddr rfl trivial _ _ _ _ rfl rfl (fun v hw => field_rd0 v _ _)
        | 3, _, ho =>
          cases ho
          refine stepG_of (fun g d hdep => ?_)
          exact step_load rfl trivial _ _ _ rfl rfl (fun v hw => load_sl hw.1.rf.b)
        | 4, _, ho =>
          cases ho
          refine stepG_of (fun g d hdep => ?_)
          exact step_call rfl trivial 10 _ _ [(.slice (some ⟨g.1, 0, none⟩) 256 g.2), (.slice (some ⟨r, 0, none⟩) 256 256)] rfl (by kernel_rfl) (enters_of Try.func10 (by kernel_rfl) rfl) (fun v hw => by have h1 : d 1 = true := hdep 1 (by kernel_rfl); have hw' := hw; rw [h1] at hw'; exact (sameB_lk hw').mono (by rintro e w' ⟨rfl, hb⟩; exact ⟨rfl, by show Lk w vd.heap.size vb.heap.size r 256 D1 g (d 1) w'; rw [h1]; exact hw'.carry hb⟩))
        | 5, _, ho =>
          cases ho
          refine stepG_of (fun g d hdep => ?_)
          exact step_unOp rfl trivial _ _ _ _ rfl rfl (fun v hw => un_not true v)
        | 6, _, ho =>
          cases ho
          refine stepG_of (fun g d hdep => ?_)
          exact step_move rfl trivial _ rfl (by kernel_rfl)
        | 7, _, ho =>
          cases ho
          refine stepG_of (fun g d hdep => ?_)
          exact step_move rfl (by exact ⟨_, rfl, by kernel_rfl⟩) _ rfl (by kernel_rfl)
        | 8, _, ho =>
          cases ho
          refine stepG_of (fun g d hdep => ?_)
          exact step_call rfl (by exact ⟨_, rfl, by kernel_rfl⟩) 28 _ _ [(.pointer (some ⟨vd.heap.size, 0, none⟩))] rfl (by kernel_rfl) (enters_of Try.func28 (by kernel_rfl) rfl) (fun v hw => (on_any hw.1.dk).mono (by rintro e w' ⟨rfl, rfl⟩; exact ⟨rfl, hw⟩))
        | 9, _, ho =>
          cases ho
          refine stepG_of (fun g d hdep => ?_)
          exact step_fieldAddr rfl (by exact ⟨_, rfl, by kernel_rfl⟩) _ _ _ _ rfl rfl (fun v hw => field_rd1 v _)
        | 10, _, ho =>
          cases ho
          refine stepG_of (fun g d hdep => ?_)
          exact step_load rfl (by exact ⟨_, rfl, by kernel_rfl⟩) _ _ _ rfl rfl (fun v hw => load_bo hw.1.rf.f)
        | 11, _, ho =>
          cases ho
          refine stepG_of (fun g d hdep => ?_)
          exact step_unOp rfl (by exact ⟨_, rfl, by kernel_rfl⟩) _ _ _ _ rfl rfl (fun v hw => un_not D1.off v)
        | 12, _, ho =>
          cases ho
          refine stepG_of (fun g d hdep => ?_)
          exact step_binOp rfl (by exact ⟨_, rfl, by kernel_rfl⟩) _ _ _ _ _ _ _ rfl rfl rfl (fun v hw => neqB_f _ _ _ _)
        | 13, _, ho =>
          cases ho
          refine stepG_of (fun g d hdep => ?_)
          exact step_pick rfl trivial _ _ _ false rfl (by kernel_rfl) (by kernel_rfl)
        | 14, _, ho =>
          cases ho
          refine stepG_of (fun g d hdep => ?_)
          exact step_move rfl trivial _ rfl (by kernel_rfl)
        | 15, _, ho =>
          cases ho
          refine stepG_of (fun g d hdep => ?_)
          exact step_move rfl (by exact ⟨_, rfl, by kernel_rfl⟩) _ rfl (by kernel_rfl)
        | 16, _, ho =>
          cases ho
          refine stepG_of (fun g d hdep => ?_)
          exact step_call rfl (by exact ⟨_, rfl, by kernel_rfl⟩) 17 _ _ [(.pointer (some ⟨vd.heap.size, 0, none⟩))] rfl (by kernel_rfl) (enters_of Try.func17 (by kernel_rfl) rfl) (fun v hw => (writes_any hw.1.dk).mono (by rintro e w' ⟨rfl, rfl⟩; exact ⟨rfl, hw⟩))
        | 17, _, ho =>
          cases ho
          refine stepG_of (fun g d hdep => ?_)
          exact step_fieldAddr rfl (by exact ⟨_, rfl, by kernel_rfl⟩) _ _ _ _ rfl rfl (fun v hw => field_rd3 v _)
        | 18, _, ho =>
          cases ho
          refine stepG_of (fun g d hdep => ?_)
          exact step_load rfl (by exact ⟨_, rfl, by kernel_rfl⟩) _ _ _ rfl rfl (fun v hw => load_i64 hw.1.rf.n)
        | 19, _, ho =>
          cases ho
          refine stepG_of (fun g d hdep => ?_)
          exact step_binOp rfl (by exact ⟨_, rfl, by kernel_rfl⟩) _ _ _ _ _ _ _ rfl rfl rfl (fun v hw => neqK_f _ _)
        | 20, _, ho =>
          cases ho
          refine stepG_of (fun g d hdep => ?_)
          exact step_pick rfl trivial _ _ _ false rfl (by kernel_rfl) (by kernel_rfl)
        | 21, _, ho =>
          cases ho
          refine stepG_of (fun g d hdep => ?_)
          exact step_move rfl trivial _ rfl (by kernel_rfl)
        | 22, _, ho =>
          cases ho
          refine stepG_of (fun g d hdep => ?_)
          exact step_move rfl (by exact ⟨_, rfl, by kernel_rfl⟩) _ rfl (by kernel_rfl)
        | 23, _, ho =>
          cases ho
          refine stepG_of (fun g d hdep => ?_)
          exact step_call rfl (by exact ⟨_, rfl, by kernel_rfl⟩) 29 _ _ [(.pointer (some ⟨vd.heap.size, 0, none⟩))] rfl (by kernel_rfl) (enters_of Try.func29 (by kernel_rfl) rfl) (fun v hw => (left_any hw.1.dk).mono (by rintro e w' ⟨rfl, rfl⟩; exact ⟨rfl, hw⟩))
        | 24, _, ho =>
          cases ho
          refine stepG_of (fun g d hdep => ?_)
          exact step_fieldAddr rfl (by exact ⟨_, rfl, by kernel_rfl⟩) _ _ _ _ rfl rfl (fun v hw => field_rd2 v _)
        | 25, _, ho =>
          cases ho
          refine stepG_of (fun g d hdep => ?_)
          exact step_load rfl (by exact ⟨_, rfl, by kernel_rfl⟩) _ _ _ rfl rfl (fun v hw => load_i64 hw.1.rf.u)
        | 26, _, ho =>
          cases ho
          refine stepG_of (fun g d hdep => ?_)
          exact step_binOp rfl (by exact ⟨_, rfl, by kernel_rfl⟩) _ _ _ _ _ _ _ rfl rfl rfl (fun v hw => neqK_f _ _)
        | 27, _, ho =>
          cases ho
          refine stepG_of (fun g d hdep => ?_)
          exact step_pick rfl trivial _ _ _ false rfl (by kernel_rfl) (by kernel_rfl)
      intro g d W hall hW
      first | refine hK _ _ ?_ | refine (‹∀ (a : Act) (w : World), Code.wp Try.prog _ _ a w → _›) _ _ ?_ | skip
      simp only [finL, List.getD_cons_zero, List.getD_cons_succ, Nat.zero_add, Nat.reduceAdd, List.setIfInBounds_toArray, List.set_cons_zero, List.set_cons_succ]
      have hSE := hW.1
      clear hK hall hW
      go_wp2
      go_roundw
      case rel => exact ⟨m + 1, D1, by simp, by omega, hSE, hfz1, by omega, by omega⟩
      case measure => simp [vnat]; omega
    · have hSF := hS0
      go_wp2
      rename_i hK
      refine wp_region_any hmx ?_
      refine wpAny_tabG (G := (Nat × Nat)) (fun g i__ => ([(.pointer (some ⟨vd.heap.size, 0, none⟩)), (.slice (some ⟨g.1, 0, none⟩) 256 g.2), (.pointer (some ⟨vb.heap.size, 0, none⟩)), (.slice (some ⟨r, 0, none⟩) 256 256), (.bool true), (.bool false), (.bool false), (.pointer (some ⟨vd.heap.size, 0, none⟩)), (.bool (!D0.off)), (.pointer (some ⟨vb.heap.size, 1, none⟩)), (.bool D0.off), (.bool (!D0.off)), (.bool false), (.bool false), (.bool false), (.pointer (some ⟨vd.heap.size, 0, none⟩)), (.int .i64 D0.writes), (.pointer (some ⟨vb.heap.size, 3, none⟩)), (.int .i64 D0.writes), (.bool false), (.bool false), (.bool false), (.pointer (some ⟨vd.heap.size, 0, none⟩)), (.int .i64 (left D0)), (.pointer (some ⟨vb.heap.size, 2, none⟩)), (.int .i64 (left D0)), (.bool false), (.bool false)] : List Value).getD i__ undef) (fun g f V => Lk w vd.heap.size vb.heap.size r 256 D0 g (f 1) V) (by kernel_rfl) ((0, 0)) (Lk.start hSF (0, 0)) ?step9 ?fin9
      case step9 =>
        intro i o ho
        have hi : i < 28 := getElem?_lt ho
        match i, hi, ho with
        | 0, _, ho =>
          cases ho
          refine stepG_of (fun g d hdep => ?_)
          exact step_move rfl trivial _ rfl (by kernel_rfl)
        | 1, _, ho =>
          cases ho
          exact stepG_call rfl (fun _ => trivial) 16 _ _ (fun _ => [.pointer (some ⟨vd.heap.size, 0, none⟩)]) rfl (fun g => by kernel_rfl) (enters_of Try.func16 (by kernel_rfl) rfl) (fun g d V hJ hun hdep hcl => (image_any hJ.1.dk).mono (by rintro e V' ⟨g2, c2, rfl, ho, hb⟩; refine ⟨(g2, c2), rfl, (fun j hj => match j, hj with | 1, hj => (by rw [hj] at hun; cases hun)  | 0, _ => rfl | 2, _ => rfl | 3, _ => rfl | 4, _ => rfl | 5, _ => rfl | 6, _ => rfl | 7, _ => rfl | 8, _ => rfl | 9, _ => rfl | 10, _ => rfl | 11, _ => rfl | 12, _ => rfl | 13, _ => rfl | 14, _ => rfl | 15, _ => rfl | 16, _ => rfl | 17, _ => rfl | 18, _ => rfl | 19, _ => rfl | 20, _ => rfl | 21, _ => rfl | 22, _ => rfl | 23, _ => rfl | 24, _ => rfl | 25, _ => rfl | 26, _ => rfl | 27, _ => rfl | _ + 28, _ => rfl), ?_⟩; show Lk w vd.heap.size vb.heap.size r 256 D0 (g2, c2) true V'; exact ⟨hJ.1.carry hb, fun _ => ⟨b_own ho hJ.1.dk.len.symm, row_lt0 ho⟩⟩))
        | 2, _, ho =>
          cases ho
          refine stepG_of (fun g d hdep => ?_)
          exact step_fieldAddr rfl trivial _ _ _ _ rfl rfl (fun v hw => field_rd0 v _ _)
        | 3, _, ho =>
          cases ho
          refine stepG_of (fun g d hdep => ?_)
          exact step_load rfl trivial _ _ _ rfl rfl (fun v hw => load_sl hw.1.rf.b)
        | 4, _, ho =>
          cases ho
          refine stepG_of (fun g d hdep => ?_)
          exact step_call rfl trivial 10 _ _ [(.slice (some ⟨g.1, 0, none⟩) 256 g.2), (.slice (some ⟨r, 0, none⟩) 256 256)] rfl (by kernel_rfl) (enters_of Try.func10 (by kernel_rfl) rfl) (fun v hw => by have h1 : d 1 = true := hdep 1 (by kernel_rfl); have hw' := hw; rw [h1] at hw'; exact (sameB_lk hw').mono (by rintro e w' ⟨rfl, hb⟩; exact ⟨rfl, by show Lk w vd.heap.size vb.heap.size r 256 D0 g (d 1) w'; rw [h1]; exact hw'.carry hb⟩))
        | 5, _, ho =>
          cases ho
          refine stepG_of (fun g d hdep => ?_)
          exact step_unOp rfl trivial _ _ _ _ rfl rfl (fun v hw => un_not true v)
        | 6, _, ho =>
          cases ho
          refine stepG_of (fun g d hdep => ?_)
          exact step_move rfl trivial _ rfl (by kernel_rfl)
        | 7, _, ho =>
          cases ho
          refine stepG_of (fun g d hdep => ?_)
          exact step_move rfl (by exact ⟨_, rfl, by kernel_rfl⟩) _ rfl (by kernel_rfl)
        | 8, _, ho =>
          cases ho
          refine stepG_of (fun g d hdep => ?_)
          exact step_call rfl (by exact ⟨_, rfl, by kernel_rfl⟩) 28 _ _ [(.pointer (some ⟨vd.heap.size, 0, none⟩))] rfl (by kernel_rfl) (enters_of Try.func28 (by kernel_rfl) rfl) (fun v hw => (on_any hw.1.dk).mono (by rintro e w' ⟨rfl, rfl⟩; exact ⟨rfl, hw⟩))
        | 9, _, ho =>
          cases ho
          refine stepG_of (fun g d hdep => ?_)
          exact step_fieldAddr rfl (by exact ⟨_, rfl, by kernel_rfl⟩) _ _ _ _ rfl rfl (fun v hw => field_rd1 v _)
        | 10, _, ho =>
          cases ho
          refine stepG_of (fun g d hdep => ?_)
          exact step_load rfl (by exact ⟨_, rfl, by kernel_rfl⟩) _ _ _ rfl rfl (fun v hw => load_bo hw.1.rf.f)
        | 11, _, ho =>
          cases ho
          refine stepG_of (fun g d hdep => ?_)
          exact step_unOp rfl (by exact ⟨_, rfl, by kernel_rfl⟩) _ _ _ _ rfl rfl (fun v hw => un_not D0.off v)
        | 12, _, ho =>
          cases ho
          refine stepG_of (fun g d hdep => ?_)
          exact step_binOp rfl (by exact ⟨_, rfl, by kernel_rfl⟩) _ _ _ _ _ _ _ rfl rfl rfl (fun v hw => neqB_f _ _ _ _)
        | 13, _, ho =>
          cases ho
          refine stepG_of (fun g d hdep => ?_)
          exact step_pick rfl trivial _ _ _ false rfl (by kernel_rfl) (by kernel_rfl)
        | 14, _, ho =>
          cases ho
          refine stepG_of (fun g d hdep => ?_)
          exact step_move rfl trivial _ rfl (by kernel_rfl)
        | 15, _, ho =>
          cases ho
          refine stepG_of (fun g d hdep => ?_)
          exact step_move rfl (by exact ⟨_, rfl, by kernel_rfl⟩) _ rfl (by kernel_rfl)
        | 16, _, ho =>
          cases ho
          refine stepG_of (fun g d hdep => ?_)
          exact step_call rfl (by exact ⟨_, rfl, by kernel_rfl⟩) 17 _ _ [(.pointer (some ⟨vd.heap.size, 0, none⟩))] rfl (by kernel_rfl) (enters_of Try.func17 (by kernel_rfl) rfl) (fun v hw => (writes_any hw.1.dk).mono (by rintro e w' ⟨rfl, rfl⟩; exact ⟨rfl, hw⟩))
        | 17, _, ho =>
          cases ho
          refine stepG_of (fun g d hdep => ?_)
          exact step_fieldAddr rfl (by exact ⟨_, rfl, by kernel_rfl⟩) _ _ _ _ rfl rfl (fun v hw => field_rd3 v _)
        | 18, _, ho =>
          cases ho
          refine stepG_of (fun g d hdep => ?_)
          exact step_load rfl (by exact ⟨_, rfl, by kernel_rfl⟩) _ _ _ rfl rfl (fun v hw => load_i64 hw.1.rf.n)
        | 19, _, ho =>
          cases ho
          refine stepG_of (fun g d hdep => ?_)
          exact step_binOp rfl (by exact ⟨_, rfl, by kernel_rfl⟩) _ _ _ _ _ _ _ rfl rfl rfl (fun v hw => neqK_f _ _)
        | 20, _, ho =>
          cases ho
          refine stepG_of (fun g d hdep => ?_)
          exact step_pick rfl trivial _ _ _ false rfl (by kernel_rfl) (by kernel_rfl)
        | 21, _, ho =>
          cases ho
          refine stepG_of (fun g d hdep => ?_)
          exact step_move rfl trivial _ rfl (by kernel_rfl)
        | 22, _, ho =>
          cases ho
          refine stepG_of (fun g d hdep => ?_)
          exact step_move rfl (by exact ⟨_, rfl, by kernel_rfl⟩) _ rfl (by kernel_rfl)
        | 23, _, ho =>
          cases ho
          refine stepG_of (fun g d hdep => ?_)
          exact step_call rfl (by exact ⟨_, rfl, by kernel_rfl⟩) 29 _ _ [(.pointer (some ⟨vd.heap.size, 0, none⟩))] rfl (by kernel_rfl) (enters_of Try.func29 (by kernel_rfl) rfl) (fun v hw => (left_any hw.1.dk).mono (by rintro e w' ⟨rfl, rfl⟩; exact ⟨rfl, hw⟩))
        | 24, _, ho =>
          cases ho
          refine stepG_of (fun g d hdep => ?_)
          exact step_fieldAddr rfl (by exact ⟨_, rfl, by kernel_rfl⟩) _ _ _ _ rfl rfl (fun v hw => field_rd2 v _)
        | 25, _, ho =>
          cases ho
          refine stepG_of (fun g d hdep => ?_)
          exact step_load rfl (by exact ⟨_, rfl, by kernel_rfl⟩) _ _ _ rfl rfl (fun v hw => load_i64 hw.1.rf.u)
        | 26, _, ho =>
          cases ho
          refine stepG_of (fun g d hdep => ?_)
          exact step_binOp rfl (by exact ⟨_, rfl, by kernel_rfl⟩) _ _ _ _ _ _ _ rfl rfl rfl (fun v hw => neqK_f _ _)
        | 27, _, ho =>
          cases ho
          refine stepG_of (fun g d hdep => ?_)
          exact step_pick rfl trivial _ _ _ false rfl (by kernel_rfl) (by kernel_rfl)
      intro g d W hall hW
      first | refine hK _ _ ?_ | refine (‹∀ (a : Act) (w : World), Code.wp Try.prog _ _ a w → _›) _ _ ?_ | skip
      simp only [finL, List.getD_cons_zero, List.getD_cons_succ, Nat.zero_add, Nat.reduceAdd, List.setIfInBounds_toArray, List.set_cons_zero, List.set_cons_succ]
      have hSE := hW.1
      clear hK hall hW
      go_wp2
      go_roundw
      case rel => exact ⟨m + 1, D0, by simp, by omega, hSE, hfz, hwr0, by omega⟩
      case measure => simp [vnat]; omega
end Go.Proofs.Ytnkdfpbgdimaoaa
