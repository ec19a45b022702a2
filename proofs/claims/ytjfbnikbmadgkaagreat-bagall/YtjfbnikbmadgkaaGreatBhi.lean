/- Steps of the play of bags: Move, Spoil. -/
import Derived.Test.YtjfbnikbmadgkaaGreatBhh
namespace Go.Proofs.YtjfbnikbmadgkaaGreat
open Go.RowKit Go.Shelf Go.Lib

section
variable {σ : Nat → Prop} {base lb off bb p : Nat} {ad : Option Addr} {cap : Nat} {room last : Int} {ps : List Nat} {l : List Gr} {adR : Option Addr} {capR : Nat} {av : List (Option Addr × Nat)} {w : World}
set_option maxHeartbeats 4000000 in
set_option maxRecDepth 100000 in
theorem step_5 (h : Sd σ base lb off bb p ad cap room last ps l adR capR av w) (who iA jA kA : Int) (aD : Option Addr) (nD cD : Nat) : Calls Tryz.prog 7 #[.pointer (some ⟨lb, off, none⟩), .agg #[.int .i64 5, .int .i64 who, .int .i64 iA, .int .i64 jA, .int .i64 kA, .slice aD nD cD]] w fun e w' => e = .returned (.bool true) ∧ StV σ base lb off bb p ad room last adR w w' := by
  obtain ⟨r, hr⟩ : ∃ r, sMv l iA jA = r := ⟨_, rfl⟩
  obtain ⟨r1, r4⟩ := r
  have hmx : Tryz.prog.follows .mixedOrders = true := by kernel_rfl
  obtain ⟨w1, hw1⟩ : ∃ w1, w.alloc (.cells #[.int .i64 5, .int .i64 who, .int .i64 iA, .int .i64 jA, .int .i64 kA, .slice aD nD cD] 57) = w1 := ⟨_, rfl⟩
  have hb1 : Below w.heap.size w w1 := by rw [← hw1]; exact al1' _ _
  have hO : OpB w1 w.heap.size 5 who iA jA kA (.slice aD nD cD) := by rw [← hw1]; exact new_at rfl
  have hS := h.carry hb1
  have o0 := hO.c0
  have hE1 : Ev base lb (off + 1) p (ob ad) (ob ad) (ob adR) (ob adR) w w1 := Ev.of hb1 h.bz h.rg.lt
  have hj0 : JM σ base lb off bb p ad cap room last ps l adR capR av last r4 w 5 who iA jA kA (.slice aD nD cD) false false w1 := ⟨hO, hb1.size, hS, hE1⟩
  have HP : Hid (∀ V, Bg σ V base p ad cap room last ps l → Calls Tryz.prog 23 #[.pointer (some ⟨p, 0, none⟩), .int .i64 iA, .int .i64 jA] V fun e w' => e = .returned (.int .i64 r1) ∧ ∃ ad' cap' ps', Bg σ w' base p ad' cap' room last ps' r4 ∧ Tn p (ob ad) (ob ad') V w') := fun V hV => by
    have := move_any hV iA jA
    rw [hr] at this
    exact this
  have HR : Hid (∀ V, base ≤ V.heap.size → Rg V base lb (off + 1) adR capR last room l av → Calls Tryz.prog 24 #[.pointer (some ⟨lb, off + 1, none⟩), .int .i64 iA, .int .i64 jA] V fun e w' => e = .returned (.int .i64 r1) ∧ ∃ ad' cap' av', Rg w' base lb (off + 1) ad' cap' last room r4 av' ∧ Tr lb (off + 1) (ob adR) (ob ad') V w') := fun V hz hV => by
    have := rMove_any hV iA jA hz
    rw [hr] at this
    exact this
  clear h hS hE1 hO hr
  go_enter Tryz.func7, Tryz.ntmps7
  go_wp2
  rename_i Q0 K0 hK
  refine wp_region_any hmx ?_
  refine wpAny_tabG (G := (Unit)) (fun g i__ => ([(.pointer (some ⟨lb, off, none⟩)), (.pointer (some ⟨lb, off, none⟩)), (.pointer (some ⟨lb, off, none⟩)), (.pointer (some ⟨p, 0, none⟩)), (.pointer (some ⟨w.heap.size, 2, none⟩)), (.int .i64 iA), (.pointer (some ⟨w.heap.size, 3, none⟩)), (.int .i64 jA), (.int .i64 r1), (.pointer (some ⟨lb, off, none⟩)), (.pointer (some ⟨lb, off, none⟩)), (.pointer (some ⟨lb, off + 1, none⟩)), (.pointer (some ⟨w.heap.size, 2, none⟩)), (.int .i64 iA), (.pointer (some ⟨w.heap.size, 3, none⟩)), (.int .i64 jA), (.int .i64 r1), (.bool true), (.bool true)] : List Value).getD i__ undef) (fun _ d V => JM σ base lb off bb p ad cap room last ps l adR capR av last r4 w 5 who iA jA kA (.slice aD nD cD) (d 8) (d 16) V) (by kernel_rfl) (()) (show JM σ base lb off bb p ad cap room last ps l adR capR av last r4 w 5 who iA jA kA (.slice aD nD cD) false false _ from ⟨hj0.1.carry (Below.refl _ _).drew, hj0.2.1, hj0.2.2.1.carry (Below.refl _ _).drew, hj0.2.2.2.trans (Ev.of (Below.refl _ _).drew hj0.2.2.1.bz hj0.2.2.1.rg.lt)⟩) ?step3 ?fin3
  case step3 =>
    intro i o ho
    have hi : i < 19 := getElem?_lt ho
    match i, hi, ho with
    | 0, _, ho =>
      cases ho
      refine stepG_of (fun g d hdep => ?_)
      exact step_move rfl trivial _ rfl (by kernel_rfl)
    | 1, _, ho =>
      cases ho
      refine stepG_of (fun g d hdep => ?_)
      exact step_nilCheck rfl trivial _ _ _ rfl rfl rfl
    | 2, _, ho =>
      cases ho
      refine stepG_of (fun g d hdep => ?_)
      exact step_fieldAddr rfl trivial _ _ _ _ rfl rfl (fun v hw => field_bo0 v _ _)
    | 3, _, ho =>
      cases ho
      exact stepG_ofCB (fun g d hun hdep hcl => step_load rfl trivial _ _ _ rfl rfl (fun v hw => load_bop (hw.p0 (by cases h : d 16 with | false => rfl | true => exact absurd (hcl 8 _ rfl (hcl 16 _ rfl h 8 (by kernel_rfl)) 3 (by kernel_rfl)) (by rw [hun]; simp)))))
    | 4, _, ho =>
      cases ho
      refine stepG_of (fun g d hdep => ?_)
      exact step_fieldAddr rfl trivial _ _ _ _ rfl rfl (fun v hw => field_op v _ 2 (by decide))
    | 5, _, ho =>
      cases ho
      refine stepG_of (fun g d hdep => ?_)
      exact step_load rfl trivial _ _ _ rfl rfl (fun v hw => load_i hw.1.c2)
    | 6, _, ho =>
      cases ho
      refine stepG_of (fun g d hdep => ?_)
      exact step_fieldAddr rfl trivial _ _ _ _ rfl rfl (fun v hw => field_op v _ 3 (by decide))
    | 7, _, ho =>
      cases ho
      refine stepG_of (fun g d hdep => ?_)
      exact step_load rfl trivial _ _ _ rfl rfl (fun v hw => load_i hw.1.c3)
    | 8, _, ho =>
      cases ho
      exact stepG_ofCB (fun g d hun hdep hcl => step_call rfl trivial 23 _ _ [(.pointer (some ⟨p, 0, none⟩)), (.int .i64 iA), (.int .i64 jA)] rfl (by kernel_rfl) (enters_of Tryz.func23 (by kernel_rfl) rfl) (fun V hw => by have hw' := hw; rw [hun] at hw'; have hb : d 16 = false := (by cases h : d 16 with | false => rfl | true => exact absurd (hcl 16 _ rfl h 8 (by kernel_rfl)) (by rw [hun]; simp)); rw [hb] at hw'; obtain ⟨k1, k2, k3, k4⟩ := hw'; exact (HP.out V k3.bg).mono (by rintro e w' ⟨rfl, ad1, cap1, ps1, hB, hT⟩; refine ⟨rfl, ?_⟩; show JM σ base lb off bb p ad cap room last ps l adR capR av last r4 w 5 who iA jA kA (.slice aD nD cD) true (d 16) w'; rw [hb]; exact ⟨k1.tn k3.bg hT, Nat.le_trans k2 hT.size, ad1, cap1, ps1, k3.mid k4 hB hT⟩)))
    | 9, _, ho =>
      cases ho
      refine stepG_of (fun g d hdep => ?_)
      exact step_move rfl trivial _ rfl (by kernel_rfl)
    | 10, _, ho =>
      cases ho
      refine stepG_of (fun g d hdep => ?_)
      exact step_nilCheck rfl trivial _ _ _ rfl rfl rfl
    | 11, _, ho =>
      cases ho
      refine stepG_of (fun g d hdep => ?_)
      exact step_fieldAddr rfl trivial _ _ _ _ rfl rfl (fun v hw => field_bo1 v _ _)
    | 12, _, ho =>
      cases ho
      refine stepG_of (fun g d hdep => ?_)
      exact step_fieldAddr rfl trivial _ _ _ _ rfl rfl (fun v hw => field_op v _ 2 (by decide))
    | 13, _, ho =>
      cases ho
      refine stepG_of (fun g d hdep => ?_)
      exact step_load rfl trivial _ _ _ rfl rfl (fun v hw => load_i hw.1.c2)
    | 14, _, ho =>
      cases ho
      refine stepG_of (fun g d hdep => ?_)
      exact step_fieldAddr rfl trivial _ _ _ _ rfl rfl (fun v hw => field_op v _ 3 (by decide))
    | 15, _, ho =>
      cases ho
      refine stepG_of (fun g d hdep => ?_)
      exact step_load rfl trivial _ _ _ rfl rfl (fun v hw => load_i hw.1.c3)
    | 16, _, ho =>
      cases ho
      exact stepG_ofCB (fun g d hun hdep hcl => step_call rfl trivial 24 _ _ [(.pointer (some ⟨lb, off + 1, none⟩)), (.int .i64 iA), (.int .i64 jA)] rfl (by kernel_rfl) (enters_of Tryz.func24 (by kernel_rfl) rfl) (fun V hw => by have hw' := hw; have ha : d 8 = true := hdep 8 (by kernel_rfl); rw [ha, hun] at hw'; obtain ⟨k1, k2, a1, c1, p1, hm⟩ := hw'; exact (HR.out V hm.bz hm.rg).mono (by rintro e w' ⟨rfl, ad1, cap1, av1, hR, hT⟩; refine ⟨rfl, ?_⟩; show JM σ base lb off bb p ad cap room last ps l adR capR av last r4 w 5 who iA jA kA (.slice aD nD cD) (d 8) true w'; rw [ha]; exact ⟨k1.tr hm.rg hT, Nat.le_trans k2 hT.size, hm.stv k2 hR hT ⟨Int.le_refl _, by omega⟩⟩)))
    | 17, _, ho =>
      cases ho
      refine stepG_of (fun g d hdep => ?_)
      exact step_binOp rfl trivial _ _ _ _ _ _ _ rfl rfl rfl (fun w hw => (bin_eql .i64 _ _).trans (by simp))
    | 18, _, ho =>
      cases ho
      refine stepG_of (fun g d hdep => ?_)
      exact step_assign rfl trivial _ rfl (by kernel_rfl) (fun _ h => h)
  intro g d W hall hW
  first | refine hK _ _ ?_ | refine (‹∀ (a : Act) (w : World), Code.wp Tryz.prog _ _ a w → _›) _ _ ?_ | skip
  simp only [finL, List.getD_cons_zero, List.getD_cons_succ, Nat.zero_add, Nat.reduceAdd, List.setIfInBounds_toArray, List.set_cons_zero, List.set_cons_succ]
  rw [hall 8 (by decide), hall 16 (by decide)] at hW
  have HST : Hid (StV σ base lb off bb p ad room last adR w W) := hW.2.2
  clear hW hall hK hj0
  go_wp2
  go_ret
  exact ⟨rfl, HST.out⟩
set_option maxHeartbeats 4000000 in
set_option maxRecDepth 100000 in
theorem step_6 (h : Sd σ base lb off bb p ad cap room last ps l adR capR av w) (who iA jA kA : Int) (aD : Option Addr) (nD cD : Nat) : Calls Tryz.prog 7 #[.pointer (some ⟨lb, off, none⟩), .agg #[.int .i64 6, .int .i64 who, .int .i64 iA, .int .i64 jA, .int .i64 kA, .slice aD nD cD]] w fun e w' => e = .returned (.bool true) ∧ StV σ base lb off bb p ad room last adR w w' := by
  obtain ⟨r, hr⟩ : ∃ r, sSp l iA jA kA = r := ⟨_, rfl⟩
  obtain ⟨r1, r4⟩ := r
  have hmx : Tryz.prog.follows .mixedOrders = true := by kernel_rfl
  obtain ⟨w1, hw1⟩ : ∃ w1, w.alloc (.cells #[.int .i64 6, .int .i64 who, .int .i64 iA, .int .i64 jA, .int .i64 kA, .slice aD nD cD] 57) = w1 := ⟨_, rfl⟩
  have hb1 : Below w.heap.size w w1 := by rw [← hw1]; exact al1' _ _
  have hO : OpB w1 w.heap.size 6 who iA jA kA (.slice aD nD cD) := by rw [← hw1]; exact new_at rfl
  have hS := h.carry hb1
  have o0 := hO.c0
  have hE1 : Ev base lb (off + 1) p (ob ad) (ob ad) (ob adR) (ob adR) w w1 := Ev.of hb1 h.bz h.rg.lt
  have hj0 : JM σ base lb off bb p ad cap room last ps l adR capR av last r4 w 6 who iA jA kA (.slice aD nD cD) false false w1 := ⟨hO, hb1.size, hS, hE1⟩
  have HP : Hid (∀ V, Bg σ V base p ad cap room last ps l → Calls Tryz.prog 25 #[.pointer (some ⟨p, 0, none⟩), .int .i64 iA, .int .i64 jA, .int .i64 kA] V fun e w' => e = .returned (.int .i64 r1) ∧ ∃ ad' cap' ps', Bg σ w' base p ad' cap' room last ps' r4 ∧ Tn p (ob ad) (ob ad') V w') := fun V hV => by
    have := spoil_any hV iA jA kA
    rw [hr] at this
    exact this
  have HR : Hid (∀ V, base ≤ V.heap.size → Rg V base lb (off + 1) adR capR last room l av → Calls Tryz.prog 26 #[.pointer (some ⟨lb, off + 1, none⟩), .int .i64 iA, .int .i64 jA, .int .i64 kA] V fun e w' => e = .returned (.int .i64 r1) ∧ ∃ ad' cap' av', Rg w' base lb (off + 1) ad' cap' last room r4 av' ∧ Tr lb (off + 1) (ob adR) (ob ad') V w') := fun V _ hV => by
    have := rSpoil_any hV iA jA kA
    rw [hr] at this
    exact this
  clear h hS hE1 hO hr
  go_enter Tryz.func7, Tryz.ntmps7
  go_wp2
  rename_i Q0 K0 hK
  refine wp_region_any hmx ?_
  refine wpAny_tabG (G := (Unit)) (fun g i__ => ([(.pointer (some ⟨lb, off, none⟩)), (.pointer (some ⟨lb, off, none⟩)), (.pointer (some ⟨lb, off, none⟩)), (.pointer (some ⟨p, 0, none⟩)), (.pointer (some ⟨w.heap.size, 2, none⟩)), (.int .i64 iA), (.pointer (some ⟨w.heap.size, 3, none⟩)), (.int .i64 jA), (.pointer (some ⟨w.heap.size, 4, none⟩)), (.int .i64 kA), (.int .i64 r1), (.pointer (some ⟨lb, off, none⟩)), (.pointer (some ⟨lb, off, none⟩)), (.pointer (some ⟨lb, off + 1, none⟩)), (.pointer (some ⟨w.heap.size, 2, none⟩)), (.int .i64 iA), (.pointer (some ⟨w.heap.size, 3, none⟩)), (.int .i64 jA), (.pointer (some ⟨w.heap.size, 4, none⟩)), (.int .i64 kA), (.int .i64 r1), (.bool true), (.bool true)] : List Value).getD i__ undef) (fun _ d V => JM σ base lb off bb p ad cap room last ps l adR capR av last r4 w 6 who iA jA kA (.slice aD nD cD) (d 10) (d 20) V) (by kernel_rfl) (()) (show JM σ base lb off bb p ad cap room last ps l adR capR av last r4 w 6 who iA jA kA (.slice aD nD cD) false false _ from ⟨hj0.1.carry (Below.refl _ _).drew, hj0.2.1, hj0.2.2.1.carry (Below.refl _ _).drew, hj0.2.2.2.trans (Ev.of (Below.refl _ _).drew hj0.2.2.1.bz hj0.2.2.1.rg.lt)⟩) ?step4 ?fin4
  case step4 =>
    intro i o ho
    have hi : i < 23 := getElem?_lt ho
    match i, hi, ho with
    | 0, _, ho =>
      cases ho
      refine stepG_of (fun g d hdep => ?_)
      exact step_move rfl trivial _ rfl (by kernel_rfl)
    | 1, _, ho =>
      cases ho
      refine stepG_of (fun g d hdep => ?_)
      exact step_nilCheck rfl trivial _ _ _ rfl rfl rfl
    | 2, _, ho =>
      cases ho
      refine stepG_of (fun g d hdep => ?_)
      exact step_fieldAddr rfl trivial _ _ _ _ rfl rfl (fun v hw => field_bo0 v _ _)
    | 3, _, ho =>
      cases ho
      exact stepG_ofCB (fun g d hun hdep hcl => step_load rfl trivial _ _ _ rfl rfl (fun v hw => load_bop (hw.p0 (by cases h : d 20 with | false => rfl | true => exact absurd (hcl 10 _ rfl (hcl 20 _ rfl h 10 (by kernel_rfl)) 3 (by kernel_rfl)) (by rw [hun]; simp)))))
    | 4, _, ho =>
      cases ho
      refine stepG_of (fun g d hdep => ?_)
      exact step_fieldAddr rfl trivial _ _ _ _ rfl rfl (fun v hw => field_op v _ 2 (by decide))
    | 5, _, ho =>
      cases ho
      refine stepG_of (fun g d hdep => ?_)
      exact step_load rfl trivial _ _ _ rfl rfl (fun v hw => load_i hw.1.c2)
    | 6, _, ho =>
      cases ho
      refine stepG_of (fun g d hdep => ?_)
      exact step_fieldAddr rfl trivial _ _ _ _ rfl rfl (fun v hw => field_op v _ 3 (by decide))
    | 7, _, ho =>
      cases ho
      refine stepG_of (fun g d hdep => ?_)
      exact step_load rfl trivial _ _ _ rfl rfl (fun v hw => load_i hw.1.c3)
    | 8, _, ho =>
      cases ho
      refine stepG_of (fun g d hdep => ?_)
      exact step_fieldAddr rfl trivial _ _ _ _ rfl rfl (fun v hw => field_op v _ 4 (by decide))
    | 9, _, ho =>
      cases ho
      refine stepG_of (fun g d hdep => ?_)
      exact step_load rfl trivial _ _ _ rfl rfl (fun v hw => load_i hw.1.c4)
    | 10, _, ho =>
      cases ho
      exact stepG_ofCB (fun g d hun hdep hcl => step_call rfl trivial 25 _ _ [(.pointer (some ⟨p, 0, none⟩)), (.int .i64 iA), (.int .i64 jA), (.int .i64 kA)] rfl (by kernel_rfl) (enters_of Tryz.func25 (by kernel_rfl) rfl) (fun V hw => by have hw' := hw; rw [hun] at hw'; have hb : d 20 = false := (by cases h : d 20 with | false => rfl | true => exact absurd (hcl 20 _ rfl h 10 (by kernel_rfl)) (by rw [hun]; simp)); rw [hb] at hw'; obtain ⟨k1, k2, k3, k4⟩ := hw'; exact (HP.out V k3.bg).mono (by rintro e w' ⟨rfl, ad1, cap1, ps1, hB, hT⟩; refine ⟨rfl, ?_⟩; show JM σ base lb off bb p ad cap room last ps l adR capR av last r4 w 6 who iA jA kA (.slice aD nD cD) true (d 20) w'; rw [hb]; exact ⟨k1.tn k3.bg hT, Nat.le_trans k2 hT.size, ad1, cap1, ps1, k3.mid k4 hB hT⟩)))
    | 11, _, ho =>
      cases ho
      refine stepG_of (fun g d hdep => ?_)
      exact step_move rfl trivial _ rfl (by kernel_rfl)
    | 12, _, ho =>
      cases ho
      refine stepG_of (fun g d hdep => ?_)
      exact step_nilCheck rfl trivial _ _ _ rfl rfl rfl
    | 13, _, ho =>
      cases ho
      refine stepG_of (fun g d hdep => ?_)
      exact step_fieldAddr rfl trivial _ _ _ _ rfl rfl (fun v hw => field_bo1 v _ _)
    | 14, _, ho =>
      cases ho
      refine stepG_of (fun g d hdep => ?_)
      exact step_fieldAddr rfl trivial _ _ _ _ rfl rfl (fun v hw => field_op v _ 2 (by decide))
    | 15, _, ho =>
      cases ho
      refine stepG_of (fun g d hdep => ?_)
      exact step_load rfl trivial _ _ _ rfl rfl (fun v hw => load_i hw.1.c2)
    | 16, _, ho =>
      cases ho
      refine stepG_of (fun g d hdep => ?_)
      exact step_fieldAddr rfl trivial _ _ _ _ rfl rfl (fun v hw => field_op v _ 3 (by decide))
    | 17, _, ho =>
      cases ho
      refine stepG_of (fun g d hdep => ?_)
      exact step_load rfl trivial _ _ _ rfl rfl (fun v hw => load_i hw.1.c3)
    | 18, _, ho =>
      cases ho
      refine stepG_of (fun g d hdep => ?_)
      exact step_fieldAddr rfl trivial _ _ _ _ rfl rfl (fun v hw => field_op v _ 4 (by decide))
    | 19, _, ho =>
      cases ho
      refine stepG_of (fun g d hdep => ?_)
      exact step_load rfl trivial _ _ _ rfl rfl (fun v hw => load_i hw.1.c4)
    | 20, _, ho =>
      cases ho
      exact stepG_ofCB (fun g d hun hdep hcl => step_call rfl trivial 26 _ _ [(.pointer (some ⟨lb, off + 1, none⟩)), (.int .i64 iA), (.int .i64 jA), (.int .i64 kA)] rfl (by kernel_rfl) (enters_of Tryz.func26 (by kernel_rfl) rfl) (fun V hw => by have hw' := hw; have ha : d 10 = true := hdep 10 (by kernel_rfl); rw [ha, hun] at hw'; obtain ⟨k1, k2, a1, c1, p1, hm⟩ := hw'; exact (HR.out V hm.bz hm.rg).mono (by rintro e w' ⟨rfl, ad1, cap1, av1, hR, hT⟩; refine ⟨rfl, ?_⟩; show JM σ base lb off bb p ad cap room last ps l adR capR av last r4 w 6 who iA jA kA (.slice aD nD cD) (d 10) true w'; rw [ha]; exact ⟨k1.tr hm.rg hT, Nat.le_trans k2 hT.size, hm.stv k2 hR hT ⟨Int.le_refl _, by omega⟩⟩)))
    | 21, _, ho =>
      cases ho
      refine stepG_of (fun g d hdep => ?_)
      exact step_binOp rfl trivial _ _ _ _ _ _ _ rfl rfl rfl (fun w hw => (bin_eql .i64 _ _).trans (by simp))
    | 22, _, ho =>
      cases ho
      refine stepG_of (fun g d hdep => ?_)
      exact step_assign rfl trivial _ rfl (by kernel_rfl) (fun _ h => h)
  intro g d W hall hW
  first | refine hK _ _ ?_ | refine (‹∀ (a : Act) (w : World), Code.wp Tryz.prog _ _ a w → _›) _ _ ?_ | skip
  simp only [finL, List.getD_cons_zero, List.getD_cons_succ, Nat.zero_add, Nat.reduceAdd, List.setIfInBounds_toArray, List.set_cons_zero, List.set_cons_succ]
  rw [hall 10 (by decide), hall 20 (by decide)] at hW
  have HST : Hid (StV σ base lb off bb p ad room last adR w W) := hW.2.2
  clear hW hall hK hj0
  go_wp2
  go_ret
  exact ⟨rfl, HST.out⟩
end
end Go.Proofs.YtjfbnikbmadgkaaGreat
