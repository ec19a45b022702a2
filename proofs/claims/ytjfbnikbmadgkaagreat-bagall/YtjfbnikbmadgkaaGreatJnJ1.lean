/- Steps of the play of bags: Take; every step. -/
import Derived.Test.YtjfbnikbmadgkaaGreatJnJ0
import Derived.Test.YtjfbnikbmadgkaaGreatBgl
import Derived.Lib.SlBytesConst
namespace Go.Proofs.YtjfbnikbmadgkaaGreat
open Go.RowKit Go.Shelf Go.Lib

theorem ne_gram {W : World} {b B : Nat} {cur : Array Value} {i f t : Int} {v : Value} (h : W.heap[b]? = some (.cells cur 5 (0, 0))) (hG : GB W B i f t v) (e : b = B) : False := by
  subst e
  have := h.symm.trans hG
  simp only [Option.some.injEq, Obj.cells.injEq] at this
  exact absurd this.2.1 (by decide)
section
variable {σ : Nat → Prop} {base lb off bb p : Nat} {ad : Option Addr} {cap : Nat} {room last : Int} {ps : List Nat} {l : List Gr} {adR : Option Addr} {capR : Nat} {av : List (Option Addr × Nat)} {w : World}
set_option maxHeartbeats 8000000 in
set_option maxRecDepth 100000 in
theorem step_3 (h : Sd σ base lb off bb p ad cap room last ps l adR capR av w) (who iA jA kA : Int) (aD : Option Addr) (nD cD : Nat) : Calls Tryz.prog 7 #[.pointer (some ⟨lb, off, none⟩), .agg #[.int .i64 3, .int .i64 who, .int .i64 iA, .int .i64 jA, .int .i64 kA, .slice aD nD cD]] w fun e w' => e = .returned (.bool true) ∧ StV σ base lb off bb p ad room last adR w w' := by
  have hmx : Tryz.prog.follows .mixedOrders = true := by kernel_rfl
  obtain ⟨w1, hw1⟩ : ∃ w1, w.alloc (.cells #[.int .i64 3, .int .i64 who, .int .i64 iA, .int .i64 jA, .int .i64 kA, .slice aD nD cD] 57) = w1 := ⟨_, rfl⟩
  have hb1 : Below w.heap.size w w1 := by rw [← hw1]; exact al1' _ _
  have hO : OpB w1 w.heap.size 3 who iA jA kA (.slice aD nD cD) := by rw [← hw1]; exact new_at rfl
  have o0 := hO.c0
  have hbz := h.bz
  obtain ⟨r, hr⟩ : ∃ r, sTk l iA = r := ⟨_, rfl⟩
  have hfe : r.1.2.2.2.length ≤ 1024 := by
    rw [← hr]
    unfold sTk
    split
    · next hi =>
      obtain ⟨y, hy⟩ : ∃ y, l[iA.toNat]? = some y := ⟨_, List.getElem?_eq_getElem (by omega)⟩
      rw [hy]
      exact (h.rg.few y (List.mem_of_getElem? hy)).1
    · simp [g0]
  obtain ⟨⟨xi, xf, xt, xd⟩, E, l1⟩ := r
  obtain ⟨n, hn⟩ : ∃ n, xd.length = n := ⟨_, rfl⟩
  dsimp only at hfe
  rw [hn] at hfe
  have HP : Hid (∀ (ρ : Nat → Prop) V, Bg ρ V base p ad cap room last ps l → Calls Tryz.prog 19 #[.pointer (some ⟨p, 0, none⟩), .int .i64 iA] V fun e w' => ∃ a c, e = .returned (.tuple #[.agg #[.int .i64 xi, .int .i64 xf, .int .i64 xt, .slice a n c], .int .i64 E]) ∧ w'.ownsRow V.heap.size 5 1 (.slice a n c) n (cB xd) ∧ ∃ ad' cap' ps', Bg ρ w' base p ad' cap' room last ps' l1 ∧ Tn p (ob ad) (ob ad') V w') := fun ρ V hV => by
    have := take_any hV iA
    rw [hr] at this
    unfold gV at this
    dsimp only at this
    rw [hn] at this
    exact this
  have HR : Hid (∀ V, base ≤ V.heap.size → Rg V base lb (off + 1) adR capR last room l av → Calls Tryz.prog 20 #[.pointer (some ⟨lb, off + 1, none⟩), .int .i64 iA] V fun e w' => ∃ a c, e = .returned (.tuple #[.agg #[.int .i64 xi, .int .i64 xf, .int .i64 xt, .slice a n c], .int .i64 E]) ∧ RdY w' a xd ∧ (a = none → c = 0) ∧ ∃ ad' cap' av', Rg w' base lb (off + 1) ad' cap' last room l1 av' ∧ Tr lb (off + 1) (ob adR) (ob ad') V w') := fun V hz hV => by
    have := rTake_any hV iA hz
    rw [hr] at this
    unfold gV at this
    dsimp only at this
    rw [hn] at this
    exact this
  have HNX : Hid (xd.length = n) := hn
  have HSR : Hid (∀ b, ob adR = some b → b < w.heap.size ∧ σ b) := fun b e => by
    obtain ⟨_, c, hc⟩ := h.rg.blkR e
    exact ⟨lt_at hc, h.sr b e⟩
  have hj0 : JTa σ base lb off bb p ad cap room last ps l adR capR av l1 (xi, xf, xt, xd) n w who iA jA kA (.slice aD nD cD) (none, 0, 0) false false false w1 := ⟨hO, hb1.size, fun _ => ⟨h.more hb1 (fun b q => by
    rcases q with q | ⟨q, _⟩
    · exact .inl q
    · cases q) (fun b q => by
    rcases q with q | ⟨q, _⟩
    · exact Nat.lt_of_lt_of_le (h.bg.sg b q) hb1.size
    · cases q) (fun b q => .inl q), Ev.of hb1 hbz h.rg.lt⟩, (fun e => by cases e), (fun e => by cases e), fun b e => (HSR.out b e).1, (NKp.imp h.nk (fun b hb _ => hb) (fun b hb q => ⟨q, hb⟩)).carry hb1⟩
  have HSG : Hid (∀ b, σ b → b < w.heap.size) := fun b q => h.bg.sg b q
  clear h hO hr hn
  go_enter Tryz.func7, Tryz.ntmps7
  go_wp2
  rename_i Q0 K0 hK
  refine wp_region_any hmx ?_
  refine wpAny_tabG (G := (GX)) (fun g i__ => ([(.pointer (some ⟨lb, off, none⟩)), (.pointer (some ⟨lb, off, none⟩)), (.pointer (some ⟨lb, off, none⟩)), (.pointer (some ⟨p, 0, none⟩)), (.pointer (some ⟨w.heap.size, 2, none⟩)), (.int .i64 iA), (.tuple #[.agg #[.int .i64 xi, .int .i64 xf, .int .i64 xt, .slice g.1 n g.2.1], .int .i64 E]), (.tuple #[.agg #[.int .i64 xi, .int .i64 xf, .int .i64 xt, .slice g.1 n g.2.1], .int .i64 E]), (.agg #[.int .i64 xi, .int .i64 xf, .int .i64 xt, .slice g.1 n g.2.1]), (.int .i64 E), (.pointer (some ⟨g.2.2, 0, none⟩)), undef, (.int .i64 E)] : List Value).getD i__ undef) (fun g d V => JTa σ base lb off bb p ad cap room last ps l adR capR av l1 (xi, xf, xt, xd) n w who iA jA kA (.slice aD nD cD) g (d 6) (d 10) (d 11) V) (by kernel_rfl) ((none, 0, 0)) (show JTa σ base lb off bb p ad cap room last ps l adR capR av l1 (xi, xf, xt, xd) n w who iA jA kA (.slice aD nD cD) (none, 0, 0) false false false _ from ⟨hj0.op.carry (Below.refl _ _).drew, hj0.z, fun e => ⟨(hj0.a e).1.carry (Below.refl _ _).drew, (hj0.a e).2.trans (Ev.of (Below.refl _ _).drew (hj0.a e).1.bz (hj0.a e).1.rg.lt)⟩, (fun e => by cases e), (fun e => by cases e), hj0.rl, hj0.nb.carry (Below.refl _ _).drew⟩) ?step10 ?fin10
  case step10 =>
    intro i o ho
    have hi : i < 13 := getElem?_lt ho
    match i, hi, ho with
    | 0, _, ho =>
      cases ho
      refine stepG_of (fun g d hdep => ?_)
      exact step_move rfl trivial _ rfl (by kernel_rfl)
    | 1, _, ho =>
      cases ho
      refine stepG_of (fun g d hdep => ?_)
      exact step_nilCheck rfl trivial _ _ _ rfl rfl rfl
    | 2, _, ho =>
      cases ho
      refine stepG_of (fun g d hdep => ?_)
      exact step_fieldAddr rfl trivial _ _ _ _ rfl rfl (fun v hw => field_bo0 v _ _)
    | 3, _, ho =>
      cases ho
      refine stepG_of (fun g d hdep => ?_)
      exact step_load rfl trivial _ _ _ rfl rfl (fun v hw => load_bop hw.p0)
    | 4, _, ho =>
      cases ho
      refine stepG_of (fun g d hdep => ?_)
      exact step_fieldAddr rfl trivial _ _ _ _ rfl rfl (fun v hw => field_op v _ 2 (by decide))
    | 5, _, ho =>
      cases ho
      refine stepG_of (fun g d hdep => ?_)
      exact step_load rfl trivial _ _ _ rfl rfl (fun v hw => load_i hw.op.c2)
    | 6, _, ho =>
      cases ho
      exact stepG_call rfl (fun g => trivial) 19 _ _ (fun _ => [(.pointer (some ⟨p, 0, none⟩)), (.int .i64 iA)]) rfl (fun g => by kernel_rfl) (enters_of Tryz.func19 (by kernel_rfl) rfl) (fun g d W' hJ hun hdep hcl => (HP.out _ W' (hJ.a hun).1.bg).mono (by rintro e w' ⟨a, c, rfl, ho, ad1, cap1, ps1, hB, hT⟩; refine ⟨(a, c, g.2.2), rfl, (fun j hj => match j, hj with | 6, hj => (by rw [hj] at hun; cases hun) | 7, hj => absurd ((hcl 7 _ rfl hj 6 (by kernel_rfl))) (by rw [hun]; simp) | 8, hj => absurd ((hcl 7 _ rfl (hcl 8 _ rfl hj 7 (by kernel_rfl)) 6 (by kernel_rfl))) (by rw [hun]; simp) | 0, _ => rfl | 1, _ => rfl | 2, _ => rfl | 3, _ => rfl | 4, _ => rfl | 5, _ => rfl | 9, _ => rfl | 10, _ => rfl | 11, _ => rfl | 12, _ => rfl | _ + 13, _ => rfl), ?_⟩; have h7 : d 7 = false := (by cases h : d 7 with | false => rfl | true => exact absurd (hcl 7 _ rfl h 6 (by kernel_rfl)) (by rw [hun]; simp)); have h8 : d 8 = false := (by cases h : d 8 with | false => rfl | true => exact absurd (hcl 8 _ rfl h 7 (by kernel_rfl)) (by rw [h7]; simp)); have h11 : d 11 = false := (by cases h : d 11 with | false => rfl | true => exact absurd (hcl 11 _ rfl h 8 (by kernel_rfl)) (by rw [h8]; simp)); show JTa σ base lb off bb p ad cap room last ps l adR capR av l1 (xi, xf, xt, xd) n w who iA jA kA (.slice aD nD cD) _ true (d 10) (d 11) w'; have hJ' := hJ; rw [hun, h11] at hJ'; rw [h11]; exact hJ'.told hT hB ho))
    | 7, _, ho =>
      cases ho
      refine stepG_of (fun g d hdep => ?_)
      exact step_move rfl trivial _ rfl (by kernel_rfl)
    | 8, _, ho =>
      cases ho
      refine stepG_of (fun g d hdep => ?_)
      exact step_extract rfl trivial _ _ _ rfl rfl (fun v hw => ext2_0 _ _ v)
    | 9, _, ho =>
      cases ho
      refine stepG_of (fun g d hdep => ?_)
      exact step_extract rfl trivial _ _ _ rfl rfl (fun v hw => ext2_1 _ _ v)
    | 10, _, ho =>
      cases ho
      exact stepG_newGr rfl rfl rfl (fun g d W' hJ hun hcl => ⟨(g.1, g.2.1, W'.heap.size), (fun j hj => match j, hj with | 10, hj => (by rw [hj] at hun; cases hun)  | 0, _ => rfl | 1, _ => rfl | 2, _ => rfl | 3, _ => rfl | 4, _ => rfl | 5, _ => rfl | 6, _ => rfl | 7, _ => rfl | 8, _ => rfl | 9, _ => rfl | 11, _ => rfl | 12, _ => rfl | _ + 13, _ => rfl), rfl, by have h11 : d 11 = false := (by cases h : d 11 with | false => rfl | true => exact absurd (hcl 11 _ rfl h 10 (by kernel_rfl)) (by rw [hun]; simp)); show JTa σ base lb off bb p ad cap room last ps l adR capR av l1 (xi, xf, xt, xd) n w who iA jA kA (.slice aD nD cD) _ (d 6) true (d 11) _; rw [hun, h11] at hJ; rw [h11]; exact hJ.new⟩)
    | 11, _, ho =>
      cases ho
      exact stepG_ofCB (fun g d hun hdep hcl => step_store rfl trivial rfl _ _ _ _ _ rfl rfl rfl (fun w' hw => by have h10 := hdep 10 (by kernel_rfl); have h6 : d 6 = true := hcl 7 _ rfl (hcl 8 _ rfl (hdep 8 (by kernel_rfl)) 7 (by kernel_rfl)) 6 (by kernel_rfl); have hw' := hw; rw [h10, h6, hun] at hw'; exact ⟨_, (hw'.store hbz).1, by show JTa σ base lb off bb p ad cap room last ps l adR capR av l1 (xi, xf, xt, xd) n w who iA jA kA (.slice aD nD cD) g (d 6) (d 10) true _; rw [h10, h6]; exact (hw'.store hbz).2⟩))
    | 12, _, ho =>
      cases ho
      refine stepG_of (fun g d hdep => ?_)
      exact step_assign rfl trivial _ rfl (by kernel_rfl) (fun _ h => h)
  intro g d W hall hW
  first | refine hK _ _ ?_ | refine (‹∀ (a : Act) (w : World), Code.wp Tryz.prog _ _ a w → _›) _ _ ?_ | skip
  simp only [finL, List.getD_cons_zero, List.getD_cons_succ, Nat.zero_add, Nat.reduceAdd, List.setIfInBounds_toArray, List.set_cons_zero, List.set_cons_succ]
  rw [hall 6 (by decide), hall 10 (by decide), hall 11 (by decide)] at hW
  clear hK hall hj0
  obtain ⟨gA, cA, BA⟩ := g
  obtain ⟨⟨a1, c1, p1, hm⟩, hd1⟩ := hW.b rfl
  have hbx := hW.bx rfl
  have hg1 := hbx.2.2 rfl
  have hj1 : JTb σ base lb off bb p ad cap room last ps l adR capR av l1 (xi, xf, xt, xd) n w who iA jA kA (.slice aD nD cD) a1 c1 p1 gA cA BA W.heap.size (none, 0, 0) false false false W := ⟨hW.op, Nat.le_refl _, hg1, hd1, fun _ => hm.more (Below.refl _ _) (fun b q => by
    rcases q with (q | q) | ⟨q, _⟩
    · exact .inl (.inl q)
    · exact .inl (.inr ⟨rfl, q⟩)
    · cases q) (fun b q => by
    rcases q with (q | q) | ⟨q, _⟩
    · exact hm.bg.sg b (.inl q)
    · exact hm.bg.sg b (.inr ⟨rfl, q⟩)
    · cases q) (fun b q => by
    rcases q with q | ⟨_, q⟩
    · exact .inl (.inl q)
    · exact .inl (.inr q)), (fun e => by cases e), (fun e => by cases e), HSR.out, ⟨hbx.1, lt_at hg1⟩, hW.nb⟩
  have HJ1 : Hid (JTb σ base lb off bb p ad cap room last ps l adR capR av l1 (xi, xf, xt, xd) n w who iA jA kA (.slice aD nD cD) a1 c1 p1 gA cA BA W.heap.size (none, 0, 0) false false false W) := hj1
  clear hW hm hd1 hbx hg1 hj1
  go_wp2
  rename_i Q1 K1 hK
  refine wp_region_any hmx ?_
  refine wpAny_tabG (G := (GX)) (fun g i__ => ([(.pointer (some ⟨lb, off, none⟩)), (.pointer (some ⟨lb, off, none⟩)), (.pointer (some ⟨lb, off + 1, none⟩)), (.pointer (some ⟨w.heap.size, 2, none⟩)), (.int .i64 iA), (.tuple #[.agg #[.int .i64 xi, .int .i64 xf, .int .i64 xt, .slice g.1 n g.2.1], .int .i64 E]), (.tuple #[.agg #[.int .i64 xi, .int .i64 xf, .int .i64 xt, .slice g.1 n g.2.1], .int .i64 E]), (.agg #[.int .i64 xi, .int .i64 xf, .int .i64 xt, .slice g.1 n g.2.1]), (.int .i64 E), (.pointer (some ⟨g.2.2, 0, none⟩)), undef, (.int .i64 E)] : List Value).getD i__ undef) (fun g d V => JTb σ base lb off bb p ad cap room last ps l adR capR av l1 (xi, xf, xt, xd) n w who iA jA kA (.slice aD nD cD) a1 c1 p1 gA cA BA W.heap.size g (d 5) (d 9) (d 10) V) (by kernel_rfl) ((none, 0, 0)) (show JTb σ base lb off bb p ad cap room last ps l adR capR av l1 (xi, xf, xt, xd) n w who iA jA kA (.slice aD nD cD) a1 c1 p1 gA cA BA W.heap.size (none, 0, 0) false false false _ from ⟨HJ1.out.op.carry (Below.refl _ _).drew, HJ1.out.z, HJ1.out.b1.carry (Below.refl _ _).drew, row_below HJ1.out.d1 (Below.refl _ _).drew, fun e => (HJ1.out.a e).carry (Below.refl _ _).drew, (fun e => by cases e), (fun e => by cases e), HJ1.out.rl, HJ1.out.ba, HJ1.out.nb.carry (Below.refl _ _).drew⟩) ?step11 ?fin11
  case step11 =>
    intro i o ho
    have hi : i < 12 := getElem?_lt ho
    match i, hi, ho with
    | 0, _, ho =>
      cases ho
      refine stepG_of (fun g d hdep => ?_)
      exact step_move rfl trivial _ rfl (by kernel_rfl)
    | 1, _, ho =>
      cases ho
      refine stepG_of (fun g d hdep => ?_)
      exact step_nilCheck rfl trivial _ _ _ rfl rfl rfl
    | 2, _, ho =>
      cases ho
      refine stepG_of (fun g d hdep => ?_)
      exact step_fieldAddr rfl trivial _ _ _ _ rfl rfl (fun v hw => field_bo1 v _ _)
    | 3, _, ho =>
      cases ho
      refine stepG_of (fun g d hdep => ?_)
      exact step_fieldAddr rfl trivial _ _ _ _ rfl rfl (fun v hw => field_op v _ 2 (by decide))
    | 4, _, ho =>
      cases ho
      refine stepG_of (fun g d hdep => ?_)
      exact step_load rfl trivial _ _ _ rfl rfl (fun v hw => load_i hw.op.c2)
    | 5, _, ho =>
      cases ho
      exact stepG_call rfl (fun g => trivial) 20 _ _ (fun _ => [(.pointer (some ⟨lb, off + 1, none⟩)), (.int .i64 iA)]) rfl (fun g => by kernel_rfl) (enters_of Tryz.func20 (by kernel_rfl) rfl) (fun g d W' hJ hun hdep hcl => (HR.out W' (hJ.a hun).bz (hJ.a hun).rg).mono (by rintro e w' ⟨a, c, rfl, hdd, hnc, ad1, cap1, av1, hR, hT⟩; refine ⟨(a, c, g.2.2), rfl, (fun j hj => match j, hj with | 5, hj => (by rw [hj] at hun; cases hun) | 6, hj => absurd ((hcl 6 _ rfl hj 5 (by kernel_rfl))) (by rw [hun]; simp) | 7, hj => absurd ((hcl 6 _ rfl (hcl 7 _ rfl hj 6 (by kernel_rfl)) 5 (by kernel_rfl))) (by rw [hun]; simp) | 0, _ => rfl | 1, _ => rfl | 2, _ => rfl | 3, _ => rfl | 4, _ => rfl | 8, _ => rfl | 9, _ => rfl | 10, _ => rfl | 11, _ => rfl | _ + 12, _ => rfl), ?_⟩; have h6 : d 6 = false := (by cases h : d 6 with | false => rfl | true => exact absurd (hcl 6 _ rfl h 5 (by kernel_rfl)) (by rw [hun]; simp)); have h7 : d 7 = false := (by cases h : d 7 with | false => rfl | true => exact absurd (hcl 7 _ rfl h 6 (by kernel_rfl)) (by rw [h6]; simp)); have h10 : d 10 = false := (by cases h : d 10 with | false => rfl | true => exact absurd (hcl 10 _ rfl h 7 (by kernel_rfl)) (by rw [h7]; simp)); show JTb σ base lb off bb p ad cap room last ps l adR capR av l1 (xi, xf, xt, xd) n w who iA jA kA (.slice aD nD cD) a1 c1 p1 gA cA BA W.heap.size _ true (d 9) (d 10) w'; have hJ' := hJ; rw [hun, h10] at hJ'; rw [h10]; exact hJ'.told hR hT hdd))
    | 6, _, ho =>
      cases ho
      refine stepG_of (fun g d hdep => ?_)
      exact step_move rfl trivial _ rfl (by kernel_rfl)
    | 7, _, ho =>
      cases ho
      refine stepG_of (fun g d hdep => ?_)
      exact step_extract rfl trivial _ _ _ rfl rfl (fun v hw => ext2_0 _ _ v)
    | 8, _, ho =>
      cases ho
      refine stepG_of (fun g d hdep => ?_)
      exact step_extract rfl trivial _ _ _ rfl rfl (fun v hw => ext2_1 _ _ v)
    | 9, _, ho =>
      cases ho
      exact stepG_newGr rfl rfl rfl (fun g d W' hJ hun hcl => ⟨(g.1, g.2.1, W'.heap.size), (fun j hj => match j, hj with | 9, hj => (by rw [hj] at hun; cases hun)  | 0, _ => rfl | 1, _ => rfl | 2, _ => rfl | 3, _ => rfl | 4, _ => rfl | 5, _ => rfl | 6, _ => rfl | 7, _ => rfl | 8, _ => rfl | 10, _ => rfl | 11, _ => rfl | _ + 12, _ => rfl), rfl, by have h11 : d 10 = false := (by cases h : d 10 with | false => rfl | true => exact absurd (hcl 10 _ rfl h 9 (by kernel_rfl)) (by rw [hun]; simp)); show JTb σ base lb off bb p ad cap room last ps l adR capR av l1 (xi, xf, xt, xd) n w who iA jA kA (.slice aD nD cD) a1 c1 p1 gA cA BA W.heap.size _ (d 5) true (d 10) _; rw [hun, h11] at hJ; rw [h11]; exact hJ.new⟩)
    | 10, _, ho =>
      cases ho
      exact stepG_ofCB (fun g d hun hdep hcl => step_store rfl trivial rfl _ _ _ _ _ rfl rfl rfl (fun w' hw => by have h9 := hdep 9 (by kernel_rfl); have h5 : d 5 = true := hcl 6 _ rfl (hcl 7 _ rfl (hdep 7 (by kernel_rfl)) 6 (by kernel_rfl)) 5 (by kernel_rfl); have hw' := hw; rw [h9, h5, hun] at hw'; exact ⟨_, (hw'.store hbz).1, by show JTb σ base lb off bb p ad cap room last ps l adR capR av l1 (xi, xf, xt, xd) n w who iA jA kA (.slice aD nD cD) a1 c1 p1 gA cA BA W.heap.size g (d 5) (d 9) true _; rw [h9, h5]; exact (hw'.store hbz).2⟩))
    | 11, _, ho =>
      cases ho
      refine stepG_of (fun g d hdep => ?_)
      exact step_assign rfl trivial _ rfl (by kernel_rfl) (fun _ h => h)
  intro g d W hall hW
  first | refine hK _ _ ?_ | refine (‹∀ (a : Act) (w : World), Code.wp Tryz.prog _ _ a w → _›) _ _ ?_ | skip
  simp only [finL, List.getD_cons_zero, List.getD_cons_succ, Nat.zero_add, Nat.reduceAdd, List.setIfInBounds_toArray, List.set_cons_zero, List.set_cons_succ]
  rw [hall 5 (by decide), hall 9 (by decide), hall 10 (by decide)] at hW
  clear hK hall HJ1
  obtain ⟨gB, cB', BB⟩ := g
  obtain ⟨adR1, capR1, av1, k1, k2, k3, k4, k5⟩ := hW.b rfl
  obtain ⟨hx1, hx2, _, hx3⟩ := hW.bx rfl
  have hba := hW.ba
  dsimp only at k1 k2 k3 k4 k5 hx1 hx2 hx3
  obtain ⟨ρ, hj2, hy2⟩ : ∃ ρ : Nat → Prop, JE ρ base lb off bb p a1 c1 room last p1 l1 adR1 capR1 av1 ad adR σ (xi, xf, xt, xd) n gA cA BA gB cB' BB w W ∧ Jy ρ base bb gA n cA (xi, xf, xt, xd) W := ⟨_, ⟨k1, ⟨fun b q => .inl (.inl (.inl q)), fun b q => by
    rcases q with ((q | q) | ⟨_, q⟩) | q
    · exact .inl q
    · exact .inr (by omega)
    · exact .inr (by omega)
    · exact k4 b q, k2⟩, hW.b1, hx3 rfl, ⟨_, hW.d1⟩, k5⟩, ⟨w.heap.size, hW.d1, NKp.imp hW.nb (fun _ _ q => q) (fun _ _ _ => trivial), hbz, fun b e q => by
    obtain ⟨z1, cur, hc⟩ := own_blk hW.d1 b (by rw [ob_eq]; exact e)
    rcases q with ((q | q) | ⟨_, q⟩) | q
    · have := HSG.out b q
      omega
    · exact ne_gram hc hW.b1 q
    · exact ne_gram hc (hx3 rfl) q
    · obtain ⟨_, c2, hc2⟩ := k1.rg.blkR q
      rw [hc] at hc2
      simp only [Option.some.injEq, Obj.cells.injEq] at hc2
      exact absurd hc2.2.1 (by decide)⟩⟩
  have HY2 : Hid (Jy ρ base bb gA n cA (xi, xf, xt, xd) W) := hy2
  have HJ2 : Hid (JE ρ base lb off bb p a1 c1 room last p1 l1 adR1 capR1 av1 ad adR σ (xi, xf, xt, xd) n gA cA BA gB cB' BB w W) := hj2
  clear hW k1 k2 k3 k4 k5 hj2 hy2 hx1 hx2 hx3 hba
  go_wp2
  rename_i Q2 K2 hK
  refine wp_region_any hmx ?_
  refine wpAny_tabG (G := (Value)) (fun g i__ => ([(.pointer (some ⟨lb, off, none⟩)), (.pointer (some ⟨lb, off, none⟩)), (.pointer (some ⟨lb, off + 4, none⟩)), (.pointer (some ⟨bb, 0, none⟩)), (.pointer (some ⟨BA, 3, none⟩)), (.slice gA n cA), g] : List Value).getD i__ undef) (fun g d V => JE ρ base lb off bb p a1 c1 room last p1 l1 adR1 capR1 av1 ad adR σ (xi, xf, xt, xd) n gA cA BA gB cB' BB w V ∧ (d 6 = false → Jy ρ base bb gA n cA (xi, xf, xt, xd) V)) (by kernel_rfl) (undef) (show JE ρ base lb off bb p a1 c1 room last p1 l1 adR1 capR1 av1 ad adR σ (xi, xf, xt, xd) n gA cA BA gB cB' BB w _ ∧ (false = false → Jy ρ base bb gA n cA (xi, xf, xt, xd) _) from ⟨HJ2.out.carry (Below.refl _ _).drew, fun _ => HY2.out.carry (Below.refl _ _).drew⟩) ?step12 ?fin12
  case step12 =>
    intro i o ho
    have hi : i < 7 := getElem?_lt ho
    match i, hi, ho with
    | 0, _, ho =>
      cases ho
      refine stepG_of (fun g d hdep => ?_)
      exact step_move rfl trivial _ rfl (by kernel_rfl)
    | 1, _, ho =>
      cases ho
      refine stepG_of (fun g d hdep => ?_)
      exact step_nilCheck rfl trivial _ _ _ rfl rfl rfl
    | 2, _, ho =>
      cases ho
      refine stepG_of (fun g d hdep => ?_)
      exact step_fieldAddr rfl trivial _ _ _ _ rfl rfl (fun v hw => field_bo2 v _ _)
    | 3, _, ho =>
      cases ho
      refine stepG_of (fun g d hdep => ?_)
      exact step_load rfl trivial _ _ _ rfl rfl (fun v hw => load_bob hw.1.sd.c4)
    | 4, _, ho =>
      cases ho
      refine stepG_of (fun g d hdep => ?_)
      exact step_fieldAddr rfl trivial _ _ _ _ rfl rfl (fun v hw => field_g3 v _)
    | 5, _, ho =>
      cases ho
      refine stepG_of (fun g d hdep => ?_)
      exact step_load rfl trivial _ _ _ rfl rfl (fun v hw => load_bx hw.1.b1)
    | 6, _, ho =>
      cases ho
      exact stepG_call rfl (fun g => trivial) 17 _ _ (fun _ => [(.pointer (some ⟨bb, 0, none⟩)), (.slice gA n cA)]) rfl (fun g => by kernel_rfl) (enters_of Tryz.func17 (by kernel_rfl) rfl) (fun g d W' hJ hun hdep hcl => (hJ.1.keep HNX.out hfe (hJ.2 hun)).mono (by rintro e w' ⟨⟨v, rfl⟩, hJ'⟩; exact ⟨v, rfl, (fun j hj => match j, hj with | 6, hj => (by rw [hj] at hun; cases hun)  | 0, _ => rfl | 1, _ => rfl | 2, _ => rfl | 3, _ => rfl | 4, _ => rfl | 5, _ => rfl | _ + 7, _ => rfl), hJ', (fun e => by simp at e)⟩))
  intro g d W hall hW
  first | refine hK _ _ ?_ | refine (‹∀ (a : Act) (w : World), Code.wp Tryz.prog _ _ a w → _›) _ _ ?_ | skip
  simp only [finL, List.getD_cons_zero, List.getD_cons_succ, Nat.zero_add, Nat.reduceAdd, List.setIfInBounds_toArray, List.set_cons_zero, List.set_cons_succ]
  have hj3 : JE ρ base lb off bb p a1 c1 room last p1 l1 adR1 capR1 av1 ad adR σ (xi, xf, xt, xd) n gA cA BA gB cB' BB w W := hW.1
  have hsm := hj3.same HNX.out hfe
  have p0 := hj3.b1.c0
  have p1 := hj3.b1.c1
  have p2 := hj3.b1.c2
  have p3 := hj3.b1.c3
  have q0 := hj3.b2.c0
  have q1 := hj3.b2.c1
  have q2 := hj3.b2.c2
  have q3 := hj3.b2.c3
  have HF : Hid (StV σ base lb off bb p ad room last adR w W) := hj3.stv
  dsimp only at hsm p0 p1 p2 q0 q1 q2
  clear hW hall hK HJ2 hj3
  go_wp2_with (go_at_call 18; (with_reducible refine hsm.mono ?_); rintro e u2 ⟨rfl, hb2⟩)
  go_ret
  exact ⟨rfl, HF.out.carry hb2⟩
theorem step_any (h : Sd σ base lb off bb p ad cap room last ps l adR capR av w) (h0 : 0 ≤ last) (h1 : last < 4611686018427387904) (k who iA jA kA : Int) (aD : Option Addr) (nD cD : Nat) (x : List Nat) (hn : x.length = nD) (hx : ∀ V, (∀ k, k < base → V.heap[k]? = w.heap[k]?) → w.heap.size ≤ V.heap.size → RdB V aD x) (hxl : x ≠ [] → ∀ a, aD = some a → a.block ≠ lb ∧ a.block < base) (hcD : aD = none → cD = 0) (hby : Byt x) (hnD : nD ≤ 2000) : Calls Tryz.prog 7 #[.pointer (some ⟨lb, off, none⟩), .agg #[.int .i64 k, .int .i64 who, .int .i64 iA, .int .i64 jA, .int .i64 kA, .slice aD nD cD]] w fun e w' => e = .returned (.bool true) ∧ StV σ base lb off bb p ad room last adR w w' := by
  by_cases k1 : k = 1
  · subst k1; exact step_1 h h0 h1 who iA jA kA aD nD cD x hn hx hxl hcD hby hnD
  by_cases k2 : k = 2
  · subst k2; exact step_2 h who iA jA kA aD nD cD
  by_cases k3 : k = 3
  · subst k3; exact step_3 h who iA jA kA aD nD cD
  by_cases k4 : k = 4
  · subst k4; exact step_4 h h0 h1 who iA jA kA aD nD cD
  by_cases k5 : k = 5
  · subst k5; exact step_5 h who iA jA kA aD nD cD
  by_cases k6 : k = 6
  · subst k6; exact step_6 h who iA jA kA aD nD cD
  exact step_0 h k who iA jA kA aD nD cD k1 k2 k3 k4 k5 k6
end
end Go.Proofs.YtjfbnikbmadgkaaGreat
namespace Go.Proofs.YtjfbnikbmadgkaaGreat
open Go.RowKit Go.Shelf

theorem bs1B (W : World) (x : Int) : (Instr.buildSlice 55 1 #[(0, .int .u8 x)]).run Tryz.prog W = .ok (.slice (some ⟨W.heap.size, 0, none⟩) 1 1) (W.alloc (.cells #[.int .u8 x] 5)) := by go_simp
theorem conv_x {W : World} {g c : Nat} (h : W.cell? ⟨g, 0, none⟩ = some (.int .u8 120)) : (convert 55 9 (.slice (some ⟨g, 0, none⟩) 1 c)).run Tryz.prog W = .ok (.string ⟨#[120]⟩) W :=
  run_convert_bytes_back W 55 9 5 ⟨g, 0, none⟩ c [120] Tryz.underlying55 Tryz.underlying5 Tryz.underlying9 (fun j hj => by
    have : j = 0 := by simp at hj; omega
    subst this
    rw [add_pl]
    exact h)
set_option maxHeartbeats 4000000 in
set_option maxRecDepth 100000 in
theorem alive_any (w : World) : Calls Tryz.prog 5 #[] w fun e w' => e = .returned (.bool true) ∧ Below w.heap.size w w' := by
  have hne := new_ok (σ := fun _ => False) 3 w (by decide) (by decide) (fun _ q => q.elim)
  have hcv := fun (w : World) (C : Array Value) (n c : Nat) => Lib.run_convert_bytes_const (P := Tryz.prog) w 55 5 C n c Tryz.underlying55 Tryz.underlying5
  have hbs := bs1B
  go_enter Tryz.func5, Tryz.ntmps5
  go_wp2_with (first | (go_at_call 6; (with_reducible refine hne.mono ?_); rintro e u1 ⟨rfl, hB1, hb1⟩; obtain ⟨v1, hv1⟩ : ∃ v1, u1.alloc (.cells #[.int .u8 120] 5 (1, 2)) = v1 := ⟨_, rfl⟩; have hbv : Below u1.heap.size u1 v1 := (by rw [← hv1]; exact al1' _ _); have hBv := hB1.carry hbv; have hc1 : v1.heap[u1.heap.size]? = some (.cells #[.int .u8 120] 5 (1, 2)) := (by rw [← hv1]; exact new_at rfl); have hse := send_any hBv 0 1 (some ⟨u1.heap.size, 0, none⟩) 1 [120] (fun _ => ⟨_, 0, rfl, lt_at hc1, fun k x hk => by match k, hk with | 0, hk => cases hk; exact cell_at hc1 0⟩) (fun _ a e => by cases e; have := hB1.plt; show u1.heap.size ≠ w.heap.size; omega) (by intro x hx; simp at hx; omega) (by decide) (by decide); have hse : Calls Tryz.prog 10 #[.pointer (some ⟨w.heap.size, 0, none⟩), .int .i64 0, .int .i64 1, .slice (some ⟨u1.heap.size, 0, none⟩) 1 1] v1 fun e w' => e = .returned (.tuple #[.int .i64 1, .int .i64 0]) ∧ ∃ ad' cap' ps', Bg (fun _ => False) w' w.heap.size w.heap.size ad' cap' 3 1 ps' [(1, 0, 1, [120])] ∧ Tn w.heap.size (ob none) (ob ad') v1 w' := hse) | (go_at_call 10; (with_reducible refine hse.mono ?_); rintro e u2 ⟨rfl, ad2, cap2, ps2, hB2, hT2⟩; have hat : Calls Tryz.prog 11 #[.pointer (some ⟨w.heap.size, 0, none⟩), .int .i64 0] u2 fun e w' => ∃ a c, e = .returned (.tuple #[.agg #[.int .i64 1, .int .i64 0, .int .i64 1, .slice a 1 c], .int .i64 0]) ∧ w'.ownsRow u2.heap.size 5 1 (.slice a 1 c) 1 (cB [120]) ∧ Below u2.heap.size u2 w' := at_any hB2 0) | (go_at_call 11; (with_reducible refine hat.mono ?_); rintro e u3 ⟨a3, c3, rfl, ho3, hb3⟩; obtain ⟨g3, c3', e3, _⟩ := own_some ho3 (by decide); simp only [Value.slice.injEq] at e3; obtain ⟨rfl, _, rfl⟩ := e3; obtain ⟨u4, hu4⟩ : ∃ u4, u3.alloc (.cells #[.int .i64 1, .int .i64 0, .int .i64 1, .slice (some ⟨g3, 0, none⟩) 1 c3] 62) = u4 := ⟨_, rfl⟩; have hb4 : Below u3.heap.size u3 u4 := (by rw [← hu4]; exact al1' _ _); have hG4 : GB u4 u3.heap.size 1 0 1 (.slice (some ⟨g3, 0, none⟩) 1 c3) := (by rw [← hu4]; exact new_at rfl); have k0 := hG4.c0; have k3 := hG4.c3; have hcx := conv_x (c := c3) (((row_below ho3 hb4).cellAt 0 (by decide)).trans rfl : u4.cell? ⟨g3, 0, none⟩ = some (.int .u8 120)); have hro : Calls Tryz.prog 12 #[.pointer (some ⟨w.heap.size, 0, none⟩)] u4 fun e w' => e = .returned (.int .i64 2) ∧ Below u4.heap.size u4 w' := broom_any ((hB2.carry hb3).carry hb4)) | (go_at_call 12; (with_reducible refine hro.mono ?_); rintro e u5 ⟨rfl, hb5⟩))
  go_ret
  refine ⟨rfl, ?_⟩
  have hT : Below w.heap.size w u2 := (bel2 hb1 hbv).trans (hBv.below hT2)
  exact bel2 (bel2 (bel2 hT hb3) hb4) hb5
end Go.Proofs.YtjfbnikbmadgkaaGreat
namespace Go.Proofs.YtjfbnikbmadgkaaGreat
open Go.RowKit Go.Shelf

/-- A step: its kind, who, three numbers, bytes. -/
abbrev Op6 := Int × Int × Int × Int × Int × List Nat
/-- A slice of bytes below B. -/
def RdU (W : World) (B : Nat) (a : Option Addr) (d : List Nat) : Prop := d ≠ [] → ∃ b off, a = some ⟨b, off, none⟩ ∧ b < B ∧ BAt W b off d
theorem RdU.rd {W : World} {B : Nat} {a : Option Addr} {d : List Nat} (h : RdU W B a d) (hB : B ≤ W.heap.size) : RdB W a d := fun hn => by
  obtain ⟨b, off, h1, h2, h3⟩ := h hn
  exact ⟨b, off, h1, by omega, h3⟩
/-- A script, below B. -/
def RdO (W : World) (B : Nat) (ad : Option Addr) (ops : List Op6) : Prop := ∀ (n : Nat) (o : Op6), ops[n]? = some o → ∃ b off a c, ad = some ⟨b, off, none⟩ ∧ b < B ∧ W.cell? ⟨b, off + n * 6, none⟩ = some (.int .i64 o.1) ∧ W.cell? ⟨b, off + n * 6 + 1, none⟩ = some (.int .i64 o.2.1) ∧ W.cell? ⟨b, off + n * 6 + 2, none⟩ = some (.int .i64 o.2.2.1) ∧ W.cell? ⟨b, off + n * 6 + 3, none⟩ = some (.int .i64 o.2.2.2.1) ∧ W.cell? ⟨b, off + n * 6 + 4, none⟩ = some (.int .i64 o.2.2.2.2.1) ∧ W.cell? ⟨b, off + n * 6 + 5, none⟩ = some (.slice a o.2.2.2.2.2.length c) ∧ RdU W B a o.2.2.2.2.2 ∧ Byt o.2.2.2.2.2 ∧ (a = none → c = 0)
theorem RdO.carry {W W' : World} {B : Nat} {ad : Option Addr} {ops : List Op6} (h : RdO W B ad ops) (hb : Below B W W') : RdO W' B ad ops := fun n o hn => by
  obtain ⟨b, off, a, c, h1, h2, c0, c1, c2, c3, c4, c5, h3, h4⟩ := h n o hn
  refine ⟨b, off, a, c, h1, h2, (hb.cell (p := ⟨b, _, none⟩) h2).trans c0, (hb.cell (p := ⟨b, _, none⟩) h2).trans c1, (hb.cell (p := ⟨b, _, none⟩) h2).trans c2, (hb.cell (p := ⟨b, _, none⟩) h2).trans c3, (hb.cell (p := ⟨b, _, none⟩) h2).trans c4, (hb.cell (p := ⟨b, _, none⟩) h2).trans c5, fun hd => ?_, h4⟩
  obtain ⟨b', off', e1, e2, e3⟩ := h3 hd
  exact ⟨b', off', e1, e2, e3.carry (hb.block _ e2)⟩
theorem idx_O (g off n cap k : Nat) (h : k < n) (w : World) : (Instr.indexAt 23 (.slice (some ⟨g, off, none⟩) n cap) (.int .i64 (k : Int))).run Tryz.prog w = .ok (.pointer (some ⟨g, off + k * 6, none⟩)) w := by
  have h1 : (k : Int) < (n : Int) := by omega
  go_simp
theorem fld_O (W : World) (B o : Nat) : (Instr.fieldAt 57 (.pointer (some ⟨B, o, none⟩)) 5).run Tryz.prog W = .ok (.pointer (some ⟨B, o + 5, none⟩)) W := by go_simp
theorem load_O {V : World} {b o : Nat} {x0 x1 x2 x3 x4 : Int} {a : Option Addr} {n c : Nat} (h0 : V.cell? ⟨b, o, none⟩ = some (.int .i64 x0)) (h1 : V.cell? ⟨b, o + 1, none⟩ = some (.int .i64 x1)) (h2 : V.cell? ⟨b, o + 2, none⟩ = some (.int .i64 x2)) (h3 : V.cell? ⟨b, o + 3, none⟩ = some (.int .i64 x3)) (h4 : V.cell? ⟨b, o + 4, none⟩ = some (.int .i64 x4)) (h5 : V.cell? ⟨b, o + 5, none⟩ = some (.slice a n c)) : (Instr.loadAt 57 (.pointer (some ⟨b, o, none⟩))).run Tryz.prog V = .ok (.agg #[.int .i64 x0, .int .i64 x1, .int .i64 x2, .int .i64 x3, .int .i64 x4, .slice a n c]) V := by
  go_simp
def lgt (ops : List Op6) : Bool := decide (ops.length ≤ 150 ∧ ∀ o ∈ ops, o.2.2.2.2.2.length ≤ 2000)
end Go.Proofs.YtjfbnikbmadgkaaGreat
