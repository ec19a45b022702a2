/- The document's Double: what it answers. -/
import Derived.Test.YtjfbnikbmadgkaaGreatBgu
namespace Go.Proofs.YtjfbnikbmadgkaaGreat
open Go.RowKit Go.Shelf

/-- What holds while a datagram is doubled. -/
def JRd (w : World) (base lb o : Nat) (ad : Option Addr) (cap : Nat) (last most : Int) (l : List Gr) (av : List (Option Addr × Nat)) (r3 : Int) (r4 : List Gr) (d25 : Bool) (W : World) : Prop :=
  match d25 with
  | false => Rg W base lb o ad cap last most l av ∧ Below w.heap.size w W
  | true => ∃ ad' cap' av', Rg W base lb o ad' cap' r3 most r4 av' ∧ Tr lb o (ob ad) (ob ad') w W
section
variable {w : World} {base lb o : Nat} {ad : Option Addr} {cap : Nat} {last most : Int} {l : List Gr} {av : List (Option Addr × Nat)}
theorem JRd.rg {r3 : Int} {r4 : List Gr} {d25 : Bool} {W : World} (h : JRd w base lb o ad cap last most l av r3 r4 d25 W) (h25 : d25 = false) : Rg W base lb o ad cap last most l av := by
  subst h25
  exact h.1
theorem fld_gk (W : World) (B o f : Nat) (h : f < 4) : (Instr.fieldAt 62 (.pointer (some ⟨B, o, none⟩)) f).run Tryz.prog W = .ok (.pointer (some ⟨B, o + f, none⟩)) W := by
  match f, h with
  | 0, _ => go_simp
  | 1, _ => go_simp
  | 2, _ => go_simp
  | 3, _ => go_simp
theorem idx_Gz (g n cap k : Nat) (h : k < n) (w : World) : (Instr.indexAt 43 (.slice (some ⟨g, 0, none⟩) n cap) (.int .i64 (k : Int))).run Tryz.prog w = .ok (.pointer (some ⟨g, k * 4, none⟩)) w := by
  have := idx_G g 0 n cap k h w
  rw [Nat.zero_add] at this
  exact this
/-- The row's cells at a place. -/
theorem Rg.cells {g : Nat} (h : Rg w base lb o (some ⟨g, 0, none⟩) cap last most l av) {k : Nat} {x : Gr} {a : Option Addr × Nat} (hk : l[k]? = some x) (ha : av[k]? = some a) : w.cell? ⟨g, k * 4 + 1, none⟩ = some (.int .i64 x.2.1) ∧ w.cell? ⟨g, k * 4 + 2, none⟩ = some (.int .i64 x.2.2.1) ∧ w.cell? ⟨g, k * 4 + 3, none⟩ = some (.slice a.1 x.2.2.2.length a.2) := by
  obtain ⟨g', a', e, ha', _, c1, c2, c3, _⟩ := h.get hk
  cases e
  rw [ha] at ha'
  cases ha'
  exact ⟨c1, c2, c3⟩
set_option maxHeartbeats 4000000 in
set_option maxRecDepth 100000 in
theorem rDouble_any (h : Rg w base lb o ad cap last most l av) (i : Int) (h0 : 0 ≤ last) (h1 : last < 4611686018427387904) (hbs : base ≤ w.heap.size) : Calls Tryz.prog 22 #[.pointer (some ⟨lb, o, none⟩), .int .i64 i] w fun e w' => e = .returned (.tuple #[.int .i64 (sDb most last l i).1, .int .i64 (sDb most last l i).2.1]) ∧ ∃ ad' cap' av', Rg w' base lb o ad' cap' (sDb most last l i).2.2.1 most (sDb most last l i).2.2.2 av' ∧ Tr lb o (ob ad) (ob ad') w w' := by
  have hmx : Tryz.prog.follows .mixedOrders = true := by kernel_rfl
  have hhs := has_any h i
  by_cases hi : 0 ≤ i ∧ i < (l.length : Int)
  · rw [decide_eq_true hi] at hhs
    obtain ⟨k, rfl⟩ := Int.eq_ofNat_of_zero_le hi.1
    have hkl : k < l.length := by omega
    obtain ⟨⟨xi, xf, xt, xd⟩, hx⟩ : ∃ x, l[k]? = some x := ⟨_, List.getElem?_eq_getElem hkl⟩
    rw [sDb_ok hx]
    dsimp only
    obtain ⟨gr, a, rfl, ha, _⟩ := h.get hx
    have hfw := h.few _ (List.mem_of_getElem? hx)
    dsimp only at hfw
    have hnc := (h.dat k _ a hx ha).2
    have hss : sSend most last l xf xt xd = sAdd most last l xf xt xd := if_neg (by omega)
    obtain ⟨r, hr⟩ : ∃ r, sAdd most last l xf xt xd = r := ⟨_, rfl⟩
    rw [hr] at hss ⊢
    obtain ⟨r1, r2, r3, r4⟩ := r
    dsimp only
    have cal : ∀ {d : Nat → Bool} (V : World), JRd w base lb o (some ⟨gr, 0, none⟩) cap last most l av r3 r4 (d 25) V → d 25 = false → Calls Tryz.prog 14 #[.pointer (some ⟨lb, o, none⟩), .int .i64 xf, .int .i64 xt, .slice a.1 xd.length a.2] V fun e w' => e = .returned (.tuple #[.int .i64 r1, .int .i64 r2]) ∧ JRd w base lb o (some ⟨gr, 0, none⟩) cap last most l av r3 r4 true w' := by
      intro d V hJ h25
      rw [h25] at hJ
      obtain ⟨k1, k2⟩ := hJ
      have hd := (k1.dat k _ a hx ha).1
      have hse := rSend_any k1 xf xt a.1 a.2 xd hd.rd hnc (fun hn a' e => by
        obtain ⟨b, off, e1, ⟨cur, e2⟩, _⟩ := hd hn
        rw [e1] at e
        cases e
        intro e3
        obtain ⟨cur', h5⟩ := k1.blk
        have e3 : b = lb := e3
        rw [e3, h5] at e2
        cases e2) hfw.2 h0 h1 (Nat.le_trans hbs k2.size)
      rw [hss] at hse
      refine hse.mono ?_
      rintro e w' ⟨rfl, ad', cap', av', hB', hT', _⟩
      exact ⟨rfl, ad', cap', av', hB', (Tr.of o _ k2 h.lt).trans hT'⟩
    have HX : Hid (l[k]? = some (xi, xf, xt, xd)) := hx
    have HA : Hid (av[k]? = some a) := ha
    clear hi hx ha hr hss
    go_enter Tryz.func22, Tryz.ntmps22
    go_wp2_with (go_at_call 84; (with_reducible refine hhs.mono ?_); rintro e u1 ⟨rfl, rfl⟩)
    refine wp_region_any hmx ?_
    refine wpAny_tabG (G := (Unit)) (fun g i__ => ([(.pointer (some ⟨lb, o, none⟩)), (.pointer (some ⟨lb, o, none⟩)), (.pointer (some ⟨lb, o, none⟩)), (.pointer (some ⟨lb, o, none⟩)), (.slice (some ⟨gr, 0, none⟩) l.length cap), (.int .i64 (k : Int)), (.pointer (some ⟨gr, k * 4, none⟩)), (.pointer (some ⟨gr, k * 4 + 1, none⟩)), (.int .i64 xf), (.pointer (some ⟨lb, o, none⟩)), (.pointer (some ⟨lb, o, none⟩)), (.pointer (some ⟨lb, o, none⟩)), (.slice (some ⟨gr, 0, none⟩) l.length cap), (.int .i64 (k : Int)), (.pointer (some ⟨gr, k * 4, none⟩)), (.pointer (some ⟨gr, k * 4 + 2, none⟩)), (.int .i64 xt), (.pointer (some ⟨lb, o, none⟩)), (.pointer (some ⟨lb, o, none⟩)), (.pointer (some ⟨lb, o, none⟩)), (.slice (some ⟨gr, 0, none⟩) l.length cap), (.int .i64 (k : Int)), (.pointer (some ⟨gr, k * 4, none⟩)), (.pointer (some ⟨gr, k * 4 + 3, none⟩)), (.slice a.1 xd.length a.2), (.tuple #[.int .i64 r1, .int .i64 r2]), (.int .i64 r1), (.int .i64 r2), (.int .i64 r1), (.int .i64 r2)] : List Value).getD i__ undef) (fun g d V => JRd u1 base lb o (some ⟨gr, 0, none⟩) cap last most l av r3 r4 (d 25) V) (by kernel_rfl) (()) ⟨h.carry (Below.refl _ _).drew, (Below.refl _ _).drew⟩ ?step2 ?fin2
    case step2 =>
      intro i o ho
      have hi : i < 30 := getElem?_lt ho
      match i, hi, ho with
      | 0, _, ho =>
        cases ho
        refine stepG_of (fun g d hdep => ?_)
        exact step_move rfl trivial _ rfl (by kernel_rfl)
      | 1, _, ho =>
        cases ho
        refine stepG_of (fun g d hdep => ?_)
        exact step_move rfl trivial _ rfl (by kernel_rfl)
      | 2, _, ho =>
        cases ho
        refine stepG_of (fun g d hdep => ?_)
        exact step_nilCheck rfl trivial _ _ _ rfl rfl rfl
      | 3, _, ho =>
        cases ho
        refine stepG_of (fun g d hdep => ?_)
        exact step_fieldAddr rfl trivial _ _ _ _ rfl rfl (fun v hw => field_r v _ _ 0 (by decide))
      | 4, _, ho =>
        cases ho
        exact stepG_ofC (fun g d hun hcl => step_load rfl trivial _ _ _ rfl rfl (fun v hw => by have hw1 := JRd.rg hw (by cases h : d 25 with | false => rfl | true => exact absurd (hcl 6 _ rfl (hcl 7 _ rfl (hcl 8 _ rfl (hcl 25 _ rfl h 8 (by kernel_rfl)) 7 (by kernel_rfl)) 6 (by kernel_rfl)) 4 (by kernel_rfl)) (by rw [hun]; simp)); exact load_gs hw1.cL))
      | 5, _, ho =>
        cases ho
        refine stepG_of (fun g d hdep => ?_)
        exact step_move rfl trivial _ rfl (by kernel_rfl)
      | 6, _, ho =>
        cases ho
        refine stepG_of (fun g d hdep => ?_)
        exact step_indexAddr rfl trivial _ _ _ _ _ rfl rfl rfl (fun v hw => idx_Gz gr _ _ k hkl v)
      | 7, _, ho =>
        cases ho
        refine stepG_of (fun g d hdep => ?_)
        exact step_fieldAddr rfl trivial _ _ _ _ rfl rfl (fun v hw => fld_gk v _ _ 1 (by decide))
      | 8, _, ho =>
        cases ho
        exact stepG_ofC (fun g d hun hcl => step_load rfl trivial _ _ _ rfl rfl (fun v hw => by have hw1 := JRd.rg hw (by cases h : d 25 with | false => rfl | true => exact absurd (hcl 25 _ rfl h 8 (by kernel_rfl)) (by rw [hun]; simp)); exact load_i (hw1.cells HX.out HA.out).1))
      | 9, _, ho =>
        cases ho
        refine stepG_of (fun g d hdep => ?_)
        exact step_move rfl trivial _ rfl (by kernel_rfl)
      | 10, _, ho =>
        cases ho
        refine stepG_of (fun g d hdep => ?_)
        exact step_nilCheck rfl trivial _ _ _ rfl rfl rfl
      | 11, _, ho =>
        cases ho
        refine stepG_of (fun g d hdep => ?_)
        exact step_fieldAddr rfl trivial _ _ _ _ rfl rfl (fun v hw => field_r v _ _ 0 (by decide))
      | 12, _, ho =>
        cases ho
        exact stepG_ofC (fun g d hun hcl => step_load rfl trivial _ _ _ rfl rfl (fun v hw => by have hw1 := JRd.rg hw (by cases h : d 25 with | false => rfl | true => exact absurd (hcl 14 _ rfl (hcl 15 _ rfl (hcl 16 _ rfl (hcl 25 _ rfl h 16 (by kernel_rfl)) 15 (by kernel_rfl)) 14 (by kernel_rfl)) 12 (by kernel_rfl)) (by rw [hun]; simp)); exact load_gs hw1.cL))
      | 13, _, ho =>
        cases ho
        refine stepG_of (fun g d hdep => ?_)
        exact step_move rfl trivial _ rfl (by kernel_rfl)
      | 14, _, ho =>
        cases ho
        refine stepG_of (fun g d hdep => ?_)
        exact step_indexAddr rfl trivial _ _ _ _ _ rfl rfl rfl (fun v hw => idx_Gz gr _ _ k hkl v)
      | 15, _, ho =>
        cases ho
        refine stepG_of (fun g d hdep => ?_)
        exact step_fieldAddr rfl trivial _ _ _ _ rfl rfl (fun v hw => fld_gk v _ _ 2 (by decide))
      | 16, _, ho =>
        cases ho
        exact stepG_ofC (fun g d hun hcl => step_load rfl trivial _ _ _ rfl rfl (fun v hw => by have hw1 := JRd.rg hw (by cases h : d 25 with | false => rfl | true => exact absurd (hcl 25 _ rfl h 16 (by kernel_rfl)) (by rw [hun]; simp)); exact load_i (hw1.cells HX.out HA.out).2.1))
      | 17, _, ho =>
        cases ho
        refine stepG_of (fun g d hdep => ?_)
        exact step_move rfl trivial _ rfl (by kernel_rfl)
      | 18, _, ho =>
        cases ho
        refine stepG_of (fun g d hdep => ?_)
        exact step_nilCheck rfl trivial _ _ _ rfl rfl rfl
      | 19, _, ho =>
        cases ho
        refine stepG_of (fun g d hdep => ?_)
        exact step_fieldAddr rfl trivial _ _ _ _ rfl rfl (fun v hw => field_r v _ _ 0 (by decide))
      | 20, _, ho =>
        cases ho
        exact stepG_ofC (fun g d hun hcl => step_load rfl trivial _ _ _ rfl rfl (fun v hw => by have hw1 := JRd.rg hw (by cases h : d 25 with | false => rfl | true => exact absurd (hcl 22 _ rfl (hcl 23 _ rfl (hcl 24 _ rfl (hcl 25 _ rfl h 24 (by kernel_rfl)) 23 (by kernel_rfl)) 22 (by kernel_rfl)) 20 (by kernel_rfl)) (by rw [hun]; simp)); exact load_gs hw1.cL))
      | 21, _, ho =>
        cases ho
        refine stepG_of (fun g d hdep => ?_)
        exact step_move rfl trivial _ rfl (by kernel_rfl)
      | 22, _, ho =>
        cases ho
        refine stepG_of (fun g d hdep => ?_)
        exact step_indexAddr rfl trivial _ _ _ _ _ rfl rfl rfl (fun v hw => idx_Gz gr _ _ k hkl v)
      | 23, _, ho =>
        cases ho
        refine stepG_of (fun g d hdep => ?_)
        exact step_fieldAddr rfl trivial _ _ _ _ rfl rfl (fun v hw => fld_gk v _ _ 3 (by decide))
      | 24, _, ho =>
        cases ho
        exact stepG_ofC (fun g d hun hcl => step_load rfl trivial _ _ _ rfl rfl (fun v hw => by have hw1 := JRd.rg hw (by cases h : d 25 with | false => rfl | true => exact absurd (hcl 25 _ rfl h 24 (by kernel_rfl)) (by rw [hun]; simp)); exact load_b (hw1.cells HX.out HA.out).2.2))
      | 25, _, ho =>
        cases ho
        exact stepG_call rfl (fun g => trivial) 14 _ _ (fun _ => [.pointer (some ⟨lb, o, none⟩), .int .i64 xf, .int .i64 xt, .slice a.1 xd.length a.2]) rfl (fun g => rfl) (enters_of Tryz.func14 (by kernel_rfl) rfl) (fun g d V hJ hun hdep hcl => (cal V hJ hun).mono (by rintro e w' ⟨rfl, hJ'⟩; exact ⟨g, rfl, fun _ _ => rfl, hJ'⟩))
      | 26, _, ho =>
        cases ho
        refine stepG_of (fun g d hdep => ?_)
        exact step_extract rfl trivial _ _ _ rfl rfl (fun v hw => (ext2 _ _ v).1)
      | 27, _, ho =>
        cases ho
        refine stepG_of (fun g d hdep => ?_)
        exact step_extract rfl trivial _ _ _ rfl rfl (fun v hw => (ext2 _ _ v).2)
      | 28, _, ho =>
        cases ho
        refine stepG_of (fun g d hdep => ?_)
        exact step_assign rfl trivial _ rfl (by kernel_rfl) (fun _ h => h)
      | 29, _, ho =>
        cases ho
        refine stepG_of (fun g d hdep => ?_)
        exact step_assign rfl trivial _ rfl (by kernel_rfl) (fun _ h => h)
    intro g d W hall hW
    first | refine hK _ _ ?_ | refine (‹∀ (a : Act) (w : World), Code.wp Tryz.prog _ _ a w → _›) _ _ ?_ | skip
    simp only [finL, List.getD_cons_zero, List.getD_cons_succ, Nat.zero_add, Nat.reduceAdd, List.setIfInBounds_toArray, List.set_cons_zero, List.set_cons_succ]
    have hJ : JRd u1 base lb o (some ⟨gr, 0, none⟩) cap last most l av r3 r4 (d 25) W := hW
    rw [hall 25 (by decide)] at hJ
    obtain ⟨ad', cap', av', hB', hT'⟩ := hJ
    clear hW cal
    go_wp2
    go_ret2
    exact ⟨rfl, ad', cap', av', hB', hT'⟩
  · rw [decide_eq_false hi] at hhs
    rw [sDb_no hi]
    clear hi
    go_enter Tryz.func22, Tryz.ntmps22
    go_wp2_with (go_at_call 84; (with_reducible refine hhs.mono ?_); rintro e u1 ⟨rfl, rfl⟩)
    go_ret2
    exact ⟨rfl, ad, cap, av, h, Tr.of _ _ (Below.refl _ _) h.lt⟩
end
end Go.Proofs.YtjfbnikbmadgkaaGreat
