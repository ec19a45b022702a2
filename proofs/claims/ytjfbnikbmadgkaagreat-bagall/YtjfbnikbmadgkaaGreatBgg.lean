/- bag's Double, Move, round: what they answer. -/
import Derived.Test.YtjfbnikbmadgkaaGreatBgf
namespace Go.Proofs.YtjfbnikbmadgkaaGreat
open Go.RowKit Go.Shelf

section
variable {w : World} {base p : Nat} {ad : Option Addr} {cap : Nat} {room last : Int} {ps : List Nat} {l : List Gr}
def sDb (room last : Int) (l : List Gr) (i : Int) : Int × Int × Int × List Gr := if 0 ≤ i ∧ i < (l.length : Int) then sAdd room last l ((l[i.toNat]?).getD g0).2.1 ((l[i.toNat]?).getD g0).2.2.1 ((l[i.toNat]?).getD g0).2.2.2 else (0, 91, last, l)
theorem sDb_ok {k : Nat} {x : Gr} (h : l[k]? = some x) : sDb room last l (k : Int) = sAdd room last l x.2.1 x.2.2.1 x.2.2.2 := by
  have h1 := (List.getElem?_eq_some_iff.1 h).1
  rw [sDb, if_pos (by omega), Int.toNat_natCast, h]
  rfl
theorem sDb_no {i : Int} (h : ¬ (0 ≤ i ∧ i < (l.length : Int))) : sDb room last l i = (0, 91, last, l) := if_neg h
/-- What holds while a datagram is doubled. -/
def JDb (σ : Nat → Prop) (w : World) (base p : Nat) (ad : Option Addr) (cap : Nat) (room last : Int) (ps : List Nat) (l : List Gr) (q : Nat) (x : Gr) (a : Option Addr) (c : Nat) (r3 : Int) (r4 : List Gr) (d13 : Bool) (W : World) : Prop :=
  GAt W q x a c ∧ match d13 with
  | false => Bg σ W base p ad cap room last ps l ∧ Below w.heap.size w W
  | true => ∃ ad' cap' ps', Bg σ W base p ad' cap' room r3 ps' r4 ∧ Tn p (ob ad) (ob ad') w W
theorem field_g (W : World) (B : Nat) : (Instr.fieldAt 62 (.pointer (some ⟨B, 0, none⟩)) 1).run Tryz.prog W = .ok (.pointer (some ⟨B, 1, none⟩)) W ∧ (Instr.fieldAt 62 (.pointer (some ⟨B, 0, none⟩)) 2).run Tryz.prog W = .ok (.pointer (some ⟨B, 2, none⟩)) W ∧ (Instr.fieldAt 62 (.pointer (some ⟨B, 0, none⟩)) 3).run Tryz.prog W = .ok (.pointer (some ⟨B, 3, none⟩)) W := by
  refine ⟨?_, ?_, ?_⟩ <;> go_simp
theorem load_b {V : World} {B j : Nat} {a : Option Addr} {n c : Nat} (h : V.cell? ⟨B, j, none⟩ = some (.slice a n c)) : (Instr.loadAt 55 (.pointer (some ⟨B, j, none⟩))).run Tryz.prog V = .ok (.slice a n c) V := by go_simp
theorem ext2 (x y : Value) (W : World) : (Instr.extract (.tuple #[x, y]) 0).run Tryz.prog W = .ok x W ∧ (Instr.extract (.tuple #[x, y]) 1).run Tryz.prog W = .ok y W := by
  refine ⟨?_, ?_⟩ <;> go_simp
set_option maxHeartbeats 2000000 in
set_option maxRecDepth 100000 in
theorem double_any {σ : Nat → Prop} (h : Bg σ w base p ad cap room last ps l) (i : Int) (h0 : 0 ≤ last) (h1 : last < 4611686018427387904) : Calls Tryz.prog 21 #[.pointer (some ⟨p, 0, none⟩), .int .i64 i] w fun e w' => e = .returned (.tuple #[.int .i64 (sDb room last l i).1, .int .i64 (sDb room last l i).2.1]) ∧ ∃ ad' cap' ps', Bg σ w' base p ad' cap' room (sDb room last l i).2.2.1 ps' (sDb room last l i).2.2.2 ∧ Tn p (ob ad) (ob ad') w w' := by
  have hmx : Tryz.prog.follows .mixedOrders = true := by kernel_rfl
  obtain ⟨V0, hV⟩ : ∃ V, w.alloc (.cells #[.int .i64 i] 3) = V := ⟨_, rfl⟩
  have hbV : Below w.heap.size w V0 := by rw [← hV]; exact al1' _ _
  have hrf := refuse_1 h i hV
  have hB := h.carry hbV
  by_cases hi : 0 ≤ i ∧ i < (l.length : Int)
  · obtain ⟨k, q, g0, x, rfl, hq, hx, ⟨a, c, hgm, _⟩, rfl, hk, hc⟩ := hB.get hi
    rw [rfs_1ok hi] at hrf
    rw [sDb_ok hx]
    have c2 := hB.c2
    have cq := hB.at hq
    unfold pt at cq
    have hix := idx_p g0 ps.length cap k hk
    obtain ⟨xi, xf, xt, xd⟩ := x
    obtain ⟨r, hr⟩ : ∃ r, sAdd room last l xf xt xd = r := ⟨_, rfl⟩
    obtain ⟨r1, r2, r3, r4⟩ := r
    have hadd : ∀ {V : World}, Bg σ V base p (some ⟨g0, 0, none⟩) cap room last ps l → GAt V q (xi, xf, xt, xd) a c → _ := fun {V} hb hg => add_any hb xf xt a c xd hg.dat.rd (fun hn a' e => by
      obtain ⟨b, off, e1, ⟨cur, e2⟩, _⟩ := hg.dat hn
      rw [e1] at e
      cases e
      exact (bg_sep hb e2 (by decide) (by decide)).1) hg.byt hg.few h0 h1
    rw [hr] at hadd
    dsimp only at hadd ⊢
    rw [hr]
    dsimp only
    clear hi hx hq hr
    have cal : ∀ {d : Nat → Bool} (V : World), JDb σ w base p (some ⟨g0, 0, none⟩) cap room last ps l q (xi, xf, xt, xd) a c r3 r4 (d 13) V → d 13 = false → Calls Tryz.prog 79 #[.pointer (some ⟨p, 0, none⟩), .int .i64 xf, .int .i64 xt, .slice a xd.length c] V fun e w' => e = .returned (.tuple #[.int .i64 r1, .int .i64 r2]) ∧ JDb σ w base p (some ⟨g0, 0, none⟩) cap room last ps l q (xi, xf, xt, xd) a c r3 r4 true w' := by
      intro d V hJ h13
      rw [h13] at hJ
      obtain ⟨hg, hb, hbl⟩ := hJ
      refine (hadd hb hg).mono ?_
      rintro e w' ⟨rfl, ad', cap', ps', hB', hT'⟩
      exact ⟨rfl, hg.tn hb hT', ad', cap', ps', hB', (Tn.of p _ hbl).trans hT'⟩
    go_enter Tryz.func21, Tryz.ntmps21
    go_wp2_with (go_at_call 80; (with_reducible refine hrf.mono ?_); rintro e u1 ⟨rfl, rfl⟩)
    rename_i Q0 K0 hK
    refine wp_region_any hmx ?_
    refine wpAny_tabG (G := (Unit)) (fun g i__ => ([(.pointer (some ⟨p, 0, none⟩)), (.pointer (some ⟨q, 0, none⟩)), (.pointer (some ⟨q, 0, none⟩)), (.pointer (some ⟨q, 1, none⟩)), (.int .i64 xf), (.pointer (some ⟨q, 0, none⟩)), (.pointer (some ⟨q, 0, none⟩)), (.pointer (some ⟨q, 2, none⟩)), (.int .i64 xt), (.pointer (some ⟨q, 0, none⟩)), (.pointer (some ⟨q, 0, none⟩)), (.pointer (some ⟨q, 3, none⟩)), (.slice a xd.length c), (.tuple #[.int .i64 r1, .int .i64 r2]), (.int .i64 r1), (.int .i64 r2), (.int .i64 r1), (.int .i64 r2)] : List Value).getD i__ undef) (fun g d V => JDb σ w base p (some ⟨g0, 0, none⟩) cap room last ps l q (xi, xf, xt, xd) a c r3 r4 (d 13) V) (by kernel_rfl) (()) ⟨hgm.carry (Below.refl _ _).drew, hB.carry (Below.refl _ _).drew, hbV.drew⟩ ?step7 ?fin7
    case step7 =>
      intro i o ho
      have hi : i < 18 := getElem?_lt ho
      match i, hi, ho with
      | 0, _, ho =>
        cases ho
        refine stepG_of (fun g d hdep => ?_)
        exact step_move rfl trivial _ rfl (by kernel_rfl)
      | 1, _, ho =>
        cases ho
        refine stepG_of (fun g d hdep => ?_)
        exact step_move rfl trivial _ rfl (by kernel_rfl)
      | 2, _, ho =>
        cases ho
        refine stepG_of (fun g d hdep => ?_)
        exact step_nilCheck rfl trivial _ _ _ rfl rfl rfl
      | 3, _, ho =>
        cases ho
        refine stepG_of (fun g d hdep => ?_)
        exact step_fieldAddr rfl trivial _ _ _ _ rfl rfl (fun v hw => (field_g v _).1)
      | 4, _, ho =>
        cases ho
        refine stepG_of (fun g d hdep => ?_)
        exact step_load rfl trivial _ _ _ rfl rfl (fun v hw => load_i (cell_at hw.1.obj 1))
      | 5, _, ho =>
        cases ho
        refine stepG_of (fun g d hdep => ?_)
        exact step_move rfl trivial _ rfl (by kernel_rfl)
      | 6, _, ho =>
        cases ho
        refine stepG_of (fun g d hdep => ?_)
        exact step_nilCheck rfl trivial _ _ _ rfl rfl rfl
      | 7, _, ho =>
        cases ho
        refine stepG_of (fun g d hdep => ?_)
        exact step_fieldAddr rfl trivial _ _ _ _ rfl rfl (fun v hw => (field_g v _).2.1)
      | 8, _, ho =>
        cases ho
        refine stepG_of (fun g d hdep => ?_)
        exact step_load rfl trivial _ _ _ rfl rfl (fun v hw => load_i (cell_at hw.1.obj 2))
      | 9, _, ho =>
        cases ho
        refine stepG_of (fun g d hdep => ?_)
        exact step_move rfl trivial _ rfl (by kernel_rfl)
      | 10, _, ho =>
        cases ho
        refine stepG_of (fun g d hdep => ?_)
        exact step_nilCheck rfl trivial _ _ _ rfl rfl rfl
      | 11, _, ho =>
        cases ho
        refine stepG_of (fun g d hdep => ?_)
        exact step_fieldAddr rfl trivial _ _ _ _ rfl rfl (fun v hw => (field_g v _).2.2)
      | 12, _, ho =>
        cases ho
        refine stepG_of (fun g d hdep => ?_)
        exact step_load rfl trivial _ _ _ rfl rfl (fun v hw => load_b (cell_at hw.1.obj 3))
      | 13, _, ho =>
        cases ho
        exact stepG_call rfl (fun g => trivial) 79 _ _ (fun _ => [.pointer (some ⟨p, 0, none⟩), .int .i64 xf, .int .i64 xt, .slice a xd.length c]) rfl (fun g => rfl) (enters_of Tryz.func79 (by kernel_rfl) rfl) (fun g d V hJ hun hdep hcl => (cal V hJ hun).mono (by rintro e w' ⟨rfl, hJ'⟩; exact ⟨g, rfl, fun _ _ => rfl, hJ'⟩))
      | 14, _, ho =>
        cases ho
        refine stepG_of (fun g d hdep => ?_)
        exact step_extract rfl trivial _ _ _ rfl rfl (fun v hw => (ext2 _ _ v).1)
      | 15, _, ho =>
        cases ho
        refine stepG_of (fun g d hdep => ?_)
        exact step_extract rfl trivial _ _ _ rfl rfl (fun v hw => (ext2 _ _ v).2)
      | 16, _, ho =>
        cases ho
        refine stepG_of (fun g d hdep => ?_)
        exact step_assign rfl trivial _ rfl (by kernel_rfl) (fun _ h => h)
      | 17, _, ho =>
        cases ho
        refine stepG_of (fun g d hdep => ?_)
        exact step_assign rfl trivial _ rfl (by kernel_rfl) (fun _ h => h)
    intro g d W hall hW
    first | refine hK _ _ ?_ | refine (‹∀ (a : Act) (w : World), Code.wp Tryz.prog _ _ a w → _›) _ _ ?_ | skip
    simp only [finL, List.getD_cons_zero, List.getD_cons_succ, Nat.zero_add, Nat.reduceAdd, List.setIfInBounds_toArray, List.set_cons_zero, List.set_cons_succ]
    have hJ : JDb σ w base p (some ⟨g0, 0, none⟩) cap room last ps l q (xi, xf, xt, xd) a c r3 r4 (d 13) W := hW
    rw [hall 13 (by decide)] at hJ
    obtain ⟨_, ad', cap', ps', hB', hT'⟩ := hJ
    clear hW hK cal hadd
    go_wp2
    go_ret2
    exact ⟨rfl, ad', cap', ps', hB', hT'⟩
  · rw [rfs_1no hi] at hrf
    rw [sDb_no hi]
    clear hi
    go_enter Tryz.func21, Tryz.ntmps21
    go_wp2_with (go_at_call 80; (with_reducible refine hrf.mono ?_); rintro e u1 ⟨rfl, rfl⟩)
    go_ret2
    exact ⟨rfl, ad, cap, ps, h.carry hbV, Tn.of p _ hbV⟩
def sMv (l : List Gr) (i to : Int) : Int × List Gr := if (0 ≤ i ∧ i < (l.length : Int)) ∧ (0 ≤ to ∧ to < (l.length : Int)) then (0, (l.take i.toNat ++ l.drop (i.toNat + 1)).take to.toNat ++ (l[i.toNat]?).getD g0 :: (l.take i.toNat ++ l.drop (i.toNat + 1)).drop to.toNat) else (91, l)
theorem sMv_ok {k j : Nat} {x : Gr} (h : l[k]? = some x) (hj : j < l.length) : sMv l (k : Int) (j : Int) = (0, (l.take k ++ l.drop (k + 1)).take j ++ x :: (l.take k ++ l.drop (k + 1)).drop j) := by
  have h1 := (List.getElem?_eq_some_iff.1 h).1
  rw [sMv, if_pos (by omega), Int.toNat_natCast, Int.toNat_natCast, h]
  rfl
theorem sMv_no {i to : Int} (h : ¬ ((0 ≤ i ∧ i < (l.length : Int)) ∧ (0 ≤ to ∧ to < (l.length : Int)))) : sMv l i to = (91, l) := if_neg h
theorem rfs_2no {n i j : Int} (h : ¬ ((0 ≤ i ∧ i < n) ∧ (0 ≤ j ∧ j < n))) : rfs n [i, j] = 91 := by
  by_cases hi : i < 0 ∨ n ≤ i
  · exact if_pos hi
  · rw [rfs_ok _ hi]
    exact if_pos (by omega)
theorem rfs_2ok {n i j : Int} (h : (0 ≤ i ∧ i < n) ∧ (0 ≤ j ∧ j < n)) : rfs n [i, j] = 0 := by
  rw [rfs_ok _ (by omega), rfs_ok _ (by omega)]
  rfl
theorem refuse_2 {σ : Nat → Prop} (h : Bg σ w base p ad cap room last ps l) (i j : Int) {V : World} (hV : w.alloc (.cells #[.int .i64 i, .int .i64 j] 3) = V) : Calls Tryz.prog 80 #[.pointer (some ⟨p, 0, none⟩), .slice (some ⟨w.heap.size, 0, none⟩) 2 2] V fun e w' => e = .returned (.int .i64 (rfs (l.length : Int) [i, j])) ∧ w' = V := by
  subst hV
  refine refuse_any (h.carry (al1' _ _)) w.heap.size [i, j] 2 (fun k z hk => ?_) (by simp)
  match k, hk with
  | 0, hk =>
    simp at hk
    subst hk
    exact cell_at (new_at rfl) 0
  | 1, hk =>
    simp at hk
    subst hk
    exact cell_at (new_at rfl) 1
set_option maxHeartbeats 2000000 in
set_option maxRecDepth 100000 in
theorem move_any {σ : Nat → Prop} (h : Bg σ w base p ad cap room last ps l) (i to : Int) : Calls Tryz.prog 23 #[.pointer (some ⟨p, 0, none⟩), .int .i64 i, .int .i64 to] w fun e w' => e = .returned (.int .i64 (sMv l i to).1) ∧ ∃ ad' cap' ps', Bg σ w' base p ad' cap' room last ps' (sMv l i to).2 ∧ Tn p (ob ad) (ob ad') w w' := by
  obtain ⟨V0, hV⟩ : ∃ V, w.alloc (.cells #[.int .i64 i, .int .i64 to] 3) = V := ⟨_, rfl⟩
  have hbV : Below w.heap.size w V0 := by rw [← hV]; exact al1' _ _
  have hrf := refuse_2 h i to hV
  have hB := h.carry hbV
  by_cases hi : (0 ≤ i ∧ i < (l.length : Int)) ∧ (0 ≤ to ∧ to < (l.length : Int))
  · obtain ⟨k, q, g0, x, rfl, hq, hx, hgm, rfl, hk, hc⟩ := hB.get hi.1
    obtain ⟨j, rfl⟩ := Int.eq_ofNat_of_zero_le hi.2.1
    rw [rfs_2ok hi] at hrf
    have hj : j < l.length := by omega
    have hkl := (List.getElem?_eq_some_iff.1 hx).1
    rw [sMv_ok hx hj]
    have hto := takeOut_any hB k q hq
    have hle := h.le
    obtain ⟨l1, hl1⟩ : ∃ l1, l.take k ++ l.drop (k + 1) = l1 := ⟨_, rfl⟩
    obtain ⟨ps1, hps1⟩ : ∃ ps1, ps.take k ++ ps.drop (k + 1) = ps1 := ⟨_, rfl⟩
    have hn1 : l1.length + 1 = l.length := by rw [← hl1]; simp; omega
    rw [hl1, hps1] at hto
    rw [hl1]
    have hj1 : j ≤ l1.length := by omega
    have hr1 : (l1.length : Int) + 1 ≤ room := by omega
    clear hi hx hq hl1 hps1 hn1
    go_enter Tryz.func23, Tryz.ntmps23
    go_wp2_with (first | (go_at_call 80; (with_reducible refine hrf.mono ?_); rintro e u1 ⟨rfl, rfl⟩) | (go_at_call 85; (with_reducible refine hto.mono ?_); rintro e u1 ⟨rfl, ad', cap', hB1, hT1⟩; have hpu := putIn_any hB1 j q x hj1 (hgm.tn hB hT1) hr1) | (go_at_call 86; (with_reducible refine hpu.mono ?_); rintro e u2 ⟨rfl, ad2, cap2, hB2, hT2⟩))
    go_ret
    exact ⟨rfl, ad2, cap2, _, hB2, ((Tn.of p _ hbV).trans hT1).trans hT2⟩
  · rw [rfs_2no hi] at hrf
    rw [sMv_no hi]
    clear hi
    go_enter Tryz.func23, Tryz.ntmps23
    go_wp2_with (go_at_call 80; (with_reducible refine hrf.mono ?_); rintro e u1 ⟨rfl, rfl⟩)
    go_ret
    exact ⟨rfl, ad, cap, ps, h.carry hbV, Tn.of p _ hbV⟩
end
end Go.Proofs.YtjfbnikbmadgkaaGreat
