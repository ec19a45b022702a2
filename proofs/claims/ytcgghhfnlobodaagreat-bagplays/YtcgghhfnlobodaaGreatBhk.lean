/- Steps of the play of bags: At. -/
import Derived.Test.YtcgghhfnlobodaaGreatBhj
namespace Go.Proofs.YtcgghhfnlobodaaGreat
open Go.RowKit Go.Shelf Go.Lib

theorem run_allocG (w : World) : (Instr.alloc 62 true (.tuple #[])).run Tryz.prog w = .ok (.pointer (some ⟨w.heap.size, 0, none⟩)) (w.alloc (.cells #[.int .i64 0, .int .i64 0, .int .i64 0, .slice none 0 0] 62)) := by go_simp
theorem stepG_newGr {G : Type} {md : Region.Mode} {ops : Array Oper} {Q : Exit → Act → World → Prop} {X0 : Array Value} {val : G → Nat → Value} {J : G → (Nat → Bool) → World → Prop} {i : Nat} {o : Oper} (hi : ops[i]? = some o) (hg : o.guard = none) (ho : o.op = .alloc 62)
    (h : ∀ g d W, J g d W → d i = false → (∀ j oj, ops[j]? = some oj → d j = true → ∀ k, bindsOn md oj k = true → d k = true) → ∃ g', (∀ j, d j = true → val g' j = val g j) ∧ val g' i = .pointer (some ⟨W.heap.size, 0, none⟩) ∧ J g' (fun j => if j = i then true else d j) (W.alloc (.cells #[.int .i64 0, .int .i64 0, .int .i64 0, .slice none 0 0] 62))) : StepG Tryz.prog md ops Q X0 val J i o := by
  intro g d a W hJ hun _ hcl _
  obtain ⟨g', h1, h2, h3⟩ := h g d W hJ hun hcl
  unfold wpOp
  rw [hi]
  simp only [Region.wanted, hg, if_true]
  refine .inl ?_
  unfold Oper.wp execOp
  simp only [ho, Sem.run_bind, run_allocG, Result.andThen_ok, Sem.run_pure, Oper.upon_value]
  exact ⟨g', h1, by rw [h2], h3⟩
theorem store_G {W : World} {B : Nat} {i f t : Int} {v : Value} {i2 f2 t2 : Int} {a : Option Addr} {n c : Nat} (h : GB W B i f t v) : (Instr.storeAt 62 (.pointer (some ⟨B, 0, none⟩)) (.agg #[.int .i64 i2, .int .i64 f2, .int .i64 t2, .slice a n c])).run Tryz.prog W = .ok () (W4 W B i2 f2 t2 (.slice a n c)) := by
  have f0 := h.c0
  have f1 := h.c1
  have f2 := h.c2
  have f3 := h.c3
  have z0 := h.thaw 0
  have z1 := h.thaw 1
  have z2 := h.thaw 2
  have z3 := h.thaw 3
  unfold W4
  go_simp
/-- A datagram's address and box. -/
abbrev GX := Option Addr × Nat × Nat
/-- While a datagram that was told is laid in a box. -/
structure JN (Z : World) (x : Gr) (n : Nat) (g : GX) (d6 d10 d11 : Bool) (W : World) : Prop where
  below : Below Z.heap.size Z W
  dat : d6 = true → W.ownsRow Z.heap.size 5 1 (.slice g.1 n g.2.1) n (cB x.2.2.2)
  box : d10 = true → Z.heap.size ≤ g.2.2 ∧ (d11 = false → GB W g.2.2 0 0 0 (.slice none 0 0)) ∧ (d11 = true → GB W g.2.2 x.1 x.2.1 x.2.2.1 (.slice g.1 n g.2.1))
section
variable {Z W V : World} {x : Gr} {n : Nat} {g : GX} {d6 d10 d11 : Bool}
theorem JN.carry (h : JN Z x n g d6 d10 d11 W) (hb : Below W.heap.size W V) : JN Z x n g d6 d10 d11 V := ⟨bel2 h.below hb, fun e => row_below (h.dat e) hb, fun e => ⟨(h.box e).1, fun q => ((h.box e).2.1 q).carry hb, fun q => ((h.box e).2.2 q).carry hb⟩⟩
theorem JN.told (h : JN Z x n g false d10 false W) {a : Option Addr} {c : Nat} (hb : Below W.heap.size W V) (ho : V.ownsRow W.heap.size 5 1 (.slice a n c) n (cB x.2.2.2)) : JN Z x n (a, c, g.2.2) true d10 false V :=
  ⟨bel2 h.below hb, fun _ => row_base ho h.below.size, fun e => ⟨(h.box e).1, fun q => ((h.box e).2.1 q).carry hb, (fun q => by cases q)⟩⟩
theorem JN.new (h : JN Z x n g d6 d10 false W) : JN Z x n (g.1, g.2.1, W.heap.size) d6 true false (W.alloc (.cells #[.int .i64 0, .int .i64 0, .int .i64 0, .slice none 0 0] 62)) := by
  have hb := al1' W (.cells #[.int .i64 0, .int .i64 0, .int .i64 0, .slice none 0 0] 62)
  exact ⟨bel2 h.below hb, fun e => row_below (h.dat e) hb, fun _ => ⟨h.below.size, fun _ => new_at rfl, (fun q => by cases q)⟩⟩
theorem JN.store (h : JN Z x n g true true false W) : (Instr.storeAt 62 (.pointer (some ⟨g.2.2, 0, none⟩)) (.agg #[.int .i64 x.1, .int .i64 x.2.1, .int .i64 x.2.2.1, .slice g.1 n g.2.1])).run Tryz.prog W = .ok () (W4 W g.2.2 x.1 x.2.1 x.2.2.1 (.slice g.1 n g.2.1)) ∧ JN Z x n g true true true (W4 W g.2.2 x.1 x.2.1 x.2.2.1 (.slice g.1 n g.2.1)) := by
  obtain ⟨h1, h2, _⟩ := h.box rfl
  have hG := h2 rfl
  refine ⟨store_G hG, below4 h.below h1 _ _ _ _, fun _ => ?_, fun _ => ⟨h1, (fun q => by cases q), fun _ => hG.set _ _ _ _⟩⟩
  have ho := h.dat rfl
  have hn : (Value.slice g.1 n g.2.1).ownBlock ≠ some g.2.2 := fun e => by
    obtain ⟨_, c, hc⟩ := own_blk ho g.2.2 e
    have := hc.symm.trans hG
    simp only [Option.some.injEq, Obj.cells.injEq] at this
    exact absurd this.2.1 (by decide)
  exact row_other (row_other (row_other (row_other ho hn _) hn _) hn _) hn _
end
/-- Both datagrams are told; what is left is to keep the first one's bytes, and to hold them against each other. -/
structure JE (σ : Nat → Prop) (base lb off bb p : Nat) (ad : Option Addr) (cap : Nat) (room last : Int) (ps : List Nat) (l : List Gr) (adR : Option Addr) (capR : Nat) (av : List (Option Addr × Nat)) (ad0 adR0 : Option Addr) (σ0 : Nat → Prop) (x : Gr) (n : Nat) (gA : Option Addr) (cA BA : Nat) (gB : Option Addr) (cB' BB : Nat) (w V : World) : Prop where
  sd : Sd σ base lb off bb p ad cap room last ps l adR capR av V
  st : StV σ0 base lb off bb p ad0 room last adR0 w V
  b1 : GB V BA x.1 x.2.1 x.2.2.1 (.slice gA n cA)
  b2 : GB V BB x.1 x.2.1 x.2.2.1 (.slice gB n cB')
  d1 : ∃ B, V.ownsRow B 5 1 (.slice gA n cA) n (cB x.2.2.2)
  d2 : RdY V gB x.2.2.2
section
variable {σ : Nat → Prop} {base lb off bb p : Nat} {ad : Option Addr} {cap : Nat} {room last : Int} {ps : List Nat} {l : List Gr} {adR : Option Addr} {capR : Nat} {av : List (Option Addr × Nat)} {ad0 adR0 : Option Addr} {σ0 : Nat → Prop} {x : Gr} {n : Nat} {gA : Option Addr} {cA BA : Nat} {gB : Option Addr} {cB' BB : Nat} {w W V : World}
theorem JE.carry (h : JE σ base lb off bb p ad cap room last ps l adR capR av ad0 adR0 σ0 x n gA cA BA gB cB' BB w W) (hb : Below W.heap.size W V) : JE σ base lb off bb p ad cap room last ps l adR capR av ad0 adR0 σ0 x n gA cA BA gB cB' BB w V := by
  obtain ⟨B, hd⟩ := h.d1
  exact ⟨h.sd.carry hb, h.st.carry hb, h.b1.carry hb, h.b2.carry hb, ⟨B, row_below hd hb⟩, h.d2.carry hb⟩
theorem JE.kw (h : JE σ base lb off bb p ad cap room last ps l adR capR av ad0 adR0 σ0 x n gA cA BA gB cB' BB w W) (hk : Kw base bb W V) (hn : NK base bb V) : JE σ base lb off bb p ad cap room last ps l adR capR av ad0 adR0 σ0 x n gA cA BA gB cB' BB w V := by
  obtain ⟨B, hd⟩ := h.d1
  refine ⟨h.sd.kw hk hn, h.st.kw hk hn, hk.at h.sd.nk h.b1 (by decide) (by decide) (by decide), hk.at h.sd.nk h.b2 (by decide) (by decide) (by decide), ⟨B, row_at hd (fun _ _ _ hc => hk.at h.sd.nk hc (by decide) (by decide) (by decide))⟩, fun hx => ?_⟩
  obtain ⟨b, o, e1, ⟨cur, e2⟩, e3⟩ := h.d2 hx
  have e4 := hk.at h.sd.nk e2 (by decide) (by decide) (by decide)
  exact ⟨b, o, e1, ⟨cur, e4⟩, e3.carry (e4.trans e2.symm)⟩
/-- The first one's bytes are kept. -/
theorem JE.keep (h : JE σ base lb off bb p ad cap room last ps l adR capR av ad0 adR0 σ0 x n gA cA BA gB cB' BB w W) (hn : x.2.2.2.length = n) (hl : n ≤ 1024) : Calls Tryz.prog 18 #[.pointer (some ⟨bb, 0, none⟩), .slice gA n cA] W fun e w' => (∃ v, e = .returned v) ∧ JE σ base lb off bb p ad cap room last ps l adR capR av ad0 adR0 σ0 x n gA cA BA gB cB' BB w w' := by
  obtain ⟨B, hd⟩ := h.d1
  have hd' := hd
  rw [← hn] at hd'
  have := kby_any h.sd.nk h.sd.bz gA cA x.2.2.2 (RdY.own hd') (fun b e => by obtain ⟨_, cur, hc⟩ := own_blk hd b.block (by rw [ob_eq, e]; rfl); exact ⟨cur, _, hc⟩) (by omega) (none_cap hd)
  rw [hn] at this
  exact this.mono (by rintro e w' ⟨h1, h2, h3⟩; exact ⟨h1, h.kw h3 h2⟩)
theorem JE.same (h : JE σ base lb off bb p ad cap room last ps l adR capR av ad0 adR0 σ0 x n gA cA BA gB cB' BB w W) (hn : x.2.2.2.length = n) (hl : n ≤ 1024) : Calls Tryz.prog 19 #[.agg #[.int .i64 x.1, .int .i64 x.2.1, .int .i64 x.2.2.1, .slice gA n cA], .agg #[.int .i64 x.1, .int .i64 x.2.1, .int .i64 x.2.2.1, .slice gB n cB']] W fun e w' => e = .returned (.bool true) ∧ Below W.heap.size W w' := by
  obtain ⟨B, hd⟩ := h.d1
  rw [← hn] at hd
  have := sameG_yes x gA gB cA cB' W (RdY.own hd).rd h.d2.rd (by omega)
  unfold gV at this
  rw [hn] at this
  exact this
end
theorem load_bx {W : World} {B : Nat} {i f t : Int} {a : Option Addr} {n c : Nat} (h : GB W B i f t (.slice a n c)) : (Instr.loadAt 55 (.pointer (some ⟨B, 3, none⟩))).run Tryz.prog W = .ok (.slice a n c) W := load_b h.c3
theorem field_g3 (W : World) (B : Nat) : (Instr.fieldAt 62 (.pointer (some ⟨B, 0, none⟩)) 3).run Tryz.prog W = .ok (.pointer (some ⟨B, 3, none⟩)) W := (field_g W B).2.2
section
variable {σ : Nat → Prop} {base lb off bb p : Nat} {ad : Option Addr} {cap : Nat} {room last : Int} {ps : List Nat} {l : List Gr} {adR : Option Addr} {capR : Nat} {av : List (Option Addr × Nat)} {w : World}
set_option maxHeartbeats 8000000 in
set_option maxRecDepth 100000 in
theorem step_2 (h : Sd σ base lb off bb p ad cap room last ps l adR capR av w) (who iA jA kA : Int) (aD : Option Addr) (nD cD : Nat) : Calls Tryz.prog 8 #[.pointer (some ⟨lb, off, none⟩), .agg #[.int .i64 2, .int .i64 who, .int .i64 iA, .int .i64 jA, .int .i64 kA, .slice aD nD cD]] w fun e w' => e = .returned (.bool true) ∧ StV σ base lb off bb p ad room last adR w w' := by
  have hmx : Tryz.prog.follows .mixedOrders = true := by kernel_rfl
  obtain ⟨w1, hw1⟩ : ∃ w1, w.alloc (.cells #[.int .i64 2, .int .i64 who, .int .i64 iA, .int .i64 jA, .int .i64 kA, .slice aD nD cD] 57) = w1 := ⟨_, rfl⟩
  have hb1 : Below w.heap.size w w1 := by rw [← hw1]; exact al1' _ _
  have hO : OpB w1 w.heap.size 2 who iA jA kA (.slice aD nD cD) := by rw [← hw1]; exact new_at rfl
  have hS := h.carry hb1
  have o0 := hO.c0
  have HST : Hid (StV σ base lb off bb p ad room last adR w w1) := h.stv.carry hb1
  obtain ⟨r, hr⟩ : ∃ r, sAt l iA = r := ⟨_, rfl⟩
  have hfe : r.1.2.2.2.length ≤ 1024 := by
    rw [← hr]
    unfold sAt
    split
    · next hi =>
      obtain ⟨y, hy⟩ : ∃ y, l[iA.toNat]? = some y := ⟨_, List.getElem?_eq_getElem (by omega)⟩
      rw [hy]
      exact (h.rg.few y (List.mem_of_getElem? hy)).1
    · simp [g0]
  obtain ⟨⟨xi, xf, xt, xd⟩, E⟩ := r
  obtain ⟨n, hn⟩ : ∃ n, xd.length = n := ⟨_, rfl⟩
  dsimp only at hfe
  rw [hn] at hfe
  have HP : Hid (∀ V, Bg σ V base p ad cap room last ps l → Calls Tryz.prog 12 #[.pointer (some ⟨p, 0, none⟩), .int .i64 iA] V fun e w' => ∃ a c, e = .returned (.tuple #[.agg #[.int .i64 xi, .int .i64 xf, .int .i64 xt, .slice a n c], .int .i64 E]) ∧ w'.ownsRow V.heap.size 5 1 (.slice a n c) n (cB xd) ∧ Below V.heap.size V w') := fun V hV => by
    have := at_any hV iA
    rw [hr] at this
    unfold gV at this
    dsimp only at this
    rw [hn] at this
    exact this
  have HR : Hid (∀ V, Rg V base lb (off + 1) adR capR last room l av → Calls Tryz.prog 17 #[.pointer (some ⟨lb, off + 1, none⟩), .int .i64 iA] V fun e w' => ∃ a c, e = .returned (.tuple #[.agg #[.int .i64 xi, .int .i64 xf, .int .i64 xt, .slice a n c], .int .i64 E]) ∧ w'.ownsRow V.heap.size 5 1 (.slice a n c) n (cB xd) ∧ Below V.heap.size V w') := fun V hV => by
    have := rAt_any hV iA
    rw [hr] at this
    unfold gV at this
    dsimp only at this
    rw [hn] at this
    exact this
  have HNX : Hid (xd.length = n) := hn
  have HS : Hid (Sd σ base lb off bb p ad cap room last ps l adR capR av w1) := hS
  have HO : Hid (OpB w1 w.heap.size 2 who iA jA kA (.slice aD nD cD)) := hO
  clear h hS hO hr hn
  go_enter Tryz.func8, Tryz.ntmps8
  go_wp2
  rename_i Q0 K0 hK
  refine wp_region_any hmx ?_
  refine wpAny_tabG (G := (GX)) (fun g i__ => ([(.pointer (some ⟨lb, off, none⟩)), (.pointer (some ⟨lb, off, none⟩)), (.pointer (some ⟨lb, off, none⟩)), (.pointer (some ⟨p, 0, none⟩)), (.pointer (some ⟨w.heap.size, 2, none⟩)), (.int .i64 iA), (.tuple #[.agg #[.int .i64 xi, .int .i64 xf, .int .i64 xt, .slice g.1 n g.2.1], .int .i64 E]), (.tuple #[.agg #[.int .i64 xi, .int .i64 xf, .int .i64 xt, .slice g.1 n g.2.1], .int .i64 E]), (.agg #[.int .i64 xi, .int .i64 xf, .int .i64 xt, .slice g.1 n g.2.1]), (.int .i64 E), (.pointer (some ⟨g.2.2, 0, none⟩)), undef, (.int .i64 E)] : List Value).getD i__ undef) (fun g d V => JN w1 (xi, xf, xt, xd) n g (d 6) (d 10) (d 11) V) (by kernel_rfl) ((none, 0, 0)) ⟨(Below.refl _ _).drew, (fun e => by cases e), (fun e => by cases e)⟩ ?step1 ?fin1
  case step1 =>
    intro i o ho
    have hi : i < 13 := getElem?_lt ho
    match i, hi, ho with
    | 0, _, ho =>
      cases ho
      refine stepG_of (fun g d hdep => ?_)
      exact step_move rfl trivial _ rfl (by kernel_rfl)
    | 1, _, ho =>
      cases ho
      refine stepG_of (fun g d hdep => ?_)
      exact step_nilCheck rfl trivial _ _ _ rfl rfl rfl
    | 2, _, ho =>
      cases ho
      refine stepG_of (fun g d hdep => ?_)
      exact step_fieldAddr rfl trivial _ _ _ _ rfl rfl (fun v hw => field_bo0 v _ _)
    | 3, _, ho =>
      cases ho
      refine stepG_of (fun g d hdep => ?_)
      exact step_load rfl trivial _ _ _ rfl rfl (fun v hw => load_bop (HS.out.carry hw.below).c0)
    | 4, _, ho =>
      cases ho
      refine stepG_of (fun g d hdep => ?_)
      exact step_fieldAddr rfl trivial _ _ _ _ rfl rfl (fun v hw => field_op v _ 2 (by decide))
    | 5, _, ho =>
      cases ho
      refine stepG_of (fun g d hdep => ?_)
      exact step_load rfl trivial _ _ _ rfl rfl (fun v hw => load_i (HO.out.carry hw.below).c2)
    | 6, _, ho =>
      cases ho
      exact stepG_call rfl (fun g => trivial) 12 _ _ (fun _ => [(.pointer (some ⟨p, 0, none⟩)), (.int .i64 iA)]) rfl (fun g => by kernel_rfl) (enters_of Tryz.func12 (by kernel_rfl) rfl) (fun g d W' hJ hun hdep hcl => (HP.out W' (HS.out.carry hJ.below).bg).mono (by rintro e w' ⟨a, c, rfl, ho, hb'⟩; refine ⟨(a, c, g.2.2), rfl, (fun j hj => match j, hj with | 6, hj => (by rw [hj] at hun; cases hun) | 7, hj => absurd ((hcl 7 _ rfl hj 6 (by kernel_rfl))) (by rw [hun]; simp) | 8, hj => absurd ((hcl 7 _ rfl (hcl 8 _ rfl hj 7 (by kernel_rfl)) 6 (by kernel_rfl))) (by rw [hun]; simp) | 0, _ => rfl | 1, _ => rfl | 2, _ => rfl | 3, _ => rfl | 4, _ => rfl | 5, _ => rfl | 9, _ => rfl | 10, _ => rfl | 11, _ => rfl | 12, _ => rfl | _ + 13, _ => rfl), ?_⟩; have h7 : d 7 = false := (by cases h : d 7 with | false => rfl | true => exact absurd (hcl 7 _ rfl h 6 (by kernel_rfl)) (by rw [hun]; simp)); have h8 : d 8 = false := (by cases h : d 8 with | false => rfl | true => exact absurd (hcl 8 _ rfl h 7 (by kernel_rfl)) (by rw [h7]; simp)); have h11 : d 11 = false := (by cases h : d 11 with | false => rfl | true => exact absurd (hcl 11 _ rfl h 8 (by kernel_rfl)) (by rw [h8]; simp)); show JN w1 (xi, xf, xt, xd) n _ true (d 10) (d 11) w'; have hJ' := hJ; rw [hun, h11] at hJ'; rw [h11]; exact hJ'.told hb' ho))
    | 7, _, ho =>
      cases ho
      refine stepG_of (fun g d hdep => ?_)
      exact step_move rfl trivial _ rfl (by kernel_rfl)
    | 8, _, ho =>
      cases ho
      refine stepG_of (fun g d hdep => ?_)
      exact step_extract rfl trivial _ _ _ rfl rfl (fun v hw => ext2_0 _ _ v)
    | 9, _, ho =>
      cases ho
      refine stepG_of (fun g d hdep => ?_)
      exact step_extract rfl trivial _ _ _ rfl rfl (fun v hw => ext2_1 _ _ v)
    | 10, _, ho =>
      cases ho
      exact stepG_newGr rfl rfl rfl (fun g d W' hJ hun hcl => ⟨(g.1, g.2.1, W'.heap.size), (fun j hj => match j, hj with | 10, hj => (by rw [hj] at hun; cases hun)  | 0, _ => rfl | 1, _ => rfl | 2, _ => rfl | 3, _ => rfl | 4, _ => rfl | 5, _ => rfl | 6, _ => rfl | 7, _ => rfl | 8, _ => rfl | 9, _ => rfl | 11, _ => rfl | 12, _ => rfl | _ + 13, _ => rfl), rfl, by have h11 : d 11 = false := (by cases h : d 11 with | false => rfl | true => exact absurd (hcl 11 _ rfl h 10 (by kernel_rfl)) (by rw [hun]; simp)); show JN w1 (xi, xf, xt, xd) n _ (d 6) true (d 11) _; rw [h11] at hJ ⊢; exact hJ.new⟩)
    | 11, _, ho =>
      cases ho
      exact stepG_ofCB (fun g d hun hdep hcl => step_store rfl trivial rfl _ _ _ _ _ rfl rfl rfl (fun w' hw => by have h10 := hdep 10 (by kernel_rfl); have h6 : d 6 = true := hcl 7 _ rfl (hcl 8 _ rfl (hdep 8 (by kernel_rfl)) 7 (by kernel_rfl)) 6 (by kernel_rfl); have hw' := hw; rw [h10, h6, hun] at hw'; exact ⟨_, hw'.store.1, by show JN w1 (xi, xf, xt, xd) n g (d 6) (d 10) true _; rw [h10, h6]; exact hw'.store.2⟩))
    | 12, _, ho =>
      cases ho
      refine stepG_of (fun g d hdep => ?_)
      exact step_assign rfl trivial _ rfl (by kernel_rfl) (fun _ h => h)
  intro g d W hall hW
  first | refine hK _ _ ?_ | refine (‹∀ (a : Act) (w : World), Code.wp Tryz.prog _ _ a w → _›) _ _ ?_ | skip
  simp only [finL, List.getD_cons_zero, List.getD_cons_succ, Nat.zero_add, Nat.reduceAdd, List.setIfInBounds_toArray, List.set_cons_zero, List.set_cons_succ]
  rw [hall 6 (by decide), hall 10 (by decide), hall 11 (by decide)] at hW
  clear hK hall
  obtain ⟨gA, cA, BA⟩ := g
  have hbW := hW.below
  have HN1 : Hid (JN w1 (xi, xf, xt, xd) n (gA, cA, BA) true true true W) := hW
  have HS2 : Hid (Sd σ base lb off bb p ad cap room last ps l adR capR av W) := HS.out.carry hbW
  have HO2 : Hid (OpB W w.heap.size 2 who iA jA kA (.slice aD nD cD)) := HO.out.carry hbW
  clear hW
  go_wp2
  rename_i Q1 K1 hK
  refine wp_region_any hmx ?_
  refine wpAny_tabG (G := (GX)) (fun g i__ => ([(.pointer (some ⟨lb, off, none⟩)), (.pointer (some ⟨lb, off, none⟩)), (.pointer (some ⟨lb, off + 1, none⟩)), (.pointer (some ⟨w.heap.size, 2, none⟩)), (.int .i64 iA), (.tuple #[.agg #[.int .i64 xi, .int .i64 xf, .int .i64 xt, .slice g.1 n g.2.1], .int .i64 E]), (.tuple #[.agg #[.int .i64 xi, .int .i64 xf, .int .i64 xt, .slice g.1 n g.2.1], .int .i64 E]), (.agg #[.int .i64 xi, .int .i64 xf, .int .i64 xt, .slice g.1 n g.2.1]), (.int .i64 E), (.pointer (some ⟨g.2.2, 0, none⟩)), undef, (.int .i64 E)] : List Value).getD i__ undef) (fun g d V => JN W (xi, xf, xt, xd) n g (d 5) (d 9) (d 10) V) (by kernel_rfl) ((none, 0, 0)) ⟨(Below.refl _ _).drew, (fun e => by cases e), (fun e => by cases e)⟩ ?step2 ?fin2
  case step2 =>
    intro i o ho
    have hi : i < 12 := getElem?_lt ho
    match i, hi, ho with
    | 0, _, ho =>
      cases ho
      refine stepG_of (fun g d hdep => ?_)
      exact step_move rfl trivial _ rfl (by kernel_rfl)
    | 1, _, ho =>
      cases ho
      refine stepG_of (fun g d hdep => ?_)
      exact step_nilCheck rfl trivial _ _ _ rfl rfl rfl
    | 2, _, ho =>
      cases ho
      refine stepG_of (fun g d hdep => ?_)
      exact step_fieldAddr rfl trivial _ _ _ _ rfl rfl (fun v hw => field_bo1 v _ _)
    | 3, _, ho =>
      cases ho
      refine stepG_of (fun g d hdep => ?_)
      exact step_fieldAddr rfl trivial _ _ _ _ rfl rfl (fun v hw => field_op v _ 2 (by decide))
    | 4, _, ho =>
      cases ho
      refine stepG_of (fun g d hdep => ?_)
      exact step_load rfl trivial _ _ _ rfl rfl (fun v hw => load_i (HO2.out.carry hw.below).c2)
    | 5, _, ho =>
      cases ho
      exact stepG_call rfl (fun g => trivial) 17 _ _ (fun _ => [(.pointer (some ⟨lb, off + 1, none⟩)), (.int .i64 iA)]) rfl (fun g => by kernel_rfl) (enters_of Tryz.func17 (by kernel_rfl) rfl) (fun g d W' hJ hun hdep hcl => (HR.out W' (HS2.out.carry hJ.below).rg).mono (by rintro e w' ⟨a, c, rfl, ho, hb'⟩; refine ⟨(a, c, g.2.2), rfl, (fun j hj => match j, hj with | 5, hj => (by rw [hj] at hun; cases hun) | 6, hj => absurd ((hcl 6 _ rfl hj 5 (by kernel_rfl))) (by rw [hun]; simp) | 7, hj => absurd ((hcl 6 _ rfl (hcl 7 _ rfl hj 6 (by kernel_rfl)) 5 (by kernel_rfl))) (by rw [hun]; simp) | 0, _ => rfl | 1, _ => rfl | 2, _ => rfl | 3, _ => rfl | 4, _ => rfl | 8, _ => rfl | 9, _ => rfl | 10, _ => rfl | 11, _ => rfl | _ + 12, _ => rfl), ?_⟩; have h6 : d 6 = false := (by cases h : d 6 with | false => rfl | true => exact absurd (hcl 6 _ rfl h 5 (by kernel_rfl)) (by rw [hun]; simp)); have h7 : d 7 = false := (by cases h : d 7 with | false => rfl | true => exact absurd (hcl 7 _ rfl h 6 (by kernel_rfl)) (by rw [h6]; simp)); have h10 : d 10 = false := (by cases h : d 10 with | false => rfl | true => exact absurd (hcl 10 _ rfl h 7 (by kernel_rfl)) (by rw [h7]; simp)); show JN W (xi, xf, xt, xd) n _ true (d 9) (d 10) w'; have hJ' := hJ; rw [hun, h10] at hJ'; rw [h10]; exact hJ'.told hb' ho))
    | 6, _, ho =>
      cases ho
      refine stepG_of (fun g d hdep => ?_)
      exact step_move rfl trivial _ rfl (by kernel_rfl)
    | 7, _, ho =>
      cases ho
      refine stepG_of (fun g d hdep => ?_)
      exact step_extract rfl trivial _ _ _ rfl rfl (fun v hw => ext2_0 _ _ v)
    | 8, _, ho =>
      cases ho
      refine stepG_of (fun g d hdep => ?_)
      exact step_extract rfl trivial _ _ _ rfl rfl (fun v hw => ext2_1 _ _ v)
    | 9, _, ho =>
      cases ho
      exact stepG_newGr rfl rfl rfl (fun g d W' hJ hun hcl => ⟨(g.1, g.2.1, W'.heap.size), (fun j hj => match j, hj with | 9, hj => (by rw [hj] at hun; cases hun)  | 0, _ => rfl | 1, _ => rfl | 2, _ => rfl | 3, _ => rfl | 4, _ => rfl | 5, _ => rfl | 6, _ => rfl | 7, _ => rfl | 8, _ => rfl | 10, _ => rfl | 11, _ => rfl | _ + 12, _ => rfl), rfl, by have h11 : d 10 = false := (by cases h : d 10 with | false => rfl | true => exact absurd (hcl 10 _ rfl h 9 (by kernel_rfl)) (by rw [hun]; simp)); show JN W (xi, xf, xt, xd) n _ (d 5) true (d 10) _; rw [h11] at hJ ⊢; exact hJ.new⟩)
    | 10, _, ho =>
      cases ho
      exact stepG_ofCB (fun g d hun hdep hcl => step_store rfl trivial rfl _ _ _ _ _ rfl rfl rfl (fun w' hw => by have h9 := hdep 9 (by kernel_rfl); have h5 : d 5 = true := hcl 6 _ rfl (hcl 7 _ rfl (hdep 7 (by kernel_rfl)) 6 (by kernel_rfl)) 5 (by kernel_rfl); have hw' := hw; rw [h9, h5, hun] at hw'; exact ⟨_, hw'.store.1, by show JN W (xi, xf, xt, xd) n g (d 5) (d 9) true _; rw [h9, h5]; exact hw'.store.2⟩))
    | 11, _, ho =>
      cases ho
      refine stepG_of (fun g d hdep => ?_)
      exact step_assign rfl trivial _ rfl (by kernel_rfl) (fun _ h => h)
  intro g d W hall hW
  first | refine hK _ _ ?_ | refine (‹∀ (a : Act) (w : World), Code.wp Tryz.prog _ _ a w → _›) _ _ ?_ | skip
  simp only [finL, List.getD_cons_zero, List.getD_cons_succ, Nat.zero_add, Nat.reduceAdd, List.setIfInBounds_toArray, List.set_cons_zero, List.set_cons_succ]
  rw [hall 5 (by decide), hall 9 (by decide), hall 10 (by decide)] at hW
  clear hK hall
  obtain ⟨gB, cB', BB⟩ := g
  have hbZ := hW.below
  have HST3 : Hid (StV σ base lb off bb p ad room last adR w W) := (HST.out.carry hbW).carry hbZ
  have hj0 : JE σ base lb off bb p ad cap room last ps l adR capR av ad adR σ (xi, xf, xt, xd) n gA cA BA gB cB' BB w W := ⟨HS2.out.carry hbZ, HST3.out, ((HN1.out.carry hbZ).box rfl).2.2 rfl, (hW.box rfl).2.2 rfl, ⟨_, (HN1.out.carry hbZ).dat rfl⟩, RdY.own (c := cB') (by have := hW.dat rfl; rw [← HNX.out] at this; exact this)⟩
  clear hW HO2 HN1 HST3
  go_wp2
  rename_i Q2 K2 hK
  refine wp_region_any hmx ?_
  refine wpAny_tabG (G := (Value)) (fun g i__ => ([(.pointer (some ⟨lb, off, none⟩)), (.pointer (some ⟨lb, off, none⟩)), (.pointer (some ⟨lb, off + 4, none⟩)), (.pointer (some ⟨bb, 0, none⟩)), (.pointer (some ⟨BA, 3, none⟩)), (.slice gA n cA), g] : List Value).getD i__ undef) (fun g d V => JE σ base lb off bb p ad cap room last ps l adR capR av ad adR σ (xi, xf, xt, xd) n gA cA BA gB cB' BB w V) (by kernel_rfl) (undef) (hj0.carry (Below.refl _ _).drew) ?step3 ?fin3
  case step3 =>
    intro i o ho
    have hi : i < 7 := getElem?_lt ho
    match i, hi, ho with
    | 0, _, ho =>
      cases ho
      refine stepG_of (fun g d hdep => ?_)
      exact step_move rfl trivial _ rfl (by kernel_rfl)
    | 1, _, ho =>
      cases ho
      refine stepG_of (fun g d hdep => ?_)
      exact step_nilCheck rfl trivial _ _ _ rfl rfl rfl
    | 2, _, ho =>
      cases ho
      refine stepG_of (fun g d hdep => ?_)
      exact step_fieldAddr rfl trivial _ _ _ _ rfl rfl (fun v hw => field_bo2 v _ _)
    | 3, _, ho =>
      cases ho
      refine stepG_of (fun g d hdep => ?_)
      exact step_load rfl trivial _ _ _ rfl rfl (fun v hw => load_bob hw.sd.c4)
    | 4, _, ho =>
      cases ho
      refine stepG_of (fun g d hdep => ?_)
      exact step_fieldAddr rfl trivial _ _ _ _ rfl rfl (fun v hw => field_g3 v _)
    | 5, _, ho =>
      cases ho
      refine stepG_of (fun g d hdep => ?_)
      exact step_load rfl trivial _ _ _ rfl rfl (fun v hw => load_bx hw.b1)
    | 6, _, ho =>
      cases ho
      exact stepG_call rfl (fun g => trivial) 18 _ _ (fun _ => [(.pointer (some ⟨bb, 0, none⟩)), (.slice gA n cA)]) rfl (fun g => by kernel_rfl) (enters_of Tryz.func18 (by kernel_rfl) rfl) (fun g d W' hJ hun hdep hcl => (hJ.keep HNX.out hfe).mono (by rintro e w' ⟨⟨v, rfl⟩, hJ'⟩; exact ⟨v, rfl, (fun j hj => match j, hj with | 6, hj => (by rw [hj] at hun; cases hun)  | 0, _ => rfl | 1, _ => rfl | 2, _ => rfl | 3, _ => rfl | 4, _ => rfl | 5, _ => rfl | _ + 7, _ => rfl), hJ'⟩))
  intro g d W hall hW
  first | refine hK _ _ ?_ | refine (‹∀ (a : Act) (w : World), Code.wp Tryz.prog _ _ a w → _›) _ _ ?_ | skip
  simp only [finL, List.getD_cons_zero, List.getD_cons_succ, Nat.zero_add, Nat.reduceAdd, List.setIfInBounds_toArray, List.set_cons_zero, List.set_cons_succ]
  have hj1 : JE σ base lb off bb p ad cap room last ps l adR capR av ad adR σ (xi, xf, xt, xd) n gA cA BA gB cB' BB w W := hW
  have hsm := hj1.same HNX.out hfe
  have p0 := hj1.b1.c0
  have p1 := hj1.b1.c1
  have p2 := hj1.b1.c2
  have p3 := hj1.b1.c3
  have q0 := hj1.b2.c0
  have q1 := hj1.b2.c1
  have q2 := hj1.b2.c2
  have q3 := hj1.b2.c3
  have HF : Hid (StV σ base lb off bb p ad room last adR w W) := hj1.st
  dsimp only at hsm p0 p1 p2 q0 q1 q2
  clear hW hall hK hj0 hj1
  go_wp2_with (go_at_call 19; (with_reducible refine hsm.mono ?_); rintro e u2 ⟨rfl, hb2⟩)
  go_ret
  exact ⟨rfl, HF.out.carry hb2⟩
end
end Go.Proofs.YtcgghhfnlobodaaGreat
