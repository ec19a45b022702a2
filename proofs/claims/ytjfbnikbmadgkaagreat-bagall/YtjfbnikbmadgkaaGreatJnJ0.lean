/- Steps of the play of bags: At. -/
import Derived.Test.YtjfbnikbmadgkaaGreatBhj
namespace Go.Proofs.YtjfbnikbmadgkaaGreat
open Go.RowKit Go.Shelf Go.Lib

theorem run_allocG (w : World) : (Instr.alloc 62 true (.tuple #[])).run Tryz.prog w = .ok (.pointer (some ⟨w.heap.size, 0, none⟩)) (w.alloc (.cells #[.int .i64 0, .int .i64 0, .int .i64 0, .slice none 0 0] 62)) := by go_simp
theorem stepG_newGr {G : Type} {md : Region.Mode} {ops : Array Oper} {Q : Exit → Act → World → Prop} {X0 : Array Value} {val : G → Nat → Value} {J : G → (Nat → Bool) → World → Prop} {i : Nat} {o : Oper} (hi : ops[i]? = some o) (hg : o.guard = none) (ho : o.op = .alloc 62)
    (h : ∀ g d W, J g d W → d i = false → (∀ j oj, ops[j]? = some oj → d j = true → ∀ k, bindsOn md oj k = true → d k = true) → ∃ g', (∀ j, d j = true → val g' j = val g j) ∧ val g' i = .pointer (some ⟨W.heap.size, 0, none⟩) ∧ J g' (fun j => if j = i then true else d j) (W.alloc (.cells #[.int .i64 0, .int .i64 0, .int .i64 0, .slice none 0 0] 62))) : StepG Tryz.prog md ops Q X0 val J i o := by
  intro g d a W hJ hun _ hcl _
  obtain ⟨g', h1, h2, h3⟩ := h g d W hJ hun hcl
  unfold wpOp
  rw [hi]
  simp only [Region.wanted, hg, if_true]
  refine .inl ?_
  unfold Oper.wp execOp
  simp only [ho, Sem.run_bind, run_allocG, Result.andThen_ok, Sem.run_pure, Oper.upon_value]
  exact ⟨g', h1, by rw [h2], h3⟩
theorem store_G {W : World} {B : Nat} {i f t : Int} {v : Value} {i2 f2 t2 : Int} {a : Option Addr} {n c : Nat} (h : GB W B i f t v) : (Instr.storeAt 62 (.pointer (some ⟨B, 0, none⟩)) (.agg #[.int .i64 i2, .int .i64 f2, .int .i64 t2, .slice a n c])).run Tryz.prog W = .ok () (W4 W B i2 f2 t2 (.slice a n c)) := by
  have f0 := h.c0
  have f1 := h.c1
  have f2 := h.c2
  have f3 := h.c3
  have z0 := h.thaw 0
  have z1 := h.thaw 1
  have z2 := h.thaw 2
  have z3 := h.thaw 3
  unfold W4
  go_simp
/-- A datagram's address and box. -/
abbrev GX := Option Addr × Nat × Nat
/-- While a datagram that was told is laid in a box. -/
structure JN (Z : World) (x : Gr) (n : Nat) (g : GX) (d6 d10 d11 : Bool) (W : World) : Prop where
  below : Below Z.heap.size Z W
  dat : d6 = true → W.ownsRow Z.heap.size 5 1 (.slice g.1 n g.2.1) n (cB x.2.2.2)
  box : d10 = true → Z.heap.size ≤ g.2.2 ∧ (d11 = false → GB W g.2.2 0 0 0 (.slice none 0 0)) ∧ (d11 = true → GB W g.2.2 x.1 x.2.1 x.2.2.1 (.slice g.1 n g.2.1))
section
variable {Z W V : World} {x : Gr} {n : Nat} {g : GX} {d6 d10 d11 : Bool}
theorem JN.carry (h : JN Z x n g d6 d10 d11 W) (hb : Below W.heap.size W V) : JN Z x n g d6 d10 d11 V := ⟨bel2 h.below hb, fun e => row_below (h.dat e) hb, fun e => ⟨(h.box e).1, fun q => ((h.box e).2.1 q).carry hb, fun q => ((h.box e).2.2 q).carry hb⟩⟩
theorem JN.told (h : JN Z x n g false d10 false W) {a : Option Addr} {c : Nat} (hb : Below W.heap.size W V) (ho : V.ownsRow W.heap.size 5 1 (.slice a n c) n (cB x.2.2.2)) : JN Z x n (a, c, g.2.2) true d10 false V :=
  ⟨bel2 h.below hb, fun _ => row_base ho h.below.size, fun e => ⟨(h.box e).1, fun q => ((h.box e).2.1 q).carry hb, (fun q => by cases q)⟩⟩
theorem JN.new (h : JN Z x n g d6 d10 false W) : JN Z x n (g.1, g.2.1, W.heap.size) d6 true false (W.alloc (.cells #[.int .i64 0, .int .i64 0, .int .i64 0, .slice none 0 0] 62)) := by
  have hb := al1' W (.cells #[.int .i64 0, .int .i64 0, .int .i64 0, .slice none 0 0] 62)
  exact ⟨bel2 h.below hb, fun e => row_below (h.dat e) hb, fun _ => ⟨h.below.size, fun _ => new_at rfl, (fun q => by cases q)⟩⟩
theorem JN.store (h : JN Z x n g true true false W) : (Instr.storeAt 62 (.pointer (some ⟨g.2.2, 0, none⟩)) (.agg #[.int .i64 x.1, .int .i64 x.2.1, .int .i64 x.2.2.1, .slice g.1 n g.2.1])).run Tryz.prog W = .ok () (W4 W g.2.2 x.1 x.2.1 x.2.2.1 (.slice g.1 n g.2.1)) ∧ JN Z x n g true true true (W4 W g.2.2 x.1 x.2.1 x.2.2.1 (.slice g.1 n g.2.1)) := by
  obtain ⟨h1, h2, _⟩ := h.box rfl
  have hG := h2 rfl
  refine ⟨store_G hG, below4 h.below h1 _ _ _ _, fun _ => ?_, fun _ => ⟨h1, (fun q => by cases q), fun _ => hG.set _ _ _ _⟩⟩
  have ho := h.dat rfl
  have hn : (Value.slice g.1 n g.2.1).ownBlock ≠ some g.2.2 := fun e => by
    obtain ⟨_, c, hc⟩ := own_blk ho g.2.2 e
    have := hc.symm.trans hG
    simp only [Option.some.injEq, Obj.cells.injEq] at this
    exact absurd this.2.1 (by decide)
  exact row_other (row_other (row_other (row_other ho hn _) hn _) hn _) hn _
end
/-- Both datagrams are told; what is left is to keep the first one's bytes, and to hold them against each other. -/
structure JE (σ : Nat → Prop) (base lb off bb p : Nat) (ad : Option Addr) (cap : Nat) (room last : Int) (ps : List Nat) (l : List Gr) (adR : Option Addr) (capR : Nat) (av : List (Option Addr × Nat)) (ad0 adR0 : Option Addr) (σ0 : Nat → Prop) (x : Gr) (n : Nat) (gA : Option Addr) (cA BA : Nat) (gB : Option Addr) (cB' BB : Nat) (w V : World) : Prop where
  sd : Sd σ base lb off bb p ad cap room last ps l adR capR av V
  st : StD σ0 σ base lb off p ad0 ad adR0 adR w V
  b1 : GB V BA x.1 x.2.1 x.2.2.1 (.slice gA n cA)
  b2 : GB V BB x.1 x.2.1 x.2.2.1 (.slice gB n cB')
  d1 : ∃ B, V.ownsRow B 5 1 (.slice gA n cA) n (cB x.2.2.2)
  d2 : RdY V gB x.2.2.2
section
variable {σ : Nat → Prop} {base lb off bb p : Nat} {ad : Option Addr} {cap : Nat} {room last : Int} {ps : List Nat} {l : List Gr} {adR : Option Addr} {capR : Nat} {av : List (Option Addr × Nat)} {ad0 adR0 : Option Addr} {σ0 : Nat → Prop} {x : Gr} {n : Nat} {gA : Option Addr} {cA BA : Nat} {gB : Option Addr} {cB' BB : Nat} {w W V : World}
theorem JE.carry (h : JE σ base lb off bb p ad cap room last ps l adR capR av ad0 adR0 σ0 x n gA cA BA gB cB' BB w W) (hb : Below W.heap.size W V) : JE σ base lb off bb p ad cap room last ps l adR capR av ad0 adR0 σ0 x n gA cA BA gB cB' BB w V := by
  obtain ⟨B, hd⟩ := h.d1
  exact ⟨h.sd.carry hb, h.st.carry hb h.sd.bz h.sd.rg.lt, h.b1.carry hb, h.b2.carry hb, ⟨B, row_below hd hb⟩, h.d2.carry hb⟩
theorem JE.kw (h : JE σ base lb off bb p ad cap room last ps l adR capR av ad0 adR0 σ0 x n gA cA BA gB cB' BB w W) (hk : Kw base bb W V) (hn : NK σ base bb V) : JE σ base lb off bb p ad cap room last ps l adR capR av ad0 adR0 σ0 x n gA cA BA gB cB' BB w V := by
  obtain ⟨B, hd⟩ := h.d1
  refine ⟨h.sd.kw hk hn, h.st.kw h.sd hk, hk.at h.sd.nk h.b1 (by decide) (by decide) (by decide), hk.at h.sd.nk h.b2 (by decide) (by decide) (by decide), ⟨B, row_at hd (fun _ _ _ hc => hk.at h.sd.nk hc (by decide) (by decide) (by decide))⟩, fun hx => ?_⟩
  obtain ⟨b, o, e1, ⟨cur, e2⟩, e3⟩ := h.d2 hx
  have e4 := hk.at h.sd.nk e2 (by decide) (by decide) (by decide)
  exact ⟨b, o, e1, ⟨cur, e4⟩, e3.carry (e4.trans e2.symm)⟩
/-- The first one's bytes are young. -/
def Jy (σ : Nat → Prop) (base bb : Nat) (gA : Option Addr) (n cA : Nat) (x : Gr) (W : World) : Prop := ∃ B, W.ownsRow B 5 1 (.slice gA n cA) n (cB x.2.2.2) ∧ NKp (fun b => b < B) (fun _ => True) base bb W ∧ base ≤ B ∧ ∀ b, ob gA = some b → ¬ σ b
theorem Jy.carry (h : Jy σ base bb gA n cA x W) (hb : Below W.heap.size W V) : Jy σ base bb gA n cA x V := by
  obtain ⟨B, h1, h2, h3⟩ := h
  exact ⟨B, row_below h1 hb, h2.carry hb, h3⟩
theorem JE.stv (h : JE σ base lb off bb p ad cap room last ps l adR capR av ad0 adR0 σ0 x n gA cA BA gB cB' BB w W) : StV σ0 base lb off bb p ad0 room last adR0 w W := h.st.stv h.sd
/-- The first one's bytes are kept. -/
theorem JE.keep (h : JE σ base lb off bb p ad cap room last ps l adR capR av ad0 adR0 σ0 x n gA cA BA gB cB' BB w W) (hn : x.2.2.2.length = n) (hl : n ≤ 1024) (hy : Jy σ base bb gA n cA x W) : Calls Tryz.prog 17 #[.pointer (some ⟨bb, 0, none⟩), .slice gA n cA] W fun e w' => (∃ v, e = .returned v) ∧ JE σ base lb off bb p ad cap room last ps l adR capR av ad0 adR0 σ0 x n gA cA BA gB cB' BB w w' := by
  obtain ⟨B, ho, hk, hB, hs⟩ := hy
  have hd' := ho
  rw [← hn] at hd'
  have hsz : ∀ b, σ b → b < W.heap.size := fun b q => h.sd.bg.sg b q
  have := kby_any (NKp.both hk h.sd.nk) h.sd.bz hd' hB (by omega) (fun b hb q => by have := (own_blk ho b (by rw [ob_eq]; exact hb)).1; omega)
  rw [hn] at this
  refine this.mono ?_
  rintro e w' ⟨h1, h2, h3⟩
  refine ⟨h1, h.kw h3 (NKp.imp h2 (fun b _ q q2 => ?_) (fun _ _ q => q.2))⟩
  rcases q with q | q | q
  · exact q.2 q2
  · exact hs b q q2
  · have := hsz b q2
    omega
theorem JE.same (h : JE σ base lb off bb p ad cap room last ps l adR capR av ad0 adR0 σ0 x n gA cA BA gB cB' BB w W) (hn : x.2.2.2.length = n) (hl : n ≤ 1024) : Calls Tryz.prog 18 #[.agg #[.int .i64 x.1, .int .i64 x.2.1, .int .i64 x.2.2.1, .slice gA n cA], .agg #[.int .i64 x.1, .int .i64 x.2.1, .int .i64 x.2.2.1, .slice gB n cB']] W fun e w' => e = .returned (.bool true) ∧ Below W.heap.size W w' := by
  obtain ⟨B, hd⟩ := h.d1
  rw [← hn] at hd
  have := sameG_yes x gA gB cA cB' W (RdY.own hd).rd h.d2.rd (by omega)
  unfold gV at this
  rw [hn] at this
  exact this
end
theorem load_bx {W : World} {B : Nat} {i f t : Int} {a : Option Addr} {n c : Nat} (h : GB W B i f t (.slice a n c)) : (Instr.loadAt 55 (.pointer (some ⟨B, 3, none⟩))).run Tryz.prog W = .ok (.slice a n c) W := load_b h.c3
theorem field_g3 (W : World) (B : Nat) : (Instr.fieldAt 62 (.pointer (some ⟨B, 0, none⟩)) 3).run Tryz.prog W = .ok (.pointer (some ⟨B, 3, none⟩)) W := (field_g W B).2.2
section
variable {σ : Nat → Prop} {base lb off bb p : Nat} {ad : Option Addr} {cap : Nat} {room last : Int} {ps : List Nat} {l : List Gr} {adR : Option Addr} {capR : Nat} {av : List (Option Addr × Nat)} {w : World}
set_option maxHeartbeats 8000000 in
set_option maxRecDepth 100000 in
theorem step_2 (h : Sd σ base lb off bb p ad cap room last ps l adR capR av w) (who iA jA kA : Int) (aD : Option Addr) (nD cD : Nat) : Calls Tryz.prog 7 #[.pointer (some ⟨lb, off, none⟩), .agg #[.int .i64 2, .int .i64 who, .int .i64 iA, .int .i64 jA, .int .i64 kA, .slice aD nD cD]] w fun e w' => e = .returned (.bool true) ∧ StV σ base lb off bb p ad room last adR w w' := by
  have hmx : Tryz.prog.follows .mixedOrders = true := by kernel_rfl
  obtain ⟨w1, hw1⟩ : ∃ w1, w.alloc (.cells #[.int .i64 2, .int .i64 who, .int .i64 iA, .int .i64 jA, .int .i64 kA, .slice aD nD cD] 57) = w1 := ⟨_, rfl⟩
  have hb1 : Below w.heap.size w w1 := by rw [← hw1]; exact al1' _ _
  have hO : OpB w1 w.heap.size 2 who iA jA kA (.slice aD nD cD) := by rw [← hw1]; exact new_at rfl
  have hS := h.carry hb1
  have o0 := hO.c0
  have HST : Hid (StD σ σ base lb off p ad ad adR adR w w1) := h.std.carry hb1 h.bz h.rg.lt
  obtain ⟨r, hr⟩ : ∃ r, sAt l iA = r := ⟨_, rfl⟩
  have hfe : r.1.2.2.2.length ≤ 1024 := by
    rw [← hr]
    unfold sAt
    split
    · next hi =>
      obtain ⟨y, hy⟩ : ∃ y, l[iA.toNat]? = some y := ⟨_, List.getElem?_eq_getElem (by omega)⟩
      rw [hy]
      exact (h.rg.few y (List.mem_of_getElem? hy)).1
    · simp [g0]
  obtain ⟨⟨xi, xf, xt, xd⟩, E⟩ := r
  obtain ⟨n, hn⟩ : ∃ n, xd.length = n := ⟨_, rfl⟩
  dsimp only at hfe
  rw [hn] at hfe
  have HP : Hid (∀ V, Bg σ V base p ad cap room last ps l → Calls Tryz.prog 11 #[.pointer (some ⟨p, 0, none⟩), .int .i64 iA] V fun e w' => ∃ a c, e = .returned (.tuple #[.agg #[.int .i64 xi, .int .i64 xf, .int .i64 xt, .slice a n c], .int .i64 E]) ∧ w'.ownsRow V.heap.size 5 1 (.slice a n c) n (cB xd) ∧ Below V.heap.size V w') := fun V hV => by
    have := at_any hV iA
    rw [hr] at this
    unfold gV at this
    dsimp only at this
    rw [hn] at this
    exact this
  have HR : Hid (∀ V, Rg V base lb (off + 1) adR capR last room l av → Calls Tryz.prog 16 #[.pointer (some ⟨lb, off + 1, none⟩), .int .i64 iA] V fun e w' => ∃ a c, e = .returned (.tuple #[.agg #[.int .i64 xi, .int .i64 xf, .int .i64 xt, .slice a n c], .int .i64 E]) ∧ w'.ownsRow V.heap.size 5 1 (.slice a n c) n (cB xd) ∧ Below V.heap.size V w') := fun V hV => by
    have := rAt_any hV iA
    rw [hr] at this
    unfold gV at this
    dsimp only at this
    rw [hn] at this
    exact this
  have HNX : Hid (xd.length = n) := hn
  have HS : Hid (Sd σ base lb off bb p ad cap room last ps l adR capR av w1) := hS
  have HO : Hid (OpB w1 w.heap.size 2 who iA jA kA (.slice aD nD cD)) := hO
  clear h hS hO hr hn
  go_enter Tryz.func7, Tryz.ntmps7
  go_wp2
  rename_i Q0 K0 hK
  refine wp_region_any hmx ?_
  refine wpAny_tabG (G := (GX)) (fun g i__ => ([(.pointer (some ⟨lb, off, none⟩)), (.pointer (some ⟨lb, off, none⟩)), (.pointer (some ⟨lb, off, none⟩)), (.pointer (some ⟨p, 0, none⟩)), (.pointer (some ⟨w.heap.size, 2, none⟩)), (.int .i64 iA), (.tuple #[.agg #[.int .i64 xi, .int .i64 xf, .int .i64 xt, .slice g.1 n g.2.1], .int .i64 E]), (.tuple #[.agg #[.int .i64 xi, .int .i64 xf, .int .i64 xt, .slice g.1 n g.2.1], .int .i64 E]), (.agg #[.int .i64 xi, .int .i64 xf, .int .i64 xt, .slice g.1 n g.2.1]), (.int .i64 E), (.pointer (some ⟨g.2.2, 0, none⟩)), undef, (.int .i64 E)] : List Value).getD i__ undef) (fun g d V => JN w1 (xi, xf, xt, xd) n g (d 6) (d 10) (d 11) V) (by kernel_rfl) ((none, 0, 0)) ⟨(Below.refl _ _).drew, (fun e => by cases e), (fun e => by cases e)⟩ ?step7 ?fin7
  case step7 =>
    intro i o ho
    have hi : i < 13 := getElem?_lt ho
    match i, hi, ho with
    | 0, _, ho =>
      cases ho
      refine stepG_of (fun g d hdep => ?_)
      exact step_move rfl trivial _ rfl (by kernel_rfl)
    | 1, _, ho =>
      cases ho
      refine stepG_of (fun g d hdep => ?_)
      exact step_nilCheck rfl trivial _ _ _ rfl rfl rfl
    | 2, _, ho =>
      cases ho
      refine stepG_of (fun g d hdep => ?_)
      exact step_fieldAddr rfl trivial _ _ _ _ rfl rfl (fun v hw => field_bo0 v _ _)
    | 3, _, ho =>
      cases ho
      refine stepG_of (fun g d hdep => ?_)
      exact step_load rfl trivial _ _ _ rfl rfl (fun v hw => load_bop (HS.out.carry hw.below).c0)
    | 4, _, ho =>
      cases ho
      refine stepG_of (fun g d hdep => ?_)
      exact step_fieldAddr rfl trivial _ _ _ _ rfl rfl (fun v hw => field_op v _ 2 (by decide))
    | 5, _, ho =>
      cases ho
      refine stepG_of (fun g d hdep => ?_)
      exact step_load rfl trivial _ _ _ rfl rfl (fun v hw => load_i (HO.out.carry hw.below).c2)
    | 6, _, ho =>
      cases ho
      exact stepG_call rfl (fun g => trivial) 11 _ _ (fun _ => [(.pointer (some ⟨p, 0, none⟩)), (.int .i64 iA)]) rfl (fun g => by kernel_rfl) (enters_of Tryz.func11 (by kernel_rfl) rfl) (fun g d W' hJ hun hdep hcl => (HP.out W' (HS.out.carry hJ.below).bg).mono (by rintro e w' ⟨a, c, rfl, ho, hb'⟩; refine ⟨(a, c, g.2.2), rfl, (fun j hj => match j, hj with | 6, hj => (by rw [hj] at hun; cases hun) | 7, hj => absurd ((hcl 7 _ rfl hj 6 (by kernel_rfl))) (by rw [hun]; simp) | 8, hj => absurd ((hcl 7 _ rfl (hcl 8 _ rfl hj 7 (by kernel_rfl)) 6 (by kernel_rfl))) (by rw [hun]; simp) | 0, _ => rfl | 1, _ => rfl | 2, _ => rfl | 3, _ => rfl | 4, _ => rfl | 5, _ => rfl | 9, _ => rfl | 10, _ => rfl | 11, _ => rfl | 12, _ => rfl | _ + 13, _ => rfl), ?_⟩; have h7 : d 7 = false := (by cases h : d 7 with | false => rfl | true => exact absurd (hcl 7 _ rfl h 6 (by kernel_rfl)) (by rw [hun]; simp)); have h8 : d 8 = false := (by cases h : d 8 with | false => rfl | true => exact absurd (hcl 8 _ rfl h 7 (by kernel_rfl)) (by rw [h7]; simp)); have h11 : d 11 = false := (by cases h : d 11 with | false => rfl | true => exact absurd (hcl 11 _ rfl h 8 (by kernel_rfl)) (by rw [h8]; simp)); show JN w1 (xi, xf, xt, xd) n _ true (d 10) (d 11) w'; have hJ' := hJ; rw [hun, h11] at hJ'; rw [h11]; exact hJ'.told hb' ho))
    | 7, _, ho =>
      cases ho
      refine stepG_of (fun g d hdep => ?_)
      exact step_move rfl trivial _ rfl (by kernel_rfl)
    | 8, _, ho =>
      cases ho
      refine stepG_of (fun g d hdep => ?_)
      exact step_extract rfl trivial _ _ _ rfl rfl (fun v hw => ext2_0 _ _ v)
    | 9, _, ho =>
      cases ho
      refine stepG_of (fun g d hdep => ?_)
      exact step_extract rfl trivial _ _ _ rfl rfl (fun v hw => ext2_1 _ _ v)
    | 10, _, ho =>
      cases ho
      exact stepG_newGr rfl rfl rfl (fun g d W' hJ hun hcl => ⟨(g.1, g.2.1, W'.heap.size), (fun j hj => match j, hj with | 10, hj => (by rw [hj] at hun; cases hun)  | 0, _ => rfl | 1, _ => rfl | 2, _ => rfl | 3, _ => rfl | 4, _ => rfl | 5, _ => rfl | 6, _ => rfl | 7, _ => rfl | 8, _ => rfl | 9, _ => rfl | 11, _ => rfl | 12, _ => rfl | _ + 13, _ => rfl), rfl, by have h11 : d 11 = false := (by cases h : d 11 with | false => rfl | true => exact absurd (hcl 11 _ rfl h 10 (by kernel_rfl)) (by rw [hun]; simp)); show JN w1 (xi, xf, xt, xd) n _ (d 6) true (d 11) _; rw [h11] at hJ ⊢; exact hJ.new⟩)
    | 11, _, ho =>
      cases ho
      exact stepG_ofCB (fun g d hun hdep hcl => step_store rfl trivial rfl _ _ _ _ _ rfl rfl rfl (fun w' hw => by have h10 := hdep 10 (by kernel_rfl); have h6 : d 6 = true := hcl 7 _ rfl (hcl 8 _ rfl (hdep 8 (by kernel_rfl)) 7 (by kernel_rfl)) 6 (by kernel_rfl); have hw' := hw; rw [h10, h6, hun] at hw'; exact ⟨_, hw'.store.1, by show JN w1 (xi, xf, xt, xd) n g (d 6) (d 10) true _; rw [h10, h6]; exact hw'.store.2⟩))
    | 12, _, ho =>
      cases ho
      refine stepG_of (fun g d hdep => ?_)
      exact step_assign rfl trivial _ rfl (by kernel_rfl) (fun _ h => h)
  intro g d W hall hW
  first | refine hK _ _ ?_ | refine (‹∀ (a : Act) (w : World), Code.wp Tryz.prog _ _ a w → _›) _ _ ?_ | skip
  simp only [finL, List.getD_cons_zero, List.getD_cons_succ, Nat.zero_add, Nat.reduceAdd, List.setIfInBounds_toArray, List.set_cons_zero, List.set_cons_succ]
  rw [hall 6 (by decide), hall 10 (by decide), hall 11 (by decide)] at hW
  clear hK hall
  obtain ⟨gA, cA, BA⟩ := g
  have hbW := hW.below
  have HN1 : Hid (JN w1 (xi, xf, xt, xd) n (gA, cA, BA) true true true W) := hW
  have HS2 : Hid (Sd σ base lb off bb p ad cap room last ps l adR capR av W) := HS.out.carry hbW
  have HO2 : Hid (OpB W w.heap.size 2 who iA jA kA (.slice aD nD cD)) := HO.out.carry hbW
  clear hW
  go_wp2
  rename_i Q1 K1 hK
  refine wp_region_any hmx ?_
  refine wpAny_tabG (G := (GX)) (fun g i__ => ([(.pointer (some ⟨lb, off, none⟩)), (.pointer (some ⟨lb, off, none⟩)), (.pointer (some ⟨lb, off + 1, none⟩)), (.pointer (some ⟨w.heap.size, 2, none⟩)), (.int .i64 iA), (.tuple #[.agg #[.int .i64 xi, .int .i64 xf, .int .i64 xt, .slice g.1 n g.2.1], .int .i64 E]), (.tuple #[.agg #[.int .i64 xi, .int .i64 xf, .int .i64 xt, .slice g.1 n g.2.1], .int .i64 E]), (.agg #[.int .i64 xi, .int .i64 xf, .int .i64 xt, .slice g.1 n g.2.1]), (.int .i64 E), (.pointer (some ⟨g.2.2, 0, none⟩)), undef, (.int .i64 E)] : List Value).getD i__ undef) (fun g d V => JN W (xi, xf, xt, xd) n g (d 5) (d 9) (d 10) V) (by kernel_rfl) ((none, 0, 0)) ⟨(Below.refl _ _).drew, (fun e => by cases e), (fun e => by cases e)⟩ ?step8 ?fin8
  case step8 =>
    intro i o ho
    have hi : i < 12 := getElem?_lt ho
    match i, hi, ho with
    | 0, _, ho =>
      cases ho
      refine stepG_of (fun g d hdep => ?_)
      exact step_move rfl trivial _ rfl (by kernel_rfl)
    | 1, _, ho =>
      cases ho
      refine stepG_of (fun g d hdep => ?_)
      exact step_nilCheck rfl trivial _ _ _ rfl rfl rfl
    | 2, _, ho =>
      cases ho
      refine stepG_of (fun g d hdep => ?_)
      exact step_fieldAddr rfl trivial _ _ _ _ rfl rfl (fun v hw => field_bo1 v _ _)
    | 3, _, ho =>
      cases ho
      refine stepG_of (fun g d hdep => ?_)
      exact step_fieldAddr rfl trivial _ _ _ _ rfl rfl (fun v hw => field_op v _ 2 (by decide))
    | 4, _, ho =>
      cases ho
      refine stepG_of (fun g d hdep => ?_)
      exact step_load rfl trivial _ _ _ rfl rfl (fun v hw => load_i (HO2.out.carry hw.below).c2)
    | 5, _, ho =>
      cases ho
      exact stepG_call rfl (fun g => trivial) 16 _ _ (fun _ => [(.pointer (some ⟨lb, off + 1, none⟩)), (.int .i64 iA)]) rfl (fun g => by kernel_rfl) (enters_of Tryz.func16 (by kernel_rfl) rfl) (fun g d W' hJ hun hdep hcl => (HR.out W' (HS2.out.carry hJ.below).rg).mono (by rintro e w' ⟨a, c, rfl, ho, hb'⟩; refine ⟨(a, c, g.2.2), rfl, (fun j hj => match j, hj with | 5, hj => (by rw [hj] at hun; cases hun) | 6, hj => absurd ((hcl 6 _ rfl hj 5 (by kernel_rfl))) (by rw [hun]; simp) | 7, hj => absurd ((hcl 6 _ rfl (hcl 7 _ rfl hj 6 (by kernel_rfl)) 5 (by kernel_rfl))) (by rw [hun]; simp) | 0, _ => rfl | 1, _ => rfl | 2, _ => rfl | 3, _ => rfl | 4, _ => rfl | 8, _ => rfl | 9, _ => rfl | 10, _ => rfl | 11, _ => rfl | _ + 12, _ => rfl), ?_⟩; have h6 : d 6 = false := (by cases h : d 6 with | false => rfl | true => exact absurd (hcl 6 _ rfl h 5 (by kernel_rfl)) (by rw [hun]; simp)); have h7 : d 7 = false := (by cases h : d 7 with | false => rfl | true => exact absurd (hcl 7 _ rfl h 6 (by kernel_rfl)) (by rw [h6]; simp)); have h10 : d 10 = false := (by cases h : d 10 with | false => rfl | true => exact absurd (hcl 10 _ rfl h 7 (by kernel_rfl)) (by rw [h7]; simp)); show JN W (xi, xf, xt, xd) n _ true (d 9) (d 10) w'; have hJ' := hJ; rw [hun, h10] at hJ'; rw [h10]; exact hJ'.told hb' ho))
    | 6, _, ho =>
      cases ho
      refine stepG_of (fun g d hdep => ?_)
      exact step_move rfl trivial _ rfl (by kernel_rfl)
    | 7, _, ho =>
      cases ho
      refine stepG_of (fun g d hdep => ?_)
      exact step_extract rfl trivial _ _ _ rfl rfl (fun v hw => ext2_0 _ _ v)
    | 8, _, ho =>
      cases ho
      refine stepG_of (fun g d hdep => ?_)
      exact step_extract rfl trivial _ _ _ rfl rfl (fun v hw => ext2_1 _ _ v)
    | 9, _, ho =>
      cases ho
      exact stepG_newGr rfl rfl rfl (fun g d W' hJ hun hcl => ⟨(g.1, g.2.1, W'.heap.size), (fun j hj => match j, hj with | 9, hj => (by rw [hj] at hun; cases hun)  | 0, _ => rfl | 1, _ => rfl | 2, _ => rfl | 3, _ => rfl | 4, _ => rfl | 5, _ => rfl | 6, _ => rfl | 7, _ => rfl | 8, _ => rfl | 10, _ => rfl | 11, _ => rfl | _ + 12, _ => rfl), rfl, by have h11 : d 10 = false := (by cases h : d 10 with | false => rfl | true => exact absurd (hcl 10 _ rfl h 9 (by kernel_rfl)) (by rw [hun]; simp)); show JN W (xi, xf, xt, xd) n _ (d 5) true (d 10) _; rw [h11] at hJ ⊢; exact hJ.new⟩)
    | 10, _, ho =>
      cases ho
      exact stepG_ofCB (fun g d hun hdep hcl => step_store rfl trivial rfl _ _ _ _ _ rfl rfl rfl (fun w' hw => by have h9 := hdep 9 (by kernel_rfl); have h5 : d 5 = true := hcl 6 _ rfl (hcl 7 _ rfl (hdep 7 (by kernel_rfl)) 6 (by kernel_rfl)) 5 (by kernel_rfl); have hw' := hw; rw [h9, h5, hun] at hw'; exact ⟨_, hw'.store.1, by show JN W (xi, xf, xt, xd) n g (d 5) (d 9) true _; rw [h9, h5]; exact hw'.store.2⟩))
    | 11, _, ho =>
      cases ho
      refine stepG_of (fun g d hdep => ?_)
      exact step_assign rfl trivial _ rfl (by kernel_rfl) (fun _ h => h)
  intro g d W hall hW
  first | refine hK _ _ ?_ | refine (‹∀ (a : Act) (w : World), Code.wp Tryz.prog _ _ a w → _›) _ _ ?_ | skip
  simp only [finL, List.getD_cons_zero, List.getD_cons_succ, Nat.zero_add, Nat.reduceAdd, List.setIfInBounds_toArray, List.set_cons_zero, List.set_cons_succ]
  rw [hall 5 (by decide), hall 9 (by decide), hall 10 (by decide)] at hW
  clear hK hall
  obtain ⟨gB, cB', BB⟩ := g
  have hbZ := hW.below
  have HST3 : Hid (StD σ σ base lb off p ad ad adR adR w W) := (HST.out.carry hbW HS.out.bz HS.out.rg.lt).carry hbZ HS2.out.bz HS2.out.rg.lt
  have hy0 : Jy σ base bb gA n cA (xi, xf, xt, xd) W := ⟨w1.heap.size, (HN1.out.carry hbZ).dat rfl, ((NKp.imp HS.out.nk (fun b hb _ => hb) (fun _ _ _ => trivial)).carry hbW).carry hbZ, HS.out.bz, fun b e q => by have k1 := HS.out.bg.sg b q; have k2 := (own_blk ((HN1.out.carry hbZ).dat rfl) b (by rw [ob_eq]; exact e)).1; omega⟩
  have hj0 : JE σ base lb off bb p ad cap room last ps l adR capR av ad adR σ (xi, xf, xt, xd) n gA cA BA gB cB' BB w W := ⟨HS2.out.carry hbZ, HST3.out, ((HN1.out.carry hbZ).box rfl).2.2 rfl, (hW.box rfl).2.2 rfl, ⟨_, (HN1.out.carry hbZ).dat rfl⟩, RdY.own (c := cB') (by have := hW.dat rfl; rw [← HNX.out] at this; exact this)⟩
  clear hW HO2 HN1 HST3
  go_wp2
  rename_i Q2 K2 hK
  refine wp_region_any hmx ?_
  refine wpAny_tabG (G := (Value)) (fun g i__ => ([(.pointer (some ⟨lb, off, none⟩)), (.pointer (some ⟨lb, off, none⟩)), (.pointer (some ⟨lb, off + 4, none⟩)), (.pointer (some ⟨bb, 0, none⟩)), (.pointer (some ⟨BA, 3, none⟩)), (.slice gA n cA), g] : List Value).getD i__ undef) (fun g d V => JE σ base lb off bb p ad cap room last ps l adR capR av ad adR σ (xi, xf, xt, xd) n gA cA BA gB cB' BB w V ∧ (d 6 = false → Jy σ base bb gA n cA (xi, xf, xt, xd) V)) (by kernel_rfl) (undef) (show JE σ base lb off bb p ad cap room last ps l adR capR av ad adR σ (xi, xf, xt, xd) n gA cA BA gB cB' BB w _ ∧ (false = false → Jy σ base bb gA n cA (xi, xf, xt, xd) _) from ⟨hj0.carry (Below.refl _ _).drew, fun _ => hy0.carry (Below.refl _ _).drew⟩) ?step9 ?fin9
  case step9 =>
    intro i o ho
    have hi : i < 7 := getElem?_lt ho
    match i, hi, ho with
    | 0, _, ho =>
      cases ho
      refine stepG_of (fun g d hdep => ?_)
      exact step_move rfl trivial _ rfl (by kernel_rfl)
    | 1, _, ho =>
      cases ho
      refine stepG_of (fun g d hdep => ?_)
      exact step_nilCheck rfl trivial _ _ _ rfl rfl rfl
    | 2, _, ho =>
      cases ho
      refine stepG_of (fun g d hdep => ?_)
      exact step_fieldAddr rfl trivial _ _ _ _ rfl rfl (fun v hw => field_bo2 v _ _)
    | 3, _, ho =>
      cases ho
      refine stepG_of (fun g d hdep => ?_)
      exact step_load rfl trivial _ _ _ rfl rfl (fun v hw => load_bob hw.1.sd.c4)
    | 4, _, ho =>
      cases ho
      refine stepG_of (fun g d hdep => ?_)
      exact step_fieldAddr rfl trivial _ _ _ _ rfl rfl (fun v hw => field_g3 v _)
    | 5, _, ho =>
      cases ho
      refine stepG_of (fun g d hdep => ?_)
      exact step_load rfl trivial _ _ _ rfl rfl (fun v hw => load_bx hw.1.b1)
    | 6, _, ho =>
      cases ho
      exact stepG_call rfl (fun g => trivial) 17 _ _ (fun _ => [(.pointer (some ⟨bb, 0, none⟩)), (.slice gA n cA)]) rfl (fun g => by kernel_rfl) (enters_of Tryz.func17 (by kernel_rfl) rfl) (fun g d W' hJ hun hdep hcl => (hJ.1.keep HNX.out hfe (hJ.2 hun)).mono (by rintro e w' ⟨⟨v, rfl⟩, hJ'⟩; exact ⟨v, rfl, (fun j hj => match j, hj with | 6, hj => (by rw [hj] at hun; cases hun)  | 0, _ => rfl | 1, _ => rfl | 2, _ => rfl | 3, _ => rfl | 4, _ => rfl | 5, _ => rfl | _ + 7, _ => rfl), hJ', (fun e => by simp at e)⟩))
  intro g d W hall hW
  first | refine hK _ _ ?_ | refine (‹∀ (a : Act) (w : World), Code.wp Tryz.prog _ _ a w → _›) _ _ ?_ | skip
  simp only [finL, List.getD_cons_zero, List.getD_cons_succ, Nat.zero_add, Nat.reduceAdd, List.setIfInBounds_toArray, List.set_cons_zero, List.set_cons_succ]
  have hj1 : JE σ base lb off bb p ad cap room last ps l adR capR av ad adR σ (xi, xf, xt, xd) n gA cA BA gB cB' BB w W := hW.1
  have hsm := hj1.same HNX.out hfe
  have p0 := hj1.b1.c0
  have p1 := hj1.b1.c1
  have p2 := hj1.b1.c2
  have p3 := hj1.b1.c3
  have q0 := hj1.b2.c0
  have q1 := hj1.b2.c1
  have q2 := hj1.b2.c2
  have q3 := hj1.b2.c3
  have HF : Hid (StV σ base lb off bb p ad room last adR w W) := hj1.stv
  dsimp only at hsm p0 p1 p2 q0 q1 q2
  clear hW hall hK hj0 hj1
  go_wp2_with (go_at_call 18; (with_reducible refine hsm.mono ?_); rintro e u2 ⟨rfl, hb2⟩)
  go_ret
  exact ⟨rfl, HF.out.carry hb2⟩
end
end Go.Proofs.YtjfbnikbmadgkaaGreat
namespace Go.Proofs.YtjfbnikbmadgkaaGreat
open Go.RowKit Go.Shelf Go.Lib

section
variable {σ τ : Nat → Prop} {base lb off bb p : Nat} {ad : Option Addr} {cap : Nat} {room last : Int} {ps : List Nat} {l : List Gr} {adR : Option Addr} {capR : Nat} {av : List (Option Addr × Nat)} {lastR : Int} {lR : List Gr} {g : Option Nat} {w W V : World}
theorem Sm.more (h : Sm σ base lb off bb p ad cap room last ps l adR capR av lastR lR g w W) (hb : Below W.heap.size W V) (hτ : ∀ b, τ b → σ b ∨ W.heap.size ≤ b) (hs : ∀ b, τ b → b < V.heap.size) (ht : ∀ b, σ b → τ b) : Sm τ base lb off bb p ad cap room last ps l adR capR av lastR lR g w V :=
  ⟨(hb.cell (p := ⟨lb, _, none⟩) h.rg.lt).trans h.c0, (hb.cell (p := ⟨lb, _, none⟩) h.rg.lt).trans h.c4, h.bg.moveS (hb.block _ h.bg.plt) (fun b e => hb.block b (h.bg.blt e)) (fun b _ _ hc _ _ => (hb.block b (lt_at hc)).trans hc) hτ hs, h.rg.carry hb, (h.nk.more hτ).carry hb, h.lb0, fun b e => ht b (h.sr b e), h.ev.trans (Ev.of hb h.bz h.rg.lt)⟩
/-- A datagram's box is written: it is none of the bags'. -/
theorem put_types {B : Nat} {cB : Array Value} (hB : W.heap[B]? = some (.cells cB 62 (0, 0))) (hq : ∀ q, q ≠ B → V.heap[q]? = W.heap[q]?) : ∀ (q : Nat) (c : Array Value) (t : TypeId) (z : Nat × Nat), W.heap[q]? = some (.cells c t z) → t ≠ 62 → V.heap[q]? = some (.cells c t z) := fun q c t z hc ht => (hq q (fun e => by
  rw [e, hB] at hc
  simp only [Option.some.injEq, Obj.cells.injEq] at hc
  exact ht hc.2.1.symm)).trans hc
theorem Ev.put {o p2 : Nat} {g' r r' : Option Nat} {B : Nat} {cB : Array Value} (h : Ev base lb o p2 g g' r r' w W) (hB : W.heap[B]? = some (.cells cB 62 (0, 0))) (hq : ∀ q, q ≠ B → V.heap[q]? = W.heap[q]?) (hz : W.heap.size ≤ V.heap.size) (hw : w.heap.size ≤ B) (hbz : base ≤ w.heap.size) (ho : V.os = W.os ∧ V.tape = W.tape ∧ V.output = W.output) (hl : ∃ cur, W.heap[lb]? = some (.cells cur 48 (0, 0))) : Ev base lb o p2 g g' r r' w V := by
  obtain ⟨cl, hl⟩ := hl
  have hl2 := put_types hB hq _ _ _ _ hl (by decide)
  refine ⟨ho.1.trans h.os, ho.2.1.trans h.tape, ho.2.2.trans h.output, Nat.le_trans h.size hz, fun q c t z hc a1 a2 a3 a4 a5 a6 a7 => (hq q (fun e => ?_)).trans (h.block q c t z hc a1 a2 a3 a4 a5 a6 a7), fun k hk => (hq k (by omega)).trans (h.low k hk), fun j hj => (World.cell?_of_block (a := ⟨lb, j, none⟩) (hl2.trans hl.symm)).trans (h.cell j hj), fun _ => ⟨cl, hl2⟩, h.own, h.ownr⟩
  have := lt_at hc
  omega
theorem Bg.put4 {B : Nat} {cB : Array Value} (h : Bg σ W base p ad cap room last ps l) (hB : W.heap[B]? = some (.cells cB 62 (0, 0))) (hq : ∀ q, q ≠ B → V.heap[q]? = W.heap[q]?) (hz : W.heap.size ≤ V.heap.size) (hs : σ B) : Bg σ V base p ad cap room last ps l :=
  h.move hz ((put_types hB hq _ _ _ _ h.obj (by decide)).trans h.obj.symm) (fun b e => by obtain ⟨_, c, hc⟩ := h.blk e; exact (put_types hB hq _ _ _ _ hc (by decide)).trans hc.symm) (fun b _ _ hc _ hb => (hq b (fun e => hb (by rw [e]; exact hs))).trans hc)
theorem Rg.put4 {o : Nat} {most : Int} {B : Nat} {cB : Array Value} (h : Rg W base lb o ad cap last most l av) (hB : W.heap[B]? = some (.cells cB 62 (0, 0))) (hq : ∀ q, q ≠ B → V.heap[q]? = W.heap[q]?) (hr : ob ad ≠ some B) : Rg V base lb o ad cap last most l av := by
  obtain ⟨cl, hl⟩ := h.blk
  have hl2 := put_types hB hq _ _ _ _ hl (by decide)
  exact h.move (fun j _ _ => World.cell?_of_block (a := ⟨lb, j, none⟩) (hl2.trans hl.symm)) ⟨cl, hl2⟩ (fun b e => hq b (fun e2 => hr (by rw [e, e2]))) (fun _ _ _ _ _ hc => put_types hB hq _ _ _ _ hc (by decide))
theorem NK.put4 {B : Nat} {cB : Array Value} (h : NK σ base bb W) (hB : W.heap[B]? = some (.cells cB 62 (0, 0))) (hq : ∀ q, q ≠ B → V.heap[q]? = W.heap[q]?) (hs : σ B) : NK σ base bb V := h.move (fun b _ _ hc ht => by
  rcases ht with rfl | rfl | rfl | ⟨rfl, _⟩ | ⟨rfl, hb⟩
  · exact put_types hB hq _ _ _ _ hc (by decide)
  · exact put_types hB hq _ _ _ _ hc (by decide)
  · exact put_types hB hq _ _ _ _ hc (by decide)
  · exact put_types hB hq _ _ _ _ hc (by decide)
  · exact (hq b (fun e => hb (by rw [e]; exact hs))).trans hc)
theorem NKp.put4 {P Q : Nat → Prop} {B : Nat} {cB : Array Value} (h : NKp P Q base bb W) (hB : W.heap[B]? = some (.cells cB 62 (0, 0))) (hq : ∀ q, q ≠ B → V.heap[q]? = W.heap[q]?) (hs : ¬ Q B) : NKp P Q base bb V := h.move (fun b _ _ hc ht => by
  rcases ht with rfl | rfl | rfl | ⟨rfl, _⟩ | ⟨rfl, hb⟩
  · exact put_types hB hq _ _ _ _ hc (by decide)
  · exact put_types hB hq _ _ _ _ hc (by decide)
  · exact put_types hB hq _ _ _ _ hc (by decide)
  · exact put_types hB hq _ _ _ _ hc (by decide)
  · exact (hq b (fun e => hs (by rw [← e]; exact hb))).trans hc)
theorem Sm.put4 {B : Nat} {cB : Array Value} (h : Sm σ base lb off bb p ad cap room last ps l adR capR av lastR lR g w W) (hB : W.heap[B]? = some (.cells cB 62 (0, 0))) (hq : ∀ q, q ≠ B → V.heap[q]? = W.heap[q]?) (hz : W.heap.size ≤ V.heap.size) (hs : σ B) (hr : ob adR ≠ some B) (hw : w.heap.size ≤ B) (hbz : base ≤ w.heap.size) (ho : V.os = W.os ∧ V.tape = W.tape ∧ V.output = W.output) : Sm σ base lb off bb p ad cap room last ps l adR capR av lastR lR g w V := by
  obtain ⟨cl, hl⟩ := h.rg.blk
  have hl2 := put_types hB hq _ _ _ _ hl (by decide)
  have hce : ∀ j, V.cell? ⟨lb, j, none⟩ = W.cell? ⟨lb, j, none⟩ := fun j => World.cell?_of_block (a := ⟨lb, j, none⟩) (hl2.trans hl.symm)
  exact ⟨(hce _).trans h.c0, (hce _).trans h.c4, h.bg.put4 hB hq hz hs, h.rg.put4 hB hq hr, h.nk.put4 hB hq hs, h.lb0, h.sr, h.ev.put hB hq hz hw hbz ho ⟨cl, hl⟩⟩
theorem Sd.put4 {B : Nat} {cB : Array Value} (h : Sd σ base lb off bb p ad cap room last ps l adR capR av W) (hB : W.heap[B]? = some (.cells cB 62 (0, 0))) (hq : ∀ q, q ≠ B → V.heap[q]? = W.heap[q]?) (hz : W.heap.size ≤ V.heap.size) (hs : σ B) (hr : ob adR ≠ some B) : Sd σ base lb off bb p ad cap room last ps l adR capR av V := by
  obtain ⟨cl, hl⟩ := h.rg.blk
  have hl2 := put_types hB hq _ _ _ _ hl (by decide)
  have hce : ∀ j, V.cell? ⟨lb, j, none⟩ = W.cell? ⟨lb, j, none⟩ := fun j => World.cell?_of_block (a := ⟨lb, j, none⟩) (hl2.trans hl.symm)
  exact ⟨(hce _).trans h.c0, (hce _).trans h.c4, h.bg.put4 hB hq hz hs, h.rg.put4 hB hq hr, h.nk.put4 hB hq hs, h.lb0, h.sr⟩
end
end Go.Proofs.YtjfbnikbmadgkaaGreat
namespace Go.Proofs.YtjfbnikbmadgkaaGreat
open Go.RowKit Go.Shelf Go.Lib

/-- While the program's datagram is taken, and laid in a box. -/
structure JTa (σ : Nat → Prop) (base lb off bb p : Nat) (ad : Option Addr) (cap : Nat) (room last : Int) (ps : List Nat) (l : List Gr) (adR : Option Addr) (capR : Nat) (av : List (Option Addr × Nat)) (l1 : List Gr) (x : Gr) (n : Nat) (w : World) (who iA jA kA : Int) (v : Value) (g : GX) (d6 d10 d11 : Bool) (V : World) : Prop where
  op : OpB V w.heap.size 3 who iA jA kA v
  z : w.heap.size ≤ V.heap.size
  a : d6 = false → Sd (fun b => σ b ∨ (d10 = true ∧ b = g.2.2)) base lb off bb p ad cap room last ps l adR capR av V ∧ Ev base lb (off + 1) p (ob ad) (ob ad) (ob adR) (ob adR) w V
  b : d6 = true → (∃ ad1 cap1 ps1, Sm (fun b => σ b ∨ (d10 = true ∧ b = g.2.2)) base lb off bb p ad1 cap1 room last ps1 l1 adR capR av last l (ob ad) w V) ∧ V.ownsRow w.heap.size 5 1 (.slice g.1 n g.2.1) n (cB x.2.2.2)
  bx : d10 = true → w.heap.size ≤ g.2.2 ∧ (d11 = false → GB V g.2.2 0 0 0 (.slice none 0 0)) ∧ (d11 = true → GB V g.2.2 x.1 x.2.1 x.2.2.1 (.slice g.1 n g.2.1))
  rl : ∀ b, ob adR = some b → b < w.heap.size
  nb : NKp (fun b => b < w.heap.size) (fun b => ¬ σ b ∧ b < w.heap.size) base bb V
section
variable {σ : Nat → Prop} {base lb off bb p : Nat} {ad : Option Addr} {cap : Nat} {room last : Int} {ps : List Nat} {l : List Gr} {adR : Option Addr} {capR : Nat} {av : List (Option Addr × Nat)} {l1 : List Gr} {x : Gr} {n : Nat} {w : World} {who iA jA kA : Int} {v : Value} {g : GX} {d6 d10 d11 : Bool} {V V' : World}
theorem W4_size (V : World) (B : Nat) (i f t : Int) (u : Value) : (W4 V B i f t u).heap.size = V.heap.size := by simp [W4]
theorem JTa.p0 (h : JTa σ base lb off bb p ad cap room last ps l adR capR av l1 x n w who iA jA kA v g d6 d10 d11 V) : V.cell? ⟨lb, off, none⟩ = some (.pointer (some ⟨p, 0, none⟩)) := by
  cases d6 with
  | false => exact (h.a rfl).1.c0
  | true =>
    obtain ⟨⟨_, _, _, hm⟩, _⟩ := h.b rfl
    exact hm.c0
theorem JTa.told {a : Option Addr} {c : Nat} {ad1 : Option Addr} {cap1 : Nat} {ps1 : List Nat} (h : JTa σ base lb off bb p ad cap room last ps l adR capR av l1 x n w who iA jA kA v g false d10 false V) (hT : Tn p (ob ad) (ob ad1) V V') (hB : Bg (fun b => σ b ∨ (d10 = true ∧ b = g.2.2)) V' base p ad1 cap1 room last ps1 l1) (ho : V'.ownsRow V.heap.size 5 1 (.slice a n c) n (cB x.2.2.2)) : JTa σ base lb off bb p ad cap room last ps l adR capR av l1 x n w who iA jA kA v (a, c, g.2.2) true d10 false V' := by
  obtain ⟨h1, h2⟩ := h.a rfl
  exact ⟨h.op.tn h1.bg hT, Nat.le_trans h.z hT.size, (fun e => by cases e), fun _ => ⟨⟨ad1, cap1, ps1, h1.mid h2 hB hT⟩, row_base ho h.z⟩, fun e => ⟨(h.bx e).1, fun q => h1.bg.stays hT ((h.bx e).2.1 q) (by decide) (by decide), (fun q => by cases q)⟩, h.rl, h.nb.move (fun b c t hc ht2 => by rcases ht2 with rfl | rfl | rfl | ⟨rfl, _⟩ | ⟨rfl, _⟩ <;> exact h1.bg.stays hT hc (by decide) (by decide))⟩
theorem JTa.new (h : JTa σ base lb off bb p ad cap room last ps l adR capR av l1 x n w who iA jA kA v g d6 false false V) : JTa σ base lb off bb p ad cap room last ps l adR capR av l1 x n w who iA jA kA v (g.1, g.2.1, V.heap.size) d6 true false (V.alloc (.cells #[.int .i64 0, .int .i64 0, .int .i64 0, .slice none 0 0] 62)) := by
  have hb := al1' V (.cells #[.int .i64 0, .int .i64 0, .int .i64 0, .slice none 0 0] 62)
  have hz : (V.alloc (.cells #[.int .i64 0, .int .i64 0, .int .i64 0, .slice none 0 0] 62)).heap.size = V.heap.size + 1 := by simp
  have t1 : ∀ b, (σ b ∨ (true = true ∧ b = V.heap.size)) → (σ b ∨ (false = true ∧ b = g.2.2)) ∨ V.heap.size ≤ b := fun b q => by
    rcases q with q | ⟨_, q⟩
    · exact .inl (.inl q)
    · exact .inr (by omega)
  have t3 : ∀ b, (σ b ∨ (false = true ∧ b = g.2.2)) → (σ b ∨ (true = true ∧ b = V.heap.size)) := fun b q => by
    rcases q with q | ⟨q, _⟩
    · exact .inl q
    · cases q
  refine ⟨h.op.carry hb, Nat.le_trans h.z hb.size, fun e => ?_, fun e => ?_, fun _ => ⟨h.z, fun _ => new_at rfl, (fun q => by cases q)⟩, h.rl, h.nb.carry hb⟩
  · obtain ⟨h1, h2⟩ := h.a e
    exact ⟨h1.more hb t1 (fun b q => by
      rcases q with q | ⟨_, q⟩
      · have := h1.bg.sg b (.inl q); omega
      · rw [q, hz]; exact Nat.lt_succ_self _) t3, h2.trans (Ev.of hb h1.bz h1.rg.lt)⟩
  · obtain ⟨⟨a1, c1, p1, hm⟩, hd⟩ := h.b e
    exact ⟨⟨a1, c1, p1, hm.more hb t1 (fun b q => by
      rcases q with q | ⟨_, q⟩
      · have := hm.bg.sg b (.inl q); omega
      · rw [q, hz]; exact Nat.lt_succ_self _) t3⟩, row_below hd hb⟩
theorem JTa.store (h : JTa σ base lb off bb p ad cap room last ps l adR capR av l1 x n w who iA jA kA v g true true false V) (hbz : base ≤ w.heap.size) : (Instr.storeAt 62 (.pointer (some ⟨g.2.2, 0, none⟩)) (.agg #[.int .i64 x.1, .int .i64 x.2.1, .int .i64 x.2.2.1, .slice g.1 n g.2.1])).run Tryz.prog V = .ok () (W4 V g.2.2 x.1 x.2.1 x.2.2.1 (.slice g.1 n g.2.1)) ∧ JTa σ base lb off bb p ad cap room last ps l adR capR av l1 x n w who iA jA kA v g true true true (W4 V g.2.2 x.1 x.2.1 x.2.2.1 (.slice g.1 n g.2.1)) := by
  obtain ⟨b1, b2, _⟩ := h.bx rfl
  have hG := b2 rfl
  obtain ⟨⟨a1, c1, p1, hm⟩, hd⟩ := h.b rfl
  have hq : ∀ q, q ≠ g.2.2 → (W4 V g.2.2 x.1 x.2.1 x.2.2.1 (.slice g.1 n g.2.1)).heap[q]? = V.heap[q]? := fun q e => other4 e _ _ _ _
  have hz := W4_size V g.2.2 x.1 x.2.1 x.2.2.1 (.slice g.1 n g.2.1)
  have hn : (Value.slice g.1 n g.2.1).ownBlock ≠ some g.2.2 := fun e => by
    obtain ⟨_, c, hc⟩ := own_blk hd g.2.2 e
    have := hc.symm.trans hG
    simp only [Option.some.injEq, Obj.cells.injEq] at this
    exact absurd this.2.1 (by decide)
  refine ⟨store_G hG, put_types hG hq _ _ _ _ h.op (by decide), by rw [hz]; exact h.z, (fun e => by cases e), fun _ => ⟨⟨a1, c1, p1, hm.put4 hG hq (by rw [hz]; exact Nat.le_refl _) (.inr ⟨rfl, rfl⟩) (fun e => by have := h.rl _ e; omega) b1 hbz ⟨rfl, rfl, rfl⟩⟩, row_other (row_other (row_other (row_other hd hn _) hn _) hn _) hn _⟩, fun _ => ⟨b1, (fun q => by cases q), fun _ => hG.set _ _ _ _⟩, h.rl, h.nb.put4 hG hq (fun q => by have := q.2; omega)⟩
end
/-- While the document's datagram is taken, and laid in a box. -/
structure JTb (σ : Nat → Prop) (base lb off bb p : Nat) (ad : Option Addr) (cap : Nat) (room last : Int) (ps : List Nat) (l : List Gr) (adR : Option Addr) (capR : Nat) (av : List (Option Addr × Nat)) (l1 : List Gr) (x : Gr) (n : Nat) (w : World) (who iA jA kA : Int) (v : Value) (a1 : Option Addr) (c1 : Nat) (p1 : List Nat) (gA : Option Addr) (cA BA N0 : Nat) (g : GX) (d5 d9 d10 : Bool) (V : World) : Prop where
  op : OpB V w.heap.size 3 who iA jA kA v
  z : N0 ≤ V.heap.size
  b1 : GB V BA x.1 x.2.1 x.2.2.1 (.slice gA n cA)
  d1 : V.ownsRow w.heap.size 5 1 (.slice gA n cA) n (cB x.2.2.2)
  a : d5 = false → Sm (fun b => (σ b ∨ b = BA) ∨ (d9 = true ∧ b = g.2.2)) base lb off bb p a1 c1 room last p1 l1 adR capR av last l (ob ad) w V
  b : d5 = true → ∃ adR1 capR1 av1, Sd (fun b => ((σ b ∨ b = BA) ∨ (d9 = true ∧ b = g.2.2)) ∨ ob adR1 = some b) base lb off bb p a1 c1 room last p1 l1 adR1 capR1 av1 V ∧ Ev base lb (off + 1) p (ob ad) (ob a1) (ob adR) (ob adR1) w V ∧ (d9 = true → ob adR1 ≠ some g.2.2) ∧ (∀ b, ob adR1 = some b → σ b ∨ w.heap.size ≤ b) ∧ RdY V g.1 x.2.2.2
  bx : d9 = true → N0 ≤ g.2.2 ∧ g.2.2 < V.heap.size ∧ (d10 = false → GB V g.2.2 0 0 0 (.slice none 0 0)) ∧ (d10 = true → GB V g.2.2 x.1 x.2.1 x.2.2.1 (.slice g.1 n g.2.1))
  rl : ∀ b, ob adR = some b → b < w.heap.size ∧ σ b
  ba : w.heap.size ≤ BA ∧ BA < N0
  nb : NKp (fun b => b < w.heap.size) (fun b => ¬ σ b ∧ b < w.heap.size) base bb V
section
variable {σ : Nat → Prop} {base lb off bb p : Nat} {ad : Option Addr} {cap : Nat} {room last : Int} {ps : List Nat} {l : List Gr} {adR : Option Addr} {capR : Nat} {av : List (Option Addr × Nat)} {l1 : List Gr} {x : Gr} {n : Nat} {w : World} {who iA jA kA : Int} {v : Value} {a1 : Option Addr} {c1 : Nat} {p1 : List Nat} {gA : Option Addr} {cA BA N0 : Nat} {g : GX} {d5 d9 d10 : Bool} {V V' : World}
theorem JTb.told {a : Option Addr} {c : Nat} {adR1 : Option Addr} {capR1 : Nat} {av1 : List (Option Addr × Nat)} (h : JTb σ base lb off bb p ad cap room last ps l adR capR av l1 x n w who iA jA kA v a1 c1 p1 gA cA BA N0 g false d9 false V) (hR : Rg V' base lb (off + 1) adR1 capR1 last room l1 av1) (hT : Tr lb (off + 1) (ob adR) (ob adR1) V V') (hd : RdY V' a x.2.2.2) : JTb σ base lb off bb p ad cap room last ps l adR capR av l1 x n w who iA jA kA v a1 c1 p1 gA cA BA N0 (a, c, g.2.2) true d9 false V' := by
  have hm := h.a rfl
  obtain ⟨q1, q2⟩ := hm.doc hR hT
  have kb : ∀ (B : Nat) (i f t : Int) (u : Value), w.heap.size ≤ B → GB V B i f t u → GB V' B i f t u := fun B i f t u hB hG => (hT.block B (lt_at hG) (fun e => by
    obtain ⟨c, hc⟩ := hm.rg.blk
    rw [← e] at hc
    have := hc.symm.trans hG
    simp only [Option.some.injEq, Obj.cells.injEq] at this
    exact absurd this.2.1 (by decide)) (fun e => by have := (h.rl B e.symm).1; omega)).trans hG
  have ku : ∀ (q : Nat) (cur : Array Value), V.heap[q]? = some (.cells cur 5 (0, 0)) → V'.heap[q]? = some (.cells cur 5 (0, 0)) := fun q cur hc => (hT.block q (lt_at hc) (fun e => by
    obtain ⟨c, hc2⟩ := hm.rg.blk
    rw [← e] at hc2
    have := hc2.symm.trans hc
    simp only [Option.some.injEq, Obj.cells.injEq] at this
    exact absurd this.2.1 (by decide)) (fun e => by
    obtain ⟨_, c, hc2⟩ := hm.rg.blkR e.symm
    have := hc2.symm.trans hc
    simp only [Option.some.injEq, Obj.cells.injEq] at this
    exact absurd this.2.1 (by decide))).trans hc
  have hz0 := h.ba
  refine ⟨h.op.tr hm.rg hT, Nat.le_trans h.z hT.size, kb _ _ _ _ _ hz0.1 h.b1, row_at h.d1 (fun q cur _ hc => ku q cur hc), (fun e => by cases e), fun _ => ⟨adR1, capR1, av1, q1, q2, fun e e2 => ?_, fun b e => ?_, hd⟩, fun e => ⟨(h.bx e).1, Nat.lt_of_lt_of_le (h.bx e).2.1 hT.size, fun q => kb _ _ _ _ _ (by show w.heap.size ≤ g.2.2; have := (h.bx e).1; omega) ((h.bx e).2.2.1 q), (fun q => by cases q)⟩, h.rl, h.ba, h.nb.move (fun b c t hc ht2 => ?_)⟩
  · have k1 := h.bx e
    dsimp only at e2
    rcases hT.own with k | k
    · rw [k] at e2
      have := (h.rl _ e2).1
      omega
    · have := k _ e2
      omega
  · rcases hT.own with k | k
    · rw [k] at e
      exact .inl (h.rl b e).2
    · have := k b e
      have := h.z
      exact .inr (by omega)
  · have nlb : t ≠ 48 → b ≠ lb := fun ht e => by
      obtain ⟨c2, hc2⟩ := hm.rg.blk
      rw [e, hc2] at hc
      simp only [Option.some.injEq, Obj.cells.injEq] at hc
      exact ht hc.2.1.symm
    have nad : t ≠ 62 → some b ≠ ob adR := fun ht e => by
      obtain ⟨_, c2, hc2⟩ := hm.rg.blkR e.symm
      rw [hc2] at hc
      simp only [Option.some.injEq, Obj.cells.injEq] at hc
      exact ht hc.2.1.symm
    rcases ht2 with rfl | rfl | rfl | ⟨rfl, _⟩ | ⟨rfl, hb⟩
    · exact (hT.block b (lt_at hc) (nlb (by decide)) (nad (by decide))).trans hc
    · exact (hT.block b (lt_at hc) (nlb (by decide)) (nad (by decide))).trans hc
    · exact (hT.block b (lt_at hc) (nlb (by decide)) (nad (by decide))).trans hc
    · exact (hT.block b (lt_at hc) (nlb (by decide)) (nad (by decide))).trans hc
    · exact (hT.block b (lt_at hc) (nlb (by decide)) (fun e => hb.1 (h.rl b e.symm).2)).trans hc
theorem JTb.new (h : JTb σ base lb off bb p ad cap room last ps l adR capR av l1 x n w who iA jA kA v a1 c1 p1 gA cA BA N0 g d5 false false V) : JTb σ base lb off bb p ad cap room last ps l adR capR av l1 x n w who iA jA kA v a1 c1 p1 gA cA BA N0 (g.1, g.2.1, V.heap.size) d5 true false (V.alloc (.cells #[.int .i64 0, .int .i64 0, .int .i64 0, .slice none 0 0] 62)) := by
  have hb := al1' V (.cells #[.int .i64 0, .int .i64 0, .int .i64 0, .slice none 0 0] 62)
  have hz : (V.alloc (.cells #[.int .i64 0, .int .i64 0, .int .i64 0, .slice none 0 0] 62)).heap.size = V.heap.size + 1 := by simp
  refine ⟨h.op.carry hb, Nat.le_trans h.z hb.size, h.b1.carry hb, row_below h.d1 hb, fun e => ?_, fun e => ?_, fun _ => ⟨h.z, by rw [hz]; exact Nat.lt_succ_self _, fun _ => new_at rfl, (fun q => by cases q)⟩, h.rl, h.ba, h.nb.carry hb⟩
  · have hm := h.a e
    refine hm.more hb (fun b q => ?_) (fun b q => ?_) (fun b q => ?_)
    · rcases q with q | ⟨_, q⟩
      · exact .inl (.inl q)
      · exact .inr (by dsimp only at q; omega)
    · rcases q with q | ⟨_, q⟩
      · have := hm.bg.sg b (.inl q); omega
      · dsimp only at q; omega
    · rcases q with q | ⟨q, _⟩
      · exact .inl q
      · cases q
  · obtain ⟨adR1, capR1, av1, k1, k2, k3, k4, k5⟩ := h.b e
    refine ⟨adR1, capR1, av1, k1.more hb (fun b q => ?_) (fun b q => ?_) (fun b q => ?_), k2.trans (Ev.of hb k1.bz k1.rg.lt), fun _ e2 => ?_, k4, k5.carry hb⟩
    · rcases q with (q | ⟨_, q⟩) | q
      · exact .inl (.inl (.inl q))
      · exact .inr (by dsimp only at q; omega)
      · exact .inl (.inr q)
    · rcases q with (q | ⟨_, q⟩) | q
      · have := k1.bg.sg b (.inl (.inl q)); omega
      · dsimp only at q; omega
      · have := k1.bg.sg b (.inr q); omega
    · rcases q with (q | ⟨q, _⟩) | q
      · exact .inl (.inl q)
      · cases q
      · exact .inr q
    · obtain ⟨_, c, hc⟩ := k1.rg.blkR e2
      have := lt_at hc
      dsimp only at this
      omega
theorem JTb.store (h : JTb σ base lb off bb p ad cap room last ps l adR capR av l1 x n w who iA jA kA v a1 c1 p1 gA cA BA N0 g true true false V) (hbz : base ≤ w.heap.size) : (Instr.storeAt 62 (.pointer (some ⟨g.2.2, 0, none⟩)) (.agg #[.int .i64 x.1, .int .i64 x.2.1, .int .i64 x.2.2.1, .slice g.1 n g.2.1])).run Tryz.prog V = .ok () (W4 V g.2.2 x.1 x.2.1 x.2.2.1 (.slice g.1 n g.2.1)) ∧ JTb σ base lb off bb p ad cap room last ps l adR capR av l1 x n w who iA jA kA v a1 c1 p1 gA cA BA N0 g true true true (W4 V g.2.2 x.1 x.2.1 x.2.2.1 (.slice g.1 n g.2.1)) := by
  obtain ⟨b1, b2, b3, _⟩ := h.bx rfl
  have hG := b3 rfl
  have hba := h.ba
  obtain ⟨adR1, capR1, av1, k1, k2, k3, k4, k5⟩ := h.b rfl
  have hq : ∀ q, q ≠ g.2.2 → (W4 V g.2.2 x.1 x.2.1 x.2.2.1 (.slice g.1 n g.2.1)).heap[q]? = V.heap[q]? := fun q e => other4 e _ _ _ _
  have hz := W4_size V g.2.2 x.1 x.2.1 x.2.2.1 (.slice g.1 n g.2.1)
  have hty := put_types hG hq
  refine ⟨store_G hG, hty _ _ _ _ h.op (by decide), by rw [hz]; exact h.z, (hq BA (by omega)).trans h.b1, row_at h.d1 (fun _ _ _ hc => hty _ _ _ _ hc (by decide)), (fun e => by cases e), fun _ => ⟨adR1, capR1, av1, k1.put4 hG hq (by rw [hz]; exact Nat.le_refl _) (.inl (.inr ⟨rfl, rfl⟩)) (k3 rfl), k2.put hG hq (by rw [hz]; exact Nat.le_refl _) (by omega) hbz ⟨rfl, rfl, rfl⟩ k1.rg.blk, k3, k4, fun hx => ?_⟩, fun _ => ⟨b1, by rw [hz]; exact b2, (fun q => by cases q), fun _ => hG.set _ _ _ _⟩, h.rl, h.ba, h.nb.put4 hG hq (fun q => by have := q.2; omega)⟩
  obtain ⟨b, o, e1, ⟨cur, e2⟩, e3⟩ := k5 hx
  have e4 := hty _ _ _ _ e2 (by decide)
  exact ⟨b, o, e1, ⟨cur, e4⟩, e3.carry (e4.trans e2.symm)⟩
end
end Go.Proofs.YtjfbnikbmadgkaaGreat
