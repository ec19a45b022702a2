/- Steps of the play of bags: Double, Move, Spoil, the whole bag. -/
import Derived.Test.YtjfbnikbmadgkaaGreatBhg
namespace Go.Proofs.YtjfbnikbmadgkaaGreat
open Go.RowKit Go.Shelf Go.Lib

theorem stepG_ofCB {G : Type} {P : Program} {md : Region.Mode} {ops : Array Oper} {Q : Exit → Act → World → Prop} {X0 : Array Value} {val : G → Nat → Value} {J : G → (Nat → Bool) → World → Prop} {i : Nat} {o : Oper}
    (h : ∀ g d, d i = false → (∀ j, bindsOn md o j = true → d j = true) → (∀ j oj, ops[j]? = some oj → d j = true → ∀ k, bindsOn md oj k = true → d k = true) → StepAt P md ops Q X0 (val g) (J g d) (J g (fun j => if j = i then true else d j)) i o) : StepG P md ops Q X0 val J i o := by
  intro g d a w hJ hun hdep hcl hS
  exact wpOp_mono (fun a' w' hq => ⟨g, fun _ _ => rfl, hq.1, hq.2⟩) (h g d hun hdep hcl a w hJ hS)
/-- What is to be done, in a box. -/
def OpB (W : World) (b : Nat) (k who i j kk : Int) (v : Value) : Prop := W.heap[b]? = some (.cells #[.int .i64 k, .int .i64 who, .int .i64 i, .int .i64 j, .int .i64 kk, v] 57 (0, 0))
section
variable {W V : World} {b : Nat} {k who i j kk : Int} {v : Value}
theorem OpB.c0 (h : OpB W b k who i j kk v) : W.cell? ⟨b, 0, none⟩ = some (.int .i64 k) := cell_at h 0
theorem OpB.c1 (h : OpB W b k who i j kk v) : W.cell? ⟨b, 1, none⟩ = some (.int .i64 who) := cell_at h 1
theorem OpB.c2 (h : OpB W b k who i j kk v) : W.cell? ⟨b, 2, none⟩ = some (.int .i64 i) := cell_at h 2
theorem OpB.c3 (h : OpB W b k who i j kk v) : W.cell? ⟨b, 3, none⟩ = some (.int .i64 j) := cell_at h 3
theorem OpB.c4 (h : OpB W b k who i j kk v) : W.cell? ⟨b, 4, none⟩ = some (.int .i64 kk) := cell_at h 4
theorem OpB.c5 (h : OpB W b k who i j kk v) : W.cell? ⟨b, 5, none⟩ = some v := cell_at h 5
theorem OpB.carry (h : OpB W b k who i j kk v) (hb : Below W.heap.size W V) : OpB V b k who i j kk v := (hb.block _ (lt_at h)).trans h
theorem OpB.tn {σ : Nat → Prop} {base p : Nat} {ad : Option Addr} {cap : Nat} {room last : Int} {ps : List Nat} {l : List Gr} {g' : Option Nat} (h : OpB W b k who i j kk v) (hB : Bg σ W base p ad cap room last ps l) (ht : Tn p (ob ad) g' W V) : OpB V b k who i j kk v := hB.stays ht h (by decide) (by decide)
theorem OpB.tr {base lb o : Nat} {ad : Option Addr} {cap : Nat} {last most : Int} {l : List Gr} {av : List (Option Addr × Nat)} {r' : Option Nat} (h : OpB W b k who i j kk v) (hR : Rg W base lb o ad cap last most l av) (ht : Tr lb o (ob ad) r' W V) : OpB V b k who i j kk v := by
  refine (ht.block b (lt_at h) (fun e => ?_) (fun e => ?_)).trans h
  · obtain ⟨c, hc⟩ := hR.blk
    rw [← e] at hc
    have := hc.symm.trans h
    simp only [Option.some.injEq, Obj.cells.injEq] at this
    exact absurd this.2.1 (by decide)
  · obtain ⟨_, c, hc⟩ := hR.blkR e.symm
    have := hc.symm.trans h
    simp only [Option.some.injEq, Obj.cells.injEq] at this
    exact absurd this.2.1 (by decide)
end
theorem field_op (W : World) (B f : Nat) (hf : f < 6) : (Instr.fieldAt 57 (.pointer (some ⟨B, 0, none⟩)) f).run Tryz.prog W = .ok (.pointer (some ⟨B, f, none⟩)) W := by
  match f, hf with
  | 0, _ => go_simp
  | 1, _ => go_simp
  | 2, _ => go_simp
  | 3, _ => go_simp
  | 4, _ => go_simp
  | 5, _ => go_simp
theorem ext2_0 (a b : Value) (W : World) : (Instr.extract (.tuple #[a, b]) 0).run Tryz.prog W = .ok a W := rfl
theorem ext2_1 (a b : Value) (W : World) : (Instr.extract (.tuple #[a, b]) 1).run Tryz.prog W = .ok b W := rfl
/-- What a step leaves. -/
def StV (σ : Nat → Prop) (base lb off bb p : Nat) (ad : Option Addr) (room last : Int) (adR : Option Addr) (w w' : World) : Prop := ∃ τ ad' cap' last' ps' l' adR' capR' av', Sd τ base lb off bb p ad' cap' room last' ps' l' adR' capR' av' w' ∧ (∀ b, σ b → τ b) ∧ (∀ b, τ b → σ b ∨ w.heap.size ≤ b) ∧ last ≤ last' ∧ last' ≤ last + 1 ∧ Ev base lb (off + 1) p (ob ad) (ob ad') (ob adR) (ob adR') w w'
section
variable {σ : Nat → Prop} {base lb off bb p : Nat} {ad : Option Addr} {cap : Nat} {room last : Int} {ps : List Nat} {l : List Gr} {adR : Option Addr} {capR : Nat} {av : List (Option Addr × Nat)} {w w1 W V : World}
theorem StV.carry (h : StV σ base lb off bb p ad room last adR w W) (hb : Below W.heap.size W V) : StV σ base lb off bb p ad room last adR w V := by
  obtain ⟨τ, ad', cap', last', ps', l', adR', capR', av', h1, h2, h3, h4, h5, h6⟩ := h
  exact ⟨τ, ad', cap', last', ps', l', adR', capR', av', h1.carry hb, h2, h3, h4, h5, h6.trans (Ev.of hb h1.bz h1.rg.lt)⟩
/-- What a step has turned so far: the sets, and all the rest. -/
def StD (σ0 σ : Nat → Prop) (base lb off p : Nat) (ad0 ad adR0 adR : Option Addr) (w V : World) : Prop := (∀ b, σ0 b → σ b) ∧ (∀ b, σ b → σ0 b ∨ w.heap.size ≤ b) ∧ Ev base lb (off + 1) p (ob ad0) (ob ad) (ob adR0) (ob adR) w V
theorem StD.carry {σ0 : Nat → Prop} {ad0 adR0 : Option Addr} (h : StD σ0 σ base lb off p ad0 ad adR0 adR w W) (hb : Below W.heap.size W V) (hz : base ≤ W.heap.size) (hl : lb < W.heap.size) : StD σ0 σ base lb off p ad0 ad adR0 adR w V := ⟨h.1, h.2.1, h.2.2.trans (Ev.of hb hz hl)⟩
theorem StD.kw {σ0 : Nat → Prop} {ad0 adR0 : Option Addr} (h : StD σ0 σ base lb off p ad0 ad adR0 adR w W) (hs : Sd σ base lb off bb p ad cap room last ps l adR capR av W) (hk : Kw base bb W V) : StD σ0 σ base lb off p ad0 ad adR0 adR w V := by
  obtain ⟨cur, hl⟩ := hs.rg.blk
  exact ⟨h.1, h.2.1, h.2.2.trans (Ev.kw hk hs.nk hl)⟩
theorem StD.stv {σ0 : Nat → Prop} {ad0 adR0 : Option Addr} (h : StD σ0 σ base lb off p ad0 ad adR0 adR w W) (hs : Sd σ base lb off bb p ad cap room last ps l adR capR av W) : StV σ0 base lb off bb p ad0 room last adR0 w W := ⟨σ, ad, cap, last, ps, l, adR, capR, av, hs, h.1, h.2.1, Int.le_refl _, by omega, h.2.2⟩
theorem Sd.std (h : Sd σ base lb off bb p ad cap room last ps l adR capR av w) : StD σ σ base lb off p ad ad adR adR w w := ⟨fun _ q => q, fun _ q => .inl q, Ev.of (Below.refl _ _) h.bz h.rg.lt⟩
theorem Sd.stv (h : Sd σ base lb off bb p ad cap room last ps l adR capR av w) : StV σ base lb off bb p ad room last adR w w := ⟨σ, ad, cap, last, ps, l, adR, capR, av, h, fun _ q => q, fun _ q => .inl q, Int.le_refl _, by omega, Ev.of (Below.refl _ _) h.bz h.rg.lt⟩
theorem Sm.stv {ad0 : Option Addr} {last0 : Int} {lastR : Int} {lR : List Gr} {adR1 : Option Addr} {capR1 : Nat} {av1 : List (Option Addr × Nat)} (h : Sm σ base lb off bb p ad cap room last ps l adR capR av lastR lR (ob ad0) w W) (hz : w.heap.size ≤ W.heap.size) (hR : Rg V base lb (off + 1) adR1 capR1 last room l av1) (ht : Tr lb (off + 1) (ob adR) (ob adR1) W V) (hl : last0 ≤ last ∧ last ≤ last0 + 1) : StV σ base lb off bb p ad0 room last0 adR w V := by
  obtain ⟨h1, h2⟩ := h.doc hR ht
  refine ⟨_, _, _, _, _, _, _, _, _, h1, fun _ q => .inl q, fun b q => ?_, hl.1, hl.2, h2⟩
  rcases q with q | q
  · exact .inl q
  · rcases ht.own with k | k
    · rw [k] at q
      exact .inl (h.sr b q)
    · have := k b q
      exact .inr (by omega)
end
theorem sAdd_last (room last : Int) (l : List Gr) (f t : Int) (d : List Nat) : last ≤ (sAdd room last l f t d).2.2.1 ∧ (sAdd room last l f t d).2.2.1 ≤ last + 1 := by
  unfold sAdd
  split <;> (dsimp only; omega)
theorem sSend_last (room last : Int) (l : List Gr) (f t : Int) (d : List Nat) : last ≤ (sSend room last l f t d).2.2.1 ∧ (sSend room last l f t d).2.2.1 ≤ last + 1 := by
  unfold sSend
  split
  · dsimp only; omega
  · exact sAdd_last _ _ _ _ _ _
theorem sDb_last (room last : Int) (l : List Gr) (i : Int) : last ≤ (sDb room last l i).2.2.1 ∧ (sDb room last l i).2.2.1 ≤ last + 1 := by
  unfold sDb
  split
  · exact sAdd_last _ _ _ _ _ _
  · dsimp only; omega
/-- Between the two calls of a step. -/
def JM (σ : Nat → Prop) (base lb off bb p : Nat) (ad : Option Addr) (cap : Nat) (room last : Int) (ps : List Nat) (l : List Gr) (adR : Option Addr) (capR : Nat) (av : List (Option Addr × Nat)) (last1 : Int) (l1 : List Gr) (w : World) (k who i j kk : Int) (v : Value) (da db : Bool) (V : World) : Prop := OpB V w.heap.size k who i j kk v ∧ w.heap.size ≤ V.heap.size ∧ match da, db with
  | false, _ => Sd σ base lb off bb p ad cap room last ps l adR capR av V ∧ Ev base lb (off + 1) p (ob ad) (ob ad) (ob adR) (ob adR) w V
  | true, false => ∃ ad1 cap1 ps1, Sm σ base lb off bb p ad1 cap1 room last1 ps1 l1 adR capR av last l (ob ad) w V
  | true, true => StV σ base lb off bb p ad room last adR w V
section
variable {σ : Nat → Prop} {base lb off bb p : Nat} {ad : Option Addr} {cap : Nat} {room last : Int} {ps : List Nat} {l : List Gr} {adR : Option Addr} {capR : Nat} {av : List (Option Addr × Nat)} {last1 : Int} {l1 : List Gr} {w W V : World} {k who i j kk : Int} {v : Value} {da db : Bool}
theorem JM.p0 (h : JM σ base lb off bb p ad cap room last ps l adR capR av last1 l1 w k who i j kk v da db V) (hb : db = false) : V.cell? ⟨lb, off, none⟩ = some (.pointer (some ⟨p, 0, none⟩)) := by
  subst hb
  match da, h.2.2 with
  | false, h => exact h.1.c0
  | true, ⟨_, _, _, h⟩ => exact h.c0
end
section
variable {σ : Nat → Prop} {base lb off bb p : Nat} {ad : Option Addr} {cap : Nat} {room last : Int} {ps : List Nat} {l : List Gr} {adR : Option Addr} {capR : Nat} {av : List (Option Addr × Nat)} {w : World}
set_option maxHeartbeats 4000000 in
set_option maxRecDepth 100000 in
theorem step_0 (h : Sd σ base lb off bb p ad cap room last ps l adR capR av w) (k who iA jA kA : Int) (aD : Option Addr) (nD cD : Nat) (k1 : ¬ k = 1) (k2 : ¬ k = 2) (k3 : ¬ k = 3) (k4 : ¬ k = 4) (k5 : ¬ k = 5) (k6 : ¬ k = 6) : Calls Tryz.prog 7 #[.pointer (some ⟨lb, off, none⟩), .agg #[.int .i64 k, .int .i64 who, .int .i64 iA, .int .i64 jA, .int .i64 kA, .slice aD nD cD]] w fun e w' => e = .returned (.bool true) ∧ StV σ base lb off bb p ad room last adR w w' := by
  obtain ⟨w1, hw1⟩ : ∃ w1, w.alloc (.cells #[.int .i64 k, .int .i64 who, .int .i64 iA, .int .i64 jA, .int .i64 kA, .slice aD nD cD] 57) = w1 := ⟨_, rfl⟩
  have hb1 : Below w.heap.size w w1 := by rw [← hw1]; exact al1' _ _
  have hO : OpB w1 w.heap.size k who iA jA kA (.slice aD nD cD) := by rw [← hw1]; exact new_at rfl
  have hS := h.carry hb1
  have o0 := hO.c0
  have hlo := looks_any hS
  have HS : Hid (StD σ σ base lb off p ad ad adR adR w w1) := h.std.carry hb1 h.bz h.rg.lt
  have HSD : Hid (Sd σ base lb off bb p ad cap room last ps l adR capR av w1) := hS
  clear h hS hO
  go_enter Tryz.func7, Tryz.ntmps7
  go_wp2_with (go_at_call 8; (with_reducible refine hlo.mono ?_); rintro e u2 ⟨rfl, hn2, hk2⟩)
  go_ret
  exact ⟨rfl, (HS.out.kw HSD.out hk2).stv (HSD.out.kw hk2 hn2)⟩
set_option maxHeartbeats 4000000 in
set_option maxRecDepth 100000 in
theorem step_4 (h : Sd σ base lb off bb p ad cap room last ps l adR capR av w) (h0 : 0 ≤ last) (h1 : last < 4611686018427387904) (who iA jA kA : Int) (aD : Option Addr) (nD cD : Nat) : Calls Tryz.prog 7 #[.pointer (some ⟨lb, off, none⟩), .agg #[.int .i64 4, .int .i64 who, .int .i64 iA, .int .i64 jA, .int .i64 kA, .slice aD nD cD]] w fun e w' => e = .returned (.bool true) ∧ StV σ base lb off bb p ad room last adR w w' := by
  have hll := sDb_last room last l iA
  obtain ⟨r, hr⟩ : ∃ r, sDb room last l iA = r := ⟨_, rfl⟩
  rw [hr] at hll
  obtain ⟨r1, r2, r3, r4⟩ := r
  dsimp only at hll
  have hmx : Tryz.prog.follows .mixedOrders = true := by kernel_rfl
  obtain ⟨w1, hw1⟩ : ∃ w1, w.alloc (.cells #[.int .i64 4, .int .i64 who, .int .i64 iA, .int .i64 jA, .int .i64 kA, .slice aD nD cD] 57) = w1 := ⟨_, rfl⟩
  have hb1 : Below w.heap.size w w1 := by rw [← hw1]; exact al1' _ _
  have hO : OpB w1 w.heap.size 4 who iA jA kA (.slice aD nD cD) := by rw [← hw1]; exact new_at rfl
  have hS := h.carry hb1
  have o0 := hO.c0
  have hE1 : Ev base lb (off + 1) p (ob ad) (ob ad) (ob adR) (ob adR) w w1 := Ev.of hb1 h.bz h.rg.lt
  have hj0 : JM σ base lb off bb p ad cap room last ps l adR capR av r3 r4 w 4 who iA jA kA (.slice aD nD cD) false false w1 := ⟨hO, hb1.size, hS, hE1⟩
  have HP : Hid (∀ V, Bg σ V base p ad cap room last ps l → Calls Tryz.prog 21 #[.pointer (some ⟨p, 0, none⟩), .int .i64 iA] V fun e w' => e = .returned (.tuple #[.int .i64 r1, .int .i64 r2]) ∧ ∃ ad' cap' ps', Bg σ w' base p ad' cap' room r3 ps' r4 ∧ Tn p (ob ad) (ob ad') V w') := fun V hV => by
    have := double_any hV iA h0 h1
    rw [hr] at this
    exact this
  have HR : Hid (∀ V, base ≤ V.heap.size → Rg V base lb (off + 1) adR capR last room l av → Calls Tryz.prog 22 #[.pointer (some ⟨lb, off + 1, none⟩), .int .i64 iA] V fun e w' => e = .returned (.tuple #[.int .i64 r1, .int .i64 r2]) ∧ ∃ ad' cap' av', Rg w' base lb (off + 1) ad' cap' r3 room r4 av' ∧ Tr lb (off + 1) (ob adR) (ob ad') V w') := fun V hz hV => by
    have := rDouble_any hV iA h0 h1 hz
    rw [hr] at this
    exact this
  clear h hS hE1 hO hr
  go_enter Tryz.func7, Tryz.ntmps7
  go_wp2
  rename_i Q0 K0 hK
  refine wp_region_any hmx ?_
  refine wpAny_tabG (G := (Unit)) (fun g i__ => ([(.pointer (some ⟨lb, off, none⟩)), (.pointer (some ⟨lb, off, none⟩)), (.pointer (some ⟨lb, off, none⟩)), (.pointer (some ⟨p, 0, none⟩)), (.pointer (some ⟨w.heap.size, 2, none⟩)), (.int .i64 iA), (.tuple #[.int .i64 r1, .int .i64 r2]), (.tuple #[.int .i64 r1, .int .i64 r2]), (.int .i64 r1), (.int .i64 r2), (.int .i64 r1), (.int .i64 r2)] : List Value).getD i__ undef) (fun _ d V => JM σ base lb off bb p ad cap room last ps l adR capR av r3 r4 w 4 who iA jA kA (.slice aD nD cD) (d 6) false V) (by kernel_rfl) (()) (show JM σ base lb off bb p ad cap room last ps l adR capR av r3 r4 w 4 who iA jA kA (.slice aD nD cD) false false _ from ⟨hj0.1.carry (Below.refl _ _).drew, hj0.2.1, hj0.2.2.1.carry (Below.refl _ _).drew, hj0.2.2.2.trans (Ev.of (Below.refl _ _).drew hj0.2.2.1.bz hj0.2.2.1.rg.lt)⟩) ?step1 ?fin1
  case step1 =>
    intro i o ho
    have hi : i < 12 := getElem?_lt ho
    match i, hi, ho with
    | 0, _, ho =>
      cases ho
      refine stepG_of (fun g d hdep => ?_)
      exact step_move rfl trivial _ rfl (by kernel_rfl)
    | 1, _, ho =>
      cases ho
      refine stepG_of (fun g d hdep => ?_)
      exact step_nilCheck rfl trivial _ _ _ rfl rfl rfl
    | 2, _, ho =>
      cases ho
      refine stepG_of (fun g d hdep => ?_)
      exact step_fieldAddr rfl trivial _ _ _ _ rfl rfl (fun v hw => field_bo0 v _ _)
    | 3, _, ho =>
      cases ho
      refine stepG_of (fun g d hdep => ?_)
      exact step_load rfl trivial _ _ _ rfl rfl (fun v hw => load_bop (hw.p0 rfl))
    | 4, _, ho =>
      cases ho
      refine stepG_of (fun g d hdep => ?_)
      exact step_fieldAddr rfl trivial _ _ _ _ rfl rfl (fun v hw => field_op v _ 2 (by decide))
    | 5, _, ho =>
      cases ho
      refine stepG_of (fun g d hdep => ?_)
      exact step_load rfl trivial _ _ _ rfl rfl (fun v hw => load_i hw.1.c2)
    | 6, _, ho =>
      cases ho
      exact stepG_ofCB (fun g d hun hdep hcl => step_call rfl trivial 21 _ _ [(.pointer (some ⟨p, 0, none⟩)), (.int .i64 iA)] rfl (by kernel_rfl) (enters_of Tryz.func21 (by kernel_rfl) rfl) (fun V hw => by have hw' := hw; rw [hun] at hw'; obtain ⟨k1, k2, k3, k4⟩ := hw'; exact (HP.out V k3.bg).mono (by rintro e w' ⟨rfl, ad1, cap1, ps1, hB, hT⟩; refine ⟨rfl, ?_⟩; show JM σ base lb off bb p ad cap room last ps l adR capR av r3 r4 w 4 who iA jA kA (.slice aD nD cD) true false w'; exact ⟨k1.tn k3.bg hT, Nat.le_trans k2 hT.size, ad1, cap1, ps1, k3.mid k4 hB hT⟩)))
    | 7, _, ho =>
      cases ho
      refine stepG_of (fun g d hdep => ?_)
      exact step_move rfl trivial _ rfl (by kernel_rfl)
    | 8, _, ho =>
      cases ho
      refine stepG_of (fun g d hdep => ?_)
      exact step_extract rfl trivial _ _ _ rfl rfl (fun v hw => ext2_0 _ _ v)
    | 9, _, ho =>
      cases ho
      refine stepG_of (fun g d hdep => ?_)
      exact step_extract rfl trivial _ _ _ rfl rfl (fun v hw => ext2_1 _ _ v)
    | 10, _, ho =>
      cases ho
      refine stepG_of (fun g d hdep => ?_)
      exact step_assign rfl trivial _ rfl (by kernel_rfl) (fun _ h => h)
    | 11, _, ho =>
      cases ho
      refine stepG_of (fun g d hdep => ?_)
      exact step_assign rfl trivial _ rfl (by kernel_rfl) (fun _ h => h)
  intro g d W hall hW
  first | refine hK _ _ ?_ | refine (‹∀ (a : Act) (w : World), Code.wp Tryz.prog _ _ a w → _›) _ _ ?_ | skip
  simp only [finL, List.getD_cons_zero, List.getD_cons_succ, Nat.zero_add, Nat.reduceAdd, List.setIfInBounds_toArray, List.set_cons_zero, List.set_cons_succ]
  rw [hall 6 (by decide)] at hW
  have hj1 : JM σ base lb off bb p ad cap room last ps l adR capR av r3 r4 w 4 who iA jA kA (.slice aD nD cD) true false W := hW
  clear hW hall hK hj0
  go_wp2
  rename_i Q1 K1 hK
  refine wp_region_any hmx ?_
  refine wpAny_tabG (G := (Unit)) (fun g i__ => ([(.pointer (some ⟨lb, off, none⟩)), (.pointer (some ⟨lb, off, none⟩)), (.pointer (some ⟨lb, off + 1, none⟩)), (.pointer (some ⟨w.heap.size, 2, none⟩)), (.int .i64 iA), (.tuple #[.int .i64 r1, .int .i64 r2]), (.tuple #[.int .i64 r1, .int .i64 r2]), (.int .i64 r1), (.int .i64 r2), (.int .i64 r1), (.int .i64 r2)] : List Value).getD i__ undef) (fun _ d V => JM σ base lb off bb p ad cap room last ps l adR capR av r3 r4 w 4 who iA jA kA (.slice aD nD cD) true (d 5) V) (by kernel_rfl) (()) (show JM σ base lb off bb p ad cap room last ps l adR capR av r3 r4 w 4 who iA jA kA (.slice aD nD cD) true false _ from ⟨hj1.1.carry (Below.refl _ _).drew, hj1.2.1, by obtain ⟨_, _, a1, c1, p1, hm⟩ := hj1; exact ⟨a1, c1, p1, hm.carry (Below.refl _ _).drew⟩⟩) ?step2 ?fin2
  case step2 =>
    intro i o ho
    have hi : i < 11 := getElem?_lt ho
    match i, hi, ho with
    | 0, _, ho =>
      cases ho
      refine stepG_of (fun g d hdep => ?_)
      exact step_move rfl trivial _ rfl (by kernel_rfl)
    | 1, _, ho =>
      cases ho
      refine stepG_of (fun g d hdep => ?_)
      exact step_nilCheck rfl trivial _ _ _ rfl rfl rfl
    | 2, _, ho =>
      cases ho
      refine stepG_of (fun g d hdep => ?_)
      exact step_fieldAddr rfl trivial _ _ _ _ rfl rfl (fun v hw => field_bo1 v _ _)
    | 3, _, ho =>
      cases ho
      refine stepG_of (fun g d hdep => ?_)
      exact step_fieldAddr rfl trivial _ _ _ _ rfl rfl (fun v hw => field_op v _ 2 (by decide))
    | 4, _, ho =>
      cases ho
      refine stepG_of (fun g d hdep => ?_)
      exact step_load rfl trivial _ _ _ rfl rfl (fun v hw => load_i hw.1.c2)
    | 5, _, ho =>
      cases ho
      exact stepG_ofCB (fun g d hun hdep hcl => step_call rfl trivial 22 _ _ [(.pointer (some ⟨lb, off + 1, none⟩)), (.int .i64 iA)] rfl (by kernel_rfl) (enters_of Tryz.func22 (by kernel_rfl) rfl) (fun V hw => by have hw' := hw; rw [hun] at hw'; obtain ⟨k1, k2, a1, c1, p1, hm⟩ := hw'; exact (HR.out V hm.bz hm.rg).mono (by rintro e w' ⟨rfl, ad1, cap1, av1, hR, hT⟩; refine ⟨rfl, ?_⟩; show JM σ base lb off bb p ad cap room last ps l adR capR av r3 r4 w 4 who iA jA kA (.slice aD nD cD) true true w'; exact ⟨k1.tr hm.rg hT, Nat.le_trans k2 hT.size, hm.stv k2 hR hT hll⟩)))
    | 6, _, ho =>
      cases ho
      refine stepG_of (fun g d hdep => ?_)
      exact step_move rfl trivial _ rfl (by kernel_rfl)
    | 7, _, ho =>
      cases ho
      refine stepG_of (fun g d hdep => ?_)
      exact step_extract rfl trivial _ _ _ rfl rfl (fun v hw => ext2_0 _ _ v)
    | 8, _, ho =>
      cases ho
      refine stepG_of (fun g d hdep => ?_)
      exact step_extract rfl trivial _ _ _ rfl rfl (fun v hw => ext2_1 _ _ v)
    | 9, _, ho =>
      cases ho
      refine stepG_of (fun g d hdep => ?_)
      exact step_assign rfl trivial _ rfl (by kernel_rfl) (fun _ h => h)
    | 10, _, ho =>
      cases ho
      refine stepG_of (fun g d hdep => ?_)
      exact step_assign rfl trivial _ rfl (by kernel_rfl) (fun _ h => h)
  intro g d W hall hW
  first | refine hK _ _ ?_ | refine (‹∀ (a : Act) (w : World), Code.wp Tryz.prog _ _ a w → _›) _ _ ?_ | skip
  simp only [finL, List.getD_cons_zero, List.getD_cons_succ, Nat.zero_add, Nat.reduceAdd, List.setIfInBounds_toArray, List.set_cons_zero, List.set_cons_succ]
  rw [hall 5 (by decide)] at hW
  have HST : Hid (StV σ base lb off bb p ad room last adR w W) := hW.2.2
  clear hW hall hK hj1
  go_wp2
  go_ret
  exact ⟨rfl, HST.out⟩
end
end Go.Proofs.YtjfbnikbmadgkaaGreat
