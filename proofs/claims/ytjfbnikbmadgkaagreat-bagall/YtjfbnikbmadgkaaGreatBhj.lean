/- Steps of the play of bags: Send. -/
import Derived.Test.YtjfbnikbmadgkaaGreatBhi
import Derived.Test.YtjfbnikbmadgkaaGreatDls
namespace Go.Proofs.YtjfbnikbmadgkaaGreat
open Go.RowKit Go.Shelf Go.Lib

/-- Bytes that are lent. -/
def LeB (W : World) (g : Nat) (x : List Nat) : Prop := W.heap[g]? = some (.cells (cB x).toArray 5 (0, 0))
section
variable {W V : World} {g : Nat} {x : List Nat}
theorem LeB.at (h : LeB W g x) : BAt W g 0 x := fun k y hk => by
  rw [Nat.zero_add, cell_at h, List.getElem?_toArray]
  exact cB_get hk
theorem LeB.rd (h : LeB W g (mk9 x)) : RdB W (some ⟨g, 0, none⟩) x := fun _ => ⟨g, 0, rfl, lt_at h, fun k y hk => h.at k y (mk9_old hk)⟩
theorem LeB.carry (h : LeB W g x) (hb : Below W.heap.size W V) : LeB V g x := (hb.block _ (lt_at h)).trans h
theorem LeB.tn {σ : Nat → Prop} {base p : Nat} {ad : Option Addr} {cap : Nat} {room last : Int} {ps : List Nat} {l : List Gr} {g' : Option Nat} (h : LeB W g x) (hB : Bg σ W base p ad cap room last ps l) (ht : Tn p (ob ad) g' W V) : LeB V g x := hB.stays ht h (by decide) (by decide)
theorem LeB.tr {base lb o : Nat} {ad : Option Addr} {cap : Nat} {last most : Int} {l : List Gr} {av : List (Option Addr × Nat)} {r' : Option Nat} (h : LeB W g x) (hR : Rg W base lb o ad cap last most l av) (ht : Tr lb o (ob ad) r' W V) : LeB V g x := by
  refine (ht.block g (lt_at h) (fun e => ?_) (fun e => ?_)).trans h
  · obtain ⟨c, hc⟩ := hR.blk
    rw [← e] at hc
    have := hc.symm.trans h
    simp only [Option.some.injEq, Obj.cells.injEq] at this
    exact absurd this.2.1 (by decide)
  · obtain ⟨_, c, hc⟩ := hR.blkR e.symm
    have := hc.symm.trans h
    simp only [Option.some.injEq, Obj.cells.injEq] at this
    exact absurd this.2.1 (by decide)
end
section
variable {σ τ : Nat → Prop} {base lb off bb p : Nat} {ad : Option Addr} {cap : Nat} {room last : Int} {ps : List Nat} {l : List Gr} {adR : Option Addr} {capR : Nat} {av : List (Option Addr × Nat)} {w W V : World}
/-- The document's that lies as it lay: of bytes only those that are some. -/
theorem Rg.moveN {o : Nat} {most : Int} (h : Rg w base lb o ad cap last most l av) (hc : ∀ j, o ≤ j → j < o + 3 → V.cell? ⟨lb, j, none⟩ = w.cell? ⟨lb, j, none⟩) (hk : ∃ cur, V.heap[lb]? = some (.cells cur 48 (0, 0))) (hr : ∀ b, ob ad = some b → V.heap[b]? = w.heap[b]?) (hd : ∀ (k : Nat) (x : Gr) (a : Option Addr × Nat) (b : Addr) (cur : Array Value), l[k]? = some x → av[k]? = some a → x.2.2.2 ≠ [] → a.1 = some b → w.heap[b.block]? = some (.cells cur 5 (0, 0)) → V.heap[b.block]? = some (.cells cur 5 (0, 0))) : Rg V base lb o ad cap last most l av :=
  ⟨(hc _ (by omega) (by omega)).trans h.cL, (hc _ (by omega) (by omega)).trans h.cA, (hc _ (by omega) (by omega)).trans h.cM, hk, row_at h.row (fun g cur e hq => (hr g (by rw [ob_eq] at e; exact e)).trans hq), h.len, fun k x a h1 h2 => ⟨fun hx => by
    obtain ⟨b, off, e1, ⟨cur, e2⟩, e3⟩ := (h.dat k x a h1 h2).1 hx
    have e4 := hd k x a ⟨b, off, none⟩ cur h1 h2 hx e1 e2
    exact ⟨b, off, e1, ⟨cur, e4⟩, e3.carry (e4.trans e2.symm)⟩, (h.dat k x a h1 h2).2⟩, h.few, h.most1, h.le⟩
/-- Among new blocks there are some in which nothing may lie. -/
theorem Sd.more (h : Sd σ base lb off bb p ad cap room last ps l adR capR av W) (hb : Below W.heap.size W V) (hτ : ∀ b, τ b → σ b ∨ W.heap.size ≤ b) (hs : ∀ b, τ b → b < V.heap.size) (ht : ∀ b, σ b → τ b) : Sd τ base lb off bb p ad cap room last ps l adR capR av V :=
  ⟨(hb.cell (p := ⟨lb, _, none⟩) h.rg.lt).trans h.c0, (hb.cell (p := ⟨lb, _, none⟩) h.rg.lt).trans h.c4, h.bg.moveS (hb.block _ h.bg.plt) (fun b e => hb.block b (h.bg.blt e)) (fun b _ _ hc _ _ => (hb.block b (lt_at hc)).trans hc) hτ hs, h.rg.carry hb, (h.nk.more hτ).carry hb, h.lb0, fun b e => ht b (h.sr b e)⟩
/-- Behind Send: nothing lies in the bytes that were lent. -/
def StL (σ : Nat → Prop) (base lb off bb p : Nat) (ad : Option Addr) (room last : Int) (adR : Option Addr) (gL : Nat) (w w' : World) : Prop := ∃ τ ad' cap' last' ps' l' adR' capR' av', Sd τ base lb off bb p ad' cap' room last' ps' l' adR' capR' av' w' ∧ τ gL ∧ (∀ (k : Nat) (x : Gr) (a : Option Addr × Nat) (b : Addr), l'[k]? = some x → av'[k]? = some a → x.2.2.2 ≠ [] → a.1 = some b → b.block ≠ gL) ∧ (∀ b, σ b → τ b) ∧ (∀ b, τ b → σ b ∨ w.heap.size ≤ b) ∧ last ≤ last' ∧ last' ≤ last + 1 ∧ Ev base lb (off + 1) p (ob ad) (ob ad') (ob adR) (ob adR') w w'
theorem StL.stv {gL : Nat} (h : StL σ base lb off bb p ad room last adR gL w W) : StV σ base lb off bb p ad room last adR w W := by
  obtain ⟨τ, ad', cap', last', ps', l', adR', capR', av', h1, _, _, h4⟩ := h
  exact ⟨τ, ad', cap', last', ps', l', adR', capR', av', h1, h4⟩
theorem StL.carry {gL : Nat} (h : StL σ base lb off bb p ad room last adR gL w W) (hb : Below W.heap.size W V) : StL σ base lb off bb p ad room last adR gL w V := by
  obtain ⟨τ, ad', cap', last', ps', l', adR', capR', av', h1, h2, h3, h4, h5, h6, h7, h8⟩ := h
  exact ⟨τ, ad', cap', last', ps', l', adR', capR', av', h1.carry hb, h2, h3, h4, h5, h6, h7, h8.trans (Ev.of hb h1.bz h1.rg.lt)⟩
/-- What was lent is written over. -/
theorem StL.put {gL m : Nat} {cur : Array Value} {v : Value} (h : StL σ base lb off bb p ad room last adR gL w W) (hg : W.heap[gL]? = some (.cells cur 5 (0, 0))) (hw : w.heap.size ≤ gL) (hbz : base ≤ w.heap.size) : StL σ base lb off bb p ad room last adR gL w (W.setCell ⟨gL, m, none⟩ v) := by
  obtain ⟨τ, ad', cap', last', ps', l', adR', capR', av', h1, h2, h3, h4, h5, h6, h7, h8⟩ := h
  have hq : ∀ q, q ≠ gL → (W.setCell ⟨gL, m, none⟩ v).heap[q]? = W.heap[q]? := fun q hq => Below.heap_setCell _ _ _ _ hq
  have nt : ∀ (q : Nat) (c : Array Value) (t : TypeId) (z : Nat × Nat), W.heap[q]? = some (.cells c t z) → t ≠ 5 → (W.setCell ⟨gL, m, none⟩ v).heap[q]? = some (.cells c t z) := fun q c t z hc ht => (hq q (fun e => by
    rw [e, hg] at hc
    simp only [Option.some.injEq, Obj.cells.injEq] at hc
    exact ht hc.2.1.symm)).trans hc
  obtain ⟨cl, hl⟩ := h1.rg.blk
  have hl2 := nt _ _ _ _ hl (by decide)
  have hce : ∀ j, (W.setCell ⟨gL, m, none⟩ v).cell? ⟨lb, j, none⟩ = W.cell? ⟨lb, j, none⟩ := fun j => World.cell?_of_block (a := ⟨lb, j, none⟩) (hl2.trans hl.symm)
  refine ⟨τ, ad', cap', last', ps', l', adR', capR', av', ⟨(hce _).trans h1.c0, (hce _).trans h1.c4, h1.bg.move (by simp) ((nt _ _ _ _ h1.bg.obj (by decide)).trans h1.bg.obj.symm) (fun b e => ?_) (fun b c t hc _ hb => (hq b (fun e => hb (by rw [e]; exact h2))).trans hc), h1.rg.moveN (fun j _ _ => hce j) ⟨cl, hl2⟩ (fun b e => ?_) (fun k x a b c e1 e2 e3 e4 hc => (hq _ (h3 k x a b e1 e2 e3 e4)).trans hc), h1.nk.move (fun b c t hc ht => ?_), h1.lb0, h1.sr⟩, h2, h3, h4, h5, h6, h7, ?_⟩
  · obtain ⟨_, c, hc⟩ := h1.bg.blk e
    exact (nt _ _ _ _ hc (by decide)).trans hc.symm
  · obtain ⟨_, c, hc⟩ := h1.rg.blkR e
    exact (nt _ _ _ _ hc (by decide)).trans hc.symm
  · rcases ht with rfl | rfl | rfl | ⟨rfl, hb⟩ | ⟨rfl, _⟩
    · exact nt _ _ _ _ hc (by decide)
    · exact nt _ _ _ _ hc (by decide)
    · exact nt _ _ _ _ hc (by decide)
    · exact (hq b (fun e => hb (by rw [e]; exact h2))).trans hc
    · exact nt _ _ _ _ hc (by decide)
  · refine ⟨h8.os, h8.tape, h8.output, by simpa using h8.size, fun q c t z hc a1 a2 a3 a4 a5 a6 a7 => (hq q (fun e => ?_)).trans (h8.block q c t z hc a1 a2 a3 a4 a5 a6 a7), fun k hk => (hq k (by omega)).trans (h8.low k hk), fun j hj => (hce j).trans (h8.cell j hj), fun _ => ⟨cl, hl2⟩, h8.own, h8.ownr⟩
    have := lt_at hc
    omega
end
section
variable {σ : Nat → Prop} {base lb off bb p : Nat} {ad : Option Addr} {cap : Nat} {room last : Int} {ps : List Nat} {l : List Gr} {adR : Option Addr} {capR : Nat} {av : List (Option Addr × Nat)} {w : World}
set_option maxHeartbeats 8000000 in
set_option maxRecDepth 100000 in
theorem step_1 (h : Sd σ base lb off bb p ad cap room last ps l adR capR av w) (h0 : 0 ≤ last) (h1 : last < 4611686018427387904) (who iA jA kA : Int) (aD : Option Addr) (nD cD : Nat) (x : List Nat) (hn : x.length = nD) (hx : ∀ V, (∀ k, k < base → V.heap[k]? = w.heap[k]?) → w.heap.size ≤ V.heap.size → RdB V aD x) (hxl : x ≠ [] → ∀ a, aD = some a → a.block ≠ lb ∧ a.block < base) (hcD : aD = none → cD = 0) (hby : Byt x) (hnD : nD ≤ 2000) : Calls Tryz.prog 7 #[.pointer (some ⟨lb, off, none⟩), .agg #[.int .i64 1, .int .i64 who, .int .i64 iA, .int .i64 jA, .int .i64 kA, .slice aD nD cD]] w fun e w' => e = .returned (.bool true) ∧ StV σ base lb off bb p ad room last adR w w' := by
  have hll := sSend_last room last l iA jA x
  obtain ⟨r, hr⟩ : ∃ r, sSend room last l iA jA x = r := ⟨_, rfl⟩
  rw [hr] at hll
  obtain ⟨r1, r2, r3, r4⟩ := r
  dsimp only at hll
  have hmx : Tryz.prog.follows .mixedOrders = true := by kernel_rfl
  obtain ⟨w1, hw1⟩ : ∃ w1, w.alloc (.cells #[.int .i64 1, .int .i64 who, .int .i64 iA, .int .i64 jA, .int .i64 kA, .slice aD nD cD] 57) = w1 := ⟨_, rfl⟩
  have hb1 : Below w.heap.size w w1 := by rw [← hw1]; exact al1' _ _
  have hO : OpB w1 w.heap.size 1 who iA jA kA (.slice aD nD cD) := by rw [← hw1]; exact new_at rfl
  have hbz := h.bz
  have hlt := h.rg.lt
  have hE1 : Ev base lb (off + 1) p (ob ad) (ob ad) (ob adR) (ob adR) w w1 := Ev.of hb1 hbz hlt
  have hS1 := h.carry hb1
  have o0 := hO.c0
  have o5 := hO.c5
  have hle := lentB_any aD cD x w1 (hx w1 (fun k hk => hb1.block k (by omega)) hb1.size) (by omega)
  rw [hn] at hle
  obtain ⟨gL, hg⟩ : ∃ gL, w1.heap.size = gL := ⟨_, rfl⟩
  rw [hg] at hle
  have hgw : w.heap.size ≤ gL := by have := hb1.size; omega
  have HG : Hid (w1.heap.size = gL) := hg
  have HNX : Hid (x.length = nD) := hn
  have HP : Hid (∀ V, LeB V gL (mk9 x) → Bg (fun b => σ b ∨ b = gL) V base p ad cap room last ps l → Calls Tryz.prog 10 #[.pointer (some ⟨p, 0, none⟩), .int .i64 iA, .int .i64 jA, .slice (some ⟨gL, 0, none⟩) nD (nD + 9)] V fun e w' => e = .returned (.tuple #[.int .i64 r1, .int .i64 r2]) ∧ ∃ ad' cap' ps', Bg (fun b => σ b ∨ b = gL) w' base p ad' cap' room r3 ps' r4 ∧ Tn p (ob ad) (ob ad') V w') := fun V hL hV => by
    have := send_any hV iA jA (some ⟨gL, 0, none⟩) (nD + 9) x hL.rd (fun _ a e => by cases e; exact (bg_sep hV hL (by decide) (by decide)).1) hby h0 h1
    rw [hr, hn] at this
    exact this
  have HR : Hid (∀ V, base ≤ V.heap.size → RdB V aD x → Rg V base lb (off + 1) adR capR last room l av → Calls Tryz.prog 14 #[.pointer (some ⟨lb, off + 1, none⟩), .int .i64 iA, .int .i64 jA, .slice aD nD cD] V fun e w' => e = .returned (.tuple #[.int .i64 r1, .int .i64 r2]) ∧ ∃ ad' cap' av', Rg w' base lb (off + 1) ad' cap' r3 room r4 av' ∧ Tr lb (off + 1) (ob adR) (ob ad') V w' ∧ ∀ (k : Nat) (a : Option Addr × Nat), av'[k]? = some a → (av[k]? = some a ∧ r4[k]? = l[k]?) ∨ ∀ b : Addr, a.1 = some b → V.heap.size ≤ b.block) := fun V hz hd hV => by
    have := rSend_any hV iA jA aD cD x hd hcD (fun hne a e => (hxl hne a e).1) hby h0 h1 hz
    rw [hr, hn] at this
    exact this
  have HDAT : Hid (∀ (k : Nat) (y : Gr) (a : Option Addr × Nat) (b : Addr), l[k]? = some y → av[k]? = some a → y.2.2.2 ≠ [] → a.1 = some b → b.block ≠ gL) := fun k y a b e1 e2 e3 e4 e5 => by
    obtain ⟨b', off', q1, ⟨cur, q2⟩, _⟩ := (h.rg.dat k y a e1 e2).1 e3
    rw [q1] at e4
    cases e4
    have q3 := lt_at q2
    dsimp only at e5
    omega
  have HXV : Hid (∀ V, Ev base lb (off + 1) p (ob ad) (ob ad) (ob adR) (ob adR) w V → RdB V aD x) := fun V hV => hx V hV.low hV.size
  have HXW : Hid (∀ V, (∀ k, k < base → V.heap[k]? = w.heap[k]?) → w.heap.size ≤ V.heap.size → RdB V aD x) := hx
  clear h hr hn hg hx hxl
  go_enter Tryz.func7, Tryz.ntmps7
  go_wp2_with (go_at_call 13; (with_reducible refine hle.mono ?_); rintro e u1 ⟨rfl, hl1, hbu⟩)
  have hbu' : Below w1.heap.size w1 u1 := by rw [HG.out]; exact hbu
  have hL1 : LeB u1 gL (mk9 x) := hl1
  have hgu : gL < u1.heap.size := lt_at hl1
  have hS2 : Sd (fun b => σ b ∨ b = gL) base lb off bb p ad cap room last ps l adR capR av u1 := hS1.more hbu' (fun b q => by
    rcases q with q | q
    · exact .inl q
    · exact .inr (by have := HG.out; omega)) (fun b q => by
    rcases q with q | q
    · exact Nat.lt_of_lt_of_le (hS1.bg.sg b q) hbu'.size
    · omega) (fun b q => .inl q)
  have hE2 := hE1.trans (Ev.of (p := p) (o := off + 1) (g := ob ad) (r := ob adR) hbu' hS1.bz hS1.rg.lt)
  have hj0 : JM (fun b => σ b ∨ b = gL) base lb off bb p ad cap room last ps l adR capR av r3 r4 w 1 who iA jA kA (.slice aD nD cD) false false u1 := ⟨hO.carry hbu', Nat.le_trans hb1.size hbu'.size, hS2, hE2⟩
  clear hS1 hO o0 o5 hE1 hle hbu hbu' hl1 hw1 hb1 hS2 hE2
  rename_i Q0 K0 hK
  refine wp_region_any hmx ?_
  refine wpAny_tabG (G := (Unit)) (fun g i__ => ([(.pointer (some ⟨lb, off, none⟩)), (.pointer (some ⟨lb, off, none⟩)), (.pointer (some ⟨lb, off, none⟩)), (.pointer (some ⟨p, 0, none⟩)), (.pointer (some ⟨w.heap.size, 2, none⟩)), (.int .i64 iA), (.pointer (some ⟨w.heap.size, 3, none⟩)), (.int .i64 jA), (.slice (some ⟨gL, 0, none⟩) nD (nD + 9)), (.tuple #[.int .i64 r1, .int .i64 r2]), (.tuple #[.int .i64 r1, .int .i64 r2]), (.int .i64 r1), (.int .i64 r2), (.int .i64 r1), (.int .i64 r2)] : List Value).getD i__ undef) (fun _ d V => JM (fun b => σ b ∨ b = gL) base lb off bb p ad cap room last ps l adR capR av r3 r4 w 1 who iA jA kA (.slice aD nD cD) (d 9) false V ∧ LeB V gL (mk9 x)) (by kernel_rfl) (()) (show JM (fun b => σ b ∨ b = gL) base lb off bb p ad cap room last ps l adR capR av r3 r4 w 1 who iA jA kA (.slice aD nD cD) false false _ ∧ LeB _ gL (mk9 x) from ⟨⟨hj0.1.carry (Below.refl _ _).drew, hj0.2.1, hj0.2.2.1.carry (Below.refl _ _).drew, hj0.2.2.2.trans (Ev.of (Below.refl _ _).drew hj0.2.2.1.bz hj0.2.2.1.rg.lt)⟩, hL1.carry (Below.refl _ _).drew⟩) ?step5 ?fin5
  case step5 =>
    intro i o ho
    have hi : i < 15 := getElem?_lt ho
    match i, hi, ho with
    | 0, _, ho =>
      cases ho
      refine stepG_of (fun g d hdep => ?_)
      exact step_move rfl trivial _ rfl (by kernel_rfl)
    | 1, _, ho =>
      cases ho
      refine stepG_of (fun g d hdep => ?_)
      exact step_nilCheck rfl trivial _ _ _ rfl rfl rfl
    | 2, _, ho =>
      cases ho
      refine stepG_of (fun g d hdep => ?_)
      exact step_fieldAddr rfl trivial _ _ _ _ rfl rfl (fun v hw => field_bo0 v _ _)
    | 3, _, ho =>
      cases ho
      refine stepG_of (fun g d hdep => ?_)
      exact step_load rfl trivial _ _ _ rfl rfl (fun v hw => load_bop (hw.1.p0 rfl))
    | 4, _, ho =>
      cases ho
      refine stepG_of (fun g d hdep => ?_)
      exact step_fieldAddr rfl trivial _ _ _ _ rfl rfl (fun v hw => field_op v _ 2 (by decide))
    | 5, _, ho =>
      cases ho
      refine stepG_of (fun g d hdep => ?_)
      exact step_load rfl trivial _ _ _ rfl rfl (fun v hw => load_i hw.1.1.c2)
    | 6, _, ho =>
      cases ho
      refine stepG_of (fun g d hdep => ?_)
      exact step_fieldAddr rfl trivial _ _ _ _ rfl rfl (fun v hw => field_op v _ 3 (by decide))
    | 7, _, ho =>
      cases ho
      refine stepG_of (fun g d hdep => ?_)
      exact step_load rfl trivial _ _ _ rfl rfl (fun v hw => load_i hw.1.1.c3)
    | 8, _, ho =>
      cases ho
      refine stepG_of (fun g d hdep => ?_)
      exact step_move rfl trivial _ rfl (by kernel_rfl)
    | 9, _, ho =>
      cases ho
      exact stepG_ofCB (fun g d hun hdep hcl => step_call rfl trivial 10 _ _ [(.pointer (some ⟨p, 0, none⟩)), (.int .i64 iA), (.int .i64 jA), (.slice (some ⟨gL, 0, none⟩) nD (nD + 9))] rfl (by kernel_rfl) (enters_of Tryz.func10 (by kernel_rfl) rfl) (fun V hw => by have hw' := hw; rw [hun] at hw'; obtain ⟨⟨k1, k2, k3, k4⟩, kL⟩ := hw'; exact (HP.out V kL k3.bg).mono (by rintro e w' ⟨rfl, ad1, cap1, ps1, hB, hT⟩; refine ⟨rfl, ?_⟩; show JM (fun b => σ b ∨ b = gL) base lb off bb p ad cap room last ps l adR capR av r3 r4 w 1 who iA jA kA (.slice aD nD cD) true false w' ∧ LeB w' gL (mk9 x); exact ⟨⟨k1.tn k3.bg hT, Nat.le_trans k2 hT.size, ad1, cap1, ps1, k3.mid k4 hB hT⟩, kL.tn k3.bg hT⟩)))
    | 10, _, ho =>
      cases ho
      refine stepG_of (fun g d hdep => ?_)
      exact step_move rfl trivial _ rfl (by kernel_rfl)
    | 11, _, ho =>
      cases ho
      refine stepG_of (fun g d hdep => ?_)
      exact step_extract rfl trivial _ _ _ rfl rfl (fun v hw => ext2_0 _ _ v)
    | 12, _, ho =>
      cases ho
      refine stepG_of (fun g d hdep => ?_)
      exact step_extract rfl trivial _ _ _ rfl rfl (fun v hw => ext2_1 _ _ v)
    | 13, _, ho =>
      cases ho
      refine stepG_of (fun g d hdep => ?_)
      exact step_assign rfl trivial _ rfl (by kernel_rfl) (fun _ h => h)
    | 14, _, ho =>
      cases ho
      refine stepG_of (fun g d hdep => ?_)
      exact step_assign rfl trivial _ rfl (by kernel_rfl) (fun _ h => h)
  intro g d W hall hW
  first | refine hK _ _ ?_ | refine (‹∀ (a : Act) (w : World), Code.wp Tryz.prog _ _ a w → _›) _ _ ?_ | skip
  simp only [finL, List.getD_cons_zero, List.getD_cons_succ, Nat.zero_add, Nat.reduceAdd, List.setIfInBounds_toArray, List.set_cons_zero, List.set_cons_succ]
  rw [hall 9 (by decide)] at hW
  obtain ⟨⟨hO1, hz1, a1, c1, p1, hm1⟩, hL2⟩ := hW
  have FIN : Hid (∀ (V w' : World) (ad2 : Option Addr) (cap2 : Nat) (av2 : List (Option Addr × Nat)), Sm (fun b => σ b ∨ b = gL) base lb off bb p a1 c1 room r3 p1 r4 adR capR av last l (ob ad) w V → LeB V gL (mk9 x) → Rg w' base lb (off + 1) ad2 cap2 r3 room r4 av2 → Tr lb (off + 1) (ob adR) (ob ad2) V w' → (∀ (k : Nat) (a : Option Addr × Nat), av2[k]? = some a → (av[k]? = some a ∧ r4[k]? = l[k]?) ∨ ∀ b : Addr, a.1 = some b → V.heap.size ≤ b.block) → StL σ base lb off bb p ad room last adR gL w w') := fun V w' ad2 cap2 av2 hm hLV hR hT hN => by
    obtain ⟨q1, q2⟩ := hm.doc hR hT
    have hgV := lt_at hLV
    refine ⟨_, _, _, _, _, _, _, _, _, q1, .inl (.inr rfl), fun k y a b e1 e2 e3 e4 => ?_, fun b q => .inl (.inl q), fun b q => ?_, hll.1, hll.2, q2⟩
    · rcases hN k a e2 with ⟨n1, n2⟩ | n1
      · rw [n2] at e1
        exact HDAT.out k y a b e1 n1 e3 e4
      · have := n1 b e4
        intro e5
        omega
    · rcases q with (q | q) | q
      · exact .inl q
      · exact .inr (by omega)
      · rcases hT.own with k | k
        · rw [k] at q
          rcases hm.sr b q with z | z
          · exact .inl z
          · exact .inr (by omega)
        · have := k b q
          have := hm.ev.size
          exact .inr (by omega)
  clear hall hK hj0 hL1
  go_wp2
  rename_i Q1 K1 hK
  refine wp_region_any hmx ?_
  refine wpAny_tabG (G := (Unit)) (fun g i__ => ([(.pointer (some ⟨lb, off, none⟩)), (.pointer (some ⟨lb, off, none⟩)), (.pointer (some ⟨lb, off + 1, none⟩)), (.pointer (some ⟨w.heap.size, 2, none⟩)), (.int .i64 iA), (.pointer (some ⟨w.heap.size, 3, none⟩)), (.int .i64 jA), (.pointer (some ⟨w.heap.size, 5, none⟩)), (.slice aD nD cD), (.tuple #[.int .i64 r1, .int .i64 r2]), (.tuple #[.int .i64 r1, .int .i64 r2]), (.int .i64 r1), (.int .i64 r2), (.int .i64 r1), (.int .i64 r2)] : List Value).getD i__ undef) (fun _ d V => OpB V w.heap.size 1 who iA jA kA (.slice aD nD cD) ∧ LeB V gL (mk9 x) ∧ (d 9 = false → Sm (fun b => σ b ∨ b = gL) base lb off bb p a1 c1 room r3 p1 r4 adR capR av last l (ob ad) w V) ∧ (d 9 = true → StL σ base lb off bb p ad room last adR gL w V)) (by kernel_rfl) (()) (show OpB _ w.heap.size 1 who iA jA kA (.slice aD nD cD) ∧ LeB _ gL (mk9 x) ∧ (false = false → Sm (fun b => σ b ∨ b = gL) base lb off bb p a1 c1 room r3 p1 r4 adR capR av last l (ob ad) w _) ∧ (false = true → StL σ base lb off bb p ad room last adR gL w _) from ⟨hO1.carry (Below.refl _ _).drew, hL2.carry (Below.refl _ _).drew, fun _ => hm1.carry (Below.refl _ _).drew, fun e => by cases e⟩) ?step6 ?fin6
  case step6 =>
    intro i o ho
    have hi : i < 15 := getElem?_lt ho
    match i, hi, ho with
    | 0, _, ho =>
      cases ho
      refine stepG_of (fun g d hdep => ?_)
      exact step_move rfl trivial _ rfl (by kernel_rfl)
    | 1, _, ho =>
      cases ho
      refine stepG_of (fun g d hdep => ?_)
      exact step_nilCheck rfl trivial _ _ _ rfl rfl rfl
    | 2, _, ho =>
      cases ho
      refine stepG_of (fun g d hdep => ?_)
      exact step_fieldAddr rfl trivial _ _ _ _ rfl rfl (fun v hw => field_bo1 v _ _)
    | 3, _, ho =>
      cases ho
      refine stepG_of (fun g d hdep => ?_)
      exact step_fieldAddr rfl trivial _ _ _ _ rfl rfl (fun v hw => field_op v _ 2 (by decide))
    | 4, _, ho =>
      cases ho
      refine stepG_of (fun g d hdep => ?_)
      exact step_load rfl trivial _ _ _ rfl rfl (fun v hw => load_i hw.1.c2)
    | 5, _, ho =>
      cases ho
      refine stepG_of (fun g d hdep => ?_)
      exact step_fieldAddr rfl trivial _ _ _ _ rfl rfl (fun v hw => field_op v _ 3 (by decide))
    | 6, _, ho =>
      cases ho
      refine stepG_of (fun g d hdep => ?_)
      exact step_load rfl trivial _ _ _ rfl rfl (fun v hw => load_i hw.1.c3)
    | 7, _, ho =>
      cases ho
      refine stepG_of (fun g d hdep => ?_)
      exact step_fieldAddr rfl trivial _ _ _ _ rfl rfl (fun v hw => field_op v _ 5 (by decide))
    | 8, _, ho =>
      cases ho
      refine stepG_of (fun g d hdep => ?_)
      exact step_load rfl trivial _ _ _ rfl rfl (fun v hw => load_b hw.1.c5)
    | 9, _, ho =>
      cases ho
      exact stepG_ofCB (fun g d hun hdep hcl => step_call rfl trivial 14 _ _ [(.pointer (some ⟨lb, off + 1, none⟩)), (.int .i64 iA), (.int .i64 jA), (.slice aD nD cD)] rfl (by kernel_rfl) (enters_of Tryz.func14 (by kernel_rfl) rfl) (fun V hw => by have hm := hw.2.2.1 hun; have hdt := HXW.out V hm.ev.low hm.ev.size; exact (HR.out V hm.bz hdt hm.rg).mono (by rintro e w' ⟨rfl, ad1, cap1, av1, hR, hT, hN⟩; refine ⟨rfl, ?_⟩; show OpB w' w.heap.size 1 who iA jA kA (.slice aD nD cD) ∧ LeB w' gL (mk9 x) ∧ (true = false → Sm (fun b => σ b ∨ b = gL) base lb off bb p a1 c1 room r3 p1 r4 adR capR av last l (ob ad) w w') ∧ (true = true → StL σ base lb off bb p ad room last adR gL w w'); refine ⟨hw.1.tr hm.rg hT, hw.2.1.tr hm.rg hT, (fun e => by cases e), fun _ => FIN.out V w' ad1 cap1 av1 hm hw.2.1 hR hT hN⟩)))
    | 10, _, ho =>
      cases ho
      refine stepG_of (fun g d hdep => ?_)
      exact step_move rfl trivial _ rfl (by kernel_rfl)
    | 11, _, ho =>
      cases ho
      refine stepG_of (fun g d hdep => ?_)
      exact step_extract rfl trivial _ _ _ rfl rfl (fun v hw => ext2_0 _ _ v)
    | 12, _, ho =>
      cases ho
      refine stepG_of (fun g d hdep => ?_)
      exact step_extract rfl trivial _ _ _ rfl rfl (fun v hw => ext2_1 _ _ v)
    | 13, _, ho =>
      cases ho
      refine stepG_of (fun g d hdep => ?_)
      exact step_assign rfl trivial _ rfl (by kernel_rfl) (fun _ h => h)
    | 14, _, ho =>
      cases ho
      refine stepG_of (fun g d hdep => ?_)
      exact step_assign rfl trivial _ rfl (by kernel_rfl) (fun _ h => h)
  intro g d W hall hW
  first | refine hK _ _ ?_ | refine (‹∀ (a : Act) (w : World), Code.wp Tryz.prog _ _ a w → _›) _ _ ?_ | skip
  simp only [finL, List.getD_cons_zero, List.getD_cons_succ, Nat.zero_add, Nat.reduceAdd, List.setIfInBounds_toArray, List.set_cons_zero, List.set_cons_succ]
  obtain ⟨hO3, hL3, _, hst0⟩ := hW
  have hSL := hst0 (hall 9 (by decide))
  have o5 := hO3.c5
  have hdt := HXW.out W (by obtain ⟨_, _, _, _, _, _, _, _, _, _, _, _, _, _, _, _, q⟩ := hSL; exact q.low) (by obtain ⟨_, _, _, _, _, _, _, _, _, _, _, _, _, _, _, _, q⟩ := hSL; exact q.size)
  have hst := staysB_any gL aD (nD + 9) cD x W (lt_at hL3) hL3.at (by rw [HNX.out]; exact Nat.le_refl _) hdt (by rw [HNX.out]; omega)
  rw [HNX.out] at hst
  have HSL : Hid (StL σ base lb off bb p ad room last adR gL w W) := hSL
  clear hall hK hst0 hSL hm1 hO1 hL2 hdt
  go_wp2_with (go_at_call 15; (with_reducible refine hst.mono ?_); rintro e u2 ⟨rfl, hb2⟩)
  have hS4 := HSL.out.carry hb2
  have hL4 := hL3.carry hb2
  clear hst hL3 hO3 o5
  go_loopw [11] (fun i wz => ∃ (m : Nat) (cur : Array Value), i = .int .i64 (m : Int) ∧ m ≤ nD ∧ wz.heap[gL]? = some (.cells cur 5 (0, 0)) ∧ nD ≤ cur.size ∧ StL σ base lb off bb p ad room last adR gL w wz) (fun i _ => nD - vnat i)
  case atStart => exact ⟨0, _, rfl, Nat.zero_le _, hL4, by rw [List.size_toArray, cB_len, mk9_len, HNX.out]; omega, hS4⟩
  case round =>
    obtain ⟨m, cur, rfl, hm, hgc, hcs, hSz⟩ := hrel
    by_cases hmn : m < nD
    · have hmi : (m : Int) < (nD : Int) := by omega
      have c0 : wr.cell? ⟨gL, m, none⟩ = some (cur[m]'(by omega)) := by rw [cell_at hgc]; exact Array.getElem?_eq_getElem _
      have z0 := thaw_at hgc m
      have HH : Hid ((wr.setCell ⟨gL, m, none⟩ (.int .u8 90)).heap[gL]? = some (.cells (cur.setIfInBounds m (.int .u8 90)) 5 (0, 0))) := heap_setCell_same _ _ m _ _ _ hgc
      have HPU : Hid (StL σ base lb off bb p ad room last adR gL w (wr.setCell ⟨gL, m, none⟩ (.int .u8 90))) := hSz.put hgc hgw hbz
      obtain ⟨y, hy⟩ : ∃ y, cur[m]'(by omega) = y := ⟨_, rfl⟩
      rw [hy] at c0
      clear hSz
      go_wp2
      go_roundw
      case rel => exact ⟨m + 1, _, by simp, by omega, HH.out, by simpa using hcs, HPU.out⟩
      case measure => simp [vnat]; omega
    · have hmm : m = nD := by omega
      have HF : Hid (StL σ base lb off bb p ad room last adR gL w wr) := hSz
      subst hmm
      clear hSz
      go_wp2
      go_ret
      exact ⟨rfl, HF.out.stv⟩
end
end Go.Proofs.YtjfbnikbmadgkaaGreat
