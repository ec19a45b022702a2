import Derived.Test.YtekjhcnaabpfmaaGreatDoorJnJ34
set_option maxHeartbeats 40000000
set_option maxRecDepth 100000
set_option linter.unusedVariables false
namespace Go.Proofs.YtekjhcnaabpfmaaGreatDoor
open Go.RowKit Go.Shelf Go.Lib
attribute [local go_sem] Oper.semAt_some
theorem dO0 : dO d0 = ⟨1, 0, (dOp d0).d, ⟨⟨1, 16, 4⟩, 1, 0⟩⟩ := by
 obtain ⟨h1, h2, h3, h4, h5, h6⟩ := op0
 unfold dO dNx
 rw [h2, if_neg (by rw [h4]; decide), if_neg (by decide), if_neg (by decide)]
 rfl
def s0 (n f s : Nat) : Ns := dOpen n f s d0
theorem wthB_of {N n : Nat} (h : n ≤ 100) (hN : N < 2 ^ n) : wthB N (n : Int) = true := by
 unfold wthB
 have e : topW (n : Int) = n := by unfold topW; omega
 rw [e, Nat.mod_eq_of_lt hN]
 simp
theorem fullN_lt (n : Nat) : fullN n < 2 ^ n := by
 unfold fullN
 have := Nat.pos_of_ne_zero (show 2 ^ n ≠ 0 by simp)
 omega
theorem wthB_full (n : Nat) (h : n ≤ 100) : wthB (fullN n) (n : Int) = true := wthB_of h (fullN_lt n)
theorem nw0 {n f s : Nat} (hn1 : 1 ≤ n) (hn2 : n ≤ 100) (hfn : f < n) (hsn : s < n) : nwE (n : Int) (f : Int) (s : Int) 1 (fullN n) = 0 := by
 unfold nwE
 rw [if_neg (by omega), if_neg (by unfold isN; simp; omega), if_neg (by omega), if_neg (by rw [wthB_full n hn2]; simp)]
section
variable {w W : World} {base x : Nat} {A : NA} {s : Ns}
theorem nopen0 {p : Nat} (hD : Dk w p d0) (hpb : base ≤ p) {n f s : Nat} (hn1 : 1 ≤ n) (hn2 : n ≤ 100) (hfn : f < n) (hsn : s < n) :
  Calls Tryz.prog 6 #[.int .i64 (n : Int), .int .i64 (f : Int), .int .i64 (s : Int), .pointer (some ⟨p, 0, none⟩)] w fun r w' => ∃ x A, r = .returned (.tuple #[.pointer (some ⟨x, 0, none⟩), .int .i64 0]) ∧ Nd w' base x A (s0 n f s) ∧ A.p = p ∧ w.heap.size ≤ x ∧ TpZ p w w' := by
 obtain ⟨h1, h2, h3, h4, h5, h6⟩ := op0
 have h7 := dO0
 exact nopen_ok hD hpb Sd0.zero.fz (by decide) (by decide) h1 (by rw [h2]; exact h5.ok) h5.fz (by rw [h3]; decide) (by rw [h3]; decide) (by rw [h7]) (by rw [h7]; decide) hn1 hn2 hfn hsn (by rw [h7]; exact nw0 hn1 hn2 hfn hsn)
theorem Outs.at {b g n c k : Nat} {l : List OE} {o : OE} (h : Outs W b (.slice (some ⟨g, 0, none⟩) n c) l) (hk : l[k]? = some o) : W.cell? ⟨g, k * 2, none⟩ = some (.int .i64 o.to) ∧ W.cell? ⟨g, k * 2 + 1, none⟩ = some (.slice o.a o.L.length o.c) := by
 have hlt : k < l.length := (List.getElem?_eq_some_iff.1 hk).1
 have hl := ocs_len l
 have hn : n = l.length := by
  rcases own_form h.row with ⟨e1, e2⟩ | ⟨g', c', e1, _⟩
  · cases e1
  · cases e1; rfl
 subst hn
 have key : ∀ (l : List OE) (k : Nat) (o : OE), l[k]? = some o → (ocs l)[k * 2]? = some (.int .i64 o.to) ∧ (ocs l)[k * 2 + 1]? = some (.slice o.a o.L.length o.c) := by
  intro l
  induction l with
  | nil => intro k o h; simp at h
  | cons y l ih =>
    intro k o h
    have e : ocs (y :: l) = .int .i64 y.to :: .slice y.a y.L.length y.c :: ocs l := by simp [ocs, oc]
    cases k with
    | zero => simp at h; subst h; rw [e]; exact ⟨rfl, rfl⟩
    | succ k =>
     obtain ⟨h1, h2⟩ := ih k o (by simpa using h)
     rw [e, show (k + 1) * 2 = k * 2 + 1 + 1 by omega]
     exact ⟨by simpa using h1, by simpa using h2⟩
 obtain ⟨k1, k2⟩ := key l k o hk
 exact ⟨(h.row.cellAt _ (by omega)).trans k1, (h.row.cellAt _ (by omega)).trans k2⟩
theorem ask3 (L : List Nat) : askTo 3 0 L = [(1, L), (2, L)] := by
 unfold askTo
 rfl
theorem nalive_any (w : World) : Calls Tryz.prog 9 #[] w fun e w' => e = .returned (.bool true) ∧ Below w.heap.size w w' := by
 have hn := dnew_any w
 have hop : ∀ V, Dk V w.heap.size d0 → Calls Tryz.prog 6 #[.int .i64 3, .int .i64 1, .int .i64 0, .pointer (some ⟨w.heap.size, 0, none⟩)] V fun r w' => ∃ x A, r = .returned (.tuple #[.pointer (some ⟨x, 0, none⟩), .int .i64 0]) ∧ Nd w' w.heap.size x A (s0 3 1 0) ∧ A.p = w.heap.size ∧ V.heap.size ≤ x ∧ TpZ w.heap.size V w' := fun V hV => nopen0 (n := 3) (f := 1) (s := 0) hV (Nat.le_refl _) (by decide) (by decide) (by decide) (by decide)
 have e0 := dO0
 have hl : (s0 3 1 0).l = bk0 3 0 0 := by unfold s0 dOpen; rw [e0]
 have ht : (s0 3 1 0).t = nwT 3 1 0 1 (fullN 3) := by unfold s0 dOpen; rw [e0]; rfl
 have hb : (s0 3 1 0).b = ⟨⟨1, 16, 4⟩, 1, 0⟩ := by unfold s0 dOpen; rw [e0]
 have hrd : rdy (s0 3 1 0).t = false := by rw [ht]; rfl
 have hll : (s0 3 1 0).l.length = 3 := by rw [hl]; exact bk0_len _ _ _
 have hbo : Bok (s0 3 1 0).l := by rw [hl]; exact bk0_bok (by decide) (by decide)
 have hev : (s0 3 1 0).ev.length = 1 := rfl
 have HP : ∀ V x A, Nd V w.heap.size x A (s0 3 1 0) → Calls Tryz.prog 20 #[.pointer (some ⟨x, 0, none⟩)] V fun r w' => ∃ g c l o A', r = .returned (.tuple #[.slice (some ⟨g, 0, none⟩) 2 c, .int .i64 170]) ∧ w'.cell? ⟨g, 2, none⟩ = some (.int .i64 2) ∧ g < w'.heap.size ∧ Outs w' V.heap.size (.slice (some ⟨g, 0, none⟩) 2 c) l ∧ l[1]? = some o ∧ Nd w' w.heap.size x A' (dAsk (s0 3 1 0)) ∧ Mv x A A' V w' := fun V x A hN => by
  refine (poll_wait hN hrd (by omega) (by omega) (by omega) (show 3 ≤ 100 by decide)).mono ?_
  rintro r w' ⟨v, l, A', rfl, ho, hs, hN', hM⟩
  have hs' : Outs.say l = [(1, dAskB (s0 3 1 0)), (2, dAskB (s0 3 1 0))] := hs.trans (ask3 _)
  unfold Outs.say at hs'
  obtain ⟨o1, o2, rfl⟩ : ∃ o1 o2, l = [o1, o2] := by
    rcases l with _ | ⟨o1, _ | ⟨o2, _ | ⟨o3, l⟩⟩⟩
    · simp at hs'
    · simp at hs'
    · exact ⟨o1, o2, rfl⟩
    · simp at hs'
  simp only [List.map_cons, List.map_nil, List.cons.injEq, Prod.mk.injEq, and_true] at hs'
  rcases own_form ho.row with ⟨_, e2⟩ | ⟨g, c, e1, h1, h2, _⟩
  · simp at e2
  · subst e1
    have hc := (ho.at (k := 1) (o := o2) rfl).1
    rw [hs'.2.1] at hc
    exact ⟨g, c, [o1, o2], o2, A', rfl, hc, h2, ho, rfl, hN', hM⟩
 have hS1 : dSi (dAsk (s0 3 1 0)) = ⟨true, 1, 1, 0, sus (s0 3 1 0).l, (s0 3 1 0).H, (s0 3 1 0).t.reps, (s0 3 1 0).l⟩ := by
  unfold dSi dAsk
  simp only [hb, ht]
  rfl
 obtain ⟨z, hz⟩ : ∃ z, dSi (dAsk (s0 3 1 0)) = z := ⟨_, rfl⟩
 have hz0 : z.up = true ∧ z.li = 1 ∧ z.ro = 1 := by rw [← hz, hS1]; exact ⟨rfl, rfl, rfl⟩
 have HS : ∀ V x A, Nd V w.heap.size x A (dAsk (s0 3 1 0)) → Calls Tryz.prog 11 #[.pointer (some ⟨x, 0, none⟩)] V fun r w' => ∃ a c, r = .returned (.agg (siC z (.slice a 3 c))) ∧ Below V.heap.size V w' := fun V x A hN => by
  refine (sight_any hN (show 0 < (s0 3 1 0).l.length by omega) (show (s0 3 1 0).l.length ≤ 100 by omega) hbo).mono ?_
  rintro r w' ⟨a, c, rfl, h1, h2⟩
  have e3 : (dAsk (s0 3 1 0)).l.length = 3 := hll
  rw [e3, hz]
  exact ⟨a, c, rfl, h2⟩
 obtain ⟨z1, z2, z3⟩ := hz0
 clear hS1 hz e0 hl ht hb hrd hbo hev hll
 obtain ⟨u0, l0, r0, t0, su, he, re, ll⟩ := z
 dsimp only at z1 z2 z3
 subst z1 z2 z3
 unfold siC at HS
 dsimp only at HS
 go_enter Tryz.func9, Tryz.ntmps9
 go_wp2_with (first
  | (go_at_call 7; (with_reducible refine hn.mono ?_); rintro r u1 ⟨rfl, hD1, hl1, hb1⟩; have hop1 := hop u1 hD1)
  | (go_at_call 6; (with_reducible refine hop1.mono ?_); rintro r u2 ⟨x, A, rfl, hN2, hAp, hx2, ht2⟩; have hP2 := HP u2 x A hN2)
  | (go_at_call 20; (with_reducible refine hP2.mono ?_); rintro r u3 ⟨g, c, l, o, A3, rfl, hc3, hg3, ho3, hl3, hN3, hM3⟩; have hS3 := HS u3 x A3 hN3)
  | (go_at_call 11; (with_reducible refine hS3.mono ?_); rintro r u4 ⟨a4, c4, rfl, hb4⟩; obtain ⟨u5, hu5⟩ : ∃ u5, u4.alloc (.cells #[.bool true, .int .i64 1, .int .i64 1, .int .i64 t0, .int .u32 (wd su 0 : Nat), .int .u32 (wd su 1 : Nat), .int .u32 (wd su 2 : Nat), .int .u32 (wd su 3 : Nat), .int .u32 (wd he 0 : Nat), .int .u32 (wd he 1 : Nat), .int .u32 (wd he 2 : Nat), .int .u32 (wd he 3 : Nat), .int .u32 (wd re 0 : Nat), .int .u32 (wd re 1 : Nat), .int .u32 (wd re 2 : Nat), .int .u32 (wd re 3 : Nat), .slice a4 3 c4] 42) = u5 := ⟨_, rfl⟩; have hb5 : Below u4.heap.size u4 u5 := (by rw [← hu5]; exact al1' _ _); have g5 : u5.heap[u4.heap.size]? = some (.cells #[.bool true, .int .i64 1, .int .i64 1, .int .i64 t0, .int .u32 (wd su 0 : Nat), .int .u32 (wd su 1 : Nat), .int .u32 (wd su 2 : Nat), .int .u32 (wd su 3 : Nat), .int .u32 (wd he 0 : Nat), .int .u32 (wd he 1 : Nat), .int .u32 (wd he 2 : Nat), .int .u32 (wd he 3 : Nat), .int .u32 (wd re 0 : Nat), .int .u32 (wd re 1 : Nat), .int .u32 (wd re 2 : Nat), .int .u32 (wd re 3 : Nat), .slice a4 3 c4] 42 (0, 0)) := (by rw [← hu5]; exact zna rfl); have e0 : u5.cell? ⟨u4.heap.size, 0, none⟩ = some (.bool true) := (zca g5 0).trans rfl; have e1 : u5.cell? ⟨u4.heap.size, 1, none⟩ = some (.int .i64 1) := (zca g5 1).trans rfl; have e2 : u5.cell? ⟨u4.heap.size, 2, none⟩ = some (.int .i64 1) := (zca g5 2).trans rfl; have e16 : u5.cell? ⟨u4.heap.size, 16, none⟩ = some (.slice a4 3 c4) := (zca g5 16).trans rfl; have hgc : u5.cell? ⟨g, 2, none⟩ = some (.int .i64 2) := ((bel2 hb4 hb5).cell (p := ⟨g, 2, none⟩) hg3).trans hc3))
 go_ret
 refine ⟨rfl, ?_⟩
 have q2 := TpZ.young hb1 ht2 (Nat.le_refl _)
 exact (q2.trans (hM3.below hN2)).trans ((bel2 hb4 hb5).mono (Nat.le_trans q2.size hM3.size))
end
end Go.Proofs.YtekjhcnaabpfmaaGreatDoor
namespace Go.Proofs.YtekjhcnaabpfmaaGreatDoor
open Go.RowKit Go.Shelf Go.Lib
structure On (d : Dst) (j : Nat) (b : Bo) : Prop where
 lv : Lv d j b
 off : d.off = false
 fu : d.fused = false
theorem sv_ok {d : Dst} {n : Nat} {r r' : Rec} (h : Ss d.l n r) (ho : d.off = false) (hf : d.fused = false) (hm : May r') (hn : n ≤ 1000000) : (dSv d r').1 = 0 ∧ (dSv d r').2.off = false ∧ (dSv d r').2.fused = false ∧ (dSv d r').2.writes = d.writes + 2 ∧ Ss (dSv d r').2.l (n + 1) r' := by
 have e := h.dsv ho hm hn
 rw [dW2_ok ho (Nat.mod_lt _ (by omega)) (slB_len _ _) (fun q => by rw [hf] at q; cases q)] at e
 rw [e]
 exact ⟨rfl, rfl, hf, rfl, h.step hm hn⟩
section
variable {d : Dst} {j : Nat} {b : Bo}
theorem On.next (h : On d j b) (hj : j ≤ 999999) (hr : b.ro < 1099511627775) : (dNx d b).e = 0 ∧ (dNx d b).x = b.ro + 1 ∧ ∃ j', j' ≤ j + 1 ∧ On (dNx d b).d j' (dNx d b).b ∧ (dNx d b).b.ro = b.ro + 1 ∧ (dNx d b).b.ta = b.ta ∧ (dNx d b).b.r.li = b.r.li ∧ d.writes ≤ (dNx d b).d.writes ∧ (dNx d b).d.writes ≤ d.writes + 2 := by
 have hro := h.lv.ro
 obtain ⟨⟨m1, m2⟩, ⟨m3, m4⟩, m5, m6⟩ := h.lv.may
 unfold dNx
 rw [if_neg (by rw [h.off]; decide), if_neg (by omega)]
 split
 · rename_i he
   have hb := bR_ge (x := b.ro) (by omega)
   have hmay : May (rNx b) := ⟨⟨m1, m2⟩, ⟨by show 0 ≤ bR b.ro; omega, hb.2⟩, m5, m6⟩
   obtain ⟨s1, s2, s3, s4, s5⟩ := sv_ok h.lv.ss h.off h.fu hmay (by omega)
   rw [if_pos s1]
   exact ⟨rfl, rfl, j + 1, Nat.le_refl _, ⟨⟨s5, by omega, fun q => (by rw [s3] at q; cases q), hmay, ⟨by dsimp only; omega, hb.1⟩, h.lv.ta⟩, s2, s3⟩, rfl, rfl, rfl, by dsimp only; omega, by dsimp only; omega⟩
 · rename_i he
   exact ⟨rfl, rfl, j, by omega, ⟨⟨h.lv.ss, h.lv.n1, h.lv.fz, h.lv.may, ⟨by dsimp only; omega, by dsimp only; omega⟩, h.lv.ta⟩, h.off, h.fu⟩, rfl, rfl, rfl, Int.le_refl _, by dsimp only; omega⟩
theorem On.raise (h : On d j b) (hj : j ≤ 999999) {t : Int} (h0 : 0 ≤ t) (h1 : t ≤ 1048576) : (dRa d b t).e = 0 ∧ ∃ j', j' ≤ j + 1 ∧ On (dRa d b t).d j' (dRa d b t).b ∧ (dRa d b t).b.ro = b.ro ∧ (dRa d b t).b.ta = max b.ta t ∧ (dRa d b t).b.r.li = b.r.li ∧ d.writes ≤ (dRa d b t).d.writes ∧ (dRa d b t).d.writes ≤ d.writes + 2 := by
 have hta := h.lv.ta
 obtain ⟨⟨m1, m2⟩, ⟨m3, m4⟩, m5, m6⟩ := h.lv.may
 unfold dRa
 rw [if_neg (by rw [h.off]; decide), if_neg (by omega), if_neg (by omega)]
 split
 · rename_i he
   exact ⟨rfl, j, by omega, h, rfl, by dsimp only; omega, rfl, Int.le_refl _, by dsimp only; omega⟩
 rename_i he
 split
 · rename_i he2
   have hb := bT_ge (x := t - 1) (by omega)
   have hmay : May (rRa b t) := ⟨⟨m1, m2⟩, ⟨m3, m4⟩, by show 0 ≤ bT (t - 1); omega, hb.2⟩
   obtain ⟨s1, s2, s3, s4, s5⟩ := sv_ok h.lv.ss h.off h.fu hmay (by omega)
   rw [if_pos s1]
   exact ⟨rfl, j + 1, Nat.le_refl _, ⟨⟨s5, by omega, fun q => (by rw [s3] at q; cases q), hmay, h.lv.ro, ⟨by dsimp only; omega, by show t ≤ bT (t - 1); omega⟩⟩, s2, s3⟩, rfl, by dsimp only; omega, rfl, by dsimp only; omega, by dsimp only; omega⟩
 · rename_i he2
   exact ⟨rfl, j, by omega, ⟨⟨h.lv.ss, h.lv.n1, h.lv.fz, h.lv.may, h.lv.ro, ⟨by dsimp only; omega, by dsimp only; omega⟩⟩, h.off, h.fu⟩, rfl, by dsimp only; omega, rfl, Int.le_refl _, by dsimp only; omega⟩
theorem On.df (h : On d j b) (hj : j ≤ 999999) {l : List N3} (hb : Bok l) (hl : l.length ≤ 100) (z : Int) : (dDf l z d b).e = 0 ∧ (∃ j', j' ≤ j + 1 ∧ On (dDf l z d b).d j' (dDf l z d b).b) ∧ (dDf l z d b).b.ro = b.ro ∧ b.ta ≤ (dDf l z d b).b.ta ∧ (dDf l z d b).b.r.li = b.r.li ∧ d.writes ≤ (dDf l z d b).d.writes ∧ (dDf l z d b).d.writes ≤ d.writes + 2 ∧ Bok (dDf l z d b).l := by
 unfold dDf
 cases hd : dueN l z with
 | none => exact ⟨rfl, ⟨j, by omega, h⟩, rfl, Int.le_refl _, rfl, Int.le_refl _, by dsimp only; omega, hb⟩
 | some y =>
  obtain ⟨_, _, _, _, h1, h2, _⟩ := due_tk hb hl hd
  obtain ⟨e0, j', hj', ho, hr, ht, hli, w1, w2⟩ := h.raise hj (t := y.2.1) (by omega) h2
  dsimp only
  rw [if_pos e0]
  exact ⟨rfl, ⟨j', hj', ho⟩, hr, by rw [ht]; omega, hli, w1, w2, tke_bok hb _⟩
end
structure Nv (m : Nat) (s : Ns) : Prop where
 n1 : 1 ≤ s.n
 n2 : s.n ≤ 100
 fn : s.f < s.n
 sn : s.s < s.n
 on : ∃ j, j ≤ m + 2 ∧ On s.d j s.b
 wr : 0 ≤ s.d.writes ∧ s.d.writes ≤ 2 * (m : Int) + 10
 ro : 1 ≤ s.b.ro ∧ s.b.ro ≤ (m : Int) + 1
 bok : Bok s.l
 len : s.l.length = s.n
 H : s.H < 2 ^ s.n
 tv : Tv s.t
 tn : s.t.n = (s.n : Int)
 td : s.t.need = (s.n : Int) - (s.f : Int)
 tr : s.t.ro = s.b.ro
 rp : s.t.reps < 2 ^ s.n
 rs : s.t.reps.testBit s.s = true
 rc : s.t.hs.length = cnt s.t.reps
 ev : s.ev.length ≤ 1 + 131 * m
theorem cnt_flip {N : Nat} {f : Int} (h : 0 ≤ f ∧ f < 100) (hN : N < S100) (hne : wthN N f ≠ N) : cnt (wthN N f) = cnt N + 1 := by
 have e : wthN N f = N ||| 2 ^ f.toNat := by unfold wthN; rw [if_pos h, cln_id hN]
 rw [e] at hne ⊢
 have hb : N.testBit f.toNat = false := by
   cases q : N.testBit f.toNat
   · rfl
   · refine absurd (Nat.eq_of_testBit_eq fun i => ?_) hne
     rw [Nat.testBit_or, Nat.testBit_two_pow]
     by_cases hi : f.toNat = i
     · subst hi; rw [q]; rfl
     · simp [hi]
 refine popAux_flip 128 _ _ f.toNat (by omega) (fun i _ hi => ?_) hb ?_
 · rw [Nat.testBit_or, Nat.testBit_two_pow_of_ne (fun e => hi e.symm), Bool.or_false]
 · rw [Nat.testBit_or, Nat.testBit_two_pow_self, Bool.or_true]
theorem pow_S100' {n N : Nat} (hn : n ≤ 100) (h : N < 2 ^ n) : N < S100 := Nat.lt_of_lt_of_le h (show 2 ^ n ≤ 2 ^ 100 from Nat.pow_le_pow_right (by decide) hn)
theorem pow_S128 {n N : Nat} (hn : n ≤ 100) (h : N < 2 ^ n) : N < S128 := Nat.lt_of_lt_of_le h (show 2 ^ n ≤ 2 ^ 128 from Nat.pow_le_pow_right (by decide) (by omega))
theorem wthN_in {N n s : Nat} (hn : n ≤ 100) (hs : s < n) (h : N < 2 ^ n) : wthN N (s : Int) = N ||| 2 ^ s := by
 unfold wthN
 rw [if_pos (by omega), cln_id (pow_S100' hn h), Int.toNat_natCast]
theorem wthN_pow {N n s : Nat} (hn : n ≤ 100) (hs : s < n) (h : N < 2 ^ n) : wthN N (s : Int) < 2 ^ n := by
 rw [wthN_in hn hs h]
 exact Nat.or_lt_two_pow h (Nat.pow_lt_pow_right (by decide) hs)
theorem nwT_ok {n f s : Nat} {ro : Int} {H : Nat} (n1 : 1 ≤ n) (n2 : n ≤ 100) (fn : f < n) (sn : s < n) (hr : 1 ≤ ro ∧ ro ≤ 1099511627775) (hH : H < 2 ^ n) : nwE (n : Int) (f : Int) (s : Int) ro H = 0 ∧ Tv (nwT (n : Int) (f : Int) (s : Int) ro H) ∧ (nwT (n : Int) (f : Int) (s : Int) ro H).n = (n : Int) ∧ (nwT (n : Int) (f : Int) (s : Int) ro H).need = (n : Int) - (f : Int) ∧ (nwT (n : Int) (f : Int) (s : Int) ro H).ro = ro ∧ (nwT (n : Int) (f : Int) (s : Int) ro H).reps = 2 ^ s ∧ (nwT (n : Int) (f : Int) (s : Int) ro H).hs.length = cnt (2 ^ s) := by
 have he : nwE (n : Int) (f : Int) (s : Int) ro H = 0 := by
  unfold nwE
  rw [if_neg (by omega), if_neg (by unfold isN; simp; omega), if_neg (by omega), if_neg (by rw [wthB_of n2 hH]; simp)]
 have h0 : (0 : Nat) < 2 ^ n := Nat.two_pow_pos n
 have hre : wthN 0 (s : Int) = 2 ^ s := by rw [wthN_in n2 sn h0, Nat.zero_or]
 refine ⟨he, Tv.new (pow_S128 n2 hH) he, rfl, rfl, rfl, hre, ?_⟩
 show (([] : List Nat) ++ [H]).length = _
 have := cnt_flip (N := 0) (f := (s : Int)) (by omega) (by decide) (by rw [hre]; exact Nat.ne_of_gt (Nat.two_pow_pos _))
 rw [hre, cnt_zero] at this
 rw [this]
 rfl
theorem Nv.open {n f s : Nat} (n1 : 1 ≤ n) (n2 : n ≤ 100) (fn : f < n) (sn : s < n) : Nv 0 (s0 n f s) := by
 obtain ⟨h1, h2, h3, h4, h5, h6⟩ := op0
 have e0 := dO0
 obtain ⟨_, k1, k2, k3, k4, k5, k6⟩ := nwT_ok (ro := 1) n1 n2 fn sn (by omega) (fullN_lt n)
 have hd : (s0 n f s).d = (dOp d0).d := by unfold s0 dOpen; rw [e0]
 have hb : (s0 n f s).b = ⟨⟨1, 16, 4⟩, 1, 0⟩ := by unfold s0 dOpen; rw [e0]
 have hl : (s0 n f s).l = bk0 n s 0 := by unfold s0 dOpen; rw [e0]
 have ht : (s0 n f s).t = nwT (n : Int) (f : Int) (s : Int) 1 (fullN n) := by unfold s0 dOpen; rw [e0]
 refine ⟨n1, n2, fn, sn, ⟨1, by omega, ?_⟩, ?_, ?_, ?_, ?_, fullN_lt n, ?_, ?_, ?_, ?_, ?_, ?_, ?_, Nat.le_refl _⟩
 · rw [hd, hb]
   exact ⟨⟨h5.ss, h5.n1, h5.fz, h5.may, by decide, by decide⟩, h4, h6⟩
 · rw [hd, h3]; decide
 · rw [hb]; decide
 · rw [hl]; exact bk0_bok (by decide) (by decide)
 · rw [hl]; exact bk0_len _ _ _
 · rw [ht]; exact k1
 · rw [ht]; exact k2
 · rw [ht]; exact k3
 · rw [ht, hb]; exact k4
 · rw [ht, k5]; exact Nat.pow_lt_pow_right (by decide) sn
 · rw [ht, k5]; exact Nat.testBit_two_pow_self
 · rw [ht, k5]; exact k6
theorem Nv.mono {m : Nat} {s : Ns} (h : Nv m s) : Nv (m + 1) s := by
 obtain ⟨j, hj, ho⟩ := h.on
 have h1 := h.wr
 have h2 := h.ro
 have h3 := h.ev
 exact ⟨h.n1, h.n2, h.fn, h.sn, ⟨j, by omega, ho⟩, by omega, by omega, h.bok, h.len, h.H, h.tv, h.tn, h.td, h.tr, h.rp, h.rs, h.rc, by omega⟩
attribute [local go_sem] Oper.semAt_some
section
variable {w W : World} {base x : Nat} {A : NA} {s : Ns}
theorem hearU_self (h : Nd w base x A s) {ad : Option Addr} {cap : Nat} {bs : List Nat} (hr : RdBW w ad bs) (hby : BytW bs) (hc : bs.length ≤ cap) {fr rd N : Nat} {l : List N3} (hd : dec (s.n : Int) bs = .ok (3, fr, rd, N, l)) (hnl : l.length ≤ 1000000) (hfs : (fr : Int) = (s.s : Int)) :
  Calls Tryz.prog 14 #[.pointer (some ⟨x, 0, none⟩), .slice ad bs.length cap] w fun r w' => r = .returned (.tuple #[.slice none 0 0, .int .i64 72]) ∧ Below w.heap.size w w' := by
 have hmx := mixO
 have hup := up_yes h.obj
 have c1 := h.obj.c1
 have hdc : Calls Tryz.prog 13 #[.slice ad bs.length cap, .int .i64 (s.n : Int)] w fun e w' => ∃ a c, e = .returned (.tuple #[.iface 156 (.agg #[.int .i64 (fr : Int), .slice a l.length c]), .int .i64 0]) ∧ w'.ownsRow w.heap.size 65 3 (.slice a l.length c) l.length (fl l) ∧ Below w.heap.size w w' := (decode_any ad cap bs (s.n : Int) w hr hby hc).mono (by intro e w' hh; unfold DcO at hh; rw [hd] at hh; exact hh)
 obtain ⟨m, hm⟩ : ∃ m, bs.length = m := ⟨_, rfl⟩
 rw [hm] at hdc ⊢
 have HFS : Hid ((fr : Int) = (s.s : Int)) := hfs
 clear hd hm hr hby hc hfs
 go_enter Tryz.func14, Tryz.ntmps14
 go_wp2_with (first | (go_at_call 28; (with_reducible refine hup.mono ?_); rintro r u ⟨rfl, hu⟩; obtain rfl := hu.symm) | (go_at_call 13; (with_reducible refine hdc.mono ?_); rintro r u ⟨a, c, rfl, hrow, hb⟩))
 have hN1 := h.carry hb
 have hrd := RdN.ofRow hrow
 clear hdc hup c1
 rename_i hK
 refine wp_region_any hmx ?_
 refine zwt (G := Unit) (fun g i__ => ([(.iface 156 (.agg #[.int .i64 (fr : Int), .slice a l.length c])), (.int .i64 (fr : Int)), (.pointer (some ⟨x, 0, none⟩)), (.pointer (some ⟨x, 0, none⟩)), (.pointer (some ⟨x, 3, none⟩)), (.int .i64 (s.s : Int)), (.bool true)] : List Value).getD i__ undef) (fun _ d V => Below u.heap.size u V) (by kernel_rfl) (()) ((Below.refl _ _).drew) ?step22 ?fin22
 case step22 =>
  intro i o ho
  have hi : i < 7 := getElem?_lt ho
  match i, hi, ho with
  | 0, _, ho => cases ho; exact zgo fun g d hdep => zmv rfl trivial _ rfl (by kernel_rfl)
  | 1, _, ho => cases ho; exact stepG_invoke rfl (fun _ => trivial) 219 _ "Sender" (.iface 156 (.agg #[.int .i64 (fr : Int), .slice a l.length c])) [.agg #[.int .i64 (fr : Int), .slice a l.length c]] rfl (fun g => by kernel_rfl) (fun w => cmU_Sender _ w) (fun g d V hJ hun hdep hcl => (senderU_any (fr : Int) a l.length c V).mono (by rintro e V' ⟨rfl, hb2⟩; exact ⟨(), rfl, fun j hj => rfl, bel2 hJ hb2⟩))
  | 2, _, ho => cases ho; exact zgo fun g d hdep => zmv rfl trivial _ rfl (by kernel_rfl)
  | 3, _, ho => cases ho; exact zgo fun g d hdep => znc rfl trivial _ _ _ rfl rfl rfl
  | 4, _, ho => cases ho; exact zgo fun g d hdep => zfa rfl trivial _ _ _ _ rfl rfl (fun v hw => (zfn v _).2.2.2.1)
  | 5, _, ho => cases ho; exact zgo fun g d hdep => zld rfl trivial _ _ _ rfl rfl (fun v hw => load_in (hN1.carry hw).obj.c3)
  | 6, _, ho => cases ho; exact zgo fun g d hdep => zbo rfl trivial _ _ _ _ _ _ _ rfl rfl rfl (fun v hw => by have e1 : ((fr : Int) == (s.s : Int)) = true := (by have := HFS.out; simpa using this); rw [← e1]; exact bin_eql _ _ _)
 intro g d W hall hW
 first | refine hK _ _ ?_ | refine (‹∀ (a : Act) (w : World), Code.wp Tryz.prog _ _ a w → _›) _ _ ?_ | skip
 simp only [finL, List.getD_cons_zero, List.getD_cons_succ, Nat.zero_add, Nat.reduceAdd, List.setIfInBounds_toArray, List.set_cons_zero, List.set_cons_succ]
 have hbW : Below u.heap.size u W := hW
 clear hW hall hK
 go_wp2
 go_ret2
 exact ⟨rfl, bel2 hb hbW⟩
theorem hearU_ok (h : Nd w base x A s) {ad : Option Addr} {cap : Nat} {bs : List Nat} (hr : RdBW w ad bs) (hby : BytW bs) (hc : bs.length ≤ cap) {fr rd N : Nat} {l : List N3} (hd : dec (s.n : Int) bs = .ok (3, fr, rd, N, l)) (hnl : l.length ≤ 1000000) (hfs : (fr : Int) ≠ (s.s : Int)) (hEn : Env w) (hbs : 2 < base) (hbo : Bok s.l) (hl0 : 0 < s.l.length) (hl1 : s.l.length ≤ 100) (hf : Fz s.d) (hw0 : 0 ≤ s.d.writes) (hw : s.d.writes ≤ 4611686018427387903) (hev : s.ev.length ≤ 100000) (he : (dDf (abs s.l (s.s : Int) l) (s.s : Int) s.d s.b).e = 0) :
  Calls Tryz.prog 14 #[.pointer (some ⟨x, 0, none⟩), .slice ad bs.length cap] w fun r w' => r = .returned (.tuple #[.slice none 0 0, .int .i64 0]) ∧ ∃ A', Nd w' base x A' (dDe { s with l := abs s.l (s.s : Int) l }) ∧ Mv x A A' w w' := by
 have hmx := mixO
 have hup := up_yes h.obj
 have c1 := h.obj.c1
 have hdc : Calls Tryz.prog 13 #[.slice ad bs.length cap, .int .i64 (s.n : Int)] w fun e w' => ∃ a c, e = .returned (.tuple #[.iface 156 (.agg #[.int .i64 (fr : Int), .slice a l.length c]), .int .i64 0]) ∧ w'.ownsRow w.heap.size 65 3 (.slice a l.length c) l.length (fl l) ∧ Below w.heap.size w w' := (decode_any ad cap bs (s.n : Int) w hr hby hc).mono (by intro e w' hh; unfold DcO at hh; rw [hd] at hh; exact hh)
 obtain ⟨m, hm⟩ : ∃ m, bs.length = m := ⟨_, rfl⟩
 rw [hm] at hdc ⊢
 have HFS : Hid ((fr : Int) ≠ (s.s : Int)) := hfs
 clear hd hm hr hby hc hfs
 go_enter Tryz.func14, Tryz.ntmps14
 go_wp2_with (first | (go_at_call 28; (with_reducible refine hup.mono ?_); rintro r u ⟨rfl, hu⟩; obtain rfl := hu.symm) | (go_at_call 13; (with_reducible refine hdc.mono ?_); rintro r u ⟨a, c, rfl, hrow, hb⟩))
 have hN1 := h.carry hb
 have hrd := RdN.ofRow hrow
 clear hdc hup c1
 rename_i hK
 refine wp_region_any hmx ?_
 refine zwt (G := Unit) (fun g i__ => ([(.iface 156 (.agg #[.int .i64 (fr : Int), .slice a l.length c])), (.int .i64 (fr : Int)), (.pointer (some ⟨x, 0, none⟩)), (.pointer (some ⟨x, 0, none⟩)), (.pointer (some ⟨x, 3, none⟩)), (.int .i64 (s.s : Int)), (.bool false)] : List Value).getD i__ undef) (fun _ d V => Below u.heap.size u V) (by kernel_rfl) (()) ((Below.refl _ _).drew) ?step23 ?fin23
 case step23 =>
  intro i o ho
  have hi : i < 7 := getElem?_lt ho
  match i, hi, ho with
  | 0, _, ho => cases ho; exact zgo fun g d hdep => zmv rfl trivial _ rfl (by kernel_rfl)
  | 1, _, ho => cases ho; exact stepG_invoke rfl (fun _ => trivial) 219 _ "Sender" (.iface 156 (.agg #[.int .i64 (fr : Int), .slice a l.length c])) [.agg #[.int .i64 (fr : Int), .slice a l.length c]] rfl (fun g => by kernel_rfl) (fun w => cmU_Sender _ w) (fun g d V hJ hun hdep hcl => (senderU_any (fr : Int) a l.length c V).mono (by rintro e V' ⟨rfl, hb2⟩; exact ⟨(), rfl, fun j hj => rfl, bel2 hJ hb2⟩))
  | 2, _, ho => cases ho; exact zgo fun g d hdep => zmv rfl trivial _ rfl (by kernel_rfl)
  | 3, _, ho => cases ho; exact zgo fun g d hdep => znc rfl trivial _ _ _ rfl rfl rfl
  | 4, _, ho => cases ho; exact zgo fun g d hdep => zfa rfl trivial _ _ _ _ rfl rfl (fun v hw => (zfn v _).2.2.2.1)
  | 5, _, ho => cases ho; exact zgo fun g d hdep => zld rfl trivial _ _ _ rfl rfl (fun v hw => load_in (hN1.carry hw).obj.c3)
  | 6, _, ho => cases ho; exact zgo fun g d hdep => zbo rfl trivial _ _ _ _ _ _ _ rfl rfl rfl (fun v hw => by have e1 : ((fr : Int) == (s.s : Int)) = false := (by have := HFS.out; simpa using this); rw [← e1]; exact bin_eql _ _ _)
 intro g d W hall hW
 first | refine hK _ _ ?_ | refine (‹∀ (a : Act) (w : World), Code.wp Tryz.prog _ _ a w → _›) _ _ ?_ | skip
 simp only [finL, List.getD_cons_zero, List.getD_cons_succ, Nat.zero_add, Nat.reduceAdd, List.setIfInBounds_toArray, List.set_cons_zero, List.set_cons_succ]
 have hbW : Below u.heap.size u W := hW
 clear hW hall hK
 obtain ⟨W1, rfl⟩ : ∃ W1, W1 = W := ⟨_, rfl⟩
 have hN2 := hN1.carry hbW
 have hr2 := hrd.carry hbW
 have hnr : ∀ q, a = some q → ¬ nown x A q.block := fun q e e2 => by have h1 := (row_lt2 hrow q.block (by rw [ob_eq, e]; rfl)).1; have := h.lt e2; omega
 obtain ⟨s1, hs1⟩ : ∃ s1 : Ns, { s with l := abs s.l (s.s : Int) l } = s1 := ⟨_, rfl⟩
 obtain ⟨T1, hT1⟩ : ∃ T1 : Int, (if l.all (vlx s.l.length) = true then (0 : Int) else 50) = T1 := ⟨_, rfl⟩
 obtain ⟨T2, hT2⟩ : ∃ T2 : Nat, abr s.l (s.s : Int) l = T2 := ⟨_, rfl⟩
 have hab : ∀ V (a' : Option Addr) (c' : Nat), Nd V base x A s → RdN V a' l → Calls Tryz.prog 40 #[.pointer (some ⟨A.bp, 0, none⟩), .int .i64 (s.s : Int), .slice a' l.length c'] V fun e w' => e = .returned (.tuple #[sv T2, .int .i64 T1]) ∧ Nd w' base x A s1 ∧ Mv x A A V w' := fun V a' c' hV hm => by
  have h1 := absorb_any hV.bk (s.s : Int) a' c' l hm hnl
  rw [hT1, hT2] at h1
  refine h1.mono ?_
  rintro r w' ⟨rfl, k1, k2⟩
  obtain ⟨h2, h3⟩ := hV.book k1 k2
  exact ⟨rfl, hs1 ▸ h2, h3⟩
 have hss : s1.s = s.s := by rw [← hs1]
 clear hT1 hT2
 have HS1 : Hid ({ s with l := abs s.l (s.s : Int) l } = s1) := hs1
 clear hs1
 go_wp2
 rename_i hK
 refine wp_region_any hmx ?_
 refine zwt (G := (Option Addr × Nat)) (fun g i__ => ([(.pointer (some ⟨x, 0, none⟩)), (.pointer (some ⟨x, 0, none⟩)), (.pointer (some ⟨x, 4, none⟩)), (.pointer (some ⟨A.bp, 0, none⟩)), (.pointer (some ⟨x, 0, none⟩)), (.pointer (some ⟨x, 0, none⟩)), (.pointer (some ⟨x, 3, none⟩)), (.int .i64 (s.s : Int)), (.iface 156 (.agg #[.int .i64 (fr : Int), .slice a l.length c])), (.slice g.1 l.length g.2), (.tuple #[sv T2, .int .i64 T1])] : List Value).getD i__ undef) (fun g d V => Jn W1 base x A s s1 l g (d 9) (d 10) V) (by kernel_rfl) ((none, 0)) (show Jn W1 base x A s s1 l (none, 0) false false _ from ⟨hN2.carry (Below.refl _ _).drew, Mv.of _ _ (Below.refl _ _).drew, fun e => (by cases e)⟩) ?step24 ?fin24
 case step24 =>
  intro i o ho
  have hi : i < 11 := getElem?_lt ho
  match i, hi, ho with
  | 0, _, ho => cases ho; exact zgo fun g d hdep => zmv rfl trivial _ rfl (by kernel_rfl)
  | 1, _, ho => cases ho; exact zgo fun g d hdep => znc rfl trivial _ _ _ rfl rfl rfl
  | 2, _, ho => cases ho; exact zgo fun g d hdep => zfa rfl trivial _ _ _ _ rfl rfl (fun v hw => (zfn v _).2.2.2.2.1)
  | 3, _, ho => cases ho; exact zgo fun g d hdep => zld rfl trivial _ _ _ rfl rfl (fun v hw => load_bk0 hw.nd.obj.c4)
  | 4, _, ho => cases ho; exact zgo fun g d hdep => zmv rfl trivial _ rfl (by kernel_rfl)
  | 5, _, ho => cases ho; exact zgo fun g d hdep => znc rfl trivial _ _ _ rfl rfl rfl
  | 6, _, ho => cases ho; exact zgo fun g d hdep => zfa rfl trivial _ _ _ _ rfl rfl (fun v hw => (zfn v _).2.2.2.1)
  | 7, _, ho => cases ho; exact zgo fun g d hdep => zld rfl trivial _ _ _ rfl rfl (fun v hw => load_in (by have h3 := hw.nd.obj.c3; split at h3 <;> first | exact h3 | (rw [hss] at h3; exact h3)))
  | 8, _, ho => cases ho; exact zgo fun g d hdep => zmv rfl trivial _ rfl (by kernel_rfl)
  | 9, _, ho => cases ho; exact stepG_invoke rfl (fun _ => trivial) 218 _ "Notices" (.iface 156 (.agg #[.int .i64 (fr : Int), .slice a l.length c])) [.agg #[.int .i64 (fr : Int), .slice a l.length c]] rfl (fun g => by kernel_rfl) (fun w => cmU_Notices _ w) (fun g d V hJ hun hdep hcl => by have h10 : d 10 = false := (by cases h : d 10 with | false => rfl | true => exact absurd (hcl 10 _ rfl h 9 (by kernel_rfl)) (by rw [hun]; simp)); have hJ' := hJ; rw [hun, h10] at hJ'; refine (noticesU_any (fr : Int) a c l V (hr2.mvY hJ'.mv hnr) (by omega)).mono ?_; rintro e V' ⟨a2, c2, rfl, hrw, hb2⟩; refine ⟨(a2, c2), rfl, (fun j hj => match j, hj with | 9, hj => (by rw [hj] at hun; cases hun)  | 0, _ => rfl | 1, _ => rfl | 2, _ => rfl | 3, _ => rfl | 4, _ => rfl | 5, _ => rfl | 6, _ => rfl | 7, _ => rfl | 8, _ => rfl | 10, _ => rfl | _ + 11, _ => rfl), ?_⟩; show Jn W1 base x A s s1 l _ true (d 10) V'; rw [h10]; exact ⟨hJ'.nd.carry hb2, hJ'.mv.trans (Mv.of _ _ hb2), fun _ _ => RdN.ofRow hrw⟩)
  | 10, _, ho => cases ho; exact stepG_call rfl (fun _ => trivial) 40 _ _ (fun g => [.pointer (some ⟨A.bp, 0, none⟩), .int .i64 (s.s : Int), .slice g.1 l.length g.2]) rfl (fun g => by kernel_rfl) (enters_of Tryz.func40 (by kernel_rfl) rfl) (fun g d V hJ hun hdep hcl => by have h9 : d 9 = true := hdep 9 (by kernel_rfl); have hJ' := hJ; rw [h9, hun] at hJ'; refine (hab V g.1 g.2 hJ'.nd (hJ'.row rfl rfl)).mono ?_; rintro e V' ⟨rfl, k1, k2⟩; refine ⟨g, rfl, fun j hj => rfl, ?_⟩; show Jn W1 base x A s s1 l _ (d 9) true V'; rw [h9]; exact ⟨k1, hJ'.mv.trans k2, fun _ e => (by cases e)⟩)
 intro g d W hall hW
 first | refine hK _ _ ?_ | refine (‹∀ (a : Act) (w : World), Code.wp Tryz.prog _ _ a w → _›) _ _ ?_ | skip
 simp only [finL, List.getD_cons_zero, List.getD_cons_succ, Nat.zero_add, Nat.reduceAdd, List.setIfInBounds_toArray, List.set_cons_zero, List.set_cons_succ]
 rw [hall 9 (by decide), hall 10 (by decide)] at hW
 have hN3 : Nd W base x A s1 := hW.nd
 have hM3 := hW.mv
 have hM4 : Mv x A A w W := (Mv.of _ _ (bel2 hb hbW)).trans hM3
 have hE3 : Env W := hEn.low (hM4.below h) hbs
 clear hW hall hK hab
 have q1 : s1.l = abs s.l (s.s : Int) l := by rw [← HS1.out]
 have q2 : s1.d = s.d := by rw [← HS1.out]
 have q3 : s1.b = s.b := by rw [← HS1.out]
 have q4 : s1.ev = s.ev := by rw [← HS1.out]
 have q5 : s1.H = s.H := by rw [← HS1.out]
 have q6 : s1.t = s.t := by rw [← HS1.out]
 have q7 : s1.l.length = s.l.length := by rw [q1]; exact abs_len hbo _ _
 have hde := defendN_any hN3 hE3 hbs (by rw [q1]; exact abs_bok hbo _ _) (by rw [q7]; exact hl1) (by rw [q2]; exact hf) (by rw [q2]; exact hw0) (by rw [q2]; exact hw) (by rw [q4]; exact hev)
 have qF : dDf s1.l (s1.s : Int) s1.d s1.b = (dDf (abs s.l (s.s : Int) l) (s.s : Int) s.d s.b) := by rw [q1, q2, q3, hss]
 rw [qF] at hde
 obtain ⟨s2, hs2⟩ : ∃ s2, dDe s1 = s2 := ⟨_, rfl⟩
 have HS2 : Hid (dDe { s with l := abs s.l (s.s : Int) l } = s2) := by show dDe _ = s2; rw [HS1.out]; exact hs2
 rw [hs2] at hde
 rw [he] at hde
 have k1 : s2.l.length = s.l.length := by rw [← hs2, dDe_len, q7]
 have k2 : s2.H = s.H := by rw [← hs2, dDe_H, q5]
 have k3 : s2.t = s.t := by rw [← hs2, dDe_t, q6]
 have k4 : s2.n = s.n ∧ s2.s = s.s := by rw [← hs2]; exact ⟨(dDe_n s1).trans (by rw [← HS1.out]), (dDe_s s1).trans hss⟩
 have hfl0 : flV 0 = .nilIface := rfl
 rw [hfl0] at hde
 have hst0 := settle0 (.pointer (some ⟨x, 0, none⟩))
 have hdd := deeds_any
 clear qF q1 q2 q3 q4 q5 q6 q7 hs2 hfl0 he
 have hkd := kindU_any (fr : Int) a l.length c
 have mU_Kind := invU_Kind
 go_wp2_with (first
  | (go_at_call 42; (with_reducible refine hde.mono ?_); rintro r u5 ⟨rfl, A5, hN5, hM5⟩)
  | (go_at_call 41; (with_reducible refine (hst0 _).mono ?_); rintro r u6 ⟨rfl, hb6⟩)
  | (go_at_call 43; (with_reducible refine (hdd _).mono ?_); rintro r u7 ⟨rfl, hg7, hb7⟩)
  | (go_at_call 217; (with_reducible refine (hkd _).mono ?_); rintro r u8 ⟨rfl, hb8⟩; have g8 := (hb8.block _ (zla hg7)).trans hg7; have f8 : u8.cell? ⟨u6.heap.size, 3, none⟩ = some (.func (.func 91) #[] #[]) := (zca g8 3).trans rfl; have hdo := npass_any (.pointer (some ⟨x, 0, none⟩)) (.iface 156 (.agg #[.int .i64 (fr : Int), .slice a l.length c])) u8)
  | (go_at_call 91; (with_reducible refine hdo.mono ?_); rintro r u9 ⟨rfl, hu9⟩; obtain rfl := hu9.symm))
 go_ret2
 rw [HS2.out]
 exact ⟨rfl, A5, hN5.carry (bel2 hb6 (bel2 hb7 hb8)), (hM4.trans hM5).trans (Mv.of _ _ (bel2 hb6 (bel2 hb7 hb8)))⟩
end
end Go.Proofs.YtekjhcnaabpfmaaGreatDoor
namespace Go.Proofs.YtekjhcnaabpfmaaGreatDoor
open Go.RowKit Go.Shelf Go.Lib
attribute [local go_sem] Oper.semAt_some
section
variable {w W : World} {base x : Nat} {A : NA} {s : Ns}
theorem hearQ_self (h : Nd w base x A s) {ad : Option Addr} {cap : Nat} {bs : List Nat} (hr : RdBW w ad bs) (hby : BytW bs) (hc : bs.length ≤ cap) {fr rd N : Nat} {l : List N3} (hd : dec (s.n : Int) bs = .ok (1, fr, rd, N, l)) (hnl : l.length ≤ 1000000) (hfs : (fr : Int) = (s.s : Int)) :
  Calls Tryz.prog 14 #[.pointer (some ⟨x, 0, none⟩), .slice ad bs.length cap] w fun r w' => r = .returned (.tuple #[.slice none 0 0, .int .i64 72]) ∧ Below w.heap.size w w' := by
 have hmx := mixO
 have hup := up_yes h.obj
 have c1 := h.obj.c1
 have hdc : Calls Tryz.prog 13 #[.slice ad bs.length cap, .int .i64 (s.n : Int)] w fun e w' => ∃ a c, e = .returned (.tuple #[.iface 71 (.agg #[.int .i64 (fr : Int), .int .i64 (rd : Int), .slice a l.length c]), .int .i64 0]) ∧ w'.ownsRow w.heap.size 65 3 (.slice a l.length c) l.length (fl l) ∧ Below w.heap.size w w' := (decode_any ad cap bs (s.n : Int) w hr hby hc).mono (by intro e w' hh; unfold DcO at hh; rw [hd] at hh; exact hh)
 obtain ⟨m, hm⟩ : ∃ m, bs.length = m := ⟨_, rfl⟩
 rw [hm] at hdc ⊢
 have HFS : Hid ((fr : Int) = (s.s : Int)) := hfs
 clear hd hm hr hby hc hfs
 go_enter Tryz.func14, Tryz.ntmps14
 go_wp2_with (first | (go_at_call 28; (with_reducible refine hup.mono ?_); rintro r u ⟨rfl, hu⟩; obtain rfl := hu.symm) | (go_at_call 13; (with_reducible refine hdc.mono ?_); rintro r u ⟨a, c, rfl, hrow, hb⟩))
 have hN1 := h.carry hb
 have hrd := RdN.ofRow hrow
 clear hdc hup c1
 rename_i hK
 refine wp_region_any hmx ?_
 refine zwt (G := Unit) (fun g i__ => ([(.iface 71 (.agg #[.int .i64 (fr : Int), .int .i64 (rd : Int), .slice a l.length c])), (.int .i64 (fr : Int)), (.pointer (some ⟨x, 0, none⟩)), (.pointer (some ⟨x, 0, none⟩)), (.pointer (some ⟨x, 3, none⟩)), (.int .i64 (s.s : Int)), (.bool true)] : List Value).getD i__ undef) (fun _ d V => Below u.heap.size u V) (by kernel_rfl) (()) ((Below.refl _ _).drew) ?step16 ?fin16
 case step16 =>
  intro i o ho
  have hi : i < 7 := getElem?_lt ho
  match i, hi, ho with
  | 0, _, ho => cases ho; exact zgo fun g d hdep => zmv rfl trivial _ rfl (by kernel_rfl)
  | 1, _, ho => cases ho; exact stepG_invoke rfl (fun _ => trivial) 214 _ "Sender" (.iface 71 (.agg #[.int .i64 (fr : Int), .int .i64 (rd : Int), .slice a l.length c])) [.agg #[.int .i64 (fr : Int), .int .i64 (rd : Int), .slice a l.length c]] rfl (fun g => by kernel_rfl) (fun w => cmQ_Sender _ w) (fun g d V hJ hun hdep hcl => (senderQ_any (fr : Int) (rd : Int) a l.length c V).mono (by rintro e V' ⟨rfl, hb2⟩; exact ⟨(), rfl, fun j hj => rfl, bel2 hJ hb2⟩))
  | 2, _, ho => cases ho; exact zgo fun g d hdep => zmv rfl trivial _ rfl (by kernel_rfl)
  | 3, _, ho => cases ho; exact zgo fun g d hdep => znc rfl trivial _ _ _ rfl rfl rfl
  | 4, _, ho => cases ho; exact zgo fun g d hdep => zfa rfl trivial _ _ _ _ rfl rfl (fun v hw => (zfn v _).2.2.2.1)
  | 5, _, ho => cases ho; exact zgo fun g d hdep => zld rfl trivial _ _ _ rfl rfl (fun v hw => load_in (hN1.carry hw).obj.c3)
  | 6, _, ho => cases ho; exact zgo fun g d hdep => zbo rfl trivial _ _ _ _ _ _ _ rfl rfl rfl (fun v hw => by have e1 : ((fr : Int) == (s.s : Int)) = true := (by have := HFS.out; simpa using this); rw [← e1]; exact bin_eql _ _ _)
 intro g d W hall hW
 first | refine hK _ _ ?_ | refine (‹∀ (a : Act) (w : World), Code.wp Tryz.prog _ _ a w → _›) _ _ ?_ | skip
 simp only [finL, List.getD_cons_zero, List.getD_cons_succ, Nat.zero_add, Nat.reduceAdd, List.setIfInBounds_toArray, List.set_cons_zero, List.set_cons_succ]
 have hbW : Below u.heap.size u W := hW
 clear hW hall hK
 go_wp2
 go_ret2
 exact ⟨rfl, bel2 hb hbW⟩
theorem hearQ_ok (h : Nd w base x A s) {ad : Option Addr} {cap : Nat} {bs : List Nat} (hr : RdBW w ad bs) (hby : BytW bs) (hc : bs.length ≤ cap) {fr rd N : Nat} {l : List N3} (hd : dec (s.n : Int) bs = .ok (1, fr, rd, N, l)) (hnl : l.length ≤ 1000000) (hfs : (fr : Int) ≠ (s.s : Int)) (hEn : Env w) (hbs : 2 < base) (hbo : Bok s.l) (hl0 : 0 < s.l.length) (hl1 : s.l.length ≤ 100) (hf : Fz s.d) (hw0 : 0 ≤ s.d.writes) (hw : s.d.writes ≤ 4611686018427387903) (hev : s.ev.length ≤ 100000) (he : (dDf (abs s.l (s.s : Int) l) (s.s : Int) s.d s.b).e = 0) (hH : s.H < S128) :
  Calls Tryz.prog 14 #[.pointer (some ⟨x, 0, none⟩), .slice ad bs.length cap] w fun r w' => HqO w base x A (fr : Int) (rd : Int) (dDe { s with l := abs s.l (s.s : Int) l }) r w' := by
 have hmx := mixO
 have hup := up_yes h.obj
 have c1 := h.obj.c1
 have hdc : Calls Tryz.prog 13 #[.slice ad bs.length cap, .int .i64 (s.n : Int)] w fun e w' => ∃ a c, e = .returned (.tuple #[.iface 71 (.agg #[.int .i64 (fr : Int), .int .i64 (rd : Int), .slice a l.length c]), .int .i64 0]) ∧ w'.ownsRow w.heap.size 65 3 (.slice a l.length c) l.length (fl l) ∧ Below w.heap.size w w' := (decode_any ad cap bs (s.n : Int) w hr hby hc).mono (by intro e w' hh; unfold DcO at hh; rw [hd] at hh; exact hh)
 obtain ⟨m, hm⟩ : ∃ m, bs.length = m := ⟨_, rfl⟩
 rw [hm] at hdc ⊢
 have HFS : Hid ((fr : Int) ≠ (s.s : Int)) := hfs
 clear hd hm hr hby hc hfs
 go_enter Tryz.func14, Tryz.ntmps14
 go_wp2_with (first | (go_at_call 28; (with_reducible refine hup.mono ?_); rintro r u ⟨rfl, hu⟩; obtain rfl := hu.symm) | (go_at_call 13; (with_reducible refine hdc.mono ?_); rintro r u ⟨a, c, rfl, hrow, hb⟩))
 have hN1 := h.carry hb
 have hrd := RdN.ofRow hrow
 clear hdc hup c1
 rename_i hK
 refine wp_region_any hmx ?_
 refine zwt (G := Unit) (fun g i__ => ([(.iface 71 (.agg #[.int .i64 (fr : Int), .int .i64 (rd : Int), .slice a l.length c])), (.int .i64 (fr : Int)), (.pointer (some ⟨x, 0, none⟩)), (.pointer (some ⟨x, 0, none⟩)), (.pointer (some ⟨x, 3, none⟩)), (.int .i64 (s.s : Int)), (.bool false)] : List Value).getD i__ undef) (fun _ d V => Below u.heap.size u V) (by kernel_rfl) (()) ((Below.refl _ _).drew) ?step17 ?fin17
 case step17 =>
  intro i o ho
  have hi : i < 7 := getElem?_lt ho
  match i, hi, ho with
  | 0, _, ho => cases ho; exact zgo fun g d hdep => zmv rfl trivial _ rfl (by kernel_rfl)
  | 1, _, ho => cases ho; exact stepG_invoke rfl (fun _ => trivial) 214 _ "Sender" (.iface 71 (.agg #[.int .i64 (fr : Int), .int .i64 (rd : Int), .slice a l.length c])) [.agg #[.int .i64 (fr : Int), .int .i64 (rd : Int), .slice a l.length c]] rfl (fun g => by kernel_rfl) (fun w => cmQ_Sender _ w) (fun g d V hJ hun hdep hcl => (senderQ_any (fr : Int) (rd : Int) a l.length c V).mono (by rintro e V' ⟨rfl, hb2⟩; exact ⟨(), rfl, fun j hj => rfl, bel2 hJ hb2⟩))
  | 2, _, ho => cases ho; exact zgo fun g d hdep => zmv rfl trivial _ rfl (by kernel_rfl)
  | 3, _, ho => cases ho; exact zgo fun g d hdep => znc rfl trivial _ _ _ rfl rfl rfl
  | 4, _, ho => cases ho; exact zgo fun g d hdep => zfa rfl trivial _ _ _ _ rfl rfl (fun v hw => (zfn v _).2.2.2.1)
  | 5, _, ho => cases ho; exact zgo fun g d hdep => zld rfl trivial _ _ _ rfl rfl (fun v hw => load_in (hN1.carry hw).obj.c3)
  | 6, _, ho => cases ho; exact zgo fun g d hdep => zbo rfl trivial _ _ _ _ _ _ _ rfl rfl rfl (fun v hw => by have e1 : ((fr : Int) == (s.s : Int)) = false := (by have := HFS.out; simpa using this); rw [← e1]; exact bin_eql _ _ _)
 intro g d W hall hW
 first | refine hK _ _ ?_ | refine (‹∀ (a : Act) (w : World), Code.wp Tryz.prog _ _ a w → _›) _ _ ?_ | skip
 simp only [finL, List.getD_cons_zero, List.getD_cons_succ, Nat.zero_add, Nat.reduceAdd, List.setIfInBounds_toArray, List.set_cons_zero, List.set_cons_succ]
 have hbW : Below u.heap.size u W := hW
 clear hW hall hK
 obtain ⟨W1, rfl⟩ : ∃ W1, W1 = W := ⟨_, rfl⟩
 have hN2 := hN1.carry hbW
 have hr2 := hrd.carry hbW
 have hnr : ∀ q, a = some q → ¬ nown x A q.block := fun q e e2 => by have h1 := (row_lt2 hrow q.block (by rw [ob_eq, e]; rfl)).1; have := h.lt e2; omega
 obtain ⟨s1, hs1⟩ : ∃ s1 : Ns, { s with l := abs s.l (s.s : Int) l } = s1 := ⟨_, rfl⟩
 obtain ⟨T1, hT1⟩ : ∃ T1 : Int, (if l.all (vlx s.l.length) = true then (0 : Int) else 50) = T1 := ⟨_, rfl⟩
 obtain ⟨T2, hT2⟩ : ∃ T2 : Nat, abr s.l (s.s : Int) l = T2 := ⟨_, rfl⟩
 have hab : ∀ V (a' : Option Addr) (c' : Nat), Nd V base x A s → RdN V a' l → Calls Tryz.prog 40 #[.pointer (some ⟨A.bp, 0, none⟩), .int .i64 (s.s : Int), .slice a' l.length c'] V fun e w' => e = .returned (.tuple #[sv T2, .int .i64 T1]) ∧ Nd w' base x A s1 ∧ Mv x A A V w' := fun V a' c' hV hm => by
  have h1 := absorb_any hV.bk (s.s : Int) a' c' l hm hnl
  rw [hT1, hT2] at h1
  refine h1.mono ?_
  rintro r w' ⟨rfl, k1, k2⟩
  obtain ⟨h2, h3⟩ := hV.book k1 k2
  exact ⟨rfl, hs1 ▸ h2, h3⟩
 have hss : s1.s = s.s := by rw [← hs1]
 clear hT1 hT2
 have HS1 : Hid ({ s with l := abs s.l (s.s : Int) l } = s1) := hs1
 clear hs1
 go_wp2
 rename_i hK
 refine wp_region_any hmx ?_
 refine zwt (G := (Option Addr × Nat)) (fun g i__ => ([(.pointer (some ⟨x, 0, none⟩)), (.pointer (some ⟨x, 0, none⟩)), (.pointer (some ⟨x, 4, none⟩)), (.pointer (some ⟨A.bp, 0, none⟩)), (.pointer (some ⟨x, 0, none⟩)), (.pointer (some ⟨x, 0, none⟩)), (.pointer (some ⟨x, 3, none⟩)), (.int .i64 (s.s : Int)), (.iface 71 (.agg #[.int .i64 (fr : Int), .int .i64 (rd : Int), .slice a l.length c])), (.slice g.1 l.length g.2), (.tuple #[sv T2, .int .i64 T1])] : List Value).getD i__ undef) (fun g d V => Jn W1 base x A s s1 l g (d 9) (d 10) V) (by kernel_rfl) ((none, 0)) (show Jn W1 base x A s s1 l (none, 0) false false _ from ⟨hN2.carry (Below.refl _ _).drew, Mv.of _ _ (Below.refl _ _).drew, fun e => (by cases e)⟩) ?step18 ?fin18
 case step18 =>
  intro i o ho
  have hi : i < 11 := getElem?_lt ho
  match i, hi, ho with
  | 0, _, ho => cases ho; exact zgo fun g d hdep => zmv rfl trivial _ rfl (by kernel_rfl)
  | 1, _, ho => cases ho; exact zgo fun g d hdep => znc rfl trivial _ _ _ rfl rfl rfl
  | 2, _, ho => cases ho; exact zgo fun g d hdep => zfa rfl trivial _ _ _ _ rfl rfl (fun v hw => (zfn v _).2.2.2.2.1)
  | 3, _, ho => cases ho; exact zgo fun g d hdep => zld rfl trivial _ _ _ rfl rfl (fun v hw => load_bk0 hw.nd.obj.c4)
  | 4, _, ho => cases ho; exact zgo fun g d hdep => zmv rfl trivial _ rfl (by kernel_rfl)
  | 5, _, ho => cases ho; exact zgo fun g d hdep => znc rfl trivial _ _ _ rfl rfl rfl
  | 6, _, ho => cases ho; exact zgo fun g d hdep => zfa rfl trivial _ _ _ _ rfl rfl (fun v hw => (zfn v _).2.2.2.1)
  | 7, _, ho => cases ho; exact zgo fun g d hdep => zld rfl trivial _ _ _ rfl rfl (fun v hw => load_in (by have h3 := hw.nd.obj.c3; split at h3 <;> first | exact h3 | (rw [hss] at h3; exact h3)))
  | 8, _, ho => cases ho; exact zgo fun g d hdep => zmv rfl trivial _ rfl (by kernel_rfl)
  | 9, _, ho => cases ho; exact stepG_invoke rfl (fun _ => trivial) 213 _ "Notices" (.iface 71 (.agg #[.int .i64 (fr : Int), .int .i64 (rd : Int), .slice a l.length c])) [.agg #[.int .i64 (fr : Int), .int .i64 (rd : Int), .slice a l.length c]] rfl (fun g => by kernel_rfl) (fun w => cmQ_Notices _ w) (fun g d V hJ hun hdep hcl => by have h10 : d 10 = false := (by cases h : d 10 with | false => rfl | true => exact absurd (hcl 10 _ rfl h 9 (by kernel_rfl)) (by rw [hun]; simp)); have hJ' := hJ; rw [hun, h10] at hJ'; refine (noticesQ_any (fr : Int) (rd : Int) a c l V (hr2.mvY hJ'.mv hnr) (by omega)).mono ?_; rintro e V' ⟨a2, c2, rfl, hrw, hb2⟩; refine ⟨(a2, c2), rfl, (fun j hj => match j, hj with | 9, hj => (by rw [hj] at hun; cases hun)  | 0, _ => rfl | 1, _ => rfl | 2, _ => rfl | 3, _ => rfl | 4, _ => rfl | 5, _ => rfl | 6, _ => rfl | 7, _ => rfl | 8, _ => rfl | 10, _ => rfl | _ + 11, _ => rfl), ?_⟩; show Jn W1 base x A s s1 l _ true (d 10) V'; rw [h10]; exact ⟨hJ'.nd.carry hb2, hJ'.mv.trans (Mv.of _ _ hb2), fun _ _ => RdN.ofRow hrw⟩)
  | 10, _, ho => cases ho; exact stepG_call rfl (fun _ => trivial) 40 _ _ (fun g => [.pointer (some ⟨A.bp, 0, none⟩), .int .i64 (s.s : Int), .slice g.1 l.length g.2]) rfl (fun g => by kernel_rfl) (enters_of Tryz.func40 (by kernel_rfl) rfl) (fun g d V hJ hun hdep hcl => by have h9 : d 9 = true := hdep 9 (by kernel_rfl); have hJ' := hJ; rw [h9, hun] at hJ'; refine (hab V g.1 g.2 hJ'.nd (hJ'.row rfl rfl)).mono ?_; rintro e V' ⟨rfl, k1, k2⟩; refine ⟨g, rfl, fun j hj => rfl, ?_⟩; show Jn W1 base x A s s1 l _ (d 9) true V'; rw [h9]; exact ⟨k1, hJ'.mv.trans k2, fun _ e => (by cases e)⟩)
 intro g d W hall hW
 first | refine hK _ _ ?_ | refine (‹∀ (a : Act) (w : World), Code.wp Tryz.prog _ _ a w → _›) _ _ ?_ | skip
 simp only [finL, List.getD_cons_zero, List.getD_cons_succ, Nat.zero_add, Nat.reduceAdd, List.setIfInBounds_toArray, List.set_cons_zero, List.set_cons_succ]
 rw [hall 9 (by decide), hall 10 (by decide)] at hW
 have hN3 : Nd W base x A s1 := hW.nd
 have hM3 := hW.mv
 have hM4 : Mv x A A w W := (Mv.of _ _ (bel2 hb hbW)).trans hM3
 have hE3 : Env W := hEn.low (hM4.below h) hbs
 clear hW hall hK hab
 have q1 : s1.l = abs s.l (s.s : Int) l := by rw [← HS1.out]
 have q2 : s1.d = s.d := by rw [← HS1.out]
 have q3 : s1.b = s.b := by rw [← HS1.out]
 have q4 : s1.ev = s.ev := by rw [← HS1.out]
 have q5 : s1.H = s.H := by rw [← HS1.out]
 have q6 : s1.t = s.t := by rw [← HS1.out]
 have q7 : s1.l.length = s.l.length := by rw [q1]; exact abs_len hbo _ _
 have hde := defendN_any hN3 hE3 hbs (by rw [q1]; exact abs_bok hbo _ _) (by rw [q7]; exact hl1) (by rw [q2]; exact hf) (by rw [q2]; exact hw0) (by rw [q2]; exact hw) (by rw [q4]; exact hev)
 have qF : dDf s1.l (s1.s : Int) s1.d s1.b = (dDf (abs s.l (s.s : Int) l) (s.s : Int) s.d s.b) := by rw [q1, q2, q3, hss]
 rw [qF] at hde
 obtain ⟨s2, hs2⟩ : ∃ s2, dDe s1 = s2 := ⟨_, rfl⟩
 have HS2 : Hid (dDe { s with l := abs s.l (s.s : Int) l } = s2) := by show dDe _ = s2; rw [HS1.out]; exact hs2
 rw [hs2] at hde
 rw [he] at hde
 have k1 : s2.l.length = s.l.length := by rw [← hs2, dDe_len, q7]
 have k2 : s2.H = s.H := by rw [← hs2, dDe_H, q5]
 have k3 : s2.t = s.t := by rw [← hs2, dDe_t, q6]
 have k4 : s2.n = s.n ∧ s2.s = s.s := by rw [← hs2]; exact ⟨(dDe_n s1).trans (by rw [← HS1.out]), (dDe_s s1).trans hss⟩
 have hfl0 : flV 0 = .nilIface := rfl
 rw [hfl0] at hde
 have hst0 := settle0 (.pointer (some ⟨x, 0, none⟩))
 have hdd := deeds_any
 clear qF q1 q2 q3 q4 q5 q6 q7 hs2 hfl0 he
 have hkd := kindQ_any (fr : Int) (rd : Int) a l.length c
 have mQ_Kind := invQ_Kind
 go_wp2_with (first
  | (go_at_call 42; (with_reducible refine hde.mono ?_); rintro r u5 ⟨rfl, A5, hN5, hM5⟩)
  | (go_at_call 41; (with_reducible refine (hst0 _).mono ?_); rintro r u6 ⟨rfl, hb6⟩)
  | (go_at_call 43; (with_reducible refine (hdd _).mono ?_); rintro r u7 ⟨rfl, hg7, hb7⟩)
  | (go_at_call 212; (with_reducible refine (hkd _).mono ?_); rintro r u8 ⟨rfl, hb8⟩; have g8 := (hb8.block _ (zla hg7)).trans hg7; have f8 : u8.cell? ⟨u6.heap.size, 1, none⟩ = some (.func (.func 89) #[] #[]) := (zca g8 1).trans rfl; have hdo := nreply_any (hN5.carry (bel2 hb6 (bel2 hb7 hb8))) (by rw [k1]; exact hl0) (by rw [k1]; exact hl1) (by rw [k2]; exact hH) (fr : Int) (rd : Int) a l.length c)
  | (go_at_call 89; (with_reducible refine hdo.mono ?_); rintro r u9 ⟨v9, o9, rfl, ho9, hs9, hN9, hb9⟩))
 go_ret2
 rw [HS2.out]
 unfold HqO
 exact ⟨_, o9, A5, rfl, ho9.base (Nat.le_trans hM4.size (Nat.le_trans hM5.size (bel2 hb6 (bel2 hb7 hb8)).size)), hs9, hN9, (hM4.trans hM5).trans (Mv.of _ _ (bel2 (bel2 hb6 (bel2 hb7 hb8)) hb9))⟩
end
end Go.Proofs.YtekjhcnaabpfmaaGreatDoor
