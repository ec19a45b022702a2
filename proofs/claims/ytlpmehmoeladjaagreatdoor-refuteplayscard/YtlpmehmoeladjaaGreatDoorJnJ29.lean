/- The document's Defend: what it answers. -/
import Derived.Test.YtlpmehmoeladjaaGreatDoorJnJ25
import Derived.Test.YtlpmehmoeladjaaGreatDoorJnJ28
import Derived.Deep.RegionWith
import Derived.Test.YtlpmehmoeladjaaGreatDoorRgf
namespace Go.Proofs.YtlpmehmoeladjaaGreatDoor
open Go.RowKit Go.Shelf Go.Lib

theorem retRN {f : Func} {p s q r : Tmp} {R : Ending → World → Prop} {a : Act} {w : World} {b B n c : Nat} {ad : Option Addr} {o t k : Int} {x y : Value} (hres : f.results = #[.cell p 46, .cell s 60, .tmp q, .tmp r]) (hp : a.tmps.getD p undef = .pointer (some ⟨b, 0, none⟩)) (hs : a.tmps.getD s undef = .pointer (some ⟨B, 0, none⟩)) (hq : a.tmps.getD q undef = x) (hr : a.tmps.getD r undef = y) (hd : a.defers = []) (h : RB w b (.slice ad n c)) (h2 : NB w B o t k) (hR : R (.returned (.tuple #[.agg #[.slice ad n c], nt o t k, x, y])) w) : bodyPost Tryz.prog f R .ret a w := by
  refine bodyPost_ret (v := .tuple #[.agg #[.slice ad n c], nt o t k, x, y]) ?_ hd hR
  have h1 := run_loadVar_row (P := Tryz.prog) w B 60 60 #[.int .i64 o, .int .i64 t, .int .i64 k] (0, 0) _ h2 Tryz.underlying60 rfl (by kernel_rfl)
  have h3 := run_loadVar_row (P := Tryz.prog) w b 46 46 #[.slice ad n c] (0, 0) _ h Tryz.underlying46 rfl (by kernel_rfl)
  have hp' : a.tmps[p]?.getD undef = .pointer (some ⟨b, 0, none⟩) := by simpa using hp
  have hs' : a.tmps[s]?.getD undef = .pointer (some ⟨B, 0, none⟩) := by simpa using hs
  have hq' : a.tmps[q]?.getD undef = x := by simpa using hq
  have hr' : a.tmps[r]?.getD undef = y := by simpa using hr
  simp [results, hres, hp', hs', hq', hr', asAddr, h1, h3]
  rfl
theorem stepG_ofC {G : Type} {P : Program} {md : Region.Mode} {ops : Array Oper} {Q : Exit → Act → World → Prop} {X0 : Array Value} {val : G → Nat → Value} {J : G → (Nat → Bool) → World → Prop} {i : Nat} {o : Oper}
    (h : ∀ g d, d i = false → (∀ j, bindsOn md o j = true → d j = true) → (∀ j oj, ops[j]? = some oj → d j = true → ∀ k, bindsOn md oj k = true → d k = true) → StepAt P md ops Q X0 (val g) (J g d) (J g (fun j => if j = i then true else d j)) i o) : StepG P md ops Q X0 val J i o := by
  intro g d a w hJ hun hdep hcl hS
  exact wpOp_mono (fun a' w' hq => ⟨g, fun _ _ => rfl, hq.1, hq.2⟩) (h g d hun hdep hcl a w hJ hS)
theorem Below.heap_setCells3 (W : World) (k B : Nat) (o t q : Int) (h : k ≠ B) : (W3 W B o t q).heap[k]? = W.heap[k]? := other3 h o t q
section
variable {w : World} {kb lb base r c N cap : Nat} {ad : Option Addr} {L : List N3} {b : Bo} {d : Dst}
/-- While the document's Defend goes on: its own boxes. -/
structure JQ (w : World) (ad : Option Addr) (N cap : Nat) (V : World) : Prop where
  b0 : RB V w.heap.size (.slice ad N cap)
  b1 : RB V (w.heap.size + 1) (.slice none 0 0)
  x : NB V (w.heap.size + 2) 0 0 0
theorem JQ.carry {V V' : World} (h : JQ w ad N cap V) (hb : Below V.heap.size V V') : JQ w ad N cap V' := ⟨h.b0.carry hb, h.b1.carry hb, h.x.carry hb⟩
theorem JQ.t3 {V V' : World} (h : JQ w ad N cap V) {x y z : Nat} (ht : T3 x y z V V') (h1 : x < w.heap.size) (h2 : y < w.heap.size) (h3 : z < w.heap.size) : JQ w ad N cap V' :=
  ⟨(ht.block _ (lt_at h.b0) (by omega) (by omega) (by omega)).trans h.b0, (ht.block _ (lt_at h.b1) (by omega) (by omega) (by omega)).trans h.b1, (ht.block _ h.x.lt (by omega) (by omega) (by omega)).trans h.x⟩
theorem T3.low {x y z : Nat} {W V U : World} (h : Below w.heap.size w W) (ht : T3 x y z W V) (hb : Below w.heap.size V U) : T3 x y z w U :=
  ⟨hb.os.trans (ht.os.trans h.os), hb.tape.trans (ht.tape.trans h.tape), hb.output.trans (ht.output.trans h.output), Nat.le_trans h.size (Nat.le_trans ht.size hb.size), fun k hk h1 h2 h3 => (hb.block k hk).trans ((ht.block k (Nat.lt_of_lt_of_le hk h.size) h1 h2 h3).trans (h.block k hk))⟩
theorem BB.low {W V : World} {g q p l n : Nat} (h : BB W g q p l b) (hb : Below n W V) (h1 : g < n) : BB V g q p l b := (hb.block _ h1).trans h
theorem RfD.low {W V : World} {n : Nat} (h : RfD W lb 0 base r c d) (hb : Below n W V) (h1 : lb < n) (h2 : r < n) : RfD V lb 0 base r c d := h.same (hb.block _ h1) (hb.block _ h2)
theorem RdN.t3 {W V : World} {l : List N3} {x y z : Nat} (h : RdN W ad l) (ht : T3 x y z W V) (hn : l ≠ [] → ∀ a, ad = some a → a.block ≠ x ∧ a.block ≠ y ∧ a.block ≠ z) : RdN V ad l := by
  intro hl
  obtain ⟨b, off, rfl, hb, hat⟩ := h hl
  obtain ⟨h1, h2, h3⟩ := hn hl _ rfl
  have e := ht.block b hb h1 h2 h3
  refine ⟨b, off, rfl, Nat.lt_of_lt_of_le hb ht.size, fun k x hx => ?_⟩
  obtain ⟨k1, k2, k3⟩ := hat k x hx
  exact ⟨(World.cell?_of_block (a := ⟨b, _, none⟩) e).trans k1, (World.cell?_of_block (a := ⟨b, _, none⟩) e).trans k2, (World.cell?_of_block (a := ⟨b, _, none⟩) e).trans k3⟩
theorem RdN.low {W V : World} {l : List N3} {n : Nat} (h : RdN W ad l) (hb : Below n W V) (hn : l ≠ [] → ∀ a, ad = some a → a.block < n) : RdN V ad l := by
  intro hl
  obtain ⟨b, off, rfl, hbb, hat⟩ := h hl
  have e := hb.block b (hn hl _ rfl)
  refine ⟨b, off, rfl, Nat.lt_of_lt_of_le hbb hb.size, fun k x hx => ?_⟩
  obtain ⟨k1, k2, k3⟩ := hat k x hx
  exact ⟨(World.cell?_of_block (a := ⟨b, _, none⟩) e).trans k1, (World.cell?_of_block (a := ⟨b, _, none⟩) e).trans k2, (World.cell?_of_block (a := ⟨b, _, none⟩) e).trans k3⟩
end
end Go.Proofs.YtlpmehmoeladjaaGreatDoor
namespace Go.Proofs.YtlpmehmoeladjaaGreatDoor
open Go.RowKit Go.Shelf Go.Lib

section
variable {w : World} {kb lb base r c N cap : Nat} {ad : Option Addr} {L : List N3} {b : Bo} {d : Dst}
/-- While the last region goes on. -/
structure JV (w W3w : World) (ad' : Option Addr) (N cap' : Nat) (X B : Nat) (o t k : Int) (p q : Bool) (V : World) : Prop where
  r3 : RB V X (.slice ad' N cap')
  n : NB V B o t k
  b1 : ∃ ad1 n1 c1, RB V (w.heap.size + 1) (.slice ad1 n1 c1) ∧ (p = true → ad1 = ad' ∧ n1 = N ∧ c1 = cap')
  x : ∃ o1 t1 k1, NB V (w.heap.size + 2) o1 t1 k1 ∧ (q = true → o1 = o ∧ t1 = t ∧ k1 = k)
  bl : Tq (w.heap.size + 1) (w.heap.size + 2) W3w V
theorem JV.drew {W3w V : World} {ad' : Option Addr} {cap' X B : Nat} {o t k : Int} {p q : Bool} (h : JV w W3w ad' N cap' X B o t k p q V) : JV w W3w ad' N cap' X B o t k p q V.drew := ⟨h.r3, h.n, h.b1, h.x, h.bl.trans (Tq.of _ _ (Below.refl _ _).drew)⟩
theorem JV.st1 {W3w V : World} {ad' : Option Addr} {cap' X B : Nat} {o t k : Int} {p q : Bool} (h : JV w W3w ad' N cap' X B o t k p q V) (hX : w.heap.size + 2 < X) (hB : w.heap.size + 2 < B) : ∃ V', (Instr.storeAt 46 (.pointer (some ⟨w.heap.size + 1, 0, none⟩)) (.agg #[.slice ad' N cap'])).run Tryz.prog V = .ok () V' ∧ JV w W3w ad' N cap' X B o t k true q V' := by
  obtain ⟨ad1, n1, c1, h1, _⟩ := h.b1
  obtain ⟨o1, t1, k1, h2, h3⟩ := h.x
  refine ⟨_, store_rb h1, ?_⟩
  exact ⟨h.r3.other (by omega), (Below.heap_setCell _ _ _ _ (show B ≠ w.heap.size + 1 by omega)).trans h.n, ⟨_, _, _, h1.set _, fun _ => ⟨rfl, rfl, rfl⟩⟩, ⟨_, _, _, (Below.heap_setCell _ _ _ _ (show w.heap.size + 2 ≠ w.heap.size + 1 by omega)).trans h2, h3⟩, h.bl.trans (Tq.tp _ (Tp.set _ _ _ _))⟩
theorem JV.st2 {W3w V : World} {ad' : Option Addr} {cap' X B : Nat} {o t k : Int} {p q : Bool} (h : JV w W3w ad' N cap' X B o t k p q V) (hX : w.heap.size + 2 < X) (hB : w.heap.size + 2 < B) : ∃ V', (Instr.storeAt 60 (.pointer (some ⟨w.heap.size + 2, 0, none⟩)) (nt o t k)).run Tryz.prog V = .ok () V' ∧ JV w W3w ad' N cap' X B o t k p true V' := by
  obtain ⟨ad1, n1, c1, h1, h4⟩ := h.b1
  obtain ⟨o1, t1, k1, h2, h3⟩ := h.x
  refine ⟨_, store_nt h2 o t k, ?_⟩
  exact ⟨(other3 (show X ≠ w.heap.size + 2 by omega) _ _ _).trans h.r3, (other3 (show B ≠ w.heap.size + 2 by omega) _ _ _).trans h.n, ⟨_, _, _, (other3 (show w.heap.size + 1 ≠ w.heap.size + 2 by omega) _ _ _).trans h1, h4⟩, ⟨_, _, _, h2.set o t k, fun _ => ⟨rfl, rfl, rfl⟩⟩, h.bl.trans (Tq.tp2 _ (((Tp.set _ _ _ _).trans (Tp.set _ _ _ _)).trans (Tp.set _ _ _ _)))⟩
set_option maxHeartbeats 8000000 in
set_option maxRecDepth 100000 in
theorem rDefend_any (hL : RdN w ad L) (hn : L.length = N) (h0 : 0 < N) (h1 : N ≤ 100) (hc : N ≤ cap) (hbo : Bok L) (hnb : ∀ a, ad = some a → a.block ≠ kb ∧ a.block ≠ lb ∧ a.block ≠ r) (hB : BB w kb 0 0 lb b) (hd : RfD w lb 0 base r c d) (hf : Fz d) (hw0 : 0 ≤ d.writes) (hw : d.writes ≤ 4611686018427387903) (self : Int) :
    Calls Tryz.prog 17 #[.agg #[.slice ad N cap], .int .i64 self, .pointer (some ⟨kb, 0, none⟩), .pointer (some ⟨lb, 0, none⟩)] w fun e w' => ∃ ad' cap', e = .returned (.tuple #[.agg #[.slice ad' N cap'], nt (dDf L self d b).x.1 (dDf L self d b).x.2.1 (dDf L self d b).x.2.2, .bool (dDf L self d b).did, .int .i64 (dDf L self d b).e]) ∧ RdN w' ad' (dDf L self d b).l ∧ N ≤ cap' ∧ (ad' = ad ∨ ∀ a, ad' = some a → w.heap.size ≤ a.block ∧ ∃ cur, w'.heap[a.block]? = some (.cells cur 60 (0, 0))) ∧ RfD w' lb 0 base r c (dDf L self d b).d ∧ BB w' kb 0 0 lb (dDf L self d b).b ∧ T3 kb lb r w w' := by
  have hmx : Tryz.prog.follows .mixedOrders = true := by kernel_rfl
  have hkl := lt_at hB
  obtain ⟨hll, hrl⟩ := hd.lt
  obtain ⟨w1, hw1⟩ : ∃ w1, ((w.alloc (.cells #[.slice ad N cap] 46)).alloc (.cells #[.slice none 0 0] 46)).alloc (.cells #[.int .i64 0, .int .i64 0, .int .i64 0] 60) = w1 := ⟨_, rfl⟩
  have hb1 : Below w.heap.size w w1 := by rw [← hw1]; exact al3 _ _ _ _
  have hJ1 : JQ w ad N cap w1 := by
    rw [← hw1]
    exact ⟨old_at (old_at (new_at rfl)), old_at (new_at (by simp)), new_at (by simp)⟩
  have c0 := hJ1.b0.cell
  have hdu := rDue_any (w := w1) ad N cap L (hL.carry hb1) hn hbo self
  rcases hdn : dueN L self with _ | ⟨o, t, k⟩
  · have e : dDf L self d b = ⟨(0, 0, 0), false, 0, L, d, b⟩ := by unfold dDf; rw [hdn]
    rw [e]
    rw [hdn] at hdu
    unfold dueV nt at hdu
    go_enter Tryz.func17, Tryz.ntmps17
    go_wp2_with (first
      | (go_at_call 47; (with_reducible refine hdu.mono ?_); rintro e u1 ⟨rfl, hu1⟩; obtain ⟨v1, hv1⟩ : ∃ v1, u1.alloc (.cells #[.int .i64 0, .int .i64 0, .int .i64 0] 60) = v1 := ⟨_, rfl⟩; have Bv1 : Below u1.heap.size u1 v1 := (by rw [← hv1]; exact al1 _ _); have Nv1 : NB v1 u1.heap.size 0 0 0 := (by rw [← hv1]; exact NB.new _ _ _ _); have z0 := Nv1.c0; have z1 := Nv1.c1; have z2 := Nv1.c2; have z3 := Nv1.thaw 0; have z4 := Nv1.thaw 1; have z5 := Nv1.thaw 2; obtain ⟨x1, hx1⟩ : ∃ x1, W3 v1 u1.heap.size 0 0 0 = x1 := ⟨_, rfl⟩; have Bx1 : Below u1.heap.size u1 x1 := (by rw [← hx1]; exact below3 Bv1 (Nat.le_refl _) _ _ _); have Nx1 : NB x1 u1.heap.size 0 0 0 := (by rw [← hx1]; exact Nv1.set 0 0 0); unfold W3 at hx1; have Jx1 := (hJ1.carry hu1).carry Bx1; have c4 := Jx1.b0.cell; have ya := Jx1.b1.cell; have yb := Jx1.b1.thaw; obtain ⟨zx1, hzx1⟩ : ∃ z, x1.setCell ⟨w.heap.size + 1, 0, none⟩ (.slice ad N cap) = z := ⟨_, rfl⟩; have Rzx1 : RB zx1 (w.heap.size + 1) (.slice ad N cap) := (by rw [← hzx1]; exact Jx1.b1.set _); have Xzx1 : NB zx1 (w.heap.size + 2) 0 0 0 := (by rw [← hzx1]; exact (Below.heap_setCell _ _ _ _ (show w.heap.size + 2 ≠ w.heap.size + 1 by omega)).trans Jx1.x); have Bzx1 : Below w.heap.size x1 zx1 := (by rw [← hzx1]; have h0 := Below.refl w.heap.size x1; exact h0.setCell (p := ⟨w.heap.size + 1, 0, none⟩) (show w.heap.size ≤ w.heap.size + 1 by omega) _); have yc := Xzx1.c0; have yd := Xzx1.c1; have ye := Xzx1.c2; have yf := Xzx1.thaw 0; have yg := Xzx1.thaw 1; have yh := Xzx1.thaw 2))
    refine retRN rfl rfl rfl rfl rfl rfl ((Below.heap_setCells3 _ _ _ _ _ _ (show w.heap.size + 1 ≠ w.heap.size + 2 by omega)).trans Rzx1) (Xzx1.set 0 0 0) ?_
    have hbx : Below w.heap.size w (W3 zx1 (w.heap.size + 2) 0 0 0) := below3 ((bel2 (bel2 hb1 hu1) Bx1).trans Bzx1) (by omega) _ _ _
    exact ⟨ad, cap, rfl, hL.carry hbx, hc, .inl rfl, hd.carry hbx, hB.carry hbx, T3.of _ _ _ hbx⟩
  obtain ⟨htk, -⟩ := due_tk hbo (by omega) hdn
  rw [hdn] at hdu
  unfold dueV nt at hdu
  dsimp only at hdu
  have hra := fun V (hV : BB V kb 0 0 lb b) (hV2 : RfD V lb 0 base r c d) => rRaise_any hV hV2 hf hw0 hw t
  have e : dDf L self d b = if (dRa d b t).e = 0 then ⟨(o, t, k), true, 0, tke L (o, t, k), (dRa d b t).d, (dRa d b t).b⟩ else ⟨(0, 0, 0), false, (dRa d b t).e, L, (dRa d b t).d, (dRa d b t).b⟩ := by unfold dDf; rw [hdn]
  rw [e]
  by_cases he : (dRa d b t).e = 0
  case neg =>
    rw [if_neg he]
    obtain ⟨E, hE⟩ : ∃ E, (dRa d b t).e = E := ⟨_, rfl⟩
    rw [hE] at hra he
    rw [hE]
    have he' : (E != 0) = true := by simpa using he
    clear e hE he hdn
    go_enter Tryz.func17, Tryz.ntmps17
    go_wp2_with (first
      | (have m := st1; go_at_call 48; (with_reducible refine st1.mono ?_); rintro e u2 ⟨rfl, hD2, hB2, hT2⟩; have Ju2 := Jx1.t3 hT2 hkl hll hrl; have c4 := Ju2.b0.cell; have ya := Ju2.b1.cell; have yb := Ju2.b1.thaw; obtain ⟨zu2, hzu2⟩ : ∃ z, u2.setCell ⟨w.heap.size + 1, 0, none⟩ (.slice ad N cap) = z := ⟨_, rfl⟩; have Rzu2 : RB zu2 (w.heap.size + 1) (.slice ad N cap) := (by rw [← hzu2]; exact Ju2.b1.set _); have Xzu2 : NB zu2 (w.heap.size + 2) 0 0 0 := (by rw [← hzu2]; exact (Below.heap_setCell _ _ _ _ (show w.heap.size + 2 ≠ w.heap.size + 1 by omega)).trans Ju2.x); have Bzu2 : Below w.heap.size u2 zu2 := (by rw [← hzu2]; have h0 := Below.refl w.heap.size u2; exact h0.setCell (p := ⟨w.heap.size + 1, 0, none⟩) (show w.heap.size ≤ w.heap.size + 1 by omega) _); have yc := Xzu2.c0; have yd := Xzu2.c1; have ye := Xzu2.c2; have yf := Xzu2.thaw 0; have yg := Xzu2.thaw 1; have yh := Xzu2.thaw 2)
      | (go_at_call 47; (with_reducible refine hdu.mono ?_); rintro e u1 ⟨rfl, hu1⟩; obtain ⟨x1, hx1⟩ : ∃ x1, u1.alloc (.cells #[.int .i64 o, .int .i64 t, .int .i64 k] 60) = x1 := ⟨_, rfl⟩; have Bx1 : Below u1.heap.size u1 x1 := (by rw [← hx1]; exact al1 _ _); have Nx1 : NB x1 u1.heap.size o t k := (by rw [← hx1]; exact NB.new _ _ _ _); have s0 := Nx1.c0; have s1 := Nx1.c1; have s2 := Nx1.c2; have Jx1 := (hJ1.carry hu1).carry Bx1; have Bw1 := bel2 (bel2 hb1 hu1) Bx1; have st1 := hra x1 (hB.carry Bw1) (hd.carry Bw1)))
    refine retRN rfl rfl rfl rfl rfl rfl ((Below.heap_setCells3 _ _ _ _ _ _ (show w.heap.size + 1 ≠ w.heap.size + 2 by omega)).trans Rzu2) (Xzu2.set 0 0 0) ?_
    have hbz : Below w.heap.size u2 (W3 zu2 (w.heap.size + 2) 0 0 0) := below3 Bzu2 (by omega) _ _ _
    exact ⟨ad, cap, rfl, ((hL.carry Bw1).t3 hT2 (fun _ a ha => hnb a ha)).low hbz (fun hl a ha => by obtain ⟨b', off, e2, h3, _⟩ := hL hl; rw [e2] at ha; obtain rfl := Option.some.inj ha; exact h3), hc, .inl rfl, hD2.low hbz hll hrl, hB2.low hbz hkl, T3.low Bw1 hT2 hbz⟩
  rw [if_pos he]
  rw [he] at hra
  have hta : ∀ V, RdN V ad L → Calls Tryz.prog 49 #[.agg #[.slice ad N cap], .agg #[.int .i64 o, .int .i64 t, .int .i64 k]] V fun e w' => ∃ ad' cap', ∃ TE : Int, e = .returned (.tuple #[.agg #[.slice ad' N cap'], .bool true, .int .i64 TE]) ∧ RdN w' ad' (tke L (o, t, k)) ∧ N ≤ cap' ∧ (ad' = ad ∨ ∀ a, ad' = some a → V.heap.size ≤ a.block ∧ ∃ cur, w'.heap[a.block]? = some (.cells cur 60 (0, 0))) ∧ Below V.heap.size V w' := fun V hV =>
    (rTake_any ad N cap L hV hn h0 h1 hc o t k).mono (by
      rintro e w' ⟨ad', cap', rfl, q1, q2, q3, q4⟩
      rw [htk]
      exact ⟨ad', cap', _, rfl, q1, q2, q3, q4⟩)
  clear e he hdn
  go_enter Tryz.func17, Tryz.ntmps17
  go_wp2_with (first
    | (have m := st2; go_at_call 49; (with_reducible refine st2.mono ?_); rintro e u3 ⟨ad', cap', TE, rfl, hR3, hc3, ha3, hu3⟩; obtain ⟨x3, hx3⟩ : ∃ x3, u3.alloc (.cells #[.slice ad' N cap'] 46) = x3 := ⟨_, rfl⟩; have Bx3 : Below u3.heap.size u3 x3 := (by rw [← hx3]; exact al1 _ _); have Rx3 : RB x3 u3.heap.size (.slice ad' N cap') := (by rw [← hx3]; exact new_at rfl); have Jx3 := (Ju2.carry hu3).carry Bx3; have Nx3 := (Nu2.carry hu3).carry Bx3)
    | (have m := st1; go_at_call 48; (with_reducible refine st1.mono ?_); rintro e u2 ⟨rfl, hD2, hB2, hT2⟩; have Ju2 := Jx1.t3 hT2 hkl hll hrl; have c4 := Ju2.b0.cell; have e1 := hu1.size; have e0 := hb1.size; have Nu2 : NB u2 u1.heap.size o t k := (hT2.block _ Nx1.lt (by omega) (by omega) (by omega)).trans Nx1; have q0 := Nu2.c0; have q1 := Nu2.c1; have q2 := Nu2.c2; have RL2 : RdN u2 ad L := (hL.carry Bw1).t3 hT2 (fun _ a ha => hnb a ha); have st2 := hta u2 RL2)
    | (go_at_call 47; (with_reducible refine hdu.mono ?_); rintro e u1 ⟨rfl, hu1⟩; obtain ⟨x1, hx1⟩ : ∃ x1, u1.alloc (.cells #[.int .i64 o, .int .i64 t, .int .i64 k] 60) = x1 := ⟨_, rfl⟩; have Bx1 : Below u1.heap.size u1 x1 := (by rw [← hx1]; exact al1 _ _); have Nx1 : NB x1 u1.heap.size o t k := (by rw [← hx1]; exact NB.new _ _ _ _); have s0 := Nx1.c0; have s1 := Nx1.c1; have s2 := Nx1.c2; have Jx1 := (hJ1.carry hu1).carry Bx1; have Bw1 := bel2 (bel2 hb1 hu1) Bx1; have st1 := hra x1 (hB.carry Bw1) (hd.carry Bw1)))
  have e1 := hu1.size
  have e2 : w.heap.size + 3 ≤ w1.heap.size := by have := Jx3.x.lt; rw [← hw1]; simp
  have e3 := Nu2.lt
  have e4 := hu3.size
  rename_i hK
  refine wp_region_any hmx ?_
  refine wpAny_tabG (G := Unit) (fun g i__ => ([(.agg #[.slice ad' N cap']), (nt o t k), undef, undef, (.bool true), (.int .i64 0)] : List Value).getD i__ undef) (fun _ d V => JV w x3 ad' N cap' u3.heap.size u1.heap.size o t k (d 2) (d 3) V) (by kernel_rfl) (()) (show JV w x3 ad' N cap' u3.heap.size u1.heap.size o t k false false _ from JV.drew ⟨Rx3, Nx3, ⟨_, _, _, Jx3.b1, fun e => by cases e⟩, ⟨_, _, _, Jx3.x, fun e => by cases e⟩, Tq.of _ _ (Below.refl _ _)⟩) ?step1 ?fin1
  case step1 =>
    intro i o ho
    have hi : i < 6 := getElem?_lt ho
    match i, hi, ho with
    | 0, _, ho =>
      cases ho
      refine stepG_ofC (fun g d hun hdep hcl => ?_)
      exact step_load rfl trivial _ _ _ rfl rfl (fun v hw => load_rbw hw.r3)
    | 1, _, ho =>
      cases ho
      refine stepG_ofC (fun g d hun hdep hcl => ?_)
      exact step_load rfl trivial _ _ _ rfl rfl (fun v hw => load_nt hw.n)
    | 2, _, ho =>
      cases ho
      refine stepG_ofC (fun g d hun hdep hcl => ?_)
      exact step_store rfl trivial rfl _ _ _ _ _ rfl rfl rfl (fun v hw => by obtain ⟨V', k1, k2⟩ := hw.st1 (by omega) (by omega); exact ⟨V', k1, k2⟩)
    | 3, _, ho =>
      cases ho
      refine stepG_ofC (fun g d hun hdep hcl => ?_)
      exact step_store rfl trivial rfl _ _ _ _ _ rfl rfl rfl (fun v hw => by obtain ⟨V', k1, k2⟩ := hw.st2 (by omega) (by omega); exact ⟨V', k1, k2⟩)
    | 4, _, ho =>
      cases ho
      refine stepG_ofC (fun g d hun hdep hcl => ?_)
      exact step_assign rfl trivial _ rfl (by kernel_rfl) (fun v hw => hw)
    | 5, _, ho =>
      cases ho
      refine stepG_ofC (fun g d hun hdep hcl => ?_)
      exact step_assign rfl trivial _ rfl (by kernel_rfl) (fun v hw => hw)
  intro g d W hall hW
  first | refine hK _ _ ?_ | refine (‹∀ (a : Act) (w : World), Code.wp Tryz.prog _ _ a w → _›) _ _ ?_ | skip
  simp only [finL, List.getD_cons_zero, List.getD_cons_succ, Nat.zero_add, Nat.reduceAdd, List.setIfInBounds_toArray, List.set_cons_zero, List.set_cons_succ]
  clear hK
  obtain ⟨q1, q2, ⟨ad1, n1, c1, q3, q4⟩, ⟨o1, t1, k1, q5, q6⟩, q7⟩ := hW
  obtain ⟨rfl, rfl, rfl⟩ := q4 (hall 2 (by decide))
  obtain ⟨rfl, rfl, rfl⟩ := q6 (hall 3 (by decide))
  go_wp2
  refine retRN rfl rfl rfl rfl rfl rfl q3 q5 ?_
  have hb4 : Below w.heap.size x3 W := q7.below (by omega) (by omega) (by have := Bx3.size; omega)
  have hb3 : Below w.heap.size u2 W := (((Below.refl w.heap.size u2).trans (hu3.mono (by omega))).trans (Bx3.mono (by omega))).trans hb4
  have hblk : ∀ (a : Addr), ad1 = some a → w.heap.size + 3 ≤ a.block ∨ a.block < w.heap.size → a.block < u3.heap.size → W.heap[a.block]? = u3.heap[a.block]? := fun a _ h h2 => (q7.block _ (Nat.lt_of_lt_of_le h2 Bx3.size) (by omega) (by omega)).trans (Bx3.block _ h2)
  have hR0 := hL
  have hnew : ∀ a, ad1 = some a → L ≠ [] → w.heap.size + 3 ≤ a.block ∨ a.block < w.heap.size := fun a ha hl => by
    rcases ha3 with e | e
    · rw [e] at ha
      obtain ⟨b', off, e5, h6, _⟩ := hL hl
      rw [e5] at ha
      obtain rfl := Option.some.inj ha
      exact .inr h6
    · have := (e a ha).1
      exact .inl (by omega)
  have hLne : L ≠ [] := fun e => by rw [e] at hn; simp at hn; omega
  refine ⟨_, _, rfl, ?_, hc3, ?_, hD2.low hb3 hll hrl, hB2.low hb3 hkl, T3.low Bw1 hT2 hb3⟩
  · intro hl
    obtain ⟨bb, off, e5, hbb, hat⟩ := hR3 hl
    subst e5
    have e6 := hblk _ rfl (hnew _ rfl hLne) hbb
    dsimp only at e6
    refine ⟨bb, off, rfl, Nat.lt_of_lt_of_le hbb (Nat.le_trans Bx3.size q7.size), fun k' x hx => ?_⟩
    obtain ⟨a1, a2, a3⟩ := hat k' x hx
    exact ⟨(World.cell?_of_block (a := ⟨bb, _, none⟩) e6).trans a1, (World.cell?_of_block (a := ⟨bb, _, none⟩) e6).trans a2, (World.cell?_of_block (a := ⟨bb, _, none⟩) e6).trans a3⟩
  · rcases ha3 with e | e
    · exact .inl e
    · refine .inr (fun a ha => ?_)
      obtain ⟨h5, cur, h6⟩ := e a ha
      exact ⟨by omega, cur, (hblk a ha (.inl (by omega)) (lt_at h6)).trans h6⟩
end
end Go.Proofs.YtlpmehmoeladjaaGreatDoor
namespace Go.Proofs.YtlpmehmoeladjaaGreatDoor
open Go.RowKit Go.Shelf Go.Lib

theorem step_field {P : Program} {md : Region.Mode} {ops : Array Oper} {Q : Exit → Act → World → Prop} {X0 : Array Value} {val : Nat → Value} {J : World → Prop} {i : Nat} {o : Oper} (hi : ops[i]? = some o) (hg : GOk md ops X0 val i o) (t : TypeId) (x : Operand) (f : Nat) (p : Value) (ho : o.op = .field t x f) (hx : rdo md ops X0 val i o x = some p) (hr : ∀ w, J w → (Instr.field t p f).run P w = .ok (val i) w) : StepAt P md ops Q X0 val J J i o :=
  step_of hi hg fun a w hJ hS => by
    unfold Oper.wp execOp
    simp only [ho, hS.eval hx, Sem.run_bind, hr w hJ, Result.andThen_ok, Sem.run_pure, Oper.upon_value]
    exact ⟨trivial, hJ⟩
theorem field_R2 (x y z : Int) (w : World) : (Instr.field 35 (.agg #[.int .i64 x, .int .i64 y, .int .i64 z]) 2).run Tryz.prog w = .ok (.int .i64 z) w := by kernel_rfl
/-- Of itself the book has a suspicion, or a mistake that is not above the boot's tag. -/
def OwnT (L : List N3) (s : Nat) (ta : Int) : Prop := ∀ x : N3, L[s]? = some x → x.2.2 = 2 ∨ x.2.1 ≤ ta
theorem OwnT.tke {L : List N3} {s : Nat} {ta : Int} (h : OwnT L s ta) {x : N3} (hx : x.1 ≠ (s : Int) ∨ x.2.2 = 2) : OwnT (tke L x) s ta := by
  unfold Go.Proofs.YtlpmehmoeladjaaGreatDoor.tke
  split
  case isFalse => exact h
  rename_i hv
  unfold rse
  split
  case isFalse => exact h
  intro y hy
  obtain ⟨_, _, h0, _⟩ := vlx_iff.1 hv
  by_cases e : x.1.toNat = s
  · rcases hx with hx | hx
    · exact absurd (show x.1 = (s : Int) by omega) hx
    · have hs : s < L.length := by
        have := (List.getElem?_eq_some_iff.1 hy).1
        simpa using this
      rw [e, List.getElem?_set_self hs] at hy
      obtain rfl := Option.some.inj hy
      exact .inl hx
  · rw [List.getElem?_set_ne e] at hy
    exact h y hy
/-- The numbers. -/
structure KM (N s : Nat) (L : List N3) (d : Dst) (b : Bo) (m : Nat) : Prop where
  bo : Bok L
  len : L.length = N
  lv : ∃ n, n ≤ m + 1 ∧ Lv d n b
  w0 : 0 ≤ d.writes
  w1 : d.writes ≤ 2 + 2 * (m : Int)
  own : OwnT L s b.ta
/-- The memory. -/
structure KW (w : World) (bp g q : Nat) (L : List N3) (d : Dst) (b : Bo) (V : World) : Prop where
  bk : Bk V bp g L
  bt : Bt V q (some ⟨w.heap.size, 0, none⟩) b
  dk : Dk V w.heap.size d
  bl : Below w.heap.size w V
section
variable {w V V' : World} {bp g q N s m : Nat} {L L' : List N3} {d d' : Dst} {b b' : Bo}
theorem KW.carry (h : KW w bp g q L d b V) (hb : Below V.heap.size V V') : KW w bp g q L d b V' := ⟨h.bk.carry hb, h.bt.carry hb, h.dk.carry hb, h.bl.trans (hb.mono h.bl.size)⟩
theorem KW.take (h : KW w bp g q L d b V) (hk : Bk V' bp g L') (hg : V.grownBy V' (some g)) (hw : w.heap.size ≤ g) : KW w bp g q L' d b V' := ⟨hk, h.bt.gr h.bk hg, h.dk.gr h.bk hg, h.bl.trans (grown_low hg hw h.bl.size)⟩
theorem KW.def (h : KW w bp g q L d b V) (hk : Bk V' bp g L') (hd : Dk V' w.heap.size d') (hb : Bt V' q (some ⟨w.heap.size, 0, none⟩) b') (ht : Td g q w.heap.size V V') (hg : w.heap.size ≤ g) (hq : w.heap.size ≤ q) : KW w bp g q L' d' b' V' := ⟨hk, hb, hd, h.bl.trans (ht.below hg (Nat.le_refl _) hq h.bl.size)⟩
theorem KM.take (h : KM N s L d b m) {x : N3} (hx : x.1 ≠ (s : Int) ∨ x.2.2 = 2) : KM N s (tke L x) d b m := ⟨tke_bok h.bo x, (tke_len L x).trans h.len, h.lv, h.w0, h.w1, h.own.tke hx⟩
/-- What Defend leaves. -/
theorem KM.defend (h : KM N s L d b m) (hN : N ≤ 100) (hm : m ≤ 900000) : ∃ D : Df, dDf L (s : Int) d b = D ∧ KM N s D.l D.d D.b (m + 1) ∧ ((D.e = 0 ∧ D.did = false ∧ D.x = (0, 0, 0)) ∨ (D.e = 0 ∧ D.did = true ∧ D.x.2.1 ≤ D.b.ta ∧ D.x.2.1 ≤ D.b.r.ta) ∨ (D.e = 100 ∧ D.did = false ∧ D.x = (0, 0, 0) ∧ D.l = L)) := by
  obtain ⟨n, hn, hlv⟩ := h.lv
  have w0 := h.w0
  have w1 := h.w1
  refine ⟨_, rfl, ?_⟩
  unfold dDf
  rcases hdn : dueN L (s : Int) with _ | x
  · exact ⟨⟨h.bo, h.len, ⟨n, by omega, hlv⟩, w0, by dsimp only; omega, h.own⟩, .inl ⟨rfl, rfl, rfl⟩⟩
  dsimp only
  obtain ⟨htk, hx1, _, _, ht1, ht2, hx3⟩ := due_tk h.bo (by rw [h.len]; exact hN) hdn
  obtain ⟨hx, hbo2, hlen2⟩ := tke_due h.bo (by rw [h.len]; exact hN) hdn
  obtain ⟨n', hn1, hn2, hlv2, hw1, hw2, hre⟩ := hlv.raised (by omega) ht1 ht2
  have h3 := hlv2.ta
  rcases hre with ⟨he, hta, hta2⟩ | ⟨he, hbb, _⟩
  · rw [if_pos he]
    refine ⟨⟨hbo2, hlen2.trans h.len, ⟨n', by omega, hlv2⟩, by dsimp only; omega, by dsimp only; omega, ?_⟩, .inr (.inl ⟨rfl, rfl, hta, by dsimp only; omega⟩)⟩
    intro y hy
    rw [hx] at hy
    obtain rfl := Option.some.inj hy
    exact .inr hta
  · rw [if_neg (by rw [he]; decide)]
    refine ⟨⟨h.bo, h.len, ⟨n', by omega, hlv2⟩, by dsimp only; omega, by dsimp only; omega, ?_⟩, .inr (.inr ⟨he, rfl, rfl, rfl⟩)⟩
    dsimp only
    rw [hbb]
    exact h.own
/-- What is loaded in the end. -/
theorem KM.load (h : KM N s L d b m) : ∃ sq a, nwT { d with off := false } = ⟨b.r, sq, a, 0⟩ ∧ b.ta ≤ b.r.ta := by
  obtain ⟨n, hn, hlv⟩ := h.lv
  have h1 := hlv.n1
  have := Ss.nt (d := { d with off := false }) hlv.ss rfl
  rw [if_neg (by omega)] at this
  exact ⟨_, _, this, hlv.ta.2⟩
theorem KM.own_at (h : KM N s L d b m) (hs : s < N) : ∃ t k, L[s]? = some ((s : Int), t, k) ∧ (k = 1 ∨ k = 2) ∧ (k = 2 ∨ t ≤ b.ta) := by
  obtain ⟨t, k, hx, _, hk, _⟩ := bok_at h.bo (show s < L.length by rw [h.len]; exact hs)
  exact ⟨t, k, hx, hk, h.own _ hx⟩
end
/-- What holds while the tags are held against what was told. -/
def JTg (w : World) (bp g q B : Nat) (L : List N3) (d : Dst) (b : Bo) (x : N3) (V : World) : Prop := KW w bp g q L d b V ∧ NB V B x.1 x.2.1 x.2.2
theorem JTg.carry {w V V' : World} {bp g q B : Nat} {L : List N3} {d : Dst} {b : Bo} {x : N3} (h : JTg w bp g q B L d b x V) (hb : Below V.heap.size V V') : JTg w bp g q B L d b x V' := ⟨h.1.carry hb, h.2.carry hb⟩
end Go.Proofs.YtlpmehmoeladjaaGreatDoor
