/- A node on a new disk; the statements' alive. -/
import Derived.Test.YtgngopdkfcmndaaGreatDoorJnJ34
import Derived.Test.YtgngopdkfcmndaaGreatDoorJnJ32
import Derived.Test.YtgngopdkfcmndaaGreatDoorRows
import Derived.Test.YtgngopdkfcmndaaGreatDoorJnJ29
import Derived.Stop.LaidErr
import Derived.Lay
import Derived.LaidMore
import Derived.LaidSub
import Derived.LaidHandle
import Derived.LaidLaws
import Derived.MakeChecks
namespace Go.Proofs.YtgngopdkfcmndaaGreatDoor
open Go.RowKit Go.Shelf Go.Lib
attribute [local go_sem] Oper.semAt_some
set_option linter.unusedVariables false

theorem dO0 : dO d0 = ⟨1, 0, (dOp d0).d, ⟨⟨1, 16, 4⟩, 1, 0⟩⟩ := by
  obtain ⟨h1, h2, h3, h4, h5, h6⟩ := op0
  unfold dO dNx
  rw [h2, if_neg (by rw [h4]; decide), if_neg (by decide), if_neg (by decide)]
  rfl
/-- A node that begins on a new disk. -/
def s0 (n f s : Nat) : Ns := dOpen n f s d0
theorem wthB_of {N n : Nat} (h : n ≤ 100) (hN : N < 2 ^ n) : wthB N (n : Int) = true := by
  unfold wthB
  have e : topW (n : Int) = n := by unfold topW; omega
  rw [e, Nat.mod_eq_of_lt hN]
  simp
theorem fullN_lt (n : Nat) : fullN n < 2 ^ n := by
  unfold fullN
  have := Nat.pos_of_ne_zero (show 2 ^ n ≠ 0 by simp)
  omega
theorem wthB_full (n : Nat) (h : n ≤ 100) : wthB (fullN n) (n : Int) = true := wthB_of h (fullN_lt n)
theorem nw0 {n f s : Nat} (hn1 : 1 ≤ n) (hn2 : n ≤ 100) (hfn : f < n) (hsn : s < n) : nwE (n : Int) (f : Int) (s : Int) 1 (fullN n) = 0 := by
  unfold nwE
  rw [if_neg (by omega), if_neg (by unfold isN; simp; omega), if_neg (by omega), if_neg (by rw [wthB_full n hn2]; simp)]
section
variable {w W : World} {base x : Nat} {A : NA} {s : Ns}
theorem nopen0 {p : Nat} (hD : Dk w p d0) (hpb : base ≤ p) {n f s : Nat} (hn1 : 1 ≤ n) (hn2 : n ≤ 100) (hfn : f < n) (hsn : s < n) :
    Calls Tryz.prog 5 #[.int .i64 (n : Int), .int .i64 (f : Int), .int .i64 (s : Int), .pointer (some ⟨p, 0, none⟩)] w fun r w' => ∃ x A, r = .returned (.tuple #[.pointer (some ⟨x, 0, none⟩), .int .i64 0]) ∧ Nd w' base x A (s0 n f s) ∧ A.p = p ∧ w.heap.size ≤ x ∧ TpZ p w w' := by
  obtain ⟨h1, h2, h3, h4, h5, h6⟩ := op0
  have h7 := dO0
  exact nopen_ok hD hpb Sd0.zero.fz (by decide) (by decide) h1 (by rw [h2]; exact h5.ok) h5.fz (by rw [h3]; decide) (by rw [h3]; decide) (by rw [h7]) (by rw [h7]; decide) hn1 hn2 hfn hsn (by rw [h7]; exact nw0 hn1 hn2 hfn hsn)
/-- A datagram of a row. -/
theorem Outs.at {b g n c k : Nat} {l : List OE} {o : OE} (h : Outs W b (.slice (some ⟨g, 0, none⟩) n c) l) (hk : l[k]? = some o) : W.cell? ⟨g, k * 2, none⟩ = some (.int .i64 o.to) ∧ W.cell? ⟨g, k * 2 + 1, none⟩ = some (.slice o.a o.L.length o.c) := by
  have hlt : k < l.length := (List.getElem?_eq_some_iff.1 hk).1
  have hl := ocs_len l
  have hn : n = l.length := by
    rcases own_form h.row with ⟨e1, e2⟩ | ⟨g', c', e1, _⟩
    · cases e1
    · cases e1; rfl
  subst hn
  have key : ∀ (l : List OE) (k : Nat) (o : OE), l[k]? = some o → (ocs l)[k * 2]? = some (.int .i64 o.to) ∧ (ocs l)[k * 2 + 1]? = some (.slice o.a o.L.length o.c) := by
    intro l
    induction l with
    | nil => intro k o h; simp at h
    | cons y l ih =>
      intro k o h
      have e : ocs (y :: l) = .int .i64 y.to :: .slice y.a y.L.length y.c :: ocs l := by simp [ocs, oc]
      cases k with
      | zero => simp at h; subst h; rw [e]; exact ⟨rfl, rfl⟩
      | succ k =>
        obtain ⟨h1, h2⟩ := ih k o (by simpa using h)
        rw [e, show (k + 1) * 2 = k * 2 + 1 + 1 by omega]
        exact ⟨by simpa using h1, by simpa using h2⟩
  obtain ⟨k1, k2⟩ := key l k o hk
  exact ⟨(h.row.cellAt _ (by omega)).trans k1, (h.row.cellAt _ (by omega)).trans k2⟩
theorem ask3 (L : List Nat) : askTo 3 0 L = [(1, L), (2, L)] := by
  unfold askTo
  rfl
set_option maxHeartbeats 8000000 in
set_option maxRecDepth 100000 in
theorem nalive_any (w : World) : Calls Tryz.prog 8 #[] w fun e w' => e = .returned (.bool true) ∧ Below w.heap.size w w' := by
  have hn := dnew_any w
  have hop : ∀ V, Dk V w.heap.size d0 → Calls Tryz.prog 5 #[.int .i64 3, .int .i64 1, .int .i64 0, .pointer (some ⟨w.heap.size, 0, none⟩)] V fun r w' => ∃ x A, r = .returned (.tuple #[.pointer (some ⟨x, 0, none⟩), .int .i64 0]) ∧ Nd w' w.heap.size x A (s0 3 1 0) ∧ A.p = w.heap.size ∧ V.heap.size ≤ x ∧ TpZ w.heap.size V w' := fun V hV => nopen0 (n := 3) (f := 1) (s := 0) hV (Nat.le_refl _) (by decide) (by decide) (by decide) (by decide)
  have e0 := dO0
  have hl : (s0 3 1 0).l = bk0 3 0 0 := by unfold s0 dOpen; rw [e0]
  have ht : (s0 3 1 0).t = nwT 3 1 0 1 (fullN 3) := by unfold s0 dOpen; rw [e0]; rfl
  have hb : (s0 3 1 0).b = ⟨⟨1, 16, 4⟩, 1, 0⟩ := by unfold s0 dOpen; rw [e0]
  have hrd : rdy (s0 3 1 0).t = false := by rw [ht]; rfl
  have hll : (s0 3 1 0).l.length = 3 := by rw [hl]; exact bk0_len _ _ _
  have hbo : Bok (s0 3 1 0).l := by rw [hl]; exact bk0_bok (by decide) (by decide)
  have hev : (s0 3 1 0).ev.length = 1 := rfl
  have HP : ∀ V x A, Nd V w.heap.size x A (s0 3 1 0) → Calls Tryz.prog 13 #[.pointer (some ⟨x, 0, none⟩)] V fun r w' => ∃ g c l o A', r = .returned (.tuple #[.slice (some ⟨g, 0, none⟩) 2 c, .int .i64 170]) ∧ w'.cell? ⟨g, 2, none⟩ = some (.int .i64 2) ∧ g < w'.heap.size ∧ Outs w' V.heap.size (.slice (some ⟨g, 0, none⟩) 2 c) l ∧ l[1]? = some o ∧ Nd w' w.heap.size x A' (dAsk (s0 3 1 0)) ∧ Mv x A A' V w' := fun V x A hN => by
    refine (poll_wait hN hrd (by omega) (by omega) (by omega) (show 3 ≤ 100 by decide)).mono ?_
    rintro r w' ⟨v, l, A', rfl, ho, hs, hN', hM⟩
    have hs' : Outs.say l = [(1, dAskB (s0 3 1 0)), (2, dAskB (s0 3 1 0))] := hs.trans (ask3 _)
    unfold Outs.say at hs'
    obtain ⟨o1, o2, rfl⟩ : ∃ o1 o2, l = [o1, o2] := by
      rcases l with _ | ⟨o1, _ | ⟨o2, _ | ⟨o3, l⟩⟩⟩
      · simp at hs'
      · simp at hs'
      · exact ⟨o1, o2, rfl⟩
      · simp at hs'
    simp only [List.map_cons, List.map_nil, List.cons.injEq, Prod.mk.injEq, and_true] at hs'
    rcases own_form ho.row with ⟨_, e2⟩ | ⟨g, c, e1, h1, h2, _⟩
    · simp at e2
    · subst e1
      have hc := (ho.at (k := 1) (o := o2) rfl).1
      rw [hs'.2.1] at hc
      exact ⟨g, c, [o1, o2], o2, A', rfl, hc, h2, ho, rfl, hN', hM⟩
  have hS1 : dSi (dAsk (s0 3 1 0)) = ⟨true, 1, 1, 0, sus (s0 3 1 0).l, (s0 3 1 0).H, (s0 3 1 0).t.reps, (s0 3 1 0).l⟩ := by
    unfold dSi dAsk
    simp only [hb, ht]
    rfl
  obtain ⟨z, hz⟩ : ∃ z, dSi (dAsk (s0 3 1 0)) = z := ⟨_, rfl⟩
  have hz0 : z.up = true ∧ z.li = 1 ∧ z.ro = 1 := by rw [← hz, hS1]; exact ⟨rfl, rfl, rfl⟩
  have HS : ∀ V x A, Nd V w.heap.size x A (dAsk (s0 3 1 0)) → Calls Tryz.prog 9 #[.pointer (some ⟨x, 0, none⟩)] V fun r w' => ∃ a c, r = .returned (.agg (siC z (.slice a 3 c))) ∧ Below V.heap.size V w' := fun V x A hN => by
    refine (sight_any hN (show 0 < (s0 3 1 0).l.length by omega) (show (s0 3 1 0).l.length ≤ 100 by omega) hbo).mono ?_
    rintro r w' ⟨a, c, rfl, h1, h2⟩
    have e3 : (dAsk (s0 3 1 0)).l.length = 3 := hll
    rw [e3, hz]
    exact ⟨a, c, rfl, h2⟩
  obtain ⟨z1, z2, z3⟩ := hz0
  clear hS1 hz e0 hl ht hb hrd hbo hev hll
  obtain ⟨u0, l0, r0, t0, su, he, re, ll⟩ := z
  dsimp only at z1 z2 z3
  subst z1 z2 z3
  unfold siC at HS
  dsimp only at HS
  go_enter Tryz.func8, Tryz.ntmps8
  go_wp2_with (first
    | (go_at_call 6; (with_reducible refine hn.mono ?_); rintro r u1 ⟨rfl, hD1, hl1, hb1⟩; have hop1 := hop u1 hD1)
    | (go_at_call 5; (with_reducible refine hop1.mono ?_); rintro r u2 ⟨x, A, rfl, hN2, hAp, hx2, ht2⟩; have hP2 := HP u2 x A hN2)
    | (go_at_call 13; (with_reducible refine hP2.mono ?_); rintro r u3 ⟨g, c, l, o, A3, rfl, hc3, hg3, ho3, hl3, hN3, hM3⟩; have hS3 := HS u3 x A3 hN3)
    | (go_at_call 9; (with_reducible refine hS3.mono ?_); rintro r u4 ⟨a4, c4, rfl, hb4⟩; obtain ⟨u5, hu5⟩ : ∃ u5, u4.alloc (.cells #[.bool true, .int .i64 1, .int .i64 1, .int .i64 t0, .int .u32 (wd su 0 : Nat), .int .u32 (wd su 1 : Nat), .int .u32 (wd su 2 : Nat), .int .u32 (wd su 3 : Nat), .int .u32 (wd he 0 : Nat), .int .u32 (wd he 1 : Nat), .int .u32 (wd he 2 : Nat), .int .u32 (wd he 3 : Nat), .int .u32 (wd re 0 : Nat), .int .u32 (wd re 1 : Nat), .int .u32 (wd re 2 : Nat), .int .u32 (wd re 3 : Nat), .slice a4 3 c4] 36) = u5 := ⟨_, rfl⟩; have hb5 : Below u4.heap.size u4 u5 := (by rw [← hu5]; exact al1' _ _); have g5 : u5.heap[u4.heap.size]? = some (.cells #[.bool true, .int .i64 1, .int .i64 1, .int .i64 t0, .int .u32 (wd su 0 : Nat), .int .u32 (wd su 1 : Nat), .int .u32 (wd su 2 : Nat), .int .u32 (wd su 3 : Nat), .int .u32 (wd he 0 : Nat), .int .u32 (wd he 1 : Nat), .int .u32 (wd he 2 : Nat), .int .u32 (wd he 3 : Nat), .int .u32 (wd re 0 : Nat), .int .u32 (wd re 1 : Nat), .int .u32 (wd re 2 : Nat), .int .u32 (wd re 3 : Nat), .slice a4 3 c4] 36 (0, 0)) := (by rw [← hu5]; exact new_at rfl); have e0 : u5.cell? ⟨u4.heap.size, 0, none⟩ = some (.bool true) := (cell_at g5 0).trans rfl; have e1 : u5.cell? ⟨u4.heap.size, 1, none⟩ = some (.int .i64 1) := (cell_at g5 1).trans rfl; have e2 : u5.cell? ⟨u4.heap.size, 2, none⟩ = some (.int .i64 1) := (cell_at g5 2).trans rfl; have e16 : u5.cell? ⟨u4.heap.size, 16, none⟩ = some (.slice a4 3 c4) := (cell_at g5 16).trans rfl; have hgc : u5.cell? ⟨g, 2, none⟩ = some (.int .i64 2) := ((bel2 hb4 hb5).cell (p := ⟨g, 2, none⟩) hg3).trans hc3))
  go_ret
  refine ⟨rfl, ?_⟩
  have q2 := TpZ.young hb1 ht2 (Nat.le_refl _)
  exact (q2.trans (hM3.below hN2)).trans ((bel2 hb4 hb5).mono (Nat.le_trans q2.size hM3.size))
end
end Go.Proofs.YtgngopdkfcmndaaGreatDoor
namespace Go.Proofs.YtgngopdkfcmndaaGreatDoor
open Go.RowKit Go.Shelf Go.Lib
attribute [local go_sem] Oper.semAt_some
set_option linter.unusedVariables false

theorem don_nil (W : World) : Calls Tryz.prog 105 #[.pointer none] W fun e w' => e = .returned (.bool false) ∧ w' = W := by
  go_enter Tryz.func105, Tryz.ntmps105
  go_wp2
  go_ret
  exact ⟨rfl, rfl⟩
set_option maxHeartbeats 4000000 in
set_option maxRecDepth 100000 in
theorem newest_nil (W : World) : Calls Tryz.prog 103 #[.pointer none] W fun e w' => e = .returned (ntV ⟨rec0, 0, 0, 100⟩) ∧ Below W.heap.size W w' := by
  obtain ⟨w1, hw1⟩ : ∃ w1, W.alloc (.cells #[.int .i64 0, .int .i64 0, .int .i64 0, .int .i64 0] 194) = w1 := ⟨_, rfl⟩
  have hj : JN W ⟨rec0, 0, 0, 40⟩ w1 := by rw [← hw1]; exact ⟨new_at rfl, al1' _ _⟩
  have hon := don_nil w1
  go_enter Tryz.func103, Tryz.ntmps103
  go_wp2_with (first | (go_at_call 105; (with_reducible refine hon.mono ?_); rintro e u1 ⟨rfl, hu⟩; obtain rfl := hu.symm) | (refine wpList_store_row rfl 194 (.tmp 2) (.tmp 11) rfl W.heap.size #[.int .i64 0, .int .i64 0, .int .i64 0, .int .i64 0] rfl rfl 194 _ hj.1 infoEZ rfl (by simp [Value.oneCell']) ?_; obtain ⟨v, hv⟩ : ∃ v, w1.setRow W.heap.size #[.int .i64 0, .int .i64 0, .int .i64 0, .int .i64 0] = v := ⟨_, rfl⟩; have hjv : JN W ⟨rec0, 0, 0, 40⟩ v := (by rw [← hv]; exact hj.put); rw [hv]))
  (try simp only [Exit.inBlock, Exit.then])
  exact retC3 rfl rfl rfl rfl rfl hjv.1 undE infoEZ ⟨rfl, hjv.2⟩
theorem load_nil (W : World) : Calls Tryz.prog 53 #[.pointer none] W fun e w' => e = .returned (.tuple #[.agg #[.int .i64 0, .int .i64 0, .int .i64 0], .int .i64 0, .int .i64 100]) ∧ Below W.heap.size W w' := load_ofZ _ ⟨rec0, 0, 0, 100⟩ fun V _ => newest_nil V
set_option maxHeartbeats 4000000 in
set_option maxRecDepth 100000 in
theorem open_n (W : World) : Calls Tryz.prog 20 #[.pointer none] W fun e w' => e = .returned (.tuple #[.pointer none, .int .i64 100]) ∧ Below W.heap.size W w' := by
  have hld := load_nil W
  go_enter Tryz.func20, Tryz.ntmps20
  go_wp2_with (go_at_call 53; (with_reducible refine hld.mono ?_); rintro e u1 ⟨rfl, hu1⟩)
  go_ret2
  exact ⟨rfl, bel2Z hu1 (al1' _ _)⟩
/-- What Open of no disk tells. -/
def opE (n f s : Int) : Int := if n < 1 ∨ 100 < n ∨ f < 0 ∨ n ≤ f then 1 else if s < 0 ∨ n ≤ s then 30 else 100
set_option maxHeartbeats 4000000 in
set_option maxRecDepth 100000 in
theorem nopen_n (n f s : Int) (w : World) : Calls Tryz.prog 5 #[.int .i64 n, .int .i64 f, .int .i64 s, .pointer none] w fun r w' => r = .returned (.tuple #[.pointer none, .int .i64 (opE n f s)]) ∧ Below w.heap.size w w' := by
  have hop := open_n w
  unfold opE
  by_cases h1 : n < 1
  · rw [if_pos (.inl h1)]
    go_enter Tryz.func5, Tryz.ntmps5
    go_wp2
    go_ret2
    exact ⟨rfl, Below.refl _ _⟩
  by_cases h2 : n > 100
  · rw [if_pos (.inr (.inl h2))]
    go_enter Tryz.func5, Tryz.ntmps5
    go_wp2
    go_ret2
    exact ⟨rfl, Below.refl _ _⟩
  by_cases h3 : f < 0
  · rw [if_pos (.inr (.inr (.inl h3)))]
    go_enter Tryz.func5, Tryz.ntmps5
    go_wp2
    go_ret2
    exact ⟨rfl, Below.refl _ _⟩
  by_cases h4 : f ≥ n
  · rw [if_pos (.inr (.inr (.inr h4)))]
    go_enter Tryz.func5, Tryz.ntmps5
    go_wp2
    go_ret2
    exact ⟨rfl, Below.refl _ _⟩
  rw [if_neg (by omega)]
  by_cases h5 : s < 0
  · rw [if_pos (.inl h5)]
    go_enter Tryz.func5, Tryz.ntmps5
    go_wp2
    go_ret2
    exact ⟨rfl, Below.refl _ _⟩
  by_cases h6 : s ≥ n
  · rw [if_pos (.inr h6)]
    go_enter Tryz.func5, Tryz.ntmps5
    go_wp2
    go_ret2
    exact ⟨rfl, Below.refl _ _⟩
  rw [if_neg (by omega)]
  go_enter Tryz.func5, Tryz.ntmps5
  go_wp2_with (go_at_call 20; (with_reducible refine hop.mono ?_); rintro e u1 ⟨rfl, hu1⟩)
  go_ret2
  exact ⟨rfl, hu1⟩
section
variable {w : World} {x : Nat}
set_option maxRecDepth 100000 in
theorem poll_dn (a : Option Addr) (hup : Calls Tryz.prog 17 #[.pointer a] w fun r w' => r = .returned (.bool false) ∧ w' = w) : Calls Tryz.prog 13 #[.pointer a] w fun r w' => r = .returned (.tuple #[.slice none 0 0, .int .i64 171]) ∧ w' = w := by
  go_enter Tryz.func13, Tryz.ntmps13
  go_wp2_with (go_at_call 17; (with_reducible refine hup.mono ?_); rintro r u ⟨rfl, hu⟩; obtain rfl := hu.symm)
  go_ret2
  exact ⟨rfl, rfl⟩
set_option maxRecDepth 100000 in
theorem hear_dn (a : Option Addr) (d : Value) (hup : Calls Tryz.prog 17 #[.pointer a] w fun r w' => r = .returned (.bool false) ∧ w' = w) : Calls Tryz.prog 14 #[.pointer a, d] w fun r w' => r = .returned (.tuple #[.slice none 0 0, .int .i64 171]) ∧ w' = w := by
  go_enter Tryz.func14, Tryz.ntmps14
  go_wp2_with (go_at_call 17; (with_reducible refine hup.mono ?_); rintro r u ⟨rfl, hu⟩; obtain rfl := hu.symm)
  go_ret2
  exact ⟨rfl, rfl⟩
set_option maxHeartbeats 4000000 in
set_option maxRecDepth 100000 in
theorem sight_dn (a : Option Addr) (hup : ∀ W, Below w.heap.size w W → Calls Tryz.prog 17 #[.pointer a] W fun r w' => r = .returned (.bool false) ∧ w' = W) : Calls Tryz.prog 9 #[.pointer a] w fun r w' => r = .returned (.agg siZ) ∧ Below w.heap.size w w' := by
  obtain ⟨w1, hw1⟩ : ∃ w1, w.alloc (.cells siZ 36) = w1 := ⟨_, rfl⟩
  have hb1 : Below w.heap.size w w1 := by rw [← hw1]; exact al1' _ _
  have g1 : w1.heap[w.heap.size]? = some (.cells siZ 36 (0, 0)) := by rw [← hw1]; exact new_at rfl
  have hu1 := hup w1 hb1
  unfold siZ at hw1 g1 ⊢
  go_enter Tryz.func9, Tryz.ntmps9
  go_wp2_with (first
    | (go_at_call 17; (with_reducible refine hu1.mono ?_); rintro r u ⟨rfl, hu⟩; obtain rfl := hu.symm)
    | (refine wpList_store_row rfl 36 (.tmp 2) (.tmp 6) rfl w.heap.size siZ rfl rfl 36 _ g1 infoSi rfl (by simp [siZ, Value.oneCell']) ?_; obtain ⟨v, hv⟩ : ∃ v, w1.setRow w.heap.size siZ = v := ⟨_, rfl⟩; have hgv : v.heap[w.heap.size]? = some (.cells siZ 36 (0, 0)) := (by rw [← hv]; exact setRow_heap _ _ _ _ _ _ g1); have hbv : Below w.heap.size w v := (by rw [← hv]; exact below_setRow hb1 (Nat.le_refl _) _); rw [hv]))
  (try simp only [Exit.inBlock, Exit.then])
  exact retSi rfl rfl rfl hgv rfl ⟨rfl, hbv⟩
theorem nilE_yes (W : World) : (binOp .eql 52 (.slice none 0 0) (.slice none 0 0)).run Tryz.prog W = .ok (.bool true) W := by kernel_rfl
set_option maxRecDepth 100000 in
theorem clone0 (W : World) : Calls Tryz.prog 102 #[.slice none 0 0] W fun e w' => e = .returned (.slice none 0 0) ∧ w' = W := by
  have n2 := nilE_yes
  go_enter Tryz.func102, Tryz.ntmps102
  go_wp2
  go_ret
  exact ⟨rfl, rfl⟩
set_option maxRecDepth 100000 in
theorem past_nil (w : World) : Calls Tryz.prog 18 #[.pointer none] w fun e w' => e = .returned (.slice none 0 0) ∧ w' = w := by
  have h1 : Calls Tryz.prog 51 #[.pointer none, .int .i64 0] w fun e w' => e = .returned (.slice none 0 0) ∧ w' = w := by
    go_enter Tryz.func51, Tryz.ntmps51
    go_wp2
    go_ret
    exact ⟨rfl, rfl⟩
  go_enter Tryz.func18, Tryz.ntmps18
  go_wp2_with (go_at_call 51; (with_reducible refine h1.mono ?_); rintro r u ⟨rfl, hu⟩; obtain rfl := hu.symm)
  go_ret
  exact ⟨rfl, rfl⟩
theorem slice0 (W : World) : (Instr.sliceAt 52 (.slice none 0 0) (some (.int .i64 0)) none none).run Tryz.prog W = .ok (.slice none 0 0) W := by kernel_rfl
set_option maxHeartbeats 4000000 in
set_option maxRecDepth 100000 in
theorem pastF_zero (h : Nb w x none 0 0 0 none 0 none (.slice none 0 0)) : Calls Tryz.prog 51 #[.pointer (some ⟨x, 0, none⟩), .int .i64 0] w fun e w' => e = .returned (.slice none 0 0) ∧ Below w.heap.size w w' := by
  have hmx : Tryz.prog.follows .mixedOrders = true := by kernel_rfl
  go_enter Tryz.func51, Tryz.ntmps51
  go_wp2
  rename_i hK
  refine wp_region_any hmx ?_
  refine wpAny_pure (fun i__ => ([(.pointer (some ⟨x, 0, none⟩)), (.pointer (some ⟨x, 0, none⟩)), (.pointer (some ⟨x, 10, none⟩)), (.slice none 0 0), (.int .i64 0), (.int .i64 0), (.pointer (some ⟨x, 0, none⟩)), (.pointer (some ⟨x, 0, none⟩)), (.pointer (some ⟨x, 10, none⟩)), (.slice none 0 0), (.int .i64 0), (.int .i64 0), (.slice none 0 0), (.slice none 0 0), (.slice none 0 0)] : List Value).getD i__ undef) (fun V => Below w.heap.size w V) (by kernel_rfl) (Below.refl _ _).drew ?_ ?_
  · refine (stepsFrom_cons ?_ (stepsFrom_cons ?_ (stepsFrom_cons ?_ (stepsFrom_cons ?_ (stepsFrom_cons ?_ (stepsFrom_cons ?_ (stepsFrom_cons ?_ (stepsFrom_cons ?_ (stepsFrom_cons ?_ (stepsFrom_cons ?_ (stepsFrom_cons ?_ (stepsFrom_cons ?_ (stepsFrom_cons ?_ (stepsFrom_cons ?_ (stepsFrom_cons ?_ trivial)))))))))))))))
    · exact step_move rfl trivial _ rfl (by kernel_rfl)
    · exact step_nilCheck rfl trivial _ _ _ rfl rfl rfl
    · exact step_fieldAddr rfl trivial _ _ _ _ rfl rfl (fun v hw => (field_nd v _).2.2.2.2.2.2.2)
    · exact step_load rfl trivial _ _ _ rfl rfl (fun v hw => load_pe0 (h.carry hw).c10)
    · exact step_move rfl trivial _ rfl (by kernel_rfl)
    · exact step_bi rfl trivial _ _ _ [(.int .i64 0), (Go.Value.int Go.IntKind.i64 0)] rfl (by kernel_rfl) (fun cs v hw => (bi_max cs _ _ 0 0 v).trans rfl)
    · exact step_move rfl trivial _ rfl (by kernel_rfl)
    · exact step_nilCheck rfl trivial _ _ _ rfl rfl rfl
    · exact step_fieldAddr rfl trivial _ _ _ _ rfl rfl (fun v hw => (field_nd v _).2.2.2.2.2.2.2)
    · exact step_load rfl trivial _ _ _ rfl rfl (fun v hw => load_pe0 (h.carry hw).c10)
    · exact step_bi rfl trivial _ _ _ [(.slice none 0 0)] rfl (by kernel_rfl) (fun cs v hw => rfl)
    · exact step_bi rfl trivial _ _ _ [(.int .i64 0), (.int .i64 0)] rfl (by kernel_rfl) (fun cs v hw => (bi_min cs _ _ 0 0 v).trans rfl)
    · exact step_slice rfl trivial _ _ _ _ _ (some (.int .i64 0)) none rfl rfl rfl rfl (fun v hw => slice0 v)
    · exact step_call rfl trivial 102 _ _ [(.slice none 0 0)] rfl (by kernel_rfl) (enters_of Tryz.func102 (by kernel_rfl) rfl) (fun v hw => (clone0 v).mono (by rintro e w' ⟨rfl, rfl⟩; exact ⟨rfl, hw⟩))
    · exact step_assign rfl trivial _ rfl (by kernel_rfl) (fun _ h => h)
  intro W hW
  first | refine hK _ _ ?_ | refine (‹∀ (a : Act) (w : World), Code.wp Tryz.prog _ _ a w → _›) _ _ ?_
  simp only [finL, List.getD_cons_zero, List.getD_cons_succ, Nat.zero_add, Nat.reduceAdd, List.setIfInBounds_toArray, List.set_cons_zero, List.set_cons_succ]
  go_wp2
  go_ret
  exact ⟨rfl, hW⟩
set_option maxRecDepth 100000 in
theorem past_zero (h : Nb w x none 0 0 0 none 0 none (.slice none 0 0)) : Calls Tryz.prog 18 #[.pointer (some ⟨x, 0, none⟩)] w fun e w' => e = .returned (.slice none 0 0) ∧ Below w.heap.size w w' := by
  have h1 := pastF_zero h
  go_enter Tryz.func18, Tryz.ntmps18
  go_wp2_with (go_at_call 51; (with_reducible refine h1.mono ?_); rintro r u ⟨rfl, hu⟩)
  go_ret
  exact ⟨rfl, hu⟩
end
end Go.Proofs.YtgngopdkfcmndaaGreatDoor
namespace Go.Proofs.YtgngopdkfcmndaaGreatDoor
open Go.RowKit Go.Shelf Go.Lib
attribute [local go_sem] Oper.semAt_some
set_option linter.unusedVariables false

theorem infoRN : (Tryz.prog.info? 71).map (·.size) = some 22 := by kernel_rfl
theorem undRN : Tryz.prog.underlying 71 = some (.struct ((match Tryz.prog.underlying 71 with | some (.struct f) => f | _ => #[]))) := by kernel_rfl
theorem undRB2 : Tryz.prog.underlying 63 = some (.struct ((match Tryz.prog.underlying 63 with | some (.struct f) => f | _ => #[]))) := by kernel_rfl
theorem infoRB2 : (Tryz.prog.info? 63).map (·.size) = some 6 := by kernel_rfl
def nZ : Array Value := #[.int .i64 0, .int .i64 0, .int .i64 0, .bool false, .pointer none, .int .i64 0, .int .i64 0, .int .i64 0, .int .i64 0, .int .i64 0, .int .i64 0, .slice none 0 0, .int .u32 0, .int .u32 0, .int .u32 0, .int .u32 0, .int .i64 0, .int .i64 0, .int .i64 0, .slice none 0 0, .slice none 0 0, .slice none 0 0]
def bZ : Array Value := #[.int .i64 0, .int .i64 0, .int .i64 0, .int .i64 0, .int .i64 0, .int .i64 0]
/-- A disk of the document's without power. -/
def Of0 (W : World) (d : Nat) : Prop := W.heap[d]? = some (.cells #[.slice none 0 0, .bool true, .int .i64 (-1), .int .i64 0] 75 (0, 0))
theorem Of0.carry {W V : World} {d : Nat} (h : Of0 W d) (hb : Below W.heap.size W V) : Of0 V d := (hb.block _ (lt_at h)).trans h
theorem Of0.c1 {W : World} {d : Nat} (h : Of0 W d) : W.cell? ⟨d, 1, none⟩ = some (.bool true) := (cell_at h 1).trans rfl
section
variable {w : World} {d : Nat}
set_option maxHeartbeats 4000000 in
set_option maxRecDepth 100000 in
theorem rload_off (h : Of0 w d) : Calls Tryz.prog 97 #[.pointer (some ⟨d, 0, none⟩)] w fun e w' => e = .returned (.tuple #[.agg #[.int .i64 0, .int .i64 0, .int .i64 0], .int .i64 0, .int .i64 100]) ∧ Below w.heap.size w w' := by
  obtain ⟨w1, hw1⟩ : ∃ w1, w.alloc (.cells #[.int .i64 0, .int .i64 0, .int .i64 0] 61) = w1 := ⟨_, rfl⟩
  have hb1 : Below w.heap.size w w1 := by rw [← hw1]; exact al1' _ _
  have g1 : w1.heap[w.heap.size]? = some (.cells #[.int .i64 0, .int .i64 0, .int .i64 0] 61 (0, 0)) := by rw [← hw1]; exact new_at rfl
  have c1 := (h.carry hb1).c1
  go_enter Tryz.func97, Tryz.ntmps97
  go_wp2_with (refine wpList_store_row rfl 61 (.tmp 2) (.tmp 12) rfl w.heap.size #[.int .i64 0, .int .i64 0, .int .i64 0] rfl rfl 61 _ g1 infoR rfl (by simp [Value.oneCell']) ?_; obtain ⟨v, hv⟩ : ∃ v, w1.setRow w.heap.size #[.int .i64 0, .int .i64 0, .int .i64 0] = v := ⟨_, rfl⟩; have hgv : v.heap[w.heap.size]? = some (.cells #[.int .i64 0, .int .i64 0, .int .i64 0] 61 (0, 0)) := (by rw [← hv]; exact setRow_heap _ _ _ _ _ _ g1); have hbv : Below w.heap.size w v := (by rw [← hv]; exact below_setRow hb1 (Nat.le_refl _) _); rw [hv])
  (try simp only [Exit.inBlock, Exit.then])
  exact retC3 rfl rfl rfl rfl rfl hgv undR infoR ⟨rfl, hbv⟩
set_option maxHeartbeats 4000000 in
set_option maxRecDepth 100000 in
theorem ropen_off (h : Of0 w d) : Calls Tryz.prog 45 #[.pointer (some ⟨d, 0, none⟩)] w fun e w' => e = .returned (.tuple #[.agg bZ, .int .i64 100]) ∧ Below w.heap.size w w' := by
  obtain ⟨w1, hw1⟩ : ∃ w1, w.alloc (.cells bZ 63) = w1 := ⟨_, rfl⟩
  have hb1 : Below w.heap.size w w1 := by rw [← hw1]; exact al1' _ _
  have g1 : w1.heap[w.heap.size]? = some (.cells bZ 63 (0, 0)) := by rw [← hw1]; exact new_at rfl
  have hld := rload_off (h.carry hb1)
  unfold bZ at hw1 g1
  go_enter Tryz.func45, Tryz.ntmps45
  go_wp2_with (first
    | (go_at_call 97; (with_reducible refine hld.mono ?_); rintro r u ⟨rfl, hu⟩; have hb2 : Below w1.heap.size w1 (u.alloc (.cells #[.int .i64 0, .int .i64 0, .int .i64 0] 61)) := bel2 hu (al1' _ _); have g2 : (u.alloc (.cells #[.int .i64 0, .int .i64 0, .int .i64 0] 61)).heap[w.heap.size]? = some (.cells #[.int .i64 0, .int .i64 0, .int .i64 0, .int .i64 0, .int .i64 0, .int .i64 0] 63 (0, 0)) := (hb2.block _ (lt_at g1)).trans g1)
    | (refine wpList_store_row rfl 63 (.tmp 2) (.tmp 16) rfl w.heap.size bZ rfl rfl 63 _ g2 infoRB2 rfl (by simp [bZ, Value.oneCell']) ?_; obtain ⟨v, hv⟩ : ∃ v, (u.alloc (.cells #[.int .i64 0, .int .i64 0, .int .i64 0] 61)).setRow w.heap.size bZ = v := ⟨_, rfl⟩; have hgv : v.heap[w.heap.size]? = some (.cells bZ 63 (0, 0)) := (by rw [← hv]; exact setRow_heap _ _ _ _ _ _ g2); have hbv : Below w.heap.size w v := (by rw [← hv]; exact below_setRow (bel2 hb1 hb2) (Nat.le_refl _) _); rw [hv]))
  (try simp only [Exit.inBlock, Exit.then])
  exact retC2Z rfl rfl rfl rfl hgv undRB2 infoRB2 ⟨rfl, hbv⟩
set_option maxHeartbeats 8000000 in
set_option maxRecDepth 100000 in
theorem rnopen_off (n f s : Int) (h : Of0 w d) : Calls Tryz.prog 16 #[.int .i64 n, .int .i64 f, .int .i64 s, .pointer (some ⟨d, 0, none⟩)] w fun r w' => r = .returned (.tuple #[.agg nZ, .int .i64 (opE n f s)]) ∧ Below w.heap.size w w' := by
  obtain ⟨w1, hw1⟩ : ∃ w1, w.alloc (.cells nZ 71) = w1 := ⟨_, rfl⟩
  have hb1 : Below w.heap.size w w1 := by rw [← hw1]; exact al1' _ _
  have g1 : w1.heap[w.heap.size]? = some (.cells nZ 71 (0, 0)) := by rw [← hw1]; exact new_at rfl
  have hop := ropen_off (h.carry hb1)
  have hput : ∀ V, Below w1.heap.size w1 V → V.heap[w.heap.size]? = some (.cells nZ 71 (0, 0)) := fun V hV => (hV.block _ (lt_at g1)).trans g1
  unfold nZ at hw1 g1
  unfold bZ at hop
  unfold opE
  by_cases h1 : n < 1
  · rw [if_pos (.inl h1)]
    go_enter Tryz.func16, Tryz.ntmps16
    go_wp2_with (refine wpList_store_row rfl 71 (.tmp 8) (.tmp 29) rfl w.heap.size nZ rfl rfl 71 _ g1 infoRN rfl (by simp [nZ, Value.oneCell']) ?_; obtain ⟨v, hv⟩ : ∃ v, w1.setRow w.heap.size nZ = v := ⟨_, rfl⟩; have hgv : v.heap[w.heap.size]? = some (.cells nZ 71 (0, 0)) := (by rw [← hv]; exact setRow_heap _ _ _ _ _ _ g1); have hbv : Below w.heap.size w v := (by rw [← hv]; exact below_setRow hb1 (Nat.le_refl _) _); rw [hv])
    (try simp only [Exit.inBlock, Exit.then])
    exact retC2Z rfl rfl rfl rfl hgv undRN infoRN ⟨rfl, hbv⟩
  by_cases h2 : n > 100
  · rw [if_pos (.inr (.inl h2))]
    go_enter Tryz.func16, Tryz.ntmps16
    go_wp2_with (refine wpList_store_row rfl 71 (.tmp 8) (.tmp 29) rfl w.heap.size nZ rfl rfl 71 _ g1 infoRN rfl (by simp [nZ, Value.oneCell']) ?_; obtain ⟨v, hv⟩ : ∃ v, w1.setRow w.heap.size nZ = v := ⟨_, rfl⟩; have hgv : v.heap[w.heap.size]? = some (.cells nZ 71 (0, 0)) := (by rw [← hv]; exact setRow_heap _ _ _ _ _ _ g1); have hbv : Below w.heap.size w v := (by rw [← hv]; exact below_setRow hb1 (Nat.le_refl _) _); rw [hv])
    (try simp only [Exit.inBlock, Exit.then])
    exact retC2Z rfl rfl rfl rfl hgv undRN infoRN ⟨rfl, hbv⟩
  by_cases h3 : f < 0
  · rw [if_pos (.inr (.inr (.inl h3)))]
    go_enter Tryz.func16, Tryz.ntmps16
    go_wp2_with (refine wpList_store_row rfl 71 (.tmp 8) (.tmp 29) rfl w.heap.size nZ rfl rfl 71 _ g1 infoRN rfl (by simp [nZ, Value.oneCell']) ?_; obtain ⟨v, hv⟩ : ∃ v, w1.setRow w.heap.size nZ = v := ⟨_, rfl⟩; have hgv : v.heap[w.heap.size]? = some (.cells nZ 71 (0, 0)) := (by rw [← hv]; exact setRow_heap _ _ _ _ _ _ g1); have hbv : Below w.heap.size w v := (by rw [← hv]; exact below_setRow hb1 (Nat.le_refl _) _); rw [hv])
    (try simp only [Exit.inBlock, Exit.then])
    exact retC2Z rfl rfl rfl rfl hgv undRN infoRN ⟨rfl, hbv⟩
  by_cases h4 : f ≥ n
  · rw [if_pos (.inr (.inr (.inr h4)))]
    go_enter Tryz.func16, Tryz.ntmps16
    go_wp2_with (refine wpList_store_row rfl 71 (.tmp 8) (.tmp 29) rfl w.heap.size nZ rfl rfl 71 _ g1 infoRN rfl (by simp [nZ, Value.oneCell']) ?_; obtain ⟨v, hv⟩ : ∃ v, w1.setRow w.heap.size nZ = v := ⟨_, rfl⟩; have hgv : v.heap[w.heap.size]? = some (.cells nZ 71 (0, 0)) := (by rw [← hv]; exact setRow_heap _ _ _ _ _ _ g1); have hbv : Below w.heap.size w v := (by rw [← hv]; exact below_setRow hb1 (Nat.le_refl _) _); rw [hv])
    (try simp only [Exit.inBlock, Exit.then])
    exact retC2Z rfl rfl rfl rfl hgv undRN infoRN ⟨rfl, hbv⟩
  rw [if_neg (by omega)]
  by_cases h5 : s < 0
  · rw [if_pos (.inl h5)]
    go_enter Tryz.func16, Tryz.ntmps16
    go_wp2_with (refine wpList_store_row rfl 71 (.tmp 8) (.tmp 37) rfl w.heap.size nZ rfl rfl 71 _ g1 infoRN rfl (by simp [nZ, Value.oneCell']) ?_; obtain ⟨v, hv⟩ : ∃ v, w1.setRow w.heap.size nZ = v := ⟨_, rfl⟩; have hgv : v.heap[w.heap.size]? = some (.cells nZ 71 (0, 0)) := (by rw [← hv]; exact setRow_heap _ _ _ _ _ _ g1); have hbv : Below w.heap.size w v := (by rw [← hv]; exact below_setRow hb1 (Nat.le_refl _) _); rw [hv])
    (try simp only [Exit.inBlock, Exit.then])
    exact retC2Z rfl rfl rfl rfl hgv undRN infoRN ⟨rfl, hbv⟩
  by_cases h6 : s ≥ n
  · rw [if_pos (.inr h6)]
    go_enter Tryz.func16, Tryz.ntmps16
    go_wp2_with (refine wpList_store_row rfl 71 (.tmp 8) (.tmp 37) rfl w.heap.size nZ rfl rfl 71 _ g1 infoRN rfl (by simp [nZ, Value.oneCell']) ?_; obtain ⟨v, hv⟩ : ∃ v, w1.setRow w.heap.size nZ = v := ⟨_, rfl⟩; have hgv : v.heap[w.heap.size]? = some (.cells nZ 71 (0, 0)) := (by rw [← hv]; exact setRow_heap _ _ _ _ _ _ g1); have hbv : Below w.heap.size w v := (by rw [← hv]; exact below_setRow hb1 (Nat.le_refl _) _); rw [hv])
    (try simp only [Exit.inBlock, Exit.then])
    exact retC2Z rfl rfl rfl rfl hgv undRN infoRN ⟨rfl, hbv⟩
  rw [if_neg (by omega)]
  go_enter Tryz.func16, Tryz.ntmps16
  go_wp2_with (first
    | (go_at_call 45; (with_reducible refine hop.mono ?_); rintro r u ⟨rfl, hu⟩; have hb2 : Below w1.heap.size w1 (u.alloc (.cells #[.int .i64 0, .int .i64 0, .int .i64 0, .int .i64 0, .int .i64 0, .int .i64 0] 63)) := bel2 hu (al1' _ _); have g2 := hput _ hb2)
    | (refine wpList_store_row rfl 71 (.tmp 8) (.tmp 45) rfl w.heap.size nZ rfl rfl 71 _ g2 infoRN rfl (by simp [nZ, Value.oneCell']) ?_; obtain ⟨v, hv⟩ : ∃ v, (u.alloc (.cells #[.int .i64 0, .int .i64 0, .int .i64 0, .int .i64 0, .int .i64 0, .int .i64 0] 63)).setRow w.heap.size nZ = v := ⟨_, rfl⟩; have hgv : v.heap[w.heap.size]? = some (.cells nZ 71 (0, 0)) := (by rw [← hv]; exact setRow_heap _ _ _ _ _ _ g2); have hbv : Below w.heap.size w v := (by rw [← hv]; exact below_setRow (bel2 hb1 hb2) (Nat.le_refl _) _); rw [hv]))
  (try simp only [Exit.inBlock, Exit.then])
  exact retC2Z rfl rfl rfl rfl hgv undRN infoRN ⟨rfl, hbv⟩
end
set_option maxHeartbeats 4000000 in
set_option maxRecDepth 100000 in
theorem same0 (w : World) : Calls Tryz.prog 52 #[.slice none 0 0, .slice none 0 0] w fun e w' => e = .returned (.bool true) ∧ Below w.heap.size w w' := same_any none none 0 0 [] w (fun h => absurd rfl h) (fun h => absurd rfl h) (by simp)
set_option maxHeartbeats 4000000 in
set_option maxRecDepth 100000 in
theorem sameSight0 (w : World) : Calls Tryz.prog 19 #[.agg siZ, .agg siZ] w fun e w' => e = .returned (.bool true) ∧ Below w.heap.size w w' := by
  obtain ⟨w1, hw1⟩ : ∃ w1, w.alloc (.cells siZ 36) = w1 := ⟨_, rfl⟩
  have hb1 : Below w.heap.size w w1 := by rw [← hw1]; exact al1' _ _
  have g1 : w1.heap[w.heap.size]? = some (.cells siZ 36 (0, 0)) := by rw [← hw1]; exact new_at rfl
  obtain ⟨w2, hw2⟩ : ∃ w2, w1.alloc (.cells siZ 36) = w2 := ⟨_, rfl⟩
  have hb2 : Below w1.heap.size w1 w2 := by rw [← hw2]; exact al1' _ _
  have g2 : w2.heap[w1.heap.size]? = some (.cells siZ 36 (0, 0)) := by rw [← hw2]; exact new_at rfl
  have g3 := (hb2.block _ (lt_at g1)).trans g1
  have q : ∀ i, w2.cell? ⟨w.heap.size, i, none⟩ = siZ[i]? := fun i => cell_at g3 i
  have r : ∀ i, w2.cell? ⟨w1.heap.size, i, none⟩ = siZ[i]? := fun i => cell_at g2 i
  have hs := same0 w2
  have e0 : ∀ V, (Op.equalIn 10000 33 (.agg #[.int .u32 0, .int .u32 0, .int .u32 0, .int .u32 0]) (.agg #[.int .u32 0, .int .u32 0, .int .u32 0, .int .u32 0])).run Tryz.prog V = .ok true V := fun V => by kernel_rfl
  unfold siZ at hw1 hw2 ⊢
  obtain ⟨q0, q1, q2, q3, q4, q5, q6, q7, q8, q9, q10, q11, q12, q13, q14, q15, q16⟩ := And.intro (q 0) (And.intro (q 1) (And.intro (q 2) (And.intro (q 3) (And.intro (q 4) (And.intro (q 5) (And.intro (q 6) (And.intro (q 7) (And.intro (q 8) (And.intro (q 9) (And.intro (q 10) (And.intro (q 11) (And.intro (q 12) (And.intro (q 13) (And.intro (q 14) (And.intro (q 15) (q 16))))))))))))))))
  obtain ⟨r0, r1, r2, r3, r4, r5, r6, r7, r8, r9, r10, r11, r12, r13, r14, r15, r16⟩ := And.intro (r 0) (And.intro (r 1) (And.intro (r 2) (And.intro (r 3) (And.intro (r 4) (And.intro (r 5) (And.intro (r 6) (And.intro (r 7) (And.intro (r 8) (And.intro (r 9) (And.intro (r 10) (And.intro (r 11) (And.intro (r 12) (And.intro (r 13) (And.intro (r 14) (And.intro (r 15) (r 16))))))))))))))))
  clear q r
  simp only [siZ, List.getElem?_toArray, List.getElem?_cons_zero, List.getElem?_cons_succ] at q0 q1 q2 q3 q4 q5 q6 q7 q8 q9 q10 q11 q12 q13 q14 q15 q16 r0 r1 r2 r3 r4 r5 r6 r7 r8 r9 r10 r11 r12 r13 r14 r15 r16
  go_enter Tryz.func19, Tryz.ntmps19
  go_wp2_with (go_at_call 52; (with_reducible refine hs.mono ?_); rintro r u ⟨rfl, hu⟩)
  go_ret
  exact ⟨rfl, bel2 (bel2 hb1 hb2) hu⟩
end Go.Proofs.YtgngopdkfcmndaaGreatDoor
namespace Go.Proofs.YtgngopdkfcmndaaGreatDoor
open Go.ChangeShapes Go.WideShapes Go.ChangeAt Go.RowKit Go.Lib Go.Shelf

def lay3 : List (String × DataW Unit) := [("math/bits.deBruijn32tab", Rows.laid_math_bits_deBruijn32tab), ("errors.errorType", Rows.laid_errors_errorType), ("earshot/refute.errNotTaken", Rows.laid_earshot_refute_errNotTaken)]
def layP : List (String × DataW Unit) := [("math/bits.deBruijn32tab", Rows.laid_math_bits_deBruijn32tab), ("earshot/refute.errNotTaken", Rows.laid_earshot_refute_errNotTaken)]
def hatch (w : World) : World :=
  { w with heap := w.heap.modify 0 fun
      | .cells _ t frozen => .cells #[.iface 261 (.agg #[.pointer (some ⟨3, 109, none⟩)])] t frozen
      | o => o }
theorem hatch_os (w : World) : (hatch w).os = w.os := rfl
/-- A world in which the three hold what they shall. -/
noncomputable def world3 (os : Os) : World := hatch (World.laidAll Tryz.prog os layP)
theorem world3_os (os : Os) : (world3 os).os = os := by
  unfold world3
  rw [hatch_os]
  exact World.laidAll_os Tryz.prog os layP
set_option maxRecDepth 100000 in
theorem world3_met (os : Os) (args : Array Value) : laidMetH Tryz.prog lay3 ((world3 os).forCall (fun _ _ => 0) ⟨#[], args, []⟩).memory :=
  laidMetH_of_parts (laidMet_of_run' 8 (by kernel_rfl) (by kernel_rfl)) (by kernel_rfl)
end Go.Proofs.YtgngopdkfcmndaaGreatDoor
