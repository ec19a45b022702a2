/- The document's At, Take, News, Suspects: what they answer. -/
import Derived.Test.YtojegojeolkgpaaGreatBkv
namespace Go.Proofs.YtojegojeolkgpaaGreat
open Go.RowKit Go.Shelf Go.Lib

theorem rank_new {L : List N3} (hb : Bok L) {i : Nat} {o t k : Int} (hx : L[i]? = some (o, t, k)) : decide (rk t k > 0) = pNew (o, t, k) := by
  obtain ⟨h1, h2⟩ := hb i _ hx
  have h2' : rk t k ≠ -1 := h2
  obtain ⟨h3, h4, h5⟩ := rk_ok.1 h2'
  unfold pNew
  by_cases e : (o, t, k) = (o, 0, 1)
  · have e1 := congrArg (fun x : N3 => x.2.1) e
    have e2 := congrArg (fun x : N3 => x.2.2) e
    dsimp only at e1 e2
    subst e1 e2
    rw [show rk 0 1 = 0 by unfold rk; simp]
    simp
  · have hne : ¬ ((o, t, k).1 = o ∧ t = 0 ∧ k = 1) := fun h => e (by rw [h.2.1, h.2.2])
    have : rk t k > 0 := by
      unfold rk
      rw [if_neg (by omega)]
      rcases h5 with rfl | rfl
      · rw [if_pos rfl]; simp at hne; omega
      · rw [if_neg (by decide), if_pos rfl]; omega
    rw [decide_eq_true this, decide_eq_false e]
    rfl
set_option maxHeartbeats 4000000 in
set_option maxRecDepth 100000 in
theorem rAt_any {w : World} (ad : Option Addr) (n cap : Nat) (L : List N3) (h : RdN w ad L) (hn : L.length = n) (id : Int) : Calls Tryz.prog 24 #[.agg #[.slice ad n cap], .int .i64 id] w fun e w' => e = .returned (atV L id) ∧ Below w.heap.size w w' := by
  have hr1 : RB ((w.alloc (.cells #[.slice ad n cap] 47)).alloc (.cells #[.int .i64 0, .int .i64 0, .int .i64 0] 62)) w.heap.size (.slice ad n cap) := old_at (new_at rfl)
  have hn1 : NB ((w.alloc (.cells #[.slice ad n cap] 47)).alloc (.cells #[.int .i64 0, .int .i64 0, .int .i64 0] 62)) (w.heap.size + 1) 0 0 0 := NB.at 0 0 0 (by simp)
  have hb1 := al2 w (.cells #[.slice ad n cap] 47) (.cells #[.int .i64 0, .int .i64 0, .int .i64 0] 62)
  have r0 := hr1.cell
  have c0 := hn1.c0
  have c1 := hn1.c1
  have c2 := hn1.c2
  have z0 := hn1.thaw 0
  have z1 := hn1.thaw 1
  have z2 := hn1.thaw 2
  by_cases h0 : id < 0
  · have hV : atV L id = .tuple #[nt 0 0 0, .int .i64 30] := by unfold atV; rw [if_neg (by omega)]
    rw [hV]
    go_enter Tryz.func24, Tryz.ntmps24
    go_wp2
    exact retNt rfl rfl rfl rfl hn1 ⟨rfl, hb1⟩
  · by_cases h1 : id < (n : Int)
    · obtain ⟨i, rfl⟩ : ∃ i : Nat, id = (i : Int) := ⟨id.toNat, by omega⟩
      have hi : i < L.length := by omega
      obtain ⟨⟨o', t', k'⟩, hx⟩ : ∃ x, L[i]? = some x := ⟨_, List.getElem?_eq_getElem hi⟩
      obtain ⟨b, off, rfl, hbl, hat⟩ := h (fun e => by rw [e] at hi; simp at hi)
      rw [atV_in hx]
      have hge : ¬ (n : Int) ≤ (i : Int) := by omega
      obtain ⟨d0, d1, d2⟩ := (hat.carry hbl hb1) i _ hx
      dsimp only at d0 d1 d2
      have hbu : b < w.heap.size + 2 := by omega
      clear hat h
      go_enter Tryz.func24, Tryz.ntmps24
      go_wp2
      exact retNt rfl rfl rfl rfl (NB.at _ _ _ (by simp)) ⟨rfl, al2 _ _ _⟩
    · have hV : atV L id = .tuple #[nt 0 0 0, .int .i64 30] := by unfold atV; rw [if_neg (by omega)]
      rw [hV]
      have hge : (n : Int) ≤ id := by omega
      go_enter Tryz.func24, Tryz.ntmps24
      go_wp2
      exact retNt rfl rfl rfl rfl hn1 ⟨rfl, hb1⟩
set_option maxHeartbeats 4000000 in
set_option maxRecDepth 100000 in
theorem rNews_any {w : World} (ad : Option Addr) (n cap : Nat) (L : List N3) (h : RdN w ad L) (hn : L.length = n) (h0 : 0 < n) (h1 : n ≤ 100) (hbo : Bok L) : Calls Tryz.prog 27 #[.agg #[.slice ad n cap]] w fun e w' => ∃ v, e = .returned v ∧ Made w w' v (L.filter pNew) ∧ Below w.heap.size w w' := by
  obtain ⟨ic, hic, hz0, hz1, hz2⟩ := info_partsN
  obtain ⟨b, off, rfl, hbl, hat⟩ := h (fun e => by rw [e] at hn; simp at hn; omega)
  have HAT : Hid (NtsAt w b off L) := hat
  have HBO : Hid (Bok L) := hbo
  have HN : Hid (L.length = n) := hn
  have hr1 : RB (w.alloc (.cells #[.slice (some ⟨b, off, none⟩) n cap] 47)) w.heap.size (.slice (some ⟨b, off, none⟩) n cap) := new_at rfl
  clear hat hbo hn h
  go_enter Tryz.func27, Tryz.ntmps27
  go_wp2
  go_loopw [3, 4] (fun c i wz => ∃ (k : Nat), i = .int .i64 k ∧ k ≤ n ∧ wz.ownsRow (w.heap.size + 1) 62 3 c ((L.take k).filter pNew).length (fl ((L.take k).filter pNew)) ∧ RB wz w.heap.size (.slice (some ⟨b, off, none⟩) n cap) ∧ Below w.heap.size w wz) (fun _ i _ => n - vnatR i)
  case atStart => exact ⟨0, rfl, Nat.zero_le _, World.ownsRow_nil _ _ _ _, hr1, al1 _ _⟩
  case round =>
    obtain ⟨k, rfl, hk, hrow, hrb, hbw⟩ := hrel
    have hlw := lt_at hrb
    have r0 := hrb.cell
    by_cases hkl : k < n
    · have hki : (k : Int) < (n : Int) := by omega
      obtain ⟨⟨o, t, q⟩, hx⟩ : ∃ x, L[k]? = some x := ⟨_, List.getElem?_eq_getElem (by rw [HN.out]; exact hkl)⟩
      obtain ⟨c0, c1, c2⟩ := (HAT.out.carry hbl hbw) k _ hx
      dsimp only at c0 c1 c2
      have hra := rRank_any o t q wr
      have hpn := rank_new HBO.out hx
      have HFS : Hid ((L.take (k + 1)).filter pNew = if pNew (o, t, q) = true then (L.take k).filter pNew ++ [(o, t, q)] else (L.take k).filter pNew) := by
        show _ = _
        rw [List.take_add_one, hx]
        exact filter_snoc pNew (L.take k) (o, t, q)
      have hfl : ((L.take k).filter pNew).length ≤ n := Nat.le_trans (List.length_filter_le _ _) (by simp; omega)
      have HX : Hid (L[k]? = some (o, t, q)) := hx
      unfold nt at hra
      clear hx
      cases hp : pNew (o, t, q) with
      | false =>
        rw [hp] at hpn
        have hgt : ¬ 0 < rk t q := of_decide_eq_false hpn
        have HF2 := HFS.out
        rw [hp, if_neg (by decide)] at HF2
        have HF3 : Hid ((L.take (k + 1)).filter pNew = (L.take k).filter pNew) := HF2
        clear HF2 hpn
        generalize rk t q = rr at hra hgt
        go_wp2_with (go_at_call 87; (with_reducible refine hra.mono ?_); rintro e u1 ⟨rfl, hb1⟩)
        go_roundw
        case rel =>
          refine ⟨k + 1, by simp, by omega, ?_, hrb.carry hb1, bel2 hbw hb1⟩
          rw [HF3.out]
          exact row_below hrow hb1
        case measure => simp [vnatR]; omega
      | true =>
        rw [hp] at hpn
        have hgt : 0 < rk t q := of_decide_eq_true hpn
        have HF2 := HFS.out
        rw [hp, if_pos rfl] at HF2
        have HF3 : Hid ((L.take (k + 1)).filter pNew = (L.take k).filter pNew ++ [(o, t, q)]) := HF2
        clear HF2 hpn
        generalize rk t q = rr at hra hgt
        go_wp2_with (first | (go_at_call 87; (with_reducible refine hra.mono ?_); rintro e u1 ⟨rfl, hb1⟩; have hbu := bel2 hbw hb1; obtain ⟨d0, d1, d2⟩ := (HAT.out.carry hbl hbu) k _ HX.out; dsimp only at d0 d1 d2; have hrow1 := row_below hrow hb1; have hrb1 := hrb.carry hb1; have r1 := hrb1.cell; have hsz1 := hb1.size) | (at_builtin; refine wpList_append_own _ rfl _ _ 23 rfl (w.heap.size + 1) 62 ic _ 3 24 Tryz.underlying23 hic hz0 hz1 hz2 rfl (by decide) _ _ _ rfl (hrow1.alloc _) ⟨u1.heap.size, 0, none⟩ 1 1 [_, _, _] rfl rfl (rowN _ #[_, _, _] _) (by simp [Value.oneCell']) (by unfold maxLen; omega) (by omega) (by simp; omega) ?_; intro v' w2 hown' hgrow _))
        go_roundw
        case rel =>
          refine ⟨k + 1, by simp, by omega, ?_, ?_, (hbu.alloc hbu.size _).grown hgrow (Nat.le_trans hbu.size (by simp)) (fun q e => by have := own_block hrow1 q e; omega)⟩
          · rw [HF3.out, fl_append, List.length_append]; exact hown'
          · exact (hgrow.block _ (by simp; omega) (fun e => by have := own_block hrow1 _ e.symm; omega)).trans (old_at hrb1)
        case measure => simp [vnatR]; omega
    · have hkk : k = n := by omega
      subst hkk
      have HM : Hid (Made w wr u3 (L.filter pNew)) := by
        rw [List.take_of_length_le (by rw [HN.out]; exact Nat.le_refl _)] at hrow
        exact ownsRow_base hrow (by omega)
      clear hrow
      go_wp2
      go_ret
      exact ⟨_, rfl, HM.out, hbw⟩
theorem sus_take {L : List N3} (hb : Bok L) {k : Nat} {o t q : Int} (hx : L[k]? = some (o, t, q)) : sus (L.take (k + 1)) = if q = 2 then sus (L.take k) ||| 2 ^ k else sus (L.take k) := by
  have h1 := (hb k _ hx).1
  dsimp only at h1
  unfold sus
  rw [List.take_add_one, hx]
  simp only [Option.toList_some, List.foldl_append, List.foldl_cons, List.foldl_nil]
  unfold sst
  dsimp only
  rw [show o.toNat = k by omega]
theorem sus_take_lt {L : List N3} (hb : Bok L) (hl : L.length ≤ 100) (k : Nat) : sus (L.take k) < 2 ^ 100 := fold_sst_lt _ 0 (fun x hx => bok_lt hb hl x (List.mem_of_mem_take hx)) (by decide)
set_option maxHeartbeats 4000000 in
set_option maxRecDepth 100000 in
theorem rSus_any {w : World} (ad : Option Addr) (n cap : Nat) (L : List N3) (h : RdN w ad L) (hn : L.length = n) (h0 : 0 < n) (h1 : n ≤ 100) (hbo : Bok L) : Calls Tryz.prog 29 #[.agg #[.slice ad n cap]] w fun e w' => e = .returned (sv (sus L)) ∧ Below w.heap.size w w' := by
  obtain ⟨b, off, rfl, hbl, hat⟩ := h (fun e => by rw [e] at hn; simp at hn; omega)
  have HAT : Hid (NtsAt w b off L) := hat
  have HBO : Hid (Bok L) := hbo
  have HN : Hid (L.length = n) := hn
  have hr1 : RB (((w.alloc (.cells #[.slice (some ⟨b, off, none⟩) n cap] 47)).alloc (.cells #[.int .u32 0, .int .u32 0, .int .u32 0, .int .u32 0] 76)).alloc (.cells #[.int .u32 0, .int .u32 0, .int .u32 0, .int .u32 0] 76)) w.heap.size (.slice (some ⟨b, off, none⟩) n cap) := old_at (old_at (new_at rfl))
  have hs1 : Holds4 (((w.alloc (.cells #[.slice (some ⟨b, off, none⟩) n cap] 47)).alloc (.cells #[.int .u32 0, .int .u32 0, .int .u32 0, .int .u32 0] 76)).alloc (.cells #[.int .u32 0, .int .u32 0, .int .u32 0, .int .u32 0] 76)) (w.heap.size + 1) (fun _ => 0) := old_at (new_at (by simp))
  have hs2 : Holds4 (((w.alloc (.cells #[.slice (some ⟨b, off, none⟩) n cap] 47)).alloc (.cells #[.int .u32 0, .int .u32 0, .int .u32 0, .int .u32 0] 76)).alloc (.cells #[.int .u32 0, .int .u32 0, .int .u32 0, .int .u32 0] 76)) (w.heap.size + 2) (wd 0) := Holds4.congr (c := fun _ => 0) (new_at (by simp)) (fun j _ => (wd_zero j).symm)
  clear hat hbo hn h
  go_enter Tryz.func29, Tryz.ntmps29
  go_wp2
  go_loopw [4] (fun i wz => ∃ (k : Nat), i = .int .i64 k ∧ k ≤ n ∧ Holds4 wz (w.heap.size + 2) (wd (sus (L.take k))) ∧ Holds4 wz (w.heap.size + 1) (fun _ => 0) ∧ RB wz w.heap.size (.slice (some ⟨b, off, none⟩) n cap) ∧ Below w.heap.size w wz) (fun i _ => n - vnatR i)
  case atStart => exact ⟨0, rfl, Nat.zero_le _, hs2, hs1, hr1, al3 _ _ _ _⟩
  case round =>
    obtain ⟨k, rfl, hk, hs, hr, hrb, hbw⟩ := hrel
    have hlw := lt_at hrb
    have r0 := hrb.cell
    have HR : Hid (Holds4 wr (w.heap.size + 1) (fun _ => 0)) := hr
    have HS : Hid (Holds4 wr (w.heap.size + 2) (wd (sus (L.take k)))) := hs
    clear hr hs hr1 hs1 hs2
    by_cases hkl : k < n
    · have hki : (k : Int) < (n : Int) := by omega
      obtain ⟨⟨o, t, q⟩, hx⟩ : ∃ x, L[k]? = some x := ⟨_, List.getElem?_eq_getElem (by rw [HN.out]; exact hkl)⟩
      obtain ⟨c0, c1, c2⟩ := (HAT.out.carry hbl hbw) k _ hx
      dsimp only at c0 c1 c2
      have HST : Hid (sus (L.take (k + 1)) = if q = 2 then sus (L.take k) ||| 2 ^ k else sus (L.take k)) := sus_take HBO.out hx
      have hpu := rPut_any (sus (L.take k)) (sus_take_lt HBO.out (by rw [HN.out]; exact h1) k) k (by omega)
      clear hx
      by_cases hq : q = 2
      · subst hq
        have HS2 := HST.out
        rw [if_pos rfl] at HS2
        have HS3 : Hid (sus (L.take (k + 1)) = sus (L.take k) ||| 2 ^ k) := HS2
        obtain ⟨x0, x1, x2, x3, _, _, _, _⟩ := HS.out.facts
        generalize sus (L.take k) ||| 2 ^ k = M at hpu HS3
        clear HS2 HST
        unfold sv at hpu
        go_wp2_with (go_at_call 90; (with_reducible refine (hpu _).mono ?_); rintro e u1 ⟨rfl, hb1⟩; have HS1 : Hid (Holds4 u1 (w.heap.size + 2) (wd (sus (L.take k)))) := HS.out.carry hb1; obtain ⟨y0, y1, y2, y3, z0, z1, z2, z3⟩ := HS1.out.facts)
        go_roundw
        case rel =>
          have hbu := bel2 hbw hb1
          refine ⟨k + 1, by simp, by omega, ?_, (set4_other (M := M) (by omega)).trans (HR.out.carry hb1), (set4_other (M := M) (by omega)).trans (hrb.carry hb1), below4 hbu (by omega) M⟩
          rw [HS3.out]
          exact fin4 HS1.out M
        case measure => simp [vnatR]; omega
      · have HS2 := HST.out
        rw [if_neg hq] at HS2
        have HS3 : Hid (sus (L.take (k + 1)) = sus (L.take k)) := HS2
        have hq2 : (q == 2) = false := by simpa using hq
        clear HS2 HST hpu
        go_wp2
        go_roundw
        case rel =>
          refine ⟨k + 1, by simp, by omega, ?_, HR.out, hrb, hbw⟩
          rw [HS3.out]
          exact HS.out
        case measure => simp [vnatR]; omega
    · have hkk : k = n := by omega
      subst hkk
      rw [List.take_of_length_le (by rw [HN.out]; exact Nat.le_refl _)] at HS
      obtain ⟨x0, x1, x2, x3, _, _, _, _⟩ := HS.out.facts
      obtain ⟨y0, y1, y2, y3, z0, z1, z2, z3⟩ := HR.out.facts
      go_wp2
      exact ret4 rfl rfl rfl (fin4 HR.out _) ⟨rfl, below4 hbw (by omega) _⟩
theorem retRtt {f : Func} {p q r : Tmp} {R : Ending → World → Prop} {a : Act} {w : World} {b n c : Nat} {ad : Option Addr} {x y : Value} (hres : f.results = #[.cell p 47, .tmp q, .tmp r]) (hp : a.tmps.getD p undef = .pointer (some ⟨b, 0, none⟩)) (hq : a.tmps.getD q undef = x) (hr : a.tmps.getD r undef = y) (hd : a.defers = []) (h : RB w b (.slice ad n c)) (hR : R (.returned (.tuple #[.agg #[.slice ad n c], x, y])) w) : bodyPost Tryz.prog f R .ret a w := by
  refine bodyPost_ret (v := .tuple #[.agg #[.slice ad n c], x, y]) ?_ hd hR
  have hp' : a.tmps[p]?.getD undef = .pointer (some ⟨b, 0, none⟩) := by simpa using hp
  have hq' : a.tmps[q]?.getD undef = x := by simpa using hq
  have hr' : a.tmps[r]?.getD undef = y := by simpa using hr
  have c0 := h.cell
  simp [results, hres, hp', hq', hr', asAddr]
  go_simp
structure RT (w : World) (ad : Option Addr) (n cap : Nat) (o t k : Int) (W : World) : Prop where
  b0 : RB W w.heap.size (.slice ad n cap)
  x : NB W (w.heap.size + 1) o t k
  b2 : RB W (w.heap.size + 2) (.slice none 0 0)
  below : Below w.heap.size w W
theorem RT.carry {w W V : World} {ad : Option Addr} {n cap : Nat} {o t k : Int} (h : RT w ad n cap o t k W) (hb : Below W.heap.size W V) : RT w ad n cap o t k V := ⟨h.b0.carry hb, h.x.carry hb, h.b2.carry hb, bel2 h.below hb⟩
set_option maxHeartbeats 8000000 in
set_option maxRecDepth 100000 in
theorem rTake_any {w : World} (ad : Option Addr) (n cap : Nat) (L : List N3) (hL : RdN w ad L) (hn : L.length = n) (h0 : 0 < n) (h1 : n ≤ 100) (hcap : n ≤ cap) (o t k : Int) : Calls Tryz.prog 80 #[.agg #[.slice ad n cap], nt o t k] w fun e w' => ∃ ad' cap', e = .returned (.tuple #[.agg #[.slice ad' n cap'], .bool (tkb L (o, t, k)), .int .i64 (if vlx L.length (o, t, k) = true then 0 else 50)]) ∧ RdN w' ad' (tke L (o, t, k)) ∧ n ≤ cap' ∧ (ad' = ad ∨ ∀ a, ad' = some a → w.heap.size ≤ a.block ∧ ∃ cur, w'.heap[a.block]? = some (.cells cur 62 (0, 0))) ∧ Below w.heap.size w w' := by
  have hmx : Tryz.prog.follows .mixedOrders = true := by kernel_rfl
  obtain ⟨b, off, rfl, hbl, hat⟩ := hL (fun e => by rw [e] at hn; simp at hn; omega)
  have HAT : Hid (NtsAt w b off L) := hat
  have HN : Hid (L.length = n) := hn
  have HRD : Hid (∀ W, Below w.heap.size w W → RdN W (some ⟨b, off, none⟩) L) := fun W hb => hL.carry hb
  obtain ⟨B, hB⟩ : ∃ B, vlx L.length (o, t, k) = B := ⟨_, rfl⟩
  have hva := rValid_any (n : Int) o t k
  have hvv : vl (n : Int) o t k = B := by rw [← hn]; exact hB
  rw [hvv] at hva
  have hin : B = true → ∃ i : Nat, o = (i : Int) ∧ i < L.length := fun e => by
    obtain ⟨_, _, h3, h4, _⟩ := vlx_iff.1 (hB.trans e)
    exact ⟨o.toNat, by simpa using (Int.toNat_of_nonneg h3).symm, h4⟩
  unfold tkb tke
  rw [hB]
  obtain ⟨R, hR⟩ : ∃ R, (B && bat L (o, t, k)) = R := ⟨_, rfl⟩
  obtain ⟨M, hM⟩ : ∃ M, (if B = true then rse L (o, t, k) else L) = M := ⟨_, rfl⟩
  obtain ⟨E, hE⟩ : ∃ E : Int, (if B = true then 0 else 50) = E := ⟨_, rfl⟩
  rw [hR, hM, hE]
  have hj0 : RT w (some ⟨b, off, none⟩) n cap o t k (((w.alloc (.cells #[.slice (some ⟨b, off, none⟩) n cap] 47)).alloc (.cells #[.int .i64 o, .int .i64 t, .int .i64 k] 62)).alloc (.cells #[.slice none 0 0] 47)) := ⟨old_at (old_at (new_at rfl)), (NB.at o t k (by simp)).old _, new_at (by simp), al3 _ _ _ _⟩
  have r0 := hj0.b0.cell
  have x0 := hj0.x.c0
  have x1 := hj0.x.c1
  have x2 := hj0.x.c2
  have HJ0 : Hid (RT w (some ⟨b, off, none⟩) n cap o t k (((w.alloc (.cells #[.slice (some ⟨b, off, none⟩) n cap] 47)).alloc (.cells #[.int .i64 o, .int .i64 t, .int .i64 k] 62)).alloc (.cells #[.slice none 0 0] 47))) := hj0
  unfold nt at hva
  clear hat hn hL hvv hB hj0
  cases B with
  | false =>
    clear hin
    obtain rfl : false = R := hR
    obtain rfl : L = M := hM
    obtain rfl : (50 : Int) = E := hE
    go_enter Tryz.func80, Tryz.ntmps80
    unfold nt
    go_wp2_with (go_at_call 117; (with_reducible refine (hva _).mono ?_); rintro e u1 ⟨rfl, hb1⟩; have hj1 := HJ0.out.carry hb1; have q0 := hj1.b0.cell; have q1 := hj1.b2.cell; have q2 := hj1.b2.thaw)
    have hbf := hj1.below.setCell (p := ⟨w.heap.size + 2, 0, none⟩) (by simp) (.slice (some ⟨b, off, none⟩) n cap)
    exact retRtt (x := .bool false) (y := .int .i64 50) rfl rfl rfl rfl rfl (hj1.b2.set _) ⟨_, _, rfl, HRD.out _ hbf, hcap, .inl rfl, hbf⟩
  | true =>
    obtain ⟨i, rfl, hi⟩ := hin rfl
    clear hin
    have hin2 : i < n := by rw [← HN.out]; exact hi
    obtain ⟨⟨o', t', k'⟩, hy⟩ : ∃ x, L[i]? = some x := ⟨_, List.getElem?_eq_getElem hi⟩
    have hbat : bat L ((i : Int), t, k) = bt (i : Int) t k o' t' k' := by
      unfold bat
      simp only [Int.toNat_natCast, hy]
      rfl
    have hM2 : (if bt (i : Int) t k o' t' k' = true then L.set i ((i : Int), t, k) else L) = M := by
      rw [← hM, if_pos rfl]
      unfold rse
      rw [hbat, Int.toNat_natCast]
    have hR2 : bt (i : Int) t k o' t' k' = R := by rw [← hR, hbat, Bool.true_and]
    obtain rfl : (0 : Int) = E := hE
    have hbe := rBeats_any (i : Int) t k o' t' k'
    rw [hR2] at hbe hM2
    have HY : Hid (L[i]? = some (o', t', k')) := hy
    clear hR hM hbat hR2 hy
    go_enter Tryz.func80, Tryz.ntmps80
    unfold nt
    go_wp2_with (go_at_call 117; (with_reducible refine (hva _).mono ?_); rintro e u1 ⟨rfl, hb1⟩; have hj1 := HJ0.out.carry hb1; clear r0 x0 x1 x2 hva)
    refine wp_region_any hmx ?_
    refine wpAny_pure (fun i__ => ([(nt (i : Int) t k), (.pointer (some ⟨w.heap.size, 0, none⟩)), (.slice (some ⟨b, off, none⟩) n cap), (.pointer (some ⟨w.heap.size + 1, 0, none⟩)), (.int .i64 (i : Int)), (.pointer (some ⟨b, off + i * 3, none⟩)), (nt o' t' k'), (.bool R), (.bool (!R))] : List Value).getD i__ undef) (fun V => RT w (some ⟨b, off, none⟩) n cap (i : Int) t k V) (by kernel_rfl) (hj1.carry (Below.refl _ _).drew) ?_ ?_
    · refine (stepsFrom_cons ?_ (stepsFrom_cons ?_ (stepsFrom_cons ?_ (stepsFrom_cons ?_ (stepsFrom_cons ?_ (stepsFrom_cons ?_ (stepsFrom_cons ?_ (stepsFrom_cons ?_ (stepsFrom_cons ?_ trivial)))))))))
      · exact step_load rfl trivial _ _ _ rfl rfl (fun w hw => load_nt hw.x)
      · exact step_fieldAddr rfl trivial _ _ _ _ rfl rfl (fun w hw => field_rb w _)
      · exact step_load rfl trivial _ _ _ rfl rfl (fun w hw => load_rb hw.b0)
      · exact step_fieldAddr rfl trivial _ _ _ _ rfl rfl (fun w hw => field_n0 w _)
      · exact step_load rfl trivial _ _ _ rfl rfl (fun w hw => load_n0 hw.x)
      · exact step_indexAddr rfl trivial _ _ _ _ _ rfl rfl rfl (fun w hw => idx_n b off _ _ i hin2 w)
      · exact step_load rfl trivial _ _ _ rfl rfl (fun w hw => load_at (HAT.out.carry hbl hw.below) HY.out)
      · exact step_call rfl trivial 118 _ _ [(nt (i : Int) t k), (nt o' t' k')] rfl (by kernel_rfl) (enters_of Tryz.func118 (by kernel_rfl) rfl) (fun w hw => (hbe w).mono (by rintro e w' ⟨rfl, hb⟩; exact ⟨rfl, hw.carry hb⟩))
      · exact step_unOp rfl trivial _ _ _ _ rfl rfl (fun w hw => un_not R w)
    intro W hW
    first | refine hK _ _ ?_ | refine (‹∀ (a : Act) (w : World), Code.wp Tryz.prog _ _ a w → _›) _ _ ?_
    simp only [finL, List.getD_cons_zero, List.getD_cons_succ, Nat.zero_add, Nat.reduceAdd, List.setIfInBounds_toArray, List.set_cons_zero, List.set_cons_succ]
    clear hj1 hbe
    cases R with
    | false =>
      obtain rfl : L = M := hM2
      have q0 := hW.b0.cell
      have q1 := hW.b2.cell
      have q2 := hW.b2.thaw
      go_wp2
      have hbf := hW.below.setCell (p := ⟨w.heap.size + 2, 0, none⟩) (by simp) (.slice (some ⟨b, off, none⟩) n cap)
      exact retRtt (x := .bool false) (y := .int .i64 0) rfl rfl rfl rfl rfl (hW.b2.set _) ⟨_, _, rfl, HRD.out _ hbf, hcap, .inl rfl, hbf⟩
    | true =>
      obtain rfl : L.set i ((i : Int), t, k) = M := hM2
      have q0 := hW.b0.cell
      have hlw := lt_at hW.b2
      have k1 := rCopy_any (w := W) (some ⟨b, off, none⟩) n cap L (HRD.out _ hW.below) HN.out h0 h1
      have HW : Hid (RT w (some ⟨b, off, none⟩) n cap (i : Int) t k W) := hW
      clear hW
      go_wp2_with (go_at_call 119; (with_reducible refine k1.mono ?_); rintro e v1 ⟨gc, capc, rfl, hown, hb1⟩; obtain ⟨hgb, hcc, cur, hcur⟩ := own_block2 hown; have hj2 := HW.out.carry hb1; have hsz1 := hb1.size; have hgl := lt_at hcur; have hnt := nts_own hown HN.out.symm; obtain ⟨d0, d1, d2⟩ := hnt i _ HY.out; rw [Nat.zero_add] at d0 d1 d2; have f0 := thaw_at hcur (i * 3); have f1 := thaw_at hcur (i * 3 + 1); have f2 := thaw_at hcur (i * 3 + 2); have y0 := hj2.x.c0; have y1 := hj2.x.c1; have y2 := hj2.x.c2; have p1 := hj2.b2.cell; have p2 := hj2.b2.thaw; have hl1 := lt_at hj2.x; have hl2 := lt_at hj2.b2; have hl3 : w.heap.size + 1 ≠ gc := (by omega); have hl4 : w.heap.size + 2 ≠ gc := (by omega); have HNT : Hid (NtsAt v1 gc 0 L) := hnt; clear hnt)
      have hne : w.heap.size + 2 ≠ gc := hl4
      have hb2 : RB (W3o v1 gc (i * 3) (i : Int) t k) (w.heap.size + 2) (.slice none 0 0) := (w3o_other hne _ _ _).trans hj2.b2
      have hbf0 : Below w.heap.size w ((W3o v1 gc (i * 3) (i : Int) t k).setCell ⟨w.heap.size + 2, 0, none⟩ (.slice (some ⟨gc, 0, none⟩) n capc)) := (below3o hj2.below (by omega) _ _ _ _).setCell (by simp) _
      have hbf : Below w.heap.size w (((W3o v1 gc (i * 3) (i : Int) t k).setCell ⟨w.heap.size + 2, 0, none⟩ (.slice (some ⟨gc, 0, none⟩) n capc)).alloc (.cells #[.slice (some ⟨gc, 0, none⟩) n capc] 47)) := hbf0.alloc hbf0.size _
      refine retRtt (x := .bool true) (y := .int .i64 0) rfl rfl rfl rfl rfl (old_at (hb2.set _)) ⟨some ⟨gc, 0, none⟩, capc, rfl, fun _ => ⟨gc, 0, rfl, ?_, ?_⟩, hcc, .inr (fun a ha => by obtain rfl := Option.some.inj ha; exact ⟨by simp only; omega, ⟨_, old_at ((Below.heap_setCell _ _ _ _ (Ne.symm hne)).trans (heap_setCell_same _ _ _ _ _ _ (heap_setCell_same _ _ _ _ _ _ (heap_setCell_same _ _ _ _ _ _ hcur))))⟩⟩), hbf⟩
      · simp; omega
      · exact NtsAt.carry ((HNT.out.put hcur i hi (i : Int) t k).aside (Ne.symm hne)) (by simp [W3o]; omega) (al1 _ _)
end Go.Proofs.YtojegojeolkgpaaGreat
