/- The document's Due; Merge of an empty book. -/
import Derived.Test.YtlpmehmoeladjaaGreatDoorJnJ11
import Derived.Test.YtlpmehmoeladjaaGreatDoorJnJ27
import Derived.Test.YtlpmehmoeladjaaGreatDoorJnJ21
import Derived.Test.YtlpmehmoeladjaaGreatDoorJnJ7
import Derived.Test.YtlpmehmoeladjaaGreatDoorJnJ10
import Derived.Test.YtlpmehmoeladjaaGreatDoorJnJ8
namespace Go.Proofs.YtlpmehmoeladjaaGreatDoor
open Go.RowKit Go.Shelf Go.Lib
attribute [local go_sem] Oper.semAt_some

set_option maxHeartbeats 4000000 in
set_option maxRecDepth 100000 in
theorem rDue_any {w : World} (ad : Option Addr) (n cap : Nat) (L : List N3) (h : RdN w ad L) (hn : L.length = n) (hbo : Bok L) (id : Int) : Calls Tryz.prog 47 #[.agg #[.slice ad n cap], .int .i64 id] w fun e w' => e = .returned (dueV (dueN L id)) ∧ Below w.heap.size w w' := by
  have hr1 : RB ((w.alloc (.cells #[.slice ad n cap] 46)).alloc (.cells #[.int .i64 0, .int .i64 0, .int .i64 0] 60)) w.heap.size (.slice ad n cap) := old_at (new_at rfl)
  have hn1 : NB ((w.alloc (.cells #[.slice ad n cap] 46)).alloc (.cells #[.int .i64 0, .int .i64 0, .int .i64 0] 60)) (w.heap.size + 1) 0 0 0 := NB.at 0 0 0 (by simp)
  have hb1 := al2 w (.cells #[.slice ad n cap] 46) (.cells #[.int .i64 0, .int .i64 0, .int .i64 0] 60)
  by_cases hr : 0 ≤ id ∧ id < (L.length : Int)
  case neg =>
    rw [dueN_out hr]
    have r0 := hr1.cell
    have c0 := hn1.c0
    have c1 := hn1.c1
    have c2 := hn1.c2
    have z0 := hn1.thaw 0
    have z1 := hn1.thaw 1
    have z2 := hn1.thaw 2
    unfold dueV
    by_cases h0 : id < 0
    · go_enter Tryz.func47, Tryz.ntmps47
      go_wp2
      exact retNt rfl rfl rfl rfl hn1 ⟨rfl, hb1⟩
    · have hge : (n : Int) ≤ id := by omega
      go_enter Tryz.func47, Tryz.ntmps47
      go_wp2
      exact retNt rfl rfl rfl rfl hn1 ⟨rfl, hb1⟩
  obtain ⟨i, rfl⟩ : ∃ i : Nat, id = (i : Int) := ⟨id.toNat, by omega⟩
  have hi : i < L.length := by omega
  obtain ⟨⟨o, t, k⟩, hx⟩ : ∃ x, L[i]? = some x := ⟨_, List.getElem?_eq_getElem hi⟩
  obtain ⟨ho, hrk⟩ := hbo i _ hx
  dsimp only at ho
  subst ho
  have ht : ¬ (t < 0 ∨ 1048576 < t) := fun e => hrk (rk_lo e)
  obtain ⟨b, off, rfl, hbl, hat⟩ := h (fun e => by rw [e] at hi; simp at hi)
  rw [dueN_in hx]
  have hge : ¬ (n : Int) ≤ (i : Int) := by omega
  have hlt : ¬ (i : Int) < 0 := by omega
  obtain ⟨d0, d1, d2⟩ := (hat.carry hbl hb1) i _ hx
  obtain ⟨w2, hw2⟩ : ∃ w2, ((w.alloc (.cells #[.slice (some ⟨b, off, none⟩) n cap] 46)).alloc (.cells #[.int .i64 0, .int .i64 0, .int .i64 0] 60)) = w2 := ⟨_, rfl⟩
  rw [hw2] at hr1 hn1 hb1 d0 d1 d2
  have hs2 : w2.heap.size = w.heap.size + 2 := by rw [← hw2]; simp
  obtain ⟨w3, hw3⟩ : ∃ w3, w2.alloc (.cells #[.int .i64 (i : Int), .int .i64 t, .int .i64 k] 60) = w3 := ⟨_, rfl⟩
  have hb3 : Below w2.heap.size w2 w3 := by rw [← hw3]; exact al1 _ _
  have hm3 : NB w3 w2.heap.size (i : Int) t k := by rw [← hw3]; exact NB.new _ _ _ _
  have hn3 := hn1.carry hb3
  have r0 := hr1.cell
  have e0 := hm3.c0
  have e1 := hm3.c1
  have e2 := hm3.c2
  rw [hs2] at e0 e1 e2
  have c0 := hn3.c0
  have c1 := hn3.c1
  have c2 := hn3.c2
  have z0 := hn3.thaw 0
  have z1 := hn3.thaw 1
  have z2 := hn3.thaw 2
  dsimp only at d0 d1 d2 ⊢
  have hbu : b < w.heap.size + 2 := by omega
  have hB : Below w.heap.size w w3 := bel2 hb1 hb3
  have hii : i < n := by omega
  have hw := i64_id (t + 1) (by omega) (by omega)
  clear hat h hx hn hr
  by_cases h2 : k = 2
  · by_cases h3 : t < 1048576
    · rw [if_pos ⟨h2, h3⟩]
      subst h2
      have h3' : ¬ (1048576 ≤ t) := by omega
      unfold dueV
      go_enter Tryz.func47, Tryz.ntmps47
      go_wp2
      exact retNt rfl rfl rfl rfl (hn3.set _ _ _) ⟨rfl, below3 hB (by omega) _ _ _⟩
    · rw [if_neg (fun e => h3 e.2)]
      subst h2
      have h3' : (1048576 ≤ t) := by omega
      unfold dueV
      go_enter Tryz.func47, Tryz.ntmps47
      go_wp2
      exact retNt rfl rfl rfl rfl (hn3.set 0 0 0) ⟨rfl, below3 hB (by omega) _ _ _⟩
  · rw [if_neg (fun e => h2 e.1)]
    have h2' : (k != 2) = true := by simpa using h2
    unfold dueV
    go_enter Tryz.func47, Tryz.ntmps47
    go_wp2
    exact retNt rfl rfl rfl rfl (hn3.set 0 0 0) ⟨rfl, below3 hB (by omega) _ _ _⟩
end Go.Proofs.YtlpmehmoeladjaaGreatDoor
namespace Go.Proofs.YtlpmehmoeladjaaGreatDoor
open Go.RowKit Go.Shelf Go.Lib

theorem rank_new {L : List N3} (hb : Bok L) {i : Nat} {o t k : Int} (hx : L[i]? = some (o, t, k)) : decide (rk t k > 0) = pNew (o, t, k) := by
  obtain ⟨h1, h2⟩ := hb i _ hx
  have h2' : rk t k ≠ -1 := h2
  obtain ⟨h3, h4, h5⟩ := rk_ok.1 h2'
  unfold pNew
  by_cases e : (o, t, k) = (o, 0, 1)
  · have e1 := congrArg (fun x : N3 => x.2.1) e
    have e2 := congrArg (fun x : N3 => x.2.2) e
    dsimp only at e1 e2
    subst e1 e2
    rw [show rk 0 1 = 0 by unfold rk; simp]
    simp
  · have hne : ¬ ((o, t, k).1 = o ∧ t = 0 ∧ k = 1) := fun h => e (by rw [h.2.1, h.2.2])
    have : rk t k > 0 := by
      unfold rk
      rw [if_neg (by omega)]
      rcases h5 with rfl | rfl
      · rw [if_pos rfl]; simp at hne; omega
      · rw [if_neg (by decide), if_pos rfl]; omega
    rw [decide_eq_true this, decide_eq_false e]
    rfl
theorem retRtt {f : Func} {p q r : Tmp} {R : Ending → World → Prop} {a : Act} {w : World} {b n c : Nat} {ad : Option Addr} {x y : Value} (hres : f.results = #[.cell p 46, .tmp q, .tmp r]) (hp : a.tmps.getD p undef = .pointer (some ⟨b, 0, none⟩)) (hq : a.tmps.getD q undef = x) (hr : a.tmps.getD r undef = y) (hd : a.defers = []) (h : RB w b (.slice ad n c)) (hR : R (.returned (.tuple #[.agg #[.slice ad n c], x, y])) w) : bodyPost Tryz.prog f R .ret a w := by
  refine bodyPost_ret (v := .tuple #[.agg #[.slice ad n c], x, y]) ?_ hd hR
  have hp' : a.tmps[p]?.getD undef = .pointer (some ⟨b, 0, none⟩) := by simpa using hp
  have hq' : a.tmps[q]?.getD undef = x := by simpa using hq
  have hr' : a.tmps[r]?.getD undef = y := by simpa using hr
  have c0 := h.cell
  simp [results, hres, hp', hq', hr', asAddr]
  go_simp
structure RT (w : World) (ad : Option Addr) (n cap : Nat) (o t k : Int) (W : World) : Prop where
  b0 : RB W w.heap.size (.slice ad n cap)
  x : NB W (w.heap.size + 1) o t k
  b2 : RB W (w.heap.size + 2) (.slice none 0 0)
  below : Below w.heap.size w W
theorem RT.carry {w W V : World} {ad : Option Addr} {n cap : Nat} {o t k : Int} (h : RT w ad n cap o t k W) (hb : Below W.heap.size W V) : RT w ad n cap o t k V := ⟨h.b0.carry hb, h.x.carry hb, h.b2.carry hb, bel2 h.below hb⟩
set_option maxHeartbeats 8000000 in
set_option maxRecDepth 100000 in
theorem rTake_any {w : World} (ad : Option Addr) (n cap : Nat) (L : List N3) (hL : RdN w ad L) (hn : L.length = n) (h0 : 0 < n) (h1 : n ≤ 100) (hcap : n ≤ cap) (o t k : Int) : Calls Tryz.prog 49 #[.agg #[.slice ad n cap], nt o t k] w fun e w' => ∃ ad' cap', e = .returned (.tuple #[.agg #[.slice ad' n cap'], .bool (tkb L (o, t, k)), .int .i64 (if vlx L.length (o, t, k) = true then 0 else 50)]) ∧ RdN w' ad' (tke L (o, t, k)) ∧ n ≤ cap' ∧ (ad' = ad ∨ ∀ a, ad' = some a → w.heap.size ≤ a.block ∧ ∃ cur, w'.heap[a.block]? = some (.cells cur 60 (0, 0))) ∧ Below w.heap.size w w' := by
  have hmx : Tryz.prog.follows .mixedOrders = true := by kernel_rfl
  obtain ⟨b, off, rfl, hbl, hat⟩ := hL (fun e => by rw [e] at hn; simp at hn; omega)
  have HAT : Hid (NtsAt w b off L) := hat
  have HN : Hid (L.length = n) := hn
  have HRD : Hid (∀ W, Below w.heap.size w W → RdN W (some ⟨b, off, none⟩) L) := fun W hb => hL.carry hb
  obtain ⟨B, hB⟩ : ∃ B, vlx L.length (o, t, k) = B := ⟨_, rfl⟩
  have hva := rValid_any (n : Int) o t k
  have hvv : vl (n : Int) o t k = B := by rw [← hn]; exact hB
  rw [hvv] at hva
  have hin : B = true → ∃ i : Nat, o = (i : Int) ∧ i < L.length := fun e => by
    obtain ⟨_, _, h3, h4, _⟩ := vlx_iff.1 (hB.trans e)
    exact ⟨o.toNat, by simpa using (Int.toNat_of_nonneg h3).symm, h4⟩
  unfold tkb tke
  rw [hB]
  obtain ⟨R, hR⟩ : ∃ R, (B && bat L (o, t, k)) = R := ⟨_, rfl⟩
  obtain ⟨M, hM⟩ : ∃ M, (if B = true then rse L (o, t, k) else L) = M := ⟨_, rfl⟩
  obtain ⟨E, hE⟩ : ∃ E : Int, (if B = true then 0 else 50) = E := ⟨_, rfl⟩
  rw [hR, hM, hE]
  have hj0 : RT w (some ⟨b, off, none⟩) n cap o t k (((w.alloc (.cells #[.slice (some ⟨b, off, none⟩) n cap] 46)).alloc (.cells #[.int .i64 o, .int .i64 t, .int .i64 k] 60)).alloc (.cells #[.slice none 0 0] 46)) := ⟨old_at (old_at (new_at rfl)), (NB.at o t k (by simp)).old _, new_at (by simp), al3 _ _ _ _⟩
  have r0 := hj0.b0.cell
  have x0 := hj0.x.c0
  have x1 := hj0.x.c1
  have x2 := hj0.x.c2
  have HJ0 : Hid (RT w (some ⟨b, off, none⟩) n cap o t k (((w.alloc (.cells #[.slice (some ⟨b, off, none⟩) n cap] 46)).alloc (.cells #[.int .i64 o, .int .i64 t, .int .i64 k] 60)).alloc (.cells #[.slice none 0 0] 46))) := hj0
  unfold nt at hva
  clear hat hn hL hvv hB hj0
  cases B with
  | false =>
    clear hin
    obtain rfl : false = R := hR
    obtain rfl : L = M := hM
    obtain rfl : (50 : Int) = E := hE
    go_enter Tryz.func49, Tryz.ntmps49
    unfold nt
    go_wp2_with (go_at_call 40; (with_reducible refine (hva _).mono ?_); rintro e u1 ⟨rfl, hb1⟩; have hj1 := HJ0.out.carry hb1; have q0 := hj1.b0.cell; have q1 := hj1.b2.cell; have q2 := hj1.b2.thaw)
    have hbf := hj1.below.setCell (p := ⟨w.heap.size + 2, 0, none⟩) (by simp) (.slice (some ⟨b, off, none⟩) n cap)
    exact retRtt (x := .bool false) (y := .int .i64 50) rfl rfl rfl rfl rfl (hj1.b2.set _) ⟨_, _, rfl, HRD.out _ hbf, hcap, .inl rfl, hbf⟩
  | true =>
    obtain ⟨i, rfl, hi⟩ := hin rfl
    clear hin
    have hin2 : i < n := by rw [← HN.out]; exact hi
    obtain ⟨⟨o', t', k'⟩, hy⟩ : ∃ x, L[i]? = some x := ⟨_, List.getElem?_eq_getElem hi⟩
    have hbat : bat L ((i : Int), t, k) = bt (i : Int) t k o' t' k' := by
      unfold bat
      simp only [Int.toNat_natCast, hy]
      rfl
    have hM2 : (if bt (i : Int) t k o' t' k' = true then L.set i ((i : Int), t, k) else L) = M := by
      rw [← hM, if_pos rfl]
      unfold rse
      rw [hbat, Int.toNat_natCast]
    have hR2 : bt (i : Int) t k o' t' k' = R := by rw [← hR, hbat, Bool.true_and]
    obtain rfl : (0 : Int) = E := hE
    have hbe := rBeats_any (i : Int) t k o' t' k'
    rw [hR2] at hbe hM2
    have HY : Hid (L[i]? = some (o', t', k')) := hy
    clear hR hM hbat hR2 hy
    go_enter Tryz.func49, Tryz.ntmps49
    unfold nt
    go_wp2_with (go_at_call 40; (with_reducible refine (hva _).mono ?_); rintro e u1 ⟨rfl, hb1⟩; have hj1 := HJ0.out.carry hb1; clear r0 x0 x1 x2 hva)
    refine wp_region_any hmx ?_
    refine wpAny_pure (fun i__ => ([(nt (i : Int) t k), (.pointer (some ⟨w.heap.size, 0, none⟩)), (.slice (some ⟨b, off, none⟩) n cap), (.pointer (some ⟨w.heap.size + 1, 0, none⟩)), (.int .i64 (i : Int)), (.pointer (some ⟨b, off + i * 3, none⟩)), (nt o' t' k'), (.bool R), (.bool (!R))] : List Value).getD i__ undef) (fun V => RT w (some ⟨b, off, none⟩) n cap (i : Int) t k V) (by kernel_rfl) (hj1.carry (Below.refl _ _).drew) ?_ ?_
    · refine (stepsFrom_cons ?_ (stepsFrom_cons ?_ (stepsFrom_cons ?_ (stepsFrom_cons ?_ (stepsFrom_cons ?_ (stepsFrom_cons ?_ (stepsFrom_cons ?_ (stepsFrom_cons ?_ (stepsFrom_cons ?_ trivial)))))))))
      · exact step_load rfl trivial _ _ _ rfl rfl (fun w hw => load_nt hw.x)
      · exact step_fieldAddr rfl trivial _ _ _ _ rfl rfl (fun w hw => field_rb w _)
      · exact step_load rfl trivial _ _ _ rfl rfl (fun w hw => load_rb hw.b0)
      · exact step_fieldAddr rfl trivial _ _ _ _ rfl rfl (fun w hw => field_n0 w _)
      · exact step_load rfl trivial _ _ _ rfl rfl (fun w hw => load_n0 hw.x)
      · exact step_indexAddr rfl trivial _ _ _ _ _ rfl rfl rfl (fun w hw => idx_n b off _ _ i hin2 w)
      · exact step_load rfl trivial _ _ _ rfl rfl (fun w hw => load_at (HAT.out.carry hbl hw.below) HY.out)
      · exact step_call rfl trivial 42 _ _ [(nt (i : Int) t k), (nt o' t' k')] rfl (by kernel_rfl) (enters_of Tryz.func42 (by kernel_rfl) rfl) (fun w hw => (hbe w).mono (by rintro e w' ⟨rfl, hb⟩; exact ⟨rfl, hw.carry hb⟩))
      · exact step_unOp rfl trivial _ _ _ _ rfl rfl (fun w hw => un_not R w)
    intro W hW
    first | refine hK _ _ ?_ | refine (‹∀ (a : Act) (w : World), Code.wp Tryz.prog _ _ a w → _›) _ _ ?_
    simp only [finL, List.getD_cons_zero, List.getD_cons_succ, Nat.zero_add, Nat.reduceAdd, List.setIfInBounds_toArray, List.set_cons_zero, List.set_cons_succ]
    clear hj1 hbe
    cases R with
    | false =>
      obtain rfl : L = M := hM2
      have q0 := hW.b0.cell
      have q1 := hW.b2.cell
      have q2 := hW.b2.thaw
      go_wp2
      have hbf := hW.below.setCell (p := ⟨w.heap.size + 2, 0, none⟩) (by simp) (.slice (some ⟨b, off, none⟩) n cap)
      exact retRtt (x := .bool false) (y := .int .i64 0) rfl rfl rfl rfl rfl (hW.b2.set _) ⟨_, _, rfl, HRD.out _ hbf, hcap, .inl rfl, hbf⟩
    | true =>
      obtain rfl : L.set i ((i : Int), t, k) = M := hM2
      have q0 := hW.b0.cell
      have hlw := lt_at hW.b2
      have k1 := rCopy_any (w := W) (some ⟨b, off, none⟩) n cap L (HRD.out _ hW.below) HN.out h0 h1
      have HW : Hid (RT w (some ⟨b, off, none⟩) n cap (i : Int) t k W) := hW
      clear hW
      go_wp2_with (go_at_call 41; (with_reducible refine k1.mono ?_); rintro e v1 ⟨gc, capc, rfl, hown, hb1⟩; obtain ⟨hgb, hcc, cur, hcur⟩ := own_block2 hown; have hj2 := HW.out.carry hb1; have hsz1 := hb1.size; have hgl := lt_at hcur; have hnt := nts_own hown HN.out.symm; obtain ⟨d0, d1, d2⟩ := hnt i _ HY.out; rw [Nat.zero_add] at d0 d1 d2; have f0 := thaw_at hcur (i * 3); have f1 := thaw_at hcur (i * 3 + 1); have f2 := thaw_at hcur (i * 3 + 2); have y0 := hj2.x.c0; have y1 := hj2.x.c1; have y2 := hj2.x.c2; have p1 := hj2.b2.cell; have p2 := hj2.b2.thaw; have hl1 := lt_at hj2.x; have hl2 := lt_at hj2.b2; have hl3 : w.heap.size + 1 ≠ gc := (by omega); have hl4 : w.heap.size + 2 ≠ gc := (by omega); have HNT : Hid (NtsAt v1 gc 0 L) := hnt; clear hnt)
      have hne : w.heap.size + 2 ≠ gc := hl4
      have hb2 : RB (W3o v1 gc (i * 3) (i : Int) t k) (w.heap.size + 2) (.slice none 0 0) := (w3o_other hne _ _ _).trans hj2.b2
      have hbf0 : Below w.heap.size w ((W3o v1 gc (i * 3) (i : Int) t k).setCell ⟨w.heap.size + 2, 0, none⟩ (.slice (some ⟨gc, 0, none⟩) n capc)) := (below3o hj2.below (by omega) _ _ _ _).setCell (by simp) _
      have hbf : Below w.heap.size w (((W3o v1 gc (i * 3) (i : Int) t k).setCell ⟨w.heap.size + 2, 0, none⟩ (.slice (some ⟨gc, 0, none⟩) n capc)).alloc (.cells #[.slice (some ⟨gc, 0, none⟩) n capc] 46)) := hbf0.alloc hbf0.size _
      refine retRtt (x := .bool true) (y := .int .i64 0) rfl rfl rfl rfl rfl (old_at (hb2.set _)) ⟨some ⟨gc, 0, none⟩, capc, rfl, fun _ => ⟨gc, 0, rfl, ?_, ?_⟩, hcc, .inr (fun a ha => by obtain rfl := Option.some.inj ha; exact ⟨by simp only; omega, ⟨_, old_at ((Below.heap_setCell _ _ _ _ (Ne.symm hne)).trans (heap_setCell_same _ _ _ _ _ _ (heap_setCell_same _ _ _ _ _ _ (heap_setCell_same _ _ _ _ _ _ hcur))))⟩⟩), hbf⟩
      · simp; omega
      · exact NtsAt.carry ((HNT.out.put hcur i hi (i : Int) t k).aside (Ne.symm hne)) (by simp [W3o]; omega) (al1 _ _)
end Go.Proofs.YtlpmehmoeladjaaGreatDoor
namespace Go.Proofs.YtlpmehmoeladjaaGreatDoor
open Go.RowKit Go.Shelf Go.Lib

theorem Lv.raised {d : Dst} {n : Nat} {b : Bo} (h : Lv d n b) (hn : n ≤ 999999) {t : Int} (h1 : 1 ≤ t) (h2 : t ≤ 1048576) : ∃ n', n ≤ n' ∧ n' ≤ n + 1 ∧ Lv (dRa d b t).d n' (dRa d b t).b ∧ d.writes ≤ (dRa d b t).d.writes ∧ (dRa d b t).d.writes ≤ d.writes + 2 ∧ (((dRa d b t).e = 0 ∧ t ≤ (dRa d b t).b.ta ∧ b.ta ≤ (dRa d b t).b.ta) ∨ ((dRa d b t).e = 100 ∧ (dRa d b t).b = b ∧ (d.off = true ∨ d.fused = true))) := by
  have hta := h.ta
  obtain ⟨⟨m1, m2⟩, ⟨m3, m4⟩, m5, m6⟩ := h.may
  unfold dRa
  split
  · rename_i ho
    exact ⟨n, Nat.le_refl _, by omega, h, Int.le_refl _, by dsimp only; omega, .inr ⟨rfl, rfl, .inl ho⟩⟩
  rename_i ho
  have ho' : d.off = false := by simpa using ho
  rw [if_neg (by omega), if_neg (by omega)]
  split
  · rename_i hl
    exact ⟨n, Nat.le_refl _, by omega, h, Int.le_refl _, by dsimp only; omega, .inl ⟨rfl, hl, Int.le_refl _⟩⟩
  rename_i hl
  split
  · rename_i hg
    have hb := bT_ge (x := t - 1) (by omega)
    have hmay : May (rRa b t) := ⟨⟨m1, m2⟩, ⟨m3, m4⟩, by show 0 ≤ bT (t - 1); omega, hb.2⟩
    rcases h.ss.save ho' h.fz hmay (by omega) with ⟨s1, s2, s3, s4, s5⟩ | ⟨s1, s2, s3, s4, s5, s6, s7⟩
    · rw [if_pos s1]
      exact ⟨n + 1, by omega, Nat.le_refl _, ⟨s5, by omega, s4, hmay, h.ro, ⟨by dsimp only; omega, by show t ≤ bT (t - 1); omega⟩⟩, by dsimp only; omega, by dsimp only; omega, .inl ⟨rfl, Int.le_refl _, by dsimp only; omega⟩⟩
    · rw [if_neg (by rw [s1]; decide)]
      exact ⟨n, Nat.le_refl _, by omega, ⟨s7, h.n1, s6, h.may, h.ro, h.ta⟩, s4, by dsimp only; omega, .inr ⟨s1, rfl, .inr s3⟩⟩
  · rename_i hg
    exact ⟨n, Nat.le_refl _, by omega, ⟨h.ss, h.n1, h.fz, h.may, h.ro, ⟨by dsimp only; omega, by dsimp only; omega⟩⟩, Int.le_refl _, by dsimp only; omega, .inl ⟨rfl, Int.le_refl _, by dsimp only; omega⟩⟩
/-- boot.Open of a new disk. -/
theorem open0_any {V : World} {p : Nat} (hV : Dk V p d0) : Calls Tryz.prog 7 #[.pointer (some ⟨p, 0, none⟩)] V fun e w' => ∃ q, e = .returned (.tuple #[.pointer (some ⟨q, 0, none⟩), .int .i64 0]) ∧ V.heap.size ≤ q ∧ Bt w' q (some ⟨p, 0, none⟩) ⟨⟨1, 16, 4⟩, 0, 0⟩ ∧ Dk w' p (dOp d0).d ∧ Tp p V w' := by
  obtain ⟨a1, a2, a3, a4, a5, a6⟩ := op0
  exact (open_any hV (fun e => by cases e) (by decide) (by decide)).mono (by
      rintro e w' ⟨h1, _, h3, h4⟩
      obtain ⟨q, rfl, hq, hb⟩ := h1 a1
      rw [a2] at hb
      exact ⟨q, rfl, hq, hb, h3, h4⟩)
/-- A new book, whatever the numbers. -/
theorem new_bad {n self tag : Int} (hv : ¬ (¬ (n < 1 ∨ 100 < n) ∧ ¬ (self < 0 ∨ n ≤ self) ∧ ¬ (tag < 0 ∨ 1048576 < tag))) : ∃ E : Int, (E != 0) = true ∧ (∀ V, Calls Tryz.prog 9 #[.int .i64 n, .int .i64 self, .int .i64 tag] V fun e w' => e = .returned (.tuple #[.pointer none, .int .i64 E]) ∧ Below V.heap.size V w') := by
  refine ⟨if n < 1 ∨ 100 < n then 1 else if self < 0 ∨ n ≤ self then 30 else 50, by split; decide; split <;> decide, fun V => (new_any n self tag V).mono ?_⟩
  rintro e w' ⟨hb, h⟩
  refine ⟨?_, hb⟩
  split at h
  · rename_i h1; rw [if_pos h1]; exact h
  · rename_i h1
    rw [if_neg h1]
    split at h
    · rename_i h2; rw [if_pos h2]; exact h
    · rename_i h2
      rw [if_neg h2]
      split at h
      · exact h
      · rename_i h3; exact absurd ⟨h1, h2, h3⟩ hv
theorem new_ok {n self tag : Int} (v1 : ¬ (n < 1 ∨ 100 < n)) (v2 : ¬ (self < 0 ∨ n ≤ self)) (v3 : ¬ (tag < 0 ∨ 1048576 < tag)) (V : World) : Calls Tryz.prog 9 #[.int .i64 n, .int .i64 self, .int .i64 tag] V fun e w' => ∃ p g, e = .returned (.tuple #[.pointer (some ⟨p, 0, none⟩), .int .i64 0]) ∧ V.heap.size ≤ p ∧ V.heap.size ≤ g ∧ Bk w' p g (bk0 n.toNat self.toNat tag) ∧ Below V.heap.size V w' :=
  (new_any n self tag V).mono (by
    rintro e w' h
    obtain ⟨p, g, rfl, h1, h2, h3⟩ := h.ok v1 v2 v3
    exact ⟨p, g, rfl, h1, h2, h3, h.1⟩)
/-- A notice of a book. -/
theorem bok_at {l : List N3} (hb : Bok l) {i : Nat} (hi : i < l.length) : ∃ t k, l[i]? = some ((i : Int), t, k) ∧ rk t k ≠ -1 ∧ (k = 1 ∨ k = 2) ∧ 0 ≤ t ∧ t ≤ 1048576 := by
  obtain ⟨⟨o, t, k⟩, hx⟩ : ∃ x, l[i]? = some x := ⟨_, List.getElem?_eq_getElem hi⟩
  obtain ⟨ho, hr⟩ := hb i _ hx
  dsimp only at ho
  subst ho
  have hr' : rk t k ≠ -1 := hr
  have ht : ¬ (t < 0 ∨ 1048576 < t) := fun e => hr' (rk_lo e)
  refine ⟨t, k, hx, hr', ?_, by omega, by omega⟩
  by_cases h1 : k = 1
  · exact .inl h1
  · by_cases h2 : k = 2
    · exact .inr h2
    · exact absurd (rk_n h1 h2) hr'
/-- What is taken, of what is due: the book's own notice is put. -/
theorem tke_due {l : List N3} {i : Nat} {x : N3} (hb : Bok l) (hl : l.length ≤ 100) (h : dueN l (i : Int) = some x) : (tke l x)[i]? = some x ∧ Bok (tke l x) ∧ (tke l x).length = l.length := by
  obtain ⟨htk, hx1, _, hi, _⟩ := due_tk hb hl h
  have hi' : i < l.length := by omega
  refine ⟨?_, tke_bok hb x, tke_len l x⟩
  unfold tkb at htk
  rw [Bool.and_eq_true] at htk
  unfold tke
  rw [if_pos htk.1]
  unfold rse
  rw [if_pos htk.2, hx1, Int.toNat_natCast]
  simp [hi']
end Go.Proofs.YtlpmehmoeladjaaGreatDoor
