/- The play: a tally and the document's, side by side. -/
import Derived.Test.YtcdefcaoocnlbabTym
namespace Go.Proofs.Ytcdefcaoocnlbab
open Go.RowKit Go.Shelf

/-- Ahead of the document's Take, and behind it. -/
def Kt (w : World) (base p : Nat) (az : Option Addr) (t : Tl) (o : Rp) (wh : List Int) (d : Bool) (V : World) : Prop := match d with
  | false => Below w.heap.size w V
  | true => ∃ ah' ch' az' cs' wh', Rf V base p (tko t o) ah' ch' az' cs' wh' ∧ Cw (tko t o) wh' ∧ Tp p w V ∧ (az' = az ∨ ∀ b, ob az' = some b → w.heap.size ≤ b) ∧ (wh = wh ∨ True)
theorem Kt.go {w V : World} {base p ch cs : Nat} {ah az : Option Addr} {t : Tl} {o : Rp} {wh : List Int} (h : Kt w base p az t o wh false V) (hR : Rf w base p t ah ch az cs wh) (hc : Cw t wh) (hv : Tv t) (hb : base ≤ w.heap.size) (hN : o.N < S128) : Calls Try.prog 15 #[.pointer (some ⟨p, 0, none⟩), .int .i64 o.f, .int .i64 o.r, sv o.N] V fun e w' => e = .returned (.tuple #[.int .i64 (kd (fto t o)), .int .i64 (ke (fto t o))]) ∧ Kt w base p az t o wh true w' := by
  have h' : Below w.heap.size w V := h
  refine (rTake_any (hR.carry h') hc hv (Nat.le_trans hb h'.size) o.f o.r o.N hN).mono ?_
  rintro e w' ⟨rfl, ah', ch', az', cs', wh', h1, h2, h3, h4⟩
  exact ⟨rfl, ah', ch', az', cs', wh', h1, h2, (Tp.of p h').trans h3, h4.imp_right (fun q b e => Nat.le_trans h'.size (q b e)), .inr trivial⟩
/-- Both, while the play goes on. -/
def Pl (w : World) (B q base p : Nat) (t : Tl) (V : World) : Prop := ∃ ad cap ah ch az cs wh, Ta V B q ad cap t ∧ Rf V base p t ah ch az cs wh ∧ Cw t wh ∧ (∀ b, ob ad = some b → ob az ≠ some b) ∧ Below w.heap.size w V
theorem Pl.carry {w V V' : World} {B q base p : Nat} {t : Tl} (h : Pl w B q base p t V) (hb : Below V.heap.size V V') : Pl w B q base p t V' := by
  obtain ⟨ad, cap, ah, ch, az, cs, wh, h1, h2, h3, h4, h5⟩ := h
  exact ⟨ad, cap, ah, ch, az, cs, wh, h1.carry hb, h2.carry hb, h3, h4, bel2 h5 hb⟩
theorem Pl.looks {w V : World} {B q base p : Nat} {t : Tl} (h : Pl w B q base p t V) (hv : Tv t) : Calls Try.prog 16 #[.pointer (some ⟨q, 0, none⟩), .pointer (some ⟨p, 0, none⟩)] V fun e w' => e = .returned (.bool true) ∧ Below V.heap.size V w' := by
  obtain ⟨ad, cap, ah, ch, az, cs, wh, h1, h2, h3, h4, h5⟩ := h
  exact looks_any h1 h2 h3 hv
theorem tn_rf {w V : World} {B q base p cap ch cs : Nat} {ad ad' ah az : Option Addr} {t t' : Tl} {wh : List Int} (hT : Ta w B q ad cap t) (hn : Tn q (ob ad) (ob ad') w V) (hR : Rf w base p t' ah ch az cs wh) (hap : ∀ b, ob ad = some b → ob az ≠ some b) : Rf V base p t' ah ch az cs wh ∧ (∀ b, ob ad' = some b → ob az ≠ some b) := by
  obtain ⟨h1, h2⟩ := tn_row hT hn hR.rs hap
  exact ⟨⟨hR.pb, hT.stays hn hR.obj (by decide) (by decide), tn_rowI hT hn hR.ri, h1, hR.ln, hR.pos⟩, h2⟩
theorem Ta.tp {w V : World} {B q p cap : Nat} {ad : Option Addr} {t : Tl} {C : Array Value} (hT : Ta w B q ad cap t) (hp : w.heap[p]? = some (.cells C 44 (0, 0))) (ht : Tp p w V) : Ta V B q ad cap t := by
  refine ⟨hT.qb, (ht.block q hT.lt (fun e => ?_)).trans hT.obj, row_moved hT.row (fun b e => ht.block b (row_lt2 hT.row b e).2 (fun e2 => ?_))⟩
  · subst e
    have := hp.symm.trans hT.obj
    simp only [Option.some.injEq, Obj.cells.injEq] at this
    exact absurd this.2.1 (by decide)
  · subst e2
    exact row_type hT.row hp (by decide) e
theorem RdP.carry {w V : World} {ad : Option Addr} {l : List Rp} (h : RdP w w.heap.size ad l) (hb : Below w.heap.size w V) : RdP V V.heap.size ad l := fun n o hn => by
  obtain ⟨b, off, e, h1, h2, h3⟩ := h n o hn
  exact ⟨b, off, e, Nat.lt_of_lt_of_le h1 hb.size, h2.carry hb h1, h3⟩
set_option maxHeartbeats 32000000 in
set_option maxRecDepth 100000 in
theorem play_any (w : World) (a0 a1 a2 a3 : Int) (N4 : Nat) (hN4 : N4 < S128) (ad5 : Option Addr) (cap5 : Nat) (l5 : List Rp) (w5 : RdP w w.heap.size ad5 l5) (each : Bool) : Calls Try.prog 5 #[.int .i64 a0, .int .i64 a1, .int .i64 a2, .int .i64 a3, sv N4, .slice ad5 l5.length cap5, .bool each] w fun e w' => e = .returned (.bool true) ∧ Below w.heap.size w w' := by
  have hmx : Try.prog.follows .mixedOrders = true := by kernel_rfl
  obtain ⟨w1, hw1⟩ : ∃ w1, w.alloc (.cells #[.int .u32 (wd N4 0 : Nat), .int .u32 (wd N4 1 : Nat), .int .u32 (wd N4 2 : Nat), .int .u32 (wd N4 3 : Nat)] 24) = w1 := ⟨_, rfl⟩
  have hb1 : Below w.heap.size w w1 := by rw [← hw1]; exact al1' _ _
  have G1 : Hid (Holds4 w1 w.heap.size (wd N4)) := by rw [← hw1]; exact new_at rfl
  obtain ⟨y0, y1, y2, y3, _⟩ := G1.out.facts
  by_cases hlong : 300 < (l5.length : Int)
  case pos =>
    have hal := alive_any w1
    simp only [sv]
    go_enter Try.func5, Try.ntmps5
    go_wp2_with (go_at_call 7; (with_reducible refine hal.mono ?_); rintro e u2 ⟨rfl, hu2⟩)
    go_ret
    exact ⟨rfl, bel2 hb1 hu2⟩
  by_cases hE : nwE a0 a1 a2 a3 N4 = 0
  case neg =>
    have hn := new_no a0 a1 a2 a3 N4 hN4 hE w1
    have hr := rNew_no a0 a1 a2 a3 N4 hN4 hE
    obtain ⟨E, hEE⟩ : ∃ E, nwE a0 a1 a2 a3 N4 = E := ⟨_, rfl⟩
    rw [hEE] at hn hE
    simp only [hEE] at hr
    have HE : Hid (¬ E = 0) := hE
    simp only [sv] at hn hr ⊢
    go_enter Try.func5, Try.ntmps5
    go_wp2_with (first
      | (go_at_call 13; (with_reducible refine hn.mono ?_); rintro e u ⟨rfl, hu⟩; have G2 : Hid (Holds4 u w.heap.size (wd N4)) := G1.out.carry hu; obtain ⟨x0, x1, x2, x3, _⟩ := G2.out.facts)
      | (go_at_call 14; (with_reducible refine (hr u).mono ?_); rintro e u2 ⟨rfl, hu2⟩)
      | (refine wpList_store_row rfl 44 (.tmp 17) (.tmp 44) rfl u2.heap.size z5 rfl rfl 44 _ (new_at rfl) infoRf rfl (by simp [z5, Value.oneCell']) ?_; obtain ⟨v, hv⟩ : ∃ v, (u2.alloc (.cells #[.int .i64 0, .int .i64 0, .int .i64 0, .slice none 0 0, .slice none 0 0] 44)).setRow u2.heap.size z5 = v := ⟨_, rfl⟩; have HB : Hid (Below u2.heap.size u2 v) := (by rw [← hv]; exact below_row (al1' _ _) (Nat.le_refl _) _); rw [hv]; have hal := alive_any v)
      | (go_at_call 7; (with_reducible refine hal.mono ?_); rintro e u3 ⟨rfl, hu3⟩))
    go_ret
    exact ⟨rfl, bel2 (bel2 (bel2 (bel2 hb1 hu) hu2) HB.out) hu3⟩
  have hn := new_ok a0 a1 a2 a3 N4 hN4 hE w1
  have hr := rNew_ok a0 a1 a2 a3 N4 hN4 hE
  have hv0 := Tv.new hN4 hE
  have hc0 := Cw.new hE
  obtain ⟨t0, ht0⟩ : ∃ t0, nwT a0 a1 a2 a3 N4 = t0 := ⟨_, rfl⟩
  have ht0n : t0.n = a0 ∧ t0.n - t0.need = a1 ∧ t0.ro = a3 ∧ t0.hs = [N4] := by rw [← ht0]; refine ⟨rfl, ?_, rfl, rfl⟩; simp only [nwT, cntT, tl0]; omega
  rw [ht0] at hn hv0 hc0
  have hl300 : l5.length ≤ 300 := by omega
  have hS : ∀ o ∈ l5, o.N < S128 := fun o ho => by
    obtain ⟨n, hn⟩ := List.mem_iff_getElem?.1 ho
    obtain ⟨_, _, _, _, _, _, _, h⟩ := w5 n o hn
    exact h
  have hSk : ∀ k, Tv (run t0 (l5.take k)) := fun k => hv0.run _ (fun o ho => hS o (List.mem_of_mem_take ho))
  simp only [sv] at hn hr ⊢
  go_enter Try.func5, Try.ntmps5
  go_wp2_with (first
    | (go_at_call 13; (with_reducible refine hn.mono ?_); rintro e u ⟨q, ad, cap, rfl, hT, hu⟩; have G2 : Hid (Holds4 u w.heap.size (wd N4)) := G1.out.carry hu; obtain ⟨x0, x1, x2, x3, _⟩ := G2.out.facts)
    | (go_at_call 14; (with_reducible refine (hr u).mono ?_); rintro e u2 ⟨k1, k2, rfl, hi2, hs2, hu2⟩)
    | (refine wpList_store_row rfl 44 (.tmp 17) (.tmp 44) rfl u2.heap.size (rfC a0 a1 a3 (.slice (some ⟨k1, 0, none⟩) 1 1) (.slice (some ⟨k2, 0, none⟩) 1 1)) rfl rfl 44 _ (new_at rfl) infoRf rfl (by simp [rfC, Value.oneCell']) ?_; obtain ⟨v, hv⟩ : ∃ v, (u2.alloc (.cells #[.int .i64 0, .int .i64 0, .int .i64 0, .slice none 0 0, .slice none 0 0] 44)).setRow u2.heap.size (rfC a0 a1 a3 (.slice (some ⟨k1, 0, none⟩) 1 1) (.slice (some ⟨k2, 0, none⟩) 1 1)) = v := ⟨_, rfl⟩; have HB : Hid (Below u2.heap.size u2 v) := (by rw [← hv]; exact below_row (al1' _ _) (Nat.le_refl _) _); have HO : Hid (v.heap[u2.heap.size]? = some (.cells (rfC a0 a1 a3 (.slice (some ⟨k1, 0, none⟩) 1 1) (.slice (some ⟨k2, 0, none⟩) 1 1)) 44 (0, 0))) := (by rw [← hv]; exact setRow_heap _ _ _ _ _ _ (new_at rfl)); rw [hv]))
  obtain ⟨p, hp⟩ : ∃ p, u2.heap.size = p := ⟨_, rfl⟩
  obtain ⟨B, hB⟩ : ∃ B, w1.heap.size = B := ⟨_, rfl⟩
  obtain ⟨base, hbase⟩ : ∃ base, u.heap.size = base := ⟨_, rfl⟩
  have hwB : w.heap.size ≤ B := by rw [← hB]; exact hb1.size
  have hbu := bel2 hb1 hu
  have hwb : w.heap.size ≤ base := by rw [← hbase]; exact hbu.size
  have hP0 : Pl w B q base p (run t0 (l5.take 0)) v := by
    obtain ⟨e1, e2, e3, e4⟩ := ht0n
    rw [hB] at hT
    rw [hbase] at hi2 hs2
    have hT2 := (hT.carry hu2).carry HB.out
    refine ⟨ad, cap, some ⟨k1, 0, none⟩, 1, some ⟨k2, 0, none⟩, 1, [a2], hT2, ⟨by rw [← hp, ← hbase]; exact hu2.size, ?_, ?_, ?_, ?_, ?_⟩, hc0, fun b e e2 => ?_, bel2 (bel2 hbu hu2) HB.out⟩
    · show v.heap[p]? = some (.cells (rfC t0.n (t0.n - t0.need) t0.ro (.slice _ t0.hs.length 1) (.slice _ t0.hs.length 1)) 44 (0, 0))
      rw [e1] at e2 ⊢
      rw [e2, e3, e4, ← hp]
      exact HO.out
    · show v.ownsRow base 3 1 (.slice _ t0.hs.length 1) t0.hs.length (inV [a2])
      rw [e4]
      exact row_below hi2 HB.out
    · show v.ownsRow base 24 4 (.slice _ t0.hs.length 1) t0.hs.length (fs t0.hs)
      rw [e4]
      exact row_below hs2 HB.out
    · show [a2].length = t0.hs.length
      rw [e4]
      rfl
    · show 0 < t0.hs.length
      rw [e4]
      simp
    · have h1 := (row_lt2 hT.row b (by rw [ob_eq]; exact e)).2
      have h2 := (row_lt2 hs2 b (by rw [ob_eq]; exact e2)).1
      omega
  rw [hp]
  clear hn hr y0 y1 y2 y3 x0 x1 x2 x3 hT hu hu2 hi2 hs2 HB HO G2
  go_loopw [19] (fun c wz => ∃ k : Nat, c = .int .i64 k ∧ k ≤ l5.length ∧ Pl w B q base p (run t0 (l5.take k)) wz) (fun c _ => l5.length - vnat c)
  case atStart => exact ⟨0, rfl, Nat.zero_le _, hP0⟩
  case round =>
    obtain ⟨k, rfl, hk, hPl⟩ := hrel
    obtain ⟨t, htt⟩ : ∃ t, run t0 (l5.take k) = t := ⟨_, rfl⟩
    have hvt : Tv t := by rw [← htt]; exact hSk k
    rw [htt] at hPl
    by_cases hkl : k < l5.length
    · have hki : (k : Int) < (l5.length : Int) := by omega
      obtain ⟨ad, cap, ah, ch, az, cs, wh, hT, hR, hcw, hap, hbw⟩ := hPl
      obtain ⟨o, ho⟩ : ∃ o, l5[k]? = some o := ⟨_, List.getElem?_eq_getElem hkl⟩
      obtain ⟨b, off, rfl, hbB, hAt, _, _, hN⟩ := w5 k o ho
      have hat : ∀ V, Jt wr B q ad cap t o false V → RpAt V b (off + k * 6) o := fun V hV => (hAt.carry hbw hbB).carry (show Below wr.heap.size wr V from hV) (Nat.lt_of_lt_of_le hbB hbw.size)
      have hBw : B ≤ wr.heap.size := Nat.le_trans hT.qb (Nat.le_of_lt hT.lt)
      obtain ⟨KD, hKD⟩ : ∃ z, kd (fto t o) = z := ⟨_, rfl⟩
      obtain ⟨KE, hKE⟩ : ∃ z, ke (fto t o) = z := ⟨_, rfl⟩
      have hgo : ∀ V, Jt wr B q ad cap t o false V → Calls Try.prog 6 #[.pointer (some ⟨q, 0, none⟩), .int .i64 o.f, .int .i64 o.r, sv o.N] V fun e w' => e = .returned (.tuple #[.int .i64 KD, .int .i64 KE]) ∧ Jt wr B q ad cap t o true w' := fun V hV => by
        rw [← hKD, ← hKE]
        exact hV.go hT hvt hBw hN
      go_wp2
      refine wp_region_any hmx ?_
      refine wpAny_tabG (G := Unit) (fun g i__ => ([(.pointer (some ⟨q, 0, none⟩)), (.slice (some ⟨b, off, none⟩) l5.length cap5), (.int .i64 (k : Int)), (.pointer (some ⟨b, off + k * 6, none⟩)), (.pointer (some ⟨b, off + k * 6, none⟩)), (.int .i64 o.f), (.slice (some ⟨b, off, none⟩) l5.length cap5), (.int .i64 (k : Int)), (.pointer (some ⟨b, off + k * 6, none⟩)), (.pointer (some ⟨b, off + k * 6 + 1, none⟩)), (.int .i64 o.r), (.slice (some ⟨b, off, none⟩) l5.length cap5), (.int .i64 (k : Int)), (.pointer (some ⟨b, off + k * 6, none⟩)), (.pointer (some ⟨b, off + k * 6 + 2, none⟩)), (sv o.N), (.tuple #[.int .i64 KD, .int .i64 KE]), (.tuple #[.int .i64 KD, .int .i64 KE]), (.int .i64 KD), (.int .i64 KE), (.int .i64 KD), (.int .i64 KE)] : List Value).getD i__ undef) (fun g d V => Jt wr B q ad cap t o (d 16) V) (by kernel_rfl) (()) (show Jt wr B q ad cap _ o false _ from (Below.refl _ _).drew) ?step3 ?fin3
      case step3 =>
        intro i o ho
        have hi : i < 22 := getElem?_lt ho
        match i, hi, ho with
        | 0, _, ho =>
          cases ho
          refine stepG_ofC (fun g d hun hdep hcl => ?_)
          exact step_move rfl trivial _ rfl (by kernel_rfl)
        | 1, _, ho =>
          cases ho
          refine stepG_ofC (fun g d hun hdep hcl => ?_)
          exact step_move rfl trivial _ rfl (by kernel_rfl)
        | 2, _, ho =>
          cases ho
          refine stepG_ofC (fun g d hun hdep hcl => ?_)
          exact step_move rfl trivial _ rfl (by kernel_rfl)
        | 3, _, ho =>
          cases ho
          refine stepG_ofC (fun g d hun hdep hcl => ?_)
          exact step_indexAddr rfl trivial _ _ _ _ _ rfl rfl rfl (fun v hw => idx_rp b off _ _ k hkl v)
        | 4, _, ho =>
          cases ho
          refine stepG_ofC (fun g d hun hdep hcl => ?_)
          exact step_fieldAddr rfl trivial _ _ _ _ rfl rfl (fun v hw => field_rp0 v _ _)
        | 5, _, ho =>
          cases ho
          refine stepG_ofC (fun g d hun hdep hcl => ?_)
          exact step_load rfl trivial _ _ _ rfl rfl (fun v hw => by have h16 : d 16 = false := (by cases h : d 16 with | false => rfl | true => exact absurd (hcl 16 _ rfl h 5 (by kernel_rfl)) (by rw [hun]; simp)); have hw' := hw; rw [h16] at hw'; exact (hat v hw').f0)
        | 6, _, ho =>
          cases ho
          refine stepG_ofC (fun g d hun hdep hcl => ?_)
          exact step_move rfl trivial _ rfl (by kernel_rfl)
        | 7, _, ho =>
          cases ho
          refine stepG_ofC (fun g d hun hdep hcl => ?_)
          exact step_move rfl trivial _ rfl (by kernel_rfl)
        | 8, _, ho =>
          cases ho
          refine stepG_ofC (fun g d hun hdep hcl => ?_)
          exact step_indexAddr rfl trivial _ _ _ _ _ rfl rfl rfl (fun v hw => idx_rp b off _ _ k hkl v)
        | 9, _, ho =>
          cases ho
          refine stepG_ofC (fun g d hun hdep hcl => ?_)
          exact step_fieldAddr rfl trivial _ _ _ _ rfl rfl (fun v hw => field_rp1 v _ _)
        | 10, _, ho =>
          cases ho
          refine stepG_ofC (fun g d hun hdep hcl => ?_)
          exact step_load rfl trivial _ _ _ rfl rfl (fun v hw => by have h16 : d 16 = false := (by cases h : d 16 with | false => rfl | true => exact absurd (hcl 16 _ rfl h 10 (by kernel_rfl)) (by rw [hun]; simp)); have hw' := hw; rw [h16] at hw'; exact (hat v hw').f1)
        | 11, _, ho =>
          cases ho
          refine stepG_ofC (fun g d hun hdep hcl => ?_)
          exact step_move rfl trivial _ rfl (by kernel_rfl)
        | 12, _, ho =>
          cases ho
          refine stepG_ofC (fun g d hun hdep hcl => ?_)
          exact step_move rfl trivial _ rfl (by kernel_rfl)
        | 13, _, ho =>
          cases ho
          refine stepG_ofC (fun g d hun hdep hcl => ?_)
          exact step_indexAddr rfl trivial _ _ _ _ _ rfl rfl rfl (fun v hw => idx_rp b off _ _ k hkl v)
        | 14, _, ho =>
          cases ho
          refine stepG_ofC (fun g d hun hdep hcl => ?_)
          exact step_fieldAddr rfl trivial _ _ _ _ rfl rfl (fun v hw => field_rp2 v _ _)
        | 15, _, ho =>
          cases ho
          refine stepG_ofC (fun g d hun hdep hcl => ?_)
          exact step_load rfl trivial _ _ _ rfl rfl (fun v hw => by have h16 : d 16 = false := (by cases h : d 16 with | false => rfl | true => exact absurd (hcl 16 _ rfl h 15 (by kernel_rfl)) (by rw [hun]; simp)); have hw' := hw; rw [h16] at hw'; exact (hat v hw').f2)
        | 16, _, ho =>
          cases ho
          refine stepG_ofC (fun g d hun hdep hcl => ?_)
          exact step_call rfl trivial 6 _ _ [(.pointer (some ⟨q, 0, none⟩)), (.int .i64 o.f), (.int .i64 o.r), (sv o.N)] rfl (by kernel_rfl) (enters_of Try.func6 (by kernel_rfl) rfl) (fun v hw => by have hw' := hw; rw [hun] at hw'; exact hgo v hw')
        | 17, _, ho =>
          cases ho
          refine stepG_ofC (fun g d hun hdep hcl => ?_)
          exact step_move rfl trivial _ rfl (by kernel_rfl)
        | 18, _, ho =>
          cases ho
          refine stepG_ofC (fun g d hun hdep hcl => ?_)
          exact step_extract rfl trivial _ _ _ rfl rfl (fun v hw => ext2_0 _ _ v)
        | 19, _, ho =>
          cases ho
          refine stepG_ofC (fun g d hun hdep hcl => ?_)
          exact step_extract rfl trivial _ _ _ rfl rfl (fun v hw => ext2_1 _ _ v)
        | 20, _, ho =>
          cases ho
          refine stepG_ofC (fun g d hun hdep hcl => ?_)
          exact step_assign rfl trivial _ rfl (by kernel_rfl) (fun _ h => h)
        | 21, _, ho =>
          cases ho
          refine stepG_ofC (fun g d hun hdep hcl => ?_)
          exact step_assign rfl trivial _ rfl (by kernel_rfl) (fun _ h => h)
      intro g d W hall hW
      first | refine hK _ _ ?_ | refine (‹∀ (a : Act) (w : World), Code.wp Try.prog _ _ a w → _›) _ _ ?_ | skip
      simp only [finL, List.getD_cons_zero, List.getD_cons_succ, Nat.zero_add, Nat.reduceAdd, List.setIfInBounds_toArray, List.set_cons_zero, List.set_cons_succ]
      rw [hall 16 (by decide)] at hW
      obtain ⟨ad', cap', hT', hn', _⟩ := hW
      have hB' : Below w.heap.size w W := hbw.trans ((hT.below hn').mono hwB)
      obtain ⟨hR', hap'⟩ := tn_rf hT hn' hR hap
      clear hall hn' hgo hat hR hap hT
      have hatR : ∀ V, Kt W base p az t o wh false V → RpAt V b (off + k * 6) o := fun V hV => (hAt.carry hB' hbB).carry (show Below W.heap.size W V from hV) (Nat.lt_of_lt_of_le hbB hB'.size)
      have hbsW : base ≤ W.heap.size := Nat.le_trans hR'.pb (Nat.le_of_lt hR'.lt)
      have hgoR : ∀ V, Kt W base p az t o wh false V → Calls Try.prog 15 #[.pointer (some ⟨p, 0, none⟩), .int .i64 o.f, .int .i64 o.r, sv o.N] V fun e w' => e = .returned (.tuple #[.int .i64 KD, .int .i64 KE]) ∧ Kt W base p az t o wh true w' := fun V hV => by
        rw [← hKD, ← hKE]
        exact hV.go hR' hcw hvt hbsW hN
      have hTp : ∀ V ad' cap', Ta W B q ad' cap' (tko t o) → Tp p W V → Ta V B q ad' cap' (tko t o) := fun V ad' cap' h1 h2 => h1.tp hR'.obj h2
      have hbl : ∀ V, Tp p W V → Below w.heap.size w V := fun V h2 => hB'.trans (h2.below (Nat.le_trans hwb hR'.pb) hB'.size)
      have hsz : ∀ b, ob ad' = some b → b < W.heap.size := fun b e => (row_lt2 hT'.row b (by rw [ob_eq]; exact e)).2
      go_wp2
      refine wp_region_any hmx ?_
      refine wpAny_tabG (G := Unit) (fun g i__ => ([(.slice (some ⟨b, off, none⟩) l5.length cap5), (.int .i64 (k : Int)), (.pointer (some ⟨b, off + k * 6, none⟩)), (.pointer (some ⟨b, off + k * 6, none⟩)), (.int .i64 o.f), (.slice (some ⟨b, off, none⟩) l5.length cap5), (.int .i64 (k : Int)), (.pointer (some ⟨b, off + k * 6, none⟩)), (.pointer (some ⟨b, off + k * 6 + 1, none⟩)), (.int .i64 o.r), (.slice (some ⟨b, off, none⟩) l5.length cap5), (.int .i64 (k : Int)), (.pointer (some ⟨b, off + k * 6, none⟩)), (.pointer (some ⟨b, off + k * 6 + 2, none⟩)), (sv o.N), (.tuple #[.int .i64 KD, .int .i64 KE]), (.tuple #[.int .i64 KD, .int .i64 KE]), (.int .i64 KD), (.int .i64 KE), (.int .i64 KD), (.int .i64 KE)] : List Value).getD i__ undef) (fun g d V => Kt W base p az t o wh (d 15) V) (by kernel_rfl) (()) (show Kt W base p az t o wh false _ from (Below.refl _ _).drew) ?step4 ?fin4
      case step4 =>
        intro i o ho
        have hi : i < 21 := getElem?_lt ho
        match i, hi, ho with
        | 0, _, ho =>
          cases ho
          refine stepG_ofC (fun g d hun hdep hcl => ?_)
          exact step_move rfl trivial _ rfl (by kernel_rfl)
        | 1, _, ho =>
          cases ho
          refine stepG_ofC (fun g d hun hdep hcl => ?_)
          exact step_move rfl trivial _ rfl (by kernel_rfl)
        | 2, _, ho =>
          cases ho
          refine stepG_ofC (fun g d hun hdep hcl => ?_)
          exact step_indexAddr rfl trivial _ _ _ _ _ rfl rfl rfl (fun v hw => idx_rp b off _ _ k hkl v)
        | 3, _, ho =>
          cases ho
          refine stepG_ofC (fun g d hun hdep hcl => ?_)
          exact step_fieldAddr rfl trivial _ _ _ _ rfl rfl (fun v hw => field_rp0 v _ _)
        | 4, _, ho =>
          cases ho
          refine stepG_ofC (fun g d hun hdep hcl => ?_)
          exact step_load rfl trivial _ _ _ rfl rfl (fun v hw => by have h15 : d 15 = false := (by cases h : d 15 with | false => rfl | true => exact absurd (hcl 15 _ rfl h 4 (by kernel_rfl)) (by rw [hun]; simp)); have hw' := hw; rw [h15] at hw'; exact (hatR v hw').f0)
        | 5, _, ho =>
          cases ho
          refine stepG_ofC (fun g d hun hdep hcl => ?_)
          exact step_move rfl trivial _ rfl (by kernel_rfl)
        | 6, _, ho =>
          cases ho
          refine stepG_ofC (fun g d hun hdep hcl => ?_)
          exact step_move rfl trivial _ rfl (by kernel_rfl)
        | 7, _, ho =>
          cases ho
          refine stepG_ofC (fun g d hun hdep hcl => ?_)
          exact step_indexAddr rfl trivial _ _ _ _ _ rfl rfl rfl (fun v hw => idx_rp b off _ _ k hkl v)
        | 8, _, ho =>
          cases ho
          refine stepG_ofC (fun g d hun hdep hcl => ?_)
          exact step_fieldAddr rfl trivial _ _ _ _ rfl rfl (fun v hw => field_rp1 v _ _)
        | 9, _, ho =>
          cases ho
          refine stepG_ofC (fun g d hun hdep hcl => ?_)
          exact step_load rfl trivial _ _ _ rfl rfl (fun v hw => by have h15 : d 15 = false := (by cases h : d 15 with | false => rfl | true => exact absurd (hcl 15 _ rfl h 9 (by kernel_rfl)) (by rw [hun]; simp)); have hw' := hw; rw [h15] at hw'; exact (hatR v hw').f1)
        | 10, _, ho =>
          cases ho
          refine stepG_ofC (fun g d hun hdep hcl => ?_)
          exact step_move rfl trivial _ rfl (by kernel_rfl)
        | 11, _, ho =>
          cases ho
          refine stepG_ofC (fun g d hun hdep hcl => ?_)
          exact step_move rfl trivial _ rfl (by kernel_rfl)
        | 12, _, ho =>
          cases ho
          refine stepG_ofC (fun g d hun hdep hcl => ?_)
          exact step_indexAddr rfl trivial _ _ _ _ _ rfl rfl rfl (fun v hw => idx_rp b off _ _ k hkl v)
        | 13, _, ho =>
          cases ho
          refine stepG_ofC (fun g d hun hdep hcl => ?_)
          exact step_fieldAddr rfl trivial _ _ _ _ rfl rfl (fun v hw => field_rp2 v _ _)
        | 14, _, ho =>
          cases ho
          refine stepG_ofC (fun g d hun hdep hcl => ?_)
          exact step_load rfl trivial _ _ _ rfl rfl (fun v hw => by have h15 : d 15 = false := (by cases h : d 15 with | false => rfl | true => exact absurd (hcl 15 _ rfl h 14 (by kernel_rfl)) (by rw [hun]; simp)); have hw' := hw; rw [h15] at hw'; exact (hatR v hw').f2)
        | 15, _, ho =>
          cases ho
          refine stepG_ofC (fun g d hun hdep hcl => ?_)
          exact step_call rfl trivial 15 _ _ [(.pointer (some ⟨p, 0, none⟩)), (.int .i64 o.f), (.int .i64 o.r), (sv o.N)] rfl (by kernel_rfl) (enters_of Try.func15 (by kernel_rfl) rfl) (fun v hw => by have hw' := hw; rw [hun] at hw'; exact hgoR v hw')
        | 16, _, ho =>
          cases ho
          refine stepG_ofC (fun g d hun hdep hcl => ?_)
          exact step_move rfl trivial _ rfl (by kernel_rfl)
        | 17, _, ho =>
          cases ho
          refine stepG_ofC (fun g d hun hdep hcl => ?_)
          exact step_extract rfl trivial _ _ _ rfl rfl (fun v hw => ext2_0 _ _ v)
        | 18, _, ho =>
          cases ho
          refine stepG_ofC (fun g d hun hdep hcl => ?_)
          exact step_extract rfl trivial _ _ _ rfl rfl (fun v hw => ext2_1 _ _ v)
        | 19, _, ho =>
          cases ho
          refine stepG_ofC (fun g d hun hdep hcl => ?_)
          exact step_assign rfl trivial _ rfl (by kernel_rfl) (fun _ h => h)
        | 20, _, ho =>
          cases ho
          refine stepG_ofC (fun g d hun hdep hcl => ?_)
          exact step_assign rfl trivial _ rfl (by kernel_rfl) (fun _ h => h)
      intro g d W hall hW
      first | refine hK _ _ ?_ | refine (‹∀ (a : Act) (w : World), Code.wp Try.prog _ _ a w → _›) _ _ ?_ | skip
      simp only [finL, List.getD_cons_zero, List.getD_cons_succ, Nat.zero_add, Nat.reduceAdd, List.setIfInBounds_toArray, List.set_cons_zero, List.set_cons_succ]
      rw [hall 15 (by decide)] at hW
      obtain ⟨ah2, ch2, az2, cs2, wh2, hR2, hc2, hp2, hz2, _⟩ := hW
      have HP : Hid (Pl w B q base p (tko t o) W) := ⟨ad', cap', ah2, ch2, az2, cs2, wh2, hTp _ _ _ hT' hp2, hR2, hc2, fun b e e2 => by
        rcases hz2 with q | q
        · rw [q] at e2
          exact hap' b e e2
        · have := q b e2
          have := hsz b e
          omega, hbl _ hp2⟩
      have hvo : Tv (tko t o) := hvt.tk hN
      have hlk := HP.out.looks hvo
      clear hall hp2 hR2 hz2 hT' hR' hgoR hatR hTp hbl hsz hc2
      cases each with
      | false =>
        clear hlk
        go_wp2
        go_roundw
        case rel => exact ⟨k + 1, by simp, by omega, by rw [run_succ t0 l5 k o ho, htt]; exact HP.out⟩
        case measure => simp [vnat]; omega
      | true =>
        go_wp2_with (go_at_call 16; (with_reducible refine hlk.mono ?_); rintro e u4 ⟨rfl, hu4⟩)
        go_roundw
        case rel => exact ⟨k + 1, by simp, by omega, by rw [run_succ t0 l5 k o ho, htt]; exact HP.out.carry hu4⟩
        case measure => simp [vnat]; omega
    · have hkk : k = l5.length := by omega
      subst hkk
      have hki : ¬ ((l5.length : Int) < (l5.length : Int)) := by omega
      have hal := alive_any wr
      go_wp2_with (first
        | (go_at_call 7; (with_reducible refine hal.mono ?_); rintro e u3 ⟨rfl, hu3⟩; have hlk := (hPl.carry hu3).looks hvt)
        | (go_at_call 16; (with_reducible refine hlk.mono ?_); rintro e u4 ⟨rfl, hu4⟩))
      go_ret
      obtain ⟨ad, cap, ah, ch, az, cs, wh, hT, hR, hcw, hap, hbw⟩ := hPl
      exact ⟨rfl, bel2 (bel2 hbw hu3) hu4⟩
end Go.Proofs.Ytcdefcaoocnlbab
