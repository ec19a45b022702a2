/- InferNamed (W12): with the ids gone round by one place doubts go round. For every number of nodes, every list of at most 300 notices and every set; else alive alone. -/
import Derived.Test.YtgehmidalfajgaaDoorRows
import Derived.WalkKit
import Derived.ProofKit
import Derived.OpenShut
import Derived.Stop.Joined
import Derived.Lay
import Derived.SevenTiedAt
import Derived.SizedLaws
import Derived.LaidMore
import Derived.Test.YtgehmidalfajgaaDoorTie
import Derived.Test.YtgehmidalfajgaaDoorCards
import Derived.Test.YtgehmidalfajgaaDoorInferNamedJ13
import Derived.Test.YtgehmidalfajgaaDoorInferNamedJ10
namespace Go.Proofs.YtgehmidalfajgaaDoor
open Go.ChangeShapes Go.WideShapes Go.ChangeAt Go.RowKit
set_option linter.unusedVariables false

theorem laidOut : laidOutB Tryd.prog = true := by kernel_rfl
theorem own : ownKnob Tryd.prog.godebug = none := by kernel_rfl
open Go.Shelf
set_option maxHeartbeats 32000000 in
set_option maxRecDepth 100000 in
theorem walk (w : World) (a0 : Int) (w0 : (Lit.int .i64 a0).wf = true) (ad1 : Option Addr) (cap1 : Nat) (l1 : List (Int × Int × Int)) (w1 : RdN w ad1 l1) (hc1 : ad1 = none → cap1 = 0) (hq1 : l1.length ≤ cap1) (N2 : Nat) (hN2 : N2 < S128) (hL : laidMetH Tryd.prog Rows.inferNamedRow.laid w) :
    Calls Tryd.prog 5 #[.int .i64 a0, .slice ad1 l1.length cap1, sv N2] w fun e w' => e = .returned (.bool true) ∧ Below w.heap.size w w' := by
  have hmx : Tryd.prog.follows .mixedOrders = true := by kernel_rfl
  obtain ⟨w1', hw1⟩ : ∃ w1', w.alloc (.cells #[.int .u32 (wd N2 0 : Nat), .int .u32 (wd N2 1 : Nat), .int .u32 (wd N2 2 : Nat), .int .u32 (wd N2 3 : Nat)] 27) = w1' := ⟨_, rfl⟩
  have hb1 : Below w.heap.size w w1' := by rw [← hw1]; exact al1' _ _
  have hs1 : w1'.heap.size = w.heap.size + 1 := by rw [← hw1]; simp
  have G1 : Hid (Holds4 w1' w.heap.size (wd N2)) := by rw [← hw1]; exact new_at rfl
  have hT := tab_of hL
  have hnw := new_any a0 0 0 w1'
  by_cases hok : ¬ (a0 < 1 ∨ 100 < a0)
  case neg =>
    have hbad : ¬ (¬ (a0 < 1 ∨ 100 < a0) ∧ ¬ ((0 : Int) < 0 ∨ a0 ≤ 0) ∧ ¬ ((0 : Int) < 0 ∨ (1048576 : Int) < 0)) := fun h => hok h.1
    simp only [sv]
    go_enter Tryd.func5, Tryd.ntmps5
    go_wp2_with (first
      | (go_at_call 16; (with_reducible refine hnw.mono ?_); rintro e u hV; have hu := hV.1; obtain ⟨E, hE, rfl⟩ := hV.bad hbad)
      | (go_at_call 6; refine (alive_any _).mono ?_; rintro e u9 ⟨rfl, hb9⟩))
    go_ret
    exact ⟨rfl, bel2 (bel2 hb1 hu) hb9⟩
  obtain ⟨n, rfl⟩ : ∃ n : Nat, a0 = (n : Int) := ⟨a0.toNat, by omega⟩
  have hn1 : 1 ≤ n := by omega
  have hn2 : n ≤ 100 := by omega
  have HOK : Hid (∀ (W V : World) (e : Ending) (s : Nat), s < n → NewV (n : Int) (s : Int) 0 W e V → ∃ p g, e = .returned (.tuple #[.pointer (some ⟨p, 0, none⟩), .int .i64 0]) ∧ W.heap.size ≤ p ∧ W.heap.size ≤ g ∧ Bk V p g (bk0 n s 0)) := fun W V e s hs hV => by
    have := hV.ok hok (by omega) (by omega)
    rwa [Int.toNat_natCast, Int.toNat_natCast] at this
  clear hok
  by_cases hlong : (l1.length : Int) > 300
  case pos =>
    simp only [sv]
    go_enter Tryd.func5, Tryd.ntmps5
    go_wp2_with (first
      | (go_at_call 16; (with_reducible refine hnw.mono ?_); rintro e u hV; have hu := hV.1; obtain ⟨p, g, rfl, hp, hg, hK⟩ := HOK.out _ _ _ 0 (by omega) hV)
      | (go_at_call 6; refine (alive_any _).mono ?_; rintro e u9 ⟨rfl, hb9⟩))
    go_ret
    exact ⟨rfl, bel2 (bel2 hb1 hu) hb9⟩
  have hl300 : l1.length ≤ 300 := by omega
  have hnz : ¬ (n : Int) = 0 := by omega
  have hrem1 : (1 : Int).tmod (n : Int) = ((1 % n : Nat) : Int) := by rw [Int.tmod_eq_emod_of_nonneg (by decide)]; rfl
  have hlt1 : 1 % n < n := Nat.mod_lt _ (by omega)
  obtain ⟨sB, hsB⟩ : ∃ sB, 1 % n = sB := ⟨_, rfl⟩
  rw [hsB] at hrem1 hlt1
  have hnw2 := fun W => new_any (n : Int) (sB : Int) 0 W
  have HRB : Hid (Rb n (bk0 n 0 0) (bk0 n sB 0)) := Rb.new
  have HBA : Hid (Bok (bk0 n 0 0)) := bk0_bok (by decide) (by decide)
  have HBB : Hid (Bok (bk0 n sB 0)) := bk0_bok (by decide) (by decide)
  clear hsB
  simp only [sv]
  go_enter Tryd.func5, Tryd.ntmps5
  go_wp2_with (first
    | (go_at_call 16; (with_reducible refine hnw.mono ?_); rintro e u hV; have hu := hV.1; obtain ⟨pa, ga, rfl, hpa, hga, hKa⟩ := HOK.out _ _ _ 0 (by omega) hV)
    | (go_at_call 16; (with_reducible refine (hnw2 _).mono ?_); rintro e u2 hV2; have hu2 := hV2.1; obtain ⟨pb, gb, rfl, hpb, hgb, hKb⟩ := HOK.out _ _ _ sB hlt1 hV2; obtain ⟨u3, hu3⟩ : ∃ u3, u2.alloc (.cells #[.int .u32 0, .int .u32 0, .int .u32 0, .int .u32 0] 27) = u3 := ⟨_, rfl⟩))
  have hb3 : Below u2.heap.size u2 u3 := by rw [← hu3]; exact al1' _ _
  have k11 : Holds4 u3 u2.heap.size (wd 0) := by rw [← hu3, show wd 0 = (fun _ => 0) by funext j; exact wd_zero j]; exact new_at rfl
  have hKa3 := (hKa.carry hu2).carry hb3
  have hKb3 := hKb.carry hb3
  have G3 := ((G1.out.carry hu).carry hu2).carry hb3
  have hT3 := (((hT.carry hb1).carry hu).carry hu2).carry hb3
  have hB3 := bel2 (bel2 (bel2 hb1 hu) hu2) hb3
  have qa := hKa.plt
  have qb := hKa.glt
  have d1 : ga ≠ gb := by omega
  have d2 : pa ≠ gb := by omega
  have d3 : pb ≠ ga := by omega
  have d4 : w.heap.size ≤ ga := by omega
  have d5 : w.heap.size ≤ gb := by have := hu.size; omega
  have d6 : 0 < ga := by omega
  have d7 : 0 < gb := by omega
  obtain ⟨b11, hb11⟩ : ∃ b11, u2.heap.size = b11 := ⟨_, rfl⟩
  rw [hb11] at k11 ⊢
  have hwb11 : w.heap.size < b11 := by have := hu.size; have := hu2.size; omega
  clear hnw hnw2 HOK hKa hKb hu3 hV hV2 hu hu2 qa qb hpa hga hpb hgb hT G1 hrem1
  go_loopw [12] (fun c wz => ∃ (k : Nat) (La Lb : List N3), c = .int .i64 k ∧ k ≤ l1.length ∧ Rb n La Lb ∧ Bok La ∧ Bok Lb ∧ Bk wz pa ga La ∧ Bk wz pb gb Lb ∧ Holds4 wz w.heap.size (wd N2) ∧ Holds4 wz b11 (wd 0) ∧ Tab wz ∧ Below w.heap.size w wz) (fun c _ => l1.length - vnat c)
  case atStart => exact ⟨0, _, _, rfl, Nat.zero_le _, HRB.out, HBA.out, HBB.out, hKa3, hKb3, G3, k11, hT3, hB3⟩
  case round =>
    obtain ⟨k, La, Lb, rfl, hk, hRb, hBa, hBb, hKa, hKb, G, H11, hTw, hbw⟩ := hrel
    clear hKa3 hKb3 G3 k11 hT3 hB3 HRB HBA HBB
    by_cases hkl : k < l1.length
    · have hki : (k : Int) < (l1.length : Int) := by omega
      have hne : l1 ≠ [] := fun e => by subst e; simp at hkl
      obtain ⟨bd, off, rfl, hlt, hnts⟩ := (w1.carry hbw) hne
      obtain ⟨⟨xo, xt, xk⟩, hx⟩ : ∃ x, l1[k]? = some x := ⟨_, List.getElem?_eq_getElem hkl⟩
      obtain ⟨c0, c1, c2⟩ := hnts k _ hx
      dsimp only at c0 c1 c2
      have hix := idx_n bd off l1.length cap1 k hkl
      obtain ⟨v2, hv2⟩ : ∃ u2, wr.alloc (.cells #[.int .i64 0, .int .i64 0, .int .i64 0] 50) = u2 := ⟨_, rfl⟩
      have k1 : Hid (v2.heap[wr.heap.size]? = some (.cells #[.int .i64 0, .int .i64 0, .int .i64 0] 50 (0, 0))) := by rw [← hv2]; exact new_at rfl
      have k2 : Hid (Below wr.heap.size wr v2) := by rw [← hv2]; exact al1' _ _
      by_cases hx0 : xo < 0
      · go_wp2_with (refine wpList_store_row rfl 50 (.tmp 13) (.tmp 51) rfl wr.heap.size #[.int .i64 xo, .int .i64 xt, .int .i64 xk] rfl rfl 50 _ k1.out infoN3 rfl (by simp [Value.oneCell']) ?_; obtain ⟨v3, hv3⟩ : ∃ x, v2.setRow wr.heap.size #[.int .i64 xo, .int .i64 xt, .int .i64 xk] = x := ⟨_, rfl⟩; have j1 : NB v3 wr.heap.size xo xt xk := (by rw [← hv3]; exact setRow_heap _ _ _ _ _ _ k1.out); have j2 : Hid (Below wr.heap.size wr v3) := (by rw [← hv3]; exact below_row k2.out (Nat.le_refl _) _); rw [hv3]; have m0 := j1.c0)
        go_roundw
        case rel => exact ⟨k + 1, La, Lb, by simp, by omega, hRb, hBa, hBb, hKa.carry j2.out, hKb.carry j2.out, G.carry j2.out, H11.carry j2.out, hTw.carry j2.out, bel2 hbw j2.out⟩
        case measure => simp [vnat]; omega
      by_cases hx1 : xo ≥ (n : Int)
      · go_wp2_with (refine wpList_store_row rfl 50 (.tmp 13) (.tmp 51) rfl wr.heap.size #[.int .i64 xo, .int .i64 xt, .int .i64 xk] rfl rfl 50 _ k1.out infoN3 rfl (by simp [Value.oneCell']) ?_; obtain ⟨v3, hv3⟩ : ∃ x, v2.setRow wr.heap.size #[.int .i64 xo, .int .i64 xt, .int .i64 xk] = x := ⟨_, rfl⟩; have j1 : NB v3 wr.heap.size xo xt xk := (by rw [← hv3]; exact setRow_heap _ _ _ _ _ _ k1.out); have j2 : Hid (Below wr.heap.size wr v3) := (by rw [← hv3]; exact below_row k2.out (Nat.le_refl _) _); rw [hv3]; have m0 := j1.c0)
        go_roundw
        case rel => exact ⟨k + 1, La, Lb, by simp, by omega, hRb, hBa, hBb, hKa.carry j2.out, hKb.carry j2.out, G.carry j2.out, H11.carry j2.out, hTw.carry j2.out, bel2 hbw j2.out⟩
        case measure => simp [vnat]; omega
      obtain ⟨oN, rfl⟩ : ∃ oN : Nat, xo = (oN : Int) := ⟨xo.toNat, by omega⟩
      have hon : oN < n := by omega
      have hadd := i64_id ((oN : Int) + 1) (by omega) (by omega)
      have hrem : ((oN : Int) + 1).tmod (n : Int) = (((oN + 1) % n : Nat) : Int) := by rw [Int.tmod_eq_emod_of_nonneg (by omega)]; rfl
      have hRt := hRb.take hBa hon xt xk
      have hBa' := tke_bok hBa ((oN : Int), xt, xk)
      have hBb' := tke_bok hBb ((((oN + 1) % n : Nat) : Int), xt, xk)
      obtain ⟨rN, hrN⟩ : ∃ rN, (oN + 1) % n = rN := ⟨_, rfl⟩
      rw [hrN] at hrem hRt hBb'
      clear hrN
      have hta := fun V (hV : Bk V pa ga La) => take_some hV (oN : Int) xt xk
      have htb := fun V (hV : Bk V pb gb Lb) => take_some hV (rN : Int) xt xk
      unfold nt at hta htb
      generalize hLa' : tke La ((oN : Int), xt, xk) = La' at *
      generalize hLb' : tke Lb ((rN : Int), xt, xk) = Lb' at *
      have hKblt := hKb.glt
      have hKalt := hKa.glt
      go_wp2_with (first
        | (refine wpList_store_row rfl 50 (.tmp 13) (.tmp 51) rfl wr.heap.size #[.int .i64 (oN : Int), .int .i64 xt, .int .i64 xk] rfl rfl 50 _ k1.out infoN3 rfl (by simp [Value.oneCell']) ?_; obtain ⟨v3, hv3⟩ : ∃ x, v2.setRow wr.heap.size #[.int .i64 (oN : Int), .int .i64 xt, .int .i64 xk] = x := ⟨_, rfl⟩; have j1 : NB v3 wr.heap.size (oN : Int) xt xk := (by rw [← hv3]; exact setRow_heap _ _ _ _ _ _ k1.out); have j2 : Hid (Below wr.heap.size wr v3) := (by rw [← hv3]; exact below_row k2.out (Nat.le_refl _) _); rw [hv3]; have m0 := j1.c0; have m1 := j1.c1; have m2 := j1.c2; have hKa3 := hKa.carry j2.out)
        | (go_at_call 21; refine (hta _ hKa3).mono ?_; rintro e v4 ⟨⟨Bq, Eq, rfl⟩, hKa4, hg4⟩; have hKb4 : Bk v4 pb gb Lb := (hKb.carry j2.out).other hg4 d3 (fun e => d1 e.symm); have j4 : NB v4 wr.heap.size (oN : Int) xt xk := j1.turn hg4 (by omega); have q0 := j4.c0; have z0 := thaw_at j4 0; have HK4 : Hid (Bk v4 pb gb Lb) := hKb4; have hs4 := heap_setCell_same _ _ 0 _ _ (.int .i64 (rN : Int)) j4; obtain ⟨v5, hv5⟩ : ∃ v5, v4.setCell ⟨wr.heap.size, 0, none⟩ (.int .i64 (rN : Int)) = v5 := ⟨_, rfl⟩; rw [hv5] at hs4; have j5 : NB v5 wr.heap.size (rN : Int) xt xk := hs4; have p0 := j5.c0; have p1 := j5.c1; have p2 := j5.c2; have t5 : ∀ b, b ≠ wr.heap.size → v5.heap[b]? = v4.heap[b]? := (fun b hb => by rw [← hv5]; exact Below.heap_setCell _ _ _ _ hb); have hKb5 : Bk v5 pb gb Lb := ⟨(t5 _ (by have := hKb.plt; omega)).trans hKb4.obj, (t5 _ (by omega)).trans hKb4.row⟩; clear hKa3 hKb4 m0 m1 m2)
        | (go_at_call 21; refine (htb _ hKb5).mono ?_; rintro e v6 ⟨⟨Bq2, Eq2, rfl⟩, hKb6, hg6⟩))
      have hKa5 : Bk v5 pa ga La' := ⟨(t5 _ (by have := hKa.plt; omega)).trans hKa4.obj, (t5 _ (by omega)).trans hKa4.row⟩
      have hKa6 : Bk v6 pa ga La' := hKa5.other hg6 d2 d1
      have hH4 : ∀ {b c}, Holds4 wr b c → Holds4 v6 b c := fun {b c} h => by
        have h3 : Holds4 v4 b c := Holds4.turn (h.carry j2.out) (hKa.carry j2.out) hg4
        have h5 : Holds4 v5 b c := (t5 b (by have := h.lt; omega)).trans h3
        exact Holds4.turn h5 hKb5 hg6
      have hT4 : Tab v6 := by
        obtain ⟨cT, tT, h1, h2⟩ := (hTw.carry j2.out).turn hg4 d6
        have h3 := hTw.lt
        have : Tab v5 := ⟨cT, tT, (t5 0 (by omega)).trans h1, h2⟩
        exact this.turn hg6 d7
      have hB4 : Below w.heap.size w v4 := (bel2 hbw j2.out).grown hg4 (bel2 hbw j2.out).size (fun k e => by cases e; omega)
      have hB5 : Below w.heap.size w v5 := by rw [← hv5]; exact hB4.setCell hbw.size _
      have hB6 : Below w.heap.size w v6 := hB5.grown hg6 hB5.size (fun k e => by cases e; omega)
      have G6 := hH4 G
      have H6 := hH4 H11
      go_roundw
      case rel => exact ⟨k + 1, La', Lb', by simp, by omega, hRt, hBa', hBb', hKa6, hKb6, G6, H6, hT4, hB6⟩
      case measure => simp [vnat]; omega
    · have hkk : k = l1.length := by omega
      subst hkk
      have hki : ¬ ((l1.length : Int) < (l1.length : Int)) := by omega
      have hids := ids_any N2 wr hTw
      obtain ⟨ids, hidsE⟩ : ∃ ids, idsTo (cln N2) 128 = ids := ⟨_, rfl⟩
      have HIDS : Hid (idsTo (cln N2) 128 = ids) := hidsE
      have hidl : ids.length = cnt (cln N2) := by rw [← hidsE]; exact idsTo_length _ _
      have hid128 : ∀ i ∈ ids, i < 128 := fun i hi => by rw [← hidsE] at hi; exact (mem_idsTo.1 hi).1
      rw [hidsE, ← hidl] at hids
      clear hidsE hidl
      have hil : ids.length ≤ 128 := by rw [← HIDS.out, idsTo_length]; exact cnt_le _
      simp only [sv] at hids
      go_wp2_with (first
        | (refine wpList_load_row rfl 27 (.tmp 5) rfl w.heap.size rfl 27 _ (0, 0) _ G Tryd.underlying27 rfl infoS ?_)
        | (go_at_call 24; refine hids.mono ?_; rintro e y1 ⟨vI, rfl, hrowI, hbI⟩; obtain ⟨aI, cI, rfl, hRI⟩ := own_ints hrowI))
      have hKa1 := hKa.carry hbI
      have hKb1 := hKb.carry hbI
      have G1 := G.carry hbI
      have H1 := H11.carry hbI
      have hT1 := hTw.carry hbI
      have hB1 := bel2 hbw hbI
      clear hids hrowI hKa hKb G H11 hTw hbw hbI
      go_loopw [15] (fun c wz => ∃ k : Nat, c = .int .i64 k ∧ k ≤ ids.length ∧ Bk wz pa ga La ∧ Bk wz pb gb Lb ∧ Holds4 wz w.heap.size (wd N2) ∧ Holds4 wz b11 (wd (rotS n (ids.take k))) ∧ RdI wz aI ids ∧ Tab wz ∧ Below w.heap.size w wz) (fun c _ => ids.length - vnat c)
      case atStart => exact ⟨0, rfl, Nat.zero_le _, hKa1, hKb1, G1, H1, hRI, hT1, hB1⟩
      case round =>
        obtain ⟨k, rfl, hk, hKa, hKb, G, H11, hRI, hTw, hbw⟩ := hrel
        clear hKa1 hKb1 G1 H1 hT1 hB1
        by_cases hkl : k < ids.length
        · have hki : (k : Int) < (ids.length : Int) := by omega
          have hne : ids ≠ [] := fun e => by subst e; simp at hkl
          obtain ⟨x, hx⟩ : ∃ x, ids[k]? = some x := ⟨_, List.getElem?_eq_getElem hkl⟩
          have hRI0 := hRI
          obtain ⟨bI, rfl, hcI, curI, hoI⟩ := hRI hne
          have hix := idx_i bI 0 ids.length cI k hkl
          rw [Nat.zero_add] at hix
          have c0 := hcI k x hx
          have hx128 := hid128 x (List.mem_of_getElem? hx)
          have hes := rotS_succ n ids k x hx
          clear hx hcI
          have hSl := rotS_lt hn2 (ids.take k)
          obtain ⟨S, hS⟩ : ∃ S, rotS n (ids.take k) = S := ⟨_, rfl⟩
          rw [hS] at hes hSl H11
          by_cases hxn : x < n
          · have hxi : (x : Int) < (n : Int) := by omega
            rw [if_pos hxn] at hes
            have hr100 : (x + 1) % n < 100 := Nat.lt_of_lt_of_le (rot_lt hxn) hn2
            have hwi : ∀ V, Calls Tryd.prog 25 #[sv S, .int .i64 (((x + 1) % n : Nat) : Int)] V fun e w' => e = .returned (.tuple #[sv (S ||| 2 ^ ((x + 1) % n)), .int .i64 0]) ∧ Below V.heap.size V w' := fun V => by
              have := with_any S (((x + 1) % n : Nat) : Int) V
              rw [show withV S (((x + 1) % n : Nat) : Int) = .tuple #[sv (cln S ||| 2 ^ ((x + 1) % n)), .int .i64 0] by unfold withV; rw [if_pos (by omega), Int.toNat_natCast], cln_id hSl] at this
              exact this
            have hremx : ∀ (xx yy : Operand) (V : World), binRun Tryd.prog .rem 3 xx yy (.int .i64 ((x : Int) + 1)) (.int .i64 (n : Int)) V = .ok (.int .i64 (((x + 1) % n : Nat) : Int)) V := fun xx yy V => bin_rem64 (P := Tryd.prog) (t := 3) (x := xx) (y := yy) (w := V) (x + 1) n (by omega)
            have hadd := i64_id ((x : Int) + 1) (by omega) (by omega)
            have HES : Hid (rotS n (ids.take (k + 1)) = S ||| 2 ^ ((x + 1) % n)) := hes
            obtain ⟨S2, hS2⟩ : ∃ S2, S ||| 2 ^ ((x + 1) % n) = S2 := ⟨_, rfl⟩
            rw [hS2] at HES
            simp only [hS2] at hwi
            obtain ⟨rN, hrN⟩ : ∃ rN, (x + 1) % n = rN := ⟨_, rfl⟩
            simp only [hrN] at hwi hremx
            clear hes hS hS2 hrN hSl
            go_wp2
            refine wp_region_any hmx ?_
            refine wpAny_tabG (G := Unit) (fun g i__ => ([(sv S), (.slice (some ⟨bI, 0, none⟩) ids.length cI), (.int .i64 (k : Int)), (.pointer (some ⟨bI, 0 + k, none⟩)), (.int .i64 (x : Int)), (.int .i64 ((x : Int) + 1)), (.int .i64 (n : Int)), (.int .i64 (rN : Int)), (.tuple #[sv S2, .int .i64 0]), (.tuple #[sv S2, .int .i64 0]), (sv S2), (.int .i64 0), undef] : List Value).getD i__ undef) (fun g d V => Jb wr b11 S2 (d 12) V) (by kernel_rfl) (()) (show Jb wr b11 S2 false _ from (Below.refl _ _).drew) ?step1 ?fin1
            case step1 =>
              intro i o ho
              have hi : i < 13 := getElem?_lt ho
              match i, hi, ho with
              | 0, _, ho =>
                cases ho
                refine stepG_ofC (fun g d hun hdep hcl => ?_)
                exact step_load rfl trivial _ _ _ rfl rfl (fun v hw => by have h12 : d 12 = false := (by cases h : d 12 with | false => rfl | true => exact absurd (hcl 12 _ rfl h 0 (by kernel_rfl)) (by rw [hun]; simp)); have hw' := hw; rw [h12] at hw'; exact whole4 v _ S (H11.carry hw'))
              | 1, _, ho =>
                cases ho
                refine stepG_ofC (fun g d hun hdep hcl => ?_)
                exact step_move rfl trivial _ rfl (by kernel_rfl)
              | 2, _, ho =>
                cases ho
                refine stepG_ofC (fun g d hun hdep hcl => ?_)
                exact step_move rfl trivial _ rfl (by kernel_rfl)
              | 3, _, ho =>
                cases ho
                refine stepG_ofC (fun g d hun hdep hcl => ?_)
                exact step_indexAddr rfl trivial _ _ _ _ _ rfl rfl rfl (fun v hw => idx_i bI 0 _ _ k hkl v)
              | 4, _, ho =>
                cases ho
                refine stepG_ofC (fun g d hun hdep hcl => ?_)
                exact step_load rfl trivial _ _ _ rfl rfl (fun v hw => by have h12 : d 12 = false := (by cases h : d 12 with | false => rfl | true => exact absurd (hcl 12 _ rfl h 4 (by kernel_rfl)) (by rw [hun]; simp)); have hw' := hw; rw [h12] at hw'; exact load_i64 (by rw [Nat.zero_add]; exact (World.cell?_of_block (a := ⟨bI, k, none⟩) (Below.block hw' _ (lt_at hoI))).trans c0))
              | 5, _, ho =>
                cases ho
                refine stepG_ofC (fun g d hun hdep hcl => ?_)
                exact step_binOp rfl trivial _ _ _ _ _ _ _ rfl rfl rfl (fun v hw => bin_add64 _ _ _ hadd)
              | 6, _, ho =>
                cases ho
                refine stepG_ofC (fun g d hun hdep hcl => ?_)
                exact step_move rfl trivial _ rfl (by kernel_rfl)
              | 7, _, ho =>
                cases ho
                refine stepG_ofC (fun g d hun hdep hcl => ?_)
                exact step_binOp rfl trivial _ _ _ _ _ _ _ rfl rfl rfl (fun v hw => hremx _ _ v)
              | 8, _, ho =>
                cases ho
                refine stepG_ofC (fun g d hun hdep hcl => ?_)
                exact step_call rfl trivial 25 _ _ [(sv S), (.int .i64 (rN : Int))] rfl (by kernel_rfl) (enters_of Tryd.func25 (by kernel_rfl) rfl) (fun v hw => by have h12 : d 12 = false := (by cases h : d 12 with | false => rfl | true => exact absurd (hcl 12 _ rfl h 8 (by kernel_rfl)) (by rw [hun]; simp)); have hw' := hw; rw [h12] at hw'; exact (hwi v).mono (by rintro e w2 ⟨rfl, hb2⟩; exact ⟨rfl, (show Jb wr b11 S2 (d 12) w2 from by rw [h12]; exact bel2 hw' hb2)⟩))
              | 9, _, ho =>
                cases ho
                refine stepG_ofC (fun g d hun hdep hcl => ?_)
                exact step_move rfl trivial _ rfl (by kernel_rfl)
              | 10, _, ho =>
                cases ho
                refine stepG_ofC (fun g d hun hdep hcl => ?_)
                exact step_extract rfl trivial _ _ _ rfl rfl (fun v hw => ext2_0 _ _ v)
              | 11, _, ho =>
                cases ho
                refine stepG_ofC (fun g d hun hdep hcl => ?_)
                exact step_extract rfl trivial _ _ _ rfl rfl (fun v hw => ext2_1 _ _ v)
              | 12, _, ho =>
                cases ho
                refine stepG_ofC (fun g d hun hdep hcl => ?_)
                exact step_store rfl trivial rfl _ _ _ _ _ rfl rfl rfl (fun v hw => by have hw' := hw; rw [hun] at hw'; exact ⟨set4 v b11 S2, store_s (H11.carry hw') _, jb_put H11 hw'⟩)
            intro g d W hall hW
            first | refine hK _ _ ?_ | refine (‹∀ (a : Act) (w : World), Code.wp Tryd.prog _ _ a w → _›) _ _ ?_ | skip
            simp only [finL, List.getD_cons_zero, List.getD_cons_succ, Nat.zero_add, Nat.reduceAdd, List.setIfInBounds_toArray, List.set_cons_zero, List.set_cons_succ]
            rw [hall 12 (by decide)] at hW
            obtain ⟨hW1, hW2⟩ := hW
            have hKa2 := hKa.tq H11 hW2
            have hKb2 := hKb.tq H11 hW2
            have G2 : Holds4 W w.heap.size (wd N2) := (hW2.block _ G.lt (by omega)).trans G
            have hRI2 := hRI0.tq H11 hW2
            have hT2 : Tab W := by
              obtain ⟨cT, tT, h1, h2⟩ := hTw
              exact ⟨cT, tT, (hW2.block 0 (lt_at h1) (by omega)).trans h1, h2⟩
            have hB2 : Below w.heap.size w W := hW2.below hbw (by omega) hbw.size
            clear hall
            go_wp2
            go_roundw
            case rel => exact ⟨k + 1, by simp, by omega, hKa2, hKb2, G2, by rw [HES.out]; exact hW1, hRI2, hT2, hB2⟩
            case measure => simp [vnat]; omega
          · have hxi : ¬ (x : Int) < (n : Int) := by omega
            rw [if_neg hxn] at hes
            have HES : Hid (rotS n (ids.take (k + 1)) = S) := hes
            clear hes hS
            go_wp2
            go_roundw
            case rel => exact ⟨k + 1, by simp, by omega, hKa, hKb, G, by rw [HES.out]; exact H11, hRI0, hTw, hbw⟩
            case measure => simp [vnat]; omega
        · have hkk : k = ids.length := by omega
          subst hkk
          have hki : ¬ ((ids.length : Int) < (ids.length : Int)) := by omega
          rw [List.take_length] at H11
          have hYL := hRb.len (M := N2) hBa hn2
          have hFd : ∀ d ∈ dbs La (idsTo (cln N2) 128), ∃ (i : Nat) (t : Int), d = ((i : Int), t, 2) ∧ i < n ∧ ((((i + 1) % n : Nat) : Int), t, 2) ∈ dbs Lb (idsTo (cln (rotS n (idsTo (cln N2) 128))) 128) := fun d hd => hRb.found hBa hn2 hd
          rw [HIDS.out] at hYL hFd
          have hda := fun V (hV : Below wr.heap.size wr V) => doubts_rd (hKa.carry hV) N2 (hTw.carry hV)
          have hdb := fun V (hV : Below wr.heap.size wr V) => doubts_rd (hKb.carry hV) (rotS n ids) (hTw.carry hV)
          rw [HIDS.out] at hda
          obtain ⟨S, hS⟩ : ∃ S, rotS n ids = S := ⟨_, rfl⟩
          rw [hS] at H11 hYL hFd hdb
          clear hS
          have hXl : (dbs La ids).length ≤ 128 := Nat.le_trans (dbs_len _ _) hil
          obtain ⟨X, hX⟩ : ∃ X, dbs La ids = X := ⟨_, rfl⟩
          obtain ⟨Y, hY⟩ : ∃ Y, dbs Lb (idsTo (cln S) 128) = Y := ⟨_, rfl⟩
          rw [hX] at hYL hFd hXl
          rw [hY] at hYL hFd
          simp only [hX] at hda
          simp only [hY, hYL] at hdb
          clear hX hY
          go_wp2
          refine wp_region_any hmx ?_
          refine wpAny_tabG (G := ((Option Addr × Nat) × (Option Addr × Nat))) (fun g i__ => ([(.pointer (some ⟨pa, 0, none⟩)), (sv N2), (.slice g.1.1 X.length g.1.2), (.pointer (some ⟨pb, 0, none⟩)), (sv S), (.slice g.2.1 X.length g.2.2), (.slice g.1.1 X.length g.1.2), (.slice g.2.1 X.length g.2.2)] : List Value).getD i__ undef) (fun g d V => Jd wr X Y g (d 2) (d 5) V) (by kernel_rfl) (((none, 0), (none, 0))) (show Jd wr X Y ((none, 0), (none, 0)) false false _ from ⟨(Below.refl _ _).drew, fun e => (by cases e), fun e => (by cases e)⟩) ?step2 ?fin2
          case step2 =>
            intro i o ho
            have hi : i < 8 := getElem?_lt ho
            match i, hi, ho with
            | 0, _, ho =>
              cases ho
              refine stepG_ofC (fun g d hun hdep hcl => ?_)
              exact step_move rfl trivial _ rfl (by kernel_rfl)
            | 1, _, ho =>
              cases ho
              refine stepG_ofC (fun g d hun hdep hcl => ?_)
              exact step_load rfl trivial _ _ _ rfl rfl (fun v hw => whole4 v _ N2 (G.carry hw.1))
            | 2, _, ho =>
              cases ho
              exact stepG_call rfl (fun _ => trivial) 19 _ _ (fun _ => [.pointer (some ⟨pa, 0, none⟩), sv N2]) rfl (fun g => by kernel_rfl) (enters_of Tryd.func19 (by kernel_rfl) rfl) (fun g d V hJ hun hdep hcl => (hda V hJ.1).mono (by rintro e V' ⟨a, c, rfl, h1, h2⟩; refine ⟨((a, c), g.2), rfl, (fun j hj => match j, hj with | 2, hj => (by rw [hj] at hun; cases hun) | 6, hj => absurd ((hcl 6 _ rfl hj 2 (by kernel_rfl))) (by rw [hun]; simp) | 0, _ => rfl | 1, _ => rfl | 3, _ => rfl | 4, _ => rfl | 5, _ => rfl | 7, _ => rfl | _ + 8, _ => rfl), ?_⟩; exact ⟨bel2 hJ.1 h2, fun _ => h1, fun e => (hJ.2.2 e).carry h2⟩))
            | 3, _, ho =>
              cases ho
              refine stepG_ofC (fun g d hun hdep hcl => ?_)
              exact step_move rfl trivial _ rfl (by kernel_rfl)
            | 4, _, ho =>
              cases ho
              refine stepG_ofC (fun g d hun hdep hcl => ?_)
              exact step_load rfl trivial _ _ _ rfl rfl (fun v hw => whole4 v _ S (H11.carry hw.1))
            | 5, _, ho =>
              cases ho
              exact stepG_call rfl (fun _ => trivial) 19 _ _ (fun _ => [.pointer (some ⟨pb, 0, none⟩), sv S]) rfl (fun g => by kernel_rfl) (enters_of Tryd.func19 (by kernel_rfl) rfl) (fun g d V hJ hun hdep hcl => (hdb V hJ.1).mono (by rintro e V' ⟨a, c, rfl, h1, h2⟩; refine ⟨(g.1, (a, c)), rfl, (fun j hj => match j, hj with | 5, hj => (by rw [hj] at hun; cases hun) | 7, hj => absurd ((hcl 7 _ rfl hj 5 (by kernel_rfl))) (by rw [hun]; simp) | 0, _ => rfl | 1, _ => rfl | 2, _ => rfl | 3, _ => rfl | 4, _ => rfl | 6, _ => rfl | _ + 8, _ => rfl), ?_⟩; exact ⟨bel2 hJ.1 h2, fun e => (hJ.2.1 e).carry h2, fun _ => h1⟩))
            | 6, _, ho =>
              cases ho
              refine stepG_ofC (fun g d hun hdep hcl => ?_)
              exact step_assign rfl trivial _ rfl (by kernel_rfl) (fun _ h => h)
            | 7, _, ho =>
              cases ho
              refine stepG_ofC (fun g d hun hdep hcl => ?_)
              exact step_assign rfl trivial _ rfl (by kernel_rfl) (fun _ h => h)
          intro g d W hall hW
          first | refine hK _ _ ?_ | refine (‹∀ (a : Act) (w : World), Code.wp Tryd.prog _ _ a w → _›) _ _ ?_ | skip
          simp only [finL, List.getD_cons_zero, List.getD_cons_succ, Nat.zero_add, Nat.reduceAdd, List.setIfInBounds_toArray, List.set_cons_zero, List.set_cons_succ]
          rw [hall 2 (by decide), hall 5 (by decide)] at hW
          obtain ⟨hW0, hRX0, hRY0⟩ := hW
          have hRX := hRX0 rfl
          have hRY := hRY0 rfl
          obtain ⟨⟨aX, cX⟩, ⟨aY, cY⟩⟩ := g
          dsimp only at hRX hRY ⊢
          have hbW := bel2 hbw hW0
          obtain ⟨Z, hZ⟩ : ∃ Z, W = Z := ⟨_, rfl⟩
          subst hZ
          clear hall hda hdb hRX0 hRY0 hKa hKb G H11 hRI hTw hbw hW0
          go_wp2
          go_loopw [18] (fun c wz => ∃ k : Nat, c = .int .i64 k ∧ k ≤ X.length ∧ Below W.heap.size W wz) (fun c _ => X.length - vnat c)
          case atStart => exact ⟨0, rfl, Nat.zero_le _, Below.refl _ _⟩
          case round =>
            obtain ⟨k, rfl, hk, hbz⟩ := hrel
            by_cases hkl : k < X.length
            · have hki : (k : Int) < (X.length : Int) := by omega
              have hneX : X ≠ [] := fun e => by subst e; simp at hkl
              have hneY : Y ≠ [] := fun e => by subst e; simp at hYL; omega
              obtain ⟨bX, oX, rfl, hltX, hntX⟩ := (hRX.carry hbz) hneX
              obtain ⟨d, hd⟩ : ∃ d, X[k]? = some d := ⟨_, List.getElem?_eq_getElem hkl⟩
              obtain ⟨iN, t, rfl, hin, hmY⟩ := hFd d (List.mem_of_getElem? hd)
              obtain ⟨c0, c1, c2⟩ := hntX k _ hd
              dsimp only at c0 c1 c2
              have hix := idx_n bX oX X.length cX k hkl
              have hadd := i64_id ((iN : Int) + 1) (by omega) (by omega)
              have hrem : ((iN : Int) + 1).tmod (n : Int) = (((iN + 1) % n : Nat) : Int) := by rw [Int.tmod_eq_emod_of_nonneg (by omega)]; rfl
              obtain ⟨rN, hrN⟩ : ∃ rN, (iN + 1) % n = rN := ⟨_, rfl⟩
              rw [hrN] at hrem hmY
              clear hrN
              obtain ⟨v2, hv2⟩ : ∃ u2, wr.alloc (.cells #[.int .i64 0, .int .i64 0, .int .i64 0] 50) = u2 := ⟨_, rfl⟩
              have k1 : Hid (v2.heap[wr.heap.size]? = some (.cells #[.int .i64 0, .int .i64 0, .int .i64 0] 50 (0, 0))) := by rw [← hv2]; exact new_at rfl
              have k2 : Hid (Below wr.heap.size wr v2) := by rw [← hv2]; exact al1' _ _
              obtain ⟨v3, hv3⟩ : ∃ x, v2.setRow wr.heap.size #[.int .i64 (iN : Int), .int .i64 t, .int .i64 2] = x := ⟨_, rfl⟩
              have j1 : NB v3 wr.heap.size (iN : Int) t 2 := by rw [← hv3]; exact setRow_heap _ _ _ _ _ _ k1.out
              have j2 : Hid (Below wr.heap.size wr v3) := by rw [← hv3]; exact below_row k2.out (Nat.le_refl _) _
              have m0 := j1.c0
              have z0 := thaw_at j1 0
              have hs4 := heap_setCell_same _ _ 0 _ _ (.int .i64 (rN : Int)) j1
              obtain ⟨v5, hv5⟩ : ∃ v5, v3.setCell ⟨wr.heap.size, 0, none⟩ (.int .i64 (rN : Int)) = v5 := ⟨_, rfl⟩
              rw [hv5] at hs4
              have j5 : NB v5 wr.heap.size (rN : Int) t 2 := hs4
              have hb5 : Below wr.heap.size wr v5 := by rw [← hv5]; exact j2.out.setCell (Nat.le_refl _) _
              go_wp2_with (refine wpList_store_row rfl 50 (.tmp 19) (.tmp 119) rfl wr.heap.size #[.int .i64 (iN : Int), .int .i64 t, .int .i64 2] rfl rfl 50 _ k1.out infoN3 rfl (by simp [Value.oneCell']) ?_; rw [hv3])
              obtain ⟨BX, hBX⟩ : ∃ BX, wr.heap.size = BX := ⟨_, rfl⟩
              rw [hBX] at j5 ⊢
              go_loopw [20, 21] (fun f c wz => ∃ j : Nat, c = .int .i64 j ∧ j ≤ X.length ∧ f = .bool ((Y.take j).any (fun y => decide (y = ((rN : Int), t, 2)))) ∧ Below v5.heap.size v5 wz) (fun _ c _ => X.length - vnat c)
              case atStart => exact ⟨0, rfl, Nat.zero_le _, rfl, Below.refl _ _⟩
              case round =>
                obtain ⟨j, rfl, hj, rfl, hbq⟩ := hrel
                by_cases hjl : j < X.length
                · have hji : (j : Int) < (X.length : Int) := by omega
                  obtain ⟨bY, oY, rfl, hltY, hntY⟩ := (hRY.carry (bel2 (bel2 hbz hb5) hbq)) hneY
                  obtain ⟨⟨yo, yt, yk⟩, hy⟩ : ∃ y, Y[j]? = some y := ⟨_, List.getElem?_eq_getElem (by omega)⟩
                  obtain ⟨e0, e1, e2⟩ := hntY j _ hy
                  dsimp only at e0 e1 e2
                  have hes := any_succ Y (fun y => decide (y = ((rN : Int), t, 2))) j _ hy
                  obtain ⟨A, hA⟩ : ∃ A, (Y.take j).any (fun y => decide (y = ((rN : Int), t, 2))) = A := ⟨_, rfl⟩
                  rw [hA] at hes ⊢
                  clear hA
                  have hcY : ∀ V, Below wr.heap.size wr V → (Instr.loadAt 50 (.pointer (some ⟨bY, oY + j * 3, none⟩))).run Tryd.prog V = .ok (nt yo yt yk) V := fun V hV => load_no ((World.cell?_of_block (a := ⟨bY, _, none⟩) (hV.block _ hltY)).trans e0) ((World.cell?_of_block (a := ⟨bY, _, none⟩) (hV.block _ hltY)).trans e1) ((World.cell?_of_block (a := ⟨bY, _, none⟩) (hV.block _ hltY)).trans e2)
                  cases A with
                  | true =>
                    rw [Bool.true_or] at hes
                    have HES : Hid ((Y.take (j + 1)).any (fun y => decide (y = ((rN : Int), t, 2))) = true) := hes
                    clear hes
                    go_wp2
                    refine wp_region_any hmx ?_
                    refine wpAny_pure (fun i__ => ([(.bool true), (.bool true), undef, undef, undef, undef, undef, undef, (.bool true), (.bool true)] : List Value).getD i__ undef) (fun V => Below wr.heap.size wr V) (by kernel_rfl) (Below.refl _ _).drew ?_ ?_
                    · refine (stepsFrom_cons ?_ (stepsFrom_cons ?_ (stepsFrom_cons ?_ (stepsFrom_cons ?_ (stepsFrom_cons ?_ (stepsFrom_cons ?_ (stepsFrom_cons ?_ (stepsFrom_cons ?_ (stepsFrom_cons ?_ (stepsFrom_cons ?_ trivial))))))))))
                      · exact step_move rfl trivial _ rfl (by kernel_rfl)
                      · exact step_move rfl trivial _ rfl (by kernel_rfl)
                      · exact step_skip rfl 1 false 133 (.bool true) rfl rfl (by kernel_rfl) (by intro h; cases h) rfl
                      · exact step_skip rfl 1 false 133 (.bool true) rfl rfl (by kernel_rfl) (by intro h; cases h) rfl
                      · exact step_skip rfl 1 false 133 (.bool true) rfl rfl (by kernel_rfl) (by intro h; cases h) rfl
                      · exact step_skip rfl 1 false 133 (.bool true) rfl rfl (by kernel_rfl) (by intro h; cases h) rfl
                      · exact step_skip rfl 1 false 133 (.bool true) rfl rfl (by kernel_rfl) (by intro h; cases h) rfl
                      · exact step_skip rfl 1 false 133 (.bool true) rfl rfl (by kernel_rfl) (by intro h; cases h) rfl
                      · exact step_pick rfl trivial _ _ _ true rfl (by kernel_rfl) (by kernel_rfl)
                      · exact step_assign rfl trivial _ rfl (by kernel_rfl) (fun _ h => h)
                    intro W hW
                    first | refine hK _ _ ?_ | refine (‹∀ (a : Act) (w : World), Code.wp Tryd.prog _ _ a w → _›) _ _ ?_
                    simp only [finL, List.getD_cons_zero, List.getD_cons_succ, Nat.zero_add, Nat.reduceAdd, List.setIfInBounds_toArray, List.set_cons_zero, List.set_cons_succ]
                    go_wp2
                    go_roundw
                    case rel => exact ⟨j + 1, by simp, by omega, by rw [HES.out], bel2 hbq hW⟩
                    case measure => simp [vnat]; omega
                  | false =>
                    rw [Bool.false_or] at hes
                    have HES : Hid ((Y.take (j + 1)).any (fun y => decide (y = ((rN : Int), t, 2))) = decide ((yo, yt, yk) = ((rN : Int), t, (2 : Int)))) := hes
                    clear hes
                    obtain ⟨A2, hA2⟩ : ∃ A2, decide ((yo, yt, yk) = ((rN : Int), t, (2 : Int))) = A2 := ⟨_, rfl⟩
                    rw [hA2] at HES
                    go_wp2
                    refine wp_region_any hmx ?_
                    refine wpAny_pure (fun i__ => ([(.bool false), (.bool false), (.slice (some ⟨bY, oY, none⟩) X.length cY), (.int .i64 (j : Int)), (.pointer (some ⟨bY, oY + j * 3, none⟩)), (nt yo yt yk), (nt (rN : Int) t 2), (.bool A2), (.bool A2), (.bool A2)] : List Value).getD i__ undef) (fun V => Below wr.heap.size wr V) (by kernel_rfl) (Below.refl _ _).drew ?_ ?_
                    · refine (stepsFrom_cons ?_ (stepsFrom_cons ?_ (stepsFrom_cons ?_ (stepsFrom_cons ?_ (stepsFrom_cons ?_ (stepsFrom_cons ?_ (stepsFrom_cons ?_ (stepsFrom_cons ?_ (stepsFrom_cons ?_ (stepsFrom_cons ?_ trivial))))))))))
                      · exact step_move rfl trivial _ rfl (by kernel_rfl)
                      · exact step_move rfl trivial _ rfl (by kernel_rfl)
                      · exact step_move rfl (by exact ⟨_, rfl, by kernel_rfl⟩) _ rfl (by kernel_rfl)
                      · exact step_move rfl (by exact ⟨_, rfl, by kernel_rfl⟩) _ rfl (by kernel_rfl)
                      · exact step_indexAddr rfl (by exact ⟨_, rfl, by kernel_rfl⟩) _ _ _ _ _ rfl rfl rfl (fun v hw => idx_n bY oY _ _ j hjl v)
                      · exact step_load rfl (by exact ⟨_, rfl, by kernel_rfl⟩) _ _ _ rfl rfl (fun v hw => hcY v hw)
                      · exact step_load rfl (by exact ⟨_, rfl, by kernel_rfl⟩) _ _ _ rfl rfl (fun v hw => load_nt (j5.carry (bel2 hbq hw)))
                      · exact step_binOp rfl (by exact ⟨_, rfl, by kernel_rfl⟩) _ _ _ _ _ _ _ rfl rfl rfl (fun v hw => (bin_eqln _ _ _ _ _ _).trans (by rw [hA2]; rfl))
                      · exact step_pick rfl trivial _ _ _ false rfl (by kernel_rfl) (by kernel_rfl)
                      · exact step_assign rfl trivial _ rfl (by kernel_rfl) (fun _ h => h)
                    intro W hW
                    first | refine hK _ _ ?_ | refine (‹∀ (a : Act) (w : World), Code.wp Tryd.prog _ _ a w → _›) _ _ ?_
                    simp only [finL, List.getD_cons_zero, List.getD_cons_succ, Nat.zero_add, Nat.reduceAdd, List.setIfInBounds_toArray, List.set_cons_zero, List.set_cons_succ]
                    go_wp2
                    go_roundw
                    case rel => exact ⟨j + 1, by simp, by omega, by rw [HES.out], bel2 hbq hW⟩
                    case measure => simp [vnat]; omega
                · have hjj : j = X.length := by omega
                  subst hjj
                  have hji : ¬ ((X.length : Int) < (X.length : Int)) := by omega
                  have hany : (Y.take X.length).any (fun y => decide (y = ((rN : Int), t, 2))) = true := by
                    rw [← hYL, List.take_length, List.any_eq_true]
                    exact ⟨_, hmY, by simp⟩
                  rw [hany]
                  go_wp2
                  go_roundw
                  case rel => exact ⟨k + 1, by simp, by omega, bel2 (bel2 hbz hb5) hbq⟩
                  case measure => simp [vnat]; omega
            · have hkk : k = X.length := by omega
              subst hkk
              have hki : ¬ ((X.length : Int) < (X.length : Int)) := by omega
              go_wp2_with (go_at_call 6; refine (alive_any _).mono ?_; rintro e u9 ⟨rfl, hb9⟩)
              go_ret
              exact ⟨rfl, bel2 (bel2 hbW hbz) hb9⟩

set_option maxRecDepth 100000 in
theorem lifted (os : Os) (started : os.Started) (H : Type) (enc : TypeId × Value → H) :
    ReturnsInHanded {} Tryd.checked os 5 .any (fun w args => (Rows.inferNamedSpec.pre enc Tryd.prog Tryd.f5 [] false w args ∧ laidMetH Tryd.prog Rows.inferNamedRow.laid w) ∧ sizedMet enc Tryd.prog Tryd.f5 (OpenSpec.ofChange Rows.inferNamedSpec) false w args)
      (Rows.inferNamedSpec.post enc Tryd.prog Tryd.f5 false true false false) := by
  refine returnsInHanded_of_change_and (C := Tryd.checked) (X := fun w _ => laidMetH Tryd.prog Rows.inferNamedRow.laid w) (fun _ _ _ hh h => h.of_heap hh) own started (by kernel_rfl) Tryd.func5
    (ChangeSpec.witness_shaped (enc := enc) (C := Tryd.checked) (os := os) (X := fun w _ => laidMetH Tryd.prog Rows.inferNamedRow.laid w) false (World.laidAll Tryd.prog os Rows.inferNamedRow.laid) #[.int .i64 0, .slice none 0 0, .agg #[.int .u32 0, .int .u32 0, .int .u32 0, .int .u32 0]] 8 (World.laidAll_os _ _ _)
      (World.shaped_of_ZipB (by kernel_rfl) (by kernel_rfl)) (by kernel_rfl) (by kernel_rfl) (by kernel_rfl)
      (by rw [MakeChecks.laidMetH_plain _ _ _ (by kernel_rfl)]; exact laidMet_laidAll _ (by kernel_rfl) (by kernel_rfl))) ?_
  intro W base args ds gs before hval0 hW _ hsz hL _
  have hval : ∀ (j : Nat) t v, Tryd.f5.params[j]? = some t → args[j]? = some v → Value.okWide Tryd.prog W .any base t v := hval0
  have hW' := hW
  obtain ⟨p, q, hA0, hV, rfl, hfz, hnd⟩ := hW
  have hA : DataW.TrodAll enc Tryd.prog W 0 (fun _ => true) true Tryd.f5.params.toList args.toList ds p := hA0
  rw [Tryd.params5] at hA hval
  obtain ⟨v0, vs0, d0, ds0, p0, q0, hargs, rfl, rfl, h0, r0⟩ := trodAll_cons hA
  obtain ⟨v1, vs1, d1, ds1, p1, q1, rfl, rfl, rfl, h1, r1⟩ := trodAll_cons r0
  obtain ⟨v2, vs2, d2, ds2, p2, q2, rfl, rfl, rfl, h2, r2⟩ := trodAll_cons r1
  obtain ⟨rfl, rfl, rfl⟩ := trodAll_nil r2
  obtain rfl : args = #[v0, v1, v2] := by cases args; simp_all
  obtain ⟨rfl, rfl⟩ := trodVars_none hV
  obtain ⟨a0, rfl, rfl, rfl, w0⟩ := open_int Tryd.underlying3 (hval 0 3 v0 rfl rfl) h0
  have k1 := h1
  have lt1 : ∀ x ∈ p1, x.block < W.heap.size := by obtain ⟨m, hm⟩ := k1; exact DataW.trod_lt m _ _ _ hm
  obtain ⟨ad1, cap1, l1, rfl, w1, hc1, hq1, hd1⟩ := open_nts (hval 1 42 v1 rfl rfl) h1
  obtain ⟨N2, hN2, rfl, rfl, rfl⟩ := open_set (hval 2 27 v2 rfl rfl) h2
  clear hA0 hval0
  refine (walk W a0 w0 ad1 cap1 l1 w1 hc1 hq1 N2 hN2 hL).mono fun e W' ⟨he, hg⟩ => ?_
  subst he
  exact ⟨_, rfl, _, _, _, [], _, [], hW', (trodAll_cons_mk (shut_bool Tryd.underlying4 _) trodAll_mk0), (trodAll_cons_mk (shut_int Tryd.underlying3 w0) (trodAll_cons_mk (Below.trod laidOut (by kernel_rfl) (of_decide_eq_true (by kernel_rfl)) k1 hg lt1) (trodAll_cons_mk (shut_set N2) trodAll_mk0))), rfl, hg.frame _, fun h => by cases h⟩

theorem over : Rows.inferNamedRow.holds Tryd.pinned (OpenSpec.ofChange Rows.inferNamedSpec) :=
  OpenClaim.holds_of_wide 5 Tryd.f5 rfl rfl rfl rfl rfl rfl rfl ⟨rfl, rfl, rfl, rfl, rfl⟩ rfl rfl rfl rfl rfl (by kernel_rfl) Tryd.func5 (by kernel_rfl)
    (of_decide_eq_true (by kernel_rfl)) (by unfold Func.isWrapper; first | (rw [if_pos (by decide +kernel)]; kernel_rfl) | (rw [if_neg (by decide +kernel)]; exact ⟨rfl, rfl⟩))
    (fun os started H enc _ => lifted os started H enc)

theorem row_proved : Rows.InferNamedSaid :=
  over
theorem proved : Rows.InferNamedCardSaid :=
  Claim7.holds_tied_plain_at .later [] [.data] true (true, "4e6d6cd140fb0cb465ee6f39c3f9264a031d6201466ac6ddaf174ba7b1cc6811") false
    row_proved (fun _ h => by cases h) (by kernel_rfl) (fun _ h => by cases h) inferNamed_row_tie rfl ⟨rfl, rfl⟩ (by kernel_rfl) rfl
    (fun f fn hf hfn => by
      obtain rfl : f = 5 := Option.some.inj ((show Tryd.prog.funcNamed "earshot/earshotlaw14.InferNamed" = some 5 by kernel_rfl).symm.trans hf) |>.symm
      obtain rfl : fn = Tryd.f5 := (Option.some.inj (Tryd.func5.symm.trans hfn)).symm
      exact ⟨by kernel_rfl, fun j t ht => by
        rw [Tryd.params5] at ht
        rcases j with _ | j
        · have e : t = 3 := by simpa using ht.symm
          subst e
          exact (show Tryd.prog.wantsStandIn 3 = false by kernel_rfl)
        rcases j with _ | j
        · have e : t = 42 := by simpa using ht.symm
          subst e
          exact (show Tryd.prog.wantsStandIn 42 = false by kernel_rfl)
        rcases j with _ | j
        · have e : t = 27 := by simpa using ht.symm
          subst e
          exact (show Tryd.prog.wantsStandIn 27 = false by kernel_rfl)
        simp at ht⟩)
    (by kernel_rfl)
#print axioms proved
end Go.Proofs.YtgehmidalfajgaaDoor
