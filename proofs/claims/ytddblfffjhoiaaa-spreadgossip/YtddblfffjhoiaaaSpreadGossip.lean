/- SpreadGossip (promises P1603, W5): books that absorb one another's news, round about, as often as there are books, come to one, where nothing is said of the books' own nodes. For every input; nothing is asked of it. -/
import Derived.Test.YtddblfffjhoiaaaRows
import Derived.WalkKit
import Derived.ProofKit
import Derived.OpenShut
import Derived.Test.YtddblfffjhoiaaaJnJ4
import Derived.Test.YtddblfffjhoiaaaJnJ5
namespace Go.Proofs.Ytddblfffjhoiaaa
open Go.ChangeShapes Go.WideShapes Go.ChangeAt Go.RowKit
set_option linter.unusedVariables false

theorem laidOut : laidOutB Try.prog = true := by kernel_rfl
theorem own : ownKnob Try.prog.godebug = none := by kernel_rfl
open Go.Shelf Go.Lib
set_option maxHeartbeats 64000000 in
set_option maxRecDepth 100000 in
theorem walk (w : World) (a0 : Int) (w0 : (Lit.int .i64 a0).wf = true) (ad1 : Option Addr) (cap1 : Nat) (l1 : List (List (Int × Int × Int))) (w1 : RdNN w ad1 l1) :
    Calls Try.prog 6 #[.int .i64 a0, .slice ad1 l1.length cap1] w fun e w' => e = .returned (.bool true) ∧ Below w.heap.size w w' := by
  have hmx : Try.prog.follows .mixedOrders = true := by kernel_rfl
  obtain ⟨ic, hic, hz0, hz1, hz2⟩ := info_bpP
  have hal := alive_any
  have hbw : Below w.heap.size w w := Below.refl _ _
  have HW1 : Hid (RdNN w ad1 l1) := w1
  clear w1
  by_cases hok : 1 ≤ a0 ∧ a0 ≤ 30 ∧ 1 ≤ l1.length ∧ l1.length ≤ 6 ∧ (l1.length : Int) ≤ a0
  case neg =>
    go_enter Try.func6, Try.ntmps6
    go_wp2_with (go_at_call 8; (with_reducible refine (hal _).mono ?_); rintro e u ⟨rfl, hb⟩)
    all_goals first | (go_ret; exact ⟨rfl, hb⟩) | (exfalso; first | omega | (simp at *; omega))
  obtain ⟨h1, h2, h3, h4, h5⟩ := hok
  obtain ⟨N, rfl⟩ : ∃ N : Nat, a0 = (N : Int) := ⟨a0.toNat, by omega⟩
  obtain ⟨K, hKK⟩ : ∃ M, l1.length = M := ⟨_, rfl⟩
  have HK : Hid (l1.length = K) := hKK
  rw [hKK] at h3 h4 h5 ⊢
  clear hKK
  have hK0 : 0 < K := by omega
  have hN1 : 1 ≤ N := by omega
  have hN2 : N ≤ 100 := by omega
  have hKN : K ≤ N := by omega
  have c1 : ¬ ((N : Int) < 1) := by omega
  have c2 : ¬ ((30 : Int) < (N : Int)) := by omega
  have c3 : ¬ ((K : Int) < 1) := by omega
  have c4 : ¬ ((6 : Int) < (K : Int)) := by omega
  have c5 : ¬ ((N : Int) < (K : Int)) := by omega
  go_enter Try.func6, Try.ntmps6
  go_wp2
  go_loopw [6, 7] (fun va i wz => ∃ (ii : Nat) (B : List (Nat × Nat × List N3)), i = .int .i64 ii ∧ ii ≤ K ∧ B.length = ii ∧ (∀ (q : Nat) x, B[q]? = some x → Bok x.2.2 ∧ x.2.2.length = N ∧ Frh K x.2.2) ∧ JGo w ii B va wz) (fun _ i _ => K - vnatR i)
  case atStart => exact ⟨0, [], rfl, Nat.zero_le _, rfl, fun q x h => (by simp at h), ⟨Bks.nil w, World.ownsRow_nil _ _ _ _⟩⟩
  case round =>
    obtain ⟨ii, B, rfl, hiK, hBl, hBg, hJ⟩ := hrel
    by_cases hil : ii < K
    · have hili : (ii : Int) < (K : Int) := by omega
      have hjn2 : ii < l1.length := by rw [HK.out]; exact hil
      obtain ⟨m, hm⟩ : ∃ m, l1[ii]? = some m := ⟨_, List.getElem?_eq_getElem hjn2⟩
      obtain ⟨gb, off, rfl, hgb, hat⟩ := HW1.out (fun e => by rw [e] at hjn2; simp at hjn2)
      obtain ⟨adm, capm, hcell, hrm, hcapm⟩ := hat ii m hm
      obtain ⟨mlen, hml⟩ : ∃ k, m.length = k := ⟨_, rfl⟩
      have HML : Hid (m.length = mlen) := hml
      have HRM : Hid (RdN w adm m) := hrm
      rw [hml] at hcell
      have hce : wr.cell? ⟨gb, off + ii, none⟩ = some (.slice adm mlen capm) := (hJ.bks.below.cell (p := ⟨gb, _, none⟩) hgb).trans hcell
      have hli := light_any wr adm mlen capm
      clear hm hat hjn2 hml hrm
      by_cases h300 : mlen ≤ 300
      case neg =>
        rw [decide_eq_false h300] at hli
        have k0 := hal wr
        go_wp2_with (first | (go_at_call 8; (with_reducible refine k0.mono ?_); rintro e z1 ⟨rfl, hz1'⟩) | (go_at_call 7; (with_reducible refine hli.mono ?_); rintro e u ⟨rfl, hu⟩; obtain rfl := hu.symm))
        go_ret
        exact ⟨rfl, bel2 hJ.bks.below hz1'⟩
      rw [decide_eq_true h300] at hli
      have hmd := made0_any wr N ii hN1 hN2 (by omega)
      go_wp2_with (first | (go_at_call 9; (with_reducible refine hmd.mono ?_); rintro e u1 ⟨p, g, rfl, hp, hg, hk, hb1⟩; have hS1 : Bks w (B ++ [(p, g, bk0 N ii 0)]) u1 := hJ.bks.add hb1 hk hp hg; have hrow1 := row_below hJ.row hb1; clear hp hg hk) | (go_at_call 7; (with_reducible refine hli.mono ?_); rintro e u ⟨rfl, hu⟩; obtain rfl := hu.symm))
      go_loopw [9] (fun j wz => ∃ (jj : Nat), j = .int .i64 jj ∧ jj ≤ mlen ∧ Bks w (B ++ [(p, g, (m.take jj).foldl (tg K) (bk0 N ii 0))]) wz ∧ wz.ownsRow w.heap.size 25 1 u6 ii (B.map pB)) (fun j _ => mlen - vnatR j)
      case atStart => exact ⟨0, rfl, Nat.zero_le _, hS1, hrow1⟩
      case round =>
        obtain ⟨jj, rfl, hjm, hS, hrw⟩ := hrel
        clear hS1 hrow1
        have hce2 : wr.cell? ⟨gb, off + ii, none⟩ = some (.slice adm mlen capm) := (hS.below.cell (p := ⟨gb, _, none⟩) hgb).trans hcell
        have hBn := bk0_bok (n := N) (s := ii) (tag := 0) (by omega) (by omega)
        by_cases hjl : jj < mlen
        · have hjli : (jj : Int) < (mlen : Int) := by omega
          have hjl2 : jj < m.length := by rw [HML.out]; exact hjl
          obtain ⟨⟨o, t, q⟩, hx⟩ : ∃ x, m[jj]? = some x := ⟨_, List.getElem?_eq_getElem hjl2⟩
          obtain ⟨gm, om, rfl, hgm, hnt⟩ := (HRM.out.carry hS.below) (fun e => by rw [e] at hjl2; simp at hjl2)
          obtain ⟨d0, d1, d2⟩ := hnt jj _ hx
          dsimp only at d0 d1 d2
          have HF : Hid ((m.take (jj + 1)).foldl (tg K) (bk0 N ii 0) = tg K ((m.take jj).foldl (tg K) (bk0 N ii 0)) (o, t, q)) := fold_take hx
          have htk := take_some (hS.get B.length (get_last B _)) o t q
          unfold nt at htk
          clear hx hnt hjl2
          generalize (m.take jj).foldl (tg K) (bk0 N ii 0) = LL at HF hS htk
          by_cases hoK : (K : Int) ≤ o
          · have hoKi : o ≥ (K : Int) := hoK
            go_wp2_with (go_at_call 16; (with_reducible refine htk.mono ?_); rintro e v1 ⟨⟨BB, EE, rfl⟩, hk1, hg1⟩)
            go_roundw
            case rel =>
              refine ⟨jj + 1, by simp, by omega, ?_, row_off hrw (hS.get B.length (get_last B _)).row (by decide) hg1⟩
              rw [HF.out]
              have e1 : tg K LL (o, t, q) = tke LL (o, t, q) := by unfold tg; rw [if_pos hoK]
              rw [e1]
              have := hS.turn B.length (get_last B _) hk1 hg1
              rw [set_last] at this
              exact this
            case measure => simp [vnatR]; omega
          · have hoKi : ¬ o ≥ (K : Int) := hoK
            go_wp2
            go_roundw
            case rel =>
              refine ⟨jj + 1, by simp, by omega, ?_, hrw⟩
              rw [HF.out]
              have e1 : tg K LL (o, t, q) = LL := by unfold tg; rw [if_neg hoK]
              rw [e1]
              exact hS
            case measure => simp [vnatR]; omega
        · have hkk : jj = mlen := by omega
          subst hkk
          have hjli : ¬ ((jj : Int) < (jj : Int)) := by omega
          rw [List.take_of_length_le (by rw [HML.out]; exact Nat.le_refl _)] at hS
          obtain ⟨t1, t2, t3⟩ := tg_ok m hBn (bk0_frh N ii K)
          rw [bk0_len] at t3
          generalize m.foldl (tg K) (bk0 N ii 0) = LL at hS t1 t2 t3
          go_wp2_with (at_builtin; refine wpList_append_own_at _ rfl _ _ 45 rfl w.heap.size 25 ic _ 1 8 Try.underlying45 hic hz0 hz1 hz2 rfl (by decide) _ ii (B.map pB) rfl (hrw.alloc _) ⟨wr.heap.size, 0, none⟩ 1 1 [_] rfl rfl (rowN _ #[_] _) (by simp [Value.oneCell']) (by unfold maxLen; omega) (by omega) (Nat.le_trans hS.below.size (by simp)) ?_; intro v' w2 hown' hgrow _ hob)
          go_roundw
          case rel =>
            refine ⟨ii + 1, B ++ [(p, g, LL)], by simp, by omega, by simp [hBl], fun q x hx => ?_, JGo.app (hS.carry (al1 _ _)) (hrw.alloc _) hgrow hown'⟩
            by_cases hq : q < B.length
            · rw [List.getElem?_append_left hq] at hx
              exact hBg q x hx
            · have hlt := (List.getElem?_eq_some_iff.1 hx).1
              simp at hlt
              have hqe : q = B.length := by omega
              subst hqe
              rw [get_last] at hx
              cases hx
              exact ⟨t1, t3, t2⟩
          case measure => simp [vnatR]; omega
    · have hkk : ii = K := by omega
      subst hkk
      have hili : ¬ ((ii : Int) < (ii : Int)) := by omega
      obtain ⟨aB, cB, rfl, hcB⟩ := hJ.at hBl
      have hBne : B ≠ [] := fun e => by rw [e] at hBl; simp at hBl; omega
      obtain ⟨gB, rfl, hgB, _⟩ := hcB hBne
      obtain ⟨l0, hl0⟩ : ∃ x, B.map (·.2.2) = x := ⟨_, rfl⟩
      have hl0g : Gd ii N l0 := ⟨by rw [← hl0]; simp [hBl], fun q l hq => by
        rw [← hl0] at hq
        obtain ⟨p, g, hb⟩ := map_at hq
        exact hBg q _ hb⟩
      have hl0ne : l0 ≠ [] := fun e => by have := hl0g.1; rw [e] at this; simp at this; omega
      obtain ⟨hE0, hTn, hTb, hTup, hTat⟩ := lvl_ok (n := N) hl0ne (fun l hl => by
        obtain ⟨q, hq⟩ := List.getElem?_of_mem hl
        exact ⟨(hl0g.2 q l hq).1, (hl0g.2 q l hq).2.1⟩)
      have hlv := level_any (w := wr) (some ⟨gB, 0, none⟩) cB _ _ (hJ.bvs hBl hN1 hN2 (fun i x hx => ⟨(hBg i x hx).1, (hBg i x hx).2.1⟩)) (by simp; omega)
      rw [hl0, hl0g.1, hE0] at hlv
      obtain ⟨top, htop⟩ : ∃ x, lvl l0 = x := ⟨_, rfl⟩
      rw [htop] at hlv hTn hTb hTup hTat
      have hPh0 : Ph ii N l0 top 0 0 l0 := ⟨hl0g, fun _ _ _ _ => Int.le_refl _, fun j p hj hp => by
        obtain ⟨l, hl⟩ : ∃ l, l0[j]? = some l := ⟨_, List.getElem?_eq_getElem (by rw [hl0g.1]; exact hj)⟩
        have e : rq l0 j p = rkl l p := by unfold rq; rw [hl]; rfl
        rw [e]
        exact hTup l (List.mem_of_getElem? hl) p hp, fun _ _ q hq p _ => (by (obtain rfl : q = 0 := by omega); exact Int.le_refl _), fun _ e => by omega, fun e => by omega, fun e => by omega⟩
      have hTat2 : ∀ p, p < N → ∃ q, q < ii ∧ rkl top p = rq l0 q p := fun p hp => by
        obtain ⟨l, hl, e⟩ := hTat p hp
        obtain ⟨q, hq⟩ := List.getElem?_of_mem hl
        have hqk := (List.getElem?_eq_some_iff.1 hq).1
        rw [hl0g.1] at hqk
        exact ⟨q, hqk, by rw [e]; unfold rq; rw [hq]; rfl⟩
      have HPN : Hid (∀ (r : Nat) (ls : List (List N3)), Ph ii N l0 top r ii ls → Ph ii N l0 top (r + 1) 0 ls) := fun r ls h => h.next hTat2
      have HPD : Hid (∀ (ls : List (List N3)), Ph ii N l0 top ii 0 ls → ∀ (q : Nat) (l : List N3), ls[q]? = some l → l = top) := fun ls h q l hq => h.done (by omega) hTb hTn hq
      have hlv2 := hlv.mono (R' := fun e w' => ∃ a c, e = .returned (.tuple #[.slice a N c, .int .i64 0]) ∧ RdN w' a top ∧ (∀ x, a = some x → wr.heap.size ≤ x.block) ∧ Below wr.heap.size wr w') (by
        rintro e w' ⟨v, rfl, hmd, hb⟩
        obtain ⟨a, c, rfl, hr, hn⟩ := hmd.rd' hTn
        exact ⟨a, c, rfl, hr, hn, hb⟩)
      clear hlv hTup hTat hTat2
      go_wp2_with (go_at_call 10; (with_reducible refine hlv2.mono ?_); rintro e W1 ⟨adT, capT, rfl, hT, hTn', hb1⟩)
      have hJ1 := hJ.carry hb1
      obtain ⟨S0, hS0⟩ : ∃ s, wr.heap.size = s := ⟨_, rfl⟩
      rw [hS0] at hTn'
      have HNE : Hid (∀ (q : Nat) x, B[q]? = some x → x.2.1 < S0) := fun q x hx => by rw [← hS0]; exact (hJ.bks.all q x hx).glt
      go_loopw [12] (fun r wz => ∃ (rr : Nat) (B2 : List (Nat × Nat × List N3)), r = .int .i64 rr ∧ rr ≤ ii ∧ B2.length = ii ∧ Ph ii N l0 top rr 0 (B2.map (·.2.2)) ∧ (∀ (q : Nat) x, B2[q]? = some x → x.2.1 < S0) ∧ JGo w ii B2 (.slice (some ⟨gB, 0, none⟩) ii cB) wz ∧ RdN wz adT top) (fun r _ => ii - vnatR r)
      case atStart => exact ⟨0, B, rfl, Nat.zero_le _, hBl, by rw [hl0]; exact hPh0, HNE.out, hJ1, hT⟩
      case round =>
        obtain ⟨rr, B2, rfl, hrK, hB2l, hPh, hNE, hJ2, hT2⟩ := hrel
        clear hPh0 hJ1 hT hJ hBg
        by_cases hrl : rr < ii
        · have hrli : (rr : Int) < (ii : Int) := by omega
          have HNE2 : Hid (∀ (q : Nat) x, B2[q]? = some x → x.2.1 < S0) := hNE
          go_wp2
          go_loopw [13] (fun i wz => ∃ (i2 : Nat) (B3 : List (Nat × Nat × List N3)), i = .int .i64 i2 ∧ i2 ≤ ii ∧ B3.length = ii ∧ Ph ii N l0 top rr i2 (B3.map (·.2.2)) ∧ (∀ (q : Nat) x, B3[q]? = some x → x.2.1 < S0) ∧ JGo w ii B3 (.slice (some ⟨gB, 0, none⟩) ii cB) wz ∧ RdN wz adT top) (fun i _ => ii - vnatR i)
          case atStart => exact ⟨0, B2, rfl, Nat.zero_le _, hB2l, hPh, hNE, hJ2, hT2⟩
          case round =>
            obtain ⟨i2, B3, rfl, hi2, hB3l, hPh3, hNE3, hJ3, hT3⟩ := hrel
            clear hPh hNE hJ2 hT2
            by_cases hi2l : i2 < ii
            · have hi2li : (i2 : Int) < (ii : Int) := by omega
              obtain ⟨j, hj⟩ : ∃ j, (i2 + 1) % ii = j := ⟨_, rfl⟩
              have hjK : j < ii := by rw [← hj]; exact Nat.mod_lt _ hK0
              obtain ⟨⟨pj, gj, lj⟩, hBj⟩ : ∃ x, B3[j]? = some x := ⟨_, List.getElem?_eq_getElem (by omega)⟩
              obtain ⟨⟨pi, gi, li⟩, hBi⟩ : ∃ x, B3[i2]? = some x := ⟨_, List.getElem?_eq_getElem (by omega)⟩
              have hlj : (B3.map (·.2.2))[j]? = some lj := by rw [List.getElem?_map, hBj]; rfl
              have hli' : (B3.map (·.2.2))[i2]? = some li := by rw [List.getElem?_map, hBi]; rfl
              have hgi := hPh3.gd.2 i2 li hli'
              have hgj := hPh3.gd.2 j lj hlj
              have hmap : (B3.set j (pj, gj, abs lj (j : Int) (li.filter pNew))).map pB = B3.map pB := map_set hBj
              have hTne : ∀ (q : Nat) x, B3[q]? = some x → top ≠ [] → ∀ a, adT = some a → a.block ≠ x.2.1 := fun q x hx _ a e => by
                have g1 := hTn' a e
                have g2 := hNE3 q x hx
                omega
              obtain ⟨nl, hnl⟩ : ∃ n, (li.filter pNew).length = n := ⟨_, rfl⟩
              have hnl2 : nl ≤ 1000000 := by have := List.length_filter_le pNew li; have := hgi.2.1; omega
              have HRI : Hid (∀ (V : World) (p g : Nat), Bk V p g li → Calls Try.prog 17 #[.pointer (some ⟨p, 0, none⟩)] V fun e w' => ∃ a c, e = .returned (.slice a nl c) ∧ RdN w' a (li.filter pNew) ∧ Below V.heap.size V w') := fun V p g hk => (ride_any hk (by have := hgi.2.1; omega) (by have := hgi.2.1; omega)).mono (by
                rintro e w' ⟨v, rfl, hmd, hb⟩
                obtain ⟨a, c, rfl, hr, _⟩ := hmd.rd' hnl
                exact ⟨a, c, rfl, hr, hb⟩)
              obtain ⟨R, hR⟩ : ∃ R, abr lj (j : Int) (li.filter pNew) = R := ⟨_, rfl⟩
              obtain ⟨E, hE⟩ : ∃ E, (if (li.filter pNew).all (vlx lj.length) = true then (0 : Int) else 50) = E := ⟨_, rfl⟩
              have HAB : Hid (∀ (V : World) (a : Option Addr) (c p g : Nat), Bk V p g lj → RdN V a (li.filter pNew) → Calls Try.prog 13 #[.pointer (some ⟨p, 0, none⟩), .int .i64 (j : Int), .slice a nl c] V fun e w' => e = .returned (.tuple #[sv R, .int .i64 E]) ∧ Bk w' p g (abs lj (j : Int) (li.filter pNew)) ∧ V.grownBy w' (some g)) := fun V a c p g hk hr => by
                have := absorb_any hk (j : Int) a c (li.filter pNew) hr (by rw [hnl]; exact hnl2)
                rw [hR, hE, hnl] at this
                exact this
              go_wp2
              rename_i Q0 K0 hK'
              refine wp_region_any hmx ?_
              refine wpAny_tabG (G := (Option Addr × Nat)) (fun g i__ => ([(.slice (some ⟨gB, 0, none⟩) ii cB), (.int .i64 (i2 : Int)), (.int .i64 ((i2 + 1 : Nat) : Int)), (.int .i64 (ii : Int)), (.int .i64 (j : Int)), (.pointer (some ⟨gB, j, none⟩)), (.pointer (some ⟨pj, 0, none⟩)), (.int .i64 (i2 : Int)), (.int .i64 ((i2 + 1 : Nat) : Int)), (.int .i64 (ii : Int)), (.int .i64 (j : Int)), (.slice (some ⟨gB, 0, none⟩) ii cB), (.int .i64 (i2 : Int)), (.pointer (some ⟨gB, i2, none⟩)), (.pointer (some ⟨pi, 0, none⟩)), (.slice g.1 nl g.2), (.tuple #[sv R, .int .i64 E])] : List Value).getD i__ undef) (fun g d V => JH w ii B3 (B3.set j (pj, gj, abs lj (j : Int) (li.filter pNew))) (.slice (some ⟨gB, 0, none⟩) ii cB) adT top (li.filter pNew) g (d 15) (d 16) V) (by kernel_rfl) ((none, 0)) (show JH w ii B3 _ _ adT top _ (none, 0) false false _ from ⟨hJ3.carry (Below.refl _ _).drew, hT3.carry (Below.refl _ _).drew, fun e => (by cases e)⟩) ?step1 ?fin1
              case step1 =>
                intro i o ho
                have hi : i < 17 := getElem?_lt ho
                match i, hi, ho with
                | 0, _, ho =>
                  cases ho
                  refine stepG_of (fun g d hdep => ?_)
                  exact step_move rfl trivial _ rfl (by kernel_rfl)
                | 1, _, ho =>
                  cases ho
                  refine stepG_of (fun g d hdep => ?_)
                  exact step_move rfl trivial _ rfl (by kernel_rfl)
                | 2, _, ho =>
                  cases ho
                  refine stepG_of (fun g d hdep => ?_)
                  exact step_binOp rfl trivial _ _ _ _ _ _ _ rfl rfl rfl (fun V hw => bin_addb i2 (by omega))
                | 3, _, ho =>
                  cases ho
                  refine stepG_of (fun g d hdep => ?_)
                  exact step_move rfl trivial _ rfl (by kernel_rfl)
                | 4, _, ho =>
                  cases ho
                  refine stepG_of (fun g d hdep => ?_)
                  exact step_binOp rfl trivial _ _ _ _ _ _ _ rfl rfl rfl (fun V hw => bin_remb _ _ _ hK0 hj)
                | 5, _, ho =>
                  cases ho
                  refine stepG_of (fun g d hdep => ?_)
                  exact step_indexAddr rfl trivial _ _ _ _ _ rfl rfl rfl (fun V hw => idx_pb gB ii cB j hjK V)
                | 6, _, ho =>
                  cases ho
                  refine stepG_of (fun g d hdep => ?_)
                  exact step_load rfl trivial _ _ _ rfl rfl (fun V hw => load_p (jh_cell hw hmap hB3l hBj))
                | 7, _, ho =>
                  cases ho
                  refine stepG_of (fun g d hdep => ?_)
                  exact step_move rfl trivial _ rfl (by kernel_rfl)
                | 8, _, ho =>
                  cases ho
                  refine stepG_of (fun g d hdep => ?_)
                  exact step_binOp rfl trivial _ _ _ _ _ _ _ rfl rfl rfl (fun V hw => bin_addb i2 (by omega))
                | 9, _, ho =>
                  cases ho
                  refine stepG_of (fun g d hdep => ?_)
                  exact step_move rfl trivial _ rfl (by kernel_rfl)
                | 10, _, ho =>
                  cases ho
                  refine stepG_of (fun g d hdep => ?_)
                  exact step_binOp rfl trivial _ _ _ _ _ _ _ rfl rfl rfl (fun V hw => bin_remb _ _ _ hK0 hj)
                | 11, _, ho =>
                  cases ho
                  refine stepG_of (fun g d hdep => ?_)
                  exact step_move rfl trivial _ rfl (by kernel_rfl)
                | 12, _, ho =>
                  cases ho
                  refine stepG_of (fun g d hdep => ?_)
                  exact step_move rfl trivial _ rfl (by kernel_rfl)
                | 13, _, ho =>
                  cases ho
                  refine stepG_of (fun g d hdep => ?_)
                  exact step_indexAddr rfl trivial _ _ _ _ _ rfl rfl rfl (fun V hw => idx_pb gB ii cB i2 hi2l V)
                | 14, _, ho =>
                  cases ho
                  refine stepG_of (fun g d hdep => ?_)
                  exact step_load rfl trivial _ _ _ rfl rfl (fun V hw => load_p (jh_cell hw hmap hB3l hBi))
                | 15, _, ho =>
                  cases ho
                  exact stepG_call rfl (fun _ => trivial) 17 _ _ (fun _ => [.pointer (some ⟨pi, 0, none⟩)]) rfl (fun g => by kernel_rfl) (enters_of Try.func17 (by kernel_rfl) rfl) (fun g d V hJ' hun hdep hcl => by have h16 : d 16 = false := (by cases h : d 16 with | false => rfl | true => exact absurd (hcl 16 _ rfl h 15 (by kernel_rfl)) (by rw [hun]; simp)); have hw := hJ'; rw [h16] at hw; exact (HRI.out V pi gi (hw.1.bks.get i2 hBi)).mono (by rintro e V' ⟨a, c, rfl, h1, h2⟩; refine ⟨(a, c), rfl, (fun j hj => match j, hj with | 15, hj => (by rw [hj] at hun; cases hun)  | 0, _ => rfl | 1, _ => rfl | 2, _ => rfl | 3, _ => rfl | 4, _ => rfl | 5, _ => rfl | 6, _ => rfl | 7, _ => rfl | 8, _ => rfl | 9, _ => rfl | 10, _ => rfl | 11, _ => rfl | 12, _ => rfl | 13, _ => rfl | 14, _ => rfl | 16, _ => rfl | _ + 17, _ => rfl), ?_⟩; show JH w ii B3 _ _ adT top _ _ true (d 16) V'; rw [h16]; exact ⟨hw.1.carry h2, hw.2.1.carry h2, fun _ => h1⟩))
                | 16, _, ho =>
                  cases ho
                  exact stepG_call rfl (fun _ => trivial) 13 _ _ (fun g => [.pointer (some ⟨pj, 0, none⟩), .int .i64 (j : Int), .slice g.1 nl g.2]) rfl (fun g => by kernel_rfl) (enters_of Try.func13 (by kernel_rfl) rfl) (fun g d V hJ' hun hdep hcl => by have h15 : d 15 = true := hdep 15 (by kernel_rfl); have hw := hJ'; rw [hun, h15] at hw; exact (HAB.out V g.1 g.2 pj gj (hw.1.bks.get j hBj) (hw.2.2 rfl)).mono (by rintro e V' ⟨rfl, h1, h2⟩; refine ⟨g, rfl, (fun _ _ => rfl), ?_⟩; show JH w ii B3 _ _ adT top _ _ (d 15) true V'; exact ⟨hw.1.turn hBj h1 h2, hw.2.1.turn h2 (hTne j _ hBj)⟩))
              intro g d W hall hW
              first | refine hK _ _ ?_ | refine (‹∀ (a : Act) (w : World), Code.wp Try.prog _ _ a w → _›) _ _ ?_ | skip
              simp only [finL, List.getD_cons_zero, List.getD_cons_succ, Nat.zero_add, Nat.reduceAdd, List.setIfInBounds_toArray, List.set_cons_zero, List.set_cons_succ]
              have hW' : JH w ii B3 (B3.set j (pj, gj, abs lj (j : Int) (li.filter pNew))) (.slice (some ⟨gB, 0, none⟩) ii cB) adT top (li.filter pNew) g (d 15) (d 16) W := hW
              rw [hall 16 (by decide)] at hW'
              go_wp2
              go_roundw
              case rel =>
                refine ⟨i2 + 1, B3.set j (pj, gj, abs lj (j : Int) (li.filter pNew)), by simp, by omega, by rw [List.length_set]; exact hB3l, ?_, fun q x hx => ?_, hW'.1, hW'.2⟩
                · rw [map_set2]
                  exact hPh3.step hi2l hN1 hN2 hj hlj hli'
                · by_cases e : q = j
                  · subst e
                    rw [List.getElem?_set_self (List.getElem?_eq_some_iff.1 hBj).1] at hx
                    cases hx
                    have hz := hNE3 _ _ hBj
                    exact hz
                  · rw [List.getElem?_set_ne (Ne.symm e)] at hx
                    exact hNE3 q x hx
              case measure => simp [vnatR]; omega
            · have hkk : i2 = ii := by omega
              subst hkk
              have hi2li : ¬ ((i2 : Int) < (i2 : Int)) := by omega
              go_wp2
              go_roundw
              case rel => exact ⟨rr + 1, B3, by simp, by omega, hB3l, HPN.out rr _ hPh3, hNE3, hJ3, hT3⟩
              case measure => simp [vnatR]; omega
        · have hkk : rr = ii := by omega
          subst hkk
          have hrli : ¬ ((rr : Int) < (rr : Int)) := by omega
          have HEQ : Hid (∀ (q : Nat) x, B2[q]? = some x → x.2.2 = top) := fun q x hx => HPD.out _ hPh q _ (by rw [List.getElem?_map, hx]; rfl)
          go_wp2
          go_loopw [14] (fun q wz => ∃ (qq : Nat), q = .int .i64 qq ∧ qq ≤ rr ∧ JGo w rr B2 (.slice (some ⟨gB, 0, none⟩) rr cB) wz ∧ RdN wz adT top) (fun q _ => rr - vnatR q)
          case atStart => exact ⟨0, rfl, Nat.zero_le _, hJ2, hT2⟩
          case round =>
            obtain ⟨qq, rfl, hqr, hJ4, hT4⟩ := hrel
            clear hJ2 hT2 hPh
            by_cases hql : qq < rr
            · have hqli : (qq : Int) < (rr : Int) := by omega
              obtain ⟨⟨px, gx, lx⟩, hBx⟩ : ∃ x, B2[qq]? = some x := ⟨_, List.getElem?_eq_getElem (by omega)⟩
              have hex : lx = top := HEQ.out qq _ hBx
              subst hex
              obtain ⟨_, _, e4, hc4⟩ := hJ4.at hB2l
              cases e4
              obtain ⟨_, e5, _, hc5⟩ := hc4 (fun e => by rw [e] at hBx; simp at hBx)
              cases e5
              have hcx := hc5 qq _ hBx
              unfold pB at hcx
              dsimp only at hcx
              clear hc5 hc4
              have hls := blist_any (hJ4.bks.get qq hBx) (by omega) (by omega)
              rw [filter_all] at hls
              have hls2 := hls.mono (R' := fun e w' => ∃ a c, e = .returned (.slice a N c) ∧ RdN w' a lx ∧ Below wr.heap.size wr w') (by
                rintro e w' ⟨v, rfl, hmd, hb⟩
                obtain ⟨a, c, rfl, hr, _⟩ := hmd.rd' hTn
                exact ⟨a, c, rfl, hr, hb⟩)
              clear hls
              go_wp2_with (first
                | (have m := hsm; go_at_call 18; (with_reducible refine hsm.mono ?_); rintro e z2 ⟨rfl, hz2'⟩)
                | (go_at_call 19; (with_reducible refine hls2.mono ?_); rintro e z1 ⟨aL, cL, rfl, hrL, hz1'⟩; have hsm := same_any aL adT cL capT lx z1 hrL (hT4.carry hz1') (by omega); rw [hTn] at hsm))
              go_roundw
              case rel => exact ⟨qq + 1, by simp, by omega, hJ4.carry (bel2 hz1' hz2'), hT4.carry (bel2 hz1' hz2')⟩
              case measure => simp [vnatR]; omega
            · have hkk : qq = rr := by omega
              subst hkk
              have hqli : ¬ ((qq : Int) < (qq : Int)) := by omega
              have k0 := hal wr
              go_wp2_with (go_at_call 8; (with_reducible refine k0.mono ?_); rintro e z1 ⟨rfl, hz1'⟩)
              go_ret
              exact ⟨by simp, bel2 hJ4.bks.below hz1'⟩

set_option maxRecDepth 100000 in
theorem lifted (os : Os) (started : os.Started) (H : Type) (enc : TypeId × Value → H) :
    ReturnsInHanded {} Try.checked os 6 .any (Rows.spreadGossipSpec.pre6 enc Try.prog Try.f6 Rows.spreadGossipRow.domain false) (Rows.spreadGossipSpec.post enc Try.prog Try.f6 false true false false) := by
  refine returnsInHanded_of_change (C := Try.checked) own started (by kernel_rfl) Try.func6
    (ChangeSpec.witness6 (enc := enc) (C := Try.checked) false ⟨#[], #[.int .i64 0, .slice none 0 0], []⟩ 8 (by kernel_rfl) (by kernel_rfl) (by kernel_rfl) (by kernel_rfl)) ?_
  intro W base args ds gs before hval0 hW hcnd _
  have hval : ∀ (j : Nat) t v, Try.f6.params[j]? = some t → args[j]? = some v → Value.okWide Try.prog W .any base t v := hval0
  have hW' := hW
  obtain ⟨p, q, hA0, hV, rfl, hfz, hnd⟩ := hW
  have hA : DataW.TrodAll enc Try.prog W 0 (fun _ => true) true Try.f6.params.toList args.toList ds p := hA0
  rw [Try.params6] at hA hval
  obtain ⟨v0, vs0, d0, ds0, p0, q0, hargs, rfl, rfl, h0, r0⟩ := trodAll_cons hA
  obtain ⟨v1, vs1, d1, ds1, p1, q1, rfl, rfl, rfl, h1, r1⟩ := trodAll_cons r0
  obtain ⟨rfl, rfl, rfl⟩ := trodAll_nil r1
  obtain rfl : args = #[v0, v1] := by cases args; simp_all
  obtain ⟨rfl, rfl⟩ := trodVars_none hV
  obtain ⟨a0, rfl, rfl, rfl, w0⟩ := open_int Try.underlying3 (hval 0 3 v0 rfl rfl) h0
  have k1 := h1
  have lt1 : ∀ x ∈ p1, x.block < W.heap.size := by obtain ⟨m, hm⟩ := k1; exact DataW.trod_lt m _ _ _ hm
  obtain ⟨ad1, cap1, l1, rfl, w1⟩ := open_ntss (hval 1 44 v1 rfl rfl) h1
  clear hA0 hval0
  refine (walk W a0 w0 ad1 cap1 l1 w1).mono fun e W' ⟨he, hg⟩ => ?_
  subst he
  exact ⟨_, rfl, _, _, _, [], _, [], hW', (trodAll_cons_mk (shut_bool Try.underlying4 _) trodAll_mk0), (trodAll_cons_mk (shut_int Try.underlying3 w0) (trodAll_cons_mk (Below.trod laidOut (by kernel_rfl) (of_decide_eq_true (by kernel_rfl)) k1 hg lt1) trodAll_mk0)), rfl, hg.frame _, fun h => by cases h⟩

theorem over : Rows.spreadGossipRow.holds Try.pinned (OpenSpec.ofChange Rows.spreadGossipSpec) :=
  OpenClaim.holds_of_wide 6 Try.f6 rfl rfl rfl rfl rfl rfl rfl ⟨rfl, rfl, rfl, rfl, rfl⟩ rfl rfl rfl rfl rfl (by kernel_rfl) Try.func6 (by kernel_rfl)
    (of_decide_eq_true (by kernel_rfl)) (by unfold Func.isWrapper; first | (rw [if_pos (by decide +kernel)]; kernel_rfl) | (rw [if_neg (by decide +kernel)]; exact ⟨rfl, rfl⟩))
    (fun os started H enc _ => lifted os started H enc)

theorem proved : Rows.SpreadGossipSaid :=
  over
#print axioms proved
end Go.Proofs.Ytddblfffjhoiaaa
