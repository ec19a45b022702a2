/- The statements' lives: what they answer. -/
import Derived.Test.YtjleggnkacmbbaaBti
import Derived.Test.YtjleggnkacmbbaaBtf
import Derived.Test.YtjleggnkacmbbaaOpf
namespace Go.Proofs.Ytjleggnkacmbbaa
open Go.RowKit Go.Shelf Go.Lib

theorem bounds_hi {a : Int} (h : (Lit.int .i64 a).wf = true) : a ≤ 9223372036854775807 := by
  simp only [Lit.wf, Bool.and_eq_true, decide_eq_true_eq] at h
  have h2 : IntKind.i64.max = 9223372036854775807 := rfl
  omega
/-- Ahead of the m-th life. -/
def OutR (w : World) (m : Nat) (R T : Int) (V : World) : Prop := ∃ (n : Nat) (r : Rec) (d : Dst), Sd0 d n r ∧ n ≤ 200 * m ∧ 0 ≤ d.writes ∧ d.writes ≤ 400 * (m : Int) ∧ r.li ≤ (m : Int) ∧ R ≤ r.ro ∧ T ≤ r.ta ∧ Dk V w.heap.size d ∧ Below w.heap.size w V
/-- In the m-th life, ahead of its k-th round. -/
def InR (w : World) (q m k : Nat) (R T : Int) (V : World) : Prop := ∃ (n : Nat) (b : Bo) (d : Dst), Lv d n b ∧ n ≤ 200 * m + 1 + 2 * k ∧ 0 ≤ d.writes ∧ d.writes ≤ 400 * (m : Int) + 2 + 4 * (k : Int) ∧ b.r.li ≤ (m : Int) + 1 ∧ R ≤ b.ro ∧ T ≤ b.ta ∧ Dk V w.heap.size d ∧ Bt V q (some ⟨w.heap.size, 0, none⟩) b ∧ Below w.heap.size w V
theorem out_of {w V : World} {n m : Nat} {R T : Int} {b : Bo} {d : Dst} (h : Lv d n b) (hn : n ≤ 200 * m + 200) (h0 : 0 ≤ d.writes) (hw : d.writes ≤ 400 * (m : Int) + 400) (hl : b.r.li ≤ (m : Int) + 1) (hR : R ≤ b.ro) (hT : T ≤ b.ta) (hd : Dk V w.heap.size d) (hb : Below w.heap.size w V) : OutR w (m + 1) R T V := by
  have h1 := h.ro
  have h2 := h.ta
  exact ⟨n, b.r, d, h.sd, by omega, h0, by omega, by omega, by omega, by omega, hd, hb⟩
theorem stepG_ofC {G : Type} {P : Program} {md : Region.Mode} {ops : Array Oper} {Q : Exit → Act → World → Prop} {X0 : Array Value} {val : G → Nat → Value} {J : G → (Nat → Bool) → World → Prop} {i : Nat} {o : Oper}
    (h : ∀ g d, d i = false → (∀ j, bindsOn md o j = true → d j = true) → (∀ j oj, ops[j]? = some oj → d j = true → ∀ k, bindsOn md oj k = true → d k = true) → StepAt P md ops Q X0 (val g) (J g d) (J g (fun j => if j = i then true else d j)) i o) : StepG P md ops Q X0 val J i o := by
  intro g d a w hJ hun hdep hcl hS
  exact wpOp_mono (fun a' w' hq => ⟨g, fun _ _ => rfl, hq.1, hq.2⟩) (h g d hun hdep hcl a w hJ hS)
/-- A Boot and its disk, the list below. -/
def JL2 (w : World) (q : Nat) (b : Bo) (d : Dst) (V : World) : Prop := Bt V q (some ⟨w.heap.size, 0, none⟩) b ∧ Dk V w.heap.size d ∧ Below w.heap.size w V
theorem JL2.carry {w V V' : World} {q : Nat} {b : Bo} {d : Dst} (h : JL2 w q b d V) (hb : Below V.heap.size V V') : JL2 w q b d V' := ⟨h.1.carry hb, h.2.1.carry hb, h.2.2.trans (hb.mono h.2.2.size)⟩
theorem idx_lf {W : World} {b off m n cap : Nat} (h : m < n) : (Instr.indexAt 22 (.slice (some ⟨b, off, none⟩) n cap) (.int .i64 (m : Int))).run Try.prog W = .ok (.pointer (some ⟨b, off + m * 3, none⟩)) W := by
  have h1 : (m : Int) < (n : Int) := by omega
  go_simp
theorem fld_lf (W : World) (b o : Nat) : (Instr.fieldAt 44 (.pointer (some ⟨b, o, none⟩)) 2).run Try.prog W = .ok (.pointer (some ⟨b, o + 2, none⟩)) W := by go_simp
set_option maxHeartbeats 40000000 in
set_option maxRecDepth 100000 in
theorem lives_any (w : World) (ad : Option Addr) (cap : Nat) (l : List Lf) (w1 : RdL w w.heap.size ad l) (hl : l.length ≤ 30) (what : Int) : Calls Try.prog 10 #[.slice ad l.length cap, .int .i64 what] w fun e w' => e = .returned (.bool true) ∧ Below w.heap.size w w' := by
  have hmx : Try.prog.follows .mixedOrders = true := by kernel_rfl
  have hnew := dnew_any w
  go_enter Try.func10, Try.ntmps10
  go_wp2_with (go_at_call 11; (with_reducible refine hnew.mono ?_); rintro e va ⟨rfl, hDa, hlta, hBa⟩)
  go_loopw [6, 7, 8] (fun ro ta i wz => ∃ (m : Nat) (R T : Int), ro = .int .i64 R ∧ ta = .int .i64 T ∧ i = .int .i64 (m : Int) ∧ m ≤ l.length ∧ OutR w m R T wz) (fun _ _ i _ => l.length - vnat i)
  case atStart => exact ⟨0, 0, 0, rfl, rfl, rfl, Nat.zero_le _, 0, rec0, d0, Sd0.zero, by omega, by decide, by decide, by decide, by decide, by decide, hDa, hBa⟩
  case round =>
    obtain ⟨m, R, T, rfl, rfl, rfl, hm, n, r, d, hs, hn, hw0, hwr, hli, hR, hT, hD, hB⟩ := hrel
    by_cases hml : m < l.length
    case neg =>
      have hmi : ¬ (m : Int) < (l.length : Int) := by omega
      go_wp2
      go_ret
      exact ⟨rfl, hB⟩
    have hmi : (m : Int) < (l.length : Int) := by omega
    obtain ⟨o, hx⟩ : ∃ o, l[m]? = some o := ⟨_, List.getElem?_eq_getElem hml⟩
    obtain ⟨bo, offo, e1, hbl, hop, hwf, hwf2, hwf3⟩ := w1 m o hx
    subst e1
    obtain ⟨lf, lg, y⟩ := o
    have hfb := bounds_hi hwf
    dsimp only at hfb
    have HOP : Hid (LfAt w bo (offo + m * 3) ⟨lf, lg, y⟩) := hop
    obtain ⟨x0, x1, x2⟩ := hop.carry hB hbl
    dsimp only at x0 x1 x2
    have hre := restore_any hD
    have hs2 := hs.fuse hfb
    have hoff : (dFuse { d with off := false } lf).off = false := rfl
    have hwr2 : (dFuse { d with off := false } lf).writes = d.writes := rfl
    have hfu : ∀ V, Dk V w.heap.size { d with off := false } → Calls Try.prog 20 #[.pointer (some ⟨w.heap.size, 0, none⟩), .int .i64 lf] V fun e w' => e = .returned (.tuple #[]) ∧ Dk w' w.heap.size (dFuse { d with off := false } lf) ∧ Tp w.heap.size V w' := fun V hV => fuse_any hV lf
    obtain ⟨D2, hD2e⟩ : ∃ D2, dFuse { d with off := false } lf = D2 := ⟨_, rfl⟩
    rw [hD2e] at hs2 hoff hwr2 hfu
    clear hD2e
    have hpn := hs2.open hoff (by omega) (by omega)
    have hpo := fun V (hV : Dk V w.heap.size D2) => open_any hV hs2.fz (by omega) (by omega)
    obtain ⟨E, hE⟩ : ∃ E, (dOp D2).e = E := ⟨_, rfl⟩
    obtain ⟨D3, hD3e⟩ : ∃ D3, (dOp D2).d = D3 := ⟨_, rfl⟩
    obtain ⟨b, hbe⟩ : ∃ b, (dOp D2).b = b := ⟨_, rfl⟩
    rw [hE, hD3e, hbe] at hpn hpo
    clear hE hD3e hbe
    clear hx hop hwf hwf2 hwf3
    rcases hpn with ⟨rfl, hlv, hli3, hro3, hta3, hwr3⟩ | ⟨rfl, hs3, hwr3, hwr4⟩
    case inr =>
      have hpq : ∀ V, Dk V w.heap.size D2 → Calls Try.prog 12 #[.pointer (some ⟨w.heap.size, 0, none⟩)] V fun e w' => e = .returned (.tuple #[.pointer none, .int .i64 100]) ∧ Dk w' w.heap.size D3 ∧ Tp w.heap.size V w' := fun V hV => (hpo V hV).mono (by rintro e w' ⟨_, h2, h3, h4⟩; exact ⟨h2 (by decide), h3, h4⟩)
      clear hpo
      go_wp2_with (first | (go_at_call 19; (with_reducible refine hre.mono ?_); rintro e v1 ⟨rfl, hD1, hT1⟩; have hB1 := hB.trans (hT1.below (Nat.le_refl _) hB.size); obtain ⟨y0, y1, y2⟩ := HOP.out.carry hB1 hbl; dsimp only at y0 y1 y2; have hfv := hfu _ hD1) | (go_at_call 20; (with_reducible refine hfv.mono ?_); rintro e v2 ⟨rfl, hD2, hT2⟩; have hB2 := hB1.trans (hT2.below (Nat.le_refl _) hB1.size); have hpv := hpq _ hD2) | (go_at_call 12; (with_reducible refine hpv.mono ?_); rintro e v3 ⟨rfl, hD3, hT3⟩; have hB3 := hB2.trans (hT3.below (Nat.le_refl _) hB2.size)))
      go_roundw
      case rel => exact ⟨m + 1, R, T, rfl, rfl, by simp, by omega, n, r, D3, hs3, by omega, by omega, by omega, by omega, hR, hT, hD3, hB3⟩
      case measure => simp [vnat]; omega
    have hpq : ∀ V, Dk V w.heap.size D2 → Calls Try.prog 12 #[.pointer (some ⟨w.heap.size, 0, none⟩)] V fun e w' => ∃ q, e = .returned (.tuple #[.pointer (some ⟨q, 0, none⟩), .int .i64 0]) ∧ V.heap.size ≤ q ∧ Bt w' q (some ⟨w.heap.size, 0, none⟩) b ∧ Dk w' w.heap.size D3 ∧ Tp w.heap.size V w' := fun V hV => (hpo V hV).mono (by rintro e w' ⟨h1, _, h3, h4⟩; obtain ⟨q, rfl, hq, hb⟩ := h1 rfl; exact ⟨q, rfl, hq, hb, h3, h4⟩)
    clear hpo
    have hmx1 : T ≤ b.ta := by omega
    go_wp2_with (first | (go_at_call 19; (with_reducible refine hre.mono ?_); rintro e v1 ⟨rfl, hD1, hT1⟩; have hB1 := hB.trans (hT1.below (Nat.le_refl _) hB.size); obtain ⟨y0, y1, y2⟩ := HOP.out.carry hB1 hbl; dsimp only at y0 y1 y2; have hfv := hfu _ hD1) | (go_at_call 20; (with_reducible refine hfv.mono ?_); rintro e v2 ⟨rfl, hD2, hT2⟩; have hB2 := hB1.trans (hT2.below (Nat.le_refl _) hB1.size); have hpv := hpq _ hD2) | (go_at_call 12; (with_reducible refine hpv.mono ?_); rintro e v3 ⟨q, rfl, hq3, hb3, hD3, hT3⟩; have hB3 := hB2.trans (hT3.below (Nat.le_refl _) hB2.size); have hlk := look_any hb3 hD3 hlv R T (by omega) (by omega) what) | (go_at_call 21; (with_reducible refine hlk.mono ?_); rintro e v4 ⟨rfl, hu4⟩; have hb4 := hb3.carry hu4; have hD4 := hD3.carry hu4; have hB4 := hB3.trans (hu4.mono hB3.size); have htg := btag_any hb4) | (go_at_call 16; (with_reducible refine htg.mono ?_); rintro e v5 ⟨rfl, hu5⟩; obtain rfl := hu5.symm))
    · have hqq : w.heap.size ≤ q := by have := hB2.size; omega
      clear hre hfu hpq hfv hpv hlk htg hD1 hT1 hB1 hD2 hT2 hB2 hT3 hB3 hu4 hb3 hD3 hD hB hs hs2 x0 x1 x2 y0 y1 y2
      go_loopw [6, 7, 11] (fun ro ta i wz => ∃ (k : Nat) (R' T' : Int), ro = .int .i64 R' ∧ ta = .int .i64 T' ∧ i = .int .i64 (k : Int) ∧ k ≤ 60 ∧ InR w q m k R' T' wz) (fun _ _ i _ => 60 - vnat i)
      case atStart => exact ⟨0, R, _, rfl, rfl, rfl, by omega, n + 1, b, D3, hlv, by omega, by omega, by omega, by omega, by omega, by omega, hD4, hb4, hB4⟩
      case round =>
        clear hb4 hD4 hB4 hlv hli3 hro3 hta3 hwr3 hmx1 hwr2 hoff b D3 D2
        obtain ⟨k, R', T', rfl, rfl, rfl, hk, n1, b, d, hv, hn1, hw1, hw2, hli1, hR1, hT1, hD1, hb1, hB1⟩ := hrel
        obtain ⟨z0, z1, z2⟩ := HOP.out.carry hB1 hbl
        dsimp only at z0 z1 z2
        by_cases hkg : (k : Int) < lg
        case neg =>
          go_wp2
          go_roundw
          case rel => exact ⟨m + 1, R', T', rfl, rfl, by simp, by omega, out_of hv (by omega) hw1 (by omega) hli1 hR1 hT1 hD1 hB1⟩
          case measure => simp [vnat]; omega
        by_cases hk60 : k < 60
        case neg =>
          have hk60i : ¬ (k : Int) < 60 := by omega
          go_wp2
          go_roundw
          case rel => exact ⟨m + 1, R', T', rfl, rfl, by simp, by omega, out_of hv (by omega) hw1 (by omega) hli1 hR1 hT1 hD1 hB1⟩
          case measure => simp [vnat]; omega
        have hk60i : (k : Int) < 60 := by omega
        have hnx := next_any hb1 hD1 hv.ok hv.fz hw1 (by omega)
        obtain ⟨n2, hn2, hn3, hv2, hw3, hw4, hli2, hcase⟩ := hv.next (by omega)
        obtain ⟨X, hX⟩ : ∃ X, (dNx d b).x = X := ⟨_, rfl⟩
        obtain ⟨E, hE⟩ : ∃ E, (dNx d b).e = E := ⟨_, rfl⟩
        obtain ⟨d1, hd1e⟩ : ∃ d1, (dNx d b).d = d1 := ⟨_, rfl⟩
        obtain ⟨b1, hb1e⟩ : ∃ b1, (dNx d b).b = b1 := ⟨_, rfl⟩
        simp only [hX, hE, hd1e, hb1e] at hnx hcase hv2 hw3 hw4 hli2
        clear hX hE hd1e hb1e
        rcases hcase with ⟨rfl, rfl, hro2, hta2⟩ | ⟨hE0, rfl⟩
        case inr =>
          go_wp2_with (go_at_call 13; (with_reducible refine hnx.mono ?_); rintro e v1 ⟨rfl, hD2, hb2, ht2⟩; have hB2 := hB1.trans (ht2.below (Nat.le_refl _) hqq hB1.size))
          go_roundw
          case rel => exact ⟨m + 1, R', T', rfl, rfl, by simp, by omega, out_of hv2 (by omega) (by omega) (by omega) (by omega) hR1 hT1 hD2 hB2⟩
          case measure => simp [vnat]; omega
        have hrle : ¬ b.ro + 1 ≤ R' := by omega
        obtain ⟨z0, hz0⟩ := hv2.ok
        by_cases hh : 0 < y
        case neg =>
          go_wp2_with (go_at_call 13; (with_reducible refine hnx.mono ?_); rintro e v1 ⟨rfl, hD2, hb2, ht2⟩; have hj2 : JL2 w q b1 d1 v1 := ⟨hb2, hD2, hB1.trans (ht2.below (Nat.le_refl _) hqq hB1.size)⟩)
          rename_i hK
          refine wp_region_any hmx ?_
          refine wpAny_tabG (G := Unit) (fun g i__ => ([(.slice (some ⟨bo, offo, none⟩) l.length cap), (.int .i64 (m : Int)), (.pointer (some ⟨bo, offo + m * 3, none⟩)), (.pointer (some ⟨bo, offo + m * 3 + 2, none⟩)), (.int .i64 y), (.bool false), (.bool false), undef, undef, undef, (.bool false), (.bool false), undef, undef, undef, undef, undef, undef, undef, undef, undef, undef, undef, undef, (.bool false)] : List Value).getD i__ undef) (fun g f V => JL2 w q b1 d1 V) (by kernel_rfl) (()) (show JL2 w q b1 d1 _ from hj2.carry (Below.refl _ _).drew) ?step1 ?fin1
          case step1 =>
            intro i o ho
            have hi : i < 25 := getElem?_lt ho
            match i, hi, ho with
            | 0, _, ho =>
              cases ho
              refine stepG_of (fun g d hdep => ?_)
              exact step_move rfl trivial _ rfl (by kernel_rfl)
            | 1, _, ho =>
              cases ho
              refine stepG_of (fun g d hdep => ?_)
              exact step_move rfl trivial _ rfl (by kernel_rfl)
            | 2, _, ho =>
              cases ho
              refine stepG_of (fun g d hdep => ?_)
              exact step_indexAddr rfl trivial _ _ _ _ _ rfl rfl rfl (fun v hw => idx_lf hml)
            | 3, _, ho =>
              cases ho
              refine stepG_of (fun g d hdep => ?_)
              exact step_fieldAddr rfl trivial _ _ _ _ rfl rfl (fun v hw => fld_lf v _ _)
            | 4, _, ho =>
              cases ho
              refine stepG_of (fun g d hdep => ?_)
              exact step_load rfl trivial _ _ _ rfl rfl (fun v hw => load_i64 (HOP.out.carry hw.2.2 hbl).2.2)
            | 5, _, ho =>
              cases ho
              refine stepG_of (fun g d hdep => ?_)
              exact step_binOp rfl trivial _ _ _ _ _ _ _ rfl rfl rfl (fun v hw => by have e1 : decide (y > 0) = false := decide_eq_false (by omega); rw [← e1]; exact bin_gtr _ _ _)
            | 6, _, ho =>
              cases ho
              refine stepG_of (fun g d hdep => ?_)
              exact step_move rfl trivial _ rfl (by kernel_rfl)
            | 7, _, ho =>
              cases ho
              refine stepG_of (fun g d hdep => ?_)
              exact step_skip rfl 6 true 80 (.bool false) rfl rfl (by kernel_rfl) (by intro h; cases h) rfl
            | 8, _, ho =>
              cases ho
              refine stepG_of (fun g d hdep => ?_)
              exact step_skip rfl 6 true 80 (.bool false) rfl rfl (by kernel_rfl) (by intro h; cases h) rfl
            | 9, _, ho =>
              cases ho
              refine stepG_of (fun g d hdep => ?_)
              exact step_skip rfl 6 true 80 (.bool false) rfl rfl (by kernel_rfl) (by intro h; cases h) rfl
            | 10, _, ho =>
              cases ho
              refine stepG_of (fun g d hdep => ?_)
              exact step_pick rfl trivial _ _ _ false rfl (by kernel_rfl) (by kernel_rfl)
            | 11, _, ho =>
              cases ho
              refine stepG_of (fun g d hdep => ?_)
              exact step_move rfl trivial _ rfl (by kernel_rfl)
            | 12, _, ho =>
              cases ho
              refine stepG_of (fun g d hdep => ?_)
              exact step_skip rfl 11 true 85 (.bool false) rfl rfl (by kernel_rfl) (by intro h; cases h) rfl
            | 13, _, ho =>
              cases ho
              refine stepG_of (fun g d hdep => ?_)
              exact step_skip rfl 11 true 85 (.bool false) rfl rfl (by kernel_rfl) (by intro h; cases h) rfl
            | 14, _, ho =>
              cases ho
              refine stepG_of (fun g d hdep => ?_)
              exact step_skip rfl 11 true 85 (.bool false) rfl rfl (by kernel_rfl) (by intro h; cases h) rfl
            | 15, _, ho =>
              cases ho
              refine stepG_of (fun g d hdep => ?_)
              exact step_skip rfl 11 true 85 (.bool false) rfl rfl (by kernel_rfl) (by intro h; cases h) rfl
            | 16, _, ho =>
              cases ho
              refine stepG_of (fun g d hdep => ?_)
              exact step_skip rfl 11 true 85 (.bool false) rfl rfl (by kernel_rfl) (by intro h; cases h) rfl
            | 17, _, ho =>
              cases ho
              refine stepG_of (fun g d hdep => ?_)
              exact step_skip rfl 11 true 85 (.bool false) rfl rfl (by kernel_rfl) (by intro h; cases h) rfl
            | 18, _, ho =>
              cases ho
              refine stepG_of (fun g d hdep => ?_)
              exact step_skip rfl 11 true 85 (.bool false) rfl rfl (by kernel_rfl) (by intro h; cases h) rfl
            | 19, _, ho =>
              cases ho
              refine stepG_of (fun g d hdep => ?_)
              exact step_skip rfl 11 true 85 (.bool false) rfl rfl (by kernel_rfl) (by intro h; cases h) rfl
            | 20, _, ho =>
              cases ho
              refine stepG_of (fun g d hdep => ?_)
              exact step_skip rfl 11 true 85 (.bool false) rfl rfl (by kernel_rfl) (by intro h; cases h) rfl
            | 21, _, ho =>
              cases ho
              refine stepG_of (fun g d hdep => ?_)
              exact step_skip rfl 11 true 85 (.bool false) rfl rfl (by kernel_rfl) (by intro h; cases h) rfl
            | 22, _, ho =>
              cases ho
              refine stepG_of (fun g d hdep => ?_)
              exact step_skip rfl 11 true 85 (.bool false) rfl rfl (by kernel_rfl) (by intro h; cases h) rfl
            | 23, _, ho =>
              cases ho
              refine stepG_of (fun g d hdep => ?_)
              exact step_skip rfl 11 true 85 (.bool false) rfl rfl (by kernel_rfl) (by intro h; cases h) rfl
            | 24, _, ho =>
              cases ho
              refine stepG_of (fun g d hdep => ?_)
              exact step_pick rfl trivial _ _ _ false rfl (by kernel_rfl) (by kernel_rfl)
          intro g d W hall hW
          first | refine hK _ _ ?_ | refine (‹∀ (a : Act) (w : World), Code.wp Try.prog _ _ a w → _›) _ _ ?_ | skip
          simp only [finL, List.getD_cons_zero, List.getD_cons_succ, Nat.zero_add, Nat.reduceAdd, List.setIfInBounds_toArray, List.set_cons_zero, List.set_cons_succ]
          clear hK
          have hW2 := hW
          clear hW hj2
          have hlk2 := look_any hW2.1 hW2.2.1 hv2 (b.ro + 1) T' (by omega) (by omega) what
          go_wp2_with (go_at_call 21; (with_reducible refine hlk2.mono ?_); rintro e v9 ⟨rfl, hu9⟩)
          go_roundw
          case rel => exact ⟨k + 1, b.ro + 1, T', rfl, rfl, by simp, by omega, n2, b1, d1, hv2, by omega, by omega, by omega, by omega, by omega, by omega, hW2.2.1.carry hu9, hW2.1.carry hu9, hW2.2.2.trans (hu9.mono hW2.2.2.size)⟩
          case measure => simp [vnat]; omega
        obtain ⟨N, hN⟩ := Int.eq_ofNat_of_zero_le (show 0 ≤ y by omega)
        by_cases hk3 : k % 3 = 0
        case neg =>
          go_wp2_with (go_at_call 13; (with_reducible refine hnx.mono ?_); rintro e v1 ⟨rfl, hD2, hb2, ht2⟩; have hj2 : JL2 w q b1 d1 v1 := ⟨hb2, hD2, hB1.trans (ht2.below (Nat.le_refl _) hqq hB1.size)⟩)
          rename_i hK
          refine wp_region_any hmx ?_
          refine wpAny_tabG (G := Unit) (fun g i__ => ([(.slice (some ⟨bo, offo, none⟩) l.length cap), (.int .i64 (m : Int)), (.pointer (some ⟨bo, offo + m * 3, none⟩)), (.pointer (some ⟨bo, offo + m * 3 + 2, none⟩)), (.int .i64 y), (.bool true), (.bool true), (.int .i64 (k : Int)), (.int .i64 ((k % 3 : Nat) : Int)), (.bool false), (.bool false), (.bool false), undef, undef, undef, undef, undef, undef, undef, undef, undef, undef, undef, undef, (.bool false)] : List Value).getD i__ undef) (fun g f V => JL2 w q b1 d1 V) (by kernel_rfl) (()) (show JL2 w q b1 d1 _ from hj2.carry (Below.refl _ _).drew) ?step2 ?fin2
          case step2 =>
            intro i o ho
            have hi : i < 25 := getElem?_lt ho
            match i, hi, ho with
            | 0, _, ho =>
              cases ho
              refine stepG_of (fun g d hdep => ?_)
              exact step_move rfl trivial _ rfl (by kernel_rfl)
            | 1, _, ho =>
              cases ho
              refine stepG_of (fun g d hdep => ?_)
              exact step_move rfl trivial _ rfl (by kernel_rfl)
            | 2, _, ho =>
              cases ho
              refine stepG_of (fun g d hdep => ?_)
              exact step_indexAddr rfl trivial _ _ _ _ _ rfl rfl rfl (fun v hw => idx_lf hml)
            | 3, _, ho =>
              cases ho
              refine stepG_of (fun g d hdep => ?_)
              exact step_fieldAddr rfl trivial _ _ _ _ rfl rfl (fun v hw => fld_lf v _ _)
            | 4, _, ho =>
              cases ho
              refine stepG_of (fun g d hdep => ?_)
              exact step_load rfl trivial _ _ _ rfl rfl (fun v hw => load_i64 (HOP.out.carry hw.2.2 hbl).2.2)
            | 5, _, ho =>
              cases ho
              refine stepG_of (fun g d hdep => ?_)
              exact step_binOp rfl trivial _ _ _ _ _ _ _ rfl rfl rfl (fun v hw => by have e1 : decide (y > 0) = true := decide_eq_true (by omega); rw [← e1]; exact bin_gtr _ _ _)
            | 6, _, ho =>
              cases ho
              refine stepG_of (fun g d hdep => ?_)
              exact step_move rfl trivial _ rfl (by kernel_rfl)
            | 7, _, ho =>
              cases ho
              refine stepG_of (fun g d hdep => ?_)
              exact step_move rfl (by exact ⟨_, rfl, by kernel_rfl⟩) _ rfl (by kernel_rfl)
            | 8, _, ho =>
              cases ho
              refine stepG_of (fun g d hdep => ?_)
              exact step_binOp rfl (by exact ⟨_, rfl, by kernel_rfl⟩) _ _ _ _ _ _ _ rfl rfl rfl (fun v hw => bin_rem64 k 3 (by omega))
            | 9, _, ho =>
              cases ho
              refine stepG_of (fun g d hdep => ?_)
              exact step_binOp rfl (by exact ⟨_, rfl, by kernel_rfl⟩) _ _ _ _ _ _ _ rfl rfl rfl (fun v hw => by have e1 : (((k % 3 : Nat) : Int) == 0) = false := beq_eq_false_iff_ne.2 (by omega); rw [← e1]; exact bin_eql _ _ _)
            | 10, _, ho =>
              cases ho
              refine stepG_of (fun g d hdep => ?_)
              exact step_pick rfl trivial _ _ _ true rfl (by kernel_rfl) (by kernel_rfl)
            | 11, _, ho =>
              cases ho
              refine stepG_of (fun g d hdep => ?_)
              exact step_move rfl trivial _ rfl (by kernel_rfl)
            | 12, _, ho =>
              cases ho
              refine stepG_of (fun g d hdep => ?_)
              exact step_skip rfl 11 true 85 (.bool false) rfl rfl (by kernel_rfl) (by intro h; cases h) rfl
            | 13, _, ho =>
              cases ho
              refine stepG_of (fun g d hdep => ?_)
              exact step_skip rfl 11 true 85 (.bool false) rfl rfl (by kernel_rfl) (by intro h; cases h) rfl
            | 14, _, ho =>
              cases ho
              refine stepG_of (fun g d hdep => ?_)
              exact step_skip rfl 11 true 85 (.bool false) rfl rfl (by kernel_rfl) (by intro h; cases h) rfl
            | 15, _, ho =>
              cases ho
              refine stepG_of (fun g d hdep => ?_)
              exact step_skip rfl 11 true 85 (.bool false) rfl rfl (by kernel_rfl) (by intro h; cases h) rfl
            | 16, _, ho =>
              cases ho
              refine stepG_of (fun g d hdep => ?_)
              exact step_skip rfl 11 true 85 (.bool false) rfl rfl (by kernel_rfl) (by intro h; cases h) rfl
            | 17, _, ho =>
              cases ho
              refine stepG_of (fun g d hdep => ?_)
              exact step_skip rfl 11 true 85 (.bool false) rfl rfl (by kernel_rfl) (by intro h; cases h) rfl
            | 18, _, ho =>
              cases ho
              refine stepG_of (fun g d hdep => ?_)
              exact step_skip rfl 11 true 85 (.bool false) rfl rfl (by kernel_rfl) (by intro h; cases h) rfl
            | 19, _, ho =>
              cases ho
              refine stepG_of (fun g d hdep => ?_)
              exact step_skip rfl 11 true 85 (.bool false) rfl rfl (by kernel_rfl) (by intro h; cases h) rfl
            | 20, _, ho =>
              cases ho
              refine stepG_of (fun g d hdep => ?_)
              exact step_skip rfl 11 true 85 (.bool false) rfl rfl (by kernel_rfl) (by intro h; cases h) rfl
            | 21, _, ho =>
              cases ho
              refine stepG_of (fun g d hdep => ?_)
              exact step_skip rfl 11 true 85 (.bool false) rfl rfl (by kernel_rfl) (by intro h; cases h) rfl
            | 22, _, ho =>
              cases ho
              refine stepG_of (fun g d hdep => ?_)
              exact step_skip rfl 11 true 85 (.bool false) rfl rfl (by kernel_rfl) (by intro h; cases h) rfl
            | 23, _, ho =>
              cases ho
              refine stepG_of (fun g d hdep => ?_)
              exact step_skip rfl 11 true 85 (.bool false) rfl rfl (by kernel_rfl) (by intro h; cases h) rfl
            | 24, _, ho =>
              cases ho
              refine stepG_of (fun g d hdep => ?_)
              exact step_pick rfl trivial _ _ _ false rfl (by kernel_rfl) (by kernel_rfl)
          intro g d W hall hW
          first | refine hK _ _ ?_ | refine (‹∀ (a : Act) (w : World), Code.wp Try.prog _ _ a w → _›) _ _ ?_ | skip
          simp only [finL, List.getD_cons_zero, List.getD_cons_succ, Nat.zero_add, Nat.reduceAdd, List.setIfInBounds_toArray, List.set_cons_zero, List.set_cons_succ]
          clear hK
          have hW2 := hW
          clear hW hj2
          have hlk2 := look_any hW2.1 hW2.2.1 hv2 (b.ro + 1) T' (by omega) (by omega) what
          go_wp2_with (go_at_call 21; (with_reducible refine hlk2.mono ?_); rintro e v9 ⟨rfl, hu9⟩)
          go_roundw
          case rel => exact ⟨k + 1, b.ro + 1, T', rfl, rfl, by simp, by omega, n2, b1, d1, hv2, by omega, by omega, by omega, by omega, by omega, by omega, hW2.2.1.carry hu9, hW2.1.carry hu9, hW2.2.2.trans (hu9.mono hW2.2.2.size)⟩
          case measure => simp [vnat]; omega
        have hbt := hv2.ok.2.2.2.2
        have hrz := fun V (h1 : Bt V q (some ⟨w.heap.size, 0, none⟩) b1) (h2 : Dk V w.heap.size d1) => raise_any h1 h2 hv2.fz (by omega) (by omega) (b1.ta + ((N % 9 : Nat) : Int))
        obtain ⟨n4, hn4, hn5, hv3, hw5, hw6, hli4, hro4, hta4⟩ := hv2.raise (by omega) (b1.ta + ((N % 9 : Nat) : Int))
        obtain ⟨E, hE⟩ : ∃ E, (dRa d1 b1 (b1.ta + ((N % 9 : Nat) : Int))).e = E := ⟨_, rfl⟩
        obtain ⟨d2, hd2e⟩ : ∃ d2, (dRa d1 b1 (b1.ta + ((N % 9 : Nat) : Int))).d = d2 := ⟨_, rfl⟩
        obtain ⟨b2, hb2e⟩ : ∃ b2, (dRa d1 b1 (b1.ta + ((N % 9 : Nat) : Int))).b = b2 := ⟨_, rfl⟩
        simp only [hE, hd2e, hb2e] at hrz hv3 hw5 hw6 hli4 hro4 hta4
        clear hE hd2e hb2e
        go_wp2_with (go_at_call 13; (with_reducible refine hnx.mono ?_); rintro e v1 ⟨rfl, hD2, hb2, ht2⟩; have hj2 : JL2 w q b1 d1 v1 := ⟨hb2, hD2, hB1.trans (ht2.below (Nat.le_refl _) hqq hB1.size)⟩)
        rename_i hK
        refine wp_region_any hmx ?_
        refine wpAny_tabG (G := Unit) (fun g i__ => ([(.slice (some ⟨bo, offo, none⟩) l.length cap), (.int .i64 (m : Int)), (.pointer (some ⟨bo, offo + m * 3, none⟩)), (.pointer (some ⟨bo, offo + m * 3 + 2, none⟩)), (.int .i64 y), (.bool true), (.bool true), (.int .i64 (k : Int)), (.int .i64 ((k % 3 : Nat) : Int)), (.bool true), (.bool true), (.bool true), (.pointer (some ⟨q, 0, none⟩)), (.pointer (some ⟨q, 0, none⟩)), (.int .i64 b1.ta), (.slice (some ⟨bo, offo, none⟩) l.length cap), (.int .i64 (m : Int)), (.pointer (some ⟨bo, offo + m * 3, none⟩)), (.pointer (some ⟨bo, offo + m * 3 + 2, none⟩)), (.int .i64 y), (.int .i64 ((N % 9 : Nat) : Int)), (.int .i64 (b1.ta + ((N % 9 : Nat) : Int))), (.int .i64 E), (.bool (E == 0)), (.bool (E == 0))] : List Value).getD i__ undef) (fun g f V => JL2 w q (if f 22 = true then b2 else b1) (if f 22 = true then d2 else d1) V) (by kernel_rfl) (()) (show JL2 w q b1 d1 _ from hj2.carry (Below.refl _ _).drew) ?step3 ?fin3
        case step3 =>
          intro i o ho
          have hi : i < 25 := getElem?_lt ho
          match i, hi, ho with
          | 0, _, ho =>
            cases ho
            refine stepG_of (fun g d hdep => ?_)
            exact step_move rfl trivial _ rfl (by kernel_rfl)
          | 1, _, ho =>
            cases ho
            refine stepG_of (fun g d hdep => ?_)
            exact step_move rfl trivial _ rfl (by kernel_rfl)
          | 2, _, ho =>
            cases ho
            refine stepG_of (fun g d hdep => ?_)
            exact step_indexAddr rfl trivial _ _ _ _ _ rfl rfl rfl (fun v hw => idx_lf hml)
          | 3, _, ho =>
            cases ho
            refine stepG_of (fun g d hdep => ?_)
            exact step_fieldAddr rfl trivial _ _ _ _ rfl rfl (fun v hw => fld_lf v _ _)
          | 4, _, ho =>
            cases ho
            refine stepG_of (fun g d hdep => ?_)
            exact step_load rfl trivial _ _ _ rfl rfl (fun v hw => load_i64 (HOP.out.carry hw.2.2 hbl).2.2)
          | 5, _, ho =>
            cases ho
            refine stepG_of (fun g d hdep => ?_)
            exact step_binOp rfl trivial _ _ _ _ _ _ _ rfl rfl rfl (fun v hw => by have e1 : decide (y > 0) = true := decide_eq_true (by omega); rw [← e1]; exact bin_gtr _ _ _)
          | 6, _, ho =>
            cases ho
            refine stepG_of (fun g d hdep => ?_)
            exact step_move rfl trivial _ rfl (by kernel_rfl)
          | 7, _, ho =>
            cases ho
            refine stepG_of (fun g d hdep => ?_)
            exact step_move rfl (by exact ⟨_, rfl, by kernel_rfl⟩) _ rfl (by kernel_rfl)
          | 8, _, ho =>
            cases ho
            refine stepG_of (fun g d hdep => ?_)
            exact step_binOp rfl (by exact ⟨_, rfl, by kernel_rfl⟩) _ _ _ _ _ _ _ rfl rfl rfl (fun v hw => bin_rem64 k 3 (by omega))
          | 9, _, ho =>
            cases ho
            refine stepG_of (fun g d hdep => ?_)
            exact step_binOp rfl (by exact ⟨_, rfl, by kernel_rfl⟩) _ _ _ _ _ _ _ rfl rfl rfl (fun v hw => by have e1 : (((k % 3 : Nat) : Int) == 0) = true := beq_iff_eq.2 (by omega); rw [← e1]; exact bin_eql _ _ _)
          | 10, _, ho =>
            cases ho
            refine stepG_of (fun g d hdep => ?_)
            exact step_pick rfl trivial _ _ _ true rfl (by kernel_rfl) (by kernel_rfl)
          | 11, _, ho =>
            cases ho
            refine stepG_of (fun g d hdep => ?_)
            exact step_move rfl trivial _ rfl (by kernel_rfl)
          | 12, _, ho =>
            cases ho
            refine stepG_of (fun g d hdep => ?_)
            exact step_move rfl (by exact ⟨_, rfl, by kernel_rfl⟩) _ rfl (by kernel_rfl)
          | 13, _, ho =>
            cases ho
            refine stepG_of (fun g d hdep => ?_)
            exact step_move rfl (by exact ⟨_, rfl, by kernel_rfl⟩) _ rfl (by kernel_rfl)
          | 14, _, ho =>
            cases ho
            exact stepG_ofC (fun _ d hun hdep hcl => step_call rfl (by exact ⟨_, rfl, by kernel_rfl⟩) 16 _ _ [(.pointer (some ⟨q, 0, none⟩))] rfl (by kernel_rfl) (enters_of Try.func16 (by kernel_rfl) rfl) (fun v hw => by have h22 : d 22 = false := (by cases h : d 22 with | false => rfl | true => exact absurd (hcl 22 _ rfl h 14 (by kernel_rfl)) (by rw [hun]; simp)); have hw2 := hw; simp only [h22, Bool.false_eq_true, if_false] at hw2; exact (btag_any hw2.1).mono (by rintro e v' ⟨rfl, rfl⟩; exact ⟨rfl, hw⟩)))
          | 15, _, ho =>
            cases ho
            refine stepG_of (fun g d hdep => ?_)
            exact step_move rfl (by exact ⟨_, rfl, by kernel_rfl⟩) _ rfl (by kernel_rfl)
          | 16, _, ho =>
            cases ho
            refine stepG_of (fun g d hdep => ?_)
            exact step_move rfl (by exact ⟨_, rfl, by kernel_rfl⟩) _ rfl (by kernel_rfl)
          | 17, _, ho =>
            cases ho
            refine stepG_of (fun g d hdep => ?_)
            exact step_indexAddr rfl (by exact ⟨_, rfl, by kernel_rfl⟩) _ _ _ _ _ rfl rfl rfl (fun v hw => idx_lf hml)
          | 18, _, ho =>
            cases ho
            refine stepG_of (fun g d hdep => ?_)
            exact step_fieldAddr rfl (by exact ⟨_, rfl, by kernel_rfl⟩) _ _ _ _ rfl rfl (fun v hw => fld_lf v _ _)
          | 19, _, ho =>
            cases ho
            refine stepG_of (fun g d hdep => ?_)
            exact step_load rfl (by exact ⟨_, rfl, by kernel_rfl⟩) _ _ _ rfl rfl (fun v hw => load_i64 (HOP.out.carry hw.2.2 hbl).2.2)
          | 20, _, ho =>
            cases ho
            refine stepG_of (fun g d hdep => ?_)
            exact step_binOp rfl (by exact ⟨_, rfl, by kernel_rfl⟩) _ _ _ _ _ _ _ rfl rfl rfl (fun v hw => by have := bin_rem64 (P := Try.prog) (t := 3) (x := .tmp 93) (y := .const (.int .i64 9)) (w := v) N 9 (by omega); rw [← hN] at this; exact this)
          | 21, _, ho =>
            cases ho
            refine stepG_of (fun g d hdep => ?_)
            exact step_binOp rfl (by exact ⟨_, rfl, by kernel_rfl⟩) _ _ _ _ _ _ _ rfl rfl rfl (fun v hw => bin_add64 _ _ _ (i64_id _ (by omega) (by omega)))
          | 22, _, ho =>
            cases ho
            exact stepG_ofC (fun _ d hun hdep hcl => step_call rfl (by exact ⟨_, rfl, by kernel_rfl⟩) 22 _ _ [(.pointer (some ⟨q, 0, none⟩)), .int .i64 (b1.ta + ((N % 9 : Nat) : Int))] rfl (by kernel_rfl) (enters_of Try.func22 (by kernel_rfl) rfl) (fun v hw => by have hw2 := hw; simp only [hun, Bool.false_eq_true, if_false] at hw2; have hra := hrz v hw2.1 hw2.2.1; exact hra.mono (by rintro e v' ⟨rfl, h1, h2, h3⟩; exact ⟨rfl, h2, h1, hw2.2.2.trans (h3.below (Nat.le_refl _) hqq hw2.2.2.size)⟩)))
          | 23, _, ho =>
            cases ho
            refine stepG_of (fun g d hdep => ?_)
            exact step_binOp rfl (by exact ⟨_, rfl, by kernel_rfl⟩) _ _ _ _ _ _ _ rfl rfl rfl (fun v hw => bin_eql _ _ _)
          | 24, _, ho =>
            cases ho
            refine stepG_of (fun g d hdep => ?_)
            exact step_pick rfl trivial _ _ _ true rfl (by kernel_rfl) (by kernel_rfl)
        intro g d W hall hW
        first | refine hK _ _ ?_ | refine (‹∀ (a : Act) (w : World), Code.wp Try.prog _ _ a w → _›) _ _ ?_ | skip
        simp only [finL, List.getD_cons_zero, List.getD_cons_succ, Nat.zero_add, Nat.reduceAdd, List.setIfInBounds_toArray, List.set_cons_zero, List.set_cons_succ]
        simp only [hall 22 (by decide), if_true] at hW
        clear hK
        have hW2 := hW
        clear hW hj2
        by_cases hE : E = 0
        case neg =>
          have hE1 : (E == 0) = false := beq_eq_false_iff_ne.2 hE
          rw [hE1]
          have hlk2 := look_any hW2.1 hW2.2.1 hv3 (b.ro + 1) T' (by omega) (by omega) what
          go_wp2_with (go_at_call 21; (with_reducible refine hlk2.mono ?_); rintro e v9 ⟨rfl, hu9⟩)
          go_roundw
          case rel => exact ⟨k + 1, b.ro + 1, T', rfl, rfl, by simp, by omega, n4, b2, d2, hv3, by omega, by omega, by omega, by omega, by omega, by omega, hW2.2.1.carry hu9, hW2.1.carry hu9, hW2.2.2.trans (hu9.mono hW2.2.2.size)⟩
          case measure => simp [vnat]; omega
        subst hE
        have htg := btag_any hW2.1
        by_cases hTb : T' < b2.ta
        case neg =>
          have hlk2 := look_any hW2.1 hW2.2.1 hv3 (b.ro + 1) T' (by omega) (by omega) what
          go_wp2_with (first | (go_at_call 16; (with_reducible refine htg.mono ?_); rintro e v5 ⟨rfl, hu5⟩; obtain rfl := hu5.symm) | (go_at_call 21; (with_reducible refine hlk2.mono ?_); rintro e v9 ⟨rfl, hu9⟩))
          all_goals first | omega | skip
          go_roundw
          case rel => exact ⟨k + 1, b.ro + 1, T', rfl, rfl, by simp, by omega, n4, b2, d2, hv3, by omega, by omega, by omega, by omega, by omega, by omega, hW2.2.1.carry hu9, hW2.1.carry hu9, hW2.2.2.trans (hu9.mono hW2.2.2.size)⟩
          case measure => simp [vnat]; omega
        have hlk2 := look_any hW2.1 hW2.2.1 hv3 (b.ro + 1) b2.ta (by omega) (by omega) what
        go_wp2_with (first | (go_at_call 16; (with_reducible refine htg.mono ?_); rintro e v5 ⟨rfl, hu5⟩; obtain rfl := hu5.symm) | (go_at_call 21; (with_reducible refine hlk2.mono ?_); rintro e v9 ⟨rfl, hu9⟩))
        all_goals first | omega | skip
        go_roundw
        case rel => exact ⟨k + 1, b.ro + 1, b2.ta, rfl, rfl, by simp, by omega, n4, b2, d2, hv3, by omega, by omega, by omega, by omega, by omega, by omega, hW2.2.1.carry hu9, hW2.1.carry hu9, hW2.2.2.trans (hu9.mono hW2.2.2.size)⟩
        case measure => simp [vnat]; omega
    · have hqq : w.heap.size ≤ q := by have := hB2.size; omega
      clear hre hfu hpq hfv hpv hlk htg hD1 hT1 hB1 hD2 hT2 hB2 hT3 hB3 hu4 hb3 hD3 hD hB hs hs2 x0 x1 x2 y0 y1 y2
      go_loopw [6, 7, 11] (fun ro ta i wz => ∃ (k : Nat) (R' T' : Int), ro = .int .i64 R' ∧ ta = .int .i64 T' ∧ i = .int .i64 (k : Int) ∧ k ≤ 60 ∧ InR w q m k R' T' wz) (fun _ _ i _ => 60 - vnat i)
      case atStart => exact ⟨0, R, _, rfl, rfl, rfl, by omega, n + 1, b, D3, hlv, by omega, by omega, by omega, by omega, by omega, by omega, hD4, hb4, hB4⟩
      case round =>
        clear hb4 hD4 hB4 hlv hli3 hro3 hta3 hwr3 hmx1 hwr2 hoff b D3 D2
        obtain ⟨k, R', T', rfl, rfl, rfl, hk, n1, b, d, hv, hn1, hw1, hw2, hli1, hR1, hT1, hD1, hb1, hB1⟩ := hrel
        obtain ⟨z0, z1, z2⟩ := HOP.out.carry hB1 hbl
        dsimp only at z0 z1 z2
        by_cases hkg : (k : Int) < lg
        case neg =>
          go_wp2
          go_roundw
          case rel => exact ⟨m + 1, R', T', rfl, rfl, by simp, by omega, out_of hv (by omega) hw1 (by omega) hli1 hR1 hT1 hD1 hB1⟩
          case measure => simp [vnat]; omega
        by_cases hk60 : k < 60
        case neg =>
          have hk60i : ¬ (k : Int) < 60 := by omega
          go_wp2
          go_roundw
          case rel => exact ⟨m + 1, R', T', rfl, rfl, by simp, by omega, out_of hv (by omega) hw1 (by omega) hli1 hR1 hT1 hD1 hB1⟩
          case measure => simp [vnat]; omega
        have hk60i : (k : Int) < 60 := by omega
        have hnx := next_any hb1 hD1 hv.ok hv.fz hw1 (by omega)
        obtain ⟨n2, hn2, hn3, hv2, hw3, hw4, hli2, hcase⟩ := hv.next (by omega)
        obtain ⟨X, hX⟩ : ∃ X, (dNx d b).x = X := ⟨_, rfl⟩
        obtain ⟨E, hE⟩ : ∃ E, (dNx d b).e = E := ⟨_, rfl⟩
        obtain ⟨d1, hd1e⟩ : ∃ d1, (dNx d b).d = d1 := ⟨_, rfl⟩
        obtain ⟨b1, hb1e⟩ : ∃ b1, (dNx d b).b = b1 := ⟨_, rfl⟩
        simp only [hX, hE, hd1e, hb1e] at hnx hcase hv2 hw3 hw4 hli2
        clear hX hE hd1e hb1e
        rcases hcase with ⟨rfl, rfl, hro2, hta2⟩ | ⟨hE0, rfl⟩
        case inr =>
          go_wp2_with (go_at_call 13; (with_reducible refine hnx.mono ?_); rintro e v1 ⟨rfl, hD2, hb2, ht2⟩; have hB2 := hB1.trans (ht2.below (Nat.le_refl _) hqq hB1.size))
          go_roundw
          case rel => exact ⟨m + 1, R', T', rfl, rfl, by simp, by omega, out_of hv2 (by omega) (by omega) (by omega) (by omega) hR1 hT1 hD2 hB2⟩
          case measure => simp [vnat]; omega
        have hrle : ¬ b.ro + 1 ≤ R' := by omega
        obtain ⟨z0, hz0⟩ := hv2.ok
        by_cases hh : 0 < y
        case neg =>
          go_wp2_with (go_at_call 13; (with_reducible refine hnx.mono ?_); rintro e v1 ⟨rfl, hD2, hb2, ht2⟩; have hj2 : JL2 w q b1 d1 v1 := ⟨hb2, hD2, hB1.trans (ht2.below (Nat.le_refl _) hqq hB1.size)⟩)
          rename_i hK
          refine wp_region_any hmx ?_
          refine wpAny_tabG (G := Unit) (fun g i__ => ([(.slice (some ⟨bo, offo, none⟩) l.length cap), (.int .i64 (m : Int)), (.pointer (some ⟨bo, offo + m * 3, none⟩)), (.pointer (some ⟨bo, offo + m * 3 + 2, none⟩)), (.int .i64 y), (.bool false), (.bool false), undef, undef, undef, (.bool false), (.bool false), undef, undef, undef, undef, undef, undef, undef, undef, undef, undef, undef, undef, (.bool false)] : List Value).getD i__ undef) (fun g f V => JL2 w q b1 d1 V) (by kernel_rfl) (()) (show JL2 w q b1 d1 _ from hj2.carry (Below.refl _ _).drew) ?step4 ?fin4
          case step4 =>
            intro i o ho
            have hi : i < 25 := getElem?_lt ho
            match i, hi, ho with
            | 0, _, ho =>
              cases ho
              refine stepG_of (fun g d hdep => ?_)
              exact step_move rfl trivial _ rfl (by kernel_rfl)
            | 1, _, ho =>
              cases ho
              refine stepG_of (fun g d hdep => ?_)
              exact step_move rfl trivial _ rfl (by kernel_rfl)
            | 2, _, ho =>
              cases ho
              refine stepG_of (fun g d hdep => ?_)
              exact step_indexAddr rfl trivial _ _ _ _ _ rfl rfl rfl (fun v hw => idx_lf hml)
            | 3, _, ho =>
              cases ho
              refine stepG_of (fun g d hdep => ?_)
              exact step_fieldAddr rfl trivial _ _ _ _ rfl rfl (fun v hw => fld_lf v _ _)
            | 4, _, ho =>
              cases ho
              refine stepG_of (fun g d hdep => ?_)
              exact step_load rfl trivial _ _ _ rfl rfl (fun v hw => load_i64 (HOP.out.carry hw.2.2 hbl).2.2)
            | 5, _, ho =>
              cases ho
              refine stepG_of (fun g d hdep => ?_)
              exact step_binOp rfl trivial _ _ _ _ _ _ _ rfl rfl rfl (fun v hw => by have e1 : decide (y > 0) = false := decide_eq_false (by omega); rw [← e1]; exact bin_gtr _ _ _)
            | 6, _, ho =>
              cases ho
              refine stepG_of (fun g d hdep => ?_)
              exact step_move rfl trivial _ rfl (by kernel_rfl)
            | 7, _, ho =>
              cases ho
              refine stepG_of (fun g d hdep => ?_)
              exact step_skip rfl 6 true 80 (.bool false) rfl rfl (by kernel_rfl) (by intro h; cases h) rfl
            | 8, _, ho =>
              cases ho
              refine stepG_of (fun g d hdep => ?_)
              exact step_skip rfl 6 true 80 (.bool false) rfl rfl (by kernel_rfl) (by intro h; cases h) rfl
            | 9, _, ho =>
              cases ho
              refine stepG_of (fun g d hdep => ?_)
              exact step_skip rfl 6 true 80 (.bool false) rfl rfl (by kernel_rfl) (by intro h; cases h) rfl
            | 10, _, ho =>
              cases ho
              refine stepG_of (fun g d hdep => ?_)
              exact step_pick rfl trivial _ _ _ false rfl (by kernel_rfl) (by kernel_rfl)
            | 11, _, ho =>
              cases ho
              refine stepG_of (fun g d hdep => ?_)
              exact step_move rfl trivial _ rfl (by kernel_rfl)
            | 12, _, ho =>
              cases ho
              refine stepG_of (fun g d hdep => ?_)
              exact step_skip rfl 11 true 85 (.bool false) rfl rfl (by kernel_rfl) (by intro h; cases h) rfl
            | 13, _, ho =>
              cases ho
              refine stepG_of (fun g d hdep => ?_)
              exact step_skip rfl 11 true 85 (.bool false) rfl rfl (by kernel_rfl) (by intro h; cases h) rfl
            | 14, _, ho =>
              cases ho
              refine stepG_of (fun g d hdep => ?_)
              exact step_skip rfl 11 true 85 (.bool false) rfl rfl (by kernel_rfl) (by intro h; cases h) rfl
            | 15, _, ho =>
              cases ho
              refine stepG_of (fun g d hdep => ?_)
              exact step_skip rfl 11 true 85 (.bool false) rfl rfl (by kernel_rfl) (by intro h; cases h) rfl
            | 16, _, ho =>
              cases ho
              refine stepG_of (fun g d hdep => ?_)
              exact step_skip rfl 11 true 85 (.bool false) rfl rfl (by kernel_rfl) (by intro h; cases h) rfl
            | 17, _, ho =>
              cases ho
              refine stepG_of (fun g d hdep => ?_)
              exact step_skip rfl 11 true 85 (.bool false) rfl rfl (by kernel_rfl) (by intro h; cases h) rfl
            | 18, _, ho =>
              cases ho
              refine stepG_of (fun g d hdep => ?_)
              exact step_skip rfl 11 true 85 (.bool false) rfl rfl (by kernel_rfl) (by intro h; cases h) rfl
            | 19, _, ho =>
              cases ho
              refine stepG_of (fun g d hdep => ?_)
              exact step_skip rfl 11 true 85 (.bool false) rfl rfl (by kernel_rfl) (by intro h; cases h) rfl
            | 20, _, ho =>
              cases ho
              refine stepG_of (fun g d hdep => ?_)
              exact step_skip rfl 11 true 85 (.bool false) rfl rfl (by kernel_rfl) (by intro h; cases h) rfl
            | 21, _, ho =>
              cases ho
              refine stepG_of (fun g d hdep => ?_)
              exact step_skip rfl 11 true 85 (.bool false) rfl rfl (by kernel_rfl) (by intro h; cases h) rfl
            | 22, _, ho =>
              cases ho
              refine stepG_of (fun g d hdep => ?_)
              exact step_skip rfl 11 true 85 (.bool false) rfl rfl (by kernel_rfl) (by intro h; cases h) rfl
            | 23, _, ho =>
              cases ho
              refine stepG_of (fun g d hdep => ?_)
              exact step_skip rfl 11 true 85 (.bool false) rfl rfl (by kernel_rfl) (by intro h; cases h) rfl
            | 24, _, ho =>
              cases ho
              refine stepG_of (fun g d hdep => ?_)
              exact step_pick rfl trivial _ _ _ false rfl (by kernel_rfl) (by kernel_rfl)
          intro g d W hall hW
          first | refine hK _ _ ?_ | refine (‹∀ (a : Act) (w : World), Code.wp Try.prog _ _ a w → _›) _ _ ?_ | skip
          simp only [finL, List.getD_cons_zero, List.getD_cons_succ, Nat.zero_add, Nat.reduceAdd, List.setIfInBounds_toArray, List.set_cons_zero, List.set_cons_succ]
          clear hK
          have hW2 := hW
          clear hW hj2
          have hlk2 := look_any hW2.1 hW2.2.1 hv2 (b.ro + 1) T' (by omega) (by omega) what
          go_wp2_with (go_at_call 21; (with_reducible refine hlk2.mono ?_); rintro e v9 ⟨rfl, hu9⟩)
          go_roundw
          case rel => exact ⟨k + 1, b.ro + 1, T', rfl, rfl, by simp, by omega, n2, b1, d1, hv2, by omega, by omega, by omega, by omega, by omega, by omega, hW2.2.1.carry hu9, hW2.1.carry hu9, hW2.2.2.trans (hu9.mono hW2.2.2.size)⟩
          case measure => simp [vnat]; omega
        obtain ⟨N, hN⟩ := Int.eq_ofNat_of_zero_le (show 0 ≤ y by omega)
        by_cases hk3 : k % 3 = 0
        case neg =>
          go_wp2_with (go_at_call 13; (with_reducible refine hnx.mono ?_); rintro e v1 ⟨rfl, hD2, hb2, ht2⟩; have hj2 : JL2 w q b1 d1 v1 := ⟨hb2, hD2, hB1.trans (ht2.below (Nat.le_refl _) hqq hB1.size)⟩)
          rename_i hK
          refine wp_region_any hmx ?_
          refine wpAny_tabG (G := Unit) (fun g i__ => ([(.slice (some ⟨bo, offo, none⟩) l.length cap), (.int .i64 (m : Int)), (.pointer (some ⟨bo, offo + m * 3, none⟩)), (.pointer (some ⟨bo, offo + m * 3 + 2, none⟩)), (.int .i64 y), (.bool true), (.bool true), (.int .i64 (k : Int)), (.int .i64 ((k % 3 : Nat) : Int)), (.bool false), (.bool false), (.bool false), undef, undef, undef, undef, undef, undef, undef, undef, undef, undef, undef, undef, (.bool false)] : List Value).getD i__ undef) (fun g f V => JL2 w q b1 d1 V) (by kernel_rfl) (()) (show JL2 w q b1 d1 _ from hj2.carry (Below.refl _ _).drew) ?step5 ?fin5
          case step5 =>
            intro i o ho
            have hi : i < 25 := getElem?_lt ho
            match i, hi, ho with
            | 0, _, ho =>
              cases ho
              refine stepG_of (fun g d hdep => ?_)
              exact step_move rfl trivial _ rfl (by kernel_rfl)
            | 1, _, ho =>
              cases ho
              refine stepG_of (fun g d hdep => ?_)
              exact step_move rfl trivial _ rfl (by kernel_rfl)
            | 2, _, ho =>
              cases ho
              refine stepG_of (fun g d hdep => ?_)
              exact step_indexAddr rfl trivial _ _ _ _ _ rfl rfl rfl (fun v hw => idx_lf hml)
            | 3, _, ho =>
              cases ho
              refine stepG_of (fun g d hdep => ?_)
              exact step_fieldAddr rfl trivial _ _ _ _ rfl rfl (fun v hw => fld_lf v _ _)
            | 4, _, ho =>
              cases ho
              refine stepG_of (fun g d hdep => ?_)
              exact step_load rfl trivial _ _ _ rfl rfl (fun v hw => load_i64 (HOP.out.carry hw.2.2 hbl).2.2)
            | 5, _, ho =>
              cases ho
              refine stepG_of (fun g d hdep => ?_)
              exact step_binOp rfl trivial _ _ _ _ _ _ _ rfl rfl rfl (fun v hw => by have e1 : decide (y > 0) = true := decide_eq_true (by omega); rw [← e1]; exact bin_gtr _ _ _)
            | 6, _, ho =>
              cases ho
              refine stepG_of (fun g d hdep => ?_)
              exact step_move rfl trivial _ rfl (by kernel_rfl)
            | 7, _, ho =>
              cases ho
              refine stepG_of (fun g d hdep => ?_)
              exact step_move rfl (by exact ⟨_, rfl, by kernel_rfl⟩) _ rfl (by kernel_rfl)
            | 8, _, ho =>
              cases ho
              refine stepG_of (fun g d hdep => ?_)
              exact step_binOp rfl (by exact ⟨_, rfl, by kernel_rfl⟩) _ _ _ _ _ _ _ rfl rfl rfl (fun v hw => bin_rem64 k 3 (by omega))
            | 9, _, ho =>
              cases ho
              refine stepG_of (fun g d hdep => ?_)
              exact step_binOp rfl (by exact ⟨_, rfl, by kernel_rfl⟩) _ _ _ _ _ _ _ rfl rfl rfl (fun v hw => by have e1 : (((k % 3 : Nat) : Int) == 0) = false := beq_eq_false_iff_ne.2 (by omega); rw [← e1]; exact bin_eql _ _ _)
            | 10, _, ho =>
              cases ho
              refine stepG_of (fun g d hdep => ?_)
              exact step_pick rfl trivial _ _ _ true rfl (by kernel_rfl) (by kernel_rfl)
            | 11, _, ho =>
              cases ho
              refine stepG_of (fun g d hdep => ?_)
              exact step_move rfl trivial _ rfl (by kernel_rfl)
            | 12, _, ho =>
              cases ho
              refine stepG_of (fun g d hdep => ?_)
              exact step_skip rfl 11 true 85 (.bool false) rfl rfl (by kernel_rfl) (by intro h; cases h) rfl
            | 13, _, ho =>
              cases ho
              refine stepG_of (fun g d hdep => ?_)
              exact step_skip rfl 11 true 85 (.bool false) rfl rfl (by kernel_rfl) (by intro h; cases h) rfl
            | 14, _, ho =>
              cases ho
              refine stepG_of (fun g d hdep => ?_)
              exact step_skip rfl 11 true 85 (.bool false) rfl rfl (by kernel_rfl) (by intro h; cases h) rfl
            | 15, _, ho =>
              cases ho
              refine stepG_of (fun g d hdep => ?_)
              exact step_skip rfl 11 true 85 (.bool false) rfl rfl (by kernel_rfl) (by intro h; cases h) rfl
            | 16, _, ho =>
              cases ho
              refine stepG_of (fun g d hdep => ?_)
              exact step_skip rfl 11 true 85 (.bool false) rfl rfl (by kernel_rfl) (by intro h; cases h) rfl
            | 17, _, ho =>
              cases ho
              refine stepG_of (fun g d hdep => ?_)
              exact step_skip rfl 11 true 85 (.bool false) rfl rfl (by kernel_rfl) (by intro h; cases h) rfl
            | 18, _, ho =>
              cases ho
              refine stepG_of (fun g d hdep => ?_)
              exact step_skip rfl 11 true 85 (.bool false) rfl rfl (by kernel_rfl) (by intro h; cases h) rfl
            | 19, _, ho =>
              cases ho
              refine stepG_of (fun g d hdep => ?_)
              exact step_skip rfl 11 true 85 (.bool false) rfl rfl (by kernel_rfl) (by intro h; cases h) rfl
            | 20, _, ho =>
              cases ho
              refine stepG_of (fun g d hdep => ?_)
              exact step_skip rfl 11 true 85 (.bool false) rfl rfl (by kernel_rfl) (by intro h; cases h) rfl
            | 21, _, ho =>
              cases ho
              refine stepG_of (fun g d hdep => ?_)
              exact step_skip rfl 11 true 85 (.bool false) rfl rfl (by kernel_rfl) (by intro h; cases h) rfl
            | 22, _, ho =>
              cases ho
              refine stepG_of (fun g d hdep => ?_)
              exact step_skip rfl 11 true 85 (.bool false) rfl rfl (by kernel_rfl) (by intro h; cases h) rfl
            | 23, _, ho =>
              cases ho
              refine stepG_of (fun g d hdep => ?_)
              exact step_skip rfl 11 true 85 (.bool false) rfl rfl (by kernel_rfl) (by intro h; cases h) rfl
            | 24, _, ho =>
              cases ho
              refine stepG_of (fun g d hdep => ?_)
              exact step_pick rfl trivial _ _ _ false rfl (by kernel_rfl) (by kernel_rfl)
          intro g d W hall hW
          first | refine hK _ _ ?_ | refine (‹∀ (a : Act) (w : World), Code.wp Try.prog _ _ a w → _›) _ _ ?_ | skip
          simp only [finL, List.getD_cons_zero, List.getD_cons_succ, Nat.zero_add, Nat.reduceAdd, List.setIfInBounds_toArray, List.set_cons_zero, List.set_cons_succ]
          clear hK
          have hW2 := hW
          clear hW hj2
          have hlk2 := look_any hW2.1 hW2.2.1 hv2 (b.ro + 1) T' (by omega) (by omega) what
          go_wp2_with (go_at_call 21; (with_reducible refine hlk2.mono ?_); rintro e v9 ⟨rfl, hu9⟩)
          go_roundw
          case rel => exact ⟨k + 1, b.ro + 1, T', rfl, rfl, by simp, by omega, n2, b1, d1, hv2, by omega, by omega, by omega, by omega, by omega, by omega, hW2.2.1.carry hu9, hW2.1.carry hu9, hW2.2.2.trans (hu9.mono hW2.2.2.size)⟩
          case measure => simp [vnat]; omega
        have hbt := hv2.ok.2.2.2.2
        have hrz := fun V (h1 : Bt V q (some ⟨w.heap.size, 0, none⟩) b1) (h2 : Dk V w.heap.size d1) => raise_any h1 h2 hv2.fz (by omega) (by omega) (b1.ta + ((N % 9 : Nat) : Int))
        obtain ⟨n4, hn4, hn5, hv3, hw5, hw6, hli4, hro4, hta4⟩ := hv2.raise (by omega) (b1.ta + ((N % 9 : Nat) : Int))
        obtain ⟨E, hE⟩ : ∃ E, (dRa d1 b1 (b1.ta + ((N % 9 : Nat) : Int))).e = E := ⟨_, rfl⟩
        obtain ⟨d2, hd2e⟩ : ∃ d2, (dRa d1 b1 (b1.ta + ((N % 9 : Nat) : Int))).d = d2 := ⟨_, rfl⟩
        obtain ⟨b2, hb2e⟩ : ∃ b2, (dRa d1 b1 (b1.ta + ((N % 9 : Nat) : Int))).b = b2 := ⟨_, rfl⟩
        simp only [hE, hd2e, hb2e] at hrz hv3 hw5 hw6 hli4 hro4 hta4
        clear hE hd2e hb2e
        go_wp2_with (go_at_call 13; (with_reducible refine hnx.mono ?_); rintro e v1 ⟨rfl, hD2, hb2, ht2⟩; have hj2 : JL2 w q b1 d1 v1 := ⟨hb2, hD2, hB1.trans (ht2.below (Nat.le_refl _) hqq hB1.size)⟩)
        rename_i hK
        refine wp_region_any hmx ?_
        refine wpAny_tabG (G := Unit) (fun g i__ => ([(.slice (some ⟨bo, offo, none⟩) l.length cap), (.int .i64 (m : Int)), (.pointer (some ⟨bo, offo + m * 3, none⟩)), (.pointer (some ⟨bo, offo + m * 3 + 2, none⟩)), (.int .i64 y), (.bool true), (.bool true), (.int .i64 (k : Int)), (.int .i64 ((k % 3 : Nat) : Int)), (.bool true), (.bool true), (.bool true), (.pointer (some ⟨q, 0, none⟩)), (.pointer (some ⟨q, 0, none⟩)), (.int .i64 b1.ta), (.slice (some ⟨bo, offo, none⟩) l.length cap), (.int .i64 (m : Int)), (.pointer (some ⟨bo, offo + m * 3, none⟩)), (.pointer (some ⟨bo, offo + m * 3 + 2, none⟩)), (.int .i64 y), (.int .i64 ((N % 9 : Nat) : Int)), (.int .i64 (b1.ta + ((N % 9 : Nat) : Int))), (.int .i64 E), (.bool (E == 0)), (.bool (E == 0))] : List Value).getD i__ undef) (fun g f V => JL2 w q (if f 22 = true then b2 else b1) (if f 22 = true then d2 else d1) V) (by kernel_rfl) (()) (show JL2 w q b1 d1 _ from hj2.carry (Below.refl _ _).drew) ?step6 ?fin6
        case step6 =>
          intro i o ho
          have hi : i < 25 := getElem?_lt ho
          match i, hi, ho with
          | 0, _, ho =>
            cases ho
            refine stepG_of (fun g d hdep => ?_)
            exact step_move rfl trivial _ rfl (by kernel_rfl)
          | 1, _, ho =>
            cases ho
            refine stepG_of (fun g d hdep => ?_)
            exact step_move rfl trivial _ rfl (by kernel_rfl)
          | 2, _, ho =>
            cases ho
            refine stepG_of (fun g d hdep => ?_)
            exact step_indexAddr rfl trivial _ _ _ _ _ rfl rfl rfl (fun v hw => idx_lf hml)
          | 3, _, ho =>
            cases ho
            refine stepG_of (fun g d hdep => ?_)
            exact step_fieldAddr rfl trivial _ _ _ _ rfl rfl (fun v hw => fld_lf v _ _)
          | 4, _, ho =>
            cases ho
            refine stepG_of (fun g d hdep => ?_)
            exact step_load rfl trivial _ _ _ rfl rfl (fun v hw => load_i64 (HOP.out.carry hw.2.2 hbl).2.2)
          | 5, _, ho =>
            cases ho
            refine stepG_of (fun g d hdep => ?_)
            exact step_binOp rfl trivial _ _ _ _ _ _ _ rfl rfl rfl (fun v hw => by have e1 : decide (y > 0) = true := decide_eq_true (by omega); rw [← e1]; exact bin_gtr _ _ _)
          | 6, _, ho =>
            cases ho
            refine stepG_of (fun g d hdep => ?_)
            exact step_move rfl trivial _ rfl (by kernel_rfl)
          | 7, _, ho =>
            cases ho
            refine stepG_of (fun g d hdep => ?_)
            exact step_move rfl (by exact ⟨_, rfl, by kernel_rfl⟩) _ rfl (by kernel_rfl)
          | 8, _, ho =>
            cases ho
            refine stepG_of (fun g d hdep => ?_)
            exact step_binOp rfl (by exact ⟨_, rfl, by kernel_rfl⟩) _ _ _ _ _ _ _ rfl rfl rfl (fun v hw => bin_rem64 k 3 (by omega))
          | 9, _, ho =>
            cases ho
            refine stepG_of (fun g d hdep => ?_)
            exact step_binOp rfl (by exact ⟨_, rfl, by kernel_rfl⟩) _ _ _ _ _ _ _ rfl rfl rfl (fun v hw => by have e1 : (((k % 3 : Nat) : Int) == 0) = true := beq_iff_eq.2 (by omega); rw [← e1]; exact bin_eql _ _ _)
          | 10, _, ho =>
            cases ho
            refine stepG_of (fun g d hdep => ?_)
            exact step_pick rfl trivial _ _ _ true rfl (by kernel_rfl) (by kernel_rfl)
          | 11, _, ho =>
            cases ho
            refine stepG_of (fun g d hdep => ?_)
            exact step_move rfl trivial _ rfl (by kernel_rfl)
          | 12, _, ho =>
            cases ho
            refine stepG_of (fun g d hdep => ?_)
            exact step_move rfl (by exact ⟨_, rfl, by kernel_rfl⟩) _ rfl (by kernel_rfl)
          | 13, _, ho =>
            cases ho
            refine stepG_of (fun g d hdep => ?_)
            exact step_move rfl (by exact ⟨_, rfl, by kernel_rfl⟩) _ rfl (by kernel_rfl)
          | 14, _, ho =>
            cases ho
            exact stepG_ofC (fun _ d hun hdep hcl => step_call rfl (by exact ⟨_, rfl, by kernel_rfl⟩) 16 _ _ [(.pointer (some ⟨q, 0, none⟩))] rfl (by kernel_rfl) (enters_of Try.func16 (by kernel_rfl) rfl) (fun v hw => by have h22 : d 22 = false := (by cases h : d 22 with | false => rfl | true => exact absurd (hcl 22 _ rfl h 14 (by kernel_rfl)) (by rw [hun]; simp)); have hw2 := hw; simp only [h22, Bool.false_eq_true, if_false] at hw2; exact (btag_any hw2.1).mono (by rintro e v' ⟨rfl, rfl⟩; exact ⟨rfl, hw⟩)))
          | 15, _, ho =>
            cases ho
            refine stepG_of (fun g d hdep => ?_)
            exact step_move rfl (by exact ⟨_, rfl, by kernel_rfl⟩) _ rfl (by kernel_rfl)
          | 16, _, ho =>
            cases ho
            refine stepG_of (fun g d hdep => ?_)
            exact step_move rfl (by exact ⟨_, rfl, by kernel_rfl⟩) _ rfl (by kernel_rfl)
          | 17, _, ho =>
            cases ho
            refine stepG_of (fun g d hdep => ?_)
            exact step_indexAddr rfl (by exact ⟨_, rfl, by kernel_rfl⟩) _ _ _ _ _ rfl rfl rfl (fun v hw => idx_lf hml)
          | 18, _, ho =>
            cases ho
            refine stepG_of (fun g d hdep => ?_)
            exact step_fieldAddr rfl (by exact ⟨_, rfl, by kernel_rfl⟩) _ _ _ _ rfl rfl (fun v hw => fld_lf v _ _)
          | 19, _, ho =>
            cases ho
            refine stepG_of (fun g d hdep => ?_)
            exact step_load rfl (by exact ⟨_, rfl, by kernel_rfl⟩) _ _ _ rfl rfl (fun v hw => load_i64 (HOP.out.carry hw.2.2 hbl).2.2)
          | 20, _, ho =>
            cases ho
            refine stepG_of (fun g d hdep => ?_)
            exact step_binOp rfl (by exact ⟨_, rfl, by kernel_rfl⟩) _ _ _ _ _ _ _ rfl rfl rfl (fun v hw => by have := bin_rem64 (P := Try.prog) (t := 3) (x := .tmp 93) (y := .const (.int .i64 9)) (w := v) N 9 (by omega); rw [← hN] at this; exact this)
          | 21, _, ho =>
            cases ho
            refine stepG_of (fun g d hdep => ?_)
            exact step_binOp rfl (by exact ⟨_, rfl, by kernel_rfl⟩) _ _ _ _ _ _ _ rfl rfl rfl (fun v hw => bin_add64 _ _ _ (i64_id _ (by omega) (by omega)))
          | 22, _, ho =>
            cases ho
            exact stepG_ofC (fun _ d hun hdep hcl => step_call rfl (by exact ⟨_, rfl, by kernel_rfl⟩) 22 _ _ [(.pointer (some ⟨q, 0, none⟩)), .int .i64 (b1.ta + ((N % 9 : Nat) : Int))] rfl (by kernel_rfl) (enters_of Try.func22 (by kernel_rfl) rfl) (fun v hw => by have hw2 := hw; simp only [hun, Bool.false_eq_true, if_false] at hw2; have hra := hrz v hw2.1 hw2.2.1; exact hra.mono (by rintro e v' ⟨rfl, h1, h2, h3⟩; exact ⟨rfl, h2, h1, hw2.2.2.trans (h3.below (Nat.le_refl _) hqq hw2.2.2.size)⟩)))
          | 23, _, ho =>
            cases ho
            refine stepG_of (fun g d hdep => ?_)
            exact step_binOp rfl (by exact ⟨_, rfl, by kernel_rfl⟩) _ _ _ _ _ _ _ rfl rfl rfl (fun v hw => bin_eql _ _ _)
          | 24, _, ho =>
            cases ho
            refine stepG_of (fun g d hdep => ?_)
            exact step_pick rfl trivial _ _ _ true rfl (by kernel_rfl) (by kernel_rfl)
        intro g d W hall hW
        first | refine hK _ _ ?_ | refine (‹∀ (a : Act) (w : World), Code.wp Try.prog _ _ a w → _›) _ _ ?_ | skip
        simp only [finL, List.getD_cons_zero, List.getD_cons_succ, Nat.zero_add, Nat.reduceAdd, List.setIfInBounds_toArray, List.set_cons_zero, List.set_cons_succ]
        simp only [hall 22 (by decide), if_true] at hW
        clear hK
        have hW2 := hW
        clear hW hj2
        by_cases hE : E = 0
        case neg =>
          have hE1 : (E == 0) = false := beq_eq_false_iff_ne.2 hE
          rw [hE1]
          have hlk2 := look_any hW2.1 hW2.2.1 hv3 (b.ro + 1) T' (by omega) (by omega) what
          go_wp2_with (go_at_call 21; (with_reducible refine hlk2.mono ?_); rintro e v9 ⟨rfl, hu9⟩)
          go_roundw
          case rel => exact ⟨k + 1, b.ro + 1, T', rfl, rfl, by simp, by omega, n4, b2, d2, hv3, by omega, by omega, by omega, by omega, by omega, by omega, hW2.2.1.carry hu9, hW2.1.carry hu9, hW2.2.2.trans (hu9.mono hW2.2.2.size)⟩
          case measure => simp [vnat]; omega
        subst hE
        have htg := btag_any hW2.1
        by_cases hTb : T' < b2.ta
        case neg =>
          have hlk2 := look_any hW2.1 hW2.2.1 hv3 (b.ro + 1) T' (by omega) (by omega) what
          go_wp2_with (first | (go_at_call 16; (with_reducible refine htg.mono ?_); rintro e v5 ⟨rfl, hu5⟩; obtain rfl := hu5.symm) | (go_at_call 21; (with_reducible refine hlk2.mono ?_); rintro e v9 ⟨rfl, hu9⟩))
          all_goals first | omega | skip
          go_roundw
          case rel => exact ⟨k + 1, b.ro + 1, T', rfl, rfl, by simp, by omega, n4, b2, d2, hv3, by omega, by omega, by omega, by omega, by omega, by omega, hW2.2.1.carry hu9, hW2.1.carry hu9, hW2.2.2.trans (hu9.mono hW2.2.2.size)⟩
          case measure => simp [vnat]; omega
        have hlk2 := look_any hW2.1 hW2.2.1 hv3 (b.ro + 1) b2.ta (by omega) (by omega) what
        go_wp2_with (first | (go_at_call 16; (with_reducible refine htg.mono ?_); rintro e v5 ⟨rfl, hu5⟩; obtain rfl := hu5.symm) | (go_at_call 21; (with_reducible refine hlk2.mono ?_); rintro e v9 ⟨rfl, hu9⟩))
        all_goals first | omega | skip
        go_roundw
        case rel => exact ⟨k + 1, b.ro + 1, b2.ta, rfl, rfl, by simp, by omega, n4, b2, d2, hv3, by omega, by omega, by omega, by omega, by omega, by omega, hW2.2.1.carry hu9, hW2.1.carry hu9, hW2.2.2.trans (hu9.mono hW2.2.2.size)⟩
        case measure => simp [vnat]; omega
end Go.Proofs.Ytjleggnkacmbbaa
