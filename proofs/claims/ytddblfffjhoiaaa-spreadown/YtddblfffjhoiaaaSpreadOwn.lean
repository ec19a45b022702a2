/- SpreadOwn (promises P1601, W4): nobody but a node itself raises what it says of itself: its own mistakes stay, whatever it absorbs; its suspicions come. For every input; nothing is asked of it. -/
import Derived.Test.YtddblfffjhoiaaaRows
import Derived.WalkKit
import Derived.ProofKit
import Derived.OpenShut
import Derived.Test.YtddblfffjhoiaaaJnJ3
namespace Go.Proofs.Ytddblfffjhoiaaa
open Go.ChangeShapes Go.WideShapes Go.ChangeAt Go.RowKit
set_option linter.unusedVariables false

theorem laidOut : laidOutB Try.prog = true := by kernel_rfl
theorem own : ownKnob Try.prog.godebug = none := by kernel_rfl
open Go.Shelf
set_option maxHeartbeats 16000000 in
set_option maxRecDepth 100000 in
theorem walk (w : World) (a0 : Int) (w0 : (Lit.int .i64 a0).wf = true) (a1 : Int) (w1 : (Lit.int .i64 a1).wf = true) (ad2 : Option Addr) (cap2 : Nat) (l2 : List (Int × Int × Int)) (w2 : RdN w ad2 l2) (hc2 : ad2 = none → cap2 = 0) (hq2 : l2.length ≤ cap2) :
    Calls Try.prog 5 #[.int .i64 a0, .int .i64 a1, .slice ad2 l2.length cap2] w fun e w' => e = .returned (.bool true) ∧ Below w.heap.size w w' := by
  have hal := alive_any
  have hl2 := fun W => light_any W ad2 l2.length cap2
  have hbw : Below w.heap.size w w := Below.refl _ _
  have HW2 : Hid (RdN w ad2 l2) := w2
  clear w2
  by_cases hok : 1 ≤ a0 ∧ a0 ≤ 100 ∧ 0 ≤ a1 ∧ a1 < a0 ∧ l2.length ≤ 300
  case neg =>
    go_enter Try.func5, Try.ntmps5
    go_wp2_with (first | (go_at_call 8; (with_reducible refine (hal _).mono ?_); rintro e u ⟨rfl, hb⟩) | (go_at_call 7; (with_reducible refine (hl2 _).mono ?_); rintro e u ⟨rfl, hu⟩; obtain rfl := hu.symm))
    all_goals first | (go_ret; exact ⟨rfl, hb⟩) | (exfalso; first | omega | (simp at *; omega))
  obtain ⟨h1, h2, h3, h4, h5⟩ := hok
  obtain ⟨N, rfl⟩ : ∃ N : Nat, a0 = (N : Int) := ⟨a0.toNat, by omega⟩
  obtain ⟨s, rfl⟩ : ∃ s : Nat, a1 = (s : Int) := ⟨a1.toNat, by omega⟩
  rw [decide_eq_true h5] at hl2
  have hmd := fun (W : World) => made0_any W N s (by omega) (by omega) (by omega)
  have hx0 : (bk0 N s 0)[s]? = some ((s : Int), 0, 1) := by rw [bk0_get 0 (by omega), if_pos rfl]
  have hat0 : ∀ (V : World) (p g : Nat), Bk V p g (bk0 N s 0) → Calls Try.prog 12 #[.pointer (some ⟨p, 0, none⟩), .int .i64 (s : Int)] V fun e w' => e = .returned (.tuple #[.agg #[.int .i64 (s : Int), .int .i64 0, .int .i64 1], .int .i64 0]) ∧ Below V.heap.size V w' := fun V p g h => by
    have := at_any h (s : Int)
    rw [atV_in hx0] at this
    exact this
  obtain ⟨tt, kk, E, hy, hE, hway, hF⟩ := own_fact (N := N) (s := s) (by omega) l2
  have HF : Hid (E = 0 → ∀ x ∈ l2, x.1 = (s : Int) → x.2.2 = 2 → bt x.1 x.2.1 x.2.2 (s : Int) tt kk = false) := hF
  have HAB : Hid (∀ (W : World) (p g : Nat), Bk W p g (bk0 N s 0) → Below w.heap.size w W → Calls Try.prog 13 #[.pointer (some ⟨p, 0, none⟩), .int .i64 (s : Int), .slice ad2 l2.length cap2] W fun e w' => e = .returned (.tuple #[.agg #[.int .u32 (wd (abr (bk0 N s 0) (s : Int) l2) 0 : Nat), .int .u32 (wd (abr (bk0 N s 0) (s : Int) l2) 1 : Nat), .int .u32 (wd (abr (bk0 N s 0) (s : Int) l2) 2 : Nat), .int .u32 (wd (abr (bk0 N s 0) (s : Int) l2) 3 : Nat)], .int .i64 E]) ∧ Bk w' p g (abs (bk0 N s 0) (s : Int) l2) ∧ W.grownBy w' (some g)) := fun W p g hk hb => by
    have := absorb_any hk (s : Int) ad2 cap2 l2 (HW2.out.carry hb) (by omega)
    rw [hE] at this
    exact this
  have hat1 : ∀ (V : World) (p g : Nat), Bk V p g (abs (bk0 N s 0) (s : Int) l2) → Calls Try.prog 12 #[.pointer (some ⟨p, 0, none⟩), .int .i64 (s : Int)] V fun e w' => e = .returned (.tuple #[.agg #[.int .i64 (s : Int), .int .i64 tt, .int .i64 kk], .int .i64 0]) ∧ Below V.heap.size V w' := fun V p g h => by
    have := at_any h (s : Int)
    rw [atV_in hy] at this
    exact this
  clear hx0 hy hE hF
  generalize abs (bk0 N s 0) (s : Int) l2 = L1 at HAB hat1
  generalize abr (bk0 N s 0) (s : Int) l2 = R at HAB
  generalize bk0 N s 0 = L0 at HAB hat0 hmd
  obtain ⟨M, hM⟩ : ∃ M, l2.length = M := ⟨_, rfl⟩
  have HM : Hid (l2.length = M) := hM
  rw [hM] at h5 hl2 HAB ⊢
  clear hM
  rcases hway with ⟨rfl, rfl, rfl⟩ | ⟨rfl, rfl, rfl⟩ | ⟨rfl, rfl⟩
  · clear HF
    go_enter Try.func5, Try.ntmps5
    go_wp2_with (first
      | (have m := st4; go_at_call 12; (with_reducible refine st4.mono ?_); rintro e u4 ⟨rfl, hu4⟩; obtain ⟨x4, hx4⟩ : ∃ x4, u4.alloc (.cells #[.int .i64 (s : Int), .int .i64 0, .int .i64 1] 32) = x4 := ⟨_, rfl⟩; have Bx4 : Below u4.heap.size u4 x4 := (by rw [← hx4]; exact al1 _ _); have Nx4 : NB x4 u4.heap.size (s : Int) 0 1 := (by rw [← hx4]; exact NB.new _ _ _ _); have Y4 := bel2 (bel2 Y3 hu4) Bx4; have n4 := (n3.carry hu4).carry Bx4; have ya0 := n4.c0; have ya1 := n4.c1; have ya2 := n4.c2; have yb0 := Nx4.c0; have yb1 := Nx4.c1; have yb2 := Nx4.c2; clear m)
      | (have m := st3; go_at_call 13; (with_reducible refine st3.mono ?_); rintro e u3 ⟨rfl, hk3, hg3⟩; obtain ⟨x3, hx3⟩ : ∃ x3, u3.alloc (.cells #[.int .u32 (wd R 0 : Nat), .int .u32 (wd R 1 : Nat), .int .u32 (wd R 2 : Nat), .int .u32 (wd R 3 : Nat)] 37) = x3 := ⟨_, rfl⟩; have Bx3 : Below u3.heap.size u3 x3 := (by rw [← hx3]; exact al1 _ _); have Y3 := bel2 (grown_new Y2 hg3 hg) Bx3; have n3 := NB.carry ((hg3.block _ Nx2.lt (by simp; omega)).trans Nx2) Bx3; have st4 := hat1 x3 p g (hk3.carry Bx3); clear m st3)
      | (have m := st2; go_at_call 12; (with_reducible refine st2.mono ?_); rintro e u2 ⟨rfl, hu2⟩; obtain ⟨x2, hx2⟩ : ∃ x2, u2.alloc (.cells #[.int .i64 (s : Int), .int .i64 0, .int .i64 1] 32) = x2 := ⟨_, rfl⟩; have Bx2 : Below u2.heap.size u2 x2 := (by rw [← hx2]; exact al1 _ _); have Nx2 : NB x2 u2.heap.size (s : Int) 0 1 := (by rw [← hx2]; exact NB.new _ _ _ _); have Y2 := bel2 (bel2 hb1 hu2) Bx2; have hgl2 : g < u2.heap.size := (hk.carry hu2).glt; have st3 := HAB.out x2 p g ((hk.carry hu2).carry Bx2) Y2; clear m st2)
      | (go_at_call 9; (with_reducible refine (hmd _).mono ?_); rintro e u1 ⟨p, g, rfl, hp, hg, hk, hb1⟩; have st2 := hat0 u1 p g hk)
      | (go_at_call 7; (with_reducible refine (hl2 _).mono ?_); rintro e u ⟨rfl, hu⟩; obtain rfl := hu.symm))
    have hJ0 : JO w ad2 l2 u2.heap.size u4.heap.size ((s : Int), 0, 1) ((s : Int), 0, 1) x4 := ⟨HW2.out.carry Y4, n4, Nx4, Y4⟩
    obtain ⟨Bw, hBw⟩ : ∃ B, u2.heap.size = B := ⟨_, rfl⟩
    obtain ⟨Bn, hBn⟩ : ∃ B, u4.heap.size = B := ⟨_, rfl⟩
    rw [hBw, hBn] at hJ0 ⊢
    go_loopw [14] (fun i wz => ∃ (j : Nat), i = .int .i64 j ∧ j ≤ M ∧ JO w ad2 l2 Bw Bn ((s : Int), 0, 1) ((s : Int), 0, 1) wz) (fun i _ => M - vnatR i)
    case atStart => exact ⟨0, rfl, Nat.zero_le _, hJ0⟩
    case round =>
      clear hJ0
      obtain ⟨j, rfl, hjl, hj⟩ := hrel
      by_cases hjn : j < M
      · have hji : (j : Int) < (M : Int) := by omega
        have hjn2 : j < l2.length := by rw [HM.out]; exact hjn
        obtain ⟨⟨o, t, q⟩, hx⟩ : ∃ x, l2[j]? = some x := ⟨_, List.getElem?_eq_getElem hjn2⟩
        obtain ⟨gb, off, rfl, hgl, hnt⟩ := hj.rd (fun e => by rw [e] at hjn2; simp at hjn2)
        have hJc : ∀ {V V' : World}, (JO w (some ⟨gb, off, none⟩) l2 Bw Bn ((s : Int), 0, 1) ((s : Int), 0, 1) V ∧ NtsAt V gb off l2) → Below V.heap.size V V' → (JO w (some ⟨gb, off, none⟩) l2 Bw Bn ((s : Int), 0, 1) ((s : Int), 0, 1) V' ∧ NtsAt V' gb off l2) := fun {V V'} h hb => ⟨h.1.carry hb, by
          obtain ⟨b1, o1, e1, h1, h2⟩ := h.1.rd (fun e => by rw [e] at hjn2; simp at hjn2)
          cases e1
          exact h2.carry h1 hb⟩
        have hJ2 : ∀ V, Below wr.heap.size wr V → (JO w (some ⟨gb, off, none⟩) l2 Bw Bn ((s : Int), 0, 1) ((s : Int), 0, 1) V ∧ NtsAt V gb off l2) := fun V hV => hJc ⟨hj, hnt⟩ hV
        have hmx : Try.prog.follows .mixedOrders = true := by kernel_rfl
        clear hnt hjn2
        go_wp2
        rename_i Q0 K0 hK
        refine wp_region_any hmx ?_
        refine wpAny_pure (fun i__ => ([(.int .i64 50), (.bool false), (.bool false), undef, undef, undef, undef, undef, undef, undef, (.bool false), (.bool false), undef, undef, undef, undef, undef, undef, (.bool false), (.bool false), undef, undef, undef, undef, undef, undef, (.bool false)] : List Value).getD i__ undef) (fun V => JO w (some ⟨gb, off, none⟩) l2 Bw Bn ((s : Int), 0, 1) ((s : Int), 0, 1) V ∧ NtsAt V gb off l2) (by kernel_rfl) (hJ2 _ (Below.refl _ _).drew) ?_ ?_
        · refine (stepsFrom_cons ?_ (stepsFrom_cons ?_ (stepsFrom_cons ?_ (stepsFrom_cons ?_ (stepsFrom_cons ?_ (stepsFrom_cons ?_ (stepsFrom_cons ?_ (stepsFrom_cons ?_ (stepsFrom_cons ?_ (stepsFrom_cons ?_ (stepsFrom_cons ?_ (stepsFrom_cons ?_ (stepsFrom_cons ?_ (stepsFrom_cons ?_ (stepsFrom_cons ?_ (stepsFrom_cons ?_ (stepsFrom_cons ?_ (stepsFrom_cons ?_ (stepsFrom_cons ?_ (stepsFrom_cons ?_ (stepsFrom_cons ?_ (stepsFrom_cons ?_ (stepsFrom_cons ?_ (stepsFrom_cons ?_ (stepsFrom_cons ?_ (stepsFrom_cons ?_ (stepsFrom_cons ?_ trivial)))))))))))))))))))))))))))
          · exact step_move rfl trivial _ rfl (by kernel_rfl)
          · exact step_binOp rfl trivial _ _ _ _ _ _ _ rfl rfl rfl (fun w hw => bin_eqb _ _ _ _ rfl)
          · exact step_move rfl trivial _ rfl (by kernel_rfl)
          · exact step_skip rfl 2 true 78 (.bool false) rfl rfl (by kernel_rfl) (by intro h; cases h) rfl
          · exact step_skip rfl 2 true 78 (.bool false) rfl rfl (by kernel_rfl) (by intro h; cases h) rfl
          · exact step_skip rfl 2 true 78 (.bool false) rfl rfl (by kernel_rfl) (by intro h; cases h) rfl
          · exact step_skip rfl 2 true 78 (.bool false) rfl rfl (by kernel_rfl) (by intro h; cases h) rfl
          · exact step_skip rfl 2 true 78 (.bool false) rfl rfl (by kernel_rfl) (by intro h; cases h) rfl
          · exact step_skip rfl 2 true 78 (.bool false) rfl rfl (by kernel_rfl) (by intro h; cases h) rfl
          · exact step_skip rfl 2 true 78 (.bool false) rfl rfl (by kernel_rfl) (by intro h; cases h) rfl
          · exact step_pick rfl trivial _ _ _ false rfl (by kernel_rfl) (by kernel_rfl)
          · exact step_move rfl trivial _ rfl (by kernel_rfl)
          · exact step_skip rfl 11 true 87 (.bool false) rfl rfl (by kernel_rfl) (by intro h; cases h) rfl
          · exact step_skip rfl 11 true 87 (.bool false) rfl rfl (by kernel_rfl) (by intro h; cases h) rfl
          · exact step_skip rfl 11 true 87 (.bool false) rfl rfl (by kernel_rfl) (by intro h; cases h) rfl
          · exact step_skip rfl 11 true 87 (.bool false) rfl rfl (by kernel_rfl) (by intro h; cases h) rfl
          · exact step_skip rfl 11 true 87 (.bool false) rfl rfl (by kernel_rfl) (by intro h; cases h) rfl
          · exact step_skip rfl 11 true 87 (.bool false) rfl rfl (by kernel_rfl) (by intro h; cases h) rfl
          · exact step_pick rfl trivial _ _ _ false rfl (by kernel_rfl) (by kernel_rfl)
          · exact step_move rfl trivial _ rfl (by kernel_rfl)
          · exact step_skip rfl 19 true 95 (.bool false) rfl rfl (by kernel_rfl) (by intro h; cases h) rfl
          · exact step_skip rfl 19 true 95 (.bool false) rfl rfl (by kernel_rfl) (by intro h; cases h) rfl
          · exact step_skip rfl 19 true 95 (.bool false) rfl rfl (by kernel_rfl) (by intro h; cases h) rfl
          · exact step_skip rfl 19 true 95 (.bool false) rfl rfl (by kernel_rfl) (by intro h; cases h) rfl
          · exact step_skip rfl 19 true 95 (.bool false) rfl rfl (by kernel_rfl) (by intro h; cases h) rfl
          · exact step_skip rfl 19 true 95 (.bool false) rfl rfl (by kernel_rfl) (by intro h; cases h) rfl
          · exact step_pick rfl trivial _ _ _ false rfl (by kernel_rfl) (by kernel_rfl)
        intro W hW
        first | refine hK _ _ ?_ | refine (‹∀ (a : Act) (w : World), Code.wp Try.prog _ _ a w → _›) _ _ ?_
        simp only [finL, List.getD_cons_zero, List.getD_cons_succ, Nat.zero_add, Nat.reduceAdd, List.setIfInBounds_toArray, List.set_cons_zero, List.set_cons_succ]
        go_wp2
        go_roundw
        case rel => exact ⟨j + 1, by simp, by omega, hW.1⟩
        case measure => simp [vnatR]; omega
      · have hkk : j = M := by omega
        subst hkk
        have c0 := hj.was.c0
        have k0 := hal wr
        go_wp2_with (go_at_call 8; (with_reducible refine k0.mono ?_); rintro e z1 ⟨rfl, hz1⟩; have hz := hj.carry hz1; have d0 := hz.was.c0; have d1 := hz.was.c1; have d2 := hz.was.c2; have e0 := hz.now.c0; have e1 := hz.now.c1; have e2 := hz.now.c2; dsimp only at d0 d1 d2 e0 e1 e2)
        go_ret
        exact ⟨by simp, hz.be⟩
  · have HG : Hid (∀ x ∈ l2, x.1 = (s : Int) → x.2.2 = 2 → bt x.1 x.2.1 x.2.2 (s : Int) 0 1 = false) := HF.out rfl
    clear HF
    go_enter Try.func5, Try.ntmps5
    go_wp2_with (first
      | (have m := st4; go_at_call 12; (with_reducible refine st4.mono ?_); rintro e u4 ⟨rfl, hu4⟩; obtain ⟨x4, hx4⟩ : ∃ x4, u4.alloc (.cells #[.int .i64 (s : Int), .int .i64 0, .int .i64 1] 32) = x4 := ⟨_, rfl⟩; have Bx4 : Below u4.heap.size u4 x4 := (by rw [← hx4]; exact al1 _ _); have Nx4 : NB x4 u4.heap.size (s : Int) 0 1 := (by rw [← hx4]; exact NB.new _ _ _ _); have Y4 := bel2 (bel2 Y3 hu4) Bx4; have n4 := (n3.carry hu4).carry Bx4; have ya0 := n4.c0; have ya1 := n4.c1; have ya2 := n4.c2; have yb0 := Nx4.c0; have yb1 := Nx4.c1; have yb2 := Nx4.c2; clear m)
      | (have m := st3; go_at_call 13; (with_reducible refine st3.mono ?_); rintro e u3 ⟨rfl, hk3, hg3⟩; obtain ⟨x3, hx3⟩ : ∃ x3, u3.alloc (.cells #[.int .u32 (wd R 0 : Nat), .int .u32 (wd R 1 : Nat), .int .u32 (wd R 2 : Nat), .int .u32 (wd R 3 : Nat)] 37) = x3 := ⟨_, rfl⟩; have Bx3 : Below u3.heap.size u3 x3 := (by rw [← hx3]; exact al1 _ _); have Y3 := bel2 (grown_new Y2 hg3 hg) Bx3; have n3 := NB.carry ((hg3.block _ Nx2.lt (by simp; omega)).trans Nx2) Bx3; have st4 := hat1 x3 p g (hk3.carry Bx3); clear m st3)
      | (have m := st2; go_at_call 12; (with_reducible refine st2.mono ?_); rintro e u2 ⟨rfl, hu2⟩; obtain ⟨x2, hx2⟩ : ∃ x2, u2.alloc (.cells #[.int .i64 (s : Int), .int .i64 0, .int .i64 1] 32) = x2 := ⟨_, rfl⟩; have Bx2 : Below u2.heap.size u2 x2 := (by rw [← hx2]; exact al1 _ _); have Nx2 : NB x2 u2.heap.size (s : Int) 0 1 := (by rw [← hx2]; exact NB.new _ _ _ _); have Y2 := bel2 (bel2 hb1 hu2) Bx2; have hgl2 : g < u2.heap.size := (hk.carry hu2).glt; have st3 := HAB.out x2 p g ((hk.carry hu2).carry Bx2) Y2; clear m st2)
      | (go_at_call 9; (with_reducible refine (hmd _).mono ?_); rintro e u1 ⟨p, g, rfl, hp, hg, hk, hb1⟩; have st2 := hat0 u1 p g hk)
      | (go_at_call 7; (with_reducible refine (hl2 _).mono ?_); rintro e u ⟨rfl, hu⟩; obtain rfl := hu.symm))
    have hJ0 : JO w ad2 l2 u2.heap.size u4.heap.size ((s : Int), 0, 1) ((s : Int), 0, 1) x4 := ⟨HW2.out.carry Y4, n4, Nx4, Y4⟩
    obtain ⟨Bw, hBw⟩ : ∃ B, u2.heap.size = B := ⟨_, rfl⟩
    obtain ⟨Bn, hBn⟩ : ∃ B, u4.heap.size = B := ⟨_, rfl⟩
    rw [hBw, hBn] at hJ0 ⊢
    go_loopw [14] (fun i wz => ∃ (j : Nat), i = .int .i64 j ∧ j ≤ M ∧ JO w ad2 l2 Bw Bn ((s : Int), 0, 1) ((s : Int), 0, 1) wz) (fun i _ => M - vnatR i)
    case atStart => exact ⟨0, rfl, Nat.zero_le _, hJ0⟩
    case round =>
      clear hJ0
      obtain ⟨j, rfl, hjl, hj⟩ := hrel
      by_cases hjn : j < M
      · have hji : (j : Int) < (M : Int) := by omega
        have hjn2 : j < l2.length := by rw [HM.out]; exact hjn
        obtain ⟨⟨o, t, q⟩, hx⟩ : ∃ x, l2[j]? = some x := ⟨_, List.getElem?_eq_getElem hjn2⟩
        obtain ⟨gb, off, rfl, hgl, hnt⟩ := hj.rd (fun e => by rw [e] at hjn2; simp at hjn2)
        have hJc : ∀ {V V' : World}, (JO w (some ⟨gb, off, none⟩) l2 Bw Bn ((s : Int), 0, 1) ((s : Int), 0, 1) V ∧ NtsAt V gb off l2) → Below V.heap.size V V' → (JO w (some ⟨gb, off, none⟩) l2 Bw Bn ((s : Int), 0, 1) ((s : Int), 0, 1) V' ∧ NtsAt V' gb off l2) := fun {V V'} h hb => ⟨h.1.carry hb, by
          obtain ⟨b1, o1, e1, h1, h2⟩ := h.1.rd (fun e => by rw [e] at hjn2; simp at hjn2)
          cases e1
          exact h2.carry h1 hb⟩
        have hJ2 : ∀ V, Below wr.heap.size wr V → (JO w (some ⟨gb, off, none⟩) l2 Bw Bn ((s : Int), 0, 1) ((s : Int), 0, 1) V ∧ NtsAt V gb off l2) := fun V hV => hJc ⟨hj, hnt⟩ hV
        have HBF : Hid (o = (s : Int) → q = 2 → bt o t q (s : Int) 0 1 = false) := fun h1 h2 => HG.out _ (List.mem_of_getElem? hx) h1 h2
        have hmx : Try.prog.follows .mixedOrders = true := by kernel_rfl
        clear hnt hjn2
        by_cases ho : o = (s : Int)
        · have hob : (o == (s : Int)) = true := by simpa using ho
          by_cases hq : q = 2
          · have hqb : (q == 2) = true := by simpa using hq
            have hbf := beats_any o t q (s : Int) 0 1
            rw [HBF.out ho hq] at hbf
            clear ho hq
            go_wp2
            rename_i Q0 K0 hK
            refine wp_region_any hmx ?_
            refine wpAny_pure (fun i__ => ([(.int .i64 0), (.bool true), (.bool true), (.slice (some ⟨gb, off, none⟩) M cap2), (.int .i64 (j : Int)), (.pointer (some ⟨gb, off + j * 3, none⟩)), (.pointer (some ⟨gb, off + j * 3, none⟩)), (.int .i64 o), (.int .i64 (s : Int)), (.bool true), (.bool true), (.bool true), (.slice (some ⟨gb, off, none⟩) M cap2), (.int .i64 (j : Int)), (.pointer (some ⟨gb, off + j * 3, none⟩)), (.pointer (some ⟨gb, off + j * 3 + 2, none⟩)), (.int .i64 q), (.bool true), (.bool true), (.bool true), (.slice (some ⟨gb, off, none⟩) M cap2), (.int .i64 (j : Int)), (.pointer (some ⟨gb, off + j * 3, none⟩)), (nt o t q), (nt (s : Int) 0 1), (.bool false), (.bool false)] : List Value).getD i__ undef) (fun V => JO w (some ⟨gb, off, none⟩) l2 Bw Bn ((s : Int), 0, 1) ((s : Int), 0, 1) V ∧ NtsAt V gb off l2) (by kernel_rfl) (hJ2 _ (Below.refl _ _).drew) ?_ ?_
            · refine (stepsFrom_cons ?_ (stepsFrom_cons ?_ (stepsFrom_cons ?_ (stepsFrom_cons ?_ (stepsFrom_cons ?_ (stepsFrom_cons ?_ (stepsFrom_cons ?_ (stepsFrom_cons ?_ (stepsFrom_cons ?_ (stepsFrom_cons ?_ (stepsFrom_cons ?_ (stepsFrom_cons ?_ (stepsFrom_cons ?_ (stepsFrom_cons ?_ (stepsFrom_cons ?_ (stepsFrom_cons ?_ (stepsFrom_cons ?_ (stepsFrom_cons ?_ (stepsFrom_cons ?_ (stepsFrom_cons ?_ (stepsFrom_cons ?_ (stepsFrom_cons ?_ (stepsFrom_cons ?_ (stepsFrom_cons ?_ (stepsFrom_cons ?_ (stepsFrom_cons ?_ (stepsFrom_cons ?_ trivial)))))))))))))))))))))))))))
              · exact step_move rfl trivial _ rfl (by kernel_rfl)
              · exact step_binOp rfl trivial _ _ _ _ _ _ _ rfl rfl rfl (fun w hw => bin_eqb _ _ _ _ rfl)
              · exact step_move rfl trivial _ rfl (by kernel_rfl)
              · exact step_move rfl (by exact ⟨_, rfl, by kernel_rfl⟩) _ rfl (by kernel_rfl)
              · exact step_move rfl (by exact ⟨_, rfl, by kernel_rfl⟩) _ rfl (by kernel_rfl)
              · exact step_indexAddr rfl (by exact ⟨_, rfl, by kernel_rfl⟩) _ _ _ _ _ rfl rfl rfl (fun w hw => idx_n gb off M cap2 j hjn w)
              · exact step_fieldAddr rfl (by exact ⟨_, rfl, by kernel_rfl⟩) _ _ _ _ rfl rfl (fun w hw => field_at w _ _)
              · exact step_load rfl (by exact ⟨_, rfl, by kernel_rfl⟩) _ _ _ rfl rfl (fun w hw => load_of hw.2 hx)
              · exact step_move rfl (by exact ⟨_, rfl, by kernel_rfl⟩) _ rfl (by kernel_rfl)
              · exact step_binOp rfl (by exact ⟨_, rfl, by kernel_rfl⟩) _ _ _ _ _ _ _ rfl rfl rfl (fun w hw => bin_eqb _ _ _ _ hob)
              · exact step_pick rfl trivial _ _ _ true rfl (by kernel_rfl) (by kernel_rfl)
              · exact step_move rfl trivial _ rfl (by kernel_rfl)
              · exact step_move rfl (by exact ⟨_, rfl, by kernel_rfl⟩) _ rfl (by kernel_rfl)
              · exact step_move rfl (by exact ⟨_, rfl, by kernel_rfl⟩) _ rfl (by kernel_rfl)
              · exact step_indexAddr rfl (by exact ⟨_, rfl, by kernel_rfl⟩) _ _ _ _ _ rfl rfl rfl (fun w hw => idx_n gb off M cap2 j hjn w)
              · exact step_fieldAddr rfl (by exact ⟨_, rfl, by kernel_rfl⟩) _ _ _ _ rfl rfl (fun w hw => field_at2 w _ _)
              · exact step_load rfl (by exact ⟨_, rfl, by kernel_rfl⟩) _ _ _ rfl rfl (fun w hw => load_of2 (nts_idx hw.2 hx))
              · exact step_binOp rfl (by exact ⟨_, rfl, by kernel_rfl⟩) _ _ _ _ _ _ _ rfl rfl rfl (fun w hw => bin_eqb _ _ _ _ hqb)
              · exact step_pick rfl trivial _ _ _ true rfl (by kernel_rfl) (by kernel_rfl)
              · exact step_move rfl trivial _ rfl (by kernel_rfl)
              · exact step_move rfl (by exact ⟨_, rfl, by kernel_rfl⟩) _ rfl (by kernel_rfl)
              · exact step_move rfl (by exact ⟨_, rfl, by kernel_rfl⟩) _ rfl (by kernel_rfl)
              · exact step_indexAddr rfl (by exact ⟨_, rfl, by kernel_rfl⟩) _ _ _ _ _ rfl rfl rfl (fun w hw => idx_n gb off M cap2 j hjn w)
              · exact step_load rfl (by exact ⟨_, rfl, by kernel_rfl⟩) _ _ _ rfl rfl (fun w hw => load_at hw.2 hx)
              · exact step_load rfl (by exact ⟨_, rfl, by kernel_rfl⟩) _ _ _ rfl rfl (fun w hw => load_nt hw.1.now)
              · exact step_call rfl (by exact ⟨_, rfl, by kernel_rfl⟩) 15 _ _ [(nt o t q), (nt (s : Int) 0 1)] rfl (by kernel_rfl) (enters_of Try.func15 (by kernel_rfl) rfl) (fun w hw => (hbf w).mono (by rintro e w' ⟨rfl, hb⟩; exact ⟨rfl, hJc hw hb⟩))
              · exact step_pick rfl trivial _ _ _ true rfl (by kernel_rfl) (by kernel_rfl)
            intro W hW
            first | refine hK _ _ ?_ | refine (‹∀ (a : Act) (w : World), Code.wp Try.prog _ _ a w → _›) _ _ ?_
            simp only [finL, List.getD_cons_zero, List.getD_cons_succ, Nat.zero_add, Nat.reduceAdd, List.setIfInBounds_toArray, List.set_cons_zero, List.set_cons_succ]
            go_wp2
            go_roundw
            case rel => exact ⟨j + 1, by simp, by omega, hW.1⟩
            case measure => simp [vnatR]; omega
          · have hqb : (q == 2) = false := by simpa using hq
            clear ho hq
            go_wp2
            rename_i Q0 K0 hK
            refine wp_region_any hmx ?_
            refine wpAny_pure (fun i__ => ([(.int .i64 0), (.bool true), (.bool true), (.slice (some ⟨gb, off, none⟩) M cap2), (.int .i64 (j : Int)), (.pointer (some ⟨gb, off + j * 3, none⟩)), (.pointer (some ⟨gb, off + j * 3, none⟩)), (.int .i64 o), (.int .i64 (s : Int)), (.bool true), (.bool true), (.bool true), (.slice (some ⟨gb, off, none⟩) M cap2), (.int .i64 (j : Int)), (.pointer (some ⟨gb, off + j * 3, none⟩)), (.pointer (some ⟨gb, off + j * 3 + 2, none⟩)), (.int .i64 q), (.bool false), (.bool false), (.bool false), undef, undef, undef, undef, undef, undef, (.bool false)] : List Value).getD i__ undef) (fun V => JO w (some ⟨gb, off, none⟩) l2 Bw Bn ((s : Int), 0, 1) ((s : Int), 0, 1) V ∧ NtsAt V gb off l2) (by kernel_rfl) (hJ2 _ (Below.refl _ _).drew) ?_ ?_
            · refine (stepsFrom_cons ?_ (stepsFrom_cons ?_ (stepsFrom_cons ?_ (stepsFrom_cons ?_ (stepsFrom_cons ?_ (stepsFrom_cons ?_ (stepsFrom_cons ?_ (stepsFrom_cons ?_ (stepsFrom_cons ?_ (stepsFrom_cons ?_ (stepsFrom_cons ?_ (stepsFrom_cons ?_ (stepsFrom_cons ?_ (stepsFrom_cons ?_ (stepsFrom_cons ?_ (stepsFrom_cons ?_ (stepsFrom_cons ?_ (stepsFrom_cons ?_ (stepsFrom_cons ?_ (stepsFrom_cons ?_ (stepsFrom_cons ?_ (stepsFrom_cons ?_ (stepsFrom_cons ?_ (stepsFrom_cons ?_ (stepsFrom_cons ?_ (stepsFrom_cons ?_ (stepsFrom_cons ?_ trivial)))))))))))))))))))))))))))
              · exact step_move rfl trivial _ rfl (by kernel_rfl)
              · exact step_binOp rfl trivial _ _ _ _ _ _ _ rfl rfl rfl (fun w hw => bin_eqb _ _ _ _ rfl)
              · exact step_move rfl trivial _ rfl (by kernel_rfl)
              · exact step_move rfl (by exact ⟨_, rfl, by kernel_rfl⟩) _ rfl (by kernel_rfl)
              · exact step_move rfl (by exact ⟨_, rfl, by kernel_rfl⟩) _ rfl (by kernel_rfl)
              · exact step_indexAddr rfl (by exact ⟨_, rfl, by kernel_rfl⟩) _ _ _ _ _ rfl rfl rfl (fun w hw => idx_n gb off M cap2 j hjn w)
              · exact step_fieldAddr rfl (by exact ⟨_, rfl, by kernel_rfl⟩) _ _ _ _ rfl rfl (fun w hw => field_at w _ _)
              · exact step_load rfl (by exact ⟨_, rfl, by kernel_rfl⟩) _ _ _ rfl rfl (fun w hw => load_of hw.2 hx)
              · exact step_move rfl (by exact ⟨_, rfl, by kernel_rfl⟩) _ rfl (by kernel_rfl)
              · exact step_binOp rfl (by exact ⟨_, rfl, by kernel_rfl⟩) _ _ _ _ _ _ _ rfl rfl rfl (fun w hw => bin_eqb _ _ _ _ hob)
              · exact step_pick rfl trivial _ _ _ true rfl (by kernel_rfl) (by kernel_rfl)
              · exact step_move rfl trivial _ rfl (by kernel_rfl)
              · exact step_move rfl (by exact ⟨_, rfl, by kernel_rfl⟩) _ rfl (by kernel_rfl)
              · exact step_move rfl (by exact ⟨_, rfl, by kernel_rfl⟩) _ rfl (by kernel_rfl)
              · exact step_indexAddr rfl (by exact ⟨_, rfl, by kernel_rfl⟩) _ _ _ _ _ rfl rfl rfl (fun w hw => idx_n gb off M cap2 j hjn w)
              · exact step_fieldAddr rfl (by exact ⟨_, rfl, by kernel_rfl⟩) _ _ _ _ rfl rfl (fun w hw => field_at2 w _ _)
              · exact step_load rfl (by exact ⟨_, rfl, by kernel_rfl⟩) _ _ _ rfl rfl (fun w hw => load_of2 (nts_idx hw.2 hx))
              · exact step_binOp rfl (by exact ⟨_, rfl, by kernel_rfl⟩) _ _ _ _ _ _ _ rfl rfl rfl (fun w hw => bin_eqb _ _ _ _ hqb)
              · exact step_pick rfl trivial _ _ _ true rfl (by kernel_rfl) (by kernel_rfl)
              · exact step_move rfl trivial _ rfl (by kernel_rfl)
              · exact step_skip rfl 19 true 95 (.bool false) rfl rfl (by kernel_rfl) (by intro h; cases h) rfl
              · exact step_skip rfl 19 true 95 (.bool false) rfl rfl (by kernel_rfl) (by intro h; cases h) rfl
              · exact step_skip rfl 19 true 95 (.bool false) rfl rfl (by kernel_rfl) (by intro h; cases h) rfl
              · exact step_skip rfl 19 true 95 (.bool false) rfl rfl (by kernel_rfl) (by intro h; cases h) rfl
              · exact step_skip rfl 19 true 95 (.bool false) rfl rfl (by kernel_rfl) (by intro h; cases h) rfl
              · exact step_skip rfl 19 true 95 (.bool false) rfl rfl (by kernel_rfl) (by intro h; cases h) rfl
              · exact step_pick rfl trivial _ _ _ false rfl (by kernel_rfl) (by kernel_rfl)
            intro W hW
            first | refine hK _ _ ?_ | refine (‹∀ (a : Act) (w : World), Code.wp Try.prog _ _ a w → _›) _ _ ?_
            simp only [finL, List.getD_cons_zero, List.getD_cons_succ, Nat.zero_add, Nat.reduceAdd, List.setIfInBounds_toArray, List.set_cons_zero, List.set_cons_succ]
            go_wp2
            go_roundw
            case rel => exact ⟨j + 1, by simp, by omega, hW.1⟩
            case measure => simp [vnatR]; omega
        · have hob : (o == (s : Int)) = false := by simpa using ho
          clear ho
          go_wp2
          rename_i Q0 K0 hK
          refine wp_region_any hmx ?_
          refine wpAny_pure (fun i__ => ([(.int .i64 0), (.bool true), (.bool true), (.slice (some ⟨gb, off, none⟩) M cap2), (.int .i64 (j : Int)), (.pointer (some ⟨gb, off + j * 3, none⟩)), (.pointer (some ⟨gb, off + j * 3, none⟩)), (.int .i64 o), (.int .i64 (s : Int)), (.bool false), (.bool false), (.bool false), undef, undef, undef, undef, undef, undef, (.bool false), (.bool false), undef, undef, undef, undef, undef, undef, (.bool false)] : List Value).getD i__ undef) (fun V => JO w (some ⟨gb, off, none⟩) l2 Bw Bn ((s : Int), 0, 1) ((s : Int), 0, 1) V ∧ NtsAt V gb off l2) (by kernel_rfl) (hJ2 _ (Below.refl _ _).drew) ?_ ?_
          · refine (stepsFrom_cons ?_ (stepsFrom_cons ?_ (stepsFrom_cons ?_ (stepsFrom_cons ?_ (stepsFrom_cons ?_ (stepsFrom_cons ?_ (stepsFrom_cons ?_ (stepsFrom_cons ?_ (stepsFrom_cons ?_ (stepsFrom_cons ?_ (stepsFrom_cons ?_ (stepsFrom_cons ?_ (stepsFrom_cons ?_ (stepsFrom_cons ?_ (stepsFrom_cons ?_ (stepsFrom_cons ?_ (stepsFrom_cons ?_ (stepsFrom_cons ?_ (stepsFrom_cons ?_ (stepsFrom_cons ?_ (stepsFrom_cons ?_ (stepsFrom_cons ?_ (stepsFrom_cons ?_ (stepsFrom_cons ?_ (stepsFrom_cons ?_ (stepsFrom_cons ?_ (stepsFrom_cons ?_ trivial)))))))))))))))))))))))))))
            · exact step_move rfl trivial _ rfl (by kernel_rfl)
            · exact step_binOp rfl trivial _ _ _ _ _ _ _ rfl rfl rfl (fun w hw => bin_eqb _ _ _ _ rfl)
            · exact step_move rfl trivial _ rfl (by kernel_rfl)
            · exact step_move rfl (by exact ⟨_, rfl, by kernel_rfl⟩) _ rfl (by kernel_rfl)
            · exact step_move rfl (by exact ⟨_, rfl, by kernel_rfl⟩) _ rfl (by kernel_rfl)
            · exact step_indexAddr rfl (by exact ⟨_, rfl, by kernel_rfl⟩) _ _ _ _ _ rfl rfl rfl (fun w hw => idx_n gb off M cap2 j hjn w)
            · exact step_fieldAddr rfl (by exact ⟨_, rfl, by kernel_rfl⟩) _ _ _ _ rfl rfl (fun w hw => field_at w _ _)
            · exact step_load rfl (by exact ⟨_, rfl, by kernel_rfl⟩) _ _ _ rfl rfl (fun w hw => load_of hw.2 hx)
            · exact step_move rfl (by exact ⟨_, rfl, by kernel_rfl⟩) _ rfl (by kernel_rfl)
            · exact step_binOp rfl (by exact ⟨_, rfl, by kernel_rfl⟩) _ _ _ _ _ _ _ rfl rfl rfl (fun w hw => bin_eqb _ _ _ _ hob)
            · exact step_pick rfl trivial _ _ _ true rfl (by kernel_rfl) (by kernel_rfl)
            · exact step_move rfl trivial _ rfl (by kernel_rfl)
            · exact step_skip rfl 11 true 87 (.bool false) rfl rfl (by kernel_rfl) (by intro h; cases h) rfl
            · exact step_skip rfl 11 true 87 (.bool false) rfl rfl (by kernel_rfl) (by intro h; cases h) rfl
            · exact step_skip rfl 11 true 87 (.bool false) rfl rfl (by kernel_rfl) (by intro h; cases h) rfl
            · exact step_skip rfl 11 true 87 (.bool false) rfl rfl (by kernel_rfl) (by intro h; cases h) rfl
            · exact step_skip rfl 11 true 87 (.bool false) rfl rfl (by kernel_rfl) (by intro h; cases h) rfl
            · exact step_skip rfl 11 true 87 (.bool false) rfl rfl (by kernel_rfl) (by intro h; cases h) rfl
            · exact step_pick rfl trivial _ _ _ false rfl (by kernel_rfl) (by kernel_rfl)
            · exact step_move rfl trivial _ rfl (by kernel_rfl)
            · exact step_skip rfl 19 true 95 (.bool false) rfl rfl (by kernel_rfl) (by intro h; cases h) rfl
            · exact step_skip rfl 19 true 95 (.bool false) rfl rfl (by kernel_rfl) (by intro h; cases h) rfl
            · exact step_skip rfl 19 true 95 (.bool false) rfl rfl (by kernel_rfl) (by intro h; cases h) rfl
            · exact step_skip rfl 19 true 95 (.bool false) rfl rfl (by kernel_rfl) (by intro h; cases h) rfl
            · exact step_skip rfl 19 true 95 (.bool false) rfl rfl (by kernel_rfl) (by intro h; cases h) rfl
            · exact step_skip rfl 19 true 95 (.bool false) rfl rfl (by kernel_rfl) (by intro h; cases h) rfl
            · exact step_pick rfl trivial _ _ _ false rfl (by kernel_rfl) (by kernel_rfl)
          intro W hW
          first | refine hK _ _ ?_ | refine (‹∀ (a : Act) (w : World), Code.wp Try.prog _ _ a w → _›) _ _ ?_
          simp only [finL, List.getD_cons_zero, List.getD_cons_succ, Nat.zero_add, Nat.reduceAdd, List.setIfInBounds_toArray, List.set_cons_zero, List.set_cons_succ]
          go_wp2
          go_roundw
          case rel => exact ⟨j + 1, by simp, by omega, hW.1⟩
          case measure => simp [vnatR]; omega
      · have hkk : j = M := by omega
        subst hkk
        have c0 := hj.was.c0
        have k0 := hal wr
        go_wp2_with (go_at_call 8; (with_reducible refine k0.mono ?_); rintro e z1 ⟨rfl, hz1⟩; have hz := hj.carry hz1; have d0 := hz.was.c0; have d1 := hz.was.c1; have d2 := hz.was.c2; have e0 := hz.now.c0; have e1 := hz.now.c1; have e2 := hz.now.c2; dsimp only at d0 d1 d2 e0 e1 e2)
        go_ret
        exact ⟨by simp, hz.be⟩
  · have HG : Hid (∀ x ∈ l2, x.1 = (s : Int) → x.2.2 = 2 → bt x.1 x.2.1 x.2.2 (s : Int) tt 2 = false) := HF.out rfl
    clear HF
    go_enter Try.func5, Try.ntmps5
    go_wp2_with (first
      | (have m := st4; go_at_call 12; (with_reducible refine st4.mono ?_); rintro e u4 ⟨rfl, hu4⟩; obtain ⟨x4, hx4⟩ : ∃ x4, u4.alloc (.cells #[.int .i64 (s : Int), .int .i64 tt, .int .i64 2] 32) = x4 := ⟨_, rfl⟩; have Bx4 : Below u4.heap.size u4 x4 := (by rw [← hx4]; exact al1 _ _); have Nx4 : NB x4 u4.heap.size (s : Int) tt 2 := (by rw [← hx4]; exact NB.new _ _ _ _); have Y4 := bel2 (bel2 Y3 hu4) Bx4; have n4 := (n3.carry hu4).carry Bx4; have ya0 := n4.c0; have ya1 := n4.c1; have ya2 := n4.c2; have yb0 := Nx4.c0; have yb1 := Nx4.c1; have yb2 := Nx4.c2; clear m)
      | (have m := st3; go_at_call 13; (with_reducible refine st3.mono ?_); rintro e u3 ⟨rfl, hk3, hg3⟩; obtain ⟨x3, hx3⟩ : ∃ x3, u3.alloc (.cells #[.int .u32 (wd R 0 : Nat), .int .u32 (wd R 1 : Nat), .int .u32 (wd R 2 : Nat), .int .u32 (wd R 3 : Nat)] 37) = x3 := ⟨_, rfl⟩; have Bx3 : Below u3.heap.size u3 x3 := (by rw [← hx3]; exact al1 _ _); have Y3 := bel2 (grown_new Y2 hg3 hg) Bx3; have n3 := NB.carry ((hg3.block _ Nx2.lt (by simp; omega)).trans Nx2) Bx3; have st4 := hat1 x3 p g (hk3.carry Bx3); clear m st3)
      | (have m := st2; go_at_call 12; (with_reducible refine st2.mono ?_); rintro e u2 ⟨rfl, hu2⟩; obtain ⟨x2, hx2⟩ : ∃ x2, u2.alloc (.cells #[.int .i64 (s : Int), .int .i64 0, .int .i64 1] 32) = x2 := ⟨_, rfl⟩; have Bx2 : Below u2.heap.size u2 x2 := (by rw [← hx2]; exact al1 _ _); have Nx2 : NB x2 u2.heap.size (s : Int) 0 1 := (by rw [← hx2]; exact NB.new _ _ _ _); have Y2 := bel2 (bel2 hb1 hu2) Bx2; have hgl2 : g < u2.heap.size := (hk.carry hu2).glt; have st3 := HAB.out x2 p g ((hk.carry hu2).carry Bx2) Y2; clear m st2)
      | (go_at_call 9; (with_reducible refine (hmd _).mono ?_); rintro e u1 ⟨p, g, rfl, hp, hg, hk, hb1⟩; have st2 := hat0 u1 p g hk)
      | (go_at_call 7; (with_reducible refine (hl2 _).mono ?_); rintro e u ⟨rfl, hu⟩; obtain rfl := hu.symm))
    have hJ0 : JO w ad2 l2 u2.heap.size u4.heap.size ((s : Int), 0, 1) ((s : Int), tt, 2) x4 := ⟨HW2.out.carry Y4, n4, Nx4, Y4⟩
    obtain ⟨Bw, hBw⟩ : ∃ B, u2.heap.size = B := ⟨_, rfl⟩
    obtain ⟨Bn, hBn⟩ : ∃ B, u4.heap.size = B := ⟨_, rfl⟩
    rw [hBw, hBn] at hJ0 ⊢
    go_loopw [14] (fun i wz => ∃ (j : Nat), i = .int .i64 j ∧ j ≤ M ∧ JO w ad2 l2 Bw Bn ((s : Int), 0, 1) ((s : Int), tt, 2) wz) (fun i _ => M - vnatR i)
    case atStart => exact ⟨0, rfl, Nat.zero_le _, hJ0⟩
    case round =>
      clear hJ0
      obtain ⟨j, rfl, hjl, hj⟩ := hrel
      by_cases hjn : j < M
      · have hji : (j : Int) < (M : Int) := by omega
        have hjn2 : j < l2.length := by rw [HM.out]; exact hjn
        obtain ⟨⟨o, t, q⟩, hx⟩ : ∃ x, l2[j]? = some x := ⟨_, List.getElem?_eq_getElem hjn2⟩
        obtain ⟨gb, off, rfl, hgl, hnt⟩ := hj.rd (fun e => by rw [e] at hjn2; simp at hjn2)
        have hJc : ∀ {V V' : World}, (JO w (some ⟨gb, off, none⟩) l2 Bw Bn ((s : Int), 0, 1) ((s : Int), tt, 2) V ∧ NtsAt V gb off l2) → Below V.heap.size V V' → (JO w (some ⟨gb, off, none⟩) l2 Bw Bn ((s : Int), 0, 1) ((s : Int), tt, 2) V' ∧ NtsAt V' gb off l2) := fun {V V'} h hb => ⟨h.1.carry hb, by
          obtain ⟨b1, o1, e1, h1, h2⟩ := h.1.rd (fun e => by rw [e] at hjn2; simp at hjn2)
          cases e1
          exact h2.carry h1 hb⟩
        have hJ2 : ∀ V, Below wr.heap.size wr V → (JO w (some ⟨gb, off, none⟩) l2 Bw Bn ((s : Int), 0, 1) ((s : Int), tt, 2) V ∧ NtsAt V gb off l2) := fun V hV => hJc ⟨hj, hnt⟩ hV
        have HBF : Hid (o = (s : Int) → q = 2 → bt o t q (s : Int) tt 2 = false) := fun h1 h2 => HG.out _ (List.mem_of_getElem? hx) h1 h2
        have hmx : Try.prog.follows .mixedOrders = true := by kernel_rfl
        clear hnt hjn2
        by_cases ho : o = (s : Int)
        · have hob : (o == (s : Int)) = true := by simpa using ho
          by_cases hq : q = 2
          · have hqb : (q == 2) = true := by simpa using hq
            have hbf := beats_any o t q (s : Int) tt 2
            rw [HBF.out ho hq] at hbf
            clear ho hq
            go_wp2
            rename_i Q0 K0 hK
            refine wp_region_any hmx ?_
            refine wpAny_pure (fun i__ => ([(.int .i64 0), (.bool true), (.bool true), (.slice (some ⟨gb, off, none⟩) M cap2), (.int .i64 (j : Int)), (.pointer (some ⟨gb, off + j * 3, none⟩)), (.pointer (some ⟨gb, off + j * 3, none⟩)), (.int .i64 o), (.int .i64 (s : Int)), (.bool true), (.bool true), (.bool true), (.slice (some ⟨gb, off, none⟩) M cap2), (.int .i64 (j : Int)), (.pointer (some ⟨gb, off + j * 3, none⟩)), (.pointer (some ⟨gb, off + j * 3 + 2, none⟩)), (.int .i64 q), (.bool true), (.bool true), (.bool true), (.slice (some ⟨gb, off, none⟩) M cap2), (.int .i64 (j : Int)), (.pointer (some ⟨gb, off + j * 3, none⟩)), (nt o t q), (nt (s : Int) tt 2), (.bool false), (.bool false)] : List Value).getD i__ undef) (fun V => JO w (some ⟨gb, off, none⟩) l2 Bw Bn ((s : Int), 0, 1) ((s : Int), tt, 2) V ∧ NtsAt V gb off l2) (by kernel_rfl) (hJ2 _ (Below.refl _ _).drew) ?_ ?_
            · refine (stepsFrom_cons ?_ (stepsFrom_cons ?_ (stepsFrom_cons ?_ (stepsFrom_cons ?_ (stepsFrom_cons ?_ (stepsFrom_cons ?_ (stepsFrom_cons ?_ (stepsFrom_cons ?_ (stepsFrom_cons ?_ (stepsFrom_cons ?_ (stepsFrom_cons ?_ (stepsFrom_cons ?_ (stepsFrom_cons ?_ (stepsFrom_cons ?_ (stepsFrom_cons ?_ (stepsFrom_cons ?_ (stepsFrom_cons ?_ (stepsFrom_cons ?_ (stepsFrom_cons ?_ (stepsFrom_cons ?_ (stepsFrom_cons ?_ (stepsFrom_cons ?_ (stepsFrom_cons ?_ (stepsFrom_cons ?_ (stepsFrom_cons ?_ (stepsFrom_cons ?_ (stepsFrom_cons ?_ trivial)))))))))))))))))))))))))))
              · exact step_move rfl trivial _ rfl (by kernel_rfl)
              · exact step_binOp rfl trivial _ _ _ _ _ _ _ rfl rfl rfl (fun w hw => bin_eqb _ _ _ _ rfl)
              · exact step_move rfl trivial _ rfl (by kernel_rfl)
              · exact step_move rfl (by exact ⟨_, rfl, by kernel_rfl⟩) _ rfl (by kernel_rfl)
              · exact step_move rfl (by exact ⟨_, rfl, by kernel_rfl⟩) _ rfl (by kernel_rfl)
              · exact step_indexAddr rfl (by exact ⟨_, rfl, by kernel_rfl⟩) _ _ _ _ _ rfl rfl rfl (fun w hw => idx_n gb off M cap2 j hjn w)
              · exact step_fieldAddr rfl (by exact ⟨_, rfl, by kernel_rfl⟩) _ _ _ _ rfl rfl (fun w hw => field_at w _ _)
              · exact step_load rfl (by exact ⟨_, rfl, by kernel_rfl⟩) _ _ _ rfl rfl (fun w hw => load_of hw.2 hx)
              · exact step_move rfl (by exact ⟨_, rfl, by kernel_rfl⟩) _ rfl (by kernel_rfl)
              · exact step_binOp rfl (by exact ⟨_, rfl, by kernel_rfl⟩) _ _ _ _ _ _ _ rfl rfl rfl (fun w hw => bin_eqb _ _ _ _ hob)
              · exact step_pick rfl trivial _ _ _ true rfl (by kernel_rfl) (by kernel_rfl)
              · exact step_move rfl trivial _ rfl (by kernel_rfl)
              · exact step_move rfl (by exact ⟨_, rfl, by kernel_rfl⟩) _ rfl (by kernel_rfl)
              · exact step_move rfl (by exact ⟨_, rfl, by kernel_rfl⟩) _ rfl (by kernel_rfl)
              · exact step_indexAddr rfl (by exact ⟨_, rfl, by kernel_rfl⟩) _ _ _ _ _ rfl rfl rfl (fun w hw => idx_n gb off M cap2 j hjn w)
              · exact step_fieldAddr rfl (by exact ⟨_, rfl, by kernel_rfl⟩) _ _ _ _ rfl rfl (fun w hw => field_at2 w _ _)
              · exact step_load rfl (by exact ⟨_, rfl, by kernel_rfl⟩) _ _ _ rfl rfl (fun w hw => load_of2 (nts_idx hw.2 hx))
              · exact step_binOp rfl (by exact ⟨_, rfl, by kernel_rfl⟩) _ _ _ _ _ _ _ rfl rfl rfl (fun w hw => bin_eqb _ _ _ _ hqb)
              · exact step_pick rfl trivial _ _ _ true rfl (by kernel_rfl) (by kernel_rfl)
              · exact step_move rfl trivial _ rfl (by kernel_rfl)
              · exact step_move rfl (by exact ⟨_, rfl, by kernel_rfl⟩) _ rfl (by kernel_rfl)
              · exact step_move rfl (by exact ⟨_, rfl, by kernel_rfl⟩) _ rfl (by kernel_rfl)
              · exact step_indexAddr rfl (by exact ⟨_, rfl, by kernel_rfl⟩) _ _ _ _ _ rfl rfl rfl (fun w hw => idx_n gb off M cap2 j hjn w)
              · exact step_load rfl (by exact ⟨_, rfl, by kernel_rfl⟩) _ _ _ rfl rfl (fun w hw => load_at hw.2 hx)
              · exact step_load rfl (by exact ⟨_, rfl, by kernel_rfl⟩) _ _ _ rfl rfl (fun w hw => load_nt hw.1.now)
              · exact step_call rfl (by exact ⟨_, rfl, by kernel_rfl⟩) 15 _ _ [(nt o t q), (nt (s : Int) tt 2)] rfl (by kernel_rfl) (enters_of Try.func15 (by kernel_rfl) rfl) (fun w hw => (hbf w).mono (by rintro e w' ⟨rfl, hb⟩; exact ⟨rfl, hJc hw hb⟩))
              · exact step_pick rfl trivial _ _ _ true rfl (by kernel_rfl) (by kernel_rfl)
            intro W hW
            first | refine hK _ _ ?_ | refine (‹∀ (a : Act) (w : World), Code.wp Try.prog _ _ a w → _›) _ _ ?_
            simp only [finL, List.getD_cons_zero, List.getD_cons_succ, Nat.zero_add, Nat.reduceAdd, List.setIfInBounds_toArray, List.set_cons_zero, List.set_cons_succ]
            go_wp2
            go_roundw
            case rel => exact ⟨j + 1, by simp, by omega, hW.1⟩
            case measure => simp [vnatR]; omega
          · have hqb : (q == 2) = false := by simpa using hq
            clear ho hq
            go_wp2
            rename_i Q0 K0 hK
            refine wp_region_any hmx ?_
            refine wpAny_pure (fun i__ => ([(.int .i64 0), (.bool true), (.bool true), (.slice (some ⟨gb, off, none⟩) M cap2), (.int .i64 (j : Int)), (.pointer (some ⟨gb, off + j * 3, none⟩)), (.pointer (some ⟨gb, off + j * 3, none⟩)), (.int .i64 o), (.int .i64 (s : Int)), (.bool true), (.bool true), (.bool true), (.slice (some ⟨gb, off, none⟩) M cap2), (.int .i64 (j : Int)), (.pointer (some ⟨gb, off + j * 3, none⟩)), (.pointer (some ⟨gb, off + j * 3 + 2, none⟩)), (.int .i64 q), (.bool false), (.bool false), (.bool false), undef, undef, undef, undef, undef, undef, (.bool false)] : List Value).getD i__ undef) (fun V => JO w (some ⟨gb, off, none⟩) l2 Bw Bn ((s : Int), 0, 1) ((s : Int), tt, 2) V ∧ NtsAt V gb off l2) (by kernel_rfl) (hJ2 _ (Below.refl _ _).drew) ?_ ?_
            · refine (stepsFrom_cons ?_ (stepsFrom_cons ?_ (stepsFrom_cons ?_ (stepsFrom_cons ?_ (stepsFrom_cons ?_ (stepsFrom_cons ?_ (stepsFrom_cons ?_ (stepsFrom_cons ?_ (stepsFrom_cons ?_ (stepsFrom_cons ?_ (stepsFrom_cons ?_ (stepsFrom_cons ?_ (stepsFrom_cons ?_ (stepsFrom_cons ?_ (stepsFrom_cons ?_ (stepsFrom_cons ?_ (stepsFrom_cons ?_ (stepsFrom_cons ?_ (stepsFrom_cons ?_ (stepsFrom_cons ?_ (stepsFrom_cons ?_ (stepsFrom_cons ?_ (stepsFrom_cons ?_ (stepsFrom_cons ?_ (stepsFrom_cons ?_ (stepsFrom_cons ?_ (stepsFrom_cons ?_ trivial)))))))))))))))))))))))))))
              · exact step_move rfl trivial _ rfl (by kernel_rfl)
              · exact step_binOp rfl trivial _ _ _ _ _ _ _ rfl rfl rfl (fun w hw => bin_eqb _ _ _ _ rfl)
              · exact step_move rfl trivial _ rfl (by kernel_rfl)
              · exact step_move rfl (by exact ⟨_, rfl, by kernel_rfl⟩) _ rfl (by kernel_rfl)
              · exact step_move rfl (by exact ⟨_, rfl, by kernel_rfl⟩) _ rfl (by kernel_rfl)
              · exact step_indexAddr rfl (by exact ⟨_, rfl, by kernel_rfl⟩) _ _ _ _ _ rfl rfl rfl (fun w hw => idx_n gb off M cap2 j hjn w)
              · exact step_fieldAddr rfl (by exact ⟨_, rfl, by kernel_rfl⟩) _ _ _ _ rfl rfl (fun w hw => field_at w _ _)
              · exact step_load rfl (by exact ⟨_, rfl, by kernel_rfl⟩) _ _ _ rfl rfl (fun w hw => load_of hw.2 hx)
              · exact step_move rfl (by exact ⟨_, rfl, by kernel_rfl⟩) _ rfl (by kernel_rfl)
              · exact step_binOp rfl (by exact ⟨_, rfl, by kernel_rfl⟩) _ _ _ _ _ _ _ rfl rfl rfl (fun w hw => bin_eqb _ _ _ _ hob)
              · exact step_pick rfl trivial _ _ _ true rfl (by kernel_rfl) (by kernel_rfl)
              · exact step_move rfl trivial _ rfl (by kernel_rfl)
              · exact step_move rfl (by exact ⟨_, rfl, by kernel_rfl⟩) _ rfl (by kernel_rfl)
              · exact step_move rfl (by exact ⟨_, rfl, by kernel_rfl⟩) _ rfl (by kernel_rfl)
              · exact step_indexAddr rfl (by exact ⟨_, rfl, by kernel_rfl⟩) _ _ _ _ _ rfl rfl rfl (fun w hw => idx_n gb off M cap2 j hjn w)
              · exact step_fieldAddr rfl (by exact ⟨_, rfl, by kernel_rfl⟩) _ _ _ _ rfl rfl (fun w hw => field_at2 w _ _)
              · exact step_load rfl (by exact ⟨_, rfl, by kernel_rfl⟩) _ _ _ rfl rfl (fun w hw => load_of2 (nts_idx hw.2 hx))
              · exact step_binOp rfl (by exact ⟨_, rfl, by kernel_rfl⟩) _ _ _ _ _ _ _ rfl rfl rfl (fun w hw => bin_eqb _ _ _ _ hqb)
              · exact step_pick rfl trivial _ _ _ true rfl (by kernel_rfl) (by kernel_rfl)
              · exact step_move rfl trivial _ rfl (by kernel_rfl)
              · exact step_skip rfl 19 true 95 (.bool false) rfl rfl (by kernel_rfl) (by intro h; cases h) rfl
              · exact step_skip rfl 19 true 95 (.bool false) rfl rfl (by kernel_rfl) (by intro h; cases h) rfl
              · exact step_skip rfl 19 true 95 (.bool false) rfl rfl (by kernel_rfl) (by intro h; cases h) rfl
              · exact step_skip rfl 19 true 95 (.bool false) rfl rfl (by kernel_rfl) (by intro h; cases h) rfl
              · exact step_skip rfl 19 true 95 (.bool false) rfl rfl (by kernel_rfl) (by intro h; cases h) rfl
              · exact step_skip rfl 19 true 95 (.bool false) rfl rfl (by kernel_rfl) (by intro h; cases h) rfl
              · exact step_pick rfl trivial _ _ _ false rfl (by kernel_rfl) (by kernel_rfl)
            intro W hW
            first | refine hK _ _ ?_ | refine (‹∀ (a : Act) (w : World), Code.wp Try.prog _ _ a w → _›) _ _ ?_
            simp only [finL, List.getD_cons_zero, List.getD_cons_succ, Nat.zero_add, Nat.reduceAdd, List.setIfInBounds_toArray, List.set_cons_zero, List.set_cons_succ]
            go_wp2
            go_roundw
            case rel => exact ⟨j + 1, by simp, by omega, hW.1⟩
            case measure => simp [vnatR]; omega
        · have hob : (o == (s : Int)) = false := by simpa using ho
          clear ho
          go_wp2
          rename_i Q0 K0 hK
          refine wp_region_any hmx ?_
          refine wpAny_pure (fun i__ => ([(.int .i64 0), (.bool true), (.bool true), (.slice (some ⟨gb, off, none⟩) M cap2), (.int .i64 (j : Int)), (.pointer (some ⟨gb, off + j * 3, none⟩)), (.pointer (some ⟨gb, off + j * 3, none⟩)), (.int .i64 o), (.int .i64 (s : Int)), (.bool false), (.bool false), (.bool false), undef, undef, undef, undef, undef, undef, (.bool false), (.bool false), undef, undef, undef, undef, undef, undef, (.bool false)] : List Value).getD i__ undef) (fun V => JO w (some ⟨gb, off, none⟩) l2 Bw Bn ((s : Int), 0, 1) ((s : Int), tt, 2) V ∧ NtsAt V gb off l2) (by kernel_rfl) (hJ2 _ (Below.refl _ _).drew) ?_ ?_
          · refine (stepsFrom_cons ?_ (stepsFrom_cons ?_ (stepsFrom_cons ?_ (stepsFrom_cons ?_ (stepsFrom_cons ?_ (stepsFrom_cons ?_ (stepsFrom_cons ?_ (stepsFrom_cons ?_ (stepsFrom_cons ?_ (stepsFrom_cons ?_ (stepsFrom_cons ?_ (stepsFrom_cons ?_ (stepsFrom_cons ?_ (stepsFrom_cons ?_ (stepsFrom_cons ?_ (stepsFrom_cons ?_ (stepsFrom_cons ?_ (stepsFrom_cons ?_ (stepsFrom_cons ?_ (stepsFrom_cons ?_ (stepsFrom_cons ?_ (stepsFrom_cons ?_ (stepsFrom_cons ?_ (stepsFrom_cons ?_ (stepsFrom_cons ?_ (stepsFrom_cons ?_ (stepsFrom_cons ?_ trivial)))))))))))))))))))))))))))
            · exact step_move rfl trivial _ rfl (by kernel_rfl)
            · exact step_binOp rfl trivial _ _ _ _ _ _ _ rfl rfl rfl (fun w hw => bin_eqb _ _ _ _ rfl)
            · exact step_move rfl trivial _ rfl (by kernel_rfl)
            · exact step_move rfl (by exact ⟨_, rfl, by kernel_rfl⟩) _ rfl (by kernel_rfl)
            · exact step_move rfl (by exact ⟨_, rfl, by kernel_rfl⟩) _ rfl (by kernel_rfl)
            · exact step_indexAddr rfl (by exact ⟨_, rfl, by kernel_rfl⟩) _ _ _ _ _ rfl rfl rfl (fun w hw => idx_n gb off M cap2 j hjn w)
            · exact step_fieldAddr rfl (by exact ⟨_, rfl, by kernel_rfl⟩) _ _ _ _ rfl rfl (fun w hw => field_at w _ _)
            · exact step_load rfl (by exact ⟨_, rfl, by kernel_rfl⟩) _ _ _ rfl rfl (fun w hw => load_of hw.2 hx)
            · exact step_move rfl (by exact ⟨_, rfl, by kernel_rfl⟩) _ rfl (by kernel_rfl)
            · exact step_binOp rfl (by exact ⟨_, rfl, by kernel_rfl⟩) _ _ _ _ _ _ _ rfl rfl rfl (fun w hw => bin_eqb _ _ _ _ hob)
            · exact step_pick rfl trivial _ _ _ true rfl (by kernel_rfl) (by kernel_rfl)
            · exact step_move rfl trivial _ rfl (by kernel_rfl)
            · exact step_skip rfl 11 true 87 (.bool false) rfl rfl (by kernel_rfl) (by intro h; cases h) rfl
            · exact step_skip rfl 11 true 87 (.bool false) rfl rfl (by kernel_rfl) (by intro h; cases h) rfl
            · exact step_skip rfl 11 true 87 (.bool false) rfl rfl (by kernel_rfl) (by intro h; cases h) rfl
            · exact step_skip rfl 11 true 87 (.bool false) rfl rfl (by kernel_rfl) (by intro h; cases h) rfl
            · exact step_skip rfl 11 true 87 (.bool false) rfl rfl (by kernel_rfl) (by intro h; cases h) rfl
            · exact step_skip rfl 11 true 87 (.bool false) rfl rfl (by kernel_rfl) (by intro h; cases h) rfl
            · exact step_pick rfl trivial _ _ _ false rfl (by kernel_rfl) (by kernel_rfl)
            · exact step_move rfl trivial _ rfl (by kernel_rfl)
            · exact step_skip rfl 19 true 95 (.bool false) rfl rfl (by kernel_rfl) (by intro h; cases h) rfl
            · exact step_skip rfl 19 true 95 (.bool false) rfl rfl (by kernel_rfl) (by intro h; cases h) rfl
            · exact step_skip rfl 19 true 95 (.bool false) rfl rfl (by kernel_rfl) (by intro h; cases h) rfl
            · exact step_skip rfl 19 true 95 (.bool false) rfl rfl (by kernel_rfl) (by intro h; cases h) rfl
            · exact step_skip rfl 19 true 95 (.bool false) rfl rfl (by kernel_rfl) (by intro h; cases h) rfl
            · exact step_skip rfl 19 true 95 (.bool false) rfl rfl (by kernel_rfl) (by intro h; cases h) rfl
            · exact step_pick rfl trivial _ _ _ false rfl (by kernel_rfl) (by kernel_rfl)
          intro W hW
          first | refine hK _ _ ?_ | refine (‹∀ (a : Act) (w : World), Code.wp Try.prog _ _ a w → _›) _ _ ?_
          simp only [finL, List.getD_cons_zero, List.getD_cons_succ, Nat.zero_add, Nat.reduceAdd, List.setIfInBounds_toArray, List.set_cons_zero, List.set_cons_succ]
          go_wp2
          go_roundw
          case rel => exact ⟨j + 1, by simp, by omega, hW.1⟩
          case measure => simp [vnatR]; omega
      · have hkk : j = M := by omega
        subst hkk
        have c0 := hj.was.c0
        have k0 := hal wr
        go_wp2_with (go_at_call 8; (with_reducible refine k0.mono ?_); rintro e z1 ⟨rfl, hz1⟩; have hz := hj.carry hz1; have d0 := hz.was.c0; have d1 := hz.was.c1; have d2 := hz.was.c2; have e0 := hz.now.c0; have e1 := hz.now.c1; have e2 := hz.now.c2; dsimp only at d0 d1 d2 e0 e1 e2)
        go_ret
        exact ⟨by simp, hz.be⟩

set_option maxRecDepth 100000 in
theorem lifted (os : Os) (started : os.Started) (H : Type) (enc : TypeId × Value → H) :
    ReturnsInHanded {} Try.checked os 5 .any (Rows.spreadOwnSpec.pre6 enc Try.prog Try.f5 Rows.spreadOwnRow.domain false) (Rows.spreadOwnSpec.post enc Try.prog Try.f5 false true false false) := by
  refine returnsInHanded_of_change (C := Try.checked) own started (by kernel_rfl) Try.func5
    (ChangeSpec.witness6 (enc := enc) (C := Try.checked) false ⟨#[], #[.int .i64 0, .int .i64 0, .slice none 0 0], []⟩ 8 (by kernel_rfl) (by kernel_rfl) (by kernel_rfl) (by kernel_rfl)) ?_
  intro W base args ds gs before hval0 hW hcnd _
  have hval : ∀ (j : Nat) t v, Try.f5.params[j]? = some t → args[j]? = some v → Value.okWide Try.prog W .any base t v := hval0
  have hW' := hW
  obtain ⟨p, q, hA0, hV, rfl, hfz, hnd⟩ := hW
  have hA : DataW.TrodAll enc Try.prog W 0 (fun _ => true) true Try.f5.params.toList args.toList ds p := hA0
  rw [Try.params5] at hA hval
  obtain ⟨v0, vs0, d0, ds0, p0, q0, hargs, rfl, rfl, h0, r0⟩ := trodAll_cons hA
  obtain ⟨v1, vs1, d1, ds1, p1, q1, rfl, rfl, rfl, h1, r1⟩ := trodAll_cons r0
  obtain ⟨v2, vs2, d2, ds2, p2, q2, rfl, rfl, rfl, h2, r2⟩ := trodAll_cons r1
  obtain ⟨rfl, rfl, rfl⟩ := trodAll_nil r2
  obtain rfl : args = #[v0, v1, v2] := by cases args; simp_all
  obtain ⟨rfl, rfl⟩ := trodVars_none hV
  obtain ⟨a0, rfl, rfl, rfl, w0⟩ := open_int Try.underlying3 (hval 0 3 v0 rfl rfl) h0
  obtain ⟨a1, rfl, rfl, rfl, w1⟩ := open_int Try.underlying3 (hval 1 3 v1 rfl rfl) h1
  have k2 := h2
  have lt2 : ∀ x ∈ p2, x.block < W.heap.size := by obtain ⟨m, hm⟩ := k2; exact DataW.trod_lt m _ _ _ hm
  obtain ⟨ad2, cap2, l2, rfl, w2, hc2, hq2, hd2⟩ := open_nts (hval 2 22 v2 rfl rfl) h2
  clear hA0 hval0
  refine (walk W a0 w0 a1 w1 ad2 cap2 l2 w2 hc2 hq2).mono fun e W' ⟨he, hg⟩ => ?_
  subst he
  exact ⟨_, rfl, _, _, _, [], _, [], hW', (trodAll_cons_mk (shut_bool Try.underlying4 _) trodAll_mk0), (trodAll_cons_mk (shut_int Try.underlying3 w0) (trodAll_cons_mk (shut_int Try.underlying3 w1) (trodAll_cons_mk (Below.trod laidOut (by kernel_rfl) (of_decide_eq_true (by kernel_rfl)) k2 hg lt2) trodAll_mk0))), rfl, hg.frame _, fun h => by cases h⟩

theorem over : Rows.spreadOwnRow.holds Try.pinned (OpenSpec.ofChange Rows.spreadOwnSpec) :=
  OpenClaim.holds_of_wide 5 Try.f5 rfl rfl rfl rfl rfl rfl rfl ⟨rfl, rfl, rfl, rfl, rfl⟩ rfl rfl rfl rfl rfl (by kernel_rfl) Try.func5 (by kernel_rfl)
    (of_decide_eq_true (by kernel_rfl)) (by unfold Func.isWrapper; first | (rw [if_pos (by decide +kernel)]; kernel_rfl) | (rw [if_neg (by decide +kernel)]; exact ⟨rfl, rfl⟩))
    (fun os started H enc _ => lifted os started H enc)

theorem proved : Rows.SpreadOwnSaid :=
  over
#print axioms proved
end Go.Proofs.Ytddblfffjhoiaaa
