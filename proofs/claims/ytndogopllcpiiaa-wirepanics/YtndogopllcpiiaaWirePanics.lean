/- WirePanics: at all bytes and every number of nodes: of three calls the one of the packet's kind tells the note, the others panic with a value of the type error; of a packet without a note all three do; no condition. -/
import Derived.Test.YtndogopllcpiiaaRows
import Derived.WalkKit
import Derived.ProofKit
import Derived.OpenShut
import Derived.Test.YtndogopllcpiiaaWsx
import Derived.Test.YtndogopllcpiiaaOpb
namespace Go.Proofs.Ytndogopllcpiiaa
open Go.ChangeShapes Go.WideShapes Go.ChangeAt Go.RowKit
set_option linter.unusedVariables false

theorem laidOut : laidOutB Try.prog = true := by kernel_rfl
theorem own : ownKnob Try.prog.godebug = none := by kernel_rfl
open Go.Shelf Go.Lib
set_option maxHeartbeats 8000000 in
set_option maxRecDepth 100000 in
theorem walk (w : World) (ad0 : Option Addr) (cap0 : Nat) (l0 : List Nat) (w0 : RdB w ad0 l0) (hb0 : Byt l0) (hc0 : l0.length ≤ cap0) (hm0 : cap0 ≤ maxLen) (a1 : Int) (w1 : (Lit.int .i64 a1).wf = true) :
    Calls Try.prog 3 #[.slice ad0 l0.length cap0, .int .i64 a1] w fun e w' => e = .returned (.bool true) ∧ Below w.heap.size w w' := by
  have hal := alive_any
  by_cases h5 : 5000 < l0.length
  · have h5i : (5000 : Int) < (l0.length : Int) := by omega
    go_enter Try.func3, Try.ntmps3
    go_wp2_with (go_at_call 8; (with_reducible refine (hal _).mono ?_); rintro e wv ⟨rfl, hbv⟩)
    go_ret
    exact ⟨rfl, hbv⟩
  have h5i : ¬ (5000 : Int) < (l0.length : Int) := by omega
  have nn := nil_no
  have ny := nil_yes
  cases hd : dec a1 l0 with
  | error er =>
    have hop := open_err ad0 cap0 l0 a1 w w0 hb0 hc0 er hd
    have her : (er != 0) = true := by simpa using dec_err hd
    have her2 : (er == 0) = false := by simpa using dec_err hd
    have hpn := pnote_nil
    have htnQ := fun W => tookQ_no .nilIface W dieN_Q (Or.inl rfl)
    have htnP := fun W => tookP_no .nilIface W dieN_P (Or.inl rfl)
    have htnU := fun W => tookU_no .nilIface W dieN_U (Or.inl rfl)
    clear hd
    go_enter Try.func3, Try.ntmps3
    go_wp2_with (first | (go_at_call 9; (with_reducible refine hop.mono ?_); rintro e u1 ⟨rfl, hb1⟩; have hbU1 := bel2 hb1 (al1' u1 (.cells #[.nilIface] 27)); have hP1 : (u1.alloc (.cells #[.nilIface] 27)).heap[u1.heap.size]? = some (.cells #[.nilIface] 27 (0, 0)) := new_at rfl) | (go_at_call 10; (with_reducible refine (hpn _).mono ?_); rintro e u2 ⟨rfl, hb2⟩; have hbU2 := bel2 hbU1 hb2; have hP2 := (hb2.block _ (lt_at hP1)).trans hP1))
    go_loopw [8] (fun cv wz => ∃ k : Int, cv = .int .i64 k ∧ (k = 1 ∨ k = 2 ∨ k = 3 ∨ k = 4) ∧ Below w.heap.size w wz ∧ wz.heap[u1.heap.size]? = some (.cells #[.nilIface] 27 (0, 0))) (fun cv _ => 4 - vnatW cv)
    case atStart => exact ⟨1, rfl, Or.inl rfl, hbU2, hP2⟩
    case round =>
      obtain ⟨k, rfl, hk, hbw, hPw⟩ := hrel
      have cP := cell_at hPw 0
      simp at cP
      rcases hk with rfl | rfl | rfl | rfl
      · have hki : (1 : Int) ≤ 3 := by decide
        go_wp2_with (first | (go_at_call 11; (with_reducible refine (htnQ _).mono ?_); rintro e u3 ⟨rfl, hb3⟩; have hbU3 := bel2 hbw hb3))
        go_roundw
        case rel => exact ⟨2, by simp, by simp, hbU3, (hb3.block _ (lt_at hPw)).trans hPw⟩
        case measure => simp [vnatW]
      · have hki : (2 : Int) ≤ 3 := by decide
        go_wp2_with (first | (go_at_call 11; (with_reducible refine (htnP _).mono ?_); rintro e u3 ⟨rfl, hb3⟩; have hbU3 := bel2 hbw hb3))
        go_roundw
        case rel => exact ⟨3, by simp, by simp, hbU3, (hb3.block _ (lt_at hPw)).trans hPw⟩
        case measure => simp [vnatW]
      · have hki : (3 : Int) ≤ 3 := by decide
        go_wp2_with (first | (go_at_call 11; (with_reducible refine (htnU _).mono ?_); rintro e u3 ⟨rfl, hb3⟩; have hbU3 := bel2 hbw hb3))
        go_roundw
        case rel => exact ⟨4, by simp, by simp, hbU3, (hb3.block _ (lt_at hPw)).trans hPw⟩
        case measure => simp [vnatW]
      · go_wp2_with (go_at_call 8; (with_reducible refine (hal _).mono ?_); rintro e wv ⟨rfl, hbv⟩)
        go_ret
        exact ⟨rfl, bel2 hbw hbv⟩
  | ok q =>
    obtain ⟨kd, fr, rd, N, l⟩ := q
    obtain ⟨kd', fr', rd', N', l', he, hk, hf, hr3, hN2, hN, hbs⟩ := dec_inv hb0 hd
    cases he
    have hll : l.length ≤ 1024 := by
      obtain ⟨h1, _, _, _, hri⟩ := flt_0 hf
      have := ris_len a1.toNat l (-1) (by omega) (by omega) (by rw [show ((a1.toNat : Nat) : Int) = a1 by omega]; exact hri)
      omega
    have hop := open_ok ad0 cap0 l0 a1 w w0 hb0 hc0 kd fr rd N l hd
    clear hbs hd hf hr3 hN2 hN hb0 w0
    rcases (show kd = 1 ∨ kd = 2 ∨ kd = 3 by omega) with rfl | rfl | rfl
    · have hop2 : Calls Try.prog 9 #[.slice ad0 l0.length cap0, .int .i64 a1] w fun e w' => ∃ a c, e = .returned (.tuple #[.agg #[.iface 47 (.agg #[.int .i64 (fr : Int), .int .i64 (rd : Int), .slice a l.length c])], .int .i64 0]) ∧ w'.ownsRow w.heap.size 82 3 (.slice a l.length c) l.length (fl l) ∧ Below w.heap.size w w' := hop
      have hpn : ∀ (W : World) (a : Option Addr) (c : Nat), RdN W a l → Calls Try.prog 10 #[.agg #[.iface 47 (.agg #[.int .i64 (fr : Int), .int .i64 (rd : Int), .slice a l.length c])]] W fun e w' => ∃ a2 c2, e = .returned (.iface 47 (.agg #[.int .i64 (fr : Int), .int .i64 (rd : Int), .slice a2 l.length c2])) ∧ w'.ownsRow W.heap.size 82 3 (.slice a2 l.length c2) l.length (fl l) ∧ Below W.heap.size W w' := fun W a c h => pnoteQ fr rd a c l W h (by omega)
      have i1 := invQ_Kind
      clear hop
      go_enter Try.func3, Try.ntmps3
      go_wp2_with (first | (go_at_call 9; (with_reducible refine hop2.mono ?_); rintro e u1 ⟨a, c, rfl, ho1, hb1⟩; have hbz := al1' u1 (.cells #[.iface 47 (.agg #[.int .i64 (fr : Int), .int .i64 (rd : Int), .slice a l.length c])] 27); have hbU1 := bel2 hb1 hbz; have hP1 : (u1.alloc (.cells #[.iface 47 (.agg #[.int .i64 (fr : Int), .int .i64 (rd : Int), .slice a l.length c])] 27)).heap[u1.heap.size]? = some (.cells #[.iface 47 (.agg #[.int .i64 (fr : Int), .int .i64 (rd : Int), .slice a l.length c])] 27 (0, 0)) := new_at rfl; have hr1 := (RdN.own ho1).carry hbz) | (go_at_call 10; (with_reducible refine (hpn _ _ _ hr1).mono ?_); rintro e u2 ⟨a2, c2, rfl, _, hb2⟩; have hbU2 := bel2 hbU1 hb2; have hP2 := (hb2.block _ (lt_at hP1)).trans hP1; have hr2 := hr1.carry hb2))
      have hty : ∀ W, RdN W a l → Calls Try.prog 11 #[.agg #[.iface 47 (.agg #[.int .i64 (fr : Int), .int .i64 (rd : Int), .slice a l.length c])], .int .i64 1] W fun e w' => e = .returned (.tuple #[.bool true, .bool false]) ∧ Below W.heap.size W w' := fun W h => tookQ_yes fr rd a c l W h (by omega)
      have hkd : ∀ W, Calls Try.prog 32 #[.agg #[.int .i64 (fr : Int), .int .i64 (rd : Int), .slice a2 l.length c2]] W fun e w' => e = .returned (.int .i64 1) ∧ Below W.heap.size W w' := fun W => kindQ_any _ _ _ _ _ W
      have htnP := fun W => tookP_no (.iface 47 (.agg #[.int .i64 (fr : Int), .int .i64 (rd : Int), .slice a l.length c])) W (fun w => dieQ_P _ w) (Or.inr ⟨_, _, rfl⟩)
      have htnU := fun W => tookU_no (.iface 47 (.agg #[.int .i64 (fr : Int), .int .i64 (rd : Int), .slice a l.length c])) W (fun w => dieQ_U _ w) (Or.inr ⟨_, _, rfl⟩)
      go_loopw [8] (fun cv wz => ∃ k : Int, cv = .int .i64 k ∧ (k = 1 ∨ k = 2 ∨ k = 3 ∨ k = 4) ∧ Below w.heap.size w wz ∧ wz.heap[u1.heap.size]? = some (.cells #[.iface 47 (.agg #[.int .i64 (fr : Int), .int .i64 (rd : Int), .slice a l.length c])] 27 (0, 0)) ∧ RdN wz a l) (fun cv _ => 4 - vnatW cv)
      case atStart => exact ⟨1, rfl, Or.inl rfl, hbU2, hP2, hr2⟩
      case round =>
        obtain ⟨k, rfl, hk, hbw, hPw, hrw⟩ := hrel
        have cP := cell_at hPw 0
        simp at cP
        rcases hk with rfl | rfl | rfl | rfl
        · have hki : (1 : Int) ≤ 3 := by decide
          go_wp2_with (first | (go_at_call 11; (with_reducible refine (hty _ hrw).mono ?_); rintro e u3 ⟨rfl, hb3⟩; have hbU3 := bel2 hbw hb3; have hrw3 := hrw.carry hb3) | (go_at_call 32; (with_reducible refine (hkd _).mono ?_); rintro e u4 ⟨rfl, hb4⟩; have hbU4 := bel2 hbU3 hb4; have hrw4 := hrw3.carry hb4))
          go_roundw
          case rel => exact ⟨2, by simp, by simp, hbU4, ((bel2 hb3 hb4).block _ (lt_at hPw)).trans hPw, hrw4⟩
          case measure => simp [vnatW]
        · have hki : (2 : Int) ≤ 3 := by decide
          go_wp2_with (first | (go_at_call 11; (with_reducible refine (htnP _).mono ?_); rintro e u3 ⟨rfl, hb3⟩; have hbU3 := bel2 hbw hb3; have hrw3 := hrw.carry hb3) | (go_at_call 32; (with_reducible refine (hkd _).mono ?_); rintro e u4 ⟨rfl, hb4⟩; have hbU4 := bel2 hbU3 hb4; have hrw4 := hrw3.carry hb4))
          go_roundw
          case rel => exact ⟨3, by simp, by simp, hbU4, ((bel2 hb3 hb4).block _ (lt_at hPw)).trans hPw, hrw4⟩
          case measure => simp [vnatW]
        · have hki : (3 : Int) ≤ 3 := by decide
          go_wp2_with (first | (go_at_call 11; (with_reducible refine (htnU _).mono ?_); rintro e u3 ⟨rfl, hb3⟩; have hbU3 := bel2 hbw hb3; have hrw3 := hrw.carry hb3) | (go_at_call 32; (with_reducible refine (hkd _).mono ?_); rintro e u4 ⟨rfl, hb4⟩; have hbU4 := bel2 hbU3 hb4; have hrw4 := hrw3.carry hb4))
          go_roundw
          case rel => exact ⟨4, by simp, by simp, hbU4, ((bel2 hb3 hb4).block _ (lt_at hPw)).trans hPw, hrw4⟩
          case measure => simp [vnatW]
        · go_wp2_with (go_at_call 8; (with_reducible refine (hal _).mono ?_); rintro e wv ⟨rfl, hbv⟩)
          go_ret
          exact ⟨rfl, bel2 hbw hbv⟩
    · have hop2 : Calls Try.prog 9 #[.slice ad0 l0.length cap0, .int .i64 a1] w fun e w' => ∃ a c, e = .returned (.tuple #[.agg #[.iface 50 (.agg #[.int .i64 (fr : Int), .int .i64 (rd : Int), .int .u32 (wd N 0 : Nat), .int .u32 (wd N 1 : Nat), .int .u32 (wd N 2 : Nat), .int .u32 (wd N 3 : Nat), .slice a l.length c])], .int .i64 0]) ∧ w'.ownsRow w.heap.size 82 3 (.slice a l.length c) l.length (fl l) ∧ Below w.heap.size w w' := hop
      have hpn : ∀ (W : World) (a : Option Addr) (c : Nat), RdN W a l → Calls Try.prog 10 #[.agg #[.iface 50 (.agg #[.int .i64 (fr : Int), .int .i64 (rd : Int), .int .u32 (wd N 0 : Nat), .int .u32 (wd N 1 : Nat), .int .u32 (wd N 2 : Nat), .int .u32 (wd N 3 : Nat), .slice a l.length c])]] W fun e w' => ∃ a2 c2, e = .returned (.iface 50 (.agg #[.int .i64 (fr : Int), .int .i64 (rd : Int), .int .u32 (wd N 0 : Nat), .int .u32 (wd N 1 : Nat), .int .u32 (wd N 2 : Nat), .int .u32 (wd N 3 : Nat), .slice a2 l.length c2])) ∧ w'.ownsRow W.heap.size 82 3 (.slice a2 l.length c2) l.length (fl l) ∧ Below W.heap.size W w' := fun W a c h => pnoteP fr rd (wd N 0 : Nat) (wd N 1 : Nat) (wd N 2 : Nat) (wd N 3 : Nat) a c l W h (by omega)
      have i1 := invP_Kind
      clear hop
      go_enter Try.func3, Try.ntmps3
      go_wp2_with (first | (go_at_call 9; (with_reducible refine hop2.mono ?_); rintro e u1 ⟨a, c, rfl, ho1, hb1⟩; have hbz := al1' u1 (.cells #[.iface 50 (.agg #[.int .i64 (fr : Int), .int .i64 (rd : Int), .int .u32 (wd N 0 : Nat), .int .u32 (wd N 1 : Nat), .int .u32 (wd N 2 : Nat), .int .u32 (wd N 3 : Nat), .slice a l.length c])] 27); have hbU1 := bel2 hb1 hbz; have hP1 : (u1.alloc (.cells #[.iface 50 (.agg #[.int .i64 (fr : Int), .int .i64 (rd : Int), .int .u32 (wd N 0 : Nat), .int .u32 (wd N 1 : Nat), .int .u32 (wd N 2 : Nat), .int .u32 (wd N 3 : Nat), .slice a l.length c])] 27)).heap[u1.heap.size]? = some (.cells #[.iface 50 (.agg #[.int .i64 (fr : Int), .int .i64 (rd : Int), .int .u32 (wd N 0 : Nat), .int .u32 (wd N 1 : Nat), .int .u32 (wd N 2 : Nat), .int .u32 (wd N 3 : Nat), .slice a l.length c])] 27 (0, 0)) := new_at rfl; have hr1 := (RdN.own ho1).carry hbz) | (go_at_call 10; (with_reducible refine (hpn _ _ _ hr1).mono ?_); rintro e u2 ⟨a2, c2, rfl, _, hb2⟩; have hbU2 := bel2 hbU1 hb2; have hP2 := (hb2.block _ (lt_at hP1)).trans hP1; have hr2 := hr1.carry hb2))
      have hty : ∀ W, RdN W a l → Calls Try.prog 11 #[.agg #[.iface 50 (.agg #[.int .i64 (fr : Int), .int .i64 (rd : Int), .int .u32 (wd N 0 : Nat), .int .u32 (wd N 1 : Nat), .int .u32 (wd N 2 : Nat), .int .u32 (wd N 3 : Nat), .slice a l.length c])], .int .i64 2] W fun e w' => e = .returned (.tuple #[.bool true, .bool false]) ∧ Below W.heap.size W w' := fun W h => tookP_yes fr rd (wd N 0 : Nat) (wd N 1 : Nat) (wd N 2 : Nat) (wd N 3 : Nat) a c l W h (by omega)
      have hkd : ∀ W, Calls Try.prog 33 #[.agg #[.int .i64 (fr : Int), .int .i64 (rd : Int), .int .u32 (wd N 0 : Nat), .int .u32 (wd N 1 : Nat), .int .u32 (wd N 2 : Nat), .int .u32 (wd N 3 : Nat), .slice a2 l.length c2]] W fun e w' => e = .returned (.int .i64 2) ∧ Below W.heap.size W w' := fun W => kindP_any _ _ _ _ _ _ _ _ _ W
      have htnQ := fun W => tookQ_no (.iface 50 (.agg #[.int .i64 (fr : Int), .int .i64 (rd : Int), .int .u32 (wd N 0 : Nat), .int .u32 (wd N 1 : Nat), .int .u32 (wd N 2 : Nat), .int .u32 (wd N 3 : Nat), .slice a l.length c])) W (fun w => dieP_Q _ w) (Or.inr ⟨_, _, rfl⟩)
      have htnU := fun W => tookU_no (.iface 50 (.agg #[.int .i64 (fr : Int), .int .i64 (rd : Int), .int .u32 (wd N 0 : Nat), .int .u32 (wd N 1 : Nat), .int .u32 (wd N 2 : Nat), .int .u32 (wd N 3 : Nat), .slice a l.length c])) W (fun w => dieP_U _ w) (Or.inr ⟨_, _, rfl⟩)
      go_loopw [8] (fun cv wz => ∃ k : Int, cv = .int .i64 k ∧ (k = 1 ∨ k = 2 ∨ k = 3 ∨ k = 4) ∧ Below w.heap.size w wz ∧ wz.heap[u1.heap.size]? = some (.cells #[.iface 50 (.agg #[.int .i64 (fr : Int), .int .i64 (rd : Int), .int .u32 (wd N 0 : Nat), .int .u32 (wd N 1 : Nat), .int .u32 (wd N 2 : Nat), .int .u32 (wd N 3 : Nat), .slice a l.length c])] 27 (0, 0)) ∧ RdN wz a l) (fun cv _ => 4 - vnatW cv)
      case atStart => exact ⟨1, rfl, Or.inl rfl, hbU2, hP2, hr2⟩
      case round =>
        obtain ⟨k, rfl, hk, hbw, hPw, hrw⟩ := hrel
        have cP := cell_at hPw 0
        simp at cP
        rcases hk with rfl | rfl | rfl | rfl
        · have hki : (1 : Int) ≤ 3 := by decide
          go_wp2_with (first | (go_at_call 11; (with_reducible refine (htnQ _).mono ?_); rintro e u3 ⟨rfl, hb3⟩; have hbU3 := bel2 hbw hb3; have hrw3 := hrw.carry hb3) | (go_at_call 33; (with_reducible refine (hkd _).mono ?_); rintro e u4 ⟨rfl, hb4⟩; have hbU4 := bel2 hbU3 hb4; have hrw4 := hrw3.carry hb4))
          go_roundw
          case rel => exact ⟨2, by simp, by simp, hbU4, ((bel2 hb3 hb4).block _ (lt_at hPw)).trans hPw, hrw4⟩
          case measure => simp [vnatW]
        · have hki : (2 : Int) ≤ 3 := by decide
          go_wp2_with (first | (go_at_call 11; (with_reducible refine (hty _ hrw).mono ?_); rintro e u3 ⟨rfl, hb3⟩; have hbU3 := bel2 hbw hb3; have hrw3 := hrw.carry hb3) | (go_at_call 33; (with_reducible refine (hkd _).mono ?_); rintro e u4 ⟨rfl, hb4⟩; have hbU4 := bel2 hbU3 hb4; have hrw4 := hrw3.carry hb4))
          go_roundw
          case rel => exact ⟨3, by simp, by simp, hbU4, ((bel2 hb3 hb4).block _ (lt_at hPw)).trans hPw, hrw4⟩
          case measure => simp [vnatW]
        · have hki : (3 : Int) ≤ 3 := by decide
          go_wp2_with (first | (go_at_call 11; (with_reducible refine (htnU _).mono ?_); rintro e u3 ⟨rfl, hb3⟩; have hbU3 := bel2 hbw hb3; have hrw3 := hrw.carry hb3) | (go_at_call 33; (with_reducible refine (hkd _).mono ?_); rintro e u4 ⟨rfl, hb4⟩; have hbU4 := bel2 hbU3 hb4; have hrw4 := hrw3.carry hb4))
          go_roundw
          case rel => exact ⟨4, by simp, by simp, hbU4, ((bel2 hb3 hb4).block _ (lt_at hPw)).trans hPw, hrw4⟩
          case measure => simp [vnatW]
        · go_wp2_with (go_at_call 8; (with_reducible refine (hal _).mono ?_); rintro e wv ⟨rfl, hbv⟩)
          go_ret
          exact ⟨rfl, bel2 hbw hbv⟩
    · have hop2 : Calls Try.prog 9 #[.slice ad0 l0.length cap0, .int .i64 a1] w fun e w' => ∃ a c, e = .returned (.tuple #[.agg #[.iface 53 (.agg #[.int .i64 (fr : Int), .slice a l.length c])], .int .i64 0]) ∧ w'.ownsRow w.heap.size 82 3 (.slice a l.length c) l.length (fl l) ∧ Below w.heap.size w w' := hop
      have hpn : ∀ (W : World) (a : Option Addr) (c : Nat), RdN W a l → Calls Try.prog 10 #[.agg #[.iface 53 (.agg #[.int .i64 (fr : Int), .slice a l.length c])]] W fun e w' => ∃ a2 c2, e = .returned (.iface 53 (.agg #[.int .i64 (fr : Int), .slice a2 l.length c2])) ∧ w'.ownsRow W.heap.size 82 3 (.slice a2 l.length c2) l.length (fl l) ∧ Below W.heap.size W w' := fun W a c h => pnoteU fr a c l W h (by omega)
      have i1 := invU_Kind
      clear hop
      go_enter Try.func3, Try.ntmps3
      go_wp2_with (first | (go_at_call 9; (with_reducible refine hop2.mono ?_); rintro e u1 ⟨a, c, rfl, ho1, hb1⟩; have hbz := al1' u1 (.cells #[.iface 53 (.agg #[.int .i64 (fr : Int), .slice a l.length c])] 27); have hbU1 := bel2 hb1 hbz; have hP1 : (u1.alloc (.cells #[.iface 53 (.agg #[.int .i64 (fr : Int), .slice a l.length c])] 27)).heap[u1.heap.size]? = some (.cells #[.iface 53 (.agg #[.int .i64 (fr : Int), .slice a l.length c])] 27 (0, 0)) := new_at rfl; have hr1 := (RdN.own ho1).carry hbz) | (go_at_call 10; (with_reducible refine (hpn _ _ _ hr1).mono ?_); rintro e u2 ⟨a2, c2, rfl, _, hb2⟩; have hbU2 := bel2 hbU1 hb2; have hP2 := (hb2.block _ (lt_at hP1)).trans hP1; have hr2 := hr1.carry hb2))
      have hty : ∀ W, RdN W a l → Calls Try.prog 11 #[.agg #[.iface 53 (.agg #[.int .i64 (fr : Int), .slice a l.length c])], .int .i64 3] W fun e w' => e = .returned (.tuple #[.bool true, .bool false]) ∧ Below W.heap.size W w' := fun W h => tookU_yes fr a c l W h (by omega)
      have hkd : ∀ W, Calls Try.prog 34 #[.agg #[.int .i64 (fr : Int), .slice a2 l.length c2]] W fun e w' => e = .returned (.int .i64 3) ∧ Below W.heap.size W w' := fun W => kindU_any _ _ _ _ W
      have htnQ := fun W => tookQ_no (.iface 53 (.agg #[.int .i64 (fr : Int), .slice a l.length c])) W (fun w => dieU_Q _ w) (Or.inr ⟨_, _, rfl⟩)
      have htnP := fun W => tookP_no (.iface 53 (.agg #[.int .i64 (fr : Int), .slice a l.length c])) W (fun w => dieU_P _ w) (Or.inr ⟨_, _, rfl⟩)
      go_loopw [8] (fun cv wz => ∃ k : Int, cv = .int .i64 k ∧ (k = 1 ∨ k = 2 ∨ k = 3 ∨ k = 4) ∧ Below w.heap.size w wz ∧ wz.heap[u1.heap.size]? = some (.cells #[.iface 53 (.agg #[.int .i64 (fr : Int), .slice a l.length c])] 27 (0, 0)) ∧ RdN wz a l) (fun cv _ => 4 - vnatW cv)
      case atStart => exact ⟨1, rfl, Or.inl rfl, hbU2, hP2, hr2⟩
      case round =>
        obtain ⟨k, rfl, hk, hbw, hPw, hrw⟩ := hrel
        have cP := cell_at hPw 0
        simp at cP
        rcases hk with rfl | rfl | rfl | rfl
        · have hki : (1 : Int) ≤ 3 := by decide
          go_wp2_with (first | (go_at_call 11; (with_reducible refine (htnQ _).mono ?_); rintro e u3 ⟨rfl, hb3⟩; have hbU3 := bel2 hbw hb3; have hrw3 := hrw.carry hb3) | (go_at_call 34; (with_reducible refine (hkd _).mono ?_); rintro e u4 ⟨rfl, hb4⟩; have hbU4 := bel2 hbU3 hb4; have hrw4 := hrw3.carry hb4))
          go_roundw
          case rel => exact ⟨2, by simp, by simp, hbU4, ((bel2 hb3 hb4).block _ (lt_at hPw)).trans hPw, hrw4⟩
          case measure => simp [vnatW]
        · have hki : (2 : Int) ≤ 3 := by decide
          go_wp2_with (first | (go_at_call 11; (with_reducible refine (htnP _).mono ?_); rintro e u3 ⟨rfl, hb3⟩; have hbU3 := bel2 hbw hb3; have hrw3 := hrw.carry hb3) | (go_at_call 34; (with_reducible refine (hkd _).mono ?_); rintro e u4 ⟨rfl, hb4⟩; have hbU4 := bel2 hbU3 hb4; have hrw4 := hrw3.carry hb4))
          go_roundw
          case rel => exact ⟨3, by simp, by simp, hbU4, ((bel2 hb3 hb4).block _ (lt_at hPw)).trans hPw, hrw4⟩
          case measure => simp [vnatW]
        · have hki : (3 : Int) ≤ 3 := by decide
          go_wp2_with (first | (go_at_call 11; (with_reducible refine (hty _ hrw).mono ?_); rintro e u3 ⟨rfl, hb3⟩; have hbU3 := bel2 hbw hb3; have hrw3 := hrw.carry hb3) | (go_at_call 34; (with_reducible refine (hkd _).mono ?_); rintro e u4 ⟨rfl, hb4⟩; have hbU4 := bel2 hbU3 hb4; have hrw4 := hrw3.carry hb4))
          go_roundw
          case rel => exact ⟨4, by simp, by simp, hbU4, ((bel2 hb3 hb4).block _ (lt_at hPw)).trans hPw, hrw4⟩
          case measure => simp [vnatW]
        · go_wp2_with (go_at_call 8; (with_reducible refine (hal _).mono ?_); rintro e wv ⟨rfl, hbv⟩)
          go_ret
          exact ⟨rfl, bel2 hbw hbv⟩

set_option maxRecDepth 100000 in
theorem lifted (os : Os) (started : os.Started) (H : Type) (enc : TypeId × Value → H) :
    ReturnsInHanded {} Try.checked os 3 .any (Rows.wirePanicsSpec.pre6 enc Try.prog Try.f3 Rows.wirePanicsRow.domain false) (Rows.wirePanicsSpec.post enc Try.prog Try.f3 false true false false) := by
  refine returnsInHanded_of_change (C := Try.checked) own started (by kernel_rfl) Try.func3
    (ChangeSpec.witness6 (enc := enc) (C := Try.checked) false ⟨#[], #[.slice none 0 0, .int .i64 0], []⟩ 8 (by kernel_rfl) (by kernel_rfl) (by kernel_rfl) (by kernel_rfl)) ?_
  intro W base args ds gs before hval0 hW hcnd _
  have hval : ∀ (j : Nat) t v, Try.f3.params[j]? = some t → args[j]? = some v → Value.okWide Try.prog W .any base t v := hval0
  have hW' := hW
  obtain ⟨p, q, hA0, hV, rfl, hfz, hnd⟩ := hW
  have hA : DataW.TrodAll enc Try.prog W 0 (fun _ => true) true Try.f3.params.toList args.toList ds p := hA0
  rw [Try.params3] at hA hval
  obtain ⟨v0, vs0, d0, ds0, p0, q0, hargs, rfl, rfl, h0, r0⟩ := trodAll_cons hA
  obtain ⟨v1, vs1, d1, ds1, p1, q1, rfl, rfl, rfl, h1, r1⟩ := trodAll_cons r0
  obtain ⟨rfl, rfl, rfl⟩ := trodAll_nil r1
  obtain rfl : args = #[v0, v1] := by cases args; simp_all
  obtain ⟨rfl, rfl⟩ := trodVars_none hV
  have k0 := h0
  have lt0 : ∀ x ∈ p0, x.block < W.heap.size := by obtain ⟨m, hm⟩ := k0; exact DataW.trod_lt m _ _ _ hm
  obtain ⟨ad0, cap0, l0, rfl, w0, hb0, hc0, hm0⟩ := open_bytes (hval 0 22 v0 rfl rfl) h0
  obtain ⟨a1, rfl, rfl, rfl, w1⟩ := open_int Try.underlying3 (hval 1 3 v1 rfl rfl) h1
  clear hA0 hval0
  refine (walk W ad0 cap0 l0 w0 hb0 hc0 hm0 a1 w1).mono fun e W' ⟨he, hg⟩ => ?_
  subst he
  exact ⟨_, rfl, _, _, _, [], _, [], hW', (trodAll_cons_mk (shut_bool Try.underlying4 _) trodAll_mk0), (trodAll_cons_mk (Below.trod laidOut (by kernel_rfl) (of_decide_eq_true (by kernel_rfl)) k0 hg lt0) (trodAll_cons_mk (shut_int Try.underlying3 w1) trodAll_mk0)), rfl, hg.frame _, fun h => by cases h⟩

theorem over : Rows.wirePanicsRow.holds Try.pinned (OpenSpec.ofChange Rows.wirePanicsSpec) :=
  OpenClaim.holds_of_wide 3 Try.f3 rfl rfl rfl rfl rfl rfl rfl ⟨rfl, rfl, rfl, rfl, rfl⟩ rfl rfl rfl rfl rfl (by kernel_rfl) Try.func3 (by kernel_rfl)
    (of_decide_eq_true (by kernel_rfl)) (by unfold Func.isWrapper; first | (rw [if_pos (by decide +kernel)]; kernel_rfl) | (rw [if_neg (by decide +kernel)]; exact ⟨rfl, rfl⟩))
    (fun os started H enc _ => lifted os started H enc)

theorem proved : Rows.WirePanicsSaid :=
  over
#print axioms proved
end Go.Proofs.Ytndogopllcpiiaa
