/- WireBack: at every note and every number of nodes: Decode of a note's bytes is the note, and its bytes are those bytes; a note that has an error has no bytes; no condition. -/
import Derived.Test.YtligjdmbjkppkaaRows
import Derived.WalkKit
import Derived.ProofKit
import Derived.OpenShut
import Derived.Test.YtligjdmbjkppkaaWry
namespace Go.Proofs.Ytligjdmbjkppkaa
open Go.ChangeShapes Go.WideShapes Go.ChangeAt Go.RowKit
set_option linter.unusedVariables false

theorem laidOut : laidOutB Try.prog = true := by kernel_rfl
theorem own : ownKnob Try.prog.godebug = none := by kernel_rfl
open Go.Shelf Go.Lib
set_option maxHeartbeats 16000000 in
set_option maxRecDepth 100000 in
theorem walk (w : World) (k0 f0 g0 : Int) (N0 : Nat) (ad0 : Option Addr) (cap0 : Nat) (l0 : List (Int × Int × Int)) (hN0 : N0 < S128) (wk0 : (Lit.int .i64 k0).wf = true) (wf0 : (Lit.int .i64 f0).wf = true) (wr0 : (Lit.int .i64 g0).wf = true) (w0 : RdN w ad0 l0) (hc0 : ad0 = none → cap0 = 0) (hq0 : l0.length ≤ cap0) (a1 : Int) (w1 : (Lit.int .i64 a1).wf = true) :
    Calls Try.prog 3 #[rnv k0 f0 g0 N0 (.slice ad0 l0.length cap0), .int .i64 a1] w fun e w' => e = .returned (.bool true) ∧ Below w.heap.size w w' := by
  have hal := alive_any
  have hb0 := al1' w (.cells #[.int .i64 k0, .int .i64 f0, .int .i64 g0, .int .u32 (wd N0 0 : Nat), .int .u32 (wd N0 1 : Nat), .int .u32 (wd N0 2 : Nat), .int .u32 (wd N0 3 : Nat), .slice ad0 l0.length cap0] 27)
  have hB0 : RB (w.alloc (.cells #[.int .i64 k0, .int .i64 f0, .int .i64 g0, .int .u32 (wd N0 0 : Nat), .int .u32 (wd N0 1 : Nat), .int .u32 (wd N0 2 : Nat), .int .u32 (wd N0 3 : Nat), .slice ad0 l0.length cap0] 27)) w.heap.size k0 f0 g0 N0 (.slice ad0 l0.length cap0) := new_at rfl
  have hki := kind_any k0 f0 g0 N0 ad0 l0.length cap0 (w.alloc (.cells #[.int .i64 k0, .int .i64 f0, .int .i64 g0, .int .u32 (wd N0 0 : Nat), .int .u32 (wd N0 1 : Nat), .int .u32 (wd N0 2 : Nat), .int .u32 (wd N0 3 : Nat), .slice ad0 l0.length cap0] 27))
  obtain ⟨hk, hk3, hk2, hN⟩ := kd_facts k0 g0 N0 hN0
  obtain ⟨kd, hkd⟩ : ∃ x, kdN k0 = x := ⟨_, rfl⟩
  obtain ⟨r, hr⟩ : ∃ x, krN k0 g0 = x := ⟨_, rfl⟩
  obtain ⟨N, hNN⟩ : ∃ x, kNN k0 N0 = x := ⟨_, rfl⟩
  rw [hkd, hr, hNN] at hki
  rw [hkd] at hk hk3 hk2
  rw [hr] at hk3
  rw [hNN] at hk2 hN
  clear hkd hr hNN
  obtain ⟨W0, hW0⟩ : ∃ W0, w.alloc (.cells #[.int .i64 k0, .int .i64 f0, .int .i64 g0, .int .u32 (wd N0 0 : Nat), .int .u32 (wd N0 1 : Nat), .int .u32 (wd N0 2 : Nat), .int .u32 (wd N0 3 : Nat), .slice ad0 l0.length cap0] 27) = W0 := ⟨_, rfl⟩
  rw [hW0] at hb0 hB0 hki
  unfold rnv at hki
  unfold rnv
  obtain ⟨c0, c1, c2, c3, c4, c5, c6, c7⟩ := hB0.cells
  by_cases h3 : 300 < l0.length
  · have h3i : (300 : Int) < (l0.length : Int) := by omega
    go_enter Try.func3, Try.ntmps3
    go_wp2_with (first | (go_at_call 9; (with_reducible refine hki.mono ?_); rintro e u1 ⟨rfl, hbk⟩; have hB1 := hB0.below hbk; obtain ⟨e0, e1, e2, e3, e4, e5, e6, e7⟩ := hB1.cells; obtain ⟨z0, z1, z2, z3, z4, z5, z6, z7⟩ := hB1.thaw; have hBU : RB (((((((((u1.setCell ⟨w.heap.size, 0, none⟩ (.int .i64 (kd : Int))).setCell ⟨w.heap.size, 1, none⟩ (.int .i64 f0)).setCell ⟨w.heap.size, 2, none⟩ (.int .i64 r)).setCell ⟨w.heap.size, 3, none⟩ (.int .u32 (wd N 0 : Nat))).setCell ⟨w.heap.size, 4, none⟩ (.int .u32 (wd N 1 : Nat))).setCell ⟨w.heap.size, 5, none⟩ (.int .u32 (wd N 2 : Nat))).setCell ⟨w.heap.size, 6, none⟩ (.int .u32 (wd N 3 : Nat)))).setCell ⟨w.heap.size, 7, none⟩ (.slice ad0 l0.length cap0)) w.heap.size kd f0 r N (.slice ad0 l0.length cap0) := hB1.set8 kd f0 r N (.slice ad0 l0.length cap0); have hbU : Below w.heap.size w (((((((((u1.setCell ⟨w.heap.size, 0, none⟩ (.int .i64 (kd : Int))).setCell ⟨w.heap.size, 1, none⟩ (.int .i64 f0)).setCell ⟨w.heap.size, 2, none⟩ (.int .i64 r)).setCell ⟨w.heap.size, 3, none⟩ (.int .u32 (wd N 0 : Nat))).setCell ⟨w.heap.size, 4, none⟩ (.int .u32 (wd N 1 : Nat))).setCell ⟨w.heap.size, 5, none⟩ (.int .u32 (wd N 2 : Nat))).setCell ⟨w.heap.size, 6, none⟩ (.int .u32 (wd N 3 : Nat)))).setCell ⟨w.heap.size, 7, none⟩ (.slice ad0 l0.length cap0)) := below8 (bel2 hb0 hbk) kd f0 r N (.slice ad0 l0.length cap0); obtain ⟨U, hU⟩ : ∃ U, ((((((((u1.setCell ⟨w.heap.size, 0, none⟩ (.int .i64 (kd : Int))).setCell ⟨w.heap.size, 1, none⟩ (.int .i64 f0)).setCell ⟨w.heap.size, 2, none⟩ (.int .i64 r)).setCell ⟨w.heap.size, 3, none⟩ (.int .u32 (wd N 0 : Nat))).setCell ⟨w.heap.size, 4, none⟩ (.int .u32 (wd N 1 : Nat))).setCell ⟨w.heap.size, 5, none⟩ (.int .u32 (wd N 2 : Nat))).setCell ⟨w.heap.size, 6, none⟩ (.int .u32 (wd N 3 : Nat)))).setCell ⟨w.heap.size, 7, none⟩ (.slice ad0 l0.length cap0) = U := ⟨_, rfl⟩; rw [hU] at hBU hbU; obtain ⟨d0, d1, d2, d3, d4, d5, d6, d7⟩ := hBU.cells; have hRU := w0.carry hbU) | (go_at_call 10; (with_reducible refine (hal _).mono ?_); rintro e wv ⟨rfl, hbv⟩))
    go_ret
    exact ⟨rfl, bel2 hbU hbv⟩
  have h3i : ¬ (300 : Int) < (l0.length : Int) := by omega
  rcases (show kd = 1 ∨ kd = 2 ∨ kd = 3 by omega) with rfl | rfl | rfl
  · obtain rfl : N = 0 := hk2 (by decide)
    have hlay : ∀ W, Calls Try.prog 11 #[.agg #[.int .i64 1, .int .i64 f0, .int .i64 r, .int .u32 (wd 0 0 : Nat), .int .u32 (wd 0 1 : Nat), .int .u32 (wd 0 2 : Nat), .int .u32 (wd 0 3 : Nat), .slice ad0 l0.length cap0]] W fun e w' => e = .returned (.iface 52 (.agg #[.int .i64 f0, .int .i64 r, .slice ad0 l0.length cap0])) ∧ Below W.heap.size W w' := fun W => lay_any 1 f0 r 0 ad0 l0.length cap0 W
    have i1 := invQ_Bytes
    by_cases hf : flt 1 a1 f0 r 0 l0 = 0
    case neg =>
      have hby : ∀ (W : World) (a : Option Addr) (c : Nat), RdN W a l0 → Calls Try.prog 19 #[.agg #[.int .i64 f0, .int .i64 r, .slice a l0.length c], .int .i64 a1] W fun e W' => ∃ b2 c2, e = .returned (.tuple #[.slice b2 0 c2, .int .i64 (flt 1 a1 f0 r 0 l0)]) ∧ Below W.heap.size W W' := fun W a c hr => (qbytes_any a1 f0 r a c l0 W hr (by omega)).mono (fun e W' q => bo_no q hf)
      have hfi : (flt 1 a1 f0 r 0 l0 != 0) = true := by simpa using hf
      generalize flt 1 a1 f0 r 0 l0 = FV at *
      clear hf
      go_enter Try.func3, Try.ntmps3
      go_wp2_with (first | (go_at_call 9; (with_reducible refine hki.mono ?_); rintro e u1 ⟨rfl, hbk⟩; have hB1 := hB0.below hbk; obtain ⟨e0, e1, e2, e3, e4, e5, e6, e7⟩ := hB1.cells; obtain ⟨z0, z1, z2, z3, z4, z5, z6, z7⟩ := hB1.thaw; have hBU : RB (((((((((u1.setCell ⟨w.heap.size, 0, none⟩ (.int .i64 (1 : Int))).setCell ⟨w.heap.size, 1, none⟩ (.int .i64 f0)).setCell ⟨w.heap.size, 2, none⟩ (.int .i64 r)).setCell ⟨w.heap.size, 3, none⟩ (.int .u32 (wd 0 0 : Nat))).setCell ⟨w.heap.size, 4, none⟩ (.int .u32 (wd 0 1 : Nat))).setCell ⟨w.heap.size, 5, none⟩ (.int .u32 (wd 0 2 : Nat))).setCell ⟨w.heap.size, 6, none⟩ (.int .u32 (wd 0 3 : Nat)))).setCell ⟨w.heap.size, 7, none⟩ (.slice ad0 l0.length cap0)) w.heap.size 1 f0 r 0 (.slice ad0 l0.length cap0) := hB1.set8 1 f0 r 0 (.slice ad0 l0.length cap0); have hbU : Below w.heap.size w (((((((((u1.setCell ⟨w.heap.size, 0, none⟩ (.int .i64 (1 : Int))).setCell ⟨w.heap.size, 1, none⟩ (.int .i64 f0)).setCell ⟨w.heap.size, 2, none⟩ (.int .i64 r)).setCell ⟨w.heap.size, 3, none⟩ (.int .u32 (wd 0 0 : Nat))).setCell ⟨w.heap.size, 4, none⟩ (.int .u32 (wd 0 1 : Nat))).setCell ⟨w.heap.size, 5, none⟩ (.int .u32 (wd 0 2 : Nat))).setCell ⟨w.heap.size, 6, none⟩ (.int .u32 (wd 0 3 : Nat)))).setCell ⟨w.heap.size, 7, none⟩ (.slice ad0 l0.length cap0)) := below8 (bel2 hb0 hbk) 1 f0 r 0 (.slice ad0 l0.length cap0); obtain ⟨U, hU⟩ : ∃ U, ((((((((u1.setCell ⟨w.heap.size, 0, none⟩ (.int .i64 (1 : Int))).setCell ⟨w.heap.size, 1, none⟩ (.int .i64 f0)).setCell ⟨w.heap.size, 2, none⟩ (.int .i64 r)).setCell ⟨w.heap.size, 3, none⟩ (.int .u32 (wd 0 0 : Nat))).setCell ⟨w.heap.size, 4, none⟩ (.int .u32 (wd 0 1 : Nat))).setCell ⟨w.heap.size, 5, none⟩ (.int .u32 (wd 0 2 : Nat))).setCell ⟨w.heap.size, 6, none⟩ (.int .u32 (wd 0 3 : Nat)))).setCell ⟨w.heap.size, 7, none⟩ (.slice ad0 l0.length cap0) = U := ⟨_, rfl⟩; rw [hU] at hBU hbU; obtain ⟨d0, d1, d2, d3, d4, d5, d6, d7⟩ := hBU.cells; have hRU := w0.carry hbU) | (go_at_call 11; (with_reducible refine (hlay _).mono ?_); rintro e u2 ⟨rfl, hb2⟩; have hbU2 := bel2 hbU hb2; have hBU2 := hBU.below hb2; have hRU2 := hRU.carry hb2) | (go_at_call 19; (with_reducible refine (hby _ _ _ hRU2).mono ?_); rintro e u3 ⟨b2, c2x, rfl, hb3⟩) | (go_at_call 10; (with_reducible refine (hal _).mono ?_); rintro e wv ⟨rfl, hbv⟩))
      go_ret
      exact ⟨rfl, bel2 (bel2 hbU2 hb3) hbv⟩
    obtain ⟨hn, hfr, hrd, _, hri⟩ := flt_0 hf
    obtain ⟨fr, rfl⟩ := Int.eq_ofNat_of_zero_le hfr.1
    obtain ⟨n, rfl⟩ := Int.eq_ofNat_of_zero_le (show 0 ≤ a1 by omega)
    obtain ⟨rd, rfl⟩ := Int.eq_ofNat_of_zero_le (show 0 ≤ r by omega)
    have hdo := dec_of (n := n) (fr := fr) (rd := rd) (N := 0) (l := l0) (show 1 ≤ 1 ∧ 1 ≤ 3 by decide) hf (fun e => absurd e (by decide)) (fun _ => rfl)
    obtain ⟨B, hB⟩ : ∃ B, byt7 1 n fr rd 0 l0 = B := ⟨_, rfl⟩
    have hBB : Byt B := hB ▸ byt7_byt _ _ _ _ _ _
    have hBs : B.length ≤ 1024 := by rw [← hB]; exact byt7_short hf
    have hby : ∀ (W : World) (a : Option Addr) (c : Nat), RdN W a l0 → Calls Try.prog 19 #[.agg #[.int .i64 (fr : Int), .int .i64 (rd : Int), .slice a l0.length c], .int .i64 (n : Int)] W fun e W' => ∃ b2 c2, e = .returned (.tuple #[.slice b2 B.length c2, .int .i64 0]) ∧ RdB W' b2 B ∧ B.length ≤ c2 ∧ W'.ownsRow W.heap.size 5 1 (.slice b2 B.length c2) B.length (cB B) ∧ Below W.heap.size W W' := fun W a c hr => (qbytes_any (n : Int) fr rd a c l0 W hr (by omega)).mono (by
      intro e W' q
      obtain ⟨b2, c2, q1, q5, q2, q4, q3⟩ := bo_ok q hf
      rw [Int.toNat_natCast, hB] at q1 q2 q4 q5
      exact ⟨b2, c2, q1, q2, q4, q5, q3⟩)
    have hde : ∀ (W : World) (b2 : Option Addr) (c2 : Nat), RdB W b2 B → B.length ≤ c2 → Calls Try.prog 12 #[.slice b2 B.length c2, .int .i64 (n : Int)] W fun e W' => ∃ a c, e = .returned (.tuple #[.iface 52 (.agg #[.int .i64 (fr : Int), .int .i64 (rd : Int), .slice a l0.length c]), .int .i64 0]) ∧ RdN W' a l0 ∧ Below W.heap.size W W' := fun W b2 c2 h1 h2 => by
      have := decode_any b2 c2 B (n : Int) W h1 hBB h2
      unfold DcO at this
      rw [← hB, hdo, hB] at this
      refine this.mono ?_
      rintro e W' ⟨a, c, q1, q2, q3⟩
      exact ⟨a, c, q1, RdN.own q2, q3⟩
    have has : ∀ (W : World) (a : Option Addr) (c : Nat), Calls Try.prog 13 #[.iface 52 (.agg #[.int .i64 (fr : Int), .int .i64 (rd : Int), .slice a l0.length c])] W fun e w' => e = .returned (.tuple #[.agg #[.int .i64 1, .int .i64 (fr : Int), .int .i64 (rd : Int), .int .u32 (wd 0 0 : Nat), .int .u32 (wd 0 1 : Nat), .int .u32 (wd 0 2 : Nat), .int .u32 (wd 0 3 : Nat), .slice a l0.length c], .bool true]) ∧ Below W.heap.size W w' := fun W a c => as_any 1 (by decide) fr (rd : Int) 0 (fun e => absurd e (by decide)) (fun _ => rfl) a l0.length c W
    have hsn : ∀ (W : World) (a : Option Addr) (c : Nat), RdN W a l0 → RdN W ad0 l0 → Calls Try.prog 14 #[.agg #[.int .i64 1, .int .i64 (fr : Int), .int .i64 (rd : Int), .int .u32 (wd 0 0 : Nat), .int .u32 (wd 0 1 : Nat), .int .u32 (wd 0 2 : Nat), .int .u32 (wd 0 3 : Nat), .slice a l0.length c], .agg #[.int .i64 1, .int .i64 (fr : Int), .int .i64 (rd : Int), .int .u32 (wd 0 0 : Nat), .int .u32 (wd 0 1 : Nat), .int .u32 (wd 0 2 : Nat), .int .u32 (wd 0 3 : Nat), .slice ad0 l0.length cap0]] W fun e w' => e = .returned (.bool true) ∧ Below W.heap.size W w' := fun W a c h1 h2 => samen_any ((1 : Nat) : Int) fr (rd : Int) 0 s128_0 a ad0 c cap0 l0 W h1 h2 (by omega)
    have hsb : ∀ (W : World) (b2 b3 : Option Addr) (c2 c3 : Nat), RdB W b2 B → RdB W b3 B → Calls Try.prog 15 #[.slice b2 B.length c2, .slice b3 B.length c3] W fun e w' => e = .returned (.bool true) ∧ Below W.heap.size W w' := fun W b2 b3 c2 c3 h1 h2 => sameB_yes b2 b3 c2 c3 B W h1 h2 (by omega)
    have nn := nil_no
    have hBi : ¬ (1024 : Int) < (B.length : Int) := by omega
    clear hdo hB hf hrd hri hfr hn hBB hk hk3 hk2
    go_enter Try.func3, Try.ntmps3
    go_wp2_with (first | (go_at_call 9; (with_reducible refine hki.mono ?_); rintro e u1 ⟨rfl, hbk⟩; have hB1 := hB0.below hbk; obtain ⟨e0, e1, e2, e3, e4, e5, e6, e7⟩ := hB1.cells; obtain ⟨z0, z1, z2, z3, z4, z5, z6, z7⟩ := hB1.thaw; have hBU : RB (((((((((u1.setCell ⟨w.heap.size, 0, none⟩ (.int .i64 (1 : Int))).setCell ⟨w.heap.size, 1, none⟩ (.int .i64 (fr : Int))).setCell ⟨w.heap.size, 2, none⟩ (.int .i64 (rd : Int))).setCell ⟨w.heap.size, 3, none⟩ (.int .u32 (wd 0 0 : Nat))).setCell ⟨w.heap.size, 4, none⟩ (.int .u32 (wd 0 1 : Nat))).setCell ⟨w.heap.size, 5, none⟩ (.int .u32 (wd 0 2 : Nat))).setCell ⟨w.heap.size, 6, none⟩ (.int .u32 (wd 0 3 : Nat)))).setCell ⟨w.heap.size, 7, none⟩ (.slice ad0 l0.length cap0)) w.heap.size 1 (fr : Int) (rd : Int) 0 (.slice ad0 l0.length cap0) := hB1.set8 1 (fr : Int) (rd : Int) 0 (.slice ad0 l0.length cap0); have hbU : Below w.heap.size w (((((((((u1.setCell ⟨w.heap.size, 0, none⟩ (.int .i64 (1 : Int))).setCell ⟨w.heap.size, 1, none⟩ (.int .i64 (fr : Int))).setCell ⟨w.heap.size, 2, none⟩ (.int .i64 (rd : Int))).setCell ⟨w.heap.size, 3, none⟩ (.int .u32 (wd 0 0 : Nat))).setCell ⟨w.heap.size, 4, none⟩ (.int .u32 (wd 0 1 : Nat))).setCell ⟨w.heap.size, 5, none⟩ (.int .u32 (wd 0 2 : Nat))).setCell ⟨w.heap.size, 6, none⟩ (.int .u32 (wd 0 3 : Nat)))).setCell ⟨w.heap.size, 7, none⟩ (.slice ad0 l0.length cap0)) := below8 (bel2 hb0 hbk) 1 (fr : Int) (rd : Int) 0 (.slice ad0 l0.length cap0); obtain ⟨U, hU⟩ : ∃ U, ((((((((u1.setCell ⟨w.heap.size, 0, none⟩ (.int .i64 (1 : Int))).setCell ⟨w.heap.size, 1, none⟩ (.int .i64 (fr : Int))).setCell ⟨w.heap.size, 2, none⟩ (.int .i64 (rd : Int))).setCell ⟨w.heap.size, 3, none⟩ (.int .u32 (wd 0 0 : Nat))).setCell ⟨w.heap.size, 4, none⟩ (.int .u32 (wd 0 1 : Nat))).setCell ⟨w.heap.size, 5, none⟩ (.int .u32 (wd 0 2 : Nat))).setCell ⟨w.heap.size, 6, none⟩ (.int .u32 (wd 0 3 : Nat)))).setCell ⟨w.heap.size, 7, none⟩ (.slice ad0 l0.length cap0) = U := ⟨_, rfl⟩; rw [hU] at hBU hbU; obtain ⟨d0, d1, d2, d3, d4, d5, d6, d7⟩ := hBU.cells; have hRU := w0.carry hbU) | (go_at_call 11; (with_reducible refine (hlay _).mono ?_); rintro e u2 ⟨rfl, hb2⟩; have hbU2 := bel2 hbU hb2; have hBU2 := hBU.below hb2; have hRU2 := hRU.carry hb2) | (go_at_call 19; (with_reducible refine (hby _ _ _ hRU2).mono ?_); rintro e u3 ⟨b2, c2x, rfl, hr3, hl3, ho3, hb3⟩; have hbU3 := bel2 hbU2 hb3; have hBU3 := hBU2.below hb3; have hRU3 := hRU2.carry hb3) | (go_at_call 12; (with_reducible refine (hde _ _ _ hr3 hl3).mono ?_); rintro e u4 ⟨a, c, rfl, hr4, hb4⟩; have hbU4 := bel2 hbU3 hb4; have hBU4 := hBU3.below hb4; have hRU4 := hRU3.carry hb4; have hrb4 := hr3.carry hb4) | (go_at_call 13; (with_reducible refine (has _ _ _).mono ?_); rintro e u5 ⟨rfl, hb5⟩; have hb5z := bel2 hb5 (al1' u5 (.cells #[.int .i64 1, .int .i64 (fr : Int), .int .i64 (rd : Int), .int .u32 (wd 0 0 : Nat), .int .u32 (wd 0 1 : Nat), .int .u32 (wd 0 2 : Nat), .int .u32 (wd 0 3 : Nat), .slice a l0.length c] 27)); have hbU5 := bel2 hbU4 hb5z; have hBU5 := hBU4.below hb5z; have hRU5 := hRU4.carry hb5z; have hrb5 := hrb4.carry hb5z; have hr5 := hr4.carry hb5z; clear d0 d1 d2 d3 d4 d5 d6 d7; obtain ⟨d0, d1, d2, d3, d4, d5, d6, d7⟩ := hBU5.cells) | (go_at_call 14; (with_reducible refine (hsn _ _ _ hr5 hRU5).mono ?_); rintro e u6 ⟨rfl, hb6⟩; have hbU6 := bel2 hbU5 hb6; have hrb6 := hrb5.carry hb6; have hr6 := hr5.carry hb6) | (go_at_call 19; (with_reducible refine (hby _ _ _ hr6).mono ?_); rintro e u7 ⟨b7, c7x, rfl, hr7, hl7, ho7, hb7⟩; have hbU7 := bel2 hbU6 hb7; have hrb7 := hrb6.carry hb7) | (go_at_call 10; (with_reducible refine (hal _).mono ?_); rintro e wv ⟨rfl, hbv⟩; have hbU8 := bel2 hbU7 hbv; have hrb8 := hrb7.carry hbv; have hr8 := hr7.carry hbv) | (go_at_call 15; (with_reducible refine (hsb _ _ _ _ _ hrb8 hr8).mono ?_); rintro e u9 ⟨rfl, hb9⟩))
    go_ret
    exact ⟨rfl, bel2 hbU8 hb9⟩
  · have hlay : ∀ W, Calls Try.prog 11 #[.agg #[.int .i64 2, .int .i64 f0, .int .i64 r, .int .u32 (wd N 0 : Nat), .int .u32 (wd N 1 : Nat), .int .u32 (wd N 2 : Nat), .int .u32 (wd N 3 : Nat), .slice ad0 l0.length cap0]] W fun e w' => e = .returned (.iface 55 (.agg #[.int .i64 f0, .int .i64 r, .int .u32 (wd N 0 : Nat), .int .u32 (wd N 1 : Nat), .int .u32 (wd N 2 : Nat), .int .u32 (wd N 3 : Nat), .slice ad0 l0.length cap0])) ∧ Below W.heap.size W w' := fun W => lay_any 2 f0 r N ad0 l0.length cap0 W
    have i1 := invP_Bytes
    by_cases hf : flt 2 a1 f0 r N l0 = 0
    case neg =>
      have hby : ∀ (W : World) (a : Option Addr) (c : Nat), RdN W a l0 → Calls Try.prog 79 #[.agg #[.int .i64 f0, .int .i64 r, .int .u32 (wd N 0 : Nat), .int .u32 (wd N 1 : Nat), .int .u32 (wd N 2 : Nat), .int .u32 (wd N 3 : Nat), .slice a l0.length c], .int .i64 a1] W fun e W' => ∃ b2 c2, e = .returned (.tuple #[.slice b2 0 c2, .int .i64 (flt 2 a1 f0 r N l0)]) ∧ Below W.heap.size W W' := fun W a c hr => (pbytes_any a1 f0 r N hN a c l0 W hr (by omega)).mono (fun e W' q => bo_no q hf)
      have hfi : (flt 2 a1 f0 r N l0 != 0) = true := by simpa using hf
      generalize flt 2 a1 f0 r N l0 = FV at *
      clear hf
      go_enter Try.func3, Try.ntmps3
      go_wp2_with (first | (go_at_call 9; (with_reducible refine hki.mono ?_); rintro e u1 ⟨rfl, hbk⟩; have hB1 := hB0.below hbk; obtain ⟨e0, e1, e2, e3, e4, e5, e6, e7⟩ := hB1.cells; obtain ⟨z0, z1, z2, z3, z4, z5, z6, z7⟩ := hB1.thaw; have hBU : RB (((((((((u1.setCell ⟨w.heap.size, 0, none⟩ (.int .i64 (2 : Int))).setCell ⟨w.heap.size, 1, none⟩ (.int .i64 f0)).setCell ⟨w.heap.size, 2, none⟩ (.int .i64 r)).setCell ⟨w.heap.size, 3, none⟩ (.int .u32 (wd N 0 : Nat))).setCell ⟨w.heap.size, 4, none⟩ (.int .u32 (wd N 1 : Nat))).setCell ⟨w.heap.size, 5, none⟩ (.int .u32 (wd N 2 : Nat))).setCell ⟨w.heap.size, 6, none⟩ (.int .u32 (wd N 3 : Nat)))).setCell ⟨w.heap.size, 7, none⟩ (.slice ad0 l0.length cap0)) w.heap.size 2 f0 r N (.slice ad0 l0.length cap0) := hB1.set8 2 f0 r N (.slice ad0 l0.length cap0); have hbU : Below w.heap.size w (((((((((u1.setCell ⟨w.heap.size, 0, none⟩ (.int .i64 (2 : Int))).setCell ⟨w.heap.size, 1, none⟩ (.int .i64 f0)).setCell ⟨w.heap.size, 2, none⟩ (.int .i64 r)).setCell ⟨w.heap.size, 3, none⟩ (.int .u32 (wd N 0 : Nat))).setCell ⟨w.heap.size, 4, none⟩ (.int .u32 (wd N 1 : Nat))).setCell ⟨w.heap.size, 5, none⟩ (.int .u32 (wd N 2 : Nat))).setCell ⟨w.heap.size, 6, none⟩ (.int .u32 (wd N 3 : Nat)))).setCell ⟨w.heap.size, 7, none⟩ (.slice ad0 l0.length cap0)) := below8 (bel2 hb0 hbk) 2 f0 r N (.slice ad0 l0.length cap0); obtain ⟨U, hU⟩ : ∃ U, ((((((((u1.setCell ⟨w.heap.size, 0, none⟩ (.int .i64 (2 : Int))).setCell ⟨w.heap.size, 1, none⟩ (.int .i64 f0)).setCell ⟨w.heap.size, 2, none⟩ (.int .i64 r)).setCell ⟨w.heap.size, 3, none⟩ (.int .u32 (wd N 0 : Nat))).setCell ⟨w.heap.size, 4, none⟩ (.int .u32 (wd N 1 : Nat))).setCell ⟨w.heap.size, 5, none⟩ (.int .u32 (wd N 2 : Nat))).setCell ⟨w.heap.size, 6, none⟩ (.int .u32 (wd N 3 : Nat)))).setCell ⟨w.heap.size, 7, none⟩ (.slice ad0 l0.length cap0) = U := ⟨_, rfl⟩; rw [hU] at hBU hbU; obtain ⟨d0, d1, d2, d3, d4, d5, d6, d7⟩ := hBU.cells; have hRU := w0.carry hbU) | (go_at_call 11; (with_reducible refine (hlay _).mono ?_); rintro e u2 ⟨rfl, hb2⟩; have hbU2 := bel2 hbU hb2; have hBU2 := hBU.below hb2; have hRU2 := hRU.carry hb2) | (go_at_call 79; (with_reducible refine (hby _ _ _ hRU2).mono ?_); rintro e u3 ⟨b2, c2x, rfl, hb3⟩) | (go_at_call 10; (with_reducible refine (hal _).mono ?_); rintro e wv ⟨rfl, hbv⟩))
      go_ret
      exact ⟨rfl, bel2 (bel2 hbU2 hb3) hbv⟩
    obtain ⟨hn, hfr, hrd, _, hri⟩ := flt_0 hf
    obtain ⟨fr, rfl⟩ := Int.eq_ofNat_of_zero_le hfr.1
    obtain ⟨n, rfl⟩ := Int.eq_ofNat_of_zero_le (show 0 ≤ a1 by omega)
    obtain ⟨rd, rfl⟩ := Int.eq_ofNat_of_zero_le (show 0 ≤ r by omega)
    have hdo := dec_of (n := n) (fr := fr) (rd := rd) (N := N) (l := l0) (show 1 ≤ 2 ∧ 2 ≤ 3 by decide) hf (fun e => absurd e (by decide)) (fun e => absurd rfl e)
    obtain ⟨B, hB⟩ : ∃ B, byt7 2 n fr rd N l0 = B := ⟨_, rfl⟩
    have hBB : Byt B := hB ▸ byt7_byt _ _ _ _ _ _
    have hBs : B.length ≤ 1024 := by rw [← hB]; exact byt7_short hf
    have hby : ∀ (W : World) (a : Option Addr) (c : Nat), RdN W a l0 → Calls Try.prog 79 #[.agg #[.int .i64 (fr : Int), .int .i64 (rd : Int), .int .u32 (wd N 0 : Nat), .int .u32 (wd N 1 : Nat), .int .u32 (wd N 2 : Nat), .int .u32 (wd N 3 : Nat), .slice a l0.length c], .int .i64 (n : Int)] W fun e W' => ∃ b2 c2, e = .returned (.tuple #[.slice b2 B.length c2, .int .i64 0]) ∧ RdB W' b2 B ∧ B.length ≤ c2 ∧ W'.ownsRow W.heap.size 5 1 (.slice b2 B.length c2) B.length (cB B) ∧ Below W.heap.size W W' := fun W a c hr => (pbytes_any (n : Int) fr rd N hN a c l0 W hr (by omega)).mono (by
      intro e W' q
      obtain ⟨b2, c2, q1, q5, q2, q4, q3⟩ := bo_ok q hf
      rw [Int.toNat_natCast, hB] at q1 q2 q4 q5
      exact ⟨b2, c2, q1, q2, q4, q5, q3⟩)
    have hde : ∀ (W : World) (b2 : Option Addr) (c2 : Nat), RdB W b2 B → B.length ≤ c2 → Calls Try.prog 12 #[.slice b2 B.length c2, .int .i64 (n : Int)] W fun e W' => ∃ a c, e = .returned (.tuple #[.iface 55 (.agg #[.int .i64 (fr : Int), .int .i64 (rd : Int), .int .u32 (wd N 0 : Nat), .int .u32 (wd N 1 : Nat), .int .u32 (wd N 2 : Nat), .int .u32 (wd N 3 : Nat), .slice a l0.length c]), .int .i64 0]) ∧ RdN W' a l0 ∧ Below W.heap.size W W' := fun W b2 c2 h1 h2 => by
      have := decode_any b2 c2 B (n : Int) W h1 hBB h2
      unfold DcO at this
      rw [← hB, hdo, hB] at this
      refine this.mono ?_
      rintro e W' ⟨a, c, q1, q2, q3⟩
      exact ⟨a, c, q1, RdN.own q2, q3⟩
    have has : ∀ (W : World) (a : Option Addr) (c : Nat), Calls Try.prog 13 #[.iface 55 (.agg #[.int .i64 (fr : Int), .int .i64 (rd : Int), .int .u32 (wd N 0 : Nat), .int .u32 (wd N 1 : Nat), .int .u32 (wd N 2 : Nat), .int .u32 (wd N 3 : Nat), .slice a l0.length c])] W fun e w' => e = .returned (.tuple #[.agg #[.int .i64 2, .int .i64 (fr : Int), .int .i64 (rd : Int), .int .u32 (wd N 0 : Nat), .int .u32 (wd N 1 : Nat), .int .u32 (wd N 2 : Nat), .int .u32 (wd N 3 : Nat), .slice a l0.length c], .bool true]) ∧ Below W.heap.size W w' := fun W a c => as_any 2 (by decide) fr (rd : Int) N (fun e => absurd e (by decide)) (fun e => absurd rfl e) a l0.length c W
    have hsn : ∀ (W : World) (a : Option Addr) (c : Nat), RdN W a l0 → RdN W ad0 l0 → Calls Try.prog 14 #[.agg #[.int .i64 2, .int .i64 (fr : Int), .int .i64 (rd : Int), .int .u32 (wd N 0 : Nat), .int .u32 (wd N 1 : Nat), .int .u32 (wd N 2 : Nat), .int .u32 (wd N 3 : Nat), .slice a l0.length c], .agg #[.int .i64 2, .int .i64 (fr : Int), .int .i64 (rd : Int), .int .u32 (wd N 0 : Nat), .int .u32 (wd N 1 : Nat), .int .u32 (wd N 2 : Nat), .int .u32 (wd N 3 : Nat), .slice ad0 l0.length cap0]] W fun e w' => e = .returned (.bool true) ∧ Below W.heap.size W w' := fun W a c h1 h2 => samen_any ((2 : Nat) : Int) fr (rd : Int) N hN a ad0 c cap0 l0 W h1 h2 (by omega)
    have hsb : ∀ (W : World) (b2 b3 : Option Addr) (c2 c3 : Nat), RdB W b2 B → RdB W b3 B → Calls Try.prog 15 #[.slice b2 B.length c2, .slice b3 B.length c3] W fun e w' => e = .returned (.bool true) ∧ Below W.heap.size W w' := fun W b2 b3 c2 c3 h1 h2 => sameB_yes b2 b3 c2 c3 B W h1 h2 (by omega)
    have nn := nil_no
    have hBi : ¬ (1024 : Int) < (B.length : Int) := by omega
    clear hdo hB hf hrd hri hfr hn hBB hk hk3 hk2
    go_enter Try.func3, Try.ntmps3
    go_wp2_with (first | (go_at_call 9; (with_reducible refine hki.mono ?_); rintro e u1 ⟨rfl, hbk⟩; have hB1 := hB0.below hbk; obtain ⟨e0, e1, e2, e3, e4, e5, e6, e7⟩ := hB1.cells; obtain ⟨z0, z1, z2, z3, z4, z5, z6, z7⟩ := hB1.thaw; have hBU : RB (((((((((u1.setCell ⟨w.heap.size, 0, none⟩ (.int .i64 (2 : Int))).setCell ⟨w.heap.size, 1, none⟩ (.int .i64 (fr : Int))).setCell ⟨w.heap.size, 2, none⟩ (.int .i64 (rd : Int))).setCell ⟨w.heap.size, 3, none⟩ (.int .u32 (wd N 0 : Nat))).setCell ⟨w.heap.size, 4, none⟩ (.int .u32 (wd N 1 : Nat))).setCell ⟨w.heap.size, 5, none⟩ (.int .u32 (wd N 2 : Nat))).setCell ⟨w.heap.size, 6, none⟩ (.int .u32 (wd N 3 : Nat)))).setCell ⟨w.heap.size, 7, none⟩ (.slice ad0 l0.length cap0)) w.heap.size 2 (fr : Int) (rd : Int) N (.slice ad0 l0.length cap0) := hB1.set8 2 (fr : Int) (rd : Int) N (.slice ad0 l0.length cap0); have hbU : Below w.heap.size w (((((((((u1.setCell ⟨w.heap.size, 0, none⟩ (.int .i64 (2 : Int))).setCell ⟨w.heap.size, 1, none⟩ (.int .i64 (fr : Int))).setCell ⟨w.heap.size, 2, none⟩ (.int .i64 (rd : Int))).setCell ⟨w.heap.size, 3, none⟩ (.int .u32 (wd N 0 : Nat))).setCell ⟨w.heap.size, 4, none⟩ (.int .u32 (wd N 1 : Nat))).setCell ⟨w.heap.size, 5, none⟩ (.int .u32 (wd N 2 : Nat))).setCell ⟨w.heap.size, 6, none⟩ (.int .u32 (wd N 3 : Nat)))).setCell ⟨w.heap.size, 7, none⟩ (.slice ad0 l0.length cap0)) := below8 (bel2 hb0 hbk) 2 (fr : Int) (rd : Int) N (.slice ad0 l0.length cap0); obtain ⟨U, hU⟩ : ∃ U, ((((((((u1.setCell ⟨w.heap.size, 0, none⟩ (.int .i64 (2 : Int))).setCell ⟨w.heap.size, 1, none⟩ (.int .i64 (fr : Int))).setCell ⟨w.heap.size, 2, none⟩ (.int .i64 (rd : Int))).setCell ⟨w.heap.size, 3, none⟩ (.int .u32 (wd N 0 : Nat))).setCell ⟨w.heap.size, 4, none⟩ (.int .u32 (wd N 1 : Nat))).setCell ⟨w.heap.size, 5, none⟩ (.int .u32 (wd N 2 : Nat))).setCell ⟨w.heap.size, 6, none⟩ (.int .u32 (wd N 3 : Nat)))).setCell ⟨w.heap.size, 7, none⟩ (.slice ad0 l0.length cap0) = U := ⟨_, rfl⟩; rw [hU] at hBU hbU; obtain ⟨d0, d1, d2, d3, d4, d5, d6, d7⟩ := hBU.cells; have hRU := w0.carry hbU) | (go_at_call 11; (with_reducible refine (hlay _).mono ?_); rintro e u2 ⟨rfl, hb2⟩; have hbU2 := bel2 hbU hb2; have hBU2 := hBU.below hb2; have hRU2 := hRU.carry hb2) | (go_at_call 79; (with_reducible refine (hby _ _ _ hRU2).mono ?_); rintro e u3 ⟨b2, c2x, rfl, hr3, hl3, ho3, hb3⟩; have hbU3 := bel2 hbU2 hb3; have hBU3 := hBU2.below hb3; have hRU3 := hRU2.carry hb3) | (go_at_call 12; (with_reducible refine (hde _ _ _ hr3 hl3).mono ?_); rintro e u4 ⟨a, c, rfl, hr4, hb4⟩; have hbU4 := bel2 hbU3 hb4; have hBU4 := hBU3.below hb4; have hRU4 := hRU3.carry hb4; have hrb4 := hr3.carry hb4) | (go_at_call 13; (with_reducible refine (has _ _ _).mono ?_); rintro e u5 ⟨rfl, hb5⟩; have hb5z := bel2 hb5 (al1' u5 (.cells #[.int .i64 2, .int .i64 (fr : Int), .int .i64 (rd : Int), .int .u32 (wd N 0 : Nat), .int .u32 (wd N 1 : Nat), .int .u32 (wd N 2 : Nat), .int .u32 (wd N 3 : Nat), .slice a l0.length c] 27)); have hbU5 := bel2 hbU4 hb5z; have hBU5 := hBU4.below hb5z; have hRU5 := hRU4.carry hb5z; have hrb5 := hrb4.carry hb5z; have hr5 := hr4.carry hb5z; clear d0 d1 d2 d3 d4 d5 d6 d7; obtain ⟨d0, d1, d2, d3, d4, d5, d6, d7⟩ := hBU5.cells) | (go_at_call 14; (with_reducible refine (hsn _ _ _ hr5 hRU5).mono ?_); rintro e u6 ⟨rfl, hb6⟩; have hbU6 := bel2 hbU5 hb6; have hrb6 := hrb5.carry hb6; have hr6 := hr5.carry hb6) | (go_at_call 79; (with_reducible refine (hby _ _ _ hr6).mono ?_); rintro e u7 ⟨b7, c7x, rfl, hr7, hl7, ho7, hb7⟩; have hbU7 := bel2 hbU6 hb7; have hrb7 := hrb6.carry hb7) | (go_at_call 10; (with_reducible refine (hal _).mono ?_); rintro e wv ⟨rfl, hbv⟩; have hbU8 := bel2 hbU7 hbv; have hrb8 := hrb7.carry hbv; have hr8 := hr7.carry hbv) | (go_at_call 15; (with_reducible refine (hsb _ _ _ _ _ hrb8 hr8).mono ?_); rintro e u9 ⟨rfl, hb9⟩))
    go_ret
    exact ⟨rfl, bel2 hbU8 hb9⟩
  · obtain rfl : N = 0 := hk2 (by decide)
    obtain rfl : r = 0 := hk3 rfl
    have hlay : ∀ W, Calls Try.prog 11 #[.agg #[.int .i64 3, .int .i64 f0, .int .i64 0, .int .u32 (wd 0 0 : Nat), .int .u32 (wd 0 1 : Nat), .int .u32 (wd 0 2 : Nat), .int .u32 (wd 0 3 : Nat), .slice ad0 l0.length cap0]] W fun e w' => e = .returned (.iface 58 (.agg #[.int .i64 f0, .slice ad0 l0.length cap0])) ∧ Below W.heap.size W w' := fun W => lay_any 3 f0 0 0 ad0 l0.length cap0 W
    have i1 := invU_Bytes
    by_cases hf : flt 3 a1 f0 0 0 l0 = 0
    case neg =>
      have hby : ∀ (W : World) (a : Option Addr) (c : Nat), RdN W a l0 → Calls Try.prog 82 #[.agg #[.int .i64 f0, .slice a l0.length c], .int .i64 a1] W fun e W' => ∃ b2 c2, e = .returned (.tuple #[.slice b2 0 c2, .int .i64 (flt 3 a1 f0 0 0 l0)]) ∧ Below W.heap.size W W' := fun W a c hr => (ubytes_any a1 f0 a c l0 W hr (by omega)).mono (fun e W' q => bo_no q hf)
      have hfi : (flt 3 a1 f0 0 0 l0 != 0) = true := by simpa using hf
      generalize flt 3 a1 f0 0 0 l0 = FV at *
      clear hf
      go_enter Try.func3, Try.ntmps3
      go_wp2_with (first | (go_at_call 9; (with_reducible refine hki.mono ?_); rintro e u1 ⟨rfl, hbk⟩; have hB1 := hB0.below hbk; obtain ⟨e0, e1, e2, e3, e4, e5, e6, e7⟩ := hB1.cells; obtain ⟨z0, z1, z2, z3, z4, z5, z6, z7⟩ := hB1.thaw; have hBU : RB (((((((((u1.setCell ⟨w.heap.size, 0, none⟩ (.int .i64 (3 : Int))).setCell ⟨w.heap.size, 1, none⟩ (.int .i64 f0)).setCell ⟨w.heap.size, 2, none⟩ (.int .i64 0)).setCell ⟨w.heap.size, 3, none⟩ (.int .u32 (wd 0 0 : Nat))).setCell ⟨w.heap.size, 4, none⟩ (.int .u32 (wd 0 1 : Nat))).setCell ⟨w.heap.size, 5, none⟩ (.int .u32 (wd 0 2 : Nat))).setCell ⟨w.heap.size, 6, none⟩ (.int .u32 (wd 0 3 : Nat)))).setCell ⟨w.heap.size, 7, none⟩ (.slice ad0 l0.length cap0)) w.heap.size 3 f0 0 0 (.slice ad0 l0.length cap0) := hB1.set8 3 f0 0 0 (.slice ad0 l0.length cap0); have hbU : Below w.heap.size w (((((((((u1.setCell ⟨w.heap.size, 0, none⟩ (.int .i64 (3 : Int))).setCell ⟨w.heap.size, 1, none⟩ (.int .i64 f0)).setCell ⟨w.heap.size, 2, none⟩ (.int .i64 0)).setCell ⟨w.heap.size, 3, none⟩ (.int .u32 (wd 0 0 : Nat))).setCell ⟨w.heap.size, 4, none⟩ (.int .u32 (wd 0 1 : Nat))).setCell ⟨w.heap.size, 5, none⟩ (.int .u32 (wd 0 2 : Nat))).setCell ⟨w.heap.size, 6, none⟩ (.int .u32 (wd 0 3 : Nat)))).setCell ⟨w.heap.size, 7, none⟩ (.slice ad0 l0.length cap0)) := below8 (bel2 hb0 hbk) 3 f0 0 0 (.slice ad0 l0.length cap0); obtain ⟨U, hU⟩ : ∃ U, ((((((((u1.setCell ⟨w.heap.size, 0, none⟩ (.int .i64 (3 : Int))).setCell ⟨w.heap.size, 1, none⟩ (.int .i64 f0)).setCell ⟨w.heap.size, 2, none⟩ (.int .i64 0)).setCell ⟨w.heap.size, 3, none⟩ (.int .u32 (wd 0 0 : Nat))).setCell ⟨w.heap.size, 4, none⟩ (.int .u32 (wd 0 1 : Nat))).setCell ⟨w.heap.size, 5, none⟩ (.int .u32 (wd 0 2 : Nat))).setCell ⟨w.heap.size, 6, none⟩ (.int .u32 (wd 0 3 : Nat)))).setCell ⟨w.heap.size, 7, none⟩ (.slice ad0 l0.length cap0) = U := ⟨_, rfl⟩; rw [hU] at hBU hbU; obtain ⟨d0, d1, d2, d3, d4, d5, d6, d7⟩ := hBU.cells; have hRU := w0.carry hbU) | (go_at_call 11; (with_reducible refine (hlay _).mono ?_); rintro e u2 ⟨rfl, hb2⟩; have hbU2 := bel2 hbU hb2; have hBU2 := hBU.below hb2; have hRU2 := hRU.carry hb2) | (go_at_call 82; (with_reducible refine (hby _ _ _ hRU2).mono ?_); rintro e u3 ⟨b2, c2x, rfl, hb3⟩) | (go_at_call 10; (with_reducible refine (hal _).mono ?_); rintro e wv ⟨rfl, hbv⟩))
      go_ret
      exact ⟨rfl, bel2 (bel2 hbU2 hb3) hbv⟩
    obtain ⟨hn, hfr, hrd, _, hri⟩ := flt_0 hf
    obtain ⟨fr, rfl⟩ := Int.eq_ofNat_of_zero_le hfr.1
    obtain ⟨n, rfl⟩ := Int.eq_ofNat_of_zero_le (show 0 ≤ a1 by omega)
    have hdo := dec_of (n := n) (fr := fr) (rd := 0) (N := 0) (l := l0) (show 1 ≤ 3 ∧ 3 ≤ 3 by decide) hf (fun _ => rfl) (fun _ => rfl)
    obtain ⟨B, hB⟩ : ∃ B, byt7 3 n fr 0 0 l0 = B := ⟨_, rfl⟩
    have hBB : Byt B := hB ▸ byt7_byt _ _ _ _ _ _
    have hBs : B.length ≤ 1024 := by rw [← hB]; exact byt7_short hf
    have hby : ∀ (W : World) (a : Option Addr) (c : Nat), RdN W a l0 → Calls Try.prog 82 #[.agg #[.int .i64 (fr : Int), .slice a l0.length c], .int .i64 (n : Int)] W fun e W' => ∃ b2 c2, e = .returned (.tuple #[.slice b2 B.length c2, .int .i64 0]) ∧ RdB W' b2 B ∧ B.length ≤ c2 ∧ W'.ownsRow W.heap.size 5 1 (.slice b2 B.length c2) B.length (cB B) ∧ Below W.heap.size W W' := fun W a c hr => (ubytes_any (n : Int) fr a c l0 W hr (by omega)).mono (by
      intro e W' q
      obtain ⟨b2, c2, q1, q5, q2, q4, q3⟩ := bo_ok q hf
      rw [Int.toNat_natCast, hB] at q1 q2 q4 q5
      exact ⟨b2, c2, q1, q2, q4, q5, q3⟩)
    have hde : ∀ (W : World) (b2 : Option Addr) (c2 : Nat), RdB W b2 B → B.length ≤ c2 → Calls Try.prog 12 #[.slice b2 B.length c2, .int .i64 (n : Int)] W fun e W' => ∃ a c, e = .returned (.tuple #[.iface 58 (.agg #[.int .i64 (fr : Int), .slice a l0.length c]), .int .i64 0]) ∧ RdN W' a l0 ∧ Below W.heap.size W W' := fun W b2 c2 h1 h2 => by
      have := decode_any b2 c2 B (n : Int) W h1 hBB h2
      unfold DcO at this
      rw [← hB, hdo, hB] at this
      refine this.mono ?_
      rintro e W' ⟨a, c, q1, q2, q3⟩
      exact ⟨a, c, q1, RdN.own q2, q3⟩
    have has : ∀ (W : World) (a : Option Addr) (c : Nat), Calls Try.prog 13 #[.iface 58 (.agg #[.int .i64 (fr : Int), .slice a l0.length c])] W fun e w' => e = .returned (.tuple #[.agg #[.int .i64 3, .int .i64 (fr : Int), .int .i64 0, .int .u32 (wd 0 0 : Nat), .int .u32 (wd 0 1 : Nat), .int .u32 (wd 0 2 : Nat), .int .u32 (wd 0 3 : Nat), .slice a l0.length c], .bool true]) ∧ Below W.heap.size W w' := fun W a c => as_any 3 (by decide) fr 0 0 (fun _ => rfl) (fun _ => rfl) a l0.length c W
    have hsn : ∀ (W : World) (a : Option Addr) (c : Nat), RdN W a l0 → RdN W ad0 l0 → Calls Try.prog 14 #[.agg #[.int .i64 3, .int .i64 (fr : Int), .int .i64 0, .int .u32 (wd 0 0 : Nat), .int .u32 (wd 0 1 : Nat), .int .u32 (wd 0 2 : Nat), .int .u32 (wd 0 3 : Nat), .slice a l0.length c], .agg #[.int .i64 3, .int .i64 (fr : Int), .int .i64 0, .int .u32 (wd 0 0 : Nat), .int .u32 (wd 0 1 : Nat), .int .u32 (wd 0 2 : Nat), .int .u32 (wd 0 3 : Nat), .slice ad0 l0.length cap0]] W fun e w' => e = .returned (.bool true) ∧ Below W.heap.size W w' := fun W a c h1 h2 => samen_any ((3 : Nat) : Int) fr 0 0 s128_0 a ad0 c cap0 l0 W h1 h2 (by omega)
    have hsb : ∀ (W : World) (b2 b3 : Option Addr) (c2 c3 : Nat), RdB W b2 B → RdB W b3 B → Calls Try.prog 15 #[.slice b2 B.length c2, .slice b3 B.length c3] W fun e w' => e = .returned (.bool true) ∧ Below W.heap.size W w' := fun W b2 b3 c2 c3 h1 h2 => sameB_yes b2 b3 c2 c3 B W h1 h2 (by omega)
    have nn := nil_no
    have hBi : ¬ (1024 : Int) < (B.length : Int) := by omega
    clear hdo hB hf hrd hri hfr hn hBB hk hk3 hk2
    go_enter Try.func3, Try.ntmps3
    go_wp2_with (first | (go_at_call 9; (with_reducible refine hki.mono ?_); rintro e u1 ⟨rfl, hbk⟩; have hB1 := hB0.below hbk; obtain ⟨e0, e1, e2, e3, e4, e5, e6, e7⟩ := hB1.cells; obtain ⟨z0, z1, z2, z3, z4, z5, z6, z7⟩ := hB1.thaw; have hBU : RB (((((((((u1.setCell ⟨w.heap.size, 0, none⟩ (.int .i64 (3 : Int))).setCell ⟨w.heap.size, 1, none⟩ (.int .i64 (fr : Int))).setCell ⟨w.heap.size, 2, none⟩ (.int .i64 0)).setCell ⟨w.heap.size, 3, none⟩ (.int .u32 (wd 0 0 : Nat))).setCell ⟨w.heap.size, 4, none⟩ (.int .u32 (wd 0 1 : Nat))).setCell ⟨w.heap.size, 5, none⟩ (.int .u32 (wd 0 2 : Nat))).setCell ⟨w.heap.size, 6, none⟩ (.int .u32 (wd 0 3 : Nat)))).setCell ⟨w.heap.size, 7, none⟩ (.slice ad0 l0.length cap0)) w.heap.size 3 (fr : Int) 0 0 (.slice ad0 l0.length cap0) := hB1.set8 3 (fr : Int) 0 0 (.slice ad0 l0.length cap0); have hbU : Below w.heap.size w (((((((((u1.setCell ⟨w.heap.size, 0, none⟩ (.int .i64 (3 : Int))).setCell ⟨w.heap.size, 1, none⟩ (.int .i64 (fr : Int))).setCell ⟨w.heap.size, 2, none⟩ (.int .i64 0)).setCell ⟨w.heap.size, 3, none⟩ (.int .u32 (wd 0 0 : Nat))).setCell ⟨w.heap.size, 4, none⟩ (.int .u32 (wd 0 1 : Nat))).setCell ⟨w.heap.size, 5, none⟩ (.int .u32 (wd 0 2 : Nat))).setCell ⟨w.heap.size, 6, none⟩ (.int .u32 (wd 0 3 : Nat)))).setCell ⟨w.heap.size, 7, none⟩ (.slice ad0 l0.length cap0)) := below8 (bel2 hb0 hbk) 3 (fr : Int) 0 0 (.slice ad0 l0.length cap0); obtain ⟨U, hU⟩ : ∃ U, ((((((((u1.setCell ⟨w.heap.size, 0, none⟩ (.int .i64 (3 : Int))).setCell ⟨w.heap.size, 1, none⟩ (.int .i64 (fr : Int))).setCell ⟨w.heap.size, 2, none⟩ (.int .i64 0)).setCell ⟨w.heap.size, 3, none⟩ (.int .u32 (wd 0 0 : Nat))).setCell ⟨w.heap.size, 4, none⟩ (.int .u32 (wd 0 1 : Nat))).setCell ⟨w.heap.size, 5, none⟩ (.int .u32 (wd 0 2 : Nat))).setCell ⟨w.heap.size, 6, none⟩ (.int .u32 (wd 0 3 : Nat)))).setCell ⟨w.heap.size, 7, none⟩ (.slice ad0 l0.length cap0) = U := ⟨_, rfl⟩; rw [hU] at hBU hbU; obtain ⟨d0, d1, d2, d3, d4, d5, d6, d7⟩ := hBU.cells; have hRU := w0.carry hbU) | (go_at_call 11; (with_reducible refine (hlay _).mono ?_); rintro e u2 ⟨rfl, hb2⟩; have hbU2 := bel2 hbU hb2; have hBU2 := hBU.below hb2; have hRU2 := hRU.carry hb2) | (go_at_call 82; (with_reducible refine (hby _ _ _ hRU2).mono ?_); rintro e u3 ⟨b2, c2x, rfl, hr3, hl3, ho3, hb3⟩; have hbU3 := bel2 hbU2 hb3; have hBU3 := hBU2.below hb3; have hRU3 := hRU2.carry hb3) | (go_at_call 12; (with_reducible refine (hde _ _ _ hr3 hl3).mono ?_); rintro e u4 ⟨a, c, rfl, hr4, hb4⟩; have hbU4 := bel2 hbU3 hb4; have hBU4 := hBU3.below hb4; have hRU4 := hRU3.carry hb4; have hrb4 := hr3.carry hb4) | (go_at_call 13; (with_reducible refine (has _ _ _).mono ?_); rintro e u5 ⟨rfl, hb5⟩; have hb5z := bel2 hb5 (al1' u5 (.cells #[.int .i64 3, .int .i64 (fr : Int), .int .i64 0, .int .u32 (wd 0 0 : Nat), .int .u32 (wd 0 1 : Nat), .int .u32 (wd 0 2 : Nat), .int .u32 (wd 0 3 : Nat), .slice a l0.length c] 27)); have hbU5 := bel2 hbU4 hb5z; have hBU5 := hBU4.below hb5z; have hRU5 := hRU4.carry hb5z; have hrb5 := hrb4.carry hb5z; have hr5 := hr4.carry hb5z; clear d0 d1 d2 d3 d4 d5 d6 d7; obtain ⟨d0, d1, d2, d3, d4, d5, d6, d7⟩ := hBU5.cells) | (go_at_call 14; (with_reducible refine (hsn _ _ _ hr5 hRU5).mono ?_); rintro e u6 ⟨rfl, hb6⟩; have hbU6 := bel2 hbU5 hb6; have hrb6 := hrb5.carry hb6; have hr6 := hr5.carry hb6) | (go_at_call 82; (with_reducible refine (hby _ _ _ hr6).mono ?_); rintro e u7 ⟨b7, c7x, rfl, hr7, hl7, ho7, hb7⟩; have hbU7 := bel2 hbU6 hb7; have hrb7 := hrb6.carry hb7) | (go_at_call 10; (with_reducible refine (hal _).mono ?_); rintro e wv ⟨rfl, hbv⟩; have hbU8 := bel2 hbU7 hbv; have hrb8 := hrb7.carry hbv; have hr8 := hr7.carry hbv) | (go_at_call 15; (with_reducible refine (hsb _ _ _ _ _ hrb8 hr8).mono ?_); rintro e u9 ⟨rfl, hb9⟩))
    go_ret
    exact ⟨rfl, bel2 hbU8 hb9⟩

set_option maxRecDepth 100000 in
theorem lifted (os : Os) (started : os.Started) (H : Type) (enc : TypeId × Value → H) :
    ReturnsInHanded {} Try.checked os 3 .any (Rows.wireBackSpec.pre6 enc Try.prog Try.f3 Rows.wireBackRow.domain false) (Rows.wireBackSpec.post enc Try.prog Try.f3 false true false false) := by
  refine returnsInHanded_of_change (C := Try.checked) own started (by kernel_rfl) Try.func3
    (ChangeSpec.witness6 (enc := enc) (C := Try.checked) false ⟨#[], #[.agg #[.int .i64 0, .int .i64 0, .int .i64 0, .int .u32 0, .int .u32 0, .int .u32 0, .int .u32 0, .slice none 0 0], .int .i64 0], []⟩ 8 (by kernel_rfl) (by kernel_rfl) (by kernel_rfl) (by kernel_rfl)) ?_
  intro W base args ds gs before hval0 hW hcnd _
  have hval : ∀ (j : Nat) t v, Try.f3.params[j]? = some t → args[j]? = some v → Value.okWide Try.prog W .any base t v := hval0
  have hW' := hW
  obtain ⟨p, q, hA0, hV, rfl, hfz, hnd⟩ := hW
  have hA : DataW.TrodAll enc Try.prog W 0 (fun _ => true) true Try.f3.params.toList args.toList ds p := hA0
  rw [Try.params3] at hA hval
  obtain ⟨v0, vs0, d0, ds0, p0, q0, hargs, rfl, rfl, h0, r0⟩ := trodAll_cons hA
  obtain ⟨v1, vs1, d1, ds1, p1, q1, rfl, rfl, rfl, h1, r1⟩ := trodAll_cons r0
  obtain ⟨rfl, rfl, rfl⟩ := trodAll_nil r1
  obtain rfl : args = #[v0, v1] := by cases args; simp_all
  obtain ⟨rfl, rfl⟩ := trodVars_none hV
  have kk0 := h0
  have lt0 : ∀ x ∈ p0, x.block < W.heap.size := by obtain ⟨m, hm⟩ := kk0; exact DataW.trod_lt m _ _ _ hm
  obtain ⟨k0, f0, g0, N0, ad0, cap0, l0, rfl, hN0, wk0, wf0, wr0, w0, hc0, hq0⟩ := open_note (hval 0 27 v0 rfl rfl) h0
  obtain ⟨a1, rfl, rfl, rfl, w1⟩ := open_int Try.underlying3 (hval 1 3 v1 rfl rfl) h1
  clear hA0 hval0
  refine (walk W k0 f0 g0 N0 ad0 cap0 l0 hN0 wk0 wf0 wr0 w0 hc0 hq0 a1 w1).mono fun e W' ⟨he, hg⟩ => ?_
  subst he
  exact ⟨_, rfl, _, _, _, [], _, [], hW', (trodAll_cons_mk (shut_bool Try.underlying4 _) trodAll_mk0), (trodAll_cons_mk (Below.trod laidOut (by kernel_rfl) (of_decide_eq_true (by kernel_rfl)) kk0 hg lt0) (trodAll_cons_mk (shut_int Try.underlying3 w1) trodAll_mk0)), rfl, hg.frame _, fun h => by cases h⟩

theorem over : Rows.wireBackRow.holds Try.pinned (OpenSpec.ofChange Rows.wireBackSpec) :=
  OpenClaim.holds_of_wide 3 Try.f3 rfl rfl rfl rfl rfl rfl rfl ⟨rfl, rfl, rfl, rfl, rfl⟩ rfl rfl rfl rfl rfl (by kernel_rfl) Try.func3 (by kernel_rfl)
    (of_decide_eq_true (by kernel_rfl)) (by unfold Func.isWrapper; first | (rw [if_pos (by decide +kernel)]; kernel_rfl) | (rw [if_neg (by decide +kernel)]; exact ⟨rfl, rfl⟩))
    (fun os started H enc _ => lifted os started H enc)

theorem proved : Rows.WireBackSaid :=
  over
#print axioms proved
end Go.Proofs.Ytligjdmbjkppkaa
